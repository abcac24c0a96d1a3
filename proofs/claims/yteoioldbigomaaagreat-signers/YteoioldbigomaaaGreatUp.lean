import Derived.Test.YteoioldbigomaaaGreatSts
namespace Go.Proofs.YteoioldbigomaaaGreat
open Go.RowKit

theorem cme_any (l : List (Nat × Nat)) (d e : Nat) : ∃ er, M.CmE l d e er := by
  by_cases h : d ≠ 0 ∧ e ≠ 0 ∧ SC d ∧ SC e
  · by_cases hm : (d, e) ∈ l
    · exact ⟨15, .inr (.inl ⟨h, hm, rfl⟩)⟩
    · by_cases hl : l.length = 6
      · exact ⟨9, .inr (.inr (.inl ⟨h, hm, hl, rfl⟩))⟩
      · exact ⟨0, .inr (.inr (.inr ⟨h, hm, hl, rfl⟩))⟩
  · exact ⟨2, .inl ⟨h, rfl⟩⟩

/-- A step, whatever its kind. -/
theorem step_any (B P : Nat) (w : World) (own : Nat → Option Nat) (ns : Nat) (s : Nat → Two) (ssv csv : Value) (nc : Nat) (I : Nat → Int) (D E : Nat → Nat) (d : OpD) (h : Wd side B P w own ns s ssv csv nc I D E) (hB : B ≤ w.heap.size) (hd : d.Ok w)
    (hns : ns ≤ 65536) (hnc : nc ≤ 65536) (hln : d.ln ≤ 65536) (hgl : d.gl ≤ 65536) (hsz : d.s.size ≤ 65536) :
    Calls Tryz.prog 32 #[.pointer (some ⟨P, 0, none⟩), .agg d.val] w (StPost side B P ns nc w) := by
  by_cases h1 : d.K = 1
  · exact step_new prg.toPrg B P w own ns s ssv csv nc I D E d h hd hB hns hgl h1
  · by_cases hn0 : ns = 0
    · subst hn0
      exact step_none side B P w own s ssv csv nc I D E d h hB h1
    · have hp : 0 < ns := Nat.pos_of_ne_zero hn0
      by_cases h2 : d.K = 2
      · obtain ⟨er, her⟩ := cme_any (s (M.pick d.A ns)).l d.x d.y
        by_cases he : er = 0
        · subst he
          exact step_commit_ok prg B P w own ns s ssv csv nc I D E d h hB hns hp hd.a1 hd.a2 h2 her hnc
        · exact step_commit_bad prg B P w own ns s ssv csv nc I D E d h hB hns hp hd.a1 hd.a2 h2 er her he
      · by_cases h3 : d.K = 3
        · exact step_sign B P w own ns s ssv csv nc I D E d h hB hd hns hp hnc hln hsz h3
        · by_cases h4 : d.K = 4
          · exact step_left prg.toPrgL B P w own ns s ssv csv nc I D E d h hB hns hp hd.a1 hd.a2 h4
          · exact step_other side B P w own ns s ssv csv nc I D E d h hB hns hp hd.a1 hd.a2 ⟨h1, h2, h3, h4⟩

/-- The empty world. -/
theorem Wd.start (w : World) : Wd side w.heap.size w.heap.size (w.alloc (.cells #[.slice none 0 0, .slice none 0 0, .bool false] 74)) (fun b => if b = w.heap.size then some 0 else none) 0 (fun _ => default) (.slice none 0 0) (.slice none 0 0) 0 (fun _ => 0) (fun _ => 0) (fun _ => 0) where
  blk := heap_alloc_new w _
  ss := World.ownsRow_nil _ _ _ _
  cs := World.ownsRow_nil _ _ _ _
  ps := fun i hi => absurd hi (Nat.not_lt_zero i)
  rs := fun i hi => absurd hi (Nat.not_lt_zero i)
  ok := fun i hi => absurd hi (Nat.not_lt_zero i)
  oP := if_pos rfl
  oss := fun b hb => by cases hb
  ocs := fun b hb => by cases hb
  oF := fun i hi => absurd hi (Nat.not_lt_zero i)
  oR := fun i hi => absurd hi (Nat.not_lt_zero i)
  oB := fun b k hb => by
    by_cases h : b = w.heap.size
    · subst h; exact ⟨Nat.le_refl _, lt_of_block (heap_alloc_new w _)⟩
    · rw [if_neg h] at hb; cases hb

set_option maxHeartbeats 4000000 in
set_option maxRecDepth 100000 in
theorem upTo_any (only : Int) (a : Option Addr) (n c : Nat) (d : Nat → OpD) (w : World) (hr : RdO w a n d) (hn : n ≤ 65536) (hd : ∀ i, i < n → (d i).ln ≤ 65536 ∧ (d i).gl ≤ 65536 ∧ (d i).s.size ≤ 65536) :
    Calls Tryz.prog 13 #[.slice a n c, .int .i64 only] w fun e w' => e = .returned (.int .i64 (-1)) ∧ Below w.heap.size w w' := by
  have W0 := Wd.start w
  have B0 := below_alloc w (.cells #[.slice none 0 0, .slice none 0 0, .bool false] 74)
  obtain ⟨V, hV⟩ : ∃ V, w.alloc (.cells #[.slice none 0 0, .slice none 0 0, .bool false] 74) = V := ⟨_, rfl⟩
  rw [hV] at W0 B0
  have HD : Hid (∀ i, i < n → (d i).ln ≤ 65536 ∧ (d i).gl ≤ 65536 ∧ (d i).s.size ≤ 65536) := hd
  have HR : Hid (RdO w a n d) := hr
  clear hd hr
  go_enter Tryz.func13, Tryz.ntmps13
  go_upto_region 2 with fail
  clear hV
  go_wp2_with fail
  go_loopw [12] (fun i wr => ∃ k : Nat, k ≤ n ∧ i = .int .i64 k ∧ Below w.heap.size w wr ∧ Hid (∃ own ns s ssv csv nc I D E, Wd side w.heap.size w.heap.size wr own ns s ssv csv nc I D E ∧ ns ≤ k ∧ nc ≤ k)) (fun i _ => n - (intOf i).toNat)
  case atStart => exact ⟨0, Nat.zero_le _, rfl, B0, _, 0, _, _, _, 0, _, _, _, W0, Nat.le_refl _, Nat.le_refl _⟩
  case round =>
    clear W0 B0
    obtain ⟨k, hk, rfl, bel, HK⟩ := hrel
    by_cases hlt : k < n
    · obtain ⟨b, o, rfl, hb, hc⟩ := (HR.out.below bel).at (by omega)
      obtain ⟨hcells, hok⟩ := hc k hlt
      obtain ⟨e0, e1, e2, e3, e4, e5, e6, e7, e8, e9, e10, e11⟩ := op_cells hcells
      obtain ⟨own, ns, s, ssv, csv, nc, I, D, E, hW, hns, hnc⟩ := HK.out
      obtain ⟨O, hO⟩ : ∃ O : Obj, O = .cells (d k).val 70 := ⟨_, rfl⟩
      have bA := below_alloc wr O
      have hdk := HD.out k hlt
      have C := step_any _ _ _ own ns s ssv csv nc I D E (d k) (hW.below bA) (Nat.le_trans bel.size bA.size) (hok.below bA) (by omega) (by omega) hdk.1 hdk.2.1 hdk.2.2
      clear hc hcells hok hW HK hdk
      generalize d k = dk at e0 e1 e2 e3 e4 e5 e6 e7 e8 e9 e10 e11 C hO
      obtain ⟨K, A, Bn, Cn, Dn, t, n', ga, gl, gc, f, x, y, st, la, ln, lc, IL, DL, EL'⟩ := dk
      simp only at e0 e1 e2 e3 e4 e5 e6 e7 e8 e9 e10 e11
      unfold OpD.val at C hO
      simp only at C hO
      unfold opv at C hO
      have hki : (k : Int) < n := by omega
      go_upto_region 5 with fail
      subst hO
      clear e0 e1 e2 e3 e4 e5 e6 e7 e8 e9 e10 e11
      go_wp2_with (go_at_call 32; refine C.mono ?_; rintro ex w3 ⟨rfl, b3, own', ns', s', ssv', csv', nc', I', D', E', hW', hns', hnc'⟩)
      go_roundw
      case rel => exact ⟨k + 1, by omega, by go_num, (bel.trans (bA.mono bel.size)).trans b3, own', ns', s', ssv', csv', nc', I', D', E', hW', by omega, by omega⟩
      case measure => simp [intOf]; omega
    · go_wp2_with fail
      go_ret
      exact ⟨rfl, bel⟩

set_option maxHeartbeats 1000000 in
set_option maxRecDepth 100000 in
theorem signers_walk (a : Option Addr) (n c : Nat) (d : Nat → OpD) (w : World) (hr : Scr w a n d) : Calls Tryz.prog 4 #[.slice a n c] w fun e w' => e = .returned (.bool true) ∧ Below w.heap.size w w' := by
  have CS := small_any a c n d w hr.1 hr.2.1 hr.2.2
  have HR : Hid (RdO w a n d) := hr.1
  clear hr
  go_enter Tryz.func4, Tryz.ntmps4
  go_wp2_with fail
  refine CS.mono ?_
  clear CS
  rintro ex w2 ⟨b2, b, rfl, hb⟩
  cases b with
  | false =>
    go_wp2_with fail
    go_ret
    exact ⟨rfl, b2⟩
  | true =>
    obtain ⟨hn, hd⟩ := hb rfl
    have CU := upTo_any 1 a n c d w2 (HR.out.below b2) hn (fun i hi => ⟨(hd i hi).2.1, (hd i hi).2.2, (hd i hi).1⟩)
    clear hd hb
    go_wp2_with (go_at_call 13; refine CU.mono ?_; rintro ex w3 ⟨rfl, b3⟩)
    go_ret
    exact ⟨rfl, b2.trans (b3.mono b2.size)⟩

set_option maxHeartbeats 1000000 in
set_option maxRecDepth 100000 in
theorem commits_walk (a : Option Addr) (n c : Nat) (d : Nat → OpD) (w : World) (hr : Scr w a n d) : Calls Tryz.prog 5 #[.slice a n c] w fun e w' => e = .returned (.bool true) ∧ Below w.heap.size w w' := by
  have CS := small_any a c n d w hr.1 hr.2.1 hr.2.2
  have HR : Hid (RdO w a n d) := hr.1
  clear hr
  go_enter Tryz.func5, Tryz.ntmps5
  go_wp2_with fail
  refine CS.mono ?_
  clear CS
  rintro ex w2 ⟨b2, b, rfl, hb⟩
  cases b with
  | false =>
    go_wp2_with fail
    go_ret
    exact ⟨rfl, b2⟩
  | true =>
    obtain ⟨hn, hd⟩ := hb rfl
    have CU := upTo_any 2 a n c d w2 (HR.out.below b2) hn (fun i hi => ⟨(hd i hi).2.1, (hd i hi).2.2, (hd i hi).1⟩)
    clear hd hb
    go_wp2_with (go_at_call 13; refine CU.mono ?_; rintro ex w3 ⟨rfl, b3⟩)
    go_ret
    exact ⟨rfl, b2.trans (b3.mono b2.size)⟩

set_option maxHeartbeats 1000000 in
set_option maxRecDepth 100000 in
theorem signs_walk (a : Option Addr) (n c : Nat) (d : Nat → OpD) (w : World) (hr : Scr w a n d) : Calls Tryz.prog 6 #[.slice a n c] w fun e w' => e = .returned (.bool true) ∧ Below w.heap.size w w' := by
  have CS := small_any a c n d w hr.1 hr.2.1 hr.2.2
  have HR : Hid (RdO w a n d) := hr.1
  clear hr
  go_enter Tryz.func6, Tryz.ntmps6
  go_wp2_with fail
  refine CS.mono ?_
  clear CS
  rintro ex w2 ⟨b2, b, rfl, hb⟩
  cases b with
  | false =>
    go_wp2_with fail
    go_ret
    exact ⟨rfl, b2⟩
  | true =>
    obtain ⟨hn, hd⟩ := hb rfl
    have CU := upTo_any 3 a n c d w2 (HR.out.below b2) hn (fun i hi => ⟨(hd i hi).2.1, (hd i hi).2.2, (hd i hi).1⟩)
    clear hd hb
    go_wp2_with (go_at_call 13; refine CU.mono ?_; rintro ex w3 ⟨rfl, b3⟩)
    go_ret
    exact ⟨rfl, b2.trans (b3.mono b2.size)⟩

set_option maxHeartbeats 1000000 in
set_option maxRecDepth 100000 in
theorem lefts_walk (a : Option Addr) (n c : Nat) (d : Nat → OpD) (w : World) (hr : Scr w a n d) : Calls Tryz.prog 7 #[.slice a n c] w fun e w' => e = .returned (.bool true) ∧ Below w.heap.size w w' := by
  have CS := small_any a c n d w hr.1 hr.2.1 hr.2.2
  have HR : Hid (RdO w a n d) := hr.1
  clear hr
  go_enter Tryz.func7, Tryz.ntmps7
  go_wp2_with fail
  refine CS.mono ?_
  clear CS
  rintro ex w2 ⟨b2, b, rfl, hb⟩
  cases b with
  | false =>
    go_wp2_with fail
    go_ret
    exact ⟨rfl, b2⟩
  | true =>
    obtain ⟨hn, hd⟩ := hb rfl
    have CU := upTo_any 4 a n c d w2 (HR.out.below b2) hn (fun i hi => ⟨(hd i hi).2.1, (hd i hi).2.2, (hd i hi).1⟩)
    clear hd hb
    go_wp2_with (go_at_call 13; refine CU.mono ?_; rintro ex w3 ⟨rfl, b3⟩)
    go_ret
    exact ⟨rfl, b2.trans (b3.mono b2.size)⟩

set_option maxHeartbeats 1000000 in
set_option maxRecDepth 100000 in
theorem all_walk (a : Option Addr) (n c : Nat) (d : Nat → OpD) (w : World) (hr : Scr w a n d) : Calls Tryz.prog 8 #[.slice a n c] w fun e w' => e = .returned (.bool true) ∧ Below w.heap.size w w' := by
  have CS := small_any a c n d w hr.1 hr.2.1 hr.2.2
  have HR : Hid (RdO w a n d) := hr.1
  clear hr
  go_enter Tryz.func8, Tryz.ntmps8
  go_wp2_with fail
  refine CS.mono ?_
  clear CS
  rintro ex w2 ⟨b2, b, rfl, hb⟩
  cases b with
  | false =>
    go_wp2_with fail
    go_ret
    exact ⟨rfl, b2⟩
  | true =>
    obtain ⟨hn, hd⟩ := hb rfl
    have CU := upTo_any 0 a n c d w2 (HR.out.below b2) hn (fun i hi => ⟨(hd i hi).2.1, (hd i hi).2.2, (hd i hi).1⟩)
    clear hd hb
    go_wp2_with (go_at_call 13; refine CU.mono ?_; rintro ex w3 ⟨rfl, b3⟩)
    go_ret
    exact ⟨rfl, b2.trans (b3.mono b2.size)⟩
end Go.Proofs.YteoioldbigomaaaGreat
