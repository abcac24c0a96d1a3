import Derived.Test.YteoioldbigomaaaGreatRcm
import Derived.Deep.AppendLies
namespace Go.Proofs.YteoioldbigomaaaGreat
open Go.RowKit

theorem not_mem_step {l : List (Nat × Nat)} {x : Nat × Nat} {k : Nat} (h : x ∉ l.take k) (hk : k < l.length) (hne : l[k] ≠ x) : x ∉ l.take (k + 1) := by
  rw [List.take_succ_eq_append_getElem hk]
  intro hm
  rcases List.mem_append.1 hm with h1 | h1
  · exact h h1
  · simp at h1; exact hne h1.symm

/-- 's.pairs = append(s.pairs, p)' as a step of a region that draws. -/
theorem step_appendP {ops : Array Oper} {o : Oper} {a : Act} {w : World} {K : Act → World → Prop} {Q : Exit → Act → World → Prop} {X : Prop}
    (hg : o.guard = none) (s x : Operand) (hop : o.op = Op.call { callee := Callee.builtin Builtin.append, args := #[s, x], argTypes := #[170, 170] })
    (v : Value) (id : Nat) (l : List (Nat × Nat)) (d e D E : Nat) (hD : D = M.pw 2147483579 4 d) (hE : E = M.pw 2147483579 4 e) (hs : a.eval s = v) (hown : w.ownsRow 0 179 5 v l.length (pcs id l)) (b : Nat) (hx : a.eval x = .slice (some ⟨b, 0, none⟩) 1 1)
    (h0 : w.cell? ⟨b, 0, none⟩ = some (.int .u64 (d : Int))) (h1 : w.cell? ⟨b, 1, none⟩ = some (.int .u64 (e : Int))) (h2 : w.cell? ⟨b, 2, none⟩ = some (.int .i64 (id : Int)))
    (h3 : w.cell? ⟨b, 3, none⟩ = some (.int .u64 (D : Int))) (h4 : w.cell? ⟨b, 4, none⟩ = some (.int .u64 (E : Int))) (hk : l.length ≤ 65536)
    (hK : ∀ g cap w', w'.ownsRow 0 179 5 (.slice (some ⟨g, 0, none⟩) (l.length + 1) cap) (l.length + 1) (pcs id (l ++ [(d, e)])) → w.grownBy w' v.ownBlock → (v.ownBlock = some g ∨ g = w.heap.size) → g < w'.heap.size → K (a.put o.dst (.slice (some ⟨g, 0, none⟩) (l.length + 1) cap)) w') :
    if Region.wanted o (yielded ops a.tmps) = true then Oper.wp Tryz.prog o a w K Q else X := by
  obtain ⟨i0, hi, hz0, hz1, hz2⟩ := info_parts Tryz.info179
  refine step_append_lies w hg s x 170 hop 0 179 i0 (.agg #[.int .u64 0, .int .u64 0, .int .i64 0, .int .u64 0, .int .u64 0]) 5 40 Tryz.underlying170 hi hz0 hz1 hz2 rfl (by decide) v l.length (pcs id l) hs hown ⟨b, 0, none⟩ 1 1
    [.int .u64 (d : Int), .int .u64 (e : Int), .int .i64 (id : Int), .int .u64 (D : Int), .int .u64 (E : Int)] hx rfl ?_ ?_ (by omega) (by unfold maxLen; omega) (by omega) (Nat.zero_le _) _ rfl ?_
  · intro j u hj
    match j, hj with
    | 0, hj => simp at hj; subst hj; rw [addr_add0]; exact h0
    | 1, hj => simp at hj; subst hj; rw [addr_add0]; exact h1
    | 2, hj => simp at hj; subst hj; rw [addr_add0]; exact h2
    | 3, hj => simp at hj; subst hj; rw [addr_add0]; exact h3
    | 4, hj => simp at hj; subst hj; rw [addr_add0]; exact h4
  · intro u hu
    simp at hu
    rcases hu with rfl | rfl | rfl | rfl | rfl <;> rfl
  · intro g cap w' r1 r2 r3 r4
    refine hK g cap w' ?_ r2 r3 r4
    rw [pcs_app]
    subst hD hE
    exact r1

theorem grown_past {w w' : World} {o : Obj} {r : Option Nat} (h : (w.alloc o).drew.grownBy w' r) : w.grownBy w' r :=
  ⟨h.os, h.tape, h.output, Nat.le_trans (below_alloc w o).size h.size, fun k hk hn => (h.block k (Nat.lt_of_lt_of_le hk (below_alloc w o).size) hn).trans (Below.heap_alloc w o k hk)⟩

theorem Chg.refl (P : Nat → Prop) (w : World) : Chg P w w := ⟨rfl, rfl, rfl, Nat.le_refl _, fun _ _ _ => rfl⟩
theorem Chg.set {P : Nat → Prop} {w w' : World} (h : Chg P w w') {g j : Nat} {u : Value} (hp : P g) : Chg P w (w'.setCell ⟨g, j, none⟩ u) :=
  h.trans ((grown_chg (grown_set w' g j u)).mono fun k hk => by cases hk; exact hp)
theorem Chg.setNew {P : Nat → Prop} {w w' : World} (h : Chg P w w') {g j : Nat} {u : Value} (hg : w.heap.size ≤ g) : Chg P w (w'.setCell ⟨g, j, none⟩ u) :=
  h.on (grown_chg (grown_set w' g j u)) fun k hk => by cases hk; exact .inr hg
theorem RdF.chg {P : Nat → Prop} {w w1 : World} {a : Option Addr} {n : Nat} {f : Nat → Value} (h : RdF w a n f) (hg : Chg P w w1) (hne : ∀ x, a = some x → ¬ P x.block) : RdF w1 a n f := by
  rcases h with h | ⟨b, o, rfl, hlt, hc⟩
  · exact .inl h
  · refine .inr ⟨b, o, rfl, Nat.lt_of_lt_of_le hlt hg.size, fun i hi => ?_⟩
    rw [World.cell?_of_block (w := w) (hg.block b hlt (hne _ rfl))]
    exact hc i hi

/-- The zero commitment, in a block of its own. -/
abbrev zc : Obj := .cells #[.int .i64 0, .int .u64 0, .int .u64 0] 98
theorem zc_new (w : World) : (w.alloc zc).heap[w.heap.size]? = some (.cells #[.int .i64 0, .int .u64 0, .int .u64 0] 98 (0, 0)) := heap_alloc_new w zc

set_option maxHeartbeats 4000000 in
set_option maxRecDepth 100000 in
theorem rcm_ok (p T N cb cc : Nat) (f : Nat → Nat) (id sh : Nat) (v : Value) (l : List (Nat × Nat)) (d e : Nat) (w : World) (hS : RS w p T N cb cc f id sh v l) (h : d ≠ 0 ∧ e ≠ 0 ∧ SC d ∧ SC e) (hl : l.length ≤ 6) (HT2 : 2 ≤ T) :
    Calls Tryz.prog 59 #[.pointer (some ⟨p, 0, none⟩), .int .u64 d, .int .u64 e] w (RcmPost p T N cb cc f id sh v l d e w) := by
  have H : Hid (d ≠ 0 ∧ e ≠ 0 ∧ SC d ∧ SC e) := h
  have e1 : ((d : Int) == 0) = false := by have := h.1; simp; omega
  have e2 : ((e : Int) == 0) = false := by have := h.2.1; simp; omega
  have d3 : decide ((1073741789 : Int) ≤ d) = false := decide_eq_false (by have := h.2.2.1.out; omega)
  have d4 : decide ((1073741789 : Int) ≤ e) = false := decide_eq_false (by have := h.2.2.2.out; omega)
  have hS1 := hS.below (below_alloc w zc)
  obtain ⟨z0, z1, z2, z3, z4, z5⟩ := six hS.blk
  have hpl := lt_of_block hS.blk
  obtain ⟨a, cap, hv, hcells⟩ := hS.pairs
  subst hv
  have HC : Hid (0 < l.length → ∃ g, a = some ⟨g, 0, none⟩ ∧ g < w.heap.size ∧ ∀ i, (hi : i < l.length) → w.cell? ⟨g, i * 5, none⟩ = some (.int .u64 (l[i].1 : Nat)) ∧ w.cell? ⟨g, i * 5 + 1, none⟩ = some (.int .u64 (l[i].2 : Nat)) ∧ w.cell? ⟨g, i * 5 + 2, none⟩ = some (.int .i64 (id : Nat)) ∧
      w.cell? ⟨g, i * 5 + 3, none⟩ = some (.int .u64 (M.pw 2147483579 4 l[i].1 : Nat)) ∧ w.cell? ⟨g, i * 5 + 4, none⟩ = some (.int .u64 (M.pw 2147483579 4 l[i].2 : Nat))) := hcells
  have HRS : Hid (RS w p T N cb cc f id sh (.slice a l.length cap) l) := hS
  obtain ⟨n, hn⟩ : ∃ n, n = l.length := ⟨_, rfl⟩
  have HN : Hid (n = l.length) := hn
  have hn6 : n ≤ 6 := by omega
  clear h hS hcells
  go_enter Tryz.func59, Tryz.ntmps59
  go_wp2_with fail
  clear e1 e2 d3 d4 z0 z1 z2 z3 z4 z5
  rw [← hn]
  clear hn
  go_loopw [31] (fun i wr => ∃ k : Nat, k ≤ n ∧ i = .int .i64 k ∧ Below (w.heap.size + 1) (w.alloc zc) wr ∧ Hid ((d, e) ∉ l.take k)) (fun i _ => n - (intOf i).toNat)
  case atStart => exact ⟨0, Nat.zero_le _, rfl, Below.refl _ _, by simp; exact trivial⟩
  case round =>
    obtain ⟨k, hk, rfl, bel, HM⟩ := hrel
    have belw : Below w.heap.size w wr := (below_alloc w zc).trans (bel.mono (by omega))
    have Zr := (bel.block w.heap.size (by omega)).trans (zc_new w)
    have hszr := lt_of_block Zr
    by_cases hlt : k < n
    · obtain ⟨g, rfl, hg, hc⟩ := HC.out (by have := HN.out; omega)
      obtain ⟨q0, q1, q2, q3, q4⟩ := hc k (by have := HN.out; omega)
      obtain ⟨x, hx⟩ : ∃ x, x = (l[k]'(by have := HN.out; omega)).1 := ⟨_, rfl⟩
      obtain ⟨y, hy⟩ : ∃ y, y = (l[k]'(by have := HN.out; omega)).2 := ⟨_, rfl⟩
      have HX : Hid ((l[k]'(by have := HN.out; omega)) = (x, y)) := by rw [hx, hy]; exact rfl
      rw [← hx] at q0
      rw [← hy] at q1
      rw [← hx] at q3
      rw [← hy] at q4
      obtain ⟨X, hX⟩ : ∃ X, X = M.pw 2147483579 4 x := ⟨_, rfl⟩
      obtain ⟨Y, hY⟩ : ∃ Y, Y = M.pw 2147483579 4 y := ⟨_, rfl⟩
      rw [← hX] at q3
      rw [← hY] at q4
      have r0 := (belw.cell (p := ⟨g, k * 5, none⟩) hg).trans q0
      have r1 := (belw.cell (p := ⟨g, k * 5 + 1, none⟩) hg).trans q1
      have r2 := (belw.cell (p := ⟨g, k * 5 + 2, none⟩) hg).trans q2
      have r3 := (belw.cell (p := ⟨g, k * 5 + 3, none⟩) hg).trans q3
      have r4 := (belw.cell (p := ⟨g, k * 5 + 4, none⟩) hg).trans q4
      have hki : (k : Int) < n := by omega
      obtain ⟨s0, s1, s2, y0, y1, y2⟩ := three Zr
      clear hx hy hX hY q0 q1 q2 q3 q4 hc
      by_cases h1 : x = d
      · by_cases h2 : y = e
        · subst h1 h2
          go_wp2_with fail
          refine bodyPost_ret (v := .tuple #[.agg #[.int .i64 0, .int .u64 0, .int .u64 0], .int .i64 15]) (by simp [results, Tryz.results59, go_sem, *]) rfl ?_
          refine ⟨15, .inr (.inl ⟨H.out, ?_, rfl⟩), .inl ⟨by omega, ?_, rfl⟩⟩
          · rw [← HX.out]; exact List.getElem_mem _
          · exact (((belw.setCell (p := ⟨w.heap.size, 0, none⟩) (Nat.le_refl _) _).setCell (p := ⟨w.heap.size, 1, none⟩) (Nat.le_refl _) _).setCell (p := ⟨w.heap.size, 2, none⟩) (Nat.le_refl _) _).alloc (by simp; exact belw.size) _
        · have g2 : ((y : Int) == e) = false := by simp; omega
          have HM' := not_mem_step HM.out (by have := HN.out; omega) (by rw [HX.out]; intro hh; simp at hh; omega)
          subst h1
          clear h2
          go_wp2_with fail
          exact ⟨⟨k + 1, by omega, by go_num, bel.alloc (by omega) _, HM'⟩, by simp [intOf]; omega⟩
      · have g1 : ((x : Int) == d) = false := by simp; omega
        have HM' := not_mem_step HM.out (by have := HN.out; omega) (by rw [HX.out]; intro hh; simp at hh; omega)
        clear h1
        go_wp2_with fail
        exact ⟨⟨k + 1, by omega, by go_num, bel.alloc (by omega) _, HM'⟩, by simp [intOf]; omega⟩
    · have HL : Hid ((d, e) ∉ l) := by
        have h1 := HM.out
        rw [List.take_of_length_le (by have := HN.out; omega)] at h1
        exact h1
      have Sr := HRS.out.below belw
      obtain ⟨z0, z1, z2, z3, z4, z5⟩ := six Sr.blk
      have y5 := six_frozen Sr.blk 5
      obtain ⟨s0, s1, s2, y0, y1, y2⟩ := three Zr
      have hll := HN.out
      have z5' : wr.cell? ⟨p, 5, none⟩ = some (.slice a n cap) := by rw [z5, ← hll]
      clear z5 hll HC HM hS1
      by_cases h6 : n = 6
      · subst h6
        go_wp2_with fail
        refine bodyPost_ret (v := .tuple #[.agg #[.int .i64 0, .int .u64 0, .int .u64 0], .int .i64 9]) (by simp [results, Tryz.results59, go_sem, *]) rfl ?_
        refine ⟨9, .inr (.inr (.inl ⟨H.out, HL.out, HN.out.symm, rfl⟩)), .inl ⟨by omega, ?_, rfl⟩⟩
        exact (((belw.setCell (p := ⟨w.heap.size, 0, none⟩) (Nat.le_refl _) _).setCell (p := ⟨w.heap.size, 1, none⟩) (Nat.le_refl _) _).setCell (p := ⟨w.heap.size, 2, none⟩) (Nat.le_refl _) _)
      · have g6 : ((n : Int) == 6) = false := by simp; omega
        have C1 := fun w' => base_any d w' H.out.2.2.1
        have C2 := fun w' => base_any e w' H.out.2.2.2
        obtain ⟨X, hX⟩ : ∃ X, X = M.pw 2147483579 4 d := ⟨_, rfl⟩
        obtain ⟨Y, hY⟩ : ∃ Y, Y = M.pw 2147483579 4 e := ⟨_, rfl⟩
        simp only [← hX] at C1
        simp only [← hY] at C2
        have HXX : Hid (X = M.pw 2147483579 4 d) := hX
        have HYY : Hid (Y = M.pw 2147483579 4 e) := hY
        clear hX hY
        go_wp2_with fail
        go_cut [10] from 47 (fun s10 wx => s10 = .pointer (some ⟨wr.heap.size, 0, none⟩) ∧ wx = (wr.alloc (.cells #[.int .i64 (id : Int), .int .u64 (X : Int), .int .u64 (Y : Int)] 98)).drew)
        case first =>
          go_region_held (fun w' => w'.cell? ⟨p, 3, none⟩ = some (.int .i64 (id : Int)))
            (first | assumption | (simp [*]; done) | go_keep) (first | (go_at_call_of 30 d; refine (C1 _).mono ?_; rintro ex w2 ⟨rfl, hw⟩; subst hw) | (go_at_call_of 30 e; refine (C2 _).mono ?_; rintro ex w2 ⟨rfl, hw⟩; subst hw))
          all_goals
            go_wp2_with fail
            go_meet
            case rel => exact ⟨rfl, rfl⟩
        case rest =>
          have hz := heap_alloc_new wr (.cells #[.int .i64 (id : Int), .int .u64 (X : Int), .int .u64 (Y : Int)] 98)
          obtain ⟨rfl, hwc⟩ := hcut
          obtain ⟨V, hV⟩ : ∃ V, V = wc := ⟨_, rfl⟩
          subst hV
          have dW : Below wr.heap.size wr V := by rw [hwc]; exact (below_alloc _ _).drew
          have hzc : V.heap[wr.heap.size]? = some (.cells #[.int .i64 (id : Int), .int .u64 (X : Int), .int .u64 (Y : Int)] 98 (0, 0)) := by rw [hwc]; exact hz
          have Sc := Sr.below dW
          have belc : Below w.heap.size w V := belw.trans (dW.mono belw.size)
          have Zc := (dW.block w.heap.size hszr).trans Zr
          clear hwc hz z0 z1 z2 z3 z4 z5' y5 s0 s1 s2 y0 y1 y2 C1 C2 Sr Zr
          obtain ⟨z0, z1, z2, z3, z4, z5⟩ := six Sc.blk
          have hll := HN.out
          rw [← hll] at z5
          obtain ⟨k0, k1, k2⟩ := three_cells hzc
          have HSc : Hid (RS V p T N cb cc f id sh (.slice a l.length cap) l) := Sc
          have hrow : Hid (V.ownsRow 0 179 5 (.slice a l.length cap) l.length (pcs id l)) := Sc.row
          have hszc := lt_of_block hzc
          have y5 := six_frozen Sc.blk 5
          have hpc := lt_of_block Sc.blk
          clear Sc hll
          go_wp2_with fail
          go_cut [] from 47 (fun wx => ∃ g' cap' w', wx = w'.setCell ⟨p, 5, none⟩ (.slice (some ⟨g', 0, none⟩) (l.length + 1) cap') ∧ w'.ownsRow 0 179 5 (.slice (some ⟨g', 0, none⟩) (l.length + 1) cap') (l.length + 1) (pcs id (l ++ [(d, e)])) ∧ V.grownBy w' (Value.slice a l.length cap).ownBlock ∧ ((Value.slice a l.length cap).ownBlock = some g' ∨ V.heap.size ≤ g'))
          case first =>
            go_region_law (refine step_appendP rfl (.tmp 67) (.tmp 72) rfl (.slice a l.length cap) id l d e X Y HXX.out HYY.out (by simp [Act.eval, HN.out]) (by first | exact ownsRow_below hrow.out ((((Below.refl _ _).drew)).alloc (Nat.le_refl _) _) | exact ownsRow_below hrow.out ((((Below.refl _ _).alloc (Nat.le_refl _) _)).drew)) V.heap.size (by simp [Act.eval]) (by go_simp) (by go_simp) (by go_simp) (by go_simp) (by go_simp) (by have := HN.out; omega) ?_; intro g' cap' w' r1 r2 r3 r4; have Zp' := (r2.block p (by simp; exact Nat.lt_succ_of_lt hpc) (fun hh => HSc.out.vp hh.symm)).trans ((Below.heap_alloc _ _ p hpc).trans HSc.out.blk); obtain ⟨m0, m1, m2, m3, m4, m5⟩ := six Zp'; have f5 := six_frozen Zp' 5)
            all_goals
              go_wp2_with fail
              go_meet
              case rel => exact ⟨g', cap', w', rfl, r1, grown_past r2, r3.imp (fun hh => hh) (fun hh => by rw [hh]; exact (below_alloc _ _).size)⟩
          case rest =>
            obtain ⟨g', cap', w', hwc2, r1, r2, r3⟩ := hcut
            have hob : ∀ k, (Value.slice a l.length cap).ownBlock = some k → k < w.heap.size := fun k hk => (HRS.out.row.lt k hk).2
            have ne1 : some wr.heap.size ≠ (Value.slice a l.length cap).ownBlock := fun hh => by have := hob _ hh.symm; have := belw.size; omega
            have ne2 : some w.heap.size ≠ (Value.slice a l.length cap).ownBlock := fun hh => by have := hob _ hh.symm; omega
            have Zp' := (r2.block p hpc (fun hh => HSc.out.vp hh.symm)).trans HSc.out.blk
            have hz' := (r2.block wr.heap.size hszc ne1).trans hzc
            have Zc' := (r2.block w.heap.size (lt_of_block Zc) ne2).trans Zc
            have hgp : g' ≠ p := by
              rcases r3 with hh | hh
              · exact fun h => HSc.out.vp (by rw [hh, h])
              · omega
            have hgc : g' ≠ cb := by
              have hcl : cb < w.heap.size := by
                rcases HRS.out.com with h0 | ⟨b, o, he, hlt, _⟩
                · exact absurd h0 (by have := HT2; omega)
                · simp only [Option.some.injEq, Addr.mk.injEq] at he; omega
              rcases r3 with hh | hh
              · exact fun h => HSc.out.vc (by rw [hh, h])
              · have := belc.size; omega
            have hpw : p ≠ w.heap.size := by omega
            have hpr : p ≠ wr.heap.size := by have := belw.size; omega
            have hcw : cb ≠ w.heap.size := by
              rcases HRS.out.com with h0 | ⟨b, o, he, hlt, _⟩
              · exact absurd h0 (by have := HT2; omega)
              · simp only [Option.some.injEq, Addr.mk.injEq] at he; omega
            have hgw : g' ≠ w.heap.size := by
              rcases r3 with hh | hh
              · have := hob _ hh; omega
              · have := lt_of_block Zc; omega
            have K1 : Chg (fun k => k = p ∨ (Value.slice a l.length cap).ownBlock = some k) V w' := (grown_chg r2).mono fun k hk => .inr hk.symm
            have K2 : Chg (fun k => k = p ∨ (Value.slice a l.length cap).ownBlock = some k) V wc := by rw [hwc2]; exact K1.set (.inl rfl)
            have K3 : Chg (fun k => k = p ∨ (Value.slice a l.length cap).ownBlock = some k) w wc := (Below.chg belc _).trans K2
            have S5 : RS wc p T N cb cc f id sh (.slice (some ⟨g', 0, none⟩) (l.length + 1) cap') (l ++ [(d, e)]) := by
              refine ⟨?_, HSc.out.com.chg K2 (fun x hx => ?_), ?_, ?_, HSc.out.cp, ?_⟩
              · rw [hwc2]; exact six_set5 Zp' _
              · simp only [Option.some.injEq] at hx
                subst hx
                rintro (hh | hh)
                · exact HSc.out.cp hh
                · exact HSc.out.vc hh
              · rw [hwc2, List.length_append]
                exact World.ownsRow.kept r1 (grown_set _ _ _ _) (.inr (by simp [Value.ownBlock]; exact hgp))
              · simp [Value.ownBlock]; exact hgp
              · simp [Value.ownBlock]; exact hgc
            have hz5 : wc.heap[wr.heap.size]? = some (.cells #[.int .i64 (id : Int), .int .u64 (X : Int), .int .u64 (Y : Int)] 98 (0, 0)) := by rw [hwc2, Below.heap_setCell _ _ _ _ (by exact hpr.symm)]; exact hz'
            have Z5 : wc.heap[w.heap.size]? = some (.cells #[.int .i64 0, .int .u64 0, .int .u64 0] 98 (0, 0)) := by rw [hwc2, Below.heap_setCell _ _ _ _ (by exact hpw.symm)]; exact Zc'
            clear hwc2 r1 r2 Zp' hz' Zc' K1 K2 z0 z1 z2 z3 z4 z5 y5 k0 k1 k2
            obtain ⟨k0, k1, k2⟩ := three_cells hz5
            obtain ⟨s0, s1, s2, y0, y1, y2⟩ := three Z5
            have hne : ¬ wr.heap.size = w.heap.size := by omega
            go_wp2_with fail
            refine bodyPost_ret (v := .tuple #[.agg #[.int .i64 (id : Int), .int .u64 (X : Int), .int .u64 (Y : Int)], .int .i64 0]) (by simp [results, Tryz.results59, go_sem, *]) rfl ?_
            refine ⟨0, .inr (.inr (.inr ⟨H.out, HL.out, by have := HN.out; omega, rfl⟩)), .inr ⟨rfl, by rw [← HXX.out, ← HYY.out], .slice (some ⟨g', 0, none⟩) (l.length + 1) cap', ?_, ?_, ?_⟩⟩
            · have K6 : Chg (fun k => k = w.heap.size) wc (((wc.setCell ⟨w.heap.size, 0, none⟩ (.int .i64 (id : Int))).setCell ⟨w.heap.size, 1, none⟩ (.int .u64 (X : Int))).setCell ⟨w.heap.size, 2, none⟩ (.int .u64 (Y : Int))) := Chg.set (P := fun k => k = w.heap.size) (Chg.set (P := fun k => k = w.heap.size) (Chg.set (P := fun k => k = w.heap.size) (Chg.refl _ _) rfl) rfl) rfl
              exact S5.chg K6 hpw hcw (fun k hk => by simp [Value.ownBlock] at hk; omega)
            · exact ((K3.setNew (Nat.le_refl _)).setNew (Nat.le_refl _)).setNew (Nat.le_refl _)
            · intro k hk
              simp [Value.ownBlock] at hk
              subst hk
              exact r3.imp (fun hh => hh) (fun hh => Nat.le_trans belc.size hh)
end Go.Proofs.YteoioldbigomaaaGreat
