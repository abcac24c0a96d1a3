import Derived.Test.YteoioldbigomaabFe
import Derived.Test.YteoioldbigomaabFc
import Derived.Test.YteoioldbigomaabPnw
namespace Go.Proofs.Yteoioldbigomaab
open Go.RowKit

set_option maxHeartbeats 2000000 in
set_option maxRecDepth 100000 in
theorem pchallenge_any {w : World} {gb T N ab o c : Nat} {f : Nat → Nat} {s : ByteArray} {la : Option Addr} {n : Nat} {I : Nat → Int} {D E : Nat → Nat} (h : BU w gb T N ab o c f s la n I D E) (lc r : Nat) :
    Calls Try.prog 38 #[bval gb s la n lc, .int .u64 r] w fun e w' => e = .returned (.int .u64 (M.chal r (f 0) s : Nat)) ∧ Below w.heap.size w w' := by
  have hB := h.boxed lc
  have B1 := below_alloc w (bobj gb s la n lc)
  obtain ⟨W, hW⟩ : ∃ W, w.alloc (bobj gb s la n lc) = W := ⟨_, rfl⟩
  rw [hW] at hB B1
  obtain ⟨y, hy⟩ : ∃ y, y = f 0 := ⟨_, rfl⟩
  have CK : ∀ w', Below W.heap.size W w' → Calls Try.prog 56 #[.pointer (some ⟨gb, 0, none⟩)] w' fun e w'' => e = .returned (.int .u64 (y : Nat)) ∧ w'' = w' := by
    intro w' b
    have hb := hB.below b
    obtain ⟨dd, G⟩ := hb.bu.gr
    rw [hy]
    exact key_any G hb.bu.rd hb.bu.t1
  have CC := fun w' => challenge_any r y s w' h.sz
  rw [← hy]
  obtain ⟨z, hz⟩ : ∃ z, z = M.chal r y s := ⟨_, rfl⟩
  rw [← hz] at CC ⊢
  have K : ∀ w', Below W.heap.size W w' → w'.cell? ⟨w.heap.size, 0, none⟩ = some (.pointer (some ⟨gb, 0, none⟩)) ∧ w'.cell? ⟨w.heap.size, 1, none⟩ = some (.string s) ∧ Below W.heap.size W w' := by
    intro w' b
    have hb := hB.below b
    exact ⟨hb.k0, hb.k1, b⟩
  clear h hB hy hz
  unfold bval
  unfold bobj at hW
  go_enter Try.func38, Try.ntmps38
  go_upto_region 1 with fail
  clear hW
  go_region_held (fun w' => w'.cell? ⟨w.heap.size, 0, none⟩ = some (.pointer (some ⟨gb, 0, none⟩)) ∧ w'.cell? ⟨w.heap.size, 1, none⟩ = some (.string s) ∧ Below W.heap.size W w')
    (first | assumption | exact K _ (Below.refl _ _).drew | exact K _ b3) (first | (go_at_call 56; refine (CK _ (Below.refl _ _).drew).mono ?_; rintro ex w4 ⟨rfl, hw⟩; subst hw) | (go_at_call 58; refine (CC _).mono ?_; rintro ex w3 ⟨rfl, b3'⟩; have b3 : Below W.heap.size W w3 := (Below.refl _ _).drew.trans b3'))
  all_goals
    go_wp2_with fail
    go_ret
    exact ⟨rfl, B1.trans (b3.mono B1.size)⟩

/-- Sums from another number than 0. -/
def M.sumF (d : Nat) (l : List Nat) : Nat := l.foldl (fun s x => (s + x) % 1073741789) d
theorem M.sumF_snoc (d : Nat) (l : List Nat) (x : Nat) : M.sumF d (l ++ [x]) = (M.sumF d l + x) % 1073741789 := by simp [M.sumF]
set_option maxHeartbeats 400000 in
theorem together_from (d : Nat) (a : Option Addr) (c : Nat) (l : List Nat) (w : World) (hd : SC d) (hlen : l.length ≤ 65536) (hl : ∀ x ∈ l, SC x) (hr : RdF w a l.length (cu l)) :
    Calls Try.prog 20 #[.func (.func 21) #[] #[], .int .u64 d, .slice a l.length c] w fun e w' => e = .returned (.int .u64 (M.sumF d l : Nat)) ∧ w' = w := by
  obtain ⟨n, hn⟩ : ∃ n, n = l.length := ⟨_, rfl⟩
  have HN : Hid (n = l.length) := hn
  rw [← hn] at hlen hr ⊢
  clear hn
  have HL : Hid (∀ x ∈ l, SC x) := hl
  clear hl
  go_enter Try.func20, Try.ntmps20
  go_wp2_with fail
  go_loopw [7, 13] (fun s i wr => ∃ k S : Nat, wr = w ∧ k ≤ n ∧ i = .int .i64 k ∧ s = .int .u64 S ∧ SC S ∧ Hid (S = M.sumF d (l.take k))) (fun _ i _ => n - (intOf i).toNat)
  case atStart => exact ⟨0, d, rfl, Nat.zero_le _, rfl, rfl, hd, rfl⟩
  case round =>
    obtain ⟨k, S, rfl, hk, rfl, rfl, hS, HS⟩ := hrel
    by_cases hlt : k < n
    · obtain ⟨b, o, rfl, hb, hc⟩ := hr.at (by omega)
      have hck := hc k hlt
      obtain ⟨x, hx⟩ : ∃ x, x = l.getD k 0 := ⟨_, rfl⟩
      have hcx : wr.cell? ⟨b, o + k, none⟩ = some (.int .u64 (x : Int)) := by rw [hck, hx]; rfl
      have hsx : SC x := by rw [hx]; exact SC.getD HL.out k
      have HX : Hid (x = l.getD k 0) := hx
      clear hx hck hc hr HL
      go_wp2_with (go_at_call 21; refine (plus_any _ _ _ (by assumption) (by assumption)).mono ?_; rintro e w' ⟨rfl, rfl⟩)
      go_roundw
      case rel => exact ⟨k + 1, (S + x) % 1073741789, trivial, by omega, by go_num, rfl, SC.mod _, by rw [take_snoc l k 0 (by have := HN.out; omega), M.sumF_snoc, ← HX.out, ← HS.out]; rfl⟩
      case measure => simp [intOf]; omega
    · go_wp2_with fail
      go_ret
      exact ⟨ret_int (by rw [HS.out, List.take_of_length_le (by have := HN.out; omega)]), rfl⟩

theorem RdC.congrI {w : World} {a : Option Addr} {n : Nat} {I I' : Nat → Int} {D E : Nat → Nat} (h : RdC w a n I D E) (hi : ∀ j, j < n → I j = I' j) : RdC w a n I' D E := by
  rcases h with h | ⟨b, o, rfl, hlt, hc⟩
  · exact .inl h
  · exact .inr ⟨b, o, rfl, hlt, fun i hin => by rw [← hi i hin]; exact hc i hin⟩
theorem BU.chg {P : Nat → Prop} {w w' : World} {gb T N ab o c : Nat} {f : Nat → Nat} {s : ByteArray} {la : Option Addr} {n : Nat} {I : Nat → Int} {D E : Nat → Nat} (h : BU w gb T N ab o c f s la n I D E) (hc : Chg P w w') (h1 : ¬ P gb) (h2 : ¬ P ab) (h3 : ∀ x, la = some x → ¬ P x.block) : BU w' gb T N ab o c f s la n I D E := by
  obtain ⟨d, G⟩ := h.gr
  exact ⟨⟨d, G.same (hc.block gb G.lt h1)⟩, h.rd.chg hc (fun y hy => by simp only [Option.some.injEq] at hy; subst hy; exact h2), h.rl.chg hc h3, h.t1, h.sz⟩
theorem BU.congrI {w : World} {gb T N ab o c : Nat} {f : Nat → Nat} {s : ByteArray} {la : Option Addr} {n : Nat} {I I' : Nat → Int} {D E : Nat → Nat} (h : BU w gb T N ab o c f s la n I D E) (hi : ∀ j, j < n → I j = I' j) : BU w gb T N ab o c f s la n I' D E := ⟨h.gr, h.rd, h.rl.congrI hi, h.t1, h.sz⟩

/-- The commitment that Sign looks for. -/
def M.Key (id : Nat) (n : Nat) (I : Nat → Int) (D E : Nat → Nat) (ki : Int) (kd ke : Nat) : Prop := (∃ k, k < n ∧ I k = id ∧ ki = I k ∧ kd = D k ∧ ke = E k) ∨ ((∀ j, j < n → I j ≠ id) ∧ ki = 0 ∧ kd = 0 ∧ ke = 0)
theorem key_of (id n : Nat) (I : Nat → Int) (D E : Nat → Nat) : ∃ ki kd ke, M.Key id n I D E ki kd ke := by
  by_cases h : ∃ k, k < n ∧ I k = id
  · obtain ⟨k, hk, hi⟩ := h
    exact ⟨I k, D k, E k, .inl ⟨k, hk, hi, rfl, rfl, rfl⟩⟩
  · exact ⟨0, 0, 0, .inr ⟨fun j hj hi => h ⟨j, hj, hi⟩, rfl, rfl, rfl⟩⟩
theorem of_key {w : World} {gb T N ab o c : Nat} {f : Nat → Nat} {s : ByteArray} {la : Option Addr} {n : Nat} {I : Nat → Int} {D E : Nat → Nat} (h : BU w gb T N ab o c f s la n I D E) (lc : Nat) (hn : n ≤ 65536) (id : Nat) {ki : Int} {kd ke : Nat} (hk : M.Key id n I D E ki kd ke)
    (hrise : ∀ i j, i < j → j < n → I i < I j) :
    Calls Try.prog 35 #[bval gb s la n lc, .int .i64 id] w fun e w' => Below w.heap.size w w' ∧ e = .returned (.agg #[.int .i64 ki, .int .u64 kd, .int .u64 ke]) := by
  refine (of_any h lc hn id).mono ?_
  rintro ex w' ⟨b, ⟨k, hkn, hki, rfl⟩ | ⟨hall, rfl⟩⟩
  · refine ⟨b, ?_⟩
    rcases hk with ⟨k', hk', hi', rfl, rfl, rfl⟩ | ⟨hno, _⟩
    · have : k = k' := by
        rcases Nat.lt_trichotomy k k' with hl | hl | hl
        · have := hrise k k' hl hk'; omega
        · exact hl
        · have := hrise k' k hl hkn; omega
      rw [this]
    · exact absurd hki (hno k hkn)
  · refine ⟨b, ?_⟩
    rcases hk with ⟨k', hk', hi', _⟩ | ⟨_, rfl, rfl, rfl⟩
    · exact absurd hi' (hall k' hk')
    · rfl
theorem take_any {w : World} {x gb id sh mb : Nat} {l : List (Nat × Nat)} (h : SB w x gb id sh 0 mb) (hM : MapIs w mb id l) (hne : mb ≠ x) (h9 : id ≤ 9) (hl : Ls l) (i : Int) (d e r : Nat) (hf : Fit3 i d e) :
    Calls Try.prog 34 #[.pointer (some ⟨x, 0, none⟩), ckey i d e, .int .u64 (r : Nat)] w (TakePost w x gb id sh mb l i d e r) := by
  by_cases hy : ∃ y ∈ l, pkey id y = ckey i d e
  · obtain ⟨y, hy, hk⟩ := hy
    by_cases hr : r = 1
    · subst hr
      exact take_zero h hM hne h9 i d e y hy hk
    · obtain ⟨j, hj, rfl⟩ := List.getElem_of_mem hy
      exact take_ok h hM hne h9 hl.sc hl.nd i d e r hr j hj hk
  · exact take_miss h hM hne i d e r hf fun y hy' hk => hy ⟨y, hy', hk⟩
end Go.Proofs.Yteoioldbigomaab
