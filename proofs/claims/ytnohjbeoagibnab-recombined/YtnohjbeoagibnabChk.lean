import Derived.Test.YtnohjbeoagibnabNewG
namespace Go.Proofs.Ytnohjbeoagibnab
open Go.RowKit

theorem has_any (g N : Nat) (id : Int) (w : World) (h : w.cell? ⟨g, 0, none⟩ = some (.int .i64 N)) :
    Calls Try.prog 12 #[.pointer (some ⟨g, 0, none⟩), .int .i64 id] w fun e w' => e = .returned (.bool (decide (1 ≤ id ∧ id ≤ N))) ∧ w' = w := by
  by_cases h1 : 1 ≤ id
  · go_enter Try.func12, Try.ntmps12
    go_wp2_with fail
    go_ret
    exact ⟨by simp [h1], rfl⟩
  · go_enter Try.func12, Try.ntmps12
    go_wp2_with fail
    go_ret
    refine ⟨?_, rfl⟩
    have : ¬ (1 : Int) ≤ id := by omega
    rw [decide_eq_false this]
    rfl

theorem beq_cast (a b : Nat) : ((a : Int) == (b : Int)) = decide (a = b) := by
  by_cases h : a = b
  · subst h; simp
  · have : ¬ (a : Int) = b := by omega
    simp [h, this]

theorem ret2 {b b' : Bool} {e e' : Int} (h : b = b') (k : e = e') : Ending.returned (.tuple #[.bool b, .int .i64 e]) = .returned (.tuple #[.bool b', .int .i64 e']) := by rw [h, k]

set_option maxHeartbeats 400000 in
theorem check_group (t n id : Int) (a : Option Addr) (len c sh : Nat) (f : Nat → Nat) (w : World) (hr : RdF w a len (cu (M.sq f len))) (h : ¬ RightG t n len f) :
    Calls Try.prog 5 #[.agg #[.int .i64 t, .int .i64 n, .slice a len c], .int .i64 id, .int .u64 sh] w fun e w' => e = .returned (.tuple #[.bool false, .int .i64 4]) ∧ Below w.heap.size w w' := by
  have B := below_alloc w (gro t n a len c)
  have C : ∀ w', RdF w' a len (cu (M.sq f len)) → Calls Try.prog 11 #[.agg #[.int .i64 t, .int .i64 n, .slice a len c]] w' fun e w'' => Below w'.heap.size w' w'' ∧ e = .returned (.tuple #[.pointer none, .int .i64 4]) := by
    intro w' hr'
    by_cases h1 : Fits t n len
    · by_cases h2 : ∀ i, i < len → ISE (f i)
      · by_cases h3 : f 0 = 1
        · exact newGroup_one t n a len c f w' h1 hr' h2 h3
        · exact absurd ⟨h1, h2, h3⟩ h
      · exact newGroup_els t n a len c f w' h1 hr' h2
    · exact newGroup_fit t n a len c w' h1
  have hr1 := hr.below B
  clear h hr
  go_enter Try.func5, Try.ntmps5
  go_wp2_with (go_at_call 11; refine (C _ hr1).mono ?_; rintro e w2 ⟨bel, rfl⟩)
  go_ret2
  exact ⟨rfl, B.trans (bel.mono B.size)⟩

set_option maxHeartbeats 1000000 in
theorem check_ok (id : Int) (a : Option Addr) (N T c sh : Nat) (f : Nat → Nat) (w : World) (hr : RdF w a T (cu (M.sq f T))) (h : RightG T N T f) :
    Calls Try.prog 5 #[.agg #[.int .i64 T, .int .i64 N, .slice a T c], .int .i64 id, .int .u64 sh] w fun e w' => Below w.heap.size w w' ∧
      ((¬ (1 ≤ id ∧ id ≤ N) ∧ e = .returned (.tuple #[.bool false, .int .i64 5])) ∨
       ((1 ≤ id ∧ id ≤ N) ∧ ¬ SC sh ∧ e = .returned (.tuple #[.bool false, .int .i64 2])) ∨
       ((1 ≤ id ∧ id ≤ N) ∧ SC sh ∧ e = .returned (.tuple #[.bool (decide (M.pw 2147483579 4 sh = M.pub f T id.toNat)), .int .i64 0]))) := by
  have hN : N ≤ 9 := by obtain ⟨h1, h2, h3, h4⟩ := h.fit; omega
  have hT : T ≤ 65536 := by obtain ⟨h1, h2, h3, h4⟩ := h.fit; omega
  have B := below_alloc w (gro T N a T c)
  have C := newGroup_ok a N T c f _ (hr.below B) h
  have HL : Hid (∀ i, i < T → EL (f i)) := fun i hi => (h.els i hi).el
  clear h hr
  by_cases hid : 1 ≤ id ∧ id ≤ N
  · by_cases hs : SC sh
    · obtain ⟨k, rfl⟩ : ∃ k : Nat, id = k := ⟨id.toNat, by omega⟩
      go_enter Try.func5, Try.ntmps5
      go_wp2_with (first | (go_at_call 11; refine C.mono ?_; rintro e w2 ⟨bel, g, a', c', rfl, hg, G, rd, hne⟩) | (go_at_call 12; refine (has_any g N _ _ G.cells.1).mono ?_; rintro e w3 ⟨rfl, hw3⟩; subst hw3; rw [decide_eq_true hid]) | (go_at_call 13; refine (scalarOf_yes _ _ hs).mono ?_; rintro e w3 ⟨rfl, hw3⟩; subst hw3) | (go_at_call 14; refine (toThe_any _ _ hs).mono ?_; rintro e w3 ⟨rfl, hw3⟩; subst hw3))
      refine (public_any g N T k a' c' f _ hN hT HL.out G rd hne (by omega) (by omega)).mono ?_
      rintro e w4 ⟨rfl, gr⟩
      have belw : Below w.heap.size w w4 := (B.trans (bel.mono B.size)).grown gr (Nat.le_trans B.size bel.size) (fun k hk => by simp only [Option.some.injEq] at hk; subst hk; exact Nat.le_trans B.size hg)
      go_wp2_with fail
      go_ret2
      refine ⟨belw, .inr (.inr ⟨hid, hs, ret2 ?_ rfl⟩)⟩
      exact beq_cast _ _
    · go_enter Try.func5, Try.ntmps5
      go_wp2_with (first | (go_at_call 11; refine C.mono ?_; rintro e w2 ⟨bel, g, a', c', rfl, hg, G, rd, hne⟩) | (go_at_call 12; refine (has_any g N _ _ G.cells.1).mono ?_; rintro e w3 ⟨rfl, hw3⟩; subst hw3; rw [decide_eq_true hid]) | (go_at_call 13; refine (scalarOf_no _ _ hs).mono ?_; rintro e w3 ⟨rfl, hw3⟩; subst hw3))
      go_ret2
      exact ⟨B.trans (bel.mono B.size), .inr (.inl ⟨hid, hs, rfl⟩)⟩
  · go_enter Try.func5, Try.ntmps5
    go_wp2_with (first | (go_at_call 11; refine C.mono ?_; rintro e w2 ⟨bel, g, a', c', rfl, hg, G, rd, hne⟩) | (go_at_call 12; refine (has_any g N _ _ G.cells.1).mono ?_; rintro e w3 ⟨rfl, hw3⟩; subst hw3; rw [decide_eq_false hid]))
    go_ret2
    exact ⟨B.trans (bel.mono B.size), .inl ⟨hid, rfl⟩⟩
end Go.Proofs.Ytnohjbeoagibnab
