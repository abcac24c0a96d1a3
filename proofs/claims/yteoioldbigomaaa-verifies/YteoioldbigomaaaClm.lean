import Derived.Test.YteoioldbigomaaaNewG
namespace Go.Proofs.Yteoioldbigomaaa
open Go.RowKit

theorem has_any (g N : Nat) (id : Int) (w : World) (h : w.cell? ⟨g, 0, none⟩ = some (.int .i64 N)) :
    Calls Try.prog 58 #[.pointer (some ⟨g, 0, none⟩), .int .i64 id] w fun e w' => e = .returned (.bool (decide (1 ≤ id ∧ id ≤ N))) ∧ w' = w := by
  by_cases h1 : 1 ≤ id
  · go_enter Try.func58, Try.ntmps58
    go_wp2_with fail
    go_ret
    exact ⟨by simp [h1], rfl⟩
  · go_enter Try.func58, Try.ntmps58
    go_wp2_with fail
    go_ret
    refine ⟨?_, rfl⟩
    have : ¬ (1 : Int) ≤ id := by omega
    rw [decide_eq_false this]
    rfl

theorem beq_cast (a b : Nat) : ((a : Int) == (b : Int)) = decide (a = b) := by
  by_cases h : a = b
  · subst h; simp
  · have : ¬ (a : Int) = b := by omega
    simp [h, this]

theorem ret2 {b b' : Bool} {e e' : Int} (h : b = b') (k : e = e') : Ending.returned (.tuple #[.bool b, .int .i64 e]) = .returned (.tuple #[.bool b', .int .i64 e']) := by rw [h, k]

/-- newGroup, of what is no group. -/
theorem newGroup_no (t n : Int) (a : Option Addr) (len c : Nat) (f : Nat → Nat) (w : World) (hr : RdF w a len (cu (M.sq f len))) (h : ¬ RightG t n len f) :
    Calls Try.prog 57 #[.agg #[.int .i64 t, .int .i64 n, .slice a len c]] w fun e w'' => Below w.heap.size w w'' ∧ e = .returned (.tuple #[.pointer none, .int .i64 4]) := by
  by_cases h1 : Fits t n len
  · by_cases h2 : ∀ i, i < len → ISE (f i)
    · by_cases h3 : f 0 = 1
      · exact newGroup_one t n a len c f w h1 hr h2 h3
      · exact absurd ⟨h1, h2, h3⟩ h
    · exact newGroup_els t n a len c f w h1 hr h2
  · exact newGroup_fit t n a len c w h1

set_option maxHeartbeats 400000 in
theorem claim_group (t n id : Int) (a : Option Addr) (len c sh : Nat) (f : Nat → Nat) (w : World) (hr : RdF w a len (cu (M.sq f len))) (h : ¬ RightG t n len f) :
    Calls Try.prog 32 #[.agg #[.int .i64 t, .int .i64 n, .slice a len c], .int .i64 id, .int .u64 sh] w fun e w' => e = .returned (.tuple #[.pointer none, .int .u64 0, .int .i64 4]) ∧ Below w.heap.size w w' := by
  have B := below_alloc w (gro t n a len c)
  have C := newGroup_no t n a len c f _ (hr.below B) h
  clear h hr
  go_enter Try.func32, Try.ntmps32
  go_wp2_with (go_at_call 57; refine C.mono ?_; rintro e w2 ⟨bel, rfl⟩)
  go_ret3
  exact ⟨rfl, B.trans (bel.mono B.size)⟩

set_option maxHeartbeats 1000000 in
theorem claim_ok (id : Int) (a : Option Addr) (N T c sh : Nat) (f : Nat → Nat) (w : World) (hr : RdF w a T (cu (M.sq f T))) (h : RightG T N T f) :
    Calls Try.prog 32 #[.agg #[.int .i64 T, .int .i64 N, .slice a T c], .int .i64 id, .int .u64 sh] w fun e w' => Below w.heap.size w w' ∧
      ((¬ (1 ≤ id ∧ id ≤ N) ∧ e = .returned (.tuple #[.pointer none, .int .u64 0, .int .i64 5])) ∨
       ((1 ≤ id ∧ id ≤ N) ∧ ¬ SC sh ∧ e = .returned (.tuple #[.pointer none, .int .u64 0, .int .i64 2])) ∨
       ((1 ≤ id ∧ id ≤ N) ∧ SC sh ∧ ∃ g a' c', e = .returned (.tuple #[.pointer (some ⟨g, 0, none⟩), .int .u64 sh, .int .i64 0]) ∧ w.heap.size ≤ g ∧ GB w' g N T a' c' 0 0 (fun i => M.pub f T (i + 1)) 0 ∧ RdF w' a' T (cu (M.sq f T)) ∧
         (∀ x, a' = some x → x.block ≠ g) ∧ (∀ x, a' = some x → w.heap.size ≤ x.block))) := by
  have B := below_alloc w (gro T N a T c)
  have C := newGroup_ok a N T c f _ (hr.below B) h
  clear h hr
  by_cases hid : 1 ≤ id ∧ id ≤ N
  · by_cases hs : SC sh
    · obtain ⟨k, rfl⟩ : ∃ k : Nat, id = k := ⟨id.toNat, by omega⟩
      go_enter Try.func32, Try.ntmps32
      go_wp2_with (first | (go_at_call 57; refine C.mono ?_; rintro e w2 ⟨bel, g, a', c', rfl, hg, G, rd, hne, hnew⟩) | (go_at_call 58; refine (has_any g N _ _ G.cells.1).mono ?_; rintro e w3 ⟨rfl, hw3⟩; subst hw3; rw [decide_eq_true hid]) | (go_at_call 25; refine (scalarOf_yes _ _ hs).mono ?_; rintro e w3 ⟨rfl, hw3⟩; subst hw3))
      go_ret3
      exact ⟨B.trans (bel.mono B.size), .inr (.inr ⟨hid, hs, g, a', c', rfl, Nat.le_trans B.size hg, G, rd, hne, fun x hx => Nat.le_trans B.size (hnew x hx)⟩)⟩
    · go_enter Try.func32, Try.ntmps32
      go_wp2_with (first | (go_at_call 57; refine C.mono ?_; rintro e w2 ⟨bel, g, a', c', rfl, hg, G, rd, hne, hnew⟩) | (go_at_call 58; refine (has_any g N _ _ G.cells.1).mono ?_; rintro e w3 ⟨rfl, hw3⟩; subst hw3; rw [decide_eq_true hid]) | (go_at_call 25; refine (scalarOf_no _ _ hs).mono ?_; rintro e w3 ⟨rfl, hw3⟩; subst hw3))
      go_ret3
      exact ⟨B.trans (bel.mono B.size), .inr (.inl ⟨hid, hs, rfl⟩)⟩
  · go_enter Try.func32, Try.ntmps32
    go_wp2_with (first | (go_at_call 57; refine C.mono ?_; rintro e w2 ⟨bel, g, a', c', rfl, hg, G, rd, hne, hnew⟩) | (go_at_call 58; refine (has_any g N _ _ G.cells.1).mono ?_; rintro e w3 ⟨rfl, hw3⟩; subst hw3; rw [decide_eq_false hid]))
    go_ret3
    exact ⟨B.trans (bel.mono B.size), .inl ⟨hid, rfl⟩⟩

set_option maxHeartbeats 400000 in
theorem gave_any (g N T id sh : Nat) (a : Option Addr) (c : Nat) (f : Nat → Nat) (w : World) (hN : N ≤ 9) (hT : T ≤ 65536) (hf : ∀ i, i < T → EL (f i)) (G : GB w g N T a c 0 0 (fun i => M.pub f T (i + 1)) 0)
    (rd : RdF w a T (cu (M.sq f T))) (hne : ∀ x, a = some x → x.block ≠ g) (h1 : 1 ≤ id) (h2 : id ≤ N) (hs : SC sh) :
    Calls Try.prog 33 #[.pointer (some ⟨g, 0, none⟩), .int .i64 id, .int .u64 sh] w fun e w' => e = .returned (.bool (decide (M.pw 2147483579 4 sh = M.pub f T id))) ∧ w.grownBy w' (some g) ∧ GB w' g N T a c 1 0 (fun i => M.pub f T (i + 1)) N := by
  have C := public_any g N T id a c f w hN hT hf G rd hne h1 h2
  clear hf hne rd
  go_enter Try.func33, Try.ntmps33
  go_wp2_with (first | (go_at_call 26; refine (toThe_any _ _ hs).mono ?_; rintro e w3 ⟨rfl, hw3⟩; subst hw3) | (go_at_call 59; refine C.mono ?_; rintro e w4 ⟨rfl, gr, G4⟩))
  go_ret
  exact ⟨congrArg (fun b => Ending.returned (.bool b)) (beq_cast _ _), gr, G4⟩
end Go.Proofs.Yteoioldbigomaaa
