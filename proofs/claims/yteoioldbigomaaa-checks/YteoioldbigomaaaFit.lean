import Derived.Test.YteoioldbigomaaaAt
namespace Go.Proofs.Yteoioldbigomaaa
open Go.RowKit

/-- The numbers that a group may have. -/
structure Fits (t n c : Int) : Prop where
  h2 : 2 ≤ t
  hn : t ≤ n
  h9 : n ≤ 9
  hc : c = t

theorem fit_yes (t n c : Int) (w : World) (h : Fits t n c) :
    Calls Try.prog 23 #[.int .i64 t, .int .i64 n, .int .i64 c] w fun e w' => e = .returned (.bool true) ∧ w' = w := by
  obtain ⟨h1, h2, h3, h4⟩ := h
  subst h4
  go_enter Try.func23, Try.ntmps23
  go_wp2
  go_ret
  exact ⟨by simp, rfl⟩

set_option maxHeartbeats 400000 in
theorem fit_no (t n c : Int) (w : World) (h : ¬ Fits t n c) :
    Calls Try.prog 23 #[.int .i64 t, .int .i64 n, .int .i64 c] w fun e w' => e = .returned (.bool false) ∧ w' = w := by
  have H : Hid (¬ Fits t n c) := h
  clear h
  by_cases h1 : 2 ≤ t
  · by_cases h2 : t ≤ n
    · by_cases h3 : n ≤ 9
      · have h4 : (c == t) = false := by
          simp; intro e; exact H.out ⟨h1, h2, h3, e⟩
        go_enter Try.func23, Try.ntmps23
        go_wp2
        go_ret
        exact ⟨by simp, rfl⟩
      · go_enter Try.func23, Try.ntmps23
        go_wp2
        go_ret
        exact ⟨by simp, rfl⟩
    · go_enter Try.func23, Try.ntmps23
      go_wp2
      go_ret
      exact ⟨by simp, rfl⟩
  · go_enter Try.func23, Try.ntmps23
    go_wp2
    go_ret
    exact ⟨by simp, rfl⟩
end Go.Proofs.Yteoioldbigomaaa
