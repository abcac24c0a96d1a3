import Derived.Test.YteoioldbigomaaaPck
namespace Go.Proofs.Yteoioldbigomaaa
open Go.RowKit

/-- What is wrong with a number that follows another: 5, 6, or 0 (nothing). -/
def M.turn (id ahead most : Int) : Nat := if id < 1 ∨ most < id then 5 else if id ≤ ahead then 6 else 0

set_option maxHeartbeats 400000 in
theorem inTurn_any (id ahead most : Int) (w : World) :
    Calls Try.prog 36 #[.int .i64 id, .int .i64 ahead, .int .i64 most] w fun e w' => e = .returned (.int .i64 (M.turn id ahead most : Nat)) ∧ w' = w := by
  unfold M.turn
  by_cases h1 : id < 1
  · rw [if_pos (.inl h1)]
    go_enter Try.func36, Try.ntmps36
    go_wp2_with fail
    go_ret
    exact ⟨rfl, rfl⟩
  · by_cases h2 : most < id
    · rw [if_pos (.inr h2)]
      go_enter Try.func36, Try.ntmps36
      go_wp2_with fail
      go_ret
      exact ⟨rfl, rfl⟩
    · rw [if_neg (by omega)]
      by_cases h3 : id ≤ ahead
      · rw [if_pos h3]
        go_enter Try.func36, Try.ntmps36
        go_wp2_with fail
        go_ret
        exact ⟨rfl, rfl⟩
      · rw [if_neg h3]
        go_enter Try.func36, Try.ntmps36
        go_wp2_with fail
        go_ret
        exact ⟨rfl, rfl⟩
end Go.Proofs.Yteoioldbigomaaa
