import Derived.Test.YteoioldbigomaaaChecked
import Derived.Test.YteoioldbigomaaaMath
import Derived.WalkKit
namespace Go.Proofs.Yteoioldbigomaaa
open Go.RowKit

theorem ret_int {k : IntKind} {a b : Int} (h : a = b) : Ending.returned (.int k a) = .returned (.int k b) := by rw [h]

/-- A scalar, an element's range: structures, so that no unifier looks into the numerals. -/
structure SC (n : Nat) : Prop where
  out : n < 1073741789
structure EL (n : Nat) : Prop where
  out : n < 2147483579

theorem SC.mod (n : Nat) : SC (n % 1073741789) := ⟨Nat.mod_lt _ (by omega)⟩
theorem EL.mod (n : Nat) : EL (n % 2147483579) := ⟨Nat.mod_lt _ (by omega)⟩

theorem mul_bd {a b c d : Nat} (ha : a ≤ c) (hb : b ≤ d) : (0 : Int) ≤ (a : Int) * b ∧ (a : Int) * b ≤ ((c * d : Nat) : Int) := by
  have := Nat.mul_le_mul ha hb
  constructor
  · exact Int.mul_nonneg (by omega) (by omega)
  · rw [← Int.natCast_mul]; omega

theorem plus_any (a b : Nat) (w : World) (ha' : SC a) (hb' : SC b) :
    Calls Try.prog 38 #[.int .u64 a, .int .u64 b] w fun e w' => e = .returned (.int .u64 ((a + b) % 1073741789 : Nat)) ∧ w' = w := by
  have ha := ha'.out
  have hb := hb'.out
  go_enter Try.func38, Try.ntmps38
  go_wp2
  go_ret
  exact ⟨ret_int (by simp), rfl⟩

theorem minus_any (a b : Nat) (w : World) (ha' : SC a) (hb' : SC b) :
    Calls Try.prog 71 #[.int .u64 a, .int .u64 b] w fun e w' => e = .returned (.int .u64 ((a + 1073741789 - b) % 1073741789 : Nat)) ∧ w' = w := by
  have ha := ha'.out
  have hb := hb'.out
  go_enter Try.func71, Try.ntmps71
  go_wp2
  go_ret
  exact ⟨ret_int (by omega), rfl⟩

theorem times_any (a b : Nat) (w : World) (ha' : SC a) (hb' : SC b) :
    Calls Try.prog 40 #[.int .u64 a, .int .u64 b] w fun e w' => e = .returned (.int .u64 ((a * b) % 1073741789 : Nat)) ∧ w' = w := by
  have ha := ha'.out
  have hb := hb'.out
  have hm := mul_bd (Nat.le_of_lt ha) (Nat.le_of_lt hb)
  go_enter Try.func40, Try.ntmps40
  go_wp2
  go_ret
  exact ⟨ret_int (by simp), rfl⟩

theorem etimes_any (a b : Nat) (w : World) (ha' : EL a) (hb' : EL b) :
    Calls Try.prog 50 #[.int .u64 a, .int .u64 b] w fun e w' => e = .returned (.int .u64 ((a * b) % 2147483579 : Nat)) ∧ w' = w := by
  have ha := ha'.out
  have hb := hb'.out
  have hm := mul_bd (Nat.le_of_lt ha) (Nat.le_of_lt hb)
  go_enter Try.func50, Try.ntmps50
  go_wp2
  go_ret
  exact ⟨ret_int (by simp), rfl⟩

theorem scalarOf_yes (a : Nat) (w : World) (ha : SC a) :
    Calls Try.prog 25 #[.int .u64 a] w fun e w' => e = .returned (.tuple #[.int .u64 a, .bool true]) ∧ w' = w := by
  have ha' : ¬ (1073741789 : Int) ≤ a := by have := ha.out; omega
  clear ha
  go_enter Try.func25, Try.ntmps25
  go_wp2
  go_ret2
  exact ⟨rfl, rfl⟩

theorem scalarOf_no (a : Nat) (w : World) (ha : ¬ SC a) :
    Calls Try.prog 25 #[.int .u64 a] w fun e w' => e = .returned (.tuple #[.int .u64 0, .bool false]) ∧ w' = w := by
  have ha' : (1073741789 : Int) ≤ a := by have : ¬ a < 1073741789 := fun h => ha ⟨h⟩
                                          omega
  clear ha
  go_enter Try.func25, Try.ntmps25
  go_wp2
  go_ret2
  exact ⟨rfl, rfl⟩

end Go.Proofs.Yteoioldbigomaaa
