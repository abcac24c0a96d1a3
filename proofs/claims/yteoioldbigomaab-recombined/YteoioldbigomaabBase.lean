import Derived.Test.YteoioldbigomaabChecked
import Derived.WalkKit
import Derived.WalkSmall
/-
  Plain mathematics on Nat for the seat: powers modulo a number. Imports nothing of the dump.
-/
namespace Go.Proofs.Yteoioldbigomaab.M

/-- a to the n, modulo m. -/
def pw (m a n : Nat) : Nat := a ^ n % m

theorem pw_lt {m : Nat} (h : 1 < m) (a n : Nat) : pw m a n < m := Nat.mod_lt _ (by omega)

theorem pw_zero {m : Nat} (h : 1 < m) (a : Nat) : pw m a 0 = 1 := by
  unfold pw; rw [Nat.pow_zero]; exact Nat.mod_eq_of_lt h

theorem half_sq (n : Nat) (a : Nat) : a ^ (n / 2) * a ^ (n / 2) * a ^ (n % 2) = a ^ n := by
  rw [← Nat.pow_add, ← Nat.pow_add]; congr 1; omega

theorem pw_odd {m : Nat} (a n : Nat) (h : n % 2 = 1) : pw m a (n / 2) * pw m a (n / 2) % m * a % m = pw m a n := by
  unfold pw
  have := half_sq n a
  rw [h, Nat.pow_one] at this
  rw [← this]
  rw [← Nat.mul_mod, Nat.mod_mul_mod]

theorem pw_even {m : Nat} (a n : Nat) (h : n % 2 = 0) : pw m a (n / 2) * pw m a (n / 2) % m = pw m a n := by
  unfold pw
  have := half_sq n a
  rw [h, Nat.pow_zero, Nat.mul_one] at this
  rw [← this, ← Nat.mul_mod]

/-- What the loop of number.power keeps. -/
def Inv (m b0 e0 out b e : Nat) : Prop := out < m ∧ b < m ∧ out * b ^ e % m = b0 ^ e0 % m

theorem inv_start {m b0 e0 : Nat} (h : 1 < m) (hb : b0 < m) : Inv m b0 e0 1 b0 e0 := ⟨h, hb, by rw [Nat.one_mul]⟩

theorem sq_half (n : Nat) (b : Nat) : (b * b) ^ (n / 2) * b ^ (n % 2) = b ^ n := by
  rw [Nat.mul_pow]; exact half_sq n b

theorem inv_odd {m b0 e0 out b e : Nat} (hm : 0 < m) (h : Inv m b0 e0 out b e) (ho : e % 2 = 1) : Inv m b0 e0 (out * b % m) (b * b % m) (e / 2) := by
  obtain ⟨_, _, h3⟩ := h
  refine ⟨Nat.mod_lt _ hm, Nat.mod_lt _ hm, ?_⟩
  rw [← h3, ← sq_half e b, ho, Nat.pow_one]
  rw [Nat.mod_mul_mod, Nat.mul_mod, ← Nat.pow_mod, ← Nat.mul_mod]
  congr 1
  rw [Nat.mul_assoc, Nat.mul_comm b]

theorem inv_even {m b0 e0 out b e : Nat} (hm : 0 < m) (h : Inv m b0 e0 out b e) (ho : e % 2 = 0) : Inv m b0 e0 out (b * b % m) (e / 2) := by
  obtain ⟨h1, _, h3⟩ := h
  refine ⟨h1, Nat.mod_lt _ hm, ?_⟩
  rw [← h3, ← sq_half e b, ho, Nat.pow_zero, Nat.mul_one]
  rw [Nat.mul_mod, ← Nat.pow_mod, ← Nat.mul_mod]

theorem inv_end {m b0 e0 out b : Nat} (h : Inv m b0 e0 out b 0) : out = pw m b0 e0 := by
  obtain ⟨h1, _, h3⟩ := h
  unfold pw
  rw [← h3, Nat.pow_zero, Nat.mul_one, Nat.mod_eq_of_lt h1]

end Go.Proofs.Yteoioldbigomaab.M
namespace Go.Proofs.Yteoioldbigomaab
open Go.RowKit

theorem ret_int {k : IntKind} {a b : Int} (h : a = b) : Ending.returned (.int k a) = .returned (.int k b) := by rw [h]

/-- A scalar, an element's range: structures, so that no unifier looks into the numerals. -/
structure SC (n : Nat) : Prop where
  out : n < 1073741789
structure EL (n : Nat) : Prop where
  out : n < 2147483579

theorem SC.mod (n : Nat) : SC (n % 1073741789) := ⟨Nat.mod_lt _ (by omega)⟩
theorem EL.mod (n : Nat) : EL (n % 2147483579) := ⟨Nat.mod_lt _ (by omega)⟩

theorem mul_bd {a b c d : Nat} (ha : a ≤ c) (hb : b ≤ d) : (0 : Int) ≤ (a : Int) * b ∧ (a : Int) * b ≤ ((c * d : Nat) : Int) := by
  have := Nat.mul_le_mul ha hb
  constructor
  · exact Int.mul_nonneg (by omega) (by omega)
  · rw [← Int.natCast_mul]; omega

theorem plus_any (a b : Nat) (w : World) (ha' : SC a) (hb' : SC b) :
    Calls Try.prog 21 #[.int .u64 a, .int .u64 b] w fun e w' => e = .returned (.int .u64 ((a + b) % 1073741789 : Nat)) ∧ w' = w := by
  have ha := ha'.out
  have hb := hb'.out
  go_enter Try.func21, Try.ntmps21
  go_wp2
  go_ret
  exact ⟨ret_int (by simp), rfl⟩

theorem minus_any (a b : Nat) (w : World) (ha' : SC a) (hb' : SC b) :
    Calls Try.prog 67 #[.int .u64 a, .int .u64 b] w fun e w' => e = .returned (.int .u64 ((a + 1073741789 - b) % 1073741789 : Nat)) ∧ w' = w := by
  have ha := ha'.out
  have hb := hb'.out
  go_enter Try.func67, Try.ntmps67
  go_wp2
  go_ret
  exact ⟨ret_int (by omega), rfl⟩

theorem times_any (a b : Nat) (w : World) (ha' : SC a) (hb' : SC b) :
    Calls Try.prog 23 #[.int .u64 a, .int .u64 b] w fun e w' => e = .returned (.int .u64 ((a * b) % 1073741789 : Nat)) ∧ w' = w := by
  have ha := ha'.out
  have hb := hb'.out
  have hm := mul_bd (Nat.le_of_lt ha) (Nat.le_of_lt hb)
  go_enter Try.func23, Try.ntmps23
  go_wp2
  go_ret
  exact ⟨ret_int (by simp), rfl⟩

theorem etimes_any (a b : Nat) (w : World) (ha' : EL a) (hb' : EL b) :
    Calls Try.prog 54 #[.int .u64 a, .int .u64 b] w fun e w' => e = .returned (.int .u64 ((a * b) % 2147483579 : Nat)) ∧ w' = w := by
  have ha := ha'.out
  have hb := hb'.out
  have hm := mul_bd (Nat.le_of_lt ha) (Nat.le_of_lt hb)
  go_enter Try.func54, Try.ntmps54
  go_wp2
  go_ret
  exact ⟨ret_int (by simp), rfl⟩

theorem scalarOf_yes (a : Nat) (w : World) (ha : SC a) :
    Calls Try.prog 19 #[.int .u64 a] w fun e w' => e = .returned (.tuple #[.int .u64 a, .bool true]) ∧ w' = w := by
  have ha' : ¬ (1073741789 : Int) ≤ a := by have := ha.out; omega
  clear ha
  go_enter Try.func19, Try.ntmps19
  go_wp2
  go_ret2
  exact ⟨rfl, rfl⟩

theorem scalarOf_no (a : Nat) (w : World) (ha : ¬ SC a) :
    Calls Try.prog 19 #[.int .u64 a] w fun e w' => e = .returned (.tuple #[.int .u64 0, .bool false]) ∧ w' = w := by
  have ha' : (1073741789 : Int) ≤ a := by have : ¬ a < 1073741789 := fun h => ha ⟨h⟩
                                          omega
  clear ha
  go_enter Try.func19, Try.ntmps19
  go_wp2
  go_ret2
  exact ⟨rfl, rfl⟩

end Go.Proofs.Yteoioldbigomaab
namespace Go.Proofs.Yteoioldbigomaab
open Go.RowKit

theorem odd_of {E : Nat} (hE : E ≤ 1073741789) (h : (bits BinOp.and IntKind.u64 (E : Int) 1 == 1) = true) : E % 2 = 1 := by
  rw [and_one_u64 (E : Int) (by omega) (by omega)] at h
  simp at h; omega
theorem even_of {E : Nat} (hE : E ≤ 1073741789) (h : (bits BinOp.and IntKind.u64 (E : Int) 1 == 1) = false) : E % 2 = 0 := by
  rw [and_one_u64 (E : Int) (by omega) (by omega)] at h
  simp at h; omega

set_option maxHeartbeats 400000 in
theorem epow_any (a n : Nat) (w : World) (ha : EL a) (hn : n ≤ 1073741789) :
    Calls Try.prog 68 #[.func (.func 54) #[] #[], .int .u64 1, .int .u64 a, .int .u64 n] w fun e w' => e = .returned (.int .u64 (M.pw 2147483579 a n : Nat)) ∧ w' = w := by
  have S : Hid (M.Inv 2147483579 a n 1 a n) := M.inv_start (by omega) ha.out
  go_enter Try.func68, Try.ntmps68
  go_wp2_with fail
  go_loopw [2, 3, 9] (fun b e o wr => ∃ O B E : Nat, wr = w ∧ o = .int .u64 O ∧ b = .int .u64 B ∧ e = .int .u64 E ∧ E ≤ 1073741789 ∧ Hid (M.Inv 2147483579 a n O B E)) (fun _ e _ _ => (intOf e).toNat)
  case atStart => exact ⟨1, a, n, rfl, rfl, rfl, rfl, hn, S⟩
  case round =>
    obtain ⟨O, B, E, rfl, rfl, rfl, rfl, hE, HI⟩ := hrel
    clear S
    by_cases h0 : E = 0
    · subst h0
      go_wp2_with fail
      go_ret
      exact ⟨ret_int (by rw [M.inv_end HI.out]), rfl⟩
    · have hO : EL O := ⟨HI.out.1⟩
      have hB : EL B := ⟨HI.out.2.1⟩
      have hp : (0 : Int) < E := by omega
      go_wp2_with (go_at_call 54; refine (etimes_any _ _ _ (by assumption) (by assumption)).mono ?_; rintro e w' ⟨rfl, rfl⟩)
      · go_roundw
        case rel => exact ⟨O * B % 2147483579, B * B % 2147483579, E / 2, trivial, rfl, rfl, by go_num, by omega, M.inv_odd (by omega) HI.out (odd_of hE ‹_›)⟩
        case measure => simp [intOf]; omega
      · go_roundw
        case rel => exact ⟨O, B * B % 2147483579, E / 2, trivial, rfl, rfl, by go_num, by omega, M.inv_even (by omega) HI.out (even_of hE ‹_›)⟩
        case measure => simp [intOf]; omega
set_option maxHeartbeats 400000 in
theorem spow_any (a n : Nat) (w : World) (ha : SC a) (hn : n ≤ 1073741789) :
    Calls Try.prog 85 #[.func (.func 23) #[] #[], .int .u64 1, .int .u64 a, .int .u64 n] w fun e w' => e = .returned (.int .u64 (M.pw 1073741789 a n : Nat)) ∧ w' = w := by
  have S : Hid (M.Inv 1073741789 a n 1 a n) := M.inv_start (by omega) ha.out
  go_enter Try.func85, Try.ntmps85
  go_wp2_with fail
  go_loopw [2, 3, 9] (fun b e o wr => ∃ O B E : Nat, wr = w ∧ o = .int .u64 O ∧ b = .int .u64 B ∧ e = .int .u64 E ∧ E ≤ 1073741789 ∧ Hid (M.Inv 1073741789 a n O B E)) (fun _ e _ _ => (intOf e).toNat)
  case atStart => exact ⟨1, a, n, rfl, rfl, rfl, rfl, hn, S⟩
  case round =>
    obtain ⟨O, B, E, rfl, rfl, rfl, rfl, hE, HI⟩ := hrel
    clear S
    by_cases h0 : E = 0
    · subst h0
      go_wp2_with fail
      go_ret
      exact ⟨ret_int (by rw [M.inv_end HI.out]), rfl⟩
    · have hO : SC O := ⟨HI.out.1⟩
      have hB : SC B := ⟨HI.out.2.1⟩
      have hp : (0 : Int) < E := by omega
      go_wp2_with (go_at_call 23; refine (times_any _ _ _ (by assumption) (by assumption)).mono ?_; rintro e w' ⟨rfl, rfl⟩)
      · go_roundw
        case rel => exact ⟨O * B % 1073741789, B * B % 1073741789, E / 2, trivial, rfl, rfl, by go_num, by omega, M.inv_odd (by omega) HI.out (odd_of hE ‹_›)⟩
        case measure => simp [intOf]; omega
      · go_roundw
        case rel => exact ⟨O, B * B % 1073741789, E / 2, trivial, rfl, rfl, by go_num, by omega, M.inv_even (by omega) HI.out (even_of hE ‹_›)⟩
        case measure => simp [intOf]; omega

theorem power_any (a n : Nat) (w : World) (ha : EL a) (hn : n ≤ 1073741789) :
    Calls Try.prog 49 #[.int .u64 a, .int .u64 n] w fun e w' => e = .returned (.int .u64 (M.pw 2147483579 a n : Nat)) ∧ w' = w := by
  go_enter Try.func49, Try.ntmps49
  go_wp2_with (go_at_call 68; refine (epow_any _ _ _ (by assumption) (by assumption)).mono ?_; rintro e w' ⟨rfl, rfl⟩)
  go_ret
  exact ⟨rfl, rfl⟩

theorem toThe_any (n : Nat) (w : World) (hn : SC n) :
    Calls Try.prog 28 #[.int .u64 n] w fun e w' => e = .returned (.int .u64 (M.pw 2147483579 4 n : Nat)) ∧ w' = w := by
  have h4 : EL 4 := ⟨by omega⟩
  have hn' : n ≤ 1073741789 := Nat.le_of_lt hn.out
  have C := fun w => power_any 4 n w h4 hn'
  go_enter Try.func28, Try.ntmps28
  go_wp2_with (go_at_call 49; refine (C _).mono ?_; rintro e w' ⟨rfl, rfl⟩)
  go_ret
  exact ⟨rfl, rfl⟩

/-- a over b, modulo Q. -/
def M.over (a b : Nat) : Nat := a * M.pw 1073741789 b 1073741787 % 1073741789

theorem over_any (a b : Nat) (w : World) (ha : SC a) (hb : SC b) :
    Calls Try.prog 66 #[.int .u64 a, .int .u64 b] w fun e w' => e = .returned (.int .u64 (M.over a b : Nat)) ∧ w' = w := by
  have C := fun w => spow_any b 1073741787 w hb (by omega)
  have hp : SC (M.pw 1073741789 b 1073741787) := ⟨M.pw_lt (by omega) _ _⟩
  have D := fun w => times_any a (M.pw 1073741789 b 1073741787) w ha hp
  go_enter Try.func66, Try.ntmps66
  go_wp2_with (first | (go_at_call 85; refine (C _).mono ?_; rintro e w' ⟨rfl, rfl⟩) | (go_at_call 23; refine (D _).mono ?_; rintro e w' ⟨rfl, rfl⟩))
  go_ret
  exact ⟨rfl, rfl⟩

end Go.Proofs.Yteoioldbigomaab
