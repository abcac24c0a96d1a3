import Derived.Test.YteoioldbigomaaaGreatChecked
import Derived.WalkKit
import Derived.WalkSmall
/-
  Plain mathematics on Nat for the seat: powers modulo a number. Imports nothing of the dump.
-/
namespace Go.Proofs.YteoioldbigomaaaGreat.M

/-- a to the n, modulo m. -/
def pw (m a n : Nat) : Nat := a ^ n % m

theorem pw_lt {m : Nat} (h : 1 < m) (a n : Nat) : pw m a n < m := Nat.mod_lt _ (by omega)

theorem pw_zero {m : Nat} (h : 1 < m) (a : Nat) : pw m a 0 = 1 := by
  unfold pw; rw [Nat.pow_zero]; exact Nat.mod_eq_of_lt h

theorem half_sq (n : Nat) (a : Nat) : a ^ (n / 2) * a ^ (n / 2) * a ^ (n % 2) = a ^ n := by
  rw [← Nat.pow_add, ← Nat.pow_add]; congr 1; omega

theorem pw_odd {m : Nat} (a n : Nat) (h : n % 2 = 1) : pw m a (n / 2) * pw m a (n / 2) % m * a % m = pw m a n := by
  unfold pw
  have := half_sq n a
  rw [h, Nat.pow_one] at this
  rw [← this]
  rw [← Nat.mul_mod, Nat.mod_mul_mod]

theorem pw_even {m : Nat} (a n : Nat) (h : n % 2 = 0) : pw m a (n / 2) * pw m a (n / 2) % m = pw m a n := by
  unfold pw
  have := half_sq n a
  rw [h, Nat.pow_zero, Nat.mul_one] at this
  rw [← this, ← Nat.mul_mod]

/-- What the loop of number.power keeps. -/
def Inv (m b0 e0 out b e : Nat) : Prop := out < m ∧ b < m ∧ out * b ^ e % m = b0 ^ e0 % m

theorem inv_start {m b0 e0 : Nat} (h : 1 < m) (hb : b0 < m) : Inv m b0 e0 1 b0 e0 := ⟨h, hb, by rw [Nat.one_mul]⟩

theorem sq_half (n : Nat) (b : Nat) : (b * b) ^ (n / 2) * b ^ (n % 2) = b ^ n := by
  rw [Nat.mul_pow]; exact half_sq n b

theorem inv_odd {m b0 e0 out b e : Nat} (hm : 0 < m) (h : Inv m b0 e0 out b e) (ho : e % 2 = 1) : Inv m b0 e0 (out * b % m) (b * b % m) (e / 2) := by
  obtain ⟨_, _, h3⟩ := h
  refine ⟨Nat.mod_lt _ hm, Nat.mod_lt _ hm, ?_⟩
  rw [← h3, ← sq_half e b, ho, Nat.pow_one]
  rw [Nat.mod_mul_mod, Nat.mul_mod, ← Nat.pow_mod, ← Nat.mul_mod]
  congr 1
  rw [Nat.mul_assoc, Nat.mul_comm b]

theorem inv_even {m b0 e0 out b e : Nat} (hm : 0 < m) (h : Inv m b0 e0 out b e) (ho : e % 2 = 0) : Inv m b0 e0 out (b * b % m) (e / 2) := by
  obtain ⟨h1, _, h3⟩ := h
  refine ⟨h1, Nat.mod_lt _ hm, ?_⟩
  rw [← h3, ← sq_half e b, ho, Nat.pow_zero, Nat.mul_one]
  rw [Nat.mul_mod, ← Nat.pow_mod, ← Nat.mul_mod]

theorem inv_end {m b0 e0 out b : Nat} (h : Inv m b0 e0 out b 0) : out = pw m b0 e0 := by
  obtain ⟨h1, _, h3⟩ := h
  unfold pw
  rw [← h3, Nat.pow_zero, Nat.mul_one, Nat.mod_eq_of_lt h1]

end Go.Proofs.YteoioldbigomaaaGreat.M
namespace Go.Proofs.YteoioldbigomaaaGreat
open Go.RowKit

theorem ret_int {k : IntKind} {a b : Int} (h : a = b) : Ending.returned (.int k a) = .returned (.int k b) := by rw [h]

/-- A scalar, an element's range: structures, so that no unifier looks into the numerals. -/
structure SC (n : Nat) : Prop where
  out : n < 1073741789
structure EL (n : Nat) : Prop where
  out : n < 2147483579

theorem SC.mod (n : Nat) : SC (n % 1073741789) := ⟨Nat.mod_lt _ (by omega)⟩
theorem EL.mod (n : Nat) : EL (n % 2147483579) := ⟨Nat.mod_lt _ (by omega)⟩

theorem mul_bd {a b c d : Nat} (ha : a ≤ c) (hb : b ≤ d) : (0 : Int) ≤ (a : Int) * b ∧ (a : Int) * b ≤ ((c * d : Nat) : Int) := by
  have := Nat.mul_le_mul ha hb
  constructor
  · exact Int.mul_nonneg (by omega) (by omega)
  · rw [← Int.natCast_mul]; omega

theorem plus_any (a b : Nat) (w : World) (ha' : SC a) (hb' : SC b) :
    Calls Tryz.prog 50 #[.int .u64 a, .int .u64 b] w fun e w' => e = .returned (.int .u64 ((a + b) % 1073741789 : Nat)) ∧ w' = w := by
  have ha := ha'.out
  have hb := hb'.out
  go_enter Tryz.func50, Tryz.ntmps50
  go_wp2
  go_ret
  exact ⟨ret_int (by simp), rfl⟩

theorem minus_any (a b : Nat) (w : World) (ha' : SC a) (hb' : SC b) :
    Calls Tryz.prog 127 #[.int .u64 a, .int .u64 b] w fun e w' => e = .returned (.int .u64 ((a + 1073741789 - b) % 1073741789 : Nat)) ∧ w' = w := by
  have ha := ha'.out
  have hb := hb'.out
  go_enter Tryz.func127, Tryz.ntmps127
  go_wp2
  go_ret
  exact ⟨ret_int (by omega), rfl⟩

theorem times_any (a b : Nat) (w : World) (ha' : SC a) (hb' : SC b) :
    Calls Tryz.prog 87 #[.int .u64 a, .int .u64 b] w fun e w' => e = .returned (.int .u64 ((a * b) % 1073741789 : Nat)) ∧ w' = w := by
  have ha := ha'.out
  have hb := hb'.out
  have hm := mul_bd (Nat.le_of_lt ha) (Nat.le_of_lt hb)
  go_enter Tryz.func87, Tryz.ntmps87
  go_wp2
  go_ret
  exact ⟨ret_int (by simp), rfl⟩

theorem etimes_any (a b : Nat) (w : World) (ha' : EL a) (hb' : EL b) :
    Calls Tryz.prog 41 #[.int .u64 a, .int .u64 b] w fun e w' => e = .returned (.int .u64 ((a * b) % 2147483579 : Nat)) ∧ w' = w := by
  have ha := ha'.out
  have hb := hb'.out
  have hm := mul_bd (Nat.le_of_lt ha) (Nat.le_of_lt hb)
  go_enter Tryz.func41, Tryz.ntmps41
  go_wp2
  go_ret
  exact ⟨ret_int (by simp), rfl⟩

theorem scalarOf_yes (a : Nat) (w : World) (ha : SC a) :
    Calls Tryz.prog 85 #[.int .u64 a] w fun e w' => e = .returned (.tuple #[.int .u64 a, .bool true]) ∧ w' = w := by
  have ha' : ¬ (1073741789 : Int) ≤ a := by have := ha.out; omega
  clear ha
  go_enter Tryz.func85, Tryz.ntmps85
  go_wp2
  go_ret2
  exact ⟨rfl, rfl⟩

theorem scalarOf_no (a : Nat) (w : World) (ha : ¬ SC a) :
    Calls Tryz.prog 85 #[.int .u64 a] w fun e w' => e = .returned (.tuple #[.int .u64 0, .bool false]) ∧ w' = w := by
  have ha' : (1073741789 : Int) ≤ a := by have : ¬ a < 1073741789 := fun h => ha ⟨h⟩
                                          omega
  clear ha
  go_enter Tryz.func85, Tryz.ntmps85
  go_wp2
  go_ret2
  exact ⟨rfl, rfl⟩

end Go.Proofs.YteoioldbigomaaaGreat
namespace Go.Proofs.YteoioldbigomaaaGreat
open Go.RowKit

set_option maxHeartbeats 400000 in
theorem rpower_any (k : Nat) : ∀ (a n m : Nat) (w : World), n ≤ k → n ≤ 1073741789 → a < m → 1 < m → m ≤ 2147483579 →
    Calls Tryz.prog 27 #[.int .u64 a, .int .u64 n, .int .u64 m] w fun e w' => e = .returned (.int .u64 (M.pw m a n : Nat)) ∧ w' = w := by
  induction k with
  | zero =>
    intro a n m w hk _ ha hm hM
    obtain rfl : n = 0 := by omega
    go_enter Tryz.func27, Tryz.ntmps27
    go_wp2_with fail
    go_ret
    exact ⟨ret_int (by rw [M.pw_zero hm]; rfl), rfl⟩
  | succ k ih =>
    intro a n m w hk hn ha hm hM
    by_cases h0 : n = 0
    · subst h0
      go_enter Tryz.func27, Tryz.ntmps27
      go_wp2_with fail
      go_ret
      exact ⟨ret_int (by rw [M.pw_zero hm]; rfl), rfl⟩
    · have hl := M.pw_lt hm a (n / 2)
      have I := fun w => ih a (n / 2) m w (by omega) (by omega) ha hm hM
      obtain ⟨h, hh⟩ : ∃ h, h = M.pw m a (n / 2) := ⟨_, rfl⟩
      rw [← hh] at hl I
      have b1 := mul_bd (Nat.le_of_lt hl) (Nat.le_of_lt hl)
      have hr : h * h % m < m := Nat.mod_lt _ (by omega)
      have b2 := mul_bd (Nat.le_of_lt hr) (Nat.le_of_lt ha)
      have b3 : m * m ≤ 2147483579 * 2147483579 := Nat.mul_le_mul hM hM
      have b1' : (0 : Int) ≤ (h : Int) * h ∧ (h : Int) * h ≤ 4611685761425769241 := by omega
      have b2' : (0 : Int) ≤ ((h : Int) * h % m) * a ∧ ((h : Int) * h % m) * a ≤ 4611685761425769241 := by
        have e : ((h * h % m : Nat) : Int) = (h : Int) * h % m := by simp
        rw [e] at b2; omega
      have e0 : ((n / 2 : Nat) : Int) = (n : Int) / 2 := by omega
      have HH : Hid (h = M.pw m a (n / 2)) := hh
      simp only [e0] at I
      have z0 : ((n : Int) == 0) = false := by simp; omega
      have zm : ¬ (m : Int) = 0 := by omega
      clear ih hh b1 b2 b3 hr e0
      by_cases hodd : n % 2 = 1
      · have z1 : ((n : Int) % 2 == 1) = true := by simp; omega
        go_enter Tryz.func27, Tryz.ntmps27
        go_wp2_with (go_at_call 27; refine (I _).mono ?_; rintro e w' ⟨rfl, rfl⟩)
        go_ret
        refine ⟨ret_int ?_, rfl⟩
        rw [← M.pw_odd a n hodd, ← HH.out]; simp only [Int.natCast_mul, Int.natCast_emod]
      · have z1 : ((n : Int) % 2 == 1) = false := by simp; omega
        go_enter Tryz.func27, Tryz.ntmps27
        go_wp2_with (go_at_call 27; refine (I _).mono ?_; rintro e w' ⟨rfl, rfl⟩)
        go_ret
        refine ⟨ret_int ?_, rfl⟩
        rw [← M.pw_even a n (by omega), ← HH.out]; simp

theorem odd_of {E : Nat} (hE : E ≤ 1073741789) (h : (bits BinOp.and IntKind.u64 (E : Int) 1 == 1) = true) : E % 2 = 1 := by
  rw [and_one_u64 (E : Int) (by omega) (by omega)] at h
  simp at h; omega
theorem even_of {E : Nat} (hE : E ≤ 1073741789) (h : (bits BinOp.and IntKind.u64 (E : Int) 1 == 1) = false) : E % 2 = 0 := by
  rw [and_one_u64 (E : Int) (by omega) (by omega)] at h
  simp at h; omega

set_option maxHeartbeats 400000 in
theorem epow_any (a n : Nat) (w : World) (ha : EL a) (hn : n ≤ 1073741789) :
    Calls Tryz.prog 66 #[.func (.func 41) #[] #[], .int .u64 1, .int .u64 a, .int .u64 n] w fun e w' => e = .returned (.int .u64 (M.pw 2147483579 a n : Nat)) ∧ w' = w := by
  have S : Hid (M.Inv 2147483579 a n 1 a n) := M.inv_start (by omega) ha.out
  go_enter Tryz.func66, Tryz.ntmps66
  go_wp2_with fail
  go_loopw [2, 3, 9] (fun b e o wr => ∃ O B E : Nat, wr = w ∧ o = .int .u64 O ∧ b = .int .u64 B ∧ e = .int .u64 E ∧ E ≤ 1073741789 ∧ Hid (M.Inv 2147483579 a n O B E)) (fun _ e _ _ => (intOf e).toNat)
  case atStart => exact ⟨1, a, n, rfl, rfl, rfl, rfl, hn, S⟩
  case round =>
    obtain ⟨O, B, E, rfl, rfl, rfl, rfl, hE, HI⟩ := hrel
    clear S
    by_cases h0 : E = 0
    · subst h0
      go_wp2_with fail
      go_ret
      exact ⟨ret_int (by rw [M.inv_end HI.out]), rfl⟩
    · have hO : EL O := ⟨HI.out.1⟩
      have hB : EL B := ⟨HI.out.2.1⟩
      have hp : (0 : Int) < E := by omega
      go_wp2_with (go_at_call 41; refine (etimes_any _ _ _ (by assumption) (by assumption)).mono ?_; rintro e w' ⟨rfl, rfl⟩)
      · go_roundw
        case rel => exact ⟨O * B % 2147483579, B * B % 2147483579, E / 2, trivial, rfl, rfl, by go_num, by omega, M.inv_odd (by omega) HI.out (odd_of hE ‹_›)⟩
        case measure => simp [intOf]; omega
      · go_roundw
        case rel => exact ⟨O, B * B % 2147483579, E / 2, trivial, rfl, rfl, by go_num, by omega, M.inv_even (by omega) HI.out (even_of hE ‹_›)⟩
        case measure => simp [intOf]; omega
set_option maxHeartbeats 400000 in
theorem spow_any (a n : Nat) (w : World) (ha : SC a) (hn : n ≤ 1073741789) :
    Calls Tryz.prog 134 #[.func (.func 87) #[] #[], .int .u64 1, .int .u64 a, .int .u64 n] w fun e w' => e = .returned (.int .u64 (M.pw 1073741789 a n : Nat)) ∧ w' = w := by
  have S : Hid (M.Inv 1073741789 a n 1 a n) := M.inv_start (by omega) ha.out
  go_enter Tryz.func134, Tryz.ntmps134
  go_wp2_with fail
  go_loopw [2, 3, 9] (fun b e o wr => ∃ O B E : Nat, wr = w ∧ o = .int .u64 O ∧ b = .int .u64 B ∧ e = .int .u64 E ∧ E ≤ 1073741789 ∧ Hid (M.Inv 1073741789 a n O B E)) (fun _ e _ _ => (intOf e).toNat)
  case atStart => exact ⟨1, a, n, rfl, rfl, rfl, rfl, hn, S⟩
  case round =>
    obtain ⟨O, B, E, rfl, rfl, rfl, rfl, hE, HI⟩ := hrel
    clear S
    by_cases h0 : E = 0
    · subst h0
      go_wp2_with fail
      go_ret
      exact ⟨ret_int (by rw [M.inv_end HI.out]), rfl⟩
    · have hO : SC O := ⟨HI.out.1⟩
      have hB : SC B := ⟨HI.out.2.1⟩
      have hp : (0 : Int) < E := by omega
      go_wp2_with (go_at_call 87; refine (times_any _ _ _ (by assumption) (by assumption)).mono ?_; rintro e w' ⟨rfl, rfl⟩)
      · go_roundw
        case rel => exact ⟨O * B % 1073741789, B * B % 1073741789, E / 2, trivial, rfl, rfl, by go_num, by omega, M.inv_odd (by omega) HI.out (odd_of hE ‹_›)⟩
        case measure => simp [intOf]; omega
      · go_roundw
        case rel => exact ⟨O, B * B % 1073741789, E / 2, trivial, rfl, rfl, by go_num, by omega, M.inv_even (by omega) HI.out (even_of hE ‹_›)⟩
        case measure => simp [intOf]; omega

theorem power_any (a n : Nat) (w : World) (ha : EL a) (hn : n ≤ 1073741789) :
    Calls Tryz.prog 70 #[.int .u64 a, .int .u64 n] w fun e w' => e = .returned (.int .u64 (M.pw 2147483579 a n : Nat)) ∧ w' = w := by
  go_enter Tryz.func70, Tryz.ntmps70
  go_wp2_with (go_at_call 66; refine (epow_any _ _ _ (by assumption) (by assumption)).mono ?_; rintro e w' ⟨rfl, rfl⟩)
  go_ret
  exact ⟨rfl, rfl⟩

theorem toThe_any (n : Nat) (w : World) (hn : SC n) :
    Calls Tryz.prog 89 #[.int .u64 n] w fun e w' => e = .returned (.int .u64 (M.pw 2147483579 4 n : Nat)) ∧ w' = w := by
  have h4 : EL 4 := ⟨by omega⟩
  have hn' : n ≤ 1073741789 := Nat.le_of_lt hn.out
  have C := fun w => power_any 4 n w h4 hn'
  go_enter Tryz.func89, Tryz.ntmps89
  go_wp2_with (go_at_call 70; refine (C _).mono ?_; rintro e w' ⟨rfl, rfl⟩)
  go_ret
  exact ⟨rfl, rfl⟩

theorem base_any (n : Nat) (w : World) (hn : SC n) :
    Calls Tryz.prog 30 #[.int .u64 n] w fun e w' => e = .returned (.int .u64 (M.pw 2147483579 4 n : Nat)) ∧ w' = w := by
  have hn' : n ≤ 1073741789 := Nat.le_of_lt hn.out
  have C := fun w => rpower_any n 4 n 2147483579 w (Nat.le_refl _) hn' (by omega) (by omega) (by omega)
  clear hn'
  go_enter Tryz.func30, Tryz.ntmps30
  go_wp2_with (go_at_call 27; refine (C _).mono ?_; rintro e w' ⟨rfl, rfl⟩)
  go_ret
  exact ⟨rfl, rfl⟩

/-- a over b, modulo Q. -/
def M.over (a b : Nat) : Nat := a * M.pw 1073741789 b 1073741787 % 1073741789

theorem over_any (a b : Nat) (w : World) (ha : SC a) (hb : SC b) :
    Calls Tryz.prog 126 #[.int .u64 a, .int .u64 b] w fun e w' => e = .returned (.int .u64 (M.over a b : Nat)) ∧ w' = w := by
  have C := fun w => spow_any b 1073741787 w hb (by omega)
  have hp : SC (M.pw 1073741789 b 1073741787) := ⟨M.pw_lt (by omega) _ _⟩
  have D := fun w => times_any a (M.pw 1073741789 b 1073741787) w ha hp
  go_enter Tryz.func126, Tryz.ntmps126
  go_wp2_with (first | (go_at_call 134; refine (C _).mono ?_; rintro e w' ⟨rfl, rfl⟩) | (go_at_call 87; refine (D _).mono ?_; rintro e w' ⟨rfl, rfl⟩))
  go_ret
  exact ⟨rfl, rfl⟩

end Go.Proofs.YteoioldbigomaaaGreat
