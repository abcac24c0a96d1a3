/-
  Plain mathematics on Nat for the seat: powers modulo a number. Imports nothing of the dump.
-/
namespace Go.Proofs.Yteoioldbigomaaa.M

/-- a to the n, modulo m. -/
def pw (m a n : Nat) : Nat := a ^ n % m

theorem pw_lt {m : Nat} (h : 1 < m) (a n : Nat) : pw m a n < m := Nat.mod_lt _ (by omega)

theorem pw_zero {m : Nat} (h : 1 < m) (a : Nat) : pw m a 0 = 1 := by
  unfold pw; rw [Nat.pow_zero]; exact Nat.mod_eq_of_lt h

theorem half_sq (n : Nat) (a : Nat) : a ^ (n / 2) * a ^ (n / 2) * a ^ (n % 2) = a ^ n := by
  rw [← Nat.pow_add, ← Nat.pow_add]; congr 1; omega

theorem pw_odd {m : Nat} (a n : Nat) (h : n % 2 = 1) : pw m a (n / 2) * pw m a (n / 2) % m * a % m = pw m a n := by
  unfold pw
  have := half_sq n a
  rw [h, Nat.pow_one] at this
  rw [← this]
  rw [← Nat.mul_mod, Nat.mod_mul_mod]

theorem pw_even {m : Nat} (a n : Nat) (h : n % 2 = 0) : pw m a (n / 2) * pw m a (n / 2) % m = pw m a n := by
  unfold pw
  have := half_sq n a
  rw [h, Nat.pow_zero, Nat.mul_one] at this
  rw [← this, ← Nat.mul_mod]

/-- What the loop of number.power keeps. -/
def Inv (m b0 e0 out b e : Nat) : Prop := out < m ∧ b < m ∧ out * b ^ e % m = b0 ^ e0 % m

theorem inv_start {m b0 e0 : Nat} (h : 1 < m) (hb : b0 < m) : Inv m b0 e0 1 b0 e0 := ⟨h, hb, by rw [Nat.one_mul]⟩

theorem sq_half (n : Nat) (b : Nat) : (b * b) ^ (n / 2) * b ^ (n % 2) = b ^ n := by
  rw [Nat.mul_pow]; exact half_sq n b

theorem inv_odd {m b0 e0 out b e : Nat} (hm : 0 < m) (h : Inv m b0 e0 out b e) (ho : e % 2 = 1) : Inv m b0 e0 (out * b % m) (b * b % m) (e / 2) := by
  obtain ⟨_, _, h3⟩ := h
  refine ⟨Nat.mod_lt _ hm, Nat.mod_lt _ hm, ?_⟩
  rw [← h3, ← sq_half e b, ho, Nat.pow_one]
  rw [Nat.mod_mul_mod, Nat.mul_mod, ← Nat.pow_mod, ← Nat.mul_mod]
  congr 1
  rw [Nat.mul_assoc, Nat.mul_comm b]

theorem inv_even {m b0 e0 out b e : Nat} (hm : 0 < m) (h : Inv m b0 e0 out b e) (ho : e % 2 = 0) : Inv m b0 e0 out (b * b % m) (e / 2) := by
  obtain ⟨h1, _, h3⟩ := h
  refine ⟨h1, Nat.mod_lt _ hm, ?_⟩
  rw [← h3, ← sq_half e b, ho, Nat.pow_zero, Nat.mul_one]
  rw [Nat.mul_mod, ← Nat.pow_mod, ← Nat.mul_mod]

theorem inv_end {m b0 e0 out b : Nat} (h : Inv m b0 e0 out b 0) : out = pw m b0 e0 := by
  obtain ⟨h1, _, h3⟩ := h
  unfold pw
  rw [← h3, Nat.pow_zero, Nat.mul_one, Nat.mod_eq_of_lt h1]

end Go.Proofs.Yteoioldbigomaaa.M
