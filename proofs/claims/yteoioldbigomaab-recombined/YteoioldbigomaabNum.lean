import Derived.Test.YteoioldbigomaabBase
import Derived.KernelRfl
/-
  The numbers of the group: Q is a prime, 4 has the order Q modulo P. Imports nothing of the dump.
-/
namespace Go.Proofs.Yteoioldbigomaab.M

/-- Powers by halves: f bounds the calls. -/
def fpw (m a : Nat) : Nat → Nat → Nat
  | 0, _ => 1 % m
  | f + 1, n => if n = 0 then 1 % m else if n % 2 = 1 then fpw m (a * a % m) f (n / 2) * a % m else fpw m (a * a % m) f (n / 2)

theorem fpw_eq (m : Nat) (f : Nat) : ∀ a n, n < 2 ^ f → fpw m a f n = pw m a n := by
  induction f with
  | zero =>
    intro a n h
    have : n = 0 := by simpa using h
    subst this
    simp [fpw, pw]
  | succ f ih =>
    intro a n h
    have h2 : n / 2 < 2 ^ f := by rw [Nat.pow_succ] at h; omega
    unfold fpw
    split
    · subst_vars; simp [pw]
    · have e : pw m (a * a % m) (n / 2) = (a * a) ^ (n / 2) % m := by unfold pw; rw [← Nat.pow_mod]
      rw [ih _ _ h2, e]
      split
      · rename_i ho
        rw [Nat.mod_mul_mod]
        unfold pw
        congr 1
        have := sq_half n a
        rw [ho, Nat.pow_one] at this
        exact this
      · rename_i ho
        unfold pw
        congr 1
        have := sq_half n a
        have h0 : n % 2 = 0 := by omega
        rw [h0, Nat.pow_zero, Nat.mul_one] at this
        exact this

theorem four_Q : pw 2147483579 4 1073741789 = 1 := by
  rw [← fpw_eq 2147483579 31 4 1073741789 (by decide)]
  decide +kernel

theorem pw_add (m a x y : Nat) : pw m a (x + y) = pw m a x * pw m a y % m := by
  unfold pw; rw [Nat.pow_add, Nat.mul_mod]

theorem pw_pw (m a x y : Nat) : pw m (pw m a x) y = pw m a (x * y) := by
  unfold pw; rw [← Nat.pow_mod, Nat.pow_mul]

theorem pw_one_mul {m a x : Nat} (hm : 1 < m) (h : pw m a x = 1) (k : Nat) : pw m a (x * k) = 1 := by
  rw [← pw_pw, h]; unfold pw; rw [Nat.one_pow]; exact Nat.mod_eq_of_lt hm

theorem pw_mod {m a x : Nat} (hm : 1 < m) (h : pw m a x = 1) (n : Nat) : pw m a (n % x) = pw m a n := by
  have e : n = x * (n / x) + n % x := (Nat.div_add_mod n x).symm
  have : pw m a n = pw m a (x * (n / x) + n % x) := by rw [← e]
  rw [this, pw_add, pw_one_mul hm h, Nat.one_mul]
  exact (Nat.mod_eq_of_lt (pw_lt hm _ _)).symm

theorem pw_gcd {m a : Nat} (hm : 1 < m) (x y : Nat) : pw m a x = 1 → pw m a y = 1 → pw m a (Nat.gcd x y) = 1 := by
  induction x, y using Nat.gcd.induction with
  | H0 n => intro _ h; rwa [Nat.gcd_zero_left]
  | H1 x y _ ih =>
    intro hx hy
    rw [Nat.gcd_rec]
    exact ih (by rw [pw_mod hm hx]; exact hy) hx

/-- No divisor among the 2^k numbers from lo on. -/
def noDiv (q : Nat) : Nat → Nat → Bool
  | lo, 0 => !(Nat.beq (q % lo) 0)
  | lo, k + 1 => noDiv q lo k && noDiv q (lo + 2 ^ k) k

theorem noDiv_sound (q : Nat) (k : Nat) : ∀ lo, noDiv q lo k = true → ∀ d, lo ≤ d → d < lo + 2 ^ k → q % d ≠ 0 := by
  induction k with
  | zero =>
    intro lo h d h1 h2 h3
    have : d = lo := by omega
    subst this
    simp [noDiv, h3] at h
  | succ k ih =>
    intro lo h d h1 h2
    simp only [noDiv, Bool.and_eq_true] at h
    rcases Nat.lt_or_ge d (lo + 2 ^ k) with hl | hl
    · exact ih lo h.1 d h1 hl
    · exact ih (lo + 2 ^ k) h.2 d hl (by rw [Nat.pow_succ] at h2; omega)

theorem noDiv_Q : noDiv 1073741789 2 15 = true := by decide +kernel

theorem Q_prime (g : Nat) (hg : g ∣ 1073741789) : g = 1 ∨ g = 1073741789 := by
  obtain ⟨h, e⟩ := hg
  rcases Nat.lt_or_ge g 2 with h1 | h1
  · have : g ≠ 0 := by rintro rfl; simp at e
    omega
  · rcases Nat.lt_or_ge h 2 with h2 | h2
    · have : h ≠ 0 := by rintro rfl; simp at e
      have : h = 1 := by omega
      subst this
      omega
    · exfalso
      rcases Nat.lt_or_ge g 32770 with h3 | h3
      · exact noDiv_sound _ _ _ noDiv_Q g h1 (by simpa using h3) (by rw [e]; exact Nat.mul_mod_right g h)
      · rcases Nat.lt_or_ge h 32770 with h4 | h4
        · exact noDiv_sound _ _ _ noDiv_Q h h2 (by simpa using h4) (by rw [e]; exact Nat.mul_mod_left g h)
        · have := Nat.mul_le_mul h3 h4
          omega

theorem four_ne_one (c : Nat) (h0 : 0 < c) (hc : c < 1073741789) : pw 2147483579 4 c ≠ 1 := by
  intro h
  have hg := pw_gcd (by omega) c 1073741789 h four_Q
  have hd : Nat.gcd c 1073741789 ∣ 1073741789 := Nat.gcd_dvd_right _ _
  have hle : Nat.gcd c 1073741789 ≤ c := Nat.gcd_le_left _ h0
  rcases Q_prime _ hd with h1 | h1
  · rw [h1] at hg
    exact absurd hg (by decide)
  · omega

theorem four_inj (a b : Nat) (hb : b < 1073741789) (hab : a < b) : pw 2147483579 4 a ≠ pw 2147483579 4 b := by
  intro h
  have h1 : pw 2147483579 4 (a + (1073741789 - a)) = 1 := by
    have : a + (1073741789 - a) = 1073741789 := by omega
    rw [this]; exact four_Q
  have h2 : pw 2147483579 4 (b + (1073741789 - a)) = 1 := by rw [pw_add, ← h, ← pw_add]; exact h1
  have h3 : b + (1073741789 - a) = 1073741789 + (b - a) := by omega
  rw [h3, pw_add, four_Q, Nat.one_mul, Nat.mod_eq_of_lt (pw_lt (by omega) _ _)] at h2
  exact four_ne_one (b - a) (by omega) (by omega) h2

end Go.Proofs.Yteoioldbigomaab.M
