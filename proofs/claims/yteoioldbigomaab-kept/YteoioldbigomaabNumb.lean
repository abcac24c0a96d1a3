import Derived.Test.YteoioldbigomaabNum
/-
  Values at some of the places 1 to 9, weighed, come to the value at 0: looked at for each choice of places and each power, by the kernel. Imports nothing of the dump.
-/
namespace Go.Proofs.Yteoioldbigomaab.M

/-- j / (j - i) modulo Q. -/
def tab (i j : Nat) : Nat := (([[0, 0, 0, 0, 0, 0, 0, 0, 0, 0],
   [0, 0, 2, 536870896, 357913931, 805306343, 214748359, 178956966, 920350106, 402653172],
   [0, 1073741788, 0, 3, 2, 715827861, 536870896, 429496717, 357913931, 766958422],
   [0, 536870894, 1073741787, 0, 4, 536870897, 2, 268435449, 644245075, 536870896],
   [0, 715827859, 1073741788, 1073741786, 0, 5, 3, 357913932, 2, 858993433],
   [0, 268435447, 357913929, 536870893, 1073741785, 0, 6, 536870898, 715827862, 805306344],
   [0, 858993431, 536870894, 1073741788, 1073741787, 1073741784, 0, 7, 4, 3],
   [0, 894784824, 644245073, 805306341, 715827858, 536870892, 1073741783, 0, 8, 536870899],
   [0, 153391684, 715827859, 429496715, 1073741788, 357913928, 1073741786, 1073741782, 0, 9],
   [0, 671088618, 306783368, 536870894, 214748357, 268435446, 1073741787, 536870891, 1073741781, 0]] : List (List Nat)).getD i []).getD j 0

def tabOk : Bool := (List.range 10).all fun i => (List.range 10).all fun j => Nat.beq i j || Nat.beq i 0 || Nat.beq (j * fpw 1073741789 ((j + 1073741789 - i) % 1073741789) 31 1073741787 % 1073741789) (tab i j)

theorem tabOk_true : tabOk = true := by decide +kernel

theorem tab_eq (i j : Nat) (hi : i < 10) (hj : j < 10) (h0 : i ≠ 0) (hij : i ≠ j) : j * pw 1073741789 ((j + 1073741789 - i) % 1073741789) 1073741787 % 1073741789 = tab i j := by
  have h := tabOk_true
  unfold tabOk at h
  rw [List.all_eq_true] at h
  have h1 := h i (by simpa using hi)
  rw [List.all_eq_true] at h1
  have h2 := h1 j (by simpa using hj)
  rw [← fpw_eq 1073741789 31 _ _ (by decide)]
  simp only [Bool.or_eq_true, Nat.beq_eq] at h2
  rcases h2 with (h2 | h2) | h2
  · exact absurd h2 hij
  · exact absurd h2 h0
  · exact h2

def wstep (x a y : Nat) : Nat := if Nat.beq y x then a else a * tab x y % 1073741789
def wtL (l : List Nat) (x : Nat) : Nat := l.foldl (wstep x) 1

theorem wstep_self (x a : Nat) : wstep x a x = a := by
  unfold wstep
  have : Nat.beq x x = true := by rw [Nat.beq_eq]
  rw [this, if_pos rfl]

theorem wstep_other (x a y : Nat) (h : y ≠ x) : wstep x a y = a * tab x y % 1073741789 := by
  unfold wstep
  have : Nat.beq y x = false := by rw [← Bool.not_eq_true, Nat.beq_eq]; exact h
  rw [this, if_neg (by decide)]

theorem foldl_range_succ (d : Nat → Nat) (g : Nat → Nat → Nat) (m : Nat) : ((List.range (m + 1)).map d).foldl g 1 = g (((List.range m).map d).foldl g 1) (d m) := by
  rw [List.range_succ, List.map_append, List.foldl_append]; rfl
def lagr (l : List Nat) (k : Nat) : Nat := l.foldl (fun a x => a + x ^ k % 1073741789 * wtL l x) 0 % 1073741789
def check (l : List Nat) : Bool := (List.range l.length).all fun k => Nat.beq (lagr l k) (if Nat.beq k 0 then 1 else 0)

/-- What can be chosen of a list, in its order. -/
def subs : List Nat → List (List Nat)
  | [] => [[]]
  | a :: l => subs l ++ (subs l).map fun t => a :: t

theorem all_checked : (subs [1, 2, 3, 4, 5, 6, 7, 8, 9]).all check = true := by decide +kernel

theorem mem_subs (m : Nat) : ∀ (a : Nat) (l : List Nat), l.Pairwise (· < ·) → (∀ x ∈ l, a ≤ x ∧ x < a + m) → l ∈ subs (List.range' a m) := by
  induction m with
  | zero =>
    intro a l _ h
    cases l with
    | nil => simp [subs]
    | cons x t => have := h x (by simp); omega
  | succ m ih =>
    intro a l hp h
    rw [List.range'_succ]
    unfold subs
    rw [List.mem_append]
    cases l with
    | nil => exact .inl (ih (a + 1) [] List.Pairwise.nil (fun x hx => by simp at hx))
    | cons x t =>
      rw [List.pairwise_cons] at hp
      by_cases hx : x = a
      · subst hx
        refine .inr (List.mem_map.2 ⟨t, ih (x + 1) t hp.2 (fun y hy => ?_), rfl⟩)
        have h1 := hp.1 y hy
        have h2 := h y (by simp [hy])
        omega
      · refine .inl (ih (a + 1) (x :: t) (List.pairwise_cons.2 hp) (fun y hy => ?_))
        have hxa := h x (by simp)
        rcases List.mem_cons.1 hy with rfl | hy'
        · omega
        · have h1 := hp.1 y hy'
          have h2 := h y (by simp [hy'])
          omega

theorem lagr_of (l : List Nat) (hp : l.Pairwise (· < ·)) (h : ∀ x ∈ l, 1 ≤ x ∧ x ≤ 9) (k : Nat) (hk : k < l.length) : lagr l k = if k = 0 then 1 else 0 := by
  have hm := mem_subs 9 1 l hp (fun x hx => by have := h x hx; omega)
  have hall := all_checked
  rw [List.all_eq_true] at hall
  have hc := hall l hm
  unfold check at hc
  rw [List.all_eq_true] at hc
  have := hc k (by simpa using hk)
  rw [Nat.beq_eq] at this
  rw [this]
  by_cases h0 : k = 0
  · subst h0; rfl
  · have : Nat.beq k 0 = false := by
      rw [← Bool.not_eq_true, Nat.beq_eq]; exact h0
    rw [this, if_neg h0]; rfl

/-- Sums of plain numbers. -/
def S : Nat → (Nat → Nat) → Nat
  | 0, _ => 0
  | n + 1, F => S n F + F n

theorem S_congr {n : Nat} {F G : Nat → Nat} (h : ∀ i, i < n → F i = G i) : S n F = S n G := by
  induction n with
  | zero => rfl
  | succ n ih => simp only [S]; rw [ih (fun i hi => h i (by omega)), h n (by omega)]

theorem S_mod {n q : Nat} {F G : Nat → Nat} (h : ∀ i, i < n → F i % q = G i % q) : S n F % q = S n G % q := by
  induction n with
  | zero => rfl
  | succ n ih => simp only [S]; rw [Nat.add_mod, ih (fun i hi => h i (by omega)), h n (by omega), ← Nat.add_mod]

theorem S_mul (n : Nat) (F : Nat → Nat) (c : Nat) : S n F * c = S n (fun i => F i * c) := by
  induction n with
  | zero => simp [S]
  | succ n ih => simp only [S]; rw [Nat.add_mul, ih]

theorem S_add (n : Nat) (F G : Nat → Nat) : S n (fun i => F i + G i) = S n F + S n G := by
  induction n with
  | zero => rfl
  | succ n ih => simp only [S]; rw [ih]; omega

theorem S_zero (n : Nat) : S n (fun _ => 0) = 0 := by
  induction n with
  | zero => rfl
  | succ n ih => simp only [S]; rw [ih]

theorem S_swap (n m : Nat) (G : Nat → Nat → Nat) : S n (fun i => S m (fun k => G i k)) = S m (fun k => S n (fun i => G i k)) := by
  induction n with
  | zero => simp only [S]; rw [S_zero]
  | succ n ih => simp only [S]; rw [ih, ← S_add]

theorem foldl_S (d : Nat → Nat) (G : Nat → Nat) (n : Nat) : ((List.range n).map d).foldl (fun a x => a + G x) 0 = S n (fun i => G (d i)) := by
  induction n with
  | zero => rfl
  | succ n ih => rw [List.range_succ, List.map_append, List.foldl_append, ih]; rfl

theorem S_first (T q : Nat) (f L : Nat → Nat) (hT : 0 < T) (h0 : L 0 % q = 1) (h : ∀ k, k < T → k ≠ 0 → L k % q = 0) : S T (fun k => f k * L k) % q = f 0 % q := by
  induction T with
  | zero => omega
  | succ T ih =>
    simp only [S]
    rcases Nat.eq_zero_or_pos T with rfl | hp
    · simp only [S]
      rw [Nat.zero_add, Nat.mul_mod, h0, Nat.mul_one, Nat.mod_mod]
    · rw [Nat.add_mod, ih hp (fun k hk hne => h k (by omega) hne), Nat.mul_mod (f T), h T (by omega) (by omega), Nat.mul_zero, Nat.zero_mod, Nat.add_zero, Nat.mod_mod]

end Go.Proofs.Yteoioldbigomaab.M
