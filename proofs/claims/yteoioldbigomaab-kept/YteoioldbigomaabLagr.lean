import Derived.Test.YteoioldbigomaabComb
import Derived.Test.YteoioldbigomaabChk
import Derived.Test.YteoioldbigomaabNumb
namespace Go.Proofs.Yteoioldbigomaab
open Go.RowKit

theorem M.sq_succ (F : Nat → Nat) (n : Nat) : M.sq F (n + 1) = M.sq F n ++ [F n] := by
  simp [M.sq, List.range_succ]

theorem M.sumQ_sq (F : Nat → Nat) (n : Nat) : M.sumQ (M.sq F n) = M.S n F % 1073741789 := by
  induction n with
  | zero => rfl
  | succ n ih => rw [M.sq_succ, M.sumQ_snoc, ih, Nat.mod_add_mod]; rfl

theorem M.part_tab (i j : Nat) (hi : i < 10) (hj : j < 10) (h0 : i ≠ 0) (hij : i ≠ j) : M.part i j = M.tab i j := by
  have h := M.tab_eq i j hi hj h0 hij
  unfold M.part M.over
  exact h

theorem M.prodQ_nil : M.prodQ [] = 1 := rfl

theorem M.parts_zero (d : Nat → Nat) (i : Nat) : M.parts d i 0 = [] := rfl

theorem M.wtL_eq (d : Nat → Nat) (n i : Nat) (hd : ∀ j, j < n → 1 ≤ d j ∧ d j ≤ 9) (hne : ∀ j, j < n → j ≠ i → d j ≠ d i) (hi : 1 ≤ d i ∧ d i ≤ 9) (m : Nat) (hm : m ≤ n) :
    ((List.range m).map d).foldl (M.wstep (d i)) 1 = M.prodQ (M.parts d i m) := by
  induction m with
  | zero => rw [M.parts_zero, M.prodQ_nil]; rfl
  | succ m ih =>
    rw [M.foldl_range_succ, ih (by omega)]
    by_cases h : m = i
    · subst h
      rw [M.parts_self, M.wstep_self]
    · have h1 := hd m (by omega)
      rw [M.wstep_other _ _ _ (hne m (by omega) h), M.parts_other d h, M.prodQ_snoc, M.part_tab (d i) (d m) (by omega) (by omega) (by omega) (fun e => hne m (by omega) h e.symm)]

theorem M.wt_eq (d : Nat → Nat) (n i : Nat) (hin : i < n) (hd : ∀ j, j < n → 1 ≤ d j ∧ d j ≤ 9) (hne : ∀ j k, j < n → k < n → j ≠ k → d j ≠ d k) : M.wtL (M.sq d n) (d i) = M.wt d n i :=
  M.wtL_eq d n i hd (fun j hj hji => hne j i hj hin hji) (hd i hin) n (Nat.le_refl _)

theorem M.sq_pairwise (d : Nat → Nat) (n : Nat) (h : ∀ i j, i < j → j < n → d i < d j) : (M.sq d n).Pairwise (· < ·) := by
  unfold M.sq
  rw [List.pairwise_map]
  refine List.Pairwise.imp_of_mem ?_ List.pairwise_lt_range
  intro a b _ hb hab
  exact h a b hab (by simpa using hb)

theorem M.lagrange (d : Nat → Nat) (n : Nat) (hd : ∀ j, j < n → 1 ≤ d j ∧ d j ≤ 9) (hlt : ∀ i j, i < j → j < n → d i < d j) (k : Nat) (hk : k < n) :
    M.S n (fun i => M.pw 1073741789 (d i) k * M.wt d n i) % 1073741789 = if k = 0 then 1 else 0 := by
  have hne : ∀ j k, j < n → k < n → j ≠ k → d j ≠ d k := by
    intro j k hj hk hjk
    rcases Nat.lt_or_gt_of_ne hjk with h | h
    · exact Nat.ne_of_lt (hlt j k h hk)
    · exact Nat.ne_of_gt (hlt k j h hj)
  have h := M.lagr_of (M.sq d n) (M.sq_pairwise d n hlt) (fun x hx => by obtain ⟨i, hi, rfl⟩ := M.sq_mem hx; exact hd i hi) k (by rw [M.sq_len]; exact hk)
  rw [← h]
  unfold M.lagr
  have e := M.foldl_S d (fun x => x ^ k % 1073741789 * M.wtL (M.sq d n) x) n
  show _ = ((List.range n).map d).foldl _ 0 % _
  rw [e]
  congr 1
  apply M.S_congr
  intro i hi
  rw [M.wt_eq d n i hi hd hne]
  rfl

theorem M.comb_first (d f : Nat → Nat) (n T : Nat) (hT : 0 < T) (hTn : T ≤ n) (hd : ∀ j, j < n → 1 ≤ d j ∧ d j ≤ 9) (hlt : ∀ i j, i < j → j < n → d i < d j) (h0 : SC (f 0)) :
    M.comb d (fun i => M.poly f T (d i)) n = f 0 := by
  unfold M.comb
  rw [M.sumQ_sq]
  have e1 : M.S n (fun i => M.poly f T (d i) * M.wt d n i % 1073741789) % 1073741789 = M.S n (fun i => M.S T (fun k => f k * (M.pw 1073741789 (d i) k * M.wt d n i))) % 1073741789 := by
    apply M.S_mod
    intro i _
    rw [Nat.mod_mod]
    unfold M.poly
    rw [M.sumQ_sq, Nat.mod_mul_mod, M.S_mul]
    apply M.S_mod
    intro k _
    unfold M.term
    rw [Nat.mod_mul_mod, Nat.mul_assoc]
  rw [e1, M.S_swap]
  have e2 : M.S T (fun k => M.S n (fun i => f k * (M.pw 1073741789 (d i) k * M.wt d n i))) = M.S T (fun k => f k * M.S n (fun i => M.pw 1073741789 (d i) k * M.wt d n i)) := by
    apply M.S_congr
    intro k _
    rw [Nat.mul_comm (f k), M.S_mul]
    apply M.S_congr
    intro i _
    exact Nat.mul_comm _ _
  rw [e2, M.S_first T 1073741789 f (fun k => M.S n (fun i => M.pw 1073741789 (d i) k * M.wt d n i)) hT (by simpa using M.lagrange d n hd hlt 0 (by omega)) (fun k hk hk0 => by simpa [hk0] using M.lagrange d n hd hlt k (by omega))]
  exact Nat.mod_eq_of_lt h0.out

theorem M.pw_zero_base (m n : Nat) (hn : 0 < n) : M.pw m 0 n = 0 := by
  unfold M.pw; rw [Nat.zero_pow hn, Nat.zero_mod]

theorem M.ise_four (c : Nat) : ISE (M.pw 2147483579 4 c) := by
  have h : M.pw 2147483579 (M.pw 2147483579 4 c) 1073741789 = 1 := by
    rw [M.pw_pw, Nat.mul_comm]
    exact M.pw_one_mul (by omega) M.four_Q c
  refine ⟨?_, (EL.pw 4 c).out, h⟩
  rcases Nat.eq_zero_or_pos (M.pw 2147483579 4 c) with h0 | hp
  · rw [h0, M.pw_zero_base 2147483579 1073741789 (by omega)] at h
    exact absurd h (by decide)
  · exact hp

theorem M.pub_coms (f : Nat → Nat) (T x : Nat) : M.pub (M.coms f) T x = M.pw 2147483579 4 (M.poly f T x) := by
  unfold M.pub M.poly
  induction T with
  | zero => rfl
  | succ T ih =>
    rw [M.sq_succ, M.prodP_snoc, ih, M.sq_succ, M.sumQ_snoc]
    rw [M.pw_mod (by omega) M.four_Q, M.pw_add]
    unfold M.coms M.term
    rw [M.pw_pw, M.pw_mod (by omega) M.four_Q]

theorem M.pub_one (f : Nat → Nat) (T x sh : Nat) (hs : SC sh) : (M.pw 2147483579 4 sh = M.pub (M.coms f) T x) ↔ sh = M.poly f T x := by
  rw [M.pub_coms]
  constructor
  · intro h
    have hp : SC (M.poly f T x) := M.sumQ_lt _
    rcases Nat.lt_trichotomy sh (M.poly f T x) with hl | he | hl
    · exact absurd h (M.four_inj _ _ hp.out hl)
    · exact he
    · exact absurd h.symm (M.four_inj _ _ hs.out hl)
  · intro h; rw [h]

theorem M.right_coms (f : Nat → Nat) (T N : Nat) (h2 : 2 ≤ T) (hTN : T ≤ N) (h9 : N ≤ 9) (h0 : f 0 ≠ 0) (hs : SC (f 0)) : RightG T N T (M.coms f) :=
  ⟨⟨by omega, by omega, by omega, rfl⟩, fun i _ => M.ise_four _, M.four_ne_one _ (by omega) hs.out⟩
end Go.Proofs.Yteoioldbigomaab
