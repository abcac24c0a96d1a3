import Derived.Test.YteoioldbigomaaaChk
namespace Go.Proofs.Yteoioldbigomaaa
open Go.RowKit

set_option maxHeartbeats 1000000 in
theorem right_fit (t n : Int) (a : Option Addr) (len c : Nat) (w : World) (h : ¬ Fits t n len) :
    Calls Try.prog 34 #[.agg #[.int .i64 t, .int .i64 n, .slice a len c]] w fun e w' => e = .returned (.bool false) ∧ Below w.heap.size w w' := by
  have H : Hid (¬ Fits t n len) := h
  clear h
  by_cases h1 : t < 2
  · go_enter Try.func34, Try.ntmps34
    go_wp2_with fail
    go_ret
    exact ⟨rfl, below_alloc _ _⟩
  · by_cases h2 : n < t
    · go_enter Try.func34, Try.ntmps34
      go_wp2_with fail
      go_ret
      exact ⟨rfl, below_alloc _ _⟩
    · by_cases h3 : 9 < n
      · go_enter Try.func34, Try.ntmps34
        go_wp2_with fail
        go_ret
        exact ⟨rfl, below_alloc _ _⟩
      · have h4 : ((len : Int) != t) = true := by
          simp; intro e; exact H.out ⟨by omega, by omega, by omega, e⟩
        go_enter Try.func34, Try.ntmps34
        go_wp2_with fail
        go_ret
        exact ⟨rfl, below_alloc _ _⟩

set_option maxHeartbeats 1000000 in
theorem right_core (a : Option Addr) (N T c : Nat) (f : Nat → Nat) (w : World) (h2 : 2 ≤ T) (hTN : T ≤ N) (h9 : N ≤ 9) (hr : RdF w a T (cu (M.sq f T))) :
    Calls Try.prog 34 #[.agg #[.int .i64 T, .int .i64 N, .slice a T c]] w fun e w' => Below w.heap.size w w' ∧
      (((f 0 ≠ 1 ∧ ∀ i, i < T → ISE (f i)) ∧ e = .returned (.bool true)) ∨ (¬ (f 0 ≠ 1 ∧ ∀ i, i < T → ISE (f i)) ∧ e = .returned (.bool false))) := by
  obtain ⟨b, o, rfl, hb, hc⟩ := hr.at (by omega)
  obtain ⟨x0, hx0⟩ : ∃ x0, x0 = f 0 := ⟨_, rfl⟩
  have hc0 : w.cell? ⟨b, o, none⟩ = some (.int .u64 (x0 : Int)) := by
    have := hc 0 (by omega)
    rw [M.cu_sq _ _ _ (by omega), ← hx0] at this; exact this
  have h2i : (2 : Int) ≤ T := by omega
  have HC : Hid (∀ i, i < T → w.cell? ⟨b, o + i, none⟩ = some (cu (M.sq f T) i)) := hc
  have HX0 : Hid (x0 = f 0) := hx0
  have d1 : decide ((T : Int) < 2) = false := by simp; omega
  have d2 : decide (N < T) = false := by simp; omega
  have d3 : decide ((9 : Int) < N) = false := by simp; omega
  clear hc hr hx0
  by_cases h1 : x0 = 1
  · subst h1
    go_enter Try.func34, Try.ntmps34
    go_wp2_with fail
    go_ret
    exact ⟨below_alloc _ _, .inr ⟨fun h => h.1 HX0.out.symm, rfl⟩⟩
  · have hne : ((x0 : Int) == 1) = false := by simp; omega
    go_enter Try.func34, Try.ntmps34
    go_wp2_with fail
    go_loopw [38] (fun i wr => ∃ k : Nat, k ≤ T ∧ i = .int .i64 k ∧ wr = w.alloc (gro T N (some ⟨b, o, none⟩) T c) ∧ Hid (∀ i, i < k → ISE (f i))) (fun i _ => T - (intOf i).toNat)
    case atStart => exact ⟨0, Nat.zero_le _, rfl, rfl, fun i hi => absurd hi (Nat.not_lt_zero i)⟩
    case round =>
      obtain ⟨k, hk, rfl, rfl, HK⟩ := hrel
      by_cases hlt : k < T
      · obtain ⟨x, hx⟩ : ∃ x, x = f k := ⟨_, rfl⟩
        have HX : Hid (x = f k) := hx
        have hcx : w.cell? ⟨b, o + k, none⟩ = some (.int .u64 (x : Int)) := by rw [HC.out k hlt, M.cu_sq _ _ _ hlt, hx]
        clear hx HC
        by_cases hs : ISE x
        · go_wp2_with (go_at_call 53; refine (relement_yes _ _ hs).mono ?_; rintro e w' ⟨rfl, hw'⟩; subst hw')
          go_roundw
          case rel =>
            refine ⟨k + 1, by omega, by go_num, trivial, ?_⟩
            intro i hi
            rcases Nat.lt_or_eq_of_le (Nat.le_of_lt_succ hi) with hl | rfl
            · exact HK.out i hl
            · rw [← HX.out]; exact hs
          case measure => simp [intOf]; omega
        · go_wp2_with (go_at_call 53; refine (relement_no _ _ hs).mono ?_; rintro e w' ⟨rfl, hw'⟩; subst hw')
          go_ret
          exact ⟨below_alloc _ _, .inr ⟨fun h => hs (by rw [HX.out]; exact h.2 k hlt), rfl⟩⟩
      · go_wp2_with fail
        go_ret
        refine ⟨below_alloc _ _, .inl ⟨⟨fun h => h1 (HX0.out.trans h), fun i hi => HK.out i (by omega)⟩, rfl⟩⟩
end Go.Proofs.Yteoioldbigomaaa
