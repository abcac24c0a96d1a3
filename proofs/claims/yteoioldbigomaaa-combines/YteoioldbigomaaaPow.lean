import Derived.Test.YteoioldbigomaaaLeaf
import Derived.WalkSmall
namespace Go.Proofs.Yteoioldbigomaaa
open Go.RowKit

set_option maxHeartbeats 400000 in
theorem rpower_any (k : Nat) : ∀ (a n m : Nat) (w : World), n ≤ k → n ≤ 1073741789 → a < m → 1 < m → m ≤ 2147483579 →
    Calls Try.prog 54 #[.int .u64 a, .int .u64 n, .int .u64 m] w fun e w' => e = .returned (.int .u64 (M.pw m a n : Nat)) ∧ w' = w := by
  induction k with
  | zero =>
    intro a n m w hk _ ha hm hM
    obtain rfl : n = 0 := by omega
    go_enter Try.func54, Try.ntmps54
    go_wp2_with fail
    go_ret
    exact ⟨ret_int (by rw [M.pw_zero hm]; rfl), rfl⟩
  | succ k ih =>
    intro a n m w hk hn ha hm hM
    by_cases h0 : n = 0
    · subst h0
      go_enter Try.func54, Try.ntmps54
      go_wp2_with fail
      go_ret
      exact ⟨ret_int (by rw [M.pw_zero hm]; rfl), rfl⟩
    · have hl := M.pw_lt hm a (n / 2)
      have I := fun w => ih a (n / 2) m w (by omega) (by omega) ha hm hM
      obtain ⟨h, hh⟩ : ∃ h, h = M.pw m a (n / 2) := ⟨_, rfl⟩
      rw [← hh] at hl I
      have b1 := mul_bd (Nat.le_of_lt hl) (Nat.le_of_lt hl)
      have hr : h * h % m < m := Nat.mod_lt _ (by omega)
      have b2 := mul_bd (Nat.le_of_lt hr) (Nat.le_of_lt ha)
      have b3 : m * m ≤ 2147483579 * 2147483579 := Nat.mul_le_mul hM hM
      have b1' : (0 : Int) ≤ (h : Int) * h ∧ (h : Int) * h ≤ 4611685761425769241 := by omega
      have b2' : (0 : Int) ≤ ((h : Int) * h % m) * a ∧ ((h : Int) * h % m) * a ≤ 4611685761425769241 := by
        have e : ((h * h % m : Nat) : Int) = (h : Int) * h % m := by simp
        rw [e] at b2; omega
      have e0 : ((n / 2 : Nat) : Int) = (n : Int) / 2 := by omega
      have HH : Hid (h = M.pw m a (n / 2)) := hh
      simp only [e0] at I
      have z0 : ((n : Int) == 0) = false := by simp; omega
      have zm : ¬ (m : Int) = 0 := by omega
      clear ih hh b1 b2 b3 hr e0
      by_cases hodd : n % 2 = 1
      · have z1 : ((n : Int) % 2 == 1) = true := by simp; omega
        go_enter Try.func54, Try.ntmps54
        go_wp2_with (go_at_call 54; refine (I _).mono ?_; rintro e w' ⟨rfl, rfl⟩)
        go_ret
        refine ⟨ret_int ?_, rfl⟩
        rw [← M.pw_odd a n hodd, ← HH.out]; simp only [Int.natCast_mul, Int.natCast_emod]
      · have z1 : ((n : Int) % 2 == 1) = false := by simp; omega
        go_enter Try.func54, Try.ntmps54
        go_wp2_with (go_at_call 54; refine (I _).mono ?_; rintro e w' ⟨rfl, rfl⟩)
        go_ret
        refine ⟨ret_int ?_, rfl⟩
        rw [← M.pw_even a n (by omega), ← HH.out]; simp

theorem odd_of {E : Nat} (hE : E ≤ 1073741789) (h : (bits BinOp.and IntKind.u64 (E : Int) 1 == 1) = true) : E % 2 = 1 := by
  rw [and_one_u64 (E : Int) (by omega) (by omega)] at h
  simp at h; omega
theorem even_of {E : Nat} (hE : E ≤ 1073741789) (h : (bits BinOp.and IntKind.u64 (E : Int) 1 == 1) = false) : E % 2 = 0 := by
  rw [and_one_u64 (E : Int) (by omega) (by omega)] at h
  simp at h; omega

set_option maxHeartbeats 400000 in
theorem epow_any (a n : Nat) (w : World) (ha : EL a) (hn : n ≤ 1073741789) :
    Calls Try.prog 65 #[.func (.func 50) #[] #[], .int .u64 1, .int .u64 a, .int .u64 n] w fun e w' => e = .returned (.int .u64 (M.pw 2147483579 a n : Nat)) ∧ w' = w := by
  have S : Hid (M.Inv 2147483579 a n 1 a n) := M.inv_start (by omega) ha.out
  go_enter Try.func65, Try.ntmps65
  go_wp2_with fail
  go_loopw [2, 3, 9] (fun b e o wr => ∃ O B E : Nat, wr = w ∧ o = .int .u64 O ∧ b = .int .u64 B ∧ e = .int .u64 E ∧ E ≤ 1073741789 ∧ Hid (M.Inv 2147483579 a n O B E)) (fun _ e _ _ => (intOf e).toNat)
  case atStart => exact ⟨1, a, n, rfl, rfl, rfl, rfl, hn, S⟩
  case round =>
    obtain ⟨O, B, E, rfl, rfl, rfl, rfl, hE, HI⟩ := hrel
    clear S
    by_cases h0 : E = 0
    · subst h0
      go_wp2_with fail
      go_ret
      exact ⟨ret_int (by rw [M.inv_end HI.out]), rfl⟩
    · have hO : EL O := ⟨HI.out.1⟩
      have hB : EL B := ⟨HI.out.2.1⟩
      have hp : (0 : Int) < E := by omega
      go_wp2_with (go_at_call 50; refine (etimes_any _ _ _ (by assumption) (by assumption)).mono ?_; rintro e w' ⟨rfl, rfl⟩)
      · go_roundw
        case rel => exact ⟨O * B % 2147483579, B * B % 2147483579, E / 2, trivial, rfl, rfl, by go_num, by omega, M.inv_odd (by omega) HI.out (odd_of hE ‹_›)⟩
        case measure => simp [intOf]; omega
      · go_roundw
        case rel => exact ⟨O, B * B % 2147483579, E / 2, trivial, rfl, rfl, by go_num, by omega, M.inv_even (by omega) HI.out (even_of hE ‹_›)⟩
        case measure => simp [intOf]; omega
set_option maxHeartbeats 400000 in
theorem spow_any (a n : Nat) (w : World) (ha : SC a) (hn : n ≤ 1073741789) :
    Calls Try.prog 79 #[.func (.func 40) #[] #[], .int .u64 1, .int .u64 a, .int .u64 n] w fun e w' => e = .returned (.int .u64 (M.pw 1073741789 a n : Nat)) ∧ w' = w := by
  have S : Hid (M.Inv 1073741789 a n 1 a n) := M.inv_start (by omega) ha.out
  go_enter Try.func79, Try.ntmps79
  go_wp2_with fail
  go_loopw [2, 3, 9] (fun b e o wr => ∃ O B E : Nat, wr = w ∧ o = .int .u64 O ∧ b = .int .u64 B ∧ e = .int .u64 E ∧ E ≤ 1073741789 ∧ Hid (M.Inv 1073741789 a n O B E)) (fun _ e _ _ => (intOf e).toNat)
  case atStart => exact ⟨1, a, n, rfl, rfl, rfl, rfl, hn, S⟩
  case round =>
    obtain ⟨O, B, E, rfl, rfl, rfl, rfl, hE, HI⟩ := hrel
    clear S
    by_cases h0 : E = 0
    · subst h0
      go_wp2_with fail
      go_ret
      exact ⟨ret_int (by rw [M.inv_end HI.out]), rfl⟩
    · have hO : SC O := ⟨HI.out.1⟩
      have hB : SC B := ⟨HI.out.2.1⟩
      have hp : (0 : Int) < E := by omega
      go_wp2_with (go_at_call 40; refine (times_any _ _ _ (by assumption) (by assumption)).mono ?_; rintro e w' ⟨rfl, rfl⟩)
      · go_roundw
        case rel => exact ⟨O * B % 1073741789, B * B % 1073741789, E / 2, trivial, rfl, rfl, by go_num, by omega, M.inv_odd (by omega) HI.out (odd_of hE ‹_›)⟩
        case measure => simp [intOf]; omega
      · go_roundw
        case rel => exact ⟨O, B * B % 1073741789, E / 2, trivial, rfl, rfl, by go_num, by omega, M.inv_even (by omega) HI.out (even_of hE ‹_›)⟩
        case measure => simp [intOf]; omega

theorem power_any (a n : Nat) (w : World) (ha : EL a) (hn : n ≤ 1073741789) :
    Calls Try.prog 51 #[.int .u64 a, .int .u64 n] w fun e w' => e = .returned (.int .u64 (M.pw 2147483579 a n : Nat)) ∧ w' = w := by
  go_enter Try.func51, Try.ntmps51
  go_wp2_with (go_at_call 65; refine (epow_any _ _ _ (by assumption) (by assumption)).mono ?_; rintro e w' ⟨rfl, rfl⟩)
  go_ret
  exact ⟨rfl, rfl⟩

theorem toThe_any (n : Nat) (w : World) (hn : SC n) :
    Calls Try.prog 26 #[.int .u64 n] w fun e w' => e = .returned (.int .u64 (M.pw 2147483579 4 n : Nat)) ∧ w' = w := by
  have h4 : EL 4 := ⟨by omega⟩
  have hn' : n ≤ 1073741789 := Nat.le_of_lt hn.out
  have C := fun w => power_any 4 n w h4 hn'
  go_enter Try.func26, Try.ntmps26
  go_wp2_with (go_at_call 51; refine (C _).mono ?_; rintro e w' ⟨rfl, rfl⟩)
  go_ret
  exact ⟨rfl, rfl⟩

theorem base_any (n : Nat) (w : World) (hn : SC n) :
    Calls Try.prog 30 #[.int .u64 n] w fun e w' => e = .returned (.int .u64 (M.pw 2147483579 4 n : Nat)) ∧ w' = w := by
  have hn' : n ≤ 1073741789 := Nat.le_of_lt hn.out
  have C := fun w => rpower_any n 4 n 2147483579 w (Nat.le_refl _) hn' (by omega) (by omega) (by omega)
  clear hn'
  go_enter Try.func30, Try.ntmps30
  go_wp2_with (go_at_call 54; refine (C _).mono ?_; rintro e w' ⟨rfl, rfl⟩)
  go_ret
  exact ⟨rfl, rfl⟩

/-- a over b, modulo Q. -/
def M.over (a b : Nat) : Nat := a * M.pw 1073741789 b 1073741787 % 1073741789

theorem over_any (a b : Nat) (w : World) (ha : SC a) (hb : SC b) :
    Calls Try.prog 70 #[.int .u64 a, .int .u64 b] w fun e w' => e = .returned (.int .u64 (M.over a b : Nat)) ∧ w' = w := by
  have C := fun w => spow_any b 1073741787 w hb (by omega)
  have hp : SC (M.pw 1073741789 b 1073741787) := ⟨M.pw_lt (by omega) _ _⟩
  have D := fun w => times_any a (M.pw 1073741789 b 1073741787) w ha hp
  go_enter Try.func70, Try.ntmps70
  go_wp2_with (first | (go_at_call 79; refine (C _).mono ?_; rintro e w' ⟨rfl, rfl⟩) | (go_at_call 40; refine (D _).mono ?_; rintro e w' ⟨rfl, rfl⟩))
  go_ret
  exact ⟨rfl, rfl⟩

end Go.Proofs.Yteoioldbigomaaa
