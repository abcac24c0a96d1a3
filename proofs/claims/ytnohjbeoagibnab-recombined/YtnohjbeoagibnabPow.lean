import Derived.Test.YtnohjbeoagibnabLeaf
import Derived.WalkSmall
namespace Go.Proofs.Ytnohjbeoagibnab
open Go.RowKit

theorem odd_of {E : Nat} (hE : E ≤ 1073741789) (h : (bits BinOp.and IntKind.u64 (E : Int) 1 == 1) = true) : E % 2 = 1 := by
  rw [and_one_u64 (E : Int) (by omega) (by omega)] at h
  simp at h; omega
theorem even_of {E : Nat} (hE : E ≤ 1073741789) (h : (bits BinOp.and IntKind.u64 (E : Int) 1 == 1) = false) : E % 2 = 0 := by
  rw [and_one_u64 (E : Int) (by omega) (by omega)] at h
  simp at h; omega

set_option maxHeartbeats 400000 in
theorem epow_any (a n : Nat) (w : World) (ha : EL a) (hn : n ≤ 1073741789) :
    Calls Try.prog 34 #[.func (.func 35) #[] #[], .int .u64 1, .int .u64 a, .int .u64 n] w fun e w' => e = .returned (.int .u64 (M.pw 2147483579 a n : Nat)) ∧ w' = w := by
  have S : Hid (M.Inv 2147483579 a n 1 a n) := M.inv_start (by omega) ha.out
  go_enter Try.func34, Try.ntmps34
  go_wp2_with fail
  go_loopw [2, 3, 9] (fun b e o wr => ∃ O B E : Nat, wr = w ∧ o = .int .u64 O ∧ b = .int .u64 B ∧ e = .int .u64 E ∧ E ≤ 1073741789 ∧ Hid (M.Inv 2147483579 a n O B E)) (fun _ e _ _ => (intOf e).toNat)
  case atStart => exact ⟨1, a, n, rfl, rfl, rfl, rfl, hn, S⟩
  case round =>
    obtain ⟨O, B, E, rfl, rfl, rfl, rfl, hE, HI⟩ := hrel
    clear S
    by_cases h0 : E = 0
    · subst h0
      go_wp2_with fail
      go_ret
      exact ⟨ret_int (by rw [M.inv_end HI.out]), rfl⟩
    · have hO : EL O := ⟨HI.out.1⟩
      have hB : EL B := ⟨HI.out.2.1⟩
      have hp : (0 : Int) < E := by omega
      go_wp2_with (go_at_call 35; refine (etimes_any _ _ _ (by assumption) (by assumption)).mono ?_; rintro e w' ⟨rfl, rfl⟩)
      · go_roundw
        case rel => exact ⟨O * B % 2147483579, B * B % 2147483579, E / 2, trivial, rfl, rfl, by go_num, by omega, M.inv_odd (by omega) HI.out (odd_of hE ‹_›)⟩
        case measure => simp [intOf]; omega
      · go_roundw
        case rel => exact ⟨O, B * B % 2147483579, E / 2, trivial, rfl, rfl, by go_num, by omega, M.inv_even (by omega) HI.out (even_of hE ‹_›)⟩
        case measure => simp [intOf]; omega
set_option maxHeartbeats 400000 in
theorem spow_any (a n : Nat) (w : World) (ha : SC a) (hn : n ≤ 1073741789) :
    Calls Try.prog 46 #[.func (.func 20) #[] #[], .int .u64 1, .int .u64 a, .int .u64 n] w fun e w' => e = .returned (.int .u64 (M.pw 1073741789 a n : Nat)) ∧ w' = w := by
  have S : Hid (M.Inv 1073741789 a n 1 a n) := M.inv_start (by omega) ha.out
  go_enter Try.func46, Try.ntmps46
  go_wp2_with fail
  go_loopw [2, 3, 9] (fun b e o wr => ∃ O B E : Nat, wr = w ∧ o = .int .u64 O ∧ b = .int .u64 B ∧ e = .int .u64 E ∧ E ≤ 1073741789 ∧ Hid (M.Inv 1073741789 a n O B E)) (fun _ e _ _ => (intOf e).toNat)
  case atStart => exact ⟨1, a, n, rfl, rfl, rfl, rfl, hn, S⟩
  case round =>
    obtain ⟨O, B, E, rfl, rfl, rfl, rfl, hE, HI⟩ := hrel
    clear S
    by_cases h0 : E = 0
    · subst h0
      go_wp2_with fail
      go_ret
      exact ⟨ret_int (by rw [M.inv_end HI.out]), rfl⟩
    · have hO : SC O := ⟨HI.out.1⟩
      have hB : SC B := ⟨HI.out.2.1⟩
      have hp : (0 : Int) < E := by omega
      go_wp2_with (go_at_call 20; refine (times_any _ _ _ (by assumption) (by assumption)).mono ?_; rintro e w' ⟨rfl, rfl⟩)
      · go_roundw
        case rel => exact ⟨O * B % 1073741789, B * B % 1073741789, E / 2, trivial, rfl, rfl, by go_num, by omega, M.inv_odd (by omega) HI.out (odd_of hE ‹_›)⟩
        case measure => simp [intOf]; omega
      · go_roundw
        case rel => exact ⟨O, B * B % 1073741789, E / 2, trivial, rfl, rfl, by go_num, by omega, M.inv_even (by omega) HI.out (even_of hE ‹_›)⟩
        case measure => simp [intOf]; omega

theorem power_any (a n : Nat) (w : World) (ha : EL a) (hn : n ≤ 1073741789) :
    Calls Try.prog 29 #[.int .u64 a, .int .u64 n] w fun e w' => e = .returned (.int .u64 (M.pw 2147483579 a n : Nat)) ∧ w' = w := by
  go_enter Try.func29, Try.ntmps29
  go_wp2_with (go_at_call 34; refine (epow_any _ _ _ (by assumption) (by assumption)).mono ?_; rintro e w' ⟨rfl, rfl⟩)
  go_ret
  exact ⟨rfl, rfl⟩

theorem toThe_any (n : Nat) (w : World) (hn : SC n) :
    Calls Try.prog 14 #[.int .u64 n] w fun e w' => e = .returned (.int .u64 (M.pw 2147483579 4 n : Nat)) ∧ w' = w := by
  have h4 : EL 4 := ⟨by omega⟩
  have hn' : n ≤ 1073741789 := Nat.le_of_lt hn.out
  have C := fun w => power_any 4 n w h4 hn'
  go_enter Try.func14, Try.ntmps14
  go_wp2_with (go_at_call 29; refine (C _).mono ?_; rintro e w' ⟨rfl, rfl⟩)
  go_ret
  exact ⟨rfl, rfl⟩

/-- a over b, modulo Q. -/
def M.over (a b : Nat) : Nat := a * M.pw 1073741789 b 1073741787 % 1073741789

theorem over_any (a b : Nat) (w : World) (ha : SC a) (hb : SC b) :
    Calls Try.prog 40 #[.int .u64 a, .int .u64 b] w fun e w' => e = .returned (.int .u64 (M.over a b : Nat)) ∧ w' = w := by
  have C := fun w => spow_any b 1073741787 w hb (by omega)
  have hp : SC (M.pw 1073741789 b 1073741787) := ⟨M.pw_lt (by omega) _ _⟩
  have D := fun w => times_any a (M.pw 1073741789 b 1073741787) w ha hp
  go_enter Try.func40, Try.ntmps40
  go_wp2_with (first | (go_at_call 46; refine (C _).mono ?_; rintro e w' ⟨rfl, rfl⟩) | (go_at_call 20; refine (D _).mono ?_; rintro e w' ⟨rfl, rfl⟩))
  go_ret
  exact ⟨rfl, rfl⟩

end Go.Proofs.Ytnohjbeoagibnab
