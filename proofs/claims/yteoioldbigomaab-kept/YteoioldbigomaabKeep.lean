import Derived.Test.YteoioldbigomaabLagr
namespace Go.Proofs.Yteoioldbigomaab
open Go.RowKit

set_option maxHeartbeats 400000 in
theorem pick_any (c : Int) (n : Nat) (w : World) (h1 : -9223372036854775808 ≤ c) (h2 : c ≤ 9223372036854775807) (hn : 0 < n) (hn9 : n ≤ 9) :
    Calls Try.prog 14 #[.int .i64 c, .int .i64 n] w fun e w' => ∃ r : Nat, r < n ∧ e = .returned (.int .i64 r) ∧ w' = w ∧ (c = 0 → r = 0) := by
  have hnz : ((n : Int) == 0) = false := by simp; omega
  have hnz' : ¬ (n : Int) = 0 := by omega
  by_cases h : c < 0
  · have hb1 : -9223372036854775807 ≤ c + 1 := by omega
    have hb2 : c + 1 ≤ 0 := by omega
    go_enter Try.func14, Try.ntmps14
    go_wp2_with fail
    go_ret
    refine ⟨((-(c + 1)).toNat % n), Nat.mod_lt _ hn, ret_int ?_, rfl, fun h0 => by omega⟩
    obtain ⟨m, hm⟩ : ∃ m : Nat, c + 1 = -m := ⟨(-(c + 1)).toNat, by omega⟩
    rw [hm, Int.neg_tmod, Int.neg_neg, Int.neg_neg, Int.toNat_natCast]
    rfl
  · obtain ⟨m, rfl⟩ : ∃ m : Nat, c = m := ⟨c.toNat, by omega⟩
    go_enter Try.func14, Try.ntmps14
    go_wp2_with fail
    go_ret
    exact ⟨m % n, Nat.mod_lt _ hn, ret_int (by first | rfl | omega), rfl, fun h0 => (by have h00 : m = 0 := (by omega); rw [h00]; exact Nat.zero_mod n)⟩

theorem scalar_any (n : Nat) (w : World) (hn : n ≤ 18446744073709551615) :
    Calls Try.prog 7 #[.int .u64 n] w fun e w' => e = .returned (.int .u64 (1 + n % 1073741788 : Nat)) ∧ w' = w := by
  have h : (n : Int) % 1073741788 < 1073741788 := by omega
  have h' : 0 ≤ (n : Int) % 1073741788 := by omega
  go_enter Try.func7, Try.ntmps7
  go_wp2_with fail
  go_ret
  exact ⟨ret_int (by omega), rfl⟩

set_option maxHeartbeats 400000 in
theorem kpower_any (n : Nat) (w : World) (hn : n ≤ 1073741789) :
    Calls Try.prog 9 #[.int .u64 n] w fun e w' => e = .returned (.int .u64 (M.pw 2147483579 4 n : Nat)) ∧ w' = w := by
  have S : Hid (M.Inv 2147483579 4 n 1 4 n) := M.inv_start (by omega) (by omega)
  go_enter Try.func9, Try.ntmps9
  go_wp2_with fail
  go_loopw [0, 3, 4] (fun e o b wr => ∃ O B E : Nat, wr = w ∧ o = .int .u64 O ∧ b = .int .u64 B ∧ e = .int .u64 E ∧ E ≤ 1073741789 ∧ Hid (M.Inv 2147483579 4 n O B E)) (fun e _ _ _ => (intOf e).toNat)
  case atStart => exact ⟨1, 4, n, rfl, rfl, rfl, rfl, hn, S⟩
  case round =>
    obtain ⟨O, B, E, rfl, rfl, rfl, rfl, hE, HI⟩ := hrel
    clear S
    by_cases h0 : E = 0
    · subst h0
      go_wp2_with fail
      go_ret
      exact ⟨ret_int (by rw [M.inv_end HI.out]), rfl⟩
    · have hO : EL O := ⟨HI.out.1⟩
      have hB : EL B := ⟨HI.out.2.1⟩
      have b1 := mul_bd (Nat.le_of_lt hO.out) (Nat.le_of_lt hB.out)
      have b2 := mul_bd (Nat.le_of_lt hB.out) (Nat.le_of_lt hB.out)
      have hp : (0 : Int) < E := by omega
      by_cases hodd : E % 2 = 1
      · have z1 : ((E : Int) % 2 == 1) = true := by simp; omega
        go_wp2_with fail
        go_roundw
        case rel => exact ⟨O * B % 2147483579, B * B % 2147483579, E / 2, trivial, by go_num, by go_num, by go_num, by omega, M.inv_odd (by omega) HI.out hodd⟩
        case measure => simp [intOf]; omega
      · have z1 : ((E : Int) % 2 == 1) = false := by simp; omega
        go_wp2_with fail
        go_roundw
        case rel => exact ⟨O, B * B % 2147483579, E / 2, trivial, rfl, by go_num, by go_num, by omega, M.inv_even (by omega) HI.out (by omega)⟩
        case measure => simp [intOf]; omega
end Go.Proofs.Yteoioldbigomaab
