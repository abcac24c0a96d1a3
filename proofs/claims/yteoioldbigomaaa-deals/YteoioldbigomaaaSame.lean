import Derived.Test.YteoioldbigomaaaRdeal
import Derived.Deep.QuietTactic
import Derived.BigQuiet
namespace Go.Proofs.Yteoioldbigomaaa
open Go.RowKit

set_option maxHeartbeats 400000 in
theorem same_yes (a b : Option Addr) (c d n : Nat) (F : Nat → Nat) (w : World) (hlen : n ≤ 65536) (hr : RdF w a n (cu (M.sq F n))) (hs : RdF w b n (cu (M.sq F n))) :
    Calls Try.prog 11 #[.slice a n c, .slice b n d] w fun e w' => e = .returned (.bool true) ∧ Below w.heap.size w w' := by
  go_enter Try.func11, Try.ntmps11
  go_wp2_with fail
  go_loopw [13] (fun i wr => ∃ k : Nat, k ≤ n ∧ i = .int .i64 k ∧ Below w.heap.size w wr) (fun i _ => n - (intOf i).toNat)
  case atStart => exact ⟨0, Nat.zero_le _, rfl, Below.refl _ _⟩
  case round =>
    obtain ⟨k, hk, rfl, bel⟩ := hrel
    by_cases hlt : k < n
    · obtain ⟨b1, o1, rfl, hb1, hc1⟩ := hr.at (by omega)
      obtain ⟨b2, o2, rfl, hb2, hc2⟩ := hs.at (by omega)
      obtain ⟨x, hx⟩ : ∃ x, x = F k := ⟨_, rfl⟩
      have hcx : wr.cell? ⟨b1, o1 + k, none⟩ = some (.int .u64 (x : Int)) := by rw [bel.cell (by exact hb1), hc1 k hlt, M.cu_sq _ _ _ hlt, hx]
      have hcy : wr.cell? ⟨b2, o2 + k, none⟩ = some (.int .u64 (x : Int)) := by rw [bel.cell (by exact hb2), hc2 k hlt, M.cu_sq _ _ _ hlt, hx]
      have hki : (k : Int) < n := by omega
      clear hx hc1 hr hc2 hs
      go_wp2_with fail
      go_quiet (fail)
      go_wp2_with fail
      go_roundw
      case rel => exact ⟨k + 1, by omega, by go_num, below_drewN bel _⟩
      case measure => simp [intOf]; omega
    · go_wp2_with fail
      go_ret
      exact ⟨rfl, bel⟩
end Go.Proofs.Yteoioldbigomaaa
