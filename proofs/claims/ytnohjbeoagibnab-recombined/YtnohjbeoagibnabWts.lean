import Derived.Test.YtnohjbeoagibnabWt
namespace Go.Proofs.Ytnohjbeoagibnab
open Go.RowKit

set_option maxHeartbeats 1000000 in
theorem weights_any (a : Option Addr) (c n : Nat) (d : Nat → Nat) (w : World) (hn : n ≤ 9) (hd : ∀ i, i < n → d i ≤ 9) (hne : ∀ i k, i < n → k < n → i ≠ k → d i ≠ d k) (hr : RdF w a n (ci d)) :
    Calls Try.prog 21 #[.slice a n c] w fun e w' => Below w.heap.size w w' ∧
      ∃ g, e = .returned (.slice (some ⟨g, 0, none⟩) n n) ∧ RdF w' (some ⟨g, 0, none⟩) n (cu (M.sq (M.wt d n) n)) := by
  have HD : Hid (∀ i, i < n → d i ≤ 9) := hd
  have HE : Hid (∀ i k, i < n → k < n → i ≠ k → d i ≠ d k) := hne
  clear hd hne
  obtain ⟨i0, hi, hz0, hz1, hz2⟩ := info_parts Try.info43
  have hle : n ≤ maxLen := by unfold maxLen; omega
  go_enter Try.func21, Try.ntmps21
  go_wp2_with (at_make; refine wpList_make_full _ rfl _ _ 49 rfl w.heap.size 43 i0 (.int .u64 0) 1 Try.underlying49 hi hz0 hz1 .i64 .i64 _ _ n rfl rfl (by omega) (by omega) (by rw [hz2]; omega) (by assumption) (Nat.le_refl _) ?_; intro w1 hown hgrow)
  have F : Fill w1 w.heap.size 43 w.heap.size n 0 (cu (M.sq (M.wt d n) n)) := Fill.start hown
  have bel := below_made hgrow
  clear hown hgrow hi hz0 hz1 hz2 hle
  go_loopw [11] (fun i wr => ∃ k : Nat, k ≤ n ∧ i = .int .i64 k ∧ Below w.heap.size w wr ∧ Fill wr w.heap.size 43 w.heap.size n k (cu (M.sq (M.wt d n) n))) (fun i _ => n - (intOf i).toNat)
  case atStart => exact ⟨0, Nat.zero_le _, rfl, bel, F⟩
  case round =>
    clear F bel
    obtain ⟨k, hk, rfl, bel, F⟩ := hrel
    by_cases hlt : k < n
    · have rd0 := hr.below bel
      have C := fun w' hr' => weight_any a c n k d w' hn hlt HD.out (fun i hi hik => HE.out i k hi hlt hik) hr'
      obtain ⟨b, o, rfl, hb, hc⟩ := hr.at (by omega)
      obtain ⟨x, hx⟩ : ∃ x, x = d k := ⟨_, rfl⟩
      have hcx : wr.cell? ⟨b, o + k, none⟩ = some (.int .i64 (x : Int)) := by rw [bel.cell (by exact hb), hc k hlt, hx]; rfl
      rw [← hx] at C
      clear hc hr hx HD HE
      go_wp2_with (go_at_call 32; refine (C _ rd0).mono ?_; rintro e w5 ⟨bel5, rfl⟩; have F5 := F.below bel5; have hfz := F5.frozen k; obtain ⟨v, hv⟩ := F5.there hlt)
      go_roundw
      case rel =>
        refine ⟨k + 1, by omega, by go_num, ?_, ?_⟩
        · exact (bel.trans (bel5.mono bel.size)).setCell (p := ⟨w.heap.size, k, none⟩) (Nat.le_refl _) _
        · exact F5.store hlt (by rw [M.cu_sq _ _ _ hlt])
      case measure => simp [intOf]; omega
    · go_wp2_with fail
      go_ret
      have hkn : n = k := by omega
      subst hkn
      exact ⟨bel, _, rfl, F.rd⟩

theorem M.over_step (W x p : Nat) : W * x % 1073741789 * p % 1073741789 = W * (x * p % 1073741789) % 1073741789 := by
  rw [Nat.mod_mul_mod, Nat.mul_mod_mod, Nat.mul_assoc]

end Go.Proofs.Ytnohjbeoagibnab
