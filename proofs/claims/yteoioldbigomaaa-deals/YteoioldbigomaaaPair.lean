import Derived.Test.YteoioldbigomaaaSeq
import Derived.RegionTactic
import Derived.Deep.RegionWith
namespace Go.Proofs.Yteoioldbigomaaa
open Go.RowKit

theorem Fill.drew {w : World} {B e g n k : Nat} {f : Nat → Value} (h : Fill w B e g n k f) : Fill w.drew B e g n k f := by
  obtain ⟨xs, h1, h2⟩ := h
  exact ⟨xs, h1.drew, h2⟩

set_option maxHeartbeats 1000000 in
theorem pairS_any (a b : Option Addr) (c d n : Nat) (f g : Nat → Nat) (w : World) (hlen : n ≤ 65536) (hf : ∀ i, i < n → SC (f i)) (hg : ∀ i, i < n → SC (g i))
    (hr : RdF w a n (cu (M.sq f n))) (hs : RdF w b n (cu (M.sq g n))) :
    Calls Try.prog 39 #[.func (.func 40) #[] #[], .slice a n c, .slice b n d] w fun e w' => Below w.heap.size w w' ∧
      ∃ r, e = .returned (.slice (some ⟨r, 0, none⟩) n n) ∧ RdF w' (some ⟨r, 0, none⟩) n (cu (M.sq (fun i => f i * g i % 1073741789) n)) := by
  have HF : Hid (∀ i, i < n → SC (f i)) := hf
  have HG : Hid (∀ i, i < n → SC (g i)) := hg
  clear hf hg
  obtain ⟨i0, hi, hz0, hz1, hz2⟩ := info_parts Try.info52
  have hle : n ≤ maxLen := by unfold maxLen; omega
  go_enter Try.func39, Try.ntmps39
  go_wp2_with (at_make; refine wpList_make_full _ rfl _ _ 49 rfl w.heap.size 52 i0 (.int .u64 0) 1 Try.underlying49 hi hz0 hz1 .i64 .i64 _ _ n rfl rfl (by omega) (by omega) (by rw [hz2]; omega) (by assumption) (Nat.le_refl _) ?_; intro w1 hown hgrow)
  have F : Fill w1 w.heap.size 52 w.heap.size n 0 (cu (M.sq (fun i => f i * g i % 1073741789) n)) := Fill.start hown
  have bel := below_made hgrow
  clear hown hgrow hi hz0 hz1 hz2 hle
  go_loopw [17] (fun i wr => ∃ k : Nat, k ≤ n ∧ i = .int .i64 k ∧ Below w.heap.size w wr ∧ Fill wr w.heap.size 52 w.heap.size n k (cu (M.sq (fun i => f i * g i % 1073741789) n))) (fun i _ => n - (intOf i).toNat)
  case atStart => exact ⟨0, Nat.zero_le _, rfl, bel, F⟩
  case round =>
    clear F bel
    obtain ⟨k, hk, rfl, bel, F⟩ := hrel
    by_cases hlt : k < n
    · obtain ⟨b1, o1, rfl, hb1, hc1⟩ := hr.at (by omega)
      obtain ⟨b2, o2, rfl, hb2, hc2⟩ := hs.at (by omega)
      obtain ⟨x, hx⟩ : ∃ x, x = f k := ⟨_, rfl⟩
      obtain ⟨y, hy⟩ : ∃ y, y = g k := ⟨_, rfl⟩
      have hcx : wr.cell? ⟨b1, o1 + k, none⟩ = some (.int .u64 (x : Int)) := by rw [bel.cell (by exact hb1), hc1 k hlt, M.cu_sq _ _ _ hlt, hx]
      have hcy : wr.cell? ⟨b2, o2 + k, none⟩ = some (.int .u64 (y : Int)) := by rw [bel.cell (by exact hb2), hc2 k hlt, M.cu_sq _ _ _ hlt, hy]
      have HX : Hid (x = f k) := hx
      have HY : Hid (y = g k) := hy
      have hsx : SC x := by rw [hx]; exact HF.out k hlt
      have hsy : SC y := by rw [hy]; exact HG.out k hlt
      have hfz := F.frozen k
      obtain ⟨v, hv⟩ := F.there hlt
      have hki : (k : Int) < n := by omega
      clear hx hy hc1 hr hc2 hs HF HG
      go_wp2_with fail
      go_region_with (go_at_call 40; refine (times_any _ _ _ hsx hsy).mono ?_; rintro e w' ⟨rfl, rfl⟩)
      all_goals
        go_wp2_with fail
        go_roundw
        case rel =>
          refine ⟨k + 1, by omega, by go_num, ?_, ?_⟩
          · exact (bel.setCell (p := ⟨w.heap.size, k, none⟩) (Nat.le_refl _) _).drew
          · exact (F.store hlt (by rw [M.cu_sq _ _ _ hlt, HX.out, HY.out]; simp)).drew
        case measure => simp [intOf]; omega
    · go_wp2_with fail
      go_ret
      have hkn : k = n := by omega
      subst hkn
      exact ⟨bel, _, rfl, F.rd⟩

set_option maxHeartbeats 1000000 in
theorem pairE_any (a b : Option Addr) (c d n : Nat) (f g : Nat → Nat) (w : World) (hlen : n ≤ 65536) (hf : ∀ i, i < n → EL (f i)) (hg : ∀ i, i < n → SC (g i))
    (hr : RdF w a n (cu (M.sq f n))) (hs : RdF w b n (cu (M.sq g n))) :
    Calls Try.prog 78 #[.func (.func 51) #[] #[], .slice a n c, .slice b n d] w fun e w' => Below w.heap.size w w' ∧
      ∃ r, e = .returned (.slice (some ⟨r, 0, none⟩) n n) ∧ RdF w' (some ⟨r, 0, none⟩) n (cu (M.sq (fun i => M.pw 2147483579 (f i) (g i)) n)) := by
  have HF : Hid (∀ i, i < n → EL (f i)) := hf
  have HG : Hid (∀ i, i < n → SC (g i)) := hg
  clear hf hg
  obtain ⟨i0, hi, hz0, hz1, hz2⟩ := info_parts Try.info55
  have hle : n ≤ maxLen := by unfold maxLen; omega
  go_enter Try.func78, Try.ntmps78
  go_wp2_with (at_make; refine wpList_make_full _ rfl _ _ 54 rfl w.heap.size 55 i0 (.int .u64 0) 1 Try.underlying54 hi hz0 hz1 .i64 .i64 _ _ n rfl rfl (by omega) (by omega) (by rw [hz2]; omega) (by assumption) (Nat.le_refl _) ?_; intro w1 hown hgrow)
  have F : Fill w1 w.heap.size 55 w.heap.size n 0 (cu (M.sq (fun i => M.pw 2147483579 (f i) (g i)) n)) := Fill.start hown
  have bel := below_made hgrow
  clear hown hgrow hi hz0 hz1 hz2 hle
  go_loopw [17] (fun i wr => ∃ k : Nat, k ≤ n ∧ i = .int .i64 k ∧ Below w.heap.size w wr ∧ Fill wr w.heap.size 55 w.heap.size n k (cu (M.sq (fun i => M.pw 2147483579 (f i) (g i)) n))) (fun i _ => n - (intOf i).toNat)
  case atStart => exact ⟨0, Nat.zero_le _, rfl, bel, F⟩
  case round =>
    clear F bel
    obtain ⟨k, hk, rfl, bel, F⟩ := hrel
    by_cases hlt : k < n
    · obtain ⟨b1, o1, rfl, hb1, hc1⟩ := hr.at (by omega)
      obtain ⟨b2, o2, rfl, hb2, hc2⟩ := hs.at (by omega)
      obtain ⟨x, hx⟩ : ∃ x, x = f k := ⟨_, rfl⟩
      obtain ⟨y, hy⟩ : ∃ y, y = g k := ⟨_, rfl⟩
      have hcx : wr.cell? ⟨b1, o1 + k, none⟩ = some (.int .u64 (x : Int)) := by rw [bel.cell (by exact hb1), hc1 k hlt, M.cu_sq _ _ _ hlt, hx]
      have hcy : wr.cell? ⟨b2, o2 + k, none⟩ = some (.int .u64 (y : Int)) := by rw [bel.cell (by exact hb2), hc2 k hlt, M.cu_sq _ _ _ hlt, hy]
      have HX : Hid (x = f k) := hx
      have HY : Hid (y = g k) := hy
      have hsx : EL x := by rw [hx]; exact HF.out k hlt
      have hsy : SC y := by rw [hy]; exact HG.out k hlt
      have hsy' : y ≤ 1073741789 := Nat.le_of_lt hsy.out
      have hfz := F.frozen k
      obtain ⟨v, hv⟩ := F.there hlt
      have hki : (k : Int) < n := by omega
      clear hx hy hc1 hr hc2 hs HF HG
      go_wp2_with fail
      go_region_with (go_at_call 51; refine (power_any _ _ _ hsx hsy').mono ?_; rintro e w' ⟨rfl, rfl⟩)
      all_goals
        go_wp2_with fail
        go_roundw
        case rel =>
          refine ⟨k + 1, by omega, by go_num, ?_, ?_⟩
          · exact (bel.setCell (p := ⟨w.heap.size, k, none⟩) (Nat.le_refl _) _).drew
          · exact (F.store hlt (by rw [M.cu_sq _ _ _ hlt, HX.out, HY.out])).drew
        case measure => simp [intOf]; omega
    · go_wp2_with fail
      go_ret
      have hkn : k = n := by omega
      subst hkn
      exact ⟨bel, _, rfl, F.rd⟩
end Go.Proofs.Yteoioldbigomaaa
