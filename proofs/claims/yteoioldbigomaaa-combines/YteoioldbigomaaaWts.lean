import Derived.Test.YteoioldbigomaaaWt
namespace Go.Proofs.Yteoioldbigomaaa
open Go.RowKit

set_option maxHeartbeats 1000000 in
theorem weights_any (a : Option Addr) (c n : Nat) (d : Nat → Nat) (w : World) (hn : n ≤ 9) (hd : ∀ i, i < n → d i ≤ 9) (hne : ∀ i k, i < n → k < n → i ≠ k → d i ≠ d k) (hr : RdF w a n (ci d)) :
    Calls Try.prog 41 #[.slice a n c] w fun e w' => Below w.heap.size w w' ∧
      ∃ g, e = .returned (.slice (some ⟨g, 0, none⟩) n n) ∧ RdF w' (some ⟨g, 0, none⟩) n (cu (M.sq (M.wt d n) n)) := by
  have HD : Hid (∀ i, i < n → d i ≤ 9) := hd
  have HE : Hid (∀ i k, i < n → k < n → i ≠ k → d i ≠ d k) := hne
  clear hd hne
  obtain ⟨i0, hi, hz0, hz1, hz2⟩ := info_parts Try.info52
  have hle : n ≤ maxLen := by unfold maxLen; omega
  go_enter Try.func41, Try.ntmps41
  go_wp2_with (at_make; refine wpList_make_full _ rfl _ _ 49 rfl w.heap.size 52 i0 (.int .u64 0) 1 Try.underlying49 hi hz0 hz1 .i64 .i64 _ _ n rfl rfl (by omega) (by omega) (by rw [hz2]; omega) (by assumption) (Nat.le_refl _) ?_; intro w1 hown hgrow)
  have F : Fill w1 w.heap.size 52 w.heap.size n 0 (cu (M.sq (M.wt d n) n)) := Fill.start hown
  have bel := below_made hgrow
  clear hown hgrow hi hz0 hz1 hz2 hle
  go_loopw [11] (fun i wr => ∃ k : Nat, k ≤ n ∧ i = .int .i64 k ∧ Below w.heap.size w wr ∧ Fill wr w.heap.size 52 w.heap.size n k (cu (M.sq (M.wt d n) n))) (fun i _ => n - (intOf i).toNat)
  case atStart => exact ⟨0, Nat.zero_le _, rfl, bel, F⟩
  case round =>
    clear F bel
    obtain ⟨k, hk, rfl, bel, F⟩ := hrel
    by_cases hlt : k < n
    · have rd0 := hr.below bel
      have C := fun w' hr' => weight_any a c n k d w' hn hlt HD.out (fun i hi hik => HE.out i k hi hlt hik) hr'
      obtain ⟨b, o, rfl, hb, hc⟩ := hr.at (by omega)
      obtain ⟨x, hx⟩ : ∃ x, x = d k := ⟨_, rfl⟩
      have hcx : wr.cell? ⟨b, o + k, none⟩ = some (.int .i64 (x : Int)) := by rw [bel.cell (by exact hb), hc k hlt, hx]; rfl
      rw [← hx] at C
      clear hc hr hx HD HE
      go_wp2_with (go_at_call 60; refine (C _ rd0).mono ?_; rintro e w5 ⟨bel5, rfl⟩; have F5 := F.below bel5; have hfz := F5.frozen k; obtain ⟨v, hv⟩ := F5.there hlt)
      go_roundw
      case rel =>
        refine ⟨k + 1, by omega, by go_num, ?_, ?_⟩
        · exact (bel.trans (bel5.mono bel.size)).setCell (p := ⟨w.heap.size, k, none⟩) (Nat.le_refl _) _
        · exact F5.store hlt (by rw [M.cu_sq _ _ _ hlt])
      case measure => simp [intOf]; omega
    · go_wp2_with fail
      go_ret
      have hkn : n = k := by omega
      subst hkn
      exact ⟨bel, _, rfl, F.rd⟩

theorem M.over_step (W x p : Nat) : W * x % 1073741789 * p % 1073741789 = W * (x * p % 1073741789) % 1073741789 := by
  rw [Nat.mod_mul_mod, Nat.mul_mod_mod, Nat.mul_assoc]

set_option maxHeartbeats 1000000 in
theorem rweight_any (a : Option Addr) (c n k : Nat) (d : Nat → Nat) (w : World) (hn : n ≤ 9) (hk : k < n) (hd : ∀ i, i < n → d i ≤ 9) (hr : RdF w a n (ci d)) :
    Calls Try.prog 42 #[.slice a n c, .int .i64 k] w fun e w' => e = .returned (.int .u64 (M.wt d n k : Nat)) ∧ w' = w := by
  have HD : Hid (∀ i, i < n → d i ≤ 9) := hd
  obtain ⟨b, o, rfl, hb, hc⟩ := hr.at (by omega)
  obtain ⟨y, hy⟩ : ∃ y, y = d k := ⟨_, rfl⟩
  have HY : Hid (y = d k) := hy
  have hcy : w.cell? ⟨b, o + k, none⟩ = some (.int .i64 (y : Int)) := by rw [hc k hk, hy]; rfl
  have hy9 : y ≤ 9 := by rw [hy]; exact hd k hk
  have HC : Hid (∀ i, i < n → w.cell? ⟨b, o + i, none⟩ = some (ci d i)) := hc
  have hkn : (k : Int) < n := by omega
  clear hd hy hc hr
  go_enter Try.func42, Try.ntmps42
  go_wp2_with fail
  go_loopw [5, 11] (fun s i wr => ∃ m S : Nat, m ≤ n ∧ i = .int .i64 m ∧ s = .int .u64 S ∧ SC S ∧ wr = w ∧ Hid (S = M.prodQ (M.parts d k m))) (fun _ i _ => n - (intOf i).toNat)
  case atStart => exact ⟨0, 1, Nat.zero_le _, rfl, rfl, ⟨by omega⟩, rfl, rfl⟩
  case round =>
    obtain ⟨m, S, hm, rfl, rfl, hS, rfl, HS⟩ := hrel
    by_cases hlt : m < n
    · obtain ⟨x, hx⟩ : ∃ x, x = d m := ⟨_, rfl⟩
      have hcx : wr.cell? ⟨b, o + m, none⟩ = some (.int .i64 (x : Int)) := by rw [HC.out m hlt, hx]; rfl
      have HX : Hid (x = d m) := hx
      have hx9 : x ≤ 9 := by rw [hx]; exact HD.out m hlt
      clear hx HC HD
      by_cases hmk : m = k
      · have hxy : ((m : Int) == k) = true := by simp [hmk]
        have HMK : Hid (m = k) := hmk
        clear hmk
        go_wp2_with fail
        go_roundw
        case rel => exact ⟨m + 1, S, by omega, by go_num, rfl, hS, trivial, by rw [HMK.out] at HS ⊢; rw [M.parts_self]; exact HS⟩
        case measure => simp [intOf]; omega
      · have hxy : ((m : Int) == k) = false := by simp; omega
        obtain ⟨t, ht⟩ : ∃ t, t = (x + 1073741789 - y) % 1073741789 := ⟨_, rfl⟩
        have e1 : ((x : Int) + 1073741789 - y) % 1073741789 = t := by rw [ht]; omega
        have hst : t < 1073741789 := by rw [ht]; exact (SC.mod _).out
        have C := fun w' => rpower_any 1073741787 t 1073741787 1073741789 w' (Nat.le_refl _) (by omega) hst (by omega) (by omega)
        obtain ⟨p, hp⟩ : ∃ p, p = M.pw 1073741789 t 1073741787 := ⟨_, rfl⟩
        rw [← hp] at C
        have hsp : SC p := by rw [hp]; exact SC.pw _ _
        have hprt : x * p % 1073741789 = M.part (d k) (d m) := by unfold M.part M.over; rw [← HX.out, ← HY.out, ← ht, ← hp]
        have HP : Hid (x * p % 1073741789 = M.part (d k) (d m)) := hprt
        have b1 := mul_bd (Nat.le_of_lt hS.out) hx9
        have b2 := mul_bd (Nat.le_of_lt (SC.mod (S * x)).out) (Nat.le_of_lt hsp.out)
        have e2 : ((S * x % 1073741789 : Nat) : Int) = (S : Int) * x % 1073741789 := by simp
        rw [e2] at b2
        clear hprt hp ht hst e2
        go_wp2_with (go_at_call 54; refine (C _).mono ?_; rintro e w' ⟨rfl, hw'⟩; subst hw')
        go_roundw
        case rel =>
          refine ⟨m + 1, S * x % 1073741789 * p % 1073741789, by omega, by go_num, by go_num, SC.mod _, trivial, ?_⟩
          rw [M.parts_other d hmk, M.prodQ_snoc, ← HS.out, ← HP.out, M.over_step]; rfl
        case measure => simp [intOf]; omega
    · go_wp2_with fail
      go_ret
      have hmn : n = m := by omega
      subst hmn
      exact ⟨ret_int (by rw [HS.out]; rfl), rfl⟩
end Go.Proofs.Yteoioldbigomaaa
