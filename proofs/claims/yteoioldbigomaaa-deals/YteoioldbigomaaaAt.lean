import Derived.Test.YteoioldbigomaaaPair
namespace Go.Proofs.Yteoioldbigomaaa
open Go.RowKit

/-- The contracts on lists, of numbers that are said by a function. -/
theorem togetherS (a : Option Addr) (c n : Nat) (f : Nat → Nat) (w : World) (hlen : n ≤ 65536) (hl : ∀ i, i < n → SC (f i)) (hr : RdF w a n (cu (M.sq f n))) :
    Calls Try.prog 37 #[.func (.func 38) #[] #[], .int .u64 0, .slice a n c] w fun e w' => e = .returned (.int .u64 (M.sumQ (M.sq f n) : Nat)) ∧ w' = w := by
  have h := together_plus a c (M.sq f n) w
  rw [M.sq_len] at h
  exact h hlen (fun x hx => by obtain ⟨i, hi, rfl⟩ := M.sq_mem hx; exact hl i hi) hr

theorem togetherT (a : Option Addr) (c n : Nat) (f : Nat → Nat) (w : World) (hlen : n ≤ 65536) (hl : ∀ i, i < n → SC (f i)) (hr : RdF w a n (cu (M.sq f n))) :
    Calls Try.prog 37 #[.func (.func 40) #[] #[], .int .u64 1, .slice a n c] w fun e w' => e = .returned (.int .u64 (M.prodQ (M.sq f n) : Nat)) ∧ w' = w := by
  have h := together_times a c (M.sq f n) w
  rw [M.sq_len] at h
  exact h hlen (fun x hx => by obtain ⟨i, hi, rfl⟩ := M.sq_mem hx; exact hl i hi) hr

theorem togetherE (a : Option Addr) (c n : Nat) (f : Nat → Nat) (w : World) (hlen : n ≤ 65536) (hl : ∀ i, i < n → EL (f i)) (hr : RdF w a n (cu (M.sq f n))) :
    Calls Try.prog 77 #[.func (.func 50) #[] #[], .int .u64 1, .slice a n c] w fun e w' => e = .returned (.int .u64 (M.prodP (M.sq f n) : Nat)) ∧ w' = w := by
  have h := together_etimes a c (M.sq f n) w
  rw [M.sq_len] at h
  exact h hlen (fun x hx => by obtain ⟨i, hi, rfl⟩ := M.sq_mem hx; exact hl i hi) hr

theorem at_any (a : Option Addr) (c n x : Nat) (f : Nat → Nat) (w : World) (hlen : n ≤ 65536) (hx : x ≤ 9) (hf : ∀ i, i < n → SC (f i)) (hr : RdF w a n (cu (M.sq f n))) :
    Calls Try.prog 27 #[.slice a n c, .int .i64 x] w fun e w' => Below w.heap.size w w' ∧ e = .returned (.int .u64 (M.poly f n x : Nat)) := by
  have HF : Hid (∀ i, i < n → SC (f i)) := hf
  clear hf
  have hxs : SC x := ⟨by omega⟩
  go_enter Try.func27, Try.ntmps27
  go_wp2_with (go_at_call 56; refine (powers_any x n _ hxs hlen).mono ?_; rintro e w1 ⟨bel1, g1, rfl, rd1⟩)
  have rd0 := hr.below bel1
  go_wp2_with (go_at_call 39; refine (pairS_any a (some ⟨g1, 0, none⟩) c n n f _ _ hlen HF.out (fun i _ => SC.pw x i) rd0 rd1).mono ?_; rintro e w2 ⟨bel2, g2, rfl, rd2⟩)
  go_wp2_with (go_at_call 37; refine (togetherS (some ⟨g2, 0, none⟩) n n _ _ hlen (fun i _ => SC.mod _) rd2).mono ?_; rintro e w3 ⟨rfl, rfl⟩)
  go_ret
  exact ⟨bel1.trans (bel2.mono bel1.size), rfl⟩
end Go.Proofs.Yteoioldbigomaaa
