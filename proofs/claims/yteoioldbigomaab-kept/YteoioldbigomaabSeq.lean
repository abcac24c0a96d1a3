import Derived.Test.YteoioldbigomaabSl
import Derived.RegionTactic
import Derived.Deep.RegionWith
namespace Go.Proofs.Yteoioldbigomaab
open Go.RowKit

/-- The list of F 0 .. F (n - 1). -/
def M.sq (F : Nat → Nat) (n : Nat) : List Nat := (List.range n).map F

theorem M.sq_len (F : Nat → Nat) (n : Nat) : (M.sq F n).length = n := by simp [M.sq]
theorem M.sq_getD (F : Nat → Nat) (n i : Nat) (h : i < n) : (M.sq F n).getD i 0 = F i := by simp [M.sq, h]
theorem M.cu_sq (F : Nat → Nat) (n i : Nat) (h : i < n) : cu (M.sq F n) i = .int .u64 ((F i : Nat) : Int) := by
  unfold cu; rw [M.sq_getD F n i h]
theorem M.sq_mem {F : Nat → Nat} {n x : Nat} (h : x ∈ M.sq F n) : ∃ i, i < n ∧ F i = x := by
  simpa [M.sq] using h
theorem M.sq_take_succ (F : Nat → Nat) (n k : Nat) (h : k < n) : (M.sq F n).take (k + 1) = (M.sq F n).take k ++ [F k] := by
  rw [take_snoc _ k 0 (by rw [M.sq_len]; exact h), M.sq_getD F n k h]
theorem M.sq_self (l : List Nat) : M.sq (fun i => l.getD i 0) l.length = l := by
  apply List.ext_getElem
  · simp [M.sq]
  · intro i h1 h2
    simp [M.sq, h2]
theorem M.sq_congr {F G : Nat → Nat} {n : Nat} (h : ∀ i, i < n → F i = G i) : M.sq F n = M.sq G n := by
  unfold M.sq
  apply List.map_congr_left
  intro i hi
  exact h i (by simpa using hi)

theorem M.pw_succ (m x k : Nat) : M.pw m x (k + 1) = M.pw m x k * x % m := by
  unfold M.pw; rw [Nat.pow_succ, Nat.mod_mul_mod]

theorem SC.pw (x k : Nat) : SC (M.pw 1073741789 x k) := ⟨M.pw_lt (by omega) _ _⟩
theorem EL.pw (x k : Nat) : EL (M.pw 2147483579 x k) := ⟨M.pw_lt (by omega) _ _⟩

set_option maxHeartbeats 400000 in
theorem powers_any (x n : Nat) (w : World) (hx : SC x) (hn : n ≤ 65536) :
    Calls Try.prog 61 #[.int .u64 x, .int .i64 n] w fun e w' => Below w.heap.size w w' ∧
      ∃ g, e = .returned (.slice (some ⟨g, 0, none⟩) n n) ∧ RdF w' (some ⟨g, 0, none⟩) n (cu (M.sq (fun i => M.pw 1073741789 x i) n)) := by
  obtain ⟨i0, hi, hz0, hz1, hz2⟩ := info_parts Try.info51
  have hle : n ≤ maxLen := by unfold maxLen; omega
  go_enter Try.func61, Try.ntmps61
  go_wp2_with (at_make; refine wpList_make_full _ rfl _ _ 55 rfl w.heap.size 51 i0 (.int .u64 0) 1 Try.underlying55 hi hz0 hz1 .i64 .i64 _ _ n rfl rfl (by omega) (by omega) (by rw [hz2]; omega) (by assumption) (Nat.le_refl _) ?_; intro w1 hown hgrow)
  have F : Fill w1 w.heap.size 51 w.heap.size n 0 (cu (M.sq (fun i => M.pw 1073741789 x i) n)) := Fill.start hown
  have bel := below_made hgrow
  clear hown hgrow hi hz0 hz1 hz2 hle
  go_loopw [6, 11] (fun p i wr => ∃ k S : Nat, k ≤ n ∧ i = .int .i64 k ∧ p = .int .u64 S ∧ SC S ∧ Hid (S = M.pw 1073741789 x k) ∧ Below w.heap.size w wr ∧ Fill wr w.heap.size 51 w.heap.size n k (cu (M.sq (fun i => M.pw 1073741789 x i) n))) (fun _ i _ => n - (intOf i).toNat)
  case atStart => exact ⟨0, 1, Nat.zero_le _, rfl, rfl, ⟨by omega⟩, (M.pw_zero (by omega) x).symm, bel, F⟩
  case round =>
    clear F bel
    obtain ⟨k, S, hk, rfl, rfl, hS, HS, bel, F⟩ := hrel
    by_cases hlt : k < n
    · have hfz := F.frozen k
      obtain ⟨v, hv⟩ := F.there hlt
      go_wp2_with (go_at_call 23; refine (times_any _ _ _ (by assumption) (by assumption)).mono ?_; rintro e w' ⟨rfl, rfl⟩)
      go_roundw
      case rel =>
        refine ⟨k + 1, S * x % 1073741789, by omega, by go_num, rfl, SC.mod _, ?_, ?_, ?_⟩
        · rw [HS.out]; exact (M.pw_succ _ _ _).symm
        · exact bel.setCell (Nat.le_refl _) _
        · exact F.store hlt (by rw [M.cu_sq _ _ _ hlt, HS.out])
      case measure => simp [intOf]; omega
    · go_wp2_with fail
      go_ret
      have hkn : k = n := by omega
      subst hkn
      exact ⟨bel, _, rfl, F.rd⟩

set_option maxHeartbeats 400000 in
theorem plainE_any (a : Option Addr) (c n : Nat) (f : Nat → Nat) (w : World) (hlen : n ≤ 65536) (hr : RdF w a n (cu (M.sq f n))) :
    Calls Try.prog 43 #[.slice a n c] w fun e w' => Below w.heap.size w w' ∧
      ∃ g, w.heap.size ≤ g ∧ e = .returned (.slice (some ⟨g, 0, none⟩) n n) ∧ RdF w' (some ⟨g, 0, none⟩) n (cu (M.sq f n)) := by
  obtain ⟨i0, hi, hz0, hz1, hz2⟩ := info_parts Try.info22
  have hle : n ≤ maxLen := by unfold maxLen; omega
  go_enter Try.func43, Try.ntmps43
  go_wp2_with (at_make; refine wpList_make_full _ rfl _ _ 23 rfl w.heap.size 22 i0 (.int .u64 0) 1 Try.underlying23 hi hz0 hz1 .i64 .i64 _ _ n rfl rfl (by omega) (by omega) (by rw [hz2]; omega) (by assumption) (Nat.le_refl _) ?_; intro w1 hown hgrow)
  have F : Fill w1 w.heap.size 22 w.heap.size n 0 (cu (M.sq f n)) := Fill.start hown
  have bel := below_made hgrow
  clear hown hgrow hi hz0 hz1 hz2 hle
  go_loopw [11] (fun i wr => ∃ k : Nat, k ≤ n ∧ i = .int .i64 k ∧ Below w.heap.size w wr ∧ Fill wr w.heap.size 22 w.heap.size n k (cu (M.sq f n))) (fun i _ => n - (intOf i).toNat)
  case atStart => exact ⟨0, Nat.zero_le _, rfl, bel, F⟩
  case round =>
    clear F bel
    obtain ⟨k, hk, rfl, bel, F⟩ := hrel
    by_cases hlt : k < n
    · obtain ⟨b, o, rfl, hb, hc⟩ := hr.at (by omega)
      obtain ⟨x, hx⟩ : ∃ x, x = f k := ⟨_, rfl⟩
      have hcx : wr.cell? ⟨b, o + k, none⟩ = some (.int .u64 (x : Int)) := by rw [bel.cell (by exact hb), hc k hlt, M.cu_sq _ _ _ hlt, hx]
      have HX : Hid (x = f k) := hx
      have hfz := F.frozen k
      obtain ⟨v, hv⟩ := F.there hlt
      clear hx hc hr
      go_wp2_with fail
      go_roundw
      case rel =>
        refine ⟨k + 1, by omega, by go_num, ?_, ?_⟩
        · exact bel.setCell (Nat.le_refl _) _
        · exact F.store hlt (by rw [M.cu_sq _ _ _ hlt, HX.out])
      case measure => simp [intOf]; omega
    · go_wp2_with fail
      go_ret
      have hkn : k = n := by omega
      subst hkn
      exact ⟨bel, _, Nat.le_refl _, rfl, F.rd⟩

set_option maxHeartbeats 400000 in
theorem plainS_any (a : Option Addr) (c n : Nat) (f : Nat → Nat) (w : World) (hlen : n ≤ 65536) (hr : RdF w a n (cu (M.sq f n))) :
    Calls Try.prog 44 #[.slice a n c] w fun e w' => Below w.heap.size w w' ∧
      ∃ g, w.heap.size ≤ g ∧ e = .returned (.slice (some ⟨g, 0, none⟩) n n) ∧ RdF w' (some ⟨g, 0, none⟩) n (cu (M.sq f n)) := by
  obtain ⟨i0, hi, hz0, hz1, hz2⟩ := info_parts Try.info22
  have hle : n ≤ maxLen := by unfold maxLen; omega
  go_enter Try.func44, Try.ntmps44
  go_wp2_with (at_make; refine wpList_make_full _ rfl _ _ 23 rfl w.heap.size 22 i0 (.int .u64 0) 1 Try.underlying23 hi hz0 hz1 .i64 .i64 _ _ n rfl rfl (by omega) (by omega) (by rw [hz2]; omega) (by assumption) (Nat.le_refl _) ?_; intro w1 hown hgrow)
  have F : Fill w1 w.heap.size 22 w.heap.size n 0 (cu (M.sq f n)) := Fill.start hown
  have bel := below_made hgrow
  clear hown hgrow hi hz0 hz1 hz2 hle
  go_loopw [11] (fun i wr => ∃ k : Nat, k ≤ n ∧ i = .int .i64 k ∧ Below w.heap.size w wr ∧ Fill wr w.heap.size 22 w.heap.size n k (cu (M.sq f n))) (fun i _ => n - (intOf i).toNat)
  case atStart => exact ⟨0, Nat.zero_le _, rfl, bel, F⟩
  case round =>
    clear F bel
    obtain ⟨k, hk, rfl, bel, F⟩ := hrel
    by_cases hlt : k < n
    · obtain ⟨b, o, rfl, hb, hc⟩ := hr.at (by omega)
      obtain ⟨x, hx⟩ : ∃ x, x = f k := ⟨_, rfl⟩
      have hcx : wr.cell? ⟨b, o + k, none⟩ = some (.int .u64 (x : Int)) := by rw [bel.cell (by exact hb), hc k hlt, M.cu_sq _ _ _ hlt, hx]
      have HX : Hid (x = f k) := hx
      have hfz := F.frozen k
      obtain ⟨v, hv⟩ := F.there hlt
      clear hx hc hr
      go_wp2_with fail
      go_roundw
      case rel =>
        refine ⟨k + 1, by omega, by go_num, ?_, ?_⟩
        · exact bel.setCell (Nat.le_refl _) _
        · exact F.store hlt (by rw [M.cu_sq _ _ _ hlt, HX.out])
      case measure => simp [intOf]; omega
    · go_wp2_with fail
      go_ret
      have hkn : k = n := by omega
      subst hkn
      exact ⟨bel, _, Nat.le_refl _, rfl, F.rd⟩

theorem M.sumQ_lt (l : List Nat) : SC (M.sumQ l) := by
  rcases l.eq_nil_or_concat with rfl | ⟨l', x, rfl⟩
  · exact ⟨by decide⟩
  · rw [List.concat_eq_append, M.sumQ_snoc]; exact SC.mod _

/-- The terms of a polynomial at x. -/
def M.term (c : Nat → Nat) (x i : Nat) : Nat := c i * M.pw 1073741789 x i % 1073741789
def M.poly (c : Nat → Nat) (n x : Nat) : Nat := M.sumQ (M.sq (M.term c x) n)

end Go.Proofs.Yteoioldbigomaab
namespace Go.Proofs.Yteoioldbigomaab
open Go.RowKit

theorem Fill.drew {w : World} {B e g n k : Nat} {f : Nat → Value} (h : Fill w B e g n k f) : Fill w.drew B e g n k f := by
  obtain ⟨xs, h1, h2⟩ := h
  exact ⟨xs, h1.drew, h2⟩

set_option maxHeartbeats 1000000 in
theorem pairS_any (a b : Option Addr) (c d n : Nat) (f g : Nat → Nat) (w : World) (hlen : n ≤ 65536) (hf : ∀ i, i < n → SC (f i)) (hg : ∀ i, i < n → SC (g i))
    (hr : RdF w a n (cu (M.sq f n))) (hs : RdF w b n (cu (M.sq g n))) :
    Calls Try.prog 22 #[.func (.func 23) #[] #[], .slice a n c, .slice b n d] w fun e w' => Below w.heap.size w w' ∧
      ∃ r, e = .returned (.slice (some ⟨r, 0, none⟩) n n) ∧ RdF w' (some ⟨r, 0, none⟩) n (cu (M.sq (fun i => f i * g i % 1073741789) n)) := by
  have HF : Hid (∀ i, i < n → SC (f i)) := hf
  have HG : Hid (∀ i, i < n → SC (g i)) := hg
  clear hf hg
  obtain ⟨i0, hi, hz0, hz1, hz2⟩ := info_parts Try.info51
  have hle : n ≤ maxLen := by unfold maxLen; omega
  go_enter Try.func22, Try.ntmps22
  go_wp2_with (at_make; refine wpList_make_full _ rfl _ _ 55 rfl w.heap.size 51 i0 (.int .u64 0) 1 Try.underlying55 hi hz0 hz1 .i64 .i64 _ _ n rfl rfl (by omega) (by omega) (by rw [hz2]; omega) (by assumption) (Nat.le_refl _) ?_; intro w1 hown hgrow)
  have F : Fill w1 w.heap.size 51 w.heap.size n 0 (cu (M.sq (fun i => f i * g i % 1073741789) n)) := Fill.start hown
  have bel := below_made hgrow
  clear hown hgrow hi hz0 hz1 hz2 hle
  go_loopw [17] (fun i wr => ∃ k : Nat, k ≤ n ∧ i = .int .i64 k ∧ Below w.heap.size w wr ∧ Fill wr w.heap.size 51 w.heap.size n k (cu (M.sq (fun i => f i * g i % 1073741789) n))) (fun i _ => n - (intOf i).toNat)
  case atStart => exact ⟨0, Nat.zero_le _, rfl, bel, F⟩
  case round =>
    clear F bel
    obtain ⟨k, hk, rfl, bel, F⟩ := hrel
    by_cases hlt : k < n
    · obtain ⟨b1, o1, rfl, hb1, hc1⟩ := hr.at (by omega)
      obtain ⟨b2, o2, rfl, hb2, hc2⟩ := hs.at (by omega)
      obtain ⟨x, hx⟩ : ∃ x, x = f k := ⟨_, rfl⟩
      obtain ⟨y, hy⟩ : ∃ y, y = g k := ⟨_, rfl⟩
      have hcx : wr.cell? ⟨b1, o1 + k, none⟩ = some (.int .u64 (x : Int)) := by rw [bel.cell (by exact hb1), hc1 k hlt, M.cu_sq _ _ _ hlt, hx]
      have hcy : wr.cell? ⟨b2, o2 + k, none⟩ = some (.int .u64 (y : Int)) := by rw [bel.cell (by exact hb2), hc2 k hlt, M.cu_sq _ _ _ hlt, hy]
      have HX : Hid (x = f k) := hx
      have HY : Hid (y = g k) := hy
      have hsx : SC x := by rw [hx]; exact HF.out k hlt
      have hsy : SC y := by rw [hy]; exact HG.out k hlt
      have hfz := F.frozen k
      obtain ⟨v, hv⟩ := F.there hlt
      have hki : (k : Int) < n := by omega
      clear hx hy hc1 hr hc2 hs HF HG
      go_wp2_with fail
      go_region_with (go_at_call 23; refine (times_any _ _ _ hsx hsy).mono ?_; rintro e w' ⟨rfl, rfl⟩)
      all_goals
        go_wp2_with fail
        go_roundw
        case rel =>
          refine ⟨k + 1, by omega, by go_num, ?_, ?_⟩
          · exact (bel.setCell (p := ⟨w.heap.size, k, none⟩) (Nat.le_refl _) _).drew
          · exact (F.store hlt (by rw [M.cu_sq _ _ _ hlt, HX.out, HY.out]; simp)).drew
        case measure => simp [intOf]; omega
    · go_wp2_with fail
      go_ret
      have hkn : k = n := by omega
      subst hkn
      exact ⟨bel, _, rfl, F.rd⟩

set_option maxHeartbeats 1000000 in
theorem pairE_any (a b : Option Addr) (c d n : Nat) (f g : Nat → Nat) (w : World) (hlen : n ≤ 65536) (hf : ∀ i, i < n → EL (f i)) (hg : ∀ i, i < n → SC (g i))
    (hr : RdF w a n (cu (M.sq f n))) (hs : RdF w b n (cu (M.sq g n))) :
    Calls Try.prog 84 #[.func (.func 49) #[] #[], .slice a n c, .slice b n d] w fun e w' => Below w.heap.size w w' ∧
      ∃ r, e = .returned (.slice (some ⟨r, 0, none⟩) n n) ∧ RdF w' (some ⟨r, 0, none⟩) n (cu (M.sq (fun i => M.pw 2147483579 (f i) (g i)) n)) := by
  have HF : Hid (∀ i, i < n → EL (f i)) := hf
  have HG : Hid (∀ i, i < n → SC (g i)) := hg
  clear hf hg
  obtain ⟨i0, hi, hz0, hz1, hz2⟩ := info_parts Try.info79
  have hle : n ≤ maxLen := by unfold maxLen; omega
  go_enter Try.func84, Try.ntmps84
  go_wp2_with (at_make; refine wpList_make_full _ rfl _ _ 87 rfl w.heap.size 79 i0 (.int .u64 0) 1 Try.underlying87 hi hz0 hz1 .i64 .i64 _ _ n rfl rfl (by omega) (by omega) (by rw [hz2]; omega) (by assumption) (Nat.le_refl _) ?_; intro w1 hown hgrow)
  have F : Fill w1 w.heap.size 79 w.heap.size n 0 (cu (M.sq (fun i => M.pw 2147483579 (f i) (g i)) n)) := Fill.start hown
  have bel := below_made hgrow
  clear hown hgrow hi hz0 hz1 hz2 hle
  go_loopw [17] (fun i wr => ∃ k : Nat, k ≤ n ∧ i = .int .i64 k ∧ Below w.heap.size w wr ∧ Fill wr w.heap.size 79 w.heap.size n k (cu (M.sq (fun i => M.pw 2147483579 (f i) (g i)) n))) (fun i _ => n - (intOf i).toNat)
  case atStart => exact ⟨0, Nat.zero_le _, rfl, bel, F⟩
  case round =>
    clear F bel
    obtain ⟨k, hk, rfl, bel, F⟩ := hrel
    by_cases hlt : k < n
    · obtain ⟨b1, o1, rfl, hb1, hc1⟩ := hr.at (by omega)
      obtain ⟨b2, o2, rfl, hb2, hc2⟩ := hs.at (by omega)
      obtain ⟨x, hx⟩ : ∃ x, x = f k := ⟨_, rfl⟩
      obtain ⟨y, hy⟩ : ∃ y, y = g k := ⟨_, rfl⟩
      have hcx : wr.cell? ⟨b1, o1 + k, none⟩ = some (.int .u64 (x : Int)) := by rw [bel.cell (by exact hb1), hc1 k hlt, M.cu_sq _ _ _ hlt, hx]
      have hcy : wr.cell? ⟨b2, o2 + k, none⟩ = some (.int .u64 (y : Int)) := by rw [bel.cell (by exact hb2), hc2 k hlt, M.cu_sq _ _ _ hlt, hy]
      have HX : Hid (x = f k) := hx
      have HY : Hid (y = g k) := hy
      have hsx : EL x := by rw [hx]; exact HF.out k hlt
      have hsy : SC y := by rw [hy]; exact HG.out k hlt
      have hsy' : y ≤ 1073741789 := Nat.le_of_lt hsy.out
      have hfz := F.frozen k
      obtain ⟨v, hv⟩ := F.there hlt
      have hki : (k : Int) < n := by omega
      clear hx hy hc1 hr hc2 hs HF HG
      go_wp2_with fail
      go_region_with (go_at_call 49; refine (power_any _ _ _ hsx hsy').mono ?_; rintro e w' ⟨rfl, rfl⟩)
      all_goals
        go_wp2_with fail
        go_roundw
        case rel =>
          refine ⟨k + 1, by omega, by go_num, ?_, ?_⟩
          · exact (bel.setCell (p := ⟨w.heap.size, k, none⟩) (Nat.le_refl _) _).drew
          · exact (F.store hlt (by rw [M.cu_sq _ _ _ hlt, HX.out, HY.out])).drew
        case measure => simp [intOf]; omega
    · go_wp2_with fail
      go_ret
      have hkn : k = n := by omega
      subst hkn
      exact ⟨bel, _, rfl, F.rd⟩
end Go.Proofs.Yteoioldbigomaab
namespace Go.Proofs.Yteoioldbigomaab
open Go.RowKit

/-- The contracts on lists, of numbers that are said by a function. -/
theorem togetherS (a : Option Addr) (c n : Nat) (f : Nat → Nat) (w : World) (hlen : n ≤ 65536) (hl : ∀ i, i < n → SC (f i)) (hr : RdF w a n (cu (M.sq f n))) :
    Calls Try.prog 20 #[.func (.func 21) #[] #[], .int .u64 0, .slice a n c] w fun e w' => e = .returned (.int .u64 (M.sumQ (M.sq f n) : Nat)) ∧ w' = w := by
  have h := together_plus a c (M.sq f n) w
  rw [M.sq_len] at h
  exact h hlen (fun x hx => by obtain ⟨i, hi, rfl⟩ := M.sq_mem hx; exact hl i hi) hr

theorem togetherT (a : Option Addr) (c n : Nat) (f : Nat → Nat) (w : World) (hlen : n ≤ 65536) (hl : ∀ i, i < n → SC (f i)) (hr : RdF w a n (cu (M.sq f n))) :
    Calls Try.prog 20 #[.func (.func 23) #[] #[], .int .u64 1, .slice a n c] w fun e w' => e = .returned (.int .u64 (M.prodQ (M.sq f n) : Nat)) ∧ w' = w := by
  have h := together_times a c (M.sq f n) w
  rw [M.sq_len] at h
  exact h hlen (fun x hx => by obtain ⟨i, hi, rfl⟩ := M.sq_mem hx; exact hl i hi) hr

theorem togetherE (a : Option Addr) (c n : Nat) (f : Nat → Nat) (w : World) (hlen : n ≤ 65536) (hl : ∀ i, i < n → EL (f i)) (hr : RdF w a n (cu (M.sq f n))) :
    Calls Try.prog 53 #[.func (.func 54) #[] #[], .int .u64 1, .slice a n c] w fun e w' => e = .returned (.int .u64 (M.prodP (M.sq f n) : Nat)) ∧ w' = w := by
  have h := together_etimes a c (M.sq f n) w
  rw [M.sq_len] at h
  exact h hlen (fun x hx => by obtain ⟨i, hi, rfl⟩ := M.sq_mem hx; exact hl i hi) hr

theorem at_any (a : Option Addr) (c n x : Nat) (f : Nat → Nat) (w : World) (hlen : n ≤ 65536) (hx : x ≤ 9) (hf : ∀ i, i < n → SC (f i)) (hr : RdF w a n (cu (M.sq f n))) :
    Calls Try.prog 42 #[.slice a n c, .int .i64 x] w fun e w' => Below w.heap.size w w' ∧ e = .returned (.int .u64 (M.poly f n x : Nat)) := by
  have HF : Hid (∀ i, i < n → SC (f i)) := hf
  clear hf
  have hxs : SC x := ⟨by omega⟩
  go_enter Try.func42, Try.ntmps42
  go_wp2_with (go_at_call 61; refine (powers_any x n _ hxs hlen).mono ?_; rintro e w1 ⟨bel1, g1, rfl, rd1⟩)
  have rd0 := hr.below bel1
  go_wp2_with (go_at_call 22; refine (pairS_any a (some ⟨g1, 0, none⟩) c n n f _ _ hlen HF.out (fun i _ => SC.pw x i) rd0 rd1).mono ?_; rintro e w2 ⟨bel2, g2, rfl, rd2⟩)
  go_wp2_with (go_at_call 20; refine (togetherS (some ⟨g2, 0, none⟩) n n _ _ hlen (fun i _ => SC.mod _) rd2).mono ?_; rintro e w3 ⟨rfl, rfl⟩)
  go_ret
  exact ⟨bel1.trans (bel2.mono bel1.size), rfl⟩
end Go.Proofs.Yteoioldbigomaab
namespace Go.Proofs.Yteoioldbigomaab
open Go.RowKit

/-- The numbers that a group may have. -/
structure Fits (t n c : Int) : Prop where
  h2 : 2 ≤ t
  hn : t ≤ n
  h9 : n ≤ 9
  hc : c = t

theorem fit_yes (t n c : Int) (w : World) (h : Fits t n c) :
    Calls Try.prog 41 #[.int .i64 t, .int .i64 n, .int .i64 c] w fun e w' => e = .returned (.bool true) ∧ w' = w := by
  obtain ⟨h1, h2, h3, h4⟩ := h
  subst h4
  go_enter Try.func41, Try.ntmps41
  go_wp2
  go_ret
  exact ⟨by simp, rfl⟩

set_option maxHeartbeats 400000 in
theorem fit_no (t n c : Int) (w : World) (h : ¬ Fits t n c) :
    Calls Try.prog 41 #[.int .i64 t, .int .i64 n, .int .i64 c] w fun e w' => e = .returned (.bool false) ∧ w' = w := by
  have H : Hid (¬ Fits t n c) := h
  clear h
  by_cases h1 : 2 ≤ t
  · by_cases h2 : t ≤ n
    · by_cases h3 : n ≤ 9
      · have h4 : (c == t) = false := by
          simp; intro e; exact H.out ⟨h1, h2, h3, e⟩
        go_enter Try.func41, Try.ntmps41
        go_wp2
        go_ret
        exact ⟨by simp, rfl⟩
      · go_enter Try.func41, Try.ntmps41
        go_wp2
        go_ret
        exact ⟨by simp, rfl⟩
    · go_enter Try.func41, Try.ntmps41
      go_wp2
      go_ret
      exact ⟨by simp, rfl⟩
  · go_enter Try.func41, Try.ntmps41
    go_wp2
    go_ret
    exact ⟨by simp, rfl⟩
end Go.Proofs.Yteoioldbigomaab
