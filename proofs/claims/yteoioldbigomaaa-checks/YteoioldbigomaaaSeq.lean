import Derived.Test.YteoioldbigomaaaMk
namespace Go.Proofs.Yteoioldbigomaaa
open Go.RowKit

/-- The list of F 0 .. F (n - 1). -/
def M.sq (F : Nat → Nat) (n : Nat) : List Nat := (List.range n).map F

theorem M.sq_len (F : Nat → Nat) (n : Nat) : (M.sq F n).length = n := by simp [M.sq]
theorem M.sq_getD (F : Nat → Nat) (n i : Nat) (h : i < n) : (M.sq F n).getD i 0 = F i := by simp [M.sq, h]
theorem M.cu_sq (F : Nat → Nat) (n i : Nat) (h : i < n) : cu (M.sq F n) i = .int .u64 ((F i : Nat) : Int) := by
  unfold cu; rw [M.sq_getD F n i h]
theorem M.sq_mem {F : Nat → Nat} {n x : Nat} (h : x ∈ M.sq F n) : ∃ i, i < n ∧ F i = x := by
  simpa [M.sq] using h
theorem M.sq_take_succ (F : Nat → Nat) (n k : Nat) (h : k < n) : (M.sq F n).take (k + 1) = (M.sq F n).take k ++ [F k] := by
  rw [take_snoc _ k 0 (by rw [M.sq_len]; exact h), M.sq_getD F n k h]
theorem M.sq_self (l : List Nat) : M.sq (fun i => l.getD i 0) l.length = l := by
  apply List.ext_getElem
  · simp [M.sq]
  · intro i h1 h2
    simp [M.sq, h2]
theorem M.sq_congr {F G : Nat → Nat} {n : Nat} (h : ∀ i, i < n → F i = G i) : M.sq F n = M.sq G n := by
  unfold M.sq
  apply List.map_congr_left
  intro i hi
  exact h i (by simpa using hi)

theorem M.pw_succ (m x k : Nat) : M.pw m x (k + 1) = M.pw m x k * x % m := by
  unfold M.pw; rw [Nat.pow_succ, Nat.mod_mul_mod]

theorem SC.pw (x k : Nat) : SC (M.pw 1073741789 x k) := ⟨M.pw_lt (by omega) _ _⟩
theorem EL.pw (x k : Nat) : EL (M.pw 2147483579 x k) := ⟨M.pw_lt (by omega) _ _⟩

set_option maxHeartbeats 400000 in
theorem powers_any (x n : Nat) (w : World) (hx : SC x) (hn : n ≤ 65536) :
    Calls Try.prog 56 #[.int .u64 x, .int .i64 n] w fun e w' => Below w.heap.size w w' ∧
      ∃ g, e = .returned (.slice (some ⟨g, 0, none⟩) n n) ∧ RdF w' (some ⟨g, 0, none⟩) n (cu (M.sq (fun i => M.pw 1073741789 x i) n)) := by
  obtain ⟨i0, hi, hz0, hz1, hz2⟩ := info_parts Try.info52
  have hle : n ≤ maxLen := by unfold maxLen; omega
  go_enter Try.func56, Try.ntmps56
  go_wp2_with (at_make; refine wpList_make_full _ rfl _ _ 49 rfl w.heap.size 52 i0 (.int .u64 0) 1 Try.underlying49 hi hz0 hz1 .i64 .i64 _ _ n rfl rfl (by omega) (by omega) (by rw [hz2]; omega) (by assumption) (Nat.le_refl _) ?_; intro w1 hown hgrow)
  have F : Fill w1 w.heap.size 52 w.heap.size n 0 (cu (M.sq (fun i => M.pw 1073741789 x i) n)) := Fill.start hown
  have bel := below_made hgrow
  clear hown hgrow hi hz0 hz1 hz2 hle
  go_loopw [6, 11] (fun p i wr => ∃ k S : Nat, k ≤ n ∧ i = .int .i64 k ∧ p = .int .u64 S ∧ SC S ∧ Hid (S = M.pw 1073741789 x k) ∧ Below w.heap.size w wr ∧ Fill wr w.heap.size 52 w.heap.size n k (cu (M.sq (fun i => M.pw 1073741789 x i) n))) (fun _ i _ => n - (intOf i).toNat)
  case atStart => exact ⟨0, 1, Nat.zero_le _, rfl, rfl, ⟨by omega⟩, (M.pw_zero (by omega) x).symm, bel, F⟩
  case round =>
    clear F bel
    obtain ⟨k, S, hk, rfl, rfl, hS, HS, bel, F⟩ := hrel
    by_cases hlt : k < n
    · have hfz := F.frozen k
      obtain ⟨v, hv⟩ := F.there hlt
      go_wp2_with (go_at_call 40; refine (times_any _ _ _ (by assumption) (by assumption)).mono ?_; rintro e w' ⟨rfl, rfl⟩)
      go_roundw
      case rel =>
        refine ⟨k + 1, S * x % 1073741789, by omega, by go_num, rfl, SC.mod _, ?_, ?_, ?_⟩
        · rw [HS.out]; exact (M.pw_succ _ _ _).symm
        · exact bel.setCell (Nat.le_refl _) _
        · exact F.store hlt (by rw [M.cu_sq _ _ _ hlt, HS.out])
      case measure => simp [intOf]; omega
    · go_wp2_with fail
      go_ret
      have hkn : k = n := by omega
      subst hkn
      exact ⟨bel, _, rfl, F.rd⟩

set_option maxHeartbeats 400000 in
theorem plainE_any (a : Option Addr) (c n : Nat) (f : Nat → Nat) (w : World) (hlen : n ≤ 65536) (hr : RdF w a n (cu (M.sq f n))) :
    Calls Try.prog 28 #[.slice a n c] w fun e w' => Below w.heap.size w w' ∧
      ∃ g, w.heap.size ≤ g ∧ e = .returned (.slice (some ⟨g, 0, none⟩) n n) ∧ RdF w' (some ⟨g, 0, none⟩) n (cu (M.sq f n)) := by
  obtain ⟨i0, hi, hz0, hz1, hz2⟩ := info_parts Try.info30
  have hle : n ≤ maxLen := by unfold maxLen; omega
  go_enter Try.func28, Try.ntmps28
  go_wp2_with (at_make; refine wpList_make_full _ rfl _ _ 22 rfl w.heap.size 30 i0 (.int .u64 0) 1 Try.underlying22 hi hz0 hz1 .i64 .i64 _ _ n rfl rfl (by omega) (by omega) (by rw [hz2]; omega) (by assumption) (Nat.le_refl _) ?_; intro w1 hown hgrow)
  have F : Fill w1 w.heap.size 30 w.heap.size n 0 (cu (M.sq f n)) := Fill.start hown
  have bel := below_made hgrow
  clear hown hgrow hi hz0 hz1 hz2 hle
  go_loopw [11] (fun i wr => ∃ k : Nat, k ≤ n ∧ i = .int .i64 k ∧ Below w.heap.size w wr ∧ Fill wr w.heap.size 30 w.heap.size n k (cu (M.sq f n))) (fun i _ => n - (intOf i).toNat)
  case atStart => exact ⟨0, Nat.zero_le _, rfl, bel, F⟩
  case round =>
    clear F bel
    obtain ⟨k, hk, rfl, bel, F⟩ := hrel
    by_cases hlt : k < n
    · obtain ⟨b, o, rfl, hb, hc⟩ := hr.at (by omega)
      obtain ⟨x, hx⟩ : ∃ x, x = f k := ⟨_, rfl⟩
      have hcx : wr.cell? ⟨b, o + k, none⟩ = some (.int .u64 (x : Int)) := by rw [bel.cell (by exact hb), hc k hlt, M.cu_sq _ _ _ hlt, hx]
      have HX : Hid (x = f k) := hx
      have hfz := F.frozen k
      obtain ⟨v, hv⟩ := F.there hlt
      clear hx hc hr
      go_wp2_with fail
      go_roundw
      case rel =>
        refine ⟨k + 1, by omega, by go_num, ?_, ?_⟩
        · exact bel.setCell (Nat.le_refl _) _
        · exact F.store hlt (by rw [M.cu_sq _ _ _ hlt, HX.out])
      case measure => simp [intOf]; omega
    · go_wp2_with fail
      go_ret
      have hkn : k = n := by omega
      subst hkn
      exact ⟨bel, _, Nat.le_refl _, rfl, F.rd⟩

set_option maxHeartbeats 400000 in
theorem plainS_any (a : Option Addr) (c n : Nat) (f : Nat → Nat) (w : World) (hlen : n ≤ 65536) (hr : RdF w a n (cu (M.sq f n))) :
    Calls Try.prog 29 #[.slice a n c] w fun e w' => Below w.heap.size w w' ∧
      ∃ g, w.heap.size ≤ g ∧ e = .returned (.slice (some ⟨g, 0, none⟩) n n) ∧ RdF w' (some ⟨g, 0, none⟩) n (cu (M.sq f n)) := by
  obtain ⟨i0, hi, hz0, hz1, hz2⟩ := info_parts Try.info30
  have hle : n ≤ maxLen := by unfold maxLen; omega
  go_enter Try.func29, Try.ntmps29
  go_wp2_with (at_make; refine wpList_make_full _ rfl _ _ 22 rfl w.heap.size 30 i0 (.int .u64 0) 1 Try.underlying22 hi hz0 hz1 .i64 .i64 _ _ n rfl rfl (by omega) (by omega) (by rw [hz2]; omega) (by assumption) (Nat.le_refl _) ?_; intro w1 hown hgrow)
  have F : Fill w1 w.heap.size 30 w.heap.size n 0 (cu (M.sq f n)) := Fill.start hown
  have bel := below_made hgrow
  clear hown hgrow hi hz0 hz1 hz2 hle
  go_loopw [11] (fun i wr => ∃ k : Nat, k ≤ n ∧ i = .int .i64 k ∧ Below w.heap.size w wr ∧ Fill wr w.heap.size 30 w.heap.size n k (cu (M.sq f n))) (fun i _ => n - (intOf i).toNat)
  case atStart => exact ⟨0, Nat.zero_le _, rfl, bel, F⟩
  case round =>
    clear F bel
    obtain ⟨k, hk, rfl, bel, F⟩ := hrel
    by_cases hlt : k < n
    · obtain ⟨b, o, rfl, hb, hc⟩ := hr.at (by omega)
      obtain ⟨x, hx⟩ : ∃ x, x = f k := ⟨_, rfl⟩
      have hcx : wr.cell? ⟨b, o + k, none⟩ = some (.int .u64 (x : Int)) := by rw [bel.cell (by exact hb), hc k hlt, M.cu_sq _ _ _ hlt, hx]
      have HX : Hid (x = f k) := hx
      have hfz := F.frozen k
      obtain ⟨v, hv⟩ := F.there hlt
      clear hx hc hr
      go_wp2_with fail
      go_roundw
      case rel =>
        refine ⟨k + 1, by omega, by go_num, ?_, ?_⟩
        · exact bel.setCell (Nat.le_refl _) _
        · exact F.store hlt (by rw [M.cu_sq _ _ _ hlt, HX.out])
      case measure => simp [intOf]; omega
    · go_wp2_with fail
      go_ret
      have hkn : k = n := by omega
      subst hkn
      exact ⟨bel, _, Nat.le_refl _, rfl, F.rd⟩

theorem M.sumQ_lt (l : List Nat) : SC (M.sumQ l) := by
  rcases l.eq_nil_or_concat with rfl | ⟨l', x, rfl⟩
  · exact ⟨by decide⟩
  · rw [List.concat_eq_append, M.sumQ_snoc]; exact SC.mod _

/-- The terms of a polynomial at x. -/
def M.term (c : Nat → Nat) (x i : Nat) : Nat := c i * M.pw 1073741789 x i % 1073741789
def M.poly (c : Nat → Nat) (n x : Nat) : Nat := M.sumQ (M.sq (M.term c x) n)

set_option maxHeartbeats 400000 in
theorem rpoly_any (a : Option Addr) (c n x : Nat) (f : Nat → Nat) (w : World) (hlen : n ≤ 65536) (hx : SC x) (hf : ∀ i, i < n → SC (f i)) (hr : RdF w a n (cu (M.sq f n))) :
    Calls Try.prog 31 #[.slice a n c, .int .u64 x] w fun e w' => e = .returned (.int .u64 (M.poly f n x : Nat)) ∧ w' = w := by
  have HF : Hid (∀ i, i < n → SC (f i)) := hf
  clear hf
  go_enter Try.func31, Try.ntmps31
  go_wp2_with fail
  go_loopw [5, 6, 11] (fun s p i wr => ∃ k S T : Nat, wr = w ∧ k ≤ n ∧ i = .int .i64 k ∧ s = .int .u64 S ∧ p = .int .u64 T ∧ SC S ∧ SC T ∧ Hid (S = M.sumQ ((M.sq (M.term f x) n).take k)) ∧ Hid (T = M.pw 1073741789 x k)) (fun _ _ i _ => n - (intOf i).toNat)
  case atStart => exact ⟨0, 0, 1, rfl, Nat.zero_le _, rfl, rfl, rfl, ⟨by omega⟩, ⟨by omega⟩, rfl, (M.pw_zero (by omega) x).symm⟩
  case round =>
    obtain ⟨k, S, T, rfl, hk, rfl, rfl, rfl, hS, hT, HS, HT⟩ := hrel
    by_cases hlt : k < n
    · obtain ⟨b, o, rfl, hb, hc⟩ := hr.at (by omega)
      obtain ⟨y, hy⟩ : ∃ y, y = f k := ⟨_, rfl⟩
      have hcx : wr.cell? ⟨b, o + k, none⟩ = some (.int .u64 (y : Int)) := by rw [hc k hlt, M.cu_sq _ _ _ hlt, hy]
      have HY : Hid (y = f k) := hy
      have hsy : SC y := by rw [hy]; exact HF.out k hlt
      have b1 := mul_bd (Nat.le_of_lt hsy.out) (Nat.le_of_lt hT.out)
      have b2 := mul_bd (Nat.le_of_lt hT.out) (Nat.le_of_lt hx.out)
      have b3 : (S : Int) ≤ 1073741789 := by have := hS.out; omega
      clear hy hc hr HF
      go_wp2_with fail
      go_roundw
      case rel =>
        refine ⟨k + 1, (S + y * T) % 1073741789, T * x % 1073741789, trivial, by omega, by go_num, by go_num, by go_num, SC.mod _, SC.mod _, ?_, ?_⟩
        · rw [M.sq_take_succ _ _ _ hlt, M.sumQ_snoc, ← HS.out]
          unfold M.term
          rw [← HY.out, ← HT.out, Nat.add_mod_mod]; rfl
        · rw [HT.out]; exact (M.pw_succ _ _ _).symm
      case measure => simp [intOf]; omega
    · go_wp2_with fail
      go_ret
      exact ⟨ret_int (by rw [HS.out, List.take_of_length_le (by rw [M.sq_len]; omega)]; rfl), rfl⟩
end Go.Proofs.Yteoioldbigomaaa
