import Derived.Test.YteoioldbigomaabFd
namespace Go.Proofs.Yteoioldbigomaab
open Go.RowKit

set_option maxHeartbeats 2000000 in
set_option maxRecDepth 100000 in
theorem ppart_any {w : World} {gb T N ab o c : Nat} {f : Nat → Nat} {s : ByteArray} {la : Option Addr} {n : Nat} {J D E : Nat → Nat} (h : BR w gb T N ab o c f s la n J D E) (lc k : Nat) (hk : k < n) (hd : EL (D k)) (he : EL (E k)) :
    Calls Try.prog 55 #[bval gb s la n lc, .agg #[.int .i64 (J k : Nat), .int .u64 (D k : Nat), .int .u64 (E k : Nat)]] w fun e w' => e = .returned (.int .u64 (M.prt J D E f n s k : Nat)) ∧ Below w.heap.size w w' := by
  obtain ⟨x, hx⟩ : ∃ x, x = J k := ⟨_, rfl⟩
  obtain ⟨d, hd'⟩ : ∃ d, d = D k := ⟨_, rfl⟩
  obtain ⟨e, he'⟩ : ∃ e, e = E k := ⟨_, rfl⟩
  have hx9 : x ≤ 9 := by rw [hx]; exact h.j9 k hk
  rw [← hd'] at hd
  rw [← he'] at he
  have hB := h.bu.boxed lc
  have B1 := below_alloc w (bobj gb s la n lc)
  obtain ⟨W, hW⟩ : ∃ W, w.alloc (bobj gb s la n lc) = W := ⟨_, rfl⟩
  have hsW : W.heap.size = w.heap.size + 1 := by rw [← hW]; exact size_alloc _ _
  rw [hW] at hB B1
  obtain ⟨W2, hW2⟩ : ∃ W2, W.alloc (.cells #[.int .i64 (x : Nat), .int .u64 (d : Nat), .int .u64 (e : Nat)] 40) = W2 := ⟨_, rfl⟩
  have B2 := below_alloc W (.cells #[.int .i64 (x : Nat), .int .u64 (d : Nat), .int .u64 (e : Nat)] 40)
  have Z2 := heap_alloc_new W (.cells #[.int .i64 (x : Nat), .int .u64 (d : Nat), .int .u64 (e : Nat)] 40)
  rw [hW2] at B2 Z2
  have BW2 : Below w.heap.size w W2 := B1.trans (B2.mono B1.size)
  have hB2 := hB.below B2
  have hR2 := h.below BW2
  obtain ⟨u, hu⟩ : ∃ u, u = M.bind x (f 0) J D E n s := ⟨_, rfl⟩
  have hus : SC u := by rw [hu]; exact M.bind_sc _ _ _ _ _ _ _
  obtain ⟨z, hz⟩ : ∃ z, z = M.pw 2147483579 e u := ⟨_, rfl⟩
  have hez : EL z := by rw [hz]; exact EL.pw _ _
  have CF : ∀ w', Below W2.heap.size W2 w' → Calls Try.prog 36 #[.agg #[.pointer (some ⟨gb, 0, none⟩), .string s, .slice la n lc], .int .i64 (x : Nat)] w' fun e w'' => e = .returned (.int .u64 (u : Nat)) ∧ Below w'.heap.size w' w'' := by
    intro w' b
    rw [hu]
    exact factor_any (hR2.below b) lc x hx9
  have CP : ∀ w', Calls Try.prog 49 #[.int .u64 (e : Nat), .int .u64 (u : Nat)] w' fun ex w'' => ex = .returned (.int .u64 (z : Nat)) ∧ w'' = w' := by
    intro w'
    rw [hz]
    exact power_any e u w' he (Nat.le_of_lt hus.out)
  have CT := fun w' => etimes_any d z w' hd hez
  obtain ⟨r, hr⟩ : ∃ r, r = d * z % 2147483579 := ⟨_, rfl⟩
  rw [← hr] at CT
  have HR : Hid (M.prt J D E f n s k = r) := by rw [hr, hz, hu, hx, hd', he']; rfl
  have K : ∀ w', Below W2.heap.size W2 w' → w'.cell? ⟨w.heap.size, 0, none⟩ = some (.pointer (some ⟨gb, 0, none⟩)) ∧ w'.cell? ⟨w.heap.size, 1, none⟩ = some (.string s) ∧ w'.cell? ⟨w.heap.size, 2, none⟩ = some (.slice la n lc) ∧
      w'.cell? ⟨W.heap.size, 0, none⟩ = some (.int .i64 (x : Nat)) ∧ w'.cell? ⟨W.heap.size, 1, none⟩ = some (.int .u64 (d : Nat)) ∧ w'.cell? ⟨W.heap.size, 2, none⟩ = some (.int .u64 (e : Nat)) ∧ Below W2.heap.size W2 w' := by
    intro w' b
    have hb := hB2.below b
    obtain ⟨y0, y1, y2, _, _, _⟩ := three ((b.block W.heap.size (lt_of_block Z2)).trans Z2)
    exact ⟨hb.k0, hb.k1, hb.k2, y0, y1, y2, b⟩
  rw [← hx, ← hd', ← he', HR.out]
  clear hx hd' he' h hB hB2 hR2 hr hz hu B2 Z2 hd he hez hus
  unfold bval
  unfold bobj at hW
  go_enter Try.func55, Try.ntmps55
  go_upto_region 1 with fail
  clear hW hW2
  rw [← hsW]
  clear hsW
  go_region_held (fun w' => w'.cell? ⟨w.heap.size, 0, none⟩ = some (.pointer (some ⟨gb, 0, none⟩)) ∧ w'.cell? ⟨w.heap.size, 1, none⟩ = some (.string s) ∧ w'.cell? ⟨w.heap.size, 2, none⟩ = some (.slice la n lc) ∧
      w'.cell? ⟨W.heap.size, 0, none⟩ = some (.int .i64 (x : Nat)) ∧ w'.cell? ⟨W.heap.size, 1, none⟩ = some (.int .u64 (d : Nat)) ∧ w'.cell? ⟨W.heap.size, 2, none⟩ = some (.int .u64 (e : Nat)) ∧ Below W2.heap.size W2 w')
    (first | assumption | exact K _ (Below.refl _ _).drew | exact K _ b3) (first | (go_at_call 36; refine (CF _ (Below.refl _ _).drew).mono ?_; rintro ex w3 ⟨rfl, b3'⟩; have b3 : Below W2.heap.size W2 w3 := (Below.refl _ _).drew.trans b3') | (go_at_call 49; refine (CP _).mono ?_; rintro ex w4 ⟨rfl, hw⟩; subst hw) | (go_at_call 54; refine (CT _).mono ?_; rintro ex w4 ⟨rfl, hw⟩; subst hw))
  all_goals
    go_wp2_with fail
    go_ret
    exact ⟨rfl, BW2.trans (b3.mono BW2.size)⟩

set_option maxHeartbeats 2000000 in
set_option maxRecDepth 100000 in
theorem pparts_any {w : World} {gb T N ab o c : Nat} {f : Nat → Nat} {s : ByteArray} {la : Option Addr} {n : Nat} {J D E : Nat → Nat} (h : BR w gb T N ab o c f s la n J D E) (lc : Nat) (hde : ∀ k, k < n → EL (D k) ∧ EL (E k)) :
    Calls Try.prog 33 #[bval gb s la n lc] w fun e w' => ∃ q, e = .returned (.slice (some ⟨q, 0, none⟩) n n) ∧ w.heap.size ≤ q ∧ Below w.heap.size w w' ∧ RdF w' (some ⟨q, 0, none⟩) n (cu (M.sq (M.prt J D E f n s) n)) := by
  have hB := h.bu.boxed lc
  have B1 := below_alloc w (bobj gb s la n lc)
  obtain ⟨W, hW⟩ : ∃ W, w.alloc (bobj gb s la n lc) = W := ⟨_, rfl⟩
  rw [hW] at hB B1
  have hn9 := h.n9
  have k2 := hB.k2
  have HR : Hid (BR W gb T N ab o c f s la n J D E) := h.below B1
  have HB : Hid (BB W w.heap.size gb T N ab o c f s la n lc (fun i => (J i : Nat)) D E) := hB
  have HD : Hid (∀ k, k < n → EL (D k) ∧ EL (E k)) := hde
  obtain ⟨i0, hi, hz0, hz1, hz2⟩ := info_parts Try.info79
  have hle : n ≤ maxLen := by unfold maxLen; omega
  clear h hB hde
  unfold bval
  unfold bobj at hW
  go_enter Try.func33, Try.ntmps33
  go_upto_region 1 with fail
  clear hW
  go_upto_region 2 with (at_make; refine wpList_make_full _ rfl _ _ 87 rfl W.heap.size 79 i0 (.int .u64 0) 1 Try.underlying87 hi hz0 hz1 .i64 .i64 _ _ n rfl rfl (by omega) (by omega) (by rw [hz2]; omega) (by assumption) (Nat.le_refl _) ?_; intro w1 hown hgrow)
  have F : Fill w1 W.heap.size 79 W.heap.size n 0 (cu (M.sq (M.prt J D E f n s) n)) := Fill.start hown
  have bel1 := below_made hgrow
  have k2' := (HB.out.below bel1).k2
  clear hown hgrow hi hz0 hz1 hz2 hle k2
  go_wp2_with fail
  clear k2'
  go_loopw [13] (fun i wr => ∃ k : Nat, k ≤ n ∧ i = .int .i64 k ∧ Below W.heap.size W wr ∧ Fill wr W.heap.size 79 W.heap.size n k (cu (M.sq (M.prt J D E f n s) n))) (fun i _ => n - (intOf i).toNat)
  case atStart => exact ⟨0, Nat.zero_le _, rfl, bel1, F⟩
  case round =>
    clear F bel1
    obtain ⟨k, hk, rfl, bel, F⟩ := hrel
    by_cases hlt : k < n
    · have hBr := HB.out.below bel
      obtain ⟨b, lo, rfl, hb, hc⟩ := hBr.bu.rl.at (by omega)
      obtain ⟨q0, q1, q2⟩ := hc k hlt
      have bA := below_alloc wr (.cells #[.int .i64 (J k : Nat), .int .u64 (D k : Nat), .int .u64 (E k : Nat)] 40)
      have zA := three (heap_alloc_new wr (.cells #[.int .i64 (J k : Nat), .int .u64 (D k : Nat), .int .u64 (E k : Nat)] 40))
      have hBa := hBr.below bA
      have C := ppart_any (HR.out.below (bel.trans (bA.mono bel.size))) lc k hlt (HD.out k hlt).1 (HD.out k hlt).2
      have Fa := F.below bA
      obtain ⟨x, hx⟩ : ∃ x, x = J k := ⟨_, rfl⟩
      obtain ⟨d, hd⟩ : ∃ d, d = D k := ⟨_, rfl⟩
      obtain ⟨e, he⟩ : ∃ e, e = E k := ⟨_, rfl⟩
      obtain ⟨r, hr⟩ : ∃ r, r = M.prt J D E f n s k := ⟨_, rfl⟩
      have HRR : Hid (r = M.prt J D E f n s k) := hr
      simp only [← hx, ← hd, ← he, ← hr] at q0 q1 q2 zA C bA hBa Fa
      have hki : (k : Int) < n := by omega
      have a0 := hBa.k0
      have a1 := hBa.k1
      have a2 := hBa.k2
      clear hx hd he hr hc hBr hBa
      go_upto_region 5 with fail
      obtain ⟨A, hA⟩ : ∃ A, wr.alloc (.cells #[.int .i64 (x : Int), .int .u64 (d : Nat), .int .u64 (e : Nat)] 40) = A := ⟨_, rfl⟩
      rw [hA] at bA zA a0 a1 a2 C Fa ⊢
      obtain ⟨zA0, zA1, zA2, _, _, _⟩ := zA
      clear hA q0 q1 q2 F
      go_upto_region 6 with (first | (go_at_call 55; refine C.mono ?_; rintro ex w3 ⟨rfl, b3⟩; have F3 := Fa.below b3; have hfz := F3.frozen k; obtain ⟨v, hv⟩ := F3.there hlt))
      have bq : Below W.heap.size W w3 := (bel.trans (bA.mono bel.size)).trans (b3.mono (Nat.le_trans bel.size bA.size))
      clear C a0 a1 a2 zA0 zA1 zA2
      go_wp2_with fail
      go_roundw
      case rel =>
        refine ⟨k + 1, by omega, by go_num, bq.setCell (p := ⟨W.heap.size, k, none⟩) (Nat.le_refl _) _, F3.store hlt ?_⟩
        rw [M.cu_sq _ _ _ hlt, HRR.out]
      case measure => simp [intOf]; omega
    · have hkn : n = k := by omega
      subst hkn
      go_wp2_with fail
      go_ret
      exact ⟨W.heap.size, rfl, B1.size, B1.trans (bel.mono B1.size), F.rd⟩

set_option maxHeartbeats 2000000 in
set_option maxRecDepth 100000 in
theorem pall_any {w : World} {a : Option Addr} {n c : Nat} {f : Nat → Nat} {s : ByteArray} {J D E : Nat → Nat} (hn : n ≤ 9) (hr : RdF w a n (cu (M.sq (M.prt J D E f n s) n))) :
    Calls Try.prog 32 #[.slice a n c] w fun e w' => e = .returned (.int .u64 (M.allR J D E f n s : Nat)) ∧ w' = w := by
  have C := togetherE a c n (M.prt J D E f n s) w (by omega) (fun i _ => M.prt_el _ _ _ _ _ _ _) hr
  go_enter Try.func32, Try.ntmps32
  go_wp2_with (go_at_call 53; refine C.mono ?_; rintro ex w3 ⟨rfl, hw3⟩; subst hw3)
  go_ret
  exact ⟨rfl, rfl⟩

set_option maxHeartbeats 2000000 in
set_option maxRecDepth 100000 in
theorem pweight_any {w : World} {gb T N ab o c : Nat} {f : Nat → Nat} {s : ByteArray} {la : Option Addr} {n : Nat} {J D E : Nat → Nat} (h : BR w gb T N ab o c f s la n J D E) (lc k0 : Nat) (hk0 : k0 < n) (hne : ∀ i, i < n → i ≠ k0 → J i ≠ J k0) :
    Calls Try.prog 37 #[bval gb s la n lc, .int .i64 (J k0 : Nat)] w fun e w' => e = .returned (.int .u64 (M.wt J n k0 : Nat)) ∧ Below w.heap.size w w' := by
  have hB := h.bu.boxed lc
  have B1 := below_alloc w (bobj gb s la n lc)
  obtain ⟨W, hW⟩ : ∃ W, w.alloc (bobj gb s la n lc) = W := ⟨_, rfl⟩
  rw [hW] at hB B1
  have hn9 := h.n9
  have k2 := hB.k2
  have HB : Hid (BB W w.heap.size gb T N ab o c f s la n lc (fun i => (J i : Nat)) D E) := hB
  have HJ : Hid (∀ i, i < n → J i ≤ 9) := h.j9
  have HN : Hid (∀ i, i < n → i ≠ k0 → J i ≠ J k0) := hne
  have CW : ∀ w', RdF w' (some ⟨W.heap.size, 0, none⟩) n (ci J) → Calls Try.prog 48 #[.int .i64 (J k0 : Nat), .slice (some ⟨W.heap.size, 0, none⟩) n n] w' fun e w'' => Below w'.heap.size w' w'' ∧ e = .returned (.int .u64 (M.wt J n k0 : Nat)) :=
    fun w' hr => weight_any _ n n k0 J w' hn9 hk0 HJ.out HN.out hr
  obtain ⟨y, hy⟩ : ∃ y, y = J k0 := ⟨_, rfl⟩
  rw [← hy] at CW ⊢
  obtain ⟨i0, hi, hz0, hz1, hz2⟩ := info_parts Try.info3
  have hle : n ≤ maxLen := by unfold maxLen; omega
  clear h hB hne hy
  unfold bval
  unfold bobj at hW
  go_enter Try.func37, Try.ntmps37
  go_upto_region 1 with fail
  clear hW
  go_upto_region 2 with (at_make; refine wpList_make_full _ rfl _ _ 26 rfl W.heap.size 3 i0 (.int .i64 0) 1 Try.underlying26 hi hz0 hz1 .i64 .i64 _ _ n rfl rfl (by omega) (by omega) (by rw [hz2]; omega) (by assumption) (Nat.le_refl _) ?_; intro w1 hown hgrow)
  have F : Fill w1 W.heap.size 3 W.heap.size n 0 (ci J) := Fill.start hown
  have bel1 := below_made hgrow
  have k2' := (HB.out.below bel1).k2
  clear hown hgrow hi hz0 hz1 hz2 hle k2
  go_wp2_with fail
  clear k2'
  go_loopw [15] (fun i wr => ∃ k : Nat, k ≤ n ∧ i = .int .i64 k ∧ Below W.heap.size W wr ∧ Fill wr W.heap.size 3 W.heap.size n k (ci J)) (fun i _ => n - (intOf i).toNat)
  case atStart => exact ⟨0, Nat.zero_le _, rfl, bel1, F⟩
  case round =>
    clear F bel1
    obtain ⟨k, hk, rfl, bel, F⟩ := hrel
    by_cases hlt : k < n
    · have hBr := HB.out.below bel
      obtain ⟨b, lo, rfl, hb, hc⟩ := hBr.bu.rl.at (by omega)
      obtain ⟨q0, q1, q2⟩ := hc k hlt
      obtain ⟨x, hx⟩ : ∃ x, x = J k := ⟨_, rfl⟩
      obtain ⟨d, hd⟩ : ∃ d, d = D k := ⟨_, rfl⟩
      obtain ⟨e, he⟩ : ∃ e, e = E k := ⟨_, rfl⟩
      have HX : Hid (x = J k) := hx
      simp only [← hx, ← hd, ← he] at q0 q1 q2
      have bA := below_alloc wr (.cells #[.int .i64 (x : Int), .int .u64 (d : Nat), .int .u64 (e : Nat)] 40)
      have zA := three (heap_alloc_new wr (.cells #[.int .i64 (x : Int), .int .u64 (d : Nat), .int .u64 (e : Nat)] 40))
      have Fa := F.below bA
      have hfz := Fa.frozen k
      obtain ⟨v, hv⟩ := Fa.there hlt
      have hki : (k : Int) < n := by omega
      clear hx hd he hc hBr
      go_upto_region 5 with fail
      obtain ⟨A, hA⟩ : ∃ A, wr.alloc (.cells #[.int .i64 (x : Int), .int .u64 (d : Nat), .int .u64 (e : Nat)] 40) = A := ⟨_, rfl⟩
      rw [hA] at bA zA Fa hfz hv ⊢
      obtain ⟨zA0, zA1, zA2, _, _, _⟩ := zA
      clear hA q0 q1 q2 F
      have bq : Below W.heap.size W A := bel.trans (bA.mono bel.size)
      go_wp2_with fail
      go_roundw
      case rel =>
        refine ⟨k + 1, by omega, by go_num, bq.setCell (p := ⟨W.heap.size, k, none⟩) (Nat.le_refl _) _, Fa.store hlt ?_⟩
        unfold ci
        rw [HX.out]
      case measure => simp [intOf]; omega
    · have hkn : n = k := by omega
      subst hkn
      go_wp2_with (go_at_call 48; refine (CW _ F.rd).mono ?_; rintro ex w3 ⟨b3, rfl⟩)
      go_ret
      exact ⟨rfl, B1.trans ((bel.trans (b3.mono bel.size)).mono B1.size)⟩
end Go.Proofs.Yteoioldbigomaab
