import Derived.Test.YteoioldbigomaabLk
namespace Go.Proofs.Yteoioldbigomaab
open Go.RowKit

set_option maxHeartbeats 1000000 in
set_option maxRecDepth 100000 in
/-- of: the first commitment of a signer, or one without a number. -/
theorem of_any {w : World} {gb T N ab o c : Nat} {f : Nat → Nat} {s : ByteArray} {la : Option Addr} {n : Nat} {I : Nat → Int} {D E : Nat → Nat} (h : BU w gb T N ab o c f s la n I D E) (lc : Nat) (hn : n ≤ 65536) (id : Int) :
    Calls Try.prog 35 #[bval gb s la n lc, .int .i64 id] w fun e w' => Below w.heap.size w w' ∧ ((∃ k, k < n ∧ I k = id ∧ e = .returned (.agg #[.int .i64 (I k), .int .u64 (D k : Nat), .int .u64 (E k : Nat)])) ∨ ((∀ j, j < n → I j ≠ id) ∧ e = .returned (.agg #[.int .i64 0, .int .u64 0, .int .u64 0]))) := by
  have hB := h.boxed lc
  have B1 := below_alloc w (bobj gb s la n lc)
  obtain ⟨W, hW⟩ : ∃ W, w.alloc (bobj gb s la n lc) = W := ⟨_, rfl⟩
  rw [hW] at hB B1
  obtain ⟨W2, hW2⟩ : ∃ W2, W.alloc (.cells #[.int .i64 0, .int .u64 0, .int .u64 0] 40) = W2 := ⟨_, rfl⟩
  have B2 := below_alloc W (.cells #[.int .i64 0, .int .u64 0, .int .u64 0] 40)
  have Z2 := heap_alloc_new W (.cells #[.int .i64 0, .int .u64 0, .int .u64 0] 40)
  rw [hW2] at B2 Z2
  have hB2 := hB.below B2
  have HB : Hid (BB W2 w.heap.size gb T N ab o c f s la n lc I D E) := hB2
  have BW2 : Below w.heap.size w W2 := B1.trans (B2.mono B1.size)
  have k2 := hB2.k2
  have hwW := B1.size
  have hsW : W.heap.size = w.heap.size + 1 := by rw [← hW]; exact size_alloc _ _
  have HS : Hid (W.heap.size = w.heap.size + 1) := hsW
  clear h hB hB2 B1
  unfold bval
  unfold bobj at hW
  go_enter Try.func35, Try.ntmps35
  go_upto_region 1 with fail
  clear hW hW2
  rw [← hsW]
  clear hsW
  go_wp2_with fail
  clear k2
  go_loopw [10] (fun i wr => ∃ k : Nat, k ≤ n ∧ i = .int .i64 k ∧ Below W2.heap.size W2 wr ∧ Hid (∀ j, j < k → I j ≠ id)) (fun i _ => n - (intOf i).toNat)
  case atStart => exact ⟨0, Nat.zero_le _, rfl, Below.refl _ _, fun j hj => absurd hj (Nat.not_lt_zero j)⟩
  case round =>
    obtain ⟨k, hk, rfl, bel, HK⟩ := hrel
    have Zr := (bel.block W.heap.size (lt_of_block Z2)).trans Z2
    by_cases hlt : k < n
    · have hBr := HB.out.below bel
      obtain ⟨b, lo, rfl, hb, hc⟩ := hBr.bu.rl.at (by omega)
      obtain ⟨q0, q1, q2⟩ := hc k hlt
      obtain ⟨x, hx⟩ : ∃ x, x = I k := ⟨_, rfl⟩
      obtain ⟨d, hd⟩ : ∃ d, d = D k := ⟨_, rfl⟩
      obtain ⟨e, he⟩ : ∃ e, e = E k := ⟨_, rfl⟩
      rw [← hx] at q0
      rw [← hd] at q1
      rw [← he] at q2
      have HX : Hid (x = I k ∧ d = D k ∧ e = E k) := ⟨hx, hd, he⟩
      have hki : (k : Int) < n := by omega
      have bA := below_alloc wr (.cells #[.int .i64 x, .int .u64 (d : Nat), .int .u64 (e : Nat)] 40)
      have zA := three (heap_alloc_new wr (.cells #[.int .i64 x, .int .u64 (d : Nat), .int .u64 (e : Nat)] 40))
      have Za := (bA.block W.heap.size (lt_of_block Zr)).trans Zr
      clear hc hBr hx hd he
      go_upto_region 4 with fail
      obtain ⟨A, hA⟩ : ∃ A, wr.alloc (.cells #[.int .i64 x, .int .u64 (d : Nat), .int .u64 (e : Nat)] 40) = A := ⟨_, rfl⟩
      rw [hA] at bA zA Za ⊢
      obtain ⟨zA0, zA1, zA2, _, _, _⟩ := zA
      clear hA q0 q1 q2
      have bq : Below W2.heap.size W2 A := bel.trans (bA.mono bel.size)
      by_cases hxi : x = id
      · have hxe : (x == id) = true := by simp [hxi]
        obtain ⟨y0, y1, y2, u0, u1, u2⟩ := three Za
        have Z3 := three_set Za (.int .i64 x) (.int .u64 (d : Nat)) (.int .u64 (e : Nat))
        obtain ⟨v0, v1, v2, _, _, _⟩ := three Z3
        have hW0 := B2.size
        have b4 : Below w.heap.size w (((A.setCell ⟨W.heap.size, 0, none⟩ (.int .i64 x)).setCell ⟨W.heap.size, 1, none⟩ (.int .u64 (d : Nat))).setCell ⟨W.heap.size, 2, none⟩ (.int .u64 (e : Nat))) :=
          (((BW2.trans (bq.mono BW2.size)).setCell (p := ⟨W.heap.size, 0, none⟩) hwW _).setCell (p := ⟨W.heap.size, 1, none⟩) hwW _).setCell (p := ⟨W.heap.size, 2, none⟩) hwW _
        have HXI : Hid (x = id) := hxi
        clear hxi Za Zr Z3
        go_wp2_with fail
        refine bodyPost_ret (v := .agg #[.int .i64 x, .int .u64 (d : Nat), .int .u64 (e : Nat)]) (by simp [results, Try.results35, go_sem, *]) rfl ?_
        refine ⟨b4, .inl ⟨k, hlt, by rw [← HX.out.1]; exact HXI.out, ?_⟩⟩
        rw [← HX.out.1, ← HX.out.2.1, ← HX.out.2.2]
      · have hxe : (x == id) = false := by simp [hxi]
        go_wp2_with fail
        go_roundw
        case rel =>
          refine ⟨k + 1, by omega, by go_num, bq, ?_⟩
          intro j hj
          rcases Nat.lt_or_eq_of_le (Nat.le_of_lt_succ hj) with hl | rfl
          · exact HK.out j hl
          · rw [← HX.out.1]; exact hxi
        case measure => simp [intOf]; omega
    · obtain ⟨y0, y1, y2, u0, u1, u2⟩ := three Zr
      have Z3 := three_set Zr (.int .i64 0) (.int .u64 0) (.int .u64 0)
      obtain ⟨v0, v1, v2, _, _, _⟩ := three Z3
      have b4 : Below w.heap.size w (((wr.setCell ⟨W.heap.size, 0, none⟩ (.int .i64 0)).setCell ⟨W.heap.size, 1, none⟩ (.int .u64 0)).setCell ⟨W.heap.size, 2, none⟩ (.int .u64 0)) :=
        (((BW2.trans (bel.mono BW2.size)).setCell (p := ⟨W.heap.size, 0, none⟩) hwW _).setCell (p := ⟨W.heap.size, 1, none⟩) hwW _).setCell (p := ⟨W.heap.size, 2, none⟩) hwW _
      clear Zr Z3
      go_wp2_with fail
      have hkn : k = n := by omega
      subst hkn
      refine bodyPost_ret (v := .agg #[.int .i64 0, .int .u64 0, .int .u64 0]) (by simp [results, Try.results35, go_sem, *]) rfl ?_
      exact ⟨b4, .inr ⟨HK.out, rfl⟩⟩
end Go.Proofs.Yteoioldbigomaab
