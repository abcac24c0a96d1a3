import Derived.Test.YteoioldbigomaaaGreatStd
namespace Go.Proofs.YteoioldbigomaaaGreat
open Go.RowKit

set_option maxHeartbeats 4000000 in
set_option maxRecDepth 100000 in
theorem step_commit_ok (G : PrgC) (B P : Nat) (w : World) (own : Nat → Option Nat) (ns : Nat) (s : Nat → Two) (ssv csv : Value) (nc : Nat) (I : Nat → Int) (D E : Nat → Nat) (d : OpD) (h : Wd G.toSide B P w own ns s ssv csv nc I D E) (hB : B ≤ w.heap.size)
    (hns : ns ≤ 65536) (hn0 : 0 < ns) (hA1 : -9223372036854775808 ≤ d.A) (hA2 : d.A ≤ 9223372036854775807) (hK : d.K = 2) (her : M.CmE (s (M.pick d.A ns)).l d.x d.y 0) (hnc : nc ≤ 65536) :
    Calls Tryz.prog 32 #[.pointer (some ⟨P, 0, none⟩), .agg d.val] w (StPost G.toSide B P ns nc w) := by
  obtain ⟨K, A, Bn, C, Dn, t, n, ga, gl, gc, f, x, y, st, la, ln, lc, IL, DL, EL'⟩ := d
  simp only at hK hA1 hA2 her
  subst hK
  obtain ⟨O, hO⟩ : ∃ O : Obj, O = .cells (opv 2 A Bn C Dn t n (.slice ga gl gc) x y st (.slice la ln lc)) 70 := ⟨_, rfl⟩
  have CPK := fun w' => pick_any A ns w' hn0 (by omega) hA1 hA2
  obtain ⟨pk, hpk⟩ : ∃ pk, pk = M.pick A ns := ⟨_, rfl⟩
  have hpl : pk < ns := by rw [hpk]; exact M.pick_lt _ _ hn0
  simp only [← hpk] at CPK her
  clear hpk
  have hown : ∀ b k, own b = some k → b < w.heap.size := fun b k hb => (h.oB b k hb).2
  have B0 := below_alloc w O
  have W0 := h.below B0
  have HZ := heap_alloc_new w O
  obtain ⟨V, hV⟩ : ∃ V, w.alloc O = V := ⟨_, rfl⟩
  rw [hV] at B0 W0 HZ
  obtain ⟨z0, z1, z2, y0, y1, y2⟩ := three W0.blk
  obtain ⟨g, cap, rfl, hgl, r0, r1⟩ := W0.pair hpl
  obtain ⟨X, hX⟩ : ∃ X, X = (s pk).x := ⟨_, rfl⟩
  obtain ⟨Y, hY⟩ : ∃ Y, Y = (s pk).p := ⟨_, rfl⟩
  rw [← hX] at r0
  rw [← hY] at r1
  rw [hO] at HZ
  have c0 : V.cell? ⟨w.heap.size, 0, none⟩ = some (.int .i64 2) := by simp [World.cell?, HZ, opv]
  have c1 : V.cell? ⟨w.heap.size, 1, none⟩ = some (.int .i64 A) := by simp [World.cell?, HZ, opv]
  have hpi : (pk : Int) < ns := by omega
  have hn1 : ¬ (ns : Int) = 0 := by omega
  have HW : Hid (Wd G.toSide B P V own ns s (.slice (some ⟨g, 0, none⟩) ns cap) csv nc I D E) := W0
  have HX : Hid (X = (s pk).x) := hX
  have HY : Hid (Y = (s pk).p) := hY
  have HZ2 : Hid (V.cell? ⟨w.heap.size, 0, none⟩ = some (.int .i64 2)) := c0
  have hwV : w.heap.size < V.heap.size := by rw [← hV, size_alloc]; omega
  have HZ : Hid (V.heap[w.heap.size]? = some (.cells (opv 2 A Bn C Dn t n (.slice ga gl gc) x y st (.slice la ln lc)) 70 (0, 0))) := HZ
  clear h W0 hX hY
  unfold OpD.val
  unfold opv at hO ⊢
  go_enter Tryz.func32, Tryz.ntmps32
  go_upto_region 1 with fail
  rw [← hO, hV]
  clear hV hO
  go_upto_region 13 with fail
  go_cut [9] from 74 (fun s9 wx => s9 = .pointer (some ⟨V.heap.size, 0, none⟩) ∧ wx = (V.alloc (.cells #[.pointer (some ⟨X, 0, none⟩), .pointer (some ⟨Y, 0, none⟩)] 127)).drew)
  case first =>
    go_region_held (fun w' => w'.cell? ⟨P, 0, none⟩ = some (.slice (some ⟨g, 0, none⟩) ns cap) ∧ w'.cell? ⟨w.heap.size, 1, none⟩ = some (.int .i64 A) ∧ w'.cell? ⟨g, pk * 2, none⟩ = some (.pointer (some ⟨X, 0, none⟩)) ∧ w'.cell? ⟨g, pk * 2 + 1, none⟩ = some (.pointer (some ⟨Y, 0, none⟩)))
      (first | assumption | (simp [*]; done) | go_keep) (first | (go_at_call 57; refine (CPK _).mono ?_; rintro ex w2 ⟨rfl, hw⟩; subst hw))
    all_goals
      go_wp2_with fail
      go_meet
      case rel => exact ⟨rfl, rfl⟩
  case rest =>
    have hz2 := heap_alloc_new V (.cells #[.pointer (some ⟨X, 0, none⟩), .pointer (some ⟨Y, 0, none⟩)] 127)
    obtain ⟨rfl, hwc⟩ := hcut
    have dW : Below V.heap.size V wc := by rw [hwc]; exact (below_alloc _ _).drew
    have hzc : wc.heap[V.heap.size]? = some (.cells #[.pointer (some ⟨X, 0, none⟩), .pointer (some ⟨Y, 0, none⟩)] 127 (0, 0)) := by rw [hwc]; exact hz2
    have c8 : V.cell? ⟨w.heap.size, 8, none⟩ = some (.int .u64 x) := by simp [World.cell?, HZ.out, opv]
    have c9 : V.cell? ⟨w.heap.size, 9, none⟩ = some (.int .u64 y) := by simp [World.cell?, HZ.out, opv]
    have d0 := (dW.cell (p := ⟨w.heap.size, 0, none⟩) hwV).trans c0
    have d8 := (dW.cell (p := ⟨w.heap.size, 8, none⟩) hwV).trans c8
    have d9 := (dW.cell (p := ⟨w.heap.size, 9, none⟩) hwV).trans c9
    have k0 : wc.cell? ⟨V.heap.size, 0, none⟩ = some (.pointer (some ⟨X, 0, none⟩)) := by simp [World.cell?, hzc]
    have k1 : wc.cell? ⟨V.heap.size, 1, none⟩ = some (.pointer (some ⟨Y, 0, none⟩)) := by simp [World.cell?, hzc]
    have hVc : V.heap.size < wc.heap.size := lt_of_block hzc
    have W1 := HW.out.below dW
    have CL := G.commit x y (W1.ps pk hpl) (W1.ok pk hpl).1 (W1.ok pk hpl).2
    rw [← HX.out] at CL
    have HW1 : Hid (Wd G.toSide B P wc own ns s (.slice (some ⟨g, 0, none⟩) ns cap) csv nc I D E) := W1
    clear hz2 hwc hzc W1 z0 z1 z2 y0 y1 y2 r0 r1 c0 c1 c8 c9 CPK
    go_wp2_with fail
    obtain ⟨J, hJ⟩ : ∃ J, J = (s pk).g.id := ⟨_, rfl⟩
    obtain ⟨Xp, hXp⟩ : ∃ Xp, Xp = M.pw 2147483579 4 x := ⟨_, rfl⟩
    obtain ⟨Yp, hYp⟩ : ∃ Yp, Yp = M.pw 2147483579 4 y := ⟨_, rfl⟩
    rw [← hJ, ← hXp, ← hYp] at CL
    have HJ : Hid (J = (s pk).g.id) := hJ
    have HXp : Hid (Xp = M.pw 2147483579 4 x) := hXp
    have HYp : Hid (Yp = M.pw 2147483579 4 y) := hYp
    clear hJ hXp hYp
    refine CL.mono ?_
    rintro ex w4 ⟨er', F', hcm, hchg, hF', hres⟩
    have hee := hcm.one her
    subst hee
    obtain ⟨h1, _, _⟩ | ⟨_, hps, rfl⟩ := hres
    · exact absurd rfl h1
    · have nb : ∀ b, w.heap.size ≤ b → b < wc.heap.size → w4.heap[b]? = wc.heap[b]? := fun b g1 g2 => hchg.block b g2 fun hf => by have := hown b _ (HW1.out.oF pk hpl b hf); omega
      have e1 := (cell_of_block (j := 1) (nb V.heap.size (Nat.le_of_lt hwV) hVc)).trans k1
      have e8 := (cell_of_block (j := 8) (nb w.heap.size (Nat.le_refl _) (by omega))).trans d8
      have e9 := (cell_of_block (j := 9) (nb w.heap.size (Nat.le_refl _) (by omega))).trans d9
      have hw4 := hchg.size
      have R4 := HW1.out.first hpl hchg
      have bA := below_alloc w4 (.cells #[.int .i64 (J : Nat), .int .u64 (Xp : Nat), .int .u64 (Yp : Nat)] 98)
      have sA := size_alloc w4 (.cells #[.int .i64 (J : Nat), .int .u64 (Xp : Nat), .int .u64 (Yp : Nat)] 98)
      have zA := heap_alloc_new w4 (.cells #[.int .i64 (J : Nat), .int .u64 (Xp : Nat), .int .u64 (Yp : Nat)] 98)
      have f1 := (bA.cell (p := ⟨V.heap.size, 1, none⟩) (by show V.heap.size < _; omega)).trans e1
      have f8 := (bA.cell (p := ⟨w.heap.size, 8, none⟩) (by show w.heap.size < _; omega)).trans e8
      have f9 := (bA.cell (p := ⟨w.heap.size, 9, none⟩) (by show w.heap.size < _; omega)).trans e9
      have CR := rcm_any x y (R4.below bA) (HW1.out.ok pk hpl).2.six (HW1.out.ok pk hpl).1.t2
      unfold RcmPost at CR
      rw [← HJ.out, ← HXp.out, ← HYp.out, ← HY.out] at CR
      have HZA : Hid ((w4.alloc (.cells #[.int .i64 (J : Nat), .int .u64 (Xp : Nat), .int .u64 (Yp : Nat)] 98)).heap[w4.heap.size]? = some (.cells #[.int .i64 (J : Nat), .int .u64 (Xp : Nat), .int .u64 (Yp : Nat)] 98 (0, 0))) := zA
      clear R4 CL e1 e8 e9 d0 d8 d9 k0 k1 zA
      go_upto_region 17 with fail
      obtain ⟨w5, hw5⟩ : ∃ w5, w4.alloc (.cells #[.int .i64 (J : Nat), .int .u64 (Xp : Nat), .int .u64 (Yp : Nat)] 98) = w5 := ⟨_, rfl⟩
      rw [hw5] at bA sA HZA f1 f8 f9 CR ⊢
      clear hw5
      go_wp2_with fail
      refine CR.mono ?_
      rintro ex w6 ⟨er2, hcm2, hres2⟩
      have hee := hcm2.one hcm
      subst hee
      rcases hres2 with ⟨h1, _⟩ | ⟨_, rfl, v', hRS, hc6, hv6⟩
      · exact absurd rfl h1
      · clear f1 f8 f9 CR
        go_upto_region 19 with fail
        have bB := below_alloc w6 (.cells #[.int .i64 (J : Nat), .int .u64 (Xp : Nat), .int .u64 (Yp : Nat)] 98)
        have hzB := heap_alloc_new w6 (.cells #[.int .i64 (J : Nat), .int .u64 (Xp : Nat), .int .u64 (Yp : Nat)] 98)
        obtain ⟨w7, hw7⟩ : ∃ w7, w6.alloc (.cells #[.int .i64 (J : Nat), .int .u64 (Xp : Nat), .int .u64 (Yp : Nat)] 98) = w7 := ⟨_, rfl⟩
        rw [hw7] at bB hzB ⊢
        clear hw7
        rw [HX.out] at hps
        rw [HY.out, HJ.out] at hRS
        rw [HY.out] at hc6
        obtain ⟨bm, own1, W7⟩ := commit_mid G.toSide HW1.out (by omega) hpl hchg hF' ((HW1.out.ok pk hpl).2.add hcm2) hps bA hc6 hRS hv6 bB
        obtain ⟨ca, cc7, hcv⟩ := row_form W7.cs
        subst hcv
        obtain ⟨p0, p1, p2, y0, y1, y2⟩ := three W7.blk
        obtain ⟨k0, k1, k2⟩ := three_cells hzB
        have HWm : Hid (Wd G.toSide B P w7 own1 ns (Two.upd s pk F' v' ((s pk).l ++ [(x, y)])) (.slice (some ⟨g, 0, none⟩) ns cap) (.slice ca nc cc7) nc I D E) := W7
        have hrow : Hid (w7.ownsRow B 98 3 (.slice ca nc cc7) nc (cl I D E nc)) := W7.cs
        have hPc := lt_of_block W7.blk
        have h7B : B ≤ w7.heap.size := by have := bm.size; omega
        have HzB : Hid (w7.heap[w6.heap.size]? = some (.cells #[.int .i64 (J : Nat), .int .u64 (Xp : Nat), .int .u64 (Yp : Nat)] 98 (0, 0))) := hzB
        have hPw : P < w.heap.size := hown P _ HW1.out.oP
        have hRw := HW1.out.oR pk hpl
        have s6 := hc6.size
        have hz4 : Hid (w7.heap[w4.heap.size]? = some (.cells #[.int .i64 (J : Nat), .int .u64 (Xp : Nat), .int .u64 (Yp : Nat)] 98 (0, 0))) := (bB.block w4.heap.size (by omega)).trans ((hc6.block w4.heap.size (by omega) (fun hh => by
          rcases hh with hh | hh
          · have := hown _ _ hRw.1; omega
          · have := hown _ _ (hRw.2.2 _ hh); omega)).trans HZA.out)
        have hcsw : ∀ k, (Value.slice ca nc cc7).ownBlock = some k → k < w.heap.size := fun k hk => hown k _ (HW1.out.ocs k hk).1
        have h46 : w4.heap.size < w6.heap.size := by omega
        have hw64 : w.heap.size < w4.heap.size := by omega
        clear W7 hzB hRS hps hc6 hv6 hRw
        go_cut [] from 98 (fun wx => ∃ g' cap' w', wx = w'.setCell ⟨P, 1, none⟩ (.slice (some ⟨g', 0, none⟩) (nc + 1) cap') ∧ w'.ownsRow B 98 3 (.slice (some ⟨g', 0, none⟩) (nc + 1) cap') (nc + 1) (cl I D E nc ++ [.int .i64 (J : Int), .int .u64 (Xp : Int), .int .u64 (Yp : Int)]) ∧ w7.grownBy w' (Value.slice ca nc cc7).ownBlock ∧ ((Value.slice ca nc cc7).ownBlock = some g' ∨ w7.heap.size ≤ g'))
        case first =>
          go_region_law (refine step_appendC rfl (.tmp 124) (.tmp 126) rfl B (.slice ca nc cc7) nc (cl I D E nc) J Xp Yp (by simp [Act.eval]) (by first | exact ownsRow_below hrow.out ((((Below.refl _ _).drew)).alloc (Nat.le_refl _) _) | exact ownsRow_below hrow.out ((((Below.refl _ _).alloc (Nat.le_refl _) _)).drew)) w7.heap.size (by simp [Act.eval]) (by go_simp) (by go_simp) (by go_simp) hnc (by simp; omega) ?_; intro g' cap' w' r1 r2 r3 r4; have Zp' := (r2.block P (by simp; exact Nat.lt_succ_of_lt hPc) (fun hh => (HWm.out.ocs P hh.symm).2.1 rfl)).trans ((Below.heap_alloc _ _ P hPc).trans HWm.out.blk); obtain ⟨m0, m1, m2, n0, n1, n2⟩ := three Zp')
          all_goals
            go_wp2_with fail
            go_meet
            case rel => exact ⟨g', cap', w', rfl, r1, grown_past r2, r3.imp (fun hh => hh) (fun hh => by rw [hh]; exact (below_alloc _ _).size)⟩
        case rest =>
          obtain ⟨g', cap', w', hwc2, r1, r2, r3⟩ := hcut
          have q4 : wc.heap[w4.heap.size]? = some (.cells #[.int .i64 (J : Nat), .int .u64 (Xp : Nat), .int .u64 (Yp : Nat)] 98 (0, 0)) := by
            rw [hwc2, Below.heap_setCell _ _ _ _ (by show w4.heap.size ≠ P; omega)]
            exact (r2.block w4.heap.size (lt_of_block hz4.out) (fun hh => by have := hcsw _ hh.symm; omega)).trans hz4.out
          have q6 : wc.heap[w6.heap.size]? = some (.cells #[.int .i64 (J : Nat), .int .u64 (Xp : Nat), .int .u64 (Yp : Nat)] 98 (0, 0)) := by
            rw [hwc2, Below.heap_setCell _ _ _ _ (by show w6.heap.size ≠ P; omega)]
            exact (r2.block w6.heap.size (lt_of_block HzB.out) (fun hh => by have := hcsw _ hh.symm; omega)).trans HzB.out
          obtain ⟨a0, a1, a2⟩ := three_cells q4
          obtain ⟨b0, b1, b2⟩ := three_cells q6
          have fin : StPost G.toSide B P ns nc w (.returned (.bool true)) wc := by
            obtain ⟨bt, own2, csv', I', D', E', W10⟩ := told_fin G.toSide HWm.out h7B J Xp Yp r1 r2 r3
            rw [hwc2]
            exact ⟨rfl, ((B0.trans (dW.mono (Nat.le_of_lt hwV))).mono hB).trans (bm.trans bt), own2, ns, _, _, csv', nc + 1, I', D', E', W10, by omega, by omega⟩
          clear hwc2 r1 r2 r3 q4 q6 k0 k1 k2 p0 p1 p2 y0 y1 y2
          go_wp2_with fail
          go_ret
          exact fin
end Go.Proofs.YteoioldbigomaaaGreat
