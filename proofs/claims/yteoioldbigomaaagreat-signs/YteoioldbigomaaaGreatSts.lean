import Derived.Test.YteoioldbigomaaaGreatPrg
namespace Go.Proofs.YteoioldbigomaaaGreat
open Go.RowKit

set_option maxHeartbeats 8000000 in
set_option maxRecDepth 100000 in
theorem step_sign (B P : Nat) (w : World) (own : Nat → Option Nat) (ns : Nat) (s : Nat → Two) (ssv csv : Value) (nc : Nat) (I : Nat → Int) (D E : Nat → Nat) (d : OpD) (h : Wd side B P w own ns s ssv csv nc I D E) (hB : B ≤ w.heap.size) (hd : d.Ok w)
    (hns : ns ≤ 65536) (hn0 : 0 < ns) (hnc : nc ≤ 65536) (hln : d.ln ≤ 65536) (hsz : d.s.size ≤ 65536) (hK : d.K = 3) :
    Calls Tryz.prog 32 #[.pointer (some ⟨P, 0, none⟩), .agg d.val] w (StPost side B P ns nc w) := by
  obtain ⟨K, A, Bn, C, Dn, t, n, ga, gl, gc, f, x, y, st, la, ln, lc, IL, DL, EL'⟩ := d
  obtain ⟨_, _, hdl, hdl0, hdc1, hdc2, hA1, hA2⟩ := hd
  simp only at hK hA1 hA2 hln hsz hdl hdl0 hdc1 hdc2
  subst hK
  obtain ⟨O, hO⟩ : ∃ O : Obj, O = .cells (opv 3 A Bn C Dn t n (.slice ga gl gc) x y st (.slice la ln lc)) 70 := ⟨_, rfl⟩
  have CPK := fun w' => pick_any A ns w' hn0 (by omega) hA1 hA2
  obtain ⟨pk, hpk⟩ : ∃ pk, pk = M.pick A ns := ⟨_, rfl⟩
  have hpl : pk < ns := by rw [hpk]; exact M.pick_lt _ _ hn0
  simp only [← hpk] at CPK
  clear hpk
  have hown : ∀ b k, own b = some k → b < w.heap.size := fun b k hb => (h.oB b k hb).2
  have B0 := below_alloc w O
  have W0 := h.below B0
  have HZ := heap_alloc_new w O
  have hdV := hdl.below B0
  obtain ⟨V, hV⟩ : ∃ V, w.alloc O = V := ⟨_, rfl⟩
  rw [hV] at B0 W0 HZ hdV
  obtain ⟨ca, cc, hcsv, hcr, hcb, hcz⟩ := W0.cs.rd2
  subst hcsv
  obtain ⟨z0, z1, z2, y0, y1, y2⟩ := three W0.blk
  obtain ⟨g, cap, rfl, hgl, r0, r1⟩ := W0.pair hpl
  obtain ⟨X, hX⟩ : ∃ X, X = (s pk).x := ⟨_, rfl⟩
  obtain ⟨Y, hY⟩ : ∃ Y, Y = (s pk).p := ⟨_, rfl⟩
  rw [← hX] at r0
  rw [← hY] at r1
  rw [hO] at HZ
  have c0 : V.cell? ⟨w.heap.size, 0, none⟩ = some (.int .i64 3) := by simp [World.cell?, HZ, opv]
  have c1 : V.cell? ⟨w.heap.size, 1, none⟩ = some (.int .i64 A) := by simp [World.cell?, HZ, opv]
  have hpi : (pk : Int) < ns := by omega
  have hn1 : ¬ (ns : Int) = 0 := by omega
  have HW : Hid (Wd side B P V own ns s (.slice (some ⟨g, 0, none⟩) ns cap) (.slice ca nc cc) nc I D E) := W0
  have HX : Hid (X = (s pk).x) := hX
  have HY : Hid (Y = (s pk).p) := hY
  have hwV : w.heap.size < V.heap.size := by rw [← hV, size_alloc]; omega
  have HZ : Hid (V.heap[w.heap.size]? = some (.cells (opv 3 A Bn C Dn t n (.slice ga gl gc) x y st (.slice la ln lc)) 70 (0, 0))) := HZ
  clear h W0 hX hY hdl
  unfold OpD.val
  unfold opv at hO ⊢
  go_enter Tryz.func32, Tryz.ntmps32
  go_upto_region 1 with fail
  rw [← hO, hV]
  clear hV hO
  go_upto_region 13 with fail
  go_cut [9] from 74 (fun s9 wx => s9 = .pointer (some ⟨V.heap.size, 0, none⟩) ∧ wx = (V.alloc (.cells #[.pointer (some ⟨X, 0, none⟩), .pointer (some ⟨Y, 0, none⟩)] 127)).drew)
  case first =>
    go_region_held (fun w' => w'.cell? ⟨P, 0, none⟩ = some (.slice (some ⟨g, 0, none⟩) ns cap) ∧ w'.cell? ⟨w.heap.size, 1, none⟩ = some (.int .i64 A) ∧ w'.cell? ⟨g, pk * 2, none⟩ = some (.pointer (some ⟨X, 0, none⟩)) ∧ w'.cell? ⟨g, pk * 2 + 1, none⟩ = some (.pointer (some ⟨Y, 0, none⟩)))
      (first | assumption | (simp [*]; done) | go_keep) (first | (go_at_call 57; refine (CPK _).mono ?_; rintro ex w2 ⟨rfl, hw⟩; subst hw))
    all_goals
      go_wp2_with fail
      go_meet
      case rel => exact ⟨rfl, rfl⟩
  case rest =>
    have hz2 := heap_alloc_new V (.cells #[.pointer (some ⟨X, 0, none⟩), .pointer (some ⟨Y, 0, none⟩)] 127)
    obtain ⟨rfl, hwc⟩ := hcut
    have dW : Below V.heap.size V wc := by rw [hwc]; exact (below_alloc _ _).drew
    have hzc : wc.heap[V.heap.size]? = some (.cells #[.pointer (some ⟨X, 0, none⟩), .pointer (some ⟨Y, 0, none⟩)] 127 (0, 0)) := by rw [hwc]; exact hz2
    have oc := (dW.block w.heap.size hwV).trans HZ.out
    have HOC : Hid (wc.heap[w.heap.size]? = some (.cells (opv 3 A Bn C Dn t n (.slice ga gl gc) x y st (.slice la ln lc)) 70 (0, 0))) := oc
    have e0 : wc.cell? ⟨w.heap.size, 0, none⟩ = some (.int .i64 3) := by simp [World.cell?, oc, opv]
    have e1 : wc.cell? ⟨w.heap.size, 1, none⟩ = some (.int .i64 A) := by simp [World.cell?, oc, opv]
    have e2 : wc.cell? ⟨w.heap.size, 2, none⟩ = some (.int .i64 Bn) := by simp [World.cell?, oc, opv]
    have e3 : wc.cell? ⟨w.heap.size, 3, none⟩ = some (.int .i64 C) := by simp [World.cell?, oc, opv]
    have e4 : wc.cell? ⟨w.heap.size, 4, none⟩ = some (.int .i64 Dn) := by simp [World.cell?, oc, opv]
    have e5 : wc.cell? ⟨w.heap.size, 5, none⟩ = some (.int .i64 t) := by simp [World.cell?, oc, opv]
    have e6 : wc.cell? ⟨w.heap.size, 6, none⟩ = some (.int .i64 n) := by simp [World.cell?, oc, opv]
    have e7 : wc.cell? ⟨w.heap.size, 7, none⟩ = some (.slice ga gl gc) := by simp [World.cell?, oc, opv]
    have e8 : wc.cell? ⟨w.heap.size, 8, none⟩ = some (.int .u64 (x : Int)) := by simp [World.cell?, oc, opv]
    have e9 : wc.cell? ⟨w.heap.size, 9, none⟩ = some (.int .u64 (y : Int)) := by simp [World.cell?, oc, opv]
    have e10 : wc.cell? ⟨w.heap.size, 10, none⟩ = some (.string st) := by simp [World.cell?, oc, opv]
    have e11 : wc.cell? ⟨w.heap.size, 11, none⟩ = some (.slice la ln lc) := by simp [World.cell?, oc, opv]
    have W1 := HW.out.below dW
    have CL := list_any P _ _ ca nc cc I D E 3 A Bn C Dn t n (.slice ga gl gc) x y st la ln lc IL DL EL' wc W1.blk (hcr.below dW) hnc (hdV.below dW) hdl0 hln hdc1 hdc2
    have HW1 : Hid (Wd side B P wc own ns s (.slice (some ⟨g, 0, none⟩) ns cap) (.slice ca nc cc) nc I D E) := W1
    have HZC : Hid (wc.heap[V.heap.size]? = some (.cells #[.pointer (some ⟨X, 0, none⟩), .pointer (some ⟨Y, 0, none⟩)] 127 (0, 0))) := hzc
    have hVc : V.heap.size < wc.heap.size := lt_of_block hzc
    unfold opv at CL
    clear hz2 hwc hzc W1 z0 z1 z2 y0 y1 y2 r0 r1 c0 c1 CPK oc hcr hdV
    go_wp2_with fail
    refine CL.mono ?_
    rintro ex w5 ⟨b5, a', c', I', D', E', rfl, rd5, hnew5, hz5⟩
    clear CL e0 e1 e2 e3 e4 e5 e6 e7 e8 e9 e10 e11
    go_upto_region 24 with (at_builtin; refine wpList_append_copyC _ rfl _ (.tmp 143) rfl ln c' a' I' D' E' rfl rfl hz5 rd5 hln ?_; intro v1 w6 G6 b6)
    obtain ⟨a2, c2, rfl, rd6, hnew6, hz6⟩ := G6.rd2
    have bw6 : Below wc.heap.size wc w6 := b5.trans (b6.mono b5.size)
    have rd5' := rd5.below b6
    have W6 := HW1.out.below bw6
    have zp := (bw6.block V.heap.size hVc).trans HZC.out
    have zo := (bw6.block w.heap.size (by omega)).trans HOC.out
    obtain ⟨p0, p1, _, _⟩ := pr_cells zp
    have o10 : w6.cell? ⟨w.heap.size, 10, none⟩ = some (.string st) := by simp [World.cell?, zo, opv]
    have hw6 := bw6.size
    obtain ⟨hok, hls⟩ := W6.ok pk hpl
    have CP := psign_any (W6.ps pk hpl) hok hls st a' ln c' I' D' E' rd5' hln hsz
    rw [← HX.out] at CP
    have HW6 : Hid (Wd side B P w6 own ns s (.slice (some ⟨g, 0, none⟩) ns cap) (.slice ca nc cc) nc I D E) := W6
    have HZP : Hid (w6.heap[V.heap.size]? = some (.cells #[.pointer (some ⟨X, 0, none⟩), .pointer (some ⟨Y, 0, none⟩)] 127 (0, 0))) := zp
    have HZO : Hid (w6.heap[w.heap.size]? = some (.cells (opv 3 A Bn C Dn t n (.slice ga gl gc) x y st (.slice la ln lc)) 70 (0, 0))) := zo
    clear W6 zp zo rd5 G6
    go_wp2_with fail
    refine CP.mono ?_
    clear CP
    intro ex w7 hp7
    obtain ⟨v1, u1, rfl⟩ := psi_ret hp7
    have hc7 : Chg (s pk).F w6 w7 := by obtain ⟨_, _, _, hc, _⟩ := hp7; exact hc
    have nb : ∀ b, w.heap.size ≤ b → b < w6.heap.size → w7.heap[b]? = w6.heap[b]? := fun b g1 g2 => hc7.block b g2 fun hf => by have := hown b _ (HW6.out.oF pk hpl b hf); omega
    have zp7 := (nb V.heap.size (Nat.le_of_lt hwV) (by omega)).trans HZP.out
    have zo7 := (nb w.heap.size (Nat.le_refl _) (by omega)).trans HZO.out
    obtain ⟨p0', p1', _, _⟩ := pr_cells zp7
    have o10' : w7.cell? ⟨w.heap.size, 10, none⟩ = some (.string st) := by simp [World.cell?, zo7, opv]
    have R7 := HW6.out.first hpl hc7
    have old : ∀ b k, own b = some k → b < wc.heap.size := fun b k hb => by have := hown b k hb; omega
    have rdA : RdC w7 a' ln I' D' E' := rd5'.chg hc7 (fun z hz hf => by have h1 := hnew5 z hz; have h2 := hown _ _ (HW6.out.oF pk hpl _ hf); omega)
    have rdB : RdC w7 a2 ln I' D' E' := rd6.chg hc7 (fun z hz hf => by have h1 := hnew6 z hz; have h2 := hown _ _ (HW6.out.oF pk hpl _ hf); have := b5.size; omega)
    have hap : ∀ z, a2 = some z → z.block ≠ (s pk).p := fun z hz he => by have h1 := hnew6 z hz; have h2 := hown _ _ (HW6.out.oR pk hpl).1; have := b5.size; omega
    have CR := rsi_any (s pk).p (s pk).g.T (s pk).g.N (s pk).cb (s pk).cc (s pk).g.f (s pk).g.id (s pk).g.sh (s pk).v (s pk).l st a2 ln c2 I' D' E' w7 R7 rdB hok.n9 hok.t2 hok.sc hls.six hls.sc hsz hap
    have hw7 := hc7.size
    have HR7 : Hid (RS w7 (s pk).p (s pk).g.T (s pk).g.N (s pk).cb (s pk).cc (s pk).g.f (s pk).g.id (s pk).g.sh (s pk).v (s pk).l) := R7
    have HP7 : Hid (PsiPost w6 X (s pk).F (s pk).g (s pk).l st ln I' D' E' (.returned (.tuple #[.int .u64 (v1 : Nat), .int .i64 (u1 : Nat)])) w7) := hp7
    have HAP : Hid (∀ z, a2 = some z → z.block ≠ (s pk).p) := hap
    rw [← HY.out] at CR
    clear R7 hp7 p0 p1 o10 zp7 zo7 rd6 rd5' hap
    go_upto_region 25 with fail
    go_wp2_with fail
    refine CR.mono ?_
    clear CR
    intro ex w8 hp8
    obtain ⟨v2, u2, rfl⟩ := rsi_ret hp8
    rw [HY.out] at hp8
    obtain ⟨rfl, rfl, _, hc8, F', v', l', hF', hps, hrs, hv', hl'⟩ := sign_both hls HP7.out hp8 HR7.out
    have rdA8 : RdC w8 a' ln I' D' E' := rdA.chg hc8 (fun z hz hf => by have h1 := hnew5 z hz; have h2 := hown _ _ (HW6.out.oR pk hpl).1; omega)
    have rdB8 : RdC w8 a2 ln I' D' E' := rdB.chg hc8 (fun z hz hf => HAP.out z hz hf)
    have CS := sameCommits_yes a' a2 c' c2 ln I' D' E' w8 hln rdA8 rdB8
    have HP8 : Hid (Chg (fun k => k = (s pk).p) w7 w8 ∧ (∀ b, F' b → (s pk).F b ∨ w6.heap.size ≤ b) ∧ PS w7 X F' (s pk).g l' ∧ RS w8 (s pk).p (s pk).g.T (s pk).g.N (s pk).cb (s pk).cc (s pk).g.f (s pk).g.id (s pk).g.sh v' l' ∧ (∀ k, v'.ownBlock = some k → (s pk).v.ownBlock = some k ∨ w7.heap.size ≤ k) ∧ Ls l') := ⟨hc8, hF', hps, hrs, hv', hl'⟩
    clear hp8 hc8 hF' hps hrs hv' hl' rdA8 rdB8 rdA rdB p0' p1' o10'
    go_wp2_with (go_at_call 63; refine CS.mono ?_; rintro ex w9 ⟨rfl, b9⟩)
    go_ret
    obtain ⟨hc8, hF', hps, hrs, hv', hl'⟩ := HP8.out
    have hFB : ∀ b, (s pk).F b → B ≤ b := fun b hb => (HW6.out.oB b _ (HW6.out.oF pk hpl b hb)).1
    rw [HX.out] at hps
    have hc68 : Chg (fun b => (s pk).F b ∨ b = (s pk).p ∨ (s pk).v.ownBlock = some b) w6 w9 := ((hc7.mono fun k hk => .inl hk).trans (hc8.mono fun k hk => .inr (.inl hk))).trans (Below.chg b9 _)
    have hpB : B ≤ (s pk).p := (HW6.out.oB _ _ (HW6.out.oR pk hpl).1).1
    have hps9 : PS w9 (s pk).x F' (s pk).g l' := side.chg (P := fun k => k = (s pk).p) hps (hc8.trans (Below.chg b9 _)) (fun b hb he => by
      rcases hF' b hb with hh | hh
      · have h1 := HW6.out.oF pk hpl b hh
        have h2 := (HW6.out.oR pk hpl).1
        rw [← he, h1] at h2
        have := Option.some.inj h2
        omega
      · have := hown _ _ (HW6.out.oR pk hpl).1
        omega)
    refine Exists.elim (HW6.out.turn (by omega) hpl (m := w7.heap.size) hw7 hc68 (F' := F') (fun b hb => ?_) (v' := v') hv' hl' hps9 (hrs.below b9)) fun own' hW =>
      ⟨rfl, ((B0.trans ((dW.trans (bw6.mono dW.size)).mono (Nat.le_of_lt hwV))).mono hB).trans (hc68.below (fun k hk => ?_) (by omega)), own', ns, _, _, _, nc, I, D, E, hW, by omega, by omega⟩
    · rcases hF' b hb with hh | hh
      · exact .inl hh
      · exact .inr ⟨hh, side.lt hps b hb⟩
    · rcases hk with hh | rfl | hh
      · exact hFB k hh
      · exact hpB
      · exact (HW6.out.oB _ _ ((HW6.out.oR pk hpl).2.2 k hh)).1
end Go.Proofs.YteoioldbigomaaaGreat
