import Derived.Test.YteoioldbigomaaaGreatStl
namespace Go.Proofs.YteoioldbigomaaaGreat
open Go.RowKit

theorem cell_of_block {w w' : World} {b j : Nat} (h : w'.heap[b]? = w.heap[b]?) : w'.cell? ⟨b, j, none⟩ = w.cell? ⟨b, j, none⟩ := by simp [World.cell?, h]

theorem rcm_any {p T N cb cc : Nat} {f : Nat → Nat} {id sh : Nat} {v : Value} {l : List (Nat × Nat)} (d e : Nat) {w : World} (hS : RS w p T N cb cc f id sh v l) (hl : l.length ≤ 6) (h2 : 2 ≤ T) :
    Calls Tryz.prog 59 #[.pointer (some ⟨p, 0, none⟩), .int .u64 d, .int .u64 e] w (RcmPost p T N cb cc f id sh v l d e w) := by
  by_cases h : d ≠ 0 ∧ e ≠ 0 ∧ SC d ∧ SC e
  · exact rcm_ok p T N cb cc f id sh v l d e w hS h hl h2
  · exact rcm_scalar p T N cb cc f id sh v l d e w h

/-- The program's Commit. -/
structure PrgC extends PrgL where
  commit : ∀ (d e : Nat) {w : World} {x : Nat} {F : Nat → Prop} {g : Sg} {l : List (Nat × Nat)}, PS w x F g l → g.Ok → Ls l → Calls Tryz.prog 58 #[.pointer (some ⟨x, 0, none⟩), .int .u64 d, .int .u64 e] w fun ex w' =>
    ∃ er F', M.CmE l d e er ∧ Chg F w w' ∧ (∀ b, F' b → F b ∨ w.heap.size ≤ b) ∧
      ((er ≠ 0 ∧ PS w' x F' g l ∧ ex = .returned (.tuple #[.agg #[.int .i64 0, .int .u64 0, .int .u64 0], .int .i64 er])) ∨
       (er = 0 ∧ PS w' x F' g (l ++ [(d, e)]) ∧ ex = .returned (.tuple #[.agg #[.int .i64 (g.id : Nat), .int .u64 (M.pw 2147483579 4 d : Nat), .int .u64 (M.pw 2147483579 4 e : Nat)], .int .i64 0])))

/-- What the program's call has done to a world of signers. -/
theorem Wd.first {S : Side} {B P : Nat} {w w' : World} {own : Nat → Option Nat} {ns : Nat} {s : Nat → Two} {ssv csv : Value} {nc : Nat} {I : Nat → Int} {D E : Nat → Nat} (h : Wd S B P w own ns s ssv csv nc I D E) {i : Nat} (hi : i < ns) (hc : Chg (s i).F w w') :
    RS w' (s i).p (s i).g.T (s i).g.N (s i).cb (s i).cc (s i).g.f (s i).g.id (s i).g.sh (s i).v (s i).l := by
  have q : ∀ b, own b = some (2 * i + 2) → ¬ (s i).F b := by
    intro b hb hf
    have := h.oF i hi b hf
    rw [hb] at this
    have := Option.some.inj this
    omega
  exact (h.rs i hi).chg hc (q _ (h.oR i hi).1) (q _ (h.oR i hi).2.1) fun b hb => q _ ((h.oR i hi).2.2 b hb)

set_option maxHeartbeats 4000000 in
set_option maxRecDepth 100000 in
theorem step_commit_bad (G : PrgC) (B P : Nat) (w : World) (own : Nat → Option Nat) (ns : Nat) (s : Nat → Two) (ssv csv : Value) (nc : Nat) (I : Nat → Int) (D E : Nat → Nat) (d : OpD) (h : Wd G.toSide B P w own ns s ssv csv nc I D E) (hB : B ≤ w.heap.size)
    (hns : ns ≤ 65536) (hn0 : 0 < ns) (hA1 : -9223372036854775808 ≤ d.A) (hA2 : d.A ≤ 9223372036854775807) (hK : d.K = 2) (er : Nat) (her : M.CmE (s (M.pick d.A ns)).l d.x d.y er) (hne : er ≠ 0) :
    Calls Tryz.prog 32 #[.pointer (some ⟨P, 0, none⟩), .agg d.val] w (StPost G.toSide B P ns nc w) := by
  obtain ⟨K, A, Bn, C, Dn, t, n, ga, gl, gc, f, x, y, st, la, ln, lc, IL, DL, EL'⟩ := d
  simp only at hK hA1 hA2 her
  subst hK
  obtain ⟨O, hO⟩ : ∃ O : Obj, O = .cells (opv 2 A Bn C Dn t n (.slice ga gl gc) x y st (.slice la ln lc)) 70 := ⟨_, rfl⟩
  have CPK := fun w' => pick_any A ns w' hn0 (by omega) hA1 hA2
  obtain ⟨pk, hpk⟩ : ∃ pk, pk = M.pick A ns := ⟨_, rfl⟩
  have hpl : pk < ns := by rw [hpk]; exact M.pick_lt _ _ hn0
  simp only [← hpk] at CPK her
  clear hpk
  have hown : ∀ b k, own b = some k → b < w.heap.size := fun b k hb => (h.oB b k hb).2
  have B0 := below_alloc w O
  have W0 := h.below B0
  have HZ := heap_alloc_new w O
  obtain ⟨V, hV⟩ : ∃ V, w.alloc O = V := ⟨_, rfl⟩
  rw [hV] at B0 W0 HZ
  obtain ⟨z0, z1, z2, y0, y1, y2⟩ := three W0.blk
  obtain ⟨g, cap, rfl, hgl, r0, r1⟩ := W0.pair hpl
  obtain ⟨X, hX⟩ : ∃ X, X = (s pk).x := ⟨_, rfl⟩
  obtain ⟨Y, hY⟩ : ∃ Y, Y = (s pk).p := ⟨_, rfl⟩
  rw [← hX] at r0
  rw [← hY] at r1
  rw [hO] at HZ
  have c0 : V.cell? ⟨w.heap.size, 0, none⟩ = some (.int .i64 2) := by simp [World.cell?, HZ, opv]
  have c1 : V.cell? ⟨w.heap.size, 1, none⟩ = some (.int .i64 A) := by simp [World.cell?, HZ, opv]
  have hpi : (pk : Int) < ns := by omega
  have hn1 : ¬ (ns : Int) = 0 := by omega
  have HW : Hid (Wd G.toSide B P V own ns s (.slice (some ⟨g, 0, none⟩) ns cap) csv nc I D E) := W0
  have HX : Hid (X = (s pk).x) := hX
  have HY : Hid (Y = (s pk).p) := hY
  have HZ2 : Hid (V.cell? ⟨w.heap.size, 0, none⟩ = some (.int .i64 2)) := c0
  have hwV : w.heap.size < V.heap.size := by rw [← hV, size_alloc]; omega
  have HZ : Hid (V.heap[w.heap.size]? = some (.cells (opv 2 A Bn C Dn t n (.slice ga gl gc) x y st (.slice la ln lc)) 70 (0, 0))) := HZ
  clear h W0 hX hY
  unfold OpD.val
  unfold opv at hO ⊢
  go_enter Tryz.func32, Tryz.ntmps32
  go_upto_region 1 with fail
  rw [← hO, hV]
  clear hV hO
  go_upto_region 13 with fail
  go_cut [9] from 74 (fun s9 wx => s9 = .pointer (some ⟨V.heap.size, 0, none⟩) ∧ wx = (V.alloc (.cells #[.pointer (some ⟨X, 0, none⟩), .pointer (some ⟨Y, 0, none⟩)] 127)).drew)
  case first =>
    go_region_held (fun w' => w'.cell? ⟨P, 0, none⟩ = some (.slice (some ⟨g, 0, none⟩) ns cap) ∧ w'.cell? ⟨w.heap.size, 1, none⟩ = some (.int .i64 A) ∧ w'.cell? ⟨g, pk * 2, none⟩ = some (.pointer (some ⟨X, 0, none⟩)) ∧ w'.cell? ⟨g, pk * 2 + 1, none⟩ = some (.pointer (some ⟨Y, 0, none⟩)))
      (first | assumption | (simp [*]; done) | go_keep) (first | (go_at_call 57; refine (CPK _).mono ?_; rintro ex w2 ⟨rfl, hw⟩; subst hw))
    all_goals
      go_wp2_with fail
      go_meet
      case rel => exact ⟨rfl, rfl⟩
  case rest =>
    have hz2 := heap_alloc_new V (.cells #[.pointer (some ⟨X, 0, none⟩), .pointer (some ⟨Y, 0, none⟩)] 127)
    obtain ⟨rfl, hwc⟩ := hcut
    have dW : Below V.heap.size V wc := by rw [hwc]; exact (below_alloc _ _).drew
    have hzc : wc.heap[V.heap.size]? = some (.cells #[.pointer (some ⟨X, 0, none⟩), .pointer (some ⟨Y, 0, none⟩)] 127 (0, 0)) := by rw [hwc]; exact hz2
    have c8 : V.cell? ⟨w.heap.size, 8, none⟩ = some (.int .u64 x) := by simp [World.cell?, HZ.out, opv]
    have c9 : V.cell? ⟨w.heap.size, 9, none⟩ = some (.int .u64 y) := by simp [World.cell?, HZ.out, opv]
    have d0 := (dW.cell (p := ⟨w.heap.size, 0, none⟩) hwV).trans c0
    have d8 := (dW.cell (p := ⟨w.heap.size, 8, none⟩) hwV).trans c8
    have d9 := (dW.cell (p := ⟨w.heap.size, 9, none⟩) hwV).trans c9
    have k0 : wc.cell? ⟨V.heap.size, 0, none⟩ = some (.pointer (some ⟨X, 0, none⟩)) := by simp [World.cell?, hzc]
    have k1 : wc.cell? ⟨V.heap.size, 1, none⟩ = some (.pointer (some ⟨Y, 0, none⟩)) := by simp [World.cell?, hzc]
    have hVc : V.heap.size < wc.heap.size := lt_of_block hzc
    have W1 := HW.out.below dW
    have CL := G.commit x y (W1.ps pk hpl) (W1.ok pk hpl).1 (W1.ok pk hpl).2
    rw [← HX.out] at CL
    have HW1 : Hid (Wd G.toSide B P wc own ns s (.slice (some ⟨g, 0, none⟩) ns cap) csv nc I D E) := W1
    clear hz2 hwc hzc W1 z0 z1 z2 y0 y1 y2 r0 r1 c0 c1 c8 c9 CPK
    go_wp2_with fail
    refine CL.mono ?_
    rintro ex w4 ⟨er', F', hcm, hchg, hF', hres⟩
    have hee := hcm.one her
    subst hee
    obtain ⟨_, hps, rfl⟩ | ⟨h1, _, _⟩ := hres
    · have nb : ∀ b, w.heap.size ≤ b → b < wc.heap.size → w4.heap[b]? = wc.heap[b]? := fun b g1 g2 => hchg.block b g2 fun hf => by have := hown b _ (HW1.out.oF pk hpl b hf); omega
      have e1 := (cell_of_block (j := 1) (nb V.heap.size (Nat.le_of_lt hwV) hVc)).trans k1
      have e8 := (cell_of_block (j := 8) (nb w.heap.size (Nat.le_refl _) (by omega))).trans d8
      have e9 := (cell_of_block (j := 9) (nb w.heap.size (Nat.le_refl _) (by omega))).trans d9
      have hw4 := hchg.size
      have R4 := HW1.out.first hpl hchg
      have bA := below_alloc w4 (.cells #[.int .i64 0, .int .u64 0, .int .u64 0] 98)
      have sA := size_alloc w4 (.cells #[.int .i64 0, .int .u64 0, .int .u64 0] 98)
      have zA := three (heap_alloc_new w4 (.cells #[.int .i64 0, .int .u64 0, .int .u64 0] 98))
      have f1 := (bA.cell (p := ⟨V.heap.size, 1, none⟩) (by show V.heap.size < _; omega)).trans e1
      have f8 := (bA.cell (p := ⟨w.heap.size, 8, none⟩) (by show w.heap.size < _; omega)).trans e8
      have f9 := (bA.cell (p := ⟨w.heap.size, 9, none⟩) (by show w.heap.size < _; omega)).trans e9
      have CR := rcm_any x y (R4.below bA) (HW1.out.ok pk hpl).2.six (HW1.out.ok pk hpl).1.t2
      have HR4 : Hid (RS w4 (s pk).p (s pk).g.T (s pk).g.N (s pk).cb (s pk).cc (s pk).g.f (s pk).g.id (s pk).g.sh (s pk).v (s pk).l) := R4
      rw [← HY.out] at CR
      clear R4 CL e1 e8 e9 d0 d8 d9 k0 k1
      go_upto_region 17 with fail
      obtain ⟨w5, hw5⟩ : ∃ w5, w4.alloc (.cells #[.int .i64 0, .int .u64 0, .int .u64 0] 98) = w5 := ⟨_, rfl⟩
      rw [hw5] at bA sA zA f1 f8 f9 CR ⊢
      clear hw5
      obtain ⟨z0, z1, z2, _, _, _⟩ := zA
      go_wp2_with fail
      refine CR.mono ?_
      rintro ex w6 ⟨er2, hcm2, hres2⟩
      have hee := hcm2.one hcm
      subst hee
      rcases hres2 with ⟨_, b6, rfl⟩ | ⟨h1, _⟩
      · have g0 := (b6.cell (p := ⟨w4.heap.size, 0, none⟩) (by show w4.heap.size < _; omega)).trans z0
        have g1 := (b6.cell (p := ⟨w4.heap.size, 1, none⟩) (by show w4.heap.size < _; omega)).trans z1
        have g2 := (b6.cell (p := ⟨w4.heap.size, 2, none⟩) (by show w4.heap.size < _; omega)).trans z2
        have hne2 : ¬ (er2 : Int) = 0 := by omega
        have s6 := b6.size
        have bB := below_alloc w6 (.cells #[.int .i64 0, .int .u64 0, .int .u64 0] 98)
        have q0 := (bB.cell (p := ⟨w4.heap.size, 0, none⟩) (by show w4.heap.size < _; omega)).trans g0
        have q1 := (bB.cell (p := ⟨w4.heap.size, 1, none⟩) (by show w4.heap.size < _; omega)).trans g1
        have q2 := (bB.cell (p := ⟨w4.heap.size, 2, none⟩) (by show w4.heap.size < _; omega)).trans g2
        clear f1 f8 f9 CR z0 z1 z2 g0 g1 g2
        go_wp2_with fail
        go_ret
        have b47 := bA.trans ((b6.trans (bB.mono b6.size)).mono bA.size)
        have hFB : ∀ b, (s pk).F b → B ≤ b := fun b hb => (HW1.out.oB b _ (HW1.out.oF pk hpl b hb)).1
        rw [HX.out] at hps
        refine Exists.elim (HW1.out.turn (by omega) hpl (m := w4.heap.size) hw4 ((hchg.mono fun k hk => .inl hk).trans (Below.chg b47 _)) (F' := F') (fun b hb => ?_) (v' := (s pk).v) (fun b hb => .inl hb) (HW1.out.ok pk hpl).2 (G.chg hps (Below.chg b47 fun _ => False) fun _ _ hf => hf) (HR4.out.below b47)) fun own' hW =>
          ⟨rfl, ((B0.trans (dW.mono (Nat.le_of_lt hwV))).mono hB).trans ((hchg.below hFB (by omega)).trans (b47.mono (by omega))), own', ns, _, _, csv, nc, I, D, E, hW, by omega, by omega⟩
        rcases hF' b hb with hh | hh
        · exact .inl hh
        · exact .inr ⟨hh, G.lt hps b hb⟩
      · exact absurd h1 hne
    · exact absurd h1 hne
end Go.Proofs.YteoioldbigomaaaGreat
namespace Go.Proofs.YteoioldbigomaaaGreat
open Go.RowKit

theorem cl_same {I I' : Nat → Int} {D D' E E' : Nat → Nat} : ∀ {k : Nat}, (∀ i, i < k → I i = I' i ∧ D i = D' i ∧ E i = E' i) → cl I D E k = cl I' D' E' k
  | 0, _ => rfl
  | k + 1, h => by
    obtain ⟨h1, h2, h3⟩ := h k (Nat.lt_succ_self k)
    show cl I D E k ++ _ = cl I' D' E' k ++ _
    rw [cl_same fun i hi => h i (by omega), h1, h2, h3]
theorem cl_more (I : Nat → Int) (D E : Nat → Nat) (k : Nat) (x : Int) (d e : Nat) : cl (upd I k x) (upd D k d) (upd E k e) (k + 1) = cl I D E k ++ [.int .i64 x, .int .u64 (d : Nat), .int .u64 (e : Nat)] := by
  show cl (upd I k x) (upd D k d) (upd E k e) k ++ _ = _
  rw [cl_same (I := upd I k x) (D := upd D k d) (E := upd E k e) (I' := I) (D' := D) (E' := E) fun i hi => ⟨if_neg (by omega), if_neg (by omega), if_neg (by omega)⟩]
  simp [upd]
theorem three_set1 {w : World} {b : Nat} {x0 x1 x2 : Value} {t : TypeId} (h : w.heap[b]? = some (.cells #[x0, x1, x2] t (0, 0))) (u : Value) :
    (w.setCell ⟨b, 1, none⟩ u).heap[b]? = some (.cells #[x0, u, x2] t (0, 0)) := by
  have hlt := lt_of_block h
  show (w.heap.modify b _)[b]? = _
  rw [Array.getElem?_modify]
  simp [h]

/-- What a Commit that succeeds leaves: the program's signer (w to w4), the document's (w5 to w6). -/
theorem commit_mid (S : Side) {B P : Nat} {w w4 w5 w6 w8 : World} {own : Nat → Option Nat} {ns : Nat} {s : Nat → Two} {ssv csv : Value} {nc : Nat} {I : Nat → Int} {D E : Nat → Nat} (h : Wd S B P w own ns s ssv csv nc I D E) (hB : B ≤ w.heap.size) {i : Nat} (hi : i < ns)
    (hc4 : Chg (s i).F w w4) {F' : Nat → Prop} (hF : ∀ b, F' b → (s i).F b ∨ w.heap.size ≤ b) {l' : List (Nat × Nat)} (hl : Ls l') (hps : S.PS w4 (s i).x F' (s i).g l') (b45 : Below w4.heap.size w4 w5)
    (hc6 : Chg (fun k => k = (s i).p ∨ (s i).v.ownBlock = some k) w5 w6) {v' : Value} (hr : RS w6 (s i).p (s i).g.T (s i).g.N (s i).cb (s i).cc (s i).g.f (s i).g.id (s i).g.sh v' l') (hv : ∀ k, v'.ownBlock = some k → (s i).v.ownBlock = some k ∨ w5.heap.size ≤ k)
    (b68 : Below w6.heap.size w6 w8) : Below B w w8 ∧ ∃ own', Wd S B P w8 own' ns (Two.upd s i F' v' l') ssv csv nc I D E := by
  have s4 := hc4.size
  have s5 := b45.size
  have s6 := hc6.size
  have s8 := b68.size
  have hpo := (h.oR i hi).1
  have hvo := (h.oR i hi).2.2
  have h48 : Chg (fun k => k = (s i).p ∨ (s i).v.ownBlock = some k) w4 w8 := (Below.chg b45 _).trans (hc6.trans (Below.chg b68 _))
  have h08 : Chg (fun b => (s i).F b ∨ b = (s i).p ∨ (s i).v.ownBlock = some b) w w8 := (hc4.mono fun k hk => .inl hk).trans (h48.mono fun k hk => .inr hk)
  have two : ∀ b, (b = (s i).p ∨ (s i).v.ownBlock = some b) → own b = some (2 * i + 2) := by
    intro b hb
    rcases hb with rfl | hb
    · exact hpo
    · exact hvo b hb
  have hp8 : S.PS w8 (s i).x F' (s i).g l' := S.chg hps h48 fun b hb hh => by
    have t := two b hh
    rcases hF b hb with hf | hf
    · have := h.oF i hi b hf
      rw [t] at this
      have := Option.some.inj this
      omega
    · have := (h.oB b _ t).2
      omega
  have hF2 : ∀ b, F' b → (s i).F b ∨ (w.heap.size ≤ b ∧ b < w4.heap.size) := fun b hb => by
    rcases hF b hb with hh | hh
    · exact .inl hh
    · exact .inr ⟨hh, S.lt hps b hb⟩
  obtain ⟨own1, W8⟩ := h.turn hB hi (m := w4.heap.size) s4 h08 hF2 (fun b hb => (hv b hb).imp (fun hh => hh) fun hh => by omega) hl hp8 (hr.below b68)
  refine ⟨h08.below (fun b hb => ?_) hB, own1, W8⟩
  rcases hb with hb | hb
  · exact (h.oB b _ (h.oF i hi b hb)).1
  · exact (h.oB b _ (two b hb)).1

/-- What the append to the list of what was told leaves. -/
theorem told_fin (S : Side) {B P : Nat} {w8 w9 : World} {own : Nat → Option Nat} {ns : Nat} {s : Nat → Two} {ssv csv : Value} {nc : Nat} {I : Nat → Int} {D E : Nat → Nat} (W8 : Wd S B P w8 own ns s ssv csv nc I D E) (hB : B ≤ w8.heap.size)
    {g cap : Nat} (x : Int) (d e : Nat) (o9 : w9.ownsRow B 98 3 (.slice (some ⟨g, 0, none⟩) (nc + 1) cap) (nc + 1) (cl I D E nc ++ [.int .i64 x, .int .u64 (d : Nat), .int .u64 (e : Nat)]))
    (g9 : w8.grownBy w9 csv.ownBlock) (at9 : csv.ownBlock = some g ∨ w8.heap.size ≤ g) :
    Below B w8 (w9.setCell ⟨P, 1, none⟩ (.slice (some ⟨g, 0, none⟩) (nc + 1) cap)) ∧
      ∃ own' csv' I' D' E', Wd S B P (w9.setCell ⟨P, 1, none⟩ (.slice (some ⟨g, 0, none⟩) (nc + 1) cap)) own' ns s ssv csv' (nc + 1) I' D' E' := by
  have hPl := lt_of_block W8.blk
  have hPg : csv.ownBlock ≠ some P := fun e => (W8.ocs P e).2.1 rfl
  have Z9 := (g9.block P hPl (fun e => hPg e.symm)).trans W8.blk
  have h8 : Chg (fun b => b = P ∨ csv.ownBlock = some b) w8 (w9.setCell ⟨P, 1, none⟩ (.slice (some ⟨g, 0, none⟩) (nc + 1) cap)) := Chg.set ((grown_chg g9).mono fun k hk => .inr hk.symm) (.inl rfl)
  have hgP : g ≠ P := by
    rcases at9 with hh | hh
    · exact fun e => hPg (by rw [hh, e])
    · omega
  have hcs : GrowC (w9.setCell ⟨P, 1, none⟩ (.slice (some ⟨g, 0, none⟩) (nc + 1) cap)) B (.slice (some ⟨g, 0, none⟩) (nc + 1) cap) (nc + 1) (upd I nc x) (upd D nc d) (upd E nc e) := by
    unfold GrowC
    rw [cl_more]
    exact row_chg o9 (P := fun b => b = P) (Chg.set (Chg.refl _ _) rfl) fun b hb e => hgP (by rw [← e]; exact Option.some.inj hb)
  obtain ⟨own2, W10⟩ := W8.told hB h8 (three_set1 Z9 _) hcs fun b hb => by
    have e2 : g = b := Option.some.inj hb
    rw [← e2]
    exact at9
  refine ⟨h8.below (fun b hb => ?_) hB, own2, _, _, _, _, W10⟩
  rcases hb with rfl | hb
  · exact (W8.oB _ _ W8.oP).1
  · exact (W8.oB _ _ (W8.ocs b hb).1).1

/-- 'w.cs = append(w.cs, d)' as a step of a region that draws. -/
theorem step_appendC {ops : Array Oper} {o : Oper} {a : Act} {w : World} {K : Act → World → Prop} {Q : Exit → Act → World → Prop} {X : Prop}
    (hg : o.guard = none) (s x : Operand) (hop : o.op = Op.call { callee := Callee.builtin Builtin.append, args := #[s, x], argTypes := #[25, 25] })
    (B : Nat) (v : Value) (n : Nat) (xs : List Value) (i d e : Nat) (hs : a.eval s = v) (hown : w.ownsRow B 98 3 v n xs) (b : Nat) (hx : a.eval x = .slice (some ⟨b, 0, none⟩) 1 1)
    (h0 : w.cell? ⟨b, 0, none⟩ = some (.int .i64 (i : Int))) (h1 : w.cell? ⟨b, 1, none⟩ = some (.int .u64 (d : Int))) (h2 : w.cell? ⟨b, 2, none⟩ = some (.int .u64 (e : Int))) (hk : n ≤ 65536) (hB : B ≤ w.heap.size)
    (hK : ∀ g cap w', w'.ownsRow B 98 3 (.slice (some ⟨g, 0, none⟩) (n + 1) cap) (n + 1) (xs ++ [.int .i64 (i : Int), .int .u64 (d : Int), .int .u64 (e : Int)]) → w.grownBy w' v.ownBlock → (v.ownBlock = some g ∨ g = w.heap.size) → g < w'.heap.size → K (a.put o.dst (.slice (some ⟨g, 0, none⟩) (n + 1) cap)) w') :
    if Region.wanted o (yielded ops a.tmps) = true then Oper.wp Tryz.prog o a w K Q else X := by
  obtain ⟨i0, hi, hz0, hz1, hz2⟩ := info_parts Tryz.info98
  refine step_append_lies w hg s x 25 hop B 98 i0 (.agg #[.int .i64 0, .int .u64 0, .int .u64 0]) 3 24 Tryz.underlying25 hi hz0 hz1 hz2 rfl (by decide) v n xs hs hown ⟨b, 0, none⟩ 1 1
    [.int .i64 (i : Int), .int .u64 (d : Int), .int .u64 (e : Int)] hx rfl ?_ ?_ (by omega) (by unfold maxLen; omega) (by omega) hB _ rfl hK
  · intro j u hj
    match j, hj with
    | 0, hj => simp at hj; subst hj; rw [addr_add0]; exact h0
    | 1, hj => simp at hj; subst hj; rw [addr_add0]; exact h1
    | 2, hj => simp at hj; subst hj; rw [addr_add0]; exact h2
  · intro u hu
    simp at hu
    rcases hu with rfl | rfl | rfl <;> rfl
end Go.Proofs.YteoioldbigomaaaGreat
