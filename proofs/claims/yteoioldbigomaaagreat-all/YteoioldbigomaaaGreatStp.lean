import Derived.Test.YteoioldbigomaaaGreatWld
namespace Go.Proofs.YteoioldbigomaaaGreat
open Go.RowKit

/-- The program's signers, with the contracts of their four calls. -/
structure Prg extends Side where
  new : ∀ (t n id : Int) (a : Option Addr) (len c sh : Nat) (f : Nat → Nat) (w : World), RdF w a len (cu (M.sq f len)) → len ≤ 65536 →
    Calls Tryz.prog 55 #[.agg #[.int .i64 t, .int .i64 n, .slice a len c], .int .i64 id, .int .u64 sh] w fun e w' => Below w.heap.size w w' ∧ ∃ er : Nat, M.NsE t n len f id sh er ∧
      ((er ≠ 0 ∧ e = .returned (.tuple #[.pointer none, .int .i64 er])) ∨
       (er = 0 ∧ ∃ x F, e = .returned (.tuple #[.pointer (some ⟨x, 0, none⟩), .int .i64 0]) ∧ (∀ b, F b → w.heap.size ≤ b) ∧ PS w' x F ⟨len, n.toNat, id.toNat, sh, f⟩ []))

/-- What a step leaves: a world of signers again. -/
def StPost (S : Side) (B P ns nc : Nat) (w : World) (e : Ending) (w' : World) : Prop :=
  e = .returned (.bool true) ∧ Below B w w' ∧ ∃ own ns' s ssv csv nc' I D E, Wd S B P w' own ns' s ssv csv nc' I D E ∧ ns' ≤ ns + 1 ∧ nc' ≤ nc + 1

theorem Tryz.info127 : (Tryz.prog.info? 127).map (fun i => (i.zero, i.size, i.bytes)) = some (some (.agg #[.pointer none, .pointer none]), 2, 16) := by kernel_rfl

/-- 'w.ss = append(w.ss, pair{x: x, m: m})'. -/
theorem wpList_appendSg (w : World) {ops : Array Oper} {rest : List Oper} {o : Oper} {a : Act} {Q : Exit → Act → World → Prop}
    (hg : o.guard = none) (s x : Operand) (hop : o.op = Op.call { callee := Callee.builtin Builtin.append, args := #[s, x], argTypes := #[72, 72] })
    (B : Nat) (v : Value) (n : Nat) (xs : List Value) (p q : Nat) (hs : a.eval s = v) (hown : w.ownsRow B 127 2 v n xs) (b : Nat) (hx : a.eval x = .slice (some ⟨b, 0, none⟩) 1 1)
    (h0 : w.cell? ⟨b, 0, none⟩ = some (.pointer (some ⟨p, 0, none⟩))) (h1 : w.cell? ⟨b, 1, none⟩ = some (.pointer (some ⟨q, 0, none⟩))) (hk : n ≤ 1048576) (hB : B ≤ w.heap.size)
    (hK : ∀ g cap w', w'.ownsRow B 127 2 (.slice (some ⟨g, 0, none⟩) (n + 1) cap) (n + 1) (xs ++ [.pointer (some ⟨p, 0, none⟩), .pointer (some ⟨q, 0, none⟩)]) → w.grownBy w' v.ownBlock → (v.ownBlock = some g ∨ g = w.heap.size) → g < w'.heap.size → wpList Tryz.prog ops Q rest (a.put o.dst (.slice (some ⟨g, 0, none⟩) (n + 1) cap)) w') :
    wpList Tryz.prog ops Q (o :: rest) a w := by
  obtain ⟨i0, hi, hz0, hz1, hz2⟩ := info_parts Tryz.info127
  refine wpList_append_lies w hg s x 72 hop B 127 i0 (.agg #[.pointer none, .pointer none]) 2 16 Tryz.underlying72 hi hz0 hz1 hz2 rfl (by decide) v n xs hs hown ⟨b, 0, none⟩ 1 1 [.pointer (some ⟨p, 0, none⟩), .pointer (some ⟨q, 0, none⟩)] hx rfl ?_ ?_
    (by omega) (by unfold maxLen; omega) (by omega) hB _ rfl hK
  · intro j u hj
    match j, hj with
    | 0, hj => simp at hj; subst hj; rw [addr_add0]; exact h0
    | 1, hj => simp at hj; subst hj; rw [addr_add0]; exact h1
  · intro u hu
    simp at hu
    rcases hu with rfl | rfl <;> rfl

theorem Chg.below {P : Nat → Prop} {a b : World} {B : Nat} (h : Chg P a b) (hp : ∀ k, P k → B ≤ k) (hB : B ≤ a.heap.size) : Below B a b :=
  ⟨h.os, h.tape, h.output, h.size, fun k hk => h.block k (by omega) fun hh => by have := hp k hh; omega⟩
theorem three_set0 {w : World} {b : Nat} {x0 x1 x2 : Value} {t : TypeId} (h : w.heap[b]? = some (.cells #[x0, x1, x2] t (0, 0))) (u : Value) :
    (w.setCell ⟨b, 0, none⟩ u).heap[b]? = some (.cells #[u, x1, x2] t (0, 0)) := by
  have hlt := lt_of_block h
  show (w.heap.modify b _)[b]? = _
  rw [Array.getElem?_modify]
  simp [h]
theorem M.NsE.ok {t n : Int} {len : Nat} {f : Nat → Nat} {id : Int} {sh : Nat} (h : M.NsE t n len f id sh 0) : Sg.Ok ⟨len, n.toNat, id.toNat, sh, f⟩ := by
  rcases h with ⟨_, z⟩ | ⟨_, _, z⟩ | ⟨_, _, _, z⟩ | ⟨_, _, _, _, z⟩ | ⟨a, b, c, _, _⟩
  · omega
  · omega
  · omega
  · omega
  · obtain ⟨⟨h2, hn, h9, hc⟩, els, one⟩ := a
    refine ⟨⟨⟨?_, ?_, ?_, ?_⟩, els, one⟩, ?_, ?_, c⟩ <;> simp only <;> omega

/-- What the success of KNew leaves. -/
theorem new_fin (G : Prg) {B P : Nat} {w w1 w2 w3 : World} {own : Nat → Option Nat} {ns : Nat} {s : Nat → Two} {ssv csv : Value} {nc : Nat} {I : Nat → Int} {D E : Nat → Nat} (h : Wd G.toSide B P w own ns s ssv csv nc I D E) (hB : B ≤ w.heap.size)
    (bel1 : Below w.heap.size w w1) (bel2 : Below w1.heap.size w1 w2) (O2 : Obj) (g cap : Nat) {X q cb cc : Nat} {F : Nat → Prop} {S : Sg} (hok : S.Ok) (hF : ∀ b, F b → w.heap.size ≤ b) (hPS : G.PS w1 X F S []) (hq1 : w1.heap.size ≤ q) (hq2 : w1.heap.size ≤ cb)
    (hRS : RS w2 q S.T S.N cb cc S.f S.id S.sh (.slice none 0 0) [])
    (o3 : w3.ownsRow B 127 2 (.slice (some ⟨g, 0, none⟩) (ns + 1) cap) (ns + 1) (sgc (fun i => (s i).x) (fun i => (s i).p) ns ++ [.pointer (some ⟨X, 0, none⟩), .pointer (some ⟨q, 0, none⟩)]))
    (g3 : (w2.alloc O2).grownBy w3 ssv.ownBlock) (at3 : ssv.ownBlock = some g ∨ g = (w2.alloc O2).heap.size) :
    StPost G.toSide B P ns nc w (.returned (.bool true)) (w3.setCell ⟨P, 0, none⟩ (.slice (some ⟨g, 0, none⟩) (ns + 1) cap)) := by
  have belw2 : Below w.heap.size w w2 := bel1.trans (bel2.mono bel1.size)
  have W2 := h.below belw2
  have hPl := lt_of_block h.blk
  have hPl2 := lt_of_block W2.blk
  have hs2 := size_alloc w2 O2
  have hsz1 := bel1.size
  have hsz2 := bel2.size
  have hPg : ssv.ownBlock ≠ some P := fun e => (h.oss P e).2 rfl
  have hlo : ∀ b, ssv.ownBlock = some b → B ≤ b ∧ b < w.heap.size := fun b hb => h.oB b 0 (h.oss b hb).1
  have Zp3 : w3.heap[P]? = some (.cells #[ssv, csv, .bool false] 74 (0, 0)) := (g3.block P (by omega) (fun e => hPg e.symm)).trans (((below_alloc w2 O2).block P hPl2).trans W2.blk)
  have hc2 : Chg (fun b => b = P ∨ ssv.ownBlock = some b) w2 (w3.setCell ⟨P, 0, none⟩ (.slice (some ⟨g, 0, none⟩) (ns + 1) cap)) :=
    Chg.set ((Below.chg (below_alloc w2 O2) _).trans ((grown_chg g3).mono fun k hk => .inr hk.symm)) (.inl rfl)
  have hc1 := (Below.chg bel2 (fun b => b = P ∨ ssv.ownBlock = some b)).trans hc2
  have hc0 := (Below.chg bel1 (fun b => b = P ∨ ssv.ownBlock = some b)).trans hc1
  have hPB : B ≤ P := (h.oB P 0 h.oP).1
  have hlow : ∀ b, b = P ∨ ssv.ownBlock = some b → B ≤ b ∧ b < w.heap.size := by
    intro b hb
    rcases hb with rfl | hb
    · exact ⟨hPB, hPl⟩
    · exact hlo b hb
  have hg : (B ≤ g ∧ g < w.heap.size) ∨ w2.heap.size < g := by
    rcases at3 with hh | hh
    · exact .inl (hlo g hh)
    · exact .inr (by omega)
  have hqlt := lt_of_block hRS.blk
  have hcblt : cb < w2.heap.size := by
    have := hok.t2
    rcases hRS.com with hh | ⟨b, o, e, hb, _⟩
    · omega
    · have e2 : cb = b := congrArg Addr.block (Option.some.inj e)
      omega
  have hsz := hc2.size
  refine Exists.elim (h.more hB hc0 (ssv' := .slice (some ⟨g, 0, none⟩) (ns + 1) cap) (t := ⟨X, q, F, S, [], cb, cc, .slice none 0 0⟩) (three_set0 Zp3 _) ?_ ?_ ?_ ?_ ⟨hok, Ls.nil⟩ ?_ ?_) fun own' hW => ⟨rfl, hc0.below (fun k hk => (hlow k hk).1) hB, own', ns + 1, _, _, csv, nc, I, D, E, hW, Nat.le_refl _, by omega⟩
  · exact row_chg o3 (P := fun b => b = P) (Chg.set (Chg.refl _ _) rfl) (fun b hb e => by
      have e2 : g = b := Option.some.inj hb
      rcases at3 with hh | hh
      · exact hPg (by rw [hh, e2, e])
      · omega)
  · intro b hb
    have e2 : g = b := Option.some.inj hb
    rcases at3 with hh | hh
    · exact .inl (by rw [hh, e2])
    · exact .inr (by omega)
  · exact G.chg hPS hc1 fun b hb hh => by have := hF b hb; have := hlow b hh; omega
  · exact hRS.chg hc2 (fun hh => by have := hlow q hh; omega) (fun hh => by have := hlow cb hh; omega) (fun k hk => by cases hk)
  · intro b hb
    have h1 := hF b hb
    have h2 := G.lt hPS b hb
    refine ⟨h1, ?_, ?_, ?_, ?_⟩
    · show b ≠ q; omega
    · show b ≠ cb; omega
    · exact fun hh => by cases hh
    · intro hh
      have e2 : g = b := Option.some.inj hh
      omega
  · intro b hb
    have hb' : b = q ∨ b = cb := by
      rcases hb with hb | hb | hb
      · exact .inl hb
      · exact .inr hb
      · cases hb
    have hx : w.heap.size ≤ b ∧ b < w2.heap.size := by rcases hb' with rfl | rfl <;> omega
    refine ⟨hx.1, by omega, ?_⟩
    intro hh
    have e2 : g = b := Option.some.inj hh
    rcases hb' with rfl | rfl <;> omega

set_option maxHeartbeats 4000000 in
set_option maxRecDepth 100000 in
theorem step_new (G : Prg) (B P : Nat) (w : World) (own : Nat → Option Nat) (ns : Nat) (s : Nat → Two) (ssv csv : Value) (nc : Nat) (I : Nat → Int) (D E : Nat → Nat) (d : OpD) (h : Wd G.toSide B P w own ns s ssv csv nc I D E) (hd : d.Ok w) (hB : B ≤ w.heap.size)
    (hns : ns ≤ 65536) (hgl : d.gl ≤ 65536) (hK : d.K = 1) :
    Calls Tryz.prog 32 #[.pointer (some ⟨P, 0, none⟩), .agg d.val] w (StPost G.toSide B P ns nc w) := by
  obtain ⟨K, A, Bn, C, Dn, t, n, ga, gl, gc, f, x, y, st, la, ln, lc, IL, DL, EL'⟩ := d
  simp only at hK hgl
  subst hK
  have hgr : RdF w ga gl (cu (M.sq f gl)) := hd.g
  obtain ⟨O, hO⟩ : ∃ O : Obj, O = .cells (opv 1 A Bn C Dn t n (.slice ga gl gc) x y st (.slice la ln lc)) 70 := ⟨_, rfl⟩
  have B0 := below_alloc w O
  have CN := G.new t n Bn ga gl gc x f (w.alloc O) (hgr.below B0) hgl
  unfold OpD.val
  unfold opv at hO ⊢
  go_enter Tryz.func32, Tryz.ntmps32
  go_wp2_with fail
  rw [← hO]
  refine CN.mono ?_
  intro ex w1 hpost
  have bel1 : Below (w.alloc O).heap.size (w.alloc O) w1 := hpost.1
  have hsO := size_alloc w O
  have belw1 : Below w.heap.size w w1 := B0.trans (bel1.mono B0.size)
  have hz : w1.heap[w.heap.size]? = some (.cells #[.int .i64 1, .int .i64 A, .int .i64 Bn, .int .i64 C, .int .i64 Dn, .int .i64 t, .int .i64 n, .slice ga gl gc, .int .u64 (x : Int), .int .u64 (y : Int), .string st, .slice la ln lc] 70 (0, 0)) :=
    (bel1.block w.heap.size (by omega)).trans (by rw [hO]; exact heap_alloc_new w _)
  have c2 : w1.cell? ⟨w.heap.size, 2, none⟩ = some (.int .i64 Bn) := by simp [World.cell?, hz]
  have c5 : w1.cell? ⟨w.heap.size, 5, none⟩ = some (.int .i64 t) := by simp [World.cell?, hz]
  have c6 : w1.cell? ⟨w.heap.size, 6, none⟩ = some (.int .i64 n) := by simp [World.cell?, hz]
  have c7 : w1.cell? ⟨w.heap.size, 7, none⟩ = some (.slice ga gl gc) := by simp [World.cell?, hz]
  have c8 : w1.cell? ⟨w.heap.size, 8, none⟩ = some (.int .u64 (x : Int)) := by simp [World.cell?, hz]
  have CR := rns_any t n Bn ga gl gc x f w1 (hgr.below belw1)
  have HW : Hid (Wd G.toSide B P w own ns s ssv csv nc I D E) := h
  obtain ⟨_, er, hns1, ⟨he, rfl⟩ | ⟨he, X, F, rfl, hF, hPS⟩⟩ := hpost
  · clear hO CN hz h hd
    go_wp2_with fail
    refine CR.mono ?_
    rintro ex2 w2 ⟨bel2, er2, hns2, ⟨he2, rfl⟩ | ⟨he2, q, cb, cc, rfl, hq1, hq2, hRS⟩⟩
    · have hee := hns1.one hns2
      subst hee
      have belw2 : Below w.heap.size w w2 := belw1.trans (bel2.mono belw1.size)
      clear CR hns1 hns2 c2 c5 c6 c7 c8
      go_wp2_with fail
      go_ret
      exact ⟨rfl, belw2.mono hB, own, ns, s, ssv, csv, nc, I, D, E, HW.out.below belw2, by omega, by omega⟩
    · exact absurd (hns1.one hns2) (by omega)
  · clear hO CN hz h hd
    subst he
    go_wp2_with fail
    refine CR.mono ?_
    rintro ex2 w2 ⟨bel2, er2, hns2, ⟨he2, rfl⟩ | ⟨he2, q, cb, cc, rfl, hq1, hq2, hRS⟩⟩
    · exact absurd (hns1.one hns2) (by omega)
    · have belw2 : Below w.heap.size w w2 := belw1.trans (bel2.mono belw1.size)
      have W2 := HW.out.below belw2
      obtain ⟨z0, z1, z2, y0, y1, y2⟩ := three W2.blk
      obtain ⟨av, cv, hv⟩ := row_form W2.ss
      have hPl := lt_of_block W2.blk
      have HV : Hid (ssv = .slice av ns cv) := hv
      subst hv
      clear CR c2 c5 c6 c7 c8
      go_wp2_with (at_builtin; refine wpList_appendSg _ rfl (.tmp 66) (.tmp 70) rfl B (.slice av ns cv) ns _ X q rfl (ownsRow_below W2.ss (below_alloc _ _)) _ rfl (by simp) (by simp) (by omega) (Nat.le_trans hB (Nat.le_trans belw2.size (below_alloc _ _).size)) ?_; intro g cap w3 o3 g3 at3 lt3; have Zp3 := (g3.block P (Nat.lt_of_lt_of_le hPl (below_alloc _ _).size) (fun e => (W2.oss P e.symm).2 rfl)).trans (((below_alloc _ _).block P hPl).trans W2.blk); obtain ⟨p0, _, _, f0, _, _⟩ := three Zp3)
      go_ret
      exact new_fin G HW.out hB belw1 bel2 _ g cap hns1.ok (fun b hb => by have := hF b hb; omega) hPS hq1 hq2 hRS o3 g3 at3
end Go.Proofs.YteoioldbigomaaaGreat
