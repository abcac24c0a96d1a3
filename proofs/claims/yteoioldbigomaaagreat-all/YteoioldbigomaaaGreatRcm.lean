import Derived.Test.YteoioldbigomaaaGreatChg
import Derived.Test.YteoioldbigomaaaGreatPart
import Derived.Test.YteoioldbigomaaaGreatRchk
import Derived.Test.YteoioldbigomaaaGreatSeq
namespace Go.Proofs.YteoioldbigomaaaGreat
open Go.RowKit

/-- 'append([]uint64(nil), x...)', x not empty: a new block. -/
theorem wpList_append_copy (w : World) {ops : Array Oper} {rest : List Oper} {o : Oper} {a : Act} {Q : Exit → Act → World → Prop}
    (hg : o.guard = none) (s x : Operand) (hop : o.op = Op.call { callee := Callee.builtin Builtin.append, args := #[s, x], argTypes := #[22, 22] })
    (n c : Nat) (ad : Option Addr) (F : Nat → Nat) (hs : a.eval s = .slice none 0 0) (hx : a.eval x = .slice ad n c) (hr : RdF w ad n (cu (M.sq F n))) (hp : 0 < n) (hn : n ≤ 65536)
    (hK : ∀ g c' w', w.heap.size ≤ g → RdF w' (some ⟨g, 0, none⟩) n (cu (M.sq F n)) → Below w.heap.size w w' → wpList Tryz.prog ops Q rest (a.put o.dst (.slice (some ⟨g, 0, none⟩) n c')) w') :
    wpList Tryz.prog ops Q (o :: rest) a w := by
  obtain ⟨i0, hi, hz0, hz1, hz2⟩ := info_parts Tryz.info26
  obtain ⟨b, off, rfl, _, hc⟩ := hr.at hp
  refine wpList_append_own w hg s x 22 hop w.heap.size 26 i0 (.int .u64 0) 1 8 Tryz.underlying22 hi hz0 hz1 hz2 rfl (by decide) (.slice none 0 0) 0 [] hs (World.ownsRow_nil _ _ _ _) ⟨b, off, none⟩ n c (vs F n) hx (by simp [vs]) ?_
    (by intro u hu; simp only [vs, List.mem_map] at hu; obtain ⟨_, _, rfl⟩ := hu; rfl) (by unfold maxLen; omega) (by omega) (Nat.le_refl _) ?_
  · intro j u hj
    have hj' : j < n := by
      have := (List.getElem?_eq_some_iff.1 hj).1
      simpa [vs] using this
    have h1 := hc j hj'
    rw [M.cu_sq _ _ _ hj'] at h1
    have h2 : u = .int .u64 ((F j : Nat) : Int) := by
      simp [vs, hj'] at hj; exact hj.symm
    rw [h2, addr_add]
    exact h1
  · intro v' w' r1 r2 _
    have G : Grow w' w.heap.size v' n F := by
      unfold Grow
      simpa using r1
    have bel : Below w.heap.size w w' := (Below.refl _ _).grown r2 (Nat.le_refl _) (fun k hk => by simp [Value.ownBlock] at hk)
    have G2 := G.2
    rcases G2 with ⟨_, h0⟩ | ⟨g, cap, cur, rfl, hB, _⟩
    · omega
    · obtain ⟨a', c', he, rd, _⟩ := G.rd
      simp only [Value.slice.injEq] at he
      obtain ⟨rfl, _, rfl⟩ := he
      exact hK g cap w' hB rd bel

/-- The cells of pairs of nonces that signer id keeps. -/
def pcs (id : Nat) : List (Nat × Nat) → List Value
  | [] => []
  | x :: l => [.int .u64 (x.1 : Nat), .int .u64 (x.2 : Nat), .int .i64 (id : Nat), .int .u64 (M.pw 2147483579 4 x.1 : Nat), .int .u64 (M.pw 2147483579 4 x.2 : Nat)] ++ pcs id l
theorem pcs_app (id : Nat) (l k : List (Nat × Nat)) : pcs id (l ++ k) = pcs id l ++ pcs id k := by
  induction l with
  | nil => rfl
  | cons x l ih => rw [List.cons_append, pcs, pcs, ih, List.append_assoc]
theorem pcs_len (id : Nat) (l : List (Nat × Nat)) : (pcs id l).length = l.length * 5 := by
  induction l with
  | nil => rfl
  | cons x l ih => rw [pcs, List.length_append, ih]; simp; omega
theorem pcs_at (id : Nat) (l : List (Nat × Nat)) (i : Nat) (h : i < l.length) : (pcs id l)[i * 5]? = some (.int .u64 (l[i].1 : Nat)) ∧ (pcs id l)[i * 5 + 1]? = some (.int .u64 (l[i].2 : Nat)) ∧ (pcs id l)[i * 5 + 2]? = some (.int .i64 (id : Nat)) ∧
    (pcs id l)[i * 5 + 3]? = some (.int .u64 (M.pw 2147483579 4 l[i].1 : Nat)) ∧ (pcs id l)[i * 5 + 4]? = some (.int .u64 (M.pw 2147483579 4 l[i].2 : Nat)) := by
  induction l generalizing i with
  | nil => simp at h
  | cons x l ih =>
    cases i with
    | zero => rw [pcs]; exact ⟨rfl, rfl, rfl, rfl, rfl⟩
    | succ i =>
      have := ih i (by simpa using h)
      have e : ∀ j, (pcs id (x :: l))[(i + 1) * 5 + j]? = (pcs id l)[i * 5 + j]? := fun j => by
        rw [pcs, List.getElem?_append_right (by simp; omega)]
        congr 1
        simp
        omega
      have e0 := e 0
      rw [Nat.add_zero, Nat.add_zero] at e0
      rw [e0, e 1, e 2, e 3, e 4]
      simpa using this

/-- A signer of the document's, at block p: its group's commitments at block cb, its pairs l in the slice v. -/
structure RS (w : World) (p T N cb cc : Nat) (f : Nat → Nat) (id sh : Nat) (v : Value) (l : List (Nat × Nat)) : Prop where
  blk : w.heap[p]? = some (.cells #[.int .i64 (T : Nat), .int .i64 (N : Nat), .slice (some ⟨cb, 0, none⟩) T cc, .int .i64 (id : Nat), .int .u64 (sh : Nat), v] 172 (0, 0))
  com : RdF w (some ⟨cb, 0, none⟩) T (cu (M.sq f T))
  row : w.ownsRow 0 179 5 v l.length (pcs id l)
  vp : v.ownBlock ≠ some p
  cp : cb ≠ p
  vc : v.ownBlock ≠ some cb

theorem RS.chg {P : Nat → Prop} {w w' : World} {p T N cb cc : Nat} {f : Nat → Nat} {id sh : Nat} {v : Value} {l : List (Nat × Nat)} (h : RS w p T N cb cc f id sh v l) (hc : Chg P w w') (hp : ¬ P p) (hcb : ¬ P cb) (hv : ∀ k, v.ownBlock = some k → ¬ P k) : RS w' p T N cb cc f id sh v l := by
  refine ⟨(hc.block p (lt_of_block h.blk) hp).trans h.blk, ?_, ⟨h.row.1, ?_⟩, h.vp, h.cp, h.vc⟩
  · rcases h.com with h0 | ⟨b, o, he, hlt, hcell⟩
    · exact .inl h0
    · refine .inr ⟨b, o, he, Nat.lt_of_lt_of_le hlt hc.size, fun i hi => ?_⟩
      simp only [Option.some.injEq, Addr.mk.injEq, and_true] at he
      obtain ⟨rfl, rfl⟩ := he
      rw [World.cell?_of_block (w := w) (hc.block cb hlt hcb)]
      exact hcell i hi
  · rcases h.row.2 with h2 | ⟨g, cap, cur, h1, h2, h3, h4⟩
    · exact .inl h2
    · exact .inr ⟨g, cap, cur, h1, h2, (hc.block g (lt_of_block h3) (hv g (by rw [h1]; rfl))).trans h3, h4⟩
theorem RS.below {w w' : World} {p T N cb cc : Nat} {f : Nat → Nat} {id sh : Nat} {v : Value} {l : List (Nat × Nat)} (h : RS w p T N cb cc f id sh v l) (hb : Below w.heap.size w w') : RS w' p T N cb cc f id sh v l :=
  h.chg (Below.chg hb fun _ => False) (fun h => h) (fun h => h) (fun _ _ h => h)

set_option maxHeartbeats 400000 in
theorem left_any (p T N cb cc : Nat) (f : Nat → Nat) (id sh : Nat) (v : Value) (l : List (Nat × Nat)) (w : World) (h : RS w p T N cb cc f id sh v l) :
    Calls Tryz.prog 65 #[.pointer (some ⟨p, 0, none⟩)] w fun e w' => e = .returned (.int .i64 (l.length : Nat)) ∧ w' = w := by
  obtain ⟨z0, z1, z2, z3, z4, z5⟩ := six h.blk
  obtain ⟨a, cap, hv⟩ : ∃ a cap, v = .slice a l.length cap := by
    rcases h.row.2 with ⟨hv, hl⟩ | ⟨g, cap, cur, hv, _⟩
    · exact ⟨none, 0, by rw [hv, hl]⟩
    · exact ⟨_, cap, hv⟩
  subst hv
  clear h
  go_enter Tryz.func65, Tryz.ntmps65
  go_wp2_with fail
  go_ret
  exact ⟨rfl, rfl⟩
end Go.Proofs.YteoioldbigomaaaGreat
namespace Go.Proofs.YteoioldbigomaaaGreat
open Go.RowKit

/-- What is wrong with a group, a signer's number and a share (0: nothing). -/
def M.NsE (t n : Int) (len : Nat) (f : Nat → Nat) (id : Int) (sh er : Nat) : Prop :=
  (¬ RightG t n len f ∧ er = 4) ∨ (RightG t n len f ∧ ¬ (1 ≤ id ∧ id ≤ n) ∧ er = 5) ∨ (RightG t n len f ∧ (1 ≤ id ∧ id ≤ n) ∧ ¬ SC sh ∧ er = 2) ∨
  (RightG t n len f ∧ (1 ≤ id ∧ id ≤ n) ∧ SC sh ∧ M.pw 2147483579 4 sh ≠ M.pub f len id.toNat ∧ er = 8) ∨
  (RightG t n len f ∧ (1 ≤ id ∧ id ≤ n) ∧ SC sh ∧ M.pw 2147483579 4 sh = M.pub f len id.toNat ∧ er = 0)
theorem M.NsE.one {t n : Int} {len : Nat} {f : Nat → Nat} {id : Int} {sh e1 e2 : Nat} (h : M.NsE t n len f id sh e1) (h' : M.NsE t n len f id sh e2) : e1 = e2 := by
  rcases h with ⟨a, z⟩ | ⟨a, b, z⟩ | ⟨a, b, c, z⟩ | ⟨a, b, c, d, z⟩ | ⟨a, b, c, d, z⟩ <;> rcases h' with ⟨a', z'⟩ | ⟨a', b', z'⟩ | ⟨a', b', c', z'⟩ | ⟨a', b', c', d', z'⟩ | ⟨a', b', c', d', z'⟩ <;>
    first | (rw [z, z']; done) | exact absurd a a' | exact absurd a' a | exact absurd b b' | exact absurd b' b | exact absurd c c' | exact absurd c' c | exact absurd d d' | exact absurd d' d

def NsPost (t n : Int) (len : Nat) (f : Nat → Nat) (id : Int) (sh : Nat) (w : World) (e : Ending) (w' : World) : Prop :=
  Below w.heap.size w w' ∧ ∃ er : Nat, M.NsE t n len f id sh er ∧ ((er ≠ 0 ∧ e = .returned (.tuple #[.pointer none, .int .i64 er])) ∨
    (er = 0 ∧ ∃ p cb cc, e = .returned (.tuple #[.pointer (some ⟨p, 0, none⟩), .int .i64 0]) ∧ w.heap.size ≤ p ∧ w.heap.size ≤ cb ∧ RS w' p len n.toNat cb cc f id.toNat sh (.slice none 0 0) []))

set_option maxHeartbeats 2000000 in
set_option maxRecDepth 100000 in
theorem rns_any (t n id : Int) (a : Option Addr) (len c sh : Nat) (f : Nat → Nat) (w : World) (hr : RdF w a len (cu (M.sq f len))) :
    Calls Tryz.prog 56 #[.agg #[.int .i64 t, .int .i64 n, .slice a len c], .int .i64 id, .int .u64 sh] w (NsPost t n len f id sh w) := by
  have B := below_alloc w (gro t n a len c)
  have hz := heap_alloc_new w (gro t n a len c)
  have hr1 := hr.below B
  by_cases hR : RightG t n len f
  · obtain ⟨T, hT⟩ : ∃ T : Nat, t = T := ⟨t.toNat, by have := hR.fit; obtain ⟨h1, h2, h3, h4⟩ := this; omega⟩
    obtain ⟨N, hN⟩ : ∃ N : Nat, n = N := ⟨n.toNat, by have := hR.fit; obtain ⟨h1, h2, h3, h4⟩ := this; omega⟩
    subst hT hN
    obtain rfl : len = T := by have := hR.fit; obtain ⟨h1, h2, h3, h4⟩ := this; omega
    have hlen : 2 ≤ len ∧ len ≤ 9 := by have := hR.fit; obtain ⟨h1, h2, h3, h4⟩ := this; omega
    have C := rcheck_ok id a N len c sh f (w.alloc (gro len N a len c)) hr1 hR
    have HR : Hid (RightG len N len f) := hR
    clear hR hr
    go_enter Tryz.func56, Tryz.ntmps56
    go_wp2_with fail
    obtain ⟨W0, hW0⟩ : ∃ W0, w.alloc (gro len N a len c) = W0 := ⟨_, rfl⟩
    rw [hW0] at C B hz hr1
    refine Calls.mono (R := fun e w' => Below W0.heap.size W0 w' ∧ ((¬ (1 ≤ id ∧ id ≤ N) ∧ e = .returned (.tuple #[.bool false, .int .i64 5])) ∨ ((1 ≤ id ∧ id ≤ N) ∧ ¬ SC sh ∧ e = .returned (.tuple #[.bool false, .int .i64 2])) ∨ ((1 ≤ id ∧ id ≤ N) ∧ SC sh ∧ e = .returned (.tuple #[.bool (decide (M.pw 2147483579 4 sh = M.pub f len id.toNat)), .int .i64 0])))) (by rw [← hW0] at C ⊢; exact C) ?_
    rintro e w2 ⟨bel, ⟨h1, rfl⟩ | ⟨h1, h2, rfl⟩ | ⟨h1, h2, rfl⟩⟩
    · clear C hW0
      go_wp2_with fail
      go_ret2
      exact ⟨B.trans (bel.mono B.size), 5, .inr (.inl ⟨HR.out, h1, rfl⟩), .inl ⟨by omega, rfl⟩⟩
    · clear C hW0
      go_wp2_with fail
      go_ret2
      exact ⟨B.trans (bel.mono B.size), 2, .inr (.inr (.inl ⟨HR.out, h1, h2, rfl⟩)), .inl ⟨by omega, rfl⟩⟩
    · by_cases h3 : M.pw 2147483579 4 sh = M.pub f len id.toNat
      · have hd : decide (M.pw 2147483579 4 sh = M.pub f len id.toNat) = true := decide_eq_true h3
        have H3 : Hid (M.pw 2147483579 4 sh = M.pub f len id.toNat) := h3
        rw [hd]
        have hz2 := (bel.block w.heap.size (lt_of_block hz)).trans hz
        obtain ⟨z0, z1, z2, y0, y1, y2⟩ := three hz2
        have belA : Below w.heap.size w w2 := B.trans (bel.mono B.size)
        have rd2 := hr1.below bel
        have hlt2 := lt_of_block hz2
        have hlen0 : 0 < len := by omega
        have hlen6 : len ≤ 65536 := by omega
        have HI : Hid (1 ≤ id ∧ id ≤ N) := h1
        have HS : Hid (SC sh) := h2
        clear C hd h3 hr1 bel B hz hW0 h1 h2
        go_wp2_with (at_builtin; refine wpList_append_copy _ rfl _ (.tmp 23) rfl len c a f rfl rfl rd2 hlen0 hlen6 ?_; intro g c' w3 hg rd3 bel3; obtain ⟨z0', z1', z2', y0', y1', y2'⟩ := three ((bel3.block w.heap.size hlt2).trans hz2))
        have hgl : g < w3.heap.size := by
          obtain ⟨_, _, he, hlt, _⟩ := rd3.at hlen0
          simp only [Option.some.injEq, Addr.mk.injEq] at he
          omega
        have belB : Below w.heap.size w (w3.setCell ⟨w.heap.size, 2, none⟩ (.slice (some ⟨g, 0, none⟩) len c')) := (belA.trans (bel3.mono belA.size)).setCell (p := ⟨w.heap.size, 2, none⟩) (Nat.le_refl _) _
        have rdB := rd3.grown (grown_set w3 w.heap.size 2 (.slice (some ⟨g, 0, none⟩) len c')) (fun x hx => by simp only [Option.some.injEq] at hx; subst hx; show g ≠ w.heap.size; omega)
        have hsB : (w3.setCell ⟨w.heap.size, 2, none⟩ (.slice (some ⟨g, 0, none⟩) len c')).heap.size = w3.heap.size := by simp
        have hid : ((id.toNat : Nat) : Int) = id := Int.toNat_of_nonneg (by have := HI.out; omega)
        clear z0 z1 z2 y0 y1 y2 z0' z1' z2' y0' y1' y2'
        obtain ⟨W4, hW4⟩ : ∃ W4, w3.setCell ⟨w.heap.size, 2, none⟩ (.slice (some ⟨g, 0, none⟩) len c') = W4 := ⟨_, rfl⟩
        rw [hW4] at belB rdB hsB ⊢
        go_ret2
        refine ⟨belB.alloc belB.size _, 0, .inr (.inr (.inr (.inr ⟨HR.out, HI.out, HS.out, H3.out, rfl⟩))), .inr ⟨rfl, w3.heap.size, g, c', rfl, ?_, by omega, ?_, rdB.below (below_alloc _ _), World.ownsRow_nil _ _ _ _, ?_, by omega, ?_⟩⟩
        · rw [← hsB]; exact belB.size
        · rw [← hsB, hid]
          exact heap_alloc_new W4 _
        · simp [Value.ownBlock]
        · simp [Value.ownBlock]
      · have hd : decide (M.pw 2147483579 4 sh = M.pub f len id.toNat) = false := decide_eq_false h3
        rw [hd]
        have H3 : Hid (M.pw 2147483579 4 sh ≠ M.pub f len id.toNat) := h3
        clear C hd h3 hW0
        go_wp2_with fail
        go_ret2
        exact ⟨B.trans (bel.mono B.size), 8, .inr (.inr (.inr (.inl ⟨HR.out, h1, h2, H3.out, rfl⟩))), .inl ⟨by omega, rfl⟩⟩
  · have C := rcheck_group t n id a len c sh f (w.alloc (gro t n a len c)) hr1 hR
    have HR : Hid (¬ RightG t n len f) := hR
    clear hR hr
    go_enter Tryz.func56, Tryz.ntmps56
    go_wp2_with fail
    refine C.mono ?_
    rintro e w2 ⟨rfl, bel⟩
    clear C
    go_wp2_with fail
    go_ret2
    exact ⟨B.trans (bel.mono B.size), 4, .inl ⟨HR.out, rfl⟩, .inl ⟨by omega, rfl⟩⟩
end Go.Proofs.YteoioldbigomaaaGreat
namespace Go.Proofs.YteoioldbigomaaaGreat
open Go.RowKit

theorem Tryz.info179 : (Tryz.prog.info? 179).map (fun i => (i.zero, i.size, i.bytes)) = some (some (.agg #[.int .u64 0, .int .u64 0, .int .i64 0, .int .u64 0, .int .u64 0]), 5, 40) := by kernel_rfl

/-- The cells of the pairs in memory. -/
theorem RS.pairs {w : World} {p T N cb cc : Nat} {f : Nat → Nat} {id sh : Nat} {v : Value} {l : List (Nat × Nat)} (h : RS w p T N cb cc f id sh v l) : ∃ a cap, v = .slice a l.length cap ∧
    (0 < l.length → ∃ g, a = some ⟨g, 0, none⟩ ∧ g < w.heap.size ∧ ∀ i, (hi : i < l.length) → w.cell? ⟨g, i * 5, none⟩ = some (.int .u64 (l[i].1 : Nat)) ∧ w.cell? ⟨g, i * 5 + 1, none⟩ = some (.int .u64 (l[i].2 : Nat)) ∧ w.cell? ⟨g, i * 5 + 2, none⟩ = some (.int .i64 (id : Nat)) ∧
      w.cell? ⟨g, i * 5 + 3, none⟩ = some (.int .u64 (M.pw 2147483579 4 l[i].1 : Nat)) ∧ w.cell? ⟨g, i * 5 + 4, none⟩ = some (.int .u64 (M.pw 2147483579 4 l[i].2 : Nat))) := by
  rcases h.row.2 with ⟨hv, hl⟩ | ⟨g, cap, cur, hv, hB, hg, hn, hm, hs, ht⟩
  · exact ⟨none, 0, by rw [hv, hl], fun h0 => by omega⟩
  · refine ⟨some ⟨g, 0, none⟩, cap, hv, fun _ => ⟨g, rfl, lt_of_block hg, fun i hi => ?_⟩⟩
    have hrow := h.row
    rw [hv] at hrow
    obtain ⟨c0, c1, c2, c3, c4⟩ := pcs_at id l i hi
    have d0 := World.ownsRow.cells hrow (g := g) rfl _ _ c0
    have d1 := World.ownsRow.cells hrow (g := g) rfl _ _ c1
    have d2 := World.ownsRow.cells hrow (g := g) rfl _ _ c2
    have d3 := World.ownsRow.cells hrow (g := g) rfl _ _ c3
    have d4 := World.ownsRow.cells hrow (g := g) rfl _ _ c4
    rw [addr_add0] at d0 d1 d2 d3 d4
    exact ⟨d0, d1, d2, d3, d4⟩

/-- What is wrong with a pair of nonces (0: nothing). -/
def M.CmE (l : List (Nat × Nat)) (d e er : Nat) : Prop :=
  (¬ (d ≠ 0 ∧ e ≠ 0 ∧ SC d ∧ SC e) ∧ er = 2) ∨ ((d ≠ 0 ∧ e ≠ 0 ∧ SC d ∧ SC e) ∧ (d, e) ∈ l ∧ er = 15) ∨ ((d ≠ 0 ∧ e ≠ 0 ∧ SC d ∧ SC e) ∧ (d, e) ∉ l ∧ l.length = 6 ∧ er = 9) ∨
  ((d ≠ 0 ∧ e ≠ 0 ∧ SC d ∧ SC e) ∧ (d, e) ∉ l ∧ l.length ≠ 6 ∧ er = 0)
theorem M.CmE.one {l : List (Nat × Nat)} {d e e1 e2 : Nat} (h : M.CmE l d e e1) (h' : M.CmE l d e e2) : e1 = e2 := by
  rcases h with ⟨a, z⟩ | ⟨a, b, z⟩ | ⟨a, b, c, z⟩ | ⟨a, b, c, z⟩ <;> rcases h' with ⟨a', z'⟩ | ⟨a', b', z'⟩ | ⟨a', b', c', z'⟩ | ⟨a', b', c', z'⟩ <;>
    first | (rw [z, z']; done) | exact absurd a a' | exact absurd a' a | exact absurd b b' | exact absurd b' b | exact absurd c c' | exact absurd c' c

def RcmPost (p T N cb cc : Nat) (f : Nat → Nat) (id sh : Nat) (v : Value) (l : List (Nat × Nat)) (d e : Nat) (w : World) (ex : Ending) (w' : World) : Prop :=
  ∃ er : Nat, M.CmE l d e er ∧ ((er ≠ 0 ∧ Below w.heap.size w w' ∧ ex = .returned (.tuple #[.agg #[.int .i64 0, .int .u64 0, .int .u64 0], .int .i64 er])) ∨
    (er = 0 ∧ ex = .returned (.tuple #[.agg #[.int .i64 id, .int .u64 (M.pw 2147483579 4 d : Nat), .int .u64 (M.pw 2147483579 4 e : Nat)], .int .i64 0]) ∧
      ∃ v', RS w' p T N cb cc f id sh v' (l ++ [(d, e)]) ∧ Chg (fun k => k = p ∨ v.ownBlock = some k) w w' ∧ (∀ k, v'.ownBlock = some k → v.ownBlock = some k ∨ w.heap.size ≤ k)))

set_option maxHeartbeats 400000 in
theorem rcm_scalar (p T N cb cc : Nat) (f : Nat → Nat) (id sh : Nat) (v : Value) (l : List (Nat × Nat)) (d e : Nat) (w : World) (h : ¬ (d ≠ 0 ∧ e ≠ 0 ∧ SC d ∧ SC e)) :
    Calls Tryz.prog 59 #[.pointer (some ⟨p, 0, none⟩), .int .u64 d, .int .u64 e] w (RcmPost p T N cb cc f id sh v l d e w) := by
  have H : Hid (¬ (d ≠ 0 ∧ e ≠ 0 ∧ SC d ∧ SC e)) := h
  clear h
  have fin : ∀ w' ex, Below w.heap.size w w' → ex = .returned (.tuple #[.agg #[.int .i64 0, .int .u64 0, .int .u64 0], .int .i64 2]) → RcmPost p T N cb cc f id sh v l d e w ex w' := fun w' ex hb he => ⟨2, .inl ⟨H.out, rfl⟩, .inl ⟨by omega, hb, he⟩⟩
  by_cases h1 : d = 0
  · subst h1
    go_enter Tryz.func59, Tryz.ntmps59
    go_wp2_with fail
    exact bodyPost_ret (v := .tuple #[.agg #[.int .i64 0, .int .u64 0, .int .u64 0], .int .i64 2]) (by simp [results, Tryz.results59, go_sem]) rfl (fin _ _ (below_alloc _ _) rfl)
  · have e1 : ((d : Int) == 0) = false := by simp; omega
    by_cases h2 : e = 0
    · subst h2
      go_enter Tryz.func59, Tryz.ntmps59
      go_wp2_with fail
      exact bodyPost_ret (v := .tuple #[.agg #[.int .i64 0, .int .u64 0, .int .u64 0], .int .i64 2]) (by simp [results, Tryz.results59, go_sem]) rfl (fin _ _ (below_alloc _ _) rfl)
    · have e2 : ((e : Int) == 0) = false := by simp; omega
      by_cases h3 : SC d
      · have d3 : decide ((1073741789 : Int) ≤ d) = false := decide_eq_false (by have := h3.out; omega)
        have d4 : decide ((1073741789 : Int) ≤ e) = true := decide_eq_true (by
          have : ¬ e < 1073741789 := fun hz => H.out ⟨h1, h2, h3, ⟨hz⟩⟩
          omega)
        clear h1 h2
        go_enter Tryz.func59, Tryz.ntmps59
        go_wp2_with fail
        exact bodyPost_ret (v := .tuple #[.agg #[.int .i64 0, .int .u64 0, .int .u64 0], .int .i64 2]) (by simp [results, Tryz.results59, go_sem]) rfl (fin _ _ (below_alloc _ _) rfl)
      · have d3 : decide ((1073741789 : Int) ≤ d) = true := decide_eq_true (by
          have : ¬ d < 1073741789 := fun hz => h3 ⟨hz⟩
          omega)
        clear h1 h2
        go_enter Tryz.func59, Tryz.ntmps59
        go_wp2_with fail
        exact bodyPost_ret (v := .tuple #[.agg #[.int .i64 0, .int .u64 0, .int .u64 0], .int .i64 2]) (by simp [results, Tryz.results59, go_sem]) rfl (fin _ _ (below_alloc _ _) rfl)
end Go.Proofs.YteoioldbigomaaaGreat
