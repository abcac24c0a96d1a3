import Derived.Test.YteoioldbigomaaaGreatNpk
namespace Go.Proofs.YteoioldbigomaaaGreat
open Go.RowKit

/-- The numbers that a factor's hash is of. -/
def M.bl (i key : Nat) (J D E : Nat → Nat) : Nat → List Nat
  | 0 => [i, key]
  | k + 1 => M.bl i key J D E k ++ [J k, D k, E k]
theorem M.bl_len (i key : Nat) (J D E : Nat → Nat) (k : Nat) : (M.bl i key J D E k).length = 2 + 3 * k := by
  induction k with
  | zero => rfl
  | succ k ih => rw [M.bl, List.length_append, ih]; simp; omega
/-- The factor of signer i. -/
def M.bind (i key : Nat) (J D E : Nat → Nat) (n : Nat) (s : ByteArray) : Nat := M.hash 1 (fun j => (M.bl i key J D E n).getD j 0) (2 + 3 * n) s
theorem M.bind_sc (i key : Nat) (J D E : Nat → Nat) (n : Nat) (s : ByteArray) : SC (M.bind i key J D E n s) := M.hash_sc _ _ _ _

/-- A []uint64 of the call's own that holds the list l. -/
def GrowU (w : World) (B : Nat) (v : Value) (l : List Nat) : Prop := w.ownsRow B 26 1 v l.length (l.map fun x => .int .u64 ((x : Nat) : Int))
theorem GrowU.below {w w' : World} {B : Nat} {v : Value} {l : List Nat} (h : GrowU w B v l) (hb : Below w.heap.size w w') : GrowU w' B v l := ownsRow_below h hb
theorem GrowU.rd {w : World} {B : Nat} {v : Value} {l : List Nat} (h : GrowU w B v l) : ∃ a cap, v = .slice a l.length cap ∧ RdF w a l.length (cu l) := by
  rcases h.2 with ⟨hv, hl⟩ | ⟨g, cap, cur, hv, hB, hg, hn, hm, hs, ht⟩
  · exact ⟨none, 0, by rw [hv, hl], .inl hl⟩
  · subst hv
    refine ⟨_, cap, rfl, .inr ⟨g, 0, rfl, lt_of_block hg, fun i hi => ?_⟩⟩
    rw [Nat.zero_add]
    have := World.ownsRow.cells h (g := g) rfl i (.int .u64 ((l[i] : Nat) : Int)) (by simp [hi])
    rw [addr_add0] at this
    rw [this]
    simp [cu, hi]
theorem cu_getD (l : List Nat) (n : Nat) (_h : n = l.length) : ∀ i, i < n → cu l i = cu (M.sq (fun j => l.getD j 0) n) i := fun i hi => by rw [M.cu_sq _ _ _ hi]; rfl

theorem wpList_appendU3 (w : World) {ops : Array Oper} {rest : List Oper} {o : Oper} {a : Act} {Q : Exit → Act → World → Prop}
    (hg : o.guard = none) (s x : Operand) (hop : o.op = Op.call { callee := Callee.builtin Builtin.append, args := #[s, x], argTypes := #[22, 22] })
    (B : Nat) (v : Value) (l : List Nat) (u0 u1 u2 : Nat) (hs : a.eval s = v) (hgrow : GrowU w B v l) (b : Nat) (hx : a.eval x = .slice (some ⟨b, 0, none⟩) 3 3)
    (h0 : w.cell? ⟨b, 0, none⟩ = some (.int .u64 (u0 : Int))) (h1 : w.cell? ⟨b, 1, none⟩ = some (.int .u64 (u1 : Int))) (h2 : w.cell? ⟨b, 2, none⟩ = some (.int .u64 (u2 : Int))) (hk : l.length ≤ 65536) (hB : B ≤ w.heap.size)
    (hK : ∀ v' w', GrowU w' B v' (l ++ [u0, u1, u2]) → Below B w w' → wpList Tryz.prog ops Q rest (a.put o.dst v') w') :
    wpList Tryz.prog ops Q (o :: rest) a w := by
  obtain ⟨i0, hi, hz0, hz1, hz2⟩ := info_parts Tryz.info26
  refine wpList_append_own w hg s x 22 hop B 26 i0 (.int .u64 0) 1 8 Tryz.underlying22 hi hz0 hz1 hz2 rfl (by decide) v l.length _ hs hgrow ⟨b, 0, none⟩ 3 3 [.int .u64 (u0 : Int), .int .u64 (u1 : Int), .int .u64 (u2 : Int)] hx rfl ?_ ?_
    (by unfold maxLen; omega) (by omega) hB ?_
  · intro j u hj
    match j, hj with
    | 0, hj => simp at hj; subst hj; rw [addr_add0]; exact h0
    | 1, hj => simp at hj; subst hj; rw [addr_add0]; exact h1
    | 2, hj => simp at hj; subst hj; rw [addr_add0]; exact h2
  · intro u hu
    simp at hu
    rcases hu with rfl | rfl | rfl <;> rfl
  · intro v' w' r1 r2 _
    refine hK v' w' ?_ ((Below.refl _ _).grown r2 hB fun j hj => (World.ownsRow.lt hgrow j hj).1)
    unfold GrowU
    rw [List.map_append, List.length_append]
    exact r1

/-- A package that may be reckoned with: what it takes of memory, and that its numbers are in order. -/
structure PKR (w : World) (B p T N : Nat) (ga : Option Addr) (gc : Nat) (s : ByteArray) (a : Option Addr) (n c : Nat) (J D E f : Nat → Nat) : Prop where
  pk : PK w B p T N (.slice ga T gc) s (.slice a n c) n (fun i => (J i : Nat))
  rl : RdC w a n (fun i => (J i : Nat)) D E
  rg : RdF w ga T (cu (M.sq f T))
  n9 : n ≤ 9
  t1 : 1 ≤ T
  j9 : ∀ j, j < n → J j ≤ 9
  sz : s.size ≤ 65536
theorem PKR.below {w w' : World} {B p T N : Nat} {ga : Option Addr} {gc : Nat} {s : ByteArray} {a : Option Addr} {n c : Nat} {J D E f : Nat → Nat} (h : PKR w B p T N ga gc s a n c J D E f) (hb : Below w.heap.size w w') : PKR w' B p T N ga gc s a n c J D E f := by
  obtain ⟨h0, v, h1, h2⟩ := h.pk
  exact ⟨⟨h0, v, (hb.block p (lt_of_block h1)).trans h1, h2.below hb⟩, h.rl.below hb, h.rg.below hb, h.n9, h.t1, h.j9, h.sz⟩

/-- A world over W in which four cells stand. -/
def On4 (W : World) (a0 a1 a2 a3 : Addr) (x0 x1 x2 x3 : Value) (w' : World) : Prop := w'.cell? a0 = some x0 ∧ w'.cell? a1 = some x1 ∧ w'.cell? a2 = some x2 ∧ w'.cell? a3 = some x3 ∧ Below W.heap.size W w'
theorem On4.below {W : World} {a0 a1 a2 a3 : Addr} {x0 x1 x2 x3 : Value} {w w' : World} (h : On4 W a0 a1 a2 a3 x0 x1 x2 x3 w) (b : Below w.heap.size w w') : On4 W a0 a1 a2 a3 x0 x1 x2 x3 w' :=
  ⟨keep_cell h.1 b, keep_cell h.2.1 b, keep_cell h.2.2.1 b, keep_cell h.2.2.2.1 b, h.2.2.2.2.trans (b.mono h.2.2.2.2.size)⟩
theorem On4.allocd {W : World} {a0 a1 a2 a3 : Addr} {x0 x1 x2 x3 : Value} {w : World} {o : Obj} (h : On4 W a0 a1 a2 a3 x0 x1 x2 x3 w.drew) : On4 W a0 a1 a2 a3 x0 x1 x2 x3 (w.alloc o).drew :=
  h.below (w' := (w.alloc o).drew) ⟨rfl, rfl, rfl, (below_alloc w o).size, (below_alloc w o).block⟩

set_option maxHeartbeats 2000000 in
set_option maxRecDepth 100000 in
theorem bind_any (B p T N : Nat) (ga : Option Addr) (gc : Nat) (s : ByteArray) (a : Option Addr) (n c : Nat) (J D E f : Nat → Nat) (k : Nat) (w : World) (hp : PKR w B p T N ga gc s a n c J D E f) (hk : k < n) :
    Calls Tryz.prog 54 #[.pointer (some ⟨p, 0, none⟩), .int .i64 k] w fun e w' => e = .returned (.int .u64 (M.bind (J k) (f 0) J D E n s : Nat)) ∧ Below w.heap.size w w' := by
  have hn9 := hp.n9
  have HP : Hid (PKR w B p T N ga gc s a n c J D E f) := hp
  obtain ⟨_, v, zp, _⟩ := hp.pk
  obtain ⟨z0, z1, z2, z3, z4, z5⟩ := six zp
  obtain ⟨b, o, rfl, hb, hc⟩ := hp.rl.at (by omega)
  obtain ⟨gb, go, rfl, hgb, hgc⟩ := hp.rg.at hp.t1
  have c0 := (hc k hk).1
  obtain ⟨x, hx⟩ : ∃ x, x = J k := ⟨_, rfl⟩
  obtain ⟨y, hy⟩ : ∃ y, y = f 0 := ⟨_, rfl⟩
  have c1 : w.cell? ⟨gb, go, none⟩ = some (.int .u64 (y : Int)) := by have := hgc 0 hp.t1; rw [M.cu_sq _ _ _ hp.t1, ← hy] at this; exact this
  simp only [← hx] at c0
  rw [← hx, ← hy]
  have hx9 : x ≤ 9 := by rw [hx]; exact hp.j9 k hk
  have hwx : IntKind.u64.wrap (x : Int) = x := by rw [IntKind.wrap_u64]; omega
  have hki : (k : Int) < n := by omega
  have hT : (0 : Int) < T := by have := hp.t1; omega
  have hTn : 0 < T := hp.t1
  have S0 : On4 w ⟨p, 4, none⟩ ⟨p, 2, none⟩ ⟨b, o + k * 3, none⟩ ⟨gb, go, none⟩ (.slice (some ⟨b, o, none⟩) n c) (.slice (some ⟨gb, go, none⟩) T gc) (.int .i64 (x : Int)) (.int .u64 (y : Int)) w.drew := ⟨z4, z2, c0, c1, (Below.refl _ _).drew⟩
  clear hp zp hc hgc c0 c1 z0 z1 z2 z3 z4 z5 hx hy
  go_enter Tryz.func54, Tryz.ntmps54
  go_wp2_with fail
  go_region_held (fun w' => w'.cell? ⟨p, 4, none⟩ = some (.slice (some ⟨b, o, none⟩) n c) ∧ w'.cell? ⟨p, 2, none⟩ = some (.slice (some ⟨gb, go, none⟩) T gc) ∧ w'.cell? ⟨b, o + k * 3, none⟩ = some (.int .i64 (x : Int)) ∧ w'.cell? ⟨gb, go, none⟩ = some (.int .u64 (y : Int)) ∧ Below w.heap.size w w')
    (first | assumption | exact S0 | exact On4.allocd (by assumption)) (fail)
  all_goals
    have G0 : GrowU (w.alloc (.cells #[.int .u64 (x : Int), .int .u64 (y : Int)] 26)).drew w.heap.size (.slice (some ⟨w.heap.size, 0, none⟩) 2 2) [x, y] :=
      World.ownsRow.drew (World.ownsRow_lit w #[.int .u64 (x : Int), .int .u64 (y : Int)] 2 (Nat.le_refl _) (by unfold maxLen; omega) rfl)
    have B1 : Below w.heap.size w (w.alloc (.cells #[.int .u64 (x : Int), .int .u64 (y : Int)] 26)).drew := (below_alloc _ _).drew
    obtain ⟨W1, hW1⟩ : ∃ W1, (w.alloc (.cells #[.int .u64 (x : Int), .int .u64 (y : Int)] 26)).drew = W1 := ⟨_, rfl⟩
    rw [hW1] at G0 B1 ⊢
    obtain ⟨_, v1, q1, _⟩ := (HP.out.below B1).pk
    obtain ⟨_, _, _, m3, m4, _⟩ := six q1
    clear hW1 q1 S0
    go_wp2_with fail
    clear m3 m4
    go_loopw [5, 30] (fun v i wr => ∃ j : Nat, j ≤ n ∧ i = .int .i64 j ∧ Below w.heap.size w wr ∧ GrowU wr w.heap.size v (M.bl x y J D E j)) (fun _ i _ => n - (intOf i).toNat)
    case atStart => exact ⟨0, Nat.zero_le _, rfl, B1, G0⟩
    case round =>
      clear G0 B1
      obtain ⟨j, hj, rfl, bel, G⟩ := hrel
      obtain ⟨av, cv, rfl, rdv⟩ := G.rd
      have hbl := M.bl_len x y J D E j
      by_cases hlt : j < n
      · obtain ⟨_, _, he, hb', hc⟩ := HP.out.rl.at (by omega)
        simp only [Option.some.injEq, Addr.mk.injEq, and_true] at he
        obtain ⟨rfl, rfl⟩ := he
        obtain ⟨q0, q1, q2⟩ := hc j hlt
        obtain ⟨x0, hx0⟩ : ∃ x0, x0 = J j := ⟨_, rfl⟩
        obtain ⟨d, hd⟩ : ∃ d, d = D j := ⟨_, rfl⟩
        obtain ⟨e, he⟩ : ∃ e, e = E j := ⟨_, rfl⟩
        simp only [← hx0] at q0
        rw [← hd] at q1
        rw [← he] at q2
        have c0 := (bel.cell (p := ⟨b, o + j * 3, none⟩) hb).trans q0
        have c1 := (bel.cell (p := ⟨b, o + j * 3 + 1, none⟩) hb).trans q1
        have c2 := (bel.cell (p := ⟨b, o + j * 3 + 2, none⟩) hb).trans q2
        have h9 : x0 ≤ 9 := by rw [hx0]; exact HP.out.j9 j hlt
        have hw0 : IntKind.u64.wrap (x0 : Int) = x0 := by rw [IntKind.wrap_u64]; omega
        have HB : Hid (M.bl x y J D E (j + 1) = M.bl x y J D E j ++ [x0, d, e]) := by rw [hx0, hd, he]; rfl
        have hji : (j : Int) < n := by omega
        have hl6 : (M.bl x y J D E j).length ≤ 65536 := by omega
        obtain ⟨L, hL⟩ : ∃ L, L = M.bl x y J D E j := ⟨_, rfl⟩
        rw [← hL] at G hl6 HB ⊢
        clear hx0 hd he q0 q1 q2 hc hL rdv hbl hb'
        go_wp2_with (at_builtin; refine wpList_appendU3 _ rfl (.tmp 34) (.tmp 42) rfl w.heap.size _ L x0 d e rfl (G.below ((below_alloc _ _).alloc (below_alloc _ _).size _)) _ rfl (by simp) (by simp) (by simp) hl6 (by simp; have := bel.size; omega) ?_; intro v' w' G' bel')
        obtain ⟨av', cv', rfl, _⟩ := G'.rd
        go_wp2_with fail
        go_roundw
        case rel =>
          refine ⟨j + 1, by omega, by go_num, ((bel.alloc bel.size _).alloc (Nat.le_trans bel.size (below_alloc _ _).size) _).trans bel', ?_⟩
          rw [HB.out]; exact G'
        case measure => simp [intOf]; omega
      · have hjn : n = j := by omega
        subst hjn
        obtain ⟨_, v2, q2, _⟩ := (HP.out.below bel).pk
        obtain ⟨_, _, _, m3, _, _⟩ := six q2
        have HL : Hid ((M.bl x y J D E n).length = 2 + 3 * n) := hbl
        have C := hash_any 1 av cv (2 + 3 * n) (fun j => (M.bl x y J D E n).getD j 0) s wr (by omega) (by omega) HP.out.sz (by rw [hbl] at rdv; exact rdv.congr (cu_getD _ _ hbl.symm))
        rw [hbl]
        clear q2 hbl rdv
        go_wp2_with (go_at_call 53; refine C.mono ?_; rintro ex w3 ⟨rfl, bel3⟩)
        go_ret
        exact ⟨rfl, bel.trans (bel3.mono bel.size)⟩
end Go.Proofs.YteoioldbigomaaaGreat
namespace Go.Proofs.YteoioldbigomaaaGreat
open Go.RowKit

/-- The k-th part; the commitment of all. -/
def M.prt (J D E f : Nat → Nat) (n : Nat) (s : ByteArray) (k : Nat) : Nat := D k * M.pw 2147483579 (E k) (M.bind (J k) (f 0) J D E n s) % 2147483579
def M.allR (J D E f : Nat → Nat) (n : Nat) (s : ByteArray) : Nat := M.prodP (M.sq (M.prt J D E f n s) n)
theorem M.prt_el (J D E f : Nat → Nat) (n : Nat) (s : ByteArray) (k : Nat) : EL (M.prt J D E f n s k) := EL.mod _

set_option maxHeartbeats 2000000 in
set_option maxRecDepth 100000 in
theorem part_any (B p T N : Nat) (ga : Option Addr) (gc : Nat) (s : ByteArray) (a : Option Addr) (n c : Nat) (J D E f : Nat → Nat) (k : Nat) (w : World) (hp : PKR w B p T N ga gc s a n c J D E f) (hk : k < n) (hd : EL (D k)) (he : EL (E k)) :
    Calls Tryz.prog 31 #[.pointer (some ⟨p, 0, none⟩), .int .i64 k] w fun e w' => e = .returned (.int .u64 (M.prt J D E f n s k : Nat)) ∧ Below w.heap.size w w' := by
  have hn9 := hp.n9
  obtain ⟨_, v, zp, _⟩ := hp.pk
  obtain ⟨z0, z1, z2, z3, z4, z5⟩ := six zp
  have CB := fun w' (h : PKR w' B p T N ga gc s a n c J D E f) => bind_any B p T N ga gc s a n c J D E f k w' h hk
  have HP : Hid (PKR w B p T N ga gc s a n c J D E f) := hp
  obtain ⟨b, o, rfl, hb, hc⟩ := hp.rl.at (by omega)
  obtain ⟨_, q1, q2⟩ := hc k hk
  have HPT : Hid (M.prt J D E f n s k = D k * M.pw 2147483579 (E k) (M.bind (J k) (f 0) J D E n s) % 2147483579) := rfl
  have hbs := M.bind_sc (J k) (f 0) J D E n s
  obtain ⟨x, hx⟩ : ∃ x, x = D k := ⟨_, rfl⟩
  obtain ⟨y, hy⟩ : ∃ y, y = E k := ⟨_, rfl⟩
  obtain ⟨u, hu⟩ : ∃ u, u = M.bind (J k) (f 0) J D E n s := ⟨_, rfl⟩
  rw [← hx] at q1 hd
  rw [← hy] at q2 he
  rw [← hu] at hbs
  simp only [← hu] at CB
  have CP := fun w' => rpower_any u y u 2147483579 w' (Nat.le_refl _) (Nat.le_of_lt hbs.out) he.out (by omega) (by omega)
  obtain ⟨z, hz⟩ : ∃ z, z = M.pw 2147483579 y u := ⟨_, rfl⟩
  have hez : EL z := by rw [hz]; exact EL.pw _ _
  simp only [← hz] at CP
  have bz := mul_bd (Nat.le_of_lt hd.out) (Nat.le_of_lt hez.out)
  have hr1 : IntKind.u64.wrap ((x : Int) * z) = (x : Int) * z := by rw [IntKind.wrap_u64]; omega
  have hr3 : ((x : Int) * z).tmod 2147483579 = (x : Int) * z % 2147483579 := Int.tmod_eq_emod_of_nonneg bz.1
  have HR : Hid (M.prt J D E f n s k = x * z % 2147483579) := by rw [HPT.out, ← hx, ← hy, ← hu, ← hz]; exact rfl
  have hki : (k : Int) < n := by omega
  have T0 : On4 w ⟨p, 4, none⟩ ⟨p, 4, none⟩ ⟨b, o + k * 3 + 1, none⟩ ⟨b, o + k * 3 + 2, none⟩ (.slice (some ⟨b, o, none⟩) n c) (.slice (some ⟨b, o, none⟩) n c) (.int .u64 (x : Int)) (.int .u64 (y : Int)) w.drew := ⟨z4, z4, q1, q2, (Below.refl _ _).drew⟩
  have CB2 : ∀ w', Below w.heap.size w w' → Calls Tryz.prog 54 #[.pointer (some ⟨p, 0, none⟩), .int .i64 (k : Int)] w' fun e w2 => e = .returned (.int .u64 (u : Nat)) ∧ Below w'.heap.size w' w2 := fun w' h => CB w' (HP.out.below h)
  clear hp zp hc q1 q2 z0 z1 z2 z3 z4 z5 hx hy hu hz CB HPT bz
  go_enter Tryz.func31, Tryz.ntmps31
  go_wp2_with fail
  go_region_held (fun w' => w'.cell? ⟨p, 4, none⟩ = some (.slice (some ⟨b, o, none⟩) n c) ∧ w'.cell? ⟨p, 4, none⟩ = some (.slice (some ⟨b, o, none⟩) n c) ∧ w'.cell? ⟨b, o + k * 3 + 1, none⟩ = some (.int .u64 (x : Int)) ∧ w'.cell? ⟨b, o + k * 3 + 2, none⟩ = some (.int .u64 (y : Int)) ∧ Below w.heap.size w w')
    (first | assumption | exact T0 | exact On4.below (by assumption) (by assumption)) (first | (go_at_call 54; refine (CB2 _ (Below.refl _ _).drew).mono ?_; rintro ex w3 ⟨rfl, bel3⟩) | (go_at_call 27; refine (CP _).mono ?_; rintro ex w4 ⟨rfl, hw⟩; subst hw))
  all_goals
    go_wp2_with fail
    go_ret
    refine ⟨ret_int ?_, (Below.refl _ _).drew.trans bel3⟩
    rw [HR.out]
    simp

set_option maxHeartbeats 2000000 in
set_option maxRecDepth 100000 in
theorem all_any (B p T N : Nat) (ga : Option Addr) (gc : Nat) (s : ByteArray) (a : Option Addr) (n c : Nat) (J D E f : Nat → Nat) (w : World) (hp : PKR w B p T N ga gc s a n c J D E f) (hd : ∀ k, k < n → EL (D k) ∧ EL (E k)) :
    Calls Tryz.prog 25 #[.pointer (some ⟨p, 0, none⟩)] w fun e w' => e = .returned (.int .u64 (M.allR J D E f n s : Nat)) ∧ Below w.heap.size w w' := by
  have hn9 := hp.n9
  obtain ⟨_, v, zp, _⟩ := hp.pk
  obtain ⟨z0, z1, z2, z3, z4, z5⟩ := six zp
  have HP : Hid (PKR w B p T N ga gc s a n c J D E f) := hp
  have HD : Hid (∀ k, k < n → EL (D k) ∧ EL (E k)) := hd
  clear hp zp hd
  go_enter Tryz.func25, Tryz.ntmps25
  go_wp2_with fail
  clear z0 z1 z2 z3 z4 z5
  go_loopw [3, 10] (fun t i wr => ∃ k S : Nat, k ≤ n ∧ i = .int .i64 k ∧ t = .int .u64 S ∧ EL S ∧ Below w.heap.size w wr ∧ Hid (S = M.prodP ((M.sq (M.prt J D E f n s) n).take k))) (fun _ i _ => n - (intOf i).toNat)
  case atStart => exact ⟨0, 1, Nat.zero_le _, rfl, rfl, ⟨by omega⟩, Below.refl _ _, rfl⟩
  case round =>
    obtain ⟨k, S, hk, rfl, rfl, hS, bel, HS⟩ := hrel
    by_cases hlt : k < n
    · have C := part_any B p T N ga gc s a n c J D E f k wr (HP.out.below bel) hlt (HD.out k hlt).1 (HD.out k hlt).2
      have hez := M.prt_el J D E f n s k
      obtain ⟨z, hz⟩ : ∃ z, z = M.prt J D E f n s k := ⟨_, rfl⟩
      rw [← hz] at C hez
      have HZ : Hid (z = M.prt J D E f n s k) := hz
      have bz := mul_bd (Nat.le_of_lt hS.out) (Nat.le_of_lt hez.out)
      clear hz
      go_wp2_with (go_at_call 31; refine C.mono ?_; rintro ex w3 ⟨rfl, bel3⟩)
      go_roundw
      case rel =>
        refine ⟨k + 1, S * z % 2147483579, by omega, by go_num, by go_num, EL.mod _, bel.trans (bel3.mono bel.size), ?_⟩
        rw [M.sq_take_succ _ _ _ hlt, M.prodP_snoc, ← HS.out, ← HZ.out]; rfl
      case measure => simp [intOf]; omega
    · go_wp2_with fail
      go_ret
      exact ⟨ret_int (by rw [HS.out, List.take_of_length_le (by rw [M.sq_len]; omega)]; rfl), bel⟩
end Go.Proofs.YteoioldbigomaaaGreat
