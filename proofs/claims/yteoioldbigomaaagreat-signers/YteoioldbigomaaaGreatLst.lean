import Derived.Test.YteoioldbigomaaaGreatRsig
namespace Go.Proofs.YteoioldbigomaaaGreat
open Go.RowKit

/-- Which of n things the number c speaks of. -/
def M.pick (c : Int) (n : Nat) : Nat := ((if c < 0 then -(c + 1) else c) % (n : Int)).toNat
theorem M.pick_lt (c : Int) (n : Nat) (h : 0 < n) : M.pick c n < n := by
  unfold M.pick
  have := Int.emod_lt_of_pos (if c < 0 then -(c + 1) else c) (show (0 : Int) < n by omega)
  have := Int.emod_nonneg (if c < 0 then -(c + 1) else c) (show (n : Int) ≠ 0 by omega)
  omega

set_option maxHeartbeats 400000 in
theorem pick_any (c : Int) (n : Nat) (w : World) (hn : 0 < n) (hn2 : n ≤ 1048576) (h1 : -9223372036854775808 ≤ c) (h2 : c ≤ 9223372036854775807) :
    Calls Tryz.prog 57 #[.int .i64 c, .int .i64 n] w fun e w' => e = .returned (.int .i64 (M.pick c n : Nat)) ∧ w' = w := by
  have hn0 : ¬ (n : Int) = 0 := by omega
  by_cases h : c < 0
  · have e2 : (-(c + 1)).tmod n = ((M.pick c n : Nat) : Int) := by
      unfold M.pick
      rw [if_pos h, Int.tmod_eq_emod_of_nonneg (by omega)]
      have := Int.emod_nonneg (-(c + 1)) hn0
      omega
    obtain ⟨r, hr⟩ : ∃ r, r = M.pick c n := ⟨_, rfl⟩
    rw [← hr] at e2 ⊢
    clear hr
    go_enter Tryz.func57, Tryz.ntmps57
    go_wp2_with fail
    go_ret
    exact ⟨rfl, rfl⟩
  · have e2 : c.tmod n = ((M.pick c n : Nat) : Int) := by
      unfold M.pick
      rw [if_neg h, Int.tmod_eq_emod_of_nonneg (by omega)]
      have := Int.emod_nonneg c hn0
      omega
    obtain ⟨r, hr⟩ : ∃ r, r = M.pick c n := ⟨_, rfl⟩
    rw [← hr] at e2 ⊢
    clear hr
    go_enter Tryz.func57, Tryz.ntmps57
    go_wp2_with fail
    go_ret
    exact ⟨rfl, rfl⟩

theorem cl_get {I : Nat → Int} {D E : Nat → Nat} : ∀ {n j : Nat} {u : Value}, (cl I D E n)[j]? = some u → ∃ i r, i < n ∧ r < 3 ∧ j = i * 3 + r ∧ u = (if r = 0 then .int .i64 (I i) else if r = 1 then .int .u64 (D i : Nat) else .int .u64 (E i : Nat)) := by
  intro n
  induction n with
  | zero => intro j u h; simp [cl] at h
  | succ n ih =>
    intro j u h
    have hl := cl_len I D E n
    rw [cl] at h
    by_cases hj : j < n * 3
    · rw [List.getElem?_append_left (by omega)] at h
      obtain ⟨i, r, h1, h2⟩ := ih h
      exact ⟨i, r, by omega, h2⟩
    · rw [List.getElem?_append_right (by omega), hl] at h
      have hj3 : j - n * 3 < 3 := by
        have := (List.getElem?_eq_some_iff.1 h).1
        simpa using this
      refine ⟨n, j - n * 3, by omega, hj3, by omega, ?_⟩
      obtain ⟨r, hr⟩ : ∃ r, r = j - n * 3 := ⟨_, rfl⟩
      rw [← hr] at h hj3 ⊢
      match r, hj3 with
      | 0, _ => simp at h; simp [← h]
      | 1, _ => simp at h; simp [← h]
      | 2, _ => simp at h; simp [← h]
theorem cl_one {I : Nat → Int} {D E : Nat → Nat} {n : Nat} : ∀ u ∈ cl I D E n, u.oneCell' = true := by
  intro u hu
  obtain ⟨j, hj⟩ := List.getElem?_of_mem hu
  obtain ⟨i, r, _, hr, _, rfl⟩ := cl_get hj
  match r, hr with
  | 0, _ => rfl
  | 1, _ => rfl
  | 2, _ => rfl

/-- 'append([]api.Commit(nil), x...)', x whatever list of commitments. -/
theorem wpList_append_copyC (w : World) {ops : Array Oper} {rest : List Oper} {o : Oper} {a : Act} {Q : Exit → Act → World → Prop}
    (hg : o.guard = none) (s x : Operand) (hop : o.op = Op.call { callee := Callee.builtin Builtin.append, args := #[s, x], argTypes := #[25, 25] })
    (n c : Nat) (ad : Option Addr) (I : Nat → Int) (D E : Nat → Nat) (hs : a.eval s = .slice none 0 0) (hx : a.eval x = .slice ad n c) (hz : ad = none → n = 0 ∧ c = 0) (hr : RdC w ad n I D E) (hn : n ≤ 65536)
    (hK : ∀ v' w', GrowC w' w.heap.size v' n I D E → Below w.heap.size w w' → wpList Tryz.prog ops Q rest (a.put o.dst v') w') :
    wpList Tryz.prog ops Q (o :: rest) a w := by
  obtain ⟨i0, hi, hz0, hz1, hz2⟩ := info_parts Tryz.info98
  cases ad with
  | none =>
    obtain ⟨rfl, rfl⟩ := hz rfl
    exact wpList_append_own_none hg s x 25 hop w.heap.size 98 i0 3 Tryz.underlying25 hi (.slice none 0 0) 0 [] hs (World.ownsRow_nil _ _ _ _) hx (hK _ w (World.ownsRow_nil _ _ _ _) (Below.refl _ _))
  | some y =>
    refine wpList_append_own w hg s x 25 hop w.heap.size 98 i0 (.agg #[.int .i64 0, .int .u64 0, .int .u64 0]) 3 24 Tryz.underlying25 hi hz0 hz1 hz2 rfl (by decide) (.slice none 0 0) 0 [] hs (World.ownsRow_nil _ _ _ _) y n c (cl I D E n) hx (cl_len I D E n) ?_
      cl_one (by unfold maxLen; omega) (by omega) (Nat.le_refl _) ?_
    · intro j u hj
      obtain ⟨i, r, hin, hr3, rfl, rfl⟩ := cl_get hj
      obtain ⟨b, off, e, _, hc⟩ := hr.at (by omega)
      simp only [Option.some.injEq] at e
      subst e
      obtain ⟨c0, c1, c2⟩ := hc i hin
      rw [addr_add]
      match r, hr3 with
      | 0, _ => exact c0
      | 1, _ => rw [← Nat.add_assoc]; exact c1
      | 2, _ => rw [← Nat.add_assoc]; exact c2
    · intro v' w' r1 r2 _
      refine hK v' w' ?_ ((Below.refl _ _).grown r2 (Nat.le_refl _) (fun k hk => by simp [Value.ownBlock] at hk))
      unfold GrowC
      simpa using r1

/-- One of the commitments is another. -/
def upd {α : Type} (f : Nat → α) (i : Nat) (x : α) : Nat → α := fun j => if j = i then x else f j
theorem cl_set (I : Nat → Int) (D E : Nat → Nat) (n i : Nat) (x : Int) (d e : Nat) (h : i < n) :
    (((cl I D E n).set (i * 3) (.int .i64 x)).set (i * 3 + 1) (.int .u64 (d : Nat))).set (i * 3 + 2) (.int .u64 (e : Nat)) = cl (upd I i x) (upd D i d) (upd E i e) n := by
  apply List.ext_getElem?
  intro j
  have hl := cl_len I D E n
  have hl' := cl_len (upd I i x) (upd D i d) (upd E i e) n
  by_cases hj : j < n * 3
  · obtain ⟨c0, c1, c2⟩ := cl_at I D E n (j / 3) (by omega)
    obtain ⟨d0, d1, d2⟩ := cl_at (upd I i x) (upd D i d) (upd E i e) n (j / 3) (by omega)
    have hcase : j = j / 3 * 3 ∨ j = j / 3 * 3 + 1 ∨ j = j / 3 * 3 + 2 := by omega
    obtain ⟨k, hk⟩ : ∃ k, k = j / 3 := ⟨_, rfl⟩
    rw [← hk] at c0 c1 c2 d0 d1 d2 hcase
    clear hk
    by_cases hki : k = i
    · subst hki
      simp only [upd, if_true] at d0 d1 d2
      rcases hcase with rfl | rfl | rfl
      · rw [d0, List.getElem?_set_ne (by omega), List.getElem?_set_ne (by omega), List.getElem?_set_self (by omega)]
      · rw [d1, List.getElem?_set_ne (by omega), List.getElem?_set_self (by simp; omega)]
      · rw [d2, List.getElem?_set_self (by simp; omega)]
    · simp only [upd, if_neg hki] at d0 d1 d2
      rcases hcase with rfl | rfl | rfl
      · rw [d0, List.getElem?_set_ne (by omega), List.getElem?_set_ne (by omega), List.getElem?_set_ne (by omega), c0]
      · rw [d1, List.getElem?_set_ne (by omega), List.getElem?_set_ne (by omega), List.getElem?_set_ne (by omega), c1]
      · rw [d2, List.getElem?_set_ne (by omega), List.getElem?_set_ne (by omega), List.getElem?_set_ne (by omega), c2]
  · rw [List.getElem?_eq_none (by simp; omega), List.getElem?_eq_none (by omega)]
theorem GrowC.store {w : World} {B g n cap : Nat} {I : Nat → Int} {D E : Nat → Nat} (h : GrowC w B (.slice (some ⟨g, 0, none⟩) n cap) n I D E) {i : Nat} (hi : i < n) (x : Int) (d e : Nat) :
    GrowC (((w.setCell ⟨g, i * 3, none⟩ (.int .i64 x)).setCell ⟨g, i * 3 + 1, none⟩ (.int .u64 (d : Nat))).setCell ⟨g, i * 3 + 2, none⟩ (.int .u64 (e : Nat))) B (.slice (some ⟨g, 0, none⟩) n cap) n (upd I i x) (upd D i d) (upd E i e) := by
  unfold GrowC
  rw [← cl_set _ _ _ _ _ _ _ _ hi]
  exact (((World.ownsRow.stored h _ _).1.stored _ _).1.stored _ _).1
end Go.Proofs.YteoioldbigomaaaGreat
namespace Go.Proofs.YteoioldbigomaaaGreat
open Go.RowKit

/-- A step of a script, as its cells. -/
def opv (K A B C Dn t n : Int) (gs : Value) (x y : Nat) (s : ByteArray) (ls : Value) : Array Value := #[.int .i64 K, .int .i64 A, .int .i64 B, .int .i64 C, .int .i64 Dn, .int .i64 t, .int .i64 n, gs, .int .u64 x, .int .u64 y, .string s, ls]

theorem opv_at {w : World} {b : Nat} {K A B C Dn t n : Int} {gs : Value} {x y : Nat} {s : ByteArray} {ls : Value} {T : TypeId} (h : w.heap[b]? = some (.cells (opv K A B C Dn t n gs x y s ls) T (0, 0))) :
    w.cell? ⟨b, 3, none⟩ = some (.int .i64 C) ∧ w.cell? ⟨b, 4, none⟩ = some (.int .i64 Dn) ∧ w.cell? ⟨b, 11, none⟩ = some ls := by
  simp [World.cell?, h, opv]

/-- What list leaves: a list of its own, of as many commitments. -/
def LstPost (ln : Nat) (w : World) (e : Ending) (w' : World) : Prop :=
  Below w.heap.size w w' ∧ ∃ a' c' I' D' E', e = .returned (.slice a' ln c') ∧ RdC w' a' ln I' D' E' ∧ (∀ x, a' = some x → w.heap.size ≤ x.block) ∧ (a' = none → ln = 0 ∧ c' = 0)

theorem GrowC.rd2 {w : World} {B k : Nat} {v : Value} {I : Nat → Int} {D E : Nat → Nat} (h : GrowC w B v k I D E) : ∃ a cap, v = .slice a k cap ∧ RdC w a k I D E ∧ (∀ x, a = some x → B ≤ x.block) ∧ (a = none → k = 0 ∧ cap = 0) := by
  obtain ⟨a, cap, hv, rd⟩ := h.rd
  refine ⟨a, cap, hv, rd, ?_, ?_⟩
  · intro x hx
    subst hv
    exact (World.ownsRow.lt h x.block (by rw [hx]; rfl)).1
  · intro ha
    subst ha
    rcases h.2 with ⟨h1, h2⟩ | ⟨g, cap', cur, h1, _⟩
    · rw [hv] at h1
      simp only [Value.slice.injEq] at h1
      exact ⟨h2, h1.2.2⟩
    · rw [hv] at h1
      simp at h1

set_option maxHeartbeats 4000000 in
set_option maxRecDepth 100000 in
theorem list_any (P : Nat) (ssv lv : Value) (ca : Option Addr) (nc cc : Nat) (I : Nat → Int) (D E : Nat → Nat) (K A B C Dn t n : Int) (gs : Value) (x y : Nat) (s : ByteArray) (la : Option Addr) (ln lc : Nat) (IL : Nat → Int) (DL EL' : Nat → Nat) (w : World)
    (hP : w.heap[P]? = some (.cells #[ssv, .slice ca nc cc, lv] 74 (0, 0))) (hc : RdC w ca nc I D E) (hnc : nc ≤ 65536) (hl : RdC w la ln IL DL EL') (hlz : la = none → ln = 0 ∧ lc = 0) (hln : ln ≤ 65536)
    (_hC1 : -9223372036854775808 ≤ C) (_hC2 : C ≤ 9223372036854775807) :
    Calls Tryz.prog 60 #[.pointer (some ⟨P, 0, none⟩), .agg (opv K A B C Dn t n gs x y s (.slice la ln lc))] w (LstPost ln w) := by
  have hz := heap_alloc_new w (.cells (opv K A B C Dn t n gs x y s (.slice la ln lc)) 70)
  have B0 := below_alloc w (.cells (opv K A B C Dn t n gs x y s (.slice la ln lc)) 70)
  unfold opv at hz B0 ⊢
  go_enter Tryz.func60, Tryz.ntmps60
  obtain ⟨W0, hW0⟩ : ∃ W0, w.alloc (.cells #[.int .i64 K, .int .i64 A, .int .i64 B, .int .i64 C, .int .i64 Dn, .int .i64 t, .int .i64 n, gs, .int .u64 (x : Int), .int .u64 (y : Int), .string s, .slice la ln lc] 70) = W0 := ⟨_, rfl⟩
  rw [hW0] at hz B0
  have hl0 := hl.below B0
  obtain ⟨o3, o4, o11⟩ := opv_at (K := K) (A := A) (B := B) (C := C) (Dn := Dn) (t := t) (n := n) (gs := gs) (x := x) (y := y) (s := s) (ls := .slice la ln lc) hz
  go_wp2_with (at_builtin; refine wpList_append_copyC _ rfl _ (.tmp 10) rfl ln lc la IL DL EL' rfl rfl hlz (by first | exact hl0 | (rw [hW0]; exact hl0)) hln ?_; intro v1 w1 G1 bel1)
  have bel1' : Below W0.heap.size W0 w1 := by first | exact bel1 | (rw [← hW0]; exact bel1)
  have G1' : GrowC w1 W0.heap.size v1 ln IL DL EL' := by first | exact G1 | (rw [← hW0]; exact G1)
  obtain ⟨av, cv, hv1, _, hav, hav0⟩ := G1'.rd2
  subst hv1
  have HP : Hid (w.heap[P]? = some (.cells #[ssv, .slice ca nc cc, lv] 74 (0, 0))) := hP
  have HC : Hid (RdC w ca nc I D E) := hc
  have hs0 : W0.heap.size = w.heap.size + 1 := by rw [← hW0]; exact size_alloc _ _
  have HZ : Hid (W0.heap[w.heap.size]? = some (.cells #[.int .i64 K, .int .i64 A, .int .i64 B, .int .i64 C, .int .i64 Dn, .int .i64 t, .int .i64 n, gs, .int .u64 (x : Int), .int .u64 (y : Int), .string s, .slice la ln lc] 70 (0, 0))) := hz
  have HAV : Hid (∀ xx, av = some xx → W0.heap.size ≤ xx.block) := hav
  have HAV0 : Hid (av = none → ln = 0 ∧ cv = 0) := hav0
  clear hW0 hl hl0 hc hP o3 o4 o11 G1 bel1 hz hav hav0 hlz
  go_loopw [6] (fun i wr => ∃ (k : Nat) (I' : Nat → Int) (D' E' : Nat → Nat), k ≤ 9 ∧ i = .int .i64 k ∧ Below W0.heap.size W0 wr ∧ GrowC wr W0.heap.size (.slice av ln cv) ln I' D' E') (fun i _ => 9 - (intOf i).toNat)
  case atStart => exact ⟨0, IL, DL, EL', by omega, rfl, bel1', G1'⟩
  case round =>
    clear G1' bel1'
    obtain ⟨k, I', D', E', hk, rfl, bel, G⟩ := hrel
    have belw : Below w.heap.size w wr := B0.trans (bel.mono (by omega))
    obtain ⟨o3, o4, o11⟩ := opv_at (K := K) (A := A) (B := B) (C := C) (Dn := Dn) (t := t) (n := n) (gs := gs) (x := x) (y := y) (s := s) (ls := .slice la ln lc) ((bel.block w.heap.size (by omega)).trans HZ.out)
    obtain ⟨p0, p1, p2, f0, f1, f2⟩ := three ((belw.block P (lt_of_block HP.out)).trans HP.out)
    have fin : LstPost ln w (.returned (.slice av ln cv)) wr := by
      obtain ⟨a2, c2, h2, rd2, _, _⟩ := G.rd2
      simp only [Value.slice.injEq, true_and] at h2
      obtain ⟨rfl, rfl⟩ := h2
      exact ⟨belw, av, cv, I', D', E', rfl, rd2, fun xx hx => by have := HAV.out xx hx; omega, HAV0.out⟩
    have HFIN : Hid (LstPost ln w (.returned (.slice av ln cv)) wr) := fin
    clear fin
    by_cases c1 : (k : Int) < Dn
    · by_cases c2 : k < nc
      · by_cases c3 : k < 9
        · have g2 : (k : Int) < nc := by omega
          have g3 : (k : Int) < 9 := by omega
          obtain ⟨b, o, rfl, hb, hcc⟩ := HC.out.at (by omega)
          obtain ⟨cw, hcw⟩ : ∃ cw, cw = IntKind.i64.wrap (C + k) := ⟨_, rfl⟩
          have hcb : -9223372036854775808 ≤ cw ∧ cw ≤ 9223372036854775807 := by rw [hcw, IntKind.wrap_i64]; omega
          have CPK := fun w' => pick_any cw nc w' (by omega) (by omega) hcb.1 hcb.2
          obtain ⟨pk, hpk⟩ : ∃ pk, pk = M.pick cw nc := ⟨_, rfl⟩
          have hpl : pk < nc := by rw [hpk]; exact M.pick_lt _ _ (by omega)
          simp only [← hpk] at CPK
          obtain ⟨q0, q1, q2⟩ := hcc pk hpl
          obtain ⟨X, hX⟩ : ∃ X, X = I pk := ⟨_, rfl⟩
          obtain ⟨Dp, hD⟩ : ∃ Dp, Dp = D pk := ⟨_, rfl⟩
          obtain ⟨Ep, hE⟩ : ∃ Ep, Ep = E pk := ⟨_, rfl⟩
          rw [← hX] at q0
          rw [← hD] at q1
          rw [← hE] at q2
          have r0 := (belw.cell (p := ⟨b, o + pk * 3, none⟩) hb).trans q0
          have r1 := (belw.cell (p := ⟨b, o + pk * 3 + 1, none⟩) hb).trans q1
          have r2 := (belw.cell (p := ⟨b, o + pk * 3 + 2, none⟩) hb).trans q2
          have hpi : (pk : Int) < nc := by omega
          clear hpk hX hD hE q0 q1 q2 hcc HFIN
          go_wp2_with fail
          go_cut [7] from 12 to 64 (fun s7 wx => s7 = .pointer (some ⟨wr.heap.size, 0, none⟩) ∧ wx = (wr.alloc (.cells #[.int .i64 X, .int .u64 (Dp : Int), .int .u64 (Ep : Int)] 98)).drew)
          case first =>
            have hcw2 : IntKind.i64.wrap (C + (k : Int)) = cw := hcw.symm
            clear hcw
            go_region_held (fun w' => w'.cell? ⟨P, 1, none⟩ = some (.slice (some ⟨b, o, none⟩) nc cc) ∧ w'.cell? ⟨w.heap.size, 3, none⟩ = some (.int .i64 C) ∧ w'.cell? ⟨b, o + pk * 3, none⟩ = some (.int .i64 X) ∧ w'.cell? ⟨b, o + pk * 3 + 1, none⟩ = some (.int .u64 (Dp : Int)) ∧ w'.cell? ⟨b, o + pk * 3 + 2, none⟩ = some (.int .u64 (Ep : Int)))
              (first | assumption | (simp [*]; done) | go_keep) (first | (go_at_call 57; refine (CPK _).mono ?_; rintro ex w2 ⟨rfl, hw⟩; subst hw))
            all_goals
              go_wp2_with fail
              go_meet
              case rel => exact ⟨rfl, rfl⟩
          case rest =>
            have hz2 := heap_alloc_new wr (.cells #[.int .i64 X, .int .u64 (Dp : Int), .int .u64 (Ep : Int)] 98)
            obtain ⟨rfl, hwc⟩ := hcut
            have dW : Below wr.heap.size wr wc := by rw [hwc]; exact (below_alloc _ _).drew
            have hzc : wc.heap[wr.heap.size]? = some (.cells #[.int .i64 X, .int .u64 (Dp : Int), .int .u64 (Ep : Int)] 98 (0, 0)) := by rw [hwc]; exact hz2
            have GC := G.below dW
            have belC : Below W0.heap.size W0 wc := bel.trans (dW.mono bel.size)
            have hgr : W0.heap.size ≤ wr.heap.size := bel.size
            have hgl : ∀ g, av = some ⟨g, 0, none⟩ → g < wr.heap.size := fun g hg => by subst hg; exact (World.ownsRow.lt G g rfl).2
            obtain ⟨V, hV⟩ : ∃ V, V = wc := ⟨_, rfl⟩
            subst hV
            have HZV : Hid (V.heap[wr.heap.size]? = some (.cells #[.int .i64 X, .int .u64 (Dp : Int), .int .u64 (Ep : Int)] 98 (0, 0))) := hzc
            obtain ⟨wq, hwq⟩ : ∃ wq, wq = wr := ⟨_, rfl⟩
            subst hwq
            clear hwc hz2 hzc dW G bel o3 o4 o11 p0 p1 p2 f0 f1 f2 r0 r1 r2 CPK belw hcw
            go_wp2_with fail
            go_loopw [49] (fun i wr => ∃ (j : Nat) (I' : Nat → Int) (D' E' : Nat → Nat), j ≤ ln ∧ i = .int .i64 j ∧ Below W0.heap.size W0 wr ∧ GrowC wr W0.heap.size (.slice av ln cv) ln I' D' E' ∧ wr.heap[wq.heap.size]? = some (.cells #[.int .i64 X, .int .u64 (Dp : Int), .int .u64 (Ep : Int)] 98 (0, 0))) (fun i _ => ln - (intOf i).toNat)
            case atStart => exact ⟨0, I', D', E', Nat.zero_le _, rfl, belC, GC, HZV.out⟩
            case round =>
              clear GC belC
              obtain ⟨j, I2, D2, E2, hj, rfl, bel2, G2, Z2⟩ := hrel
              obtain ⟨k0, k1, k2⟩ := three_cells Z2
              by_cases hlt : j < ln
              · have G2' := G2
                rcases G2'.2 with ⟨_, h0⟩ | ⟨g, cap, cur, hv, hBg, hgb, _⟩
                · omega
                · simp only [Value.slice.injEq, true_and] at hv
                  obtain ⟨rfl, rfl⟩ := hv
                  obtain ⟨a2, c2', h2, rd2, _, _⟩ := G2.rd2
                  simp only [Value.slice.injEq, true_and] at h2
                  obtain ⟨rfl, rfl⟩ := h2
                  obtain ⟨gg, oo, he, _, hc2⟩ := rd2.at (by omega)
                  simp only [Option.some.injEq, Addr.mk.injEq, and_true] at he
                  obtain ⟨rfl, rfl⟩ := he
                  obtain ⟨s0, s1, s2⟩ := hc2 j hlt
                  simp only [Nat.zero_add] at s0 s1 s2
                  have y0 : wr.frozen? ⟨g, j * 3, none⟩ = false := six_frozen hgb _
                  have y1 : wr.frozen? ⟨g, j * 3 + 1, none⟩ = false := six_frozen hgb _
                  have y2 : wr.frozen? ⟨g, j * 3 + 2, none⟩ = false := six_frozen hgb _
                  have hji : (j : Int) < ln := by omega
                  have hgq : ¬ g = wq.heap.size := by have := hgl g rfl; omega
                  have hgq2 : ¬ wq.heap.size = g := by omega
                  obtain ⟨xj, hxj⟩ : ∃ xj, xj = I2 j := ⟨_, rfl⟩
                  obtain ⟨dj, hdj⟩ : ∃ dj, dj = D2 j := ⟨_, rfl⟩
                  obtain ⟨ej, hej⟩ : ∃ ej, ej = E2 j := ⟨_, rfl⟩
                  rw [← hxj] at s0
                  rw [← hdj] at s1
                  rw [← hej] at s2
                  clear hc2 rd2 hxj hdj hej G2'
                  by_cases hid : xj = X
                  · subst hid
                    go_wp2_with fail
                    go_quiet (fail)
                    go_wp2_with fail
                    have dN : Below wr.heap.size wr (wr.drewN nq) := below_drewN (Below.refl _ _) nq
                    have bel3 := bel2.trans (dN.mono bel2.size)
                    refine ⟨⟨j + 1, _, _, _, by omega, by go_num, ?_, GrowC.store (G2.below dN) hlt xj Dp Ep, ?_⟩, by simp [intOf]; omega⟩
                    · exact ((bel3.setCell (p := ⟨g, j * 3, none⟩) hBg _).setCell (p := ⟨g, j * 3 + 1, none⟩) hBg _).setCell (p := ⟨g, j * 3 + 2, none⟩) hBg _
                    · rw [Below.heap_setCell _ _ _ _ (by exact hgq2), Below.heap_setCell _ _ _ _ (by exact hgq2), Below.heap_setCell _ _ _ _ (by exact hgq2)]
                      exact (dN.block wq.heap.size (lt_of_block Z2)).trans Z2
                  · have hid' : (xj == X) = false := by simp; omega
                    go_wp2_with fail
                    go_quiet (fail)
                    go_wp2_with fail
                    have dN : Below wr.heap.size wr (wr.drewN nq) := below_drewN (Below.refl _ _) nq
                    exact ⟨⟨j + 1, I2, D2, E2, by omega, by go_num, bel2.trans (dN.mono bel2.size), G2.below dN, (dN.block wq.heap.size (lt_of_block Z2)).trans Z2⟩, by simp [intOf]; omega⟩
              · go_wp2_with fail
                exact ⟨⟨k + 1, I2, D2, E2, by omega, by go_num, bel2, G2⟩, by simp [intOf]; omega⟩
        · have g3 : ¬ (k : Int) < 9 := by omega
          have g2 : (k : Int) < nc := by omega
          go_wp2_with fail
          go_ret
          exact HFIN.out
      · have g2 : ¬ (k : Int) < nc := by omega
        go_wp2_with fail
        go_ret
        exact HFIN.out
    · go_wp2_with fail
      go_ret
      exact HFIN.out
end Go.Proofs.YteoioldbigomaaaGreat
namespace Go.Proofs.YteoioldbigomaaaGreat
open Go.RowKit

/-- A step of a script: its numbers, its text, its lists (where they lie, what they hold). -/
structure OpD where
  K : Int
  A : Int
  B : Int
  C : Int
  Dn : Int
  t : Int
  n : Int
  ga : Option Addr
  gl : Nat
  gc : Nat
  f : Nat → Nat
  x : Nat
  y : Nat
  s : ByteArray
  la : Option Addr
  ln : Nat
  lc : Nat
  I : Nat → Int
  D : Nat → Nat
  E : Nat → Nat
instance : Inhabited OpD := ⟨⟨0, 0, 0, 0, 0, 0, 0, none, 0, 0, fun _ => 0, 0, 0, ByteArray.empty, none, 0, 0, fun _ => 0, fun _ => 0, fun _ => 0⟩⟩

/-- A step's cells. -/
def OpD.val (d : OpD) : Array Value := opv d.K d.A d.B d.C d.Dn d.t d.n (.slice d.ga d.gl d.gc) d.x d.y d.s (.slice d.la d.ln d.lc)
/-- Its lists lie in w; its numbers are int's. -/
structure OpD.Ok (w : World) (d : OpD) : Prop where
  g : RdF w d.ga d.gl (cu (M.sq d.f d.gl))
  g0 : d.ga = none → d.gl = 0 ∧ d.gc = 0
  l : RdC w d.la d.ln d.I d.D d.E
  l0 : d.la = none → d.ln = 0 ∧ d.lc = 0
  c1 : -9223372036854775808 ≤ d.C
  c2 : d.C ≤ 9223372036854775807
  a1 : -9223372036854775808 ≤ d.A
  a2 : d.A ≤ 9223372036854775807
theorem OpD.Ok.below {w w' : World} {d : OpD} (h : d.Ok w) (hb : Below w.heap.size w w') : d.Ok w' := ⟨h.g.below hb, h.g0, h.l.below hb, h.l0, h.c1, h.c2, h.a1, h.a2⟩

/-- A script: n steps. -/
def RdO (w : World) (a : Option Addr) (n : Nat) (d : Nat → OpD) : Prop :=
  n = 0 ∨ ∃ b o, a = some ⟨b, o, none⟩ ∧ b < w.heap.size ∧ ∀ i, i < n → (∀ j, j < 12 → w.cell? ⟨b, o + i * 12 + j, none⟩ = (d i).val[j]?) ∧ (d i).Ok w
theorem RdO.below {w w' : World} {a : Option Addr} {n : Nat} {d : Nat → OpD} (h : RdO w a n d) (hb : Below w.heap.size w w') : RdO w' a n d := by
  rcases h with h | ⟨b, o, rfl, hlt, hc⟩
  · exact .inl h
  · exact .inr ⟨b, o, rfl, Nat.lt_of_lt_of_le hlt hb.size, fun i hi => ⟨fun j hj => (hb.cell (by exact hlt)).trans ((hc i hi).1 j hj), (hc i hi).2.below hb⟩⟩
theorem RdO.at {w : World} {a : Option Addr} {n : Nat} {d : Nat → OpD} (h : RdO w a n d) (hn : 0 < n) : ∃ b o, a = some ⟨b, o, none⟩ ∧ b < w.heap.size ∧ ∀ i, i < n → (∀ j, j < 12 → w.cell? ⟨b, o + i * 12 + j, none⟩ = (d i).val[j]?) ∧ (d i).Ok w := by
  rcases h with h | h
  · omega
  · exact h

/-- The twelve cells of a step, one by one. -/
theorem op_cells {w : World} {b o : Nat} {d : OpD} (h : ∀ j, j < 12 → w.cell? ⟨b, o + j, none⟩ = d.val[j]?) :
    w.cell? ⟨b, o, none⟩ = some (.int .i64 d.K) ∧ w.cell? ⟨b, o + 1, none⟩ = some (.int .i64 d.A) ∧ w.cell? ⟨b, o + 2, none⟩ = some (.int .i64 d.B) ∧ w.cell? ⟨b, o + 3, none⟩ = some (.int .i64 d.C) ∧ w.cell? ⟨b, o + 4, none⟩ = some (.int .i64 d.Dn) ∧
    w.cell? ⟨b, o + 5, none⟩ = some (.int .i64 d.t) ∧ w.cell? ⟨b, o + 6, none⟩ = some (.int .i64 d.n) ∧ w.cell? ⟨b, o + 7, none⟩ = some (.slice d.ga d.gl d.gc) ∧ w.cell? ⟨b, o + 8, none⟩ = some (.int .u64 (d.x : Nat)) ∧ w.cell? ⟨b, o + 9, none⟩ = some (.int .u64 (d.y : Nat)) ∧
    w.cell? ⟨b, o + 10, none⟩ = some (.string d.s) ∧ w.cell? ⟨b, o + 11, none⟩ = some (.slice d.la d.ln d.lc) := by
  refine ⟨?_, ?_, ?_, ?_, ?_, ?_, ?_, ?_, ?_, ?_, ?_, ?_⟩
  · have := h 0 (by omega); rw [Nat.add_zero] at this; rw [this]; rfl
  · rw [h 1 (by omega)]; rfl
  · rw [h 2 (by omega)]; rfl
  · rw [h 3 (by omega)]; rfl
  · rw [h 4 (by omega)]; rfl
  · rw [h 5 (by omega)]; rfl
  · rw [h 6 (by omega)]; rfl
  · rw [h 7 (by omega)]; rfl
  · rw [h 8 (by omega)]; rfl
  · rw [h 9 (by omega)]; rfl
  · rw [h 10 (by omega)]; rfl
  · rw [h 11 (by omega)]; rfl

/-- What small leaves: if it says yes, nothing is greater than 2 to the 16. -/
def SmPost (n : Nat) (d : Nat → OpD) (w : World) (e : Ending) (w' : World) : Prop :=
  Below w.heap.size w w' ∧ ∃ b : Bool, e = .returned (.bool b) ∧ (b = true → n ≤ 65536 ∧ ∀ i, i < n → (d i).s.size ≤ 65536 ∧ (d i).ln ≤ 65536 ∧ (d i).gl ≤ 65536)

set_option maxHeartbeats 2000000 in
set_option maxRecDepth 100000 in
theorem small_any (a : Option Addr) (c n : Nat) (d : Nat → OpD) (w : World) (hr : RdO w a n d) (hn : n ≤ 140737488355328) (hd : ∀ i, i < n → (d i).s.size ≤ 140737488355328 ∧ (d i).ln ≤ 140737488355328 ∧ (d i).gl ≤ 140737488355328) :
    Calls Tryz.prog 12 #[.slice a n c] w (SmPost n d w) := by
  have HD : Hid (∀ i, i < n → (d i).s.size ≤ 140737488355328 ∧ (d i).ln ≤ 140737488355328 ∧ (d i).gl ≤ 140737488355328) := hd
  clear hd
  go_enter Tryz.func12, Tryz.ntmps12
  go_wp2_with fail
  go_loopw [3, 10] (fun q i wr => ∃ k S : Nat, k ≤ n ∧ i = .int .i64 k ∧ q = .int .i64 S ∧ Below w.heap.size w wr ∧ n ≤ S ∧ (S ≤ 65536 ∨ k = 0) ∧ S ≤ 140737488355328 ∧ Hid (∀ i, i < k → (d i).s.size ≤ S ∧ (d i).ln ≤ S ∧ (d i).gl ≤ S)) (fun _ i _ => n - (intOf i).toNat)
  case atStart => exact ⟨0, n, Nat.zero_le _, rfl, rfl, Below.refl _ _, Nat.le_refl _, .inr rfl, hn, fun i hi => absurd hi (Nat.not_lt_zero i)⟩
  case round =>
    obtain ⟨k, S, hk, rfl, rfl, bel, hnS, hS, hS2, HI⟩ := hrel
    by_cases hlt : k < n
    · obtain ⟨b, o, rfl, hb, hc⟩ := hr.at (by omega)
      obtain ⟨r0, r1, r2, r3, r4, r5, r6, r7, r8, r9, r10, r11⟩ := op_cells fun j hj => (bel.cell (p := ⟨b, o + k * 12 + j, none⟩) hb).trans ((hc k hlt).1 j hj)
      obtain ⟨D, hD⟩ : ∃ D, D = d k := ⟨_, rfl⟩
      have HDk : Hid (D = d k) := hD
      have hb3 := HD.out k hlt
      rw [← hD] at hb3
      simp only [← hD] at r0 r1 r2 r3 r4 r5 r6 r7 r8 r9 r10 r11
      have hki : (k : Int) < n := by omega
      clear hD hc hr
      by_cases hbig : 65536 < S + (D.s.size + D.ln + D.gl)
      · have hbi : (65536 : Int) < (S : Int) + ((D.s.size : Int) + D.ln + D.gl) := by omega
        go_wp2_with fail
        go_ret
        exact ⟨bel.alloc bel.size _, false, rfl, fun h => Bool.noConfusion h⟩
      · have hbi : ¬ (65536 : Int) < (S : Int) + ((D.s.size : Int) + D.ln + D.gl) := by omega
        go_wp2_with fail
        refine ⟨⟨k + 1, S + (D.s.size + D.ln + D.gl), by omega, by go_num, by go_num, bel.alloc bel.size _, by omega, .inl (by omega), by omega, ?_⟩, by simp [intOf]; omega⟩
        intro i hi
        rcases Nat.lt_or_eq_of_le (Nat.le_of_lt_succ hi) with h | rfl
        · have := HI.out i h
          omega
        · rw [← HDk.out]; omega
    · have hkn : n = k := by omega
      subst hkn
      by_cases hbig : S ≤ 65536
      · have hbi : (S : Int) ≤ 65536 := by omega
        go_wp2_with fail
        go_ret
        exact ⟨bel, true, rfl, fun _ => ⟨by omega, fun i hi => by have := HI.out i hi; omega⟩⟩
      · have hbi : ¬ (S : Int) ≤ 65536 := by omega
        go_wp2_with fail
        go_ret
        exact ⟨bel, false, rfl, fun h => Bool.noConfusion h⟩
end Go.Proofs.YteoioldbigomaaaGreat
