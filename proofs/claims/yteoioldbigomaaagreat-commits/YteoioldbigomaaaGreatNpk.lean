import Derived.Test.YteoioldbigomaaaGreatUnp
import Derived.Deep.RegionLaw
namespace Go.Proofs.YteoioldbigomaaaGreat
open Go.RowKit

/-- The number ahead; what is wrong with the k-th number. -/
def M.ahd (I : Nat → Int) : Nat → Int
  | 0 => 0
  | k + 1 => I k
def M.Tn (I : Nat → Int) (N k : Nat) : Nat := M.turn (I k) (M.ahd I k) N
/-- What is wrong with n commitments that are looked at for a group of threshold T with N signers (0: nothing). -/
def M.Look (T N n : Nat) (I : Nat → Int) (D E : Nat → Nat) (er : Nat) : Prop :=
  (¬ (T ≤ n ∧ n ≤ N) ∧ er = 7) ∨
  ((T ≤ n ∧ n ≤ N) ∧ ∃ k, k < n ∧ (∀ j, j < k → M.Tn I N j = 0) ∧ M.Tn I N k ≠ 0 ∧ er = M.Tn I N k) ∨
  ((T ≤ n ∧ n ≤ N) ∧ (∀ j, j < n → M.Tn I N j = 0) ∧ (¬ ∀ j, j < n → PRO (D j) ∧ PRO (E j)) ∧ er = 3) ∨
  ((T ≤ n ∧ n ≤ N) ∧ (∀ j, j < n → M.Tn I N j = 0) ∧ (∀ j, j < n → PRO (D j) ∧ PRO (E j)) ∧ er = 0)

theorem M.Look.one {T N n : Nat} {I : Nat → Int} {D E : Nat → Nat} {e1 e2 : Nat} (h : M.Look T N n I D E e1) (h' : M.Look T N n I D E e2) : e1 = e2 := by
  rcases h with ⟨a, b⟩ | ⟨a, k, hk, b, c, d⟩ | ⟨a, b, c, d⟩ | ⟨a, b, c, d⟩ <;> rcases h' with ⟨a', b'⟩ | ⟨a', k', hk', b', c', d'⟩ | ⟨a', b', c', d'⟩ | ⟨a', b', c', d'⟩
  · rw [b, b']
  · exact absurd a' a
  · exact absurd a' a
  · exact absurd a' a
  · exact absurd a a'
  · rcases Nat.lt_trichotomy k k' with h | h | h
    · exact absurd (b' k h) c
    · subst h; rw [d, d']
    · exact absurd (b k' h) c'
  · exact absurd (b' k hk) c
  · exact absurd (b' k hk) c
  · exact absurd a a'
  · exact absurd (b k' hk') c'
  · rw [d, d']
  · exact absurd c' c
  · exact absurd a a'
  · exact absurd (b k' hk') c'
  · exact absurd c c'
  · rw [d, d']

theorem M.Look.ne {T N n : Nat} {I : Nat → Int} {D E : Nat → Nat} {k : Nat} (a : T ≤ n ∧ n ≤ N) (hk : k < n) (b : ∀ j, j < k → M.Tn I N j = 0) (c : M.Tn I N k ≠ 0) : M.Look T N n I D E (M.Tn I N k) := .inr (.inl ⟨a, k, hk, b, c, rfl⟩)

/-- I 0 .. I (k - 1) as cells of a []int. -/
def vi (I : Nat → Int) (k : Nat) : List Value := (List.range k).map fun i => .int .i64 (I i)
theorem vi_succ (I : Nat → Int) (k : Nat) : vi I (k + 1) = vi I k ++ [.int .i64 (I k)] := by simp [vi, List.range_succ]
/-- A []int of the call's own that has grown to these. -/
def GrowI (w : World) (B : Nat) (v : Value) (k : Nat) (I : Nat → Int) : Prop := w.ownsRow B 3 1 v k (vi I k)
theorem GrowI.nil (w : World) (B : Nat) (I : Nat → Int) : GrowI w B (.slice none 0 0) 0 I := World.ownsRow_nil _ _ _ _
theorem GrowI.below {w w' : World} {B k : Nat} {v : Value} {I : Nat → Int} (h : GrowI w B v k I) (hb : Below w.heap.size w w') : GrowI w' B v k I := ownsRow_below h hb
theorem GrowI.rd {w : World} {B k : Nat} {v : Value} {I : Nat → Int} (h : GrowI w B v k I) : ∃ a cap, v = .slice a k cap ∧ RdF w a k (fun i => .int .i64 (I i)) := by
  rcases h.2 with ⟨hv, hl⟩ | ⟨g, cap, cur, hv, hB, hg, hn, hm, hs, ht⟩
  · exact ⟨none, 0, by rw [hv, hl], .inl hl⟩
  · subst hv
    refine ⟨_, cap, rfl, .inr ⟨g, 0, rfl, lt_of_block hg, fun i hi => ?_⟩⟩
    rw [Nat.zero_add]
    have := World.ownsRow.cells h (g := g) rfl i (.int .i64 (I i)) (by simp [vi, hi])
    rw [addr_add0] at this
    exact this

theorem Tryz.info3 : (Tryz.prog.info? 3).map (fun i => (i.zero, i.size, i.bytes)) = some (some (.int .i64 0), 1, 8) := by kernel_rfl

/-- 'x = append(x, u)', x a []int of the call's own, as a step of a region that draws. -/
theorem step_appendI {ops : Array Oper} {o : Oper} {a : Act} {w : World} {K : Act → World → Prop} {Q : Exit → Act → World → Prop} {E : Prop}
    (hg : o.guard = none) (s x : Operand) (hop : o.op = Op.call { callee := Callee.builtin Builtin.append, args := #[s, x], argTypes := #[29, 29] })
    (B k : Nat) (v : Value) (I : Nat → Int) (hs : a.eval s = v) (hgrow : GrowI w B v k I) (b : Nat) (hx : a.eval x = .slice (some ⟨b, 0, none⟩) 1 1)
    (hc : w.cell? ⟨b, 0, none⟩ = some (.int .i64 (I k))) (hk : k ≤ 65536) (hB : B ≤ w.heap.size)
    (hK : ∀ v' w', GrowI w' B v' (k + 1) I → Below B w w' → K (a.put o.dst v') w') :
    if Region.wanted o (yielded ops a.tmps) = true then Oper.wp Tryz.prog o a w K Q else E := by
  have hw : Region.wanted o (yielded ops a.tmps) = true := by simp [Region.wanted, hg]
  rw [if_pos hw]
  obtain ⟨i0, hi, hz0, hz1, hz2⟩ := info_parts Tryz.info3
  obtain ⟨v', w', hrun, r1, r2, _⟩ := run_append_own (P := Tryz.prog) w B 29 o.type 3 i0 (.int .i64 0) 1 8 Tryz.underlying29 hi hz0 hz1 hz2 rfl (by decide) v k (vi I k) hgrow ⟨b, 0, none⟩ 1 1 [.int .i64 (I k)] rfl (one_new hc)
    (by intro u hu; simp at hu; subst hu; rfl) (by unfold maxLen; omega) (by omega) hB
  unfold Oper.wp
  simp [execOp, hop, resolve, invoke, builtin, hs, hx, hrun, Result.andThen]
  refine hK v' w' ?_ ((Below.refl _ _).grown r2 hB fun j hj => (World.ownsRow.lt hgrow j hj).1)
  unfold GrowI
  rw [vi_succ]
  exact r1

/-- A package: its block. -/
def pkb (T N : Int) (gs : Value) (s : ByteArray) (ls v : Value) : Obj := .cells #[.int .i64 T, .int .i64 N, gs, .string s, ls, v] 65
theorem six {w : World} {b : Nat} {x0 x1 x2 x3 x4 x5 : Value} {t : TypeId} (h : w.heap[b]? = some (.cells #[x0, x1, x2, x3, x4, x5] t (0, 0))) :
    w.cell? ⟨b, 0, none⟩ = some x0 ∧ w.cell? ⟨b, 1, none⟩ = some x1 ∧ w.cell? ⟨b, 2, none⟩ = some x2 ∧ w.cell? ⟨b, 3, none⟩ = some x3 ∧ w.cell? ⟨b, 4, none⟩ = some x4 ∧ w.cell? ⟨b, 5, none⟩ = some x5 := by
  simp [World.cell?, h]
theorem six_frozen {w : World} {b : Nat} {cs : Array Value} {t : TypeId} (h : w.heap[b]? = some (.cells cs t (0, 0))) (j : Nat) : w.frozen? ⟨b, j, none⟩ = false := by
  simp [World.frozen?, h]
theorem six_set5 {w : World} {b : Nat} {x0 x1 x2 x3 x4 x5 : Value} {t : TypeId} (h : w.heap[b]? = some (.cells #[x0, x1, x2, x3, x4, x5] t (0, 0))) (u : Value) :
    (w.setCell ⟨b, 5, none⟩ u).heap[b]? = some (.cells #[x0, x1, x2, x3, x4, u] t (0, 0)) := by
  have hlt := lt_of_block h
  show (w.heap.modify b _)[b]? = _
  rw [Array.getElem?_modify]
  simp [h]

/-- A package that was made, no block of it below B. -/
def PK (w : World) (B p : Nat) (T N : Nat) (gs : Value) (s : ByteArray) (ls : Value) (n : Nat) (I : Nat → Int) : Prop :=
  B ≤ p ∧ ∃ v, w.heap[p]? = some (pkb T N gs s ls v) ∧ GrowI w B v n I
end Go.Proofs.YteoioldbigomaaaGreat
namespace Go.Proofs.YteoioldbigomaaaGreat
open Go.RowKit

theorem GrowI.low {w : World} {B B' k : Nat} {v : Value} {I : Nat → Int} (h : GrowI w B v k I) (hb : B' ≤ B) : GrowI w B' v k I := by
  refine ⟨h.1, ?_⟩
  rcases h.2 with h2 | ⟨g, cap, cur, h1, h2, h3⟩
  · exact .inl h2
  · exact .inr ⟨g, cap, cur, h1, Nat.le_trans hb h2, h3⟩

/-- What NewPackage leaves: an error, or a package. -/
def PkPost (T N : Nat) (gs : Value) (s : ByteArray) (ls : Value) (n : Nat) (I : Nat → Int) (D E : Nat → Nat) (w : World) (e : Ending) (w' : World) : Prop :=
  Below w.heap.size w w' ∧ ∃ er : Nat, M.Look T N n I D E er ∧ ((er ≠ 0 ∧ e = .returned (.tuple #[.pointer none, .int .i64 er])) ∨
    (er = 0 ∧ ∃ p, e = .returned (.tuple #[.pointer (some ⟨p, 0, none⟩), .int .i64 0]) ∧ PK w' w.heap.size p T N gs s ls n I))

set_option maxHeartbeats 400000 in
theorem npk_few (T N : Nat) (gs : Value) (s : ByteArray) (a : Option Addr) (n c : Nat) (w : World) (ga : Option Addr) (gl gc : Nat) (hgs : gs = .slice ga gl gc) (h : ¬ (T ≤ n ∧ n ≤ N)) :
    Calls Tryz.prog 24 #[.agg #[.int .i64 T, .int .i64 N, gs], .string s, .slice a n c] w fun e w' => e = .returned (.tuple #[.pointer none, .int .i64 7]) ∧ Below w.heap.size w w' := by
  subst hgs
  by_cases h1 : n < T
  · have h1' : (n : Int) < T := by omega
    clear h
    go_enter Tryz.func24, Tryz.ntmps24
    go_wp2_with fail
    go_ret2
    exact ⟨rfl, below_alloc _ _⟩
  · have h1' : ¬ (n : Int) < T := by omega
    have h2' : (N : Int) < n := by omega
    clear h h1
    go_enter Tryz.func24, Tryz.ntmps24
    go_wp2_with fail
    go_ret2
    exact ⟨rfl, below_alloc _ _⟩

set_option maxHeartbeats 2000000 in
set_option maxRecDepth 100000 in
theorem npk_any (T N : Nat) (s : ByteArray) (a : Option Addr) (n c : Nat) (ga : Option Addr) (gl gc : Nat) (I : Nat → Int) (D E : Nat → Nat) (w : World) (hT : T ≤ n) (hN : n ≤ N) (h9 : N ≤ 9) (hr : RdC w a n I D E) :
    Calls Tryz.prog 24 #[.agg #[.int .i64 T, .int .i64 N, .slice ga gl gc], .string s, .slice a n c] w (PkPost T N (.slice ga gl gc) s (.slice a n c) n I D E w) := by
  have h1' : ¬ (n : Int) < T := by omega
  have h2' : ¬ (N : Int) < n := by omega
  obtain ⟨G0, hG0⟩ : ∃ G0, G0 = Obj.cells #[.int .i64 (T : Int), .int .i64 (N : Int), .slice ga gl gc] 24 := ⟨_, rfl⟩
  have Z0 : ∀ w : World, (w.alloc G0).heap[w.heap.size]? = some (.cells #[.int .i64 (T : Int), .int .i64 (N : Int), .slice ga gl gc] 24 (0, 0)) := fun w => by rw [hG0]; exact heap_alloc_new w _
  go_enter Tryz.func24, Tryz.ntmps24
  go_wp2_with fail
  clear h1' h2'
  have HG0 : Hid (G0 = Obj.cells #[.int .i64 (T : Int), .int .i64 (N : Int), .slice ga gl gc] 24) := hG0
  rw [← hG0]
  clear hG0
  go_loopw [32] (fun i wr => ∃ (k : Nat) (v : Value), k ≤ n ∧ i = .int .i64 k ∧ Below (w.heap.size + 1) (w.alloc G0) wr ∧ wr.heap[w.heap.size + 1]? = some (.cells #[.int .i64 T, .int .i64 N, .slice ga gl gc, .string s, .slice a n c, v] 65 (0, 0)) ∧ GrowI wr (w.heap.size + 2) v k I ∧ Hid (∀ j, j < k → M.Tn I N j = 0)) (fun i _ => n - (intOf i).toNat)
  case atStart =>
    refine ⟨0, .slice none 0 0, Nat.zero_le _, rfl, ?_, ?_, GrowI.nil _ _ _, fun j hj => absurd hj (Nat.not_lt_zero j)⟩
    · have e : w.heap.size + 1 = (w.alloc G0).heap.size := (size_alloc w G0).symm
      rw [e]; exact below_alloc _ _
    · have := heap_alloc_new (w.alloc G0) (.cells #[.int .i64 (T : Int), .int .i64 (N : Int), .slice ga gl gc, .string s, .slice a n c, .slice none 0 0] 65)
      rw [size_alloc] at this; exact this
  case round =>
    obtain ⟨k, v, hk, rfl, bel, Zp, G, HK⟩ := hrel
    have Zr := (bel.block w.heap.size (by omega)).trans (Z0 w)
    have hsz := lt_of_block Zp
    have belw : Below w.heap.size w wr := (below_alloc w G0).trans (bel.mono (by omega))
    by_cases hlt : k < n
    · obtain ⟨b, o, rfl, hb, hc⟩ := hr.at (by omega)
      obtain ⟨q0, q1, q2⟩ := hc k hlt
      obtain ⟨x, hx⟩ : ∃ x, x = I k := ⟨_, rfl⟩
      obtain ⟨d, hd⟩ : ∃ d, d = D k := ⟨_, rfl⟩
      obtain ⟨e, he⟩ : ∃ e, e = E k := ⟨_, rfl⟩
      rw [← hx] at q0
      rw [← hd] at q1
      rw [← he] at q2
      have c0 := (belw.cell (p := ⟨b, o + k * 3, none⟩) hb).trans q0
      have c1 := (belw.cell (p := ⟨b, o + k * 3 + 1, none⟩) hb).trans q1
      have c2 := (belw.cell (p := ⟨b, o + k * 3 + 2, none⟩) hb).trans q2
      obtain ⟨z0, z1, z2, y0, y1, y2⟩ := three Zr
      have HX : Hid (x = I k) := hx
      have hki : (k : Int) < n := by omega
      have hszi : w.heap.size < wr.heap.size := by omega
      obtain ⟨av, cv, rfl, _⟩ := G.rd
      clear hx hd he q0 q1 q2
      by_cases r1 : x < 1
      · go_wp2_with fail
        go_ret2
        refine ⟨belw.alloc belw.size _, 5, ?_, .inl ⟨by omega, rfl⟩⟩
        have ht : M.Tn I N k = 5 := by unfold M.Tn M.turn; rw [if_pos (.inl (by rw [← HX.out]; exact r1))]
        have := M.Look.ne (D := D) (E := E) ⟨hT, hN⟩ hlt HK.out (by rw [ht]; omega)
        rwa [ht] at this
      · by_cases r2 : (N : Int) < x
        · go_wp2_with fail
          go_ret2
          refine ⟨belw.alloc belw.size _, 5, ?_, .inl ⟨by omega, rfl⟩⟩
          have ht : M.Tn I N k = 5 := by unfold M.Tn M.turn; rw [if_pos (.inr (by rw [← HX.out]; exact r2))]
          have := M.Look.ne (D := D) (E := E) ⟨hT, hN⟩ hlt HK.out (by rw [ht]; omega)
          rwa [ht] at this
        · obtain ⟨ah, hah⟩ : ∃ ah, ah = M.ahd I k := ⟨_, rfl⟩
          have HA : Hid (ah = M.ahd I k) := hah
          have hzc := heap_alloc_new wr (.cells #[.int .i64 x, .int .u64 (d : Int), .int .u64 (e : Int)] 98)
          clear hah
          go_wp2_with fail
          clear c0 c1 c2 z0 z1 z2 y0 y1 y2
          obtain ⟨V, hV⟩ : ∃ V, wr.alloc (.cells #[.int .i64 x, .int .u64 (d : Int), .int .u64 (e : Int)] 98) = V := ⟨_, rfl⟩
          have dV : Below wr.heap.size wr V := by rw [← hV]; exact below_alloc _ _
          rw [hV] at hzc ⊢
          obtain ⟨k0, k1, k2⟩ := three_cells hzc
          clear hV hzc
          go_cut [59] from 33 to 71 (fun s59 wx => s59 = .bool (decide (x ≤ ah)) ∧ ∃ nq, wx = V.drewN nq)
          case first =>
            cases k with
            | zero =>
              have g0 : decide ((0 : Int) < ((0 : Nat) : Int)) = false := rfl
              have g1 : decide (x ≤ ah) = false := decide_eq_false (by have : ah = 0 := HA.out; omega)
              go_quiet (fail)
              go_wp2_with fail
              go_meet
              case rel => exact ⟨by rw [g1], nq, rfl⟩
            | succ m =>
              have hcm := (dV.cell (p := ⟨b, o + m * 3, none⟩) (Nat.lt_of_lt_of_le hb belw.size)).trans ((belw.cell (p := ⟨b, o + m * 3, none⟩) hb).trans (hc m (by omega)).1)
              have HA' : Hid (ah = I m) := HA.out
              go_quiet (fail)
              go_wp2_with fail
              go_meet
              case rel => exact ⟨by rw [HA'.out], nq, rfl⟩
          case rest =>
            obtain ⟨rfl, nq, hwc⟩ := hcut
            have dW : Below V.heap.size V wc := by rw [hwc]; exact below_drewN (Below.refl _ _) _
            have dA : Below wr.heap.size wr wc := dV.trans (dW.mono dV.size)
            have belC : Below (w.heap.size + 1) (w.alloc G0) wc := bel.trans (dA.mono (by omega))
            have belD : Below w.heap.size w wc := belw.trans (dA.mono belw.size)
            have Zc := (dA.block (w.heap.size + 1) hsz).trans Zp
            have GC := G.below dA
            have m0 := (dW.cell (World.block_lt_of_cell? V _ k0)).trans k0
            have hszc := lt_of_block Zc
            have hne : ¬ wr.heap.size = w.heap.size + 1 := by omega
            clear hwc dW k0 k1 k2 Zp G bel belw dV
            by_cases ro : x ≤ ah
            · have g1 : decide (x ≤ ah) = true := decide_eq_true ro
              go_wp2_with fail
              go_ret2
              refine ⟨belD, 6, ?_, .inl ⟨by omega, rfl⟩⟩
              have ht : M.Tn I N k = 6 := by unfold M.Tn M.turn; rw [← HX.out, ← HA.out, if_neg (by omega), if_pos ro]
              have := M.Look.ne (D := D) (E := E) ⟨hT, hN⟩ hlt HK.out (by rw [ht]; omega)
              rwa [ht] at this
            · have g1 : decide (x ≤ ah) = false := decide_eq_false ro
              have HT : Hid (M.Tn I N k = 0) := by
                have ht : M.Tn I N k = 0 := by unfold M.Tn M.turn; rw [← HX.out, ← HA.out, if_neg (by omega), if_neg ro]
                exact ht
              obtain ⟨z0, z1, z2, z3, z4, z5⟩ := six Zc
              have y5 := six_frozen Zc 5
              go_wp2_with fail
              go_region_law (refine step_appendI rfl (.tmp 64) (.tmp 67) rfl (w.heap.size + 2) k (.slice av k cv) I (by simp [Act.eval]) (by first | exact GC.below ((((Below.refl _ _).drew)).alloc (Nat.le_refl _) _) | exact GC.below ((((Below.refl _ _).alloc (Nat.le_refl _) _)).drew)) wc.heap.size (by simp [Act.eval]) (by go_simp; rw [HX.out]) (by omega) (by go_simp; omega) ?_; intro v' w' G' bel'; obtain ⟨av', cv', rfl, _⟩ := G'.rd; obtain ⟨z0', z1', z2', z3', z4', z5'⟩ := six ((bel'.block (w.heap.size + 1) (by omega)).trans ((Below.heap_alloc _ _ (w.heap.size + 1) hszc).trans Zc)); have y5' := six_frozen ((bel'.block (w.heap.size + 1) (by omega)).trans ((Below.heap_alloc _ _ (w.heap.size + 1) hszc).trans Zc)) 5)
              all_goals
                go_wp2_with fail
                refine ⟨⟨k + 1, .slice av' (k + 1) cv', by omega, by go_num, ?_, ?_, ?_, ?_⟩, by simp [intOf]; omega⟩
                · exact ((belC.drew.alloc (by exact Nat.le_of_lt hszc) _).trans (bel'.mono (by omega))).setCell (p := ⟨w.heap.size + 1, 5, none⟩) (Nat.le_refl _) _
                · exact six_set5 ((bel'.block (w.heap.size + 1) (by omega)).trans ((Below.heap_alloc _ _ (w.heap.size + 1) hszc).trans Zc)) _
                · exact ownsRow_setCell_below G' (by show w.heap.size + 1 < w.heap.size + 2; omega) _
                · intro j hj
                  rcases Nat.lt_or_eq_of_le (Nat.le_of_lt_succ hj) with h | rfl
                  · exact HK.out j h
                  · exact HT.out
    · have hkn : n = k := by omega
      subst hkn
      have rdw := hr.below belw
      obtain ⟨wa, hwa⟩ : ∃ wa, wa = wr := ⟨_, rfl⟩
      subst hwa
      obtain ⟨av, cv, rfl, _⟩ := G.rd
      have HR : Hid (RdC wa a n I D E) := rdw
      clear hr rdw Zr Z0 hsz
      go_wp2_with fail
      go_loopw [74] (fun i wr => ∃ k : Nat, k ≤ n ∧ i = .int .i64 k ∧ Below wa.heap.size wa wr ∧ Hid (∀ j, j < k → PRO (D j) ∧ PRO (E j))) (fun i _ => n - (intOf i).toNat)
      case atStart => exact ⟨0, Nat.zero_le _, rfl, Below.refl _ _, fun j hj => absurd hj (Nat.not_lt_zero j)⟩
      case round =>
        obtain ⟨k, hk, rfl, bel2, HP⟩ := hrel
        by_cases hlt : k < n
        · obtain ⟨b, o, rfl, hb, hc⟩ := HR.out.at (by omega)
          obtain ⟨q0, q1, q2⟩ := hc k hlt
          obtain ⟨x, hx⟩ : ∃ x, x = I k := ⟨_, rfl⟩
          obtain ⟨d, hd⟩ : ∃ d, d = D k := ⟨_, rfl⟩
          obtain ⟨e, he⟩ : ∃ e, e = E k := ⟨_, rfl⟩
          rw [← hx] at q0
          rw [← hd] at q1
          rw [← he] at q2
          have c0 := (bel2.cell (p := ⟨b, o + k * 3, none⟩) hb).trans q0
          have c1 := (bel2.cell (p := ⟨b, o + k * 3 + 1, none⟩) hb).trans q1
          have c2 := (bel2.cell (p := ⟨b, o + k * 3 + 2, none⟩) hb).trans q2
          have HD : Hid (d = D k) := hd
          have HE : Hid (e = E k) := he
          have hki : (k : Int) < n := by omega
          have belZ : Below w.heap.size w (wr.alloc (.cells #[.int .i64 x, .int .u64 (d : Int), .int .u64 (e : Int)] 98)) := (belw.trans (bel2.mono belw.size)).alloc (Nat.le_trans belw.size bel2.size) _
          have belY : Below wa.heap.size wa (wr.alloc (.cells #[.int .i64 x, .int .u64 (d : Int), .int .u64 (e : Int)] 98)) := bel2.alloc bel2.size _
          obtain ⟨p1, H1, C1⟩ := nonce_is d
          obtain ⟨p2, H2, C2⟩ := nonce_is e
          clear hx hd he q0 q1 q2 hc
          cases p1 with
          | false =>
            go_wp2_with fail
            refine (C1 _).mono ?_
            rintro ex w2 ⟨rfl, hw⟩
            subst hw
            go_wp2_with fail
            go_ret2
            exact ⟨belZ, 3, .inr (.inr (.inl ⟨⟨hT, hN⟩, HK.out, fun h => Bool.noConfusion (H1.out.2 (by rw [HD.out]; exact (h k hlt).1)), rfl⟩)), .inl ⟨by omega, rfl⟩⟩
          | true =>
            cases p2 with
            | false =>
              go_wp2_with fail
              refine (C1 _).mono ?_
              rintro ex w2 ⟨rfl, hw⟩
              subst hw
              go_wp2_with fail
              refine (C2 _).mono ?_
              rintro ex w2 ⟨rfl, hw⟩
              subst hw
              go_wp2_with fail
              go_ret2
              exact ⟨belZ, 3, .inr (.inr (.inl ⟨⟨hT, hN⟩, HK.out, fun h => Bool.noConfusion (H2.out.2 (by rw [HE.out]; exact (h k hlt).2)), rfl⟩)), .inl ⟨by omega, rfl⟩⟩
            | true =>
              have hpd : PRO d := H1.out.1 rfl
              have hpe : PRO e := H2.out.1 rfl
              go_wp2_with fail
              refine (C1 _).mono ?_
              rintro ex w2 ⟨rfl, hw⟩
              subst hw
              go_wp2_with fail
              refine (C2 _).mono ?_
              rintro ex w2 ⟨rfl, hw⟩
              subst hw
              clear C1 C2 belZ
              go_wp2_with fail
              go_roundw
              case rel =>
                refine ⟨k + 1, by omega, by go_num, belY, fun j hj => ?_⟩
                rcases Nat.lt_or_eq_of_le (Nat.le_of_lt_succ hj) with h | rfl
                · exact HP.out j h
                · exact ⟨by rw [← HD.out]; exact hpd, by rw [← HE.out]; exact hpe⟩
              case measure => simp [intOf]; omega
        · have hkn : n = k := by omega
          subst hkn
          go_wp2_with fail
          go_ret2
          refine ⟨belw.trans (bel2.mono belw.size), 0, .inr (.inr (.inr ⟨⟨hT, hN⟩, HK.out, HP.out, rfl⟩)), .inr ⟨rfl, w.heap.size + 1, rfl, by omega, .slice av n cv, (bel2.block _ (lt_of_block Zp)).trans Zp, ?_⟩⟩
          exact (GrowI.low G (by omega)).below bel2
end Go.Proofs.YteoioldbigomaaaGreat
