import Derived.Test.YteoioldbigomaabLst
import Derived.Test.YteoioldbigomaabPs
import Derived.Laws.CopyOwn
namespace Go.Proofs.Yteoioldbigomaab
open Go.RowKit

/-- A package of the program's: its group, its list. -/
structure BU (w : World) (gb T N ab o c : Nat) (f : Nat → Nat) (s : ByteArray) (la : Option Addr) (n : Nat) (I : Nat → Int) (D E : Nat → Nat) : Prop where
  gr : ∃ d, GB w gb N T (some ⟨ab, o, none⟩) c d 0 (fun _ => 0) 0
  rd : RdF w (some ⟨ab, o, none⟩) T (cu (M.sq f T))
  rl : RdC w la n I D E
  t1 : 1 ≤ T
  sz : s.size ≤ 65536
theorem BU.below {w w' : World} {gb T N ab o c : Nat} {f : Nat → Nat} {s : ByteArray} {la : Option Addr} {n : Nat} {I : Nat → Int} {D E : Nat → Nat} (h : BU w gb T N ab o c f s la n I D E) (b : Below w.heap.size w w') : BU w' gb T N ab o c f s la n I D E := by
  obtain ⟨d, G⟩ := h.gr
  exact ⟨⟨d, G.same (b.block gb G.lt)⟩, h.rd.below b, h.rl.below b, h.t1, h.sz⟩
abbrev bval (gb : Nat) (s : ByteArray) (la : Option Addr) (n lc : Nat) : Value := .agg #[.pointer (some ⟨gb, 0, none⟩), .string s, .slice la n lc]

theorem key_any {w : World} {gb T N ab o c : Nat} {f : Nat → Nat} {d : Int} (G : GB w gb N T (some ⟨ab, o, none⟩) c d 0 (fun _ => 0) 0) (rd : RdF w (some ⟨ab, o, none⟩) T (cu (M.sq f T))) (h1 : 1 ≤ T) :
    Calls Try.prog 56 #[.pointer (some ⟨gb, 0, none⟩)] w fun e w' => e = .returned (.int .u64 (f 0 : Nat)) ∧ w' = w := by
  obtain ⟨_, c1, _, _⟩ := G.cells
  obtain ⟨b, o', he, _, hc⟩ := rd.at (by omega)
  simp only [Option.some.injEq, Addr.mk.injEq, and_true] at he
  obtain ⟨rfl, rfl⟩ := he
  have hc0 := hc 0 (by omega)
  rw [M.cu_sq _ _ _ (by omega), Nat.add_zero] at hc0
  have hT : (0 : Int) < T := by omega
  obtain ⟨y, hy⟩ : ∃ y, y = f 0 := ⟨_, rfl⟩
  rw [← hy] at hc0 ⊢
  clear hc rd hy
  go_enter Try.func56, Try.ntmps56
  go_wp2_with fail
  go_ret
  exact ⟨rfl, rfl⟩
theorem threshold_any {w : World} {gb T N : Nat} {a : Option Addr} {c : Nat} {d m : Int} {p : Nat → Nat} {k : Nat} (G : GB w gb N T a c d m p k) :
    Calls Try.prog 69 #[.pointer (some ⟨gb, 0, none⟩)] w fun e w' => e = .returned (.int .i64 (T : Nat)) ∧ w' = w := by
  obtain ⟨_, c1, _, _⟩ := G.cells
  go_enter Try.func69, Try.ntmps69
  go_wp2_with fail
  go_ret
  exact ⟨rfl, rfl⟩

theorem RdC.chg {P : Nat → Prop} {w w1 : World} {a : Option Addr} {n : Nat} {I : Nat → Int} {D E : Nat → Nat} (h : RdC w a n I D E) (hg : Chg P w w1) (hne : ∀ x, a = some x → ¬ P x.block) : RdC w1 a n I D E := by
  rcases h with h | ⟨b, o, rfl, hlt, hc⟩
  · exact .inl h
  · have e : ∀ j, w1.cell? ⟨b, j, none⟩ = w.cell? ⟨b, j, none⟩ := fun j => World.cell?_of_block (w := w) (hg.block b hlt (hne _ rfl))
    refine .inr ⟨b, o, rfl, Nat.lt_of_lt_of_le hlt hg.size, fun i hi => ?_⟩
    rw [e, e, e]
    exact hc i hi

/-- copy, of elements of several cells. -/
theorem run_copy_rows {P : Program} (w : World) (dT sT ty elem : TypeId) (g dLen dCap : Nat) (a : Addr) (sLen sCap sz : Nat) (cur : Array Value) (t : TypeId) (cs : List Value)
    (hu : P.underlying dT = some (.slice elem)) (hs : (P.info? elem).map (·.size) = some sz)
    (hg : w.heap[g]? = some (.cells cur t (0, 0))) (hn : cs.length = Nat.min sLen dLen * sz)
    (hsrc : ∀ j v, cs[j]? = some v → w.cell? (a.add j) = some v) (hfit : cs.length ≤ cur.size) (h1 : ∀ v ∈ cs, v.oneCell' = true) :
    (Builtin.copy_ #[dT, sT] ty #[.slice (some ⟨g, 0, none⟩) dLen dCap, .slice (some a) sLen sCap]).run P w =
      .ok (goInt (Nat.min sLen dLen)) (w.setRow g (cs ++ cur.toList.drop cs.length).toArray) := by
  have hl := run_loadCells_list (P := P) w a cs hsrc
  have hst := run_storeCells_at P g 0 t cs 0 cur w hg (by simpa using hfit) h1
  cases hq : P.info? elem with
  | none => simp [hq] at hs
  | some i =>
    have hi : i.size = sz := by simpa [hq] using hs
    simp at hst
    simp [Builtin.copy_, run_underlying hu, Builtin.lenOf, Builtin.firstCells, sizeOf, typeInfo, hq, hi, ← hn, hl, hst]
theorem run_copy_zero {P : Program} (w : World) (dT sT ty elem : TypeId) (d a : Option Addr) (dCap sCap sz : Nat) (hu : P.underlying dT = some (.slice elem)) (hs : (P.info? elem).map (·.size) = some sz) :
    (Builtin.copy_ #[dT, sT] ty #[.slice d 0 dCap, .slice a 0 sCap]).run P w = .ok (goInt 0) w := by
  cases hq : P.info? elem with
  | none => simp [hq] at hs
  | some i =>
    have hl : ∀ (x : Addr), (loadCells x 0).run P w = .ok #[] w := fun x => by simpa using run_loadCells_list (P := P) w x [] (by simp)
    cases d <;> cases a <;> simp [Builtin.copy_, run_underlying hu, Builtin.lenOf, Builtin.firstCells, sizeOf, typeInfo, hq, storeCells, hl]
theorem Try.size48 : (Try.prog.info? 40).map (·.size) = some 3 := by kernel_rfl

/-- 'copy(own, l)', own new and as long as l. -/
theorem run_copyC (w : World) (ty : TypeId) (B g n lc : Nat) (la : Option Addr) (xs : List Value) (I : Nat → Int) (D E : Nat → Nat)
    (hown : w.ownsRow B 40 3 (.slice (some ⟨g, 0, none⟩) n n) n xs) (hr : RdC w la n I D E) :
    ∃ w', (Builtin.copy_ #[43, 43] ty #[.slice (some ⟨g, 0, none⟩) n n, .slice la n lc]).run Try.prog w = .ok (.int .i64 n) w' ∧ RdC w' (some ⟨g, 0, none⟩) n I D E ∧ Below B w w' := by
  by_cases h0 : n = 0
  · subst h0
    exact ⟨w, run_copy_zero (P := Try.prog) w 43 43 ty 40 (some ⟨g, 0, none⟩) la 0 lc 3 Try.underlying43 Try.size48, .inl rfl, Below.refl _ _⟩
  · rcases hown.2 with ⟨_, h⟩ | ⟨g', cap, cur, hv, hB, hgb, hnc, _, hsz, htk⟩
    · exact absurd h h0
    · simp only [Value.slice.injEq, Option.some.injEq, Addr.mk.injEq, and_true, true_and] at hv
      obtain ⟨rfl, rfl⟩ := hv
      obtain ⟨b, off, rfl, hlt, hc⟩ := hr.at (by omega)
      have hlen := cl_len I D E n
      have hrun := run_copy_rows (P := Try.prog) w 43 43 ty 40 g n n ⟨b, off, none⟩ n lc 3 cur 40 (cl I D E n) Try.underlying43 Try.size48 hgb (by rw [hlen]; simp) ?_ (by omega) cl_one
      · have hwb := setRow_heap w g cur (cl I D E n ++ cur.toList.drop (cl I D E n).length).toArray 40 (0, 0) hgb
        refine ⟨_, by rw [hrun]; simp [goInt], .inr ⟨g, 0, rfl, lt_of_block hwb, fun i hi => ?_⟩, below_setRow (Below.refl _ _) hB _⟩
        obtain ⟨c0, c1, c2⟩ := cl_at I D E n i hi
        have e : ∀ j u, (cl I D E n)[j]? = some u → (w.setRow g (cl I D E n ++ cur.toList.drop (cl I D E n).length).toArray).cell? ⟨g, j, none⟩ = some u := by
          intro j u hj
          have hj' := (List.getElem?_eq_some_iff.1 hj).1
          simp only [World.cell?, hwb]
          rw [List.getElem?_toArray, List.getElem?_append_left hj']
          exact hj
        simp only [Nat.zero_add]
        exact ⟨e _ _ c0, e _ _ c1, e _ _ c2⟩
      · intro j u hj
        obtain ⟨i, r, hin, hr3, rfl, rfl⟩ := cl_get hj
        obtain ⟨c0, c1, c2⟩ := hc i hin
        rw [addr_add]
        match r, hr3 with
        | 0, _ => exact c0
        | 1, _ => rw [← Nat.add_assoc]; exact c1
        | 2, _ => rw [← Nat.add_assoc]; exact c2

set_option maxHeartbeats 1000000 in
set_option maxRecDepth 100000 in
theorem newBundle_any (gb : Nat) (s : ByteArray) (la : Option Addr) (n lc : Nat) (I : Nat → Int) (D E : Nat → Nat) (w : World) (hr : RdC w la n I D E) (hn : n ≤ 65536) :
    Calls Try.prog 30 #[.pointer (some ⟨gb, 0, none⟩), .string s, .slice la n lc] w fun e w' => Below w.heap.size w w' ∧ ∃ b, w.heap.size ≤ b ∧ e = .returned (bval gb s (some ⟨b, 0, none⟩) n n) ∧ RdC w' (some ⟨b, 0, none⟩) n I D E := by
  obtain ⟨i0, hi, hz0, hz1, hz2⟩ := info_parts Try.info40
  have hle : n ≤ maxLen := by unfold maxLen; omega
  obtain ⟨W, hW⟩ : ∃ W, w.alloc (.cells #[.pointer none, .string ⟨#[]⟩, .slice none 0 0] 83) = W := ⟨_, rfl⟩
  have B1 := below_alloc w (.cells #[.pointer none, .string ⟨#[]⟩, .slice none 0 0] 83)
  have z1 := heap_alloc_new w (.cells #[.pointer none, .string ⟨#[]⟩, .slice none 0 0] 83)
  rw [hW] at B1 z1
  have hr1 := hr.below B1
  have hwW : w.heap.size < W.heap.size := lt_of_block z1
  go_enter Try.func30, Try.ntmps30
  go_upto_region 1 with fail
  clear hW hr
  go_wp2_with (at_make; refine wpList_make_full _ rfl _ _ 43 rfl W.heap.size 40 i0 (.agg #[.int .i64 0, .int .u64 0, .int .u64 0]) 3 Try.underlying43 hi hz0 hz1 .i64 .i64 _ _ n rfl rfl (by omega) (by omega) (by rw [hz2]; omega) (by assumption) (Nat.le_refl _) ?_; intro w2 hown hgrow)
  have b2 := below_made hgrow
  have hr2 := hr1.below b2
  have z2 := (b2.block w.heap.size hwW).trans z1
  have hW2 := b2.size
  clear hi hz0 hz1 hz2
  obtain ⟨w3, hrun, hr3, b3⟩ := run_copyC w2 3 W.heap.size W.heap.size n lc la _ I D E hown hr2
  have z3 := (b3.block w.heap.size hwW).trans z2
  obtain ⟨y0, y1, y2, x0, x1, x2⟩ := three z3
  have bw3 : Below w.heap.size w w3 := (B1.trans (b2.mono B1.size)).trans (b3.mono (Nat.le_of_lt hwW))
  clear hown hgrow hr1 hr2
  go_wp2_with fail
  rw [hrun]
  go_wp2_with fail
  have b4 : Below w.heap.size w (((w3.setCell ⟨w.heap.size, 0, none⟩ (.pointer (some ⟨gb, 0, none⟩))).setCell ⟨w.heap.size, 1, none⟩ (.string s)).setCell ⟨w.heap.size, 2, none⟩ (.slice (some ⟨W.heap.size, 0, none⟩) n n)) :=
    ((bw3.setCell (p := ⟨w.heap.size, 0, none⟩) (Nat.le_refl _) _).setCell (p := ⟨w.heap.size, 1, none⟩) (Nat.le_refl _) _).setCell (p := ⟨w.heap.size, 2, none⟩) (Nat.le_refl _) _
  have z4 := three_set z3 (.pointer (some ⟨gb, 0, none⟩)) (.string s) (.slice (some ⟨W.heap.size, 0, none⟩) n n)
  obtain ⟨q0, q1, q2, _, _, _⟩ := three z4
  refine bodyPost_ret (v := bval gb s (some ⟨W.heap.size, 0, none⟩) n n) (by simp [results, Try.results30, go_sem, *]) rfl ?_
  refine ⟨b4, W.heap.size, Nat.le_of_lt hwW, rfl, hr3.chg (chg_set3 w3 w.heap.size _ _ _) ?_⟩
  intro x hx he
  simp only [Option.some.injEq] at hx
  subst hx
  have he' : W.heap.size = w.heap.size := he
  omega
end Go.Proofs.Yteoioldbigomaab
