import Derived.Test.YteoioldbigomaaaSlow
namespace Go.Proofs.Yteoioldbigomaaa
open Go.RowKit

/-- A group that is one. -/
structure RightG (t n : Int) (len : Nat) (f : Nat → Nat) : Prop where
  fit : Fits t n len
  els : ∀ i, i < len → ISE (f i)
  one : f 0 ≠ 1

/-- A group as it lies in memory. -/
abbrev gro (t n : Int) (a : Option Addr) (len c : Nat) : Obj := .cells #[.int .i64 t, .int .i64 n, .slice a len c] 24
theorem gro_new (w : World) (t n : Int) (a : Option Addr) (len c : Nat) : (w.alloc (gro t n a len c)).heap[w.heap.size]? = some (.cells #[.int .i64 t, .int .i64 n, .slice a len c] 24 (0, 0)) := heap_alloc_new w _

set_option maxHeartbeats 400000 in
theorem newGroup_fit (t n : Int) (a : Option Addr) (len c : Nat) (w : World) (h : ¬ Fits t n len) :
    Calls Try.prog 57 #[.agg #[.int .i64 t, .int .i64 n, .slice a len c]] w fun e w' => Below w.heap.size w w' ∧ e = .returned (.tuple #[.pointer none, .int .i64 4]) := by
  go_enter Try.func57, Try.ntmps57
  go_wp2_with (go_at_call 23; refine (fit_no _ _ _ _ h).mono ?_; rintro e w' ⟨rfl, rfl⟩)
  go_ret2
  exact ⟨below_alloc _ _, rfl⟩

set_option maxHeartbeats 400000 in
theorem newGroup_els (t n : Int) (a : Option Addr) (len c : Nat) (f : Nat → Nat) (w : World) (h : Fits t n len) (hr : RdF w a len (cu (M.sq f len))) (hl : ¬ ∀ i, i < len → ISE (f i)) :
    Calls Try.prog 57 #[.agg #[.int .i64 t, .int .i64 n, .slice a len c]] w fun e w' => Below w.heap.size w w' ∧ e = .returned (.tuple #[.pointer none, .int .i64 4]) := by
  have hT : len ≤ 65536 := by obtain ⟨h1, h2, h3, h4⟩ := h; omega
  have B := below_alloc w (gro t n a len c)
  have C := allEl_no a c len f _ hT (hr.below B) hl
  clear hl hr
  go_enter Try.func57, Try.ntmps57
  go_wp2_with (first | (go_at_call 23; refine (fit_yes _ _ _ _ h).mono ?_; rintro e w' ⟨rfl, rfl⟩) | (go_at_call 63; refine C.mono ?_; rintro e w2 ⟨bel, rfl⟩))
  go_ret2
  exact ⟨B.trans (bel.mono B.size), rfl⟩

set_option maxHeartbeats 400000 in
theorem newGroup_one (t n : Int) (a : Option Addr) (len c : Nat) (f : Nat → Nat) (w : World) (h : Fits t n len) (hr : RdF w a len (cu (M.sq f len))) (hl : ∀ i, i < len → ISE (f i)) (h1 : f 0 = 1) :
    Calls Try.prog 57 #[.agg #[.int .i64 t, .int .i64 n, .slice a len c]] w fun e w' => Below w.heap.size w w' ∧ e = .returned (.tuple #[.pointer none, .int .i64 4]) := by
  have hT : len ≤ 65536 := by obtain ⟨h1, h2, h3, h4⟩ := h; omega
  have hT0 : 0 < len := by obtain ⟨h1, h2, h3, h4⟩ := h; omega
  have B := below_alloc w (gro t n a len c)
  have C := allEl_yes a c len f _ hT (hr.below B) hl
  have H1 : Hid (f 0 = 1) := h1
  clear hl hr h1
  go_enter Try.func57, Try.ntmps57
  go_wp2_with (first | (go_at_call 23; refine (fit_yes _ _ _ _ h).mono ?_; rintro e w' ⟨rfl, rfl⟩) | (go_at_call 63; refine C.mono ?_; rintro e w2 ⟨bel, g, hgn, rfl, rd⟩; have hg0 : w2.cell? ⟨g, 0, none⟩ = some (.int .u64 1) := rd_first rd hT0 H1.out))
  go_ret2
  exact ⟨B.trans (bel.mono B.size), rfl⟩

set_option maxHeartbeats 400000 in
theorem newGroup_ok (a : Option Addr) (N T c : Nat) (f : Nat → Nat) (w : World) (hr : RdF w a T (cu (M.sq f T))) (h : RightG T N T f) :
    Calls Try.prog 57 #[.agg #[.int .i64 T, .int .i64 N, .slice a T c]] w fun e w' => Below w.heap.size w w' ∧
      ∃ g a' c', e = .returned (.tuple #[.pointer (some ⟨g, 0, none⟩), .int .i64 0]) ∧ w.heap.size ≤ g ∧ GB w' g N T a' c' 0 0 (fun i => M.pub f T (i + 1)) 0 ∧ RdF w' a' T (cu (M.sq f T)) ∧ (∀ x, a' = some x → x.block ≠ g) ∧ (∀ x, a' = some x → w.heap.size ≤ x.block) := by
  obtain ⟨hfit, hl, h1⟩ := h
  have hT : T ≤ 65536 := by obtain ⟨h1, h2, h3, h4⟩ := hfit; omega
  have hT0 : 0 < T := by obtain ⟨h1, h2, h3, h4⟩ := hfit; omega
  have B := below_alloc w (gro T N a T c)
  have Z := gro_new w T N a T c
  have zs := size_alloc w (gro T N a T c)
  have C := allEl_yes a c T f _ hT (hr.below B) hl
  obtain ⟨x0, hx0⟩ : ∃ x0, x0 = f 0 := ⟨_, rfl⟩
  have hne : ((x0 : Int) == 1) = false := by rw [hx0]; simp; omega
  have HX : Hid (f 0 = x0) := hx0.symm
  clear hl hr h1 hx0
  go_enter Try.func57, Try.ntmps57
  go_wp2_with (first | (go_at_call 23; refine (fit_yes _ _ _ _ hfit).mono ?_; rintro e w' ⟨rfl, rfl⟩) | (go_at_call 63; refine C.mono ?_; rintro e w2 ⟨bel, g, hgn, rfl, rd⟩; have hg0 : w2.cell? ⟨g, 0, none⟩ = some (.int .u64 (x0 : Int)) := rd_first rd hT0 HX.out; obtain ⟨z0, z1, z2, y0, y1, y2⟩ := three ((bel.block w.heap.size (by omega)).trans Z)))
  go_ret2
  have hgl : g < w2.heap.size := by
    obtain ⟨b, o, e, hb, _⟩ := rd.at hT0
    simp only [Option.some.injEq, Addr.mk.injEq] at e
    omega
  have hsz : w.heap.size ≤ w2.heap.size := Nat.le_trans B.size bel.size
  refine ⟨(B.trans (bel.mono B.size)).alloc hsz _, w2.heap.size, some ⟨g, 0, none⟩, T, rfl, hsz, ⟨_, heap_alloc_new _ _, rfl, rfl, rfl, rfl, rfl, fun i hi => absurd hi (Nat.not_lt_zero _)⟩, rd.below (below_alloc _ _), fun x hx => ?_, fun x hx => ?_⟩
  · simp only [Option.some.injEq] at hx
    subst hx
    exact Nat.ne_of_lt hgl
  · simp only [Option.some.injEq] at hx
    subst hx
    exact Nat.le_trans B.size hgn
end Go.Proofs.Yteoioldbigomaaa
