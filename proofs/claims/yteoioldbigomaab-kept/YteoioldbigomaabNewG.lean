import Derived.Test.YteoioldbigomaabOnce
namespace Go.Proofs.Yteoioldbigomaab
open Go.RowKit

/-- A group that is one. -/
structure RightG (t n : Int) (len : Nat) (f : Nat → Nat) : Prop where
  fit : Fits t n len
  els : ∀ i, i < len → ISE (f i)
  one : f 0 ≠ 1

/-- A group as it lies in memory. -/
abbrev gro (t n : Int) (a : Option Addr) (len c : Nat) : Obj := .cells #[.int .i64 t, .int .i64 n, .slice a len c] 25
theorem gro_new (w : World) (t n : Int) (a : Option Addr) (len c : Nat) : (w.alloc (gro t n a len c)).heap[w.heap.size]? = some (.cells #[.int .i64 t, .int .i64 n, .slice a len c] 25 (0, 0)) := heap_alloc_new w _

set_option maxHeartbeats 400000 in
theorem newGroup_fit (t n : Int) (a : Option Addr) (len c : Nat) (w : World) (h : ¬ Fits t n len) :
    Calls Try.prog 45 #[.agg #[.int .i64 t, .int .i64 n, .slice a len c]] w fun e w' => Below w.heap.size w w' ∧ e = .returned (.tuple #[.pointer none, .int .i64 4]) := by
  go_enter Try.func45, Try.ntmps45
  go_wp2_with (go_at_call 41; refine (fit_no _ _ _ _ h).mono ?_; rintro e w' ⟨rfl, rfl⟩)
  go_ret2
  exact ⟨below_alloc _ _, rfl⟩

set_option maxHeartbeats 400000 in
theorem newGroup_els (t n : Int) (a : Option Addr) (len c : Nat) (f : Nat → Nat) (w : World) (h : Fits t n len) (hr : RdF w a len (cu (M.sq f len))) (hl : ¬ ∀ i, i < len → ISE (f i)) :
    Calls Try.prog 45 #[.agg #[.int .i64 t, .int .i64 n, .slice a len c]] w fun e w' => Below w.heap.size w w' ∧ e = .returned (.tuple #[.pointer none, .int .i64 4]) := by
  have hT : len ≤ 65536 := by obtain ⟨h1, h2, h3, h4⟩ := h; omega
  have B := below_alloc w (gro t n a len c)
  have C := allEl_no a c len f _ hT (hr.below B) hl
  clear hl hr
  go_enter Try.func45, Try.ntmps45
  go_wp2_with (first | (go_at_call 41; refine (fit_yes _ _ _ _ h).mono ?_; rintro e w' ⟨rfl, rfl⟩) | (go_at_call 62; refine C.mono ?_; rintro e w2 ⟨bel, rfl⟩))
  go_ret2
  exact ⟨B.trans (bel.mono B.size), rfl⟩

set_option maxHeartbeats 400000 in
theorem newGroup_one (t n : Int) (a : Option Addr) (len c : Nat) (f : Nat → Nat) (w : World) (h : Fits t n len) (hr : RdF w a len (cu (M.sq f len))) (hl : ∀ i, i < len → ISE (f i)) (h1 : f 0 = 1) :
    Calls Try.prog 45 #[.agg #[.int .i64 t, .int .i64 n, .slice a len c]] w fun e w' => Below w.heap.size w w' ∧ e = .returned (.tuple #[.pointer none, .int .i64 4]) := by
  have hT : len ≤ 65536 := by obtain ⟨h1, h2, h3, h4⟩ := h; omega
  have hT0 : 0 < len := by obtain ⟨h1, h2, h3, h4⟩ := h; omega
  have B := below_alloc w (gro t n a len c)
  have C := allEl_yes a c len f _ hT (hr.below B) hl
  have H1 : Hid (f 0 = 1) := h1
  clear hl hr h1
  go_enter Try.func45, Try.ntmps45
  go_wp2_with (first | (go_at_call 41; refine (fit_yes _ _ _ _ h).mono ?_; rintro e w' ⟨rfl, rfl⟩) | (go_at_call 62; refine C.mono ?_; rintro e w2 ⟨bel, g, hgn, rfl, rd⟩; have hg0 : w2.cell? ⟨g, 0, none⟩ = some (.int .u64 1) := rd_first rd hT0 H1.out))
  go_ret2
  exact ⟨B.trans (bel.mono B.size), rfl⟩

set_option maxHeartbeats 400000 in
theorem newGroup_ok (a : Option Addr) (N T c : Nat) (f : Nat → Nat) (w : World) (hr : RdF w a T (cu (M.sq f T))) (h : RightG T N T f) :
    Calls Try.prog 45 #[.agg #[.int .i64 T, .int .i64 N, .slice a T c]] w fun e w' => Below w.heap.size w w' ∧
      ∃ g a' c', e = .returned (.tuple #[.pointer (some ⟨g, 0, none⟩), .int .i64 0]) ∧ w.heap.size ≤ g ∧ GB w' g N T a' c' 0 0 (fun i => M.pub f T (i + 1)) 0 ∧ RdF w' a' T (cu (M.sq f T)) ∧ (∀ x, a' = some x → x.block ≠ g) ∧ (∀ x, a' = some x → w.heap.size ≤ x.block) := by
  obtain ⟨hfit, hl, h1⟩ := h
  have hT : T ≤ 65536 := by obtain ⟨h1, h2, h3, h4⟩ := hfit; omega
  have hT0 : 0 < T := by obtain ⟨h1, h2, h3, h4⟩ := hfit; omega
  have B := below_alloc w (gro T N a T c)
  have Z := gro_new w T N a T c
  have zs := size_alloc w (gro T N a T c)
  have C := allEl_yes a c T f _ hT (hr.below B) hl
  obtain ⟨x0, hx0⟩ : ∃ x0, x0 = f 0 := ⟨_, rfl⟩
  have hne : ((x0 : Int) == 1) = false := by rw [hx0]; simp; omega
  have HX : Hid (f 0 = x0) := hx0.symm
  clear hl hr h1 hx0
  go_enter Try.func45, Try.ntmps45
  go_wp2_with (first | (go_at_call 41; refine (fit_yes _ _ _ _ hfit).mono ?_; rintro e w' ⟨rfl, rfl⟩) | (go_at_call 62; refine C.mono ?_; rintro e w2 ⟨bel, g, hgn, rfl, rd⟩; have hg0 : w2.cell? ⟨g, 0, none⟩ = some (.int .u64 (x0 : Int)) := rd_first rd hT0 HX.out; obtain ⟨z0, z1, z2, y0, y1, y2⟩ := three ((bel.block w.heap.size (by omega)).trans Z)))
  go_ret2
  have hgl : g < w2.heap.size := by
    obtain ⟨b, o, e, hb, _⟩ := rd.at hT0
    simp only [Option.some.injEq, Addr.mk.injEq] at e
    omega
  have hsz : w.heap.size ≤ w2.heap.size := Nat.le_trans B.size bel.size
  refine ⟨(B.trans (bel.mono B.size)).alloc hsz _, w2.heap.size, some ⟨g, 0, none⟩, T, rfl, hsz, ⟨_, heap_alloc_new _ _, rfl, rfl, rfl, rfl, rfl, fun i hi => absurd hi (Nat.not_lt_zero _)⟩, rd.below (below_alloc _ _), fun x hx => ?_, fun x hx => ?_⟩
  · simp only [Option.some.injEq] at hx
    subst hx
    exact Nat.ne_of_lt hgl
  · simp only [Option.some.injEq] at hx
    subst hx
    exact Nat.le_trans B.size hgn
end Go.Proofs.Yteoioldbigomaab
namespace Go.Proofs.Yteoioldbigomaab
open Go.RowKit

theorem has_any (g N : Nat) (id : Int) (w : World) (h : w.cell? ⟨g, 0, none⟩ = some (.int .i64 N)) :
    Calls Try.prog 46 #[.pointer (some ⟨g, 0, none⟩), .int .i64 id] w fun e w' => e = .returned (.bool (decide (1 ≤ id ∧ id ≤ N))) ∧ w' = w := by
  by_cases h1 : 1 ≤ id
  · go_enter Try.func46, Try.ntmps46
    go_wp2_with fail
    go_ret
    exact ⟨by simp [h1], rfl⟩
  · go_enter Try.func46, Try.ntmps46
    go_wp2_with fail
    go_ret
    refine ⟨?_, rfl⟩
    have : ¬ (1 : Int) ≤ id := by omega
    rw [decide_eq_false this]
    rfl

theorem beq_cast (a b : Nat) : ((a : Int) == (b : Int)) = decide (a = b) := by
  by_cases h : a = b
  · subst h; simp
  · have : ¬ (a : Int) = b := by omega
    simp [h, this]

theorem ret2 {b b' : Bool} {e e' : Int} (h : b = b') (k : e = e') : Ending.returned (.tuple #[.bool b, .int .i64 e]) = .returned (.tuple #[.bool b', .int .i64 e']) := by rw [h, k]

/-- newGroup, of what is no group. -/
theorem newGroup_no (t n : Int) (a : Option Addr) (len c : Nat) (f : Nat → Nat) (w : World) (hr : RdF w a len (cu (M.sq f len))) (h : ¬ RightG t n len f) :
    Calls Try.prog 45 #[.agg #[.int .i64 t, .int .i64 n, .slice a len c]] w fun e w'' => Below w.heap.size w w'' ∧ e = .returned (.tuple #[.pointer none, .int .i64 4]) := by
  by_cases h1 : Fits t n len
  · by_cases h2 : ∀ i, i < len → ISE (f i)
    · by_cases h3 : f 0 = 1
      · exact newGroup_one t n a len c f w h1 hr h2 h3
      · exact absurd ⟨h1, h2, h3⟩ h
    · exact newGroup_els t n a len c f w h1 hr h2
  · exact newGroup_fit t n a len c w h1

set_option maxHeartbeats 400000 in
theorem claim_group (t n id : Int) (a : Option Addr) (len c sh : Nat) (f : Nat → Nat) (w : World) (hr : RdF w a len (cu (M.sq f len))) (h : ¬ RightG t n len f) :
    Calls Try.prog 16 #[.agg #[.int .i64 t, .int .i64 n, .slice a len c], .int .i64 id, .int .u64 sh] w fun e w' => e = .returned (.tuple #[.pointer none, .int .u64 0, .int .i64 4]) ∧ Below w.heap.size w w' := by
  have B := below_alloc w (gro t n a len c)
  have C := newGroup_no t n a len c f _ (hr.below B) h
  clear h hr
  go_enter Try.func16, Try.ntmps16
  go_wp2_with (go_at_call 45; refine C.mono ?_; rintro e w2 ⟨bel, rfl⟩)
  go_ret3
  exact ⟨rfl, B.trans (bel.mono B.size)⟩

set_option maxHeartbeats 1000000 in
theorem claim_ok (id : Int) (a : Option Addr) (N T c sh : Nat) (f : Nat → Nat) (w : World) (hr : RdF w a T (cu (M.sq f T))) (h : RightG T N T f) :
    Calls Try.prog 16 #[.agg #[.int .i64 T, .int .i64 N, .slice a T c], .int .i64 id, .int .u64 sh] w fun e w' => Below w.heap.size w w' ∧
      ((¬ (1 ≤ id ∧ id ≤ N) ∧ e = .returned (.tuple #[.pointer none, .int .u64 0, .int .i64 5])) ∨
       ((1 ≤ id ∧ id ≤ N) ∧ ¬ SC sh ∧ e = .returned (.tuple #[.pointer none, .int .u64 0, .int .i64 2])) ∨
       ((1 ≤ id ∧ id ≤ N) ∧ SC sh ∧ ∃ g a' c', e = .returned (.tuple #[.pointer (some ⟨g, 0, none⟩), .int .u64 sh, .int .i64 0]) ∧ w.heap.size ≤ g ∧ GB w' g N T a' c' 0 0 (fun i => M.pub f T (i + 1)) 0 ∧ RdF w' a' T (cu (M.sq f T)) ∧
         (∀ x, a' = some x → x.block ≠ g) ∧ (∀ x, a' = some x → w.heap.size ≤ x.block))) := by
  have B := below_alloc w (gro T N a T c)
  have C := newGroup_ok a N T c f _ (hr.below B) h
  clear h hr
  by_cases hid : 1 ≤ id ∧ id ≤ N
  · by_cases hs : SC sh
    · obtain ⟨k, rfl⟩ : ∃ k : Nat, id = k := ⟨id.toNat, by omega⟩
      go_enter Try.func16, Try.ntmps16
      go_wp2_with (first | (go_at_call 45; refine C.mono ?_; rintro e w2 ⟨bel, g, a', c', rfl, hg, G, rd, hne, hnew⟩) | (go_at_call 46; refine (has_any g N _ _ G.cells.1).mono ?_; rintro e w3 ⟨rfl, hw3⟩; subst hw3; rw [decide_eq_true hid]) | (go_at_call 19; refine (scalarOf_yes _ _ hs).mono ?_; rintro e w3 ⟨rfl, hw3⟩; subst hw3))
      go_ret3
      exact ⟨B.trans (bel.mono B.size), .inr (.inr ⟨hid, hs, g, a', c', rfl, Nat.le_trans B.size hg, G, rd, hne, fun x hx => Nat.le_trans B.size (hnew x hx)⟩)⟩
    · go_enter Try.func16, Try.ntmps16
      go_wp2_with (first | (go_at_call 45; refine C.mono ?_; rintro e w2 ⟨bel, g, a', c', rfl, hg, G, rd, hne, hnew⟩) | (go_at_call 46; refine (has_any g N _ _ G.cells.1).mono ?_; rintro e w3 ⟨rfl, hw3⟩; subst hw3; rw [decide_eq_true hid]) | (go_at_call 19; refine (scalarOf_no _ _ hs).mono ?_; rintro e w3 ⟨rfl, hw3⟩; subst hw3))
      go_ret3
      exact ⟨B.trans (bel.mono B.size), .inr (.inl ⟨hid, hs, rfl⟩)⟩
  · go_enter Try.func16, Try.ntmps16
    go_wp2_with (first | (go_at_call 45; refine C.mono ?_; rintro e w2 ⟨bel, g, a', c', rfl, hg, G, rd, hne, hnew⟩) | (go_at_call 46; refine (has_any g N _ _ G.cells.1).mono ?_; rintro e w3 ⟨rfl, hw3⟩; subst hw3; rw [decide_eq_false hid]))
    go_ret3
    exact ⟨B.trans (bel.mono B.size), .inl ⟨hid, rfl⟩⟩

set_option maxHeartbeats 400000 in
theorem gave_any (g N T id sh : Nat) (a : Option Addr) (c : Nat) (f : Nat → Nat) (w : World) (hN : N ≤ 9) (hT : T ≤ 65536) (hf : ∀ i, i < T → EL (f i)) (G : GB w g N T a c 0 0 (fun i => M.pub f T (i + 1)) 0)
    (rd : RdF w a T (cu (M.sq f T))) (hne : ∀ x, a = some x → x.block ≠ g) (h1 : 1 ≤ id) (h2 : id ≤ N) (hs : SC sh) :
    Calls Try.prog 17 #[.pointer (some ⟨g, 0, none⟩), .int .i64 id, .int .u64 sh] w fun e w' => e = .returned (.bool (decide (M.pw 2147483579 4 sh = M.pub f T id))) ∧ w.grownBy w' (some g) ∧ GB w' g N T a c 1 0 (fun i => M.pub f T (i + 1)) N := by
  have C := public_any g N T id a c f w hN hT hf G rd hne h1 h2
  clear hf hne rd
  go_enter Try.func17, Try.ntmps17
  go_wp2_with (first | (go_at_call 28; refine (toThe_any _ _ hs).mono ?_; rintro e w3 ⟨rfl, hw3⟩; subst hw3) | (go_at_call 47; refine C.mono ?_; rintro e w4 ⟨rfl, gr, G4⟩))
  go_ret
  exact ⟨congrArg (fun b => Ending.returned (.bool b)) (beq_cast _ _), gr, G4⟩
end Go.Proofs.Yteoioldbigomaab
