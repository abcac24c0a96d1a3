import Derived.Test.YteoioldbigomaaaFit
namespace Go.Proofs.Yteoioldbigomaaa
open Go.RowKit

theorem allS_yes (a : Option Addr) (c n : Nat) (f : Nat → Nat) (w : World) (hlen : n ≤ 65536) (hr : RdF w a n (cu (M.sq f n))) (hl : ∀ i, i < n → SC (f i)) :
    Calls Try.prog 24 #[.func (.func 25) #[] #[], .slice a n c] w fun e w' => Below w.heap.size w w' ∧
      ∃ g, e = .returned (.tuple #[.slice (some ⟨g, 0, none⟩) n n, .bool true]) ∧ RdF w' (some ⟨g, 0, none⟩) n (cu (M.sq f n)) := by
  have h := all_core a c (M.sq f n) w
  rw [M.sq_len] at h
  refine (h hlen hr).mono fun e w' h => ⟨h.1, ?_⟩
  rcases h.2 with h | h
  · exact h.2
  · exact absurd (fun x hx => by obtain ⟨i, hi, rfl⟩ := M.sq_mem hx; exact hl i hi) h.1

theorem allS_no (a : Option Addr) (c n : Nat) (f : Nat → Nat) (w : World) (hlen : n ≤ 65536) (hr : RdF w a n (cu (M.sq f n))) (hl : ¬ ∀ i, i < n → SC (f i)) :
    Calls Try.prog 24 #[.func (.func 25) #[] #[], .slice a n c] w fun e w' => Below w.heap.size w w' ∧ e = .returned (.tuple #[.slice none 0 0, .bool false]) := by
  have h := all_core a c (M.sq f n) w
  rw [M.sq_len] at h
  refine (h hlen hr).mono fun e w' h => ⟨h.1, ?_⟩
  rcases h.2 with h | h
  · exact absurd (fun i hi => h.1 (f i) (by unfold M.sq; exact List.mem_map.2 ⟨i, by simpa using hi, rfl⟩)) hl
  · exact h.2

theorem three {w : World} {b : Nat} {x0 x1 x2 : Value} {t : TypeId} (h : w.heap[b]? = some (.cells #[x0, x1, x2] t (0, 0))) :
    w.cell? ⟨b, 0, none⟩ = some x0 ∧ w.cell? ⟨b, 1, none⟩ = some x1 ∧ w.cell? ⟨b, 2, none⟩ = some x2 ∧ w.frozen? ⟨b, 0, none⟩ = false ∧ w.frozen? ⟨b, 1, none⟩ = false ∧ w.frozen? ⟨b, 2, none⟩ = false := by
  simp [World.cell?, World.frozen?, h]

/-- The zero group. -/
abbrev zg : Obj := .cells #[.int .i64 0, .int .i64 0, .slice none 0 0] 24

theorem zg_new (w : World) : (w.alloc zg).heap[w.heap.size]? = some (.cells #[.int .i64 0, .int .i64 0, .slice none 0 0] 24 (0, 0)) := heap_alloc_new w zg
theorem below_alloc (w : World) (o : Obj) : Below w.heap.size w (w.alloc o) := (Below.refl _ _).alloc (Nat.le_refl _) _
theorem size_alloc (w : World) (o : Obj) : (w.alloc o).heap.size = w.heap.size + 1 := by
  show (w.heap.push o).size = _
  simp

theorem below3 {B b : Nat} {w w2 : World} (h : Below B w w2) (hb : B ≤ b) (x0 x1 x2 : Value) :
    Below B w (((w2.setCell ⟨b, 0, none⟩ x0).setCell ⟨b, 1, none⟩ x1).setCell ⟨b, 2, none⟩ x2) :=
  ((h.setCell hb _).setCell hb _).setCell hb _

theorem RdF.setCell {w : World} {a : Option Addr} {n : Nat} {f : Nat → Value} (h : RdF w a n f) {p : Addr} (hp : ∀ x, a = some x → x.block ≠ p.block) (u : Value) : RdF (w.setCell p u) a n f := by
  rcases h with h | ⟨b, o, rfl, hlt, hc⟩
  · exact .inl h
  · refine .inr ⟨b, o, rfl, Nat.lt_of_lt_of_le hlt ((Below.refl 0 w).setCell (Nat.zero_le _) u).size, fun i hi => ?_⟩
    rw [World.cell?_of_block (Below.heap_setCell w p u b (hp _ rfl))]
    exact hc i hi

theorem rd3 {w : World} {g b n : Nat} {f : Nat → Value} (h : RdF w (some ⟨g, 0, none⟩) n f) (hne : g ≠ b) (x0 x1 x2 : Value) :
    RdF (((w.setCell ⟨b, 0, none⟩ x0).setCell ⟨b, 1, none⟩ x1).setCell ⟨b, 2, none⟩ x2) (some ⟨g, 0, none⟩) n f := by
  have hp : ∀ o x, (some ⟨g, 0, none⟩ : Option Addr) = some x → x.block ≠ (⟨b, o, none⟩ : Addr).block := by
    intro o x hx; simp only [Option.some.injEq] at hx; subst hx; exact hne
  exact ((h.setCell (hp 0) _).setCell (hp 1) _).setCell (hp 2) _

theorem rd_first {w : World} {g n v : Nat} {f : Nat → Nat} (h : RdF w (some ⟨g, 0, none⟩) n (cu (M.sq f n))) (hn : 0 < n) (hv : f 0 = v) : w.cell? ⟨g, 0, none⟩ = some (.int .u64 (v : Int)) := by
  obtain ⟨b, o, e, _, hc⟩ := h.at hn
  simp only [Option.some.injEq, Addr.mk.injEq] at e
  obtain ⟨rfl, rfl, _⟩ := e
  have := hc 0 hn
  rw [M.cu_sq _ _ _ hn, hv] at this
  exact this

set_option maxHeartbeats 400000 in
theorem deal_count (t n : Int) (a : Option Addr) (len c : Nat) (w : World) (h : ¬ Fits t n len) :
    Calls Try.prog 9 #[.int .i64 t, .int .i64 n, .slice a len c] w fun e w' => Below w.heap.size w w' ∧
      e = .returned (.tuple #[.agg #[.int .i64 0, .int .i64 0, .slice none 0 0], .slice none 0 0, .int .i64 1]) := by
  go_enter Try.func9, Try.ntmps9
  go_wp2_with (go_at_call 23; refine (fit_no _ _ _ _ h).mono ?_; rintro e w' ⟨rfl, rfl⟩)
  exact bodyPost_ret (v := .tuple #[.agg #[.int .i64 0, .int .i64 0, .slice none 0 0], .slice none 0 0, .int .i64 1]) (by simp [results, Try.results9, go_sem]) rfl ⟨below_alloc _ _, rfl⟩

set_option maxHeartbeats 400000 in
theorem deal_scalar1 (t n : Int) (a : Option Addr) (T c : Nat) (f : Nat → Nat) (w : World) (h : Fits t n T) (hr : RdF w a T (cu (M.sq f T))) (hl : ¬ ∀ i, i < T → SC (f i)) :
    Calls Try.prog 9 #[.int .i64 t, .int .i64 n, .slice a T c] w fun e w' => Below w.heap.size w w' ∧
      e = .returned (.tuple #[.agg #[.int .i64 0, .int .i64 0, .slice none 0 0], .slice none 0 0, .int .i64 2]) := by
  have hT : T ≤ 65536 := by obtain ⟨h1, h2, h3, h4⟩ := h; omega
  have C := fun w' hr' => allS_no a c T f w' hT hr' hl
  have hr1 := hr.below (below_alloc w zg)
  have Z := zg_new w
  have zs := size_alloc w zg
  clear hl hr
  go_enter Try.func9, Try.ntmps9
  go_wp2_with (first | (go_at_call 23; refine (fit_yes _ _ _ _ h).mono ?_; rintro e w' ⟨rfl, rfl⟩) | (go_at_call 24; refine (C (w.alloc zg) hr1).mono ?_; rintro e w2 ⟨bel, rfl⟩; have Z2 := three ((bel.block w.heap.size (by omega)).trans Z); obtain ⟨z0, z1, z2, y0, y1, y2⟩ := Z2))
  refine bodyPost_ret (v := .tuple #[.agg #[.int .i64 0, .int .i64 0, .slice none 0 0], .slice none 0 0, .int .i64 2]) (by simp [results, Try.results9, go_sem, *]) rfl ⟨?_, rfl⟩
  exact below3 ((below_alloc w zg).trans (bel.mono (by omega))) (Nat.le_refl _) _ _ _

set_option maxHeartbeats 400000 in
theorem deal_scalar2 (t n : Int) (a : Option Addr) (T c : Nat) (f : Nat → Nat) (w : World) (h : Fits t n T) (hr : RdF w a T (cu (M.sq f T))) (hl : ∀ i, i < T → SC (f i)) (h0 : f 0 = 0) :
    Calls Try.prog 9 #[.int .i64 t, .int .i64 n, .slice a T c] w fun e w' => Below w.heap.size w w' ∧
      e = .returned (.tuple #[.agg #[.int .i64 0, .int .i64 0, .slice none 0 0], .slice none 0 0, .int .i64 2]) := by
  have hT : T ≤ 65536 := by obtain ⟨h1, h2, h3, h4⟩ := h; omega
  have hT0 : 0 < T := by obtain ⟨h1, h2, h3, h4⟩ := h; omega
  have C := fun w' hr' => allS_yes a c T f w' hT hr' hl
  have hr1 := hr.below (below_alloc w zg)
  have Z := zg_new w
  have zs := size_alloc w zg
  have H0 : Hid (f 0 = 0) := h0
  clear hl hr h0
  go_enter Try.func9, Try.ntmps9
  go_wp2_with (first | (go_at_call 23; refine (fit_yes _ _ _ _ h).mono ?_; rintro e w' ⟨rfl, rfl⟩) | (go_at_call 24; refine (C (w.alloc zg) hr1).mono ?_; rintro e w2 ⟨bel, g, rfl, rd⟩; obtain ⟨z0, z1, z2, y0, y1, y2⟩ := three ((bel.block w.heap.size (by omega)).trans Z); have hg0 : w2.cell? ⟨g, 0, none⟩ = some (.int .u64 0) := rd_first rd hT0 H0.out))
  refine bodyPost_ret (v := .tuple #[.agg #[.int .i64 0, .int .i64 0, .slice none 0 0], .slice none 0 0, .int .i64 2]) (by simp [results, Try.results9, go_sem, *]) rfl ⟨?_, rfl⟩
  exact below3 ((below_alloc w zg).trans (bel.mono (by omega))) (Nat.le_refl _) _ _ _
end Go.Proofs.Yteoioldbigomaaa
