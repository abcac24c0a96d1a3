import Derived.Test.YteoioldbigomaabPs
namespace Go.Proofs.Yteoioldbigomaab
open Go.RowKit

theorem pr_cells {w : World} {b : Nat} {x0 x1 : Value} {t : TypeId} (h : w.heap[b]? = some (.cells #[x0, x1] t (0, 0))) : w.cell? ⟨b, 0, none⟩ = some x0 ∧ w.cell? ⟨b, 1, none⟩ = some x1 ∧ w.frozen? ⟨b, 0, none⟩ = false ∧ w.frozen? ⟨b, 1, none⟩ = false := by
  simp [World.cell?, World.frozen?, h]

theorem pr_set {w : World} {b : Nat} {x0 x1 : Value} {t : TypeId} (h : w.heap[b]? = some (.cells #[x0, x1] t (0, 0))) (u0 u1 : Value) :
    ((w.setCell ⟨b, 0, none⟩ u0).setCell ⟨b, 1, none⟩ u1).heap[b]? = some (.cells #[u0, u1] t (0, 0)) := by
  have h1 := block_set h 0 u0
  have h2 := block_set h1 1 u1
  simpa using h2
theorem chg_set2 (w : World) (b : Nat) (u0 u1 : Value) : Chg (fun k => k = b) w ((w.setCell ⟨b, 0, none⟩ u0).setCell ⟨b, 1, none⟩ u1) := (chg_set w b 0 u0).trans (chg_set _ b 1 u1)
theorem heap_set2_other (w : World) {b k : Nat} (u0 u1 : Value) (h : k ≠ b) : ((w.setCell ⟨b, 0, none⟩ u0).setCell ⟨b, 1, none⟩ u1).heap[k]? = w.heap[k]? := (heap_set_other _ u1 h).trans (heap_set_other _ u0 h)
theorem res34 {tmps : Array Value} {V : World} {rb : Nat} {a0 a1 : Int} (h6 : tmps.getD 6 undef = .pointer (some ⟨rb, 0, none⟩)) (hc : V.heap[rb]? = some (.cells #[.int .u64 a0, .int .u64 a1] 78 (0, 0))) :
    (results Try.f34 tmps).run Try.prog V = .ok (.tuple #[.agg #[.int .u64 a0, .int .u64 a1], tmps.getD 7 undef]) V := by
  obtain ⟨c0, c1, _, _⟩ := pr_cells hc
  rw [results_cell_tmp Try.results34, h6]
  go_simp

/-- What take leaves. -/
def TakePost (w : World) (x gb id sh mb : Nat) (l : List (Nat × Nat)) (i : Int) (d e r : Nat) (ex : Ending) (w' : World) : Prop :=
  Chg (fun k => k = x ∨ k = mb) w w' ∧ SB w' x gb id sh 0 mb ∧
    (((∀ y ∈ l, pkey id y ≠ ckey i d e) ∧ ex = .returned (.tuple #[pval (0, 0), .int .i64 10]) ∧ MapIs w' mb id l) ∨
     ((∃ y ∈ l, pkey id y = ckey i d e) ∧ r = 1 ∧ ex = .returned (.tuple #[pval (0, 0), .int .i64 11]) ∧ MapIs w' mb id l) ∨
     (r ≠ 1 ∧ ∃ j, ∃ hj : j < l.length, pkey id l[j] = ckey i d e ∧ ex = .returned (.tuple #[pval l[j], .int .i64 0]) ∧ MapIs w' mb id (l.take j ++ l.drop (j + 1))))

set_option maxRecDepth 100000 in
set_option maxHeartbeats 1600000 in
/-- take, no such pair. -/
theorem take_miss {w : World} {x gb id sh mb : Nat} {l : List (Nat × Nat)} (h : SB w x gb id sh 0 mb) (hM : MapIs w mb id l) (hne : mb ≠ x) (i : Int) (d e r : Nat) (hf : Fit3 i d e) (hy : ∀ y ∈ l, pkey id y ≠ ckey i d e) :
    Calls Try.prog 34 #[.pointer (some ⟨x, 0, none⟩), ckey i d e, .int .u64 (r : Nat)] w (TakePost w x gb id sh mb l i d e r) := by
  unfold ckey
  obtain ⟨W, hW⟩ : ∃ W, (w.alloc (.cells #[.int .i64 i, .int .u64 (d : Int), .int .u64 (e : Int)] 40)).alloc (.cells #[.int .u64 0, .int .u64 0] 78) = W := ⟨_, rfl⟩
  have B1 := below_alloc w (.cells #[.int .i64 i, .int .u64 (d : Int), .int .u64 (e : Int)] 40)
  have s1 := size_alloc w (.cells #[.int .i64 i, .int .u64 (d : Int), .int .u64 (e : Int)] 40)
  have k1 := heap_alloc_new w (.cells #[.int .i64 i, .int .u64 (d : Int), .int .u64 (e : Int)] 40)
  have B2 := below_alloc (w.alloc (.cells #[.int .i64 i, .int .u64 (d : Int), .int .u64 (e : Int)] 40)) (.cells #[.int .u64 0, .int .u64 0] 78)
  have v2 := heap_alloc_new (w.alloc (.cells #[.int .i64 i, .int .u64 (d : Int), .int .u64 (e : Int)] 40)) (.cells #[.int .u64 0, .int .u64 0] 78)
  rw [s1] at v2
  have BW : Below w.heap.size w W := by rw [← hW]; exact B1.trans (B2.mono B1.size)
  have S0 := h.below BW
  have M0 := hM.below BW
  have k2 := (B2.block w.heap.size (by omega)).trans k1
  obtain ⟨_, _, _, c3, _⟩ := S0.cells
  have f3 := S0.frozen 3
  have S1 := S0.setLock 1
  have M1 : MapIs (W.setCell ⟨x, 3, none⟩ (.int .i32 1)) mb id l := M0.same (heap_set_other W _ hne)
  rw [hW] at k2 v2
  have hxw := h.lt
  have hmw := hM.lt
  have k3 : (W.setCell ⟨x, 3, none⟩ (.int .i32 1)).heap[w.heap.size]? = some (.cells #[.int .i64 i, .int .u64 (d : Int), .int .u64 (e : Int)] 40 (0, 0)) := (heap_set_other W _ (by omega)).trans k2
  have v3 : (W.setCell ⟨x, 3, none⟩ (.int .i32 1)).heap[w.heap.size + 1]? = some (.cells #[.int .u64 0, .int .u64 0] 78 (0, 0)) := (heap_set_other W _ (by omega)).trans v2
  have C1 : Chg (fun k => k = x ∨ k = mb) w (W.setCell ⟨x, 3, none⟩ (.int .i32 1)) := (Below.chg BW _).trans ((chg_set W x 3 _).mono fun _ hk => .inl hk)
  clear k1 k2 v2 B1 B2 s1 hM h
  go_enter_defers Try.func34, Try.ntmps34
  go_upto_region 1 with fail
  clear hW
  go_upto_region 3 with (first | (go_at_call 39; refine (lock_free ⟨x, 3, none⟩ _ c3 f3).mono ?_; rintro e w' ⟨rfl, rfl⟩))
  obtain ⟨U, hU⟩ : ∃ U, W.setCell ⟨x, 3, none⟩ (.int .i32 1) = U := ⟨_, rfl⟩
  rw [hU] at S1 M1 k3 v3 C1 ⊢
  have H : ∀ w', Below U.heap.size U w' → w'.cell? ⟨x, 5, none⟩ = some (.map (some mb)) ∧ w'.cell? ⟨w.heap.size, 0, none⟩ = some (.int .i64 i) ∧ w'.cell? ⟨w.heap.size, 1, none⟩ = some (.int .u64 (d : Int)) ∧ w'.cell? ⟨w.heap.size, 2, none⟩ = some (.int .u64 (e : Int)) ∧
      (Instr.lookup 64 (.map (some mb)) (.agg #[.int .i64 i, .int .u64 (d : Int), .int .u64 (e : Int)]) true).run Try.prog w' = .ok (.tuple #[.agg #[.int .u64 0, .int .u64 0], .bool false]) w' ∧ Below U.heap.size U w' := by
    intro w' b
    have Z := (b.block w.heap.size (lt_of_block k3)).trans k3
    refine ⟨(S1.below b).cells.2.2.2.2, by simp [World.cell?, Z], by simp [World.cell?, Z], by simp [World.cell?, Z], ?_, b⟩
    exact (M1.below b).miss hf hy
  clear hU S0 M0 c3 f3
  go_cut [8, 9] from 17 (fun s8 s9 wx => s8 = .pointer (some ⟨U.heap.size, 0, none⟩) ∧ s9 = .bool false ∧ wx = (U.alloc (.cells #[.int .u64 0, .int .u64 0] 78)).drew)
  case first =>
    refine blind ?_
    go_region_held (fun w' => w'.cell? ⟨x, 5, none⟩ = some (.map (some mb)) ∧ w'.cell? ⟨w.heap.size, 0, none⟩ = some (.int .i64 i) ∧ w'.cell? ⟨w.heap.size, 1, none⟩ = some (.int .u64 (d : Int)) ∧ w'.cell? ⟨w.heap.size, 2, none⟩ = some (.int .u64 (e : Int)) ∧
      (Instr.lookup 64 (.map (some mb)) (.agg #[.int .i64 i, .int .u64 (d : Int), .int .u64 (e : Int)]) true).run Try.prog w' = .ok (.tuple #[.agg #[.int .u64 0, .int .u64 0], .bool false]) w' ∧ Below U.heap.size U w')
      (first | assumption | exact H _ (Below.refl _ _).drew | exact H _ ((below_alloc _ _).drew)) (fail)
    all_goals
      go_wp2_with fail
      go_meet
      case rel => exact ⟨rfl, rfl, rfl⟩
  case rest =>
    obtain ⟨rfl, rfl, hwc⟩ := hcut
    have bc : Below U.heap.size U wc := by rw [hwc]; exact (below_alloc _ _).drew
    have p4 : wc.heap[U.heap.size]? = some (.cells #[.int .u64 0, .int .u64 0] 78 (0, 0)) := by rw [hwc]; exact heap_alloc_new U _
    have S2 := S1.below bc
    have M2 := M1.below bc
    have k4 := (bc.block w.heap.size (lt_of_block k3)).trans k3
    have v4 := (bc.block (w.heap.size + 1) (lt_of_block v3)).trans v3
    have hUw : w.heap.size + 1 < U.heap.size := lt_of_block v3
    have hUc : U.heap.size < wc.heap.size := lt_of_block p4
    clear hwc H
    obtain ⟨q0, q1, q2, q3⟩ := pr_cells v4
    go_wp2_with fail
    have S5 := S2.same (heap_set2_other wc (b := w.heap.size + 1) (.int .u64 0) (.int .u64 0) (k := x) (by omega))
    have M5 := M2.same (heap_set2_other wc (b := w.heap.size + 1) (.int .u64 0) (.int .u64 0) (k := mb) (by omega))
    have V5 := pr_set v4 (.int .u64 0) (.int .u64 0)
    have C5 := (C1.trans (Below.chg bc _)).on (chg_set2 wc (w.heap.size + 1) (.int .u64 0) (.int .u64 0)) (fun j hj => .inr (by omega))
    refine leaves_cons (f := 40) (args := #[.pointer (some ⟨x, 3, none⟩)]) (by simp) (by simp [go_sem]) ?_
    refine (unlock_deferred ⟨x, 3, none⟩ _ _ S5.cells.2.2.2.1 (S5.frozen 3)).mono ?_
    rintro e u' w'' ⟨rfl, rfl, rfl⟩
    refine ⟨_, res34 rfl ((heap_set_other _ _ (by omega)).trans V5), C5.trans ((chg_set _ x 3 _).mono fun _ hk => .inl hk), S5.setLock 0, .inl ⟨hy, rfl, M5.same (heap_set_other _ _ hne)⟩⟩

set_option maxRecDepth 100000 in
set_option maxHeartbeats 1600000 in
/-- take, the commitment of all is 1. -/
theorem take_zero {w : World} {x gb id sh mb : Nat} {l : List (Nat × Nat)} (h : SB w x gb id sh 0 mb) (hM : MapIs w mb id l) (hne : mb ≠ x) (h9 : id ≤ 9) (i : Int) (d e : Nat) (y : Nat × Nat) (hy : y ∈ l) (hk : pkey id y = ckey i d e) :
    Calls Try.prog 34 #[.pointer (some ⟨x, 0, none⟩), ckey i d e, .int .u64 1] w (TakePost w x gb id sh mb l i d e 1) := by
  unfold ckey
  obtain ⟨W, hW⟩ : ∃ W, (w.alloc (.cells #[.int .i64 i, .int .u64 (d : Int), .int .u64 (e : Int)] 40)).alloc (.cells #[.int .u64 0, .int .u64 0] 78) = W := ⟨_, rfl⟩
  have B1 := below_alloc w (.cells #[.int .i64 i, .int .u64 (d : Int), .int .u64 (e : Int)] 40)
  have s1 := size_alloc w (.cells #[.int .i64 i, .int .u64 (d : Int), .int .u64 (e : Int)] 40)
  have k1 := heap_alloc_new w (.cells #[.int .i64 i, .int .u64 (d : Int), .int .u64 (e : Int)] 40)
  have B2 := below_alloc (w.alloc (.cells #[.int .i64 i, .int .u64 (d : Int), .int .u64 (e : Int)] 40)) (.cells #[.int .u64 0, .int .u64 0] 78)
  have v2 := heap_alloc_new (w.alloc (.cells #[.int .i64 i, .int .u64 (d : Int), .int .u64 (e : Int)] 40)) (.cells #[.int .u64 0, .int .u64 0] 78)
  rw [s1] at v2
  have BW : Below w.heap.size w W := by rw [← hW]; exact B1.trans (B2.mono B1.size)
  have S0 := h.below BW
  have M0 := hM.below BW
  have k2 := (B2.block w.heap.size (by omega)).trans k1
  obtain ⟨_, _, _, c3, _⟩ := S0.cells
  have f3 := S0.frozen 3
  have S1 := S0.setLock 1
  have M1 : MapIs (W.setCell ⟨x, 3, none⟩ (.int .i32 1)) mb id l := M0.same (heap_set_other W _ hne)
  rw [hW] at k2 v2
  have hxw := h.lt
  have hmw := hM.lt
  have k3 : (W.setCell ⟨x, 3, none⟩ (.int .i32 1)).heap[w.heap.size]? = some (.cells #[.int .i64 i, .int .u64 (d : Int), .int .u64 (e : Int)] 40 (0, 0)) := (heap_set_other W _ (by omega)).trans k2
  have v3 : (W.setCell ⟨x, 3, none⟩ (.int .i32 1)).heap[w.heap.size + 1]? = some (.cells #[.int .u64 0, .int .u64 0] 78 (0, 0)) := (heap_set_other W _ (by omega)).trans v2
  have C1 : Chg (fun k => k = x ∨ k = mb) w (W.setCell ⟨x, 3, none⟩ (.int .i32 1)) := (Below.chg BW _).trans ((chg_set W x 3 _).mono fun _ hk => .inl hk)
  clear k1 k2 v2 B1 B2 s1 hM h
  go_enter_defers Try.func34, Try.ntmps34
  go_upto_region 1 with fail
  clear hW
  go_upto_region 3 with (first | (go_at_call 39; refine (lock_free ⟨x, 3, none⟩ _ c3 f3).mono ?_; rintro e w' ⟨rfl, rfl⟩))
  obtain ⟨U, hU⟩ : ∃ U, W.setCell ⟨x, 3, none⟩ (.int .i32 1) = U := ⟨_, rfl⟩
  rw [hU] at S1 M1 k3 v3 C1 ⊢
  have H : ∀ w', Below U.heap.size U w' → w'.cell? ⟨x, 5, none⟩ = some (.map (some mb)) ∧ w'.cell? ⟨w.heap.size, 0, none⟩ = some (.int .i64 i) ∧ w'.cell? ⟨w.heap.size, 1, none⟩ = some (.int .u64 (d : Int)) ∧ w'.cell? ⟨w.heap.size, 2, none⟩ = some (.int .u64 (e : Int)) ∧
      (Instr.lookup 64 (.map (some mb)) (.agg #[.int .i64 i, .int .u64 (d : Int), .int .u64 (e : Int)]) true).run Try.prog w' = .ok (.tuple #[.agg #[.int .u64 (y.1 : Nat), .int .u64 (y.2 : Nat)], .bool true]) w' ∧ Below U.heap.size U w' := by
    intro w' b
    have Z := (b.block w.heap.size (lt_of_block k3)).trans k3
    refine ⟨(S1.below b).cells.2.2.2.2, by simp [World.cell?, Z], by simp [World.cell?, Z], by simp [World.cell?, Z], ?_, b⟩
    exact (by have := (M1.below b).hit h9 hy; rw [hk] at this; exact this)
  clear hU S0 M0 c3 f3
  go_cut [8, 9] from 17 (fun s8 s9 wx => s8 = .pointer (some ⟨U.heap.size, 0, none⟩) ∧ s9 = .bool true ∧ wx = (U.alloc (.cells #[.int .u64 (y.1 : Nat), .int .u64 (y.2 : Nat)] 78)).drew)
  case first =>
    refine blind ?_
    go_region_held (fun w' => w'.cell? ⟨x, 5, none⟩ = some (.map (some mb)) ∧ w'.cell? ⟨w.heap.size, 0, none⟩ = some (.int .i64 i) ∧ w'.cell? ⟨w.heap.size, 1, none⟩ = some (.int .u64 (d : Int)) ∧ w'.cell? ⟨w.heap.size, 2, none⟩ = some (.int .u64 (e : Int)) ∧
      (Instr.lookup 64 (.map (some mb)) (.agg #[.int .i64 i, .int .u64 (d : Int), .int .u64 (e : Int)]) true).run Try.prog w' = .ok (.tuple #[.agg #[.int .u64 (y.1 : Nat), .int .u64 (y.2 : Nat)], .bool true]) w' ∧ Below U.heap.size U w')
      (first | assumption | exact H _ (Below.refl _ _).drew | exact H _ ((below_alloc _ _).drew)) (fail)
    all_goals
      go_wp2_with fail
      go_meet
      case rel => exact ⟨rfl, rfl, rfl⟩
  case rest =>
    obtain ⟨rfl, rfl, hwc⟩ := hcut
    have bc : Below U.heap.size U wc := by rw [hwc]; exact (below_alloc _ _).drew
    have p4 : wc.heap[U.heap.size]? = some (.cells #[.int .u64 (y.1 : Nat), .int .u64 (y.2 : Nat)] 78 (0, 0)) := by rw [hwc]; exact heap_alloc_new U _
    have S2 := S1.below bc
    have M2 := M1.below bc
    have k4 := (bc.block w.heap.size (lt_of_block k3)).trans k3
    have v4 := (bc.block (w.heap.size + 1) (lt_of_block v3)).trans v3
    have hUw : w.heap.size + 1 < U.heap.size := lt_of_block v3
    have hUc : U.heap.size < wc.heap.size := lt_of_block p4
    clear hwc H
    obtain ⟨q0, q1, q2, q3⟩ := pr_cells v4
    go_wp2_with fail
    have S5 := S2.same (heap_set2_other wc (b := w.heap.size + 1) (.int .u64 0) (.int .u64 0) (k := x) (by omega))
    have M5 := M2.same (heap_set2_other wc (b := w.heap.size + 1) (.int .u64 0) (.int .u64 0) (k := mb) (by omega))
    have V5 := pr_set v4 (.int .u64 0) (.int .u64 0)
    have C5 := (C1.trans (Below.chg bc _)).on (chg_set2 wc (w.heap.size + 1) (.int .u64 0) (.int .u64 0)) (fun j hj => .inr (by omega))
    refine leaves_cons (f := 40) (args := #[.pointer (some ⟨x, 3, none⟩)]) (by simp) (by simp [go_sem]) ?_
    refine (unlock_deferred ⟨x, 3, none⟩ _ _ S5.cells.2.2.2.1 (S5.frozen 3)).mono ?_
    rintro e u' w'' ⟨rfl, rfl, rfl⟩
    refine ⟨_, res34 rfl ((heap_set_other _ _ (by omega)).trans V5), C5.trans ((chg_set _ x 3 _).mono fun _ hk => .inl hk), S5.setLock 0, .inr (.inl ⟨⟨y, hy, hk⟩, rfl, rfl, M5.same (heap_set_other _ _ hne)⟩)⟩

set_option maxRecDepth 100000 in
set_option maxHeartbeats 1600000 in
/-- take, and the pair is gone. -/
theorem take_ok {w : World} {x gb id sh mb : Nat} {l : List (Nat × Nat)} (h : SB w x gb id sh 0 mb) (hM : MapIs w mb id l) (hne : mb ≠ x) (h9 : id ≤ 9) (hsc : ∀ z ∈ l, SC z.1 ∧ SC z.2) (hnd : l.Nodup) (i : Int) (d e r : Nat) (hr1 : r ≠ 1) (j : Nat) (hj : j < l.length) (hk : pkey id l[j] = ckey i d e) :
    Calls Try.prog 34 #[.pointer (some ⟨x, 0, none⟩), ckey i d e, .int .u64 (r : Nat)] w (TakePost w x gb id sh mb l i d e r) := by
  unfold ckey
  obtain ⟨y, hyj⟩ : ∃ y, y = l[j] := ⟨_, rfl⟩
  have hy : y ∈ l := by rw [hyj]; exact List.getElem_mem hj
  have hr : decide ((r : Int) = 1) = false := by simp; omega
  rw [← hyj] at hk
  have HY : Hid (y = l[j]) := hyj
  clear hyj
  obtain ⟨W, hW⟩ : ∃ W, (w.alloc (.cells #[.int .i64 i, .int .u64 (d : Int), .int .u64 (e : Int)] 40)).alloc (.cells #[.int .u64 0, .int .u64 0] 78) = W := ⟨_, rfl⟩
  have B1 := below_alloc w (.cells #[.int .i64 i, .int .u64 (d : Int), .int .u64 (e : Int)] 40)
  have s1 := size_alloc w (.cells #[.int .i64 i, .int .u64 (d : Int), .int .u64 (e : Int)] 40)
  have k1 := heap_alloc_new w (.cells #[.int .i64 i, .int .u64 (d : Int), .int .u64 (e : Int)] 40)
  have B2 := below_alloc (w.alloc (.cells #[.int .i64 i, .int .u64 (d : Int), .int .u64 (e : Int)] 40)) (.cells #[.int .u64 0, .int .u64 0] 78)
  have v2 := heap_alloc_new (w.alloc (.cells #[.int .i64 i, .int .u64 (d : Int), .int .u64 (e : Int)] 40)) (.cells #[.int .u64 0, .int .u64 0] 78)
  rw [s1] at v2
  have BW : Below w.heap.size w W := by rw [← hW]; exact B1.trans (B2.mono B1.size)
  have S0 := h.below BW
  have M0 := hM.below BW
  have k2 := (B2.block w.heap.size (by omega)).trans k1
  obtain ⟨_, _, _, c3, _⟩ := S0.cells
  have f3 := S0.frozen 3
  have S1 := S0.setLock 1
  have M1 : MapIs (W.setCell ⟨x, 3, none⟩ (.int .i32 1)) mb id l := M0.same (heap_set_other W _ hne)
  rw [hW] at k2 v2
  have hxw := h.lt
  have hmw := hM.lt
  have k3 : (W.setCell ⟨x, 3, none⟩ (.int .i32 1)).heap[w.heap.size]? = some (.cells #[.int .i64 i, .int .u64 (d : Int), .int .u64 (e : Int)] 40 (0, 0)) := (heap_set_other W _ (by omega)).trans k2
  have v3 : (W.setCell ⟨x, 3, none⟩ (.int .i32 1)).heap[w.heap.size + 1]? = some (.cells #[.int .u64 0, .int .u64 0] 78 (0, 0)) := (heap_set_other W _ (by omega)).trans v2
  have C1 : Chg (fun k => k = x ∨ k = mb) w (W.setCell ⟨x, 3, none⟩ (.int .i32 1)) := (Below.chg BW _).trans ((chg_set W x 3 _).mono fun _ hk => .inl hk)
  clear k1 k2 v2 B1 B2 s1 hM h
  go_enter_defers Try.func34, Try.ntmps34
  go_upto_region 1 with fail
  clear hW
  go_upto_region 3 with (first | (go_at_call 39; refine (lock_free ⟨x, 3, none⟩ _ c3 f3).mono ?_; rintro e w' ⟨rfl, rfl⟩))
  obtain ⟨U, hU⟩ : ∃ U, W.setCell ⟨x, 3, none⟩ (.int .i32 1) = U := ⟨_, rfl⟩
  rw [hU] at S1 M1 k3 v3 C1 ⊢
  have H : ∀ w', Below U.heap.size U w' → w'.cell? ⟨x, 5, none⟩ = some (.map (some mb)) ∧ w'.cell? ⟨w.heap.size, 0, none⟩ = some (.int .i64 i) ∧ w'.cell? ⟨w.heap.size, 1, none⟩ = some (.int .u64 (d : Int)) ∧ w'.cell? ⟨w.heap.size, 2, none⟩ = some (.int .u64 (e : Int)) ∧
      (Instr.lookup 64 (.map (some mb)) (.agg #[.int .i64 i, .int .u64 (d : Int), .int .u64 (e : Int)]) true).run Try.prog w' = .ok (.tuple #[.agg #[.int .u64 (y.1 : Nat), .int .u64 (y.2 : Nat)], .bool true]) w' ∧ Below U.heap.size U w' := by
    intro w' b
    have Z := (b.block w.heap.size (lt_of_block k3)).trans k3
    refine ⟨(S1.below b).cells.2.2.2.2, by simp [World.cell?, Z], by simp [World.cell?, Z], by simp [World.cell?, Z], ?_, b⟩
    exact (by have := (M1.below b).hit h9 hy; rw [hk] at this; exact this)
  clear hU S0 M0 c3 f3
  go_cut [8, 9] from 17 (fun s8 s9 wx => s8 = .pointer (some ⟨U.heap.size, 0, none⟩) ∧ s9 = .bool true ∧ wx = (U.alloc (.cells #[.int .u64 (y.1 : Nat), .int .u64 (y.2 : Nat)] 78)).drew)
  case first =>
    refine blind ?_
    go_region_held (fun w' => w'.cell? ⟨x, 5, none⟩ = some (.map (some mb)) ∧ w'.cell? ⟨w.heap.size, 0, none⟩ = some (.int .i64 i) ∧ w'.cell? ⟨w.heap.size, 1, none⟩ = some (.int .u64 (d : Int)) ∧ w'.cell? ⟨w.heap.size, 2, none⟩ = some (.int .u64 (e : Int)) ∧
      (Instr.lookup 64 (.map (some mb)) (.agg #[.int .i64 i, .int .u64 (d : Int), .int .u64 (e : Int)]) true).run Try.prog w' = .ok (.tuple #[.agg #[.int .u64 (y.1 : Nat), .int .u64 (y.2 : Nat)], .bool true]) w' ∧ Below U.heap.size U w')
      (first | assumption | exact H _ (Below.refl _ _).drew | exact H _ ((below_alloc _ _).drew)) (fail)
    all_goals
      go_wp2_with fail
      go_meet
      case rel => exact ⟨rfl, rfl, rfl⟩
  case rest =>
    obtain ⟨rfl, rfl, hwc⟩ := hcut
    have bc : Below U.heap.size U wc := by rw [hwc]; exact (below_alloc _ _).drew
    have p4 : wc.heap[U.heap.size]? = some (.cells #[.int .u64 (y.1 : Nat), .int .u64 (y.2 : Nat)] 78 (0, 0)) := by rw [hwc]; exact heap_alloc_new U _
    have S2 := S1.below bc
    have M2 := M1.below bc
    have k4 := (bc.block w.heap.size (lt_of_block k3)).trans k3
    have v4 := (bc.block (w.heap.size + 1) (lt_of_block v3)).trans v3
    have hUw : w.heap.size + 1 < U.heap.size := lt_of_block v3
    have hUc : U.heap.size < wc.heap.size := lt_of_block p4
    clear hwc H
    go_upto_region 8 with fail
    have M2d : MapIs wc.drew mb id l := M2.same rfl
    obtain ⟨w3, hrun, M3, g3⟩ := M2d.drop h9 hsc hnd hj 0
    rw [← HY.out, hk] at hrun
    unfold ckey at hrun
    have H0 : ∀ w' : World, w'.heap[x]? = wc.heap[x]? → w'.heap[w.heap.size]? = wc.heap[w.heap.size]? → w'.cell? ⟨x, 5, none⟩ = some (.map (some mb)) ∧ w'.cell? ⟨w.heap.size, 0, none⟩ = some (.int .i64 i) ∧ w'.cell? ⟨w.heap.size, 1, none⟩ = some (.int .u64 (d : Int)) ∧ w'.cell? ⟨w.heap.size, 2, none⟩ = some (.int .u64 (e : Int)) := by
      intro w' e1 e2
      rw [k4] at e2
      exact ⟨(S2.same e1).cells.2.2.2.2, by simp [World.cell?, e2], by simp [World.cell?, e2], by simp [World.cell?, e2]⟩
    have hgb : ∀ k, k ≠ mb → k < wc.heap.size → w3.heap[k]? = wc.heap[k]? := fun k hk hl => g3.block k hl (by simp [hk])
    have hxm : x < wc.heap.size := S2.lt
    have H1 := H0 wc.drew rfl rfl
    have H3 := H0 w3 (hgb x (fun e => hne e.symm) hxm) (hgb _ (by omega) (lt_of_block k4))
    have C3 : Chg (fun k => k = x ∨ k = mb) wc.drew w3 := (grown_chg g3).mono fun k hk => .inr (Option.some.inj hk)
    have S3 : SB w3 x gb id sh 1 mb := S2.same (hgb x (fun e => hne e.symm) hxm)
    have p5 := (hgb U.heap.size (by omega) hUc).trans p4
    have v5 := (hgb (w.heap.size + 1) (by omega) (by omega)).trans v4
    obtain ⟨q0, q1, q2, q3⟩ := pr_cells v5
    obtain ⟨r0, r1, _, _⟩ := pr_cells p5
    have bd : Below wc.heap.size wc wc.drew := (Below.refl _ _).drew
    have C4 := ((C1.trans (Below.chg bc _)).trans (Below.chg bd _)).trans C3
    clear k3 v3 k4 v4 g3 M2d
    refine blind ?_
    go_region_held (fun w' => w'.cell? ⟨x, 5, none⟩ = some (.map (some mb)) ∧ w'.cell? ⟨w.heap.size, 0, none⟩ = some (.int .i64 i) ∧ w'.cell? ⟨w.heap.size, 1, none⟩ = some (.int .u64 (d : Int)) ∧ w'.cell? ⟨w.heap.size, 2, none⟩ = some (.int .u64 (e : Int)))
      (first | assumption | exact H1 | exact H3) (fail)
    clear hrun H0 H1 H3
    go_wp2_with fail
    have S5 := S3.same (heap_set2_other w3 (b := w.heap.size + 1) (.int .u64 (y.1 : Nat)) (.int .u64 (y.2 : Nat)) (k := x) (by omega))
    have M5 := M3.same (heap_set2_other w3 (b := w.heap.size + 1) (.int .u64 (y.1 : Nat)) (.int .u64 (y.2 : Nat)) (k := mb) (by omega))
    have V5 := pr_set v5 (.int .u64 (y.1 : Nat)) (.int .u64 (y.2 : Nat))
    have C5 := C4.on (chg_set2 w3 (w.heap.size + 1) (.int .u64 (y.1 : Nat)) (.int .u64 (y.2 : Nat))) (fun j hj => .inr (by omega))
    refine leaves_cons (f := 40) (args := #[.pointer (some ⟨x, 3, none⟩)]) (by simp) (by simp [go_sem]) ?_
    refine (unlock_deferred ⟨x, 3, none⟩ _ _ S5.cells.2.2.2.1 (S5.frozen 3)).mono ?_
    rintro e u' w'' ⟨rfl, rfl, rfl⟩
    refine ⟨_, res34 rfl ((heap_set_other _ _ (by omega)).trans V5), C5.trans ((chg_set _ x 3 _).mono fun _ hk => .inl hk), S5.setLock 0, .inr (.inr ⟨hr1, j, hj, ?_, ?_, M5.same (heap_set_other _ _ hne)⟩)⟩
    · rw [← HY.out]; exact hk
    · rw [← HY.out]; rfl
end Go.Proofs.Yteoioldbigomaab
