import Derived.Test.YteoioldbigomaabMp
import Derived.Test.YteoioldbigomaabOnce
import Derived.Test.YteoioldbigomaabChg
import Derived.Deep.RegionHeld
import Derived.Deep.CutRange
import Derived.Laws.ResultCell
namespace Go.Proofs.Yteoioldbigomaab
open Go.RowKit

/-- The block of a Signer of the program's. -/
def SB (w : World) (x gb id sh : Nat) (m : Int) (mb : Nat) : Prop := w.heap[x]? = some (.cells #[.pointer (some ⟨gb, 0, none⟩), .int .i64 id, .int .u64 sh, .int .i32 m, .int .u32 0, .map (some mb)] 73 (0, 0))
section
variable {w w' : World} {x gb id sh : Nat} {m : Int} {mb : Nat}
theorem SB.lt (h : SB w x gb id sh m mb) : x < w.heap.size := lt_of_block h
theorem SB.frozen (h : SB w x gb id sh m mb) (j : Nat) : w.frozen? ⟨x, j, none⟩ = false := by simp [World.frozen?, show w.heap[x]? = _ from h]
theorem SB.cells (h : SB w x gb id sh m mb) : w.cell? ⟨x, 0, none⟩ = some (.pointer (some ⟨gb, 0, none⟩)) ∧ w.cell? ⟨x, 1, none⟩ = some (.int .i64 id) ∧ w.cell? ⟨x, 2, none⟩ = some (.int .u64 sh) ∧ w.cell? ⟨x, 3, none⟩ = some (.int .i32 m) ∧ w.cell? ⟨x, 5, none⟩ = some (.map (some mb)) := by
  simp [World.cell?, show w.heap[x]? = _ from h]
theorem SB.same (h : SB w x gb id sh m mb) (e : w'.heap[x]? = w.heap[x]?) : SB w' x gb id sh m mb := e.trans h
theorem SB.setLock (h : SB w x gb id sh m mb) (m' : Int) : SB (w.setCell ⟨x, 3, none⟩ (.int .i32 m')) x gb id sh m' mb := block_set h 3 _
end
theorem chg_set (w : World) (x j : Nat) (u : Value) : Chg (fun k => k = x) w (w.setCell ⟨x, j, none⟩ u) := (grown_chg (grown_set w x j u)).mono fun _ hk => Option.some.inj hk
theorem three_set {w : World} {b : Nat} {x0 x1 x2 : Value} {t : TypeId} (h : w.heap[b]? = some (.cells #[x0, x1, x2] t (0, 0))) (u0 u1 u2 : Value) :
    (((w.setCell ⟨b, 0, none⟩ u0).setCell ⟨b, 1, none⟩ u1).setCell ⟨b, 2, none⟩ u2).heap[b]? = some (.cells #[u0, u1, u2] t (0, 0)) := by
  simpa using block_set (block_set (block_set h 0 u0) 1 u1) 2 u2
theorem chg_set3 (w : World) (b : Nat) (u0 u1 u2 : Value) : Chg (fun k => k = b) w (((w.setCell ⟨b, 0, none⟩ u0).setCell ⟨b, 1, none⟩ u1).setCell ⟨b, 2, none⟩ u2) := ((chg_set w b 0 u0).trans (chg_set _ b 1 u1)).trans (chg_set _ b 2 u2)
theorem heap_set_other (w : World) {x j k : Nat} (u : Value) (h : k ≠ x) : (w.setCell ⟨x, j, none⟩ u).heap[k]? = w.heap[k]? := RowKit.Below.heap_setCell _ _ _ _ h

theorem made_yes {w : World} {x gb id sh : Nat} {m : Int} {mb : Nat} (h : SB w x gb id sh m mb) : Calls Try.prog 25 #[.pointer (some ⟨x, 0, none⟩)] w fun e w' => e = .returned (.bool true) ∧ w' = w := by
  obtain ⟨c0, _⟩ := h.cells
  go_enter Try.func25, Try.ntmps25
  go_wp2_with fail
  go_ret
  exact ⟨rfl, rfl⟩

set_option maxRecDepth 100000 in
set_option maxHeartbeats 1600000 in
/-- Left. -/
theorem pleft_any {w : World} {x gb id sh mb : Nat} {l : List (Nat × Nat)} (h : SB w x gb id sh 0 mb) (hM : MapIs w mb id l) (hne : mb ≠ x) :
    Calls Try.prog 13 #[.pointer (some ⟨x, 0, none⟩)] w fun e w' => e = .returned (.int .i64 (l.length : Nat)) ∧ w' = (w.setCell ⟨x, 3, none⟩ (.int .i32 1)).setCell ⟨x, 3, none⟩ (.int .i32 0) := by
  obtain ⟨c0, _, _, c3, _⟩ := h.cells
  have f3 := h.frozen 3
  have S1 := h.setLock 1
  have M1 : MapIs (w.setCell ⟨x, 3, none⟩ (.int .i32 1)) mb id l := hM.same (heap_set_other w _ hne)
  obtain ⟨_, _, _, d3, d5⟩ := S1.cells
  have g3 := S1.frozen 3
  clear hM
  go_enter_defers Try.func13, Try.ntmps13
  go_wp2_with (first | (go_at_call 25; refine (made_yes h).mono ?_; rintro e w' ⟨rfl, hw'⟩; subst hw') | (go_at_call 39; refine (lock_free ⟨x, 3, none⟩ _ c3 f3).mono ?_; rintro e w' ⟨rfl, rfl⟩) | (at_len; refine wpList_mlen _ rfl _ rfl mb id l rfl M1 ?_))
  refine leaves_cons (f := 40) (args := #[.pointer (some ⟨x, 3, none⟩)]) (by simp) (by simp [go_sem]) ?_
  refine (unlock_deferred ⟨x, 3, none⟩ _ _ d3 g3).mono ?_
  rintro e u' w'' ⟨rfl, rfl, rfl⟩
  exact ⟨_, results_tmp Try.results13 _ _ _, rfl, rfl⟩

/-- A region that comes to its end: no other way out is looked at. -/
theorem blind {c : Code} {K : Act → World → Prop} {Q : Exit → Act → World → Prop} {a : Act} {w : World} (h : c.wp Try.prog (Exit.then K fun _ _ _ => False) a w) : c.wp Try.prog (Exit.then K Q) a w :=
  Code.wp_mono (fun e a w hq => by cases e <;> first | exact hq | exact hq.elim) h

/-- A key that was handed in, and what it is to be looked up with. -/
theorem MapIs.alloc {w : World} {mb id : Nat} {l : List (Nat × Nat)} (h : MapIs w mb id l) (o : Obj) : MapIs (w.alloc o) mb id l := h.same ((below_alloc w o).block mb h.lt)
theorem MapIs.below {w w' : World} {mb id : Nat} {l : List (Nat × Nat)} (h : MapIs w mb id l) (b : Below w.heap.size w w') : MapIs w' mb id l := h.same (b.block mb h.lt)
theorem SB.below {w w' : World} {x gb id sh : Nat} {m : Int} {mb : Nat} (h : SB w x gb id sh m mb) (b : Below w.heap.size w w') : SB w' x gb id sh m mb := h.same (b.block x h.lt)

/-- What keep leaves. -/
def KeepPost (w : World) (x gb id sh mb : Nat) (l : List (Nat × Nat)) (y : Nat × Nat) (e : Ending) (w' : World) : Prop :=
  ∃ er : Nat, ((y ∈ l ∧ er = 15) ∨ (y ∉ l ∧ 6 ≤ l.length ∧ er = 9) ∨ (y ∉ l ∧ l.length < 6 ∧ er = 0)) ∧ e = .returned (.int .i64 er) ∧ Chg (fun k => k = x ∨ k = mb) w w' ∧ SB w' x gb id sh 0 mb ∧ MapIs w' mb id (if er = 0 then l ++ [y] else l)

set_option maxRecDepth 100000 in
set_option maxHeartbeats 1600000 in
/-- keep, the pair known. -/
theorem keep_pair {w : World} {x gb id sh mb : Nat} {l : List (Nat × Nat)} (h : SB w x gb id sh 0 mb) (hM : MapIs w mb id l) (hne : mb ≠ x) (h9 : id ≤ 9) (y : Nat × Nat) (hy : y ∈ l) :
    Calls Try.prog 29 #[.pointer (some ⟨x, 0, none⟩), pkey id y, pval y] w (KeepPost w x gb id sh mb l y) := by
  obtain ⟨d, hd⟩ : ∃ d, d = M.pw 2147483579 4 y.1 := ⟨_, rfl⟩
  obtain ⟨e, he⟩ : ∃ e, e = M.pw 2147483579 4 y.2 := ⟨_, rfl⟩
  obtain ⟨W, hW⟩ : ∃ W, (w.alloc (.cells #[.int .i64 (id : Int), .int .u64 (d : Int), .int .u64 (e : Int)] 40)).alloc (.cells #[.int .u64 (y.1 : Nat), .int .u64 (y.2 : Nat)] 78) = W := ⟨_, rfl⟩
  have B1 := below_alloc w (.cells #[.int .i64 (id : Int), .int .u64 (d : Int), .int .u64 (e : Int)] 40)
  have s1 := size_alloc w (.cells #[.int .i64 (id : Int), .int .u64 (d : Int), .int .u64 (e : Int)] 40)
  have k1 := heap_alloc_new w (.cells #[.int .i64 (id : Int), .int .u64 (d : Int), .int .u64 (e : Int)] 40)
  have B2 := below_alloc (w.alloc (.cells #[.int .i64 (id : Int), .int .u64 (d : Int), .int .u64 (e : Int)] 40)) (.cells #[.int .u64 (y.1 : Nat), .int .u64 (y.2 : Nat)] 78)
  have v2 := heap_alloc_new (w.alloc (.cells #[.int .i64 (id : Int), .int .u64 (d : Int), .int .u64 (e : Int)] 40)) (.cells #[.int .u64 (y.1 : Nat), .int .u64 (y.2 : Nat)] 78)
  rw [s1] at v2
  have BW : Below w.heap.size w W := by rw [← hW]; exact B1.trans (B2.mono B1.size)
  have S0 := h.below BW
  have M0 := hM.below BW
  have k2 := (B2.block w.heap.size (by omega)).trans k1
  obtain ⟨_, _, _, c3, _⟩ := S0.cells
  have f3 := S0.frozen 3
  have S1 := S0.setLock 1
  have M1 : MapIs (W.setCell ⟨x, 3, none⟩ (.int .i32 1)) mb id l := M0.same (heap_set_other W _ hne)
  rw [hW] at k2 v2
  have hxw := h.lt
  have hmw := hM.lt
  have k3 : (W.setCell ⟨x, 3, none⟩ (.int .i32 1)).heap[w.heap.size]? = some (.cells #[.int .i64 (id : Int), .int .u64 (d : Int), .int .u64 (e : Int)] 40 (0, 0)) := (heap_set_other W _ (by omega)).trans k2
  have v3 : (W.setCell ⟨x, 3, none⟩ (.int .i32 1)).heap[w.heap.size + 1]? = some (.cells #[.int .u64 (y.1 : Nat), .int .u64 (y.2 : Nat)] 78 (0, 0)) := (heap_set_other W _ (by omega)).trans v2
  have C1 : Chg (fun k => k = x ∨ k = mb) w (W.setCell ⟨x, 3, none⟩ (.int .i32 1)) := (Below.chg BW _).trans ((chg_set W x 3 _).mono fun _ hk => .inl hk)
  unfold pkey ckey pval
  rw [← hd, ← he]
  have HD : Hid (d = M.pw 2147483579 4 y.1) := hd
  have HE : Hid (e = M.pw 2147483579 4 y.2) := he
  clear hd he
  clear k1 k2 v2 B1 B2 s1 hM h
  go_enter_defers Try.func29, Try.ntmps29
  go_upto_region 1 with fail
  clear hW
  go_upto_region 3 with (first | (go_at_call 39; refine (lock_free ⟨x, 3, none⟩ _ c3 f3).mono ?_; rintro e w' ⟨rfl, rfl⟩))
  obtain ⟨U, hU⟩ : ∃ U, W.setCell ⟨x, 3, none⟩ (.int .i32 1) = U := ⟨_, rfl⟩
  rw [hU] at S1 M1 k3 v3 C1 ⊢
  have H : ∀ w', Below U.heap.size U w' → w'.cell? ⟨x, 5, none⟩ = some (.map (some mb)) ∧ w'.cell? ⟨w.heap.size, 0, none⟩ = some (.int .i64 (id : Int)) ∧ w'.cell? ⟨w.heap.size, 1, none⟩ = some (.int .u64 (d : Int)) ∧ w'.cell? ⟨w.heap.size, 2, none⟩ = some (.int .u64 (e : Int)) ∧
      (Instr.lookup 64 (.map (some mb)) (.agg #[.int .i64 (id : Int), .int .u64 (d : Int), .int .u64 (e : Int)]) true).run Try.prog w' = .ok (.tuple #[pval y, .bool true]) w' ∧ Below U.heap.size U w' := by
    intro w' b
    have Z := (b.block w.heap.size (lt_of_block k3)).trans k3
    refine ⟨(S1.below b).cells.2.2.2.2, by simp [World.cell?, Z], by simp [World.cell?, Z], by simp [World.cell?, Z], ?_, b⟩
    rw [HD.out, HE.out]
    exact (M1.below b).hit h9 hy
  clear hU S0 M0 c3 f3
  go_cut [8] from 16 (fun s8 wx => s8 = .bool true ∧ Below U.heap.size U wx)
  case first =>
    refine blind ?_
    go_region_held (fun w' => w'.cell? ⟨x, 5, none⟩ = some (.map (some mb)) ∧ w'.cell? ⟨w.heap.size, 0, none⟩ = some (.int .i64 (id : Int)) ∧ w'.cell? ⟨w.heap.size, 1, none⟩ = some (.int .u64 (d : Int)) ∧ w'.cell? ⟨w.heap.size, 2, none⟩ = some (.int .u64 (e : Int)) ∧
      (Instr.lookup 64 (.map (some mb)) (.agg #[.int .i64 (id : Int), .int .u64 (d : Int), .int .u64 (e : Int)]) true).run Try.prog w' = .ok (.tuple #[pval y, .bool true]) w' ∧ Below U.heap.size U w')
      (first | assumption | exact H _ (Below.refl _ _).drew | exact H _ ((below_alloc _ _).drew)) (fail)
    all_goals
      go_wp2_with fail
      go_meet
      case rel => exact ⟨rfl, (below_alloc _ _).drew⟩
  case rest =>
    obtain ⟨rfl, bc⟩ := hcut
    have S2 := S1.below bc
    go_wp2_with fail
    refine leaves_cons (f := 40) (args := #[.pointer (some ⟨x, 3, none⟩)]) (by simp) (by simp [go_sem]) ?_
    refine (unlock_deferred ⟨x, 3, none⟩ _ _ S2.cells.2.2.2.1 (S2.frozen 3)).mono ?_
    rintro e u' w'' ⟨rfl, rfl, rfl⟩
    refine ⟨_, results_tmp Try.results29 _ _ _, 15, .inl ⟨hy, rfl⟩, rfl, (C1.trans (Below.chg bc _)).trans ((chg_set _ x 3 _).mono fun _ hk => .inl hk), S2.setLock 0, ?_⟩
    exact (M1.below bc).same (heap_set_other _ _ hne)

set_option maxRecDepth 100000 in
set_option maxHeartbeats 1600000 in
/-- keep, the pair not known. -/
theorem keep_new {w : World} {x gb id sh mb : Nat} {l : List (Nat × Nat)} (h : SB w x gb id sh 0 mb) (hM : MapIs w mb id l) (hne : mb ≠ x) (h9 : id ≤ 9) (h6 : l.length ≤ 6) (hsc : ∀ z ∈ l, SC z.1 ∧ SC z.2) (y : Nat × Nat) (hs : SC y.1 ∧ SC y.2) (hy : y ∉ l) :
    Calls Try.prog 29 #[.pointer (some ⟨x, 0, none⟩), pkey id y, pval y] w (KeepPost w x gb id sh mb l y) := by
  obtain ⟨d, hd⟩ : ∃ d, d = M.pw 2147483579 4 y.1 := ⟨_, rfl⟩
  obtain ⟨e, he⟩ : ∃ e, e = M.pw 2147483579 4 y.2 := ⟨_, rfl⟩
  obtain ⟨W, hW⟩ : ∃ W, (w.alloc (.cells #[.int .i64 (id : Int), .int .u64 (d : Int), .int .u64 (e : Int)] 40)).alloc (.cells #[.int .u64 (y.1 : Nat), .int .u64 (y.2 : Nat)] 78) = W := ⟨_, rfl⟩
  have B1 := below_alloc w (.cells #[.int .i64 (id : Int), .int .u64 (d : Int), .int .u64 (e : Int)] 40)
  have s1 := size_alloc w (.cells #[.int .i64 (id : Int), .int .u64 (d : Int), .int .u64 (e : Int)] 40)
  have k1 := heap_alloc_new w (.cells #[.int .i64 (id : Int), .int .u64 (d : Int), .int .u64 (e : Int)] 40)
  have B2 := below_alloc (w.alloc (.cells #[.int .i64 (id : Int), .int .u64 (d : Int), .int .u64 (e : Int)] 40)) (.cells #[.int .u64 (y.1 : Nat), .int .u64 (y.2 : Nat)] 78)
  have v2 := heap_alloc_new (w.alloc (.cells #[.int .i64 (id : Int), .int .u64 (d : Int), .int .u64 (e : Int)] 40)) (.cells #[.int .u64 (y.1 : Nat), .int .u64 (y.2 : Nat)] 78)
  rw [s1] at v2
  have BW : Below w.heap.size w W := by rw [← hW]; exact B1.trans (B2.mono B1.size)
  have S0 := h.below BW
  have M0 := hM.below BW
  have k2 := (B2.block w.heap.size (by omega)).trans k1
  obtain ⟨_, _, _, c3, _⟩ := S0.cells
  have f3 := S0.frozen 3
  have S1 := S0.setLock 1
  have M1 : MapIs (W.setCell ⟨x, 3, none⟩ (.int .i32 1)) mb id l := M0.same (heap_set_other W _ hne)
  rw [hW] at k2 v2
  have hxw := h.lt
  have hmw := hM.lt
  have k3 : (W.setCell ⟨x, 3, none⟩ (.int .i32 1)).heap[w.heap.size]? = some (.cells #[.int .i64 (id : Int), .int .u64 (d : Int), .int .u64 (e : Int)] 40 (0, 0)) := (heap_set_other W _ (by omega)).trans k2
  have v3 : (W.setCell ⟨x, 3, none⟩ (.int .i32 1)).heap[w.heap.size + 1]? = some (.cells #[.int .u64 (y.1 : Nat), .int .u64 (y.2 : Nat)] 78 (0, 0)) := (heap_set_other W _ (by omega)).trans v2
  have C1 : Chg (fun k => k = x ∨ k = mb) w (W.setCell ⟨x, 3, none⟩ (.int .i32 1)) := (Below.chg BW _).trans ((chg_set W x 3 _).mono fun _ hk => .inl hk)
  unfold pkey ckey pval
  rw [← hd, ← he]
  have HD : Hid (d = M.pw 2147483579 4 y.1) := hd
  have HE : Hid (e = M.pw 2147483579 4 y.2) := he
  clear hd he
  clear k1 k2 v2 B1 B2 s1 hM h
  go_enter_defers Try.func29, Try.ntmps29
  go_upto_region 1 with fail
  clear hW
  go_upto_region 3 with (first | (go_at_call 39; refine (lock_free ⟨x, 3, none⟩ _ c3 f3).mono ?_; rintro e w' ⟨rfl, rfl⟩))
  obtain ⟨U, hU⟩ : ∃ U, W.setCell ⟨x, 3, none⟩ (.int .i32 1) = U := ⟨_, rfl⟩
  rw [hU] at S1 M1 k3 v3 C1 ⊢
  have H : ∀ w', Below U.heap.size U w' → w'.cell? ⟨x, 5, none⟩ = some (.map (some mb)) ∧ w'.cell? ⟨w.heap.size, 0, none⟩ = some (.int .i64 (id : Int)) ∧ w'.cell? ⟨w.heap.size, 1, none⟩ = some (.int .u64 (d : Int)) ∧ w'.cell? ⟨w.heap.size, 2, none⟩ = some (.int .u64 (e : Int)) ∧
      (Instr.lookup 64 (.map (some mb)) (.agg #[.int .i64 (id : Int), .int .u64 (d : Int), .int .u64 (e : Int)]) true).run Try.prog w' = .ok (.tuple #[pval (0, 0), .bool false]) w' ∧ Below U.heap.size U w' := by
    intro w' b
    have Z := (b.block w.heap.size (lt_of_block k3)).trans k3
    refine ⟨(S1.below b).cells.2.2.2.2, by simp [World.cell?, Z], by simp [World.cell?, Z], by simp [World.cell?, Z], ?_, b⟩
    rw [HD.out, HE.out]
    exact (M1.below b).miss (pkey_fit h9) fun z hz e => hy (pkey_inj (hsc z hz) hs e ▸ hz)
  clear hU S0 M0 c3 f3
  go_cut [8] from 16 (fun s8 wx => s8 = .bool false ∧ Below U.heap.size U wx)
  case first =>
    refine blind ?_
    go_region_held (fun w' => w'.cell? ⟨x, 5, none⟩ = some (.map (some mb)) ∧ w'.cell? ⟨w.heap.size, 0, none⟩ = some (.int .i64 (id : Int)) ∧ w'.cell? ⟨w.heap.size, 1, none⟩ = some (.int .u64 (d : Int)) ∧ w'.cell? ⟨w.heap.size, 2, none⟩ = some (.int .u64 (e : Int)) ∧
      (Instr.lookup 64 (.map (some mb)) (.agg #[.int .i64 (id : Int), .int .u64 (d : Int), .int .u64 (e : Int)]) true).run Try.prog w' = .ok (.tuple #[pval (0, 0), .bool false]) w' ∧ Below U.heap.size U w')
      (first | assumption | exact H _ (Below.refl _ _).drew | exact H _ ((below_alloc _ _).drew)) (fail)
    all_goals
      go_wp2_with fail
      go_meet
      case rel => exact ⟨rfl, (below_alloc _ _).drew⟩
  case rest =>
    obtain ⟨rfl, bc⟩ := hcut
    have S2 := S1.below bc
    have M2 := M1.below bc
    obtain ⟨_, _, _, _, c5⟩ := S2.cells
    by_cases hfull : l.length < 6
    · have hfi : ¬ (6 : Int) ≤ (l.length : Nat) := by omega
      go_upto_region 8 with (at_len; refine wpList_mlen _ rfl _ rfl mb id l rfl M2 ?_)
      have M2d : MapIs wc.drew mb id l := M2.same rfl
      obtain ⟨w3, hrun, M3, g3⟩ := M2d.store h9 (by omega) hsc hs hy
      unfold pkey ckey pval at hrun
      rw [← HD.out, ← HE.out] at hrun
      have hmk := M2.lt
      have hmU := M1.lt
      have k4 := (bc.block w.heap.size (lt_of_block k3)).trans k3
      have v4 := (bc.block (w.heap.size + 1) (lt_of_block v3)).trans v3
      have H0 : ∀ w' : World, w'.heap[x]? = wc.heap[x]? → w'.heap[w.heap.size]? = wc.heap[w.heap.size]? → w'.heap[w.heap.size + 1]? = wc.heap[w.heap.size + 1]? → w'.cell? ⟨x, 5, none⟩ = some (.map (some mb)) ∧ w'.cell? ⟨w.heap.size, 0, none⟩ = some (.int .i64 (id : Int)) ∧ w'.cell? ⟨w.heap.size, 1, none⟩ = some (.int .u64 (d : Int)) ∧ w'.cell? ⟨w.heap.size, 2, none⟩ = some (.int .u64 (e : Int)) ∧ w'.cell? ⟨w.heap.size + 1, 0, none⟩ = some (.int .u64 (y.1 : Nat)) ∧ w'.cell? ⟨w.heap.size + 1, 1, none⟩ = some (.int .u64 (y.2 : Nat)) := by
        intro w' e1 e2 e3
        rw [k4] at e2
        rw [v4] at e3
        exact ⟨(S2.same e1).cells.2.2.2.2, by simp [World.cell?, e2], by simp [World.cell?, e2], by simp [World.cell?, e2], by simp [World.cell?, e3], by simp [World.cell?, e3]⟩
      have hgb : ∀ k, k ≠ mb → k < wc.heap.size → w3.heap[k]? = wc.heap[k]? := fun k hk hl => g3.block k hl (by simp [hk])
      have hxm : x < wc.heap.size := S2.lt
      have H1 := H0 wc.drew rfl rfl rfl
      have H3 := H0 w3 (hgb x (fun e => hne e.symm) hxm) (hgb _ (by omega) (lt_of_block k4)) (hgb _ (by omega) (lt_of_block v4))
      have C3 : Chg (fun k => k = x ∨ k = mb) wc.drew w3 := (grown_chg g3).mono fun k hk => .inr (Option.some.inj hk)
      have S3 : SB w3 x gb id sh 1 mb := S2.same (hgb x (fun e => hne e.symm) hxm)
      clear c5 k3 v3 k4 v4 g3
      refine blind ?_
      go_region_held (fun w' => w'.cell? ⟨x, 5, none⟩ = some (.map (some mb)) ∧ w'.cell? ⟨w.heap.size, 0, none⟩ = some (.int .i64 (id : Int)) ∧ w'.cell? ⟨w.heap.size, 1, none⟩ = some (.int .u64 (d : Int)) ∧ w'.cell? ⟨w.heap.size, 2, none⟩ = some (.int .u64 (e : Int)) ∧ w'.cell? ⟨w.heap.size + 1, 0, none⟩ = some (.int .u64 (y.1 : Nat)) ∧ w'.cell? ⟨w.heap.size + 1, 1, none⟩ = some (.int .u64 (y.2 : Nat)))
        (first | assumption | exact H1 | exact H3) (fail)
      clear hrun H0 H1 H3
      go_wp2_with fail
      refine leaves_cons (f := 40) (args := #[.pointer (some ⟨x, 3, none⟩)]) (by simp) (by simp [go_sem]) ?_
      refine (unlock_deferred ⟨x, 3, none⟩ _ _ S3.cells.2.2.2.1 (S3.frozen 3)).mono ?_
      rintro e u' w'' ⟨rfl, rfl, rfl⟩
      have bd : Below wc.heap.size wc wc.drew := (Below.refl _ _).drew
      refine ⟨_, results_tmp Try.results29 _ _ _, 0, .inr (.inr ⟨hy, hfull, rfl⟩), rfl, (((C1.trans (Below.chg bc _)).trans (Below.chg bd _)).trans C3).trans ((chg_set _ x 3 _).mono fun _ hk => .inl hk), S3.setLock 0, ?_⟩
      exact M3.same (heap_set_other _ _ hne)
    · have hfi : (6 : Int) ≤ (l.length : Nat) := by omega
      go_wp2_with (at_len; refine wpList_mlen _ rfl _ rfl mb id l rfl M2 ?_)
      refine leaves_cons (f := 40) (args := #[.pointer (some ⟨x, 3, none⟩)]) (by simp) (by simp [go_sem]) ?_
      refine (unlock_deferred ⟨x, 3, none⟩ _ _ S2.cells.2.2.2.1 (S2.frozen 3)).mono ?_
      rintro e u' w'' ⟨rfl, rfl, rfl⟩
      refine ⟨_, results_tmp Try.results29 _ _ _, 9, .inr (.inl ⟨hy, by omega, rfl⟩), rfl, (C1.trans (Below.chg bc _)).trans ((chg_set _ x 3 _).mono fun _ hk => .inl hk), S2.setLock 0, ?_⟩
      exact M2.same (heap_set_other _ _ hne)
end Go.Proofs.Yteoioldbigomaab
