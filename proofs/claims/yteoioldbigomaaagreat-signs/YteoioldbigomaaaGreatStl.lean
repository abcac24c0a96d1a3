import Derived.Test.YteoioldbigomaaaGreatStp
namespace Go.Proofs.YteoioldbigomaaaGreat
open Go.RowKit

theorem Wd.pair {S : Side} {B P : Nat} {w : World} {own : Nat → Option Nat} {ns : Nat} {s : Nat → Two} {ssv csv : Value} {nc : Nat} {I : Nat → Int} {D E : Nat → Nat} (h : Wd S B P w own ns s ssv csv nc I D E) {i : Nat} (hi : i < ns) :
    ∃ g cap, ssv = .slice (some ⟨g, 0, none⟩) ns cap ∧ g < w.heap.size ∧ w.cell? ⟨g, i * 2, none⟩ = some (.pointer (some ⟨(s i).x, 0, none⟩)) ∧ w.cell? ⟨g, i * 2 + 1, none⟩ = some (.pointer (some ⟨(s i).p, 0, none⟩)) := by
  rcases h.ss.2 with ⟨_, h0⟩ | ⟨g, cap, cur, hv, _, hgb, _⟩
  · omega
  · obtain ⟨a1, a2⟩ := sgc_at (fun i => (s i).x) (fun i => (s i).p) ns i hi
    have c1 := h.ss.cells (g := g) (by rw [hv]; rfl) _ _ a1
    have c2 := h.ss.cells (g := g) (by rw [hv]; rfl) _ _ a2
    rw [addr_add0] at c1 c2
    exact ⟨g, cap, hv, lt_of_block hgb, c1, c2⟩

set_option maxHeartbeats 4000000 in
set_option maxRecDepth 100000 in
/-- A step on signers of which there is none. -/
theorem step_none (S : Side) (B P : Nat) (w : World) (own : Nat → Option Nat) (s : Nat → Two) (ssv csv : Value) (nc : Nat) (I : Nat → Int) (D E : Nat → Nat) (d : OpD) (h : Wd S B P w own 0 s ssv csv nc I D E) (hB : B ≤ w.heap.size) (hK : d.K ≠ 1) :
    Calls Tryz.prog 32 #[.pointer (some ⟨P, 0, none⟩), .agg d.val] w (StPost S B P 0 nc w) := by
  obtain ⟨K, A, Bn, C, Dn, t, n, ga, gl, gc, f, x, y, st, la, ln, lc, IL, DL, EL'⟩ := d
  simp only at hK
  obtain ⟨O, hO⟩ : ∃ O : Obj, O = .cells (opv K A Bn C Dn t n (.slice ga gl gc) x y st (.slice la ln lc)) 70 := ⟨_, rfl⟩
  have B0 := below_alloc w O
  have W0 := h.below B0
  obtain ⟨z0, z1, z2, y0, y1, y2⟩ := three W0.blk
  obtain ⟨av, cv, hv⟩ := row_form W0.ss
  subst hv
  unfold OpD.val
  unfold opv at hO ⊢
  rw [hO] at z0
  go_enter Tryz.func32, Tryz.ntmps32
  go_wp2_with fail
  go_ret
  rw [← hO]
  exact ⟨rfl, B0.mono hB, own, 0, s, _, csv, nc, I, D, E, W0, by omega, by omega⟩

/-- The program's Left. -/
structure PrgL extends Prg where
  left : ∀ {w : World} {x : Nat} {F : Nat → Prop} {g : Sg} {l : List (Nat × Nat)}, PS w x F g l → g.Ok → Ls l → Calls Tryz.prog 64 #[.pointer (some ⟨x, 0, none⟩)] w fun e w' => e = .returned (.int .i64 (l.length : Nat)) ∧ Below w.heap.size w w'

set_option maxHeartbeats 4000000 in
set_option maxRecDepth 100000 in
theorem step_left (G : PrgL) (B P : Nat) (w : World) (own : Nat → Option Nat) (ns : Nat) (s : Nat → Two) (ssv csv : Value) (nc : Nat) (I : Nat → Int) (D E : Nat → Nat) (d : OpD) (h : Wd G.toSide B P w own ns s ssv csv nc I D E) (hB : B ≤ w.heap.size)
    (hns : ns ≤ 65536) (hn0 : 0 < ns) (hA1 : -9223372036854775808 ≤ d.A) (hA2 : d.A ≤ 9223372036854775807) (hK : d.K = 4) :
    Calls Tryz.prog 32 #[.pointer (some ⟨P, 0, none⟩), .agg d.val] w (StPost G.toSide B P ns nc w) := by
  obtain ⟨K, A, Bn, C, Dn, t, n, ga, gl, gc, f, x, y, st, la, ln, lc, IL, DL, EL'⟩ := d
  simp only at hK hA1 hA2
  subst hK
  obtain ⟨O, hO⟩ : ∃ O : Obj, O = .cells (opv 4 A Bn C Dn t n (.slice ga gl gc) x y st (.slice la ln lc)) 70 := ⟨_, rfl⟩
  have CPK := fun w' => pick_any A ns w' hn0 (by omega) hA1 hA2
  obtain ⟨pk, hpk⟩ : ∃ pk, pk = M.pick A ns := ⟨_, rfl⟩
  have hpl : pk < ns := by rw [hpk]; exact M.pick_lt _ _ hn0
  simp only [← hpk] at CPK
  clear hpk
  have B0 := below_alloc w O
  have W0 := h.below B0
  have HZ := heap_alloc_new w O
  obtain ⟨V, hV⟩ : ∃ V, w.alloc O = V := ⟨_, rfl⟩
  rw [hV] at B0 W0 HZ
  obtain ⟨z0, z1, z2, y0, y1, y2⟩ := three W0.blk
  obtain ⟨g, cap, rfl, hgl, r0, r1⟩ := W0.pair hpl
  obtain ⟨X, hX⟩ : ∃ X, X = (s pk).x := ⟨_, rfl⟩
  obtain ⟨Y, hY⟩ : ∃ Y, Y = (s pk).p := ⟨_, rfl⟩
  rw [← hX] at r0
  rw [← hY] at r1
  rw [hO] at HZ
  have c0 : V.cell? ⟨w.heap.size, 0, none⟩ = some (.int .i64 4) := by simp [World.cell?, HZ, opv]
  have c1 : V.cell? ⟨w.heap.size, 1, none⟩ = some (.int .i64 A) := by simp [World.cell?, HZ, opv]
  have hpi : (pk : Int) < ns := by omega
  have hn1 : ¬ (ns : Int) = 0 := by omega
  have HW : Hid (Wd G.toSide B P V own ns s (.slice (some ⟨g, 0, none⟩) ns cap) csv nc I D E) := W0
  have HX : Hid (X = (s pk).x) := hX
  have HY : Hid (Y = (s pk).p) := hY
  have HZ2 : Hid (V.cell? ⟨w.heap.size, 0, none⟩ = some (.int .i64 4)) := c0
  have hwV : w.heap.size < V.heap.size := by rw [← hV, size_alloc]; omega
  clear h W0 HZ hX hY
  unfold OpD.val
  unfold opv at hO ⊢
  go_enter Tryz.func32, Tryz.ntmps32
  go_upto_region 1 with fail
  rw [← hO, hV]
  clear hV hO
  go_upto_region 13 with fail
  go_cut [9] from 74 (fun s9 wx => s9 = .pointer (some ⟨V.heap.size, 0, none⟩) ∧ wx = (V.alloc (.cells #[.pointer (some ⟨X, 0, none⟩), .pointer (some ⟨Y, 0, none⟩)] 127)).drew)
  case first =>
    go_region_held (fun w' => w'.cell? ⟨P, 0, none⟩ = some (.slice (some ⟨g, 0, none⟩) ns cap) ∧ w'.cell? ⟨w.heap.size, 1, none⟩ = some (.int .i64 A) ∧ w'.cell? ⟨g, pk * 2, none⟩ = some (.pointer (some ⟨X, 0, none⟩)) ∧ w'.cell? ⟨g, pk * 2 + 1, none⟩ = some (.pointer (some ⟨Y, 0, none⟩)))
      (first | assumption | (simp [*]; done) | go_keep) (first | (go_at_call 57; refine (CPK _).mono ?_; rintro ex w2 ⟨rfl, hw⟩; subst hw))
    all_goals
      go_wp2_with fail
      go_meet
      case rel => exact ⟨rfl, rfl⟩
  case rest =>
    have hz2 := heap_alloc_new V (.cells #[.pointer (some ⟨X, 0, none⟩), .pointer (some ⟨Y, 0, none⟩)] 127)
    obtain ⟨rfl, hwc⟩ := hcut
    have dW : Below V.heap.size V wc := by rw [hwc]; exact (below_alloc _ _).drew
    have hzc : wc.heap[V.heap.size]? = some (.cells #[.pointer (some ⟨X, 0, none⟩), .pointer (some ⟨Y, 0, none⟩)] 127 (0, 0)) := by rw [hwc]; exact hz2
    have d0 := (dW.cell (p := ⟨w.heap.size, 0, none⟩) hwV).trans c0
    have k0 : wc.cell? ⟨V.heap.size, 0, none⟩ = some (.pointer (some ⟨X, 0, none⟩)) := by simp [World.cell?, hzc]
    have k1 : wc.cell? ⟨V.heap.size, 1, none⟩ = some (.pointer (some ⟨Y, 0, none⟩)) := by simp [World.cell?, hzc]
    have W1 := HW.out.below dW
    have CL := fun w' (hb : Below wc.heap.size wc w') => G.left ((W1.below hb).ps pk hpl) (W1.ok pk hpl).1 (W1.ok pk hpl).2
    rw [← HX.out] at CL
    have CR := fun w' (hb : Below wc.heap.size wc w') => left_any _ _ _ _ _ _ _ _ _ _ w' ((W1.rs pk hpl).below hb)
    rw [← HY.out] at CR
    have HW1 : Hid (Wd G.toSide B P wc own ns s (.slice (some ⟨g, 0, none⟩) ns cap) csv nc I D E) := W1
    have fin : ∀ w', Below wc.heap.size wc w' → StPost G.toSide B P ns nc w (.returned (.bool true)) w' := fun w' hb =>
      ⟨rfl, (B0.trans ((dW.trans (hb.mono dW.size)).mono (Nat.le_of_lt hwV))).mono hB, own, ns, s, _, csv, nc, I, D, E, HW1.out.below hb, by omega, by omega⟩
    clear hz2 hwc W1 z0 z1 z2 y0 y1 y2 r0 r1 c0 c1 CPK
    have hVc : V.heap.size < wc.heap.size := lt_of_block hzc
    clear hzc
    go_upto_region 28 with fail
    go_region_held (fun w' => Below wc.heap.size wc w' ∧ w'.cell? ⟨V.heap.size, 0, none⟩ = some (.pointer (some ⟨X, 0, none⟩)) ∧ w'.cell? ⟨V.heap.size, 1, none⟩ = some (.pointer (some ⟨Y, 0, none⟩)))
      (first | assumption | exact ⟨(Below.refl _ _).drew, by assumption, by assumption⟩ | exact ⟨by assumption, by assumption, by assumption⟩ | (simp [*]; done) | go_keep) (first | (go_at_call 64; refine (CL _ (by first | assumption | exact (Below.refl _ _).drew)).mono ?_; rintro ex w4 ⟨rfl, b4⟩; have b5 : Below wc.heap.size wc w4 := (Below.refl _ _).drew.trans b4; have k4 := (b5.cell (p := ⟨V.heap.size, 1, none⟩) hVc).trans k1; have k5 := (b5.cell (p := ⟨V.heap.size, 0, none⟩) hVc).trans k0) | (go_at_call 65; refine (CR _ b5).mono ?_; rintro ex w5 ⟨rfl, rfl⟩))
    all_goals
      go_wp2_with fail
      go_ret
      exact fin _ b5
end Go.Proofs.YteoioldbigomaaaGreat
namespace Go.Proofs.YteoioldbigomaaaGreat
open Go.RowKit

set_option maxHeartbeats 4000000 in
set_option maxRecDepth 100000 in
/-- A step of another kind. -/
theorem step_other (G : Side) (B P : Nat) (w : World) (own : Nat → Option Nat) (ns : Nat) (s : Nat → Two) (ssv csv : Value) (nc : Nat) (I : Nat → Int) (D E : Nat → Nat) (d : OpD) (h : Wd G B P w own ns s ssv csv nc I D E) (hB : B ≤ w.heap.size)
    (hns : ns ≤ 65536) (hn0 : 0 < ns) (hA1 : -9223372036854775808 ≤ d.A) (hA2 : d.A ≤ 9223372036854775807) (hK : d.K ≠ 1 ∧ d.K ≠ 2 ∧ d.K ≠ 3 ∧ d.K ≠ 4) :
    Calls Tryz.prog 32 #[.pointer (some ⟨P, 0, none⟩), .agg d.val] w (StPost G B P ns nc w) := by
  obtain ⟨K, A, Bn, C, Dn, t, n, ga, gl, gc, f, x, y, st, la, ln, lc, IL, DL, EL'⟩ := d
  simp only at hK hA1 hA2
  obtain ⟨j1, j2, j3, j4⟩ := hK
  obtain ⟨O, hO⟩ : ∃ O : Obj, O = .cells (opv K A Bn C Dn t n (.slice ga gl gc) x y st (.slice la ln lc)) 70 := ⟨_, rfl⟩
  have CPK := fun w' => pick_any A ns w' hn0 (by omega) hA1 hA2
  obtain ⟨pk, hpk⟩ : ∃ pk, pk = M.pick A ns := ⟨_, rfl⟩
  have hpl : pk < ns := by rw [hpk]; exact M.pick_lt _ _ hn0
  simp only [← hpk] at CPK
  clear hpk
  have B0 := below_alloc w O
  have W0 := h.below B0
  have HZ := heap_alloc_new w O
  obtain ⟨V, hV⟩ : ∃ V, w.alloc O = V := ⟨_, rfl⟩
  rw [hV] at B0 W0 HZ
  obtain ⟨z0, z1, z2, y0, y1, y2⟩ := three W0.blk
  obtain ⟨g, cap, rfl, hgl, r0, r1⟩ := W0.pair hpl
  obtain ⟨X, hX⟩ : ∃ X, X = (s pk).x := ⟨_, rfl⟩
  obtain ⟨Y, hY⟩ : ∃ Y, Y = (s pk).p := ⟨_, rfl⟩
  rw [← hX] at r0
  rw [← hY] at r1
  rw [hO] at HZ
  have c0 : V.cell? ⟨w.heap.size, 0, none⟩ = some (.int .i64 K) := by simp [World.cell?, HZ, opv]
  have c1 : V.cell? ⟨w.heap.size, 1, none⟩ = some (.int .i64 A) := by simp [World.cell?, HZ, opv]
  have hpi : (pk : Int) < ns := by omega
  have hn1 : ¬ (ns : Int) = 0 := by omega
  have HW : Hid (Wd G B P V own ns s (.slice (some ⟨g, 0, none⟩) ns cap) csv nc I D E) := W0
  have HX : Hid (X = (s pk).x) := hX
  have HY : Hid (Y = (s pk).p) := hY
  have HZ2 : Hid (V.cell? ⟨w.heap.size, 0, none⟩ = some (.int .i64 K)) := c0
  have hwV : w.heap.size < V.heap.size := by rw [← hV, size_alloc]; omega
  clear h W0 HZ hX hY
  unfold OpD.val
  unfold opv at hO ⊢
  go_enter Tryz.func32, Tryz.ntmps32
  go_upto_region 1 with fail
  rw [← hO, hV]
  clear hV hO
  go_upto_region 13 with fail
  go_cut [9] from 20 (fun s9 wx => s9 = .pointer (some ⟨V.heap.size, 0, none⟩) ∧ wx = (V.alloc (.cells #[.pointer (some ⟨X, 0, none⟩), .pointer (some ⟨Y, 0, none⟩)] 127)).drew)
  case first =>
    go_region_held (fun w' => w'.cell? ⟨P, 0, none⟩ = some (.slice (some ⟨g, 0, none⟩) ns cap) ∧ w'.cell? ⟨w.heap.size, 1, none⟩ = some (.int .i64 A) ∧ w'.cell? ⟨g, pk * 2, none⟩ = some (.pointer (some ⟨X, 0, none⟩)) ∧ w'.cell? ⟨g, pk * 2 + 1, none⟩ = some (.pointer (some ⟨Y, 0, none⟩)))
      (first | assumption | (simp [*]; done) | go_keep) (first | (go_at_call 57; refine (CPK _).mono ?_; rintro ex w2 ⟨rfl, hw⟩; subst hw))
    all_goals
      go_wp2_with fail
      go_meet
      case rel => exact ⟨rfl, rfl⟩
  case rest =>
    have hz2 := heap_alloc_new V (.cells #[.pointer (some ⟨X, 0, none⟩), .pointer (some ⟨Y, 0, none⟩)] 127)
    obtain ⟨rfl, hwc⟩ := hcut
    have dW : Below V.heap.size V wc := by rw [hwc]; exact (below_alloc _ _).drew
    have hzc : wc.heap[V.heap.size]? = some (.cells #[.pointer (some ⟨X, 0, none⟩), .pointer (some ⟨Y, 0, none⟩)] 127 (0, 0)) := by rw [hwc]; exact hz2
    have d0 := (dW.cell (p := ⟨w.heap.size, 0, none⟩) hwV).trans c0
    have W1 := HW.out.below dW
    have HW1 : Hid (Wd G B P wc own ns s (.slice (some ⟨g, 0, none⟩) ns cap) csv nc I D E) := W1
    clear hz2 hwc hzc W1 z0 z1 z2 y0 y1 y2 r0 r1 c0 c1 CPK
    go_wp2_with fail
    go_ret
    exact ⟨rfl, (B0.trans (dW.mono (Nat.le_of_lt hwV))).mono hB, own, ns, s, _, csv, nc, I, D, E, HW1.out, by omega, by omega⟩
end Go.Proofs.YteoioldbigomaaaGreat
