import Derived.Test.YteoioldbigomaaaGreatSeq
import Derived.WalkKit
import Derived.ProofKit
import Derived.OpenShut
import Derived.Test.YteoioldbigomaaaGreatPck
import Derived.Deep.Slices
import Derived.Deep.Strs
import Derived.Test.YteoioldbigomaaaGreatLst
import Derived.SizedLaws
namespace Go.Proofs.YteoioldbigomaaaGreat
open Go.RowKit

/-- A slice of integers as it came in. -/
def IsRow (k : IntKind) (w : World) (a : Option Addr) (len cap : Nat) (zs : List Int) : Prop :=
  (a = none ∧ len = 0 ∧ cap = 0 ∧ zs = []) ∨
  ∃ x, a = some x ∧ len ≤ cap ∧ cap ≤ maxLen ∧ zs.length = cap ∧ (∀ i, i < zs.length → w.cell? (x.add i) = some (.int k (zs.getD i 0))) ∧ ∀ n ∈ zs, (Lit.int k n).wf = true

theorem cell_lt {w : World} {b o : Nat} {v : Value} (h : w.cell? ⟨b, o, none⟩ = some v) : b < w.heap.size := by
  rcases Nat.lt_or_ge b w.heap.size with hl | hl
  · exact hl
  · simp [World.cell?, Array.getElem?_eq_none hl] at h

theorem rd_of_row {w : World} {a : Option Addr} {len cap : Nat} {zs : List Int} (h : IsRow .u64 w a len cap zs) :
    ∃ F, RdF w a len (cu (M.sq F len)) ∧ (a = none → len = 0 ∧ cap = 0) := by
  refine ⟨fun i => (zs.getD i 0).toNat, ?_⟩
  rcases h with ⟨rfl, rfl, rfl, _⟩ | ⟨x, rfl, hl, hm, hz, hc, hwf⟩
  · exact ⟨.inl rfl, fun _ => ⟨rfl, rfl⟩⟩
  · refine ⟨?_, fun h => by cases h⟩
    rcases Nat.eq_zero_or_pos len with h0 | hp
    · exact .inl h0
    · obtain ⟨b, o, rfl, hc'⟩ := ints_at hc (by omega)
      refine .inr ⟨b, o, rfl, cell_lt (hc' 0 (by omega)), fun i hi => ?_⟩
      rw [hc' i (by omega), M.cu_sq _ _ _ hi]
      have hb := bounds_u64 (hwf (zs.getD i 0) (by
        have : zs.getD i 0 = zs[i]'(by omega) := by simp [show i < zs.length by omega]
        rw [this]; exact List.getElem_mem _))
      congr 2
      omega

end Go.Proofs.YteoioldbigomaaaGreat
namespace Go.Proofs.YteoioldbigomaaaGreat
open Go.RowKit Go.Deep

theorem cells83 : Tryz.prog.cellsOf 98 = 3 := by kernel_rfl
theorem cells3 : Tryz.prog.cellsOf 3 = 1 := by kernel_rfl
theorem cells30 : Tryz.prog.cellsOf 26 = 1 := by kernel_rfl

set_option maxRecDepth 100000 in
/-- A list of commitments that came in. -/
theorem rd_of_commits {H : Type} {enc : TypeId × Value → H} {w : World} {base : Nat} {spare : Nat → Bool} {held : Bool} {a : Option Addr} {len cap fuel : Nat} {x : DataW H × List MemPlace}
    (h : DataW.trod enc Tryz.prog w base spare held fuel 25 [.slice a len cap] = some x) : ∃ I D E, RdC w a len I D E := by
  rcases open_slice Tryz.underlying25 h with ⟨hcs, _⟩ | ⟨ad, l, c, m, n, Dt, Pl, hcs, hb, hl, hm, hmm, _, hx⟩
  · simp at hcs
    obtain ⟨rfl, rfl, rfl⟩ := hcs
    exact ⟨fun _ => 0, fun _ => 0, fun _ => 0, .inl rfl⟩
  · simp at hcs
    obtain ⟨rfl, rfl, rfl⟩ := hcs
    have hlm : len ≤ m := by rw [hmm]; split <;> omega
    have each : ∀ i, i < len → ∃ q : Int × Nat × Nat, w.cell? (ad.add (i * 3)) = some (.int .i64 q.1) ∧ w.cell? (ad.add (i * 3 + 1)) = some (.int .u64 (q.2.1 : Nat)) ∧ w.cell? (ad.add (i * 3 + 2)) = some (.int .u64 (q.2.2 : Nat)) := by
      intro i hi
      obtain ⟨cs', h1, h2⟩ := hx i (by omega)
      rw [cells83] at h1
      obtain ⟨_, hlen, hcell⟩ := World.cells?_some h1
      obtain ⟨y0, y1, y2, k, _, _, g0, g1, g2⟩ := trod_struct3 Tryz.underlying98 h2
      match cs', hlen with
      | [v0, v1, v2], _ =>
        simp [cells3, cells30] at g0 g1 g2
        obtain ⟨n0, e0, _, _⟩ := DataW.trod_int Tryz.underlying3 g0
        obtain ⟨n1, e1, _, w1⟩ := DataW.trod_int Tryz.underlying26 g1
        obtain ⟨n2, e2, _, w2⟩ := DataW.trod_int Tryz.underlying26 g2
        simp at e0 e1 e2
        subst e0 e1 e2
        have b1 := bounds_u64 w1
        have b2 := bounds_u64 w2
        have c0 := hcell 0 (by omega)
        have c1 := hcell 1 (by omega)
        have c2 := hcell 2 (by omega)
        rw [add_add] at c0 c1 c2
        refine ⟨(n0, n1.toNat, n2.toNat), by simpa using c0, ?_, ?_⟩
        · rw [c1]; simp; omega
        · rw [c2]; simp; omega
    obtain ⟨q, hq⟩ := choose_lt each
    refine ⟨fun i => (q i).1, fun i => (q i).2.1, fun i => (q i).2.2, ?_⟩
    rcases Nat.eq_zero_or_pos len with h0 | hp
    · exact .inl h0
    · obtain ⟨b, off, spot⟩ := ad
      have hspot : spot = none := by simpa [Addr.add] using World.cell?_spot (hq 0 hp).1
      subst hspot
      have hq' : ∀ i, i < len → w.cell? ⟨b, off + i * 3, none⟩ = some (.int .i64 (q i).1) ∧ w.cell? ⟨b, off + i * 3 + 1, none⟩ = some (.int .u64 ((q i).2.1 : Nat)) ∧ w.cell? ⟨b, off + i * 3 + 2, none⟩ = some (.int .u64 ((q i).2.2 : Nat)) := by
        intro i hi
        have := hq i hi
        rw [Go.WideShapes.add_plain, Go.WideShapes.add_plain, Go.WideShapes.add_plain] at this
        exact this
      exact .inr ⟨b, off, rfl, cell_lt (hq' 0 hp).1, hq'⟩
end Go.Proofs.YteoioldbigomaaaGreat
namespace Go.Proofs.YteoioldbigomaaaGreat
open Go.RowKit Go.Deep Go.ChangeShapes Go.WideShapes

theorem cells97 : Tryz.prog.cellsOf 70 = 12 := by kernel_rfl
theorem cells24' : Tryz.prog.cellsOf 24 = 3 := by kernel_rfl
theorem cells9' : Tryz.prog.cellsOf 9 = 1 := by kernel_rfl
theorem cells38' : Tryz.prog.cellsOf 25 = 1 := by kernel_rfl
theorem cells22' : Tryz.prog.cellsOf 22 = 1 := by kernel_rfl

/-- A list of numbers that came in. -/
theorem rd_of_nums {H : Type} {enc : TypeId × Value → H} {w : World} {base : Nat} {spare : Nat → Bool} {held : Bool} {fuel : Nat} {v : Value} {x : DataW H × List MemPlace}
    (h : DataW.trod enc Tryz.prog w base spare held fuel 22 [v] = some x) : ∃ a len cap f, v = .slice a len cap ∧ RdF w a len (cu (M.sq f len)) ∧ (a = none → len = 0 ∧ cap = 0) := by
  rcases open_ints Tryz.underlying22 Tryz.underlying26 cells30 h with ⟨hcs, _⟩ | ⟨ad, l, c, zs, hcs, _, hl, hm, hz, _, hcell, hwz⟩
  · simp at hcs
    subst hcs
    exact ⟨none, 0, 0, fun _ => 0, rfl, .inl rfl, fun _ => ⟨rfl, rfl⟩⟩
  · simp at hcs
    subst hcs
    refine ⟨some ad, l, c, fun i => (zs.getD i 0).toNat, rfl, ?_, fun h => by cases h⟩
    rcases Nat.eq_zero_or_pos l with h0 | hp
    · exact .inl h0
    · have hlz : l ≤ zs.length := by rw [hz]; split <;> omega
      obtain ⟨b, o, rfl, hc'⟩ := ints_at hcell (by omega)
      refine .inr ⟨b, o, rfl, cell_lt (hc' 0 (by omega)), fun i hi => ?_⟩
      rw [hc' i (by omega), M.cu_sq _ _ _ hi]
      have hb := bounds_u64 (hwz (zs.getD i 0) (by
        have : zs.getD i 0 = zs[i]'(by omega) := by simp [show i < zs.length by omega]
        rw [this]; exact List.getElem_mem _))
      congr 2
      omega

theorem rd_of_commits2 {H : Type} {enc : TypeId × Value → H} {w : World} {base : Nat} {spare : Nat → Bool} {held : Bool} {fuel : Nat} {v : Value} {x : DataW H × List MemPlace}
    (h : DataW.trod enc Tryz.prog w base spare held fuel 25 [v] = some x) : ∃ a len cap I D E, v = .slice a len cap ∧ RdC w a len I D E ∧ (a = none → len = 0 ∧ cap = 0) := by
  rcases open_slice Tryz.underlying25 h with ⟨hcs, _⟩ | ⟨ad, l, c, m, n, Dt, Pl, hcs, _⟩
  · simp at hcs
    subst hcs
    exact ⟨none, 0, 0, fun _ => 0, fun _ => 0, fun _ => 0, rfl, .inl rfl, fun _ => ⟨rfl, rfl⟩⟩
  · simp at hcs
    subst hcs
    obtain ⟨I, D, E, hr⟩ := rd_of_commits h
    exact ⟨some ad, l, c, I, D, E, rfl, hr, fun h => by cases h⟩

set_option maxRecDepth 100000 in
/-- One step that came in, out of its cells. -/
theorem op_of_cells {H : Type} {enc : TypeId × Value → H} {w : World} {base : Nat} {spare : Nat → Bool} {held : Bool} {fuel : Nat} {cs : List Value} {x : DataW H × List MemPlace} (hl : cs.length = 12)
    (h : DataW.trod enc Tryz.prog w base spare held fuel 70 cs = some x) : ∃ d : OpD, cs = d.val.toList ∧ d.Ok w := by
  match cs, hl with
  | [v0, v1, v2, v3, v4, v5, v6, v7, v8, v9, v10, v11], _ =>
    obtain ⟨xs, n, _, _, _, hxl, hf⟩ := DataW.trod_struct Tryz.underlying70 h
    have f0 := hf 0 _ rfl
    have f1 := hf 1 _ rfl
    have f2 := hf 2 _ rfl
    have f3 := hf 3 _ rfl
    have f4 := hf 4 _ rfl
    have f5 := hf 5 _ rfl
    have f6 := hf 6 _ rfl
    have f7 := hf 7 _ rfl
    have f8 := hf 8 _ rfl
    have f9 := hf 9 _ rfl
    have hxl' : xs.length = 10 := hxl
    match xs, hxl' with
    | [y0, y1, y2, y3, y4, y5, y6, y7, y8, y9], _ =>
      simp [cells3, cells30, cells24', cells9', cells38'] at f0 f1 f2 f3 f4 f5 f6 f7 f8 f9
      obtain ⟨K, e0, _, w0⟩ := DataW.trod_int Tryz.underlying3 f0
      obtain ⟨A, e1, _, w1⟩ := DataW.trod_int Tryz.underlying3 f1
      obtain ⟨B, e2, _, w2⟩ := DataW.trod_int Tryz.underlying3 f2
      obtain ⟨C, e3, _, w3⟩ := DataW.trod_int Tryz.underlying3 f3
      obtain ⟨Dn, e4, _, w4⟩ := DataW.trod_int Tryz.underlying3 f4
      obtain ⟨X, e6, _, w6⟩ := DataW.trod_int Tryz.underlying26 f6
      obtain ⟨Y, e7, _, w7⟩ := DataW.trod_int Tryz.underlying26 f7
      obtain ⟨s, e8, _, _⟩ := DataW.trod_string Tryz.underlying9 f8
      obtain ⟨la, ln, lc, I, D, E, e9, hlr, hl0⟩ := rd_of_commits2 f9
      obtain ⟨z0, z1, z2, k, _, _, g0, g1, g2⟩ := trod_struct3 Tryz.underlying24 f5
      simp [cells3, cells22'] at g0 g1 g2
      obtain ⟨t, e10, _, _⟩ := DataW.trod_int Tryz.underlying3 g0
      obtain ⟨n', e11, _, _⟩ := DataW.trod_int Tryz.underlying3 g1
      obtain ⟨ga, gl, gc, f, e12, hgr, hg0⟩ := rd_of_nums g2
      simp at e0 e1 e2 e3 e4 e6 e7 e8 e10 e11
      subst e0 e1 e2 e3 e4 e6 e7 e8 e9 e10 e11 e12
      have b3 := bounds_i64 w3
      have b1 := bounds_i64 w1
      have b6 := bounds_u64 w6
      have b7 := bounds_u64 w7
      refine ⟨⟨K, A, B, C, Dn, t, n', ga, gl, gc, f, X.toNat, Y.toNat, s, la, ln, lc, I, D, E⟩, ?_, ⟨hgr, hg0, hlr, hl0, b3.1, b3.2, b1.1, b1.2⟩⟩
      show _ = [_, _, _, _, _, _, _, _, Value.int .u64 ((X.toNat : Nat) : Int), Value.int .u64 ((Y.toNat : Nat) : Int), _, _]
      rw [Int.toNat_of_nonneg b6.1, Int.toNat_of_nonneg b7.1]

/-- A script that came in. -/
theorem rd_of_ops {H : Type} {enc : TypeId × Value → H} {w : World} {base : Nat} {spare : Nat → Bool} {held : Bool} {a : Option Addr} {len cap fuel : Nat} {x : DataW H × List MemPlace}
    (h : DataW.trod enc Tryz.prog w base spare held fuel 35 [.slice a len cap] = some x) : ∃ d, RdO w a len d := by
  rcases open_slice Tryz.underlying35 h with ⟨hcs, _⟩ | ⟨ad, l, c, m, n, Dt, Pl, hcs, hb, hl, hm, hmm, _, hx⟩
  · simp at hcs
    obtain ⟨rfl, rfl, rfl⟩ := hcs
    exact ⟨fun _ => default, .inl rfl⟩
  · simp at hcs
    obtain ⟨rfl, rfl, rfl⟩ := hcs
    have hlm : len ≤ m := by rw [hmm]; split <;> omega
    have each : ∀ i, i < len → ∃ d : OpD, (∀ j, j < 12 → w.cell? ((ad.add (i * 12)).add j) = d.val[j]?) ∧ d.Ok w := by
      intro i hi
      obtain ⟨cs', h1, h2⟩ := hx i (by omega)
      rw [cells97] at h1 
      obtain ⟨_, hlen, hcell⟩ := World.cells?_some h1
      obtain ⟨d, hd, hok⟩ := op_of_cells hlen h2
      refine ⟨d, fun j hj => ?_, hok⟩
      rw [hcell j hj, hd]
      simp
    obtain ⟨d, hd⟩ := choose_lt each
    refine ⟨d, ?_⟩
    rcases Nat.eq_zero_or_pos len with h0 | hp
    · exact .inl h0
    · obtain ⟨b, off, spot⟩ := ad
      have c0 := (hd 0 hp).1 0 (by omega)
      have hspot : spot = none := by
        have e : (d 0).val[0]? = some (.int .i64 (d 0).K) := rfl
        rw [e] at c0
        simpa [Addr.add] using World.cell?_spot c0
      subst hspot
      have hd' : ∀ i, i < len → (∀ j, j < 12 → w.cell? ⟨b, off + i * 12 + j, none⟩ = (d i).val[j]?) ∧ (d i).Ok w := by
        intro i hi
        refine ⟨fun j hj => ?_, (hd i hi).2⟩
        have := (hd i hi).1 j hj
        rw [Go.WideShapes.add_plain, Go.WideShapes.add_plain] at this
        exact this
      have e : (d 0).val[0]? = some (.int .i64 (d 0).K) := rfl
      have c1 := (hd' 0 hp).1 0 (by omega)
      rw [e] at c1
      exact .inr ⟨b, off, rfl, cell_lt c1, hd'⟩
end Go.Proofs.YteoioldbigomaaaGreat
namespace Go.Proofs.YteoioldbigomaaaGreat
open Go.RowKit Go.Deep Go.ChangeShapes Go.WideShapes

theorem bytes83 : Tryz.prog.bytesOf 98 = 24 := by kernel_rfl
theorem bytes30 : Tryz.prog.bytesOf 26 = 8 := by kernel_rfl
theorem bytes97 : Tryz.prog.bytesOf 70 = 136 := by kernel_rfl

/-- Every text and list of a reading is within the machine's reach. -/
def InReach {H : Type} (t : TypeId) (d : DataW H) : Prop := ∀ k ∈ d.weights Tryz.prog t, k ≤ reachBytes

theorem reach_commits {H : Type} {enc : TypeId × Value → H} {w : World} {base : Nat} {spare : Nat → Bool} {held : Bool} {fuel : Nat} {a : Option Addr} {len cap : Nat} {x : DataW H × List MemPlace}
    (h : DataW.trod enc Tryz.prog w base spare held fuel 25 [.slice a len cap] = some x) (hz : InReach 25 x.1) : len ≤ reachBytes := by
  rcases open_slice Tryz.underlying25 h with ⟨hcs, _⟩ | ⟨ad, l, c, m, n, Dt, Pl, hcs, _, _, _, _, hx, _⟩
  · simp at hcs; omega
  · simp at hcs
    obtain ⟨rfl, rfl, rfl⟩ := hcs
    have := hz (((List.range len).map Dt).length * 24 + ((List.range (m - len)).map fun j => Dt (len + j)).length * 24) (by
      rw [hx]
      simp [DataW.weights, Tryz.underlying25, bytes83, Nat.add_mul])
    simp at this
    omega
theorem reach_nums {H : Type} {enc : TypeId × Value → H} {w : World} {base : Nat} {spare : Nat → Bool} {held : Bool} {fuel : Nat} {a : Option Addr} {len cap : Nat} {x : DataW H × List MemPlace}
    (h : DataW.trod enc Tryz.prog w base spare held fuel 22 [.slice a len cap] = some x) (hz : InReach 22 x.1) : len ≤ reachBytes := by
  rcases open_slice Tryz.underlying22 h with ⟨hcs, _⟩ | ⟨ad, l, c, m, n, Dt, Pl, hcs, _, _, _, _, hx, _⟩
  · simp at hcs; omega
  · simp at hcs
    obtain ⟨rfl, rfl, rfl⟩ := hcs
    have := hz (((List.range len).map Dt).length * 8 + ((List.range (m - len)).map fun j => Dt (len + j)).length * 8) (by
      rw [hx]
      simp [DataW.weights, Tryz.underlying22, bytes30, Nat.add_mul])
    simp at this
    omega

set_option maxRecDepth 100000 in
/-- One step that came in, within reach. -/
theorem op_reach {H : Type} {enc : TypeId × Value → H} {w : World} {base : Nat} {spare : Nat → Bool} {held : Bool} {fuel : Nat} {d : OpD} {x : DataW H × List MemPlace}
    (h : DataW.trod enc Tryz.prog w base spare held fuel 70 d.val.toList = some x) (hz : InReach 70 x.1) : d.s.size ≤ reachBytes ∧ d.ln ≤ reachBytes ∧ d.gl ≤ reachBytes := by
  obtain ⟨xs, n, _, hx, _, hxl, hf⟩ := DataW.trod_struct Tryz.underlying70 h
  have f5 := hf 5 _ rfl
  have f8 := hf 8 _ rfl
  have f9 := hf 9 _ rfl
  have hxl' : xs.length = 10 := hxl
  match xs, hxl' with
  | [y0, y1, y2, y3, y4, y5, y6, y7, y8, y9], _ =>
    have hw : ∀ (j : Nat) (t : TypeId) (dd : DataW H), ([3, 3, 3, 3, 3, 24, 26, 26, 9, 25] : List TypeId)[j]? = some t → [y0.1, y1.1, y2.1, y3.1, y4.1, y5.1, y6.1, y7.1, y8.1, y9.1][j]? = some dd → InReach t dd := by
      intro j t dd h1 h2 k hk
      refine hz k ?_
      rw [hx]
      simp only [DataW.weights, Tryz.underlying70]
      exact DataW.weights_mem_each (j := j) h1 h2 k hk
    unfold OpD.val opv at f5 f8 f9
    simp [cells24', cells9', cells38'] at f5 f8 f9
    obtain ⟨s, e8, hy8, _⟩ := DataW.trod_string Tryz.underlying9 f8
    simp at e8
    obtain ⟨z0, z1, z2, k, hy5, _, g0, g1, g2⟩ := trod_struct3 Tryz.underlying24 f5
    simp [cells3, cells22'] at g0 g1 g2
    refine ⟨?_, reach_commits f9 (hw 9 25 _ rfl rfl), reach_nums g2 ?_⟩
    · have := hw 8 9 _ rfl rfl s.data.toList.length (by rw [hy8]; simp [DataW.weights])
      rw [e8]
      simpa using this
    · intro kk hk
      refine hw 5 24 _ rfl rfl kk ?_
      rw [hy5]
      simp only [DataW.weights, Tryz.underlying24]
      exact DataW.weights_mem_each (ts := [3, 3, 22]) (ds := [z0.1, z1.1, z2.1]) (j := 2) rfl rfl kk hk
end Go.Proofs.YteoioldbigomaaaGreat
namespace Go.Proofs.YteoioldbigomaaaGreat
open Go.RowKit Go.Deep Go.ChangeShapes Go.WideShapes

/-- A script that came in, within reach. -/
def Scr (w : World) (a : Option Addr) (n : Nat) (d : Nat → OpD) : Prop :=
  RdO w a n d ∧ n ≤ 140737488355328 ∧ ∀ i, i < n → (d i).s.size ≤ 140737488355328 ∧ (d i).ln ≤ 140737488355328 ∧ (d i).gl ≤ 140737488355328

theorem weights_mem_all {H : Type} {e : TypeId} : ∀ {l : List (DataW H)} {dd : DataW H}, dd ∈ l → ∀ k ∈ dd.weights Tryz.prog e, k ∈ DataW.weightsAll Tryz.prog e l
  | [], _, h, _, _ => by simp at h
  | d0 :: r, dd, h, k, hk => by
    simp only [DataW.weightsAll, List.mem_append]
    rcases List.mem_cons.1 h with rfl | h
    · exact .inl hk
    · exact .inr (weights_mem_all h k hk)

theorem scr_of {H : Type} {enc : TypeId × Value → H} {w : World} {base : Nat} {spare : Nat → Bool} {held : Bool} {a : Option Addr} {len cap fuel : Nat} {x : DataW H × List MemPlace}
    (h : DataW.trod enc Tryz.prog w base spare held fuel 35 [.slice a len cap] = some x) (hz : InReach 35 x.1) : ∃ d, Scr w a len d := by
  have hrb : reachBytes ≤ 140737488355328 := by decide
  rcases open_slice Tryz.underlying35 h with ⟨hcs, _⟩ | ⟨ad, l, c, m, n, Dt, Pl, hcs, hb, hl, hm, hmm, hxx, hx⟩
  · simp at hcs
    obtain ⟨rfl, rfl, rfl⟩ := hcs
    exact ⟨fun _ => default, .inl rfl, by omega, fun i hi => absurd hi (Nat.not_lt_zero i)⟩
  · simp at hcs
    obtain ⟨rfl, rfl, rfl⟩ := hcs
    have hlm : len ≤ m := by rw [hmm]; split <;> omega
    have hlen0 : len ≤ reachBytes := by
      have := hz (((List.range len).map Dt).length * 136 + ((List.range (m - len)).map fun j => Dt (len + j)).length * 136) (by
        rw [hxx]
        simp [DataW.weights, Tryz.underlying35, bytes97, Nat.add_mul])
      simp at this
      omega
    have hzi : ∀ i, i < len → InReach 70 (Dt i) := by
      intro i hi k hk
      refine hz k ?_
      rw [hxx]
      simp only [DataW.weights, Tryz.underlying35, List.mem_cons, List.mem_append]
      exact .inr (.inl (weights_mem_all (List.mem_map.2 ⟨i, List.mem_range.2 hi, rfl⟩) k hk))
    have each : ∀ i, i < len → ∃ d : OpD, (∀ j, j < 12 → w.cell? ((ad.add (i * 12)).add j) = d.val[j]?) ∧ d.Ok w ∧ d.s.size ≤ reachBytes ∧ d.ln ≤ reachBytes ∧ d.gl ≤ reachBytes := by
      intro i hi
      obtain ⟨cs', h1, h2⟩ := hx i (by omega)
      rw [cells97] at h1
      obtain ⟨_, hlen, hcell⟩ := World.cells?_some h1
      obtain ⟨d, hd, hok⟩ := op_of_cells hlen h2
      rw [hd] at h2
      refine ⟨d, fun j hj => ?_, hok, op_reach h2 (hzi i hi)⟩
      rw [hcell j hj, hd]
      simp
    obtain ⟨d, hd⟩ := choose_lt each
    refine ⟨d, ?_, by omega, fun i hi => by have := (hd i hi).2.2; omega⟩
    rcases Nat.eq_zero_or_pos len with h0 | hp
    · exact .inl h0
    · obtain ⟨b, off, spot⟩ := ad
      have e : (d 0).val[0]? = some (.int .i64 (d 0).K) := rfl
      have c0 := (hd 0 hp).1 0 (by omega)
      have hspot : spot = none := by
        rw [e] at c0
        simpa [Addr.add] using World.cell?_spot c0
      subst hspot
      have hd' : ∀ i, i < len → (∀ j, j < 12 → w.cell? ⟨b, off + i * 12 + j, none⟩ = (d i).val[j]?) ∧ (d i).Ok w := by
        intro i hi
        refine ⟨fun j hj => ?_, (hd i hi).2.1⟩
        have := (hd i hi).1 j hj
        rw [Go.WideShapes.add_plain, Go.WideShapes.add_plain] at this
        exact this
      have c1 := (hd' 0 hp).1 0 (by omega)
      rw [e] at c1
      exact .inr ⟨b, off, rfl, cell_lt c1, hd'⟩
end Go.Proofs.YteoioldbigomaaaGreat
