import Derived.Test.YteoioldbigomaaaRead
import Derived.Test.YteoioldbigomaaaPck
import Derived.Deep.Slices
import Derived.Deep.Strs
namespace Go.Proofs.Yteoioldbigomaaa
open Go.RowKit Go.Deep

theorem cells83 : Try.prog.cellsOf 79 = 3 := by kernel_rfl
theorem cells3 : Try.prog.cellsOf 3 = 1 := by kernel_rfl
theorem cells30 : Try.prog.cellsOf 30 = 1 := by kernel_rfl

set_option maxRecDepth 100000 in
/-- A list of commitments that came in. -/
theorem rd_of_commits {H : Type} {enc : TypeId × Value → H} {w : World} {base : Nat} {spare : Nat → Bool} {held : Bool} {a : Option Addr} {len cap fuel : Nat} {x : DataW H × List MemPlace}
    (h : DataW.trod enc Try.prog w base spare held fuel 38 [.slice a len cap] = some x) : ∃ I D E, RdC w a len I D E := by
  rcases open_slice Try.underlying38 h with ⟨hcs, _⟩ | ⟨ad, l, c, m, n, Dt, Pl, hcs, hb, hl, hm, hmm, _, hx⟩
  · simp at hcs
    obtain ⟨rfl, rfl, rfl⟩ := hcs
    exact ⟨fun _ => 0, fun _ => 0, fun _ => 0, .inl rfl⟩
  · simp at hcs
    obtain ⟨rfl, rfl, rfl⟩ := hcs
    have hlm : len ≤ m := by rw [hmm]; split <;> omega
    have each : ∀ i, i < len → ∃ q : Int × Nat × Nat, w.cell? (ad.add (i * 3)) = some (.int .i64 q.1) ∧ w.cell? (ad.add (i * 3 + 1)) = some (.int .u64 (q.2.1 : Nat)) ∧ w.cell? (ad.add (i * 3 + 2)) = some (.int .u64 (q.2.2 : Nat)) := by
      intro i hi
      obtain ⟨cs', h1, h2⟩ := hx i (by omega)
      rw [cells83] at h1
      obtain ⟨_, hlen, hcell⟩ := World.cells?_some h1
      obtain ⟨y0, y1, y2, k, _, _, g0, g1, g2⟩ := trod_struct3 Try.underlying79 h2
      match cs', hlen with
      | [v0, v1, v2], _ =>
        simp [cells3, cells30] at g0 g1 g2
        obtain ⟨n0, e0, _, _⟩ := DataW.trod_int Try.underlying3 g0
        obtain ⟨n1, e1, _, w1⟩ := DataW.trod_int Try.underlying30 g1
        obtain ⟨n2, e2, _, w2⟩ := DataW.trod_int Try.underlying30 g2
        simp at e0 e1 e2
        subst e0 e1 e2
        have b1 := bounds_u64 w1
        have b2 := bounds_u64 w2
        have c0 := hcell 0 (by omega)
        have c1 := hcell 1 (by omega)
        have c2 := hcell 2 (by omega)
        rw [add_add] at c0 c1 c2
        refine ⟨(n0, n1.toNat, n2.toNat), by simpa using c0, ?_, ?_⟩
        · rw [c1]; simp; omega
        · rw [c2]; simp; omega
    obtain ⟨q, hq⟩ := choose_lt each
    refine ⟨fun i => (q i).1, fun i => (q i).2.1, fun i => (q i).2.2, ?_⟩
    rcases Nat.eq_zero_or_pos len with h0 | hp
    · exact .inl h0
    · obtain ⟨b, off, spot⟩ := ad
      have hspot : spot = none := by simpa [Addr.add] using World.cell?_spot (hq 0 hp).1
      subst hspot
      have hq' : ∀ i, i < len → w.cell? ⟨b, off + i * 3, none⟩ = some (.int .i64 (q i).1) ∧ w.cell? ⟨b, off + i * 3 + 1, none⟩ = some (.int .u64 ((q i).2.1 : Nat)) ∧ w.cell? ⟨b, off + i * 3 + 2, none⟩ = some (.int .u64 ((q i).2.2 : Nat)) := by
        intro i hi
        have := hq i hi
        rw [Go.WideShapes.add_plain, Go.WideShapes.add_plain, Go.WideShapes.add_plain] at this
        exact this
      exact .inr ⟨b, off, rfl, cell_lt (hq' 0 hp).1, hq'⟩
end Go.Proofs.Yteoioldbigomaaa
