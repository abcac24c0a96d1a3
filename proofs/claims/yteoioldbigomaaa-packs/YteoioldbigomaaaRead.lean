import Derived.Test.YteoioldbigomaaaSeq
import Derived.WalkKit
import Derived.ProofKit
import Derived.OpenShut
namespace Go.Proofs.Yteoioldbigomaaa
open Go.RowKit

/-- A slice of integers as it came in. -/
def IsRow (k : IntKind) (w : World) (a : Option Addr) (len cap : Nat) (zs : List Int) : Prop :=
  (a = none ∧ len = 0 ∧ cap = 0 ∧ zs = []) ∨
  ∃ x, a = some x ∧ len ≤ cap ∧ cap ≤ maxLen ∧ zs.length = cap ∧ (∀ i, i < zs.length → w.cell? (x.add i) = some (.int k (zs.getD i 0))) ∧ ∀ n ∈ zs, (Lit.int k n).wf = true

theorem cell_lt {w : World} {b o : Nat} {v : Value} (h : w.cell? ⟨b, o, none⟩ = some v) : b < w.heap.size := by
  rcases Nat.lt_or_ge b w.heap.size with hl | hl
  · exact hl
  · simp [World.cell?, Array.getElem?_eq_none hl] at h

theorem rd_of_row {w : World} {a : Option Addr} {len cap : Nat} {zs : List Int} (h : IsRow .u64 w a len cap zs) :
    ∃ F, RdF w a len (cu (M.sq F len)) ∧ (a = none → len = 0 ∧ cap = 0) := by
  refine ⟨fun i => (zs.getD i 0).toNat, ?_⟩
  rcases h with ⟨rfl, rfl, rfl, _⟩ | ⟨x, rfl, hl, hm, hz, hc, hwf⟩
  · exact ⟨.inl rfl, fun _ => ⟨rfl, rfl⟩⟩
  · refine ⟨?_, fun h => by cases h⟩
    rcases Nat.eq_zero_or_pos len with h0 | hp
    · exact .inl h0
    · obtain ⟨b, o, rfl, hc'⟩ := ints_at hc (by omega)
      refine .inr ⟨b, o, rfl, cell_lt (hc' 0 (by omega)), fun i hi => ?_⟩
      rw [hc' i (by omega), M.cu_sq _ _ _ hi]
      have hb := bounds_u64 (hwf (zs.getD i 0) (by
        have : zs.getD i 0 = zs[i]'(by omega) := by simp [show i < zs.length by omega]
        rw [this]; exact List.getElem_mem _))
      congr 2
      omega

end Go.Proofs.Yteoioldbigomaaa
