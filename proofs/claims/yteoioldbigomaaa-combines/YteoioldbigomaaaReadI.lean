import Derived.Test.YteoioldbigomaaaRead
namespace Go.Proofs.Yteoioldbigomaaa
open Go.RowKit

theorem rd_of_rowi {w : World} {a : Option Addr} {len cap : Nat} {zs : List Int} (h : IsRow .i64 w a len cap zs) :
    ∃ D : Nat → Int, RdF w a len (fun i => .int .i64 (D i)) := by
  refine ⟨fun i => zs.getD i 0, ?_⟩
  rcases h with ⟨rfl, rfl, rfl, _⟩ | ⟨x, rfl, hl, hm, hz, hc, hwf⟩
  · exact .inl rfl
  · rcases Nat.eq_zero_or_pos len with h0 | hp
    · exact .inl h0
    · obtain ⟨b, o, rfl, hc'⟩ := ints_at hc (by omega)
      exact .inr ⟨b, o, rfl, cell_lt (hc' 0 (by omega)), fun i hi => hc' i (by omega)⟩
end Go.Proofs.Yteoioldbigomaaa
