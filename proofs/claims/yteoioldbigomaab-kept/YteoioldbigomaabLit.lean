import Derived.Test.YteoioldbigomaabChg
namespace Go.Proofs.Yteoioldbigomaab
open Go.RowKit

theorem rd_lit2 {w : World} {b d e : Nat} {t : TypeId} (h : w.heap[b]? = some (.cells #[.int .u64 (d : Nat), .int .u64 (e : Nat)] t (0, 0))) : RdF w (some ⟨b, 0, none⟩) 2 (cu [d, e]) := by
  refine .inr ⟨b, 0, rfl, lt_of_block h, fun i hi => ?_⟩
  match i, hi with
  | 0, _ => simp [World.cell?, h, cu]
  | 1, _ => simp [World.cell?, h, cu]
theorem Hid.intro {p : Prop} (h : p) : Hid p := h
end Go.Proofs.Yteoioldbigomaab
