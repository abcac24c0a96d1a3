import Derived.Test.YteoioldbigomaabSl
namespace Go.Proofs.Yteoioldbigomaab
open Go.RowKit

/-- But for blocks of P nothing that was there has changed. -/
structure Chg (P : Nat → Prop) (w w' : World) : Prop where
  os : w'.os = w.os
  tape : w'.tape = w.tape
  output : w'.output = w.output
  size : w.heap.size ≤ w'.heap.size
  block : ∀ k, k < w.heap.size → ¬ P k → w'.heap[k]? = w.heap[k]?
theorem Below.chg {w w' : World} (h : Below w.heap.size w w') (P : Nat → Prop) : Chg P w w' := ⟨h.os, h.tape, h.output, h.size, fun k hk _ => h.block k hk⟩
theorem Chg.trans {P : Nat → Prop} {a b c : World} (h : Chg P a b) (k : Chg P b c) : Chg P a c :=
  ⟨k.os.trans h.os, k.tape.trans h.tape, k.output.trans h.output, Nat.le_trans h.size k.size, fun i hi hp => (k.block i (Nat.lt_of_lt_of_le hi h.size) hp).trans (h.block i hi hp)⟩
theorem Chg.mono {P R : Nat → Prop} {a b : World} (h : Chg P a b) (hr : ∀ k, P k → R k) : Chg R a b := ⟨h.os, h.tape, h.output, h.size, fun k hk hn => h.block k hk fun hp => hn (hr k hp)⟩
/-- What the call made may change, too. -/
theorem Chg.on {P R : Nat → Prop} {a b c : World} (h : Chg P a b) (k : Chg R b c) (hr : ∀ j, R j → P j ∨ a.heap.size ≤ j) : Chg P a c :=
  ⟨k.os.trans h.os, k.tape.trans h.tape, k.output.trans h.output, Nat.le_trans h.size k.size, fun i hi hp => (k.block i (Nat.lt_of_lt_of_le hi h.size) (fun hR => by rcases hr i hR with hh | hh; exact hp hh; omega)).trans (h.block i hi hp)⟩
theorem grown_chg {w w' : World} {r : Option Nat} (h : w.grownBy w' r) : Chg (fun k => some k = r) w w' := ⟨h.os, h.tape, h.output, h.size, h.block⟩
theorem Chg.of_below {B : Nat} {w w' : World} (h : Below B w w') : Chg (fun k => B ≤ k) w w' := ⟨h.os, h.tape, h.output, h.size, fun k _ hn => h.block k (by omega)⟩
end Go.Proofs.Yteoioldbigomaab
