/-
  No cell of these rows narrows 'for every input' (looked for: loops, veiled, ifaces, maps, wideKeys, modest, calm, conditions, laid).
  DERIVED. THE GIVEN ROWS OF THIS SEAT. 6 by the template 'for every input the law returns true; each argument reads behind the call as it read before'; 0 by the template 'total and deterministic' (their statements: YteoioldbigomaaaTotals.lean).
  GIVEN WITH THE SEED: the statements are not yours to turn. If you find one false, say at which input.
  Laid BY PROGRAM, IN A SANDBOX (cutbox-rows.mjs): the forced cells as the released guide's own fill.sh prints them over the translation 115bd7407b92b852… (all of the seat's roots in one cut). By AI agents, Wed Nov 11 2026. No macro, syntax, notation, axiom, sorry.
-/
import Derived.Test.YteoioldbigomaaaChecked
import GoSem.Claim
import GoSem.ClaimJoined
import GoSem.ClaimMapViews
import Derived.JoinedTies
import Derived.KernelRfl
namespace Go.Proofs.Yteoioldbigomaaa
/- THE CELL 'sum', in the pinned program and in every row, IS THE sha256 OF THE DUMP (.gsa) THAT YteoioldbigomaaaProg.lean LOADS. Nothing in Lean hashes anything: it is a label: what it is worth is what the hold of that sum in a sandbox is worth. -/
noncomputable def Try.pinned : Pinned := { name := "yteoioldbigomaaa", sum := "115bd7407b92b852a9dfbffa7e1516945165de295e34a8983197634af7c5bd43", checked := Try.checked }
namespace Rows
def none {H : Type} : Left H := { results := [], args := [] }

/-- 'thresholdlaw.Deals': WHATEVER THE INPUT: true; the input reads as it did. -/
def dealsSpec : ChangeSpec := { name := "deals", fn := fun _ => fun
  | [d1, d2, d3] => { results := [.lit (.bool true)], args := [d1, d2, d3] }
  | _ => none }
def dealsRow : OpenClaim := { program := "yteoioldbigomaaa", sum := "115bd7407b92b852a9dfbffa7e1516945165de295e34a8983197634af7c5bd43", func := "threshold/thresholdlaw.Deals", spec := "deals", unfollowed := true, recurses := true, apart := false }
def DealsSaid : Prop := dealsRow.holds Try.pinned (OpenSpec.ofChange dealsSpec)

/-- ITS FALSE NEIGHBOUR: 'it returns false'. Refute it at one input. -/
def dealsWrong : ChangeSpec := { name := "deals", fn := fun _ => fun
  | [d1, d2, d3] => { results := [.lit (.bool false)], args := [d1, d2, d3] }
  | _ => none }
def DealsWrongFalsely : Prop := dealsRow.holds Try.pinned (OpenSpec.ofChange dealsWrong)

/-- 'thresholdlaw.Checks': WHATEVER THE INPUT: true; the input reads as it did. -/
def checksSpec : ChangeSpec := { name := "checks", fn := fun _ => fun
  | [d1, d2, d3] => { results := [.lit (.bool true)], args := [d1, d2, d3] }
  | _ => none }
def checksRow : OpenClaim := { program := "yteoioldbigomaaa", sum := "115bd7407b92b852a9dfbffa7e1516945165de295e34a8983197634af7c5bd43", func := "threshold/thresholdlaw.Checks", spec := "checks", inPlace := ["sync/atomic.LoadUint32", "(*internal/sync.Mutex).Lock", "internal/race.Disable", "sync/atomic.CompareAndSwapInt32", "internal/race.Enable", "internal/race.Acquire", "(*internal/sync.Mutex).lockSlow", "internal/sync.runtime_canSpin", "internal/sync.runtime_doSpin", "internal/sync.throw", "internal/sync.runtime_nanotime", "internal/sync.runtime_SemacquireMutex", "sync/atomic.AddInt32", "(*internal/sync.Mutex).Unlock", "internal/race.ReleaseMerge", "(*internal/sync.Mutex).unlockSlow", "internal/sync.fatal", "internal/sync.runtime_Semrelease", "sync/atomic.StoreUint32"], unfollowed := true, recurses := true, apart := false }
def ChecksSaid : Prop := checksRow.holds Try.pinned (OpenSpec.ofChange checksSpec)

/-- ITS FALSE NEIGHBOUR: 'it returns false'. Refute it at one input. -/
def checksWrong : ChangeSpec := { name := "checks", fn := fun _ => fun
  | [d1, d2, d3] => { results := [.lit (.bool false)], args := [d1, d2, d3] }
  | _ => none }
def ChecksWrongFalsely : Prop := checksRow.holds Try.pinned (OpenSpec.ofChange checksWrong)

/-- 'thresholdlaw.Combines': WHATEVER THE INPUT: true; the input reads as it did. -/
def combinesSpec : ChangeSpec := { name := "combines", fn := fun _ => fun
  | [d1, d2] => { results := [.lit (.bool true)], args := [d1, d2] }
  | _ => none }
def combinesRow : OpenClaim := { program := "yteoioldbigomaaa", sum := "115bd7407b92b852a9dfbffa7e1516945165de295e34a8983197634af7c5bd43", func := "threshold/thresholdlaw.Combines", spec := "combines", unfollowed := true, recurses := true, apart := false }
def CombinesSaid : Prop := combinesRow.holds Try.pinned (OpenSpec.ofChange combinesSpec)

/-- ITS FALSE NEIGHBOUR: 'it returns false'. Refute it at one input. -/
def combinesWrong : ChangeSpec := { name := "combines", fn := fun _ => fun
  | [d1, d2] => { results := [.lit (.bool false)], args := [d1, d2] }
  | _ => none }
def CombinesWrongFalsely : Prop := combinesRow.holds Try.pinned (OpenSpec.ofChange combinesWrong)

/-- 'thresholdlaw.Packs': WHATEVER THE INPUT: true; the input reads as it did. -/
def packsSpec : ChangeSpec := { name := "packs", fn := fun _ => fun
  | [d] => { results := [.lit (.bool true)], args := [d] }
  | _ => none }
def packsRow : OpenClaim := { program := "yteoioldbigomaaa", sum := "115bd7407b92b852a9dfbffa7e1516945165de295e34a8983197634af7c5bd43", func := "threshold/thresholdlaw.Packs", spec := "packs", apart := false }
def PacksSaid : Prop := packsRow.holds Try.pinned (OpenSpec.ofChange packsSpec)

/-- ITS FALSE NEIGHBOUR: 'it returns false'. Refute it at one input. -/
def packsWrong : ChangeSpec := { name := "packs", fn := fun _ => fun
  | [d] => { results := [.lit (.bool false)], args := [d] }
  | _ => none }
def PacksWrongFalsely : Prop := packsRow.holds Try.pinned (OpenSpec.ofChange packsWrong)

/-- 'thresholdlaw.Unpacks': WHATEVER THE INPUT: true; the input reads as it did. -/
def unpacksSpec : ChangeSpec := { name := "unpacks", fn := fun _ => fun
  | [d] => { results := [.lit (.bool true)], args := [d] }
  | _ => none }
def unpacksRow : OpenClaim := { program := "yteoioldbigomaaa", sum := "115bd7407b92b852a9dfbffa7e1516945165de295e34a8983197634af7c5bd43", func := "threshold/thresholdlaw.Unpacks", spec := "unpacks", unfollowed := true, recurses := true, apart := false }
def UnpacksSaid : Prop := unpacksRow.holds Try.pinned (OpenSpec.ofChange unpacksSpec)

/-- ITS FALSE NEIGHBOUR: 'it returns false'. Refute it at one input. -/
def unpacksWrong : ChangeSpec := { name := "unpacks", fn := fun _ => fun
  | [d] => { results := [.lit (.bool false)], args := [d] }
  | _ => none }
def UnpacksWrongFalsely : Prop := unpacksRow.holds Try.pinned (OpenSpec.ofChange unpacksWrong)

/-- 'thresholdlaw.Verifies': WHATEVER THE INPUT: true; the input reads as it did. -/
def verifiesSpec : ChangeSpec := { name := "verifies", fn := fun _ => fun
  | [d1, d2, d3] => { results := [.lit (.bool true)], args := [d1, d2, d3] }
  | _ => none }
def verifiesRow : OpenClaim := { program := "yteoioldbigomaaa", sum := "115bd7407b92b852a9dfbffa7e1516945165de295e34a8983197634af7c5bd43", func := "threshold/thresholdlaw.Verifies", spec := "verifies", unfollowed := true, recurses := true, apart := false }
def VerifiesSaid : Prop := verifiesRow.holds Try.pinned (OpenSpec.ofChange verifiesSpec)

/-- ITS FALSE NEIGHBOUR: 'it returns false'. Refute it at one input. -/
def verifiesWrong : ChangeSpec := { name := "verifies", fn := fun _ => fun
  | [d1, d2, d3] => { results := [.lit (.bool false)], args := [d1, d2, d3] }
  | _ => none }
def VerifiesWrongFalsely : Prop := verifiesRow.holds Try.pinned (OpenSpec.ofChange verifiesWrong)

/- THE SECOND FORM. 'bulk': how many values and letters a reading holds, each counted each time it is reached (what is shared counts as often as it is met; a slice's spare places count too). A statement '..UptoSaid' is the law's where the arguments, and the package variables that the reading takes, are together of bulk at most 1048576: NARROWER than '..Said'. Prove '..Said' where nothing that the law and all that it calls make is longer than what came in: it says more and counts as full. Else prove '..UptoSaid'. A law counts once. -/
mutual
def uptoBulk {H : Type} : DataW H → Nat
  | .lit (.string bytes) => bytes.length + 1
  | .lit _ => 1
  | .nil => 1
  | .ptr d => uptoBulk d + 1
  | .slice elems spare => uptoBulkAll elems + uptoBulkAll spare + 1
  | .agg parts => uptoBulkAll parts + 1
  | .iface _ d => uptoBulk d + 1
  | .map entries => uptoBulkEntries entries + 1
  | .held _ => 1
def uptoBulkAll {H : Type} : List (DataW H) → Nat
  | [] => 0
  | d :: r => uptoBulk d + uptoBulkAll r
def uptoBulkEntries {H : Type} : List (Lit × DataW H) → Nat
  | [] => 0
  | x :: r => uptoBulkEntry x + uptoBulkEntries r
def uptoBulkEntry {H : Type} : Lit × DataW H → Nat
  | (.string bytes, d) => bytes.length + uptoBulk d + 1
  | (_, d) => uptoBulk d + 1
 end
def uptoSmall : (H : Type) → List (DataW H) → Bool := fun _ ds => decide (uptoBulkAll ds ≤ 1048576)
def OpenSpec.upto (s : _root_.Go.ChangeSpec) : _root_.Go.OpenSpec := { _root_.Go.OpenSpec.ofChange s with cond := some uptoSmall }

/-- 'thresholdlaw.Deals', WHERE WHAT IT READS IS OF BULK AT MOST 1048576: true; the input reads as it did. -/
def dealsUptoRow : OpenClaim := { program := "yteoioldbigomaaa", sum := "115bd7407b92b852a9dfbffa7e1516945165de295e34a8983197634af7c5bd43", func := "threshold/thresholdlaw.Deals", spec := "deals", unfollowed := true, recurses := true, apart := false, narrowed := true }
def DealsUptoSaid : Prop := dealsUptoRow.holds Try.pinned (OpenSpec.upto dealsSpec)

/-- 'thresholdlaw.Checks', WHERE WHAT IT READS IS OF BULK AT MOST 1048576: true; the input reads as it did. -/
def checksUptoRow : OpenClaim := { program := "yteoioldbigomaaa", sum := "115bd7407b92b852a9dfbffa7e1516945165de295e34a8983197634af7c5bd43", func := "threshold/thresholdlaw.Checks", spec := "checks", inPlace := ["sync/atomic.LoadUint32", "(*internal/sync.Mutex).Lock", "internal/race.Disable", "sync/atomic.CompareAndSwapInt32", "internal/race.Enable", "internal/race.Acquire", "(*internal/sync.Mutex).lockSlow", "internal/sync.runtime_canSpin", "internal/sync.runtime_doSpin", "internal/sync.throw", "internal/sync.runtime_nanotime", "internal/sync.runtime_SemacquireMutex", "sync/atomic.AddInt32", "(*internal/sync.Mutex).Unlock", "internal/race.ReleaseMerge", "(*internal/sync.Mutex).unlockSlow", "internal/sync.fatal", "internal/sync.runtime_Semrelease", "sync/atomic.StoreUint32"], unfollowed := true, recurses := true, apart := false, narrowed := true }
def ChecksUptoSaid : Prop := checksUptoRow.holds Try.pinned (OpenSpec.upto checksSpec)

/-- 'thresholdlaw.Combines', WHERE WHAT IT READS IS OF BULK AT MOST 1048576: true; the input reads as it did. -/
def combinesUptoRow : OpenClaim := { program := "yteoioldbigomaaa", sum := "115bd7407b92b852a9dfbffa7e1516945165de295e34a8983197634af7c5bd43", func := "threshold/thresholdlaw.Combines", spec := "combines", unfollowed := true, recurses := true, apart := false, narrowed := true }
def CombinesUptoSaid : Prop := combinesUptoRow.holds Try.pinned (OpenSpec.upto combinesSpec)

/-- 'thresholdlaw.Packs', WHERE WHAT IT READS IS OF BULK AT MOST 1048576: true; the input reads as it did. -/
def packsUptoRow : OpenClaim := { program := "yteoioldbigomaaa", sum := "115bd7407b92b852a9dfbffa7e1516945165de295e34a8983197634af7c5bd43", func := "threshold/thresholdlaw.Packs", spec := "packs", apart := false, narrowed := true }
def PacksUptoSaid : Prop := packsUptoRow.holds Try.pinned (OpenSpec.upto packsSpec)

/-- 'thresholdlaw.Unpacks', WHERE WHAT IT READS IS OF BULK AT MOST 1048576: true; the input reads as it did. -/
def unpacksUptoRow : OpenClaim := { program := "yteoioldbigomaaa", sum := "115bd7407b92b852a9dfbffa7e1516945165de295e34a8983197634af7c5bd43", func := "threshold/thresholdlaw.Unpacks", spec := "unpacks", unfollowed := true, recurses := true, apart := false, narrowed := true }
def UnpacksUptoSaid : Prop := unpacksUptoRow.holds Try.pinned (OpenSpec.upto unpacksSpec)

/-- 'thresholdlaw.Verifies', WHERE WHAT IT READS IS OF BULK AT MOST 1048576: true; the input reads as it did. -/
def verifiesUptoRow : OpenClaim := { program := "yteoioldbigomaaa", sum := "115bd7407b92b852a9dfbffa7e1516945165de295e34a8983197634af7c5bd43", func := "threshold/thresholdlaw.Verifies", spec := "verifies", unfollowed := true, recurses := true, apart := false, narrowed := true }
def VerifiesUptoSaid : Prop := verifiesUptoRow.holds Try.pinned (OpenSpec.upto verifiesSpec)

end Rows
end Go.Proofs.Yteoioldbigomaaa
