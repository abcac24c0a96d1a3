import Derived.Test.YteoioldbigomaabWt
import Derived.Lib.AppendStr
import Derived.Test.YteoioldbigomaabRchk
namespace Go.Proofs.Yteoioldbigomaab
open Go.RowKit

theorem Try.info5 : (Try.prog.info? 5).map (fun i => (i.zero, i.size, i.bytes)) = some (some (.int .u8 0), 1, 1) := by kernel_rfl

/-- The i-th of a list of numbers, as a cell of a []byte. -/
def cb (l : List Nat) (i : Nat) : Value := .int .u8 ((l.getD i 0 : Nat) : Int)

/-- A text's bytes. -/
def tx (s : ByteArray) : List Nat := s.data.toList.map fun b => b.toNat

/-- The lowest k bytes of a number, the lowest first. -/
def M.by8 (n k : Nat) : List Nat := (List.range k).map fun j => n / 2 ^ (8 * j) % 256
theorem M.by8_succ (n k : Nat) : M.by8 n (k + 1) = M.by8 n k ++ [n / 2 ^ (8 * k) % 256] := by simp [M.by8, List.range_succ]
theorem M.by8_len (n k : Nat) : (M.by8 n k).length = k := by simp [M.by8]
/-- The bytes of the first m numbers. -/
def M.nb (f : Nat → Nat) : Nat → List Nat
  | 0 => []
  | m + 1 => M.nb f m ++ M.by8 (f m) 8
theorem M.nb_len (f : Nat → Nat) (m : Nat) : (M.nb f m).length = 8 * m := by
  induction m with
  | zero => rfl
  | succ m ih => rw [M.nb, List.length_append, ih, M.by8_len]; omega

/-- The hash's inner number: each byte is laid over it, then it is multiplied. -/
def M.fnvStep (h : Int) (c : Nat) : Int := IntKind.u64.wrap (bits BinOp.xor IntKind.u64 h (IntKind.u64.wrap (c : Int)) * 1099511628211)
def M.fnv (l : List Nat) : Int := l.foldl M.fnvStep 14695981039346656037
/-- The hash of a tag, n numbers and a text. -/
def M.hash (tag : Nat) (f : Nat → Nat) (n : Nat) (s : ByteArray) : Nat := (M.fnv ([tag] ++ M.nb f n ++ tx s) % 1073741789).toNat
theorem M.hash_sc (tag : Nat) (f : Nat → Nat) (n : Nat) (s : ByteArray) : SC (M.hash tag f n s) := ⟨by unfold M.hash; omega⟩
theorem M.fnv_snoc (l : List Nat) (c : Nat) : M.fnv (l ++ [c]) = M.fnvStep (M.fnv l) c := by simp [M.fnv]

end Go.Proofs.Yteoioldbigomaab
namespace Go.Proofs.Yteoioldbigomaab
open Go.RowKit

/-- The challenge of r, a key and a message. -/
def M.two (r key i : Nat) : Nat := if i = 0 then r else key
def M.chal (r key : Nat) (s : ByteArray) : Nat := M.hash 2 (M.two r key) 2 s

theorem two_cells {w : World} {b : Nat} {x0 x1 : Value} {t : TypeId} (h : w.heap[b]? = some (.cells #[x0, x1] t (0, 0))) : w.cell? ⟨b, 0, none⟩ = some x0 ∧ w.cell? ⟨b, 1, none⟩ = some x1 := by
  simp [World.cell?, h]

theorem ret_beq (a r p : Nat) : Ending.returned (.bool ((a : Int) == (r : Int) * p % 2147483579)) = .returned (.bool (decide (a = r * p % 2147483579))) := by
  have e : ((r : Int) * p % 2147483579) = ((r * p % 2147483579 : Nat) : Int) := by simp
  rw [e, beq_cast]

/-- A signature that holds. -/
structure VOK (key : Nat) (s : ByteArray) (r z : Nat) : Prop where
  k1 : key ≠ 1
  r1 : r ≠ 1
  ke : ISE key
  re : ISE r
  zs : SC z
  eq : M.pw 2147483579 4 z = r * M.pw 2147483579 key (M.chal r key s) % 2147483579

end Go.Proofs.Yteoioldbigomaab
