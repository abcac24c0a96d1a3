import Derived.Test.YteoioldbigomaabHash
import Derived.Test.YteoioldbigomaabElem
namespace Go.Proofs.Yteoioldbigomaab
open Go.RowKit

/-- An array of bytes of the call's own, N long, at block g, whose first bytes are L. -/
def FillB (w : World) (B g N : Nat) (L : List Nat) : Prop := Fill w B 5 g N L.length (cb L)

theorem cb_app (L K : List Nat) (i : Nat) (h : i < L.length) : cb (L ++ K) i = cb L i := by
  unfold cb; simp [List.getElem?_append_left h]

theorem cb_last (L : List Nat) (u : Nat) : cb (L ++ [u]) L.length = .int .u8 ((u : Nat) : Int) := by
  unfold cb; simp

theorem FillB.push {w : World} {B g N : Nat} {L : List Nat} {u : Nat} {v : Value} (h : FillB w B g N L) (hl : L.length < N) (hv : v = .int .u8 ((u : Nat) : Int)) :
    FillB (w.setCell ⟨g, L.length, none⟩ v) B g N (L ++ [u]) := by
  have h2 : Fill w B 5 g N L.length (cb (L ++ [u])) := by
    obtain ⟨xs, h1, h3⟩ := h
    exact ⟨xs, h1, fun i hi => by rw [h3 i hi, cb_app _ _ _ hi]⟩
  have := h2.store hl (u := v) (by rw [cb_last, hv])
  unfold FillB
  rw [List.length_append]
  exact this

theorem FillB.below {w w' : World} {B g N : Nat} {L : List Nat} (h : FillB w B g N L) (hb : Below w.heap.size w w') : FillB w' B g N L := Fill.below h hb

end Go.Proofs.Yteoioldbigomaab
namespace Go.Proofs.Yteoioldbigomaab
open Go.RowKit

/-- A commitment's nine bytes. -/
def M.nine (i : Int) (d e : Nat) : List Nat := M.by8 (i % 18446744073709551616).toNat 1 ++ M.by8 d 4 ++ M.by8 e 4
theorem M.nine_len (i : Int) (d e : Nat) : (M.nine i d e).length = 9 := by simp [M.nine, M.by8_len]
/-- The bytes of the first k commitments. -/
def M.packed (I : Nat → Int) (D E : Nat → Nat) : Nat → List Nat
  | 0 => []
  | k + 1 => M.packed I D E k ++ M.nine (I k) (D k) (E k)
theorem M.packed_len (I : Nat → Int) (D E : Nat → Nat) (k : Nat) : (M.packed I D E k).length = 9 * k := by
  induction k with
  | zero => rfl
  | succ k ih => rw [M.packed, List.length_append, ih, M.nine_len]; omega

theorem three_cells {w : World} {b : Nat} {x0 x1 x2 : Value} {t : TypeId} (h : w.heap[b]? = some (.cells #[x0, x1, x2] t (0, 0))) :
    w.cell? ⟨b, 0, none⟩ = some x0 ∧ w.cell? ⟨b, 1, none⟩ = some x1 ∧ w.cell? ⟨b, 2, none⟩ = some x2 := by
  simp [World.cell?, h]

theorem FillB.grown {w w' : World} {B g N : Nat} {L : List Nat} (h : FillB w B g N L) (hg : w.grownBy w' none) : FillB w' B g N L := h.below (below_made hg)

/-- A text out of a list of bytes. -/
def bs (l : List Nat) : ByteArray := ⟨(l.map UInt8.ofNat).toArray⟩
theorem bs_app (l k : List Nat) : bs (l ++ k) = bs l ++ bs k := by unfold bs; rw [ByteArray.mk_append_mk]; simp
theorem bs_size (l : List Nat) : (bs l).size = l.length := by unfold bs; show (l.map UInt8.ofNat).toArray.size = _; simp
theorem bs_nums (l : List Nat) : strOfNums (l.map fun x => ((x : Nat) : Int)) = bs l := by unfold strOfNums bs; simp

/-- A list of commitments: number, D and E of each, by its index. -/
def RdC (w : World) (a : Option Addr) (n : Nat) (I : Nat → Int) (D E : Nat → Nat) : Prop :=
  n = 0 ∨ ∃ b o, a = some ⟨b, o, none⟩ ∧ b < w.heap.size ∧ ∀ i, i < n → w.cell? ⟨b, o + i * 3, none⟩ = some (.int .i64 (I i)) ∧ w.cell? ⟨b, o + i * 3 + 1, none⟩ = some (.int .u64 (D i : Nat)) ∧ w.cell? ⟨b, o + i * 3 + 2, none⟩ = some (.int .u64 (E i : Nat))

theorem RdC.below {w w' : World} {a : Option Addr} {n : Nat} {I : Nat → Int} {D E : Nat → Nat} (h : RdC w a n I D E) (hb : Below w.heap.size w w') : RdC w' a n I D E := by
  rcases h with h | ⟨b, o, rfl, hlt, hc⟩
  · exact .inl h
  · exact .inr ⟨b, o, rfl, Nat.lt_of_lt_of_le hlt hb.size, fun i hi => ⟨(hb.cell (by exact hlt)).trans (hc i hi).1, (hb.cell (by exact hlt)).trans (hc i hi).2.1, (hb.cell (by exact hlt)).trans (hc i hi).2.2⟩⟩

theorem RdC.at {w : World} {a : Option Addr} {n : Nat} {I : Nat → Int} {D E : Nat → Nat} (h : RdC w a n I D E) (hn : 0 < n) :
    ∃ b o, a = some ⟨b, o, none⟩ ∧ b < w.heap.size ∧ ∀ i, i < n → w.cell? ⟨b, o + i * 3, none⟩ = some (.int .i64 (I i)) ∧ w.cell? ⟨b, o + i * 3 + 1, none⟩ = some (.int .u64 (D i : Nat)) ∧ w.cell? ⟨b, o + i * 3 + 2, none⟩ = some (.int .u64 (E i : Nat)) := by
  rcases h with h | h
  · omega
  · exact h

end Go.Proofs.Yteoioldbigomaab
namespace Go.Proofs.Yteoioldbigomaab
open Go.RowKit

/-- What is wrong with a number that follows another: 5, 6, or 0 (nothing). -/
def M.turn (id ahead most : Int) : Nat := if id < 1 ∨ most < id then 5 else if id ≤ ahead then 6 else 0

set_option maxHeartbeats 400000 in
theorem inTurn_any (id ahead most : Int) (w : World) :
    Calls Try.prog 18 #[.int .i64 id, .int .i64 ahead, .int .i64 most] w fun e w' => e = .returned (.int .i64 (M.turn id ahead most : Nat)) ∧ w' = w := by
  unfold M.turn
  by_cases h1 : id < 1
  · rw [if_pos (.inl h1)]
    go_enter Try.func18, Try.ntmps18
    go_wp2_with fail
    go_ret
    exact ⟨rfl, rfl⟩
  · by_cases h2 : most < id
    · rw [if_pos (.inr h2)]
      go_enter Try.func18, Try.ntmps18
      go_wp2_with fail
      go_ret
      exact ⟨rfl, rfl⟩
    · rw [if_neg (by omega)]
      by_cases h3 : id ≤ ahead
      · rw [if_pos h3]
        go_enter Try.func18, Try.ntmps18
        go_wp2_with fail
        go_ret
        exact ⟨rfl, rfl⟩
      · rw [if_neg h3]
        go_enter Try.func18, Try.ntmps18
        go_wp2_with fail
        go_ret
        exact ⟨rfl, rfl⟩
end Go.Proofs.Yteoioldbigomaab
