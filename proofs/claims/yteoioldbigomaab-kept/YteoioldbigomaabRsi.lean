import Derived.Test.YteoioldbigomaabRcm
import Derived.Deep.AppendLies
import Derived.Test.YteoioldbigomaabHash
import Derived.Test.YteoioldbigomaabWt
namespace Go.Proofs.Yteoioldbigomaab
open Go.RowKit

theorem not_mem_step {l : List (Nat × Nat)} {x : Nat × Nat} {k : Nat} (h : x ∉ l.take k) (hk : k < l.length) (hne : l[k] ≠ x) : x ∉ l.take (k + 1) := by
  rw [List.take_succ_eq_append_getElem hk]
  intro hm
  rcases List.mem_append.1 hm with h1 | h1
  · exact h h1
  · simp at h1; exact hne h1.symm

theorem grown_past {w w' : World} {o : Obj} {r : Option Nat} (h : (w.alloc o).drew.grownBy w' r) : w.grownBy w' r :=
  ⟨h.os, h.tape, h.output, Nat.le_trans (below_alloc w o).size h.size, fun k hk hn => (h.block k (Nat.lt_of_lt_of_le hk (below_alloc w o).size) hn).trans (Below.heap_alloc w o k hk)⟩

theorem Chg.refl (P : Nat → Prop) (w : World) : Chg P w w := ⟨rfl, rfl, rfl, Nat.le_refl _, fun _ _ _ => rfl⟩
theorem Chg.set {P : Nat → Prop} {w w' : World} (h : Chg P w w') {g j : Nat} {u : Value} (hp : P g) : Chg P w (w'.setCell ⟨g, j, none⟩ u) :=
  h.trans ((grown_chg (grown_set w' g j u)).mono fun k hk => by cases hk; exact hp)
theorem Chg.setNew {P : Nat → Prop} {w w' : World} (h : Chg P w w') {g j : Nat} {u : Value} (hg : w.heap.size ≤ g) : Chg P w (w'.setCell ⟨g, j, none⟩ u) :=
  h.on (grown_chg (grown_set w' g j u)) fun k hk => by cases hk; exact .inr hg
theorem RdF.chg {P : Nat → Prop} {w w1 : World} {a : Option Addr} {n : Nat} {f : Nat → Value} (h : RdF w a n f) (hg : Chg P w w1) (hne : ∀ x, a = some x → ¬ P x.block) : RdF w1 a n f := by
  rcases h with h | ⟨b, o, rfl, hlt, hc⟩
  · exact .inl h
  · refine .inr ⟨b, o, rfl, Nat.lt_of_lt_of_le hlt hg.size, fun i hi => ?_⟩
    rw [World.cell?_of_block (w := w) (hg.block b hlt (hne _ rfl))]
    exact hc i hi

/-- The zero commitment, in a block of its own. -/
abbrev zc : Obj := .cells #[.int .i64 0, .int .u64 0, .int .u64 0] 40
theorem zc_new (w : World) : (w.alloc zc).heap[w.heap.size]? = some (.cells #[.int .i64 0, .int .u64 0, .int .u64 0] 40 (0, 0)) := heap_alloc_new w zc

end Go.Proofs.Yteoioldbigomaab
namespace Go.Proofs.Yteoioldbigomaab
open Go.RowKit

/-- The k-th commitment is to the i-th pair that is kept. -/
def M.Hit (id : Nat) (l : List (Nat × Nat)) (I : Nat → Int) (D E : Nat → Nat) (k i : Nat) : Prop := ∃ h : i < l.length, I k = id ∧ D k = M.pw 2147483579 4 l[i].1 ∧ E k = M.pw 2147483579 4 l[i].2
/-- What a signer answers with the i-th pair, for the k-th commitment. -/
def M.ans (J D E f : Nat → Nat) (n : Nat) (s : ByteArray) (sh k d e : Nat) : Nat :=
  (d + e * M.bind (J k) (f 0) J D E n s + M.wt J n k * sh % 1073741789 * M.chal (M.allR J D E f n s) (f 0) s % 1073741789) % 1073741789

/-- A package that is in order: its numbers are from 1 to 9. -/
theorem look_ok {T N n : Nat} {I : Nat → Int} {D E : Nat → Nat} (h : M.Look T N n I D E 0) (h9 : N ≤ 9) : (T ≤ n ∧ n ≤ N) ∧ (∀ j, j < n → 1 ≤ I j ∧ I j ≤ 9) ∧ (∀ j, j < n → PRO (D j) ∧ PRO (E j)) := by
  rcases h with ⟨_, h⟩ | ⟨_, k, _, _, h, h'⟩ | ⟨_, _, _, h⟩ | ⟨a, b, c, _⟩
  · omega
  · omega
  · omega
  · refine ⟨a, fun j hj => ?_, c⟩
    have := b j hj
    unfold M.Tn M.turn at this
    by_cases h1 : I j < 1 ∨ (N : Int) < I j
    · rw [if_pos h1] at this; omega
    · omega
end Go.Proofs.Yteoioldbigomaab
namespace Go.Proofs.Yteoioldbigomaab
open Go.RowKit

theorem ret2q {a b : Int} (h : a = b) : Ending.returned (.tuple #[.int .u64 a, .int .i64 0]) = .returned (.tuple #[.int .u64 b, .int .i64 0]) := by rw [h]
theorem row_low {w : World} {B B' e k n : Nat} {v : Value} {xs : List Value} (h : w.ownsRow B e k v n xs) (hb : B' ≤ B) : w.ownsRow B' e k v n xs := by
  refine ⟨h.1, ?_⟩
  rcases h.2 with h2 | ⟨g, cap, cur, h1, h2, h3⟩
  · exact .inl h2
  · exact .inr ⟨g, cap, cur, h1, Nat.le_trans hb h2, h3⟩
theorem row_form {w : World} {B e k n : Nat} {v : Value} {xs : List Value} (h : w.ownsRow B e k v n xs) : ∃ a c, v = .slice a n c := by
  rcases h.2 with ⟨hv, hl⟩ | ⟨g, cap, cur, hv, _⟩
  · exact ⟨none, 0, by rw [hv, hl]⟩
  · exact ⟨_, cap, hv⟩

end Go.Proofs.Yteoioldbigomaab
