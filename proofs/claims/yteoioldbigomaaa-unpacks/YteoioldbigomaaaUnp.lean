import Derived.Test.YteoioldbigomaaaRdc
import Derived.Test.YteoioldbigomaaaPro
import Derived.BigRegion
namespace Go.Proofs.Yteoioldbigomaaa
open Go.RowKit

/-- The k-th nine bytes of a list: number, D, E; the number ahead. -/
def M.id9 (L : List Nat) (k : Nat) : Nat := L.getD (9 * k) 0
def M.d9 (L : List Nat) (k : Nat) : Nat := M.at4 L (9 * k + 1)
def M.e9 (L : List Nat) (k : Nat) : Nat := M.at4 L (9 * k + 5)
def M.ah (L : List Nat) : Nat → Nat
  | 0 => 0
  | k + 1 => M.id9 L k
/-- Nothing is wrong with the k-th nine bytes; er is. -/
def M.Fine (L : List Nat) (k : Nat) : Prop := M.turn (M.id9 L k) (M.ah L k) 9 = 0 ∧ PRO (M.d9 L k) ∧ PRO (M.e9 L k)
def M.Wrong (L : List Nat) (k er : Nat) : Prop := (M.turn (M.id9 L k) (M.ah L k) 9 ≠ 0 ∧ er = M.turn (M.id9 L k) (M.ah L k) 9) ∨ (M.turn (M.id9 L k) (M.ah L k) 9 = 0 ∧ ¬ (PRO (M.d9 L k) ∧ PRO (M.e9 L k)) ∧ er = 3)
/-- What Unpack tells of n times nine bytes. -/
def M.Un (L : List Nat) (n er : Nat) : Prop := (er = 0 ∧ ∀ j, j < n → M.Fine L j) ∨ (∃ k, k < n ∧ (∀ j, j < k → M.Fine L j) ∧ M.Wrong L k er)

theorem M.Wrong.not {L : List Nat} {k er : Nat} (h : M.Wrong L k er) : ¬ M.Fine L k := by
  rintro ⟨h1, h2⟩
  rcases h with ⟨h3, _⟩ | ⟨_, h3, _⟩
  · exact h3 h1
  · exact h3 h2
theorem M.Wrong.one {L : List Nat} {k e1 e2 : Nat} (h : M.Wrong L k e1) (h' : M.Wrong L k e2) : e1 = e2 := by
  rcases h with ⟨a, b⟩ | ⟨a, _, b⟩ <;> rcases h' with ⟨c, d⟩ | ⟨c, _, d⟩
  · rw [b, d]
  · exact absurd c a
  · exact absurd a c
  · rw [b, d]
theorem M.Wrong.ne {L : List Nat} {k er : Nat} (h : M.Wrong L k er) : er ≠ 0 := by
  rcases h with ⟨a, b⟩ | ⟨a, _, b⟩
  · rw [b]; exact a
  · rw [b]; omega
theorem M.Un.one {L : List Nat} {n e1 e2 : Nat} (h : M.Un L n e1) (h' : M.Un L n e2) : e1 = e2 := by
  rcases h with ⟨a, b⟩ | ⟨k, a, b, c⟩ <;> rcases h' with ⟨a', b'⟩ | ⟨k', a', b', c'⟩
  · rw [a, a']
  · exact absurd (b k' a') c'.not
  · exact absurd (b' k a) c.not
  · rcases Nat.lt_trichotomy k k' with h | h | h
    · exact absurd (b' k h) c.not
    · subst h; exact c.one c'
    · exact absurd (b k' h) c'.not

theorem cut_getD (L : List Nat) (a m j : Nat) (hj : j < m) : ((L.drop a).take m).getD j 0 = L.getD (a + j) 0 := by
  simp [List.getD, hj, List.getElem?_drop]
theorem cut_at4 (L : List Nat) (a m o : Nat) (ho : o + 3 < m) : M.at4 ((L.drop a).take m) o = M.at4 L (a + o) := by
  unfold M.at4
  rw [cut_getD _ _ _ _ (by omega), cut_getD _ _ _ _ (by omega), cut_getD _ _ _ _ (by omega), cut_getD _ _ _ _ (by omega)]
  rfl

/-- An array of commitments of the call's own, n long, at block g, whose first k are these. -/
def FillC (w : World) (B g n k : Nat) (I : Nat → Int) (D E : Nat → Nat) : Prop :=
  ∃ xs, w.ownsRow B 79 3 (.slice (some ⟨g, 0, none⟩) n n) n xs ∧ ∀ i, i < k → xs[i * 3]? = some (.int .i64 (I i)) ∧ xs[i * 3 + 1]? = some (.int .u64 (D i : Nat)) ∧ xs[i * 3 + 2]? = some (.int .u64 (E i : Nat))

section
variable {w : World} {B g n k : Nat} {I : Nat → Int} {D E : Nat → Nat}
theorem FillC.start {xs : List Value} (h : w.ownsRow B 79 3 (.slice (some ⟨g, 0, none⟩) n n) n xs) : FillC w B g n 0 I D E := ⟨xs, h, fun i hi => absurd hi (Nat.not_lt_zero i)⟩
theorem FillC.below {w' : World} (h : FillC w B g n k I D E) (hb : Below w.heap.size w w') : FillC w' B g n k I D E := by
  obtain ⟨xs, h1, h2⟩ := h
  exact ⟨xs, ownsRow_below h1 hb, h2⟩
theorem FillC.drew (h : FillC w B g n k I D E) : FillC w.drew B g n k I D E := by
  obtain ⟨xs, h1, h2⟩ := h
  exact ⟨xs, h1.drew, h2⟩
theorem FillC.lt (h : FillC w B g n k I D E) : B ≤ g ∧ g < w.heap.size := by
  obtain ⟨xs, h1, _⟩ := h
  exact h1.lt g rfl
theorem FillC.frozen (h : FillC w B g n k I D E) (j : Nat) : w.frozen? ⟨g, j, none⟩ = false := by
  obtain ⟨xs, h1, _⟩ := h
  exact h1.frozenAt j
theorem FillC.there (h : FillC w B g n k I D E) {j : Nat} (hj : j < n * 3) : ∃ v, w.cell? ⟨g, j, none⟩ = some v := by
  obtain ⟨xs, h1, _⟩ := h
  rw [h1.cellAt j hj]
  have := h1.1
  exact ⟨xs[j]'(by omega), List.getElem?_eq_getElem (by omega)⟩
theorem FillC.store (h : FillC w B g n k I D E) (hk : k < n) {x0 x1 x2 : Value} (h0 : x0 = .int .i64 (I k)) (h1 : x1 = .int .u64 (D k : Nat)) (h2 : x2 = .int .u64 (E k : Nat)) :
    FillC (((w.setCell ⟨g, k * 3, none⟩ x0).setCell ⟨g, k * 3 + 1, none⟩ x1).setCell ⟨g, k * 3 + 2, none⟩ x2) B g n (k + 1) I D E := by
  obtain ⟨xs, r, hx⟩ := h
  have hl := r.1
  refine ⟨((xs.set (k * 3) x0).set (k * 3 + 1) x1).set (k * 3 + 2) x2, (((r.stored _ _).1.stored _ _).1.stored _ _).1, fun i hi => ?_⟩
  rcases Nat.lt_or_eq_of_le (Nat.le_of_lt_succ hi) with hlt | rfl
  · simp only [List.getElem?_set]
    rw [if_neg (by omega), if_neg (by omega), if_neg (by omega), if_neg (by omega), if_neg (by omega), if_neg (by omega), if_neg (by omega), if_neg (by omega), if_neg (by omega)]
    exact hx i hlt
  · subst h0 h1 h2
    refine ⟨?_, ?_, ?_⟩
    · simp only [List.getElem?_set, List.length_set]
      rw [if_neg (by omega), if_neg (by omega), if_pos trivial, if_pos (by omega)]
    · simp only [List.getElem?_set, List.length_set]
      rw [if_neg (by omega), if_pos trivial, if_pos (by omega)]
    · simp only [List.getElem?_set, List.length_set]
      rw [if_pos trivial, if_pos (by omega)]
theorem FillC.rd (h : FillC w B g n n I D E) : RdC w (some ⟨g, 0, none⟩) n I D E := by
  have hlt := h.lt.2
  obtain ⟨xs, h1, h2⟩ := h
  refine .inr ⟨g, 0, rfl, hlt, fun i hi => ?_⟩
  rw [Nat.zero_add, h1.cellAt (i * 3) (by omega), h1.cellAt (i * 3 + 1) (by omega), h1.cellAt (i * 3 + 2) (by omega)]
  exact h2 i hi
end

set_option maxHeartbeats 400000 in
theorem unpack_len (s : ByteArray) (w : World) (h : ¬ (s.size % 9 = 0 ∧ s.size ≤ 81)) :
    Calls Try.prog 18 #[.string s] w fun e w' => e = .returned (.tuple #[.slice none 0 0, .int .i64 13]) ∧ w' = w := by
  by_cases h1 : s.size % 9 = 0
  · have e1 : (((s.size : Int) % 9) != 0) = false := by simp; omega
    have e2 : (81 : Int) < s.size := by omega
    clear h
    go_enter Try.func18, Try.ntmps18
    go_wp2_with fail
    go_ret2
    exact ⟨rfl, rfl⟩
  · have e1 : (((s.size : Int) % 9) != 0) = true := by simp; omega
    clear h
    go_enter Try.func18, Try.ntmps18
    go_wp2_with fail
    go_ret2
    exact ⟨rfl, rfl⟩
end Go.Proofs.Yteoioldbigomaaa
