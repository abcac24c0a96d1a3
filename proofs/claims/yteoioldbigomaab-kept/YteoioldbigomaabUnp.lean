import Derived.Test.YteoioldbigomaabPck
import Derived.Deep.RegionHeld
import Derived.Test.YteoioldbigomaabPhash
import Derived.BigRegion
import Derived.Deep.QuietTactic
import Derived.BigQuiet
import Derived.Deep.CutRange
namespace Go.Proofs.Yteoioldbigomaab
open Go.RowKit

/-- The number whose bytes these are, the lowest first. -/
def M.num : List Nat → Nat
  | [] => 0
  | b :: l => b + 256 * M.num l

theorem M.num_snoc (l : List Nat) (b : Nat) : M.num (l ++ [b]) = M.num l + b * 2 ^ (8 * l.length) := by
  induction l with
  | nil => simp [M.num]
  | cons x l ih =>
    rw [List.cons_append, M.num, M.num, ih, List.length_cons, show 8 * (l.length + 1) = 8 + 8 * l.length by omega, Nat.pow_add, Nat.mul_add, Nat.add_assoc]
    congr 2
    rw [Nat.mul_left_comm]

theorem M.num_lt (l : List Nat) (h : ∀ x ∈ l, x < 256) : M.num l < 2 ^ (8 * l.length) := by
  induction l with
  | nil => simp [M.num]
  | cons x l ih =>
    have h1 := h x (by simp)
    have h2 := ih fun y hy => h y (by simp [hy])
    rw [M.num, List.length_cons, show 8 * (l.length + 1) = 8 + 8 * l.length by omega, Nat.pow_add]
    omega

theorem tx_lt (s : ByteArray) : ∀ x ∈ tx s, x < 256 := by
  intro x hx
  unfold tx at hx
  obtain ⟨b, _, rfl⟩ := List.mem_map.1 hx
  exact b.toNat_lt

theorem or_step (z b k : Nat) (hz : z < 2 ^ (8 * k)) (hb : b < 256) (hk : k < 8) :
    bits BinOp.or IntKind.u64 (z : Int) (IntKind.u64.wrap (IntKind.u64.wrap (b : Int) * 2 ^ (8 * k))) = ((z + b * 2 ^ (8 * k) : Nat) : Int) := by
  have hp : 2 ^ (8 * k) * 256 ≤ 2 ^ 64 := by
    have : (2 : Nat) ^ (8 * k) * 256 = 2 ^ (8 * k + 8) := by rw [Nat.pow_add]
    rw [this]
    exact Nat.pow_le_pow_right (by omega) (by omega)
  have hm : b * 2 ^ (8 * k) < 2 ^ 64 := by
    have h1 : b * 2 ^ (8 * k) < 256 * 2 ^ (8 * k) := Nat.mul_lt_mul_of_pos_right hb (Nat.two_pow_pos _)
    omega
  have e1 : IntKind.u64.wrap (b : Int) = b := by rw [IntKind.wrap_u64]; omega
  have e2 : (b : Int) * 2 ^ (8 * k) = ((b * 2 ^ (8 * k) : Nat) : Int) := by simp
  have e3 : IntKind.u64.wrap (((b * 2 ^ (8 * k) : Nat)) : Int) = ((b * 2 ^ (8 * k) : Nat) : Int) := by rw [IntKind.wrap_u64]; omega
  rw [e1, e2, e3, bits_or_u64_nat _ _ (by omega) (by omega)]
  congr 1
  rw [Nat.or_comm, Nat.mul_comm, ← Nat.two_pow_add_eq_or_of_lt hz]
  omega

end Go.Proofs.Yteoioldbigomaab
namespace Go.Proofs.Yteoioldbigomaab
open Go.RowKit

/-- The number that four bytes of a list make, from the o-th on. -/
def M.at4 (L : List Nat) (o : Nat) : Nat := M.num [L.getD o 0, L.getD (o + 1) 0, L.getD (o + 2) 0, L.getD (o + 3) 0]

theorem tx_len (s : ByteArray) : (tx s).length = s.size := by unfold tx; simp only [List.length_map, Array.length_toList]; rfl
theorem tx_cut (s : ByteArray) (i j : Nat) : tx (s.extract i j) = ((tx s).drop i).take (j - i) := by
  unfold tx
  rw [ByteArray.data_extract, Array.toList_extract, ← List.map_drop, ← List.map_take]

theorem num_four (L : List Nat) (o : Nat) (h : o + 4 ≤ L.length) : M.num ((L.drop o).take 4) = M.at4 L o := by
  unfold M.at4
  congr 1
  apply List.ext_getElem?
  intro i
  by_cases hi : i < 4
  · rw [List.getElem?_take, if_pos hi, List.getElem?_drop]
    match i, hi with
    | 0, _ => simp [List.getElem?_eq_getElem (show o < L.length by omega)]
    | 1, _ => simp [List.getElem?_eq_getElem (show o + 1 < L.length by omega)]
    | 2, _ => simp [List.getElem?_eq_getElem (show o + 2 < L.length by omega)]
    | 3, _ => simp [List.getElem?_eq_getElem (show o + 3 < L.length by omega)]
  · rw [List.getElem?_take, if_neg hi, List.getElem?_eq_none (by simp; omega)]

theorem num_one (L : List Nat) (h : 1 ≤ L.length) : M.num ((L.drop 0).take 1) = L.getD 0 0 := by
  match L, h with
  | b :: l, _ => simp [M.num]

end Go.Proofs.Yteoioldbigomaab
namespace Go.Proofs.Yteoioldbigomaab
open Go.RowKit

/-- The k-th nine bytes of a list: number, D, E; the number ahead. -/
def M.id9 (L : List Nat) (k : Nat) : Nat := L.getD (9 * k) 0
def M.d9 (L : List Nat) (k : Nat) : Nat := M.at4 L (9 * k + 1)
def M.e9 (L : List Nat) (k : Nat) : Nat := M.at4 L (9 * k + 5)
def M.ah (L : List Nat) : Nat → Nat
  | 0 => 0
  | k + 1 => M.id9 L k
/-- Nothing is wrong with the k-th nine bytes; er is. -/
def M.Fine (L : List Nat) (k : Nat) : Prop := M.turn (M.id9 L k) (M.ah L k) 9 = 0 ∧ PRO (M.d9 L k) ∧ PRO (M.e9 L k)
def M.Wrong (L : List Nat) (k er : Nat) : Prop := (M.turn (M.id9 L k) (M.ah L k) 9 ≠ 0 ∧ er = M.turn (M.id9 L k) (M.ah L k) 9) ∨ (M.turn (M.id9 L k) (M.ah L k) 9 = 0 ∧ ¬ (PRO (M.d9 L k) ∧ PRO (M.e9 L k)) ∧ er = 3)
/-- What Unpack tells of n times nine bytes. -/
def M.Un (L : List Nat) (n er : Nat) : Prop := (er = 0 ∧ ∀ j, j < n → M.Fine L j) ∨ (∃ k, k < n ∧ (∀ j, j < k → M.Fine L j) ∧ M.Wrong L k er)

theorem M.Wrong.not {L : List Nat} {k er : Nat} (h : M.Wrong L k er) : ¬ M.Fine L k := by
  rintro ⟨h1, h2⟩
  rcases h with ⟨h3, _⟩ | ⟨_, h3, _⟩
  · exact h3 h1
  · exact h3 h2
theorem M.Wrong.one {L : List Nat} {k e1 e2 : Nat} (h : M.Wrong L k e1) (h' : M.Wrong L k e2) : e1 = e2 := by
  rcases h with ⟨a, b⟩ | ⟨a, _, b⟩ <;> rcases h' with ⟨c, d⟩ | ⟨c, _, d⟩
  · rw [b, d]
  · exact absurd c a
  · exact absurd a c
  · rw [b, d]
theorem M.Wrong.ne {L : List Nat} {k er : Nat} (h : M.Wrong L k er) : er ≠ 0 := by
  rcases h with ⟨a, b⟩ | ⟨a, _, b⟩
  · rw [b]; exact a
  · rw [b]; omega
theorem M.Un.one {L : List Nat} {n e1 e2 : Nat} (h : M.Un L n e1) (h' : M.Un L n e2) : e1 = e2 := by
  rcases h with ⟨a, b⟩ | ⟨k, a, b, c⟩ <;> rcases h' with ⟨a', b'⟩ | ⟨k', a', b', c'⟩
  · rw [a, a']
  · exact absurd (b k' a') c'.not
  · exact absurd (b' k a) c.not
  · rcases Nat.lt_trichotomy k k' with h | h | h
    · exact absurd (b' k h) c.not
    · subst h; exact c.one c'
    · exact absurd (b k' h) c'.not

theorem cut_getD (L : List Nat) (a m j : Nat) (hj : j < m) : ((L.drop a).take m).getD j 0 = L.getD (a + j) 0 := by
  simp [List.getD, hj, List.getElem?_drop]
theorem cut_at4 (L : List Nat) (a m o : Nat) (ho : o + 3 < m) : M.at4 ((L.drop a).take m) o = M.at4 L (a + o) := by
  unfold M.at4
  rw [cut_getD _ _ _ _ (by omega), cut_getD _ _ _ _ (by omega), cut_getD _ _ _ _ (by omega), cut_getD _ _ _ _ (by omega)]
  rfl

/-- An array of commitments of the call's own, n long, at block g, whose first k are these. -/
def FillC (w : World) (B g n k : Nat) (I : Nat → Int) (D E : Nat → Nat) : Prop :=
  ∃ xs, w.ownsRow B 40 3 (.slice (some ⟨g, 0, none⟩) n n) n xs ∧ ∀ i, i < k → xs[i * 3]? = some (.int .i64 (I i)) ∧ xs[i * 3 + 1]? = some (.int .u64 (D i : Nat)) ∧ xs[i * 3 + 2]? = some (.int .u64 (E i : Nat))

section
variable {w : World} {B g n k : Nat} {I : Nat → Int} {D E : Nat → Nat}
theorem FillC.start {xs : List Value} (h : w.ownsRow B 40 3 (.slice (some ⟨g, 0, none⟩) n n) n xs) : FillC w B g n 0 I D E := ⟨xs, h, fun i hi => absurd hi (Nat.not_lt_zero i)⟩
theorem FillC.below {w' : World} (h : FillC w B g n k I D E) (hb : Below w.heap.size w w') : FillC w' B g n k I D E := by
  obtain ⟨xs, h1, h2⟩ := h
  exact ⟨xs, ownsRow_below h1 hb, h2⟩
theorem FillC.drew (h : FillC w B g n k I D E) : FillC w.drew B g n k I D E := by
  obtain ⟨xs, h1, h2⟩ := h
  exact ⟨xs, h1.drew, h2⟩
theorem FillC.lt (h : FillC w B g n k I D E) : B ≤ g ∧ g < w.heap.size := by
  obtain ⟨xs, h1, _⟩ := h
  exact h1.lt g rfl
theorem FillC.frozen (h : FillC w B g n k I D E) (j : Nat) : w.frozen? ⟨g, j, none⟩ = false := by
  obtain ⟨xs, h1, _⟩ := h
  exact h1.frozenAt j
theorem FillC.there (h : FillC w B g n k I D E) {j : Nat} (hj : j < n * 3) : ∃ v, w.cell? ⟨g, j, none⟩ = some v := by
  obtain ⟨xs, h1, _⟩ := h
  rw [h1.cellAt j hj]
  have := h1.1
  exact ⟨xs[j]'(by omega), List.getElem?_eq_getElem (by omega)⟩
theorem FillC.store (h : FillC w B g n k I D E) (hk : k < n) {x0 x1 x2 : Value} (h0 : x0 = .int .i64 (I k)) (h1 : x1 = .int .u64 (D k : Nat)) (h2 : x2 = .int .u64 (E k : Nat)) :
    FillC (((w.setCell ⟨g, k * 3, none⟩ x0).setCell ⟨g, k * 3 + 1, none⟩ x1).setCell ⟨g, k * 3 + 2, none⟩ x2) B g n (k + 1) I D E := by
  obtain ⟨xs, r, hx⟩ := h
  have hl := r.1
  refine ⟨((xs.set (k * 3) x0).set (k * 3 + 1) x1).set (k * 3 + 2) x2, (((r.stored _ _).1.stored _ _).1.stored _ _).1, fun i hi => ?_⟩
  rcases Nat.lt_or_eq_of_le (Nat.le_of_lt_succ hi) with hlt | rfl
  · simp only [List.getElem?_set]
    rw [if_neg (by omega), if_neg (by omega), if_neg (by omega), if_neg (by omega), if_neg (by omega), if_neg (by omega), if_neg (by omega), if_neg (by omega), if_neg (by omega)]
    exact hx i hlt
  · subst h0 h1 h2
    refine ⟨?_, ?_, ?_⟩
    · simp only [List.getElem?_set, List.length_set]
      rw [if_neg (by omega), if_neg (by omega), if_pos trivial, if_pos (by omega)]
    · simp only [List.getElem?_set, List.length_set]
      rw [if_neg (by omega), if_pos trivial, if_pos (by omega)]
    · simp only [List.getElem?_set, List.length_set]
      rw [if_pos trivial, if_pos (by omega)]
theorem FillC.rd (h : FillC w B g n n I D E) : RdC w (some ⟨g, 0, none⟩) n I D E := by
  have hlt := h.lt.2
  obtain ⟨xs, h1, h2⟩ := h
  refine .inr ⟨g, 0, rfl, hlt, fun i hi => ?_⟩
  rw [Nat.zero_add, h1.cellAt (i * 3) (by omega), h1.cellAt (i * 3 + 1) (by omega), h1.cellAt (i * 3 + 2) (by omega)]
  exact h2 i hi
end

end Go.Proofs.Yteoioldbigomaab
namespace Go.Proofs.Yteoioldbigomaab
open Go.RowKit

theorem keep_cell {w w' : World} {p : Addr} {v : Value} (h : w.cell? p = some v) (b : Below w.heap.size w w') : w'.cell? p = some v :=
  (b.cell (World.block_lt_of_cell? w p h)).trans h

theorem Try.info40 : (Try.prog.info? 40).map (fun i => (i.zero, i.size, i.bytes)) = some (some (.agg #[.int .i64 0, .int .u64 0, .int .u64 0]), 3, 24) := by kernel_rfl

/-- What both ways of Unpack leave: an error and no list, or a list of n commitments. -/
def UnPost (L : List Nat) (n : Nat) (w : World) (e : Ending) (w' : World) : Prop :=
  Below w.heap.size w w' ∧ ∃ er : Nat, M.Un L n er ∧ ((er ≠ 0 ∧ e = .returned (.tuple #[.slice none 0 0, .int .i64 er])) ∨
    (er = 0 ∧ ∃ a c, e = .returned (.tuple #[.slice a n c, .int .i64 0]) ∧ RdC w' a n (fun i => (M.id9 L i : Nat)) (M.d9 L) (M.e9 L)))

end Go.Proofs.Yteoioldbigomaab
namespace Go.Proofs.Yteoioldbigomaab
open Go.RowKit

theorem tx_at (s : ByteArray) (k : Nat) (h : k < s.size) : (tx s).getD k 0 = s[k].toNat := by unfold tx; simp [h]; rfl

theorem horner (a b c d : Nat) (ha : a < 256) (hb : b < 256) (hc : c < 256) (hd : d < 256) :
    IntKind.u64.wrap (IntKind.u64.wrap (a : Int) + IntKind.u64.wrap (256 * IntKind.u64.wrap (IntKind.u64.wrap (b : Int) + IntKind.u64.wrap (256 * IntKind.u64.wrap (IntKind.u64.wrap (c : Int) + IntKind.u64.wrap (256 * IntKind.u64.wrap (d : Int))))))) = ((M.num [a, b, c, d] : Nat) : Int) := by
  simp only [IntKind.wrap_u64, M.num]
  omega

end Go.Proofs.Yteoioldbigomaab
namespace Go.Proofs.Yteoioldbigomaab
open Go.RowKit

/-- The cells of the first k commitments, one behind the other. -/
def cl (I : Nat → Int) (D E : Nat → Nat) : Nat → List Value
  | 0 => []
  | k + 1 => cl I D E k ++ [.int .i64 (I k), .int .u64 (D k : Nat), .int .u64 (E k : Nat)]
theorem cl_len (I : Nat → Int) (D E : Nat → Nat) (k : Nat) : (cl I D E k).length = k * 3 := by
  induction k with
  | zero => rfl
  | succ k ih => rw [cl, List.length_append, ih]; simp; omega
theorem cl_at (I : Nat → Int) (D E : Nat → Nat) (k i : Nat) (h : i < k) : (cl I D E k)[i * 3]? = some (.int .i64 (I i)) ∧ (cl I D E k)[i * 3 + 1]? = some (.int .u64 (D i : Nat)) ∧ (cl I D E k)[i * 3 + 2]? = some (.int .u64 (E i : Nat)) := by
  induction k with
  | zero => omega
  | succ k ih =>
    have hl := cl_len I D E k
    rcases Nat.lt_or_eq_of_le (Nat.le_of_lt_succ h) with hlt | rfl
    · rw [cl, List.getElem?_append_left (by omega), List.getElem?_append_left (by omega), List.getElem?_append_left (by omega)]
      exact ih hlt
    · rw [cl, List.getElem?_append_right (by omega), List.getElem?_append_right (by omega), List.getElem?_append_right (by omega), hl]
      refine ⟨?_, ?_, ?_⟩
      · rw [Nat.sub_self]; rfl
      · rw [show i * 3 + 1 - i * 3 = 1 by omega]; rfl
      · rw [show i * 3 + 2 - i * 3 = 2 by omega]; rfl

/-- A []api.Commit of the call's own that has grown to these k. -/
def GrowC (w : World) (B : Nat) (v : Value) (k : Nat) (I : Nat → Int) (D E : Nat → Nat) : Prop := w.ownsRow B 40 3 v k (cl I D E k)

theorem GrowC.below {w w' : World} {B k : Nat} {v : Value} {I : Nat → Int} {D E : Nat → Nat} (h : GrowC w B v k I D E) (hb : Below w.heap.size w w') : GrowC w' B v k I D E := ownsRow_below h hb
theorem GrowC.rd {w : World} {B k : Nat} {v : Value} {I : Nat → Int} {D E : Nat → Nat} (h : GrowC w B v k I D E) : ∃ a cap, v = .slice a k cap ∧ RdC w a k I D E := by
  rcases h.2 with ⟨hv, hl⟩ | ⟨g, cap, cur, hv, hB, hg, hn, hm, hs, ht⟩
  · exact ⟨none, 0, by rw [hv, hl], .inl hl⟩
  · subst hv
    refine ⟨_, cap, rfl, .inr ⟨g, 0, rfl, lt_of_block hg, fun i hi => ?_⟩⟩
    obtain ⟨c0, c1, c2⟩ := cl_at I D E k i hi
    have d0 := World.ownsRow.cells h (g := g) rfl _ _ c0
    have d1 := World.ownsRow.cells h (g := g) rfl _ _ c1
    have d2 := World.ownsRow.cells h (g := g) rfl _ _ c2
    rw [addr_add0] at d0 d1 d2
    rw [Nat.zero_add]
    exact ⟨d0, d1, d2⟩

theorem wpList_appendC (w : World) {ops : Array Oper} {rest : List Oper} {o : Oper} {a : Act} {Q : Exit → Act → World → Prop}
    (hg : o.guard = none) (s x : Operand) (hop : o.op = Op.call { callee := Callee.builtin Builtin.append, args := #[s, x], argTypes := #[43, 43] })
    (B k : Nat) (v : Value) (I : Nat → Int) (D E : Nat → Nat) (hs : a.eval s = v) (hgrow : GrowC w B v k I D E) (b : Nat) (hx : a.eval x = .slice (some ⟨b, 0, none⟩) 1 1)
    (h0 : w.cell? ⟨b, 0, none⟩ = some (.int .i64 (I k))) (h1 : w.cell? ⟨b, 1, none⟩ = some (.int .u64 (D k : Nat))) (h2 : w.cell? ⟨b, 2, none⟩ = some (.int .u64 (E k : Nat))) (hk : k ≤ 65536) (hB : B ≤ w.heap.size)
    (hK : ∀ v' w', GrowC w' B v' (k + 1) I D E → Below B w w' → wpList Try.prog ops Q rest (a.put o.dst v') w') :
    wpList Try.prog ops Q (o :: rest) a w := by
  obtain ⟨i0, hi, hz0, hz1, hz2⟩ := info_parts Try.info40
  refine wpList_append_own w hg s x 43 hop B 40 i0 (.agg #[.int .i64 0, .int .u64 0, .int .u64 0]) 3 24 Try.underlying43 hi hz0 hz1 hz2 rfl (by decide) v k (cl I D E k) hs hgrow ⟨b, 0, none⟩ 1 1 [.int .i64 (I k), .int .u64 (D k : Nat), .int .u64 (E k : Nat)] hx rfl ?_ ?_
    (by unfold maxLen; omega) (by omega) hB ?_
  · intro j u hj
    match j, hj with
    | 0, hj => simp at hj; subst hj; rw [addr_add0]; exact h0
    | 1, hj => simp at hj; subst hj; rw [addr_add0]; exact h1
    | 2, hj => simp at hj; subst hj; rw [addr_add0]; exact h2
  · intro u hu
    simp at hu
    rcases hu with rfl | rfl | rfl <;> rfl
  · intro v' w' r1 r2 _
    exact hK v' w' r1 ((Below.refl _ _).grown r2 hB fun j hj => (World.ownsRow.lt hgrow j hj).1)

theorem not_empty (q : ByteArray) (h : 0 < q.size) : q.toList.isEmpty = false := by
  rw [ByteArray.toList_eq]
  rcases q with ⟨⟨l⟩⟩
  cases l with
  | nil => exact absurd h (Nat.lt_irrefl 0)
  | cons a l => rfl
theorem is_empty (q : ByteArray) (h : q.size = 0) : q.toList.isEmpty = true := by
  rw [ByteArray.toList_eq]
  rcases q with ⟨⟨l⟩⟩
  cases l with
  | nil => rfl
  | cons a l => cases h

theorem at4_drop (L : List Nat) (a : Nat) : M.at4 (L.drop a) 0 = M.at4 L a := by
  unfold M.at4
  simp [List.getD, List.getElem?_drop]

end Go.Proofs.Yteoioldbigomaab
namespace Go.Proofs.Yteoioldbigomaab
open Go.RowKit

end Go.Proofs.Yteoioldbigomaab
