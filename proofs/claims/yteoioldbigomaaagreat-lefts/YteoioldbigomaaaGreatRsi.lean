import Derived.Test.YteoioldbigomaaaGreatRcmo
import Derived.Test.YteoioldbigomaaaGreatHash
import Derived.Test.YteoioldbigomaaaGreatWt
namespace Go.Proofs.YteoioldbigomaaaGreat
open Go.RowKit

/-- 'append(v, x...)' for pairs of nonces. -/
theorem wpList_appendPs (w : World) {ops : Array Oper} {rest : List Oper} {o : Oper} {a : Act} {Q : Exit → Act → World → Prop}
    (hg : o.guard = none) (s x : Operand) (hop : o.op = Op.call { callee := Callee.builtin Builtin.append, args := #[s, x], argTypes := #[170, 170] })
    (B : Nat) (v : Value) (id : Nat) (l1 l2 : List (Nat × Nat)) (hs : a.eval s = v) (hown : w.ownsRow B 179 5 v l1.length (pcs id l1)) (ad : Addr) (m c : Nat) (hx : a.eval x = .slice (some ad) m c)
    (hm : m = l2.length) (hc : ∀ j u, (pcs id l2)[j]? = some u → w.cell? (ad.add j) = some u) (hk : l1.length + l2.length ≤ 65536) (hB : B ≤ w.heap.size)
    (hK : ∀ v' w', w'.ownsRow B 179 5 v' (l1 ++ l2).length (pcs id (l1 ++ l2)) → w.grownBy w' v.ownBlock → wpList Tryz.prog ops Q rest (a.put o.dst v') w') :
    wpList Tryz.prog ops Q (o :: rest) a w := by
  obtain ⟨i0, hi, hz0, hz1, hz2⟩ := info_parts Tryz.info179
  subst hm
  refine wpList_append_own w hg s x 170 hop B 179 i0 (.agg #[.int .u64 0, .int .u64 0, .int .i64 0, .int .u64 0, .int .u64 0]) 5 40 Tryz.underlying170 hi hz0 hz1 hz2 rfl (by decide) v l1.length (pcs id l1) hs hown ad l2.length c (pcs id l2) hx (pcs_len id l2) hc ?_
    (by unfold maxLen; omega) (by omega) hB ?_
  · intro u hu
    obtain ⟨j, hj⟩ := List.getElem?_of_mem hu
    clear hc hx hop hs hown hK
    have : ∀ (l : List (Nat × Nat)) (u : Value), u ∈ pcs id l → u.oneCell' = true := by
      intro l
      induction l with
      | nil => intro u hu; simp [pcs] at hu
      | cons y l ih =>
        intro u hu
        rw [pcs] at hu
        rcases List.mem_append.1 hu with h | h
        · simp at h
          rcases h with rfl | rfl | rfl | rfl | rfl <;> rfl
        · exact ih u h
    exact this l2 u hu
  · intro v' w' r1 r2 _
    refine hK v' w' ?_ r2
    rw [pcs_app, List.length_append]
    exact r1

theorem pcs_take (id : Nat) (l : List (Nat × Nat)) (i j : Nat) (u : Value) (h : (pcs id (l.take i))[j]? = some u) : (pcs id l)[j]? = some u := by
  have e : pcs id l = pcs id (l.take i) ++ pcs id (l.drop i) := by rw [← pcs_app, List.take_append_drop]
  rw [e, List.getElem?_append_left (List.getElem?_eq_some_iff.1 h).1]
  exact h
theorem pcs_drop (id : Nat) (l : List (Nat × Nat)) (i j : Nat) (u : Value) (hi : i ≤ l.length) (h : (pcs id (l.drop i))[j]? = some u) : (pcs id l)[i * 5 + j]? = some u := by
  have e : pcs id l = pcs id (l.take i) ++ pcs id (l.drop i) := by rw [← pcs_app, List.take_append_drop]
  have hl : (pcs id (l.take i)).length = i * 5 := by rw [pcs_len, List.length_take, Nat.min_eq_left hi]
  rw [e, List.getElem?_append_right (by omega), hl, Nat.add_sub_cancel_left]
  exact h

/-- The k-th commitment is to the i-th pair that is kept. -/
def M.Hit (id : Nat) (l : List (Nat × Nat)) (I : Nat → Int) (D E : Nat → Nat) (k i : Nat) : Prop := ∃ h : i < l.length, I k = id ∧ D k = M.pw 2147483579 4 l[i].1 ∧ E k = M.pw 2147483579 4 l[i].2
/-- What a signer answers with the i-th pair, for the k-th commitment. -/
def M.ans (J D E f : Nat → Nat) (n : Nat) (s : ByteArray) (sh k d e : Nat) : Nat :=
  (d + e * M.bind (J k) (f 0) J D E n s + M.wt J n k * sh % 1073741789 * M.chal (M.allR J D E f n s) (f 0) s % 1073741789) % 1073741789

/-- What Sign leaves. -/
def RsiPost (p T N cb cc : Nat) (f : Nat → Nat) (id sh : Nat) (_v : Value) (l : List (Nat × Nat)) (s : ByteArray) (n : Nat) (I : Nat → Int) (D E : Nat → Nat) (w : World) (ex : Ending) (w' : World) : Prop :=
  ∃ er : Nat, M.Look T N n I D E er ∧
    ((er ≠ 0 ∧ Below w.heap.size w w' ∧ ex = .returned (.tuple #[.int .u64 0, .int .i64 er])) ∨
     (er = 0 ∧ (∀ k i, k < n → ¬ M.Hit id l I D E k i) ∧ Below w.heap.size w w' ∧ ex = .returned (.tuple #[.int .u64 0, .int .i64 10])) ∨
     (er = 0 ∧ (∃ k i, k < n ∧ M.Hit id l I D E k i) ∧ M.allR (fun j => (I j).toNat) D E f n s = 1 ∧ Below w.heap.size w w' ∧ ex = .returned (.tuple #[.int .u64 0, .int .i64 11])) ∨
     (er = 0 ∧ ∃ k i, ∃ hi : i < l.length, k < n ∧ M.Hit id l I D E k i ∧ M.allR (fun j => (I j).toNat) D E f n s ≠ 1 ∧
       ex = .returned (.tuple #[.int .u64 (M.ans (fun j => (I j).toNat) D E f n s sh k l[i].1 l[i].2 : Nat), .int .i64 0]) ∧
       ∃ v', RS w' p T N cb cc f id sh v' (l.take i ++ l.drop (i + 1)) ∧ Chg (fun k => k = p) w w' ∧ (∀ k, v'.ownBlock = some k → w.heap.size ≤ k)))

/-- A package that is in order: its numbers are from 1 to 9. -/
theorem look_ok {T N n : Nat} {I : Nat → Int} {D E : Nat → Nat} (h : M.Look T N n I D E 0) (h9 : N ≤ 9) : (T ≤ n ∧ n ≤ N) ∧ (∀ j, j < n → 1 ≤ I j ∧ I j ≤ 9) ∧ (∀ j, j < n → PRO (D j) ∧ PRO (E j)) := by
  rcases h with ⟨_, h⟩ | ⟨_, k, _, _, h, h'⟩ | ⟨_, _, _, h⟩ | ⟨a, b, c, _⟩
  · omega
  · omega
  · omega
  · refine ⟨a, fun j hj => ?_, c⟩
    have := b j hj
    unfold M.Tn M.turn at this
    by_cases h1 : I j < 1 ∨ (N : Int) < I j
    · rw [if_pos h1] at this; omega
    · omega
end Go.Proofs.YteoioldbigomaaaGreat
