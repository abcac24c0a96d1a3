import Derived.Test.YteoioldbigomaabPsg
import Derived.Test.YteoioldbigomaabPco
import Derived.Test.YteoioldbigomaabDealt
namespace Go.Proofs.Yteoioldbigomaab
open Go.RowKit

/-- The cells of commitments of signer 1 to pairs of nonces. -/
def kcl : List (Nat × Nat) → List Value
  | [] => []
  | p :: l => [.int .i64 1, .int .u64 (M.pw 2147483579 4 p.1 : Nat), .int .u64 (M.pw 2147483579 4 p.2 : Nat)] ++ kcl l
theorem kcl_app (l k : List (Nat × Nat)) : kcl (l ++ k) = kcl l ++ kcl k := by
  induction l with
  | nil => rfl
  | cons x l ih => rw [List.cons_append, kcl, kcl, ih, List.append_assoc]
theorem kcl_len (l : List (Nat × Nat)) : (kcl l).length = l.length * 3 := by
  induction l with
  | nil => rfl
  | cons x l ih => rw [kcl, List.length_append, ih]; simp; omega
theorem kcl_at (l : List (Nat × Nat)) (i : Nat) (h : i < l.length) : (kcl l)[i * 3]? = some (.int .i64 1) ∧ (kcl l)[i * 3 + 1]? = some (.int .u64 (M.pw 2147483579 4 l[i].1 : Nat)) ∧ (kcl l)[i * 3 + 2]? = some (.int .u64 (M.pw 2147483579 4 l[i].2 : Nat)) := by
  induction l generalizing i with
  | nil => simp at h
  | cons x l ih =>
    cases i with
    | zero => rw [kcl]; exact ⟨rfl, rfl, rfl⟩
    | succ i =>
      have := ih i (by simpa using h)
      have e : ∀ j, (kcl (x :: l))[(i + 1) * 3 + j]? = (kcl l)[i * 3 + j]? := fun j => by
        rw [kcl, List.getElem?_append_right (by simp; omega)]
        congr 1
        simp
        omega
      have e0 := e 0
      rw [Nat.add_zero, Nat.add_zero] at e0
      rw [e0, e 1, e 2]
      simpa using this
theorem kcl_one : ∀ (l : List (Nat × Nat)) (u : Value), u ∈ kcl l → u.oneCell' = true
  | [], u, h => by simp [kcl] at h
  | x :: l, u, h => by
    rw [kcl] at h
    rcases List.mem_append.1 h with h | h
    · simp at h
      rcases h with rfl | rfl | rfl <;> rfl
    · exact kcl_one l u h
theorem kcl_take (l : List (Nat × Nat)) (i j : Nat) (u : Value) (h : (kcl (l.take i))[j]? = some u) : (kcl l)[j]? = some u := by
  have e : kcl l = kcl (l.take i) ++ kcl (l.drop i) := by rw [← kcl_app, List.take_append_drop]
  rw [e, List.getElem?_append_left (List.getElem?_eq_some_iff.1 h).1]
  exact h
theorem kcl_drop (l : List (Nat × Nat)) (i j : Nat) (u : Value) (hi : i ≤ l.length) (h : (kcl (l.drop i))[j]? = some u) : (kcl l)[i * 3 + j]? = some u := by
  have e : kcl l = kcl (l.take i) ++ kcl (l.drop i) := by rw [← kcl_app, List.take_append_drop]
  have hl : (kcl (l.take i)).length = i * 3 := by rw [kcl_len, List.length_take, Nat.min_eq_left hi]
  rw [e, List.getElem?_append_right (by omega), hl, Nat.add_sub_cancel_left]
  exact h

/-- What is kept, in the order of the pairs. -/
def KP (w : World) (B : Nat) (v : Value) (l : List (Nat × Nat)) : Prop := w.ownsRow B 40 3 v l.length (kcl l)
theorem KP.chg {P : Nat → Prop} {w w' : World} {B : Nat} {v : Value} {l : List (Nat × Nat)} (h : KP w B v l) (hc : Chg P w w') (hv : ∀ k, B ≤ k → ¬ P k) : KP w' B v l := by
  refine ⟨h.1, ?_⟩
  rcases h.2 with h2 | ⟨g, cap, cur, h1, h2, h3, h4⟩
  · exact .inl h2
  · exact .inr ⟨g, cap, cur, h1, h2, (hc.block g (lt_of_block h3) (hv g h2)).trans h3, h4⟩
theorem KP.below {w w' : World} {B : Nat} {v : Value} {l : List (Nat × Nat)} (h : KP w B v l) (hb : Below w.heap.size w w') : KP w' B v l := h.chg (Below.chg hb fun _ => False) fun _ _ h => h
theorem KP.form {w : World} {B : Nat} {v : Value} {l : List (Nat × Nat)} (h : KP w B v l) : ∃ a c, v = .slice a l.length c ∧ (a = none → l.length = 0 ∧ c = 0) ∧ (l.length ≠ 0 → ∃ g, a = some ⟨g, 0, none⟩ ∧ B ≤ g ∧ g < w.heap.size ∧ l.length ≤ c ∧ ∀ j u, (kcl l)[j]? = some u → w.cell? ⟨g, j, none⟩ = some u) := by
  have h0 := h
  rcases h.2 with ⟨hv, hl⟩ | ⟨g, cap, cur, hv, hB, hg, hn, hm, hs, ht⟩
  · exact ⟨none, 0, by rw [hv, hl], fun _ => ⟨hl, rfl⟩, fun h => absurd hl h⟩
  · subst hv
    refine ⟨_, cap, rfl, (fun h => by cases h), fun _ => ⟨g, rfl, hB, lt_of_block hg, hn, fun j u hj => ?_⟩⟩
    have := World.ownsRow.cells h0 (g := g) rfl j u hj
    rw [addr_add0] at this
    exact this

/-- 'append(v, x...)', commitments, in a region that draws. -/
theorem step_appendK {ops : Array Oper} {o : Oper} {a : Act} {w : World} {K : Act → World → Prop} {Q : Exit → Act → World → Prop} {E : Prop}
    (hg : o.guard = none) (s x : Operand) (hop : o.op = Op.call { callee := Callee.builtin Builtin.append, args := #[s, x], argTypes := #[43, 43] })
    (B : Nat) (v : Value) (l1 l2 : List (Nat × Nat)) (hs : a.eval s = v) (hown : KP w B v l1) (ad : Addr) (m c : Nat) (hx : a.eval x = .slice (some ad) m c) (hm : m = l2.length)
    (hc : ∀ j u, (kcl l2)[j]? = some u → w.cell? (ad.add j) = some u) (hk : l1.length + l2.length ≤ 65536) (hB : B ≤ w.heap.size)
    (hK : ∀ v' w', KP w' B v' (l1 ++ l2) → w.grownBy w' v.ownBlock → K (a.put o.dst v') w') :
    if Region.wanted o (yielded ops a.tmps) = true then Oper.wp Try.prog o a w K Q else E := by
  have hw : Region.wanted o (yielded ops a.tmps) = true := by simp [Region.wanted, hg]
  rw [if_pos hw]
  subst hm
  obtain ⟨i0, hi, hz0, hz1, hz2⟩ := info_parts Try.info40
  obtain ⟨v', w', hrun, r1, r2, _⟩ := run_append_own (P := Try.prog) w B 43 o.type 40 i0 (.agg #[.int .i64 0, .int .u64 0, .int .u64 0]) 3 24 Try.underlying43 hi hz0 hz1 hz2 rfl (by decide) v l1.length (kcl l1) hown ad l2.length c (kcl l2) (kcl_len l2) hc
    (fun u hu => kcl_one l2 u hu) (by unfold maxLen; omega) (by omega) hB
  unfold Oper.wp
  simp [execOp, hop, resolve, invoke, builtin, hs, hx, hrun, Result.andThen]
  refine hK v' w' ?_ r2
  unfold KP
  rw [kcl_app, List.length_append]
  exact r1
theorem wpList_appendK (w : World) {ops : Array Oper} {rest : List Oper} {o : Oper} {a : Act} {Q : Exit → Act → World → Prop}
    (hg : o.guard = none) (s x : Operand) (hop : o.op = Op.call { callee := Callee.builtin Builtin.append, args := #[s, x], argTypes := #[43, 43] })
    (B : Nat) (v : Value) (l1 : List (Nat × Nat)) (p : Nat × Nat) (hs : a.eval s = v) (hown : KP w B v l1) (b : Nat) (hx : a.eval x = .slice (some ⟨b, 0, none⟩) 1 1)
    (h0 : w.cell? ⟨b, 0, none⟩ = some (.int .i64 1)) (h1 : w.cell? ⟨b, 1, none⟩ = some (.int .u64 (M.pw 2147483579 4 p.1 : Nat))) (h2 : w.cell? ⟨b, 2, none⟩ = some (.int .u64 (M.pw 2147483579 4 p.2 : Nat))) (hk : l1.length ≤ 65536) (hB : B ≤ w.heap.size)
    (hK : ∀ v' w', KP w' B v' (l1 ++ [p]) → w.grownBy w' v.ownBlock → wpList Try.prog ops Q rest (a.put o.dst v') w') : wpList Try.prog ops Q (o :: rest) a w := by
  obtain ⟨i0, hi, hz0, hz1, hz2⟩ := info_parts Try.info40
  refine wpList_append_own w hg s x 43 hop B 40 i0 (.agg #[.int .i64 0, .int .u64 0, .int .u64 0]) 3 24 Try.underlying43 hi hz0 hz1 hz2 rfl (by decide) v l1.length (kcl l1) hs hown ⟨b, 0, none⟩ 1 1 (kcl [p]) hx rfl ?_ (fun u hu => kcl_one [p] u hu) (by unfold maxLen; omega) (by omega) hB ?_
  · intro j u hj
    match j, hj with
    | 0, hj => simp [kcl] at hj; subst hj; rw [addr_add0]; exact h0
    | 1, hj => simp [kcl] at hj; subst hj; rw [addr_add0]; exact h1
    | 2, hj => simp [kcl] at hj; subst hj; rw [addr_add0]; exact h2
  · intro v' w' r1 r2 _
    refine hK v' w' ?_ r2
    unfold KP
    rw [kcl_app, List.length_append]
    exact r1

/-- G to a scalar other than 0 is an element other than 1. -/
theorem pro_four {d : Nat} (h : NZ d) : PRO (M.pw 2147483579 4 d) := by
  refine ⟨fun e => ?_, M.ise_four d⟩
  have h0 : M.pw 2147483579 4 0 = 1 := by decide
  exact h.ne (four_eq h.sc ⟨by omega⟩ (e.trans h0.symm))
end Go.Proofs.Yteoioldbigomaab
