import Derived.Test.YteoioldbigomaaaDealOk
import Derived.Deep.RegionLaw
namespace Go.Proofs.Yteoioldbigomaaa
open Go.RowKit

/-- F 0 .. F (k - 1) as cells. -/
def vs (F : Nat → Nat) (k : Nat) : List Value := (List.range k).map fun i => .int .u64 ((F i : Nat) : Int)

theorem vs_succ (F : Nat → Nat) (k : Nat) : vs F (k + 1) = vs F k ++ [.int .u64 ((F k : Nat) : Int)] := by
  simp [vs, List.range_succ]

/-- A []uint64 of the call's own that has grown to F 0 .. F (k - 1). -/
def Grow (w : World) (B : Nat) (v : Value) (k : Nat) (F : Nat → Nat) : Prop := w.ownsRow B 30 1 v k (vs F k)

theorem Grow.nil (w : World) (B : Nat) (F : Nat → Nat) : Grow w B (.slice none 0 0) 0 F := World.ownsRow_nil _ _ _ _

theorem Grow.below {w w' : World} {B k : Nat} {v : Value} {F : Nat → Nat} (h : Grow w B v k F) (hb : Below w.heap.size w w') : Grow w' B v k F := ownsRow_below h hb

theorem Grow.rd {w : World} {B k : Nat} {v : Value} {F : Nat → Nat} (h : Grow w B v k F) :
    ∃ a cap, v = .slice a k cap ∧ RdF w a k (cu (M.sq F k)) ∧ (∀ x, a = some x → B ≤ x.block) := by
  rcases h.2 with ⟨rfl, rfl⟩ | ⟨g, cap, cur, rfl, hB, hg, hn, hm, hs, ht⟩
  · exact ⟨none, 0, rfl, .inl rfl, fun x hx => by cases hx⟩
  · refine ⟨_, cap, rfl, .inr ⟨g, 0, rfl, lt_of_block hg, fun i hi => ?_⟩, fun x hx => by simp only [Option.some.injEq] at hx; subst hx; exact hB⟩
    rw [Nat.zero_add]
    have := World.ownsRow.cells h (g := g) rfl i (.int .u64 ((F i : Nat) : Int)) (by simp [vs, hi])
    rw [M.cu_sq _ _ _ hi, ← this]
    congr 1
    unfold Addr.add
    split
    · subst_vars; rfl
    · simp

theorem grown_below {w w' : World} {B k : Nat} {v : Value} {F : Nat → Nat} (h : Grow w B v k F) (hg : w.grownBy w' v.ownBlock) (hB : B ≤ w.heap.size) : Below B w w' :=
  (Below.refl _ _).grown hg hB fun k hk => (World.ownsRow.lt h k hk).1

theorem one_new {w : World} {s : Nat} {u : Value} (hc : w.cell? ⟨s, 0, none⟩ = some u) : ∀ (j : Nat) (x : Value), [u][j]? = some x → w.cell? ((⟨s, 0, none⟩ : Addr).add j) = some x := by
  intro j x hj
  match j, hj with
  | 0, hj => simp at hj; subst hj; simpa [Addr.add] using hc

/-- 'x = append(x, u)', x a []uint64 of the call's own, as a step of a region that draws. -/
theorem step_append1 {ops : Array Oper} {o : Oper} {a : Act} {w : World} {K : Act → World → Prop} {Q : Exit → Act → World → Prop} {E : Prop}
    (hg : o.guard = none) (s x : Operand) (hop : o.op = Op.call { callee := Callee.builtin Builtin.append, args := #[s, x], argTypes := #[22, 22] })
    (B k : Nat) (v : Value) (F : Nat → Nat) (hs : a.eval s = v) (hgrow : Grow w B v k F) (b : Nat) (hx : a.eval x = .slice (some ⟨b, 0, none⟩) 1 1)
    (hc : w.cell? ⟨b, 0, none⟩ = some (.int .u64 ((F k : Nat) : Int))) (hk : k ≤ 65536) (hB : B ≤ w.heap.size)
    (hK : ∀ v' w', Grow w' B v' (k + 1) F → Below B w w' → K (a.put o.dst v') w') :
    if Region.wanted o (yielded ops a.tmps) = true then Oper.wp Try.prog o a w K Q else E := by
  have hw : Region.wanted o (yielded ops a.tmps) = true := by simp [Region.wanted, hg]
  rw [if_pos hw]
  obtain ⟨i0, hi, hz0, hz1, hz2⟩ := info_parts Try.info30
  obtain ⟨v', w', hrun, r1, r2, _⟩ := run_append_own (P := Try.prog) w B 22 o.type 30 i0 (.int .u64 0) 1 8 Try.underlying22 hi hz0 hz1 hz2 rfl (by decide) v k (vs F k) hgrow ⟨b, 0, none⟩ 1 1 [.int .u64 ((F k : Nat) : Int)] rfl (one_new hc)
    (by intro u hu; simp at hu; subst hu; rfl) (by unfold maxLen; omega) (by omega) hB
  unfold Oper.wp
  simp [execOp, hop, resolve, invoke, builtin, hs, hx, hrun, Result.andThen]
  refine hK v' w' ?_ (grown_below hgrow r2 hB)
  unfold Grow
  rw [vs_succ]
  exact r1

/-- The same in a region that keeps its order. -/
theorem wpList_append1 (w : World) {ops : Array Oper} {rest : List Oper} {o : Oper} {a : Act} {Q : Exit → Act → World → Prop}
    (hg : o.guard = none) (s x : Operand) (hop : o.op = Op.call { callee := Callee.builtin Builtin.append, args := #[s, x], argTypes := #[22, 22] })
    (B k : Nat) (v : Value) (F : Nat → Nat) (hs : a.eval s = v) (hgrow : Grow w B v k F) (b : Nat) (hx : a.eval x = .slice (some ⟨b, 0, none⟩) 1 1)
    (hc : w.cell? ⟨b, 0, none⟩ = some (.int .u64 ((F k : Nat) : Int))) (hk : k ≤ 65536) (hB : B ≤ w.heap.size)
    (hK : ∀ v' w', Grow w' B v' (k + 1) F → Below B w w' → wpList Try.prog ops Q rest (a.put o.dst v') w') :
    wpList Try.prog ops Q (o :: rest) a w := by
  obtain ⟨i0, hi, hz0, hz1, hz2⟩ := info_parts Try.info30
  refine wpList_append_own w hg s x 22 hop B 30 i0 (.int .u64 0) 1 8 Try.underlying22 hi hz0 hz1 hz2 rfl (by decide) v k (vs F k) hs hgrow ⟨b, 0, none⟩ 1 1 [.int .u64 ((F k : Nat) : Int)] hx rfl (one_new hc)
    (by intro u hu; simp at hu; subst hu; rfl) (by unfold maxLen; omega) (by omega) hB ?_
  intro v' w' r1 r2 _
  refine hK v' w' ?_ (grown_below hgrow r2 hB)
  unfold Grow
  rw [vs_succ]
  exact r1
end Go.Proofs.Yteoioldbigomaaa
