import Derived.Test.YteoioldbigomaabUnp
import Derived.Deep.RegionLaw
namespace Go.Proofs.Yteoioldbigomaab
open Go.RowKit

/-- The number ahead; what is wrong with the k-th number. -/
def M.ahd (I : Nat → Int) : Nat → Int
  | 0 => 0
  | k + 1 => I k
def M.Tn (I : Nat → Int) (N k : Nat) : Nat := M.turn (I k) (M.ahd I k) N
/-- What is wrong with n commitments that are looked at for a group of threshold T with N signers (0: nothing). -/
def M.Look (T N n : Nat) (I : Nat → Int) (D E : Nat → Nat) (er : Nat) : Prop :=
  (¬ (T ≤ n ∧ n ≤ N) ∧ er = 7) ∨
  ((T ≤ n ∧ n ≤ N) ∧ ∃ k, k < n ∧ (∀ j, j < k → M.Tn I N j = 0) ∧ M.Tn I N k ≠ 0 ∧ er = M.Tn I N k) ∨
  ((T ≤ n ∧ n ≤ N) ∧ (∀ j, j < n → M.Tn I N j = 0) ∧ (¬ ∀ j, j < n → PRO (D j) ∧ PRO (E j)) ∧ er = 3) ∨
  ((T ≤ n ∧ n ≤ N) ∧ (∀ j, j < n → M.Tn I N j = 0) ∧ (∀ j, j < n → PRO (D j) ∧ PRO (E j)) ∧ er = 0)

theorem M.Look.one {T N n : Nat} {I : Nat → Int} {D E : Nat → Nat} {e1 e2 : Nat} (h : M.Look T N n I D E e1) (h' : M.Look T N n I D E e2) : e1 = e2 := by
  rcases h with ⟨a, b⟩ | ⟨a, k, hk, b, c, d⟩ | ⟨a, b, c, d⟩ | ⟨a, b, c, d⟩ <;> rcases h' with ⟨a', b'⟩ | ⟨a', k', hk', b', c', d'⟩ | ⟨a', b', c', d'⟩ | ⟨a', b', c', d'⟩
  · rw [b, b']
  · exact absurd a' a
  · exact absurd a' a
  · exact absurd a' a
  · exact absurd a a'
  · rcases Nat.lt_trichotomy k k' with h | h | h
    · exact absurd (b' k h) c
    · subst h; rw [d, d']
    · exact absurd (b k' h) c'
  · exact absurd (b' k hk) c
  · exact absurd (b' k hk) c
  · exact absurd a a'
  · exact absurd (b k' hk') c'
  · rw [d, d']
  · exact absurd c' c
  · exact absurd a a'
  · exact absurd (b k' hk') c'
  · exact absurd c c'
  · rw [d, d']

theorem M.Look.ne {T N n : Nat} {I : Nat → Int} {D E : Nat → Nat} {k : Nat} (a : T ≤ n ∧ n ≤ N) (hk : k < n) (b : ∀ j, j < k → M.Tn I N j = 0) (c : M.Tn I N k ≠ 0) : M.Look T N n I D E (M.Tn I N k) := .inr (.inl ⟨a, k, hk, b, c, rfl⟩)

/-- I 0 .. I (k - 1) as cells of a []int. -/
def vi (I : Nat → Int) (k : Nat) : List Value := (List.range k).map fun i => .int .i64 (I i)
theorem vi_succ (I : Nat → Int) (k : Nat) : vi I (k + 1) = vi I k ++ [.int .i64 (I k)] := by simp [vi, List.range_succ]
/-- A []int of the call's own that has grown to these. -/
def GrowI (w : World) (B : Nat) (v : Value) (k : Nat) (I : Nat → Int) : Prop := w.ownsRow B 3 1 v k (vi I k)
theorem GrowI.nil (w : World) (B : Nat) (I : Nat → Int) : GrowI w B (.slice none 0 0) 0 I := World.ownsRow_nil _ _ _ _
theorem GrowI.below {w w' : World} {B k : Nat} {v : Value} {I : Nat → Int} (h : GrowI w B v k I) (hb : Below w.heap.size w w') : GrowI w' B v k I := ownsRow_below h hb
theorem GrowI.rd {w : World} {B k : Nat} {v : Value} {I : Nat → Int} (h : GrowI w B v k I) : ∃ a cap, v = .slice a k cap ∧ RdF w a k (fun i => .int .i64 (I i)) := by
  rcases h.2 with ⟨hv, hl⟩ | ⟨g, cap, cur, hv, hB, hg, hn, hm, hs, ht⟩
  · exact ⟨none, 0, by rw [hv, hl], .inl hl⟩
  · subst hv
    refine ⟨_, cap, rfl, .inr ⟨g, 0, rfl, lt_of_block hg, fun i hi => ?_⟩⟩
    rw [Nat.zero_add]
    have := World.ownsRow.cells h (g := g) rfl i (.int .i64 (I i)) (by simp [vi, hi])
    rw [addr_add0] at this
    exact this

theorem Try.info3 : (Try.prog.info? 3).map (fun i => (i.zero, i.size, i.bytes)) = some (some (.int .i64 0), 1, 8) := by kernel_rfl

/-- 'x = append(x, u)', x a []int of the call's own, as a step of a region that draws. -/
theorem step_appendI {ops : Array Oper} {o : Oper} {a : Act} {w : World} {K : Act → World → Prop} {Q : Exit → Act → World → Prop} {E : Prop}
    (hg : o.guard = none) (s x : Operand) (hop : o.op = Op.call { callee := Callee.builtin Builtin.append, args := #[s, x], argTypes := #[26, 26] })
    (B k : Nat) (v : Value) (I : Nat → Int) (hs : a.eval s = v) (hgrow : GrowI w B v k I) (b : Nat) (hx : a.eval x = .slice (some ⟨b, 0, none⟩) 1 1)
    (hc : w.cell? ⟨b, 0, none⟩ = some (.int .i64 (I k))) (hk : k ≤ 65536) (hB : B ≤ w.heap.size)
    (hK : ∀ v' w', GrowI w' B v' (k + 1) I → Below B w w' → K (a.put o.dst v') w') :
    if Region.wanted o (yielded ops a.tmps) = true then Oper.wp Try.prog o a w K Q else E := by
  have hw : Region.wanted o (yielded ops a.tmps) = true := by simp [Region.wanted, hg]
  rw [if_pos hw]
  obtain ⟨i0, hi, hz0, hz1, hz2⟩ := info_parts Try.info3
  obtain ⟨v', w', hrun, r1, r2, _⟩ := run_append_own (P := Try.prog) w B 26 o.type 3 i0 (.int .i64 0) 1 8 Try.underlying26 hi hz0 hz1 hz2 rfl (by decide) v k (vi I k) hgrow ⟨b, 0, none⟩ 1 1 [.int .i64 (I k)] rfl (one_new hc)
    (by intro u hu; simp at hu; subst hu; rfl) (by unfold maxLen; omega) (by omega) hB
  unfold Oper.wp
  simp [execOp, hop, resolve, invoke, builtin, hs, hx, hrun, Result.andThen]
  refine hK v' w' ?_ ((Below.refl _ _).grown r2 hB fun j hj => (World.ownsRow.lt hgrow j hj).1)
  unfold GrowI
  rw [vi_succ]
  exact r1

end Go.Proofs.Yteoioldbigomaab
namespace Go.Proofs.Yteoioldbigomaab
open Go.RowKit

theorem GrowI.low {w : World} {B B' k : Nat} {v : Value} {I : Nat → Int} (h : GrowI w B v k I) (hb : B' ≤ B) : GrowI w B' v k I := by
  refine ⟨h.1, ?_⟩
  rcases h.2 with h2 | ⟨g, cap, cur, h1, h2, h3⟩
  · exact .inl h2
  · exact .inr ⟨g, cap, cur, h1, Nat.le_trans hb h2, h3⟩

end Go.Proofs.Yteoioldbigomaab
