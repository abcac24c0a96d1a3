import Derived.Test.YteoioldbigomaabRsi
namespace Go.Proofs.Yteoioldbigomaab
open Go.RowKit

/-- Which of n things the number c speaks of. -/
def M.pick (c : Int) (n : Nat) : Nat := ((if c < 0 then -(c + 1) else c) % (n : Int)).toNat
theorem M.pick_lt (c : Int) (n : Nat) (h : 0 < n) : M.pick c n < n := by
  unfold M.pick
  have := Int.emod_lt_of_pos (if c < 0 then -(c + 1) else c) (show (0 : Int) < n by omega)
  have := Int.emod_nonneg (if c < 0 then -(c + 1) else c) (show (n : Int) ≠ 0 by omega)
  omega

theorem cl_get {I : Nat → Int} {D E : Nat → Nat} : ∀ {n j : Nat} {u : Value}, (cl I D E n)[j]? = some u → ∃ i r, i < n ∧ r < 3 ∧ j = i * 3 + r ∧ u = (if r = 0 then .int .i64 (I i) else if r = 1 then .int .u64 (D i : Nat) else .int .u64 (E i : Nat)) := by
  intro n
  induction n with
  | zero => intro j u h; simp [cl] at h
  | succ n ih =>
    intro j u h
    have hl := cl_len I D E n
    rw [cl] at h
    by_cases hj : j < n * 3
    · rw [List.getElem?_append_left (by omega)] at h
      obtain ⟨i, r, h1, h2⟩ := ih h
      exact ⟨i, r, by omega, h2⟩
    · rw [List.getElem?_append_right (by omega), hl] at h
      have hj3 : j - n * 3 < 3 := by
        have := (List.getElem?_eq_some_iff.1 h).1
        simpa using this
      refine ⟨n, j - n * 3, by omega, hj3, by omega, ?_⟩
      obtain ⟨r, hr⟩ : ∃ r, r = j - n * 3 := ⟨_, rfl⟩
      rw [← hr] at h hj3 ⊢
      match r, hj3 with
      | 0, _ => simp at h; simp [← h]
      | 1, _ => simp at h; simp [← h]
      | 2, _ => simp at h; simp [← h]
theorem cl_one {I : Nat → Int} {D E : Nat → Nat} {n : Nat} : ∀ u ∈ cl I D E n, u.oneCell' = true := by
  intro u hu
  obtain ⟨j, hj⟩ := List.getElem?_of_mem hu
  obtain ⟨i, r, _, hr, _, rfl⟩ := cl_get hj
  match r, hr with
  | 0, _ => rfl
  | 1, _ => rfl
  | 2, _ => rfl

/-- 'append([]api.Commit(nil), x...)', x whatever list of commitments. -/
theorem wpList_append_copyC (w : World) {ops : Array Oper} {rest : List Oper} {o : Oper} {a : Act} {Q : Exit → Act → World → Prop}
    (hg : o.guard = none) (s x : Operand) (hop : o.op = Op.call { callee := Callee.builtin Builtin.append, args := #[s, x], argTypes := #[43, 43] })
    (n c : Nat) (ad : Option Addr) (I : Nat → Int) (D E : Nat → Nat) (hs : a.eval s = .slice none 0 0) (hx : a.eval x = .slice ad n c) (hz : ad = none → n = 0 ∧ c = 0) (hr : RdC w ad n I D E) (hn : n ≤ 65536)
    (hK : ∀ v' w', GrowC w' w.heap.size v' n I D E → Below w.heap.size w w' → wpList Try.prog ops Q rest (a.put o.dst v') w') :
    wpList Try.prog ops Q (o :: rest) a w := by
  obtain ⟨i0, hi, hz0, hz1, hz2⟩ := info_parts Try.info40
  cases ad with
  | none =>
    obtain ⟨rfl, rfl⟩ := hz rfl
    exact wpList_append_own_none hg s x 43 hop w.heap.size 40 i0 3 Try.underlying43 hi (.slice none 0 0) 0 [] hs (World.ownsRow_nil _ _ _ _) hx (hK _ w (World.ownsRow_nil _ _ _ _) (Below.refl _ _))
  | some y =>
    refine wpList_append_own w hg s x 43 hop w.heap.size 40 i0 (.agg #[.int .i64 0, .int .u64 0, .int .u64 0]) 3 24 Try.underlying43 hi hz0 hz1 hz2 rfl (by decide) (.slice none 0 0) 0 [] hs (World.ownsRow_nil _ _ _ _) y n c (cl I D E n) hx (cl_len I D E n) ?_
      cl_one (by unfold maxLen; omega) (by omega) (Nat.le_refl _) ?_
    · intro j u hj
      obtain ⟨i, r, hin, hr3, rfl, rfl⟩ := cl_get hj
      obtain ⟨b, off, e, _, hc⟩ := hr.at (by omega)
      simp only [Option.some.injEq] at e
      subst e
      obtain ⟨c0, c1, c2⟩ := hc i hin
      rw [addr_add]
      match r, hr3 with
      | 0, _ => exact c0
      | 1, _ => rw [← Nat.add_assoc]; exact c1
      | 2, _ => rw [← Nat.add_assoc]; exact c2
    · intro v' w' r1 r2 _
      refine hK v' w' ?_ ((Below.refl _ _).grown r2 (Nat.le_refl _) (fun k hk => by simp [Value.ownBlock] at hk))
      unfold GrowC
      simpa using r1

/-- One of the commitments is another. -/
def upd {α : Type} (f : Nat → α) (i : Nat) (x : α) : Nat → α := fun j => if j = i then x else f j
theorem cl_set (I : Nat → Int) (D E : Nat → Nat) (n i : Nat) (x : Int) (d e : Nat) (h : i < n) :
    (((cl I D E n).set (i * 3) (.int .i64 x)).set (i * 3 + 1) (.int .u64 (d : Nat))).set (i * 3 + 2) (.int .u64 (e : Nat)) = cl (upd I i x) (upd D i d) (upd E i e) n := by
  apply List.ext_getElem?
  intro j
  have hl := cl_len I D E n
  have hl' := cl_len (upd I i x) (upd D i d) (upd E i e) n
  by_cases hj : j < n * 3
  · obtain ⟨c0, c1, c2⟩ := cl_at I D E n (j / 3) (by omega)
    obtain ⟨d0, d1, d2⟩ := cl_at (upd I i x) (upd D i d) (upd E i e) n (j / 3) (by omega)
    have hcase : j = j / 3 * 3 ∨ j = j / 3 * 3 + 1 ∨ j = j / 3 * 3 + 2 := by omega
    obtain ⟨k, hk⟩ : ∃ k, k = j / 3 := ⟨_, rfl⟩
    rw [← hk] at c0 c1 c2 d0 d1 d2 hcase
    clear hk
    by_cases hki : k = i
    · subst hki
      simp only [upd, if_true] at d0 d1 d2
      rcases hcase with rfl | rfl | rfl
      · rw [d0, List.getElem?_set_ne (by omega), List.getElem?_set_ne (by omega), List.getElem?_set_self (by omega)]
      · rw [d1, List.getElem?_set_ne (by omega), List.getElem?_set_self (by simp; omega)]
      · rw [d2, List.getElem?_set_self (by simp; omega)]
    · simp only [upd, if_neg hki] at d0 d1 d2
      rcases hcase with rfl | rfl | rfl
      · rw [d0, List.getElem?_set_ne (by omega), List.getElem?_set_ne (by omega), List.getElem?_set_ne (by omega), c0]
      · rw [d1, List.getElem?_set_ne (by omega), List.getElem?_set_ne (by omega), List.getElem?_set_ne (by omega), c1]
      · rw [d2, List.getElem?_set_ne (by omega), List.getElem?_set_ne (by omega), List.getElem?_set_ne (by omega), c2]
  · rw [List.getElem?_eq_none (by simp; omega), List.getElem?_eq_none (by omega)]
theorem GrowC.store {w : World} {B g n cap : Nat} {I : Nat → Int} {D E : Nat → Nat} (h : GrowC w B (.slice (some ⟨g, 0, none⟩) n cap) n I D E) {i : Nat} (hi : i < n) (x : Int) (d e : Nat) :
    GrowC (((w.setCell ⟨g, i * 3, none⟩ (.int .i64 x)).setCell ⟨g, i * 3 + 1, none⟩ (.int .u64 (d : Nat))).setCell ⟨g, i * 3 + 2, none⟩ (.int .u64 (e : Nat))) B (.slice (some ⟨g, 0, none⟩) n cap) n (upd I i x) (upd D i d) (upd E i e) := by
  unfold GrowC
  rw [← cl_set _ _ _ _ _ _ _ _ hi]
  exact (((World.ownsRow.stored h _ _).1.stored _ _).1.stored _ _).1
end Go.Proofs.Yteoioldbigomaab
