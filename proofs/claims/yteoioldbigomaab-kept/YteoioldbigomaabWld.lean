import Derived.Test.YteoioldbigomaabRsi
import Derived.Test.YteoioldbigomaabNum
namespace Go.Proofs.Yteoioldbigomaab
open Go.RowKit

theorem four_one {a b : Nat} (ha : SC a) (hb : SC b) (h : M.pw 2147483579 4 a = M.pw 2147483579 4 b) : a = b := by
  rcases Nat.lt_trichotomy a b with hl | hl | hl
  · exact absurd h (M.four_inj a b hb.out hl)
  · exact hl
  · exact absurd h.symm (M.four_inj b a ha.out hl)

theorem look_rise {T N n : Nat} {I : Nat → Int} {D E : Nat → Nat} (h : M.Look T N n I D E 0) : ∀ i j, i < j → j < n → I i < I j := by
  have hb : ∀ j, j < n → M.Tn I N j = 0 := by
    rcases h with ⟨_, h⟩ | ⟨_, k, _, _, h, h'⟩ | ⟨_, _, _, h⟩ | ⟨a, b, c, _⟩
    · omega
    · omega
    · omega
    · exact b
  have step : ∀ j, j + 1 < n → I j < I (j + 1) := by
    intro j hj
    have := hb (j + 1) hj
    unfold M.Tn M.turn at this
    by_cases h1 : I (j + 1) < 1 ∨ (N : Int) < I (j + 1)
    · rw [if_pos h1] at this; omega
    · rw [if_neg h1] at this
      by_cases h2 : I (j + 1) ≤ M.ahd I (j + 1)
      · rw [if_pos h2] at this; omega
      · have : M.ahd I (j + 1) = I j := rfl
        omega
  intro i j hij hj
  induction j with
  | zero => omega
  | succ j ih =>
    rcases Nat.lt_or_eq_of_le (Nat.le_of_lt_succ hij) with hl | rfl
    · have := ih hl (by omega)
      have := step j hj
      omega
    · exact step _ hj

/-- At most one commitment is to at most one of the pairs. -/
theorem hit_one {T N n id : Nat} {l : List (Nat × Nat)} {I : Nat → Int} {D E : Nat → Nat} (hlook : M.Look T N n I D E 0) (hnd : l.Nodup) (hsc : ∀ x ∈ l, SC x.1 ∧ SC x.2) {k i k' i' : Nat} (hk : k < n) (hk' : k' < n)
    (h : M.Hit id l I D E k i) (h' : M.Hit id l I D E k' i') : k = k' ∧ i = i' := by
  obtain ⟨hi, a1, a2, a3⟩ := h
  obtain ⟨hi', b1, b2, b3⟩ := h'
  have hkk : k = k' := by
    rcases Nat.lt_trichotomy k k' with hl | hl | hl
    · have := look_rise hlook k k' hl hk'; omega
    · exact hl
    · have := look_rise hlook k' k hl hk; omega
  subst hkk
  refine ⟨rfl, ?_⟩
  have s := hsc _ (List.getElem_mem hi)
  have s' := hsc _ (List.getElem_mem hi')
  have e1 := four_one s.1 s'.1 (a2.symm.trans b2)
  have e2 := four_one s.2 s'.2 (a3.symm.trans b3)
  have e : l[i] = l[i'] := Prod.ext e1 e2
  rcases Nat.lt_trichotomy i i' with hl | hl | hl
  · exact absurd e (List.pairwise_iff_getElem.1 hnd i i' hi hi' hl)
  · exact hl
  · exact absurd e.symm (List.pairwise_iff_getElem.1 hnd i' i hi' hi hl)

theorem nodup_cut {l : List (Nat × Nat)} (h : l.Nodup) (i : Nat) : (l.take i ++ l.drop (i + 1)).Nodup := by
  rw [← List.eraseIdx_eq_take_drop_succ]
  exact h.sublist (List.eraseIdx_sublist l i)
theorem mem_cut {l : List (Nat × Nat)} {i : Nat} {x : Nat × Nat} (h : x ∈ l.take i ++ l.drop (i + 1)) : x ∈ l := by
  rcases List.mem_append.1 h with h | h
  · exact List.mem_of_mem_take h
  · exact List.mem_of_mem_drop h
end Go.Proofs.Yteoioldbigomaab

namespace Go.Proofs.Yteoioldbigomaab
open Go.RowKit

/-- A signer: its group, its number, its share. -/
structure Sg where
  T : Nat
  N : Nat
  id : Nat
  sh : Nat
  f : Nat → Nat
instance : Inhabited Sg := ⟨⟨0, 0, 0, 0, fun _ => 0⟩⟩
structure Sg.Ok (g : Sg) : Prop where
  right : RightG g.T g.N g.T g.f
  i1 : 1 ≤ g.id
  iN : g.id ≤ g.N
  sc : SC g.sh
theorem Sg.Ok.n9 {g : Sg} (h : g.Ok) : g.N ≤ 9 := by obtain ⟨h1, h2, h3, h4⟩ := h.right.fit; omega
theorem Sg.Ok.t2 {g : Sg} (h : g.Ok) : 2 ≤ g.T := by obtain ⟨h1, h2, h3, h4⟩ := h.right.fit; omega
/-- Pairs of nonces that are kept. -/
structure Ls (l : List (Nat × Nat)) : Prop where
  six : l.length ≤ 6
  nd : l.Nodup
  sc : ∀ x ∈ l, SC x.1 ∧ SC x.2
theorem Ls.nil : Ls [] := ⟨by simp, by simp, by simp⟩
theorem Ls.cut {l : List (Nat × Nat)} (h : Ls l) (i : Nat) : Ls (l.take i ++ l.drop (i + 1)) := by
  refine ⟨?_, nodup_cut h.nd i, fun x hx => h.sc x (mem_cut hx)⟩
  rw [← List.eraseIdx_eq_take_drop_succ]
  exact Nat.le_trans (List.length_eraseIdx_le l i) h.six
theorem Ls.add {l : List (Nat × Nat)} (h : Ls l) {d e : Nat} (hc : M.CmE l d e 0) : Ls (l ++ [(d, e)]) := by
  rcases hc with ⟨_, h0⟩ | ⟨_, _, h0⟩ | ⟨_, _, _, h0⟩ | ⟨⟨_, _, hd, he⟩, hm, hl, _⟩
  · omega
  · omega
  · omega
  · have := h.six
    refine ⟨by rw [List.length_append]; simp; omega, ?_, ?_⟩
    · rw [List.nodup_append]
      refine ⟨h.nd, by simp, ?_⟩
      intro a ha b hb
      simp at hb
      subst hb
      exact fun e => hm (e ▸ ha)
    · intro x hx
      rcases List.mem_append.1 hx with hx | hx
      · exact h.sc x hx
      · simp at hx; subst hx; exact ⟨hd, he⟩

/-- The program's signers: how they lie in memory. -/
structure Side where
  PS : World → Nat → (Nat → Prop) → Sg → List (Nat × Nat) → Prop
  lt : ∀ {w x F g l}, PS w x F g l → ∀ b, F b → b < w.heap.size
  chg : ∀ {P : Nat → Prop} {w w' x F g l}, PS w x F g l → Chg P w w' → (∀ b, F b → ¬ P b) → PS w' x F g l

theorem GrowC.chg {P : Nat → Prop} {w w' : World} {B k : Nat} {v : Value} {I : Nat → Int} {D E : Nat → Nat} (h : GrowC w B v k I D E) (hc : Chg P w w') (hv : ∀ b, v.ownBlock = some b → ¬ P b) : GrowC w' B v k I D E := by
  refine ⟨h.1, ?_⟩
  rcases h.2 with h2 | ⟨g, cap, cur, h1, h2, h3, h4⟩
  · exact .inl h2
  · exact .inr ⟨g, cap, cur, h1, h2, (hc.block g (lt_of_block h3) (hv g (by rw [h1]; rfl))).trans h3, h4⟩
theorem row_chg {P : Nat → Prop} {w w' : World} {B e k n : Nat} {v : Value} {xs : List Value} (h : w.ownsRow B e k v n xs) (hc : Chg P w w') (hv : ∀ b, v.ownBlock = some b → ¬ P b) : w'.ownsRow B e k v n xs := by
  refine ⟨h.1, ?_⟩
  rcases h.2 with h2 | ⟨g, cap, cur, h1, h2, h3, h4⟩
  · exact .inl h2
  · exact .inr ⟨g, cap, cur, h1, h2, (hc.block g (lt_of_block h3) (hv g (by rw [h1]; rfl))).trans h3, h4⟩

end Go.Proofs.Yteoioldbigomaab
namespace Go.Proofs.Yteoioldbigomaab
open Go.RowKit

end Go.Proofs.Yteoioldbigomaab
