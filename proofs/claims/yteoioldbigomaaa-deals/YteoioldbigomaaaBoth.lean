import Derived.Test.YteoioldbigomaaaSame
import Derived.Laws.AppendOwnNone
namespace Go.Proofs.Yteoioldbigomaaa
open Go.RowKit

/-- What Deal answers: a group of t, n and the m1 commitments F1; the m2 shares F2; the error er. -/
def Dealt (t n er : Int) (m1 m2 : Nat) (F1 F2 : Nat → Nat) (e : Ending) (w' : World) : Prop :=
  ∃ a1 c1 a2 c2, e = .returned (.tuple #[.agg #[.int .i64 t, .int .i64 n, .slice a1 m1 c1], .slice a2 m2 c2, .int .i64 er]) ∧
    RdF w' a1 m1 (cu (M.sq F1 m1)) ∧ RdF w' a2 m2 (cu (M.sq F2 m2))

theorem dealt_err {er : Int} {e : Ending} {w' : World} (h : e = .returned (.tuple #[.agg #[.int .i64 0, .int .i64 0, .slice none 0 0], .slice none 0 0, .int .i64 er])) (F1 F2 : Nat → Nat) :
    Dealt 0 0 er 0 0 F1 F2 e w' := ⟨none, 0, none, 0, h, .inl rfl, .inl rfl⟩

theorem both (t n : Int) (len : Nat) (F : Nat → Nat) : ∃ t' n' er m1 m2 F1 F2, m1 ≤ 9 ∧ m2 ≤ 9 ∧
    (∀ a c w, RdF w a len (cu (M.sq F len)) → Calls Try.prog 9 #[.int .i64 t, .int .i64 n, .slice a len c] w fun e w' => Below w.heap.size w w' ∧ Dealt t' n' er m1 m2 F1 F2 e w') ∧
    (∀ a c w, RdF w a len (cu (M.sq F len)) → Calls Try.prog 10 #[.int .i64 t, .int .i64 n, .slice a len c] w fun e w' => Below w.heap.size w w' ∧ Dealt t' n' er m1 m2 F1 F2 e w') := by
  by_cases hf : Fits t n len
  · obtain ⟨h1, h2, h3, h4⟩ := id hf
    obtain ⟨N, rfl⟩ : ∃ N : Nat, n = N := ⟨n.toNat, by omega⟩
    subst h4
    by_cases hs : ∀ i, i < len → SC (F i)
    · by_cases h0 : F 0 = 0
      · refine ⟨0, 0, 2, 0, 0, F, F, by omega, by omega, fun a c w hr => ?_, fun a c w hr => ?_⟩
        · exact (deal_scalar2 _ _ a len c F w hf hr hs h0).mono fun e w' h => ⟨h.1, dealt_err h.2 _ _⟩
        · exact (rdeal_zero a len N c F w (by omega) (by omega) (by omega) hr h0).mono fun e w' h => ⟨h.1, dealt_err h.2 _ _⟩
      · refine ⟨len, N, 0, len, N, M.coms F, M.shs F len, by omega, by omega, fun a c w hr => ?_, fun a c w hr => ?_⟩
        · refine (deal_ok a len N c F w (by omega) (by omega) (by omega) hr hs h0).mono fun e w' h => ⟨h.1, ?_⟩
          obtain ⟨g1, g2, r1, r2, r3⟩ := h.2
          exact ⟨_, _, _, _, r1, r2, r3⟩
        · refine (rdeal_core a len N c F w (by omega) (by omega) (by omega) hr h0).mono fun e w' h => ⟨h.1, ?_⟩
          rcases h.2 with ⟨hn, _⟩ | ⟨_, a1, c1, a2, c2, r1, r2, r3⟩
          · exact absurd hs hn
          · exact ⟨_, _, _, _, r1, r2, r3⟩
    · refine ⟨0, 0, 2, 0, 0, F, F, by omega, by omega, fun a c w hr => ?_, fun a c w hr => ?_⟩
      · exact (deal_scalar1 _ _ a len c F w hf hr hs).mono fun e w' h => ⟨h.1, dealt_err h.2 _ _⟩
      · by_cases h0 : F 0 = 0
        · exact (rdeal_zero a len N c F w (by omega) (by omega) (by omega) hr h0).mono fun e w' h => ⟨h.1, dealt_err h.2 _ _⟩
        · refine (rdeal_core a len N c F w (by omega) (by omega) (by omega) hr h0).mono fun e w' h => ⟨h.1, ?_⟩
          rcases h.2 with ⟨_, he⟩ | ⟨hy, _⟩
          · exact dealt_err he _ _
          · exact absurd hy hs
  · refine ⟨0, 0, 1, 0, 0, F, F, by omega, by omega, fun a c w hr => ?_, fun a c w hr => ?_⟩
    · exact (deal_count _ _ a len c w hf).mono fun e w' h => ⟨h.1, dealt_err h.2 _ _⟩
    · exact (rdeal_count _ _ a len c w hf).mono fun e w' h => ⟨h.1, dealt_err h.2 _ _⟩

theorem addr_add (b off j : Nat) : (⟨b, off, none⟩ : Addr).add j = ⟨b, off + j, none⟩ := by
  unfold Addr.add
  split
  · subst_vars; rfl
  · rfl

/-- 'append([]uint64(nil), x...)', x whatever []uint64. -/
theorem wpList_append_nil (w : World) {ops : Array Oper} {rest : List Oper} {o : Oper} {a : Act} {Q : Exit → Act → World → Prop}
    (hg : o.guard = none) (s x : Operand) (hop : o.op = Op.call { callee := Callee.builtin Builtin.append, args := #[s, x], argTypes := #[22, 22] })
    (n c : Nat) (ad : Option Addr) (F : Nat → Nat) (hs : a.eval s = .slice none 0 0) (hx : a.eval x = .slice ad n c) (hz : ad = none → n = 0 ∧ c = 0) (hr : RdF w ad n (cu (M.sq F n))) (hn : n ≤ 65536)
    (hK : ∀ a' c' w', RdF w' a' n (cu (M.sq F n)) → Below w.heap.size w w' → wpList Try.prog ops Q rest (a.put o.dst (.slice a' n c')) w') :
    wpList Try.prog ops Q (o :: rest) a w := by
  obtain ⟨i0, hi, hz0, hz1, hz2⟩ := info_parts Try.info30
  cases ad with
  | none =>
    obtain ⟨rfl, rfl⟩ := hz rfl
    exact wpList_append_own_none hg s x 22 hop w.heap.size 30 i0 1 Try.underlying22 hi (.slice none 0 0) 0 [] hs (World.ownsRow_nil _ _ _ _) hx (hK none 0 w (.inl rfl) (Below.refl _ _))
  | some y =>
    refine wpList_append_own w hg s x 22 hop w.heap.size 30 i0 (.int .u64 0) 1 8 Try.underlying22 hi hz0 hz1 hz2 rfl (by decide) (.slice none 0 0) 0 [] hs (World.ownsRow_nil _ _ _ _) y n c (vs F n) hx (by simp [vs]) ?_
      (by intro u hu; simp only [vs, List.mem_map] at hu; obtain ⟨_, _, rfl⟩ := hu; rfl) (by unfold maxLen; omega) (by omega) (Nat.le_refl _) ?_
    · intro j u hj
      have hj' : j < n := by
        have := (List.getElem?_eq_some_iff.1 hj).1
        simpa [vs] using this
      obtain ⟨b, off, e, _, hc⟩ := hr.at (by omega)
      simp only [Option.some.injEq] at e
      subst e
      have h1 := hc j hj'
      rw [M.cu_sq _ _ _ hj'] at h1
      have h2 : u = .int .u64 ((F j : Nat) : Int) := by
        simp [vs, hj'] at hj; exact hj.symm
      rw [h2, addr_add]
      exact h1
    · intro v' w' r1 r2 _
      have G : Grow w' w.heap.size v' n F := by
        unfold Grow
        simpa using r1
      obtain ⟨a', c', rfl, rd, _⟩ := G.rd
      exact hK a' c' w' rd ((Below.refl _ _).grown r2 (Nat.le_refl _) (fun k hk => by simp [Value.ownBlock] at hk))
end Go.Proofs.Yteoioldbigomaaa
