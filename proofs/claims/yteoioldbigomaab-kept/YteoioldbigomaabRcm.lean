import Derived.Test.YteoioldbigomaabChg
import Derived.Test.YteoioldbigomaabPart
import Derived.Test.YteoioldbigomaabRchk
import Derived.Test.YteoioldbigomaabDeal
namespace Go.Proofs.Yteoioldbigomaab
open Go.RowKit

/-- 'append([]uint64(nil), x...)', x not empty: a new block. -/
theorem wpList_append_copy (w : World) {ops : Array Oper} {rest : List Oper} {o : Oper} {a : Act} {Q : Exit → Act → World → Prop}
    (hg : o.guard = none) (s x : Operand) (hop : o.op = Op.call { callee := Callee.builtin Builtin.append, args := #[s, x], argTypes := #[23, 23] })
    (n c : Nat) (ad : Option Addr) (F : Nat → Nat) (hs : a.eval s = .slice none 0 0) (hx : a.eval x = .slice ad n c) (hr : RdF w ad n (cu (M.sq F n))) (hp : 0 < n) (hn : n ≤ 65536)
    (hK : ∀ g c' w', w.heap.size ≤ g → RdF w' (some ⟨g, 0, none⟩) n (cu (M.sq F n)) → Below w.heap.size w w' → wpList Try.prog ops Q rest (a.put o.dst (.slice (some ⟨g, 0, none⟩) n c')) w') :
    wpList Try.prog ops Q (o :: rest) a w := by
  obtain ⟨i0, hi, hz0, hz1, hz2⟩ := info_parts Try.info22
  obtain ⟨b, off, rfl, _, hc⟩ := hr.at hp
  refine wpList_append_own w hg s x 23 hop w.heap.size 22 i0 (.int .u64 0) 1 8 Try.underlying23 hi hz0 hz1 hz2 rfl (by decide) (.slice none 0 0) 0 [] hs (World.ownsRow_nil _ _ _ _) ⟨b, off, none⟩ n c (vs F n) hx (by simp [vs]) ?_
    (by intro u hu; simp only [vs, List.mem_map] at hu; obtain ⟨_, _, rfl⟩ := hu; rfl) (by unfold maxLen; omega) (by omega) (Nat.le_refl _) ?_
  · intro j u hj
    have hj' : j < n := by
      have := (List.getElem?_eq_some_iff.1 hj).1
      simpa [vs] using this
    have h1 := hc j hj'
    rw [M.cu_sq _ _ _ hj'] at h1
    have h2 : u = .int .u64 ((F j : Nat) : Int) := by
      simp [vs, hj'] at hj; exact hj.symm
    rw [h2, addr_add]
    exact h1
  · intro v' w' r1 r2 _
    have G : Grow w' w.heap.size v' n F := by
      unfold Grow
      simpa using r1
    have bel : Below w.heap.size w w' := (Below.refl _ _).grown r2 (Nat.le_refl _) (fun k hk => by simp [Value.ownBlock] at hk)
    have G2 := G.2
    rcases G2 with ⟨_, h0⟩ | ⟨g, cap, cur, rfl, hB, _⟩
    · omega
    · obtain ⟨a', c', he, rd, _⟩ := G.rd
      simp only [Value.slice.injEq] at he
      obtain ⟨rfl, _, rfl⟩ := he
      exact hK g cap w' hB rd bel



end Go.Proofs.Yteoioldbigomaab
namespace Go.Proofs.Yteoioldbigomaab
open Go.RowKit

/-- What is wrong with a group, a signer's number and a share (0: nothing). -/
def M.NsE (t n : Int) (len : Nat) (f : Nat → Nat) (id : Int) (sh er : Nat) : Prop :=
  (¬ RightG t n len f ∧ er = 4) ∨ (RightG t n len f ∧ ¬ (1 ≤ id ∧ id ≤ n) ∧ er = 5) ∨ (RightG t n len f ∧ (1 ≤ id ∧ id ≤ n) ∧ ¬ SC sh ∧ er = 2) ∨
  (RightG t n len f ∧ (1 ≤ id ∧ id ≤ n) ∧ SC sh ∧ M.pw 2147483579 4 sh ≠ M.pub f len id.toNat ∧ er = 8) ∨
  (RightG t n len f ∧ (1 ≤ id ∧ id ≤ n) ∧ SC sh ∧ M.pw 2147483579 4 sh = M.pub f len id.toNat ∧ er = 0)
theorem M.NsE.one {t n : Int} {len : Nat} {f : Nat → Nat} {id : Int} {sh e1 e2 : Nat} (h : M.NsE t n len f id sh e1) (h' : M.NsE t n len f id sh e2) : e1 = e2 := by
  rcases h with ⟨a, z⟩ | ⟨a, b, z⟩ | ⟨a, b, c, z⟩ | ⟨a, b, c, d, z⟩ | ⟨a, b, c, d, z⟩ <;> rcases h' with ⟨a', z'⟩ | ⟨a', b', z'⟩ | ⟨a', b', c', z'⟩ | ⟨a', b', c', d', z'⟩ | ⟨a', b', c', d', z'⟩ <;>
    first | (rw [z, z']; done) | exact absurd a a' | exact absurd a' a | exact absurd b b' | exact absurd b' b | exact absurd c c' | exact absurd c' c | exact absurd d d' | exact absurd d' d

end Go.Proofs.Yteoioldbigomaab
namespace Go.Proofs.Yteoioldbigomaab
open Go.RowKit

/-- What is wrong with a pair of nonces (0: nothing). -/
def M.CmE (l : List (Nat × Nat)) (d e er : Nat) : Prop :=
  (¬ (d ≠ 0 ∧ e ≠ 0 ∧ SC d ∧ SC e) ∧ er = 2) ∨ ((d ≠ 0 ∧ e ≠ 0 ∧ SC d ∧ SC e) ∧ (d, e) ∈ l ∧ er = 15) ∨ ((d ≠ 0 ∧ e ≠ 0 ∧ SC d ∧ SC e) ∧ (d, e) ∉ l ∧ l.length = 6 ∧ er = 9) ∨
  ((d ≠ 0 ∧ e ≠ 0 ∧ SC d ∧ SC e) ∧ (d, e) ∉ l ∧ l.length ≠ 6 ∧ er = 0)
theorem M.CmE.one {l : List (Nat × Nat)} {d e e1 e2 : Nat} (h : M.CmE l d e e1) (h' : M.CmE l d e e2) : e1 = e2 := by
  rcases h with ⟨a, z⟩ | ⟨a, b, z⟩ | ⟨a, b, c, z⟩ | ⟨a, b, c, z⟩ <;> rcases h' with ⟨a', z'⟩ | ⟨a', b', z'⟩ | ⟨a', b', c', z'⟩ | ⟨a', b', c', z'⟩ <;>
    first | (rw [z, z']; done) | exact absurd a a' | exact absurd a' a | exact absurd b b' | exact absurd b' b | exact absurd c c' | exact absurd c' c

end Go.Proofs.Yteoioldbigomaab
