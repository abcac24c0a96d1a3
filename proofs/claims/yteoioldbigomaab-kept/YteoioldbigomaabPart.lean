import Derived.Test.YteoioldbigomaabNpk
namespace Go.Proofs.Yteoioldbigomaab
open Go.RowKit

/-- The numbers that a factor's hash is of. -/
def M.bl (i key : Nat) (J D E : Nat → Nat) : Nat → List Nat
  | 0 => [i, key]
  | k + 1 => M.bl i key J D E k ++ [J k, D k, E k]
theorem M.bl_len (i key : Nat) (J D E : Nat → Nat) (k : Nat) : (M.bl i key J D E k).length = 2 + 3 * k := by
  induction k with
  | zero => rfl
  | succ k ih => rw [M.bl, List.length_append, ih]; simp; omega
/-- The factor of signer i. -/
def M.bind (i key : Nat) (J D E : Nat → Nat) (n : Nat) (s : ByteArray) : Nat := M.hash 1 (fun j => (M.bl i key J D E n).getD j 0) (2 + 3 * n) s
theorem M.bind_sc (i key : Nat) (J D E : Nat → Nat) (n : Nat) (s : ByteArray) : SC (M.bind i key J D E n s) := M.hash_sc _ _ _ _

/-- A []uint64 of the call's own that holds the list l. -/
def GrowU (w : World) (B : Nat) (v : Value) (l : List Nat) : Prop := w.ownsRow B 22 1 v l.length (l.map fun x => .int .u64 ((x : Nat) : Int))
theorem GrowU.below {w w' : World} {B : Nat} {v : Value} {l : List Nat} (h : GrowU w B v l) (hb : Below w.heap.size w w') : GrowU w' B v l := ownsRow_below h hb
theorem GrowU.rd {w : World} {B : Nat} {v : Value} {l : List Nat} (h : GrowU w B v l) : ∃ a cap, v = .slice a l.length cap ∧ RdF w a l.length (cu l) := by
  rcases h.2 with ⟨hv, hl⟩ | ⟨g, cap, cur, hv, hB, hg, hn, hm, hs, ht⟩
  · exact ⟨none, 0, by rw [hv, hl], .inl hl⟩
  · subst hv
    refine ⟨_, cap, rfl, .inr ⟨g, 0, rfl, lt_of_block hg, fun i hi => ?_⟩⟩
    rw [Nat.zero_add]
    have := World.ownsRow.cells h (g := g) rfl i (.int .u64 ((l[i] : Nat) : Int)) (by simp [hi])
    rw [addr_add0] at this
    rw [this]
    simp [cu, hi]
theorem cu_getD (l : List Nat) (n : Nat) (_h : n = l.length) : ∀ i, i < n → cu l i = cu (M.sq (fun j => l.getD j 0) n) i := fun i hi => by rw [M.cu_sq _ _ _ hi]; rfl

theorem wpList_appendU3 (w : World) {ops : Array Oper} {rest : List Oper} {o : Oper} {a : Act} {Q : Exit → Act → World → Prop}
    (hg : o.guard = none) (s x : Operand) (hop : o.op = Op.call { callee := Callee.builtin Builtin.append, args := #[s, x], argTypes := #[23, 23] })
    (B : Nat) (v : Value) (l : List Nat) (u0 u1 u2 : Nat) (hs : a.eval s = v) (hgrow : GrowU w B v l) (b : Nat) (hx : a.eval x = .slice (some ⟨b, 0, none⟩) 3 3)
    (h0 : w.cell? ⟨b, 0, none⟩ = some (.int .u64 (u0 : Int))) (h1 : w.cell? ⟨b, 1, none⟩ = some (.int .u64 (u1 : Int))) (h2 : w.cell? ⟨b, 2, none⟩ = some (.int .u64 (u2 : Int))) (hk : l.length ≤ 65536) (hB : B ≤ w.heap.size)
    (hK : ∀ v' w', GrowU w' B v' (l ++ [u0, u1, u2]) → Below B w w' → wpList Try.prog ops Q rest (a.put o.dst v') w') :
    wpList Try.prog ops Q (o :: rest) a w := by
  obtain ⟨i0, hi, hz0, hz1, hz2⟩ := info_parts Try.info22
  refine wpList_append_own w hg s x 23 hop B 22 i0 (.int .u64 0) 1 8 Try.underlying23 hi hz0 hz1 hz2 rfl (by decide) v l.length _ hs hgrow ⟨b, 0, none⟩ 3 3 [.int .u64 (u0 : Int), .int .u64 (u1 : Int), .int .u64 (u2 : Int)] hx rfl ?_ ?_
    (by unfold maxLen; omega) (by omega) hB ?_
  · intro j u hj
    match j, hj with
    | 0, hj => simp at hj; subst hj; rw [addr_add0]; exact h0
    | 1, hj => simp at hj; subst hj; rw [addr_add0]; exact h1
    | 2, hj => simp at hj; subst hj; rw [addr_add0]; exact h2
  · intro u hu
    simp at hu
    rcases hu with rfl | rfl | rfl <;> rfl
  · intro v' w' r1 r2 _
    refine hK v' w' ?_ ((Below.refl _ _).grown r2 hB fun j hj => (World.ownsRow.lt hgrow j hj).1)
    unfold GrowU
    rw [List.map_append, List.length_append]
    exact r1

/-- A world over W in which four cells stand. -/
def On4 (W : World) (a0 a1 a2 a3 : Addr) (x0 x1 x2 x3 : Value) (w' : World) : Prop := w'.cell? a0 = some x0 ∧ w'.cell? a1 = some x1 ∧ w'.cell? a2 = some x2 ∧ w'.cell? a3 = some x3 ∧ Below W.heap.size W w'
theorem On4.below {W : World} {a0 a1 a2 a3 : Addr} {x0 x1 x2 x3 : Value} {w w' : World} (h : On4 W a0 a1 a2 a3 x0 x1 x2 x3 w) (b : Below w.heap.size w w') : On4 W a0 a1 a2 a3 x0 x1 x2 x3 w' :=
  ⟨keep_cell h.1 b, keep_cell h.2.1 b, keep_cell h.2.2.1 b, keep_cell h.2.2.2.1 b, h.2.2.2.2.trans (b.mono h.2.2.2.2.size)⟩
theorem On4.allocd {W : World} {a0 a1 a2 a3 : Addr} {x0 x1 x2 x3 : Value} {w : World} {o : Obj} (h : On4 W a0 a1 a2 a3 x0 x1 x2 x3 w.drew) : On4 W a0 a1 a2 a3 x0 x1 x2 x3 (w.alloc o).drew :=
  h.below (w' := (w.alloc o).drew) ⟨rfl, rfl, rfl, (below_alloc w o).size, (below_alloc w o).block⟩

end Go.Proofs.Yteoioldbigomaab
namespace Go.Proofs.Yteoioldbigomaab
open Go.RowKit

/-- The k-th part; the commitment of all. -/
def M.prt (J D E f : Nat → Nat) (n : Nat) (s : ByteArray) (k : Nat) : Nat := D k * M.pw 2147483579 (E k) (M.bind (J k) (f 0) J D E n s) % 2147483579
def M.allR (J D E f : Nat → Nat) (n : Nat) (s : ByteArray) : Nat := M.prodP (M.sq (M.prt J D E f n s) n)
theorem M.prt_el (J D E f : Nat → Nat) (n : Nat) (s : ByteArray) (k : Nat) : EL (M.prt J D E f n s k) := EL.mod _

end Go.Proofs.Yteoioldbigomaab
