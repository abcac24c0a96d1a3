import Derived.Test.YteoioldbigomaabBase
import Derived.Test.YteoioldbigomaabNum
import Derived.Maps.OwnSet
import Derived.DeepKeys4
namespace Go.Proofs.Yteoioldbigomaab
open Go.RowKit
open Go.Maps (Keyed)

theorem Try.laidOut : laidOutB Try.prog = true := by kernel_rfl
theorem Try.row48 : (40 : TypeId) < Try.prog.types.size := of_decide_eq_true (by kernel_rfl)
theorem Try.kt48 : Try.prog.keyTypeAt 3 40 = true := by kernel_rfl
theorem Try.keyed48 : Keyed Try.prog 40 := Keyed.of_law (deep_law_laid Try.laidOut (m := 3) (by omega) Try.row48 Try.kt48 (by rw [Try.underlying40]))
theorem Try.keyType48 : Try.prog.keyType 40 = true := by kernel_rfl
theorem Try.cells48 : Try.prog.cellsOf 40 = 3 := by kernel_rfl
theorem Try.cells3 : Try.prog.cellsOf 3 = 1 := by kernel_rfl
theorem Try.cells28 : Try.prog.cellsOf 22 = 1 := by kernel_rfl
theorem Try.zero82 (w : World) : (zeroValue 78).run Try.prog w = .ok (.agg #[.int .u64 0, .int .u64 0]) w := by kernel_rfl
theorem two_of {n : Nat} (h : 40 < n) : ∃ m, n = m + 2 := ⟨n - 2, by omega⟩
theorem Try.nts : ∃ m, Try.prog.types.size = m + 2 := two_of Try.row48

/-- A commitment as a map's key. -/
abbrev ckey (i : Int) (d e : Nat) : Value := .agg #[.int .i64 i, .int .u64 d, .int .u64 e]
/-- Numbers that fit. -/
structure Fit3 (i : Int) (d e : Nat) : Prop where
  i : (Lit.int .i64 i).wf = true
  d : (Lit.int .u64 d).wf = true
  e : (Lit.int .u64 e).wf = true
theorem wf_u64 {n : Nat} (h : n < 18446744073709551616) : (Lit.int .u64 (n : Int)).wf = true := by
  simp [Lit.wf, IntKind.min, IntKind.max, IntKind.signed, IntKind.bits]
  omega
/-- It reads as a key, if its numbers fit. -/
theorem ckey_reads {i : Int} {d e : Nat} (h : Fit3 i d e) : ∃ kl, keyOf Try.prog 40 (ckey i d e) = some kl := by
  obtain ⟨hi, hd, he⟩ := h
  obtain ⟨m, hm⟩ := Try.nts
  unfold keyOf
  rw [hm]
  simp only [Try.underlying40]
  rw [if_pos (by simp [Try.keyType48, Value.formed, Try.underlying40, Try.cells48])]
  unfold Program.keyLits
  simp only [Try.underlying40, Value.cells]
  rw [if_pos ⟨by rw [Try.cells48]; rfl, by simp⟩]
  simp [Try.cells3, Try.cells28, Program.keyLits, Try.underlying3, Try.underlying22, hi, hd, he]

/-- How a pair of nonces reads. -/
def pairElem : Value → Option (DataW Unit × List MemPlace)
  | .agg cs => match cs.toList with
    | [.int .u64 d, .int .u64 e] => some (.agg [.lit (.int .u64 d), .lit (.int .u64 e)], [])
    | _ => none
  | _ => none
abbrev pval (x : Nat × Nat) : Value := .agg #[.int .u64 (x.1 : Nat), .int .u64 (x.2 : Nat)]
abbrev pdat (x : Nat × Nat) : DataW Unit := .agg [.lit (.int .u64 (x.1 : Nat)), .lit (.int .u64 (x.2 : Nat))]
theorem pairElem_mk (x : Nat × Nat) : pairElem (pval x) = some (pdat x, []) := rfl
theorem pairElem_inv {v : Value} {x : Nat × Nat} {ps : List MemPlace} (h : pairElem v = some (pdat x, ps)) : v = pval x := by
  unfold pairElem at h
  split at h
  · split at h
    · rename_i cs _ d e hc
      simp [pdat] at h
      obtain ⟨⟨rfl, rfl⟩, _⟩ := h
      have : cs = #[.int .u64 (x.1 : Int), .int .u64 (x.2 : Int)] := by
        rw [← Array.toArray_toList (xs := cs), hc]
      rw [this]
    · cases h
  · cases h

abbrev pkey (id : Nat) (x : Nat × Nat) : Value := ckey (id : Int) (M.pw 2147483579 4 x.1) (M.pw 2147483579 4 x.2)
/-- Scalars other than 0, and a number of a signer's. -/
structure PairOk (id : Nat) (x : Nat × Nat) : Prop where
  id9 : id ≤ 9
  s1 : SC x.1
  s2 : SC x.2
theorem pw_lt_u64 (x : Nat) : M.pw 2147483579 4 x < 18446744073709551616 := Nat.lt_trans (Nat.mod_lt _ (by decide)) (by decide)
theorem pkey_fit {id : Nat} {x : Nat × Nat} (h : id ≤ 9) : Fit3 (id : Int) (M.pw 2147483579 4 x.1) (M.pw 2147483579 4 x.2) :=
  ⟨WalkArith.wf_i64 (by omega), wf_u64 (pw_lt_u64 _), wf_u64 (pw_lt_u64 _)⟩
theorem four_eq {a b : Nat} (ha : SC a) (hb : SC b) (h : M.pw 2147483579 4 a = M.pw 2147483579 4 b) : a = b := by
  rcases Nat.lt_trichotomy a b with hl | hl | hl
  · exact absurd h (M.four_inj a b hb.out hl)
  · exact hl
  · exact absurd h.symm (M.four_inj b a ha.out hl)
theorem ckey_inj {i j : Int} {d e d' e' : Nat} (h : ckey i d e = ckey j d' e') : i = j ∧ d = d' ∧ e = e' := by
  simp [ckey] at h
  refine ⟨h.1, ?_, ?_⟩ <;> omega
theorem pkey_inj {id : Nat} {x y : Nat × Nat} (hx : SC x.1 ∧ SC x.2) (hy : SC y.1 ∧ SC y.2) (h : pkey id x = pkey id y) : x = y := by
  obtain ⟨_, h1, h2⟩ := ckey_inj h
  exact Prod.ext (four_eq hx.1 hy.1 h1) (four_eq hx.2 hy.2 h2)

/-- The block mb is the map of the pairs l, of the signer id. -/
structure MapIs (w : World) (mb id : Nat) (l : List (Nat × Nat)) : Prop where
  out : ∃ D : DataW Unit, w.ownsMap Try.prog 40 pairElem mb l.length D ∧ Maps.size D = l.length ∧
    (∀ kl, Maps.has D kl = true ↔ ∃ x ∈ l, keyOf Try.prog 40 (pkey id x) = some kl) ∧
    ∀ x ∈ l, ∀ kl, keyOf Try.prog 40 (pkey id x) = some kl → D.atKey kl (pdat (0, 0)) = pdat x

theorem owns_exact {w : World} {b n : Nat} {D : DataW Unit} (h : w.ownsMap Try.prog 40 pairElem b n D) {m : Nat} (hm : Maps.size D = m) : w.ownsMap Try.prog 40 pairElem b m D := by
  obtain ⟨es, clock, hb, F, hs, hD⟩ := h
  refine ⟨es, clock, hb, F, ?_, hD⟩
  rw [← hm, hD]
  simp [Maps.size, length_sorted]

theorem MapIs.lt {w : World} {mb id : Nat} {l : List (Nat × Nat)} (h : MapIs w mb id l) : mb < w.heap.size := by
  obtain ⟨D, h1, _⟩ := h.out
  exact h1.lt
theorem MapIs.same {w w' : World} {mb id : Nat} {l : List (Nat × Nat)} (h : MapIs w mb id l) (e : w'.heap[mb]? = w.heap[mb]?) : MapIs w' mb id l := by
  obtain ⟨D, ⟨es, clock, hb, hr⟩, h2⟩ := h.out
  exact ⟨D, ⟨es, clock, e.trans hb, hr⟩, h2⟩
theorem MapIs.made (w : World) (id : Nat) : MapIs (w.alloc (.map #[] 0)) w.heap.size id [] :=
  ⟨.map [], World.ownsMap_made w Try.prog 40 pairElem, rfl, fun kl => by simp [Maps.has], fun x hx => by simp at hx⟩

/-- len(m). -/
theorem MapIs.len {w : World} {mb id : Nat} {l : List (Nat × Nat)} (h : MapIs w mb id l) (ty : TypeId) : (Builtin.len_ #[64] ty #[.map (some mb)]).run Try.prog w = .ok (.int .i64 (l.length : Nat)) w := by
  obtain ⟨D, h1, h2, _⟩ := h.out
  rw [← h2]
  exact h1.len Try.underlying64 ty

/-- 'v, ok := m[k]', the key there. -/
theorem MapIs.hit {w : World} {mb id : Nat} {l : List (Nat × Nat)} (h : MapIs w mb id l) (h9 : id ≤ 9) {x : Nat × Nat} (hx : x ∈ l) :
    (Instr.lookup 64 (.map (some mb)) (pkey id x) true).run Try.prog w = .ok (.tuple #[pval x, .bool true]) w := by
  obtain ⟨D, h1, h2, h3, h4⟩ := h.out
  obtain ⟨kl, hkl⟩ := ckey_reads (pkey_fit (x := x) h9)
  obtain ⟨v, ps, hrun, hv⟩ := h1.look_ok Try.keyed48 Try.underlying64 (Try.zero82 w) (pairElem_mk (0, 0)) hkl
  have hhas : Maps.has D kl = true := (h3 kl).2 ⟨x, hx, hkl⟩
  rw [h4 x hx kl hkl] at hv
  rw [hhas, pairElem_inv hv] at hrun
  exact hrun
/-- 'v, ok := m[k]', the key not there. -/
theorem MapIs.miss {w : World} {mb id : Nat} {l : List (Nat × Nat)} (h : MapIs w mb id l) {i : Int} {d e : Nat} (hf : Fit3 i d e) (hx : ∀ x ∈ l, pkey id x ≠ ckey i d e) :
    (Instr.lookup 64 (.map (some mb)) (ckey i d e) true).run Try.prog w = .ok (.tuple #[pval (0, 0), .bool false]) w := by
  obtain ⟨D, h1, h2, h3, h4⟩ := h.out
  obtain ⟨kl, hkl⟩ := ckey_reads hf
  obtain ⟨v, ps, hrun, hv⟩ := h1.look_ok Try.keyed48 Try.underlying64 (Try.zero82 w) (pairElem_mk (0, 0)) hkl
  have hhas : Maps.has D kl = false := by
    cases hh : Maps.has D kl
    · rfl
    · obtain ⟨x, hm, hk⟩ := (h3 kl).1 hh
      exact absurd (Try.keyed48.inj hk hkl) (hx x hm)
  rw [Maps.atKey_of_not_has hhas] at hv
  rw [hhas, pairElem_inv hv] at hrun
  exact hrun

/-- 'm[k] = v', a new key. -/
theorem MapIs.store {w : World} {mb id : Nat} {l : List (Nat × Nat)} (h : MapIs w mb id l) (h9 : id ≤ 9) (h6 : l.length ≤ 65536) (hsc : ∀ x ∈ l, SC x.1 ∧ SC x.2) {x : Nat × Nat} (hs : SC x.1 ∧ SC x.2) (hx : x ∉ l) :
    ∃ w', (Instr.mapUpdate 64 (.map (some mb)) (pkey id x) (pval x)).run Try.prog w = .ok () w' ∧ MapIs w' mb id (l ++ [x]) ∧ w.grownBy w' (some mb) := by
  obtain ⟨D, h1, h2, h3, h4⟩ := h.out
  obtain ⟨kl, hkl⟩ := ckey_reads (pkey_fit (x := x) h9)
  obtain ⟨w', hrun, r1, r2⟩ := h1.store Try.keyed48 Try.underlying64 (by unfold maxLen; omega) hkl (pairElem_mk x)
  have hhas : Maps.has D kl = false := by
    cases hh : Maps.has D kl
    · rfl
    · obtain ⟨y, hm, hk⟩ := (h3 kl).1 hh
      exact absurd (pkey_inj (hsc y hm) hs (Try.keyed48.inj hk hkl)) (fun e => hx (e ▸ hm))
  have hsz : Maps.size (D.put kl (pdat x)) = (l ++ [x]).length := by
    rw [Maps.size_put (h1.tidy Try.keyed48), hhas, List.length_append, ← h2]
    rfl
  refine ⟨w', hrun, ⟨_, owns_exact r1 hsz, hsz, fun k' => ?_, fun y hy k' hk' => ?_⟩, r2.grown⟩
  · by_cases e : k' = kl
    · subst e
      rw [Maps.has_put_same h1.isMap (Try.keyed48.key hkl)]
      exact ⟨fun _ => ⟨x, by simp, hkl⟩, fun _ => rfl⟩
    · rw [Maps.has_put_other e, h3 k']
      constructor
      · rintro ⟨y, hy, hk⟩
        exact ⟨y, by simp [hy], hk⟩
      · rintro ⟨y, hy, hk⟩
        rcases List.mem_append.1 hy with hy | hy
        · exact ⟨y, hy, hk⟩
        · simp at hy
          subst hy
          rw [hkl] at hk
          exact absurd (Option.some.inj hk).symm e
  · rcases List.mem_append.1 hy with hy | hy
    · have e : k' ≠ kl := fun e => by
        subst e
        exact absurd (pkey_inj (hsc y hy) hs (Try.keyed48.inj hk' hkl)) (fun e => hx (e ▸ hy))
      rw [Maps.atKey_put_other e]
      exact h4 y hy k' hk'
    · simp at hy
      subst hy
      rw [hkl] at hk'
      rw [← Option.some.inj hk', Maps.atKey_put_same h1.isMap (Try.keyed48.key hkl)]

/-- 'delete(m, k)', the i-th key. -/
theorem MapIs.drop {w : World} {mb id : Nat} {l : List (Nat × Nat)} (h : MapIs w mb id l) (h9 : id ≤ 9) (hsc : ∀ x ∈ l, SC x.1 ∧ SC x.2) (hnd : l.Nodup) {i : Nat} (hi : i < l.length) (ty : TypeId) :
    ∃ w', (Builtin.delete_ #[64, 40] ty #[.map (some mb), pkey id l[i]]).run Try.prog w = .ok (.tuple #[]) w' ∧ MapIs w' mb id (l.take i ++ l.drop (i + 1)) ∧ w.grownBy w' (some mb) := by
  obtain ⟨D, h1, h2, h3, h4⟩ := h.out
  obtain ⟨kl, hkl⟩ := ckey_reads (pkey_fit (x := l[i]) h9)
  obtain ⟨w', hrun, r1, r2⟩ := h1.drop Try.keyed48 Try.underlying64 hkl ty
  have hx : l[i] ∈ l := List.getElem_mem hi
  have hhas : Maps.has D kl = true := (h3 kl).2 ⟨_, hx, hkl⟩
  have hcut : l.take i ++ l.drop (i + 1) = l.eraseIdx i := (List.eraseIdx_eq_take_drop_succ l i).symm
  have hmem : ∀ y, y ∈ l.eraseIdx i ↔ y ∈ l ∧ y ≠ l[i] := by
    intro y
    rw [List.mem_eraseIdx_iff_getElem]
    constructor
    · rintro ⟨j, hj, hne, rfl⟩
      refine ⟨List.getElem_mem hj, fun e => ?_⟩
      rcases Nat.lt_trichotomy j i with hl | hl | hl
      · exact List.pairwise_iff_getElem.1 hnd j i hj hi hl e
      · exact hne hl
      · exact List.pairwise_iff_getElem.1 hnd i j hi hj hl e.symm
    · rintro ⟨hy, hn⟩
      obtain ⟨j, hj, rfl⟩ := List.getElem_of_mem hy
      exact ⟨j, hj, fun e => hn (by subst e; rfl), rfl⟩
  have hsz : Maps.size (D.del kl) = (l.take i ++ l.drop (i + 1)).length := by
    have := Maps.size_del (k := kl) (h1.tidy Try.keyed48)
    rw [hhas, h2] at this
    rw [hcut, List.length_eraseIdx_of_lt hi]
    simp at this
    omega
  have hne : ∀ y ∈ l, y ≠ l[i] → ∀ k', keyOf Try.prog 40 (pkey id y) = some k' → k' ≠ kl := fun y hy hn k' hk' e => by
    subst e
    exact hn (pkey_inj (hsc y hy) (hsc _ hx) (Try.keyed48.inj hk' hkl))
  refine ⟨w', hrun, ⟨_, owns_exact r1 hsz, hsz, fun k' => ?_, fun y hy k' hk' => ?_⟩, r2.grown⟩
  · rw [hcut]
    by_cases e : k' = kl
    · subst e
      rw [Maps.has_del_same]
      constructor
      · intro h; cases h
      · rintro ⟨y, hy, hk⟩
        obtain ⟨hy1, hy2⟩ := (hmem y).1 hy
        exact absurd rfl (hne y hy1 hy2 _ hk)
    · rw [Maps.has_del_other e, h3 k']
      constructor
      · rintro ⟨y, hy, hk⟩
        refine ⟨y, (hmem y).2 ⟨hy, fun e2 => ?_⟩, hk⟩
        rw [e2, hkl] at hk
        exact e (Option.some.inj hk).symm
      · rintro ⟨y, hy, hk⟩
        exact ⟨y, ((hmem y).1 hy).1, hk⟩
  · rw [hcut] at hy
    obtain ⟨hy1, hy2⟩ := (hmem y).1 hy
    rw [Maps.atKey_del_other (hne y hy1 hy2 k' hk')]
    exact h4 y hy1 k' hk'

/-! at the operation -/
section
variable (w : World) {ops : Array Oper} {rest : List Oper} {o : Oper} {a : Act} {Q : Exit → Act → World → Prop}

theorem wpList_mhit (hg : o.guard = none) (m x : Operand) (hop : o.op = Op.lookup 64 m x true) (mb id : Nat) (l : List (Nat × Nat)) (hm : a.eval m = .map (some mb)) (h : MapIs w mb id l) (h9 : id ≤ 9) (y : Nat × Nat) (hy : y ∈ l) (hx : a.eval x = pkey id y)
    (hK : wpList Try.prog ops Q rest (a.put o.dst (.tuple #[pval y, .bool true])) w) : wpList Try.prog ops Q (o :: rest) a w := by
  refine wpList_plain hg fun K' hK' => ?_
  have hrun := h.hit h9 hy
  unfold Oper.wp
  simp [execOp, hop, hm, hx, hrun, Result.andThen]
  exact hK' _ _ hK
theorem wpList_mmiss (hg : o.guard = none) (m x : Operand) (hop : o.op = Op.lookup 64 m x true) (mb id : Nat) (l : List (Nat × Nat)) (hm : a.eval m = .map (some mb)) (h : MapIs w mb id l) (i : Int) (d e : Nat) (hf : Fit3 i d e) (hy : ∀ y ∈ l, pkey id y ≠ ckey i d e) (hx : a.eval x = ckey i d e)
    (hK : wpList Try.prog ops Q rest (a.put o.dst (.tuple #[pval (0, 0), .bool false])) w) : wpList Try.prog ops Q (o :: rest) a w := by
  refine wpList_plain hg fun K' hK' => ?_
  have hrun := h.miss hf hy
  unfold Oper.wp
  simp [execOp, hop, hm, hx, hrun, Result.andThen]
  exact hK' _ _ hK
theorem wpList_mlen (hg : o.guard = none) (m : Operand) (hop : o.op = Op.call { callee := Callee.builtin Builtin.len, args := #[m], argTypes := #[64] }) (mb id : Nat) (l : List (Nat × Nat)) (hm : a.eval m = .map (some mb)) (h : MapIs w mb id l)
    (hK : wpList Try.prog ops Q rest (a.put o.dst (.int .i64 (l.length : Nat))) w) : wpList Try.prog ops Q (o :: rest) a w := by
  refine wpList_plain hg fun K' hK' => ?_
  unfold Oper.wp
  simp [execOp, hop, resolve, invoke, builtin, hm, h.len o.type, Result.andThen]
  exact hK' _ _ hK
theorem wpList_mput (hg : o.guard = none) (m x v : Operand) (hop : o.op = Op.mapUpdate 64 m x v) (mb id : Nat) (l : List (Nat × Nat)) (hm : a.eval m = .map (some mb)) (h : MapIs w mb id l) (h9 : id ≤ 9) (h6 : l.length ≤ 65536) (hsc : ∀ x ∈ l, SC x.1 ∧ SC x.2) (y : Nat × Nat) (hs : SC y.1 ∧ SC y.2) (hy : y ∉ l)
    (hx : a.eval x = pkey id y) (hv : a.eval v = pval y)
    (hK : ∀ w', MapIs w' mb id (l ++ [y]) → w.grownBy w' (some mb) → wpList Try.prog ops Q rest (a.put o.dst undef) w') : wpList Try.prog ops Q (o :: rest) a w := by
  refine wpList_plain hg fun K' hK' => ?_
  obtain ⟨w', hrun, r1, r2⟩ := h.store h9 h6 hsc hs hy
  unfold Oper.wp
  simp [execOp, hop, hm, hx, hv, hrun, Result.andThen]
  exact hK' _ _ (hK w' r1 r2)
theorem wpList_mdrop (hg : o.guard = none) (m x : Operand) (hop : o.op = Op.call { callee := Callee.builtin Builtin.delete, args := #[m, x], argTypes := #[64, 40] }) (mb id : Nat) (l : List (Nat × Nat)) (hm : a.eval m = .map (some mb)) (h : MapIs w mb id l) (h9 : id ≤ 9) (hsc : ∀ x ∈ l, SC x.1 ∧ SC x.2) (hnd : l.Nodup)
    (i : Nat) (hi : i < l.length) (hx : a.eval x = pkey id l[i])
    (hK : ∀ w', MapIs w' mb id (l.take i ++ l.drop (i + 1)) → w.grownBy w' (some mb) → wpList Try.prog ops Q rest (a.put o.dst (.tuple #[])) w') : wpList Try.prog ops Q (o :: rest) a w := by
  refine wpList_plain hg fun K' hK' => ?_
  obtain ⟨w', hrun, r1, r2⟩ := h.drop h9 hsc hnd hi o.type
  unfold Oper.wp
  simp [execOp, hop, resolve, invoke, builtin, hm, hx, hrun, Result.andThen]
  exact hK' _ _ (hK w' r1 r2)
end
end Go.Proofs.Yteoioldbigomaab
