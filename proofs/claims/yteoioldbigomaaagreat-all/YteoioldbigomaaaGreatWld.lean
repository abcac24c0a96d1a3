import Derived.Test.YteoioldbigomaaaGreatHit
import Derived.Test.YteoioldbigomaaaGreatReadS
namespace Go.Proofs.YteoioldbigomaaaGreat
open Go.RowKit

/-- A signer: its group, its number, its share. -/
structure Sg where
  T : Nat
  N : Nat
  id : Nat
  sh : Nat
  f : Nat → Nat
instance : Inhabited Sg := ⟨⟨0, 0, 0, 0, fun _ => 0⟩⟩
structure Sg.Ok (g : Sg) : Prop where
  right : RightG g.T g.N g.T g.f
  i1 : 1 ≤ g.id
  iN : g.id ≤ g.N
  sc : SC g.sh
theorem Sg.Ok.n9 {g : Sg} (h : g.Ok) : g.N ≤ 9 := by obtain ⟨h1, h2, h3, h4⟩ := h.right.fit; omega
theorem Sg.Ok.t2 {g : Sg} (h : g.Ok) : 2 ≤ g.T := by obtain ⟨h1, h2, h3, h4⟩ := h.right.fit; omega
/-- Pairs of nonces that are kept. -/
structure Ls (l : List (Nat × Nat)) : Prop where
  six : l.length ≤ 6
  nd : l.Nodup
  sc : ∀ x ∈ l, SC x.1 ∧ SC x.2
theorem Ls.nil : Ls [] := ⟨by simp, by simp, by simp⟩
theorem Ls.cut {l : List (Nat × Nat)} (h : Ls l) (i : Nat) : Ls (l.take i ++ l.drop (i + 1)) := by
  refine ⟨?_, nodup_cut h.nd i, fun x hx => h.sc x (mem_cut hx)⟩
  rw [← List.eraseIdx_eq_take_drop_succ]
  exact Nat.le_trans (List.length_eraseIdx_le l i) h.six
theorem Ls.add {l : List (Nat × Nat)} (h : Ls l) {d e : Nat} (hc : M.CmE l d e 0) : Ls (l ++ [(d, e)]) := by
  rcases hc with ⟨_, h0⟩ | ⟨_, _, h0⟩ | ⟨_, _, _, h0⟩ | ⟨⟨_, _, hd, he⟩, hm, hl, _⟩
  · omega
  · omega
  · omega
  · have := h.six
    refine ⟨by rw [List.length_append]; simp; omega, ?_, ?_⟩
    · rw [List.nodup_append]
      refine ⟨h.nd, by simp, ?_⟩
      intro a ha b hb
      simp at hb
      subst hb
      exact fun e => hm (e ▸ ha)
    · intro x hx
      rcases List.mem_append.1 hx with hx | hx
      · exact h.sc x hx
      · simp at hx; subst hx; exact ⟨hd, he⟩

/-- The cells of ns pairs of signers. -/
def sgc (x p : Nat → Nat) (n : Nat) : List Value := (List.range n).flatMap fun i => [.pointer (some ⟨x i, 0, none⟩), .pointer (some ⟨p i, 0, none⟩)]
theorem sgc_succ (x p : Nat → Nat) (n : Nat) : sgc x p (n + 1) = sgc x p n ++ [.pointer (some ⟨x n, 0, none⟩), .pointer (some ⟨p n, 0, none⟩)] := by simp [sgc, List.range_succ]
theorem sgc_len (x p : Nat → Nat) (n : Nat) : (sgc x p n).length = n * 2 := by
  induction n with
  | zero => rfl
  | succ n ih => rw [sgc_succ, List.length_append, ih]; simp; omega
theorem sgc_at (x p : Nat → Nat) (n i : Nat) (h : i < n) : (sgc x p n)[i * 2]? = some (.pointer (some ⟨x i, 0, none⟩)) ∧ (sgc x p n)[i * 2 + 1]? = some (.pointer (some ⟨p i, 0, none⟩)) := by
  induction n with
  | zero => omega
  | succ n ih =>
    have hl := sgc_len x p n
    rw [sgc_succ]
    rcases Nat.lt_or_eq_of_le (Nat.le_of_lt_succ h) with hlt | rfl
    · rw [List.getElem?_append_left (by omega), List.getElem?_append_left (by omega)]
      exact ih hlt
    · rw [List.getElem?_append_right (by omega), List.getElem?_append_right (by omega), hl]
      exact ⟨by rw [Nat.sub_self]; rfl, by rw [Nat.add_sub_cancel_left]; rfl⟩

/-- The program's signers: how they lie in memory. -/
structure Side where
  PS : World → Nat → (Nat → Prop) → Sg → List (Nat × Nat) → Prop
  lt : ∀ {w x F g l}, PS w x F g l → ∀ b, F b → b < w.heap.size
  chg : ∀ {P : Nat → Prop} {w w' x F g l}, PS w x F g l → Chg P w w' → (∀ b, F b → ¬ P b) → PS w' x F g l

/-- What the two signers of a pair are, and what blocks are theirs. -/
structure Two where
  x : Nat
  p : Nat
  F : Nat → Prop
  g : Sg
  l : List (Nat × Nat)
  cb : Nat
  cc : Nat
  v : Value
instance : Inhabited Two := ⟨⟨0, 0, fun _ => False, default, [], 0, 0, .slice none 0 0⟩⟩

/-- A world of ns pairs of signers: the block P of the World, no block of theirs below B. -/
structure Wd (S : Side) (B P : Nat) (w : World) (own : Nat → Option Nat) (ns : Nat) (s : Nat → Two) (ssv csv : Value) (nc : Nat) (I : Nat → Int) (D E : Nat → Nat) : Prop where
  blk : w.heap[P]? = some (.cells #[ssv, csv, .bool false] 74 (0, 0))
  ss : w.ownsRow B 127 2 ssv ns (sgc (fun i => (s i).x) (fun i => (s i).p) ns)
  cs : GrowC w B csv nc I D E
  ps : ∀ i, i < ns → S.PS w (s i).x (s i).F (s i).g (s i).l
  rs : ∀ i, i < ns → RS w (s i).p (s i).g.T (s i).g.N (s i).cb (s i).cc (s i).g.f (s i).g.id (s i).g.sh (s i).v (s i).l
  ok : ∀ i, i < ns → (s i).g.Ok ∧ Ls (s i).l
  oP : own P = some 0
  oss : ∀ b, ssv.ownBlock = some b → own b = some 0 ∧ b ≠ P
  ocs : ∀ b, csv.ownBlock = some b → own b = some 0 ∧ b ≠ P ∧ ssv.ownBlock ≠ some b
  oF : ∀ i, i < ns → ∀ b, (s i).F b → own b = some (2 * i + 1)
  oR : ∀ i, i < ns → own (s i).p = some (2 * i + 2) ∧ own (s i).cb = some (2 * i + 2) ∧ ∀ b, (s i).v.ownBlock = some b → own b = some (2 * i + 2)
  oB : ∀ b k, own b = some k → B ≤ b ∧ b < w.heap.size

theorem GrowC.chg {P : Nat → Prop} {w w' : World} {B k : Nat} {v : Value} {I : Nat → Int} {D E : Nat → Nat} (h : GrowC w B v k I D E) (hc : Chg P w w') (hv : ∀ b, v.ownBlock = some b → ¬ P b) : GrowC w' B v k I D E := by
  refine ⟨h.1, ?_⟩
  rcases h.2 with h2 | ⟨g, cap, cur, h1, h2, h3, h4⟩
  · exact .inl h2
  · exact .inr ⟨g, cap, cur, h1, h2, (hc.block g (lt_of_block h3) (hv g (by rw [h1]; rfl))).trans h3, h4⟩
theorem row_chg {P : Nat → Prop} {w w' : World} {B e k n : Nat} {v : Value} {xs : List Value} (h : w.ownsRow B e k v n xs) (hc : Chg P w w') (hv : ∀ b, v.ownBlock = some b → ¬ P b) : w'.ownsRow B e k v n xs := by
  refine ⟨h.1, ?_⟩
  rcases h.2 with h2 | ⟨g, cap, cur, h1, h2, h3, h4⟩
  · exact .inl h2
  · exact .inr ⟨g, cap, cur, h1, h2, (hc.block g (lt_of_block h3) (hv g (by rw [h1]; rfl))).trans h3, h4⟩

/-- Nothing that is owned has changed. -/
theorem Wd.still {S : Side} {B P : Nat} {w w' : World} {own : Nat → Option Nat} {ns : Nat} {s : Nat → Two} {ssv csv : Value} {nc : Nat} {I : Nat → Int} {D E : Nat → Nat} (h : Wd S B P w own ns s ssv csv nc I D E) {Q : Nat → Prop} (hc : Chg Q w w') (hq : ∀ b k, own b = some k → ¬ Q b) :
    Wd S B P w' own ns s ssv csv nc I D E :=
  { blk := (hc.block P (lt_of_block h.blk) (hq _ _ h.oP)).trans h.blk
    ss := row_chg h.ss hc fun b hb => hq _ _ (h.oss b hb).1
    cs := h.cs.chg hc fun b hb => hq _ _ (h.ocs b hb).1
    ps := fun i hi => S.chg (h.ps i hi) hc fun b hb => hq _ _ (h.oF i hi b hb)
    rs := fun i hi => (h.rs i hi).chg hc (hq _ _ (h.oR i hi).1) (hq _ _ (h.oR i hi).2.1) fun b hb => hq _ _ ((h.oR i hi).2.2 b hb)
    ok := h.ok, oP := h.oP, oss := h.oss, ocs := h.ocs, oF := h.oF, oR := h.oR
    oB := fun b k hb => ⟨(h.oB b k hb).1, Nat.lt_of_lt_of_le (h.oB b k hb).2 hc.size⟩ }
theorem Wd.below {S : Side} {B P : Nat} {w w' : World} {own : Nat → Option Nat} {ns : Nat} {s : Nat → Two} {ssv csv : Value} {nc : Nat} {I : Nat → Int} {D E : Nat → Nat} (h : Wd S B P w own ns s ssv csv nc I D E) (hb : Below w.heap.size w w') : Wd S B P w' own ns s ssv csv nc I D E :=
  h.still (Below.chg hb fun _ => False) fun _ _ _ hf => hf

/-- The pair i is another. -/
def Two.upd (s : Nat → Two) (i : Nat) (F' : Nat → Prop) (v' : Value) (l' : List (Nat × Nat)) : Nat → Two := fun j => if j = i then { s i with F := F', v := v', l := l' } else s j
theorem Two.upd_x (s : Nat → Two) (i : Nat) (F' : Nat → Prop) (v' : Value) (l' : List (Nat × Nat)) (j : Nat) : (Two.upd s i F' v' l' j).x = (s j).x := by unfold Two.upd; split <;> simp_all
theorem Two.upd_p (s : Nat → Two) (i : Nat) (F' : Nat → Prop) (v' : Value) (l' : List (Nat × Nat)) (j : Nat) : (Two.upd s i F' v' l' j).p = (s j).p := by unfold Two.upd; split <;> simp_all
theorem Two.upd_same (s : Nat → Two) (i : Nat) (F' : Nat → Prop) (v' : Value) (l' : List (Nat × Nat)) : Two.upd s i F' v' l' i = { s i with F := F', v := v', l := l' } := by unfold Two.upd; rw [if_pos rfl]
theorem Two.upd_other (s : Nat → Two) (i : Nat) (F' : Nat → Prop) (v' : Value) (l' : List (Nat × Nat)) {j : Nat} (h : j ≠ i) : Two.upd s i F' v' l' j = s j := by unfold Two.upd; rw [if_neg h]

open Classical in
/-- The two signers of pair i are others than they were: the program's went first (up to heap size m), the document's behind it. -/
theorem Wd.turn {S : Side} {B P : Nat} {w w' : World} {own : Nat → Option Nat} {ns : Nat} {s : Nat → Two} {ssv csv : Value} {nc : Nat} {I : Nat → Int} {D E : Nat → Nat} (h : Wd S B P w own ns s ssv csv nc I D E) (hB : B ≤ w.heap.size) {i : Nat} (hi : i < ns) {m : Nat} (hm : w.heap.size ≤ m)
    (hc : Chg (fun b => (s i).F b ∨ b = (s i).p ∨ (s i).v.ownBlock = some b) w w') {F' : Nat → Prop} (hF : ∀ b, F' b → (s i).F b ∨ (w.heap.size ≤ b ∧ b < m)) {v' : Value} (hv : ∀ b, v'.ownBlock = some b → (s i).v.ownBlock = some b ∨ m ≤ b) {l' : List (Nat × Nat)} (hl : Ls l')
    (hp : S.PS w' (s i).x F' (s i).g l') (hr : RS w' (s i).p (s i).g.T (s i).g.N (s i).cb (s i).cc (s i).g.f (s i).g.id (s i).g.sh v' l') :
    ∃ own', Wd S B P w' own' ns (Two.upd s i F' v' l') ssv csv nc I D E := by
  have q : ∀ b k, own b = some k → k ≠ 2 * i + 1 → k ≠ 2 * i + 2 → ¬ ((s i).F b ∨ b = (s i).p ∨ (s i).v.ownBlock = some b) := by
    intro b k hb h1 h2 hh
    rcases hh with hh | hh | hh
    · have := h.oF i hi b hh; rw [hb] at this; exact h1 (Option.some.inj this)
    · have := (h.oR i hi).1; rw [← hh, hb] at this; exact h2 (Option.some.inj this)
    · have := (h.oR i hi).2.2 b hh; rw [hb] at this; exact h2 (Option.some.inj this)
  have old : ∀ b k, own b = some k → b < w.heap.size := fun b k hb => (h.oB b k hb).2
  refine ⟨fun b => if w.heap.size ≤ b then (if F' b then some (2 * i + 1) else if v'.ownBlock = some b then some (2 * i + 2) else none) else own b, ?_⟩
  have keep : ∀ b k, own b = some k → (if w.heap.size ≤ b then (if F' b then some (2 * i + 1) else if v'.ownBlock = some b then some (2 * i + 2) else none) else own b) = some k := by
    intro b k hb
    rw [if_neg (by have := old b k hb; omega)]
    exact hb
  refine { blk := ?_, ss := ?_, cs := ?_, ps := ?_, rs := ?_, ok := ?_, oP := keep _ _ h.oP, oss := ?_, ocs := ?_, oF := ?_, oR := ?_, oB := ?_ }
  · exact (hc.block P (lt_of_block h.blk) (q _ _ h.oP (by omega) (by omega))).trans h.blk
  · have e : sgc (fun j => (Two.upd s i F' v' l' j).x) (fun j => (Two.upd s i F' v' l' j).p) ns = sgc (fun j => (s j).x) (fun j => (s j).p) ns := by
      simp only [Two.upd_x, Two.upd_p]
    rw [e]
    exact row_chg h.ss hc fun b hb => q _ _ (h.oss b hb).1 (by omega) (by omega)
  · exact h.cs.chg hc fun b hb => q _ _ (h.ocs b hb).1 (by omega) (by omega)
  · intro j hj
    by_cases hji : j = i
    · subst hji; rw [Two.upd_same]; exact hp
    · rw [Two.upd_other _ _ _ _ _ hji]
      exact S.chg (h.ps j hj) hc fun b hb => q _ _ (h.oF j hj b hb) (by omega) (by omega)
  · intro j hj
    by_cases hji : j = i
    · subst hji; rw [Two.upd_same]; exact hr
    · rw [Two.upd_other _ _ _ _ _ hji]
      exact (h.rs j hj).chg hc (q _ _ (h.oR j hj).1 (by omega) (by omega)) (q _ _ (h.oR j hj).2.1 (by omega) (by omega)) fun b hb => q _ _ ((h.oR j hj).2.2 b hb) (by omega) (by omega)
  · intro j hj
    by_cases hji : j = i
    · subst hji; rw [Two.upd_same]; exact ⟨(h.ok j hj).1, hl⟩
    · rw [Two.upd_other _ _ _ _ _ hji]; exact h.ok j hj
  · intro b hb
    exact ⟨keep _ _ (h.oss b hb).1, (h.oss b hb).2⟩
  · intro b hb
    exact ⟨keep _ _ (h.ocs b hb).1, (h.ocs b hb).2⟩
  · intro j hj b hb
    by_cases hji : j = i
    · subst hji
      rw [Two.upd_same] at hb
      rcases hF b hb with hh | hh
      · exact keep _ _ (h.oF j hj b hh)
      · rw [if_pos hh.1, if_pos hb]
    · rw [Two.upd_other _ _ _ _ _ hji] at hb
      exact keep _ _ (h.oF j hj b hb)
  · intro j hj
    by_cases hji : j = i
    · subst hji
      rw [Two.upd_same]
      refine ⟨keep _ _ (h.oR j hj).1, keep _ _ (h.oR j hj).2.1, fun b hb => ?_⟩
      rcases hv b hb with hh | hh
      · exact keep _ _ ((h.oR j hj).2.2 b hh)
      · rw [if_pos (by omega), if_neg (fun hf => ?_), if_pos hb]
        rcases hF b hf with h1 | h1
        · have := old _ _ (h.oF j hj b h1); omega
        · omega
    · rw [Two.upd_other _ _ _ _ _ hji]
      exact ⟨keep _ _ (h.oR j hj).1, keep _ _ (h.oR j hj).2.1, fun b hb => keep _ _ ((h.oR j hj).2.2 b hb)⟩
  · intro b k hb
    by_cases hw : w.heap.size ≤ b
    · rw [if_pos hw] at hb
      refine ⟨by omega, ?_⟩
      by_cases hf : F' b
      · exact S.lt hp b hf
      · rw [if_neg hf] at hb
        by_cases hvb : v'.ownBlock = some b
        · exact (World.ownsRow.lt hr.row b hvb).2
        · rw [if_neg hvb] at hb; cases hb
    · rw [if_neg hw] at hb
      exact ⟨(h.oB b k hb).1, Nat.lt_of_lt_of_le (h.oB b k hb).2 hc.size⟩
end Go.Proofs.YteoioldbigomaaaGreat
namespace Go.Proofs.YteoioldbigomaaaGreat
open Go.RowKit

open Classical in
/-- A commitment was told. -/
theorem Wd.told {S : Side} {B P : Nat} {w w' : World} {own : Nat → Option Nat} {ns : Nat} {s : Nat → Two} {ssv csv : Value} {nc : Nat} {I : Nat → Int} {D E : Nat → Nat} (h : Wd S B P w own ns s ssv csv nc I D E) (hB : B ≤ w.heap.size)
    (hc : Chg (fun b => b = P ∨ csv.ownBlock = some b) w w') {csv' : Value} {nc' : Nat} {I' : Nat → Int} {D' E' : Nat → Nat} (hblk : w'.heap[P]? = some (.cells #[ssv, csv', .bool false] 74 (0, 0))) (hcs : GrowC w' B csv' nc' I' D' E')
    (hv : ∀ b, csv'.ownBlock = some b → csv.ownBlock = some b ∨ w.heap.size ≤ b) : ∃ own', Wd S B P w' own' ns s ssv csv' nc' I' D' E' := by
  have q : ∀ b k, own b = some k → k ≠ 0 → ¬ (b = P ∨ csv.ownBlock = some b) := by
    intro b k hb h1 hh
    rcases hh with hh | hh
    · have := h.oP; rw [← hh, hb] at this; exact h1 (Option.some.inj this)
    · have := (h.ocs b hh).1; rw [hb] at this; exact h1 (Option.some.inj this)
  have old : ∀ b k, own b = some k → b < w.heap.size := fun b k hb => (h.oB b k hb).2
  refine ⟨fun b => if w.heap.size ≤ b then (if csv'.ownBlock = some b then some 0 else none) else own b, ?_⟩
  have keep : ∀ b k, own b = some k → (if w.heap.size ≤ b then (if csv'.ownBlock = some b then some 0 else none) else own b) = some k := by
    intro b k hb
    rw [if_neg (by have := old b k hb; omega)]
    exact hb
  refine { blk := hblk, ss := ?_, cs := hcs, ps := ?_, rs := ?_, ok := h.ok, oP := keep _ _ h.oP, oss := ?_, ocs := ?_, oF := ?_, oR := ?_, oB := ?_ }
  · exact row_chg h.ss hc fun b hb hh => by
      rcases hh with hh | hh
      · exact (h.oss b hb).2 hh
      · exact (h.ocs b hh).2.2 hb
  · exact fun j hj => S.chg (h.ps j hj) hc fun b hb => q _ _ (h.oF j hj b hb) (by omega)
  · exact fun j hj => (h.rs j hj).chg hc (q _ _ (h.oR j hj).1 (by omega)) (q _ _ (h.oR j hj).2.1 (by omega)) fun b hb => q _ _ ((h.oR j hj).2.2 b hb) (by omega)
  · exact fun b hb => ⟨keep _ _ (h.oss b hb).1, (h.oss b hb).2⟩
  · intro b hb
    rcases hv b hb with hh | hh
    · exact ⟨keep _ _ (h.ocs b hh).1, (h.ocs b hh).2⟩
    · refine ⟨by rw [if_pos hh, if_pos hb], ?_, ?_⟩
      · have := lt_of_block h.blk; omega
      · intro h2
        have := old _ _ (h.oss b h2).1
        omega
  · exact fun j hj b hb => keep _ _ (h.oF j hj b hb)
  · exact fun j hj => ⟨keep _ _ (h.oR j hj).1, keep _ _ (h.oR j hj).2.1, fun b hb => keep _ _ ((h.oR j hj).2.2 b hb)⟩
  · intro b k hb
    by_cases hw : w.heap.size ≤ b
    · rw [if_pos hw] at hb
      refine ⟨by omega, ?_⟩
      by_cases hvb : csv'.ownBlock = some b
      · exact (World.ownsRow.lt hcs b hvb).2
      · rw [if_neg hvb] at hb; cases hb
    · rw [if_neg hw] at hb
      exact ⟨(h.oB b k hb).1, Nat.lt_of_lt_of_le (h.oB b k hb).2 hc.size⟩

/-- One pair more. -/
def Two.add (s : Nat → Two) (n : Nat) (t : Two) : Nat → Two := fun j => if j = n then t else s j
theorem Two.add_last (s : Nat → Two) (n : Nat) (t : Two) : Two.add s n t n = t := by unfold Two.add; rw [if_pos rfl]
theorem Two.add_old (s : Nat → Two) (n : Nat) (t : Two) {j : Nat} (h : j < n) : Two.add s n t j = s j := by unfold Two.add; rw [if_neg (by omega)]

open Classical in
/-- A pair of signers is new. -/
theorem Wd.more {S : Side} {B P : Nat} {w w' : World} {own : Nat → Option Nat} {ns : Nat} {s : Nat → Two} {ssv csv : Value} {nc : Nat} {I : Nat → Int} {D E : Nat → Nat} (h : Wd S B P w own ns s ssv csv nc I D E) (hB : B ≤ w.heap.size)
    (hc : Chg (fun b => b = P ∨ ssv.ownBlock = some b) w w') {ssv' : Value} {t : Two} (hblk : w'.heap[P]? = some (.cells #[ssv', csv, .bool false] 74 (0, 0)))
    (hss : w'.ownsRow B 127 2 ssv' (ns + 1) (sgc (fun i => (s i).x) (fun i => (s i).p) ns ++ [.pointer (some ⟨t.x, 0, none⟩), .pointer (some ⟨t.p, 0, none⟩)]))
    (hv : ∀ b, ssv'.ownBlock = some b → ssv.ownBlock = some b ∨ w.heap.size ≤ b) (hp : S.PS w' t.x t.F t.g t.l) (hr : RS w' t.p t.g.T t.g.N t.cb t.cc t.g.f t.g.id t.g.sh t.v t.l) (hok : t.g.Ok ∧ Ls t.l)
    (hF : ∀ b, t.F b → w.heap.size ≤ b ∧ b ≠ t.p ∧ b ≠ t.cb ∧ t.v.ownBlock ≠ some b ∧ ssv'.ownBlock ≠ some b) (hR : ∀ b, (b = t.p ∨ b = t.cb ∨ t.v.ownBlock = some b) → w.heap.size ≤ b ∧ b < w'.heap.size ∧ ssv'.ownBlock ≠ some b) :
    ∃ own', Wd S B P w' own' (ns + 1) (Two.add s ns t) ssv' csv nc I D E := by
  have q : ∀ b k, own b = some k → k ≠ 0 → ¬ (b = P ∨ ssv.ownBlock = some b) := by
    intro b k hb h1 hh
    rcases hh with hh | hh
    · have := h.oP; rw [← hh, hb] at this; exact h1 (Option.some.inj this)
    · have := (h.oss b hh).1; rw [hb] at this; exact h1 (Option.some.inj this)
  have old : ∀ b k, own b = some k → b < w.heap.size := fun b k hb => (h.oB b k hb).2
  obtain ⟨o2, ho2⟩ : ∃ o2 : Nat → Option Nat, o2 = fun b => if w.heap.size ≤ b then (if ssv'.ownBlock = some b then some 0 else if t.F b then some (2 * ns + 1) else if b = t.p ∨ b = t.cb ∨ t.v.ownBlock = some b then some (2 * ns + 2) else none) else own b := ⟨_, rfl⟩
  have keep : ∀ b k, own b = some k → o2 b = some k := by
    intro b k hb
    rw [ho2]
    show (if _ then _ else _) = _
    rw [if_neg (by have := old b k hb; omega)]
    exact hb
  have new : ∀ b, w.heap.size ≤ b → o2 b = (if ssv'.ownBlock = some b then some 0 else if t.F b then some (2 * ns + 1) else if b = t.p ∨ b = t.cb ∨ t.v.ownBlock = some b then some (2 * ns + 2) else none) := by
    intro b hb
    rw [ho2]
    show (if _ then _ else _) = _
    rw [if_pos hb]
  have isR : ∀ b, (b = t.p ∨ b = t.cb ∨ t.v.ownBlock = some b) → o2 b = some (2 * ns + 2) := by
    intro b hb
    have h1 := hR b hb
    rw [new b h1.1, if_neg h1.2.2, if_neg (fun hf => by
      have h2 := hF b hf
      rcases hb with h | h | h
      · exact h2.2.1 h
      · exact h2.2.2.1 h
      · exact h2.2.2.2.1 h), if_pos hb]
  refine ⟨o2, { blk := hblk, ss := ?_, cs := ?_, ps := ?_, rs := ?_, ok := ?_, oP := keep _ _ h.oP, oss := ?_, ocs := ?_, oF := ?_, oR := ?_, oB := ?_ }⟩
  · have e : sgc (fun j => (Two.add s ns t j).x) (fun j => (Two.add s ns t j).p) (ns + 1) = sgc (fun i => (s i).x) (fun i => (s i).p) ns ++ [.pointer (some ⟨t.x, 0, none⟩), .pointer (some ⟨t.p, 0, none⟩)] := by
      rw [sgc_succ, Two.add_last]
      congr 1
      unfold sgc
      rw [List.flatMap_def, List.flatMap_def]
      congr 1
      exact List.map_congr_left fun j hj => by
        show [Value.pointer (some ⟨(Two.add s ns t j).x, 0, none⟩), Value.pointer (some ⟨(Two.add s ns t j).p, 0, none⟩)] = _
        rw [Two.add_old _ _ _ (List.mem_range.1 hj)]
    rw [e]
    exact hss
  · exact h.cs.chg hc fun b hb hh => by
      rcases hh with hh | hh
      · exact (h.ocs b hb).2.1 hh
      · exact (h.ocs b hb).2.2 hh
  · intro j hj
    rcases Nat.lt_or_eq_of_le (Nat.le_of_lt_succ hj) with hl | rfl
    · rw [Two.add_old _ _ _ hl]; exact S.chg (h.ps j hl) hc fun b hb => q _ _ (h.oF j hl b hb) (by omega)
    · rw [Two.add_last]; exact hp
  · intro j hj
    rcases Nat.lt_or_eq_of_le (Nat.le_of_lt_succ hj) with hl | rfl
    · rw [Two.add_old _ _ _ hl]; exact (h.rs j hl).chg hc (q _ _ (h.oR j hl).1 (by omega)) (q _ _ (h.oR j hl).2.1 (by omega)) fun b hb => q _ _ ((h.oR j hl).2.2 b hb) (by omega)
    · rw [Two.add_last]; exact hr
  · intro j hj
    rcases Nat.lt_or_eq_of_le (Nat.le_of_lt_succ hj) with hl | rfl
    · rw [Two.add_old _ _ _ hl]; exact h.ok j hl
    · rw [Two.add_last]; exact hok
  · intro b hb
    rcases hv b hb with hh | hh
    · exact ⟨keep _ _ (h.oss b hh).1, (h.oss b hh).2⟩
    · exact ⟨by rw [new b hh, if_pos hb], by have := lt_of_block h.blk; omega⟩
  · intro b hb
    refine ⟨keep _ _ (h.ocs b hb).1, (h.ocs b hb).2.1, fun h2 => ?_⟩
    rcases hv b h2 with hh | hh
    · exact (h.ocs b hb).2.2 hh
    · have := old _ _ (h.ocs b hb).1; omega
  · intro j hj b hb
    rcases Nat.lt_or_eq_of_le (Nat.le_of_lt_succ hj) with hl | rfl
    · rw [Two.add_old _ _ _ hl] at hb; exact keep _ _ (h.oF j hl b hb)
    · rw [Two.add_last] at hb
      have h1 := hF b hb
      rw [new b h1.1, if_neg h1.2.2.2.2, if_pos hb]
  · intro j hj
    rcases Nat.lt_or_eq_of_le (Nat.le_of_lt_succ hj) with hl | rfl
    · rw [Two.add_old _ _ _ hl]; exact ⟨keep _ _ (h.oR j hl).1, keep _ _ (h.oR j hl).2.1, fun b hb => keep _ _ ((h.oR j hl).2.2 b hb)⟩
    · rw [Two.add_last]; exact ⟨isR _ (.inl rfl), isR _ (.inr (.inl rfl)), fun b hb => isR _ (.inr (.inr hb))⟩
  · intro b k hb
    by_cases hw : w.heap.size ≤ b
    · rw [new b hw] at hb
      refine ⟨by omega, ?_⟩
      by_cases h1 : ssv'.ownBlock = some b
      · exact (World.ownsRow.lt hss b h1).2
      · rw [if_neg h1] at hb
        by_cases h2 : t.F b
        · exact S.lt hp b h2
        · rw [if_neg h2] at hb
          by_cases h3 : b = t.p ∨ b = t.cb ∨ t.v.ownBlock = some b
          · exact (hR b h3).2.1
          · rw [if_neg h3] at hb; cases hb
    · rw [ho2] at hb
      have hb' : own b = some k := by
        have : (if w.heap.size ≤ b then (if ssv'.ownBlock = some b then some 0 else if t.F b then some (2 * ns + 1) else if b = t.p ∨ b = t.cb ∨ t.v.ownBlock = some b then some (2 * ns + 2) else none) else own b) = some k := hb
        rwa [if_neg hw] at this
      exact ⟨(h.oB b k hb').1, Nat.lt_of_lt_of_le (h.oB b k hb').2 hc.size⟩
end Go.Proofs.YteoioldbigomaaaGreat
