import Derived.Test.YteoioldbigomaabKl
namespace Go.Proofs.Yteoioldbigomaab
open Go.RowKit

/-- The signer that is asked (its pairs: lp), and what is kept of its commitments (to the pairs l). -/
structure KI (W0 wr : World) (x : Nat) (F : Nat → Prop) (g : Sg) (v : Value) (l lp : List (Nat × Nat)) : Prop where
  chg : Chg F W0 wr
  ps : PS wr x F g lp
  kp : KP wr W0.heap.size v l
section
variable {W0 wr wr' : World} {x : Nat} {F : Nat → Prop} {g : Sg} {v : Value} {l lp lp' : List (Nat × Nat)}
theorem KI.below (h : KI W0 wr x F g v l lp) (b : Below wr.heap.size wr wr') : KI W0 wr' x F g v l lp :=
  ⟨h.chg.trans (Below.chg b _), side.chg h.ps (Below.chg b fun _ => False) (fun _ _ h => h), h.kp.below b⟩
theorem KI.on (h : KI W0 wr x F g v l lp) (hF : ∀ b, F b → b < W0.heap.size) (hc : Chg F wr wr') (hp : PS wr' x F g lp') : KI W0 wr' x F g v l lp' :=
  ⟨h.chg.trans hc, hp, h.kp.chg hc fun k hk hf => by have := hF k hf; omega⟩
end
/-- What is kept has grown, or lies elsewhere. -/
theorem KI.grow {W0 wr w' : World} {x : Nat} {F : Nat → Prop} {g : Sg} {v v' : Value} {l l' lp : List (Nat × Nat)} (h : KI W0 wr x F g v l lp) (hF : ∀ b, F b → b < W0.heap.size) (kp' : KP w' W0.heap.size v' l') (hg : wr.grownBy w' v.ownBlock) : KI W0 w' x F g v' l' lp := by
  have hv : ∀ b, some b = v.ownBlock → W0.heap.size ≤ b := fun b hb => (World.ownsRow.lt h.kp b hb.symm).1
  exact ⟨h.chg.on (grown_chg hg) fun j hj => .inr (hv j hj), side.chg h.ps (grown_chg hg) fun b hb hh => by have h1 := hv b hh; have h2 := hF b hb; omega, kp'⟩
theorem KI.growR {W0 wr w' : World} {x : Nat} {F : Nat → Prop} {g : Sg} {v v' : Value} {l l' lp : List (Nat × Nat)} {row : Option Nat} (h : KI W0 wr x F g v l lp) (hF : ∀ b, F b → b < W0.heap.size) (kp' : KP w' W0.heap.size v' l') (hr : ∀ b, row = some b → W0.heap.size ≤ b) (hg : wr.grownBy w' row) : KI W0 w' x F g v' l' lp :=
  ⟨h.chg.on (grown_chg hg) fun j hj => .inr (hr j hj.symm), side.chg h.ps (grown_chg hg) fun b hb hh => by have h1 := hr b hh.symm; have h2 := hF b hb; omega, kp'⟩
/-- Pairs that have been told one behind the other. -/
def Up (l : List (Nat × Nat)) (q : Nat) : Prop := ∀ p ∈ l, p.2 = p.1 + 1 ∧ 1 ≤ p.1 ∧ p.1 < q
theorem Up.new {l : List (Nat × Nat)} {q : Nat} (h : Up l q) : (q, q + 1) ∉ l := fun hm => by have := h _ hm; simp at this
theorem Up.add {l : List (Nat × Nat)} {q : Nat} (h : Up l q) (hq : 1 ≤ q) : Up (l ++ [(q, q + 1)]) (q + 1) := by
  intro p hp
  rcases List.mem_append.1 hp with hp | hp
  · have := h p hp; exact ⟨this.1, this.2.1, by omega⟩
  · simp at hp; subst hp; exact ⟨rfl, hq, by simp⟩
theorem Up.cut {l : List (Nat × Nat)} {q : Nat} (h : Up l q) (j : Nat) : Up (l.take j ++ l.drop (j + 1)) q := fun p hp => h p (mem_cut hp)

/-- A number of the signer's, a share. -/
structure G1 (g : Sg) : Prop where
  ok : g.Ok
  T : g.T = 2
  N : g.N = 2
  id : g.id = 1

theorem kcommit {W0 wr : World} {x : Nat} {F : Nat → Prop} {g : Sg} {v : Value} {l : List (Nat × Nat)} {q : Nat} (h : KI W0 wr x F g v l l) (hF : ∀ b, F b → b < W0.heap.size) (hg : G1 g) (hl : Ls l) (hu : Up l q) (h1 : 1 ≤ q) (h2 : q ≤ 1000) :
    Calls Try.prog 11 #[.pointer (some ⟨x, 0, none⟩), .int .u64 (q : Nat), .int .u64 ((q : Int) + 1)] wr fun ex w' => Chg F wr w' ∧ (
      (l.length = 6 ∧ KI W0 w' x F g v l l ∧ ex = .returned (.tuple #[.agg #[.int .i64 0, .int .u64 0, .int .u64 0], .int .i64 9])) ∨
      (l.length < 6 ∧ KI W0 w' x F g v l (l ++ [(q, q + 1)]) ∧ ex = .returned (.tuple #[.agg #[.int .i64 1, .int .u64 (M.pw 2147483579 4 q : Nat), .int .u64 (M.pw 2147483579 4 (q + 1) : Nat)], .int .i64 0]))) := by
  have e1 : ((q : Int) + 1) = ((q + 1 : Nat) : Int) := by omega
  rw [e1]
  refine (pcommit_any q (q + 1) h.ps hg.ok hl).mono ?_
  rintro ex w' ⟨er, F', hcm, hc, rfl, hres⟩
  refine ⟨hc, ?_⟩
  have hsc : q ≠ 0 ∧ q + 1 ≠ 0 ∧ SC q ∧ SC (q + 1) := ⟨by omega, by omega, ⟨by omega⟩, ⟨by omega⟩⟩
  by_cases h6 : l.length = 6
  · have he := hcm.one (.inr (.inr (.inl ⟨hsc, hu.new, h6, rfl⟩)))
    subst he
    rcases hres with ⟨_, hps, rfl⟩ | ⟨h0, _⟩
    · exact .inl ⟨h6, h.on hF hc hps, rfl⟩
    · omega
  · have he := hcm.one (.inr (.inr (.inr ⟨hsc, hu.new, h6, rfl⟩)))
    subst he
    rcases hres with ⟨h0, _⟩ | ⟨_, hps, rfl⟩
    · exact absurd rfl h0
    · refine .inr ⟨?_, h.on hF hc hps, by rw [hg.id]; rfl⟩
      have := hl.six
      omega
theorem Ls.more {l : List (Nat × Nat)} {q : Nat} (hl : Ls l) (hu : Up l q) (h1 : 1 ≤ q) (h2 : q ≤ 1000) (h6 : l.length < 6) : Ls (l ++ [(q, q + 1)]) :=
  hl.add (.inr (.inr (.inr ⟨⟨by omega, by omega, ⟨by omega⟩, ⟨by omega⟩⟩, hu.new, by omega, rfl⟩)))
theorem kcommit2 {W0 wr : World} {x : Nat} {F : Nat → Prop} {g : Sg} {v : Value} {l : List (Nat × Nat)} {q : Nat} (h : KI W0 wr x F g v l (l ++ [(q, q + 1)])) (hF : ∀ b, F b → b < W0.heap.size) (hg : G1 g) (hl : Ls (l ++ [(q, q + 1)])) (h1 : 1 ≤ q) (h2 : q ≤ 1000) :
    Calls Try.prog 11 #[.pointer (some ⟨x, 0, none⟩), .int .u64 (q : Nat), .int .u64 ((q : Int) + 1)] wr fun ex w' => Chg F wr w' ∧ KI W0 w' x F g v l (l ++ [(q, q + 1)]) ∧ ex = .returned (.tuple #[.agg #[.int .i64 0, .int .u64 0, .int .u64 0], .int .i64 15]) := by
  have e1 : ((q : Int) + 1) = ((q + 1 : Nat) : Int) := by omega
  rw [e1]
  refine (pcommit_any q (q + 1) h.ps hg.ok hl).mono ?_
  rintro ex w' ⟨er, F', hcm, hc, rfl, hres⟩
  refine ⟨hc, ?_⟩
  have he := hcm.one (.inr (.inl ⟨⟨by omega, by omega, ⟨by omega⟩, ⟨by omega⟩⟩, by simp, rfl⟩))
  subst he
  rcases hres with ⟨_, hps, rfl⟩ | ⟨h0, _⟩
  · exact ⟨h.on hF hc hps, rfl⟩
  · omega
theorem kleft {W0 wr : World} {x : Nat} {F : Nat → Prop} {g : Sg} {v : Value} {l lp : List (Nat × Nat)} (h : KI W0 wr x F g v l lp) :
    Calls Try.prog 13 #[.pointer (some ⟨x, 0, none⟩)] wr fun ex w' => Chg F wr w' ∧ KI W0 w' x F g v l lp ∧ ex = .returned (.int .i64 (lp.length : Nat)) := by
  obtain ⟨gb, ab, o, c, mb, hp, hF⟩ := h.ps
  refine (pleft_any hp.sb hp.mp hp.n3).mono ?_
  rintro e w' ⟨rfl, rfl⟩
  suffices hb : Below wr.heap.size wr ((wr.setCell ⟨x, 3, none⟩ (.int .i32 1)).setCell ⟨x, 3, none⟩ (.int .i32 0)) from ⟨Below.chg hb _, h.below hb, rfl⟩
  have h2 := (hp.sb.setLock 1).setLock 0
  refine ⟨rfl, rfl, rfl, by simp, fun k _ => ?_⟩
  by_cases hk : k = x
  · subst hk
    exact Eq.trans h2 (Eq.symm hp.sb)
  · exact (heap_set_other _ _ hk).trans (heap_set_other _ _ hk)

/-- Lists of one or two commitments, that of signer 2 last. -/
def tI (i : Int) (k : Nat) : Int := if k = 0 then i else 2
def tD (d X : Nat) (k : Nat) : Nat := if k = 0 then d else X
theorem rd_two {w : World} {b : Nat} {i : Int} {d e X3 X4 : Nat} (h : w.heap[b]? = some (.cells #[.int .i64 i, .int .u64 (d : Nat), .int .u64 (e : Nat), .int .i64 2, .int .u64 (X3 : Nat), .int .u64 (X4 : Nat)] 40 (0, 0))) : RdC w (some ⟨b, 0, none⟩) 2 (tI i) (tD d X3) (tD e X4) := by
  refine .inr ⟨b, 0, rfl, lt_of_block h, fun k hk => ?_⟩
  match k, hk with
  | 0, _ => simp [World.cell?, h, tI, tD]
  | 1, _ => simp [World.cell?, h, tI, tD]
theorem rd_one {w : World} {b : Nat} {X3 X4 : Nat} (h : w.heap[b]? = some (.cells #[.int .i64 2, .int .u64 (X3 : Nat), .int .u64 (X4 : Nat)] 40 (0, 0))) : RdC w (some ⟨b, 0, none⟩) 1 (fun _ => 2) (fun _ => X3) (fun _ => X4) := by
  refine .inr ⟨b, 0, rfl, lt_of_block h, fun k hk => ?_⟩
  match k, hk with
  | 0, _ => simp [World.cell?, h]
theorem look_two {d e X3 X4 : Nat} (hd : PRO d) (he : PRO e) (h3 : PRO X3) (h4 : PRO X4) : M.Look 2 2 2 (tI 1) (tD d X3) (tD e X4) 0 := by
  refine .inr (.inr (.inr ⟨⟨Nat.le_refl _, Nat.le_refl _⟩, fun j hj => ?_, fun j hj => ?_, rfl⟩))
  · match j, hj with
    | 0, _ => decide
    | 1, _ => decide
  · match j, hj with
    | 0, _ => exact ⟨hd, he⟩
    | 1, _ => exact ⟨h3, h4⟩
theorem hit_two {l : List (Nat × Nat)} {d e X3 X4 k i : Nat} (hk : k < 2) (h : M.Hit 1 l (tI 1) (tD d X3) (tD e X4) k i) : k = 0 ∧ ∃ hi : i < l.length, d = M.pw 2147483579 4 l[i].1 ∧ e = M.pw 2147483579 4 l[i].2 := by
  obtain ⟨hi, a1, a2, a3⟩ := h
  match k, hk with
  | 0, _ => exact ⟨rfl, hi, a2, a3⟩
  | 1, _ => simp [tI] at a1

/-- One commitment alone. -/
theorem ksign_few {W0 wr : World} {x : Nat} {F : Nat → Prop} {g : Sg} {v : Value} {l lp : List (Nat × Nat)} (h : KI W0 wr x F g v l lp) (hF : ∀ b, F b → b < W0.heap.size) (hg : G1 g) (hl : Ls lp) (s : ByteArray) (hs : s.size ≤ 65536) (b X3 X4 c : Nat)
    (hb : wr.heap[b]? = some (.cells #[.int .i64 2, .int .u64 (X3 : Nat), .int .u64 (X4 : Nat)] 40 (0, 0))) :
    Calls Try.prog 12 #[.pointer (some ⟨x, 0, none⟩), .string s, .slice (some ⟨b, 0, none⟩) 1 c] wr fun ex w' => Chg F wr w' ∧ KI W0 w' x F g v l lp ∧ ex = .returned (.tuple #[.int .u64 0, .int .i64 7]) := by
  refine (psign_any h.ps hg.ok hl s _ 1 c _ _ _ (rd_one hb) (by omega) hs).mono ?_
  rintro ex w' ⟨er, F', hlook, hc, rfl, hres⟩
  refine ⟨hc, ?_⟩
  have he := hlook.one (.inl ⟨by rw [hg.T]; omega, rfl⟩)
  subst he
  rcases hres with ⟨_, hps, rfl⟩ | ⟨h0, _⟩ | ⟨h0, _⟩ | ⟨h0, _⟩
  · exact ⟨h.on hF hc hps, rfl⟩
  · omega
  · omega
  · omega
/-- A commitment to no pair that is kept. -/
theorem ksign_mine {W0 wr : World} {x : Nat} {F : Nat → Prop} {g : Sg} {v : Value} {l lp : List (Nat × Nat)} (h : KI W0 wr x F g v l lp) (hF : ∀ b, F b → b < W0.heap.size) (hg : G1 g) (hl : Ls lp) (s : ByteArray) (hs : s.size ≤ 65536) (b d e X3 X4 c : Nat)
    (hb : wr.heap[b]? = some (.cells #[.int .i64 1, .int .u64 (d : Nat), .int .u64 (e : Nat), .int .i64 2, .int .u64 (X3 : Nat), .int .u64 (X4 : Nat)] 40 (0, 0))) (hd : PRO d) (he : PRO e) (h3 : PRO X3) (h4 : PRO X4)
    (hno : ∀ p ∈ lp, ¬ (d = M.pw 2147483579 4 p.1 ∧ e = M.pw 2147483579 4 p.2)) :
    Calls Try.prog 12 #[.pointer (some ⟨x, 0, none⟩), .string s, .slice (some ⟨b, 0, none⟩) 2 c] wr fun ex w' => Chg F wr w' ∧ KI W0 w' x F g v l lp ∧ ex = .returned (.tuple #[.int .u64 0, .int .i64 10]) := by
  refine (psign_any h.ps hg.ok hl s _ 2 c _ _ _ (rd_two hb) (by omega) hs).mono ?_
  rintro ex w' ⟨er, F', hlook, hc, rfl, hres⟩
  refine ⟨hc, ?_⟩
  rw [hg.T, hg.N] at hlook
  have h0 := hlook.one (look_two hd he h3 h4)
  subst h0
  have no : ∀ k i, k < 2 → ¬ M.Hit g.id lp (tI 1) (tD d X3) (tD e X4) k i := by
    intro k i hk hh
    rw [hg.id] at hh
    obtain ⟨_, hi, a, b⟩ := hit_two hk hh
    exact hno _ (List.getElem_mem hi) ⟨a, b⟩
  rcases hres with ⟨hn, _⟩ | ⟨_, _, hps, rfl⟩ | ⟨_, ⟨k, i, hk, hh⟩, _⟩ | ⟨_, k, i, hi, hk, hh, _⟩
  · exact absurd rfl hn
  · exact ⟨h.on hF hc hps, rfl⟩
  · exact absurd hh (no k i hk)
  · exact absurd hh (no k i hk)
/-- The j-th of those that are kept. -/
theorem ksign_ok {W0 wr : World} {x : Nat} {F : Nat → Prop} {g : Sg} {v : Value} {l lp : List (Nat × Nat)} (h : KI W0 wr x F g v l lp) (hF : ∀ b, F b → b < W0.heap.size) (hg : G1 g) (hl : Ls lp) (s : ByteArray) (hs : s.size ≤ 65536) (b d e X3 X4 c : Nat)
    (hb : wr.heap[b]? = some (.cells #[.int .i64 1, .int .u64 (d : Nat), .int .u64 (e : Nat), .int .i64 2, .int .u64 (X3 : Nat), .int .u64 (X4 : Nat)] 40 (0, 0))) (hd : PRO d) (he : PRO e) (h3 : PRO X3) (h4 : PRO X4)
    (j : Nat) (hj : j < lp.length) (e1 : d = M.pw 2147483579 4 lp[j].1) (e2 : e = M.pw 2147483579 4 lp[j].2) :
    Calls Try.prog 12 #[.pointer (some ⟨x, 0, none⟩), .string s, .slice (some ⟨b, 0, none⟩) 2 c] wr fun ex w' => Chg F wr w' ∧ (
      (KI W0 w' x F g v l lp ∧ ex = .returned (.tuple #[.int .u64 0, .int .i64 11])) ∨ (∃ z : Nat, KI W0 w' x F g v l (lp.take j ++ lp.drop (j + 1)) ∧ ex = .returned (.tuple #[.int .u64 (z : Nat), .int .i64 0]))) := by
  refine (psign_any h.ps hg.ok hl s _ 2 c _ _ _ (rd_two hb) (by omega) hs).mono ?_
  rintro ex w' ⟨er, F', hlook, hc, rfl, hres⟩
  refine ⟨hc, ?_⟩
  rw [hg.T, hg.N] at hlook
  have h0 := hlook.one (look_two hd he h3 h4)
  subst h0
  have yes : M.Hit g.id lp (tI 1) (tD d X3) (tD e X4) 0 j := ⟨hj, by rw [hg.id]; rfl, e1, e2⟩
  rcases hres with ⟨hn, _⟩ | ⟨_, hno, _⟩ | ⟨_, _, _, hps, rfl⟩ | ⟨_, k, i, hi, hk, hh, _, rfl, hps⟩
  · exact absurd rfl hn
  · exact absurd yes (hno 0 j (by omega))
  · exact .inl ⟨h.on hF hc hps, rfl⟩
  · obtain ⟨rfl, rfl⟩ := hit_one hlook hl.nd hl.sc (by omega) hk yes hh
    exact .inr ⟨_, h.on hF hc hps, rfl⟩
theorem ksign_ok2 {W0 wr : World} {x : Nat} {F : Nat → Prop} {g : Sg} {v : Value} {l lp : List (Nat × Nat)} (h : KI W0 wr x F g v l lp) (hF : ∀ b, F b → b < W0.heap.size) (hg : G1 g) (hl : Ls lp) (s : ByteArray) (hs : s.size ≤ 65536) (b d e X3 X4 c : Nat)
    (hb : wr.heap[b]? = some (.cells #[.int .i64 1, .int .u64 (d : Nat), .int .u64 (e : Nat), .int .i64 2, .int .u64 (X3 : Nat), .int .u64 (X4 : Nat)] 40 (0, 0))) (hd : PRO d) (he : PRO e) (h3 : PRO X3) (h4 : PRO X4)
    (j : Nat) (hj : j < lp.length) (e1 : d = M.pw 2147483579 4 lp[j].1) (e2 : e = M.pw 2147483579 4 lp[j].2) :
    Calls Try.prog 12 #[.pointer (some ⟨x, 0, none⟩), .string s, .slice (some ⟨b, 0, none⟩) 2 c] wr fun ex w' => Chg F wr w' ∧ ∃ zz er : Nat, ex = .returned (.tuple #[.int .u64 (zz : Nat), .int .i64 (er : Nat)]) ∧
      ((er = 11 ∧ KI W0 w' x F g v l lp) ∨ (er = 0 ∧ KI W0 w' x F g v l (lp.take j ++ lp.drop (j + 1)))) := by
  refine (ksign_ok h hF hg hl s hs b d e X3 X4 c hb hd he h3 h4 j hj e1 e2).mono ?_
  rintro ex w' ⟨hc, ⟨hk, rfl⟩ | ⟨z, hk, rfl⟩⟩
  · exact ⟨hc, 0, 11, rfl, .inl ⟨rfl, hk⟩⟩
  · exact ⟨hc, z, 0, rfl, .inr ⟨rfl, hk⟩⟩
/-- What is cut out of a list without doubles is in it no more. -/
theorem cut_gone {l : List (Nat × Nat)} (hl : Ls l) {j : Nat} (hj : j < l.length) : ∀ p ∈ l.take j ++ l.drop (j + 1), ¬ (M.pw 2147483579 4 l[j].1 = M.pw 2147483579 4 p.1 ∧ M.pw 2147483579 4 l[j].2 = M.pw 2147483579 4 p.2) := by
  rintro p hp ⟨e1, e2⟩
  have hs := hl.sc p (mem_cut hp)
  have hj' := hl.sc _ (List.getElem_mem hj)
  have e : l[j] = p := Prod.ext (four_eq hj'.1 hs.1 e1) (four_eq hj'.2 hs.2 e2)
  rw [← List.eraseIdx_eq_take_drop_succ, List.mem_eraseIdx_iff_getElem] at hp
  obtain ⟨i, hi, hne, he⟩ := hp
  rw [← he] at e
  rcases Nat.lt_trichotomy i j with h | h | h
  · exact List.pairwise_iff_getElem.1 hl.nd i j hi hj h e.symm
  · exact hne h
  · exact List.pairwise_iff_getElem.1 hl.nd j i hj hi h e
end Go.Proofs.Yteoioldbigomaab
