import Derived.Test.YteoioldbigomaaaGreatPsg
import Derived.Test.YteoioldbigomaaaGreatPco
import Derived.Test.YteoioldbigomaaaGreatSte
namespace Go.Proofs.YteoioldbigomaaaGreat
open Go.RowKit

theorem left_below {w : World} {x gb id sh mb : Nat} (h : SB w x gb id sh 0 mb) : Below w.heap.size w ((w.setCell ⟨x, 3, none⟩ (.int .i32 1)).setCell ⟨x, 3, none⟩ (.int .i32 0)) := by
  have h2 := (h.setLock 1).setLock 0
  refine ⟨rfl, rfl, rfl, by simp, fun k _ => ?_⟩
  by_cases hk : k = x
  · subst hk
    exact Eq.trans h2 (Eq.symm h)
  · exact (heap_set_other _ _ hk).trans (heap_set_other _ _ hk)
/-- The program's signers. -/
def prg : PrgC where
  toSide := side
  new := fun t n id a len c sh f w hr _ => pnew_any t n id a len c sh f w hr
  left := by
    rintro w x F g l ⟨gb, ab, o, c, mb, h, rfl⟩ _ _
    refine (pleft_any h.sb h.mp h.n3).mono ?_
    rintro e w' ⟨rfl, rfl⟩
    exact ⟨rfl, left_below h.sb⟩
  commit := fun d e {_ _ _ _ _} hP hok hl => pcommit_any d e hP hok hl

/-- The two signers of a pair have answered alike. -/
theorem sign_both {w6 w7 w8 : World} {X : Nat} {F : Nat → Prop} {g : Sg} {l : List (Nat × Nat)} {s : ByteArray} {n : Nat} {I : Nat → Int} {D E : Nat → Nat} {p cb cc : Nat} {v : Value} {a1 e1 a2 e2 : Nat} (hl : Ls l)
    (h1 : PsiPost w6 X F g l s n I D E (.returned (.tuple #[.int .u64 (a1 : Nat), .int .i64 (e1 : Nat)])) w7) (h2 : RsiPost p g.T g.N cb cc g.f g.id g.sh v l s n I D E w7 (.returned (.tuple #[.int .u64 (a2 : Nat), .int .i64 (e2 : Nat)])) w8) (hR : RS w7 p g.T g.N cb cc g.f g.id g.sh v l) :
    a1 = a2 ∧ e1 = e2 ∧ Chg F w6 w7 ∧ Chg (fun k => k = p) w7 w8 ∧ ∃ (F' : Nat → Prop) (v' : Value) (l' : List (Nat × Nat)), (∀ b, F' b → F b ∨ w6.heap.size ≤ b) ∧ PS w7 X F' g l' ∧ RS w8 p g.T g.N cb cc g.f g.id g.sh v' l' ∧ (∀ k, v'.ownBlock = some k → v.ownBlock = some k ∨ w7.heap.size ≤ k) ∧ Ls l' := by
  have inj : ∀ {x y z t : Nat}, Ending.returned (.tuple #[.int .u64 (x : Nat), .int .i64 (y : Nat)]) = .returned (.tuple #[.int .u64 (z : Nat), .int .i64 (t : Nat)]) → x = z ∧ y = t := by
    intro x y z t h
    simp at h
    omega
  obtain ⟨er, F', hlook, hc, hF, hres⟩ := h1
  obtain ⟨er2, hlook2, hres2⟩ := h2
  have hee := hlook.one hlook2
  subst hee
  have stay : ∀ {w8 : World}, Below w7.heap.size w7 w8 → Chg (fun k => k = p) w7 w8 ∧ RS w8 p g.T g.N cb cc g.f g.id g.sh v l := fun b => ⟨Below.chg b _, hR.below b⟩
  rcases hres with ⟨hne, hps, he⟩ | ⟨h0, hno, hps, he⟩ | ⟨h0, hex, hone, hps, he⟩ | ⟨h0, k, i, hi, hk, hh, hne1, he, hps⟩
  · rcases hres2 with ⟨_, b8, he2⟩ | ⟨h0', _⟩ | ⟨h0', _⟩ | ⟨h0', _⟩
    · obtain ⟨r1, r2⟩ := inj (x := a1) (y := e1) (z := 0) (t := er) he
      obtain ⟨r3, r4⟩ := inj (x := a2) (y := e2) (z := 0) (t := er) he2
      exact ⟨by omega, by omega, hc, (stay b8).1, F', v, l, hF, hps, (stay b8).2, fun k hk => .inl hk, hl⟩
    · exact absurd h0' hne
    · exact absurd h0' hne
    · exact absurd h0' hne
  · rcases hres2 with ⟨hn, _⟩ | ⟨_, _, b8, he2⟩ | ⟨_, ⟨k, i, hk, hh⟩, _⟩ | ⟨_, k, i, hi, hk, hh, _⟩
    · exact absurd h0 hn
    · obtain ⟨r1, r2⟩ := inj (x := a1) (y := e1) (z := 0) (t := 10) he
      obtain ⟨r3, r4⟩ := inj (x := a2) (y := e2) (z := 0) (t := 10) he2
      exact ⟨by omega, by omega, hc, (stay b8).1, F', v, l, hF, hps, (stay b8).2, fun k hk => .inl hk, hl⟩
    · exact absurd hh (hno k i hk)
    · exact absurd hh (hno k i hk)
  · rcases hres2 with ⟨hn, _⟩ | ⟨_, hno, _⟩ | ⟨_, _, _, b8, he2⟩ | ⟨_, k, i, hi, hk, hh, hne1, _⟩
    · exact absurd h0 hn
    · obtain ⟨k, i, hk, hh⟩ := hex
      exact absurd hh (hno k i hk)
    · obtain ⟨r1, r2⟩ := inj (x := a1) (y := e1) (z := 0) (t := 11) he
      obtain ⟨r3, r4⟩ := inj (x := a2) (y := e2) (z := 0) (t := 11) he2
      exact ⟨by omega, by omega, hc, (stay b8).1, F', v, l, hF, hps, (stay b8).2, fun k hk => .inl hk, hl⟩
    · exact absurd hone hne1
  · rcases hres2 with ⟨hn, _⟩ | ⟨_, hno, _⟩ | ⟨_, _, hone, _⟩ | ⟨_, k', i', hi', hk', hh', _, he2, v', hrs, hc8, hv'⟩
    · exact absurd h0 hn
    · exact absurd hh (hno k i hk)
    · exact absurd hone hne1
    · subst h0
      obtain ⟨rfl, rfl⟩ := hit_one hlook hl.nd hl.sc hk hk' hh hh'
      obtain ⟨r1, r2⟩ := inj (t := 0) he
      obtain ⟨r3, r4⟩ := inj (t := 0) he2
      exact ⟨by omega, by omega, hc, hc8, F', v', l.take i ++ l.drop (i + 1), hF, hps, hrs, fun k hk => .inr (hv' k hk), hl.cut i⟩
theorem psi_ret {w : World} {x : Nat} {F : Nat → Prop} {g : Sg} {l : List (Nat × Nat)} {s : ByteArray} {n : Nat} {I : Nat → Int} {D E : Nat → Nat} {ex : Ending} {w' : World} (h : PsiPost w x F g l s n I D E ex w') : ∃ a e : Nat, ex = .returned (.tuple #[.int .u64 (a : Nat), .int .i64 (e : Nat)]) := by
  obtain ⟨er, F', _, _, _, ⟨_, _, he⟩ | ⟨_, _, _, he⟩ | ⟨_, _, _, _, he⟩ | ⟨_, _, _, _, _, _, _, he, _⟩⟩ := h
  · exact ⟨0, er, he⟩
  · exact ⟨0, 10, he⟩
  · exact ⟨0, 11, he⟩
  · exact ⟨_, 0, he⟩
theorem rsi_ret {p T N cb cc : Nat} {f : Nat → Nat} {id sh : Nat} {v : Value} {l : List (Nat × Nat)} {s : ByteArray} {n : Nat} {I : Nat → Int} {D E : Nat → Nat} {w : World} {ex : Ending} {w' : World} (h : RsiPost p T N cb cc f id sh v l s n I D E w ex w') : ∃ a e : Nat, ex = .returned (.tuple #[.int .u64 (a : Nat), .int .i64 (e : Nat)]) := by
  obtain ⟨er, _, ⟨_, _, he⟩ | ⟨_, _, _, he⟩ | ⟨_, _, _, _, he⟩ | ⟨_, _, _, _, _, _, _, he, _⟩⟩ := h
  · exact ⟨0, er, he⟩
  · exact ⟨0, 10, he⟩
  · exact ⟨0, 11, he⟩
  · exact ⟨_, 0, he⟩
end Go.Proofs.YteoioldbigomaaaGreat
