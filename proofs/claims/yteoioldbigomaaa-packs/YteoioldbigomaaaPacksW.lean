import Derived.Test.YteoioldbigomaaaRpck
namespace Go.Proofs.Yteoioldbigomaaa
open Go.RowKit

set_option maxHeartbeats 1000000 in
set_option maxRecDepth 100000 in
theorem packs_walk (a : Option Addr) (c n : Nat) (I : Nat → Int) (D E : Nat → Nat) (w : World) (hr : RdC w a n I D E) :
    Calls Try.prog 6 #[.slice a n c] w fun ex w' => ex = .returned (.bool true) ∧ Below w.heap.size w w' := by
  by_cases hn : (65536 : Int) < n
  · clear hr
    go_enter Try.func6, Try.ntmps6
    go_wp2_with fail
    go_ret
    exact ⟨rfl, Below.refl _ _⟩
  · have C1 := pack_any a c n I D E w (by omega) hr
    have C2 := fun w' (h : RdC w' a n I D E) => rpack_any a c n I D E w' (by omega) h
    have hd : decide ((65536 : Int) < n) = false := decide_eq_false hn
    obtain ⟨t, ht⟩ : ∃ t, t = bs (M.packed I D E n) := ⟨_, rfl⟩
    rw [← ht] at C1
    simp only [← ht] at C2
    clear hn ht
    go_enter Try.func6, Try.ntmps6
    go_wp2_with fail
    refine C1.mono ?_
    rintro e w2 ⟨rfl, bel⟩
    have hr2 := hr.below bel
    go_wp2_with fail
    refine (C2 _ hr2).mono ?_
    rintro e w3 ⟨rfl, bel3⟩
    clear hr hr2 C1 C2
    go_wp2_with fail
    go_ret
    exact ⟨rfl, bel.trans (bel3.mono bel.size)⟩
end Go.Proofs.Yteoioldbigomaaa
