import Derived.Test.YteoioldbigomaaaVer
import Derived.Deep.RegionHeld
import Derived.Deep.QuietTactic
import Derived.BigQuiet
namespace Go.Proofs.Yteoioldbigomaaa
open Go.RowKit

/-- A world over W in which two cells stand. -/
def On2 (W : World) (g : Nat) (x0 x1 : Value) (w' : World) : Prop := w'.cell? ⟨g, 0, none⟩ = some x0 ∧ w'.cell? ⟨g, 1, none⟩ = some x1 ∧ Below W.heap.size W w'
theorem On2.ofB {W : World} {g : Nat} {x0 x1 : Value} {w' : World} (h : On2 W g x0 x1 w') : Below W.heap.size W w' := h.2.2
theorem On2.below {W : World} {g : Nat} {x0 x1 : Value} {w w' : World} (h : On2 W g x0 x1 w) (b : Below w.heap.size w w') : On2 W g x0 x1 w' :=
  ⟨(b.cell (World.block_lt_of_cell? w _ h.1)).trans h.1, (b.cell (World.block_lt_of_cell? w _ h.2.1)).trans h.2.1, h.2.2.trans (b.mono h.2.2.size)⟩

theorem both_verify (key r z : Nat) (s : ByteArray) (hs : s.size ≤ 65536) : ∃ b : Bool,
    (∀ w : World, Calls Try.prog 21 #[.int .u64 key, .string s, .agg #[.int .u64 r, .int .u64 z]] w fun e w' => e = .returned (.bool b) ∧ Below w.heap.size w w') ∧
    (∀ w : World, Calls Try.prog 22 #[.int .u64 key, .string s, .agg #[.int .u64 r, .int .u64 z]] w fun e w' => e = .returned (.bool b) ∧ Below w.heap.size w w') := by
  by_cases h : PRO key ∧ PRO r ∧ SC z
  · exact ⟨_, fun w => verify_ok key r z s w hs h.1 h.2.1 h.2.2, fun w => rverify_ok key r z s w hs h.1.ne h.2.1.ne h.1.el h.2.1.el h.2.2⟩
  · exact ⟨false, fun w => verify_no key r z s w h, fun w => rverify_no key r z s w fun hh => h ⟨⟨hh.1, hh.2.2.1⟩, ⟨hh.2.1, hh.2.2.2.1⟩, hh.2.2.2.2⟩⟩

set_option maxHeartbeats 1000000 in
set_option maxRecDepth 100000 in
theorem verifies_walk (key r z : Nat) (s : ByteArray) (w : World) :
    Calls Try.prog 8 #[.int .u64 key, .string s, .agg #[.int .u64 r, .int .u64 z]] w fun e w' => e = .returned (.bool true) ∧ Below w.heap.size w w' := by
  by_cases hn : (65536 : Int) < s.size
  · have hd : decide ((65536 : Int) < s.size) = true := decide_eq_true hn
    go_enter Try.func8, Try.ntmps8
    go_wp2_with fail
    go_quiet (fail)
    go_wp2_with fail
    go_ret
    exact ⟨rfl, below_drewN (below_alloc _ _) _⟩
  · obtain ⟨b, C1, C2⟩ := both_verify key r z s (by omega)
    have hd : decide ((65536 : Int) < s.size) = false := decide_eq_false hn
    have hz := heap_alloc_new w (.cells #[.int .u64 (r : Int), .int .u64 (z : Int)] 46)
    have B := below_alloc w (.cells #[.int .u64 (r : Int), .int .u64 (z : Int)] 46)
    clear hn
    go_enter Try.func8, Try.ntmps8
    go_wp2_with fail
    obtain ⟨W0, hW0⟩ : ∃ W0, w.alloc (.cells #[.int .u64 (r : Int), .int .u64 (z : Int)] 46) = W0 := ⟨_, rfl⟩
    rw [hW0] at hz B ⊢
    obtain ⟨c0, c1⟩ := two_cells hz
    have S0 : On2 W0 w.heap.size (.int .u64 (r : Int)) (.int .u64 (z : Int)) W0.drew := ⟨c0, c1, (Below.refl _ _).drew⟩
    clear hW0 hz c0 c1
    go_region_held (fun w' => w'.cell? ⟨w.heap.size, 0, none⟩ = some (.int .u64 (r : Int)) ∧ w'.cell? ⟨w.heap.size, 1, none⟩ = some (.int .u64 (z : Int)) ∧ Below W0.heap.size W0 w')
      (first | assumption | exact S0 | exact On2.below (by assumption) (by assumption))
      (first | (go_at_call 21; refine (C1 _).mono ?_; rintro ex w3 ⟨rfl, bel3⟩) | (go_at_call 22; refine (C2 _).mono ?_; rintro ex w4 ⟨rfl, bel4⟩))
    all_goals
      have bf := On2.ofB (g := w.heap.size) (x0 := .int .u64 (r : Int)) (x1 := .int .u64 (z : Int)) (W := W0) (by assumption)
      cases b
      all_goals
        go_wp2_with fail
        go_ret
        exact ⟨rfl, B.trans (bf.mono B.size)⟩
end Go.Proofs.Yteoioldbigomaaa
