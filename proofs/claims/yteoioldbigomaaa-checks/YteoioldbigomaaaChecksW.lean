import Derived.Test.YteoioldbigomaaaRchk
namespace Go.Proofs.Yteoioldbigomaaa
open Go.RowKit

theorem bothC (t n id : Int) (len sh : Nat) (f : Nat → Nat) : ∃ (b : Bool) (er : Int),
    (∀ a c w, RdF w a len (cu (M.sq f len)) → Calls Try.prog 12 #[.agg #[.int .i64 t, .int .i64 n, .slice a len c], .int .i64 id, .int .u64 sh] w fun e w' => e = .returned (.tuple #[.bool b, .int .i64 er]) ∧ Below w.heap.size w w') ∧
    (∀ a c w, RdF w a len (cu (M.sq f len)) → Calls Try.prog 13 #[.agg #[.int .i64 t, .int .i64 n, .slice a len c], .int .i64 id, .int .u64 sh] w fun e w' => e = .returned (.tuple #[.bool b, .int .i64 er]) ∧ Below w.heap.size w w') := by
  by_cases h : RightG t n len f
  · have h' := h
    obtain ⟨⟨h1, h2, h3, h4⟩, _, _⟩ := h'
    obtain ⟨N, rfl⟩ : ∃ N : Nat, n = N := ⟨n.toNat, by omega⟩
    subst h4
    by_cases hid : 1 ≤ id ∧ id ≤ N
    · by_cases hs : SC sh
      · refine ⟨decide (M.pw 2147483579 4 sh = M.pub f len id.toNat), 0, fun a c w hr => ?_, fun a c w hr => ?_⟩
        · refine (check_ok id a N len c sh f w hr h).mono fun e w' hh => ?_
          rcases hh.2 with ⟨h0, _⟩ | ⟨_, h0, _⟩ | ⟨_, _, he⟩
          · exact absurd hid h0
          · exact absurd hs h0
          · exact ⟨he, hh.1⟩
        · refine (rcheck_ok id a N len c sh f w hr h).mono fun e w' hh => ?_
          rcases hh.2 with ⟨h0, _⟩ | ⟨_, h0, _⟩ | ⟨_, _, he⟩
          · exact absurd hid h0
          · exact absurd hs h0
          · exact ⟨he, hh.1⟩
      · refine ⟨false, 2, fun a c w hr => ?_, fun a c w hr => ?_⟩
        · refine (check_ok id a N len c sh f w hr h).mono fun e w' hh => ?_
          rcases hh.2 with ⟨h0, _⟩ | ⟨_, _, he⟩ | ⟨_, h0, _⟩
          · exact absurd hid h0
          · exact ⟨he, hh.1⟩
          · exact absurd h0 hs
        · refine (rcheck_ok id a N len c sh f w hr h).mono fun e w' hh => ?_
          rcases hh.2 with ⟨h0, _⟩ | ⟨_, _, he⟩ | ⟨_, h0, _⟩
          · exact absurd hid h0
          · exact ⟨he, hh.1⟩
          · exact absurd h0 hs
    · refine ⟨false, 5, fun a c w hr => ?_, fun a c w hr => ?_⟩
      · refine (check_ok id a N len c sh f w hr h).mono fun e w' hh => ?_
        rcases hh.2 with ⟨_, he⟩ | ⟨h0, _⟩ | ⟨h0, _⟩
        · exact ⟨he, hh.1⟩
        · exact absurd h0 hid
        · exact absurd h0 hid
      · refine (rcheck_ok id a N len c sh f w hr h).mono fun e w' hh => ?_
        rcases hh.2 with ⟨_, he⟩ | ⟨h0, _⟩ | ⟨h0, _⟩
        · exact ⟨he, hh.1⟩
        · exact absurd h0 hid
        · exact absurd h0 hid
  · exact ⟨false, 4, fun a c w hr => check_group t n id a len c sh f w hr h, fun a c w hr => rcheck_group t n id a len c sh f w hr h⟩

set_option maxHeartbeats 1000000 in
theorem checks_walk (t n id : Int) (a : Option Addr) (len c sh : Nat) (f : Nat → Nat) (w : World) (hr : RdF w a len (cu (M.sq f len))) :
    Calls Try.prog 4 #[.agg #[.int .i64 t, .int .i64 n, .slice a len c], .int .i64 id, .int .u64 sh] w fun e w' => e = .returned (.bool true) ∧ Below w.heap.size w w' := by
  by_cases hbig : 65536 < len
  · have hb : (65536 : Int) < len := by omega
    clear hr hbig
    go_enter Try.func4, Try.ntmps4
    go_wp2_with fail
    go_ret
    exact ⟨rfl, below_alloc _ _⟩
  · have hb : ¬ (65536 : Int) < len := by omega
    obtain ⟨b, er, D1, D2⟩ := bothC t n id len sh f
    have B := below_alloc w (gro t n a len c)
    have Z := gro_new w t n a len c
    have zs := size_alloc w (gro t n a len c)
    have hr1 := hr.below B
    clear hr hbig
    go_enter Try.func4, Try.ntmps4
    go_wp2_with (go_at_call 12; refine (D1 a c _ hr1).mono ?_; rintro e w2 ⟨rfl, bel⟩; obtain ⟨z0, z1, z2, y0, y1, y2⟩ := three ((bel.block w.heap.size (by omega)).trans Z))
    have hr2 := hr1.below bel
    refine (D2 a c _ hr2).mono ?_
    rintro e w3 ⟨rfl, bel3⟩
    go_wp2_with fail
    go_ret
    exact ⟨by simp, (B.trans (bel.mono B.size)).trans (bel3.mono (Nat.le_trans B.size bel.size))⟩
end Go.Proofs.Yteoioldbigomaaa
