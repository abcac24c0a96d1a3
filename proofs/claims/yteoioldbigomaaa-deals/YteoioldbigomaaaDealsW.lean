import Derived.Test.YteoioldbigomaaaBoth
namespace Go.Proofs.Yteoioldbigomaaa
open Go.RowKit

set_option maxHeartbeats 1000000 in
theorem deals_walk (t n : Int) (a : Option Addr) (len c : Nat) (F : Nat → Nat) (w : World) (hr : RdF w a len (cu (M.sq F len))) (hz : a = none → len = 0 ∧ c = 0) :
    Calls Try.prog 3 #[.int .i64 t, .int .i64 n, .slice a len c] w fun e w' => e = .returned (.bool true) ∧ Below w.heap.size w w' := by
  by_cases hbig : 65536 < len
  · have hb : (65536 : Int) < len := by omega
    clear hr hz hbig
    go_enter Try.func3, Try.ntmps3
    go_wp2_with fail
    go_ret
    exact ⟨rfl, Below.refl _ _⟩
  · have hb : ¬ (65536 : Int) < len := by omega
    have hl : len ≤ 65536 := by omega
    obtain ⟨t', n', er, m1, m2, F1, F2, hm1, hm2, D1, D2⟩ := both t n len F
    have hm1' : m1 ≤ 65536 := by omega
    have hm2' : m2 ≤ 65536 := by omega
    clear hm1 hm2
    go_enter Try.func3, Try.ntmps3
    go_wp2_with (at_builtin; refine wpList_append_nil _ rfl _ _ rfl len c a F rfl rfl hz hr hl ?_; intro a0 c0 w0 rd0 bel0)
    have hr0 := hr.below bel0
    go_wp2_with (go_at_call 9; refine (D1 a c _ hr0).mono ?_; rintro e w1 ⟨bel1, a1, c1, a2, c2, rfl, rd1, rd2⟩)
    have hr1 := hr0.below bel1
    have rd01 := rd0.below bel1
    obtain ⟨o1, ho1⟩ : ∃ o1, o1 = Obj.cells #[.int .i64 t', .int .i64 n', .slice a1 m1 c1] 24 := ⟨_, rfl⟩
    have B1 := below_alloc w1 o1
    have E1 := rd01.below B1
    have Z1 := heap_alloc_new w1 o1
    have S1 := size_alloc w1 o1
    have rd1' := rd1.below B1
    have rd2' := rd2.below B1
    have hr1' := hr1.below B1
    subst ho1
    clear hr0 rd01 rd0 rd1 rd2 hr1 D1 hr
    go_wp2_with (go_at_call 10; refine (D2 a0 c0 _ E1).mono ?_; rintro e w2 ⟨bel2, a3, c3, a4, c4, rfl, rd3, rd4⟩; have hlt2 : w1.heap.size < w2.heap.size := by { have := bel2.size; omega }; obtain ⟨z0, z1, z2, y0, y1, y2⟩ := three ((bel2.block w1.heap.size (by omega)).trans Z1))
    obtain ⟨o3, ho3⟩ : ∃ o3, o3 = Obj.cells #[.int .i64 t', .int .i64 n', .slice a3 m1 c3] 24 := ⟨_, rfl⟩
    have B3 := below_alloc w2 o3
    have s1 := (rd1'.below bel2).below B3
    have s2 := rd3.below B3
    have s3 := (rd2'.below bel2).below B3
    have s4 := rd4.below B3
    have s5 := (hr1'.below bel2).below B3
    have s6 := (E1.below bel2).below B3
    have BB : Below w.heap.size w (w2.alloc o3) := bel0.trans ((bel1.mono bel0.size).trans ((B1.mono (Nat.le_trans bel0.size bel1.size)).trans ((bel2.mono (Nat.le_trans bel0.size (Nat.le_trans bel1.size B1.size))).trans (B3.mono (Nat.le_trans bel0.size (Nat.le_trans bel1.size (Nat.le_trans B1.size bel2.size)))))))
    subst ho3
    clear rd1' rd2' rd3 rd4 hr1' E1 B1 B3 bel0 bel1 bel2 z0 z1 z2 y0 y1 y2 Z1 S1 D2
    go_wp2_with fail
    refine (same_yes _ _ _ _ m1 F1 _ hm1' s1 s2).mono ?_
    rintro e w4 ⟨rfl, bel4⟩
    have s3 := s3.below bel4
    have s4 := s4.below bel4
    have s5 := s5.below bel4
    have s6 := s6.below bel4
    have BB := BB.trans (bel4.mono BB.size)
    go_wp2_with fail
    refine (same_yes _ _ _ _ m2 F2 _ hm2' s3 s4).mono ?_
    rintro e w5 ⟨rfl, bel5⟩
    have s5 := s5.below bel5
    have s6 := s6.below bel5
    have BB := BB.trans (bel5.mono BB.size)
    go_wp2_with fail
    refine (same_yes _ _ _ _ len F _ hl s5 s6).mono ?_
    rintro e w6 ⟨rfl, bel6⟩
    go_wp2_with fail
    go_ret
    exact ⟨rfl, BB.trans (bel6.mono BB.size)⟩
end Go.Proofs.Yteoioldbigomaaa
