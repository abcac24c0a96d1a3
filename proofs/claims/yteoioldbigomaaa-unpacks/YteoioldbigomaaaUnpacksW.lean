import Derived.Test.YteoioldbigomaaaRunp
namespace Go.Proofs.Yteoioldbigomaaa
open Go.RowKit

set_option maxHeartbeats 1000000 in
set_option maxRecDepth 100000 in
theorem sameCommits_yes (a b : Option Addr) (c d n : Nat) (I : Nat → Int) (D E : Nat → Nat) (w : World) (hlen : n ≤ 65536) (hr : RdC w a n I D E) (hs : RdC w b n I D E) :
    Calls Try.prog 20 #[.slice a n c, .slice b n d] w fun e w' => e = .returned (.bool true) ∧ Below w.heap.size w w' := by
  go_enter Try.func20, Try.ntmps20
  go_wp2_with fail
  go_loopw [13] (fun i wr => ∃ k : Nat, k ≤ n ∧ i = .int .i64 k ∧ Below w.heap.size w wr) (fun i _ => n - (intOf i).toNat)
  case atStart => exact ⟨0, Nat.zero_le _, rfl, Below.refl _ _⟩
  case round =>
    obtain ⟨k, hk, rfl, bel⟩ := hrel
    by_cases hlt : k < n
    · obtain ⟨b1, o1, rfl, hb1, hc1⟩ := hr.at (by omega)
      obtain ⟨b2, o2, rfl, hb2, hc2⟩ := hs.at (by omega)
      obtain ⟨p0, p1, p2⟩ := hc1 k hlt
      obtain ⟨q0, q1, q2⟩ := hc2 k hlt
      obtain ⟨x, hx⟩ : ∃ x, x = I k := ⟨_, rfl⟩
      obtain ⟨y, hy⟩ : ∃ y, y = D k := ⟨_, rfl⟩
      obtain ⟨z, hz⟩ : ∃ z, z = E k := ⟨_, rfl⟩
      rw [← hx] at p0 q0
      rw [← hy] at p1 q1
      rw [← hz] at p2 q2
      have r0 := (bel.cell (p := ⟨b1, o1 + k * 3, none⟩) hb1).trans p0
      have r1 := (bel.cell (p := ⟨b1, o1 + k * 3 + 1, none⟩) hb1).trans p1
      have r2 := (bel.cell (p := ⟨b1, o1 + k * 3 + 2, none⟩) hb1).trans p2
      have s0 := (bel.cell (p := ⟨b2, o2 + k * 3, none⟩) hb2).trans q0
      have s1 := (bel.cell (p := ⟨b2, o2 + k * 3 + 1, none⟩) hb2).trans q1
      have s2 := (bel.cell (p := ⟨b2, o2 + k * 3 + 2, none⟩) hb2).trans q2
      have hki : (k : Int) < n := by omega
      clear hx hy hz hc1 hr hc2 hs p0 p1 p2 q0 q1 q2
      go_wp2_with fail
      go_quiet (fail)
      go_wp2_with fail
      go_roundw
      case rel => exact ⟨k + 1, by omega, by go_num, below_drewN bel _⟩
      case measure => simp [intOf]; omega
    · go_wp2_with fail
      go_ret
      exact ⟨rfl, bel⟩

set_option maxHeartbeats 1000000 in
set_option maxRecDepth 100000 in
theorem unpacks_walk (s : ByteArray) (w : World) :
    Calls Try.prog 7 #[.string s] w fun e w' => e = .returned (.bool true) ∧ Below w.heap.size w w' := by
  have CS : ∀ w', Calls Try.prog 20 #[.slice none 0 0, .slice none 0 0] w' fun e w2 => e = .returned (.bool true) ∧ Below w'.heap.size w' w2 :=
    fun w' => sameCommits_yes none none 0 0 0 (fun _ => 0) (fun _ => 0) (fun _ => 0) w' (by omega) (.inl rfl) (.inl rfl)
  by_cases h : s.size % 9 = 0 ∧ s.size ≤ 81
  · obtain ⟨n, hn⟩ : ∃ n, n = s.size / 9 := ⟨_, rfl⟩
    have C1 := unpack_any s n w (by omega) (by omega)
    have C2 := fun w' => runpack_any s n w' (by omega) (by omega)
    have hn9 : n ≤ 9 := by omega
    obtain ⟨L, hL⟩ : ∃ L, L = tx s := ⟨_, rfl⟩
    rw [← hL] at C1
    simp only [← hL] at C2
    clear h hn hL
    go_enter Try.func7, Try.ntmps7
    go_wp2_with fail
    refine C1.mono ?_
    rintro e w2 ⟨bel, er, hu, ⟨he, rfl⟩ | ⟨he, a, c, rfl, rd⟩⟩
    · go_wp2_with fail
      refine (C2 _).mono ?_
      rintro e w3 ⟨bel3, er3, hu3, ⟨he3, rfl⟩ | ⟨he3, a3, c3, rfl, rd3⟩⟩
      · have hee := hu.one hu3
        subst hee
        clear C1 C2 hu hu3
        go_wp2_with fail
        refine (CS _).mono ?_
        rintro e w4 ⟨rfl, bel4⟩
        go_wp2_with fail
        go_ret
        exact ⟨rfl, bel.trans ((bel3.trans (bel4.mono bel3.size)).mono bel.size)⟩
      · exact absurd (hu.one hu3) (by omega)
    · go_wp2_with fail
      refine (C2 _).mono ?_
      rintro e w3 ⟨bel3, er3, hu3, ⟨he3, rfl⟩ | ⟨he3, a3, c3, rfl, rd3⟩⟩
      · exact absurd (hu.one hu3) (by omega)
      · have C3 := sameCommits_yes a a3 c c3 n _ _ _ w3 (by omega) (rd.below bel3) rd3
        clear C1 C2 CS hu hu3 rd rd3
        go_wp2_with fail
        refine C3.mono ?_
        rintro e w4 ⟨rfl, bel4⟩
        go_wp2_with fail
        go_ret
        exact ⟨rfl, bel.trans ((bel3.trans (bel4.mono bel3.size)).mono bel.size)⟩
  · have C1 := unpack_len s w h
    have C2 := fun w' => runpack_len s w' h
    clear h
    go_enter Try.func7, Try.ntmps7
    go_wp2_with fail
    refine C1.mono ?_
    rintro e w2 ⟨rfl, hw⟩
    subst hw
    go_wp2_with fail
    refine (C2 _).mono ?_
    rintro e w3 ⟨rfl, hw⟩
    subst hw
    go_wp2_with fail
    refine (CS _).mono ?_
    rintro e w4 ⟨rfl, bel4⟩
    go_wp2_with fail
    go_ret
    exact ⟨rfl, bel4⟩
end Go.Proofs.Yteoioldbigomaaa
