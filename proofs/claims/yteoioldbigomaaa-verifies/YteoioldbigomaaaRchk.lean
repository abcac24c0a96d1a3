import Derived.Test.YteoioldbigomaaaRight
namespace Go.Proofs.Yteoioldbigomaaa
open Go.RowKit

set_option maxHeartbeats 1000000 in
theorem rpublic_any (t n : Int) (a : Option Addr) (T c id : Nat) (f : Nat → Nat) (w : World) (hT : T ≤ 9) (hid : id ≤ 9) (hf : ∀ i, i < T → EL (f i)) (hr : RdF w a T (cu (M.sq f T))) :
    Calls Try.prog 35 #[.agg #[.int .i64 t, .int .i64 n, .slice a T c], .int .i64 id] w fun e w' => e = .returned (.int .u64 (M.pub f T id : Nat)) ∧ Below w.heap.size w w' := by
  have HF : Hid (∀ i, i < T → EL (f i)) := hf
  have B := below_alloc w (gro t n a T c)
  have hr1 := hr.below B
  clear hf hr
  go_enter Try.func35, Try.ntmps35
  go_wp2_with fail
  go_loopw [5, 11] (fun s i wr => ∃ k S : Nat, k ≤ T ∧ i = .int .i64 k ∧ s = .int .u64 S ∧ EL S ∧ wr = w.alloc (gro t n a T c) ∧ Hid (S = M.prodP ((M.sq (fun i => M.pw 2147483579 (f i) (M.pw 1073741789 id i)) T).take k))) (fun _ i _ => T - (intOf i).toNat)
  case atStart => exact ⟨0, 1, Nat.zero_le _, rfl, rfl, ⟨by omega⟩, rfl, rfl⟩
  case round =>
    obtain ⟨k, S, hk, rfl, rfl, hS, rfl, HS⟩ := hrel
    by_cases hlt : k < T
    · obtain ⟨b, o, rfl, hb, hc⟩ := hr1.at (by omega)
      obtain ⟨x, hx⟩ : ∃ x, x = f k := ⟨_, rfl⟩
      have hcx := hc k hlt
      rw [M.cu_sq _ _ _ hlt, ← hx] at hcx
      have HX : Hid (x = f k) := hx
      have hex : EL x := by rw [hx]; exact HF.out k hlt
      have C1 := fun w' => rpower_any k id k 1073741789 w' (Nat.le_refl _) (by omega) (by omega) (by omega) (by omega)
      obtain ⟨y, hy⟩ : ∃ y, y = M.pw 1073741789 id k := ⟨_, rfl⟩
      have hsy : SC y := by rw [hy]; exact SC.pw _ _
      rw [← hy] at C1
      have HY : Hid (y = M.pw 1073741789 id k) := hy
      have C2 := fun w' => rpower_any y x y 2147483579 w' (Nat.le_refl _) (Nat.le_of_lt hsy.out) hex.out (by omega) (by omega)
      obtain ⟨z, hz⟩ : ∃ z, z = M.pw 2147483579 x y := ⟨_, rfl⟩
      have hez : EL z := by rw [hz]; exact EL.pw _ _
      rw [← hz] at C2
      have HZ : Hid (z = M.pw 2147483579 x y) := hz
      have bz := mul_bd (Nat.le_of_lt hS.out) (Nat.le_of_lt hez.out)
      clear hx hc hr1 HF hy hz
      go_wp2_with fail
      refine (C1 _).mono ?_
      rintro e w' ⟨rfl, hw'⟩
      subst hw'
      go_wp2_with fail
      refine (C2 _).mono ?_
      rintro e w' ⟨rfl, hw'⟩
      subst hw'
      go_wp2_with fail
      go_roundw
      case rel =>
        refine ⟨k + 1, S * z % 2147483579, by omega, by go_num, by go_num, EL.mod _, trivial, ?_⟩
        rw [M.sq_take_succ _ _ _ hlt, M.prodP_snoc, ← HS.out, ← HX.out, ← HY.out, ← HZ.out]; rfl
      case measure => simp [intOf]; omega
    · go_wp2_with fail
      go_ret
      exact ⟨ret_int (by rw [HS.out, List.take_of_length_le (by rw [M.sq_len]; omega)]; rfl), B⟩

set_option maxHeartbeats 400000 in
theorem rcheck_group (t n id : Int) (a : Option Addr) (len c sh : Nat) (f : Nat → Nat) (w : World) (hr : RdF w a len (cu (M.sq f len))) (h : ¬ RightG t n len f) :
    Calls Try.prog 13 #[.agg #[.int .i64 t, .int .i64 n, .slice a len c], .int .i64 id, .int .u64 sh] w fun e w' => e = .returned (.tuple #[.bool false, .int .i64 4]) ∧ Below w.heap.size w w' := by
  have B := below_alloc w (gro t n a len c)
  have C : ∀ w', RdF w' a len (cu (M.sq f len)) → Calls Try.prog 34 #[.agg #[.int .i64 t, .int .i64 n, .slice a len c]] w' fun e w'' => e = .returned (.bool false) ∧ Below w'.heap.size w' w'' := by
    intro w' hr'
    by_cases h1 : Fits t n len
    · have h1' := h1
      obtain ⟨g1, g2, g3, g4⟩ := h1'
      obtain ⟨N, rfl⟩ : ∃ N : Nat, n = N := ⟨n.toNat, by omega⟩
      subst g4
      refine (right_core a N len c f w' (by omega) (by omega) (by omega) hr').mono fun e w'' hh => ?_
      rcases hh.2 with ⟨hy, _⟩ | ⟨_, he⟩
      · exact absurd ⟨h1, hy.2, hy.1⟩ h
      · exact ⟨he, hh.1⟩
    · exact right_fit t n a len c w' h1
  have hr1 := hr.below B
  clear h hr
  go_enter Try.func13, Try.ntmps13
  go_wp2_with (go_at_call 34; refine (C _ hr1).mono ?_; rintro e w2 ⟨rfl, bel⟩)
  go_ret2
  exact ⟨rfl, B.trans (bel.mono B.size)⟩

set_option maxHeartbeats 1000000 in
theorem rcheck_ok (id : Int) (a : Option Addr) (N T c sh : Nat) (f : Nat → Nat) (w : World) (hr : RdF w a T (cu (M.sq f T))) (h : RightG T N T f) :
    Calls Try.prog 13 #[.agg #[.int .i64 T, .int .i64 N, .slice a T c], .int .i64 id, .int .u64 sh] w fun e w' => Below w.heap.size w w' ∧
      ((¬ (1 ≤ id ∧ id ≤ N) ∧ e = .returned (.tuple #[.bool false, .int .i64 5])) ∨
       ((1 ≤ id ∧ id ≤ N) ∧ ¬ SC sh ∧ e = .returned (.tuple #[.bool false, .int .i64 2])) ∨
       ((1 ≤ id ∧ id ≤ N) ∧ SC sh ∧ e = .returned (.tuple #[.bool (decide (M.pw 2147483579 4 sh = M.pub f T id.toNat)), .int .i64 0]))) := by
  obtain ⟨hfit, hel, hone⟩ := h
  have hN : N ≤ 9 := by obtain ⟨h1, h2, h3, h4⟩ := hfit; omega
  have hTN : T ≤ N := by obtain ⟨h1, h2, h3, h4⟩ := hfit; omega
  have hT2 : 2 ≤ T := by obtain ⟨h1, h2, h3, h4⟩ := hfit; omega
  have hT : T ≤ 9 := by omega
  have B := below_alloc w (gro T N a T c)
  have Z := gro_new w T N a T c
  have zs := size_alloc w (gro T N a T c)
  have hr1 := hr.below B
  have C : Calls Try.prog 34 #[.agg #[.int .i64 T, .int .i64 N, .slice a T c]] (w.alloc (gro T N a T c)) fun e w'' => e = .returned (.bool true) ∧ Below (w.alloc (gro T N a T c)).heap.size (w.alloc (gro T N a T c)) w'' := by
    refine (right_core a N T c f _ hT2 hTN hN hr1).mono fun e w'' hh => ?_
    rcases hh.2 with ⟨_, he⟩ | ⟨hn, _⟩
    · exact ⟨he, hh.1⟩
    · exact absurd ⟨hone, hel⟩ hn
  have HL : Hid (∀ i, i < T → EL (f i)) := fun i hi => (hel i hi).el
  clear hfit hel hone hr
  by_cases h1 : id < 1
  · go_enter Try.func13, Try.ntmps13
    go_wp2_with (go_at_call 34; refine C.mono ?_; rintro e w2 ⟨rfl, bel⟩; obtain ⟨z0, z1, z2, y0, y1, y2⟩ := three ((bel.block w.heap.size (by omega)).trans Z))
    go_ret2
    exact ⟨B.trans (bel.mono B.size), .inl ⟨by omega, rfl⟩⟩
  · by_cases h2 : (N : Int) < id
    · go_enter Try.func13, Try.ntmps13
      go_wp2_with (go_at_call 34; refine C.mono ?_; rintro e w2 ⟨rfl, bel⟩; obtain ⟨z0, z1, z2, y0, y1, y2⟩ := three ((bel.block w.heap.size (by omega)).trans Z))
      go_ret2
      exact ⟨B.trans (bel.mono B.size), .inl ⟨by omega, rfl⟩⟩
    · obtain ⟨k, rfl⟩ : ∃ k : Nat, id = k := ⟨id.toNat, by omega⟩
      have hid : (1 : Int) ≤ k ∧ (k : Int) ≤ N := by omega
      by_cases hs : SC sh
      · have hns : decide ((1073741789 : Int) ≤ sh) = false := decide_eq_false (by have := hs.out; omega)
        have d1 : decide ((k : Int) < 1) = false := decide_eq_false (by omega)
        have d2 : decide (N < k) = false := decide_eq_false (by omega)
        go_enter Try.func13, Try.ntmps13
        go_wp2_with (go_at_call 34; refine C.mono ?_; rintro e w2 ⟨rfl, bel⟩; obtain ⟨z0, z1, z2, y0, y1, y2⟩ := three ((bel.block w.heap.size (by omega)).trans Z))
        have hr2 := hr1.below bel
        have dr : Below w2.heap.size w2 w2.drew := (Below.refl _ _).drew
        have hr3 := hr2.below dr
        have HID : Hid ((1 : Int) ≤ k ∧ (k : Int) ≤ N) := hid
        have hk9 : k ≤ 9 := by omega
        clear hns hid h1 h2 C Z zs d1 d2
        go_region_with (first | (go_at_call 30; refine (base_any _ _ hs).mono ?_; rintro e w' ⟨rfl, hw'⟩; subst hw') | (go_at_call 35; refine (rpublic_any _ _ a T c k f _ hT hk9 HL.out hr3).mono ?_; rintro e w4 ⟨rfl, bel4⟩))
        all_goals
          go_wp2_with fail
          go_ret2
          refine ⟨(B.trans (bel.mono B.size)).trans ((dr.mono (Nat.le_trans B.size bel.size)).trans (bel4.mono (Nat.le_trans B.size (Nat.le_trans bel.size dr.size)))),   .inr (.inr ⟨HID.out, hs, ret2 ?_ rfl⟩)⟩
          exact beq_cast _ _
      · have hns : (1073741789 : Int) ≤ sh := by have : ¬ sh < 1073741789 := fun h => hs ⟨h⟩
                                                 omega
        go_enter Try.func13, Try.ntmps13
        go_wp2_with (go_at_call 34; refine C.mono ?_; rintro e w2 ⟨rfl, bel⟩; obtain ⟨z0, z1, z2, y0, y1, y2⟩ := three ((bel.block w.heap.size (by omega)).trans Z))
        go_ret2
        exact ⟨B.trans (bel.mono B.size), .inr (.inl ⟨hid, hs, rfl⟩)⟩
end Go.Proofs.Yteoioldbigomaaa
