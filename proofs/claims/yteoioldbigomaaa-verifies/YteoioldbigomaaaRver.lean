import Derived.Test.YteoioldbigomaaaHash
import Derived.Test.YteoioldbigomaaaRchk
namespace Go.Proofs.Yteoioldbigomaaa
open Go.RowKit

/-- The challenge of r, a key and a message. -/
def M.two (r key i : Nat) : Nat := if i = 0 then r else key
def M.chal (r key : Nat) (s : ByteArray) : Nat := M.hash 2 (M.two r key) 2 s

set_option maxRecDepth 100000 in
theorem rchallenge_any (r key : Nat) (s : ByteArray) (w : World) (hs : s.size ≤ 65536) :
    Calls Try.prog 55 #[.int .u64 r, .int .u64 key, .string s] w fun e w' => e = .returned (.int .u64 (M.chal r key s : Nat)) ∧ Below w.heap.size w w' := by
  have B := below_alloc w (.cells #[.int .u64 (r : Int), .int .u64 (key : Int)] 30)
  have hr : RdF (w.alloc (.cells #[.int .u64 (r : Int), .int .u64 (key : Int)] 30)) (some ⟨w.heap.size, 0, none⟩) 2 (cu (M.sq (M.two r key) 2)) := by
    refine .inr ⟨w.heap.size, 0, rfl, by rw [size_alloc]; omega, fun i hi => ?_⟩
    rw [M.cu_sq _ _ _ hi]
    have hz := heap_alloc_new w (.cells #[.int .u64 (r : Int), .int .u64 (key : Int)] 30)
    match i, hi with
    | 0, _ => unfold World.cell?; simp only [hz]; rfl
    | 1, _ => unfold World.cell?; simp only [hz]; rfl
  have C := hash_any 2 (some ⟨w.heap.size, 0, none⟩) 2 2 (M.two r key) s _ (by omega) (by omega) hs hr
  clear hr hs
  go_enter Try.func55, Try.ntmps55
  go_wp2_with fail
  refine C.mono ?_
  rintro e w2 ⟨rfl, bel⟩
  go_wp2_with fail
  go_ret
  exact ⟨rfl, B.trans (bel.mono B.size)⟩

theorem two_cells {w : World} {b : Nat} {x0 x1 : Value} {t : TypeId} (h : w.heap[b]? = some (.cells #[x0, x1] t (0, 0))) : w.cell? ⟨b, 0, none⟩ = some x0 ∧ w.cell? ⟨b, 1, none⟩ = some x1 := by
  simp [World.cell?, h]

theorem ret_beq (a r p : Nat) : Ending.returned (.bool ((a : Int) == (r : Int) * p % 2147483579)) = .returned (.bool (decide (a = r * p % 2147483579))) := by
  have e : ((r : Int) * p % 2147483579) = ((r * p % 2147483579 : Nat) : Int) := by simp
  rw [e, beq_cast]

/-- A signature that holds. -/
structure VOK (key : Nat) (s : ByteArray) (r z : Nat) : Prop where
  k1 : key ≠ 1
  r1 : r ≠ 1
  ke : ISE key
  re : ISE r
  zs : SC z
  eq : M.pw 2147483579 4 z = r * M.pw 2147483579 key (M.chal r key s) % 2147483579

set_option maxHeartbeats 2000000 in
set_option maxRecDepth 100000 in
theorem rverify_no (key r z : Nat) (s : ByteArray) (w : World) (h : ¬ (key ≠ 1 ∧ r ≠ 1 ∧ ISE key ∧ ISE r ∧ SC z)) :
    Calls Try.prog 22 #[.int .u64 key, .string s, .agg #[.int .u64 r, .int .u64 z]] w fun e w' => e = .returned (.bool false) ∧ Below w.heap.size w w' := by
  have H : Hid (¬ (key ≠ 1 ∧ r ≠ 1 ∧ ISE key ∧ ISE r ∧ SC z)) := h
  clear h
  by_cases h1 : key = 1
  · subst h1
    go_enter Try.func22, Try.ntmps22
    go_wp2_with fail
    go_ret
    exact ⟨rfl, below_alloc _ _⟩
  · have e1 : ((key : Int) == 1) = false := by simp; omega
    by_cases h2 : r = 1
    · subst h2
      go_enter Try.func22, Try.ntmps22
      go_wp2_with fail
      go_ret
      exact ⟨rfl, below_alloc _ _⟩
    · have e2 : ((r : Int) == 1) = false := by simp; omega
      by_cases h3 : ISE key
      · by_cases h4 : ISE r
        · have h5 : decide ((1073741789 : Int) ≤ z) = true := decide_eq_true (by
            have : ¬ z < 1073741789 := fun hz => H.out ⟨h1, h2, h3, h4, ⟨hz⟩⟩
            omega)
          clear h1 h2
          go_enter Try.func22, Try.ntmps22
          go_wp2_with fail
          refine (relement_yes key _ h3).mono ?_
          rintro e w2 ⟨rfl, hw⟩
          subst hw
          go_wp2_with fail
          refine (relement_yes r _ h4).mono ?_
          rintro e w2 ⟨rfl, hw⟩
          subst hw
          go_wp2_with fail
          go_ret
          exact ⟨rfl, below_alloc _ _⟩
        · clear h1 h2
          go_enter Try.func22, Try.ntmps22
          go_wp2_with fail
          refine (relement_yes key _ h3).mono ?_
          rintro e w2 ⟨rfl, hw⟩
          subst hw
          go_wp2_with fail
          refine (relement_no r _ h4).mono ?_
          rintro e w2 ⟨rfl, hw⟩
          subst hw
          go_wp2_with fail
          go_ret
          exact ⟨rfl, below_alloc _ _⟩
      · clear h1 h2
        go_enter Try.func22, Try.ntmps22
        go_wp2_with fail
        refine (relement_no key _ h3).mono ?_
        rintro e w2 ⟨rfl, hw⟩
        subst hw
        go_wp2_with fail
        go_ret
        exact ⟨rfl, below_alloc _ _⟩

set_option maxHeartbeats 8000000 in
set_option maxRecDepth 100000 in
theorem rverify_ok (key r z : Nat) (s : ByteArray) (w : World) (hs : s.size ≤ 65536) (h1 : key ≠ 1) (h2 : r ≠ 1) (h3 : ISE key) (h4 : ISE r) (h5 : SC z) :
    Calls Try.prog 22 #[.int .u64 key, .string s, .agg #[.int .u64 r, .int .u64 z]] w fun e w' => e = .returned (.bool (decide (M.pw 2147483579 4 z = r * M.pw 2147483579 key (M.chal r key s) % 2147483579))) ∧ Below w.heap.size w w' := by
  have e1 : ((key : Int) == 1) = false := by simp; omega
  have e2 : ((r : Int) == 1) = false := by simp; omega
  have e5 : decide ((1073741789 : Int) ≤ z) = false := decide_eq_false (by have := h5.out; omega)
  have CB := fun w' => base_any z w' h5
  obtain ⟨pz, hpz⟩ : ∃ pz, pz = M.pw 2147483579 4 z := ⟨_, rfl⟩
  rw [← hpz] at CB
  have HZP : Hid (pz = M.pw 2147483579 4 z) := hpz
  clear hpz
  have CC := fun w' => rchallenge_any r key s w' hs
  obtain ⟨c, hc⟩ : ∃ c, c = M.chal r key s := ⟨_, rfl⟩
  rw [← hc] at CC
  have hsc : SC c := by rw [hc]; exact M.hash_sc _ _ _ _
  have CP := fun w' => rpower_any c key c 2147483579 w' (Nat.le_refl _) (Nat.le_of_lt hsc.out) h3.hi (by omega) (by omega)
  obtain ⟨p, hp⟩ : ∃ p, p = M.pw 2147483579 key c := ⟨_, rfl⟩
  rw [← hp] at CP
  have hep : EL p := by rw [hp]; exact EL.pw _ _
  have bm := mul_bd (Nat.le_of_lt h4.hi) (Nat.le_of_lt hep.out)
  have hr1 : IntKind.u64.wrap ((r : Int) * p) = (r : Int) * p := by rw [IntKind.wrap_u64]; omega
  have hr3 : ((r : Int) * p).tmod 2147483579 = (r : Int) * p % 2147483579 := Int.tmod_eq_emod_of_nonneg bm.1
  have HC : Hid (c = M.chal r key s) := hc
  have HP : Hid (p = M.pw 2147483579 key c) := hp
  clear h1 h2 hc hp bm hs
  go_enter Try.func22, Try.ntmps22
  go_wp2_with fail
  refine (relement_yes key _ h3).mono ?_
  rintro e w2 ⟨rfl, hw⟩
  subst hw
  go_wp2_with fail
  refine (relement_yes r _ h4).mono ?_
  rintro e w2 ⟨rfl, hw⟩
  subst hw
  go_wp2_with fail
  have hz := heap_alloc_new w (.cells #[.int .u64 (r : Int), .int .u64 (z : Int)] 46)
  have hsz := size_alloc w (.cells #[.int .u64 (r : Int), .int .u64 (z : Int)] 46)
  have B := below_alloc w (.cells #[.int .u64 (r : Int), .int .u64 (z : Int)] 46)
  obtain ⟨W0, hW0⟩ : ∃ W0, w.alloc (.cells #[.int .u64 (r : Int), .int .u64 (z : Int)] 46) = W0 := ⟨_, rfl⟩
  rw [hW0] at hz hsz B ⊢
  obtain ⟨c0, c1⟩ := two_cells hz
  have dr : Below W0.heap.size W0 W0.drew := (Below.refl _ _).drew
  clear hW0 e1 e2 e5
  go_region_with (first | (go_at_call 30; refine (CB _).mono ?_; rintro e w' ⟨rfl, hw'⟩; subst hw') | (go_at_call 54; refine (CP _).mono ?_; rintro e w' ⟨rfl, hw'⟩; subst hw') | (go_at_call 55; refine (CC _).mono ?_; rintro e w3 ⟨rfl, bel3⟩; obtain ⟨d0, d1⟩ := two_cells ((bel3.block w.heap.size (by have := dr.size; omega)).trans ((dr.block w.heap.size (by omega)).trans hz))))
  all_goals
    go_wp2_with fail
    go_ret
    refine ⟨?_, B.trans ((dr.mono B.size).trans (bel3.mono (Nat.le_trans B.size dr.size)))⟩
    rw [← HC.out, ← HP.out, ← HZP.out]
    exact ret_beq _ _ _
end Go.Proofs.Yteoioldbigomaaa
