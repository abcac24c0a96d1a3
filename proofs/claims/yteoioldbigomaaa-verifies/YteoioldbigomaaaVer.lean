import Derived.Test.YteoioldbigomaaaPhash
import Derived.Test.YteoioldbigomaaaPro
import Derived.Test.YteoioldbigomaaaRver
namespace Go.Proofs.Yteoioldbigomaaa
open Go.RowKit

theorem two_rd (w : World) (r key : Nat) : RdF (w.alloc (.cells #[.int .u64 (r : Int), .int .u64 (key : Int)] 30)) (some ⟨w.heap.size, 0, none⟩) 2 (cu (M.sq (M.two r key) 2)) := by
  refine .inr ⟨w.heap.size, 0, rfl, by rw [size_alloc]; omega, fun i hi => ?_⟩
  rw [M.cu_sq _ _ _ hi]
  have hz := heap_alloc_new w (.cells #[.int .u64 (r : Int), .int .u64 (key : Int)] 30)
  match i, hi with
  | 0, _ => unfold World.cell?; simp only [hz]; rfl
  | 1, _ => unfold World.cell?; simp only [hz]; rfl

set_option maxRecDepth 100000 in
theorem challenge_any (r key : Nat) (s : ByteArray) (w : World) (hs : s.size ≤ 65536) :
    Calls Try.prog 52 #[.int .u64 r, .int .u64 key, .string s] w fun e w' => e = .returned (.int .u64 (M.chal r key s : Nat)) ∧ Below w.heap.size w w' := by
  have B := below_alloc w (.cells #[.int .u64 (r : Int), .int .u64 (key : Int)] 30)
  have C := phash_any 2 (some ⟨w.heap.size, 0, none⟩) 2 2 (M.two r key) s _ (by omega) hs (two_rd w r key)
  clear hs
  go_enter Try.func52, Try.ntmps52
  go_wp2_with fail
  refine C.mono ?_
  rintro e w2 ⟨rfl, hw⟩
  subst hw
  go_wp2_with fail
  go_ret
  exact ⟨rfl, B⟩

set_option maxHeartbeats 1000000 in
set_option maxRecDepth 100000 in
theorem verify_no (key r z : Nat) (s : ByteArray) (w : World) (h : ¬ (PRO key ∧ PRO r ∧ SC z)) :
    Calls Try.prog 21 #[.int .u64 key, .string s, .agg #[.int .u64 r, .int .u64 z]] w fun e w' => e = .returned (.bool false) ∧ Below w.heap.size w w' := by
  have H : Hid (¬ (PRO key ∧ PRO r ∧ SC z)) := h
  have B := below_alloc w (.cells #[.int .u64 (r : Int), .int .u64 (z : Int)] 46)
  clear h
  obtain ⟨y1, b1, H1, C1⟩ := properOf_any key (w.alloc (.cells #[.int .u64 (r : Int), .int .u64 (z : Int)] 46))
  obtain ⟨y2, b2, H2, C2⟩ := properOf_any r (w.alloc (.cells #[.int .u64 (r : Int), .int .u64 (z : Int)] 46))
  obtain ⟨y3, b3, H3, C3⟩ := scalarOf_any z (w.alloc (.cells #[.int .u64 (r : Int), .int .u64 (z : Int)] 46))
  have hb : (b1 && b2 && b3) = false := by
    rcases H1.out with ⟨h1, _, p1⟩ | ⟨h1, _⟩ <;> rcases H2.out with ⟨h2, _, p2⟩ | ⟨h2, _⟩ <;> rcases H3.out with ⟨h3, _, p3⟩ | ⟨h3, _⟩ <;> subst h1 h2 h3 <;> first | rfl | exact absurd ⟨p1, p2, p3⟩ H.out
  clear H1 H2 H3
  go_enter Try.func21, Try.ntmps21
  go_wp2_with fail
  refine C1.mono ?_
  rintro e w2 ⟨rfl, hw⟩
  subst hw
  go_wp2_with fail
  refine C2.mono ?_
  rintro e w2 ⟨rfl, hw⟩
  subst hw
  go_wp2_with fail
  refine C3.mono ?_
  rintro e w2 ⟨rfl, hw⟩
  subst hw
  clear C1 C2 C3
  cases b1 <;> cases b2 <;> cases b3 <;> first | (cases hb; done) | (go_wp2_with fail; go_ret; exact ⟨rfl, B⟩)

set_option maxHeartbeats 2000000 in
set_option maxRecDepth 100000 in
theorem verify_ok (key r z : Nat) (s : ByteArray) (w : World) (hs : s.size ≤ 65536) (h1 : PRO key) (h2 : PRO r) (h3 : SC z) :
    Calls Try.prog 21 #[.int .u64 key, .string s, .agg #[.int .u64 r, .int .u64 z]] w fun e w' => e = .returned (.bool (decide (M.pw 2147483579 4 z = r * M.pw 2147483579 key (M.chal r key s) % 2147483579))) ∧ Below w.heap.size w w' := by
  have B := below_alloc w (.cells #[.int .u64 (r : Int), .int .u64 (z : Int)] 46)
  have C1 := properOf_yes key (w.alloc (.cells #[.int .u64 (r : Int), .int .u64 (z : Int)] 46)) h1
  have C2 := properOf_yes r (w.alloc (.cells #[.int .u64 (r : Int), .int .u64 (z : Int)] 46)) h2
  have C3 := scalarOf_yes z (w.alloc (.cells #[.int .u64 (r : Int), .int .u64 (z : Int)] 46)) h3
  have C4 := toThe_any z (w.alloc (.cells #[.int .u64 (r : Int), .int .u64 (z : Int)] 46)) h3
  obtain ⟨pz, hpz⟩ : ∃ pz, pz = M.pw 2147483579 4 z := ⟨_, rfl⟩
  rw [← hpz] at C4 ⊢
  have C5 := challenge_any r key s (w.alloc (.cells #[.int .u64 (r : Int), .int .u64 (z : Int)] 46)) hs
  have hcs : SC (M.chal r key s) := M.hash_sc _ _ _ _
  obtain ⟨c, hc⟩ : ∃ c, c = M.chal r key s := ⟨_, rfl⟩
  rw [← hc] at C5 hcs ⊢
  have C6 := fun w' => power_any key c w' h1.el.el (Nat.le_of_lt hcs.out)
  obtain ⟨p, hp⟩ : ∃ p, p = M.pw 2147483579 key c := ⟨_, rfl⟩
  have hep : EL p := by rw [hp]; exact EL.pw _ _
  rw [← hp]
  simp only [← hp] at C6
  have C7 := fun w' => etimes_any r p w' h2.el.el hep
  clear hpz hc hp hs h1 h2 h3 hcs hep
  go_enter Try.func21, Try.ntmps21
  go_wp2_with fail
  refine C1.mono ?_
  rintro e w2 ⟨rfl, hw⟩
  subst hw
  go_wp2_with fail
  refine C2.mono ?_
  rintro e w2 ⟨rfl, hw⟩
  subst hw
  go_wp2_with fail
  refine C3.mono ?_
  rintro e w2 ⟨rfl, hw⟩
  subst hw
  go_wp2_with fail
  refine C4.mono ?_
  rintro e w2 ⟨rfl, hw⟩
  subst hw
  go_wp2_with fail
  refine C5.mono ?_
  rintro e w3 ⟨rfl, bel⟩
  go_wp2_with fail
  refine (C6 _).mono ?_
  rintro e w4 ⟨rfl, hw⟩
  subst hw
  go_wp2_with fail
  refine (C7 _).mono ?_
  rintro e w4 ⟨rfl, hw⟩
  subst hw
  go_wp2_with fail
  go_ret
  refine ⟨?_, B.trans (bel.mono B.size)⟩
  exact ret_beq _ _ _
end Go.Proofs.Yteoioldbigomaaa
