import Derived.Test.YteoioldbigomaabDealt
import Derived.Deep.QuietTactic
import Derived.BigQuiet
namespace Go.Proofs.Yteoioldbigomaab
open Go.RowKit

theorem check_sure (b : Bool) (a : Option Addr) (N T c id sh : Nat) (f : Nat → Nat) (w : World) (hr : RdF w a T (cu (M.sq (M.coms f) T))) (h2 : 2 ≤ T) (hTN : T ≤ N) (h9 : N ≤ 9) (h0 : f 0 ≠ 0) (hs0 : SC (f 0)) (h1 : 1 ≤ id) (hid : id ≤ N) (hs : SC sh) (hb : decide (sh = M.poly f T id) = b) :
    Calls Try.prog 6 #[.agg #[.int .i64 T, .int .i64 N, .slice a T c], .int .i64 id, .int .u64 sh] w fun e w' => e = .returned (.tuple #[.bool b, .int .i64 0]) ∧ Below w.heap.size w w' := by
  refine (check_ok id a N T c sh (M.coms f) w hr (M.right_coms f T N h2 hTN h9 h0 hs0)).mono fun e w' h => ?_
  rcases h.2 with ⟨hn, _⟩ | ⟨_, hn, _⟩ | ⟨_, _, he⟩
  · exact absurd ⟨by omega, by omega⟩ hn
  · exact absurd hs hn
  · refine ⟨?_, h.1⟩
    rw [he, ← hb]
    congr 5
    rw [Int.toNat_natCast]
    exact decide_eq_decide.2 (M.pub_one f T id sh hs)

theorem other_ne {y z : Nat} (hy : SC y) (hz1 : 1 ≤ z) (hz2 : z < 1073741789) : (y + z) % 1073741789 ≠ y := by
  have := hy.out
  intro h
  omega

theorem combine_sure (a b : Option Addr) (c c' m T : Nat) (d f : Nat → Nat) (w : World) (hT : 0 < T) (hTm : T ≤ m) (hm : m ≤ 9) (hd : ∀ j, j < m → 1 ≤ d j ∧ d j ≤ 9) (hlt : ∀ i j, i < j → j < m → d i < d j) (h0 : SC (f 0))
    (hr : RdF w a m (ci d)) (hs : RdF w b m (cu (M.sq (fun i => M.poly f T (d i)) m))) :
    Calls Try.prog 8 #[.slice a m c, .slice b m c'] w fun e w' => e = .returned (.tuple #[.int .u64 (f 0 : Nat), .int .i64 0]) ∧ Below w.heap.size w w' := by
  have hv : ∀ i, i < m → VAL (fun i => ((d i : Nat) : Int)) (fun i => M.poly f T (d i)) i := fun i hi =>
    ⟨by have := (hd i hi).1; show (1 : Int) ≤ (d i : Nat); omega, by have := (hd i hi).2; show ((d i : Nat) : Int) ≤ 9; omega, fun hp => by have := hlt (i - 1) i (by omega) hi; show ((d (i - 1) : Nat) : Int) < (d i : Nat); omega, M.sumQ_lt _⟩
  refine (combine_core a b c c' m (fun i => ((d i : Nat) : Int)) (fun i => M.poly f T (d i)) w (by omega) hm hr hs).mono fun e w' h => ?_
  rcases h.2 with ⟨k, er, hk, _, hb, _⟩ | ⟨_, he⟩
  · exact absurd (hv k hk) hb.not
  · refine ⟨?_, h.1⟩
    rw [he]
    have e1 : (fun i => (((d i : Nat) : Int)).toNat) = d := by funext i; exact Int.toNat_natCast _
    rw [e1, M.comb_first d f m T hT hTm hd hlt h0]

set_option maxHeartbeats 2000000 in
theorem recombined_walk (t n mask : Int) (seed other : Nat) (w : World) (ht1 : -9223372036854775808 ≤ t) (ht2 : t ≤ 9223372036854775807) (hn1 : -9223372036854775808 ≤ n) (hn2 : n ≤ 9223372036854775807) (hs : seed ≤ 18446744073709551615) (ho : other ≤ 18446744073709551615) :
    Calls Try.prog 3 #[.int .i64 t, .int .i64 n, .int .u64 seed, .int .i64 mask, .int .u64 other] w fun e w' => e = .returned (.bool true) ∧ Below w.heap.size w w' := by
  have D := dealt_any t n mask seed w ht1 ht2 hn1 hn2
  clear ht1 ht2 hn1 hn2
  go_enter Try.func3, Try.ntmps3
  go_wp2_with fail
  refine D.mono ?_
  rintro e w1 ⟨bel1, T, N, m, a1, c1, a2, c2, a3, c3, d, hT2, hTN, hN9, hTm, hmN, rfl, rd1, rd2, rd3, hd, hlt, _⟩
  have HD : Hid (∀ j, j < m → 1 ≤ d j ∧ d j ≤ N) := hd
  have HL : Hid (∀ i j, i < j → j < m → d i < d j) := hlt
  obtain ⟨W2, hW2⟩ : ∃ W2, W2 = w1.alloc (gro T N a1 T c1) := ⟨_, rfl⟩
  have B2 : Below w1.heap.size w1 W2 := by rw [hW2]; exact below_alloc _ _
  have Z2 : W2.heap[w1.heap.size]? = some (.cells #[.int .i64 T, .int .i64 N, .slice a1 T c1] 25 (0, 0)) := by rw [hW2]; exact gro_new _ _ _ _ _ _
  have rd1' := rd1.below B2
  have rd2' := rd2.below B2
  have rd3' := rd3.below B2
  have belw2 : Below w.heap.size w W2 := bel1.trans (B2.mono bel1.size)
  clear rd1 rd2 rd3 B2 bel1 D hd hlt
  go_wp2_with fail
  have hW2' : w1.alloc (Obj.cells #[.int .i64 (T : Int), .int .i64 (N : Int), .slice a1 T c1] 25) = W2 := hW2.symm
  rw [hW2']
  clear hW2 hW2'
  go_loopw [15, 38] (fun v i wr => ∃ k : Nat, k ≤ m ∧ i = .int .i64 k ∧ Below W2.heap.size W2 wr ∧ Grow wr W2.heap.size v k (fun i => M.poly (cf seed) T (d i))) (fun _ i _ => m - (intOf i).toNat)
  case atStart => exact ⟨0, Nat.zero_le _, rfl, Below.refl _ _, Grow.nil _ _ _⟩
  case round =>
    obtain ⟨k, hk, rfl, bel, G⟩ := hrel
    by_cases hlt : k < m
    · obtain ⟨x, hx⟩ : ∃ x, d k = x + 1 := ⟨d k - 1, by have := HD.out k hlt; omega⟩
      have hxN : x < N := by have := HD.out k hlt; omega
      have hxi : (x : Int) < N := by omega
      obtain ⟨b3, o3, rfl, hb3, hc3⟩ := rd3'.at (by omega)
      obtain ⟨b2, o2, rfl, hb2, hc2⟩ := rd2'.at (by omega)
      obtain ⟨y, hy⟩ : ∃ y, y = M.poly (cf seed) T (x + 1) := ⟨_, rfl⟩
      have hc3k : wr.cell? ⟨b3, o3 + k, none⟩ = some (.int .i64 ((x : Int) + 1)) := by
        rw [bel.cell (by exact hb3), hc3 k hlt]; unfold ci; rw [hx]; simp
      have hc2x : wr.cell? ⟨b2, o2 + x, none⟩ = some (.int .u64 (y : Int)) := by
        rw [bel.cell (by exact hb2), hc2 x hxN, M.cu_sq _ _ _ hxN, hy]
      have HX : Hid (d k = x + 1) := hx
      have HY : Hid (y = M.poly (cf seed) T (x + 1)) := hy
      have hsy : SC y := by rw [hy]; exact M.sumQ_lt _
      obtain ⟨av, cv, rfl, _, _⟩ := G.rd
      have hkb : (k : Int) < m := by omega
      clear hc3 hc2 hx hy HD HL
      go_wp2_with (at_builtin; refine wpList_append1 _ rfl (.tmp 42) (.tmp 48) rfl W2.heap.size k _ (fun i => M.poly (cf seed) T (d i)) rfl (G.below (below_alloc _ _)) _ rfl (by rw [HX.out, ← HY.out]; go_simp) (by omega) (Nat.le_trans bel.size (below_alloc _ _).size) ?_; intro v' w' G' bel')
      obtain ⟨av3, cv3, rfl, _, _⟩ := G'.rd
      obtain ⟨wA, hwA⟩ : ∃ wA, wA = w' := ⟨_, rfl⟩
      subst hwA
      have belA : Below W2.heap.size W2 wA := (bel.alloc bel.size _).trans bel'
      have hcA : wA.cell? ⟨b2, o2 + x, none⟩ = some (.int .u64 (y : Int)) := by
        rw [belA.cell (by exact hb2), ← bel.cell (by exact hb2)]; exact hc2x
      obtain ⟨z0, z1, z2, y0, y1, y2⟩ := three ((belA.block w1.heap.size (lt_of_block Z2)).trans Z2)
      have drA : Below wA.heap.size wA wA.drew := (Below.refl _ _).drew
      have rdA := (rd1'.below belA).below drA
      have C1 := check_sure true a1 N T c1 (x + 1) y (cf seed) _ rdA hT2 hTN hN9 (cf_ne seed 0) (cf_sc seed 0) (by omega) (by omega) hsy (decide_eq_true HY.out)
      have e1 : (((x + 1 : Nat) : Int)) = (x : Int) + 1 := by omega
      rw [e1] at C1
      clear bel bel' G hc3k hc2x z0 z1 z2 y0 y1 y2
      obtain ⟨z0, z1, z2, y0, y1, y2⟩ := three ((belA.block w1.heap.size (lt_of_block Z2)).trans Z2)
      have hw2 : IntKind.i64.wrap (x : Int) = x := by rw [IntKind.wrap_i64]; omega
      go_region_with (go_at_call 6; refine C1.mono ?_; rintro e wB ⟨rfl, belB⟩)
      all_goals
        have belAB : Below W2.heap.size W2 wB := belA.trans ((drA.mono belA.size).trans (belB.mono (Nat.le_trans belA.size drA.size)))
        have GB1 := (G'.below drA).below belB
        have HG : Hid (Grow wB W2.heap.size (.slice av3 (k + 1) cv3) (k + 1) (fun i => M.poly (cf seed) T (d i))) := GB1
        have hcB : wB.cell? ⟨b2, o2 + x, none⟩ = some (.int .u64 (y : Int)) := by
          rw [belAB.cell (by exact hb2), ← belA.cell (by exact hb2)]; exact hcA
        have drB : Below wB.heap.size wB wB.drew := (Below.refl _ _).drew
        have rdB := (rd1'.below belAB).below drB
        obtain ⟨z, hz⟩ : ∃ z, z = 1 + other % 1073741788 := ⟨_, rfl⟩
        have CS := fun w' => scalar_any other w' ho
        rw [← hz] at CS
        obtain ⟨s2, hs2⟩ : ∃ s2, s2 = (y + z) % 1073741789 := ⟨_, rfl⟩
        have hss : SC s2 := by rw [hs2]; exact SC.mod _
        have C2 := check_sure false a1 N T c1 (x + 1) s2 (cf seed) _ rdB hT2 hTN hN9 (cf_ne seed 0) (cf_sc seed 0) (by omega) (by omega) hss (decide_eq_false (by rw [hs2, ← HY.out]; exact other_ne hsy (by omega) (by omega)))
        rw [e1] at C2
        have hy9 := hsy.out
        have hr1 : IntKind.u64.wrap ((y : Int) + z) = (y : Int) + z := by rw [u64_wrap]; omega
        have hr2 : ((y : Int) + z) % 1073741789 = s2 := by rw [hs2]; omega
        have hr3 : ((y : Int) + z).tmod 1073741789 = s2 := by rw [Int.tmod_eq_emod_of_nonneg (by omega)]; exact hr2
        clear C1 hw2 z0 z1 z2 y0 y1 y2 hz hs2 hcA rdA G' GB1 belB drA belA hy9
        obtain ⟨z0, z1, z2, y0, y1, y2⟩ := three ((belAB.block w1.heap.size (lt_of_block Z2)).trans Z2)
        go_wp2_with fail
        have hw2 : IntKind.i64.wrap (x : Int) = x := by rw [IntKind.wrap_i64]; omega
        go_region_with (first | (go_at_call 7; refine (CS _).mono ?_; rintro e w' ⟨rfl, hw'⟩; subst hw') | (go_at_call 6; refine C2.mono ?_; rintro e wC ⟨rfl, belC⟩))
      all_goals
        clear C2 CS hw2 hr1 hr2 hr3 z0 z1 z2 y0 y1 y2 rdB hcB rd1' rd2' rd3' Z2
        go_wp2_with fail
        go_roundw
        case rel =>
          exact ⟨k + 1, by omega, by go_num, belAB.trans ((drB.mono belAB.size).trans (belC.mono (Nat.le_trans belAB.size drB.size))), (HG.out.below drB).below belC⟩
        case measure => simp [intOf]; omega
    · have hkm : m = k := by omega
      subst hkm
      obtain ⟨av, cv, rfl, rdS, _⟩ := G.rd
      have rdI := rd3'.below bel
      have rdG := rd1'.below bel
      have Z3 := (bel.block w1.heap.size (lt_of_block Z2)).trans Z2
      have belw3 : Below w.heap.size w wr := belw2.trans (bel.mono belw2.size)
      have C := combine_sure a3 av c3 cv m T d (cf seed) wr (by omega) hTm (by omega) (fun j hj => by have := HD.out j hj; omega) HL.out (cf_sc seed 0) rdI rdS
      obtain ⟨f0, hf0⟩ : ∃ f0, f0 = cf seed 0 := ⟨_, rfl⟩
      rw [← hf0] at C
      have hf0s : SC f0 := by rw [hf0]; exact cf_sc seed 0
      have CS := fun w' => scalar_any seed w' hs
      rw [← cf_zero seed hs, ← hf0] at CS
      have CP := fun w' => kpower_any f0 w' (Nat.le_of_lt hf0s.out)
      obtain ⟨pg, hpg⟩ : ∃ pg, pg = M.pw 2147483579 4 f0 := ⟨_, rfl⟩
      rw [← hpg] at CP
      have HPG : Hid (M.coms (cf seed) 0 = pg) := by rw [hpg, hf0]; rfl
      clear G bel rdS rdI Z2 rd1' rd2' rd3' HD HL belw2 hf0 hpg
      go_wp2_with fail
      refine C.mono ?_
      rintro e w3 ⟨rfl, bel3⟩
      have rdG3 := rdG.below bel3
      obtain ⟨b1, o1, rfl, hb1, hc1⟩ := rdG3.at (by omega)
      have hc10 : w3.cell? ⟨b1, o1, none⟩ = some (.int .u64 (pg : Int)) := by
        have := hc1 0 (by omega)
        rw [M.cu_sq _ _ _ (by omega), HPG.out] at this
        exact this
      obtain ⟨z0, z1, z2, y0, y1, y2⟩ := three ((bel3.block w1.heap.size (lt_of_block Z3)).trans Z3)
      have hTi : (0 : Int) < T := by omega
      clear hc1 rdG rdG3 C Z3
      go_wp2_with fail
      go_quiet ((first | (go_at_call 7; exact Calls.quiet_of_same (CS _)) | (go_at_call 9; exact Calls.quiet_of_same (CP _))))
      go_wp2_with fail
      go_ret
      exact ⟨by simp, below_drewN (belw3.trans (bel3.mono belw3.size)) _⟩
end Go.Proofs.Yteoioldbigomaab
