import Derived.Test.YteoioldbigomaaaDeal
namespace Go.Proofs.Yteoioldbigomaaa
open Go.RowKit

/-- What is dealt: the commitments, the shares. -/
abbrev M.coms (f : Nat → Nat) (i : Nat) : Nat := M.pw 2147483579 4 (f i)
abbrev M.shs (f : Nat → Nat) (T i : Nat) : Nat := M.poly f T (i + 1)

set_option maxHeartbeats 1000000 in
theorem deal_ok (a : Option Addr) (T N c : Nat) (f : Nat → Nat) (w : World) (h2 : 2 ≤ T) (hTN : T ≤ N) (h9 : N ≤ 9) (hr : RdF w a T (cu (M.sq f T))) (hl : ∀ i, i < T → SC (f i)) (h0 : f 0 ≠ 0) :
    Calls Try.prog 9 #[.int .i64 T, .int .i64 N, .slice a T c] w fun e w' => Below w.heap.size w w' ∧
      ∃ g1 g2, e = .returned (.tuple #[.agg #[.int .i64 T, .int .i64 N, .slice (some ⟨g1, 0, none⟩) T T], .slice (some ⟨g2, 0, none⟩) N N, .int .i64 0]) ∧
        RdF w' (some ⟨g1, 0, none⟩) T (cu (M.sq (M.coms f) T)) ∧ RdF w' (some ⟨g2, 0, none⟩) N (cu (M.sq (M.shs f T) N)) := by
  have hT : T ≤ 65536 := by omega
  have hT0 : 0 < T := by omega
  have h : Fits (T : Int) (N : Int) (T : Int) := ⟨by omega, by omega, by omega, rfl⟩
  have C := fun w' hr' => allS_yes a c T f w' hT hr' hl
  have hr1 := hr.below (below_alloc w zg)
  have Z := zg_new w
  have zs := size_alloc w zg
  have HL : Hid (∀ i, i < T → SC (f i)) := hl
  have H0 : Hid (f 0 ≠ 0) := h0
  obtain ⟨i0, hi, hz0, hz1, hz2⟩ := info_parts Try.info55
  obtain ⟨i1, ji, jz0, jz1, jz2⟩ := info_parts Try.info52
  have hle : T ≤ maxLen := by unfold maxLen; omega
  have hle' : N ≤ maxLen := by unfold maxLen; omega
  have hne : (((f 0 : Nat) : Int) == 0) = false := by have := H0.out; simp; omega
  obtain ⟨x0, hx0⟩ : ∃ x0, x0 = f 0 := ⟨_, rfl⟩
  rw [← hx0] at hne
  have HX0 : Hid (f 0 = x0) := hx0.symm
  clear hl hr h0 hx0
  go_enter Try.func9, Try.ntmps9
  go_wp2_with (first | (go_at_call 23; refine (fit_yes _ _ _ _ h).mono ?_; rintro e w' ⟨rfl, rfl⟩) | (go_at_call 24; refine (C (w.alloc zg) hr1).mono ?_; rintro e w2 ⟨bel, g, rfl, rd⟩; have hg0 : w2.cell? ⟨g, 0, none⟩ = some (.int .u64 (x0 : Int)) := rd_first rd hT0 HX0.out) | (at_make; refine wpList_make_full _ rfl _ _ 54 rfl w2.heap.size 55 i0 (.int .u64 0) 1 Try.underlying54 hi hz0 hz1 .i64 .i64 _ _ T rfl rfl (by omega) (by omega) (by rw [hz2]; omega) (by assumption) (Nat.le_refl _) ?_; intro w3 hown hgrow))
  have Z2 := (bel.block w.heap.size (by omega)).trans Z
  have belw : Below w.heap.size w w2 := (below_alloc w zg).trans (bel.mono (by omega))
  have F : Fill w3 w2.heap.size 55 w2.heap.size T 0 (cu (M.sq (M.coms f) T)) := Fill.start hown
  have bel3 := below_made hgrow
  clear hown hgrow hi hz0 hz1 hz2 hle C hr1 Z zs hne HX0 H0 bel hg0
  go_loopw [41] (fun i wr => ∃ k : Nat, k ≤ T ∧ i = .int .i64 k ∧ Below w2.heap.size w2 wr ∧ Fill wr w2.heap.size 55 w2.heap.size T k (cu (M.sq (M.coms f) T))) (fun i _ => T - (intOf i).toNat)
  case atStart => exact ⟨0, Nat.zero_le _, rfl, bel3, F⟩
  case round =>
    clear F bel3
    obtain ⟨k, hk, rfl, bel3, F⟩ := hrel
    by_cases hlt : k < T
    · obtain ⟨b, o, eg, hb, hc⟩ := rd.at (by omega)
      simp only [Option.some.injEq, Addr.mk.injEq] at eg
      obtain ⟨rfl, rfl, _⟩ := eg
      obtain ⟨x, hx⟩ : ∃ x, x = f k := ⟨_, rfl⟩
      have hcx : wr.cell? ⟨g, k, none⟩ = some (.int .u64 (x : Int)) := by
        have := hc k hlt
        rw [Nat.zero_add] at this
        rw [bel3.cell (by exact hb), this, M.cu_sq _ _ _ hlt, hx]
      have HX : Hid (x = f k) := hx
      have hsx : SC x := by rw [hx]; exact HL.out k hlt
      have hfz := F.frozen k
      obtain ⟨v, hv⟩ := F.there hlt
      clear hx hc Z2 belw rd h ji jz0 jz1 jz2 HL
      go_wp2_with (go_at_call 26; refine (toThe_any _ _ hsx).mono ?_; rintro e w' ⟨rfl, rfl⟩)
      go_roundw
      case rel =>
        refine ⟨k + 1, by omega, by go_num, ?_, ?_⟩
        · exact bel3.setCell (Nat.le_refl _) _
        · exact F.store hlt (by rw [M.cu_sq _ _ _ hlt, HX.out])
      case measure => simp [intOf]; omega
    · have hkn : T = k := by omega
      subst hkn
      obtain ⟨wa, hwa⟩ : ∃ wa, wa = wr := ⟨_, rfl⟩
      subst hwa
      have rdC := F.rd
      have rdS := rd.below bel3
      have Z3 := (bel3.block w.heap.size (Nat.lt_of_lt_of_le (lt_of_block Z2) (Nat.le_refl _))).trans Z2
      have belw3 : Below w.heap.size w wa := belw.trans (bel3.mono belw.size)
      clear F bel3 rd Z2 belw h
      go_wp2_with (at_make; refine wpList_make_full _ rfl _ _ 49 rfl wa.heap.size 52 i1 (.int .u64 0) 1 Try.underlying49 ji jz0 jz1 .i64 .i64 _ _ N rfl rfl (by omega) (by omega) (by rw [jz2]; omega) (by assumption) (Nat.le_refl _) ?_; intro w4 hown hgrow)
      have F : Fill w4 wa.heap.size 52 wa.heap.size N 0 (cu (M.sq (M.shs f T) N)) := Fill.start hown
      have bel4 := below_made hgrow
      clear hown hgrow ji jz0 jz1 jz2 hle'
      go_loopw [55] (fun i wq => ∃ k : Nat, k ≤ N ∧ i = .int .i64 k ∧ Below wa.heap.size wa wq ∧ Fill wq wa.heap.size 52 wa.heap.size N k (cu (M.sq (M.shs f T) N))) (fun i _ => N - (intOf i).toNat)
      case atStart => exact ⟨0, Nat.zero_le _, rfl, bel4, F⟩
      case round =>
        clear F bel4
        obtain ⟨k, hk, rfl, bel4, F⟩ := hrel
        by_cases hlt : k < N
        · have rdS4 := rdS.below bel4
          have C := fun w' hr' => at_any (some ⟨g, 0, none⟩) T T (k + 1) f w' hT (by omega) HL.out hr'
          have e1 : (((k + 1 : Nat) : Int)) = (k : Int) + 1 := by omega
          rw [e1] at C
          clear e1 rdS rdC Z3 belw3
          go_wp2_with (go_at_call 27; refine (C _ rdS4).mono ?_; rintro e w5 ⟨bel5, rfl⟩; have F5 := F.below bel5; have hfz := F5.frozen k; obtain ⟨v, hv⟩ := F5.there hlt)
          go_roundw
          case rel =>
            refine ⟨k + 1, by omega, by go_num, ?_, ?_⟩
            · exact (bel4.trans (bel5.mono bel4.size)).setCell (p := ⟨wa.heap.size, k, none⟩) (Nat.le_refl _) _
            · exact F5.store hlt (by rw [M.cu_sq _ _ _ hlt])
          case measure => simp [intOf]; omega
        · have hkn : N = k := by omega
          subst hkn
          have rdH := F.rd
          have rdC4 := rdC.below bel4
          have Z4 := (bel4.block w.heap.size (lt_of_block Z3)).trans Z3
          have belw4 : Below w.heap.size w wr := belw3.trans (bel4.mono belw3.size)
          clear F bel4 rdC rdS Z3 belw3
          have hN : N ≤ 65536 := by omega
          go_wp2_with (first | (go_at_call 28; refine (plainE_any _ _ _ _ _ hT rdC4).mono ?_; rintro e w6 ⟨bel6, g6, hg6, rfl, rd6⟩) | (go_at_call 29; refine (plainS_any _ _ _ _ _ hN (rdH.below bel6)).mono ?_; rintro e w7 ⟨bel7, g7, hg7, rfl, rd7⟩; have Z6 := (bel6.block w.heap.size (lt_of_block Z4)).trans Z4; obtain ⟨z0, z1, z2, y0, y1, y2⟩ := three ((bel7.block w.heap.size (lt_of_block Z6)).trans Z6)))
          refine bodyPost_ret (v := .tuple #[.agg #[.int .i64 T, .int .i64 N, .slice (some ⟨g6, 0, none⟩) T T], .slice (some ⟨g7, 0, none⟩) N N, .int .i64 0]) (by simp [results, Try.results9, go_sem, *]) rfl ⟨?_, g6, g7, rfl, ?_, ?_⟩
          · exact below3 ((belw4.trans (bel6.mono belw4.size)).trans (bel7.mono (Nat.le_trans belw4.size bel6.size))) (Nat.le_refl _) _ _ _
          · exact rd3 (rd6.below bel7) (by have := lt_of_block Z4; omega) _ _ _
          · exact rd3 rd7 (by have := lt_of_block Z6; omega) _ _ _
end Go.Proofs.Yteoioldbigomaaa
