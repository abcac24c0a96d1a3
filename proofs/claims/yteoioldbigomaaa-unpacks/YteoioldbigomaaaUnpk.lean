import Derived.Test.YteoioldbigomaaaUnp
namespace Go.Proofs.Yteoioldbigomaaa
open Go.RowKit

theorem keep_cell {w w' : World} {p : Addr} {v : Value} (h : w.cell? p = some v) (b : Below w.heap.size w w') : w'.cell? p = some v :=
  (b.cell (World.block_lt_of_cell? w p h)).trans h

theorem Try.info79 : (Try.prog.info? 79).map (fun i => (i.zero, i.size, i.bytes)) = some (some (.agg #[.int .i64 0, .int .u64 0, .int .u64 0]), 3, 24) := by kernel_rfl

/-- What both ways of Unpack leave: an error and no list, or a list of n commitments. -/
def UnPost (L : List Nat) (n : Nat) (w : World) (e : Ending) (w' : World) : Prop :=
  Below w.heap.size w w' ∧ ∃ er : Nat, M.Un L n er ∧ ((er ≠ 0 ∧ e = .returned (.tuple #[.slice none 0 0, .int .i64 er])) ∨
    (er = 0 ∧ ∃ a c, e = .returned (.tuple #[.slice a n c, .int .i64 0]) ∧ RdC w' a n (fun i => (M.id9 L i : Nat)) (M.d9 L) (M.e9 L)))

set_option maxHeartbeats 2000000 in
set_option maxRecDepth 100000 in
theorem unpack_any (s : ByteArray) (n : Nat) (w : World) (hs : s.size = 9 * n) (hn : n ≤ 9) : Calls Try.prog 18 #[.string s] w (UnPost (tx s) n w) := by
  obtain ⟨i0, hi, hz0, hz1, hz2⟩ := info_parts Try.info79
  have hle : n ≤ maxLen := by unfold maxLen; omega
  have e1 : (((s.size : Int) % 9) != 0) = false := by simp; omega
  have e2 : ¬ (81 : Int) < s.size := by omega
  have e3 : ((s.size : Int)).tdiv 9 = n := by rw [Int.tdiv_eq_ediv_of_nonneg (by omega)]; omega
  have e4 : (s.size : Int) / 9 = n := by omega
  go_enter Try.func18, Try.ntmps18
  go_wp2_with (at_make; refine wpList_make_full _ rfl _ _ 38 rfl w.heap.size 79 i0 (.agg #[.int .i64 0, .int .u64 0, .int .u64 0]) 3 Try.underlying38 hi hz0 hz1 .i64 .i64 _ _ n rfl rfl (by omega) (by omega) (by rw [hz2]; omega) (by assumption) (Nat.le_refl _) ?_; intro w1 hown hgrow)
  have F : FillC w1 w.heap.size w.heap.size n 0 (fun i => (M.id9 (tx s) i : Nat)) (M.d9 (tx s)) (M.e9 (tx s)) := FillC.start hown
  have bel := below_made hgrow
  clear hown hgrow hi hz0 hz1 hz2 hle e1 e2 e3 e4
  go_loopw [5, 24] (fun t i wr => ∃ k : Nat, k ≤ n ∧ i = .int .i64 k ∧ t = .int .i64 (M.ah (tx s) k : Nat) ∧ Below w.heap.size w wr ∧ FillC wr w.heap.size w.heap.size n k (fun i => (M.id9 (tx s) i : Nat)) (M.d9 (tx s)) (M.e9 (tx s)) ∧ Hid (∀ j, j < k → M.Fine (tx s) j)) (fun _ i _ => n - (intOf i).toNat)
  case atStart => exact ⟨0, Nat.zero_le _, rfl, rfl, bel, F, fun j hj => absurd hj (Nat.not_lt_zero j)⟩
  case round =>
    clear F bel
    obtain ⟨k, hk, rfl, rfl, bel, F, HF⟩ := hrel
    by_cases hlt : k < n
    · have hki : (k : Int) < n := by omega
      have C1 := fun w' => readCommit_any (s.extract (9 * k) (9 * (k + 1))) w' (by rw [ByteArray.size_extract]; omega)
      simp only [tx_cut, show 9 * (k + 1) - 9 * k = 9 by omega] at C1
      rw [cut_getD _ _ _ _ (by omega), cut_at4 _ _ _ _ (by omega), cut_at4 _ _ _ _ (by omega)] at C1
      obtain ⟨x, hx⟩ : ∃ x, x = M.id9 (tx s) k := ⟨_, rfl⟩
      obtain ⟨d, hd⟩ : ∃ d, d = M.d9 (tx s) k := ⟨_, rfl⟩
      obtain ⟨e, he⟩ : ∃ e, e = M.e9 (tx s) k := ⟨_, rfl⟩
      obtain ⟨ah, hah⟩ : ∃ ah, ah = M.ah (tx s) k := ⟨_, rfl⟩
      rw [show (tx s).getD (9 * k + 0) 0 = x by rw [hx]; rfl, show M.at4 (tx s) (9 * k + 1) = d by rw [hd]; rfl, show M.at4 (tx s) (9 * k + 5) = e by rw [he]; rfl] at C1
      rw [← hah]
      have HX : Hid (x = M.id9 (tx s) k) := hx
      have HD : Hid (d = M.d9 (tx s) k) := hd
      have HE : Hid (e = M.e9 (tx s) k) := he
      have HA : Hid (ah = M.ah (tx s) k) := hah
      have HS : Hid (s.size = 9 * n) := hs
      have hb1 : (9 * ((k : Int) + 1)) ≤ s.size := by omega
      have hsl : ∀ w', (Instr.slice 9 (.string s) (some (.int .i64 (9 * (k : Int)))) (some (.int .i64 (9 * ((k : Int) + 1)))) none).run Try.prog w' = .ok (.string (s.extract (9 * k) (9 * (k + 1)))) w' := by
        intro w'
        rw [run_slice_string w' 9 s .i64 .i64 _ _ Try.underlying9 (by omega) (by omega) hb1, show (9 * (k : Int)).toNat = 9 * k by omega, show (9 * ((k : Int) + 1)).toNat = 9 * (k + 1) by omega]
      clear hx hd he hah hs hb1
      go_wp2_with fail
      refine (C1 _).mono ?_
      rintro ex w2 ⟨rfl, bel2⟩
      have F2 := F.below bel2
      have belA : Below w.heap.size w w2 := bel.trans (bel2.mono bel.size)
      have hlt2 : w.heap.size < w2.heap.size := F2.lt.2
      clear C1 hsl F bel bel2
      have C2 := fun w' => inTurn_any x ah 9 w'
      obtain ⟨t, ht⟩ : ∃ t, t = M.turn x ah 9 := ⟨_, rfl⟩
      simp only [← ht] at C2
      have HT : Hid (t = M.turn (M.id9 (tx s) k) (M.ah (tx s) k) 9) := by rw [← HX.out, ← HA.out]; exact ht
      have hz := heap_alloc_new w2 (.cells #[.int .i64 (x : Int), .int .u64 (d : Int), .int .u64 (e : Int)] 79)
      have B0 := below_alloc w2 (.cells #[.int .i64 (x : Int), .int .u64 (d : Int), .int .u64 (e : Int)] 79)
      have hsz := size_alloc w2 (.cells #[.int .i64 (x : Int), .int .u64 (d : Int), .int .u64 (e : Int)] 79)
      have F3 := F2.below B0
      clear ht
      go_wp2_with fail
      refine (C2 _).mono ?_
      rintro ex w3 ⟨rfl, hw3⟩
      obtain ⟨W0, hW0⟩ : ∃ W0, w2.alloc (.cells #[.int .i64 (x : Int), .int .u64 (d : Int), .int .u64 (e : Int)] 79) = W0 := ⟨_, rfl⟩
      rw [hW0] at hz B0 F3 hw3 hsz
      subst hw3
      obtain ⟨c0, c1, c2⟩ := three_cells hz
      have belB : Below w.heap.size w w3 := belA.trans (B0.mono belA.size)
      clear hW0 C2 F2 B0
      by_cases h0 : t = 0
      · have ht0 : ((t : Int) != 0) = false := by simp; omega
        have C3 := proper_any x d e w3
        go_wp2_with fail
        refine C3.mono ?_
        rintro ex w4 ⟨bel4, ⟨p1, p2, rfl⟩ | ⟨p, rfl⟩⟩
        · have k0 := keep_cell c0 bel4
          have k1 := keep_cell c1 bel4
          have k2 := keep_cell c2 bel4
          have F4 := F3.below bel4
          have f0 := F4.frozen (k * 3)
          have f1 := F4.frozen (k * 3 + 1)
          have f2 := F4.frozen (k * 3 + 2)
          obtain ⟨v0, t0⟩ := F4.there (j := k * 3) (by omega)
          obtain ⟨v1, t1⟩ := F4.there (j := k * 3 + 1) (by omega)
          obtain ⟨v2, t2⟩ := F4.there (j := k * 3 + 2) (by omega)
          have HX1 : Hid (x = M.ah (tx s) (k + 1)) := HX.out
          clear C3 c0 c1 c2 F3 hz ht0
          go_wp2_with fail
          go_region
          all_goals
            go_wp2_with fail
            go_roundw
            case rel =>
              refine ⟨k + 1, by omega, by go_num, by rw [HX1.out], ?_, ?_, ?_⟩
              · exact ((((belB.trans (bel4.mono belB.size)).setCell (p := ⟨w.heap.size, k * 3, none⟩) (Nat.le_refl _) _).setCell (p := ⟨w.heap.size, k * 3 + 1, none⟩) (Nat.le_refl _) _).setCell (p := ⟨w.heap.size, k * 3 + 2, none⟩) (Nat.le_refl _) _).drew
              · exact (F4.store hlt (by rw [HX.out]) (by rw [HD.out]) (by rw [HE.out])).drew
              · intro j hj
                rcases Nat.lt_or_eq_of_le (Nat.le_of_lt_succ hj) with h | rfl
                · exact HF.out j h
                · exact ⟨by rw [← HT.out]; exact h0, by rw [← HD.out]; exact p1, by rw [← HE.out]; exact p2⟩
            case measure => simp [intOf]; omega
        · clear C3
          go_wp2_with fail
          go_ret2
          refine ⟨belB.trans (bel4.mono belB.size), 3, .inr ⟨k, hlt, HF.out, .inr ⟨by rw [← HT.out]; exact h0, by rw [← HD.out, ← HE.out]; exact p, rfl⟩⟩, .inl ⟨by omega, rfl⟩⟩
      · have ht0 : ((t : Int) != 0) = true := by simp; omega
        go_wp2_with fail
        go_ret2
        refine ⟨belB, t, .inr ⟨k, hlt, HF.out, .inl ⟨by rw [← HT.out]; exact h0, HT.out⟩⟩, .inl ⟨h0, rfl⟩⟩
    · have hkn : n = k := by omega
      subst hkn
      go_wp2_with fail
      go_ret2
      exact ⟨bel, 0, .inl ⟨rfl, HF.out⟩, .inr ⟨rfl, _, _, rfl, F.rd⟩⟩
end Go.Proofs.Yteoioldbigomaaa
