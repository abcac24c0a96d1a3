import Derived.Test.YteoioldbigomaaaApp
namespace Go.Proofs.Yteoioldbigomaaa
open Go.RowKit

set_option maxHeartbeats 400000 in
theorem rdeal_count (t n : Int) (a : Option Addr) (len c : Nat) (w : World) (h : ¬ Fits t n len) :
    Calls Try.prog 10 #[.int .i64 t, .int .i64 n, .slice a len c] w fun e w' => Below w.heap.size w w' ∧
      e = .returned (.tuple #[.agg #[.int .i64 0, .int .i64 0, .slice none 0 0], .slice none 0 0, .int .i64 1]) := by
  have H : Hid (¬ Fits t n len) := h
  clear h
  by_cases h1 : t < 2
  · go_enter Try.func10, Try.ntmps10
    go_wp2_with fail
    exact bodyPost_ret (v := .tuple #[.agg #[.int .i64 0, .int .i64 0, .slice none 0 0], .slice none 0 0, .int .i64 1]) (by simp [results, Try.results10, go_sem]) rfl ⟨below_alloc _ _, rfl⟩
  · by_cases h2 : n < t
    · go_enter Try.func10, Try.ntmps10
      go_wp2_with fail
      exact bodyPost_ret (v := .tuple #[.agg #[.int .i64 0, .int .i64 0, .slice none 0 0], .slice none 0 0, .int .i64 1]) (by simp [results, Try.results10, go_sem]) rfl ⟨below_alloc _ _, rfl⟩
    · by_cases h3 : 9 < n
      · go_enter Try.func10, Try.ntmps10
        go_wp2_with fail
        exact bodyPost_ret (v := .tuple #[.agg #[.int .i64 0, .int .i64 0, .slice none 0 0], .slice none 0 0, .int .i64 1]) (by simp [results, Try.results10, go_sem]) rfl ⟨below_alloc _ _, rfl⟩
      · have h4 : ((len : Int) != t) = true := by
          simp; intro e; exact H.out ⟨by omega, by omega, by omega, e⟩
        go_enter Try.func10, Try.ntmps10
        go_wp2_with fail
        exact bodyPost_ret (v := .tuple #[.agg #[.int .i64 0, .int .i64 0, .slice none 0 0], .slice none 0 0, .int .i64 1]) (by simp [results, Try.results10, go_sem]) rfl ⟨below_alloc _ _, rfl⟩

set_option maxHeartbeats 400000 in
theorem rdeal_zero (a : Option Addr) (T N c : Nat) (f : Nat → Nat) (w : World) (h2 : 2 ≤ T) (hTN : T ≤ N) (h9 : N ≤ 9) (hr : RdF w a T (cu (M.sq f T))) (h0 : f 0 = 0) :
    Calls Try.prog 10 #[.int .i64 T, .int .i64 N, .slice a T c] w fun e w' => Below w.heap.size w w' ∧
      e = .returned (.tuple #[.agg #[.int .i64 0, .int .i64 0, .slice none 0 0], .slice none 0 0, .int .i64 2]) := by
  obtain ⟨b, o, rfl, hb, hc⟩ := hr.at (by omega)
  have hc0 : w.cell? ⟨b, o, none⟩ = some (.int .u64 0) := by
    have := hc 0 (by omega)
    rw [M.cu_sq _ _ _ (by omega), h0] at this; exact this
  have hz : b < w.heap.size := hb
  have h2i : (2 : Int) ≤ T := by omega
  clear hc hr h0
  go_enter Try.func10, Try.ntmps10
  go_wp2_with fail
  exact bodyPost_ret (v := .tuple #[.agg #[.int .i64 0, .int .i64 0, .slice none 0 0], .slice none 0 0, .int .i64 2]) (by simp [results, Try.results10, go_sem]) rfl ⟨below_alloc _ _, rfl⟩

theorem three_set2 {w : World} {b : Nat} {x0 x1 x2 : Value} {t : TypeId} (h : w.heap[b]? = some (.cells #[x0, x1, x2] t (0, 0))) (u : Value) :
    (w.setCell ⟨b, 2, none⟩ u).heap[b]? = some (.cells #[x0, x1, u] t (0, 0)) := by
  have hlt := lt_of_block h
  show (w.heap.modify b _)[b]? = _
  rw [Array.getElem?_modify]
  simp [h]

theorem sc_step {f : Nat → Nat} {k x : Nat} (h : ∀ i, i < k → SC (f i)) (hx : x = f k) (hs : SC x) : ∀ i, i < k + 1 → SC (f i) := by
  intro i hi
  rcases Nat.lt_or_eq_of_le (Nat.le_of_lt_succ hi) with hl | rfl
  · exact h i hl
  · rw [← hx]; exact hs

set_option maxHeartbeats 1000000 in
theorem rdeal_core (a : Option Addr) (T N c : Nat) (f : Nat → Nat) (w : World) (h2 : 2 ≤ T) (hTN : T ≤ N) (h9 : N ≤ 9) (hr : RdF w a T (cu (M.sq f T))) (h0 : f 0 ≠ 0) :
    Calls Try.prog 10 #[.int .i64 T, .int .i64 N, .slice a T c] w fun e w' => Below w.heap.size w w' ∧
      (((¬ ∀ i, i < T → SC (f i)) ∧ e = .returned (.tuple #[.agg #[.int .i64 0, .int .i64 0, .slice none 0 0], .slice none 0 0, .int .i64 2])) ∨
       ((∀ i, i < T → SC (f i)) ∧ ∃ a1 c1 a2 c2, e = .returned (.tuple #[.agg #[.int .i64 T, .int .i64 N, .slice a1 T c1], .slice a2 N c2, .int .i64 0]) ∧
        RdF w' a1 T (cu (M.sq (M.coms f) T)) ∧ RdF w' a2 N (cu (M.sq (M.shs f T) N)))) := by
  obtain ⟨b, o, rfl, hb, hc⟩ := hr.at (by omega)
  obtain ⟨x0, hx0⟩ : ∃ x0, x0 = f 0 := ⟨_, rfl⟩
  have hc0 : w.cell? ⟨b, o, none⟩ = some (.int .u64 (x0 : Int)) := by
    have := hc 0 (by omega)
    rw [M.cu_sq _ _ _ (by omega), ← hx0] at this; exact this
  have hne : ((x0 : Int) == 0) = false := by rw [← hx0] at h0; simp; omega
  have h2i : (2 : Int) ≤ T := by omega
  have HC : Hid (∀ i, i < T → w.cell? ⟨b, o + i, none⟩ = some (cu (M.sq f T) i)) := hc
  have HR := hr
  have d1 : decide ((T : Int) < 2) = false := by simp; omega
  have d2 : decide (N < T) = false := by simp; omega
  have d3 : decide ((9 : Int) < N) = false := by simp; omega
  clear hc hr h0 hx0
  go_enter Try.func10, Try.ntmps10
  go_wp2_with fail
  go_loopw [42] (fun i wr => ∃ (k : Nat) (v : Value), k ≤ T ∧ i = .int .i64 k ∧ Below (w.heap.size + 1) (w.alloc zg) wr ∧ wr.heap[w.heap.size + 1]? = some (.cells #[.int .i64 T, .int .i64 N, v] 24 (0, 0)) ∧ Grow wr (w.heap.size + 2) v k (M.coms f) ∧ Hid (∀ i, i < k → SC (f i))) (fun i _ => T - (intOf i).toNat)
  case atStart =>
    refine ⟨0, .slice none 0 0, Nat.zero_le _, rfl, ?_, ?_, Grow.nil _ _ _, fun i hi => absurd hi (Nat.not_lt_zero i)⟩
    · have e : w.heap.size + 1 = (w.alloc zg).heap.size := (size_alloc w zg).symm
      rw [e]; exact below_alloc _ _
    · have := heap_alloc_new (w.alloc zg) (.cells #[.int .i64 T, .int .i64 N, .slice none 0 0] 24)
      rw [size_alloc] at this; exact this
  case round =>
    obtain ⟨k, v, hk, rfl, bel, Zg, G, HK⟩ := hrel
    have Zr := (bel.block w.heap.size (by omega)).trans (zg_new w)
    have hsz := lt_of_block Zg
    by_cases hlt : k < T
    · obtain ⟨x, hx⟩ : ∃ x, x = f k := ⟨_, rfl⟩
      have HX : Hid (x = f k) := hx
      have hcx : wr.cell? ⟨b, o + k, none⟩ = some (.int .u64 (x : Int)) := by
        rw [bel.cell (by exact Nat.lt_succ_of_lt hb), (below_alloc w zg).cell (by exact hb), HC.out k hlt, M.cu_sq _ _ _ hlt, hx]
      clear hx HC
      by_cases hs : SC x
      · have hnx : ¬ (1073741789 : Int) ≤ x := by have := hs.out; omega
        obtain ⟨av, cv, rfl, _, _⟩ := G.rd
        obtain ⟨z0, z1, z2, y0, y1, y2⟩ := three Zg
        go_wp2_with fail
        go_region_law (first
          | (go_simp; go_at_call 30; refine (base_any x _ hs).mono ?_; rintro e w' ⟨rfl, rfl⟩)
          | (refine step_append1 rfl (.tmp 50) (.tmp 53) rfl (w.heap.size + 2) k (.slice av k cv) (M.coms f) (by simp [Act.eval]) (by first | exact G.below ((((Below.refl _ _).drew)).alloc (Nat.le_refl _) _) | exact G.below ((((Below.refl _ _).alloc (Nat.le_refl _) _)).drew)) wr.heap.size (by simp [Act.eval]) (by go_simp; rw [HX.out]) (by omega) (by go_simp; omega) ?_; intro v' w' G' bel'; obtain ⟨av', cv', rfl, _, _⟩ := G'.rd; obtain ⟨z0', z1', z2', y0', y1', y2'⟩ := three ((bel'.block (w.heap.size + 1) (by omega)).trans ((Below.heap_alloc _ _ (w.heap.size + 1) hsz).trans Zg))))
        all_goals
          go_wp2_with fail
          go_roundw
          case rel =>
            refine ⟨k + 1, .slice av' (k + 1) cv', by omega, by go_num, ?_, ?_, ?_, ?_⟩
            · exact ((bel.drew.alloc (by exact Nat.le_of_lt hsz) _).trans (bel'.mono (by omega))).setCell (p := ⟨w.heap.size + 1, 2, none⟩) (Nat.le_refl _) _
            · exact three_set2 ((bel'.block (w.heap.size + 1) (by omega)).trans ((Below.heap_alloc _ _ (w.heap.size + 1) hsz).trans Zg)) _
            · exact ownsRow_setCell_below G' (by show w.heap.size + 1 < w.heap.size + 2; omega) _
            · exact sc_step HK.out HX.out hs
          case measure => simp [intOf]; omega
      · have hnx : (1073741789 : Int) ≤ x := by have : ¬ x < 1073741789 := fun h => hs ⟨h⟩
                                                omega
        obtain ⟨z0, z1, z2, y0, y1, y2⟩ := three Zr
        go_wp2_with fail
        refine bodyPost_ret (v := .tuple #[.agg #[.int .i64 0, .int .i64 0, .slice none 0 0], .slice none 0 0, .int .i64 2]) (by simp [results, Try.results10, go_sem, *]) rfl ⟨?_, .inl ⟨fun h => hs (by rw [HX.out]; exact h k hlt), rfl⟩⟩
        exact below3 ((below_alloc w zg).trans (bel.mono (by omega))) (Nat.le_refl _) _ _ _
    · have hkn : T = k := by omega
      subst hkn
      obtain ⟨av, cv, rfl, rdv, hva⟩ := G.rd
      have belw : Below w.heap.size w wr := (below_alloc w zg).trans (bel.mono (by omega))
      have rdc := HR.below belw
      obtain ⟨wa, hwa⟩ : ∃ wa, wa = wr := ⟨_, rfl⟩
      subst hwa
      have HS : Hid (∀ i, i < T → SC (f i)) := HK
      clear G bel HK HR HC hc0 hne
      go_wp2_with fail
      go_loopw [12, 13] (fun s i wr => ∃ (k : Nat) (v : Value), k ≤ N ∧ i = .int .i64 ((k : Int) + 1) ∧ s = v ∧ Below wa.heap.size wa wr ∧ Grow wr wa.heap.size v k (M.shs f T)) (fun _ i _ => N + 1 - (intOf i).toNat)
      case atStart => exact ⟨0, .slice none 0 0, Nat.zero_le _, rfl, rfl, Below.refl _ _, Grow.nil _ _ _⟩
      case round =>
        obtain ⟨k, v, hk, rfl, rfl, bel, G⟩ := hrel
        by_cases hlt : k < N
        · have rdc4 := rdc.below bel
          have hsk : SC (k + 1) := ⟨by omega⟩
          have C := fun w' hr' => rpoly_any (some ⟨b, o, none⟩) c T (k + 1) f w' (by omega) hsk HS.out hr'
          have e1 : (((k + 1 : Nat) : Int)) = (k : Int) + 1 := by omega
          rw [e1] at C
          have hl1 : (k : Int) + 1 ≤ N := by omega
          clear e1 rdc Zg Zr rdv belw hsk HS
          obtain ⟨av2, cv2, rfl, _, _⟩ := G.rd
          go_wp2_with (first | (go_at_call 31; refine (C _ rdc4).mono ?_; rintro e w5 ⟨rfl, rfl⟩) | (at_builtin; refine wpList_append1 _ rfl (.tmp 62) (.tmp 67) rfl wa.heap.size k (.slice av2 k cv2) (M.shs f T) rfl (G.below (below_alloc _ _)) _ rfl (by go_simp) (by omega) (Nat.le_trans bel.size (below_alloc _ _).size) ?_; intro v' w' G' bel'))
          clear rdc4 C
          obtain ⟨av3, cv3, rfl, _, _⟩ := G'.rd
          go_wp2_with fail
          go_roundw
          case rel =>
            refine ⟨k + 1, .slice av3 (k + 1) cv3, by omega, by go_num, rfl, ?_, G'⟩
            exact (bel.alloc bel.size _).trans bel'
          case measure => simp [intOf]; omega
        · have hkn : N = k := by omega
          subst hkn
          have hlN : ¬ (N : Int) + 1 ≤ N := by omega
          obtain ⟨av2, cv2, rfl, rd2, hva2⟩ := G.rd
          have belw5 : Below w.heap.size w wr := belw.trans (bel.mono belw.size)
          have rdv5 := rdv.below bel
          obtain ⟨z0, z1, z2, y0, y1, y2⟩ := three ((bel.block (w.heap.size + 1) hsz).trans Zg)
          obtain ⟨q0, q1, q2, r0, r1, r2⟩ := three ((bel.block w.heap.size (by omega)).trans Zr)
          clear rdc belw rdv Zg Zr G
          go_wp2_with fail
          refine bodyPost_ret (v := .tuple #[.agg #[.int .i64 T, .int .i64 N, .slice av T cv], .slice av2 N cv2, .int .i64 0]) (by simp [results, Try.results10, go_sem, *]) rfl ⟨?_, .inr ⟨?_, av, cv, av2, ⟨cv2, rfl⟩, ?_, ?_⟩⟩
          · exact below3 belw5 (Nat.le_refl _) _ _ _
          · exact HS.out
          · exact ((rdv5.setCell (fun x hx => by have := hva x hx; show x.block ≠ w.heap.size; omega) _).setCell (fun x hx => by have := hva x hx; show x.block ≠ w.heap.size; omega) _).setCell (fun x hx => by have := hva x hx; show x.block ≠ w.heap.size; omega) _
          · exact ((rd2.setCell (fun x hx => by have := hva2 x hx; show x.block ≠ w.heap.size; omega) _).setCell (fun x hx => by have := hva2 x hx; show x.block ≠ w.heap.size; omega) _).setCell (fun x hx => by have := hva2 x hx; show x.block ≠ w.heap.size; omega) _
end Go.Proofs.Yteoioldbigomaaa
