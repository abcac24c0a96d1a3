import Derived.Test.YteoioldbigomaaaComb
namespace Go.Proofs.Yteoioldbigomaaa
open Go.RowKit

set_option maxHeartbeats 2000000 in
theorem rcombine_core (a b : Option Addr) (c c' n : Nat) (D : Nat → Int) (s : Nat → Nat) (w : World) (h1 : 1 ≤ n) (h9 : n ≤ 9) (hr : RdF w a n (fun i => .int .i64 (D i))) (hs : RdF w b n (cu (M.sq s n))) :
    Calls Try.prog 15 #[.slice a n c, .slice b n c'] w fun e w' => Below w.heap.size w w' ∧ CombE D s n e := by
  obtain ⟨b1, o1, rfl, hb1, hc1⟩ := hr.at (by omega)
  obtain ⟨b2, o2, rfl, hb2, hc2⟩ := hs.at (by omega)
  have H1 : Hid (∀ i, i < n → w.cell? ⟨b1, o1 + i, none⟩ = some (.int .i64 (D i))) := hc1
  have H2 : Hid (∀ i, i < n → w.cell? ⟨b2, o2 + i, none⟩ = some (cu (M.sq s n) i)) := hc2
  have e0 : ((n : Int) == 0) = false := by simp; omega
  have e9 : decide ((9 : Int) < n) = false := decide_eq_false (by omega)
  clear hc1 hc2
  go_enter Try.func15, Try.ntmps15
  go_wp2_with fail
  go_loopw [27] (fun i wr => ∃ k : Nat, k ≤ n ∧ i = .int .i64 k ∧ wr = w ∧ Hid (∀ i, i < k → VAL D s i)) (fun i _ => n - (intOf i).toNat)
  case atStart => exact ⟨0, Nat.zero_le _, rfl, rfl, fun i hi => absurd hi (Nat.not_lt_zero i)⟩
  case round =>
    obtain ⟨k, hk, rfl, rfl, HK⟩ := hrel
    by_cases hlt : k < n
    · obtain ⟨x, hx⟩ : ∃ x, x = D k := ⟨_, rfl⟩
      obtain ⟨y, hy⟩ : ∃ y, y = s k := ⟨_, rfl⟩
      have hcx : wr.cell? ⟨b1, o1 + k, none⟩ = some (.int .i64 x) := by rw [H1.out k hlt, hx]
      have hcy : wr.cell? ⟨b2, o2 + k, none⟩ = some (.int .u64 (y : Int)) := by rw [H2.out k hlt, M.cu_sq _ _ _ hlt, hy]
      have HX : Hid (x = D k) := hx
      have HY : Hid (y = s k) := hy
      have hki : (k : Int) < n := by omega
      clear hx hy H2 hr hs
      by_cases hx1 : x < 1
      · clear H1
        go_wp2_with fail
        go_ret2
        exact ⟨Below.refl _ _, .inl ⟨k, 5, hlt, HK.out, .inl ⟨by rw [← HX.out]; omega, rfl⟩, rfl⟩⟩
      · by_cases hx9 : 9 < x
        · clear H1
          go_wp2_with fail
          go_ret2
          exact ⟨Below.refl _ _, .inl ⟨k, 5, hlt, HK.out, .inl ⟨by rw [← HX.out]; omega, rfl⟩, rfl⟩⟩
        · have HR : Hid (1 ≤ D k ∧ D k ≤ 9) := by rw [← HX.out]; exact ⟨by omega, by omega⟩
          rcases Nat.eq_zero_or_pos k with hk0 | hkp
          · subst hk0
            rw [Nat.add_zero] at hcx hcy
            have HN : Hid (¬ (0 < 0 ∧ D 0 ≤ D (0 - 1))) := fun h => absurd h.1 (Nat.lt_irrefl 0)
            by_cases hsy : SC y
            · have hny : decide ((1073741789 : Int) ≤ y) = false := decide_eq_false (by have := hsy.out; omega)
              clear H1
              go_wp2_with fail
              go_roundw
              case rel =>
                refine ⟨1, by omega, by go_num, trivial, ?_⟩
                exact vals_step HK.out ⟨HR.out.1, HR.out.2, fun hp0 => absurd hp0 (Nat.lt_irrefl 0), by rw [← HY.out]; exact hsy⟩
              case measure => simp [intOf]; omega
            · have hny : decide ((1073741789 : Int) ≤ y) = true := decide_eq_true (by have : ¬ y < 1073741789 := fun h => hsy ⟨h⟩
                                                                                      omega)
              clear H1
              go_wp2_with fail
              go_ret2
              exact ⟨Below.refl _ _, .inl ⟨0, 2, hlt, HK.out, .inr (.inr ⟨HR.out, HN.out, by rw [← HY.out]; exact hsy, rfl⟩), rfl⟩⟩
          · obtain ⟨j, rfl⟩ : ∃ j, k = j + 1 := ⟨k - 1, by omega⟩
            obtain ⟨q, hq⟩ : ∃ q, q = D j := ⟨_, rfl⟩
            have hcq : wr.cell? ⟨b1, o1 + j, none⟩ = some (.int .i64 q) := by rw [H1.out j (by omega), hq]
            have HQ : Hid (q = D j) := hq
            clear hq H1
            by_cases hxq : x ≤ q
            · go_wp2_with fail
              go_ret2
              exact ⟨Below.refl _ _, .inl ⟨j + 1, 6, hlt, HK.out, .inr (.inl ⟨HR.out, ⟨by omega, by rw [Nat.add_sub_cancel, ← HX.out, ← HQ.out]; exact hxq⟩, rfl⟩), rfl⟩⟩
            · have HN : Hid (¬ (0 < j + 1 ∧ D (j + 1) ≤ D (j + 1 - 1))) := by
                rintro ⟨_, h⟩
                rw [Nat.add_sub_cancel, ← HX.out, ← HQ.out] at h
                exact hxq h
              by_cases hsy : SC y
              · have hny : decide ((1073741789 : Int) ≤ y) = false := decide_eq_false (by have := hsy.out; omega)
                go_wp2_with fail
                go_roundw
                case rel =>
                  refine ⟨j + 1 + 1, by omega, by go_num, trivial, ?_⟩
                  exact vals_step HK.out ⟨HR.out.1, HR.out.2, fun hp0 => by have h := HN.out; omega, by rw [← HY.out]; exact hsy⟩
                case measure => simp [intOf]; omega
              · have hny : decide ((1073741789 : Int) ≤ y) = true := decide_eq_true (by have : ¬ y < 1073741789 := fun h => hsy ⟨h⟩
                                                                                        omega)
                go_wp2_with fail
                go_ret2
                exact ⟨Below.refl _ _, .inl ⟨j + 1, 2, hlt, HK.out, .inr (.inr ⟨HR.out, HN.out, by rw [← HY.out]; exact hsy, rfl⟩), rfl⟩⟩
    · have hkn : n = k := by omega
      subst hkn
      have rdI := rd_ids hr HK.out
      obtain ⟨wa, hwa⟩ : ∃ wa, wa = wr := ⟨_, rfl⟩
      subst hwa
      clear hr H1
      go_wp2_with fail
      go_loopw [8, 57] (fun t i wr => ∃ k S : Nat, k ≤ n ∧ i = .int .i64 k ∧ t = .int .u64 S ∧ SC S ∧ Below wa.heap.size wa wr ∧ Hid (S = M.sumQ ((M.sq (fun i => s i * M.wt (fun i => (D i).toNat) n i % 1073741789) n).take k))) (fun _ i _ => n - (intOf i).toNat)
      case atStart => exact ⟨0, 0, Nat.zero_le _, rfl, rfl, ⟨by omega⟩, Below.refl _ _, rfl⟩
      case round =>
        obtain ⟨k, S, hk, rfl, rfl, hS, bel, HS⟩ := hrel
        by_cases hlt : k < n
        · obtain ⟨y, hy⟩ : ∃ y, y = s k := ⟨_, rfl⟩
          have hcy : wr.cell? ⟨b2, o2 + k, none⟩ = some (.int .u64 (y : Int)) := by rw [bel.cell (by exact hb2), H2.out k hlt, M.cu_sq _ _ _ hlt, hy]
          have HY : Hid (y = s k) := hy
          have hsy : SC y := by rw [hy]; exact (HK.out k hlt).sc
          have rd0 := (rdI.below bel).below (Below.refl wr.heap.size wr).drew
          have C := rweight_any (some ⟨b1, o1, none⟩) c n k (fun i => (D i).toNat) _ h9 hlt (fun i hi => by have := (HK.out i hi).hi; omega) rd0
          obtain ⟨z, hz⟩ : ∃ z, z = M.wt (fun i => (D i).toNat) n k := ⟨_, rfl⟩
          have hsz : SC z := by rw [hz]; exact M.wt_sc _ _ _
          rw [← hz] at C
          have HZ : Hid (z = M.wt (fun i => (D i).toNat) n k) := hz
          have b1' := mul_bd (Nat.le_of_lt hsy.out) (Nat.le_of_lt hsz.out)
          have b3 : (S : Int) ≤ 1073741789 := by have := hS.out; omega
          have hki : (k : Int) < n := by omega
          clear hy hz H2 rdI hs HK rd0
          go_wp2_with fail
          go_region_with (go_at_call 42; refine C.mono ?_; rintro e w' ⟨rfl, hw'⟩; subst hw')
          all_goals
            go_wp2_with fail
            go_roundw
            case rel =>
              refine ⟨k + 1, (S + y * z) % 1073741789, by omega, by go_num, by go_num, SC.mod _, bel.drew, ?_⟩
              rw [M.sq_take_succ _ _ _ hlt, M.sumQ_snoc, ← HS.out, ← HY.out, ← HZ.out, Nat.add_mod_mod]; rfl
            case measure => simp [intOf]; omega
        · go_wp2_with fail
          go_ret2
          exact ⟨bel, .inr ⟨HK.out, ret2u (by rw [HS.out, List.take_of_length_le (by rw [M.sq_len]; omega)]; rfl) rfl⟩⟩
end Go.Proofs.Yteoioldbigomaaa
