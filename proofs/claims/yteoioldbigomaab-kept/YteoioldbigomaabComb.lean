import Derived.Test.YteoioldbigomaabWt
namespace Go.Proofs.Yteoioldbigomaab
open Go.RowKit

/-- The k-th number and share are as they must be. -/
structure VAL (D : Nat → Int) (s : Nat → Nat) (k : Nat) : Prop where
  lo : 1 ≤ D k
  hi : D k ≤ 9
  ord : 0 < k → D (k - 1) < D k
  sc : SC (s k)

/-- They are not: the error. -/
def Bad (D : Nat → Int) (s : Nat → Nat) (k : Nat) (e : Int) : Prop :=
  (¬ (1 ≤ D k ∧ D k ≤ 9) ∧ e = 5) ∨ ((1 ≤ D k ∧ D k ≤ 9) ∧ (0 < k ∧ D k ≤ D (k - 1)) ∧ e = 6) ∨
  ((1 ≤ D k ∧ D k ≤ 9) ∧ ¬ (0 < k ∧ D k ≤ D (k - 1)) ∧ ¬ SC (s k) ∧ e = 2)

theorem Bad.not {D : Nat → Int} {s : Nat → Nat} {k : Nat} {e : Int} (h : Bad D s k e) : ¬ VAL D s k := by
  intro v
  rcases h with ⟨h, _⟩ | ⟨_, h, _⟩ | ⟨_, _, h, _⟩
  · exact h ⟨v.lo, v.hi⟩
  · have := v.ord h.1; omega
  · exact h v.sc

theorem Bad.uniq {D : Nat → Int} {s : Nat → Nat} {k : Nat} {e e' : Int} (h : Bad D s k e) (h' : Bad D s k e') : e = e' := by
  rcases h with ⟨a1, rfl⟩ | ⟨a1, a2, rfl⟩ | ⟨a1, a2, a3, rfl⟩ <;> rcases h' with ⟨b1, rfl⟩ | ⟨b1, b2, rfl⟩ | ⟨b1, b2, b3, rfl⟩ <;> first | rfl | exact absurd a1 b1 | exact absurd b1 a1 | exact absurd a2 b2 | exact absurd b2 a2

theorem vals_step {D : Nat → Int} {s : Nat → Nat} {k : Nat} (h : ∀ i, i < k → VAL D s i) (hk : VAL D s k) : ∀ i, i < k + 1 → VAL D s i := by
  intro i hi
  rcases Nat.lt_or_eq_of_le (Nat.le_of_lt_succ hi) with hl | rfl
  · exact h i hl
  · exact hk

theorem vals_lt {D : Nat → Int} {s : Nat → Nat} {n : Nat} (h : ∀ i, i < n → VAL D s i) (i j : Nat) (hij : i < j) (hj : j < n) : D i < D j := by
  induction j with
  | zero => omega
  | succ j ih =>
    have h1 := (h (j + 1) hj).ord (by omega)
    rw [Nat.add_sub_cancel] at h1
    rcases Nat.lt_or_eq_of_le (Nat.le_of_lt_succ hij) with hl | rfl
    · have := ih hl (by omega); omega
    · exact h1

/-- What Combine comes to. -/
def M.comb (d s : Nat → Nat) (n : Nat) : Nat := M.sumQ (M.sq (fun i => s i * M.wt d n i % 1073741789) n)

def CombE (D : Nat → Int) (s : Nat → Nat) (n : Nat) (e : Ending) : Prop :=
  (∃ k er, k < n ∧ (∀ i, i < k → VAL D s i) ∧ Bad D s k er ∧ e = .returned (.tuple #[.int .u64 0, .int .i64 er])) ∨
  ((∀ i, i < n → VAL D s i) ∧ e = .returned (.tuple #[.int .u64 (M.comb (fun i => (D i).toNat) s n : Nat), .int .i64 0]))

/-- The number ahead. -/
def prev (D : Nat → Int) (k : Nat) : Int := if k = 0 then 0 else D (k - 1)
theorem prev_succ (D : Nat → Int) (k : Nat) : prev D (k + 1) = D k := by simp [prev]
theorem prev_pos {D : Nat → Int} {k : Nat} (h : 0 < k) : prev D k = D (k - 1) := by unfold prev; rw [if_neg (by omega)]
theorem prev_le {D : Nat → Int} {k : Nat} (h1 : 1 ≤ D k) (h : D k ≤ prev D k) : 0 < k ∧ D k ≤ D (k - 1) := by
  rcases Nat.eq_zero_or_pos k with rfl | hp
  · simp [prev] at h; omega
  · rw [prev_pos hp] at h; exact ⟨hp, h⟩
theorem prev_lt {D : Nat → Int} {k : Nat} (h : prev D k < D k) : ¬ (0 < k ∧ D k ≤ D (k - 1)) := by
  rintro ⟨hp, h'⟩
  rw [prev_pos hp] at h; omega

theorem rd_ids {w : World} {a : Option Addr} {n : Nat} {D : Nat → Int} {s : Nat → Nat} (hr : RdF w a n (fun i => .int .i64 (D i))) (hv : ∀ i, i < n → VAL D s i) : RdF w a n (ci fun i => (D i).toNat) :=
  hr.congr fun i hi => by
    have := (hv i hi).lo
    unfold ci
    rw [Int.toNat_of_nonneg (by omega)]

theorem ret2u {a b : Int} {e e' : Int} (h : a = b) (k : e = e') : Ending.returned (.tuple #[.int .u64 a, .int .i64 e]) = .returned (.tuple #[.int .u64 b, .int .i64 e']) := by rw [h, k]

theorem turn_5 (x p : Int) (w : World) (h : x < 1 ∨ 9 < x) :
    Calls Try.prog 18 #[.int .i64 x, .int .i64 p, .int .i64 9] w fun e w' => e = .returned (.int .i64 5) ∧ w' = w := by
  by_cases h1 : x < 1
  · clear h
    go_enter Try.func18, Try.ntmps18
    go_wp2_with fail
    go_ret
    exact ⟨rfl, rfl⟩
  · have h2 : 9 < x := by omega
    clear h
    go_enter Try.func18, Try.ntmps18
    go_wp2_with fail
    go_ret
    exact ⟨rfl, rfl⟩

theorem turn_6 (x p : Int) (w : World) (h1 : ¬ x < 1) (h2 : ¬ 9 < x) (h : x ≤ p) :
    Calls Try.prog 18 #[.int .i64 x, .int .i64 p, .int .i64 9] w fun e w' => e = .returned (.int .i64 6) ∧ w' = w := by
  go_enter Try.func18, Try.ntmps18
  go_wp2_with fail
  go_ret
  exact ⟨rfl, rfl⟩

theorem turn_0 (x p : Int) (w : World) (h1 : ¬ x < 1) (h2 : ¬ 9 < x) (h : ¬ x ≤ p) :
    Calls Try.prog 18 #[.int .i64 x, .int .i64 p, .int .i64 9] w fun e w' => e = .returned (.int .i64 0) ∧ w' = w := by
  go_enter Try.func18, Try.ntmps18
  go_wp2_with fail
  go_ret
  exact ⟨rfl, rfl⟩

set_option maxHeartbeats 2000000 in
theorem combine_core (a b : Option Addr) (c c' n : Nat) (D : Nat → Int) (s : Nat → Nat) (w : World) (h1 : 1 ≤ n) (h9 : n ≤ 9) (hr : RdF w a n (fun i => .int .i64 (D i))) (hs : RdF w b n (cu (M.sq s n))) :
    Calls Try.prog 8 #[.slice a n c, .slice b n c'] w fun e w' => Below w.heap.size w w' ∧ CombE D s n e := by
  obtain ⟨b1, o1, rfl, hb1, hc1⟩ := hr.at (by omega)
  obtain ⟨b2, o2, rfl, hb2, hc2⟩ := hs.at (by omega)
  have H1 : Hid (∀ i, i < n → w.cell? ⟨b1, o1 + i, none⟩ = some (.int .i64 (D i))) := hc1
  have H2 : Hid (∀ i, i < n → w.cell? ⟨b2, o2 + i, none⟩ = some (cu (M.sq s n) i)) := hc2
  obtain ⟨i0, hi, hz0, hz1, hz2⟩ := info_parts Try.info51
  have hle : n ≤ maxLen := by unfold maxLen; omega
  have e0 : ((n : Int) == 0) = false := by simp; omega
  have e9 : decide ((9 : Int) < n) = false := decide_eq_false (by omega)
  clear hc1 hc2
  go_enter Try.func8, Try.ntmps8
  go_wp2_with (at_make; refine wpList_make_full _ rfl _ _ 55 rfl w.heap.size 51 i0 (.int .u64 0) 1 Try.underlying55 hi hz0 hz1 .i64 .i64 _ _ n rfl rfl (by omega) (by omega) (by rw [hz2]; omega) (by assumption) (Nat.le_refl _) ?_; intro w1 hown hgrow)
  have F : Fill w1 w.heap.size 51 w.heap.size n 0 (cu (M.sq s n)) := Fill.start hown
  have bel := below_made hgrow
  clear hown hgrow hi hz0 hz1 hz2 hle
  go_loopw [7, 34] (fun p i wr => ∃ k : Nat, k ≤ n ∧ i = .int .i64 k ∧ p = .int .i64 (prev D k) ∧ Below w.heap.size w wr ∧ Fill wr w.heap.size 51 w.heap.size n k (cu (M.sq s n)) ∧ Hid (∀ i, i < k → VAL D s i)) (fun _ i _ => n - (intOf i).toNat)
  case atStart => exact ⟨0, Nat.zero_le _, rfl, rfl, bel, F, fun i hi => absurd hi (Nat.not_lt_zero i)⟩
  case round =>
    clear F bel
    obtain ⟨k, hk, rfl, rfl, bel, F, HK⟩ := hrel
    by_cases hlt : k < n
    · obtain ⟨x, hx⟩ : ∃ x, x = D k := ⟨_, rfl⟩
      obtain ⟨y, hy⟩ : ∃ y, y = s k := ⟨_, rfl⟩
      obtain ⟨p, hp⟩ : ∃ p, p = prev D k := ⟨_, rfl⟩
      have hcx : wr.cell? ⟨b1, o1 + k, none⟩ = some (.int .i64 x) := by rw [bel.cell (by exact hb1), H1.out k hlt, hx]
      have hcy : wr.cell? ⟨b2, o2 + k, none⟩ = some (.int .u64 (y : Int)) := by rw [bel.cell (by exact hb2), H2.out k hlt, M.cu_sq _ _ _ hlt, hy]
      rw [← hp]
      have HX : Hid (x = D k) := hx
      have HY : Hid (y = s k) := hy
      have HP : Hid (p = prev D k) := hp
      have hfz := F.frozen k
      obtain ⟨v, hv⟩ := F.there hlt
      have hki : (k : Int) < n := by omega
      clear hx hy hp H1 H2 hr hs
      by_cases hx1 : x < 1
      · have CT := fun w' => turn_5 x p w' (.inl hx1)
        go_wp2_with (go_at_call 18; refine (CT _).mono ?_; rintro e w' ⟨rfl, hw'⟩; subst hw')
        go_ret2
        exact ⟨bel, .inl ⟨k, 5, hlt, HK.out, .inl ⟨by rw [← HX.out]; omega, rfl⟩, rfl⟩⟩
      · by_cases hx9 : 9 < x
        · have CT := fun w' => turn_5 x p w' (.inr hx9)
          go_wp2_with (go_at_call 18; refine (CT _).mono ?_; rintro e w' ⟨rfl, hw'⟩; subst hw')
          go_ret2
          exact ⟨bel, .inl ⟨k, 5, hlt, HK.out, .inl ⟨by rw [← HX.out]; omega, rfl⟩, rfl⟩⟩
        · have hr9 : 1 ≤ D k ∧ D k ≤ 9 := by rw [← HX.out]; omega
          have HR : Hid (1 ≤ D k ∧ D k ≤ 9) := hr9
          clear hr9
          by_cases hxp : x ≤ p
          · have CT := fun w' => turn_6 x p w' hx1 hx9 hxp
            go_wp2_with (go_at_call 18; refine (CT _).mono ?_; rintro e w' ⟨rfl, hw'⟩; subst hw')
            go_ret2
            exact ⟨bel, .inl ⟨k, 6, hlt, HK.out, .inr (.inl ⟨HR.out, prev_le HR.out.1 (by rw [← HX.out, ← HP.out]; exact hxp), rfl⟩), rfl⟩⟩
          · have HN : Hid (¬ (0 < k ∧ D k ≤ D (k - 1))) := prev_lt (by rw [← HX.out, ← HP.out]; omega)
            have CT := fun w' => turn_0 x p w' hx1 hx9 hxp
            by_cases hsy : SC y
            · go_wp2_with (first | (go_at_call 18; refine (CT _).mono ?_; rintro e w' ⟨rfl, hw'⟩; subst hw') | (go_at_call 19; refine (scalarOf_yes _ _ hsy).mono ?_; rintro e w' ⟨rfl, hw'⟩; subst hw'))
              go_roundw
              case rel =>
                refine ⟨k + 1, by omega, by go_num, by rw [prev_succ, HX.out], ?_, ?_, ?_⟩
                · exact bel.setCell (p := ⟨w.heap.size, k, none⟩) (Nat.le_refl _) _
                · exact F.store hlt (by rw [M.cu_sq _ _ _ hlt, HY.out])
                · exact vals_step HK.out ⟨HR.out.1, HR.out.2, fun hp0 => by have h := HN.out; omega, by rw [← HY.out]; exact hsy⟩
              case measure => simp [intOf]; omega
            · go_wp2_with (first | (go_at_call 18; refine (CT _).mono ?_; rintro e w' ⟨rfl, hw'⟩; subst hw') | (go_at_call 19; refine (scalarOf_no _ _ hsy).mono ?_; rintro e w' ⟨rfl, hw'⟩; subst hw'))
              go_ret2
              exact ⟨bel, .inl ⟨k, 2, hlt, HK.out, .inr (.inr ⟨HR.out, HN.out, by rw [← HY.out]; exact hsy, rfl⟩), rfl⟩⟩
    · have hkn : n = k := by omega
      subst hkn
      have rdF := F.rd
      have rdI := rd_ids (hr.below bel) HK.out
      have C := weights_any (some ⟨b1, o1, none⟩) c n (fun i => (D i).toNat) wr h9 (fun i hi => by have := HK.out i hi; have := this.hi; omega)
        (fun i j hi hj hij => by
          have hli := (HK.out i hi).lo
          have hlj := (HK.out j hj).lo
          rcases Nat.lt_or_gt_of_ne hij with hl | hl
          · have := vals_lt HK.out i j hl hj; omega
          · have := vals_lt HK.out j i hl hi; omega) rdI
      clear hr hs H1 H2 F rdI
      have hn6 : n ≤ 65536 := by omega
      go_wp2_with (go_at_call 24; refine C.mono ?_; rintro e w2 ⟨bel2, g2, rfl, rd2⟩)
      have rdF2 := rdF.below bel2
      refine (pairS_any _ _ _ _ n s _ _ hn6 (fun i hi => (HK.out i hi).sc) (fun i _ => M.wt_sc _ _ _) rdF2 rd2).mono ?_
      rintro e w3 ⟨bel3, g3, rfl, rd3⟩
      go_wp2_with fail
      refine (togetherS _ _ n _ _ hn6 (fun i _ => SC.mod _) rd3).mono ?_
      rintro e w4 ⟨rfl, hw4⟩
      subst hw4
      go_wp2_with fail
      go_ret2
      exact ⟨(bel.trans (bel2.mono bel.size)).trans (bel3.mono (Nat.le_trans bel.size bel2.size)), .inr ⟨HK.out, rfl⟩⟩
end Go.Proofs.Yteoioldbigomaab
