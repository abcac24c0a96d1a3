import Derived.Test.YteoioldbigomaaaRcomb
namespace Go.Proofs.Yteoioldbigomaaa
open Go.RowKit

set_option maxHeartbeats 400000 in
theorem combine_len (a b : Option Addr) (n m c c' : Nat) (w : World) (h : ¬ (1 ≤ n ∧ n ≤ 9 ∧ n = m)) :
    Calls Try.prog 14 #[.slice a n c, .slice b m c'] w fun e w' => Below w.heap.size w w' ∧ e = .returned (.tuple #[.int .u64 0, .int .i64 12]) := by
  have H : Hid (¬ (1 ≤ n ∧ n ≤ 9 ∧ n = m)) := h
  clear h
  by_cases h0 : n = 0
  · subst h0
    go_enter Try.func14, Try.ntmps14
    go_wp2_with fail
    go_ret2
    exact ⟨Below.refl _ _, rfl⟩
  · have e0 : ((n : Int) == 0) = false := by simp; omega
    by_cases h9 : 9 < n
    · have e9 : decide ((9 : Int) < n) = true := decide_eq_true (by omega)
      go_enter Try.func14, Try.ntmps14
      go_wp2_with fail
      go_ret2
      exact ⟨Below.refl _ _, rfl⟩
    · have e9 : decide ((9 : Int) < n) = false := decide_eq_false (by omega)
      have em : ((n : Int) != m) = true := by
        have : n ≠ m := fun e => H.out ⟨by omega, by omega, e⟩
        simp; omega
      go_enter Try.func14, Try.ntmps14
      go_wp2_with fail
      go_ret2
      exact ⟨Below.refl _ _, rfl⟩

set_option maxHeartbeats 400000 in
theorem rcombine_len (a b : Option Addr) (n m c c' : Nat) (w : World) (h : ¬ (1 ≤ n ∧ n ≤ 9 ∧ n = m)) :
    Calls Try.prog 15 #[.slice a n c, .slice b m c'] w fun e w' => Below w.heap.size w w' ∧ e = .returned (.tuple #[.int .u64 0, .int .i64 12]) := by
  have H : Hid (¬ (1 ≤ n ∧ n ≤ 9 ∧ n = m)) := h
  clear h
  by_cases h0 : n = 0
  · subst h0
    go_enter Try.func15, Try.ntmps15
    go_wp2_with fail
    go_ret2
    exact ⟨Below.refl _ _, rfl⟩
  · have e0 : ((n : Int) == 0) = false := by simp; omega
    by_cases h9 : 9 < n
    · have e9 : decide ((9 : Int) < n) = true := decide_eq_true (by omega)
      go_enter Try.func15, Try.ntmps15
      go_wp2_with fail
      go_ret2
      exact ⟨Below.refl _ _, rfl⟩
    · have e9 : decide ((9 : Int) < n) = false := decide_eq_false (by omega)
      have em : ((n : Int) != m) = true := by
        have : n ≠ m := fun e => H.out ⟨by omega, by omega, e⟩
        simp; omega
      go_enter Try.func15, Try.ntmps15
      go_wp2_with fail
      go_ret2
      exact ⟨Below.refl _ _, rfl⟩

theorem CombE.one {D : Nat → Int} {s : Nat → Nat} {n : Nat} {e : Ending} (h : CombE D s n e) : ∃ (v : Nat) (er : Int), (∀ e', CombE D s n e' → e' = .returned (.tuple #[.int .u64 v, .int .i64 er])) := by
  rcases h with ⟨k, er, hk, hv, hb, _⟩ | ⟨hv, _⟩
  · refine ⟨0, er, fun e' h' => ?_⟩
    rcases h' with ⟨k', er', hk', hv', hb', he'⟩ | ⟨hv', _⟩
    · rcases Nat.lt_trichotomy k k' with hl | rfl | hl
      · exact absurd (hv' k hl) hb.not
      · rw [he', hb.uniq hb']; rfl
      · exact absurd (hv k' hl) hb'.not
    · exact absurd (hv' k hk) hb.not
  · refine ⟨M.comb (fun i => (D i).toNat) s n, 0, fun e' h' => ?_⟩
    rcases h' with ⟨k', er', hk', hv', hb', he'⟩ | ⟨hv', he'⟩
    · exact absurd (hv k' hk') hb'.not
    · exact he'

theorem combE_some (D : Nat → Int) (s : Nat → Nat) (n : Nat) : ∃ e, CombE D s n e := by
  by_cases h : ∀ i, i < n → VAL D s i
  · exact ⟨_, .inr ⟨h, rfl⟩⟩
  · have : ∃ k, k < n ∧ (∀ i, i < k → VAL D s i) ∧ ¬ VAL D s k := by
      induction n with
      | zero => exact absurd (fun i hi => absurd hi (Nat.not_lt_zero i)) h
      | succ n ih =>
        by_cases h' : ∀ i, i < n → VAL D s i
        · exact ⟨n, by omega, h', fun hv => h (vals_step h' hv)⟩
        · obtain ⟨k, h1, h2, h3⟩ := ih h'
          exact ⟨k, by omega, h2, h3⟩
    obtain ⟨k, hk, hv, hn⟩ := this
    by_cases h1 : 1 ≤ D k ∧ D k ≤ 9
    · by_cases h2 : 0 < k ∧ D k ≤ D (k - 1)
      · exact ⟨_, .inl ⟨k, 6, hk, hv, .inr (.inl ⟨h1, h2, rfl⟩), rfl⟩⟩
      · by_cases h3 : SC (s k)
        · exact absurd ⟨h1.1, h1.2, fun hp => by omega, h3⟩ hn
        · exact ⟨_, .inl ⟨k, 2, hk, hv, .inr (.inr ⟨h1, h2, h3, rfl⟩), rfl⟩⟩
    · exact ⟨_, .inl ⟨k, 5, hk, hv, .inl ⟨h1, rfl⟩, rfl⟩⟩

theorem bothK (n m : Nat) (D : Nat → Int) (s : Nat → Nat) : ∃ (v : Nat) (er : Int),
    (∀ a b c c' w, RdF w a n (fun i => .int .i64 (D i)) → RdF w b m (cu (M.sq s m)) → Calls Try.prog 14 #[.slice a n c, .slice b m c'] w fun e w' => e = .returned (.tuple #[.int .u64 v, .int .i64 er]) ∧ Below w.heap.size w w') ∧
    (∀ a b c c' w, RdF w a n (fun i => .int .i64 (D i)) → RdF w b m (cu (M.sq s m)) → Calls Try.prog 15 #[.slice a n c, .slice b m c'] w fun e w' => e = .returned (.tuple #[.int .u64 v, .int .i64 er]) ∧ Below w.heap.size w w') := by
  by_cases h : 1 ≤ n ∧ n ≤ 9 ∧ n = m
  · obtain ⟨h1, h9, rfl⟩ := h
    obtain ⟨e, he⟩ := combE_some D s n
    obtain ⟨v, er, hu⟩ := he.one
    refine ⟨v, er, fun a b c c' w hr hs => ?_, fun a b c c' w hr hs => ?_⟩
    · exact (combine_core a b c c' n D s w h1 h9 hr hs).mono fun e w' hh => ⟨hu e hh.2, hh.1⟩
    · exact (rcombine_core a b c c' n D s w h1 h9 hr hs).mono fun e w' hh => ⟨hu e hh.2, hh.1⟩
  · refine ⟨0, 12, fun a b c c' w hr hs => ?_, fun a b c c' w hr hs => ?_⟩
    · exact (combine_len a b n m c c' w h).mono fun e w' hh => ⟨hh.2, hh.1⟩
    · exact (rcombine_len a b n m c c' w h).mono fun e w' hh => ⟨hh.2, hh.1⟩

set_option maxHeartbeats 1000000 in
theorem combines_walk (a b : Option Addr) (n m c c' : Nat) (D : Nat → Int) (s : Nat → Nat) (w : World) (hr : RdF w a n (fun i => .int .i64 (D i))) (hs : RdF w b m (cu (M.sq s m))) :
    Calls Try.prog 5 #[.slice a n c, .slice b m c'] w fun e w' => e = .returned (.bool true) ∧ Below w.heap.size w w' := by
  by_cases hbig : 65536 < n
  · have hb : decide ((65536 : Int) < n) = true := decide_eq_true (by omega)
    clear hr hs hbig
    go_enter Try.func5, Try.ntmps5
    go_wp2_with fail
    go_ret
    exact ⟨rfl, Below.refl _ _⟩
  · have hb : decide ((65536 : Int) < n) = false := decide_eq_false (by omega)
    by_cases hbig2 : 65536 < m
    · have hb2 : decide ((65536 : Int) < m) = true := decide_eq_true (by omega)
      clear hr hs hbig hbig2
      go_enter Try.func5, Try.ntmps5
      go_wp2_with fail
      go_ret
      exact ⟨rfl, Below.refl _ _⟩
    · have hb2 : decide ((65536 : Int) < m) = false := decide_eq_false (by omega)
      obtain ⟨v, er, D1, D2⟩ := bothK n m D s
      clear hbig hbig2
      go_enter Try.func5, Try.ntmps5
      go_wp2_with fail
      refine (D1 a b c c' _ hr hs).mono ?_
      rintro e w2 ⟨rfl, bel⟩
      have hr2 := hr.below bel
      have hs2 := hs.below bel
      go_wp2_with fail
      refine (D2 a b c c' _ hr2 hs2).mono ?_
      rintro e w3 ⟨rfl, bel3⟩
      go_wp2_with fail
      go_ret
      exact ⟨by simp, bel.trans (bel3.mono bel.size)⟩
end Go.Proofs.Yteoioldbigomaaa
