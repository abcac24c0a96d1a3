import Derived.Test.YteoioldbigomaaaApp
namespace Go.Proofs.Yteoioldbigomaaa
open Go.RowKit

/-- An element: from 1 to P - 1, its Q-th power is 1. -/
structure ISE (x : Nat) : Prop where
  lo : 1 ≤ x
  hi : x < 2147483579
  pw : M.pw 2147483579 x 1073741789 = 1

theorem ISE.el {x : Nat} (h : ISE x) : EL x := ⟨h.hi⟩

set_option maxHeartbeats 400000 in
theorem elementOf_yes (x : Nat) (w : World) (h : ISE x) :
    Calls Try.prog 64 #[.int .u64 x] w fun e w' => e = .returned (.tuple #[.int .u64 x, .bool true]) ∧ w' = w := by
  have C := fun w => epow_any x 1073741789 w h.el (Nat.le_refl _)
  rw [h.pw] at C
  have h1 : ¬ (x : Int) < 1 := by have := h.lo; omega
  have h2 : ¬ (2147483579 : Int) ≤ x := by have := h.hi; omega
  clear h
  go_enter Try.func64, Try.ntmps64
  go_wp2_with (go_at_call 65; refine (C _).mono ?_; rintro e w' ⟨rfl, rfl⟩)
  go_ret2
  exact ⟨rfl, rfl⟩

set_option maxHeartbeats 400000 in
theorem elementOf_no (x : Nat) (w : World) (h : ¬ ISE x) :
    Calls Try.prog 64 #[.int .u64 x] w fun e w' => e = .returned (.tuple #[.int .u64 0, .bool false]) ∧ w' = w := by
  have H : Hid (¬ ISE x) := h
  clear h
  by_cases h1 : (x : Int) < 1
  · go_enter Try.func64, Try.ntmps64
    go_wp2_with fail
    go_ret2
    exact ⟨rfl, rfl⟩
  · by_cases h2 : (2147483579 : Int) ≤ x
    · go_enter Try.func64, Try.ntmps64
      go_wp2_with fail
      go_ret2
      exact ⟨rfl, rfl⟩
    · have hx : EL x := ⟨by omega⟩
      have C := fun w => epow_any x 1073741789 w hx (Nat.le_refl _)
      have hp : ¬ M.pw 2147483579 x 1073741789 = 1 := fun hp => H.out ⟨by omega, by omega, hp⟩
      obtain ⟨y, hy⟩ : ∃ y, y = M.pw 2147483579 x 1073741789 := ⟨_, rfl⟩
      rw [← hy] at C hp
      have hq : ((y : Int) != 1) = true := by simp; omega
      clear hy hp
      go_enter Try.func64, Try.ntmps64
      go_wp2_with (go_at_call 65; refine (C _).mono ?_; rintro e w' ⟨rfl, rfl⟩)
      go_ret2
      exact ⟨rfl, rfl⟩

set_option maxHeartbeats 400000 in
theorem relement_yes (x : Nat) (w : World) (h : ISE x) :
    Calls Try.prog 53 #[.int .u64 x] w fun e w' => e = .returned (.bool true) ∧ w' = w := by
  have C := fun w => rpower_any 1073741789 x 1073741789 2147483579 w (Nat.le_refl _) (Nat.le_refl _) h.hi (by omega) (Nat.le_refl _)
  rw [h.pw] at C
  have h1 : (1 : Int) ≤ x := by have := h.lo; omega
  have h2 : (x : Int) < 2147483579 := by have := h.hi; omega
  have d2 : decide ((x : Int) < 2147483579) = true := by simp only [decide_eq_true_eq]; exact h2
  clear h h2
  go_enter Try.func53, Try.ntmps53
  go_wp2_with (go_at_call 54; refine (C _).mono ?_; rintro e w' ⟨rfl, rfl⟩)
  go_ret
  exact ⟨rfl, rfl⟩

set_option maxHeartbeats 400000 in
theorem relement_no (x : Nat) (w : World) (h : ¬ ISE x) :
    Calls Try.prog 53 #[.int .u64 x] w fun e w' => e = .returned (.bool false) ∧ w' = w := by
  have H : Hid (¬ ISE x) := h
  clear h
  by_cases h1 : (x : Int) < 1
  · have h1' : ¬ (1 : Int) ≤ x := by omega
    clear h1
    go_enter Try.func53, Try.ntmps53
    go_wp2_with fail
    go_ret
    exact ⟨rfl, rfl⟩
  · have h1' : (1 : Int) ≤ x := by omega
    by_cases h2 : (2147483579 : Int) ≤ x
    · have h2' : ¬ (x : Int) < 2147483579 := by omega
      clear h1 h2
      go_enter Try.func53, Try.ntmps53
      go_wp2_with fail
      go_ret
      exact ⟨rfl, rfl⟩
    · have C := fun w => rpower_any 1073741789 x 1073741789 2147483579 w (Nat.le_refl _) (Nat.le_refl _) (by omega) (by omega) (Nat.le_refl _)
      have hp : ¬ M.pw 2147483579 x 1073741789 = 1 := fun hp => H.out ⟨by omega, by omega, hp⟩
      obtain ⟨y, hy⟩ : ∃ y, y = M.pw 2147483579 x 1073741789 := ⟨_, rfl⟩
      rw [← hy] at C hp
      have hq : ((y : Int) == 1) = false := by simp; omega
      have d2 : decide ((x : Int) < 2147483579) = true := by simp only [decide_eq_true_eq]; omega
      clear hy hp h2 h1
      go_enter Try.func53, Try.ntmps53
      go_wp2_with (go_at_call 54; refine (C _).mono ?_; rintro e w' ⟨rfl, rfl⟩)
      go_ret
      exact ⟨rfl, rfl⟩

set_option maxHeartbeats 400000 in
theorem allE_core (a : Option Addr) (c : Nat) (l : List Nat) (w : World) (hlen : l.length ≤ 65536) (hr : RdF w a l.length (cu l)) :
    Calls Try.prog 63 #[.func (.func 64) #[] #[], .slice a l.length c] w fun e w' => Below w.heap.size w w' ∧
      (((∀ x ∈ l, ISE x) ∧ ∃ g, w.heap.size ≤ g ∧ e = .returned (.tuple #[.slice (some ⟨g, 0, none⟩) l.length l.length, .bool true]) ∧ RdF w' (some ⟨g, 0, none⟩) l.length (cu l)) ∨
       ((¬ ∀ x ∈ l, ISE x) ∧ e = .returned (.tuple #[.slice none 0 0, .bool false]))) := by
  obtain ⟨n, hn⟩ : ∃ n, n = l.length := ⟨_, rfl⟩
  have HN : Hid (n = l.length) := hn
  rw [← hn] at hlen hr ⊢
  clear hn
  obtain ⟨i0, hi, hz0, hz1, hz2⟩ := info_parts Try.info55
  have hle : n ≤ maxLen := by unfold maxLen; omega
  go_enter Try.func63, Try.ntmps63
  go_wp2_with (at_make; refine wpList_make_full _ rfl _ _ 54 rfl w.heap.size 55 i0 (.int .u64 0) 1 Try.underlying54 hi hz0 hz1 .i64 .i64 _ _ n rfl rfl (by omega) (by omega) (by rw [hz2]; omega) (by assumption) (Nat.le_refl _) ?_; intro w1 hown hgrow)
  have F : Fill w1 w.heap.size 55 w.heap.size n 0 (cu l) := Fill.start hown
  have bel := below_made hgrow
  clear hown hgrow hi hz0 hz1 hz2 hle
  go_loopw [16] (fun i wr => ∃ k : Nat, k ≤ n ∧ i = .int .i64 k ∧ Below w.heap.size w wr ∧ Fill wr w.heap.size 55 w.heap.size n k (cu l) ∧ Hid (∀ x ∈ l.take k, ISE x)) (fun i _ => n - (intOf i).toNat)
  case atStart => exact ⟨0, Nat.zero_le _, rfl, bel, F, fun x hx => by simp at hx⟩
  case round =>
    clear F bel
    obtain ⟨k, hk, rfl, bel, F, HK⟩ := hrel
    by_cases hlt : k < n
    · obtain ⟨b, o, rfl, hb, hc⟩ := hr.at (by omega)
      obtain ⟨x, hx⟩ : ∃ x, x = l.getD k 0 := ⟨_, rfl⟩
      have hcx : wr.cell? ⟨b, o + k, none⟩ = some (.int .u64 (x : Int)) := by rw [bel.cell (by exact hb), hc k hlt, hx]; rfl
      have HX : Hid (x = l.getD k 0) := hx
      have HT : Hid (l.take (k + 1) = l.take k ++ [x]) := by rw [HX.out]; exact take_snoc l k 0 (by have := HN.out; omega)
      have hfz := F.frozen k
      obtain ⟨v, hv⟩ := F.there hlt
      clear hx hc hr
      by_cases hs : ISE x
      · go_wp2_with (go_at_call 64; refine (elementOf_yes _ _ hs).mono ?_; rintro e w' ⟨rfl, rfl⟩)
        go_roundw
        case rel =>
          refine ⟨k + 1, by omega, by go_num, ?_, ?_, ?_⟩
          · exact bel.setCell (Nat.le_refl _) _
          · exact F.store hlt (by rw [HX.out]; rfl)
          · intro y hy
            rw [HT.out] at hy
            rcases List.mem_append.1 hy with hy | hy
            · exact HK.out y hy
            · simp at hy; rw [hy]; exact hs
        case measure => simp [intOf]; omega
      · go_wp2_with (go_at_call 64; refine (elementOf_no _ _ hs).mono ?_; rintro e w' ⟨rfl, rfl⟩)
        go_ret2
        refine ⟨bel, .inr ⟨fun h => hs (h x ?_), rfl⟩⟩
        have : x ∈ l.take (k + 1) := by rw [HT.out]; simp
        exact List.mem_of_mem_take this
    · go_wp2_with fail
      go_ret2
      have hkn : k = n := by omega
      subst hkn
      refine ⟨bel, .inl ⟨fun x hx => HK.out x ?_, _, Nat.le_refl _, rfl, F.rd⟩⟩
      rw [List.take_of_length_le (by have := HN.out; omega)]; exact hx

theorem allEl_yes (a : Option Addr) (c n : Nat) (f : Nat → Nat) (w : World) (hlen : n ≤ 65536) (hr : RdF w a n (cu (M.sq f n))) (hl : ∀ i, i < n → ISE (f i)) :
    Calls Try.prog 63 #[.func (.func 64) #[] #[], .slice a n c] w fun e w' => Below w.heap.size w w' ∧
      ∃ g, w.heap.size ≤ g ∧ e = .returned (.tuple #[.slice (some ⟨g, 0, none⟩) n n, .bool true]) ∧ RdF w' (some ⟨g, 0, none⟩) n (cu (M.sq f n)) := by
  have h := allE_core a c (M.sq f n) w
  rw [M.sq_len] at h
  refine (h hlen hr).mono fun e w' h => ⟨h.1, ?_⟩
  rcases h.2 with h | h
  · exact h.2
  · exact absurd (fun x hx => by obtain ⟨i, hi, rfl⟩ := M.sq_mem hx; exact hl i hi) h.1

theorem allEl_no (a : Option Addr) (c n : Nat) (f : Nat → Nat) (w : World) (hlen : n ≤ 65536) (hr : RdF w a n (cu (M.sq f n))) (hl : ¬ ∀ i, i < n → ISE (f i)) :
    Calls Try.prog 63 #[.func (.func 64) #[] #[], .slice a n c] w fun e w' => Below w.heap.size w w' ∧ e = .returned (.tuple #[.slice none 0 0, .bool false]) := by
  have h := allE_core a c (M.sq f n) w
  rw [M.sq_len] at h
  refine (h hlen hr).mono fun e w' h => ⟨h.1, ?_⟩
  rcases h.2 with h | h
  · exact absurd (fun i hi => h.1 (f i) (by unfold M.sq; exact List.mem_map.2 ⟨i, by simpa using hi, rfl⟩)) hl
  · exact h.2

end Go.Proofs.Yteoioldbigomaaa
