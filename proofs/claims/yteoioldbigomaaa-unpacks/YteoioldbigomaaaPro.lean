import Derived.Test.YteoioldbigomaaaElem
namespace Go.Proofs.Yteoioldbigomaaa
open Go.RowKit

/-- An element other than 1. -/
structure PRO (x : Nat) : Prop where
  ne : x ≠ 1
  el : ISE x

set_option maxHeartbeats 400000 in
theorem properOf_yes (x : Nat) (w : World) (h : PRO x) :
    Calls Try.prog 49 #[.int .u64 x] w fun e w' => e = .returned (.tuple #[.int .u64 x, .bool true]) ∧ w' = w := by
  have C := fun w' => elementOf_yes x w' h.el
  have h1 : ((x : Int) == 1) = false := by have := h.ne; simp; omega
  clear h
  go_enter Try.func49, Try.ntmps49
  go_wp2_with (go_at_call 64; refine (C _).mono ?_; rintro e w' ⟨rfl, rfl⟩)
  go_ret2
  exact ⟨rfl, rfl⟩

set_option maxHeartbeats 400000 in
theorem properOf_no (x : Nat) (w : World) (h : ¬ PRO x) :
    Calls Try.prog 49 #[.int .u64 x] w fun e w' => e = .returned (.tuple #[.int .u64 0, .bool false]) ∧ w' = w := by
  have H : Hid (¬ PRO x) := h
  clear h
  by_cases h1 : x = 1
  · subst h1
    go_enter Try.func49, Try.ntmps49
    go_wp2_with fail
    go_ret2
    exact ⟨rfl, rfl⟩
  · have C := fun w' => elementOf_no x w' (fun he => H.out ⟨h1, he⟩)
    have h2 : ((x : Int) == 1) = false := by simp; omega
    clear h1
    go_enter Try.func49, Try.ntmps49
    go_wp2_with (go_at_call 64; refine (C _).mono ?_; rintro e w' ⟨rfl, rfl⟩)
    go_ret2
    exact ⟨rfl, rfl⟩

/-- ProperOf, either way. -/
theorem properOf_any (x : Nat) (w : World) : ∃ (y : Nat) (b : Bool), Hid ((b = true ∧ y = x ∧ PRO x) ∨ (b = false ∧ ¬ PRO x)) ∧ Calls Try.prog 49 #[.int .u64 x] w fun e w' => e = .returned (.tuple #[.int .u64 y, .bool b]) ∧ w' = w := by
  by_cases h : PRO x
  · exact ⟨x, true, .inl ⟨rfl, rfl, h⟩, properOf_yes x w h⟩
  · exact ⟨0, false, .inr ⟨rfl, h⟩, properOf_no x w h⟩
theorem scalarOf_any (x : Nat) (w : World) : ∃ (y : Nat) (b : Bool), Hid ((b = true ∧ y = x ∧ SC x) ∨ (b = false ∧ ¬ SC x)) ∧ Calls Try.prog 25 #[.int .u64 x] w fun e w' => e = .returned (.tuple #[.int .u64 y, .bool b]) ∧ w' = w := by
  by_cases h : SC x
  · exact ⟨x, true, .inl ⟨rfl, rfl, h⟩, scalarOf_yes x w h⟩
  · exact ⟨0, false, .inr ⟨rfl, h⟩, scalarOf_no x w h⟩


set_option maxHeartbeats 400000 in
theorem allP_core (a : Option Addr) (c : Nat) (l : List Nat) (w : World) (hlen : l.length ≤ 65536) (hr : RdF w a l.length (cu l)) :
    Calls Try.prog 63 #[.func (.func 49) #[] #[], .slice a l.length c] w fun e w' => Below w.heap.size w w' ∧
      (((∀ x ∈ l, PRO x) ∧ ∃ g, e = .returned (.tuple #[.slice (some ⟨g, 0, none⟩) l.length l.length, .bool true]) ∧ RdF w' (some ⟨g, 0, none⟩) l.length (cu l)) ∨
       ((¬ ∀ x ∈ l, PRO x) ∧ e = .returned (.tuple #[.slice none 0 0, .bool false]))) := by
  obtain ⟨n, hn⟩ : ∃ n, n = l.length := ⟨_, rfl⟩
  have HN : Hid (n = l.length) := hn
  rw [← hn] at hlen hr ⊢
  clear hn
  obtain ⟨i0, hi, hz0, hz1, hz2⟩ := info_parts Try.info55
  have hle : n ≤ maxLen := by unfold maxLen; omega
  go_enter Try.func63, Try.ntmps63
  go_wp2_with (at_make; refine wpList_make_full _ rfl _ _ 54 rfl w.heap.size 55 i0 (.int .u64 0) 1 Try.underlying54 hi hz0 hz1 .i64 .i64 _ _ n rfl rfl (by omega) (by omega) (by rw [hz2]; omega) (by assumption) (Nat.le_refl _) ?_; intro w1 hown hgrow)
  have F : Fill w1 w.heap.size 55 w.heap.size n 0 (cu l) := Fill.start hown
  have bel := below_made hgrow
  clear hown hgrow hi hz0 hz1 hz2 hle
  go_loopw [16] (fun i wr => ∃ k : Nat, k ≤ n ∧ i = .int .i64 k ∧ Below w.heap.size w wr ∧ Fill wr w.heap.size 55 w.heap.size n k (cu l) ∧ Hid (∀ x ∈ l.take k, PRO x)) (fun i _ => n - (intOf i).toNat)
  case atStart => exact ⟨0, Nat.zero_le _, rfl, bel, F, fun x hx => by simp at hx⟩
  case round =>
    clear F bel
    obtain ⟨k, hk, rfl, bel, F, HK⟩ := hrel
    by_cases hlt : k < n
    · obtain ⟨b, o, rfl, hb, hc⟩ := hr.at (by omega)
      obtain ⟨x, hx⟩ : ∃ x, x = l.getD k 0 := ⟨_, rfl⟩
      have hcx : wr.cell? ⟨b, o + k, none⟩ = some (.int .u64 (x : Int)) := by rw [bel.cell (by exact hb), hc k hlt, hx]; rfl
      have HX : Hid (x = l.getD k 0) := hx
      have HT : Hid (l.take (k + 1) = l.take k ++ [x]) := by rw [HX.out]; exact take_snoc l k 0 (by have := HN.out; omega)
      have hfz := F.frozen k
      obtain ⟨v, hv⟩ := F.there hlt
      clear hx hc hr
      by_cases hs : PRO x
      · go_wp2_with (go_at_call 49; refine (properOf_yes _ _ hs).mono ?_; rintro e w' ⟨rfl, rfl⟩)
        go_roundw
        case rel =>
          refine ⟨k + 1, by omega, by go_num, ?_, ?_, ?_⟩
          · exact bel.setCell (Nat.le_refl _) _
          · exact F.store hlt (by rw [HX.out]; rfl)
          · intro y hy
            rw [HT.out] at hy
            rcases List.mem_append.1 hy with hy | hy
            · exact HK.out y hy
            · simp at hy; rw [hy]; exact hs
        case measure => simp [intOf]; omega
      · go_wp2_with (go_at_call 49; refine (properOf_no _ _ hs).mono ?_; rintro e w' ⟨rfl, rfl⟩)
        go_ret2
        refine ⟨bel, .inr ⟨fun h => hs (h x ?_), rfl⟩⟩
        have : x ∈ l.take (k + 1) := by rw [HT.out]; simp
        exact List.mem_of_mem_take this
    · go_wp2_with fail
      go_ret2
      have hkn : k = n := by omega
      subst hkn
      refine ⟨bel, .inl ⟨fun x hx => HK.out x ?_, _, rfl, F.rd⟩⟩
      rw [List.take_of_length_le (by have := HN.out; omega)]; exact hx


set_option maxHeartbeats 400000 in
set_option maxRecDepth 100000 in
theorem proper_any (i : Int) (d e : Nat) (w : World) :
    Calls Try.prog 46 #[.agg #[.int .i64 i, .int .u64 d, .int .u64 e]] w fun ex w' => Below w.heap.size w w' ∧ ((PRO d ∧ PRO e ∧ ex = .returned (.bool true)) ∨ (¬ (PRO d ∧ PRO e) ∧ ex = .returned (.bool false))) := by
  have B1 := below_alloc w (.cells #[.int .i64 i, .int .u64 (d : Int), .int .u64 (e : Int)] 79)
  obtain ⟨W1, hW1⟩ : ∃ W1, w.alloc (.cells #[.int .i64 i, .int .u64 (d : Int), .int .u64 (e : Int)] 79) = W1 := ⟨_, rfl⟩
  have B2 := below_alloc W1 (.cells #[.int .u64 (d : Int), .int .u64 (e : Int)] 30)
  have hrd : RdF (W1.alloc (.cells #[.int .u64 (d : Int), .int .u64 (e : Int)] 30)) (some ⟨W1.heap.size, 0, none⟩) 2 (cu [d, e]) := by
    refine .inr ⟨W1.heap.size, 0, rfl, by rw [size_alloc]; omega, fun i hi => ?_⟩
    have hz := heap_alloc_new W1 (.cells #[.int .u64 (d : Int), .int .u64 (e : Int)] 30)
    match i, hi with
    | 0, _ => unfold World.cell?; simp only [hz]; rfl
    | 1, _ => unfold World.cell?; simp only [hz]; rfl
  have C := allP_core (some ⟨W1.heap.size, 0, none⟩) 2 [d, e] _ (by simp) hrd
  have hz := heap_alloc_new w (.cells #[.int .i64 i, .int .u64 (d : Int), .int .u64 (e : Int)] 79)
  rw [hW1] at B1 hz
  have c1 : W1.cell? ⟨w.heap.size, 1, none⟩ = some (.int .u64 (d : Int)) := by simp [World.cell?, hz]
  have c2 : W1.cell? ⟨w.heap.size, 2, none⟩ = some (.int .u64 (e : Int)) := by simp [World.cell?, hz]
  clear hz hrd
  go_enter Try.func46, Try.ntmps46
  go_wp2_with fail
  refine C.mono ?_
  rintro ex w3 ⟨bel, ⟨hp, g, rfl, _⟩ | ⟨hp, rfl⟩⟩
  · clear C
    go_wp2_with fail
    go_ret
    exact ⟨B1.trans ((B2.trans (bel.mono B2.size)).mono B1.size), .inl ⟨hp d (by simp), hp e (by simp), rfl⟩⟩
  · clear C
    go_wp2_with fail
    go_ret
    refine ⟨B1.trans ((B2.trans (bel.mono B2.size)).mono B1.size), .inr ⟨fun h => hp fun x hx => ?_, rfl⟩⟩
    simp at hx
    rcases hx with rfl | rfl
    · exact h.1
    · exact h.2
end Go.Proofs.Yteoioldbigomaaa
