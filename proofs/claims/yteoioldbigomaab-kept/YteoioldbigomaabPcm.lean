import Derived.Test.YteoioldbigomaabPnw
namespace Go.Proofs.Yteoioldbigomaab
open Go.RowKit

/-- A scalar other than 0. -/
structure NZ (x : Nat) : Prop where
  ne : x ≠ 0
  sc : SC x
theorem nonzeroOf_yes (x : Nat) (w : World) (h : NZ x) : Calls Try.prog 27 #[.int .u64 x] w fun e w' => e = .returned (.tuple #[.int .u64 x, .bool true]) ∧ w' = w := by
  have hne : ((x : Int) == 0) = false := by simp; exact h.ne
  go_enter Try.func27, Try.ntmps27
  go_wp2_with (go_at_call 19; refine (scalarOf_yes _ _ h.sc).mono ?_; rintro e w' ⟨rfl, hw'⟩; subst hw')
  go_ret2
  exact ⟨rfl, rfl⟩
theorem nonzeroOf_no (x : Nat) (w : World) (h : ¬ NZ x) : Calls Try.prog 27 #[.int .u64 x] w fun e w' => e = .returned (.tuple #[.int .u64 0, .bool false]) ∧ w' = w := by
  by_cases h0 : x = 0
  · subst h0
    go_enter Try.func27, Try.ntmps27
    go_wp2_with fail
    go_ret2
    exact ⟨rfl, rfl⟩
  · have hs : ¬ SC x := fun hs => h ⟨h0, hs⟩
    have hne : ((x : Int) == 0) = false := by simp; exact h0
    clear h h0
    go_enter Try.func27, Try.ntmps27
    go_wp2_with (go_at_call 19; refine (scalarOf_no _ _ hs).mono ?_; rintro e w' ⟨rfl, hw'⟩; subst hw')
    go_ret2
    exact ⟨rfl, rfl⟩

set_option maxHeartbeats 400000 in
theorem allN_core (a : Option Addr) (c : Nat) (l : List Nat) (w : World) (hlen : l.length ≤ 65536) (hr : RdF w a l.length (cu l)) :
    Calls Try.prog 26 #[.func (.func 27) #[] #[], .slice a l.length c] w fun e w' => Below w.heap.size w w' ∧
      (((∀ x ∈ l, NZ x) ∧ ∃ g, e = .returned (.tuple #[.slice (some ⟨g, 0, none⟩) l.length l.length, .bool true]) ∧ RdF w' (some ⟨g, 0, none⟩) l.length (cu l)) ∨
       ((¬ ∀ x ∈ l, NZ x) ∧ e = .returned (.tuple #[.slice none 0 0, .bool false]))) := by
  obtain ⟨n, hn⟩ : ∃ n, n = l.length := ⟨_, rfl⟩
  have HN : Hid (n = l.length) := hn
  rw [← hn] at hlen hr ⊢
  clear hn
  obtain ⟨i0, hi, hz0, hz1, hz2⟩ := info_parts Try.info51
  have hle : n ≤ maxLen := by unfold maxLen; omega
  go_enter Try.func26, Try.ntmps26
  go_wp2_with (at_make; refine wpList_make_full _ rfl _ _ 55 rfl w.heap.size 51 i0 (.int .u64 0) 1 Try.underlying55 hi hz0 hz1 .i64 .i64 _ _ n rfl rfl (by omega) (by omega) (by rw [hz2]; omega) (by assumption) (Nat.le_refl _) ?_; intro w1 hown hgrow)
  have F : Fill w1 w.heap.size 51 w.heap.size n 0 (cu l) := Fill.start hown
  have bel := below_made hgrow
  clear hown hgrow hi hz0 hz1 hz2 hle
  go_loopw [16] (fun i wr => ∃ k : Nat, k ≤ n ∧ i = .int .i64 k ∧ Below w.heap.size w wr ∧ Fill wr w.heap.size 51 w.heap.size n k (cu l) ∧ Hid (∀ x ∈ l.take k, NZ x)) (fun i _ => n - (intOf i).toNat)
  case atStart => exact ⟨0, Nat.zero_le _, rfl, bel, F, fun x hx => by simp at hx⟩
  case round =>
    clear F bel
    obtain ⟨k, hk, rfl, bel, F, HK⟩ := hrel
    by_cases hlt : k < n
    · obtain ⟨b, o, rfl, hb, hc⟩ := hr.at (by omega)
      obtain ⟨x, hx⟩ : ∃ x, x = l.getD k 0 := ⟨_, rfl⟩
      have hcx : wr.cell? ⟨b, o + k, none⟩ = some (.int .u64 (x : Int)) := by rw [bel.cell (by exact hb), hc k hlt, hx]; rfl
      have HX : Hid (x = l.getD k 0) := hx
      have HT : Hid (l.take (k + 1) = l.take k ++ [x]) := by rw [HX.out]; exact take_snoc l k 0 (by have := HN.out; omega)
      have hfz := F.frozen k
      obtain ⟨v, hv⟩ := F.there hlt
      clear hx hc hr
      by_cases hs : NZ x
      · go_wp2_with (go_at_call 27; refine (nonzeroOf_yes _ _ hs).mono ?_; rintro e w' ⟨rfl, rfl⟩)
        go_roundw
        case rel =>
          refine ⟨k + 1, by omega, by go_num, ?_, ?_, ?_⟩
          · exact bel.setCell (Nat.le_refl _) _
          · exact F.store hlt (by rw [HX.out]; rfl)
          · intro y hy
            rw [HT.out] at hy
            rcases List.mem_append.1 hy with hy | hy
            · exact HK.out y hy
            · simp at hy; rw [hy]; exact hs
        case measure => simp [intOf]; omega
      · go_wp2_with (go_at_call 27; refine (nonzeroOf_no _ _ hs).mono ?_; rintro e w' ⟨rfl, rfl⟩)
        go_ret2
        refine ⟨bel, .inr ⟨fun h => hs (h x ?_), rfl⟩⟩
        have : x ∈ l.take (k + 1) := by rw [HT.out]; simp
        exact List.mem_of_mem_take this
    · go_wp2_with fail
      go_ret2
      have hkn : k = n := by omega
      subst hkn
      refine ⟨bel, .inl ⟨fun x hx => HK.out x ?_, _, rfl, F.rd⟩⟩
      rw [List.take_of_length_le (by have := HN.out; omega)]; exact hx

end Go.Proofs.Yteoioldbigomaab
