import Derived.Test.YteoioldbigomaaaSl
namespace Go.Proofs.Yteoioldbigomaaa
open Go.RowKit

theorem Try.info52 : (Try.prog.info? 52).map (fun i => (i.zero, i.size, i.bytes)) = some (some (.int .u64 0), 1, 8) := by kernel_rfl
theorem Try.info55 : (Try.prog.info? 55).map (fun i => (i.zero, i.size, i.bytes)) = some (some (.int .u64 0), 1, 8) := by kernel_rfl
theorem Try.info30 : (Try.prog.info? 30).map (fun i => (i.zero, i.size, i.bytes)) = some (some (.int .u64 0), 1, 8) := by kernel_rfl

theorem below_made {w w1 : World} (h : w.grownBy w1 none) : Below w.heap.size w w1 :=
  (Below.refl _ _).grown h (Nat.le_refl _) (by intro k hk; cases hk)

set_option maxHeartbeats 400000 in
theorem all_core (a : Option Addr) (c : Nat) (l : List Nat) (w : World) (hlen : l.length ≤ 65536) (hr : RdF w a l.length (cu l)) :
    Calls Try.prog 24 #[.func (.func 25) #[] #[], .slice a l.length c] w fun e w' => Below w.heap.size w w' ∧
      (((∀ x ∈ l, SC x) ∧ ∃ g, e = .returned (.tuple #[.slice (some ⟨g, 0, none⟩) l.length l.length, .bool true]) ∧ RdF w' (some ⟨g, 0, none⟩) l.length (cu l)) ∨
       ((¬ ∀ x ∈ l, SC x) ∧ e = .returned (.tuple #[.slice none 0 0, .bool false]))) := by
  obtain ⟨n, hn⟩ : ∃ n, n = l.length := ⟨_, rfl⟩
  have HN : Hid (n = l.length) := hn
  rw [← hn] at hlen hr ⊢
  clear hn
  obtain ⟨i0, hi, hz0, hz1, hz2⟩ := info_parts Try.info52
  have hle : n ≤ maxLen := by unfold maxLen; omega
  go_enter Try.func24, Try.ntmps24
  go_wp2_with (at_make; refine wpList_make_full _ rfl _ _ 49 rfl w.heap.size 52 i0 (.int .u64 0) 1 Try.underlying49 hi hz0 hz1 .i64 .i64 _ _ n rfl rfl (by omega) (by omega) (by rw [hz2]; omega) (by assumption) (Nat.le_refl _) ?_; intro w1 hown hgrow)
  have F : Fill w1 w.heap.size 52 w.heap.size n 0 (cu l) := Fill.start hown
  have bel := below_made hgrow
  clear hown hgrow hi hz0 hz1 hz2 hle
  go_loopw [16] (fun i wr => ∃ k : Nat, k ≤ n ∧ i = .int .i64 k ∧ Below w.heap.size w wr ∧ Fill wr w.heap.size 52 w.heap.size n k (cu l) ∧ Hid (∀ x ∈ l.take k, SC x)) (fun i _ => n - (intOf i).toNat)
  case atStart => exact ⟨0, Nat.zero_le _, rfl, bel, F, fun x hx => by simp at hx⟩
  case round =>
    clear F bel
    obtain ⟨k, hk, rfl, bel, F, HK⟩ := hrel
    by_cases hlt : k < n
    · obtain ⟨b, o, rfl, hb, hc⟩ := hr.at (by omega)
      obtain ⟨x, hx⟩ : ∃ x, x = l.getD k 0 := ⟨_, rfl⟩
      have hcx : wr.cell? ⟨b, o + k, none⟩ = some (.int .u64 (x : Int)) := by rw [bel.cell (by exact hb), hc k hlt, hx]; rfl
      have HX : Hid (x = l.getD k 0) := hx
      have HT : Hid (l.take (k + 1) = l.take k ++ [x]) := by rw [HX.out]; exact take_snoc l k 0 (by have := HN.out; omega)
      have hfz := F.frozen k
      obtain ⟨v, hv⟩ := F.there hlt
      clear hx hc hr
      by_cases hs : SC x
      · go_wp2_with (go_at_call 25; refine (scalarOf_yes _ _ hs).mono ?_; rintro e w' ⟨rfl, rfl⟩)
        go_roundw
        case rel =>
          refine ⟨k + 1, by omega, by go_num, ?_, ?_, ?_⟩
          · exact bel.setCell (Nat.le_refl _) _
          · exact F.store hlt (by rw [HX.out]; rfl)
          · intro y hy
            rw [HT.out] at hy
            rcases List.mem_append.1 hy with hy | hy
            · exact HK.out y hy
            · simp at hy; rw [hy]; exact hs
        case measure => simp [intOf]; omega
      · go_wp2_with (go_at_call 25; refine (scalarOf_no _ _ hs).mono ?_; rintro e w' ⟨rfl, rfl⟩)
        go_ret2
        refine ⟨bel, .inr ⟨fun h => hs (h x ?_), rfl⟩⟩
        have : x ∈ l.take (k + 1) := by rw [HT.out]; simp
        exact List.mem_of_mem_take this
    · go_wp2_with fail
      go_ret2
      have hkn : k = n := by omega
      subst hkn
      refine ⟨bel, .inl ⟨fun x hx => HK.out x ?_, _, rfl, F.rd⟩⟩
      rw [List.take_of_length_le (by have := HN.out; omega)]; exact hx
end Go.Proofs.Yteoioldbigomaaa
