import Derived.Test.YteoioldbigomaaaClm
namespace Go.Proofs.Yteoioldbigomaaa
open Go.RowKit

set_option maxHeartbeats 400000 in
theorem check_group (t n id : Int) (a : Option Addr) (len c sh : Nat) (f : Nat → Nat) (w : World) (hr : RdF w a len (cu (M.sq f len))) (h : ¬ RightG t n len f) :
    Calls Try.prog 12 #[.agg #[.int .i64 t, .int .i64 n, .slice a len c], .int .i64 id, .int .u64 sh] w fun e w' => e = .returned (.tuple #[.bool false, .int .i64 4]) ∧ Below w.heap.size w w' := by
  have B := below_alloc w (gro t n a len c)
  have C := claim_group t n id a len c sh f _ (hr.below B) h
  clear h hr
  go_enter Try.func12, Try.ntmps12
  go_wp2_with (go_at_call 32; refine C.mono ?_; rintro e w2 ⟨rfl, bel⟩)
  go_ret2
  exact ⟨rfl, B.trans (bel.mono B.size)⟩

set_option maxHeartbeats 1000000 in
theorem check_ok (id : Int) (a : Option Addr) (N T c sh : Nat) (f : Nat → Nat) (w : World) (hr : RdF w a T (cu (M.sq f T))) (h : RightG T N T f) :
    Calls Try.prog 12 #[.agg #[.int .i64 T, .int .i64 N, .slice a T c], .int .i64 id, .int .u64 sh] w fun e w' => Below w.heap.size w w' ∧
      ((¬ (1 ≤ id ∧ id ≤ N) ∧ e = .returned (.tuple #[.bool false, .int .i64 5])) ∨
       ((1 ≤ id ∧ id ≤ N) ∧ ¬ SC sh ∧ e = .returned (.tuple #[.bool false, .int .i64 2])) ∨
       ((1 ≤ id ∧ id ≤ N) ∧ SC sh ∧ e = .returned (.tuple #[.bool (decide (M.pw 2147483579 4 sh = M.pub f T id.toNat)), .int .i64 0]))) := by
  have hN : N ≤ 9 := by obtain ⟨h1, h2, h3, h4⟩ := h.fit; omega
  have hT : T ≤ 65536 := by obtain ⟨h1, h2, h3, h4⟩ := h.fit; omega
  have B := below_alloc w (gro T N a T c)
  have C := claim_ok id a N T c sh f _ (hr.below B) h
  have HL : Hid (∀ i, i < T → EL (f i)) := fun i hi => (h.els i hi).el
  clear h hr
  go_enter Try.func12, Try.ntmps12
  go_wp2_with fail
  refine C.mono ?_
  rintro e w2 ⟨bel, ⟨hid, rfl⟩ | ⟨hid, hs, rfl⟩ | ⟨hid, hs, g, a', c', rfl, hg, G, rd, hne, hnew⟩⟩
  · clear C
    go_wp2_with fail
    go_ret2
    exact ⟨B.trans (bel.mono B.size), .inl ⟨hid, rfl⟩⟩
  · clear C
    go_wp2_with fail
    go_ret2
    exact ⟨B.trans (bel.mono B.size), .inr (.inl ⟨hid, hs, rfl⟩)⟩
  · clear C
    obtain ⟨k, rfl⟩ : ∃ k : Nat, id = k := ⟨id.toNat, by omega⟩
    go_wp2_with (go_at_call 33; refine (gave_any g N T k sh a' c' f _ hN hT HL.out G rd hne (by omega) (by omega) hs).mono ?_; rintro e w4 ⟨rfl, gr, _⟩)
    have belw : Below w.heap.size w w4 := (B.trans (bel.mono B.size)).grown gr (Nat.le_trans B.size bel.size) (fun k hk => by simp only [Option.some.injEq] at hk; subst hk; exact Nat.le_trans B.size hg)
    go_ret2
    exact ⟨belw, .inr (.inr ⟨hid, hs, rfl⟩)⟩
end Go.Proofs.Yteoioldbigomaaa
