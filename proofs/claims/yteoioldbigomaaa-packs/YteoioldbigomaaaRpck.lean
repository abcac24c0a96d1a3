import Derived.Test.YteoioldbigomaaaPck
import Derived.Deep.RegionHeld
namespace Go.Proofs.Yteoioldbigomaaa
open Go.RowKit

theorem run_lit (w : World) (l : List Nat) (cs : Array Value) (n : Nat) (hn : n = l.length) (hcs : cs = (l.map fun x => Value.int .u8 ((x : Nat) : Int)).toArray) :
    (convert 77 9 (.slice (some ⟨w.heap.size, 0, none⟩) n n)).run Try.prog (w.alloc (.cells cs 5)) = .ok (.string (bs l)) (w.alloc (.cells cs 5)) := by
  refine run_bs (fun i hi => ?_) hn
  have hz := heap_alloc_new w (.cells cs 5)
  unfold World.cell?
  simp only [hz]
  subst hcs
  rw [Nat.zero_add]
  unfold cb
  have hi' : i < l.length := by omega
  simp [hi']

theorem M.by8_4 (x : Nat) : M.by8 x 4 = [x % 256, x / 256 % 256, x / 65536 % 256, x / 16777216 % 256] := by simp [M.by8, List.range_succ]

set_option maxHeartbeats 400000 in
set_option maxRecDepth 100000 in
theorem four_any (x : Nat) (w : World) : Calls Try.prog 44 #[.int .u64 x] w fun ex w' => ex = .returned (.string (bs (M.by8 x 4))) ∧ Below w.heap.size w w' := by
  have hrun := run_lit w (M.by8 x 4) #[.int .u8 ((x : Int) % 256), .int .u8 ((x : Int) / 256 % 256), .int .u8 ((x : Int) / 65536 % 256), .int .u8 ((x : Int) / 16777216 % 256)] 4 (by rw [M.by8_len]) (by rw [M.by8_4]; simp)
  go_enter Try.func44, Try.ntmps44
  go_wp2_with fail
  go_ret
  exact ⟨rfl, below_alloc _ _⟩

theorem run_one (v : Nat) (W : World) (g : Nat) (h : W.cell? ⟨g, 0, none⟩ = some (.int .u8 (v : Int))) : (convert 77 9 (.slice (some ⟨g, 0, none⟩) 1 1)).run Try.prog W = .ok (.string (bs [v])) W :=
  run_bs (fun i hi => by obtain rfl : i = 0 := by omega
                         exact h) rfl

theorem new_cell {W w' : World} {v : Value} {t : TypeId} (h : Below (W.alloc (.cells #[v] t)).heap.size (W.alloc (.cells #[v] t)) w') : w'.cell? ⟨W.heap.size, 0, none⟩ = some v := by
  have hz := heap_alloc_new W (.cells #[v] t)
  rw [h.cell (by rw [size_alloc]; exact Nat.lt_succ_self _)]
  unfold World.cell?
  simp only [hz]
  rfl
theorem new_celld {W w' : World} {v : Value} {t : TypeId} (h : Below (W.alloc (.cells #[v] t)).drew.heap.size (W.alloc (.cells #[v] t)).drew w') : w'.cell? ⟨W.heap.size, 0, none⟩ = some v :=
  new_cell (w' := w') (t := t) ⟨h.os, h.tape, h.output, h.size, h.block⟩
theorem keep_cell {w w' : World} {p : Addr} {v : Value} (h : w.cell? p = some v) (b : Below w.heap.size w w') : w'.cell? p = some v :=
  (b.cell (World.block_lt_of_cell? w p h)).trans h

/-- A world over W in which a commitment's three cells stand. -/
def On3 (W : World) (g : Nat) (x0 x1 x2 : Value) (w' : World) : Prop := w'.cell? ⟨g, 0, none⟩ = some x0 ∧ w'.cell? ⟨g, 1, none⟩ = some x1 ∧ w'.cell? ⟨g, 2, none⟩ = some x2 ∧ Below W.heap.size W w'
theorem On3.ofB {W : World} {g : Nat} {x0 x1 x2 : Value} {w' : World} (h : On3 W g x0 x1 x2 w') : Below W.heap.size W w' := h.2.2.2
theorem On3.below {W : World} {g : Nat} {x0 x1 x2 : Value} {w w' : World} (h : On3 W g x0 x1 x2 w) (b : Below w.heap.size w w') : On3 W g x0 x1 x2 w' :=
  ⟨keep_cell h.1 b, keep_cell h.2.1 b, keep_cell h.2.2.1 b, h.2.2.2.trans (b.mono h.2.2.2.size)⟩
theorem On3.alloc {W : World} {g : Nat} {x0 x1 x2 : Value} {w : World} {o : Obj} (h : On3 W g x0 x1 x2 w) : On3 W g x0 x1 x2 (w.alloc o) := h.below (below_alloc _ _)
theorem On3.allocd {W : World} {g : Nat} {x0 x1 x2 : Value} {w : World} {o : Obj} (h : On3 W g x0 x1 x2 w.drew) : On3 W g x0 x1 x2 (w.alloc o).drew :=
  h.below (w' := (w.alloc o).drew) ⟨rfl, rfl, rfl, (below_alloc w o).size, (below_alloc w o).block⟩

theorem run_cat (l k : List Nat) (h : l.length + k.length ≤ 1048576) (W : World) : (Op.stringOp .add (bs l) (bs k)).run Try.prog W = .ok (.string (bs (l ++ k))) W := by
  rw [bs_app]
  exact run_string_add_sum W _ _ (by rw [bs_size, bs_size]; omega)

set_option maxHeartbeats 4000000 in
set_option maxRecDepth 100000 in
theorem rpack_any (a : Option Addr) (c n : Nat) (I : Nat → Int) (D E : Nat → Nat) (w : World) (hn : n ≤ 65536) (hr : RdC w a n I D E) :
    Calls Try.prog 17 #[.slice a n c] w fun ex w' => ex = .returned (.string (bs (M.packed I D E n))) ∧ Below w.heap.size w w' := by
  go_enter Try.func17, Try.ntmps17
  go_wp2_with fail
  go_loopw [3, 8] (fun s i wr => ∃ k : Nat, k ≤ n ∧ i = .int .i64 k ∧ s = .string (bs (M.packed I D E k)) ∧ Below w.heap.size w wr) (fun _ i _ => n - (intOf i).toNat)
  case atStart => exact ⟨0, Nat.zero_le _, rfl, rfl, Below.refl _ _⟩
  case round =>
    obtain ⟨k, hk, rfl, rfl, bel⟩ := hrel
    by_cases hlt : k < n
    · obtain ⟨b, o, rfl, hb, hc⟩ := hr.at (by omega)
      obtain ⟨h0, h1, h2⟩ := hc k hlt
      obtain ⟨x, hx⟩ : ∃ x, x = I k := ⟨_, rfl⟩
      obtain ⟨d, hd⟩ : ∃ d, d = D k := ⟨_, rfl⟩
      obtain ⟨e, he⟩ : ∃ e, e = E k := ⟨_, rfl⟩
      have HX : Hid (M.packed I D E (k + 1) = M.packed I D E k ++ M.nine x d e) := by rw [hx, hd, he]; rfl
      rw [← hx] at h0
      rw [← hd] at h1
      rw [← he] at h2
      have c0 : wr.cell? ⟨b, o + k * 3, none⟩ = some (.int .i64 x) := (bel.cell (by exact hb)).trans h0
      have c1 : wr.cell? ⟨b, o + k * 3 + 1, none⟩ = some (.int .u64 (d : Int)) := (bel.cell (by exact hb)).trans h1
      have c2 : wr.cell? ⟨b, o + k * 3 + 2, none⟩ = some (.int .u64 (e : Int)) := (bel.cell (by exact hb)).trans h2
      have hki : (k : Int) < n := by omega
      clear hx hd he h0 h1 h2 hc hr
      go_wp2_with fail
      clear c0 c1 c2
      have hz := heap_alloc_new wr (.cells #[.int .i64 x, .int .u64 (d : Int), .int .u64 (e : Int)] 79)
      have B0 := below_alloc wr (.cells #[.int .i64 x, .int .u64 (d : Int), .int .u64 (e : Int)] 79)
      obtain ⟨W0, hW0⟩ : ∃ W0, wr.alloc (.cells #[.int .i64 x, .int .u64 (d : Int), .int .u64 (e : Int)] 79) = W0 := ⟨_, rfl⟩
      rw [hW0] at hz B0 ⊢
      obtain ⟨c0, c1, c2⟩ := three_cells hz
      have S0 : On3 W0 wr.heap.size (.int .i64 x) (.int .u64 (d : Int)) (.int .u64 (e : Int)) W0.drew := ⟨c0, c1, c2, (Below.refl _ _).drew⟩
      obtain ⟨u, hu⟩ : ∃ u : Nat, u = (x % 256).toNat := ⟨_, rfl⟩
      have hu2 : IntKind.u8.wrap x = (u : Int) := by rw [IntKind.wrap_u8]; omega
      have HU : Hid (M.by8 (x % 18446744073709551616).toNat 1 = [u]) := by
        have hq : (x % 18446744073709551616).toNat / 2 ^ (8 * 0) % 256 = u := by rw [Nat.mul_zero, Nat.pow_zero, Nat.div_one, hu]; omega
        have hs : M.by8 (x % 18446744073709551616).toNat 1 = [(x % 18446744073709551616).toNat / 2 ^ (8 * 0) % 256] := rfl
        rw [hs, hq]
        exact rfl
      have CV := run_one u
      have C1 := four_any d
      have C2 := four_any e
      have A1 := run_cat [u] (M.by8 d 4) (by rw [M.by8_len]; simp)
      have A2 := run_cat ([u] ++ M.by8 d 4) (M.by8 e 4) (by rw [List.length_append, M.by8_len, M.by8_len]; simp)
      have A3 := run_cat (M.packed I D E k) ([u] ++ M.by8 d 4 ++ M.by8 e 4) (by rw [List.length_append, List.length_append, M.by8_len, M.by8_len, M.packed_len]; simp; omega)
      have HN : Hid (M.packed I D E k ++ ([u] ++ M.by8 d 4 ++ M.by8 e 4) = M.packed I D E (k + 1)) := by rw [HX.out]; unfold M.nine; rw [HU.out]; exact rfl
      rw [HN.out] at A3
      obtain ⟨t1, ht1⟩ : ∃ t1, t1 = bs [u] := ⟨_, rfl⟩
      obtain ⟨t2, ht2⟩ : ∃ t2, t2 = bs (M.by8 d 4) := ⟨_, rfl⟩
      obtain ⟨t3, ht3⟩ : ∃ t3, t3 = bs (M.by8 e 4) := ⟨_, rfl⟩
      obtain ⟨t4, ht4⟩ : ∃ t4, t4 = bs ([u] ++ M.by8 d 4) := ⟨_, rfl⟩
      obtain ⟨t5, ht5⟩ : ∃ t5, t5 = bs ([u] ++ M.by8 d 4 ++ M.by8 e 4) := ⟨_, rfl⟩
      obtain ⟨t6, ht6⟩ : ∃ t6, t6 = bs (M.packed I D E k) := ⟨_, rfl⟩
      obtain ⟨t7, ht7⟩ : ∃ t7, t7 = bs (M.packed I D E (k + 1)) := ⟨_, rfl⟩
      have HT7 : Hid (t7 = bs (M.packed I D E (k + 1))) := ht7
      rw [← ht7, ← ht6, ← ht5] at A3
      rw [← ht5, ← ht4, ← ht3] at A2
      rw [← ht4, ← ht1, ← ht2] at A1
      rw [← ht1] at CV
      rw [← ht2] at C1
      rw [← ht3] at C2
      rw [← ht6]
      clear ht1 ht2 ht3 ht4 ht5 ht6 ht7 c0 c1 c2 hz hW0 hu
      go_region_held (fun w' => w'.cell? ⟨wr.heap.size, 0, none⟩ = some (.int .i64 x) ∧ w'.cell? ⟨wr.heap.size, 1, none⟩ = some (.int .u64 (d : Int)) ∧ w'.cell? ⟨wr.heap.size, 2, none⟩ = some (.int .u64 (e : Int)) ∧ Below W0.heap.size W0 w')
        (first | assumption | exact S0 | exact On3.allocd (by assumption) | exact On3.alloc (by assumption) | exact On3.below (by assumption) (by assumption))
        (first | (go_at_call_of 44 d; refine (C1 _).mono ?_; rintro ex w3 ⟨rfl, bel3⟩; (first | have hnew := new_celld bel3 | have hnew := new_cell bel3 | have hnew := keep_cell hnew bel3 | skip)) | (go_at_call_of 44 e; refine (C2 _).mono ?_; rintro ex w4 ⟨rfl, bel4⟩; (first | have hnew := new_celld bel4 | have hnew := new_cell bel4 | have hnew := keep_cell hnew bel4 | skip)))
      all_goals
        have bf := On3.ofB (g := wr.heap.size) (x0 := .int .i64 x) (x1 := .int .u64 (d : Int)) (x2 := .int .u64 (e : Int)) (W := W0) (by assumption)
        go_wp2_with fail
        go_roundw
        case rel => exact ⟨k + 1, by omega, by go_num, by rw [HT7.out], bel.trans ((B0.trans (bf.mono B0.size)).mono bel.size)⟩
        case measure => simp [intOf]; omega
    · go_wp2_with fail
      go_ret
      have hkn : n = k := by omega
      subst hkn
      exact ⟨rfl, bel⟩
end Go.Proofs.Yteoioldbigomaaa
