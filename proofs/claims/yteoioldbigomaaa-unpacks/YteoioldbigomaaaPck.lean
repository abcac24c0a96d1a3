import Derived.Test.YteoioldbigomaaaByt
namespace Go.Proofs.Yteoioldbigomaaa
open Go.RowKit

/-- A commitment's nine bytes. -/
def M.nine (i : Int) (d e : Nat) : List Nat := M.by8 (i % 18446744073709551616).toNat 1 ++ M.by8 d 4 ++ M.by8 e 4
theorem M.nine_len (i : Int) (d e : Nat) : (M.nine i d e).length = 9 := by simp [M.nine, M.by8_len]
/-- The bytes of the first k commitments. -/
def M.packed (I : Nat → Int) (D E : Nat → Nat) : Nat → List Nat
  | 0 => []
  | k + 1 => M.packed I D E k ++ M.nine (I k) (D k) (E k)
theorem M.packed_len (I : Nat → Int) (D E : Nat → Nat) (k : Nat) : (M.packed I D E k).length = 9 * k := by
  induction k with
  | zero => rfl
  | succ k ih => rw [M.packed, List.length_append, ih, M.nine_len]; omega

theorem three_cells {w : World} {b : Nat} {x0 x1 x2 : Value} {t : TypeId} (h : w.heap[b]? = some (.cells #[x0, x1, x2] t (0, 0))) :
    w.cell? ⟨b, 0, none⟩ = some x0 ∧ w.cell? ⟨b, 1, none⟩ = some x1 ∧ w.cell? ⟨b, 2, none⟩ = some x2 := by
  simp [World.cell?, h]

theorem FillB.grown {w w' : World} {B g N : Nat} {L : List Nat} (h : FillB w B g N L) (hg : w.grownBy w' none) : FillB w' B g N L := h.below (below_made hg)

set_option maxHeartbeats 400000 in
set_option maxRecDepth 100000 in
theorem layCommit_any (B g N o : Nat) (i : Int) (d e : Nat) (L : List Nat) (w : World) (ho : o = L.length) (hN : o + 9 ≤ N) (F : FillB w B g N L) :
    Calls Try.prog 43 #[.slice (some ⟨g, o, none⟩) 9 9, .agg #[.int .i64 i, .int .u64 d, .int .u64 e]] w fun ex w' => ex = .returned (.tuple #[]) ∧ w.grownBy w' (some g) ∧ FillB w' B g N (L ++ M.nine i d e) := by
  obtain ⟨u, hu⟩ : ∃ u : Nat, u = (i % 18446744073709551616).toNat := ⟨_, rfl⟩
  have hu2 : i % 18446744073709551616 = (u : Int) := by omega
  have hu3 : IntKind.u64.wrap i = (u : Int) := by rw [IntKind.wrap_u64]; exact hu2
  have HU : Hid (u = (i % 18446744073709551616).toNat) := hu
  have hz := heap_alloc_new w (.cells #[.int .i64 i, .int .u64 (d : Int), .int .u64 (e : Int)] 79)
  have hgl : g < w.heap.size := (Fill.lt F).2
  have gr0 : w.grownBy (w.alloc (.cells #[.int .i64 i, .int .u64 (d : Int), .int .u64 (e : Int)] 79)) (some g) := World.grownBy_alloc w _ _
  have F0 : FillB (w.alloc (.cells #[.int .i64 i, .int .u64 (d : Int), .int .u64 (e : Int)] 79)) B g N L := F.below (below_alloc _ _)
  have hsz := size_alloc w (.cells #[.int .i64 i, .int .u64 (d : Int), .int .u64 (e : Int)] 79)
  have HO : Hid (o = L.length) := ho
  clear hu hu2 F ho
  go_enter Try.func43, Try.ntmps43
  go_wp2_with fail
  obtain ⟨W0, hW0⟩ : ∃ W0, w.alloc (.cells #[.int .i64 i, .int .u64 (d : Int), .int .u64 (e : Int)] 79) = W0 := ⟨_, rfl⟩
  rw [hW0] at gr0 F0 hz hsz ⊢
  obtain ⟨c0, c1, c2⟩ := three_cells hz
  have F0d : FillB W0.drew B g N L := Fill.drew F0
  clear hW0
  go_region_with (go_at_call 61; refine (lay_any B g N 1 1 u o L _ (by omega) HO.out (by omega) F0d).mono ?_; rintro ex w2 ⟨rfl, gr1, F1⟩)
  have hne : ∀ j : Nat, some (⟨w.heap.size, j, none⟩ : Addr).block ≠ some g := fun j h => by simp at h; omega
  have gr1' : W0.grownBy w2 (some g) := grown_trans (grown_drew _ _) gr1
  have k1 := World.grownBy.cell gr1' c1 (hne 1)
  have k2 := World.grownBy.cell gr1' c2 (hne 2)
  have F1d : FillB w2.drew B g N (L ++ M.by8 u 1) := Fill.drew F1
  have HO1 : Hid (o + 1 = (L ++ M.by8 u 1).length) := by rw [List.length_append, M.by8_len, HO.out]; rfl
  clear c0 c1 c2 F0 F0d F1
  go_wp2_with fail
  go_region_with (go_at_call 61; refine (lay_any B g N 4 4 d (o + 1) _ _ (by omega) HO1.out (by omega) F1d).mono ?_; rintro ex w3 ⟨rfl, gr2, F2⟩)
  have gr2' : w2.grownBy w3 (some g) := grown_trans (grown_drew _ _) gr2
  have k3 := World.grownBy.cell gr2' k2 (hne 2)
  have F2d : FillB w3.drew B g N (L ++ M.by8 u 1 ++ M.by8 d 4) := Fill.drew F2
  have HO2 : Hid (o + 5 = (L ++ M.by8 u 1 ++ M.by8 d 4).length) := by rw [List.length_append, M.by8_len, ← HO1.out]; rfl
  clear k1 k2 F1d F2
  go_wp2_with fail
  go_region_with (go_at_call 61; refine (lay_any B g N 4 4 e (o + 5) _ _ (by omega) HO2.out (by omega) F2d).mono ?_; rintro ex w4 ⟨rfl, gr3, F3⟩)
  have gr3' : w3.grownBy w4 (some g) := grown_trans (grown_drew _ _) gr3
  clear k3 F2d
  go_wp2_with fail
  go_end0
  refine ⟨rfl, grown_trans gr0 (grown_trans gr1' (grown_trans gr2' gr3')), ?_⟩
  unfold M.nine
  rw [← HU.out, ← List.append_assoc, ← List.append_assoc]
  exact F3

/-- A text out of a list of bytes. -/
def bs (l : List Nat) : ByteArray := ⟨(l.map UInt8.ofNat).toArray⟩
theorem bs_app (l k : List Nat) : bs (l ++ k) = bs l ++ bs k := by unfold bs; rw [ByteArray.mk_append_mk]; simp
theorem bs_size (l : List Nat) : (bs l).size = l.length := by unfold bs; show (l.map UInt8.ofNat).toArray.size = _; simp
theorem bs_nums (l : List Nat) : strOfNums (l.map fun x => ((x : Nat) : Int)) = bs l := by unfold strOfNums bs; simp

theorem run_bs {w : World} {g N c : Nat} {l : List Nat} (h : ∀ i, i < N → w.cell? ⟨g, 0 + i, none⟩ = some (cb l i)) (hN : N = l.length) :
    (convert 77 9 (.slice (some ⟨g, 0, none⟩) N c)).run Try.prog w = .ok (.string (bs l)) w := by
  rw [← bs_nums]
  refine run_convert_bytes_arg w 77 5 Try.underlying77 Try.underlying5 g 0 N c _ (by simp [hN]) (fun i hi => ?_) 9 Try.underlying9
  rw [h i hi]
  unfold cb
  congr 2
  simp [List.getElem?_eq_getElem (show i < l.length by omega)]

/-- A list of commitments: number, D and E of each, by its index. -/
def RdC (w : World) (a : Option Addr) (n : Nat) (I : Nat → Int) (D E : Nat → Nat) : Prop :=
  n = 0 ∨ ∃ b o, a = some ⟨b, o, none⟩ ∧ b < w.heap.size ∧ ∀ i, i < n → w.cell? ⟨b, o + i * 3, none⟩ = some (.int .i64 (I i)) ∧ w.cell? ⟨b, o + i * 3 + 1, none⟩ = some (.int .u64 (D i : Nat)) ∧ w.cell? ⟨b, o + i * 3 + 2, none⟩ = some (.int .u64 (E i : Nat))

theorem RdC.below {w w' : World} {a : Option Addr} {n : Nat} {I : Nat → Int} {D E : Nat → Nat} (h : RdC w a n I D E) (hb : Below w.heap.size w w') : RdC w' a n I D E := by
  rcases h with h | ⟨b, o, rfl, hlt, hc⟩
  · exact .inl h
  · exact .inr ⟨b, o, rfl, Nat.lt_of_lt_of_le hlt hb.size, fun i hi => ⟨(hb.cell (by exact hlt)).trans (hc i hi).1, (hb.cell (by exact hlt)).trans (hc i hi).2.1, (hb.cell (by exact hlt)).trans (hc i hi).2.2⟩⟩

theorem RdC.at {w : World} {a : Option Addr} {n : Nat} {I : Nat → Int} {D E : Nat → Nat} (h : RdC w a n I D E) (hn : 0 < n) :
    ∃ b o, a = some ⟨b, o, none⟩ ∧ b < w.heap.size ∧ ∀ i, i < n → w.cell? ⟨b, o + i * 3, none⟩ = some (.int .i64 (I i)) ∧ w.cell? ⟨b, o + i * 3 + 1, none⟩ = some (.int .u64 (D i : Nat)) ∧ w.cell? ⟨b, o + i * 3 + 2, none⟩ = some (.int .u64 (E i : Nat)) := by
  rcases h with h | h
  · omega
  · exact h

set_option maxHeartbeats 2000000 in
set_option maxRecDepth 100000 in
theorem pack_any (a : Option Addr) (c n : Nat) (I : Nat → Int) (D E : Nat → Nat) (w : World) (hn : n ≤ 65536) (hr : RdC w a n I D E) :
    Calls Try.prog 16 #[.slice a n c] w fun ex w' => ex = .returned (.string (bs (M.packed I D E n))) ∧ Below w.heap.size w w' := by
  obtain ⟨i0, hi, hz0, hz1, hz2⟩ := info_parts Try.info5
  have hle : 9 * n ≤ maxLen := by unfold maxLen; omega
  go_enter Try.func16, Try.ntmps16
  go_wp2_with (at_make; refine wpList_make_full _ rfl _ _ 77 rfl w.heap.size 5 i0 (.int .u8 0) 1 Try.underlying77 hi hz0 hz1 .i64 .i64 _ _ (9 * n) rfl rfl (by omega) (by omega) (by rw [hz2]; omega) (by assumption) (Nat.le_refl _) ?_; intro w1 hown hgrow)
  have F : FillB w1 w.heap.size w.heap.size (9 * n) [] := Fill.start hown
  have bel := below_made hgrow
  clear hown hgrow hi hz0 hz1 hz2 hle
  go_loopw [14] (fun i wr => ∃ k : Nat, k ≤ n ∧ i = .int .i64 k ∧ Below w.heap.size w wr ∧ FillB wr w.heap.size w.heap.size (9 * n) (M.packed I D E k)) (fun i _ => n - (intOf i).toNat)
  case atStart => exact ⟨0, Nat.zero_le _, rfl, bel, F⟩
  case round =>
    clear F bel
    obtain ⟨k, hk, rfl, bel, F⟩ := hrel
    by_cases hlt : k < n
    · obtain ⟨b, o, rfl, hb, hc⟩ := hr.at (by omega)
      obtain ⟨h0, h1, h2⟩ := hc k hlt
      obtain ⟨x, hx⟩ : ∃ x, x = I k := ⟨_, rfl⟩
      obtain ⟨d, hd⟩ : ∃ d, d = D k := ⟨_, rfl⟩
      obtain ⟨e, he⟩ : ∃ e, e = E k := ⟨_, rfl⟩
      have HX : Hid (M.packed I D E (k + 1) = M.packed I D E k ++ M.nine x d e) := by rw [hx, hd, he]; rfl
      rw [← hx] at h0
      rw [← hd] at h1
      rw [← he] at h2
      have c0 : wr.cell? ⟨b, o + k * 3, none⟩ = some (.int .i64 x) := (bel.cell (by exact hb)).trans h0
      have c1 : wr.cell? ⟨b, o + k * 3 + 1, none⟩ = some (.int .u64 (d : Int)) := (bel.cell (by exact hb)).trans h1
      have c2 : wr.cell? ⟨b, o + k * 3 + 2, none⟩ = some (.int .u64 (e : Int)) := (bel.cell (by exact hb)).trans h2
      have hki : (k : Int) < n := by omega
      clear hx hd he h0 h1 h2 hc hr
      go_wp2_with fail
      clear c0 c1 c2
      have e9 : 9 * (k + 1) - 9 * k = 9 := by omega
      have HL : Hid (9 * k = (M.packed I D E k).length) := (M.packed_len I D E k).symm
      have Fd : FillB (wr.alloc (.cells #[.int .i64 x, .int .u64 (d : Int), .int .u64 (e : Int)] 79)).drew w.heap.size w.heap.size (9 * n) (M.packed I D E k) := Fill.drew (Fill.below F (below_alloc _ _))
      go_region_with (go_at_call 43; refine (layCommit_any w.heap.size w.heap.size (9 * n) (9 * k) x d e _ _ HL.out (by omega) Fd).mono ?_; rintro ex w2 ⟨rfl, gr, F2⟩)
      all_goals
        go_wp2_with fail
        go_roundw
        case rel =>
          refine ⟨k + 1, by omega, by go_num, ?_, ?_⟩
          · exact ((bel.alloc bel.size _).drew).grown gr (Nat.le_trans bel.size (below_alloc _ _).size) (fun j hj => by cases hj; exact Nat.le_refl _)
          · rw [HX.out]; exact F2
        case measure => simp [intOf]; omega
    · have hkn : n = k := by omega
      subst hkn
      have hrun : (convert 77 9 (.slice (some ⟨w.heap.size, 0, none⟩) (9 * n) (9 * n))).run Try.prog wr = .ok (.string (bs (M.packed I D E n))) wr := by
        have F' : Fill wr w.heap.size 5 w.heap.size (9 * n) (9 * n) (cb (M.packed I D E n)) := by have := F; unfold FillB at this; rwa [M.packed_len] at this
        rcases F'.rd with h0 | ⟨b, o, he, _, hc⟩
        · exact run_bs (fun i hi => by omega) (M.packed_len I D E n).symm
        · simp only [Option.some.injEq, Addr.mk.injEq, and_true] at he
          obtain ⟨rfl, rfl⟩ := he
          exact run_bs hc (M.packed_len I D E n).symm
      go_wp2_with fail
      go_ret
      exact ⟨rfl, bel⟩
end Go.Proofs.Yteoioldbigomaaa
