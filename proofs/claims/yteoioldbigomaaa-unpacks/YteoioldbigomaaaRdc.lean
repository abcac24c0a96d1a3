import Derived.Test.YteoioldbigomaaaRd
import Derived.Deep.RegionHeld
namespace Go.Proofs.Yteoioldbigomaaa
open Go.RowKit

/-- The number that four bytes of a list make, from the o-th on. -/
def M.at4 (L : List Nat) (o : Nat) : Nat := M.num [L.getD o 0, L.getD (o + 1) 0, L.getD (o + 2) 0, L.getD (o + 3) 0]

theorem tx_len (s : ByteArray) : (tx s).length = s.size := by unfold tx; simp only [List.length_map, Array.length_toList]; rfl
theorem tx_cut (s : ByteArray) (i j : Nat) : tx (s.extract i j) = ((tx s).drop i).take (j - i) := by
  unfold tx
  rw [ByteArray.data_extract, Array.toList_extract, ← List.map_drop, ← List.map_take]

theorem num_four (L : List Nat) (o : Nat) (h : o + 4 ≤ L.length) : M.num ((L.drop o).take 4) = M.at4 L o := by
  unfold M.at4
  congr 1
  apply List.ext_getElem?
  intro i
  by_cases hi : i < 4
  · rw [List.getElem?_take, if_pos hi, List.getElem?_drop]
    match i, hi with
    | 0, _ => simp [List.getElem?_eq_getElem (show o < L.length by omega)]
    | 1, _ => simp [List.getElem?_eq_getElem (show o + 1 < L.length by omega)]
    | 2, _ => simp [List.getElem?_eq_getElem (show o + 2 < L.length by omega)]
    | 3, _ => simp [List.getElem?_eq_getElem (show o + 3 < L.length by omega)]
  · rw [List.getElem?_take, if_neg hi, List.getElem?_eq_none (by simp; omega)]

theorem num_one (L : List Nat) (h : 1 ≤ L.length) : M.num ((L.drop 0).take 1) = L.getD 0 0 := by
  match L, h with
  | b :: l, _ => simp [M.num]

set_option maxHeartbeats 1000000 in
set_option maxRecDepth 100000 in
theorem readCommit_any (s : ByteArray) (w : World) (hs : s.size = 9) :
    Calls Try.prog 45 #[.string s] w fun e w' => e = .returned (.agg #[.int .i64 ((tx s).getD 0 0 : Nat), .int .u64 (M.at4 (tx s) 1 : Nat), .int .u64 (M.at4 (tx s) 5 : Nat)]) ∧ Below w.heap.size w w' := by
  have hl : (tx s).length = 9 := by rw [tx_len, hs]
  have C0 := fun w' => read_any (s.extract 0 1) w' (by rw [ByteArray.size_extract]; omega)
  have C1 := fun w' => read_any (s.extract 1 5) w' (by rw [ByteArray.size_extract]; omega)
  have C2 := fun w' => read_any (s.extract 5 9) w' (by rw [ByteArray.size_extract]; omega)
  simp only [tx_cut] at C0 C1 C2
  rw [num_one _ (by omega)] at C0
  rw [num_four _ _ (by omega)] at C1 C2
  have hlt : (tx s).getD 0 0 < 256 := by
    have : (tx s).getD 0 0 = (tx s)[0]'(by omega) := by simp [show 0 < (tx s).length by omega]
    rw [this]; exact tx_lt s _ (List.getElem_mem _)
  obtain ⟨i, hi⟩ : ∃ i, i = (tx s).getD 0 0 := ⟨_, rfl⟩
  obtain ⟨d, hd⟩ : ∃ d, d = M.at4 (tx s) 1 := ⟨_, rfl⟩
  obtain ⟨e, he⟩ : ∃ e, e = M.at4 (tx s) 5 := ⟨_, rfl⟩
  rw [← hi] at hlt
  simp only [← hi] at C0
  simp only [← hd] at C1
  simp only [← he] at C2
  rw [← hi, ← hd, ← he]
  have hwr : IntKind.i64.wrap (i : Int) = i := by rw [IntKind.wrap_i64]; omega
  clear hi hd he hl hlt
  go_enter Try.func45, Try.ntmps45
  go_wp2_with fail
  go_region_held (fun w' => True) (trivial) (first
    | (go_at_call_of 62 (s.extract 0 1); refine (C0 _).mono ?_; rintro ex w2 ⟨rfl, hw⟩; subst hw)
    | (go_at_call_of 62 (s.extract 1 5); refine (C1 _).mono ?_; rintro ex w2 ⟨rfl, hw⟩; subst hw)
    | (go_at_call_of 62 (s.extract 5 9); refine (C2 _).mono ?_; rintro ex w2 ⟨rfl, hw⟩; subst hw))
  all_goals
    go_wp2_with fail
    exact bodyPost_ret (v := .agg #[.int .i64 i, .int .u64 d, .int .u64 e]) (by simp [results, Try.results45, go_sem]) rfl ⟨rfl, by first | exact below_alloc _ _ | exact (below_alloc _ _).drew⟩
end Go.Proofs.Yteoioldbigomaaa
