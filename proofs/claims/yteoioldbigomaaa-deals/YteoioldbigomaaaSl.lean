import Derived.Test.YteoioldbigomaaaPow
namespace Go.Proofs.Yteoioldbigomaaa
open Go.RowKit

/-- A slice's address whose first n cells hold f. -/
def RdF (w : World) (a : Option Addr) (n : Nat) (f : Nat → Value) : Prop :=
  n = 0 ∨ ∃ b o, a = some ⟨b, o, none⟩ ∧ b < w.heap.size ∧ ∀ i, i < n → w.cell? ⟨b, o + i, none⟩ = some (f i)

/-- The i-th of a list of numbers, as a cell of a []uint64. -/
def cu (l : List Nat) (i : Nat) : Value := .int .u64 ((l.getD i 0 : Nat) : Int)

theorem RdF.below {w w' : World} {a : Option Addr} {n : Nat} {f : Nat → Value} (h : RdF w a n f) (hb : Below w.heap.size w w') : RdF w' a n f := by
  rcases h with h | ⟨b, o, rfl, hlt, hc⟩
  · exact .inl h
  · exact .inr ⟨b, o, rfl, Nat.lt_of_lt_of_le hlt hb.size, fun i hi => (hb.cell (p := ⟨b, o + i, none⟩) hlt).trans (hc i hi)⟩

theorem RdF.at {w : World} {a : Option Addr} {n : Nat} {f : Nat → Value} (h : RdF w a n f) (hn : 0 < n) :
    ∃ b o, a = some ⟨b, o, none⟩ ∧ b < w.heap.size ∧ ∀ i, i < n → w.cell? ⟨b, o + i, none⟩ = some (f i) := by
  rcases h with h | h
  · omega
  · exact h

theorem RdF.congr {w : World} {a : Option Addr} {n : Nat} {f g : Nat → Value} (h : RdF w a n f) (e : ∀ i, i < n → f i = g i) : RdF w a n g := by
  rcases h with h | ⟨b, o, h1, h2, h3⟩
  · exact .inl h
  · exact .inr ⟨b, o, h1, h2, fun i hi => (h3 i hi).trans (by rw [e i hi])⟩

theorem ownsRow_below {w w' : World} {B e size n : Nat} {v : Value} {xs : List Value} (h : w.ownsRow B e size v n xs) (hb : Below w.heap.size w w') : w'.ownsRow B e size v n xs := by
  refine ⟨h.1, ?_⟩
  rcases h.2 with h2 | ⟨g, cap, cur, h1, h2, h3, h4⟩
  · exact .inl h2
  · have hlt : g < w.heap.size := by
      rcases Nat.lt_or_ge g w.heap.size with hl | hl
      · exact hl
      · rw [Array.getElem?_eq_none hl] at h3; cases h3
    exact .inr ⟨g, cap, cur, h1, h2, (hb.block g hlt).trans h3, h4⟩

/-- An array of the call's own, n long, at block g, whose first k elements are f's. -/
def Fill (w : World) (B e g n k : Nat) (f : Nat → Value) : Prop :=
  ∃ xs, w.ownsRow B e 1 (.slice (some ⟨g, 0, none⟩) n n) n xs ∧ ∀ i, i < k → xs[i]? = some (f i)

theorem Fill.start {w : World} {B e g n : Nat} {xs : List Value} {f : Nat → Value} (h : w.ownsRow B e 1 (.slice (some ⟨g, 0, none⟩) n n) n xs) : Fill w B e g n 0 f :=
  ⟨xs, h, fun i hi => absurd hi (Nat.not_lt_zero i)⟩

theorem Fill.below {w w' : World} {B e g n k : Nat} {f : Nat → Value} (h : Fill w B e g n k f) (hb : Below w.heap.size w w') : Fill w' B e g n k f := by
  obtain ⟨xs, h1, h2⟩ := h
  exact ⟨xs, ownsRow_below h1 hb, h2⟩

theorem Fill.lt {w : World} {B e g n k : Nat} {f : Nat → Value} (h : Fill w B e g n k f) : B ≤ g ∧ g < w.heap.size := by
  obtain ⟨xs, h1, _⟩ := h
  exact h1.lt g rfl

theorem Fill.frozen {w : World} {B e g n k : Nat} {f : Nat → Value} (h : Fill w B e g n k f) (j : Nat) : w.frozen? ⟨g, j, none⟩ = false := by
  obtain ⟨xs, h1, _⟩ := h
  exact h1.frozenAt j

theorem Fill.there {w : World} {B e g n k : Nat} {f : Nat → Value} (h : Fill w B e g n k f) {j : Nat} (hj : j < n) : ∃ v, w.cell? ⟨g, j, none⟩ = some v := by
  obtain ⟨xs, h1, _⟩ := h
  rw [h1.cellAt j (by omega)]
  have := h1.1
  exact ⟨xs[j]'(by omega), List.getElem?_eq_getElem (by omega)⟩

theorem Fill.store {w : World} {B e g n k : Nat} {f : Nat → Value} {u : Value} (h : Fill w B e g n k f) (hk : k < n) (hu : f k = u) : Fill (w.setCell ⟨g, k, none⟩ u) B e g n (k + 1) f := by
  obtain ⟨xs, h1, h2⟩ := h
  have hl := h1.1
  refine ⟨xs.set k u, (h1.stored k u).1, fun i hi => ?_⟩
  rcases Nat.lt_or_eq_of_le (Nat.le_of_lt_succ hi) with hlt | rfl
  · rw [List.getElem?_set_ne (by omega)]; exact h2 i hlt
  · rw [List.getElem?_set_self (by omega), hu]

theorem Fill.rd {w : World} {B e g n : Nat} {f : Nat → Value} (h : Fill w B e g n n f) : RdF w (some ⟨g, 0, none⟩) n f := by
  have hlt := h.lt.2
  obtain ⟨xs, h1, h2⟩ := h
  refine .inr ⟨g, 0, rfl, hlt, fun i hi => ?_⟩
  rw [Nat.zero_add, h1.cellAt i (by omega)]
  exact h2 i hi

theorem take_snoc {α : Type} (l : List α) (k : Nat) (d : α) (h : k < l.length) : l.take (k + 1) = l.take k ++ [l.getD k d] := by
  rw [List.take_succ_eq_append_getElem h]
  congr 2
  simp [h]

theorem SC.getD {l : List Nat} (h : ∀ x ∈ l, SC x) (k : Nat) : SC (l.getD k 0) := by
  rcases Nat.lt_or_ge k l.length with hk | hk
  · have : l.getD k 0 = l[k] := by simp [hk]
    rw [this]; exact h _ (List.getElem_mem hk)
  · have : l.getD k 0 = 0 := by simp [List.getElem?_eq_none hk]
    rw [this]; exact ⟨by omega⟩

theorem EL.getD {l : List Nat} (h : ∀ x ∈ l, EL x) (k : Nat) : EL (l.getD k 0) := by
  rcases Nat.lt_or_ge k l.length with hk | hk
  · have : l.getD k 0 = l[k] := by simp [hk]
    rw [this]; exact h _ (List.getElem_mem hk)
  · have : l.getD k 0 = 0 := by simp [List.getElem?_eq_none hk]
    rw [this]; exact ⟨by omega⟩

/-- Sums and products as the program makes them, from the left. -/
def M.sumQ (l : List Nat) : Nat := l.foldl (fun s x => (s + x) % 1073741789) 0
def M.prodQ (l : List Nat) : Nat := l.foldl (fun s x => (s * x) % 1073741789) 1
def M.prodP (l : List Nat) : Nat := l.foldl (fun s x => (s * x) % 2147483579) 1

theorem M.sumQ_snoc (l : List Nat) (x : Nat) : M.sumQ (l ++ [x]) = (M.sumQ l + x) % 1073741789 := by simp [M.sumQ]
theorem M.prodQ_snoc (l : List Nat) (x : Nat) : M.prodQ (l ++ [x]) = (M.prodQ l * x) % 1073741789 := by simp [M.prodQ]
theorem M.prodP_snoc (l : List Nat) (x : Nat) : M.prodP (l ++ [x]) = (M.prodP l * x) % 2147483579 := by simp [M.prodP]

set_option maxHeartbeats 400000 in
theorem together_plus (a : Option Addr) (c : Nat) (l : List Nat) (w : World) (hlen : l.length ≤ 65536) (hl : ∀ x ∈ l, SC x) (hr : RdF w a l.length (cu l)) :
    Calls Try.prog 37 #[.func (.func 38) #[] #[], .int .u64 0, .slice a l.length c] w fun e w' => e = .returned (.int .u64 (M.sumQ l : Nat)) ∧ w' = w := by
  obtain ⟨n, hn⟩ : ∃ n, n = l.length := ⟨_, rfl⟩
  have HN : Hid (n = l.length) := hn
  rw [← hn] at hlen hr ⊢
  clear hn
  have HL : Hid (∀ x ∈ l, SC x) := hl
  clear hl
  go_enter Try.func37, Try.ntmps37
  go_wp2_with fail
  go_loopw [7, 13] (fun s i wr => ∃ k S : Nat, wr = w ∧ k ≤ n ∧ i = .int .i64 k ∧ s = .int .u64 S ∧ SC S ∧ Hid (S = M.sumQ (l.take k))) (fun _ i _ => n - (intOf i).toNat)
  case atStart => exact ⟨0, 0, rfl, Nat.zero_le _, rfl, rfl, ⟨by omega⟩, rfl⟩
  case round =>
    obtain ⟨k, S, rfl, hk, rfl, rfl, hS, HS⟩ := hrel
    by_cases hlt : k < n
    · obtain ⟨b, o, rfl, hb, hc⟩ := hr.at (by omega)
      have hck := hc k hlt
      obtain ⟨x, hx⟩ : ∃ x, x = l.getD k 0 := ⟨_, rfl⟩
      have hcx : wr.cell? ⟨b, o + k, none⟩ = some (.int .u64 (x : Int)) := by rw [hck, hx]; rfl
      have hsx : SC x := by rw [hx]; exact SC.getD HL.out k
      have HX : Hid (x = l.getD k 0) := hx
      clear hx hck hc hr HL
      go_wp2_with (go_at_call 38; refine (plus_any _ _ _ (by assumption) (by assumption)).mono ?_; rintro e w' ⟨rfl, rfl⟩)
      go_roundw
      case rel => exact ⟨k + 1, (S + x) % 1073741789, trivial, by omega, by go_num, rfl, SC.mod _, by rw [take_snoc l k 0 (by have := HN.out; omega), M.sumQ_snoc, ← HX.out, ← HS.out]; rfl⟩
      case measure => simp [intOf]; omega
    · go_wp2_with fail
      go_ret
      exact ⟨ret_int (by rw [HS.out, List.take_of_length_le (by have := HN.out; omega)]), rfl⟩
set_option maxHeartbeats 400000 in
theorem together_times (a : Option Addr) (c : Nat) (l : List Nat) (w : World) (hlen : l.length ≤ 65536) (hl : ∀ x ∈ l, SC x) (hr : RdF w a l.length (cu l)) :
    Calls Try.prog 37 #[.func (.func 40) #[] #[], .int .u64 1, .slice a l.length c] w fun e w' => e = .returned (.int .u64 (M.prodQ l : Nat)) ∧ w' = w := by
  obtain ⟨n, hn⟩ : ∃ n, n = l.length := ⟨_, rfl⟩
  have HN : Hid (n = l.length) := hn
  rw [← hn] at hlen hr ⊢
  clear hn
  have HL : Hid (∀ x ∈ l, SC x) := hl
  clear hl
  go_enter Try.func37, Try.ntmps37
  go_wp2_with fail
  go_loopw [7, 13] (fun s i wr => ∃ k S : Nat, wr = w ∧ k ≤ n ∧ i = .int .i64 k ∧ s = .int .u64 S ∧ SC S ∧ Hid (S = M.prodQ (l.take k))) (fun _ i _ => n - (intOf i).toNat)
  case atStart => exact ⟨0, 1, rfl, Nat.zero_le _, rfl, rfl, ⟨by omega⟩, rfl⟩
  case round =>
    obtain ⟨k, S, rfl, hk, rfl, rfl, hS, HS⟩ := hrel
    by_cases hlt : k < n
    · obtain ⟨b, o, rfl, hb, hc⟩ := hr.at (by omega)
      have hck := hc k hlt
      obtain ⟨x, hx⟩ : ∃ x, x = l.getD k 0 := ⟨_, rfl⟩
      have hcx : wr.cell? ⟨b, o + k, none⟩ = some (.int .u64 (x : Int)) := by rw [hck, hx]; rfl
      have hsx : SC x := by rw [hx]; exact SC.getD HL.out k
      have HX : Hid (x = l.getD k 0) := hx
      clear hx hck hc hr HL
      go_wp2_with (go_at_call 40; refine (times_any _ _ _ (by assumption) (by assumption)).mono ?_; rintro e w' ⟨rfl, rfl⟩)
      go_roundw
      case rel => exact ⟨k + 1, (S * x) % 1073741789, trivial, by omega, by go_num, rfl, SC.mod _, by rw [take_snoc l k 0 (by have := HN.out; omega), M.prodQ_snoc, ← HX.out, ← HS.out]; rfl⟩
      case measure => simp [intOf]; omega
    · go_wp2_with fail
      go_ret
      exact ⟨ret_int (by rw [HS.out, List.take_of_length_le (by have := HN.out; omega)]), rfl⟩
set_option maxHeartbeats 400000 in
theorem together_etimes (a : Option Addr) (c : Nat) (l : List Nat) (w : World) (hlen : l.length ≤ 65536) (hl : ∀ x ∈ l, EL x) (hr : RdF w a l.length (cu l)) :
    Calls Try.prog 77 #[.func (.func 50) #[] #[], .int .u64 1, .slice a l.length c] w fun e w' => e = .returned (.int .u64 (M.prodP l : Nat)) ∧ w' = w := by
  obtain ⟨n, hn⟩ : ∃ n, n = l.length := ⟨_, rfl⟩
  have HN : Hid (n = l.length) := hn
  rw [← hn] at hlen hr ⊢
  clear hn
  have HL : Hid (∀ x ∈ l, EL x) := hl
  clear hl
  go_enter Try.func77, Try.ntmps77
  go_wp2_with fail
  go_loopw [7, 13] (fun s i wr => ∃ k S : Nat, wr = w ∧ k ≤ n ∧ i = .int .i64 k ∧ s = .int .u64 S ∧ EL S ∧ Hid (S = M.prodP (l.take k))) (fun _ i _ => n - (intOf i).toNat)
  case atStart => exact ⟨0, 1, rfl, Nat.zero_le _, rfl, rfl, ⟨by omega⟩, rfl⟩
  case round =>
    obtain ⟨k, S, rfl, hk, rfl, rfl, hS, HS⟩ := hrel
    by_cases hlt : k < n
    · obtain ⟨b, o, rfl, hb, hc⟩ := hr.at (by omega)
      have hck := hc k hlt
      obtain ⟨x, hx⟩ : ∃ x, x = l.getD k 0 := ⟨_, rfl⟩
      have hcx : wr.cell? ⟨b, o + k, none⟩ = some (.int .u64 (x : Int)) := by rw [hck, hx]; rfl
      have hsx : EL x := by rw [hx]; exact EL.getD HL.out k
      have HX : Hid (x = l.getD k 0) := hx
      clear hx hck hc hr HL
      go_wp2_with (go_at_call 50; refine (etimes_any _ _ _ (by assumption) (by assumption)).mono ?_; rintro e w' ⟨rfl, rfl⟩)
      go_roundw
      case rel => exact ⟨k + 1, (S * x) % 2147483579, trivial, by omega, by go_num, rfl, EL.mod _, by rw [take_snoc l k 0 (by have := HN.out; omega), M.prodP_snoc, ← HX.out, ← HS.out]; rfl⟩
      case measure => simp [intOf]; omega
    · go_wp2_with fail
      go_ret
      exact ⟨ret_int (by rw [HS.out, List.take_of_length_le (by have := HN.out; omega)]), rfl⟩
end Go.Proofs.Yteoioldbigomaaa
