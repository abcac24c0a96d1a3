import Derived.Test.YteoioldbigomaabHash
import Derived.Test.YteoioldbigomaabElem
namespace Go.Proofs.Yteoioldbigomaab
open Go.RowKit

theorem M.fnvStep_pos (h : Int) (c : Nat) : 0 ≤ M.fnvStep h c := by unfold M.fnvStep; rw [IntKind.wrap_u64]; omega
/-- The hash's inner number, gone on with from h. -/
def M.go (h : Int) (l : List Nat) : Int := l.foldl M.fnvStep h
theorem M.go_snoc (h : Int) (l : List Nat) (c : Nat) : M.go h (l ++ [c]) = M.fnvStep (M.go h l) c := by simp [M.go]
theorem M.go_app (h : Int) (l k : List Nat) : M.go h (l ++ k) = M.go (M.go h l) k := by simp [M.go]
theorem M.go_pos (h : Int) (h0 : 0 ≤ h) (l : List Nat) : 0 ≤ M.go h l := by
  induction l generalizing h with
  | nil => exact h0
  | cons x l ih => exact ih _ (M.fnvStep_pos h x)

theorem withByte_any (h : Int) (c : Nat) (w : World) (_h0 : 0 ≤ h) :
    Calls Try.prog 71 #[.int .u64 h, .int .u8 c] w fun e w' => e = .returned (.int .u64 (M.fnvStep h c)) ∧ w' = w := by
  go_enter Try.func71, Try.ntmps71
  go_wp2_with fail
  go_ret
  exact ⟨rfl, rfl⟩

set_option maxHeartbeats 1000000 in
set_option maxRecDepth 100000 in
theorem withNumber_any (h : Int) (x : Nat) (w : World) (h0 : 0 ≤ h) :
    Calls Try.prog 72 #[.int .u64 h, .int .u64 x] w fun e w' => e = .returned (.int .u64 (M.go h (M.by8 x 8))) ∧ w' = w := by
  go_enter Try.func72, Try.ntmps72
  go_wp2_with fail
  go_loopw [0, 6] (fun s i wr => ∃ (k : Nat) (z : Int), k ≤ 8 ∧ i = .int .i64 k ∧ s = .int .u64 z ∧ wr = w ∧ 0 ≤ z ∧ Hid (z = M.go h (M.by8 x k))) (fun _ i _ => 8 - (intOf i).toNat)
  case atStart => exact ⟨0, h, Nat.zero_le _, rfl, rfl, rfl, h0, rfl⟩
  case round =>
    obtain ⟨k, z, hk, rfl, rfl, rfl, hz0, HZ⟩ := hrel
    by_cases hlt : k < 8
    · obtain ⟨u, hu⟩ : ∃ u, u = x / 2 ^ (8 * k) % 256 := ⟨_, rfl⟩
      have HU : Hid (u = x / 2 ^ (8 * k) % 256) := hu
      have hki : (k : Int) < 8 := by omega
      have C := fun w' => withByte_any z (x / 2 ^ (8 * k) % 256) w' hz0
      clear hu
      go_wp2_with fail
      refine (C _).mono ?_
      rintro e w' ⟨rfl, hw'⟩
      subst hw'
      go_wp2_with fail
      go_roundw
      case rel => exact ⟨k + 1, M.fnvStep z u, by omega, by go_num, by rw [HU.out], trivial, M.fnvStep_pos _ _, by rw [M.by8_succ, M.go_snoc, ← HU.out, ← HZ.out]; exact rfl⟩
      case measure => simp [intOf]; omega
    · go_wp2_with fail
      go_ret
      have h8 : k = 8 := by omega
      subst h8
      exact ⟨ret_int HZ.out, rfl⟩

set_option maxHeartbeats 1000000 in
set_option maxRecDepth 100000 in
theorem withText_any (h : Int) (s : ByteArray) (w : World) (h0 : 0 ≤ h) (hs : s.size ≤ 65536) :
    Calls Try.prog 73 #[.int .u64 h, .string s] w fun e w' => e = .returned (.int .u64 (M.go h (tx s))) ∧ w' = w := by
  have hln : (tx s).length = s.size := by unfold tx; simp only [List.length_map, Array.length_toList]; rfl
  go_enter Try.func73, Try.ntmps73
  go_wp2_with fail
  go_loopw [0, 8] (fun t i wr => ∃ (k : Nat) (z : Int), k ≤ s.size ∧ i = .int .i64 k ∧ t = .int .u64 z ∧ wr = w ∧ 0 ≤ z ∧ Hid (z = M.go h ((tx s).take k))) (fun _ i _ => s.size - (intOf i).toNat)
  case atStart => exact ⟨0, h, Nat.zero_le _, rfl, rfl, rfl, h0, rfl⟩
  case round =>
    obtain ⟨k, z, hk, rfl, rfl, rfl, hz0, HZ⟩ := hrel
    by_cases hlt : k < s.size
    · have hki : (k : Int) < s.size := by omega
      have HX : Hid ((tx s).getD k 0 = s[k].toNat) := by unfold tx; simp [hlt]; rfl
      have C := fun w' => withByte_any z s[k].toNat w' hz0
      have HL : Hid ((tx s).length = s.size) := hln
      clear hln
      go_wp2_with fail
      refine (C _).mono ?_
      rintro e w' ⟨rfl, hw'⟩
      subst hw'
      go_wp2_with fail
      go_roundw
      case rel => exact ⟨k + 1, _, by omega, by go_num, rfl, trivial, M.fnvStep_pos _ _, by rw [take_snoc (tx s) k 0 (by rw [HL.out]; exact hlt), M.go_snoc, HX.out, ← HZ.out]; exact rfl⟩
      case measure => simp [intOf]; omega
    · go_wp2_with fail
      go_ret
      exact ⟨ret_int (by rw [HZ.out, List.take_of_length_le (by omega)]), rfl⟩

theorem M.fnv_parts (tag : Nat) (l k : List Nat) : M.fnv ([tag] ++ l ++ k) = M.go (M.go (M.fnvStep 14695981039346656037 tag) l) k := by
  rw [List.append_assoc]
  show M.go 14695981039346656037 ([tag] ++ (l ++ k)) = _
  rw [M.go_app, M.go_app]
  exact rfl

set_option maxHeartbeats 1000000 in
set_option maxRecDepth 100000 in
theorem phash_any (tag : Nat) (a : Option Addr) (c n : Nat) (f : Nat → Nat) (s : ByteArray) (w : World) (hn : n ≤ 65536) (hs : s.size ≤ 65536) (hr : RdF w a n (cu (M.sq f n))) :
    Calls Try.prog 57 #[.int .u8 tag, .string s, .slice a n c] w fun e w' => e = .returned (.int .u64 (M.hash tag f n s : Nat)) ∧ w' = w := by
  have C0 := fun w' => withByte_any 14695981039346656037 tag w' (by omega)
  have p0 : 0 ≤ M.fnvStep 14695981039346656037 tag := M.fnvStep_pos _ _
  obtain ⟨z0, hz0⟩ : ∃ z0, z0 = M.fnvStep 14695981039346656037 tag := ⟨_, rfl⟩
  rw [← hz0] at p0
  simp only [← hz0] at C0
  have HZ0 : Hid (z0 = M.fnvStep 14695981039346656037 tag) := hz0
  clear hz0
  have CT := fun z w' (hz : 0 ≤ z) => withText_any z s w' hz hs
  have HS : Hid (s.size ≤ 65536) := hs
  clear hs
  go_enter Try.func57, Try.ntmps57
  go_wp2_with fail
  refine (C0 _).mono ?_
  rintro e w' ⟨rfl, hw'⟩
  have hw := hw'.symm
  subst hw
  clear C0 hw'
  go_wp2_with fail
  go_loopw [7, 14] (fun t i wr => ∃ (k : Nat) (z : Int), k ≤ n ∧ i = .int .i64 k ∧ t = .int .u64 z ∧ wr = w ∧ 0 ≤ z ∧ Hid (z = M.go z0 (M.nb f k))) (fun _ i _ => n - (intOf i).toNat)
  case atStart => exact ⟨0, z0, Nat.zero_le _, rfl, rfl, rfl, p0, rfl⟩
  case round =>
    obtain ⟨k, z, hk, rfl, rfl, rfl, hz, HZ⟩ := hrel
    by_cases hlt : k < n
    · obtain ⟨b, o, rfl, hb, hc⟩ := hr.at (by omega)
      obtain ⟨x, hx⟩ : ∃ x, x = f k := ⟨_, rfl⟩
      have hcx : wr.cell? ⟨b, o + k, none⟩ = some (.int .u64 (x : Int)) := by rw [hc k hlt, M.cu_sq _ _ _ hlt, hx]
      have HX : Hid (x = f k) := hx
      have C := fun w' => withNumber_any z x w' hz
      have pz : 0 ≤ M.go z (M.by8 x 8) := M.go_pos _ hz _
      obtain ⟨y, hy⟩ : ∃ y, y = M.go z (M.by8 x 8) := ⟨_, rfl⟩
      rw [← hy] at pz
      simp only [← hy] at C
      have HY : Hid (y = M.go z (M.by8 x 8)) := hy
      clear hx hc hr hy
      go_wp2_with fail
      refine (C _).mono ?_
      rintro e w' ⟨rfl, hw'⟩
      subst hw'
      go_wp2_with fail
      go_roundw
      case rel => exact ⟨k + 1, y, by omega, by go_num, rfl, trivial, pz, by rw [M.nb, M.go_app, ← HZ.out, ← HX.out, ← HY.out]; exact rfl⟩
      case measure => simp [intOf]; omega
    · have hkn : n = k := by omega
      subst hkn
      have C := fun w' => CT z w' hz
      have pz : 0 ≤ M.go z (tx s) := M.go_pos _ hz _
      obtain ⟨y, hy⟩ : ∃ y, y = M.go z (tx s) := ⟨_, rfl⟩
      rw [← hy] at pz
      simp only [← hy] at C
      have HY : Hid (y = M.go z (tx s)) := hy
      have hm : y.tmod 1073741789 = y % 1073741789 := Int.tmod_eq_emod_of_nonneg pz
      clear hr hy CT
      go_wp2_with fail
      refine (C _).mono ?_
      rintro e w' ⟨rfl, hw'⟩
      subst hw'
      go_wp2_with fail
      go_ret
      refine ⟨ret_int ?_, rfl⟩
      unfold M.hash
      rw [M.fnv_parts, ← HZ0.out, ← HZ.out, ← HY.out]
      omega
end Go.Proofs.Yteoioldbigomaab
namespace Go.Proofs.Yteoioldbigomaab
open Go.RowKit

/-- An element other than 1. -/
structure PRO (x : Nat) : Prop where
  ne : x ≠ 1
  el : ISE x

set_option maxHeartbeats 400000 in
theorem properOf_yes (x : Nat) (w : World) (h : PRO x) :
    Calls Try.prog 86 #[.int .u64 x] w fun e w' => e = .returned (.tuple #[.int .u64 x, .bool true]) ∧ w' = w := by
  have C := fun w' => elementOf_yes x w' h.el
  have h1 : ((x : Int) == 1) = false := by have := h.ne; simp; omega
  clear h
  go_enter Try.func86, Try.ntmps86
  go_wp2_with (go_at_call 63; refine (C _).mono ?_; rintro e w' ⟨rfl, rfl⟩)
  go_ret2
  exact ⟨rfl, rfl⟩

set_option maxHeartbeats 400000 in
theorem properOf_no (x : Nat) (w : World) (h : ¬ PRO x) :
    Calls Try.prog 86 #[.int .u64 x] w fun e w' => e = .returned (.tuple #[.int .u64 0, .bool false]) ∧ w' = w := by
  have H : Hid (¬ PRO x) := h
  clear h
  by_cases h1 : x = 1
  · subst h1
    go_enter Try.func86, Try.ntmps86
    go_wp2_with fail
    go_ret2
    exact ⟨rfl, rfl⟩
  · have C := fun w' => elementOf_no x w' (fun he => H.out ⟨h1, he⟩)
    have h2 : ((x : Int) == 1) = false := by simp; omega
    clear h1
    go_enter Try.func86, Try.ntmps86
    go_wp2_with (go_at_call 63; refine (C _).mono ?_; rintro e w' ⟨rfl, rfl⟩)
    go_ret2
    exact ⟨rfl, rfl⟩

/-- ProperOf, either way. -/
theorem properOf_any (x : Nat) (w : World) : ∃ (y : Nat) (b : Bool), Hid ((b = true ∧ y = x ∧ PRO x) ∨ (b = false ∧ ¬ PRO x)) ∧ Calls Try.prog 86 #[.int .u64 x] w fun e w' => e = .returned (.tuple #[.int .u64 y, .bool b]) ∧ w' = w := by
  by_cases h : PRO x
  · exact ⟨x, true, .inl ⟨rfl, rfl, h⟩, properOf_yes x w h⟩
  · exact ⟨0, false, .inr ⟨rfl, h⟩, properOf_no x w h⟩
theorem scalarOf_any (x : Nat) (w : World) : ∃ (y : Nat) (b : Bool), Hid ((b = true ∧ y = x ∧ SC x) ∨ (b = false ∧ ¬ SC x)) ∧ Calls Try.prog 19 #[.int .u64 x] w fun e w' => e = .returned (.tuple #[.int .u64 y, .bool b]) ∧ w' = w := by
  by_cases h : SC x
  · exact ⟨x, true, .inl ⟨rfl, rfl, h⟩, scalarOf_yes x w h⟩
  · exact ⟨0, false, .inr ⟨rfl, h⟩, scalarOf_no x w h⟩


set_option maxHeartbeats 400000 in
theorem allP_core (a : Option Addr) (c : Nat) (l : List Nat) (w : World) (hlen : l.length ≤ 65536) (hr : RdF w a l.length (cu l)) :
    Calls Try.prog 62 #[.func (.func 86) #[] #[], .slice a l.length c] w fun e w' => Below w.heap.size w w' ∧
      (((∀ x ∈ l, PRO x) ∧ ∃ g, e = .returned (.tuple #[.slice (some ⟨g, 0, none⟩) l.length l.length, .bool true]) ∧ RdF w' (some ⟨g, 0, none⟩) l.length (cu l)) ∨
       ((¬ ∀ x ∈ l, PRO x) ∧ e = .returned (.tuple #[.slice none 0 0, .bool false]))) := by
  obtain ⟨n, hn⟩ : ∃ n, n = l.length := ⟨_, rfl⟩
  have HN : Hid (n = l.length) := hn
  rw [← hn] at hlen hr ⊢
  clear hn
  obtain ⟨i0, hi, hz0, hz1, hz2⟩ := info_parts Try.info79
  have hle : n ≤ maxLen := by unfold maxLen; omega
  go_enter Try.func62, Try.ntmps62
  go_wp2_with (at_make; refine wpList_make_full _ rfl _ _ 87 rfl w.heap.size 79 i0 (.int .u64 0) 1 Try.underlying87 hi hz0 hz1 .i64 .i64 _ _ n rfl rfl (by omega) (by omega) (by rw [hz2]; omega) (by assumption) (Nat.le_refl _) ?_; intro w1 hown hgrow)
  have F : Fill w1 w.heap.size 79 w.heap.size n 0 (cu l) := Fill.start hown
  have bel := below_made hgrow
  clear hown hgrow hi hz0 hz1 hz2 hle
  go_loopw [16] (fun i wr => ∃ k : Nat, k ≤ n ∧ i = .int .i64 k ∧ Below w.heap.size w wr ∧ Fill wr w.heap.size 79 w.heap.size n k (cu l) ∧ Hid (∀ x ∈ l.take k, PRO x)) (fun i _ => n - (intOf i).toNat)
  case atStart => exact ⟨0, Nat.zero_le _, rfl, bel, F, fun x hx => by simp at hx⟩
  case round =>
    clear F bel
    obtain ⟨k, hk, rfl, bel, F, HK⟩ := hrel
    by_cases hlt : k < n
    · obtain ⟨b, o, rfl, hb, hc⟩ := hr.at (by omega)
      obtain ⟨x, hx⟩ : ∃ x, x = l.getD k 0 := ⟨_, rfl⟩
      have hcx : wr.cell? ⟨b, o + k, none⟩ = some (.int .u64 (x : Int)) := by rw [bel.cell (by exact hb), hc k hlt, hx]; rfl
      have HX : Hid (x = l.getD k 0) := hx
      have HT : Hid (l.take (k + 1) = l.take k ++ [x]) := by rw [HX.out]; exact take_snoc l k 0 (by have := HN.out; omega)
      have hfz := F.frozen k
      obtain ⟨v, hv⟩ := F.there hlt
      clear hx hc hr
      by_cases hs : PRO x
      · go_wp2_with (go_at_call 86; refine (properOf_yes _ _ hs).mono ?_; rintro e w' ⟨rfl, rfl⟩)
        go_roundw
        case rel =>
          refine ⟨k + 1, by omega, by go_num, ?_, ?_, ?_⟩
          · exact bel.setCell (Nat.le_refl _) _
          · exact F.store hlt (by rw [HX.out]; rfl)
          · intro y hy
            rw [HT.out] at hy
            rcases List.mem_append.1 hy with hy | hy
            · exact HK.out y hy
            · simp at hy; rw [hy]; exact hs
        case measure => simp [intOf]; omega
      · go_wp2_with (go_at_call 86; refine (properOf_no _ _ hs).mono ?_; rintro e w' ⟨rfl, rfl⟩)
        go_ret2
        refine ⟨bel, .inr ⟨fun h => hs (h x ?_), rfl⟩⟩
        have : x ∈ l.take (k + 1) := by rw [HT.out]; simp
        exact List.mem_of_mem_take this
    · go_wp2_with fail
      go_ret2
      have hkn : k = n := by omega
      subst hkn
      refine ⟨bel, .inl ⟨fun x hx => HK.out x ?_, _, rfl, F.rd⟩⟩
      rw [List.take_of_length_le (by have := HN.out; omega)]; exact hx


set_option maxHeartbeats 400000 in
set_option maxRecDepth 100000 in
theorem proper_any (i : Int) (d e : Nat) (w : World) :
    Calls Try.prog 70 #[.agg #[.int .i64 i, .int .u64 d, .int .u64 e]] w fun ex w' => Below w.heap.size w w' ∧ ((PRO d ∧ PRO e ∧ ex = .returned (.bool true)) ∨ (¬ (PRO d ∧ PRO e) ∧ ex = .returned (.bool false))) := by
  have B1 := below_alloc w (.cells #[.int .i64 i, .int .u64 (d : Int), .int .u64 (e : Int)] 40)
  obtain ⟨W1, hW1⟩ : ∃ W1, w.alloc (.cells #[.int .i64 i, .int .u64 (d : Int), .int .u64 (e : Int)] 40) = W1 := ⟨_, rfl⟩
  have B2 := below_alloc W1 (.cells #[.int .u64 (d : Int), .int .u64 (e : Int)] 22)
  have hrd : RdF (W1.alloc (.cells #[.int .u64 (d : Int), .int .u64 (e : Int)] 22)) (some ⟨W1.heap.size, 0, none⟩) 2 (cu [d, e]) := by
    refine .inr ⟨W1.heap.size, 0, rfl, by rw [size_alloc]; omega, fun i hi => ?_⟩
    have hz := heap_alloc_new W1 (.cells #[.int .u64 (d : Int), .int .u64 (e : Int)] 22)
    match i, hi with
    | 0, _ => unfold World.cell?; simp only [hz]; rfl
    | 1, _ => unfold World.cell?; simp only [hz]; rfl
  have C := allP_core (some ⟨W1.heap.size, 0, none⟩) 2 [d, e] _ (by simp) hrd
  have hz := heap_alloc_new w (.cells #[.int .i64 i, .int .u64 (d : Int), .int .u64 (e : Int)] 40)
  rw [hW1] at B1 hz
  have c1 : W1.cell? ⟨w.heap.size, 1, none⟩ = some (.int .u64 (d : Int)) := by simp [World.cell?, hz]
  have c2 : W1.cell? ⟨w.heap.size, 2, none⟩ = some (.int .u64 (e : Int)) := by simp [World.cell?, hz]
  clear hz hrd
  go_enter Try.func70, Try.ntmps70
  go_wp2_with fail
  refine C.mono ?_
  rintro ex w3 ⟨bel, ⟨hp, g, rfl, _⟩ | ⟨hp, rfl⟩⟩
  · clear C
    go_wp2_with fail
    go_ret
    exact ⟨B1.trans ((B2.trans (bel.mono B2.size)).mono B1.size), .inl ⟨hp d (by simp), hp e (by simp), rfl⟩⟩
  · clear C
    go_wp2_with fail
    go_ret
    refine ⟨B1.trans ((B2.trans (bel.mono B2.size)).mono B1.size), .inr ⟨fun h => hp fun x hx => ?_, rfl⟩⟩
    simp at hx
    rcases hx with rfl | rfl
    · exact h.1
    · exact h.2
end Go.Proofs.Yteoioldbigomaab
namespace Go.Proofs.Yteoioldbigomaab
open Go.RowKit

theorem two_rd (w : World) (r key : Nat) : RdF (w.alloc (.cells #[.int .u64 (r : Int), .int .u64 (key : Int)] 22)) (some ⟨w.heap.size, 0, none⟩) 2 (cu (M.sq (M.two r key) 2)) := by
  refine .inr ⟨w.heap.size, 0, rfl, by rw [size_alloc]; omega, fun i hi => ?_⟩
  rw [M.cu_sq _ _ _ hi]
  have hz := heap_alloc_new w (.cells #[.int .u64 (r : Int), .int .u64 (key : Int)] 22)
  match i, hi with
  | 0, _ => unfold World.cell?; simp only [hz]; rfl
  | 1, _ => unfold World.cell?; simp only [hz]; rfl

set_option maxRecDepth 100000 in
theorem challenge_any (r key : Nat) (s : ByteArray) (w : World) (hs : s.size ≤ 65536) :
    Calls Try.prog 58 #[.int .u64 r, .int .u64 key, .string s] w fun e w' => e = .returned (.int .u64 (M.chal r key s : Nat)) ∧ Below w.heap.size w w' := by
  have B := below_alloc w (.cells #[.int .u64 (r : Int), .int .u64 (key : Int)] 22)
  have C := phash_any 2 (some ⟨w.heap.size, 0, none⟩) 2 2 (M.two r key) s _ (by omega) hs (two_rd w r key)
  clear hs
  go_enter Try.func58, Try.ntmps58
  go_wp2_with fail
  refine C.mono ?_
  rintro e w2 ⟨rfl, hw⟩
  subst hw
  go_wp2_with fail
  go_ret
  exact ⟨rfl, B⟩

end Go.Proofs.Yteoioldbigomaab
