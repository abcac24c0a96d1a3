import Derived.Test.YteoioldbigomaaaHash
namespace Go.Proofs.Yteoioldbigomaaa
open Go.RowKit

theorem M.fnvStep_pos (h : Int) (c : Nat) : 0 ≤ M.fnvStep h c := by unfold M.fnvStep; rw [IntKind.wrap_u64]; omega
/-- The hash's inner number, gone on with from h. -/
def M.go (h : Int) (l : List Nat) : Int := l.foldl M.fnvStep h
theorem M.go_snoc (h : Int) (l : List Nat) (c : Nat) : M.go h (l ++ [c]) = M.fnvStep (M.go h l) c := by simp [M.go]
theorem M.go_app (h : Int) (l k : List Nat) : M.go h (l ++ k) = M.go (M.go h l) k := by simp [M.go]
theorem M.go_pos (h : Int) (h0 : 0 ≤ h) (l : List Nat) : 0 ≤ M.go h l := by
  induction l generalizing h with
  | nil => exact h0
  | cons x l ih => exact ih _ (M.fnvStep_pos h x)

theorem withByte_any (h : Int) (c : Nat) (w : World) (_h0 : 0 ≤ h) :
    Calls Try.prog 72 #[.int .u64 h, .int .u8 c] w fun e w' => e = .returned (.int .u64 (M.fnvStep h c)) ∧ w' = w := by
  go_enter Try.func72, Try.ntmps72
  go_wp2_with fail
  go_ret
  exact ⟨rfl, rfl⟩

set_option maxHeartbeats 1000000 in
set_option maxRecDepth 100000 in
theorem withNumber_any (h : Int) (x : Nat) (w : World) (h0 : 0 ≤ h) :
    Calls Try.prog 73 #[.int .u64 h, .int .u64 x] w fun e w' => e = .returned (.int .u64 (M.go h (M.by8 x 8))) ∧ w' = w := by
  go_enter Try.func73, Try.ntmps73
  go_wp2_with fail
  go_loopw [0, 6] (fun s i wr => ∃ (k : Nat) (z : Int), k ≤ 8 ∧ i = .int .i64 k ∧ s = .int .u64 z ∧ wr = w ∧ 0 ≤ z ∧ Hid (z = M.go h (M.by8 x k))) (fun _ i _ => 8 - (intOf i).toNat)
  case atStart => exact ⟨0, h, Nat.zero_le _, rfl, rfl, rfl, h0, rfl⟩
  case round =>
    obtain ⟨k, z, hk, rfl, rfl, rfl, hz0, HZ⟩ := hrel
    by_cases hlt : k < 8
    · obtain ⟨u, hu⟩ : ∃ u, u = x / 2 ^ (8 * k) % 256 := ⟨_, rfl⟩
      have HU : Hid (u = x / 2 ^ (8 * k) % 256) := hu
      have hki : (k : Int) < 8 := by omega
      have C := fun w' => withByte_any z (x / 2 ^ (8 * k) % 256) w' hz0
      clear hu
      go_wp2_with fail
      refine (C _).mono ?_
      rintro e w' ⟨rfl, hw'⟩
      subst hw'
      go_wp2_with fail
      go_roundw
      case rel => exact ⟨k + 1, M.fnvStep z u, by omega, by go_num, by rw [HU.out], trivial, M.fnvStep_pos _ _, by rw [M.by8_succ, M.go_snoc, ← HU.out, ← HZ.out]; exact rfl⟩
      case measure => simp [intOf]; omega
    · go_wp2_with fail
      go_ret
      have h8 : k = 8 := by omega
      subst h8
      exact ⟨ret_int HZ.out, rfl⟩

set_option maxHeartbeats 1000000 in
set_option maxRecDepth 100000 in
theorem withText_any (h : Int) (s : ByteArray) (w : World) (h0 : 0 ≤ h) (hs : s.size ≤ 65536) :
    Calls Try.prog 74 #[.int .u64 h, .string s] w fun e w' => e = .returned (.int .u64 (M.go h (tx s))) ∧ w' = w := by
  have hln : (tx s).length = s.size := by unfold tx; simp only [List.length_map, Array.length_toList]; rfl
  go_enter Try.func74, Try.ntmps74
  go_wp2_with fail
  go_loopw [0, 8] (fun t i wr => ∃ (k : Nat) (z : Int), k ≤ s.size ∧ i = .int .i64 k ∧ t = .int .u64 z ∧ wr = w ∧ 0 ≤ z ∧ Hid (z = M.go h ((tx s).take k))) (fun _ i _ => s.size - (intOf i).toNat)
  case atStart => exact ⟨0, h, Nat.zero_le _, rfl, rfl, rfl, h0, rfl⟩
  case round =>
    obtain ⟨k, z, hk, rfl, rfl, rfl, hz0, HZ⟩ := hrel
    by_cases hlt : k < s.size
    · have hki : (k : Int) < s.size := by omega
      have HX : Hid ((tx s).getD k 0 = s[k].toNat) := by unfold tx; simp [hlt]; rfl
      have C := fun w' => withByte_any z s[k].toNat w' hz0
      have HL : Hid ((tx s).length = s.size) := hln
      clear hln
      go_wp2_with fail
      refine (C _).mono ?_
      rintro e w' ⟨rfl, hw'⟩
      subst hw'
      go_wp2_with fail
      go_roundw
      case rel => exact ⟨k + 1, _, by omega, by go_num, rfl, trivial, M.fnvStep_pos _ _, by rw [take_snoc (tx s) k 0 (by rw [HL.out]; exact hlt), M.go_snoc, HX.out, ← HZ.out]; exact rfl⟩
      case measure => simp [intOf]; omega
    · go_wp2_with fail
      go_ret
      exact ⟨ret_int (by rw [HZ.out, List.take_of_length_le (by omega)]), rfl⟩

theorem M.fnv_parts (tag : Nat) (l k : List Nat) : M.fnv ([tag] ++ l ++ k) = M.go (M.go (M.fnvStep 14695981039346656037 tag) l) k := by
  rw [List.append_assoc]
  show M.go 14695981039346656037 ([tag] ++ (l ++ k)) = _
  rw [M.go_app, M.go_app]
  exact rfl

set_option maxHeartbeats 1000000 in
set_option maxRecDepth 100000 in
theorem phash_any (tag : Nat) (a : Option Addr) (c n : Nat) (f : Nat → Nat) (s : ByteArray) (w : World) (hn : n ≤ 65536) (hs : s.size ≤ 65536) (hr : RdF w a n (cu (M.sq f n))) :
    Calls Try.prog 66 #[.int .u8 tag, .string s, .slice a n c] w fun e w' => e = .returned (.int .u64 (M.hash tag f n s : Nat)) ∧ w' = w := by
  have C0 := fun w' => withByte_any 14695981039346656037 tag w' (by omega)
  have p0 : 0 ≤ M.fnvStep 14695981039346656037 tag := M.fnvStep_pos _ _
  obtain ⟨z0, hz0⟩ : ∃ z0, z0 = M.fnvStep 14695981039346656037 tag := ⟨_, rfl⟩
  rw [← hz0] at p0
  simp only [← hz0] at C0
  have HZ0 : Hid (z0 = M.fnvStep 14695981039346656037 tag) := hz0
  clear hz0
  have CT := fun z w' (hz : 0 ≤ z) => withText_any z s w' hz hs
  have HS : Hid (s.size ≤ 65536) := hs
  clear hs
  go_enter Try.func66, Try.ntmps66
  go_wp2_with fail
  refine (C0 _).mono ?_
  rintro e w' ⟨rfl, hw'⟩
  have hw := hw'.symm
  subst hw
  clear C0 hw'
  go_wp2_with fail
  go_loopw [7, 14] (fun t i wr => ∃ (k : Nat) (z : Int), k ≤ n ∧ i = .int .i64 k ∧ t = .int .u64 z ∧ wr = w ∧ 0 ≤ z ∧ Hid (z = M.go z0 (M.nb f k))) (fun _ i _ => n - (intOf i).toNat)
  case atStart => exact ⟨0, z0, Nat.zero_le _, rfl, rfl, rfl, p0, rfl⟩
  case round =>
    obtain ⟨k, z, hk, rfl, rfl, rfl, hz, HZ⟩ := hrel
    by_cases hlt : k < n
    · obtain ⟨b, o, rfl, hb, hc⟩ := hr.at (by omega)
      obtain ⟨x, hx⟩ : ∃ x, x = f k := ⟨_, rfl⟩
      have hcx : wr.cell? ⟨b, o + k, none⟩ = some (.int .u64 (x : Int)) := by rw [hc k hlt, M.cu_sq _ _ _ hlt, hx]
      have HX : Hid (x = f k) := hx
      have C := fun w' => withNumber_any z x w' hz
      have pz : 0 ≤ M.go z (M.by8 x 8) := M.go_pos _ hz _
      obtain ⟨y, hy⟩ : ∃ y, y = M.go z (M.by8 x 8) := ⟨_, rfl⟩
      rw [← hy] at pz
      simp only [← hy] at C
      have HY : Hid (y = M.go z (M.by8 x 8)) := hy
      clear hx hc hr hy
      go_wp2_with fail
      refine (C _).mono ?_
      rintro e w' ⟨rfl, hw'⟩
      subst hw'
      go_wp2_with fail
      go_roundw
      case rel => exact ⟨k + 1, y, by omega, by go_num, rfl, trivial, pz, by rw [M.nb, M.go_app, ← HZ.out, ← HX.out, ← HY.out]; exact rfl⟩
      case measure => simp [intOf]; omega
    · have hkn : n = k := by omega
      subst hkn
      have C := fun w' => CT z w' hz
      have pz : 0 ≤ M.go z (tx s) := M.go_pos _ hz _
      obtain ⟨y, hy⟩ : ∃ y, y = M.go z (tx s) := ⟨_, rfl⟩
      rw [← hy] at pz
      simp only [← hy] at C
      have HY : Hid (y = M.go z (tx s)) := hy
      have hm : y.tmod 1073741789 = y % 1073741789 := Int.tmod_eq_emod_of_nonneg pz
      clear hr hy CT
      go_wp2_with fail
      refine (C _).mono ?_
      rintro e w' ⟨rfl, hw'⟩
      subst hw'
      go_wp2_with fail
      go_ret
      refine ⟨ret_int ?_, rfl⟩
      unfold M.hash
      rw [M.fnv_parts, ← HZ0.out, ← HZ.out, ← HY.out]
      omega
end Go.Proofs.Yteoioldbigomaaa
