import Derived.Test.YteoioldbigomaaaTurn
namespace Go.Proofs.Yteoioldbigomaaa
open Go.RowKit

/-- The number whose bytes these are, the lowest first. -/
def M.num : List Nat → Nat
  | [] => 0
  | b :: l => b + 256 * M.num l

theorem M.num_snoc (l : List Nat) (b : Nat) : M.num (l ++ [b]) = M.num l + b * 2 ^ (8 * l.length) := by
  induction l with
  | nil => simp [M.num]
  | cons x l ih =>
    rw [List.cons_append, M.num, M.num, ih, List.length_cons, show 8 * (l.length + 1) = 8 + 8 * l.length by omega, Nat.pow_add, Nat.mul_add, Nat.add_assoc]
    congr 2
    rw [Nat.mul_left_comm]

theorem M.num_lt (l : List Nat) (h : ∀ x ∈ l, x < 256) : M.num l < 2 ^ (8 * l.length) := by
  induction l with
  | nil => simp [M.num]
  | cons x l ih =>
    have h1 := h x (by simp)
    have h2 := ih fun y hy => h y (by simp [hy])
    rw [M.num, List.length_cons, show 8 * (l.length + 1) = 8 + 8 * l.length by omega, Nat.pow_add]
    omega

theorem tx_lt (s : ByteArray) : ∀ x ∈ tx s, x < 256 := by
  intro x hx
  unfold tx at hx
  obtain ⟨b, _, rfl⟩ := List.mem_map.1 hx
  exact b.toNat_lt

theorem or_step (z b k : Nat) (hz : z < 2 ^ (8 * k)) (hb : b < 256) (hk : k < 8) :
    bits BinOp.or IntKind.u64 (z : Int) (IntKind.u64.wrap (IntKind.u64.wrap (b : Int) * 2 ^ (8 * k))) = ((z + b * 2 ^ (8 * k) : Nat) : Int) := by
  have hp : 2 ^ (8 * k) * 256 ≤ 2 ^ 64 := by
    have : (2 : Nat) ^ (8 * k) * 256 = 2 ^ (8 * k + 8) := by rw [Nat.pow_add]
    rw [this]
    exact Nat.pow_le_pow_right (by omega) (by omega)
  have hm : b * 2 ^ (8 * k) < 2 ^ 64 := by
    have h1 : b * 2 ^ (8 * k) < 256 * 2 ^ (8 * k) := Nat.mul_lt_mul_of_pos_right hb (Nat.two_pow_pos _)
    omega
  have e1 : IntKind.u64.wrap (b : Int) = b := by rw [IntKind.wrap_u64]; omega
  have e2 : (b : Int) * 2 ^ (8 * k) = ((b * 2 ^ (8 * k) : Nat) : Int) := by simp
  have e3 : IntKind.u64.wrap (((b * 2 ^ (8 * k) : Nat)) : Int) = ((b * 2 ^ (8 * k) : Nat) : Int) := by rw [IntKind.wrap_u64]; omega
  rw [e1, e2, e3, bits_or_u64_nat _ _ (by omega) (by omega)]
  congr 1
  rw [Nat.or_comm, Nat.mul_comm, ← Nat.two_pow_add_eq_or_of_lt hz]
  omega

set_option maxHeartbeats 400000 in
theorem read_any (s : ByteArray) (w : World) (hs : s.size ≤ 8) :
    Calls Try.prog 62 #[.string s] w fun e w' => e = .returned (.int .u64 (M.num (tx s) : Nat)) ∧ w' = w := by
  have hln : (tx s).length = s.size := by unfold tx; simp only [List.length_map, Array.length_toList]; rfl
  go_enter Try.func62, Try.ntmps62
  go_wp2_with fail
  go_loopw [3, 7] (fun t i wr => ∃ (k z : Nat), k ≤ s.size ∧ i = .int .i64 k ∧ t = .int .u64 z ∧ wr = w ∧ Hid (z = M.num ((tx s).take k))) (fun _ i _ => s.size - (intOf i).toNat)
  case atStart => exact ⟨0, 0, Nat.zero_le _, rfl, rfl, rfl, rfl⟩
  case round =>
    obtain ⟨k, z, hk, rfl, rfl, rfl, HZ⟩ := hrel
    by_cases hlt : k < s.size
    · have hki : (k : Int) < s.size := by omega
      have HL : Hid ((tx s).length = s.size) := hln
      clear hln
      have hk8 : (k : Int) < 8 := by omega
      have HX : Hid ((tx s).getD k 0 = s[k].toNat) := by unfold tx; simp [hlt]; rfl
      have HB : Hid (bits BinOp.or IntKind.u64 (z : Int) (IntKind.u64.wrap (IntKind.u64.wrap ((s[k].toNat : Nat) : Int) * 2 ^ (8 * k))) = ((z + s[k].toNat * 2 ^ (8 * k) : Nat) : Int)) := by
        refine or_step z _ k ?_ s[k].toNat_lt (by omega)
        rw [HZ.out]
        have := M.num_lt ((tx s).take k) fun x hx => tx_lt s x (List.mem_of_mem_take hx)
        rwa [List.length_take, HL.out, Nat.min_eq_left (by omega)] at this
      go_wp2_with fail
      refine ⟨⟨k + 1, z + s[k].toNat * 2 ^ (8 * k), by omega, by go_num, by rw [HB.out], trivial, ?_⟩, by simp [intOf]; omega⟩
      rw [take_snoc (tx s) k 0 (by rw [HL.out]; exact hlt), M.num_snoc, HX.out, ← HZ.out, List.length_take, HL.out, Nat.min_eq_left (by omega)]
      exact rfl
    · go_wp2_with fail
      go_ret
      exact ⟨ret_int (by rw [HZ.out, List.take_of_length_le (by omega)]), rfl⟩
end Go.Proofs.Yteoioldbigomaaa
