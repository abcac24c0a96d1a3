import Derived.Test.YteoioldbigomaaaUnpk
import Derived.Deep.QuietTactic
import Derived.BigQuiet
namespace Go.Proofs.Yteoioldbigomaaa
open Go.RowKit

theorem tx_at (s : ByteArray) (k : Nat) (h : k < s.size) : (tx s).getD k 0 = s[k].toNat := by unfold tx; simp [h]; rfl

theorem horner (a b c d : Nat) (ha : a < 256) (hb : b < 256) (hc : c < 256) (hd : d < 256) :
    IntKind.u64.wrap (IntKind.u64.wrap (a : Int) + IntKind.u64.wrap (256 * IntKind.u64.wrap (IntKind.u64.wrap (b : Int) + IntKind.u64.wrap (256 * IntKind.u64.wrap (IntKind.u64.wrap (c : Int) + IntKind.u64.wrap (256 * IntKind.u64.wrap (d : Int))))))) = ((M.num [a, b, c, d] : Nat) : Int) := by
  simp only [IntKind.wrap_u64, M.num]
  omega

set_option maxHeartbeats 1000000 in
set_option maxRecDepth 100000 in
theorem rnumber_any (s : ByteArray) (w : World) (hs : 4 ≤ s.size) :
    Calls Try.prog 47 #[.string s] w fun e w' => e = .returned (.int .u64 (M.at4 (tx s) 0 : Nat)) ∧ w' = w.drew := by
  have n0 : 0 < s.size := by omega
  have n1 : 1 < s.size := by omega
  have n2 : 2 < s.size := by omega
  have n3 : 3 < s.size := by omega
  have h0 : (0 : Int) < s.size := by omega
  have h1 : (1 : Int) < s.size := by omega
  have h2 : (2 : Int) < s.size := by omega
  have h3 : (3 : Int) < s.size := by omega
  go_enter Try.func47, Try.ntmps47
  go_wp2_with fail
  go_region
  go_wp2_with fail
  go_ret
  refine ⟨ret_int ((horner _ _ _ _ s[0].toNat_lt s[1].toNat_lt s[2].toNat_lt s[3].toNat_lt).trans ?_), rfl⟩
  unfold M.at4
  rw [tx_at s 0 n0, tx_at s (0 + 1) n1, tx_at s (0 + 2) n2, tx_at s (0 + 3) n3]

set_option maxHeartbeats 1000000 in
theorem nonce_any (x : Nat) (w : World) : Calls Try.prog 48 #[.int .u64 x] w fun e w' => w' = w ∧ ((PRO x ∧ e = .returned (.bool true)) ∨ (¬ PRO x ∧ e = .returned (.bool false))) := by
  by_cases h1 : x = 1
  · subst h1
    go_enter Try.func48, Try.ntmps48
    go_wp2_with fail
    go_ret
    exact ⟨rfl, .inr ⟨fun h => h.ne rfl, rfl⟩⟩
  · have e1 : ((x : Int) != 1) = true := by simp; omega
    by_cases h2 : ISE x
    · have C := fun w' => relement_yes x w' h2
      have H : Hid (PRO x) := ⟨h1, h2⟩
      clear h1 h2
      go_enter Try.func48, Try.ntmps48
      go_wp2_with (go_at_call 53; refine (C _).mono ?_; rintro e w' ⟨rfl, rfl⟩)
      go_ret
      exact ⟨rfl, .inl ⟨H.out, rfl⟩⟩
    · have C := fun w' => relement_no x w' h2
      have H : Hid (¬ PRO x) := fun h => h2 h.el
      clear h1 h2
      go_enter Try.func48, Try.ntmps48
      go_wp2_with (go_at_call 53; refine (C _).mono ?_; rintro e w' ⟨rfl, rfl⟩)
      go_ret
      exact ⟨rfl, .inr ⟨H.out, rfl⟩⟩
end Go.Proofs.Yteoioldbigomaaa
