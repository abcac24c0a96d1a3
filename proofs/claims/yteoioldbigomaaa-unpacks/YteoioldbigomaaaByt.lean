import Derived.Test.YteoioldbigomaaaHash
import Derived.Test.YteoioldbigomaaaGrp
namespace Go.Proofs.Yteoioldbigomaaa
open Go.RowKit

/-- An array of bytes of the call's own, N long, at block g, whose first bytes are L. -/
def FillB (w : World) (B g N : Nat) (L : List Nat) : Prop := Fill w B 5 g N L.length (cb L)

theorem cb_app (L K : List Nat) (i : Nat) (h : i < L.length) : cb (L ++ K) i = cb L i := by
  unfold cb; simp [List.getElem?_append_left h]

theorem cb_last (L : List Nat) (u : Nat) : cb (L ++ [u]) L.length = .int .u8 ((u : Nat) : Int) := by
  unfold cb; simp

theorem FillB.push {w : World} {B g N : Nat} {L : List Nat} {u : Nat} {v : Value} (h : FillB w B g N L) (hl : L.length < N) (hv : v = .int .u8 ((u : Nat) : Int)) :
    FillB (w.setCell ⟨g, L.length, none⟩ v) B g N (L ++ [u]) := by
  have h2 : Fill w B 5 g N L.length (cb (L ++ [u])) := by
    obtain ⟨xs, h1, h3⟩ := h
    exact ⟨xs, h1, fun i hi => by rw [h3 i hi, cb_app _ _ _ hi]⟩
  have := h2.store hl (u := v) (by rw [cb_last, hv])
  unfold FillB
  rw [List.length_append]
  exact this

theorem FillB.below {w w' : World} {B g N : Nat} {L : List Nat} (h : FillB w B g N L) (hb : Below w.heap.size w w') : FillB w' B g N L := Fill.below h hb

set_option maxHeartbeats 1000000 in
theorem lay_any (B g N n c x o : Nat) (L : List Nat) (w : World) (hn : n ≤ 8) (ho : o = L.length) (hN : o + n ≤ N) (F : FillB w B g N L) :
    Calls Try.prog 61 #[.slice (some ⟨g, o, none⟩) n c, .int .u64 x] w fun e w' => e = .returned (.tuple #[]) ∧ w.grownBy w' (some g) ∧ FillB w' B g N (L ++ M.by8 x n) := by
  have HO : Hid (o = L.length) := ho
  clear ho
  go_enter Try.func61, Try.ntmps61
  go_wp2_with fail
  go_loopw [7] (fun i wr => ∃ k : Nat, k ≤ n ∧ i = .int .i64 k ∧ w.grownBy wr (some g) ∧ FillB wr B g N (L ++ M.by8 x k)) (fun i _ => n - (intOf i).toNat)
  case atStart => exact ⟨0, Nat.zero_le _, rfl, grown_refl _ _, by simpa [M.by8] using F⟩
  case round =>
    clear F
    obtain ⟨k, hk, rfl, gr, F⟩ := hrel
    by_cases hlt : k < n
    · have hl : (L ++ M.by8 x k).length = o + k := by rw [List.length_append, M.by8_len, HO.out]
      have hfz : wr.frozen? ⟨g, o + k, none⟩ = false := Fill.frozen F (o + k)
      obtain ⟨v, hv⟩ := Fill.there F (j := o + k) (by omega)
      have hki : (k : Int) < n := by omega
      have hk8 : (k : Int) < 8 := by omega
      have HL : Hid ((L ++ M.by8 x k).length = o + k) := hl
      clear hl
      go_wp2_with fail
      go_roundw
      case rel =>
        refine ⟨k + 1, by omega, by go_num, grown_trans gr (grown_set _ _ _ _), ?_⟩
        rw [M.by8_succ, ← List.append_assoc, ← HL.out]
        refine FillB.push F (by rw [HL.out]; omega) ?_
        simp
      case measure => simp [intOf]; omega
    · go_wp2_with fail
      go_end0
      have hkn : k = n := by omega
      subst hkn
      exact ⟨rfl, gr, F⟩
end Go.Proofs.Yteoioldbigomaaa
