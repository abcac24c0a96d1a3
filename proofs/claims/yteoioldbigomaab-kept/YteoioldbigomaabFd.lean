import Derived.Test.YteoioldbigomaabLk
import Derived.Test.YteoioldbigomaabPart
import Derived.Test.YteoioldbigomaabWt
namespace Go.Proofs.Yteoioldbigomaab
open Go.RowKit

/-- A package of the program's that may be reckoned with. -/
structure BR (w : World) (gb T N ab o c : Nat) (f : Nat → Nat) (s : ByteArray) (la : Option Addr) (n : Nat) (J D E : Nat → Nat) : Prop where
  bu : BU w gb T N ab o c f s la n (fun i => (J i : Nat)) D E
  n9 : n ≤ 9
  j9 : ∀ j, j < n → J j ≤ 9
theorem BR.below {w w' : World} {gb T N ab o c : Nat} {f : Nat → Nat} {s : ByteArray} {la : Option Addr} {n : Nat} {J D E : Nat → Nat} (h : BR w gb T N ab o c f s la n J D E) (b : Below w.heap.size w w') : BR w' gb T N ab o c f s la n J D E := ⟨h.bu.below b, h.n9, h.j9⟩

set_option maxHeartbeats 2000000 in
set_option maxRecDepth 100000 in
theorem factor_any {w : World} {gb T N ab o c : Nat} {f : Nat → Nat} {s : ByteArray} {la : Option Addr} {n : Nat} {J D E : Nat → Nat} (h : BR w gb T N ab o c f s la n J D E) (lc x : Nat) (hx9 : x ≤ 9) :
    Calls Try.prog 36 #[bval gb s la n lc, .int .i64 x] w fun e w' => e = .returned (.int .u64 (M.bind x (f 0) J D E n s : Nat)) ∧ Below w.heap.size w w' := by
  have hB := h.bu.boxed lc
  have B1 := below_alloc w (bobj gb s la n lc)
  obtain ⟨W, hW⟩ : ∃ W, w.alloc (bobj gb s la n lc) = W := ⟨_, rfl⟩
  rw [hW] at hB B1
  have hn9 := h.n9
  have HJ : Hid (∀ j, j < n → J j ≤ 9) := h.j9
  obtain ⟨dd, G⟩ := hB.bu.gr
  have CK := key_any G hB.bu.rd hB.bu.t1
  obtain ⟨y, hy⟩ : ∃ y, y = f 0 := ⟨_, rfl⟩
  rw [← hy] at CK ⊢
  have k0 := hB.k0
  have k2 := hB.k2
  have HB : Hid (BB W w.heap.size gb T N ab o c f s la n lc (fun i => (J i : Nat)) D E) := hB
  have hwx : IntKind.u64.wrap (x : Int) = x := by rw [IntKind.wrap_u64]; omega
  have G0 : GrowU (W.alloc (.cells #[.int .u64 (x : Int), .int .u64 (y : Int)] 22)) W.heap.size (.slice (some ⟨W.heap.size, 0, none⟩) 2 2) [x, y] :=
    World.ownsRow_lit W #[.int .u64 (x : Int), .int .u64 (y : Int)] 2 (Nat.le_refl _) (by unfold maxLen; omega) rfl
  have B2 := below_alloc W (.cells #[.int .u64 (x : Int), .int .u64 (y : Int)] 22)
  have k2' := (hB.below B2).k2
  clear h hB G hy
  unfold bval
  unfold bobj at hW
  go_enter Try.func36, Try.ntmps36
  go_upto_region 1 with fail
  clear hW
  go_upto_region 2 with (first | (go_at_call 56; refine CK.mono ?_; rintro ex w5 ⟨rfl, hw5⟩; subst hw5))
  obtain ⟨W2, hW2⟩ : ∃ W2, w5.alloc (.cells #[.int .u64 (x : Int), .int .u64 (y : Int)] 22) = W2 := ⟨_, rfl⟩
  rw [hW2] at G0 B2 k2' ⊢
  clear hW2 k0 k2 CK
  have BW2 : Below w.heap.size w W2 := B1.trans (B2.mono B1.size)
  have h52 := B2.size
  have h15 := B1.size
  go_wp2_with fail
  clear k2'
  go_loopw [5, 17] (fun v i wr => ∃ j : Nat, j ≤ n ∧ i = .int .i64 j ∧ Below w5.heap.size W2 wr ∧ GrowU wr w5.heap.size v (M.bl x y J D E j)) (fun _ i _ => n - (intOf i).toNat)
  case atStart => exact ⟨0, Nat.zero_le _, rfl, Below.refl _ _, G0⟩
  case round =>
    clear G0
    obtain ⟨j, hj, rfl, bel, G⟩ := hrel
    obtain ⟨av, cv, rfl, rdv⟩ := G.rd
    have hbl := M.bl_len x y J D E j
    have bel5 : Below w5.heap.size w5 wr := B2.trans bel
    have hBr := HB.out.below bel5
    have hwr := bel5.size
    by_cases hlt : j < n
    · obtain ⟨b, lo, rfl, hb, hc⟩ := hBr.bu.rl.at (by omega)
      obtain ⟨q0, q1, q2⟩ := hc j hlt
      obtain ⟨x0, hx0⟩ : ∃ x0, x0 = J j := ⟨_, rfl⟩
      obtain ⟨d, hd⟩ : ∃ d, d = D j := ⟨_, rfl⟩
      obtain ⟨e, he⟩ : ∃ e, e = E j := ⟨_, rfl⟩
      simp only [← hx0] at q0
      rw [← hd] at q1
      rw [← he] at q2
      have h9 : x0 ≤ 9 := by rw [hx0]; exact HJ.out j hlt
      have hw0 : IntKind.u64.wrap (x0 : Int) = x0 := by rw [IntKind.wrap_u64]; omega
      have HBL : Hid (M.bl x y J D E (j + 1) = M.bl x y J D E j ++ [x0, d, e]) := by rw [hx0, hd, he]; rfl
      have hji : (j : Int) < n := by omega
      have hl6 : (M.bl x y J D E j).length ≤ 65536 := by omega
      obtain ⟨L, hL⟩ : ∃ L, L = M.bl x y J D E j := ⟨_, rfl⟩
      rw [← hL] at G hl6 HBL ⊢
      clear hx0 hd he hc hL rdv hbl hBr
      go_wp2_with (at_builtin; refine wpList_appendU3 _ rfl (.tmp 21) (.tmp 29) rfl w5.heap.size _ L x0 d e rfl (G.below ((below_alloc _ _).alloc (below_alloc _ _).size _)) _ rfl (by simp) (by simp) (by simp) hl6 (by simp; omega) ?_; intro v' w' G' bel')
      obtain ⟨av', cv', rfl, _⟩ := G'.rd
      go_wp2_with fail
      go_roundw
      case rel =>
        refine ⟨j + 1, by omega, by go_num, ((bel.alloc (Nat.le_trans h52 bel.size) _).alloc (Nat.le_trans (Nat.le_trans h52 bel.size) (below_alloc _ _).size) _).trans bel', ?_⟩
        rw [HBL.out]; exact G'
      case measure => simp [intOf]; omega
    · have hjn : n = j := by omega
      subst hjn
      have m1 := hBr.k1
      have HL : Hid ((M.bl x y J D E n).length = 2 + 3 * n) := hbl
      have C := phash_any 1 av cv (2 + 3 * n) (fun j => (M.bl x y J D E n).getD j 0) s wr (by omega) hBr.bu.sz (by rw [hbl] at rdv; exact rdv.congr (cu_getD _ _ hbl.symm))
      rw [hbl]
      clear hbl rdv hBr
      go_wp2_with (go_at_call 57; refine C.mono ?_; rintro ex w3 ⟨rfl, hw3⟩; subst hw3)
      go_ret
      exact ⟨rfl, B1.trans (bel5.mono B1.size)⟩
end Go.Proofs.Yteoioldbigomaab
