import Derived.Test.YteoioldbigomaabBun
namespace Go.Proofs.Yteoioldbigomaab
open Go.RowKit

/-- A package that was handed over: its block. -/
abbrev bobj (gb : Nat) (s : ByteArray) (la : Option Addr) (n lc : Nat) : Obj := .cells #[.pointer (some ⟨gb, 0, none⟩), .string s, .slice la n lc] 83
/-- A package's block, and what it leads to. -/
structure BB (w : World) (kb gb T N ab o c : Nat) (f : Nat → Nat) (s : ByteArray) (la : Option Addr) (n lc : Nat) (I : Nat → Int) (D E : Nat → Nat) : Prop where
  bu : BU w gb T N ab o c f s la n I D E
  k0 : w.cell? ⟨kb, 0, none⟩ = some (.pointer (some ⟨gb, 0, none⟩))
  k1 : w.cell? ⟨kb, 1, none⟩ = some (.string s)
  k2 : w.cell? ⟨kb, 2, none⟩ = some (.slice la n lc)
  kl : kb < w.heap.size
theorem BB.below {w w' : World} {kb gb T N ab o c : Nat} {f : Nat → Nat} {s : ByteArray} {la : Option Addr} {n lc : Nat} {I : Nat → Int} {D E : Nat → Nat} (h : BB w kb gb T N ab o c f s la n lc I D E) (b : Below w.heap.size w w') : BB w' kb gb T N ab o c f s la n lc I D E :=
  ⟨h.bu.below b, (b.cell (p := ⟨kb, 0, none⟩) h.kl).trans h.k0, (b.cell (p := ⟨kb, 1, none⟩) h.kl).trans h.k1, (b.cell (p := ⟨kb, 2, none⟩) h.kl).trans h.k2, Nat.lt_of_lt_of_le h.kl b.size⟩
theorem BU.boxed {w : World} {gb T N ab o c : Nat} {f : Nat → Nat} {s : ByteArray} {la : Option Addr} {n : Nat} {I : Nat → Int} {D E : Nat → Nat} (h : BU w gb T N ab o c f s la n I D E) (lc : Nat) : BB (w.alloc (bobj gb s la n lc)) w.heap.size gb T N ab o c f s la n lc I D E := by
  have z := three (heap_alloc_new w (bobj gb s la n lc))
  exact ⟨h.below (below_alloc _ _), z.1, z.2.1, z.2.2.1, lt_of_block (heap_alloc_new w (bobj gb s la n lc))⟩

set_option maxHeartbeats 1000000 in
set_option maxRecDepth 100000 in
theorem lookCount_any {w : World} {gb T N ab o c : Nat} {f : Nat → Nat} {s : ByteArray} {la : Option Addr} {n : Nat} {I : Nat → Int} {D E : Nat → Nat} (h : BU w gb T N ab o c f s la n I D E) (lc : Nat) :
    Calls Try.prog 50 #[bval gb s la n lc] w fun e w' => e = .returned (.int .i64 (if T ≤ n ∧ n ≤ N then 0 else 7)) ∧ Below w.heap.size w w' := by
  have hB := h.boxed lc
  have B1 := below_alloc w (bobj gb s la n lc)
  obtain ⟨W, hW⟩ : ∃ W, w.alloc (bobj gb s la n lc) = W := ⟨_, rfl⟩
  rw [hW] at hB B1
  obtain ⟨d, G⟩ := hB.bu.gr
  have k0 := hB.k0
  have k2 := hB.k2
  have g0 := G.cells.1
  have CT : ∀ m, Calls Try.prog 69 #[.pointer (some ⟨gb, 0, none⟩)] (W.drewN m) fun e w'' => e = .returned (.int .i64 (T : Nat)) ∧ w'' = W.drewN m := fun m => threshold_any (G.same rfl)
  clear h hB G
  unfold bval
  unfold bobj at hW
  by_cases h1 : n < T
  · rw [if_neg (by omega)]
    have h1' : decide ((n : Int) < T) = true := decide_eq_true (by omega)
    go_enter Try.func50, Try.ntmps50
    go_upto_region 1 with fail
    clear hW
    go_quiet (first | (go_at_call 69; refine Calls.quiet_of_same (CT _)))
    go_wp2_with fail
    go_ret
    exact ⟨rfl, below_drewN B1 _⟩
  · have h1' : decide ((n : Int) < T) = false := decide_eq_false (by omega)
    by_cases h2 : N < n
    · rw [if_neg (by omega)]
      have h2' : decide ((N : Int) < n) = true := decide_eq_true (by omega)
      go_enter Try.func50, Try.ntmps50
      go_upto_region 1 with fail
      clear hW
      go_quiet (first | (go_at_call 69; refine Calls.quiet_of_same (CT _)))
      go_wp2_with fail
      go_ret
      exact ⟨rfl, below_drewN B1 _⟩
    · rw [if_pos (by omega)]
      have h2' : decide ((N : Int) < n) = false := decide_eq_false (by omega)
      go_enter Try.func50, Try.ntmps50
      go_upto_region 1 with fail
      clear hW
      go_quiet (first | (go_at_call 69; refine Calls.quiet_of_same (CT _)))
      go_wp2_with fail
      go_ret
      exact ⟨rfl, below_drewN B1 _⟩

set_option maxHeartbeats 1000000 in
set_option maxRecDepth 100000 in
/-- What lookAtNumbers tells: the first number that is wrong, or none. -/
theorem lookNumbers_any {w : World} {gb T N ab o c : Nat} {f : Nat → Nat} {s : ByteArray} {la : Option Addr} {n : Nat} {I : Nat → Int} {D E : Nat → Nat} (h : BU w gb T N ab o c f s la n I D E) (lc : Nat) (hn : n ≤ 65536) :
    Calls Try.prog 51 #[bval gb s la n lc] w fun e w' => Below w.heap.size w w' ∧ ((∃ k, k < n ∧ (∀ j, j < k → M.Tn I N j = 0) ∧ M.Tn I N k ≠ 0 ∧ e = .returned (.int .i64 (M.Tn I N k : Nat))) ∨ ((∀ j, j < n → M.Tn I N j = 0) ∧ e = .returned (.int .i64 0))) := by
  have hB := h.boxed lc
  have B1 := below_alloc w (bobj gb s la n lc)
  obtain ⟨W, hW⟩ : ∃ W, w.alloc (bobj gb s la n lc) = W := ⟨_, rfl⟩
  rw [hW] at hB B1
  have k2 := hB.k2
  have HB : Hid (BB W w.heap.size gb T N ab o c f s la n lc I D E) := hB
  clear h hB
  unfold bval
  unfold bobj at hW
  go_enter Try.func51, Try.ntmps51
  go_upto_region 1 with fail
  clear hW
  go_wp2_with fail
  clear k2
  go_loopw [3, 10] (fun t i wr => ∃ k : Nat, k ≤ n ∧ i = .int .i64 k ∧ t = .int .i64 (M.ahd I k) ∧ Below W.heap.size W wr ∧ Hid (∀ j, j < k → M.Tn I N j = 0)) (fun _ i _ => n - (intOf i).toNat)
  case atStart => exact ⟨0, Nat.zero_le _, rfl, rfl, Below.refl _ _, fun j hj => absurd hj (Nat.not_lt_zero j)⟩
  case round =>
    obtain ⟨k, hk, rfl, rfl, bel, HK⟩ := hrel
    obtain ⟨p, hp⟩ : ∃ p, p = M.ahd I k := ⟨_, rfl⟩
    rw [← hp]
    by_cases hlt : k < n
    · have hBr := HB.out.below bel
      obtain ⟨b, lo, rfl, hb, hc⟩ := hBr.bu.rl.at (by omega)
      obtain ⟨q0, q1, q2⟩ := hc k hlt
      obtain ⟨x, hx⟩ : ∃ x, x = I k := ⟨_, rfl⟩
      obtain ⟨d, hd⟩ : ∃ d, d = D k := ⟨_, rfl⟩
      obtain ⟨e, he⟩ : ∃ e, e = E k := ⟨_, rfl⟩
      rw [← hx] at q0
      rw [← hd] at q1
      rw [← he] at q2
      have hki : (k : Int) < n := by omega
      have bA := below_alloc wr (.cells #[.int .i64 x, .int .u64 (d : Nat), .int .u64 (e : Nat)] 40)
      have zA := three (heap_alloc_new wr (.cells #[.int .i64 x, .int .u64 (d : Nat), .int .u64 (e : Nat)] 40))
      have hBa := hBr.below bA
      obtain ⟨dd, G⟩ := hBa.bu.gr
      have a0 := hBa.k0
      have g0 := G.cells.1
      have hxt : M.Tn I N k = M.turn x p N := by unfold M.Tn; rw [hx, hp]
      have HX : Hid (M.Tn I N k = M.turn x p N) := hxt
      have HXI : Hid (x = I k) := hx
      have CI := fun w' => inTurn_any x p (N : Int) w'
      obtain ⟨r, hr⟩ : ∃ r, r = M.turn x p N := ⟨_, rfl⟩
      rw [← hr] at HX CI
      clear hr hp hx hd he hc hBr hBa G hxt
      go_upto_region 5 with fail
      obtain ⟨A, hA⟩ : ∃ A, wr.alloc (.cells #[.int .i64 x, .int .u64 (d : Nat), .int .u64 (e : Nat)] 40) = A := ⟨_, rfl⟩
      rw [hA] at bA zA a0 g0 ⊢
      obtain ⟨zA0, zA1, zA2, _, _, _⟩ := zA
      clear hA q0 q1 q2
      have CQ : ∀ m, Calls Try.prog 18 #[.int .i64 x, .int .i64 p, .int .i64 (N : Int)] (A.drewN m) fun e w' => e = .returned (.int .i64 (r : Nat)) ∧ w' = A.drewN m := fun m => CI _
      clear CI
      go_quiet (first | (go_at_call 18; refine Calls.quiet_of_same (CQ _)))
      have bq : Below W.heap.size W (A.drewN nq) := below_drewN (bel.trans (bA.mono bel.size)) _
      by_cases hr0 : r = 0
      · subst hr0
        clear CQ
        go_wp2_with fail
        go_roundw
        case rel =>
          refine ⟨k + 1, by omega, by go_num, by show Value.int .i64 x = .int .i64 (I k); rw [HXI.out], bq, ?_⟩
          intro j hj
          rcases Nat.lt_or_eq_of_le (Nat.le_of_lt_succ hj) with hl | rfl
          · exact HK.out j hl
          · exact HX.out
        case measure => simp [intOf]; omega
      · have hrn : ((r : Int) == 0) = false := by simp; omega
        clear CQ
        go_wp2_with fail
        go_ret
        refine ⟨B1.trans (bq.mono B1.size), .inl ⟨k, hlt, HK.out, by rw [HX.out]; exact hr0, by rw [HX.out]; rfl⟩⟩
    · go_wp2_with fail
      go_ret
      have hkn : k = n := by omega
      subst hkn
      exact ⟨B1.trans (bel.mono B1.size), .inr ⟨HK.out, rfl⟩⟩

set_option maxHeartbeats 1000000 in
set_option maxRecDepth 100000 in
theorem lookElements_any {w : World} {gb T N ab o c : Nat} {f : Nat → Nat} {s : ByteArray} {la : Option Addr} {n : Nat} {I : Nat → Int} {D E : Nat → Nat} (h : BU w gb T N ab o c f s la n I D E) (lc : Nat) (hn : n ≤ 65536) :
    Calls Try.prog 52 #[bval gb s la n lc] w fun e w' => Below w.heap.size w w' ∧ (((∀ j, j < n → PRO (D j) ∧ PRO (E j)) ∧ e = .returned (.int .i64 0)) ∨ ((¬ ∀ j, j < n → PRO (D j) ∧ PRO (E j)) ∧ e = .returned (.int .i64 3))) := by
  have hB := h.boxed lc
  have B1 := below_alloc w (bobj gb s la n lc)
  obtain ⟨W, hW⟩ : ∃ W, w.alloc (bobj gb s la n lc) = W := ⟨_, rfl⟩
  rw [hW] at hB B1
  have k2 := hB.k2
  have HB : Hid (BB W w.heap.size gb T N ab o c f s la n lc I D E) := hB
  clear h hB
  unfold bval
  unfold bobj at hW
  go_enter Try.func52, Try.ntmps52
  go_upto_region 1 with fail
  clear hW
  go_wp2_with fail
  clear k2
  go_loopw [8] (fun i wr => ∃ k : Nat, k ≤ n ∧ i = .int .i64 k ∧ Below W.heap.size W wr ∧ Hid (∀ j, j < k → PRO (D j) ∧ PRO (E j))) (fun i _ => n - (intOf i).toNat)
  case atStart => exact ⟨0, Nat.zero_le _, rfl, Below.refl _ _, fun j hj => absurd hj (Nat.not_lt_zero j)⟩
  case round =>
    obtain ⟨k, hk, rfl, bel, HK⟩ := hrel
    by_cases hlt : k < n
    · have hBr := HB.out.below bel
      obtain ⟨b, lo, rfl, hb, hc⟩ := hBr.bu.rl.at (by omega)
      obtain ⟨q0, q1, q2⟩ := hc k hlt
      obtain ⟨x, hx⟩ : ∃ x, x = I k := ⟨_, rfl⟩
      obtain ⟨d, hd⟩ : ∃ d, d = D k := ⟨_, rfl⟩
      obtain ⟨e, he⟩ : ∃ e, e = E k := ⟨_, rfl⟩
      rw [← hx] at q0
      rw [← hd] at q1
      rw [← he] at q2
      have hki : (k : Int) < n := by omega
      have bA := below_alloc wr (.cells #[.int .i64 x, .int .u64 (d : Nat), .int .u64 (e : Nat)] 40)
      have HD : Hid (d = D k ∧ e = E k) := ⟨hd, he⟩
      have CP := proper_any x d e (wr.alloc (.cells #[.int .i64 x, .int .u64 (d : Nat), .int .u64 (e : Nat)] 40))
      clear hx hd he hc hBr
      go_wp2_with fail
      refine CP.mono ?_
      clear CP
      rintro ex w3 ⟨b3, ⟨p1, p2, rfl⟩ | ⟨pn, rfl⟩⟩
      · have bq : Below W.heap.size W w3 := (bel.trans (bA.mono bel.size)).trans (b3.mono (Nat.le_trans bel.size bA.size))
        clear q0 q1 q2
        go_wp2_with fail
        go_roundw
        case rel =>
          refine ⟨k + 1, by omega, by go_num, bq, ?_⟩
          intro j hj
          rcases Nat.lt_or_eq_of_le (Nat.le_of_lt_succ hj) with hl | rfl
          · exact HK.out j hl
          · rw [← HD.out.1, ← HD.out.2]; exact ⟨p1, p2⟩
        case measure => simp [intOf]; omega
      · have bq : Below W.heap.size W w3 := (bel.trans (bA.mono bel.size)).trans (b3.mono (Nat.le_trans bel.size bA.size))
        clear q0 q1 q2
        go_wp2_with fail
        go_ret
        refine ⟨B1.trans (bq.mono B1.size), .inr ⟨fun hall => pn ?_, rfl⟩⟩
        rw [HD.out.1, HD.out.2]
        exact hall k hlt
    · go_wp2_with fail
      go_ret
      have hkn : k = n := by omega
      subst hkn
      exact ⟨B1.trans (bel.mono B1.size), .inl ⟨HK.out, rfl⟩⟩

set_option maxHeartbeats 1000000 in
set_option maxRecDepth 100000 in
/-- look: what is wrong with a package. -/
theorem plook_any {w : World} {gb T N ab o c : Nat} {f : Nat → Nat} {s : ByteArray} {la : Option Addr} {n : Nat} {I : Nat → Int} {D E : Nat → Nat} (h : BU w gb T N ab o c f s la n I D E) (lc : Nat) (hn : n ≤ 65536) :
    Calls Try.prog 31 #[bval gb s la n lc] w fun e w' => Below w.heap.size w w' ∧ ∃ er : Nat, M.Look T N n I D E er ∧ e = .returned (.int .i64 er) := by
  have hB := h.boxed lc
  have B1 := below_alloc w (bobj gb s la n lc)
  obtain ⟨W, hW⟩ : ∃ W, w.alloc (bobj gb s la n lc) = W := ⟨_, rfl⟩
  rw [hW] at hB B1
  obtain ⟨W2, hW2⟩ : ∃ W2, W.alloc (.cells #[.func (.func 50) #[] #[], .func (.func 51) #[] #[], .func (.func 52) #[] #[]] 104) = W2 := ⟨_, rfl⟩
  have B2 := below_alloc W (.cells #[.func (.func 50) #[] #[], .func (.func 51) #[] #[], .func (.func 52) #[] #[]] 104)
  have Z2 := heap_alloc_new W (.cells #[.func (.func 50) #[] #[], .func (.func 51) #[] #[], .func (.func 52) #[] #[]] 104)
  rw [hW2] at B2 Z2
  have hB2 := hB.below B2
  have HB : Hid (BB W2 w.heap.size gb T N ab o c f s la n lc I D E) := hB2
  have BW2 : Below w.heap.size w W2 := B1.trans (B2.mono B1.size)
  clear h hB hB2 B1
  unfold bval
  unfold bobj at hW
  go_enter Try.func31, Try.ntmps31
  go_upto_region 1 with fail
  clear hW
  go_wp2_with fail
  clear hW2
  go_loopw [8] (fun i wr => ∃ k : Nat, k ≤ 3 ∧ i = .int .i64 k ∧ Below W2.heap.size W2 wr ∧ Hid ((1 ≤ k → T ≤ n ∧ n ≤ N) ∧ (2 ≤ k → ∀ j, j < n → M.Tn I N j = 0) ∧ (3 ≤ k → ∀ j, j < n → PRO (D j) ∧ PRO (E j)))) (fun i _ => 3 - (intOf i).toNat)
  case atStart => exact ⟨0, by omega, rfl, Below.refl _ _, fun h => by omega, fun h => by omega, fun h => by omega⟩
  case round =>
    obtain ⟨k, hk, rfl, bel, HK⟩ := hrel
    have hBr := HB.out.below bel
    have Zr := (bel.block W.heap.size (lt_of_block Z2)).trans Z2
    have hBu := hBr.bu
    have k0 := hBr.k0
    have k1 := hBr.k1
    have k2 := hBr.k2
    clear hBr
    match k, hk with
    | 0, _ =>
      have zz : wr.cell? ⟨W.heap.size, 0, none⟩ = some (.func (.func 50) #[] #[]) := by simp [World.cell?, Zr]
      have C := lookCount_any hBu lc
      clear Zr hBu
      by_cases hc : T ≤ n ∧ n ≤ N
      · rw [if_pos hc] at C
        go_wp2_with (go_at_call 50; refine C.mono ?_; rintro ex w3 ⟨rfl, b3⟩)
        go_roundw
        case rel => exact ⟨1, by omega, rfl, bel.trans (b3.mono bel.size), fun _ => hc, fun h => by omega, fun h => by omega⟩
        case measure => simp [intOf]
      · rw [if_neg hc] at C
        go_wp2_with (go_at_call 50; refine C.mono ?_; rintro ex w3 ⟨rfl, b3⟩)
        go_ret
        exact ⟨BW2.trans ((bel.trans (b3.mono bel.size)).mono BW2.size), 7, .inl ⟨hc, rfl⟩, rfl⟩
    | 1, _ =>
      have zz : wr.cell? ⟨W.heap.size, 1, none⟩ = some (.func (.func 51) #[] #[]) := by simp [World.cell?, Zr]
      have C := lookNumbers_any hBu lc hn
      clear Zr hBu
      have hc := HK.out.1 (by omega)
      have HC : Hid (T ≤ n ∧ n ≤ N) := hc
      clear hc
      go_wp2_with fail
      refine C.mono ?_
      clear C
      rintro ex w3 ⟨b3, ⟨j, hj, hbe, hne, rfl⟩ | ⟨hall, rfl⟩⟩
      · obtain ⟨r, hr⟩ : ∃ r, r = M.Tn I N j := ⟨_, rfl⟩
        have HR : Hid (r = M.Tn I N j) := hr
        have HBE : Hid (∀ i, i < j → M.Tn I N i = 0) := hbe
        have hrn : ((r : Int) == 0) = false := by rw [hr]; simp; omega
        have HNE : Hid (M.Tn I N j ≠ 0) := hne
        rw [← hr]
        clear hr hbe hne
        go_wp2_with fail
        go_ret
        exact ⟨BW2.trans ((bel.trans (b3.mono bel.size)).mono BW2.size), r, .inr (.inl ⟨HC.out, j, hj, HBE.out, HNE.out, HR.out⟩), rfl⟩
      · have HA : Hid (∀ j, j < n → M.Tn I N j = 0) := hall
        clear hall
        go_wp2_with fail
        go_roundw
        case rel => exact ⟨2, by omega, rfl, bel.trans (b3.mono bel.size), fun _ => HC.out, fun _ => HA.out, fun h => by omega⟩
        case measure => simp [intOf]
    | 2, _ =>
      have zz : wr.cell? ⟨W.heap.size, 2, none⟩ = some (.func (.func 52) #[] #[]) := by simp [World.cell?, Zr]
      have C := lookElements_any hBu lc hn
      clear Zr hBu
      have HC : Hid (T ≤ n ∧ n ≤ N) := HK.out.1 (by omega)
      have HA : Hid (∀ j, j < n → M.Tn I N j = 0) := HK.out.2.1 (by omega)
      go_wp2_with fail
      refine C.mono ?_
      clear C
      rintro ex w3 ⟨b3, ⟨hall, rfl⟩ | ⟨hall, rfl⟩⟩
      · have HP : Hid (∀ j, j < n → PRO (D j) ∧ PRO (E j)) := hall
        clear hall
        go_wp2_with fail
        go_roundw
        case rel => exact ⟨3, by omega, rfl, bel.trans (b3.mono bel.size), fun _ => HC.out, fun _ => HA.out, fun _ => HP.out⟩
        case measure => simp [intOf]
      · have HP : Hid (¬ ∀ j, j < n → PRO (D j) ∧ PRO (E j)) := hall
        clear hall
        go_wp2_with fail
        go_ret
        exact ⟨BW2.trans ((bel.trans (b3.mono bel.size)).mono BW2.size), 3, .inr (.inr (.inl ⟨HC.out, HA.out, HP.out, rfl⟩)), rfl⟩
    | 3, _ =>
      go_wp2_with fail
      go_ret
      exact ⟨BW2.trans (bel.mono BW2.size), 0, .inr (.inr (.inr ⟨HK.out.1 (by omega), HK.out.2.1 (by omega), HK.out.2.2 (by omega), rfl⟩)), rfl⟩
end Go.Proofs.Yteoioldbigomaab
