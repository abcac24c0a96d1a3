import Derived.Test.YteoioldbigomaabDeal
namespace Go.Proofs.Yteoioldbigomaab
open Go.RowKit

/-- An element: from 1 to P - 1, its Q-th power is 1. -/
structure ISE (x : Nat) : Prop where
  lo : 1 ≤ x
  hi : x < 2147483579
  pw : M.pw 2147483579 x 1073741789 = 1

theorem ISE.el {x : Nat} (h : ISE x) : EL x := ⟨h.hi⟩

set_option maxHeartbeats 400000 in
theorem elementOf_yes (x : Nat) (w : World) (h : ISE x) :
    Calls Try.prog 63 #[.int .u64 x] w fun e w' => e = .returned (.tuple #[.int .u64 x, .bool true]) ∧ w' = w := by
  have C := fun w => epow_any x 1073741789 w h.el (Nat.le_refl _)
  rw [h.pw] at C
  have h1 : ¬ (x : Int) < 1 := by have := h.lo; omega
  have h2 : ¬ (2147483579 : Int) ≤ x := by have := h.hi; omega
  clear h
  go_enter Try.func63, Try.ntmps63
  go_wp2_with (go_at_call 68; refine (C _).mono ?_; rintro e w' ⟨rfl, rfl⟩)
  go_ret2
  exact ⟨rfl, rfl⟩

set_option maxHeartbeats 400000 in
theorem elementOf_no (x : Nat) (w : World) (h : ¬ ISE x) :
    Calls Try.prog 63 #[.int .u64 x] w fun e w' => e = .returned (.tuple #[.int .u64 0, .bool false]) ∧ w' = w := by
  have H : Hid (¬ ISE x) := h
  clear h
  by_cases h1 : (x : Int) < 1
  · go_enter Try.func63, Try.ntmps63
    go_wp2_with fail
    go_ret2
    exact ⟨rfl, rfl⟩
  · by_cases h2 : (2147483579 : Int) ≤ x
    · go_enter Try.func63, Try.ntmps63
      go_wp2_with fail
      go_ret2
      exact ⟨rfl, rfl⟩
    · have hx : EL x := ⟨by omega⟩
      have C := fun w => epow_any x 1073741789 w hx (Nat.le_refl _)
      have hp : ¬ M.pw 2147483579 x 1073741789 = 1 := fun hp => H.out ⟨by omega, by omega, hp⟩
      obtain ⟨y, hy⟩ : ∃ y, y = M.pw 2147483579 x 1073741789 := ⟨_, rfl⟩
      rw [← hy] at C hp
      have hq : ((y : Int) != 1) = true := by simp; omega
      clear hy hp
      go_enter Try.func63, Try.ntmps63
      go_wp2_with (go_at_call 68; refine (C _).mono ?_; rintro e w' ⟨rfl, rfl⟩)
      go_ret2
      exact ⟨rfl, rfl⟩

set_option maxHeartbeats 400000 in
theorem allE_core (a : Option Addr) (c : Nat) (l : List Nat) (w : World) (hlen : l.length ≤ 65536) (hr : RdF w a l.length (cu l)) :
    Calls Try.prog 62 #[.func (.func 63) #[] #[], .slice a l.length c] w fun e w' => Below w.heap.size w w' ∧
      (((∀ x ∈ l, ISE x) ∧ ∃ g, w.heap.size ≤ g ∧ e = .returned (.tuple #[.slice (some ⟨g, 0, none⟩) l.length l.length, .bool true]) ∧ RdF w' (some ⟨g, 0, none⟩) l.length (cu l)) ∨
       ((¬ ∀ x ∈ l, ISE x) ∧ e = .returned (.tuple #[.slice none 0 0, .bool false]))) := by
  obtain ⟨n, hn⟩ : ∃ n, n = l.length := ⟨_, rfl⟩
  have HN : Hid (n = l.length) := hn
  rw [← hn] at hlen hr ⊢
  clear hn
  obtain ⟨i0, hi, hz0, hz1, hz2⟩ := info_parts Try.info79
  have hle : n ≤ maxLen := by unfold maxLen; omega
  go_enter Try.func62, Try.ntmps62
  go_wp2_with (at_make; refine wpList_make_full _ rfl _ _ 87 rfl w.heap.size 79 i0 (.int .u64 0) 1 Try.underlying87 hi hz0 hz1 .i64 .i64 _ _ n rfl rfl (by omega) (by omega) (by rw [hz2]; omega) (by assumption) (Nat.le_refl _) ?_; intro w1 hown hgrow)
  have F : Fill w1 w.heap.size 79 w.heap.size n 0 (cu l) := Fill.start hown
  have bel := below_made hgrow
  clear hown hgrow hi hz0 hz1 hz2 hle
  go_loopw [16] (fun i wr => ∃ k : Nat, k ≤ n ∧ i = .int .i64 k ∧ Below w.heap.size w wr ∧ Fill wr w.heap.size 79 w.heap.size n k (cu l) ∧ Hid (∀ x ∈ l.take k, ISE x)) (fun i _ => n - (intOf i).toNat)
  case atStart => exact ⟨0, Nat.zero_le _, rfl, bel, F, fun x hx => by simp at hx⟩
  case round =>
    clear F bel
    obtain ⟨k, hk, rfl, bel, F, HK⟩ := hrel
    by_cases hlt : k < n
    · obtain ⟨b, o, rfl, hb, hc⟩ := hr.at (by omega)
      obtain ⟨x, hx⟩ : ∃ x, x = l.getD k 0 := ⟨_, rfl⟩
      have hcx : wr.cell? ⟨b, o + k, none⟩ = some (.int .u64 (x : Int)) := by rw [bel.cell (by exact hb), hc k hlt, hx]; rfl
      have HX : Hid (x = l.getD k 0) := hx
      have HT : Hid (l.take (k + 1) = l.take k ++ [x]) := by rw [HX.out]; exact take_snoc l k 0 (by have := HN.out; omega)
      have hfz := F.frozen k
      obtain ⟨v, hv⟩ := F.there hlt
      clear hx hc hr
      by_cases hs : ISE x
      · go_wp2_with (go_at_call 63; refine (elementOf_yes _ _ hs).mono ?_; rintro e w' ⟨rfl, rfl⟩)
        go_roundw
        case rel =>
          refine ⟨k + 1, by omega, by go_num, ?_, ?_, ?_⟩
          · exact bel.setCell (Nat.le_refl _) _
          · exact F.store hlt (by rw [HX.out]; rfl)
          · intro y hy
            rw [HT.out] at hy
            rcases List.mem_append.1 hy with hy | hy
            · exact HK.out y hy
            · simp at hy; rw [hy]; exact hs
        case measure => simp [intOf]; omega
      · go_wp2_with (go_at_call 63; refine (elementOf_no _ _ hs).mono ?_; rintro e w' ⟨rfl, rfl⟩)
        go_ret2
        refine ⟨bel, .inr ⟨fun h => hs (h x ?_), rfl⟩⟩
        have : x ∈ l.take (k + 1) := by rw [HT.out]; simp
        exact List.mem_of_mem_take this
    · go_wp2_with fail
      go_ret2
      have hkn : k = n := by omega
      subst hkn
      refine ⟨bel, .inl ⟨fun x hx => HK.out x ?_, _, Nat.le_refl _, rfl, F.rd⟩⟩
      rw [List.take_of_length_le (by have := HN.out; omega)]; exact hx

theorem allEl_yes (a : Option Addr) (c n : Nat) (f : Nat → Nat) (w : World) (hlen : n ≤ 65536) (hr : RdF w a n (cu (M.sq f n))) (hl : ∀ i, i < n → ISE (f i)) :
    Calls Try.prog 62 #[.func (.func 63) #[] #[], .slice a n c] w fun e w' => Below w.heap.size w w' ∧
      ∃ g, w.heap.size ≤ g ∧ e = .returned (.tuple #[.slice (some ⟨g, 0, none⟩) n n, .bool true]) ∧ RdF w' (some ⟨g, 0, none⟩) n (cu (M.sq f n)) := by
  have h := allE_core a c (M.sq f n) w
  rw [M.sq_len] at h
  refine (h hlen hr).mono fun e w' h => ⟨h.1, ?_⟩
  rcases h.2 with h | h
  · exact h.2
  · exact absurd (fun x hx => by obtain ⟨i, hi, rfl⟩ := M.sq_mem hx; exact hl i hi) h.1

theorem allEl_no (a : Option Addr) (c n : Nat) (f : Nat → Nat) (w : World) (hlen : n ≤ 65536) (hr : RdF w a n (cu (M.sq f n))) (hl : ¬ ∀ i, i < n → ISE (f i)) :
    Calls Try.prog 62 #[.func (.func 63) #[] #[], .slice a n c] w fun e w' => Below w.heap.size w w' ∧ e = .returned (.tuple #[.slice none 0 0, .bool false]) := by
  have h := allE_core a c (M.sq f n) w
  rw [M.sq_len] at h
  refine (h hlen hr).mono fun e w' h => ⟨h.1, ?_⟩
  rcases h.2 with h | h
  · exact absurd (fun i hi => h.1 (f i) (by unfold M.sq; exact List.mem_map.2 ⟨i, by simpa using hi, rfl⟩)) hl
  · exact h.2

end Go.Proofs.Yteoioldbigomaab
namespace Go.Proofs.Yteoioldbigomaab
open Go.RowKit

/-- The block of a sign.group: n, commits, the Once's word and lock, the first k publics. -/
def GB (w : World) (g N T : Nat) (a : Option Addr) (c : Nat) (d m : Int) (pub : Nat → Nat) (k : Nat) : Prop :=
  ∃ cs : Array Value, w.heap[g]? = some (.cells cs 125 (0, 0)) ∧ cs.size = 14 ∧ cs[0]? = some (.int .i64 N) ∧ cs[1]? = some (.slice a T c) ∧
    cs[2]? = some (.int .u32 d) ∧ cs[3]? = some (.int .i32 m) ∧ ∀ i, i < k → cs[5 + i]? = some (.int .u64 ((pub i : Nat) : Int))

section
variable {w w' : World} {g N T : Nat} {a : Option Addr} {c : Nat} {d m : Int} {pub : Nat → Nat} {k : Nat}

theorem GB.lt (h : GB w g N T a c d m pub k) : g < w.heap.size := by
  obtain ⟨cs, h0, _⟩ := h
  exact lt_of_block h0

theorem GB.frozen (h : GB w g N T a c d m pub k) (j : Nat) : w.frozen? ⟨g, j, none⟩ = false := by
  obtain ⟨cs, h0, _⟩ := h
  simp [World.frozen?, h0]

theorem GB.there (h : GB w g N T a c d m pub k) {j : Nat} (hj : j < 14) : ∃ v, w.cell? ⟨g, j, none⟩ = some v := by
  obtain ⟨cs, h0, hs, _⟩ := h
  exact ⟨cs[j], by simp [World.cell?, h0, hs, hj]⟩

theorem GB.cells (h : GB w g N T a c d m pub k) : w.cell? ⟨g, 0, none⟩ = some (.int .i64 N) ∧ w.cell? ⟨g, 1, none⟩ = some (.slice a T c) ∧ w.cell? ⟨g, 2, none⟩ = some (.int .u32 d) ∧ w.cell? ⟨g, 3, none⟩ = some (.int .i32 m) := by
  obtain ⟨cs, h0, hs, h1, h2, h3, h4, _⟩ := h
  simp [World.cell?, h0, h1, h2, h3, h4]

theorem GB.pubAt (h : GB w g N T a c d m pub k) {i : Nat} (hi : i < k) : w.cell? ⟨g, 5 + i, none⟩ = some (.int .u64 ((pub i : Nat) : Int)) := by
  obtain ⟨cs, h0, hs, h1, h2, h3, h4, h5⟩ := h
  simp only [World.cell?, h0]
  exact h5 i hi

theorem GB.same (h : GB w g N T a c d m pub k) (e : w'.heap[g]? = w.heap[g]?) : GB w' g N T a c d m pub k := by
  obtain ⟨cs, h0, hr⟩ := h
  exact ⟨cs, e.trans h0, hr⟩

theorem block_set {cs : Array Value} {t : TypeId} (h0 : w.heap[g]? = some (.cells cs t (0, 0))) (j : Nat) (u : Value) : (w.setCell ⟨g, j, none⟩ u).heap[g]? = some (.cells (cs.setIfInBounds j u) t (0, 0)) := by
  show (w.heap.modify g _)[g]? = _
  rw [Array.getElem?_modify]
  simp [h0]

theorem GB.setPub (h : GB w g N T a c d m pub k) (hk : k < 9) {u : Value} (hu : u = .int .u64 ((pub k : Nat) : Int)) : GB (w.setCell ⟨g, 5 + k, none⟩ u) g N T a c d m pub (k + 1) := by
  obtain ⟨cs, h0, hs, h1, h2, h3, h4, h5⟩ := h
  refine ⟨_, block_set h0 _ _, by simp [hs], ?_, ?_, ?_, ?_, ?_⟩
  · rw [Array.getElem?_setIfInBounds_ne (by omega)]; exact h1
  · rw [Array.getElem?_setIfInBounds_ne (by omega)]; exact h2
  · rw [Array.getElem?_setIfInBounds_ne (by omega)]; exact h3
  · rw [Array.getElem?_setIfInBounds_ne (by omega)]; exact h4
  · intro i hi
    rcases Nat.lt_or_eq_of_le (Nat.le_of_lt_succ hi) with hl | rfl
    · rw [Array.getElem?_setIfInBounds_ne (by omega)]; exact h5 i hl
    · rw [Array.getElem?_setIfInBounds_self_of_lt (by omega), hu]

theorem GB.setDone (h : GB w g N T a c d m pub k) (d' : Int) : GB (w.setCell ⟨g, 2, none⟩ (.int .u32 d')) g N T a c d' m pub k := by
  obtain ⟨cs, h0, hs, h1, h2, h3, h4, h5⟩ := h
  refine ⟨_, block_set h0 _ _, by simp [hs], ?_, ?_, ?_, ?_, ?_⟩
  · rw [Array.getElem?_setIfInBounds_ne (by omega)]; exact h1
  · rw [Array.getElem?_setIfInBounds_ne (by omega)]; exact h2
  · rw [Array.getElem?_setIfInBounds_self_of_lt (by omega)]
  · rw [Array.getElem?_setIfInBounds_ne (by omega)]; exact h4
  · intro i hi
    rw [Array.getElem?_setIfInBounds_ne (by omega)]; exact h5 i hi

theorem GB.setLock (h : GB w g N T a c d m pub k) (m' : Int) : GB (w.setCell ⟨g, 3, none⟩ (.int .i32 m')) g N T a c d m' pub k := by
  obtain ⟨cs, h0, hs, h1, h2, h3, h4, h5⟩ := h
  refine ⟨_, block_set h0 _ _, by simp [hs], ?_, ?_, ?_, ?_, ?_⟩
  · rw [Array.getElem?_setIfInBounds_ne (by omega)]; exact h1
  · rw [Array.getElem?_setIfInBounds_ne (by omega)]; exact h2
  · rw [Array.getElem?_setIfInBounds_ne (by omega)]; exact h3
  · rw [Array.getElem?_setIfInBounds_self_of_lt (by omega)]
  · intro i hi
    rw [Array.getElem?_setIfInBounds_ne (by omega)]; exact h5 i hi

theorem GB.drew (h : GB w g N T a c d m pub k) : GB w.drew g N T a c d m pub k := h.same rfl
end

/-- What a call leaves that may write block g: 'grownBy' with that row. -/
theorem grown_refl (w : World) (r : Option Nat) : w.grownBy w r := ⟨rfl, rfl, rfl, Nat.le_refl _, fun _ _ _ => rfl⟩
theorem grown_trans {w w1 w2 : World} {r : Option Nat} (h : w.grownBy w1 r) (k : w1.grownBy w2 r) : w.grownBy w2 r :=
  ⟨k.os.trans h.os, k.tape.trans h.tape, k.output.trans h.output, Nat.le_trans h.size k.size, fun j hj hr => (k.block j (Nat.lt_of_lt_of_le hj h.size) hr).trans (h.block j hj hr)⟩
theorem grown_of_below {w w1 : World} (h : Below w.heap.size w w1) (r : Option Nat) : w.grownBy w1 r :=
  ⟨h.os, h.tape, h.output, h.size, fun j hj _ => h.block j hj⟩
theorem grown_set (w : World) (g j : Nat) (u : Value) : w.grownBy (w.setCell ⟨g, j, none⟩ u) (some g) :=
  ⟨rfl, rfl, rfl, ((Below.refl 0 w).setCell (p := ⟨g, j, none⟩) (Nat.zero_le _) u).size, fun k _ hr => Below.heap_setCell w ⟨g, j, none⟩ u k (fun e => hr (by rw [e]))⟩
theorem grown_drew (w : World) (r : Option Nat) : w.grownBy w.drew r := grown_of_below (Below.refl _ _).drew r
theorem RdF.grown {w w1 : World} {a : Option Addr} {n g : Nat} {f : Nat → Value} (h : RdF w a n f) (hg : w.grownBy w1 (some g)) (hne : ∀ x, a = some x → x.block ≠ g) : RdF w1 a n f := by
  rcases h with h | ⟨b, o, rfl, hlt, hc⟩
  · exact .inl h
  · refine .inr ⟨b, o, rfl, Nat.lt_of_lt_of_le hlt hg.size, fun i hi => ?_⟩
    rw [World.cell?_of_block (hg.block b hlt (fun e => hne _ rfl (by simpa using e)))]
    exact hc i hi

/-- The public share of signer x, out of the T commitments f. -/
def M.pub (f : Nat → Nat) (T x : Nat) : Nat := M.prodP (M.sq (fun i => M.pw 2147483579 (f i) (M.pw 1073741789 x i)) T)

set_option maxHeartbeats 1000000 in
theorem work_any (g N T : Nat) (a : Option Addr) (c : Nat) (d m : Int) (f : Nat → Nat) (w : World) (hN : N ≤ 9) (hT : T ≤ 65536) (hf : ∀ i, i < T → EL (f i)) (G : GB w g N T a c d m (fun i => M.pub f T (i + 1)) 0)
    (rd : RdF w a T (cu (M.sq f T))) (hne : ∀ x, a = some x → x.block ≠ g) :
    Calls Try.prog 65 #[.pointer (some ⟨g, 0, none⟩)] w fun e w' => e = .returned (.tuple #[]) ∧ w.grownBy w' (some g) ∧ GB w' g N T a c d m (fun i => M.pub f T (i + 1)) N := by
  have HF : Hid (∀ i, i < T → EL (f i)) := hf
  have HE : Hid (∀ x, a = some x → x.block ≠ g) := hne
  clear hf hne
  obtain ⟨c0, c1, _, _⟩ := G.cells
  go_enter Try.func65, Try.ntmps65
  go_wp2_with fail
  go_loopw [8] (fun i wr => ∃ k : Nat, k ≤ N ∧ i = .int .i64 k ∧ w.grownBy wr (some g) ∧ GB wr g N T a c d m (fun i => M.pub f T (i + 1)) k) (fun i _ => N - (intOf i).toNat)
  case atStart => exact ⟨0, Nat.zero_le _, rfl, grown_refl _ _, G⟩
  case round =>
    clear G c0 c1
    obtain ⟨k, hk, rfl, gr, G⟩ := hrel
    by_cases hlt : k < N
    · obtain ⟨c0, c1, c2, c3⟩ := G.cells
      have rd0 := rd.grown gr HE.out
      have hsk : SC (k + 1) := ⟨by omega⟩
      have C := fun w' => powers_any (k + 1) T w' hsk hT
      have e1 : (((k + 1 : Nat) : Int)) = (k : Int) + 1 := by omega
      rw [e1] at C
      clear c0 c2 c3
      go_wp2_with (go_at_call 61; refine (C _).mono ?_; rintro e w1 ⟨bel1, p1, rfl, rd1⟩)
      have G1 := (G.same (bel1.block g G.lt)).drew
      have dr : Below w1.heap.size w1 w1.drew := (Below.refl _ _).drew
      have rd01 := (rd0.below bel1).below dr
      have rd1d := rd1.below dr
      obtain ⟨_, d1, _, _⟩ := G1.cells
      have hk9 : (k : Int) < 9 := by omega
      clear rd1 rd0 dr C e1 c1
      go_region_with (first | (go_at_call 84; refine (pairE_any a (some ⟨p1, 0, none⟩) c T T f _ _ hT HF.out (fun i _ => SC.pw (k + 1) i) rd01 rd1d).mono ?_; rintro e w2 ⟨bel2, p2, rfl, rd2⟩; have G2 := G1.same (bel2.block g G1.lt); have hfz := G2.frozen (5 + k); obtain ⟨v, hv⟩ := G2.there (j := 5 + k) (by omega)) | (go_at_call 53; refine (togetherE (some ⟨p2, 0, none⟩) T T _ _ hT (fun i _ => EL.pw _ _) rd2).mono ?_; rintro e w3 ⟨rfl, rfl⟩))
      go_wp2_with fail
      go_roundw
      case rel =>
        refine ⟨k + 1, by omega, by go_num, ?_, ?_⟩
        · exact grown_trans gr (grown_trans (grown_of_below bel1 _) (grown_trans (grown_drew _ _) (grown_trans (grown_of_below bel2 _) (grown_set _ _ _ _))))
        · exact G2.setPub (by omega) rfl
      case measure => simp [intOf]; omega
    · go_wp2_with fail
      go_end0
      have hkn : N = k := by omega
      subst hkn
      exact ⟨rfl, gr, G⟩
end Go.Proofs.Yteoioldbigomaab
