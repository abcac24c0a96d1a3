import Derived.Test.YteoioldbigomaaaElem
namespace Go.Proofs.Yteoioldbigomaaa
open Go.RowKit

/-- The block of a sign.group: n, commits, the Once's word and lock, the first k publics. -/
def GB (w : World) (g N T : Nat) (a : Option Addr) (c : Nat) (d m : Int) (pub : Nat → Nat) (k : Nat) : Prop :=
  ∃ cs : Array Value, w.heap[g]? = some (.cells cs 120 (0, 0)) ∧ cs.size = 14 ∧ cs[0]? = some (.int .i64 N) ∧ cs[1]? = some (.slice a T c) ∧
    cs[2]? = some (.int .u32 d) ∧ cs[3]? = some (.int .i32 m) ∧ ∀ i, i < k → cs[5 + i]? = some (.int .u64 ((pub i : Nat) : Int))

section
variable {w w' : World} {g N T : Nat} {a : Option Addr} {c : Nat} {d m : Int} {pub : Nat → Nat} {k : Nat}

theorem GB.lt (h : GB w g N T a c d m pub k) : g < w.heap.size := by
  obtain ⟨cs, h0, _⟩ := h
  exact lt_of_block h0

theorem GB.frozen (h : GB w g N T a c d m pub k) (j : Nat) : w.frozen? ⟨g, j, none⟩ = false := by
  obtain ⟨cs, h0, _⟩ := h
  simp [World.frozen?, h0]

theorem GB.there (h : GB w g N T a c d m pub k) {j : Nat} (hj : j < 14) : ∃ v, w.cell? ⟨g, j, none⟩ = some v := by
  obtain ⟨cs, h0, hs, _⟩ := h
  exact ⟨cs[j], by simp [World.cell?, h0, hs, hj]⟩

theorem GB.cells (h : GB w g N T a c d m pub k) : w.cell? ⟨g, 0, none⟩ = some (.int .i64 N) ∧ w.cell? ⟨g, 1, none⟩ = some (.slice a T c) ∧ w.cell? ⟨g, 2, none⟩ = some (.int .u32 d) ∧ w.cell? ⟨g, 3, none⟩ = some (.int .i32 m) := by
  obtain ⟨cs, h0, hs, h1, h2, h3, h4, _⟩ := h
  simp [World.cell?, h0, h1, h2, h3, h4]

theorem GB.pubAt (h : GB w g N T a c d m pub k) {i : Nat} (hi : i < k) : w.cell? ⟨g, 5 + i, none⟩ = some (.int .u64 ((pub i : Nat) : Int)) := by
  obtain ⟨cs, h0, hs, h1, h2, h3, h4, h5⟩ := h
  simp only [World.cell?, h0]
  exact h5 i hi

theorem GB.same (h : GB w g N T a c d m pub k) (e : w'.heap[g]? = w.heap[g]?) : GB w' g N T a c d m pub k := by
  obtain ⟨cs, h0, hr⟩ := h
  exact ⟨cs, e.trans h0, hr⟩

theorem block_set {cs : Array Value} {t : TypeId} (h0 : w.heap[g]? = some (.cells cs t (0, 0))) (j : Nat) (u : Value) : (w.setCell ⟨g, j, none⟩ u).heap[g]? = some (.cells (cs.setIfInBounds j u) t (0, 0)) := by
  show (w.heap.modify g _)[g]? = _
  rw [Array.getElem?_modify]
  simp [h0]

theorem GB.setPub (h : GB w g N T a c d m pub k) (hk : k < 9) {u : Value} (hu : u = .int .u64 ((pub k : Nat) : Int)) : GB (w.setCell ⟨g, 5 + k, none⟩ u) g N T a c d m pub (k + 1) := by
  obtain ⟨cs, h0, hs, h1, h2, h3, h4, h5⟩ := h
  refine ⟨_, block_set h0 _ _, by simp [hs], ?_, ?_, ?_, ?_, ?_⟩
  · rw [Array.getElem?_setIfInBounds_ne (by omega)]; exact h1
  · rw [Array.getElem?_setIfInBounds_ne (by omega)]; exact h2
  · rw [Array.getElem?_setIfInBounds_ne (by omega)]; exact h3
  · rw [Array.getElem?_setIfInBounds_ne (by omega)]; exact h4
  · intro i hi
    rcases Nat.lt_or_eq_of_le (Nat.le_of_lt_succ hi) with hl | rfl
    · rw [Array.getElem?_setIfInBounds_ne (by omega)]; exact h5 i hl
    · rw [Array.getElem?_setIfInBounds_self_of_lt (by omega), hu]

theorem GB.setDone (h : GB w g N T a c d m pub k) (d' : Int) : GB (w.setCell ⟨g, 2, none⟩ (.int .u32 d')) g N T a c d' m pub k := by
  obtain ⟨cs, h0, hs, h1, h2, h3, h4, h5⟩ := h
  refine ⟨_, block_set h0 _ _, by simp [hs], ?_, ?_, ?_, ?_, ?_⟩
  · rw [Array.getElem?_setIfInBounds_ne (by omega)]; exact h1
  · rw [Array.getElem?_setIfInBounds_ne (by omega)]; exact h2
  · rw [Array.getElem?_setIfInBounds_self_of_lt (by omega)]
  · rw [Array.getElem?_setIfInBounds_ne (by omega)]; exact h4
  · intro i hi
    rw [Array.getElem?_setIfInBounds_ne (by omega)]; exact h5 i hi

theorem GB.setLock (h : GB w g N T a c d m pub k) (m' : Int) : GB (w.setCell ⟨g, 3, none⟩ (.int .i32 m')) g N T a c d m' pub k := by
  obtain ⟨cs, h0, hs, h1, h2, h3, h4, h5⟩ := h
  refine ⟨_, block_set h0 _ _, by simp [hs], ?_, ?_, ?_, ?_, ?_⟩
  · rw [Array.getElem?_setIfInBounds_ne (by omega)]; exact h1
  · rw [Array.getElem?_setIfInBounds_ne (by omega)]; exact h2
  · rw [Array.getElem?_setIfInBounds_ne (by omega)]; exact h3
  · rw [Array.getElem?_setIfInBounds_self_of_lt (by omega)]
  · intro i hi
    rw [Array.getElem?_setIfInBounds_ne (by omega)]; exact h5 i hi

theorem GB.drew (h : GB w g N T a c d m pub k) : GB w.drew g N T a c d m pub k := h.same rfl
end

/-- What a call leaves that may write block g: 'grownBy' with that row. -/
theorem grown_refl (w : World) (r : Option Nat) : w.grownBy w r := ⟨rfl, rfl, rfl, Nat.le_refl _, fun _ _ _ => rfl⟩
theorem grown_trans {w w1 w2 : World} {r : Option Nat} (h : w.grownBy w1 r) (k : w1.grownBy w2 r) : w.grownBy w2 r :=
  ⟨k.os.trans h.os, k.tape.trans h.tape, k.output.trans h.output, Nat.le_trans h.size k.size, fun j hj hr => (k.block j (Nat.lt_of_lt_of_le hj h.size) hr).trans (h.block j hj hr)⟩
theorem grown_of_below {w w1 : World} (h : Below w.heap.size w w1) (r : Option Nat) : w.grownBy w1 r :=
  ⟨h.os, h.tape, h.output, h.size, fun j hj _ => h.block j hj⟩
theorem grown_set (w : World) (g j : Nat) (u : Value) : w.grownBy (w.setCell ⟨g, j, none⟩ u) (some g) :=
  ⟨rfl, rfl, rfl, ((Below.refl 0 w).setCell (p := ⟨g, j, none⟩) (Nat.zero_le _) u).size, fun k _ hr => Below.heap_setCell w ⟨g, j, none⟩ u k (fun e => hr (by rw [e]))⟩
theorem grown_drew (w : World) (r : Option Nat) : w.grownBy w.drew r := grown_of_below (Below.refl _ _).drew r
theorem RdF.grown {w w1 : World} {a : Option Addr} {n g : Nat} {f : Nat → Value} (h : RdF w a n f) (hg : w.grownBy w1 (some g)) (hne : ∀ x, a = some x → x.block ≠ g) : RdF w1 a n f := by
  rcases h with h | ⟨b, o, rfl, hlt, hc⟩
  · exact .inl h
  · refine .inr ⟨b, o, rfl, Nat.lt_of_lt_of_le hlt hg.size, fun i hi => ?_⟩
    rw [World.cell?_of_block (hg.block b hlt (fun e => hne _ rfl (by simpa using e)))]
    exact hc i hi

/-- The public share of signer x, out of the T commitments f. -/
def M.pub (f : Nat → Nat) (T x : Nat) : Nat := M.prodP (M.sq (fun i => M.pw 2147483579 (f i) (M.pw 1073741789 x i)) T)

set_option maxHeartbeats 1000000 in
theorem work_any (g N T : Nat) (a : Option Addr) (c : Nat) (d m : Int) (f : Nat → Nat) (w : World) (hN : N ≤ 9) (hT : T ≤ 65536) (hf : ∀ i, i < T → EL (f i)) (G : GB w g N T a c d m (fun i => M.pub f T (i + 1)) 0)
    (rd : RdF w a T (cu (M.sq f T))) (hne : ∀ x, a = some x → x.block ≠ g) :
    Calls Try.prog 69 #[.pointer (some ⟨g, 0, none⟩)] w fun e w' => e = .returned (.tuple #[]) ∧ w.grownBy w' (some g) ∧ GB w' g N T a c d m (fun i => M.pub f T (i + 1)) N := by
  have HF : Hid (∀ i, i < T → EL (f i)) := hf
  have HE : Hid (∀ x, a = some x → x.block ≠ g) := hne
  clear hf hne
  obtain ⟨c0, c1, _, _⟩ := G.cells
  go_enter Try.func69, Try.ntmps69
  go_wp2_with fail
  go_loopw [8] (fun i wr => ∃ k : Nat, k ≤ N ∧ i = .int .i64 k ∧ w.grownBy wr (some g) ∧ GB wr g N T a c d m (fun i => M.pub f T (i + 1)) k) (fun i _ => N - (intOf i).toNat)
  case atStart => exact ⟨0, Nat.zero_le _, rfl, grown_refl _ _, G⟩
  case round =>
    clear G c0 c1
    obtain ⟨k, hk, rfl, gr, G⟩ := hrel
    by_cases hlt : k < N
    · obtain ⟨c0, c1, c2, c3⟩ := G.cells
      have rd0 := rd.grown gr HE.out
      have hsk : SC (k + 1) := ⟨by omega⟩
      have C := fun w' => powers_any (k + 1) T w' hsk hT
      have e1 : (((k + 1 : Nat) : Int)) = (k : Int) + 1 := by omega
      rw [e1] at C
      clear c0 c2 c3
      go_wp2_with (go_at_call 56; refine (C _).mono ?_; rintro e w1 ⟨bel1, p1, rfl, rd1⟩)
      have G1 := (G.same (bel1.block g G.lt)).drew
      have dr : Below w1.heap.size w1 w1.drew := (Below.refl _ _).drew
      have rd01 := (rd0.below bel1).below dr
      have rd1d := rd1.below dr
      obtain ⟨_, d1, _, _⟩ := G1.cells
      have hk9 : (k : Int) < 9 := by omega
      clear rd1 rd0 dr C e1 c1
      go_region_with (first | (go_at_call 78; refine (pairE_any a (some ⟨p1, 0, none⟩) c T T f _ _ hT HF.out (fun i _ => SC.pw (k + 1) i) rd01 rd1d).mono ?_; rintro e w2 ⟨bel2, p2, rfl, rd2⟩; have G2 := G1.same (bel2.block g G1.lt); have hfz := G2.frozen (5 + k); obtain ⟨v, hv⟩ := G2.there (j := 5 + k) (by omega)) | (go_at_call 77; refine (togetherE (some ⟨p2, 0, none⟩) T T _ _ hT (fun i _ => EL.pw _ _) rd2).mono ?_; rintro e w3 ⟨rfl, rfl⟩))
      go_wp2_with fail
      go_roundw
      case rel =>
        refine ⟨k + 1, by omega, by go_num, ?_, ?_⟩
        · exact grown_trans gr (grown_trans (grown_of_below bel1 _) (grown_trans (grown_drew _ _) (grown_trans (grown_of_below bel2 _) (grown_set _ _ _ _))))
        · exact G2.setPub (by omega) rfl
      case measure => simp [intOf]; omega
    · go_wp2_with fail
      go_end0
      have hkn : N = k := by omega
      subst hkn
      exact ⟨rfl, gr, G⟩
end Go.Proofs.Yteoioldbigomaaa
