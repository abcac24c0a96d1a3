import Derived.Test.YteoioldbigomaabDeal
namespace Go.Proofs.Yteoioldbigomaab
open Go.RowKit

/-- A []number.Scalar of the call's own that holds the list l. -/
def GrowL (w : World) (B : Nat) (v : Value) (l : List Nat) : Prop := w.ownsRow B 51 1 v l.length (l.map fun x => .int .u64 ((x : Nat) : Int))

theorem GrowL.nil (w : World) (B : Nat) : GrowL w B (.slice none 0 0) [] := World.ownsRow_nil _ _ _ _
theorem GrowL.below {w w' : World} {B : Nat} {v : Value} {l : List Nat} (h : GrowL w B v l) (hb : Below w.heap.size w w') : GrowL w' B v l := ownsRow_below h hb

theorem addr_add0 (b j : Nat) : (⟨b, 0, none⟩ : Addr).add j = ⟨b, j, none⟩ := by
  unfold Addr.add
  split
  · subst_vars; rfl
  · simp

theorem GrowL.rd {w : World} {B : Nat} {v : Value} {l : List Nat} (h : GrowL w B v l) : ∃ a cap, v = .slice a l.length cap ∧ RdF w a l.length (cu l) := by
  rcases h.2 with ⟨hv, hl⟩ | ⟨g, cap, cur, hv, hB, hg, hn, hm, hs, ht⟩
  · exact ⟨none, 0, by rw [hv, hl], .inl hl⟩
  · subst hv
    refine ⟨_, cap, rfl, .inr ⟨g, 0, rfl, lt_of_block hg, fun i hi => ?_⟩⟩
    rw [Nat.zero_add]
    have := World.ownsRow.cells h (g := g) rfl i (.int .u64 ((l[i] : Nat) : Int)) (by simp [hi])
    rw [addr_add0] at this
    rw [this]
    simp [cu, hi]

theorem wpList_appendL (w : World) {ops : Array Oper} {rest : List Oper} {o : Oper} {a : Act} {Q : Exit → Act → World → Prop}
    (hg : o.guard = none) (s x : Operand) (hop : o.op = Op.call { callee := Callee.builtin Builtin.append, args := #[s, x], argTypes := #[55, 55] })
    (B : Nat) (v : Value) (l : List Nat) (u : Nat) (hs : a.eval s = v) (hgrow : GrowL w B v l) (b : Nat) (hx : a.eval x = .slice (some ⟨b, 0, none⟩) 1 1)
    (hc : w.cell? ⟨b, 0, none⟩ = some (.int .u64 ((u : Nat) : Int))) (hk : l.length ≤ 65536) (hB : B ≤ w.heap.size)
    (hK : ∀ v' w', GrowL w' B v' (l ++ [u]) → Below B w w' → wpList Try.prog ops Q rest (a.put o.dst v') w') :
    wpList Try.prog ops Q (o :: rest) a w := by
  obtain ⟨i0, hi, hz0, hz1, hz2⟩ := info_parts Try.info51
  refine wpList_append_own w hg s x 55 hop B 51 i0 (.int .u64 0) 1 8 Try.underlying55 hi hz0 hz1 hz2 rfl (by decide) v l.length _ hs hgrow ⟨b, 0, none⟩ 1 1 [.int .u64 ((u : Nat) : Int)] hx rfl (one_new hc)
    (by intro u hu; simp at hu; subst hu; rfl) (by unfold maxLen; omega) (by omega) hB ?_
  intro v' w' r1 r2 _
  refine hK v' w' ?_ ((Below.refl _ _).grown r2 hB fun k hk => (World.ownsRow.lt hgrow k hk).1)
  unfold GrowL
  simpa using r1

/-- The part that signer j has in the weight of signer i. -/
def M.part (i j : Nat) : Nat := M.over j ((j + 1073741789 - i) % 1073741789)
/-- The parts of the first m signers in the weight of the k-th. -/
def M.parts (d : Nat → Nat) (k m : Nat) : List Nat := ((List.range m).filter fun j => decide (j ≠ k)).map fun j => M.part (d k) (d j)
def M.wt (d : Nat → Nat) (n k : Nat) : Nat := M.prodQ (M.parts d k n)

theorem M.parts_self (d : Nat → Nat) (k : Nat) : M.parts d k (k + 1) = M.parts d k k := by
  simp [M.parts, List.range_succ]
theorem M.parts_other (d : Nat → Nat) {k m : Nat} (h : m ≠ k) : M.parts d k (m + 1) = M.parts d k m ++ [M.part (d k) (d m)] := by
  simp [M.parts, List.range_succ, List.filter_append, h]
theorem M.parts_len (d : Nat → Nat) (k m : Nat) : (M.parts d k m).length ≤ m := by
  unfold M.parts
  rw [List.length_map]
  exact Nat.le_trans (List.length_filter_le _ _) (by simp)
theorem M.part_sc (i j : Nat) : SC (M.part i j) := SC.mod _
theorem M.parts_sc (d : Nat → Nat) (k m : Nat) : ∀ x ∈ M.parts d k m, SC x := by
  intro x hx
  unfold M.parts at hx
  obtain ⟨j, _, rfl⟩ := List.mem_map.1 hx
  exact M.part_sc _ _
theorem M.prodQ_sc (l : List Nat) : SC (M.prodQ l) := by
  rcases l.eq_nil_or_concat with rfl | ⟨l', x, rfl⟩
  · exact ⟨by decide⟩
  · rw [List.concat_eq_append, M.prodQ_snoc]; exact SC.mod _
theorem M.wt_sc (d : Nat → Nat) (n k : Nat) : SC (M.wt d n k) := M.prodQ_sc _

/-- A []int that holds the numbers d. -/
def ci (d : Nat → Nat) (i : Nat) : Value := .int .i64 ((d i : Nat) : Int)

set_option maxHeartbeats 1000000 in
theorem weight_any (a : Option Addr) (c n k : Nat) (d : Nat → Nat) (w : World) (hn : n ≤ 9) (hk : k < n) (hd : ∀ i, i < n → d i ≤ 9) (hne : ∀ i, i < n → i ≠ k → d i ≠ d k) (hr : RdF w a n (ci d)) :
    Calls Try.prog 48 #[.int .i64 (d k : Nat), .slice a n c] w fun e w' => Below w.heap.size w w' ∧ e = .returned (.int .u64 (M.wt d n k : Nat)) := by
  have HD : Hid (∀ i, i < n → d i ≤ 9) := hd
  have HE : Hid (∀ i, i < n → i ≠ k → d i ≠ d k) := hne
  obtain ⟨y, hy⟩ : ∃ y, y = d k := ⟨_, rfl⟩
  have HY : Hid (y = d k) := hy
  have hy9 : y ≤ 9 := by rw [hy]; exact hd k hk
  rw [← hy]
  clear hd hne hy
  go_enter Try.func48, Try.ntmps48
  go_wp2_with fail
  go_loopw [5, 11] (fun v i wr => ∃ m : Nat, m ≤ n ∧ i = .int .i64 m ∧ Below w.heap.size w wr ∧ GrowL wr w.heap.size v (M.parts d k m)) (fun _ i _ => n - (intOf i).toNat)
  case atStart => exact ⟨0, Nat.zero_le _, rfl, Below.refl _ _, GrowL.nil _ _⟩
  case round =>
    obtain ⟨m, hm, rfl, bel, G⟩ := hrel
    by_cases hlt : m < n
    · obtain ⟨b, o, rfl, hb, hc⟩ := hr.at (by omega)
      obtain ⟨x, hx⟩ : ∃ x, x = d m := ⟨_, rfl⟩
      have hcx : wr.cell? ⟨b, o + m, none⟩ = some (.int .i64 (x : Int)) := by rw [bel.cell (by exact hb), hc m hlt, hx]; rfl
      have HX : Hid (x = d m) := hx
      have hx9 : x ≤ 9 := by rw [hx]; exact HD.out m hlt
      have hln := M.parts_len d k m
      clear hx hc hr HD
      by_cases hmk : m = k
      · have hxy : ((x : Int) != y) = false := by
          have : x = y := by rw [HX.out, HY.out, hmk]
          simp [this]
        have HMK : Hid (m = k) := hmk
        clear hmk
        go_wp2_with fail
        go_roundw
        case rel => exact ⟨m + 1, by omega, by go_num, bel, by rw [HMK.out] at G ⊢; rw [M.parts_self]; exact G⟩
        case measure => simp [intOf]; omega
      · have hxy : ((x : Int) != y) = true := by
          have : x ≠ y := by rw [HX.out, HY.out]; exact HE.out m hlt hmk
          simp; omega
        have hsx : SC x := ⟨by omega⟩
        have hsy : SC y := ⟨by omega⟩
        have hp : M.over x ((x + 1073741789 - y) % 1073741789) = M.part (d k) (d m) := by unfold M.part; rw [← HX.out, ← HY.out]
        have C := fun w' => over_any x ((x + 1073741789 - y) % 1073741789) w' hsx (SC.mod _)
        rw [hp] at C
        obtain ⟨z, hz⟩ : ∃ z, z = M.part (d k) (d m) := ⟨_, rfl⟩
        rw [← hz] at C
        have D := fun w' => minus_any x y w' hsx hsy
        obtain ⟨t, ht⟩ : ∃ t, t = (x + 1073741789 - y) % 1073741789 := ⟨_, rfl⟩
        rw [← ht] at C D
        have HZ : Hid (z = M.part (d k) (d m)) := hz
        have hlm : (M.parts d k m).length ≤ 65536 := by omega
        obtain ⟨av, cv, rfl, _⟩ := G.rd
        clear hz hp ht HE
        go_wp2_with (first | (go_at_call 67; refine (D _).mono ?_; rintro e w' ⟨rfl, hw'⟩; subst hw') | (go_at_call 66; refine (C _).mono ?_; rintro e w' ⟨rfl, hw'⟩; subst hw') | (at_builtin; refine wpList_appendL _ rfl (.tmp 20) (.tmp 27) rfl w.heap.size _ (M.parts d k m) z rfl (G.below (below_alloc _ _)) _ rfl (by go_simp) hlm (Nat.le_trans bel.size (below_alloc _ _).size) ?_; intro v' w' G' bel'))
        obtain ⟨av3, cv3, rfl, _⟩ := G'.rd
        go_wp2_with fail
        go_roundw
        case rel =>
          refine ⟨m + 1, by omega, by go_num, (bel.alloc bel.size _).trans bel', ?_⟩
          rw [M.parts_other d hmk, ← HZ.out]; exact G'
        case measure => simp [intOf]; omega
    · have hmn : n = m := by omega
      subst hmn
      obtain ⟨av, cv, rfl, rdv⟩ := G.rd
      have hln := M.parts_len d k n
      have C := together_times av cv (M.parts d k n) wr (by omega) (M.parts_sc d k n) rdv
      obtain ⟨q, hq⟩ : ∃ q, q = (M.parts d k n).length := ⟨_, rfl⟩
      rw [← hq] at C ⊢
      clear hq hln rdv G
      go_wp2_with (go_at_call 20; refine C.mono ?_; rintro e w' ⟨rfl, hw'⟩; subst hw')
      go_ret
      exact ⟨bel, rfl⟩
end Go.Proofs.Yteoioldbigomaab
namespace Go.Proofs.Yteoioldbigomaab
open Go.RowKit

set_option maxHeartbeats 1000000 in
theorem weights_any (a : Option Addr) (c n : Nat) (d : Nat → Nat) (w : World) (hn : n ≤ 9) (hd : ∀ i, i < n → d i ≤ 9) (hne : ∀ i k, i < n → k < n → i ≠ k → d i ≠ d k) (hr : RdF w a n (ci d)) :
    Calls Try.prog 24 #[.slice a n c] w fun e w' => Below w.heap.size w w' ∧
      ∃ g, e = .returned (.slice (some ⟨g, 0, none⟩) n n) ∧ RdF w' (some ⟨g, 0, none⟩) n (cu (M.sq (M.wt d n) n)) := by
  have HD : Hid (∀ i, i < n → d i ≤ 9) := hd
  have HE : Hid (∀ i k, i < n → k < n → i ≠ k → d i ≠ d k) := hne
  clear hd hne
  obtain ⟨i0, hi, hz0, hz1, hz2⟩ := info_parts Try.info51
  have hle : n ≤ maxLen := by unfold maxLen; omega
  go_enter Try.func24, Try.ntmps24
  go_wp2_with (at_make; refine wpList_make_full _ rfl _ _ 55 rfl w.heap.size 51 i0 (.int .u64 0) 1 Try.underlying55 hi hz0 hz1 .i64 .i64 _ _ n rfl rfl (by omega) (by omega) (by rw [hz2]; omega) (by assumption) (Nat.le_refl _) ?_; intro w1 hown hgrow)
  have F : Fill w1 w.heap.size 51 w.heap.size n 0 (cu (M.sq (M.wt d n) n)) := Fill.start hown
  have bel := below_made hgrow
  clear hown hgrow hi hz0 hz1 hz2 hle
  go_loopw [11] (fun i wr => ∃ k : Nat, k ≤ n ∧ i = .int .i64 k ∧ Below w.heap.size w wr ∧ Fill wr w.heap.size 51 w.heap.size n k (cu (M.sq (M.wt d n) n))) (fun i _ => n - (intOf i).toNat)
  case atStart => exact ⟨0, Nat.zero_le _, rfl, bel, F⟩
  case round =>
    clear F bel
    obtain ⟨k, hk, rfl, bel, F⟩ := hrel
    by_cases hlt : k < n
    · have rd0 := hr.below bel
      have C := fun w' hr' => weight_any a c n k d w' hn hlt HD.out (fun i hi hik => HE.out i k hi hlt hik) hr'
      obtain ⟨b, o, rfl, hb, hc⟩ := hr.at (by omega)
      obtain ⟨x, hx⟩ : ∃ x, x = d k := ⟨_, rfl⟩
      have hcx : wr.cell? ⟨b, o + k, none⟩ = some (.int .i64 (x : Int)) := by rw [bel.cell (by exact hb), hc k hlt, hx]; rfl
      rw [← hx] at C
      clear hc hr hx HD HE
      go_wp2_with (go_at_call 48; refine (C _ rd0).mono ?_; rintro e w5 ⟨bel5, rfl⟩; have F5 := F.below bel5; have hfz := F5.frozen k; obtain ⟨v, hv⟩ := F5.there hlt)
      go_roundw
      case rel =>
        refine ⟨k + 1, by omega, by go_num, ?_, ?_⟩
        · exact (bel.trans (bel5.mono bel.size)).setCell (p := ⟨w.heap.size, k, none⟩) (Nat.le_refl _) _
        · exact F5.store hlt (by rw [M.cu_sq _ _ _ hlt])
      case measure => simp [intOf]; omega
    · go_wp2_with fail
      go_ret
      have hkn : n = k := by omega
      subst hkn
      exact ⟨bel, _, rfl, F.rd⟩

theorem M.over_step (W x p : Nat) : W * x % 1073741789 * p % 1073741789 = W * (x * p % 1073741789) % 1073741789 := by
  rw [Nat.mod_mul_mod, Nat.mul_mod_mod, Nat.mul_assoc]

end Go.Proofs.Yteoioldbigomaab
