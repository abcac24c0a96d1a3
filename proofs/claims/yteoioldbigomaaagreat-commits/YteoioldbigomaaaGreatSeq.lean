import Derived.Test.YteoioldbigomaaaGreatSl
import Derived.RegionTactic
import Derived.Deep.RegionWith
import Derived.Deep.RegionLaw
import Derived.Deep.QuietTactic
import Derived.BigQuiet
import Derived.Laws.AppendOwnNone
namespace Go.Proofs.YteoioldbigomaaaGreat
open Go.RowKit

/-- The list of F 0 .. F (n - 1). -/
def M.sq (F : Nat → Nat) (n : Nat) : List Nat := (List.range n).map F

theorem M.sq_len (F : Nat → Nat) (n : Nat) : (M.sq F n).length = n := by simp [M.sq]
theorem M.sq_getD (F : Nat → Nat) (n i : Nat) (h : i < n) : (M.sq F n).getD i 0 = F i := by simp [M.sq, h]
theorem M.cu_sq (F : Nat → Nat) (n i : Nat) (h : i < n) : cu (M.sq F n) i = .int .u64 ((F i : Nat) : Int) := by
  unfold cu; rw [M.sq_getD F n i h]
theorem M.sq_mem {F : Nat → Nat} {n x : Nat} (h : x ∈ M.sq F n) : ∃ i, i < n ∧ F i = x := by
  simpa [M.sq] using h
theorem M.sq_take_succ (F : Nat → Nat) (n k : Nat) (h : k < n) : (M.sq F n).take (k + 1) = (M.sq F n).take k ++ [F k] := by
  rw [take_snoc _ k 0 (by rw [M.sq_len]; exact h), M.sq_getD F n k h]
theorem M.sq_self (l : List Nat) : M.sq (fun i => l.getD i 0) l.length = l := by
  apply List.ext_getElem
  · simp [M.sq]
  · intro i h1 h2
    simp [M.sq, h2]
theorem M.sq_congr {F G : Nat → Nat} {n : Nat} (h : ∀ i, i < n → F i = G i) : M.sq F n = M.sq G n := by
  unfold M.sq
  apply List.map_congr_left
  intro i hi
  exact h i (by simpa using hi)

theorem M.pw_succ (m x k : Nat) : M.pw m x (k + 1) = M.pw m x k * x % m := by
  unfold M.pw; rw [Nat.pow_succ, Nat.mod_mul_mod]

theorem SC.pw (x k : Nat) : SC (M.pw 1073741789 x k) := ⟨M.pw_lt (by omega) _ _⟩
theorem EL.pw (x k : Nat) : EL (M.pw 2147483579 x k) := ⟨M.pw_lt (by omega) _ _⟩

set_option maxHeartbeats 400000 in
theorem powers_any (x n : Nat) (w : World) (hx : SC x) (hn : n ≤ 65536) :
    Calls Tryz.prog 124 #[.int .u64 x, .int .i64 n] w fun e w' => Below w.heap.size w w' ∧
      ∃ g, e = .returned (.slice (some ⟨g, 0, none⟩) n n) ∧ RdF w' (some ⟨g, 0, none⟩) n (cu (M.sq (fun i => M.pw 1073741789 x i) n)) := by
  obtain ⟨i0, hi, hz0, hz1, hz2⟩ := info_parts Tryz.info52
  have hle : n ≤ maxLen := by unfold maxLen; omega
  go_enter Tryz.func124, Tryz.ntmps124
  go_wp2_with (at_make; refine wpList_make_full _ rfl _ _ 114 rfl w.heap.size 52 i0 (.int .u64 0) 1 Tryz.underlying114 hi hz0 hz1 .i64 .i64 _ _ n rfl rfl (by omega) (by omega) (by rw [hz2]; omega) (by assumption) (Nat.le_refl _) ?_; intro w1 hown hgrow)
  have F : Fill w1 w.heap.size 52 w.heap.size n 0 (cu (M.sq (fun i => M.pw 1073741789 x i) n)) := Fill.start hown
  have bel := below_made hgrow
  clear hown hgrow hi hz0 hz1 hz2 hle
  go_loopw [6, 11] (fun p i wr => ∃ k S : Nat, k ≤ n ∧ i = .int .i64 k ∧ p = .int .u64 S ∧ SC S ∧ Hid (S = M.pw 1073741789 x k) ∧ Below w.heap.size w wr ∧ Fill wr w.heap.size 52 w.heap.size n k (cu (M.sq (fun i => M.pw 1073741789 x i) n))) (fun _ i _ => n - (intOf i).toNat)
  case atStart => exact ⟨0, 1, Nat.zero_le _, rfl, rfl, ⟨by omega⟩, (M.pw_zero (by omega) x).symm, bel, F⟩
  case round =>
    clear F bel
    obtain ⟨k, S, hk, rfl, rfl, hS, HS, bel, F⟩ := hrel
    by_cases hlt : k < n
    · have hfz := F.frozen k
      obtain ⟨v, hv⟩ := F.there hlt
      go_wp2_with (go_at_call 87; refine (times_any _ _ _ (by assumption) (by assumption)).mono ?_; rintro e w' ⟨rfl, rfl⟩)
      go_roundw
      case rel =>
        refine ⟨k + 1, S * x % 1073741789, by omega, by go_num, rfl, SC.mod _, ?_, ?_, ?_⟩
        · rw [HS.out]; exact (M.pw_succ _ _ _).symm
        · exact bel.setCell (Nat.le_refl _) _
        · exact F.store hlt (by rw [M.cu_sq _ _ _ hlt, HS.out])
      case measure => simp [intOf]; omega
    · go_wp2_with fail
      go_ret
      have hkn : k = n := by omega
      subst hkn
      exact ⟨bel, _, rfl, F.rd⟩

theorem M.sumQ_lt (l : List Nat) : SC (M.sumQ l) := by
  rcases l.eq_nil_or_concat with rfl | ⟨l', x, rfl⟩
  · exact ⟨by decide⟩
  · rw [List.concat_eq_append, M.sumQ_snoc]; exact SC.mod _

/-- The terms of a polynomial at x. -/
def M.term (c : Nat → Nat) (x i : Nat) : Nat := c i * M.pw 1073741789 x i % 1073741789
def M.poly (c : Nat → Nat) (n x : Nat) : Nat := M.sumQ (M.sq (M.term c x) n)

end Go.Proofs.YteoioldbigomaaaGreat
namespace Go.Proofs.YteoioldbigomaaaGreat
open Go.RowKit

theorem Fill.drew {w : World} {B e g n k : Nat} {f : Nat → Value} (h : Fill w B e g n k f) : Fill w.drew B e g n k f := by
  obtain ⟨xs, h1, h2⟩ := h
  exact ⟨xs, h1.drew, h2⟩

set_option maxHeartbeats 1000000 in
theorem pairE_any (a b : Option Addr) (c d n : Nat) (f g : Nat → Nat) (w : World) (hlen : n ≤ 65536) (hf : ∀ i, i < n → EL (f i)) (hg : ∀ i, i < n → SC (g i))
    (hr : RdF w a n (cu (M.sq f n))) (hs : RdF w b n (cu (M.sq g n))) :
    Calls Tryz.prog 125 #[.func (.func 70) #[] #[], .slice a n c, .slice b n d] w fun e w' => Below w.heap.size w w' ∧
      ∃ r, e = .returned (.slice (some ⟨r, 0, none⟩) n n) ∧ RdF w' (some ⟨r, 0, none⟩) n (cu (M.sq (fun i => M.pw 2147483579 (f i) (g i)) n)) := by
  have HF : Hid (∀ i, i < n → EL (f i)) := hf
  have HG : Hid (∀ i, i < n → SC (g i)) := hg
  clear hf hg
  obtain ⟨i0, hi, hz0, hz1, hz2⟩ := info_parts Tryz.info47
  have hle : n ≤ maxLen := by unfold maxLen; omega
  go_enter Tryz.func125, Tryz.ntmps125
  go_wp2_with (at_make; refine wpList_make_full _ rfl _ _ 45 rfl w.heap.size 47 i0 (.int .u64 0) 1 Tryz.underlying45 hi hz0 hz1 .i64 .i64 _ _ n rfl rfl (by omega) (by omega) (by rw [hz2]; omega) (by assumption) (Nat.le_refl _) ?_; intro w1 hown hgrow)
  have F : Fill w1 w.heap.size 47 w.heap.size n 0 (cu (M.sq (fun i => M.pw 2147483579 (f i) (g i)) n)) := Fill.start hown
  have bel := below_made hgrow
  clear hown hgrow hi hz0 hz1 hz2 hle
  go_loopw [17] (fun i wr => ∃ k : Nat, k ≤ n ∧ i = .int .i64 k ∧ Below w.heap.size w wr ∧ Fill wr w.heap.size 47 w.heap.size n k (cu (M.sq (fun i => M.pw 2147483579 (f i) (g i)) n))) (fun i _ => n - (intOf i).toNat)
  case atStart => exact ⟨0, Nat.zero_le _, rfl, bel, F⟩
  case round =>
    clear F bel
    obtain ⟨k, hk, rfl, bel, F⟩ := hrel
    by_cases hlt : k < n
    · obtain ⟨b1, o1, rfl, hb1, hc1⟩ := hr.at (by omega)
      obtain ⟨b2, o2, rfl, hb2, hc2⟩ := hs.at (by omega)
      obtain ⟨x, hx⟩ : ∃ x, x = f k := ⟨_, rfl⟩
      obtain ⟨y, hy⟩ : ∃ y, y = g k := ⟨_, rfl⟩
      have hcx : wr.cell? ⟨b1, o1 + k, none⟩ = some (.int .u64 (x : Int)) := by rw [bel.cell (by exact hb1), hc1 k hlt, M.cu_sq _ _ _ hlt, hx]
      have hcy : wr.cell? ⟨b2, o2 + k, none⟩ = some (.int .u64 (y : Int)) := by rw [bel.cell (by exact hb2), hc2 k hlt, M.cu_sq _ _ _ hlt, hy]
      have HX : Hid (x = f k) := hx
      have HY : Hid (y = g k) := hy
      have hsx : EL x := by rw [hx]; exact HF.out k hlt
      have hsy : SC y := by rw [hy]; exact HG.out k hlt
      have hsy' : y ≤ 1073741789 := Nat.le_of_lt hsy.out
      have hfz := F.frozen k
      obtain ⟨v, hv⟩ := F.there hlt
      have hki : (k : Int) < n := by omega
      clear hx hy hc1 hr hc2 hs HF HG
      go_wp2_with fail
      go_region_with (go_at_call 70; refine (power_any _ _ _ hsx hsy').mono ?_; rintro e w' ⟨rfl, rfl⟩)
      all_goals
        go_wp2_with fail
        go_roundw
        case rel =>
          refine ⟨k + 1, by omega, by go_num, ?_, ?_⟩
          · exact (bel.setCell (p := ⟨w.heap.size, k, none⟩) (Nat.le_refl _) _).drew
          · exact (F.store hlt (by rw [M.cu_sq _ _ _ hlt, HX.out, HY.out])).drew
        case measure => simp [intOf]; omega
    · go_wp2_with fail
      go_ret
      have hkn : k = n := by omega
      subst hkn
      exact ⟨bel, _, rfl, F.rd⟩
end Go.Proofs.YteoioldbigomaaaGreat
namespace Go.Proofs.YteoioldbigomaaaGreat
open Go.RowKit

/-- The contracts on lists, of numbers that are said by a function. -/
theorem togetherS (a : Option Addr) (c n : Nat) (f : Nat → Nat) (w : World) (hlen : n ≤ 65536) (hl : ∀ i, i < n → SC (f i)) (hr : RdF w a n (cu (M.sq f n))) :
    Calls Tryz.prog 49 #[.func (.func 50) #[] #[], .int .u64 0, .slice a n c] w fun e w' => e = .returned (.int .u64 (M.sumQ (M.sq f n) : Nat)) ∧ w' = w := by
  have h := together_plus a c (M.sq f n) w
  rw [M.sq_len] at h
  exact h hlen (fun x hx => by obtain ⟨i, hi, rfl⟩ := M.sq_mem hx; exact hl i hi) hr

theorem togetherT (a : Option Addr) (c n : Nat) (f : Nat → Nat) (w : World) (hlen : n ≤ 65536) (hl : ∀ i, i < n → SC (f i)) (hr : RdF w a n (cu (M.sq f n))) :
    Calls Tryz.prog 49 #[.func (.func 87) #[] #[], .int .u64 1, .slice a n c] w fun e w' => e = .returned (.int .u64 (M.prodQ (M.sq f n) : Nat)) ∧ w' = w := by
  have h := together_times a c (M.sq f n) w
  rw [M.sq_len] at h
  exact h hlen (fun x hx => by obtain ⟨i, hi, rfl⟩ := M.sq_mem hx; exact hl i hi) hr

theorem togetherE (a : Option Addr) (c n : Nat) (f : Nat → Nat) (w : World) (hlen : n ≤ 65536) (hl : ∀ i, i < n → EL (f i)) (hr : RdF w a n (cu (M.sq f n))) :
    Calls Tryz.prog 40 #[.func (.func 41) #[] #[], .int .u64 1, .slice a n c] w fun e w' => e = .returned (.int .u64 (M.prodP (M.sq f n) : Nat)) ∧ w' = w := by
  have h := together_etimes a c (M.sq f n) w
  rw [M.sq_len] at h
  exact h hlen (fun x hx => by obtain ⟨i, hi, rfl⟩ := M.sq_mem hx; exact hl i hi) hr

end Go.Proofs.YteoioldbigomaaaGreat
namespace Go.Proofs.YteoioldbigomaaaGreat
open Go.RowKit

/-- The numbers that a group may have. -/
structure Fits (t n c : Int) : Prop where
  h2 : 2 ≤ t
  hn : t ≤ n
  h9 : n ≤ 9
  hc : c = t

theorem fit_yes (t n c : Int) (w : World) (h : Fits t n c) :
    Calls Tryz.prog 33 #[.int .i64 t, .int .i64 n, .int .i64 c] w fun e w' => e = .returned (.bool true) ∧ w' = w := by
  obtain ⟨h1, h2, h3, h4⟩ := h
  subst h4
  go_enter Tryz.func33, Tryz.ntmps33
  go_wp2
  go_ret
  exact ⟨by simp, rfl⟩

set_option maxHeartbeats 400000 in
theorem fit_no (t n c : Int) (w : World) (h : ¬ Fits t n c) :
    Calls Tryz.prog 33 #[.int .i64 t, .int .i64 n, .int .i64 c] w fun e w' => e = .returned (.bool false) ∧ w' = w := by
  have H : Hid (¬ Fits t n c) := h
  clear h
  by_cases h1 : 2 ≤ t
  · by_cases h2 : t ≤ n
    · by_cases h3 : n ≤ 9
      · have h4 : (c == t) = false := by
          simp; intro e; exact H.out ⟨h1, h2, h3, e⟩
        go_enter Tryz.func33, Tryz.ntmps33
        go_wp2
        go_ret
        exact ⟨by simp, rfl⟩
      · go_enter Tryz.func33, Tryz.ntmps33
        go_wp2
        go_ret
        exact ⟨by simp, rfl⟩
    · go_enter Tryz.func33, Tryz.ntmps33
      go_wp2
      go_ret
      exact ⟨by simp, rfl⟩
  · go_enter Tryz.func33, Tryz.ntmps33
    go_wp2
    go_ret
    exact ⟨by simp, rfl⟩
end Go.Proofs.YteoioldbigomaaaGreat
namespace Go.Proofs.YteoioldbigomaaaGreat
open Go.RowKit

theorem allS_yes (a : Option Addr) (c n : Nat) (f : Nat → Nat) (w : World) (hlen : n ≤ 65536) (hr : RdF w a n (cu (M.sq f n))) (hl : ∀ i, i < n → SC (f i)) :
    Calls Tryz.prog 100 #[.func (.func 85) #[] #[], .slice a n c] w fun e w' => Below w.heap.size w w' ∧
      ∃ g, e = .returned (.tuple #[.slice (some ⟨g, 0, none⟩) n n, .bool true]) ∧ RdF w' (some ⟨g, 0, none⟩) n (cu (M.sq f n)) := by
  have h := all_core a c (M.sq f n) w
  rw [M.sq_len] at h
  refine (h hlen hr).mono fun e w' h => ⟨h.1, ?_⟩
  rcases h.2 with h | h
  · exact h.2
  · exact absurd (fun x hx => by obtain ⟨i, hi, rfl⟩ := M.sq_mem hx; exact hl i hi) h.1

theorem allS_no (a : Option Addr) (c n : Nat) (f : Nat → Nat) (w : World) (hlen : n ≤ 65536) (hr : RdF w a n (cu (M.sq f n))) (hl : ¬ ∀ i, i < n → SC (f i)) :
    Calls Tryz.prog 100 #[.func (.func 85) #[] #[], .slice a n c] w fun e w' => Below w.heap.size w w' ∧ e = .returned (.tuple #[.slice none 0 0, .bool false]) := by
  have h := all_core a c (M.sq f n) w
  rw [M.sq_len] at h
  refine (h hlen hr).mono fun e w' h => ⟨h.1, ?_⟩
  rcases h.2 with h | h
  · exact absurd (fun i hi => h.1 (f i) (by unfold M.sq; exact List.mem_map.2 ⟨i, by simpa using hi, rfl⟩)) hl
  · exact h.2

theorem three {w : World} {b : Nat} {x0 x1 x2 : Value} {t : TypeId} (h : w.heap[b]? = some (.cells #[x0, x1, x2] t (0, 0))) :
    w.cell? ⟨b, 0, none⟩ = some x0 ∧ w.cell? ⟨b, 1, none⟩ = some x1 ∧ w.cell? ⟨b, 2, none⟩ = some x2 ∧ w.frozen? ⟨b, 0, none⟩ = false ∧ w.frozen? ⟨b, 1, none⟩ = false ∧ w.frozen? ⟨b, 2, none⟩ = false := by
  simp [World.cell?, World.frozen?, h]

/-- The zero group. -/
abbrev zg : Obj := .cells #[.int .i64 0, .int .i64 0, .slice none 0 0] 24

theorem zg_new (w : World) : (w.alloc zg).heap[w.heap.size]? = some (.cells #[.int .i64 0, .int .i64 0, .slice none 0 0] 24 (0, 0)) := heap_alloc_new w zg
theorem below_alloc (w : World) (o : Obj) : Below w.heap.size w (w.alloc o) := (Below.refl _ _).alloc (Nat.le_refl _) _
theorem size_alloc (w : World) (o : Obj) : (w.alloc o).heap.size = w.heap.size + 1 := by
  show (w.heap.push o).size = _
  simp

theorem below3 {B b : Nat} {w w2 : World} (h : Below B w w2) (hb : B ≤ b) (x0 x1 x2 : Value) :
    Below B w (((w2.setCell ⟨b, 0, none⟩ x0).setCell ⟨b, 1, none⟩ x1).setCell ⟨b, 2, none⟩ x2) :=
  ((h.setCell hb _).setCell hb _).setCell hb _

theorem RdF.setCell {w : World} {a : Option Addr} {n : Nat} {f : Nat → Value} (h : RdF w a n f) {p : Addr} (hp : ∀ x, a = some x → x.block ≠ p.block) (u : Value) : RdF (w.setCell p u) a n f := by
  rcases h with h | ⟨b, o, rfl, hlt, hc⟩
  · exact .inl h
  · refine .inr ⟨b, o, rfl, Nat.lt_of_lt_of_le hlt ((Below.refl 0 w).setCell (Nat.zero_le _) u).size, fun i hi => ?_⟩
    rw [World.cell?_of_block (Below.heap_setCell w p u b (hp _ rfl))]
    exact hc i hi

theorem rd3 {w : World} {g b n : Nat} {f : Nat → Value} (h : RdF w (some ⟨g, 0, none⟩) n f) (hne : g ≠ b) (x0 x1 x2 : Value) :
    RdF (((w.setCell ⟨b, 0, none⟩ x0).setCell ⟨b, 1, none⟩ x1).setCell ⟨b, 2, none⟩ x2) (some ⟨g, 0, none⟩) n f := by
  have hp : ∀ o x, (some ⟨g, 0, none⟩ : Option Addr) = some x → x.block ≠ (⟨b, o, none⟩ : Addr).block := by
    intro o x hx; simp only [Option.some.injEq] at hx; subst hx; exact hne
  exact ((h.setCell (hp 0) _).setCell (hp 1) _).setCell (hp 2) _

theorem rd_first {w : World} {g n v : Nat} {f : Nat → Nat} (h : RdF w (some ⟨g, 0, none⟩) n (cu (M.sq f n))) (hn : 0 < n) (hv : f 0 = v) : w.cell? ⟨g, 0, none⟩ = some (.int .u64 (v : Int)) := by
  obtain ⟨b, o, e, _, hc⟩ := h.at hn
  simp only [Option.some.injEq, Addr.mk.injEq] at e
  obtain ⟨rfl, rfl, _⟩ := e
  have := hc 0 hn
  rw [M.cu_sq _ _ _ hn, hv] at this
  exact this

end Go.Proofs.YteoioldbigomaaaGreat
namespace Go.Proofs.YteoioldbigomaaaGreat
open Go.RowKit

/-- What is dealt: the commitments, the shares. -/
abbrev M.coms (f : Nat → Nat) (i : Nat) : Nat := M.pw 2147483579 4 (f i)
abbrev M.shs (f : Nat → Nat) (T i : Nat) : Nat := M.poly f T (i + 1)

end Go.Proofs.YteoioldbigomaaaGreat
namespace Go.Proofs.YteoioldbigomaaaGreat
open Go.RowKit

/-- F 0 .. F (k - 1) as cells. -/
def vs (F : Nat → Nat) (k : Nat) : List Value := (List.range k).map fun i => .int .u64 ((F i : Nat) : Int)

theorem vs_succ (F : Nat → Nat) (k : Nat) : vs F (k + 1) = vs F k ++ [.int .u64 ((F k : Nat) : Int)] := by
  simp [vs, List.range_succ]

/-- A []uint64 of the call's own that has grown to F 0 .. F (k - 1). -/
def Grow (w : World) (B : Nat) (v : Value) (k : Nat) (F : Nat → Nat) : Prop := w.ownsRow B 26 1 v k (vs F k)

theorem Grow.nil (w : World) (B : Nat) (F : Nat → Nat) : Grow w B (.slice none 0 0) 0 F := World.ownsRow_nil _ _ _ _

theorem Grow.below {w w' : World} {B k : Nat} {v : Value} {F : Nat → Nat} (h : Grow w B v k F) (hb : Below w.heap.size w w') : Grow w' B v k F := ownsRow_below h hb

theorem Grow.rd {w : World} {B k : Nat} {v : Value} {F : Nat → Nat} (h : Grow w B v k F) :
    ∃ a cap, v = .slice a k cap ∧ RdF w a k (cu (M.sq F k)) ∧ (∀ x, a = some x → B ≤ x.block) := by
  rcases h.2 with ⟨rfl, rfl⟩ | ⟨g, cap, cur, rfl, hB, hg, hn, hm, hs, ht⟩
  · exact ⟨none, 0, rfl, .inl rfl, fun x hx => by cases hx⟩
  · refine ⟨_, cap, rfl, .inr ⟨g, 0, rfl, lt_of_block hg, fun i hi => ?_⟩, fun x hx => by simp only [Option.some.injEq] at hx; subst hx; exact hB⟩
    rw [Nat.zero_add]
    have := World.ownsRow.cells h (g := g) rfl i (.int .u64 ((F i : Nat) : Int)) (by simp [vs, hi])
    rw [M.cu_sq _ _ _ hi, ← this]
    congr 1
    unfold Addr.add
    split
    · subst_vars; rfl
    · simp

theorem grown_below {w w' : World} {B k : Nat} {v : Value} {F : Nat → Nat} (h : Grow w B v k F) (hg : w.grownBy w' v.ownBlock) (hB : B ≤ w.heap.size) : Below B w w' :=
  (Below.refl _ _).grown hg hB fun k hk => (World.ownsRow.lt h k hk).1

theorem one_new {w : World} {s : Nat} {u : Value} (hc : w.cell? ⟨s, 0, none⟩ = some u) : ∀ (j : Nat) (x : Value), [u][j]? = some x → w.cell? ((⟨s, 0, none⟩ : Addr).add j) = some x := by
  intro j x hj
  match j, hj with
  | 0, hj => simp at hj; subst hj; simpa [Addr.add] using hc

/-- 'x = append(x, u)', x a []uint64 of the call's own, as a step of a region that draws. -/
theorem step_append1 {ops : Array Oper} {o : Oper} {a : Act} {w : World} {K : Act → World → Prop} {Q : Exit → Act → World → Prop} {E : Prop}
    (hg : o.guard = none) (s x : Operand) (hop : o.op = Op.call { callee := Callee.builtin Builtin.append, args := #[s, x], argTypes := #[22, 22] })
    (B k : Nat) (v : Value) (F : Nat → Nat) (hs : a.eval s = v) (hgrow : Grow w B v k F) (b : Nat) (hx : a.eval x = .slice (some ⟨b, 0, none⟩) 1 1)
    (hc : w.cell? ⟨b, 0, none⟩ = some (.int .u64 ((F k : Nat) : Int))) (hk : k ≤ 65536) (hB : B ≤ w.heap.size)
    (hK : ∀ v' w', Grow w' B v' (k + 1) F → Below B w w' → K (a.put o.dst v') w') :
    if Region.wanted o (yielded ops a.tmps) = true then Oper.wp Tryz.prog o a w K Q else E := by
  have hw : Region.wanted o (yielded ops a.tmps) = true := by simp [Region.wanted, hg]
  rw [if_pos hw]
  obtain ⟨i0, hi, hz0, hz1, hz2⟩ := info_parts Tryz.info26
  obtain ⟨v', w', hrun, r1, r2, _⟩ := run_append_own (P := Tryz.prog) w B 22 o.type 26 i0 (.int .u64 0) 1 8 Tryz.underlying22 hi hz0 hz1 hz2 rfl (by decide) v k (vs F k) hgrow ⟨b, 0, none⟩ 1 1 [.int .u64 ((F k : Nat) : Int)] rfl (one_new hc)
    (by intro u hu; simp at hu; subst hu; rfl) (by unfold maxLen; omega) (by omega) hB
  unfold Oper.wp
  simp [execOp, hop, resolve, invoke, builtin, hs, hx, hrun, Result.andThen]
  refine hK v' w' ?_ (grown_below hgrow r2 hB)
  unfold Grow
  rw [vs_succ]
  exact r1

/-- The same in a region that keeps its order. -/
theorem wpList_append1 (w : World) {ops : Array Oper} {rest : List Oper} {o : Oper} {a : Act} {Q : Exit → Act → World → Prop}
    (hg : o.guard = none) (s x : Operand) (hop : o.op = Op.call { callee := Callee.builtin Builtin.append, args := #[s, x], argTypes := #[22, 22] })
    (B k : Nat) (v : Value) (F : Nat → Nat) (hs : a.eval s = v) (hgrow : Grow w B v k F) (b : Nat) (hx : a.eval x = .slice (some ⟨b, 0, none⟩) 1 1)
    (hc : w.cell? ⟨b, 0, none⟩ = some (.int .u64 ((F k : Nat) : Int))) (hk : k ≤ 65536) (hB : B ≤ w.heap.size)
    (hK : ∀ v' w', Grow w' B v' (k + 1) F → Below B w w' → wpList Tryz.prog ops Q rest (a.put o.dst v') w') :
    wpList Tryz.prog ops Q (o :: rest) a w := by
  obtain ⟨i0, hi, hz0, hz1, hz2⟩ := info_parts Tryz.info26
  refine wpList_append_own w hg s x 22 hop B 26 i0 (.int .u64 0) 1 8 Tryz.underlying22 hi hz0 hz1 hz2 rfl (by decide) v k (vs F k) hs hgrow ⟨b, 0, none⟩ 1 1 [.int .u64 ((F k : Nat) : Int)] hx rfl (one_new hc)
    (by intro u hu; simp at hu; subst hu; rfl) (by unfold maxLen; omega) (by omega) hB ?_
  intro v' w' r1 r2 _
  refine hK v' w' ?_ (grown_below hgrow r2 hB)
  unfold Grow
  rw [vs_succ]
  exact r1
end Go.Proofs.YteoioldbigomaaaGreat
namespace Go.Proofs.YteoioldbigomaaaGreat
open Go.RowKit

theorem three_set2 {w : World} {b : Nat} {x0 x1 x2 : Value} {t : TypeId} (h : w.heap[b]? = some (.cells #[x0, x1, x2] t (0, 0))) (u : Value) :
    (w.setCell ⟨b, 2, none⟩ u).heap[b]? = some (.cells #[x0, x1, u] t (0, 0)) := by
  have hlt := lt_of_block h
  show (w.heap.modify b _)[b]? = _
  rw [Array.getElem?_modify]
  simp [h]

theorem sc_step {f : Nat → Nat} {k x : Nat} (h : ∀ i, i < k → SC (f i)) (hx : x = f k) (hs : SC x) : ∀ i, i < k + 1 → SC (f i) := by
  intro i hi
  rcases Nat.lt_or_eq_of_le (Nat.le_of_lt_succ hi) with hl | rfl
  · exact h i hl
  · rw [← hx]; exact hs

end Go.Proofs.YteoioldbigomaaaGreat
namespace Go.Proofs.YteoioldbigomaaaGreat
open Go.RowKit

end Go.Proofs.YteoioldbigomaaaGreat
namespace Go.Proofs.YteoioldbigomaaaGreat
open Go.RowKit

/-- What Deal answers: a group of t, n and the m1 commitments F1; the m2 shares F2; the error er. -/
def Dealt (t n er : Int) (m1 m2 : Nat) (F1 F2 : Nat → Nat) (e : Ending) (w' : World) : Prop :=
  ∃ a1 c1 a2 c2, e = .returned (.tuple #[.agg #[.int .i64 t, .int .i64 n, .slice a1 m1 c1], .slice a2 m2 c2, .int .i64 er]) ∧
    RdF w' a1 m1 (cu (M.sq F1 m1)) ∧ RdF w' a2 m2 (cu (M.sq F2 m2))

theorem dealt_err {er : Int} {e : Ending} {w' : World} (h : e = .returned (.tuple #[.agg #[.int .i64 0, .int .i64 0, .slice none 0 0], .slice none 0 0, .int .i64 er])) (F1 F2 : Nat → Nat) :
    Dealt 0 0 er 0 0 F1 F2 e w' := ⟨none, 0, none, 0, h, .inl rfl, .inl rfl⟩

theorem addr_add (b off j : Nat) : (⟨b, off, none⟩ : Addr).add j = ⟨b, off + j, none⟩ := by
  unfold Addr.add
  split
  · subst_vars; rfl
  · rfl

/-- 'append([]uint64(nil), x...)', x whatever []uint64. -/
theorem wpList_append_nil (w : World) {ops : Array Oper} {rest : List Oper} {o : Oper} {a : Act} {Q : Exit → Act → World → Prop}
    (hg : o.guard = none) (s x : Operand) (hop : o.op = Op.call { callee := Callee.builtin Builtin.append, args := #[s, x], argTypes := #[22, 22] })
    (n c : Nat) (ad : Option Addr) (F : Nat → Nat) (hs : a.eval s = .slice none 0 0) (hx : a.eval x = .slice ad n c) (hz : ad = none → n = 0 ∧ c = 0) (hr : RdF w ad n (cu (M.sq F n))) (hn : n ≤ 65536)
    (hK : ∀ a' c' w', RdF w' a' n (cu (M.sq F n)) → Below w.heap.size w w' → wpList Tryz.prog ops Q rest (a.put o.dst (.slice a' n c')) w') :
    wpList Tryz.prog ops Q (o :: rest) a w := by
  obtain ⟨i0, hi, hz0, hz1, hz2⟩ := info_parts Tryz.info26
  cases ad with
  | none =>
    obtain ⟨rfl, rfl⟩ := hz rfl
    exact wpList_append_own_none hg s x 22 hop w.heap.size 26 i0 1 Tryz.underlying22 hi (.slice none 0 0) 0 [] hs (World.ownsRow_nil _ _ _ _) hx (hK none 0 w (.inl rfl) (Below.refl _ _))
  | some y =>
    refine wpList_append_own w hg s x 22 hop w.heap.size 26 i0 (.int .u64 0) 1 8 Tryz.underlying22 hi hz0 hz1 hz2 rfl (by decide) (.slice none 0 0) 0 [] hs (World.ownsRow_nil _ _ _ _) y n c (vs F n) hx (by simp [vs]) ?_
      (by intro u hu; simp only [vs, List.mem_map] at hu; obtain ⟨_, _, rfl⟩ := hu; rfl) (by unfold maxLen; omega) (by omega) (Nat.le_refl _) ?_
    · intro j u hj
      have hj' : j < n := by
        have := (List.getElem?_eq_some_iff.1 hj).1
        simpa [vs] using this
      obtain ⟨b, off, e, _, hc⟩ := hr.at (by omega)
      simp only [Option.some.injEq] at e
      subst e
      have h1 := hc j hj'
      rw [M.cu_sq _ _ _ hj'] at h1
      have h2 : u = .int .u64 ((F j : Nat) : Int) := by
        simp [vs, hj'] at hj; exact hj.symm
      rw [h2, addr_add]
      exact h1
    · intro v' w' r1 r2 _
      have G : Grow w' w.heap.size v' n F := by
        unfold Grow
        simpa using r1
      obtain ⟨a', c', rfl, rd, _⟩ := G.rd
      exact hK a' c' w' rd ((Below.refl _ _).grown r2 (Nat.le_refl _) (fun k hk => by simp [Value.ownBlock] at hk))
end Go.Proofs.YteoioldbigomaaaGreat
