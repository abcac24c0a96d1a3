import Derived.Test.YteoioldbigomaabSeq
import Derived.Deep.RegionLaw
import Derived.Deep.QuietTactic
import Derived.BigQuiet
import Derived.Laws.AppendOwnNone
namespace Go.Proofs.Yteoioldbigomaab
open Go.RowKit

theorem allS_yes (a : Option Addr) (c n : Nat) (f : Nat → Nat) (w : World) (hlen : n ≤ 65536) (hr : RdF w a n (cu (M.sq f n))) (hl : ∀ i, i < n → SC (f i)) :
    Calls Try.prog 26 #[.func (.func 19) #[] #[], .slice a n c] w fun e w' => Below w.heap.size w w' ∧
      ∃ g, e = .returned (.tuple #[.slice (some ⟨g, 0, none⟩) n n, .bool true]) ∧ RdF w' (some ⟨g, 0, none⟩) n (cu (M.sq f n)) := by
  have h := all_core a c (M.sq f n) w
  rw [M.sq_len] at h
  refine (h hlen hr).mono fun e w' h => ⟨h.1, ?_⟩
  rcases h.2 with h | h
  · exact h.2
  · exact absurd (fun x hx => by obtain ⟨i, hi, rfl⟩ := M.sq_mem hx; exact hl i hi) h.1

theorem allS_no (a : Option Addr) (c n : Nat) (f : Nat → Nat) (w : World) (hlen : n ≤ 65536) (hr : RdF w a n (cu (M.sq f n))) (hl : ¬ ∀ i, i < n → SC (f i)) :
    Calls Try.prog 26 #[.func (.func 19) #[] #[], .slice a n c] w fun e w' => Below w.heap.size w w' ∧ e = .returned (.tuple #[.slice none 0 0, .bool false]) := by
  have h := all_core a c (M.sq f n) w
  rw [M.sq_len] at h
  refine (h hlen hr).mono fun e w' h => ⟨h.1, ?_⟩
  rcases h.2 with h | h
  · exact absurd (fun i hi => h.1 (f i) (by unfold M.sq; exact List.mem_map.2 ⟨i, by simpa using hi, rfl⟩)) hl
  · exact h.2

theorem three {w : World} {b : Nat} {x0 x1 x2 : Value} {t : TypeId} (h : w.heap[b]? = some (.cells #[x0, x1, x2] t (0, 0))) :
    w.cell? ⟨b, 0, none⟩ = some x0 ∧ w.cell? ⟨b, 1, none⟩ = some x1 ∧ w.cell? ⟨b, 2, none⟩ = some x2 ∧ w.frozen? ⟨b, 0, none⟩ = false ∧ w.frozen? ⟨b, 1, none⟩ = false ∧ w.frozen? ⟨b, 2, none⟩ = false := by
  simp [World.cell?, World.frozen?, h]

/-- The zero group. -/
abbrev zg : Obj := .cells #[.int .i64 0, .int .i64 0, .slice none 0 0] 25

theorem zg_new (w : World) : (w.alloc zg).heap[w.heap.size]? = some (.cells #[.int .i64 0, .int .i64 0, .slice none 0 0] 25 (0, 0)) := heap_alloc_new w zg
theorem below_alloc (w : World) (o : Obj) : Below w.heap.size w (w.alloc o) := (Below.refl _ _).alloc (Nat.le_refl _) _
theorem size_alloc (w : World) (o : Obj) : (w.alloc o).heap.size = w.heap.size + 1 := by
  show (w.heap.push o).size = _
  simp

theorem below3 {B b : Nat} {w w2 : World} (h : Below B w w2) (hb : B ≤ b) (x0 x1 x2 : Value) :
    Below B w (((w2.setCell ⟨b, 0, none⟩ x0).setCell ⟨b, 1, none⟩ x1).setCell ⟨b, 2, none⟩ x2) :=
  ((h.setCell hb _).setCell hb _).setCell hb _

theorem RdF.setCell {w : World} {a : Option Addr} {n : Nat} {f : Nat → Value} (h : RdF w a n f) {p : Addr} (hp : ∀ x, a = some x → x.block ≠ p.block) (u : Value) : RdF (w.setCell p u) a n f := by
  rcases h with h | ⟨b, o, rfl, hlt, hc⟩
  · exact .inl h
  · refine .inr ⟨b, o, rfl, Nat.lt_of_lt_of_le hlt ((Below.refl 0 w).setCell (Nat.zero_le _) u).size, fun i hi => ?_⟩
    rw [World.cell?_of_block (Below.heap_setCell w p u b (hp _ rfl))]
    exact hc i hi

theorem rd3 {w : World} {g b n : Nat} {f : Nat → Value} (h : RdF w (some ⟨g, 0, none⟩) n f) (hne : g ≠ b) (x0 x1 x2 : Value) :
    RdF (((w.setCell ⟨b, 0, none⟩ x0).setCell ⟨b, 1, none⟩ x1).setCell ⟨b, 2, none⟩ x2) (some ⟨g, 0, none⟩) n f := by
  have hp : ∀ o x, (some ⟨g, 0, none⟩ : Option Addr) = some x → x.block ≠ (⟨b, o, none⟩ : Addr).block := by
    intro o x hx; simp only [Option.some.injEq] at hx; subst hx; exact hne
  exact ((h.setCell (hp 0) _).setCell (hp 1) _).setCell (hp 2) _

theorem rd_first {w : World} {g n v : Nat} {f : Nat → Nat} (h : RdF w (some ⟨g, 0, none⟩) n (cu (M.sq f n))) (hn : 0 < n) (hv : f 0 = v) : w.cell? ⟨g, 0, none⟩ = some (.int .u64 (v : Int)) := by
  obtain ⟨b, o, e, _, hc⟩ := h.at hn
  simp only [Option.some.injEq, Addr.mk.injEq] at e
  obtain ⟨rfl, rfl, _⟩ := e
  have := hc 0 hn
  rw [M.cu_sq _ _ _ hn, hv] at this
  exact this

set_option maxHeartbeats 400000 in
theorem deal_count (t n : Int) (a : Option Addr) (len c : Nat) (w : World) (h : ¬ Fits t n len) :
    Calls Try.prog 15 #[.int .i64 t, .int .i64 n, .slice a len c] w fun e w' => Below w.heap.size w w' ∧
      e = .returned (.tuple #[.agg #[.int .i64 0, .int .i64 0, .slice none 0 0], .slice none 0 0, .int .i64 1]) := by
  go_enter Try.func15, Try.ntmps15
  go_wp2_with (go_at_call 41; refine (fit_no _ _ _ _ h).mono ?_; rintro e w' ⟨rfl, rfl⟩)
  exact bodyPost_ret (v := .tuple #[.agg #[.int .i64 0, .int .i64 0, .slice none 0 0], .slice none 0 0, .int .i64 1]) (by simp [results, Try.results15, go_sem]) rfl ⟨below_alloc _ _, rfl⟩

set_option maxHeartbeats 400000 in
theorem deal_scalar1 (t n : Int) (a : Option Addr) (T c : Nat) (f : Nat → Nat) (w : World) (h : Fits t n T) (hr : RdF w a T (cu (M.sq f T))) (hl : ¬ ∀ i, i < T → SC (f i)) :
    Calls Try.prog 15 #[.int .i64 t, .int .i64 n, .slice a T c] w fun e w' => Below w.heap.size w w' ∧
      e = .returned (.tuple #[.agg #[.int .i64 0, .int .i64 0, .slice none 0 0], .slice none 0 0, .int .i64 2]) := by
  have hT : T ≤ 65536 := by obtain ⟨h1, h2, h3, h4⟩ := h; omega
  have C := fun w' hr' => allS_no a c T f w' hT hr' hl
  have hr1 := hr.below (below_alloc w zg)
  have Z := zg_new w
  have zs := size_alloc w zg
  clear hl hr
  go_enter Try.func15, Try.ntmps15
  go_wp2_with (first | (go_at_call 41; refine (fit_yes _ _ _ _ h).mono ?_; rintro e w' ⟨rfl, rfl⟩) | (go_at_call 26; refine (C (w.alloc zg) hr1).mono ?_; rintro e w2 ⟨bel, rfl⟩; have Z2 := three ((bel.block w.heap.size (by omega)).trans Z); obtain ⟨z0, z1, z2, y0, y1, y2⟩ := Z2))
  refine bodyPost_ret (v := .tuple #[.agg #[.int .i64 0, .int .i64 0, .slice none 0 0], .slice none 0 0, .int .i64 2]) (by simp [results, Try.results15, go_sem, *]) rfl ⟨?_, rfl⟩
  exact below3 ((below_alloc w zg).trans (bel.mono (by omega))) (Nat.le_refl _) _ _ _

set_option maxHeartbeats 400000 in
theorem deal_scalar2 (t n : Int) (a : Option Addr) (T c : Nat) (f : Nat → Nat) (w : World) (h : Fits t n T) (hr : RdF w a T (cu (M.sq f T))) (hl : ∀ i, i < T → SC (f i)) (h0 : f 0 = 0) :
    Calls Try.prog 15 #[.int .i64 t, .int .i64 n, .slice a T c] w fun e w' => Below w.heap.size w w' ∧
      e = .returned (.tuple #[.agg #[.int .i64 0, .int .i64 0, .slice none 0 0], .slice none 0 0, .int .i64 2]) := by
  have hT : T ≤ 65536 := by obtain ⟨h1, h2, h3, h4⟩ := h; omega
  have hT0 : 0 < T := by obtain ⟨h1, h2, h3, h4⟩ := h; omega
  have C := fun w' hr' => allS_yes a c T f w' hT hr' hl
  have hr1 := hr.below (below_alloc w zg)
  have Z := zg_new w
  have zs := size_alloc w zg
  have H0 : Hid (f 0 = 0) := h0
  clear hl hr h0
  go_enter Try.func15, Try.ntmps15
  go_wp2_with (first | (go_at_call 41; refine (fit_yes _ _ _ _ h).mono ?_; rintro e w' ⟨rfl, rfl⟩) | (go_at_call 26; refine (C (w.alloc zg) hr1).mono ?_; rintro e w2 ⟨bel, g, rfl, rd⟩; obtain ⟨z0, z1, z2, y0, y1, y2⟩ := three ((bel.block w.heap.size (by omega)).trans Z); have hg0 : w2.cell? ⟨g, 0, none⟩ = some (.int .u64 0) := rd_first rd hT0 H0.out))
  refine bodyPost_ret (v := .tuple #[.agg #[.int .i64 0, .int .i64 0, .slice none 0 0], .slice none 0 0, .int .i64 2]) (by simp [results, Try.results15, go_sem, *]) rfl ⟨?_, rfl⟩
  exact below3 ((below_alloc w zg).trans (bel.mono (by omega))) (Nat.le_refl _) _ _ _
end Go.Proofs.Yteoioldbigomaab
namespace Go.Proofs.Yteoioldbigomaab
open Go.RowKit

/-- What is dealt: the commitments, the shares. -/
abbrev M.coms (f : Nat → Nat) (i : Nat) : Nat := M.pw 2147483579 4 (f i)
abbrev M.shs (f : Nat → Nat) (T i : Nat) : Nat := M.poly f T (i + 1)

set_option maxHeartbeats 1000000 in
theorem deal_ok (a : Option Addr) (T N c : Nat) (f : Nat → Nat) (w : World) (h2 : 2 ≤ T) (hTN : T ≤ N) (h9 : N ≤ 9) (hr : RdF w a T (cu (M.sq f T))) (hl : ∀ i, i < T → SC (f i)) (h0 : f 0 ≠ 0) :
    Calls Try.prog 15 #[.int .i64 T, .int .i64 N, .slice a T c] w fun e w' => Below w.heap.size w w' ∧
      ∃ g1 g2, e = .returned (.tuple #[.agg #[.int .i64 T, .int .i64 N, .slice (some ⟨g1, 0, none⟩) T T], .slice (some ⟨g2, 0, none⟩) N N, .int .i64 0]) ∧
        RdF w' (some ⟨g1, 0, none⟩) T (cu (M.sq (M.coms f) T)) ∧ RdF w' (some ⟨g2, 0, none⟩) N (cu (M.sq (M.shs f T) N)) := by
  have hT : T ≤ 65536 := by omega
  have hT0 : 0 < T := by omega
  have h : Fits (T : Int) (N : Int) (T : Int) := ⟨by omega, by omega, by omega, rfl⟩
  have C := fun w' hr' => allS_yes a c T f w' hT hr' hl
  have hr1 := hr.below (below_alloc w zg)
  have Z := zg_new w
  have zs := size_alloc w zg
  have HL : Hid (∀ i, i < T → SC (f i)) := hl
  have H0 : Hid (f 0 ≠ 0) := h0
  obtain ⟨i0, hi, hz0, hz1, hz2⟩ := info_parts Try.info79
  obtain ⟨i1, ji, jz0, jz1, jz2⟩ := info_parts Try.info51
  have hle : T ≤ maxLen := by unfold maxLen; omega
  have hle' : N ≤ maxLen := by unfold maxLen; omega
  have hne : (((f 0 : Nat) : Int) == 0) = false := by have := H0.out; simp; omega
  obtain ⟨x0, hx0⟩ : ∃ x0, x0 = f 0 := ⟨_, rfl⟩
  rw [← hx0] at hne
  have HX0 : Hid (f 0 = x0) := hx0.symm
  clear hl hr h0 hx0
  go_enter Try.func15, Try.ntmps15
  go_wp2_with (first | (go_at_call 41; refine (fit_yes _ _ _ _ h).mono ?_; rintro e w' ⟨rfl, rfl⟩) | (go_at_call 26; refine (C (w.alloc zg) hr1).mono ?_; rintro e w2 ⟨bel, g, rfl, rd⟩; have hg0 : w2.cell? ⟨g, 0, none⟩ = some (.int .u64 (x0 : Int)) := rd_first rd hT0 HX0.out) | (at_make; refine wpList_make_full _ rfl _ _ 87 rfl w2.heap.size 79 i0 (.int .u64 0) 1 Try.underlying87 hi hz0 hz1 .i64 .i64 _ _ T rfl rfl (by omega) (by omega) (by rw [hz2]; omega) (by assumption) (Nat.le_refl _) ?_; intro w3 hown hgrow))
  have Z2 := (bel.block w.heap.size (by omega)).trans Z
  have belw : Below w.heap.size w w2 := (below_alloc w zg).trans (bel.mono (by omega))
  have F : Fill w3 w2.heap.size 79 w2.heap.size T 0 (cu (M.sq (M.coms f) T)) := Fill.start hown
  have bel3 := below_made hgrow
  clear hown hgrow hi hz0 hz1 hz2 hle C hr1 Z zs hne HX0 H0 bel hg0
  go_loopw [41] (fun i wr => ∃ k : Nat, k ≤ T ∧ i = .int .i64 k ∧ Below w2.heap.size w2 wr ∧ Fill wr w2.heap.size 79 w2.heap.size T k (cu (M.sq (M.coms f) T))) (fun i _ => T - (intOf i).toNat)
  case atStart => exact ⟨0, Nat.zero_le _, rfl, bel3, F⟩
  case round =>
    clear F bel3
    obtain ⟨k, hk, rfl, bel3, F⟩ := hrel
    by_cases hlt : k < T
    · obtain ⟨b, o, eg, hb, hc⟩ := rd.at (by omega)
      simp only [Option.some.injEq, Addr.mk.injEq] at eg
      obtain ⟨rfl, rfl, _⟩ := eg
      obtain ⟨x, hx⟩ : ∃ x, x = f k := ⟨_, rfl⟩
      have hcx : wr.cell? ⟨g, k, none⟩ = some (.int .u64 (x : Int)) := by
        have := hc k hlt
        rw [Nat.zero_add] at this
        rw [bel3.cell (by exact hb), this, M.cu_sq _ _ _ hlt, hx]
      have HX : Hid (x = f k) := hx
      have hsx : SC x := by rw [hx]; exact HL.out k hlt
      have hfz := F.frozen k
      obtain ⟨v, hv⟩ := F.there hlt
      clear hx hc Z2 belw rd h ji jz0 jz1 jz2 HL
      go_wp2_with (go_at_call 28; refine (toThe_any _ _ hsx).mono ?_; rintro e w' ⟨rfl, rfl⟩)
      go_roundw
      case rel =>
        refine ⟨k + 1, by omega, by go_num, ?_, ?_⟩
        · exact bel3.setCell (Nat.le_refl _) _
        · exact F.store hlt (by rw [M.cu_sq _ _ _ hlt, HX.out])
      case measure => simp [intOf]; omega
    · have hkn : T = k := by omega
      subst hkn
      obtain ⟨wa, hwa⟩ : ∃ wa, wa = wr := ⟨_, rfl⟩
      subst hwa
      have rdC := F.rd
      have rdS := rd.below bel3
      have Z3 := (bel3.block w.heap.size (Nat.lt_of_lt_of_le (lt_of_block Z2) (Nat.le_refl _))).trans Z2
      have belw3 : Below w.heap.size w wa := belw.trans (bel3.mono belw.size)
      clear F bel3 rd Z2 belw h
      go_wp2_with (at_make; refine wpList_make_full _ rfl _ _ 55 rfl wa.heap.size 51 i1 (.int .u64 0) 1 Try.underlying55 ji jz0 jz1 .i64 .i64 _ _ N rfl rfl (by omega) (by omega) (by rw [jz2]; omega) (by assumption) (Nat.le_refl _) ?_; intro w4 hown hgrow)
      have F : Fill w4 wa.heap.size 51 wa.heap.size N 0 (cu (M.sq (M.shs f T) N)) := Fill.start hown
      have bel4 := below_made hgrow
      clear hown hgrow ji jz0 jz1 jz2 hle'
      go_loopw [55] (fun i wq => ∃ k : Nat, k ≤ N ∧ i = .int .i64 k ∧ Below wa.heap.size wa wq ∧ Fill wq wa.heap.size 51 wa.heap.size N k (cu (M.sq (M.shs f T) N))) (fun i _ => N - (intOf i).toNat)
      case atStart => exact ⟨0, Nat.zero_le _, rfl, bel4, F⟩
      case round =>
        clear F bel4
        obtain ⟨k, hk, rfl, bel4, F⟩ := hrel
        by_cases hlt : k < N
        · have rdS4 := rdS.below bel4
          have C := fun w' hr' => at_any (some ⟨g, 0, none⟩) T T (k + 1) f w' hT (by omega) HL.out hr'
          have e1 : (((k + 1 : Nat) : Int)) = (k : Int) + 1 := by omega
          rw [e1] at C
          clear e1 rdS rdC Z3 belw3
          go_wp2_with (go_at_call 42; refine (C _ rdS4).mono ?_; rintro e w5 ⟨bel5, rfl⟩; have F5 := F.below bel5; have hfz := F5.frozen k; obtain ⟨v, hv⟩ := F5.there hlt)
          go_roundw
          case rel =>
            refine ⟨k + 1, by omega, by go_num, ?_, ?_⟩
            · exact (bel4.trans (bel5.mono bel4.size)).setCell (p := ⟨wa.heap.size, k, none⟩) (Nat.le_refl _) _
            · exact F5.store hlt (by rw [M.cu_sq _ _ _ hlt])
          case measure => simp [intOf]; omega
        · have hkn : N = k := by omega
          subst hkn
          have rdH := F.rd
          have rdC4 := rdC.below bel4
          have Z4 := (bel4.block w.heap.size (lt_of_block Z3)).trans Z3
          have belw4 : Below w.heap.size w wr := belw3.trans (bel4.mono belw3.size)
          clear F bel4 rdC rdS Z3 belw3
          have hN : N ≤ 65536 := by omega
          go_wp2_with (first | (go_at_call 43; refine (plainE_any _ _ _ _ _ hT rdC4).mono ?_; rintro e w6 ⟨bel6, g6, hg6, rfl, rd6⟩) | (go_at_call 44; refine (plainS_any _ _ _ _ _ hN (rdH.below bel6)).mono ?_; rintro e w7 ⟨bel7, g7, hg7, rfl, rd7⟩; have Z6 := (bel6.block w.heap.size (lt_of_block Z4)).trans Z4; obtain ⟨z0, z1, z2, y0, y1, y2⟩ := three ((bel7.block w.heap.size (lt_of_block Z6)).trans Z6)))
          refine bodyPost_ret (v := .tuple #[.agg #[.int .i64 T, .int .i64 N, .slice (some ⟨g6, 0, none⟩) T T], .slice (some ⟨g7, 0, none⟩) N N, .int .i64 0]) (by simp [results, Try.results15, go_sem, *]) rfl ⟨?_, g6, g7, rfl, ?_, ?_⟩
          · exact below3 ((belw4.trans (bel6.mono belw4.size)).trans (bel7.mono (Nat.le_trans belw4.size bel6.size))) (Nat.le_refl _) _ _ _
          · exact rd3 (rd6.below bel7) (by have := lt_of_block Z4; omega) _ _ _
          · exact rd3 rd7 (by have := lt_of_block Z6; omega) _ _ _
end Go.Proofs.Yteoioldbigomaab
namespace Go.Proofs.Yteoioldbigomaab
open Go.RowKit

/-- F 0 .. F (k - 1) as cells. -/
def vs (F : Nat → Nat) (k : Nat) : List Value := (List.range k).map fun i => .int .u64 ((F i : Nat) : Int)

theorem vs_succ (F : Nat → Nat) (k : Nat) : vs F (k + 1) = vs F k ++ [.int .u64 ((F k : Nat) : Int)] := by
  simp [vs, List.range_succ]

/-- A []uint64 of the call's own that has grown to F 0 .. F (k - 1). -/
def Grow (w : World) (B : Nat) (v : Value) (k : Nat) (F : Nat → Nat) : Prop := w.ownsRow B 22 1 v k (vs F k)

theorem Grow.nil (w : World) (B : Nat) (F : Nat → Nat) : Grow w B (.slice none 0 0) 0 F := World.ownsRow_nil _ _ _ _

theorem Grow.below {w w' : World} {B k : Nat} {v : Value} {F : Nat → Nat} (h : Grow w B v k F) (hb : Below w.heap.size w w') : Grow w' B v k F := ownsRow_below h hb

theorem Grow.rd {w : World} {B k : Nat} {v : Value} {F : Nat → Nat} (h : Grow w B v k F) :
    ∃ a cap, v = .slice a k cap ∧ RdF w a k (cu (M.sq F k)) ∧ (∀ x, a = some x → B ≤ x.block) := by
  rcases h.2 with ⟨rfl, rfl⟩ | ⟨g, cap, cur, rfl, hB, hg, hn, hm, hs, ht⟩
  · exact ⟨none, 0, rfl, .inl rfl, fun x hx => by cases hx⟩
  · refine ⟨_, cap, rfl, .inr ⟨g, 0, rfl, lt_of_block hg, fun i hi => ?_⟩, fun x hx => by simp only [Option.some.injEq] at hx; subst hx; exact hB⟩
    rw [Nat.zero_add]
    have := World.ownsRow.cells h (g := g) rfl i (.int .u64 ((F i : Nat) : Int)) (by simp [vs, hi])
    rw [M.cu_sq _ _ _ hi, ← this]
    congr 1
    unfold Addr.add
    split
    · subst_vars; rfl
    · simp

theorem grown_below {w w' : World} {B k : Nat} {v : Value} {F : Nat → Nat} (h : Grow w B v k F) (hg : w.grownBy w' v.ownBlock) (hB : B ≤ w.heap.size) : Below B w w' :=
  (Below.refl _ _).grown hg hB fun k hk => (World.ownsRow.lt h k hk).1

theorem one_new {w : World} {s : Nat} {u : Value} (hc : w.cell? ⟨s, 0, none⟩ = some u) : ∀ (j : Nat) (x : Value), [u][j]? = some x → w.cell? ((⟨s, 0, none⟩ : Addr).add j) = some x := by
  intro j x hj
  match j, hj with
  | 0, hj => simp at hj; subst hj; simpa [Addr.add] using hc

/-- 'x = append(x, u)', x a []uint64 of the call's own, as a step of a region that draws. -/
theorem step_append1 {ops : Array Oper} {o : Oper} {a : Act} {w : World} {K : Act → World → Prop} {Q : Exit → Act → World → Prop} {E : Prop}
    (hg : o.guard = none) (s x : Operand) (hop : o.op = Op.call { callee := Callee.builtin Builtin.append, args := #[s, x], argTypes := #[23, 23] })
    (B k : Nat) (v : Value) (F : Nat → Nat) (hs : a.eval s = v) (hgrow : Grow w B v k F) (b : Nat) (hx : a.eval x = .slice (some ⟨b, 0, none⟩) 1 1)
    (hc : w.cell? ⟨b, 0, none⟩ = some (.int .u64 ((F k : Nat) : Int))) (hk : k ≤ 65536) (hB : B ≤ w.heap.size)
    (hK : ∀ v' w', Grow w' B v' (k + 1) F → Below B w w' → K (a.put o.dst v') w') :
    if Region.wanted o (yielded ops a.tmps) = true then Oper.wp Try.prog o a w K Q else E := by
  have hw : Region.wanted o (yielded ops a.tmps) = true := by simp [Region.wanted, hg]
  rw [if_pos hw]
  obtain ⟨i0, hi, hz0, hz1, hz2⟩ := info_parts Try.info22
  obtain ⟨v', w', hrun, r1, r2, _⟩ := run_append_own (P := Try.prog) w B 23 o.type 22 i0 (.int .u64 0) 1 8 Try.underlying23 hi hz0 hz1 hz2 rfl (by decide) v k (vs F k) hgrow ⟨b, 0, none⟩ 1 1 [.int .u64 ((F k : Nat) : Int)] rfl (one_new hc)
    (by intro u hu; simp at hu; subst hu; rfl) (by unfold maxLen; omega) (by omega) hB
  unfold Oper.wp
  simp [execOp, hop, resolve, invoke, builtin, hs, hx, hrun, Result.andThen]
  refine hK v' w' ?_ (grown_below hgrow r2 hB)
  unfold Grow
  rw [vs_succ]
  exact r1

/-- The same in a region that keeps its order. -/
theorem wpList_append1 (w : World) {ops : Array Oper} {rest : List Oper} {o : Oper} {a : Act} {Q : Exit → Act → World → Prop}
    (hg : o.guard = none) (s x : Operand) (hop : o.op = Op.call { callee := Callee.builtin Builtin.append, args := #[s, x], argTypes := #[23, 23] })
    (B k : Nat) (v : Value) (F : Nat → Nat) (hs : a.eval s = v) (hgrow : Grow w B v k F) (b : Nat) (hx : a.eval x = .slice (some ⟨b, 0, none⟩) 1 1)
    (hc : w.cell? ⟨b, 0, none⟩ = some (.int .u64 ((F k : Nat) : Int))) (hk : k ≤ 65536) (hB : B ≤ w.heap.size)
    (hK : ∀ v' w', Grow w' B v' (k + 1) F → Below B w w' → wpList Try.prog ops Q rest (a.put o.dst v') w') :
    wpList Try.prog ops Q (o :: rest) a w := by
  obtain ⟨i0, hi, hz0, hz1, hz2⟩ := info_parts Try.info22
  refine wpList_append_own w hg s x 23 hop B 22 i0 (.int .u64 0) 1 8 Try.underlying23 hi hz0 hz1 hz2 rfl (by decide) v k (vs F k) hs hgrow ⟨b, 0, none⟩ 1 1 [.int .u64 ((F k : Nat) : Int)] hx rfl (one_new hc)
    (by intro u hu; simp at hu; subst hu; rfl) (by unfold maxLen; omega) (by omega) hB ?_
  intro v' w' r1 r2 _
  refine hK v' w' ?_ (grown_below hgrow r2 hB)
  unfold Grow
  rw [vs_succ]
  exact r1
end Go.Proofs.Yteoioldbigomaab
namespace Go.Proofs.Yteoioldbigomaab
open Go.RowKit

theorem three_set2 {w : World} {b : Nat} {x0 x1 x2 : Value} {t : TypeId} (h : w.heap[b]? = some (.cells #[x0, x1, x2] t (0, 0))) (u : Value) :
    (w.setCell ⟨b, 2, none⟩ u).heap[b]? = some (.cells #[x0, x1, u] t (0, 0)) := by
  have hlt := lt_of_block h
  show (w.heap.modify b _)[b]? = _
  rw [Array.getElem?_modify]
  simp [h]

theorem sc_step {f : Nat → Nat} {k x : Nat} (h : ∀ i, i < k → SC (f i)) (hx : x = f k) (hs : SC x) : ∀ i, i < k + 1 → SC (f i) := by
  intro i hi
  rcases Nat.lt_or_eq_of_le (Nat.le_of_lt_succ hi) with hl | rfl
  · exact h i hl
  · rw [← hx]; exact hs

end Go.Proofs.Yteoioldbigomaab
namespace Go.Proofs.Yteoioldbigomaab
open Go.RowKit

end Go.Proofs.Yteoioldbigomaab
namespace Go.Proofs.Yteoioldbigomaab
open Go.RowKit

/-- What Deal answers: a group of t, n and the m1 commitments F1; the m2 shares F2; the error er. -/
def Dealt (t n er : Int) (m1 m2 : Nat) (F1 F2 : Nat → Nat) (e : Ending) (w' : World) : Prop :=
  ∃ a1 c1 a2 c2, e = .returned (.tuple #[.agg #[.int .i64 t, .int .i64 n, .slice a1 m1 c1], .slice a2 m2 c2, .int .i64 er]) ∧
    RdF w' a1 m1 (cu (M.sq F1 m1)) ∧ RdF w' a2 m2 (cu (M.sq F2 m2))

theorem dealt_err {er : Int} {e : Ending} {w' : World} (h : e = .returned (.tuple #[.agg #[.int .i64 0, .int .i64 0, .slice none 0 0], .slice none 0 0, .int .i64 er])) (F1 F2 : Nat → Nat) :
    Dealt 0 0 er 0 0 F1 F2 e w' := ⟨none, 0, none, 0, h, .inl rfl, .inl rfl⟩

theorem addr_add (b off j : Nat) : (⟨b, off, none⟩ : Addr).add j = ⟨b, off + j, none⟩ := by
  unfold Addr.add
  split
  · subst_vars; rfl
  · rfl

/-- 'append([]uint64(nil), x...)', x whatever []uint64. -/
theorem wpList_append_nil (w : World) {ops : Array Oper} {rest : List Oper} {o : Oper} {a : Act} {Q : Exit → Act → World → Prop}
    (hg : o.guard = none) (s x : Operand) (hop : o.op = Op.call { callee := Callee.builtin Builtin.append, args := #[s, x], argTypes := #[23, 23] })
    (n c : Nat) (ad : Option Addr) (F : Nat → Nat) (hs : a.eval s = .slice none 0 0) (hx : a.eval x = .slice ad n c) (hz : ad = none → n = 0 ∧ c = 0) (hr : RdF w ad n (cu (M.sq F n))) (hn : n ≤ 65536)
    (hK : ∀ a' c' w', RdF w' a' n (cu (M.sq F n)) → Below w.heap.size w w' → wpList Try.prog ops Q rest (a.put o.dst (.slice a' n c')) w') :
    wpList Try.prog ops Q (o :: rest) a w := by
  obtain ⟨i0, hi, hz0, hz1, hz2⟩ := info_parts Try.info22
  cases ad with
  | none =>
    obtain ⟨rfl, rfl⟩ := hz rfl
    exact wpList_append_own_none hg s x 23 hop w.heap.size 22 i0 1 Try.underlying23 hi (.slice none 0 0) 0 [] hs (World.ownsRow_nil _ _ _ _) hx (hK none 0 w (.inl rfl) (Below.refl _ _))
  | some y =>
    refine wpList_append_own w hg s x 23 hop w.heap.size 22 i0 (.int .u64 0) 1 8 Try.underlying23 hi hz0 hz1 hz2 rfl (by decide) (.slice none 0 0) 0 [] hs (World.ownsRow_nil _ _ _ _) y n c (vs F n) hx (by simp [vs]) ?_
      (by intro u hu; simp only [vs, List.mem_map] at hu; obtain ⟨_, _, rfl⟩ := hu; rfl) (by unfold maxLen; omega) (by omega) (Nat.le_refl _) ?_
    · intro j u hj
      have hj' : j < n := by
        have := (List.getElem?_eq_some_iff.1 hj).1
        simpa [vs] using this
      obtain ⟨b, off, e, _, hc⟩ := hr.at (by omega)
      simp only [Option.some.injEq] at e
      subst e
      have h1 := hc j hj'
      rw [M.cu_sq _ _ _ hj'] at h1
      have h2 : u = .int .u64 ((F j : Nat) : Int) := by
        simp [vs, hj'] at hj; exact hj.symm
      rw [h2, addr_add]
      exact h1
    · intro v' w' r1 r2 _
      have G : Grow w' w.heap.size v' n F := by
        unfold Grow
        simpa using r1
      obtain ⟨a', c', rfl, rd, _⟩ := G.rd
      exact hK a' c' w' rd ((Below.refl _ _).grown r2 (Nat.le_refl _) (fun k hk => by simp [Value.ownBlock] at hk))
end Go.Proofs.Yteoioldbigomaab
