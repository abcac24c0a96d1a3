import Derived.Test.YteoioldbigomaaaRnum
import Derived.Deep.CutRange
namespace Go.Proofs.Yteoioldbigomaaa
open Go.RowKit

set_option maxHeartbeats 400000 in
theorem runpack_len (s : ByteArray) (w : World) (h : ¬ (s.size % 9 = 0 ∧ s.size ≤ 81)) :
    Calls Try.prog 19 #[.string s] w fun e w' => e = .returned (.tuple #[.slice none 0 0, .int .i64 13]) ∧ w' = w := by
  by_cases h1 : s.size % 9 = 0
  · have e1 : ¬ (0 : Int) < (s.size : Int) % 9 := by omega
    have e2 : (81 : Int) < s.size := by omega
    clear h
    go_enter Try.func19, Try.ntmps19
    go_wp2_with fail
    go_ret2
    exact ⟨rfl, rfl⟩
  · have e1 : (0 : Int) < (s.size : Int) % 9 := by omega
    clear h
    go_enter Try.func19, Try.ntmps19
    go_wp2_with fail
    go_ret2
    exact ⟨rfl, rfl⟩

/-- The cells of the first k commitments, one behind the other. -/
def cl (I : Nat → Int) (D E : Nat → Nat) : Nat → List Value
  | 0 => []
  | k + 1 => cl I D E k ++ [.int .i64 (I k), .int .u64 (D k : Nat), .int .u64 (E k : Nat)]
theorem cl_len (I : Nat → Int) (D E : Nat → Nat) (k : Nat) : (cl I D E k).length = k * 3 := by
  induction k with
  | zero => rfl
  | succ k ih => rw [cl, List.length_append, ih]; simp; omega
theorem cl_at (I : Nat → Int) (D E : Nat → Nat) (k i : Nat) (h : i < k) : (cl I D E k)[i * 3]? = some (.int .i64 (I i)) ∧ (cl I D E k)[i * 3 + 1]? = some (.int .u64 (D i : Nat)) ∧ (cl I D E k)[i * 3 + 2]? = some (.int .u64 (E i : Nat)) := by
  induction k with
  | zero => omega
  | succ k ih =>
    have hl := cl_len I D E k
    rcases Nat.lt_or_eq_of_le (Nat.le_of_lt_succ h) with hlt | rfl
    · rw [cl, List.getElem?_append_left (by omega), List.getElem?_append_left (by omega), List.getElem?_append_left (by omega)]
      exact ih hlt
    · rw [cl, List.getElem?_append_right (by omega), List.getElem?_append_right (by omega), List.getElem?_append_right (by omega), hl]
      refine ⟨?_, ?_, ?_⟩
      · rw [Nat.sub_self]; rfl
      · rw [show i * 3 + 1 - i * 3 = 1 by omega]; rfl
      · rw [show i * 3 + 2 - i * 3 = 2 by omega]; rfl

/-- A []api.Commit of the call's own that has grown to these k. -/
def GrowC (w : World) (B : Nat) (v : Value) (k : Nat) (I : Nat → Int) (D E : Nat → Nat) : Prop := w.ownsRow B 79 3 v k (cl I D E k)

theorem GrowC.below {w w' : World} {B k : Nat} {v : Value} {I : Nat → Int} {D E : Nat → Nat} (h : GrowC w B v k I D E) (hb : Below w.heap.size w w') : GrowC w' B v k I D E := ownsRow_below h hb
theorem GrowC.rd {w : World} {B k : Nat} {v : Value} {I : Nat → Int} {D E : Nat → Nat} (h : GrowC w B v k I D E) : ∃ a cap, v = .slice a k cap ∧ RdC w a k I D E := by
  rcases h.2 with ⟨hv, hl⟩ | ⟨g, cap, cur, hv, hB, hg, hn, hm, hs, ht⟩
  · exact ⟨none, 0, by rw [hv, hl], .inl hl⟩
  · subst hv
    refine ⟨_, cap, rfl, .inr ⟨g, 0, rfl, lt_of_block hg, fun i hi => ?_⟩⟩
    obtain ⟨c0, c1, c2⟩ := cl_at I D E k i hi
    have d0 := World.ownsRow.cells h (g := g) rfl _ _ c0
    have d1 := World.ownsRow.cells h (g := g) rfl _ _ c1
    have d2 := World.ownsRow.cells h (g := g) rfl _ _ c2
    rw [addr_add0] at d0 d1 d2
    rw [Nat.zero_add]
    exact ⟨d0, d1, d2⟩

theorem wpList_appendC (w : World) {ops : Array Oper} {rest : List Oper} {o : Oper} {a : Act} {Q : Exit → Act → World → Prop}
    (hg : o.guard = none) (s x : Operand) (hop : o.op = Op.call { callee := Callee.builtin Builtin.append, args := #[s, x], argTypes := #[38, 38] })
    (B k : Nat) (v : Value) (I : Nat → Int) (D E : Nat → Nat) (hs : a.eval s = v) (hgrow : GrowC w B v k I D E) (b : Nat) (hx : a.eval x = .slice (some ⟨b, 0, none⟩) 1 1)
    (h0 : w.cell? ⟨b, 0, none⟩ = some (.int .i64 (I k))) (h1 : w.cell? ⟨b, 1, none⟩ = some (.int .u64 (D k : Nat))) (h2 : w.cell? ⟨b, 2, none⟩ = some (.int .u64 (E k : Nat))) (hk : k ≤ 65536) (hB : B ≤ w.heap.size)
    (hK : ∀ v' w', GrowC w' B v' (k + 1) I D E → Below B w w' → wpList Try.prog ops Q rest (a.put o.dst v') w') :
    wpList Try.prog ops Q (o :: rest) a w := by
  obtain ⟨i0, hi, hz0, hz1, hz2⟩ := info_parts Try.info79
  refine wpList_append_own w hg s x 38 hop B 79 i0 (.agg #[.int .i64 0, .int .u64 0, .int .u64 0]) 3 24 Try.underlying38 hi hz0 hz1 hz2 rfl (by decide) v k (cl I D E k) hs hgrow ⟨b, 0, none⟩ 1 1 [.int .i64 (I k), .int .u64 (D k : Nat), .int .u64 (E k : Nat)] hx rfl ?_ ?_
    (by unfold maxLen; omega) (by omega) hB ?_
  · intro j u hj
    match j, hj with
    | 0, hj => simp at hj; subst hj; rw [addr_add0]; exact h0
    | 1, hj => simp at hj; subst hj; rw [addr_add0]; exact h1
    | 2, hj => simp at hj; subst hj; rw [addr_add0]; exact h2
  · intro u hu
    simp at hu
    rcases hu with rfl | rfl | rfl <;> rfl
  · intro v' w' r1 r2 _
    exact hK v' w' r1 ((Below.refl _ _).grown r2 hB fun j hj => (World.ownsRow.lt hgrow j hj).1)

theorem not_empty (q : ByteArray) (h : 0 < q.size) : q.toList.isEmpty = false := by
  rw [ByteArray.toList_eq]
  rcases q with ⟨⟨l⟩⟩
  cases l with
  | nil => exact absurd h (Nat.lt_irrefl 0)
  | cons a l => rfl
theorem is_empty (q : ByteArray) (h : q.size = 0) : q.toList.isEmpty = true := by
  rw [ByteArray.toList_eq]
  rcases q with ⟨⟨l⟩⟩
  cases l with
  | nil => rfl
  | cons a l => cases h

theorem nonce_is (x : Nat) : ∃ b : Bool, Hid (b = true ↔ PRO x) ∧ ∀ w : World, Calls Try.prog 48 #[.int .u64 x] w fun e w' => e = .returned (.bool b) ∧ w' = w := by
  by_cases h : PRO x
  · refine ⟨true, ⟨fun _ => h, fun _ => rfl⟩, fun w => (nonce_any x w).mono fun e w' hh => ?_⟩
    rcases hh.2 with ⟨_, he⟩ | ⟨hn, _⟩
    · exact ⟨he, hh.1⟩
    · exact absurd h hn
  · refine ⟨false, ⟨fun hf => Bool.noConfusion hf, fun hp => absurd hp h⟩, fun w => (nonce_any x w).mono fun e w' hh => ?_⟩
    rcases hh.2 with ⟨hp, _⟩ | ⟨_, he⟩
    · exact absurd hp h
    · exact ⟨he, hh.1⟩

theorem at4_drop (L : List Nat) (a : Nat) : M.at4 (L.drop a) 0 = M.at4 L a := by
  unfold M.at4
  simp [List.getD, List.getElem?_drop]

set_option maxHeartbeats 2000000 in
set_option maxRecDepth 100000 in
theorem runpack_any (s : ByteArray) (n : Nat) (w : World) (hs : s.size = 9 * n) (hn : n ≤ 9) : Calls Try.prog 19 #[.string s] w (UnPost (tx s) n w) := by
  have e1 : ¬ (0 : Int) < (s.size : Int) % 9 := by omega
  have e2 : ¬ (81 : Int) < s.size := by omega
  obtain ⟨L, hL⟩ : ∃ L, L = tx s := ⟨_, rfl⟩
  have HL : Hid (L = tx s) := hL
  rw [← hL]
  clear hL
  go_enter Try.func19, Try.ntmps19
  go_wp2_with fail
  clear e1 e2
  go_loopw [0, 4] (fun t v wr => ∃ (k : Nat) (q : ByteArray), k ≤ n ∧ t = .string q ∧ Hid (tx q = L.drop (9 * k)) ∧ q.size = 9 * (n - k) ∧ Below w.heap.size w wr ∧ GrowC wr w.heap.size v k (fun i => (M.id9 L i : Nat)) (M.d9 L) (M.e9 L) ∧ Hid (∀ j, j < k → M.Fine L j)) (fun t _ _ => match t with | .string q => q.size | _ => 0)
  case atStart => exact ⟨0, s, Nat.zero_le _, rfl, HL.out.symm, by rw [hs]; rfl, Below.refl _ _, World.ownsRow_nil _ _ _ _, fun j hj => absurd hj (Nat.not_lt_zero j)⟩
  case round =>
    obtain ⟨k, q, hk, rfl, HQ, hq, bel, G, HF⟩ := hrel
    obtain ⟨av, cv, rfl, rd⟩ := G.rd
    clear hs
    by_cases hlt : k < n
    · have hne : q.toList.isEmpty = false := not_empty q (by omega)
      have n0 : 0 < q.size := by omega
      have C1 := fun w' => rnumber_any (q.extract 1 q.size) w' (by rw [ByteArray.size_extract]; omega)
      have C2 := fun w' => rnumber_any (q.extract 5 q.size) w' (by rw [ByteArray.size_extract]; omega)
      have T1 : tx (q.extract 1 q.size) = L.drop (9 * k + 1) := by rw [tx_cut, HQ.out, List.drop_drop, List.take_of_length_le (by rw [List.length_drop]; have h1 := tx_len q; rw [HQ.out, List.length_drop] at h1; omega)]
      have T2 : tx (q.extract 5 q.size) = L.drop (9 * k + 5) := by rw [tx_cut, HQ.out, List.drop_drop, List.take_of_length_le (by rw [List.length_drop]; have h1 := tx_len q; rw [HQ.out, List.length_drop] at h1; omega)]
      have T3 : tx (q.extract 9 q.size) = L.drop (9 * (k + 1)) := by rw [tx_cut, HQ.out, List.drop_drop, List.take_of_length_le (by rw [List.length_drop]; have h1 := tx_len q; rw [HQ.out, List.length_drop] at h1; omega)]; rfl
      rw [T1, at4_drop] at C1
      rw [T2, at4_drop] at C2
      have X0 : Hid (q[0].toNat = M.id9 L k) := by rw [← tx_at q 0 n0, HQ.out]; unfold M.id9; simp [List.getD, List.getElem?_drop]; exact trivial
      obtain ⟨x, hx⟩ : ∃ x, x = q[0].toNat := ⟨_, rfl⟩
      obtain ⟨d, hd⟩ : ∃ d, d = M.at4 L (9 * k + 1) := ⟨_, rfl⟩
      obtain ⟨e, he⟩ : ∃ e, e = M.at4 L (9 * k + 5) := ⟨_, rfl⟩
      have HX : Hid (x = M.id9 L k) := by rw [hx, X0.out]; exact rfl
      have HD : Hid (d = M.d9 L k) := hd
      have HE : Hid (e = M.e9 L k) := he
      rw [← hd] at C1
      rw [← he] at C2
      have h256 : x < 256 := by rw [hx]; exact q[0].toNat_lt
      have hwx : IntKind.i64.wrap ((q[0].toNat : Nat) : Int) = x := by rw [IntKind.wrap_i64, ← hx]; omega
      have b1 : (1 : Int) ≤ q.size := by omega
      have b5 : (5 : Int) ≤ q.size := by omega
      have b9 : (9 : Int) ≤ q.size := by omega
      have HS : Hid (q.size = 9 * (n - k)) := hq
      clear T1 T2 X0 hd he hx hq
      go_wp2_with fail
      go_cut [5] from 15 to 65 (fun s5 wx => s5 = .pointer (some ⟨wr.heap.size, 0, none⟩) ∧ wx = (wr.alloc (.cells #[.int .i64 (x : Int), .int .u64 (d : Int), .int .u64 (e : Int)] 79)).drew.drew.drew)
      case first =>
        go_region_held (fun w' => True) (trivial) (first
          | (go_at_call_of 47 (q.extract 1 q.size); refine (C1 _).mono ?_; rintro ex w2 ⟨rfl, hw⟩; subst hw)
          | (go_at_call_of 47 (q.extract 5 q.size); refine (C2 _).mono ?_; rintro ex w2 ⟨rfl, hw⟩; subst hw))
        all_goals
          go_wp2_with fail
          go_meet
          case rel => exact ⟨rfl, rfl⟩
      case rest =>
        clear C1 C2
        have G1 : GrowC (wr.alloc (.cells #[.int .i64 (x : Int), .int .u64 (d : Int), .int .u64 (e : Int)] 79)).drew.drew.drew w.heap.size (.slice av k cv) k (fun i => (M.id9 L i : Nat)) (M.d9 L) (M.e9 L) := G.below (below_alloc wr _).drew.drew.drew
        have rd1 : RdC (wr.alloc (.cells #[.int .i64 (x : Int), .int .u64 (d : Int), .int .u64 (e : Int)] 79)).drew.drew.drew av k (fun i => (M.id9 L i : Nat)) (M.d9 L) (M.e9 L) := rd.below (below_alloc wr _).drew.drew.drew
        have belB : Below w.heap.size w (wr.alloc (.cells #[.int .i64 (x : Int), .int .u64 (d : Int), .int .u64 (e : Int)] 79)).drew.drew.drew := bel.trans ((below_alloc wr _).drew.drew.drew.mono bel.size)
        have hz := heap_alloc_new wr (.cells #[.int .i64 (x : Int), .int .u64 (d : Int), .int .u64 (e : Int)] 79)
        obtain ⟨rfl, hwc⟩ := hcut
        rw [← hwc] at G1 rd1 belB
        have hzc : wc.heap[wr.heap.size]? = some (.cells #[.int .i64 (x : Int), .int .u64 (d : Int), .int .u64 (e : Int)] 79 (0, 0)) := by rw [hwc]; exact hz
        obtain ⟨c0, c1, c2⟩ := three_cells hzc
        clear hwc hz hzc G rd bel
        by_cases r1 : (x : Int) < 1
        · go_wp2_with fail
          go_ret2
          exact ⟨belB, 5, .inr ⟨k, hlt, HF.out, .inl (by rw [← HX.out]; unfold M.turn; rw [if_pos (.inl r1)]; exact ⟨by omega, rfl⟩)⟩, .inl ⟨by omega, rfl⟩⟩
        · by_cases r2 : (9 : Int) < x
          · go_wp2_with fail
            go_ret2
            exact ⟨belB, 5, .inr ⟨k, hlt, HF.out, .inl (by rw [← HX.out]; unfold M.turn; rw [if_pos (.inr r2)]; exact ⟨by omega, rfl⟩)⟩, .inl ⟨by omega, rfl⟩⟩
          · obtain ⟨V, hV⟩ : ∃ V, V = wc := ⟨_, rfl⟩
            subst hV
            have HAH : ∃ ah : Nat, ah = M.ah L k := ⟨_, rfl⟩
            obtain ⟨ah, hah⟩ := HAH
            have HA : Hid (ah = M.ah L k) := hah
            clear hah
            go_wp2_with fail
            go_cut [51] from 15 to 65 (fun s51 wx => s51 = .bool (decide ((x : Int) ≤ ah)) ∧ ∃ nq, wx = V.drewN nq)
            case first =>
              cases k with
              | zero =>
                have g0 : decide ((0 : Int) < ((0 : Nat) : Int)) = false := rfl
                have g1 : decide ((x : Int) ≤ ah) = false := decide_eq_false (by have : ah = 0 := HA.out; omega)
                go_quiet (fail)
                go_wp2_with fail
                go_meet
                case rel => exact ⟨by rw [g1], nq, rfl⟩
              | succ m =>
                obtain ⟨b, o, rfl, hb, hc⟩ := rd1.at (by omega)
                have hcm := (hc m (by omega)).1
                have HA' : Hid (ah = M.id9 L m) := HA.out
                go_quiet (fail)
                go_wp2_with fail
                go_meet
                case rel => exact ⟨by rw [HA'.out]; congr 1; simp, nq, rfl⟩
            case rest =>
              obtain ⟨rfl, nq, hwc⟩ := hcut
              have dB : Below V.heap.size V wc := by rw [hwc]; exact below_drewN (Below.refl _ _) _
              have G2 := G1.below dB
              have k0 := (dB.cell (World.block_lt_of_cell? V _ c0)).trans c0
              have k1 := (dB.cell (World.block_lt_of_cell? V _ c1)).trans c1
              have k2 := (dB.cell (World.block_lt_of_cell? V _ c2)).trans c2
              have belC : Below w.heap.size w wc := belB.trans (dB.mono belB.size)
              clear hwc dB G1 rd1 c0 c1 c2 belB
              by_cases ro : (x : Int) ≤ ah
              · have g1 : decide ((x : Int) ≤ ah) = true := decide_eq_true ro
                go_wp2_with fail
                go_ret2
                exact ⟨belC, 6, .inr ⟨k, hlt, HF.out, .inl (by rw [← HX.out, ← HA.out]; unfold M.turn; rw [if_neg (by omega), if_pos ro]; exact ⟨by omega, rfl⟩)⟩, .inl ⟨by omega, rfl⟩⟩
              · have g1 : decide ((x : Int) ≤ ah) = false := decide_eq_false ro
                have HT : Hid (M.turn (M.id9 L k) (M.ah L k) 9 = 0) := by rw [← HX.out, ← HA.out]; unfold M.turn; rw [if_neg (by omega), if_neg ro]; exact rfl
                obtain ⟨p1, H1, C1⟩ := nonce_is d
                obtain ⟨p2, H2, C2⟩ := nonce_is e
                cases p1 with
                | false =>
                  go_wp2_with (go_at_call 48; refine (C1 _).mono ?_; rintro ex w2 ⟨rfl, rfl⟩)
                  go_ret2
                  exact ⟨belC, 3, .inr ⟨k, hlt, HF.out, .inr ⟨HT.out, by rw [← HD.out, ← HE.out]; exact fun h => Bool.noConfusion (H1.out.2 h.1), rfl⟩⟩, .inl ⟨by omega, rfl⟩⟩
                | true =>
                  cases p2 with
                  | false =>
                    go_wp2_with fail
                    refine (C1 _).mono ?_
                    rintro ex w2 ⟨rfl, hw⟩
                    subst hw
                    go_wp2_with fail
                    refine (C2 _).mono ?_
                    rintro ex w3 ⟨rfl, hw⟩
                    subst hw
                    go_wp2_with fail
                    go_ret2
                    exact ⟨belC, 3, .inr ⟨k, hlt, HF.out, .inr ⟨HT.out, by rw [← HD.out, ← HE.out]; exact fun h => Bool.noConfusion (H2.out.2 h.2), rfl⟩⟩, .inl ⟨by omega, rfl⟩⟩
                  | true =>
                    go_wp2_with fail
                    refine (C1 _).mono ?_
                    rintro ex w2 ⟨rfl, hw⟩
                    subst hw
                    go_wp2_with fail
                    refine (C2 _).mono ?_
                    rintro ex w3 ⟨rfl, hw⟩
                    subst hw
                    clear C1 C2
                    go_wp2_with (at_builtin; refine wpList_appendC _ rfl (.tmp 62) (.tmp 64) rfl w.heap.size k _ _ _ _ rfl (G2.below (below_alloc _ _)) _ rfl (by rw [HX.out]; simp) (by rw [HD.out]; simp) (by rw [HE.out]; simp) (by omega) (Nat.le_trans belC.size (below_alloc _ _).size) ?_; intro v' w' G' bel')
                    refine ⟨⟨k + 1, q.extract 9 q.size, by omega, rfl, T3, by rw [ByteArray.size_extract, HS.out]; omega, (belC.alloc belC.size _).trans bel', G', ?_⟩, ?_⟩
                    · intro j hj
                      rcases Nat.lt_or_eq_of_le (Nat.le_of_lt_succ hj) with h | rfl
                      · exact HF.out j h
                      · exact ⟨HT.out, by rw [← HD.out]; exact H1.out.1 trivial, by rw [← HE.out]; exact H2.out.1 trivial⟩
                    · show (q.extract 9 q.size).size < q.size
                      rw [ByteArray.size_extract]
                      omega
    · have hkn : n = k := by omega
      subst hkn
      have hem : q.toList.isEmpty = true := is_empty q (by omega)
      clear hq
      go_wp2_with fail
      go_ret2
      exact ⟨bel, 0, .inl ⟨rfl, HF.out⟩, .inr ⟨rfl, _, _, rfl, rd⟩⟩
end Go.Proofs.Yteoioldbigomaaa
