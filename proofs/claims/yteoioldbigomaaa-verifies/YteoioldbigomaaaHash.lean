import Derived.Test.YteoioldbigomaaaWt
import Derived.Lib.AppendStr
namespace Go.Proofs.Yteoioldbigomaaa
open Go.RowKit

theorem Try.info5 : (Try.prog.info? 5).map (fun i => (i.zero, i.size, i.bytes)) = some (some (.int .u8 0), 1, 1) := by kernel_rfl

/-- A []byte of the call's own that holds the list l. -/
def GrowB (w : World) (B : Nat) (v : Value) (l : List Nat) : Prop := w.ownsRow B 5 1 v l.length (l.map fun x => .int .u8 ((x : Nat) : Int))

theorem GrowB.below {w w' : World} {B : Nat} {v : Value} {l : List Nat} (h : GrowB w B v l) (hb : Below w.heap.size w w') : GrowB w' B v l := ownsRow_below h hb

/-- The i-th of a list of numbers, as a cell of a []byte. -/
def cb (l : List Nat) (i : Nat) : Value := .int .u8 ((l.getD i 0 : Nat) : Int)

theorem GrowB.rd {w : World} {B : Nat} {v : Value} {l : List Nat} (h : GrowB w B v l) : ∃ a cap, v = .slice a l.length cap ∧ RdF w a l.length (cb l) := by
  rcases h.2 with ⟨hv, hl⟩ | ⟨g, cap, cur, hv, hB, hg, hn, hm, hs, ht⟩
  · exact ⟨none, 0, by rw [hv, hl], .inl hl⟩
  · subst hv
    refine ⟨_, cap, rfl, .inr ⟨g, 0, rfl, lt_of_block hg, fun i hi => ?_⟩⟩
    rw [Nat.zero_add]
    have := World.ownsRow.cells h (g := g) rfl i (.int .u8 ((l[i] : Nat) : Int)) (by simp [hi])
    rw [addr_add0] at this
    rw [this]
    simp [cb, hi]

theorem wpList_appendB (w : World) {ops : Array Oper} {rest : List Oper} {o : Oper} {a : Act} {Q : Exit → Act → World → Prop}
    (hg : o.guard = none) (s x : Operand) (hop : o.op = Op.call { callee := Callee.builtin Builtin.append, args := #[s, x], argTypes := #[77, 77] })
    (B : Nat) (v : Value) (l : List Nat) (u : Nat) (hs : a.eval s = v) (hgrow : GrowB w B v l) (b : Nat) (hx : a.eval x = .slice (some ⟨b, 0, none⟩) 1 1)
    (hc : w.cell? ⟨b, 0, none⟩ = some (.int .u8 ((u : Nat) : Int))) (hk : l.length ≤ 1048576) (hB : B ≤ w.heap.size)
    (hK : ∀ v' w', GrowB w' B v' (l ++ [u]) → Below B w w' → wpList Try.prog ops Q rest (a.put o.dst v') w') :
    wpList Try.prog ops Q (o :: rest) a w := by
  obtain ⟨i0, hi, hz0, hz1, hz2⟩ := info_parts Try.info5
  refine wpList_append_own w hg s x 77 hop B 5 i0 (.int .u8 0) 1 1 Try.underlying77 hi hz0 hz1 hz2 rfl (by decide) v l.length _ hs hgrow ⟨b, 0, none⟩ 1 1 [.int .u8 ((u : Nat) : Int)] hx rfl (one_new hc)
    (by intro u hu; simp at hu; subst hu; rfl) (by unfold maxLen; omega) (by omega) hB ?_
  intro v' w' r1 r2 _
  refine hK v' w' ?_ ((Below.refl _ _).grown r2 hB fun k hk => (World.ownsRow.lt hgrow k hk).1)
  unfold GrowB
  simpa using r1

/-- A text's bytes. -/
def tx (s : ByteArray) : List Nat := s.data.toList.map fun b => b.toNat

theorem wpList_appendS (w : World) {ops : Array Oper} {rest : List Oper} {o : Oper} {a : Act} {Q : Exit → Act → World → Prop}
    (hg : o.guard = none) (sl x : Operand) (hop : o.op = Op.call { callee := Callee.builtin Builtin.append, args := #[sl, x], argTypes := #[77, 9] })
    (B : Nat) (v : Value) (l : List Nat) (s : ByteArray) (hs : a.eval sl = v) (hgrow : GrowB w B v l) (hx : a.eval x = .string s) (hk : l.length ≤ 1048576) (hk2 : s.size ≤ 65536) (hB : B ≤ w.heap.size)
    (hK : ∀ a' q c' w', Hid (q = (l ++ tx s).length) → RdF w' a' q (cb (l ++ tx s)) → Below B w w' → wpList Try.prog ops Q rest (a.put o.dst (.slice a' q c')) w') :
    wpList Try.prog ops Q (o :: rest) a w := by
  obtain ⟨i0, hi, hz0, hz1, hz2⟩ := info_parts Try.info5
  refine Lib.wpList_append_own_string w hg sl x _ _ hop B _ i0 Try.underlying77 Try.underlying9 hi hz0 hz1 hz2 v l.length _ hs hgrow s hx (by unfold maxLen; omega) (by omega) hB ?_
  intro v' w' r1 r2 _
  suffices G : GrowB w' B v' (l ++ tx s) by
    obtain ⟨a', c', rfl, rd⟩ := G.rd
    exact hK a' _ c' w' rfl rd ((Below.refl _ _).grown r2 hB fun k hk => (World.ownsRow.lt hgrow k hk).1)
  unfold GrowB
  have e : (l ++ tx s).length = l.length + s.size := by rw [List.length_append]; simp only [tx, List.length_map, Array.length_toList]; rfl
  rw [e, List.map_append]
  have e2 : (tx s).map (fun x => Value.int .u8 ((x : Nat) : Int)) = Lib.strCells s := by simp [tx, Lib.strCells]
  rw [e2]
  exact r1

/-- The lowest k bytes of a number, the lowest first. -/
def M.by8 (n k : Nat) : List Nat := (List.range k).map fun j => n / 2 ^ (8 * j) % 256
theorem M.by8_succ (n k : Nat) : M.by8 n (k + 1) = M.by8 n k ++ [n / 2 ^ (8 * k) % 256] := by simp [M.by8, List.range_succ]
theorem M.by8_len (n k : Nat) : (M.by8 n k).length = k := by simp [M.by8]
/-- The bytes of the first m numbers. -/
def M.nb (f : Nat → Nat) : Nat → List Nat
  | 0 => []
  | m + 1 => M.nb f m ++ M.by8 (f m) 8
theorem M.nb_len (f : Nat → Nat) (m : Nat) : (M.nb f m).length = 8 * m := by
  induction m with
  | zero => rfl
  | succ m ih => rw [M.nb, List.length_append, ih, M.by8_len]; omega

/-- The hash's inner number: each byte is laid over it, then it is multiplied. -/
def M.fnvStep (h : Int) (c : Nat) : Int := IntKind.u64.wrap (bits BinOp.xor IntKind.u64 h (IntKind.u64.wrap (c : Int)) * 1099511628211)
def M.fnv (l : List Nat) : Int := l.foldl M.fnvStep 14695981039346656037
/-- The hash of a tag, n numbers and a text. -/
def M.hash (tag : Nat) (f : Nat → Nat) (n : Nat) (s : ByteArray) : Nat := (M.fnv ([tag] ++ M.nb f n ++ tx s) % 1073741789).toNat
theorem M.hash_sc (tag : Nat) (f : Nat → Nat) (n : Nat) (s : ByteArray) : SC (M.hash tag f n s) := ⟨by unfold M.hash; omega⟩
theorem M.fnv_snoc (l : List Nat) (c : Nat) : M.fnv (l ++ [c]) = M.fnvStep (M.fnv l) c := by simp [M.fnv]

set_option maxHeartbeats 1000000 in
set_option maxRecDepth 100000 in
theorem hash_any (tag : Nat) (a : Option Addr) (c n : Nat) (f : Nat → Nat) (s : ByteArray) (w : World) (_ht : tag ≤ 255) (hn : n ≤ 65536) (hs : s.size ≤ 65536) (hr : RdF w a n (cu (M.sq f n))) :
    Calls Try.prog 67 #[.int .u8 tag, .slice a n c, .string s] w fun e w' => e = .returned (.int .u64 (M.hash tag f n s : Nat)) ∧ Below w.heap.size w w' := by
  go_enter Try.func67, Try.ntmps67
  go_wp2_with fail
  have G0 : GrowB (w.alloc (.cells #[.int .u8 (tag : Int)] 5)) w.heap.size (.slice (some ⟨w.heap.size, 0, none⟩) 1 1) [tag] :=
    World.ownsRow_lit w #[.int .u8 (tag : Int)] 1 (Nat.le_refl _) (by unfold maxLen; omega) rfl
  go_loopw [7, 18] (fun v i wr => ∃ k : Nat, k ≤ n ∧ i = .int .i64 k ∧ Below w.heap.size w wr ∧ GrowB wr w.heap.size v ([tag] ++ M.nb f k)) (fun _ i _ => n - (intOf i).toNat)
  case atStart => exact ⟨0, Nat.zero_le _, rfl, below_alloc _ _, G0⟩
  case round =>
    clear G0
    obtain ⟨k, hk, rfl, bel, G⟩ := hrel
    obtain ⟨av, cv, rfl, _⟩ := G.rd
    by_cases hlt : k < n
    · obtain ⟨b, o, rfl, hb, hc⟩ := hr.at (by omega)
      obtain ⟨x, hx⟩ : ∃ x, x = f k := ⟨_, rfl⟩
      have hcx : wr.cell? ⟨b, o + k, none⟩ = some (.int .u64 (x : Int)) := by rw [bel.cell (by exact hb), hc k hlt, M.cu_sq _ _ _ hlt, hx]
      have HX : Hid (x = f k) := hx
      clear hx hc hr
      go_wp2_with fail
      obtain ⟨wa, hwa⟩ : ∃ wa, wa = wr := ⟨_, rfl⟩
      subst hwa
      have hln := M.nb_len f k
      go_loopw [7, 10] (fun v i wr => ∃ j : Nat, j ≤ 8 ∧ i = .int .i64 j ∧ Below w.heap.size w wr ∧ GrowB wr w.heap.size v ([tag] ++ M.nb f k ++ M.by8 x j)) (fun _ i _ => 8 - (intOf i).toNat)
      case atStart => exact ⟨0, by omega, rfl, bel, by simpa [M.by8] using G⟩
      case round =>
        clear G bel hcx
        obtain ⟨j, hj, rfl, bel, G⟩ := hrel
        have hlj := M.by8_len x j
        obtain ⟨av2, cv2, rfl, _⟩ := G.rd
        by_cases hlt8 : j < 8
        · have hl6 : ([tag] ++ M.nb f k ++ M.by8 x j).length ≤ 1048576 := by simp only [List.length_append, hln, hlj, List.length_cons, List.length_nil]; omega
          obtain ⟨u, hu⟩ : ∃ u, u = x / 2 ^ (8 * j) % 256 := ⟨_, rfl⟩
          obtain ⟨L, hL⟩ : ∃ L, L = [tag] ++ M.nb f k ++ M.by8 x j := ⟨_, rfl⟩
          rw [← hL] at G hl6 ⊢
          have HL : Hid (L = [tag] ++ M.nb f k ++ M.by8 x j) := hL
          have HU : Hid (u = x / 2 ^ (8 * j) % 256) := hu
          have hji : (j : Int) < 8 := by omega
          clear hL hu hlj hln
          go_wp2_with (at_builtin; refine wpList_appendB _ rfl (.tmp 26) (.tmp 32) rfl w.heap.size _ L u rfl (G.below (below_alloc _ _)) _ rfl (by rw [HU.out]; simp) hl6 (Nat.le_trans bel.size (below_alloc _ _).size) ?_; intro v' w' G' bel')
          obtain ⟨av3, cv3, rfl, _⟩ := G'.rd
          go_wp2_with fail
          go_roundw
          case rel =>
            refine ⟨j + 1, by omega, by go_num, (bel.alloc bel.size _).trans bel', ?_⟩
            rw [M.by8_succ, ← List.append_assoc, ← HL.out, ← HU.out]; exact G'
          case measure => simp [intOf]; omega
        · have hj8 : j = 8 := by omega
          subst hj8
          go_wp2_with fail
          go_roundw
          case rel =>
            refine ⟨k + 1, by omega, by go_num, bel, ?_⟩
            rw [M.nb, ← HX.out, ← List.append_assoc]; exact G
          case measure => simp [intOf]; omega
    · have hkn : n = k := by omega
      subst hkn
      have hln := M.nb_len f n
      have hll : ([tag] ++ M.nb f n).length ≤ 1048576 := by simp only [List.length_append, hln, List.length_cons, List.length_nil]; omega
      obtain ⟨L, hL⟩ : ∃ L, L = [tag] ++ M.nb f n := ⟨_, rfl⟩
      rw [← hL] at G hll ⊢
      have HL : Hid (L = [tag] ++ M.nb f n) := hL
      have Hll : Hid (L.length ≤ 1048576) := hll
      have Hss : Hid (s.size ≤ 65536) := hs
      clear hr hL hln hll hs
      go_wp2_with (at_builtin; refine wpList_appendS _ rfl (.tmp 35) (.tmp 36) rfl w.heap.size _ L s rfl G rfl Hll.out Hss.out bel.size ?_; intro av4 q cv4 w' HQ rdM bel')
      have belF : Below w.heap.size w w' := bel.trans bel'
      clear G bel bel'
      obtain ⟨K, hK⟩ : ∃ K, K = L ++ tx s := ⟨_, rfl⟩
      rw [← hK] at HQ rdM
      have HK : Hid (K = L ++ tx s) := hK
      have hq2 : q ≤ 2097152 := by rw [HQ.out, hK, List.length_append]; simp only [tx, List.length_map, Array.length_toList]; have h1 := Hll.out; have h2 := Hss.out; have : s.data.size = s.size := rfl; omega
      clear hK Hll
      go_loopw [11, 40] (fun h i wr => ∃ (k : Nat) (z : Int), k ≤ q ∧ i = .int .i64 k ∧ h = .int .u64 z ∧ wr = w' ∧ 0 ≤ z ∧ Hid (z = M.fnv (K.take k))) (fun _ i _ => q - (intOf i).toNat)
      case atStart => exact ⟨0, _, Nat.zero_le _, rfl, rfl, rfl, by omega, rfl⟩
      case round =>
        obtain ⟨k, z, hk, rfl, rfl, rfl, hz0, HZ⟩ := hrel
        by_cases hlt : k < q
        · obtain ⟨b, o, rfl, hb, hc⟩ := rdM.at (by omega)
          obtain ⟨x, hx⟩ : ∃ x, x = K.getD k 0 := ⟨_, rfl⟩
          have hcx : wr.cell? ⟨b, o + k, none⟩ = some (.int .u8 (x : Int)) := by rw [hc k hlt, hx]; rfl
          have HX : Hid (x = K.getD k 0) := hx
          clear hx hc rdM
          go_wp2_with fail
          go_roundw
          case rel =>
            refine ⟨k + 1, M.fnvStep z x, by omega, by go_num, rfl, trivial, ?_, ?_⟩
            · unfold M.fnvStep; rw [IntKind.wrap_u64]; omega
            · rw [take_snoc K k 0 (by rw [← HQ.out]; exact hlt), M.fnv_snoc, ← HX.out, ← HZ.out]; rfl
          case measure => simp [intOf]; omega
        · go_wp2_with fail
          go_ret
          refine ⟨ret_int ?_, belF⟩
          unfold M.hash
          rw [← HL.out, ← HK.out, HZ.out, List.take_of_length_le (by rw [← HQ.out]; omega)]
          omega
end Go.Proofs.Yteoioldbigomaaa
