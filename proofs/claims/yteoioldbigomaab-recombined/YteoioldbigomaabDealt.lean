import Derived.Test.YteoioldbigomaabKeep
namespace Go.Proofs.Yteoioldbigomaab
open Go.RowKit

theorem u64_wrap (x : Int) : IntKind.u64.wrap x = x % 18446744073709551616 := by
  simp [IntKind.wrap, IntKind.signed, IntKind.bits]

/-- What the k-th coefficient is made of. -/
def cz (seed k : Nat) : Int := IntKind.u64.wrap (IntKind.u64.wrap ((seed : Int) * (2 * (k : Int) + 1)) + IntKind.u64.wrap (wrap64 ((k : Int) * k)))
def cf (seed k : Nat) : Nat := 1 + (cz seed k).toNat % 1073741788

theorem cz_range (seed k : Nat) : 0 ≤ cz seed k ∧ cz seed k ≤ 18446744073709551615 := by
  unfold cz
  rw [u64_wrap]
  omega

theorem cf_zero (seed : Nat) (h : seed ≤ 18446744073709551615) : cf seed 0 = 1 + seed % 1073741788 := by
  unfold cf cz
  rw [u64_wrap, u64_wrap, u64_wrap]
  unfold wrap64
  congr 2
  simp
  omega

theorem cf_sc (seed k : Nat) : SC (cf seed k) := ⟨by unfold cf; omega⟩
theorem cf_ne (seed k : Nat) : cf seed k ≠ 0 := by unfold cf; omega

theorem scalar_cz (seed k : Nat) (w : World) :
    Calls Try.prog 7 #[.int .u64 (IntKind.u64.wrap (IntKind.u64.wrap ((seed : Int) * (2 * (k : Int) + 1)) + IntKind.u64.wrap (wrap64 ((k : Int) * k))))] w fun e w' => e = .returned (.int .u64 (cf seed k : Nat)) ∧ w' = w := by
  have h := cz_range seed k
  have hc := scalar_any (cz seed k).toNat w (by omega)
  rw [Int.toNat_of_nonneg h.1] at hc
  exact hc

theorem Try.info3d : (Try.prog.info? 3).map (fun i => (i.zero, i.size, i.bytes)) = some (some (.int .i64 0), 1, 8) := by kernel_rfl

/-- A []int of the call's own that holds the list l. -/
def GrowN (w : World) (B : Nat) (v : Value) (l : List Nat) : Prop := w.ownsRow B 3 1 v l.length (l.map fun x => .int .i64 ((x : Nat) : Int))

theorem GrowN.nil (w : World) (B : Nat) : GrowN w B (.slice none 0 0) [] := World.ownsRow_nil _ _ _ _
theorem GrowN.below {w w' : World} {B : Nat} {v : Value} {l : List Nat} (h : GrowN w B v l) (hb : Below w.heap.size w w') : GrowN w' B v l := ownsRow_below h hb

theorem GrowN.rd {w : World} {B : Nat} {v : Value} {l : List Nat} (h : GrowN w B v l) : ∃ a cap, v = .slice a l.length cap ∧ RdF w a l.length (ci fun i => l.getD i 0) ∧ (∀ x, a = some x → B ≤ x.block) := by
  rcases h.2 with ⟨hv, hl⟩ | ⟨g, cap, cur, hv, hB, hg, hn, hm, hs, ht⟩
  · exact ⟨none, 0, by rw [hv, hl], .inl hl, fun x hx => by cases hx⟩
  · subst hv
    refine ⟨_, cap, rfl, .inr ⟨g, 0, rfl, lt_of_block hg, fun i hi => ?_⟩, fun x hx => by simp only [Option.some.injEq] at hx; subst hx; exact hB⟩
    rw [Nat.zero_add]
    have := World.ownsRow.cells h (g := g) rfl i (.int .i64 ((l[i] : Nat) : Int)) (by simp [hi])
    rw [addr_add0] at this
    rw [this]
    simp [ci, hi]

theorem wpList_appendI (w : World) {ops : Array Oper} {rest : List Oper} {o : Oper} {a : Act} {Q : Exit → Act → World → Prop}
    (hg : o.guard = none) (s x : Operand) (hop : o.op = Op.call { callee := Callee.builtin Builtin.append, args := #[s, x], argTypes := #[26, 26] })
    (B : Nat) (v : Value) (l : List Nat) (u : Nat) (hs : a.eval s = v) (hgrow : GrowN w B v l) (b : Nat) (hx : a.eval x = .slice (some ⟨b, 0, none⟩) 1 1)
    (hc : w.cell? ⟨b, 0, none⟩ = some (.int .i64 ((u : Nat) : Int))) (hk : l.length ≤ 65536) (hB : B ≤ w.heap.size)
    (hK : ∀ v' w', GrowN w' B v' (l ++ [u]) → Below B w w' → wpList Try.prog ops Q rest (a.put o.dst v') w') :
    wpList Try.prog ops Q (o :: rest) a w := by
  obtain ⟨i0, hi, hz0, hz1, hz2⟩ := info_parts Try.info3d
  refine wpList_append_own w hg s x 26 hop B 3 i0 (.int .i64 0) 1 8 Try.underlying26 hi hz0 hz1 hz2 rfl (by decide) v l.length _ hs hgrow ⟨b, 0, none⟩ 1 1 [.int .i64 ((u : Nat) : Int)] hx rfl (one_new hc)
    (by intro u hu; simp at hu; subst hu; rfl) (by unfold maxLen; omega) (by omega) hB ?_
  intro v' w' r1 r2 _
  refine hK v' w' ?_ ((Below.refl _ _).grown r2 hB fun k hk => (World.ownsRow.lt hgrow k hk).1)
  unfold GrowN
  simpa using r1

/-- Chosen among 1 to j, rising. -/
structure IdsOk (l : List Nat) (j : Nat) : Prop where
  rise : l.Pairwise (· < ·)
  mem : ∀ x ∈ l, 1 ≤ x ∧ x ≤ j

theorem ids_nil : IdsOk [] 0 := ⟨List.Pairwise.nil, fun x hx => by simp at hx⟩
theorem ids_skip {l : List Nat} {j : Nat} (h : IdsOk l j) : IdsOk l (j + 1) := ⟨h.rise, fun x hx => by have := h.mem x hx; omega⟩
theorem ids_take {l : List Nat} {j : Nat} (h : IdsOk l j) : IdsOk (l ++ [j + 1]) (j + 1) := by
  refine ⟨?_, ?_⟩
  · rw [List.pairwise_append]
    refine ⟨h.rise, List.pairwise_singleton _ _, fun a ha b hb => ?_⟩
    have := h.mem a ha
    simp at hb
    omega
  · intro x hx
    rcases List.mem_append.1 hx with hx | hx
    · have := h.mem x hx; omega
    · simp at hx; omega

theorem rd_ne {w : World} {g b n : Nat} {F : Nat → Nat} {z : Int} (h : RdF w (some ⟨g, 0, none⟩) n (cu (M.sq F n))) (hn : 0 < n) (hc : w.cell? ⟨b, 0, none⟩ = some (.int .i64 z)) : g ≠ b := by
  intro e
  subst e
  have h1 := rd_first h hn rfl
  rw [hc] at h1
  simp at h1

/-- What dealt answers: a group out of the numbers cf seed, its shares, and some of its signers, as many as the threshold at the least. -/
def DealtOk (t n : Int) (seed : Nat) (e : Ending) (w' : World) : Prop :=
  ∃ (T N m : Nat) (a1 : Option Addr) (c1 : Nat) (a2 : Option Addr) (c2 : Nat) (a3 : Option Addr) (c3 : Nat) (d : Nat → Nat), 2 ≤ T ∧ T ≤ N ∧ N ≤ 9 ∧ T ≤ m ∧ m ≤ N ∧
    e = .returned (.tuple #[.agg #[.int .i64 T, .int .i64 N, .slice a1 T c1], .slice a2 N c2, .slice a3 m c3, .bool true]) ∧
    RdF w' a1 T (cu (M.sq (M.coms (cf seed)) T)) ∧ RdF w' a2 N (cu (M.sq (M.shs (cf seed) T) N)) ∧ RdF w' a3 m (ci d) ∧
    (∀ j, j < m → 1 ≤ d j ∧ d j ≤ N) ∧ (∀ i j, i < j → j < m → d i < d j) ∧ (t = 0 → T = 2) ∧ (n = 0 → N = 2)

set_option maxHeartbeats 1000000 in
theorem dealt_any (t n mask : Int) (seed : Nat) (w : World) (ht1 : -9223372036854775808 ≤ t) (ht2 : t ≤ 9223372036854775807) (hn1 : -9223372036854775808 ≤ n) (hn2 : n ≤ 9223372036854775807) :
    Calls Try.prog 5 #[.int .i64 t, .int .i64 n, .int .u64 seed, .int .i64 mask] w fun e w' => Below w.heap.size w w' ∧ DealtOk t n seed e w' := by
  have P1 := fun w => pick_any n 8 w hn1 hn2 (by omega) (by omega)
  go_enter Try.func5, Try.ntmps5
  go_wp2_with fail
  refine (P1 _).mono ?_
  rintro e w1 ⟨r, hr, rfl, hw, hr0⟩
  subst hw
  have e2 : (2 + (r : Int) - 1) = ((r + 1 : Nat) : Int) := by omega
  go_wp2_with fail
  have P2 := fun w => pick_any t (r + 1) w ht1 ht2 (by omega) (by omega)
  refine (P2 _).mono ?_
  rintro e w1 ⟨q, hq, rfl, hw, hq0⟩
  subst hw
  go_wp2_with fail
  obtain ⟨T, hT⟩ : ∃ T : Nat, T = 2 + q := ⟨_, rfl⟩
  obtain ⟨N, hN⟩ : ∃ N : Nat, N = 2 + r := ⟨_, rfl⟩
  have eT : (2 + (q : Int)) = (T : Int) := by omega
  have eN : (2 + (r : Int)) = (N : Int) := by omega
  simp only [eT, eN]
  have HT0 : Hid ((t = 0 → T = 2) ∧ (n = 0 → N = 2)) := ⟨fun h => by rw [hT, hq0 h], fun h => by rw [hN, hr0 h]⟩
  have hT2 : 2 ≤ T := by omega
  have hTN : T ≤ N := by omega
  have hN9 : N ≤ 9 := by omega
  clear eT eN e2 P1 P2 hT hN hr hq hr0 hq0 ht1 ht2 hn1 hn2
  go_loopw [12, 28] (fun v i wr => ∃ k : Nat, k ≤ T ∧ i = .int .i64 k ∧ Below (w.alloc zg).heap.size (w.alloc zg) wr ∧ Grow wr (w.alloc zg).heap.size v k (cf seed)) (fun _ i _ => T - (intOf i).toNat)
  case atStart => exact ⟨0, Nat.zero_le _, rfl, Below.refl _ _, Grow.nil _ _ _⟩
  case round =>
    obtain ⟨k, hk, rfl, bel, G⟩ := hrel
    by_cases hlt : k < T
    · obtain ⟨av, cv, rfl, _, _⟩ := G.rd
      go_wp2_with fail
      refine (scalar_cz seed k _).mono ?_
      rintro e w2 ⟨rfl, hw2⟩
      subst hw2
      go_wp2_with (at_builtin; refine wpList_append1 _ rfl (.tmp 31) (.tmp 44) rfl (w.alloc zg).heap.size k _ (cf seed) rfl (G.below (below_alloc _ _)) _ rfl (by go_simp) (by omega) (Nat.le_trans bel.size (below_alloc _ _).size) ?_; intro v' w' G' bel')
      obtain ⟨av3, cv3, rfl, _, _⟩ := G'.rd
      go_wp2_with fail
      go_roundw
      case rel =>
        exact ⟨k + 1, by omega, by go_num, (bel.alloc bel.size _).trans bel', G'⟩
      case measure => simp [intOf]; omega
    · have hkT : T = k := by omega
      subst hkT
      obtain ⟨av, cv, rfl, rdc, _⟩ := G.rd
      have C := deal_ok av T N cv (cf seed) wr hT2 hTN hN9 rdc (fun i _ => cf_sc seed i) (cf_ne seed 0)
      have Zr := (bel.block w.heap.size (by rw [size_alloc]; omega)).trans (zg_new w)
      have belw : Below w.heap.size w wr := (below_alloc w zg).trans (bel.mono (by rw [size_alloc]; omega))
      clear G bel rdc
      go_wp2_with fail
      refine C.mono ?_
      rintro e w2 ⟨bel2, g1, g2, rfl, rd1, rd2⟩
      obtain ⟨W3, hW3⟩ : ∃ W3, W3 = w2.alloc (gro T N (some ⟨g1, 0, none⟩) T T) := ⟨_, rfl⟩
      have B3 : Below w2.heap.size w2 W3 := by rw [hW3]; exact below_alloc _ _
      have Z3 : W3.heap[w2.heap.size]? = some (.cells #[.int .i64 T, .int .i64 N, .slice (some ⟨g1, 0, none⟩) T T] 25 (0, 0)) := by rw [hW3]; exact gro_new _ _ _ _ _ _
      have rd1' := rd1.below B3
      have rd2' := rd2.below B3
      have Zr2 := (bel2.block w.heap.size (lt_of_block Zr)).trans Zr
      have Zr3 := (B3.block w.heap.size (lt_of_block Zr2)).trans Zr2
      have belw3 : Below w.heap.size w W3 := (belw.trans (bel2.mono belw.size)).trans (B3.mono (Nat.le_trans belw.size bel2.size))
      have hT0 : ((T : Int) != T) = false := by simp
      clear rd1 rd2 Zr Zr2 B3 bel2 belw C
      go_wp2_with fail
      have hW3' : w2.alloc (Obj.cells #[.int .i64 (T : Int), .int .i64 (N : Int), .slice (some ⟨g1, 0, none⟩) T T] 25) = W3 := hW3.symm
      rw [hW3']
      clear hW3 hW3' hT0
      go_loopw [17, 18] (fun v i wr => ∃ (j : Nat) (l : List Nat), j ≤ N ∧ i = .int .i64 ((j : Int) + 1) ∧ Below W3.heap.size W3 wr ∧ GrowN wr W3.heap.size v l ∧ l.length ≤ j ∧ T + j ≤ l.length + N ∧ Hid (IdsOk l j)) (fun _ i _ => N + 1 - (intOf i).toNat)
      case atStart => exact ⟨0, [], Nat.zero_le _, rfl, Below.refl _ _, GrowN.nil _ _, Nat.le_refl _, by simp; omega, ids_nil⟩
      case round =>
        obtain ⟨j, l, hj, rfl, bel, G, hl, hTl, HI⟩ := hrel
        obtain ⟨av2, cv2, rfl, rdI, hvI⟩ := G.rd
        by_cases hlt : j < N
        · have hl1 : (j : Int) + 1 ≤ N := by omega
          obtain ⟨m, hm⟩ : ∃ m, m = l.length := ⟨_, rfl⟩
          rw [← hm] at hl hTl ⊢
          have HM : Hid (m = l.length) := hm
          clear hm rdI hvI rd1' rd2' Zr3 Z3 belw3
          have Gl : ∀ o, GrowN (wr.alloc o) W3.heap.size (.slice av2 m cv2) l := fun o => by rw [HM.out]; exact G.below (below_alloc _ _)
          have hl6 : l.length ≤ 65536 := by have := HM.out; omega
          have GH : Hid (GrowN wr W3.heap.size (.slice av2 m cv2) l) := by rw [HM.out]; exact G
          clear G
          by_cases t1 : (bits BinOp.and IntKind.i64 (mask / 2 ^ (j + 1)) 1 == 1) = true
          · go_wp2_with (at_builtin; refine wpList_appendI _ rfl (.tmp 92) (.tmp 94) rfl W3.heap.size (.slice av2 m cv2) l (j + 1) rfl (Gl _) _ rfl (by go_simp) hl6 (Nat.le_trans bel.size (below_alloc _ _).size) ?_; intro v' w' G' bel')
            obtain ⟨av3, cv3, rfl, _, _⟩ := G'.rd
            have hlen : (l ++ [j + 1]).length = m + 1 := by rw [List.length_append, ← HM.out]; rfl
            go_wp2_with fail
            go_roundw
            case rel => exact ⟨j + 1, l ++ [j + 1], by omega, by go_num, (bel.alloc bel.size _).trans bel', G', by omega, by omega, ids_take HI.out⟩
            case measure => simp [intOf]; omega
          · have t1' : (bits BinOp.and IntKind.i64 (mask / 2 ^ (j + 1)) 1 == 1) = false := by simpa using t1
            clear t1
            by_cases t2 : m + N < j + 1 + T
            · have t2' : decide ((m : Int) + N - (j + 1) < T) = true := decide_eq_true (by omega)
              go_wp2_with (at_builtin; refine wpList_appendI _ rfl (.tmp 92) (.tmp 94) rfl W3.heap.size (.slice av2 m cv2) l (j + 1) rfl (Gl _) _ rfl (by go_simp) hl6 (Nat.le_trans bel.size (below_alloc _ _).size) ?_; intro v' w' G' bel')
              obtain ⟨av3, cv3, rfl, _, _⟩ := G'.rd
              have hlen : (l ++ [j + 1]).length = m + 1 := by rw [List.length_append, ← HM.out]; rfl
              go_wp2_with fail
              go_roundw
              case rel => exact ⟨j + 1, l ++ [j + 1], by omega, by go_num, (bel.alloc bel.size _).trans bel', G', by omega, by omega, ids_take HI.out⟩
              case measure => simp [intOf]; omega
            · have t2' : decide ((m : Int) + N - (j + 1) < T) = false := decide_eq_false (by omega)
              clear Gl
              go_wp2_with fail
              go_roundw
              case rel => exact ⟨j + 1, l, by omega, by go_num, bel, GH.out, by have := HM.out; omega, by have := HM.out; omega, ids_skip HI.out⟩
              case measure => simp [intOf]; omega
        · have hjN : N = j := by omega
          subst hjN
          have hlN : ¬ (N : Int) + 1 ≤ N := by omega
          have f1 := rd1'.below bel
          have f2 := rd2'.below bel
          have belw5 : Below w.heap.size w wr := belw3.trans (bel.mono belw3.size)
          obtain ⟨z0, z1, z2, y0, y1, y2⟩ := three ((bel.block w2.heap.size (lt_of_block Z3)).trans Z3)
          obtain ⟨q0, q1, q2, r0, r1, r2⟩ := three ((bel.block w.heap.size (lt_of_block Zr3)).trans Zr3)
          have hw3 : w.heap.size < W3.heap.size := lt_of_block Zr3
          obtain ⟨m, hm⟩ : ∃ m, m = l.length := ⟨_, rfl⟩
          rw [← hm] at hl hTl rdI ⊢
          have HM : Hid (m = l.length) := hm
          have HV : Hid (∀ x, av2 = some x → W3.heap.size ≤ x.block) := hvI
          clear hm hvI G bel Z3 Zr3 rd1' rd2' belw3
          go_wp2_with fail
          refine bodyPost_ret (v := .tuple #[.agg #[.int .i64 T, .int .i64 N, .slice (some ⟨g1, 0, none⟩) T T], .slice (some ⟨g2, 0, none⟩) N N, .slice av2 m cv2, .bool true]) (by simp [results, Try.results5, go_sem, *]) rfl ?_
          refine ⟨below3 belw5 (Nat.le_refl _) _ _ _, T, N, m, _, _, _, _, _, _, (fun i => l.getD i 0), hT2, hTN, hN9, by omega, hl, rfl, ?_, ?_, ?_, ?_, ?_, HT0.out⟩
          · exact rd3 f1 (rd_ne f1 (by omega) q0) _ _ _
          · exact rd3 f2 (rd_ne f2 (by omega) q0) _ _ _
          · exact ((rdI.setCell (fun x hx => by have := HV.out x hx; show x.block ≠ w.heap.size; omega) _).setCell (fun x hx => by have := HV.out x hx; show x.block ≠ w.heap.size; omega) _).setCell (fun x hx => by have := HV.out x hx; show x.block ≠ w.heap.size; omega) _
          · intro k hk
            have hk' : k < l.length := by rw [← HM.out]; exact hk
            have : l.getD k 0 = l[k] := by simp [hk']
            show 1 ≤ l.getD k 0 ∧ l.getD k 0 ≤ N
            rw [this]
            exact HI.out.mem _ (List.getElem_mem hk')
          · intro i k hik hk
            have hk' : k < l.length := by rw [← HM.out]; exact hk
            have e1 : l.getD i 0 = l[i] := by simp [show i < l.length by omega]
            have e2 : l.getD k 0 = l[k] := by simp [hk']
            show l.getD i 0 < l.getD k 0
            rw [e1, e2]
            exact List.pairwise_iff_getElem.1 HI.out.rise i k (by omega) hk' hik
end Go.Proofs.Yteoioldbigomaab
