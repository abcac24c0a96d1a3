import Derived.Test.YteoioldbigomaaaGreatRsi
namespace Go.Proofs.YteoioldbigomaaaGreat
open Go.RowKit

/-- A world like w, but for what is new and for block p, keeps a package that touches neither. -/
theorem PKR.set {w : World} {B q T N : Nat} {ga : Option Addr} {gc : Nat} {s : ByteArray} {a : Option Addr} {n c : Nat} {J D E f : Nat → Nat} (h : PKR w B q T N ga gc s a n c J D E f) {w' : World} {p : Nat} (hc : Chg (fun k => k = p) w w') (hB : p < B)
    (ha : ∀ x, a = some x → x.block ≠ p) (hg : ∀ x, ga = some x → x.block ≠ p) : PKR w' B q T N ga gc s a n c J D E f := by
  obtain ⟨h0, v, h1, h2⟩ := h.pk
  refine ⟨⟨h0, v, (hc.block q (lt_of_block h1) (by omega)).trans h1, ⟨h2.1, ?_⟩⟩, ?_, h.rg.chg hc hg, h.n9, h.t1, h.j9, h.sz⟩
  · rcases h2.2 with h3 | ⟨g, cap, cur, e1, e2, e3, e4⟩
    · exact .inl h3
    · exact .inr ⟨g, cap, cur, e1, e2, (hc.block g (lt_of_block e3) (by omega)).trans e3, e4⟩
  · rcases h.rl with h3 | ⟨b, o, rfl, hlt, hcell⟩
    · exact .inl h3
    · refine .inr ⟨b, o, rfl, Nat.lt_of_lt_of_le hlt hc.size, fun i hi => ?_⟩
      have e : ∀ j, w'.cell? ⟨b, j, none⟩ = w.cell? ⟨b, j, none⟩ := fun j => World.cell?_of_block (w := w) (hc.block b hlt (ha _ rfl))
      rw [e, e, e]
      exact hcell i hi

theorem ret2q {a b : Int} (h : a = b) : Ending.returned (.tuple #[.int .u64 a, .int .i64 0]) = .returned (.tuple #[.int .u64 b, .int .i64 0]) := by rw [h]
theorem row_low {w : World} {B B' e k n : Nat} {v : Value} {xs : List Value} (h : w.ownsRow B e k v n xs) (hb : B' ≤ B) : w.ownsRow B' e k v n xs := by
  refine ⟨h.1, ?_⟩
  rcases h.2 with h2 | ⟨g, cap, cur, h1, h2, h3⟩
  · exact .inl h2
  · exact .inr ⟨g, cap, cur, h1, Nat.le_trans hb h2, h3⟩
theorem row_form {w : World} {B e k n : Nat} {v : Value} {xs : List Value} (h : w.ownsRow B e k v n xs) : ∃ a c, v = .slice a n c := by
  rcases h.2 with ⟨hv, hl⟩ | ⟨g, cap, cur, hv, _⟩
  · exact ⟨none, 0, by rw [hv, hl]⟩
  · exact ⟨_, cap, hv⟩

set_option maxHeartbeats 4000000 in
set_option maxRecDepth 100000 in
theorem rsi_any (p T N cb cc : Nat) (f : Nat → Nat) (id sh : Nat) (v : Value) (l : List (Nat × Nat)) (s : ByteArray) (a : Option Addr) (n c : Nat) (I : Nat → Int) (D E : Nat → Nat) (w : World) (hS : RS w p T N cb cc f id sh v l) (hr : RdC w a n I D E)
    (h9 : N ≤ 9) (hT : 2 ≤ T) (hsh : SC sh) (hl : l.length ≤ 6) (hsc : ∀ x ∈ l, SC x.1 ∧ SC x.2) (hs : s.size ≤ 65536) (hap : ∀ x, a = some x → x.block ≠ p) :
    Calls Tryz.prog 62 #[.pointer (some ⟨p, 0, none⟩), .string s, .slice a n c] w (RsiPost p T N cb cc f id sh v l s n I D E w) := by
  obtain ⟨z0, z1, z2, z3, z4, z5⟩ := six hS.blk
  have hpl := lt_of_block hS.blk
  have CN : Calls Tryz.prog 24 #[.agg #[.int .i64 T, .int .i64 N, .slice (some ⟨cb, 0, none⟩) T cc], .string s, .slice a n c] w (PkPost T N (.slice (some ⟨cb, 0, none⟩) T cc) s (.slice a n c) n I D E w) := by
    by_cases h : T ≤ n ∧ n ≤ N
    · exact npk_any T N s a n c (some ⟨cb, 0, none⟩) T cc I D E w h.1 h.2 h9 hr
    · refine (npk_few T N _ s a n c w (some ⟨cb, 0, none⟩) T cc rfl h).mono fun e w' hh => ⟨hh.2, 7, .inl ⟨h, rfl⟩, .inl ⟨by omega, hh.1⟩⟩
  have HRS : Hid (RS w p T N cb cc f id sh v l) := hS
  have HR : Hid (RdC w a n I D E) := hr
  have HAP : Hid (∀ x, a = some x → x.block ≠ p) := hap
  have HSC : Hid (∀ x ∈ l, SC x.1 ∧ SC x.2) := hsc
  clear hS hr hap hsc
  go_enter Tryz.func62, Tryz.ntmps62
  go_wp2_with fail
  refine CN.mono ?_
  rintro ex w2 ⟨bel2, er, hlook, ⟨he, rfl⟩ | ⟨he, q, rfl, hpk⟩⟩
  · have he' : ((er : Int) != 0) = true := by simp; omega
    clear CN z0 z1 z2 z3 z4 z5
    go_wp2_with fail
    go_ret2
    exact ⟨er, hlook, .inl ⟨he, bel2, rfl⟩⟩
  · subst he
    obtain ⟨⟨hTn, hnN⟩, hI, hP⟩ := look_ok hlook h9
    have hn9 : n ≤ 9 := by omega
    obtain ⟨J, hJ⟩ : ∃ J : Nat → Nat, J = fun j => (I j).toNat := ⟨_, rfl⟩
    have hIJ : ∀ j, j < n → I j = (J j : Nat) := fun j hj => by have := hI j hj; rw [hJ]; show I j = ((I j).toNat : Int); omega
    have PR : PKR w2 w.heap.size q T N (some ⟨cb, 0, none⟩) cc s a n c J D E f := by
      obtain ⟨b0, v0, b1, b2⟩ := hpk
      refine ⟨⟨b0, v0, b1, ?_⟩, ?_, HRS.out.com.below bel2, hn9, by omega, fun j hj => by have := hI j hj; rw [hJ]; show (I j).toNat ≤ 9; omega, hs⟩
      · have e : vi (fun i => ((J i : Nat) : Int)) n = vi I n := List.map_congr_left fun i hi => by rw [hIJ i (List.mem_range.1 hi)]
        unfold GrowI
        rw [e]
        exact b2
      · rcases HR.out.below bel2 with h0 | ⟨b, o, ha, hlt, hc⟩
        · exact .inl h0
        · exact .inr ⟨b, o, ha, hlt, fun i hi => ⟨by show _ = some (Value.int .i64 ((J i : Nat) : Int)); rw [← hIJ i hi]; exact (hc i hi).1, (hc i hi).2⟩⟩
    have HPR : Hid (PKR w2 w.heap.size q T N (some ⟨cb, 0, none⟩) cc s a n c J D E f) := PR
    have HEL : Hid (∀ k, k < n → EL (D k) ∧ EL (E k)) := fun k hk => ⟨(hP k hk).1.el.el, (hP k hk).2.el.el⟩
    have HIJ : Hid (∀ j, j < n → I j = (J j : Nat)) := hIJ
    have HJ : Hid (J = fun j => (I j).toNat) := hJ
    have HLK : Hid (M.Look T N n I D E 0) := hlook
    obtain ⟨_, vq, zq, _⟩ := PR.pk
    obtain ⟨t0, t1, t2, t3, t4, t5⟩ := six zq
    clear CN hlook hI hP hIJ hJ hpk PR zq z0 z1 z2 z3 z4 z5
    go_wp2_with fail
    clear t0 t1 t2 t3 t4 t5
    go_loopw [35] (fun i wr => ∃ k : Nat, k ≤ n ∧ i = .int .i64 k ∧ Below w2.heap.size w2 wr ∧ Hid (∀ k' i', k' < k → ¬ M.Hit id l I D E k' i')) (fun i _ => n - (intOf i).toNat)
    case atStart => exact ⟨0, Nat.zero_le _, rfl, Below.refl _ _, fun k' _ hk => absurd hk (Nat.not_lt_zero k')⟩
    case round =>
      obtain ⟨k, hk, rfl, belr, HH⟩ := hrel
      have belw : Below w.heap.size w wr := bel2.trans (belr.mono bel2.size)
      by_cases hlt : k < n
      · obtain ⟨b, o, rfl, hb, hc⟩ := HR.out.at (by omega)
        obtain ⟨q0, q1, q2⟩ := hc k hlt
        obtain ⟨x, hx⟩ : ∃ x, x = J k := ⟨_, rfl⟩
        obtain ⟨d, hd⟩ : ∃ d, d = D k := ⟨_, rfl⟩
        obtain ⟨e, he⟩ : ∃ e, e = E k := ⟨_, rfl⟩
        rw [HIJ.out k hlt, ← hx] at q0
        rw [← hd] at q1
        rw [← he] at q2
        have c0 := (belw.cell (p := ⟨b, o + k * 3, none⟩) hb).trans q0
        have c1 := (belw.cell (p := ⟨b, o + k * 3 + 1, none⟩) hb).trans q1
        have c2 := (belw.cell (p := ⟨b, o + k * 3 + 2, none⟩) hb).trans q2
        have HX : Hid (I k = (x : Nat)) := by rw [HIJ.out k hlt, ← hx]; exact rfl
        have HD : Hid (d = D k) := hd
        have HE : Hid (e = E k) := he
        have hki : (k : Int) < n := by omega
        have Sr := HRS.out.below belw
        obtain ⟨z0, z1, z2, z3, z4, z5⟩ := six Sr.blk
        obtain ⟨av, cap, hv, hcells⟩ := Sr.pairs
        rw [hv] at z5
        have hpr : p < wr.heap.size := Nat.lt_of_lt_of_le hpl belw.size
        clear hx hd he q0 q1 q2 hc Sr
        go_wp2_with fail
        have hzc := heap_alloc_new wr (.cells #[.int .i64 (x : Int), .int .u64 (d : Int), .int .u64 (e : Int)] 98)
        have B1 := below_alloc wr (.cells #[.int .i64 (x : Int), .int .u64 (d : Int), .int .u64 (e : Int)] 98)
        obtain ⟨W1, hW1⟩ : ∃ W1, wr.alloc (.cells #[.int .i64 (x : Int), .int .u64 (d : Int), .int .u64 (e : Int)] 98) = W1 := ⟨_, rfl⟩
        rw [hW1] at hzc B1 ⊢
        obtain ⟨m, hm⟩ : ∃ m, m = l.length := ⟨_, rfl⟩
        have HM : Hid (m = l.length) := hm
        have hm6 : m ≤ 6 := by omega
        rw [← hm]
        have HC : Hid (0 < l.length → ∃ g, av = some ⟨g, 0, none⟩ ∧ g < wr.heap.size ∧ ∀ i, (hi : i < l.length) → wr.cell? ⟨g, i * 5, none⟩ = some (.int .u64 (l[i].1 : Nat)) ∧ wr.cell? ⟨g, i * 5 + 1, none⟩ = some (.int .u64 (l[i].2 : Nat)) ∧ wr.cell? ⟨g, i * 5 + 2, none⟩ = some (.int .i64 (id : Nat)) ∧
          wr.cell? ⟨g, i * 5 + 3, none⟩ = some (.int .u64 (M.pw 2147483579 4 l[i].1 : Nat)) ∧ wr.cell? ⟨g, i * 5 + 4, none⟩ = some (.int .u64 (M.pw 2147483579 4 l[i].2 : Nat))) := hcells
        have HV : Hid (v = .slice av l.length cap) := hv
        have HZC : Hid (W1.heap[wr.heap.size]? = some (.cells #[.int .i64 (x : Int), .int .u64 (d : Int), .int .u64 (e : Int)] 98 (0, 0))) := hzc
        clear hW1 hm hcells hv c0 c1 c2 z0 z1 z2 z3 z4 z5 hzc
        obtain ⟨wo, hwo⟩ : ∃ wo, wo = wr := ⟨_, rfl⟩
        subst hwo
        go_loopw [45] (fun i wr => ∃ j : Nat, j ≤ m ∧ i = .int .i64 j ∧ Below W1.heap.size W1 wr ∧ Hid (∀ i', i' < j → ¬ M.Hit id l I D E k i')) (fun i _ => m - (intOf i).toNat)
        case atStart => exact ⟨0, Nat.zero_le _, rfl, Below.refl _ _, fun i' hi => absurd hi (Nat.not_lt_zero i')⟩
        case round =>
          obtain ⟨j, hj, rfl, beli, HI⟩ := hrel
          have belo : Below wo.heap.size wo wr := B1.trans (beli.mono B1.size)
          by_cases hjm : j < m
          · obtain ⟨g, rfl, hg, hcl⟩ := HC.out (by have := HM.out; omega)
            obtain ⟨q0, q1, q2, q3, q4⟩ := hcl j (by have := HM.out; omega)
            obtain ⟨u, hu⟩ : ∃ u, u = (l[j]'(by have := HM.out; omega)).1 := ⟨_, rfl⟩
            obtain ⟨y, hy⟩ : ∃ y, y = (l[j]'(by have := HM.out; omega)).2 := ⟨_, rfl⟩
            have HX2 : Hid ((l[j]'(by have := HM.out; omega)) = (u, y)) := by rw [hu, hy]; exact rfl
            rw [← hu] at q0 q3
            rw [← hy] at q1 q4
            obtain ⟨U, hU⟩ : ∃ U, U = M.pw 2147483579 4 u := ⟨_, rfl⟩
            obtain ⟨Y, hY⟩ : ∃ Y, Y = M.pw 2147483579 4 y := ⟨_, rfl⟩
            rw [← hU] at q3
            rw [← hY] at q4
            have HU : Hid (U = M.pw 2147483579 4 u) := hU
            have HY : Hid (Y = M.pw 2147483579 4 y) := hY
            have r0 := (belo.cell (p := ⟨g, j * 5, none⟩) hg).trans q0
            have r1 := (belo.cell (p := ⟨g, j * 5 + 1, none⟩) hg).trans q1
            have r2 := (belo.cell (p := ⟨g, j * 5 + 2, none⟩) hg).trans q2
            have r3 := (belo.cell (p := ⟨g, j * 5 + 3, none⟩) hg).trans q3
            have r4 := (belo.cell (p := ⟨g, j * 5 + 4, none⟩) hg).trans q4
            obtain ⟨k0, k1, k2⟩ := three_cells ((beli.block wo.heap.size (lt_of_block HZC.out)).trans HZC.out)
            have hji : (j : Int) < m := by omega
            have how : wo.heap.size < wr.heap.size := Nat.lt_of_lt_of_le (lt_of_block HZC.out) beli.size
            clear hu hy hU hY q0 q1 q2 q3 q4 hcl
            have hno : ¬ (x = id ∧ d = U ∧ e = Y) → Hid (∀ i', i' < j + 1 → ¬ M.Hit id l I D E k i') := by
              intro hit i' hi'
              rcases Nat.lt_or_eq_of_le (Nat.le_of_lt_succ hi') with h | rfl
              · exact HI.out i' h
              · rintro ⟨h0, h1, h2, h3⟩
                rw [HX2.out] at h2 h3
                refine hit ⟨?_, ?_, ?_⟩
                · have := HX.out; rw [h1] at this; omega
                · rw [HD.out, h2, HU.out]
                · rw [HE.out, h3, HY.out]
            by_cases hx1 : x = id
            · by_cases hd1 : d = U
              · by_cases he1 : e = Y
                · subst hx1 hd1 he1
                  clear hno
                  have hzp := heap_alloc_new wr (.cells #[.int .u64 (u : Int), .int .u64 (y : Int), .int .i64 (x : Int), .int .u64 (d : Int), .int .u64 (e : Int)] 179)
                  have Bp := below_alloc wr (.cells #[.int .u64 (u : Int), .int .u64 (y : Int), .int .i64 (x : Int), .int .u64 (d : Int), .int .u64 (e : Int)] 179)
                  have HHit : Hid (M.Hit x l I D E k j) := ⟨by have := HM.out; omega, HX.out, by rw [HX2.out, ← HD.out]; exact HU.out, by rw [HX2.out, ← HE.out]; exact HY.out⟩
                  go_wp2_with fail
                  obtain ⟨Wh, hWh⟩ : ∃ Wh, wr.alloc (.cells #[.int .u64 (u : Int), .int .u64 (y : Int), .int .i64 (x : Int), .int .u64 (d : Int), .int .u64 (e : Int)] 179) = Wh := ⟨_, rfl⟩
                  rw [hWh] at hzp Bp ⊢
                  have belH2 : Below w2.heap.size w2 Wh := (belr.trans (belo.mono belr.size)).trans (Bp.mono (Nat.le_trans belr.size belo.size))
                  have belH : Below w.heap.size w Wh := bel2.trans (belH2.mono bel2.size)
                  have CA := all_any w.heap.size q T N (some ⟨cb, 0, none⟩) cc s (some ⟨b, o, none⟩) n c J D E f Wh (HPR.out.below belH2) HEL.out
                  obtain ⟨R, hR⟩ : ∃ R, R = M.allR J D E f n s := ⟨_, rfl⟩
                  rw [← hR] at CA
                  have HRR : Hid (R = M.allR (fun j => (I j).toNat) D E f n s) := by rw [hR, HJ.out]; exact rfl
                  have HR0 : Hid (R = M.allR J D E f n s) := hR
                  clear hWh hR k0 k1 k2 r0 r1 r2 r3 r4
                  refine CA.mono ?_
                  rintro ex w3 ⟨rfl, bel3⟩
                  have belw3 : Below w.heap.size w w3 := belH.trans (bel3.mono belH.size)
                  by_cases hR1 : R = 1
                  · subst hR1
                    clear CA
                    go_wp2_with fail
                    go_ret2
                    exact ⟨0, HLK.out, .inr (.inr (.inl ⟨rfl, ⟨k, j, hlt, HHit.out⟩, HRR.out.symm, belw3, rfl⟩))⟩
                  · have hR1' : ((R : Int) == 1) = false := by simp; omega
                    have S3 := HRS.out.below belw3
                    obtain ⟨z0, z1, z2, z3, z4, z5⟩ := six S3.blk
                    rw [HV.out, ← HM.out] at z5
                    have hrow := S3.row
                    rw [HV.out] at hrow
                    have hcl3 : ∀ jj uu, (pcs x l)[jj]? = some uu → w3.cell? ((⟨g, 0, none⟩ : Addr).add jj) = some uu := World.ownsRow.cells hrow rfl
                    have hcap : l.length ≤ cap := by
                      rcases hrow.2 with ⟨h1, _⟩ | ⟨g1, cap1, cur1, h1, _, _, h2, _⟩
                      · simp at h1
                      · simp only [Value.slice.injEq] at h1; omega
                    have hmc : (m : Int) ≤ cap := by have := HM.out; omega
                    have hjc : (j : Int) ≤ cap := by omega
                    have HCL : Hid (∀ jj uu, (pcs x l)[jj]? = some uu → w3.cell? ((⟨g, 0, none⟩ : Addr).add jj) = some uu) := hcl3
                    clear CA hrow hcl3
                    have hj1 : (j : Int) + 1 ≤ m := by omega
                    have hj1c : (j : Int) + 1 ≤ cap := by omega
                    obtain ⟨LA, hLA⟩ : ∃ LA, LA = l.take j := ⟨_, rfl⟩
                    obtain ⟨LB, hLB⟩ : ∃ LB, LB = l.drop (j + 1) := ⟨_, rfl⟩
                    have HLA : Hid (LA.length = j) := by rw [hLA, List.length_take]; have h1 := HM.out; have : min j l.length = j := by omega
                                                         exact this
                    have HLB : Hid (LB.length = m - (j + 1)) := by rw [hLB, List.length_drop, ← HM.out]; exact rfl
                    have HCA : Hid (∀ jj uu, (pcs x LA)[jj]? = some uu → w3.cell? ((⟨g, 0, none⟩ : Addr).add jj) = some uu) := fun jj uu h => HCL.out jj uu (pcs_take x l j jj uu (by rw [← hLA]; exact h))
                    have HCB : Hid (∀ jj uu, (pcs x LB)[jj]? = some uu → w3.cell? ⟨g, (j + 1) * 5 + jj, none⟩ = some uu) := fun jj uu h => by
                      have := HCL.out _ uu (pcs_drop x l (j + 1) jj uu (by have := HM.out; omega) (by rw [← hLB]; exact h))
                      rwa [addr_add0] at this
                    have HLAB : Hid (LA ++ LB = l.take j ++ l.drop (j + 1)) := by rw [hLA, hLB]; exact rfl
                    have hABl : LA.length + LB.length ≤ 65536 := by rw [HLA.out, HLB.out]; omega
                    have HABL : Hid (LA.length + LB.length ≤ 65536) := hABl
                    clear hLA hLB hABl
                    have hpq : p < w3.heap.size := lt_of_block S3.blk
                    have Zp3 : Hid (w3.heap[p]? = some (.cells #[.int .i64 (T : Nat), .int .i64 (N : Nat), .slice (some ⟨cb, 0, none⟩) T cc, .int .i64 (x : Nat), .int .u64 (sh : Nat), v] 172 (0, 0))) := S3.blk
                    go_upto_region 15 with (at_builtin; refine wpList_appendPs _ rfl _ (.tmp 63) rfl w3.heap.size (.slice none 0 0) x [] LA rfl (World.ownsRow_nil _ _ _ _) ⟨g, 0, none⟩ j cap rfl HLA.out.symm HCA.out (by have := HABL.out; simp; omega) (Nat.le_refl _) ?_; intro v4 w4 o4 g4; have o4' : w4.ownsRow w3.heap.size 179 5 v4 LA.length (pcs x LA) := o4; have z5' := keep_cell z5 (below_made g4); obtain ⟨a4, c4, hv4⟩ := row_form o4'; subst hv4; clear o4)
                    go_cut [] from 46 to 113 (fun wx => ∃ a5 c5 w5, wx = w5.setCell ⟨p, 5, none⟩ (.slice a5 (LA ++ LB).length c5) ∧ w5.ownsRow w3.heap.size 179 5 (.slice a5 (LA ++ LB).length c5) (LA ++ LB).length (pcs x (LA ++ LB)) ∧ Below w3.heap.size w3 w5)
                    case first =>
                      by_cases hcp : cap = j + 1
                      · subst hcp
                        obtain rfl : m = j + 1 := by have := HM.out; omega
                        have HNB : Hid (LB = []) := List.eq_nil_of_length_eq_zero (by have := HLB.out; omega)
                        go_wp2_with (at_builtin; refine wpList_appendPs _ rfl (.tmp 66) (.tmp 73) rfl w3.heap.size (.slice a4 LA.length c4) x LA LB rfl o4' ⟨g, 0, none⟩ _ _ rfl (by rw [HNB.out]; first | rfl | simp | omega) (fun jj uu h => by
                          rw [HNB.out] at h
                          simp [pcs] at h) HABL.out (below_made g4).size ?_; intro v5 w5 o5 g5; obtain ⟨a5, c5, hv5⟩ := row_form o5; subst hv5; have B5 := (Below.refl w3.heap.size w4).grown g5 (below_made g4).size (fun kk hk => (World.ownsRow.lt o4' kk hk).1); have Zp5 := (B5.block p hpq).trans (((below_made g4).block p hpq).trans Zp3.out); obtain ⟨e0, e1, e2, e3, e4, e5⟩ := six Zp5; have f5 := six_frozen Zp5 5)
                        go_meet
                        case rel => exact ⟨a5, c5, w5, by rw [List.length_append], o5, (below_made g4).trans B5⟩
                      · have hcp' : ¬ (cap : Int) = (j : Int) + 1 := by omega
                        go_wp2_with (at_builtin; refine wpList_appendPs _ rfl (.tmp 66) (.tmp 73) rfl w3.heap.size (.slice a4 LA.length c4) x LA LB rfl o4' ⟨g, (j + 1) * 5, none⟩ (m - (j + 1)) (cap - (j + 1)) rfl HLB.out.symm (fun jj uu h => by rw [addr_add]; exact keep_cell (HCB.out jj uu h) (below_made g4)) HABL.out (below_made g4).size ?_; intro v5 w5 o5 g5; obtain ⟨a5, c5, hv5⟩ := row_form o5; subst hv5; have B5 := (Below.refl w3.heap.size w4).grown g5 (below_made g4).size (fun kk hk => (World.ownsRow.lt o4' kk hk).1); have Zp5 := (B5.block p hpq).trans (((below_made g4).block p hpq).trans Zp3.out); obtain ⟨e0, e1, e2, e3, e4, e5⟩ := six Zp5; have f5 := six_frozen Zp5 5)
                        go_meet
                        case rel => exact ⟨a5, c5, w5, by rw [List.length_append], o5, (below_made g4).trans B5⟩
                    case rest =>
                      obtain ⟨a5, c5, w5, hwc, o5, B5⟩ := hcut
                      have K5 : Chg (fun kk => kk = p) w5 wc := by rw [hwc]; exact Chg.set (P := fun kk => kk = p) (Chg.refl _ _) rfl
                      have belw5 : Below w.heap.size w w5 := belw3.trans (B5.mono belw3.size)
                      have Z6 : wc.heap[p]? = some (.cells #[.int .i64 (T : Nat), .int .i64 (N : Nat), .slice (some ⟨cb, 0, none⟩) T cc, .int .i64 (x : Nat), .int .u64 (sh : Nat), .slice a5 (LA ++ LB).length c5] 172 (0, 0)) := by rw [hwc]; exact six_set5 ((B5.block p hpq).trans Zp3.out) _
                      have P6 : PKR wc w.heap.size q T N (some ⟨cb, 0, none⟩) cc s (some ⟨b, o, none⟩) n c J D E f := ((HPR.out.below belH2).below (bel3.trans (B5.mono bel3.size))).set K5 hpl HAP.out (fun xx hx => by simp only [Option.some.injEq] at hx; subst hx; exact S3.cp)
                      have hown5 : ∀ kk, (Value.slice a5 (LA ++ LB).length c5).ownBlock = some kk → w3.heap.size ≤ kk := fun kk h => (World.ownsRow.lt o5 kk h).1
                      have hcb : cb < w.heap.size := by
                        rcases HRS.out.com with h0 | ⟨bb, oo, he, hl0, _⟩
                        · omega
                        · simp only [Option.some.injEq, Addr.mk.injEq] at he; omega
                      have S6 : RS wc p T N cb cc f x sh (.slice a5 (LA ++ LB).length c5) (LA ++ LB) := by
                        refine ⟨Z6, (S3.com.below B5).chg K5 (fun xx hx => by simp only [Option.some.injEq] at hx; subst hx; exact S3.cp), ?_, ?_, S3.cp, ?_⟩
                        · rw [hwc]
                          exact World.ownsRow.kept (row_low o5 (Nat.zero_le _)) (grown_set _ _ _ _) (.inr fun h => by have := hown5 p h; omega)
                        · intro h; have := hown5 p h; omega
                        · intro h; have := hown5 cb h; have := belw3.size; omega
                      have hwrp : wr.heap.size ≠ p := by have := belw.size; have := belo.size; omega
                      have zp6 : wc.heap[wr.heap.size]? = some (.cells #[.int .u64 (u : Int), .int .u64 (y : Int), .int .i64 (x : Int), .int .u64 (d : Int), .int .u64 (e : Int)] 179 (0, 0)) :=
                        (K5.block wr.heap.size (Nat.lt_of_lt_of_le (Nat.lt_of_lt_of_le (lt_of_block hzp) bel3.size) B5.size) hwrp).trans ((B5.block wr.heap.size (Nat.lt_of_lt_of_le (lt_of_block hzp) bel3.size)).trans ((bel3.block wr.heap.size (lt_of_block hzp)).trans hzp))
                      have KF : Chg (fun kk => kk = p) w wc := (Below.chg belw5 _).trans K5
                      obtain ⟨_, vq6, zq6, gq6⟩ := P6.pk
                      obtain ⟨ai, cI, hvi, rdi⟩ := gq6.rd
                      subst hvi
                      obtain ⟨_, _, _, _, _, n5⟩ := six zq6
                      obtain ⟨_, _, i2, _, i4, _⟩ := six Z6
                      have ccb : wc.cell? ⟨cb, 0, none⟩ = some (.int .u64 (f 0 : Nat)) := by
                        obtain ⟨bb, oo, he, _, hcc⟩ := S6.com.at (by omega)
                        simp only [Option.some.injEq, Addr.mk.injEq, and_true] at he
                        obtain ⟨rfl, rfl⟩ := he
                        have := hcc 0 (by omega)
                        rw [M.cu_sq _ _ _ (by omega)] at this
                        exact this
                      have CW : ∀ w', Below wc.heap.size wc w' → Calls Tryz.prog 29 #[.slice ai n cI, .int .i64 (k : Int)] w' fun ee w'' => ee = .returned (.int .u64 (M.wt J n k : Nat)) ∧ w'' = w' := fun w' hb' => rweight_any ai cI n k J w' hn9 hlt (fun i hi => HPR.out.j9 i hi) (rdi.below hb')
                      have CH := fun w' => rchallenge_any R (f 0) s w' hs
                      have CBD : ∀ w', Below wc.heap.size wc w' → Calls Tryz.prog 54 #[.pointer (some ⟨q, 0, none⟩), .int .i64 (k : Int)] w' fun ee w'' => ee = .returned (.int .u64 (M.bind (J k) (f 0) J D E n s : Nat)) ∧ Below w'.heap.size w' w'' := fun w' hb' => bind_any w.heap.size q T N (some ⟨cb, 0, none⟩) cc s (some ⟨b, o, none⟩) n c J D E f k w' (P6.below hb') hlt
                      have sW := M.wt_sc J n k
                      have sC : SC (M.chal R (f 0) s) := M.hash_sc _ _ _ _
                      have sB := M.bind_sc (J k) (f 0) J D E n s
                      have HAN : Hid (M.ans (fun j => (I j).toNat) D E f n s sh k u y = (u + y * M.bind (J k) (f 0) J D E n s + M.wt J n k * sh % 1073741789 * M.chal R (f 0) s % 1073741789) % 1073741789) := by rw [HR0.out, HJ.out]; exact rfl
                      have su : SC u ∧ SC y := by have := HSC.out _ (List.getElem_mem (show j < l.length by have := HM.out; omega)); rw [HX2.out] at this; exact this
                      obtain ⟨F0, hF0⟩ : ∃ F0, F0 = f 0 := ⟨_, rfl⟩
                      rw [← hF0] at ccb CH CBD sC sB HAN
                      obtain ⟨W, hW⟩ : ∃ W, W = M.wt J n k := ⟨_, rfl⟩
                      rw [← hW] at sW HAN
                      simp only [← hW] at CW
                      obtain ⟨ch, hch⟩ : ∃ ch, ch = M.chal R F0 s := ⟨_, rfl⟩
                      rw [← hch] at sC HAN
                      simp only [← hch] at CH
                      obtain ⟨bd, hbd⟩ : ∃ bd, bd = M.bind (J k) F0 J D E n s := ⟨_, rfl⟩
                      rw [← hbd] at sB HAN
                      simp only [← hbd] at CBD
                      obtain ⟨A, hA⟩ : ∃ A, A = W * sh % 1073741789 := ⟨_, rfl⟩
                      obtain ⟨Sx, hSx⟩ : ∃ Sx, Sx = A * ch % 1073741789 := ⟨_, rfl⟩
                      rw [← hA, ← hSx] at HAN
                      have sA : A < 1073741789 := by rw [hA]; exact Nat.mod_lt _ (by omega)
                      have sS : Sx < 1073741789 := by rw [hSx]; exact Nat.mod_lt _ (by omega)
                      have m1 := mul_bd (Nat.le_of_lt sW.out) (Nat.le_of_lt hsh.out)
                      have m2 := mul_bd (Nat.le_of_lt sA) (Nat.le_of_lt sC.out)
                      have m3 := mul_bd (Nat.le_of_lt su.2.out) (Nat.le_of_lt sB.out)
                      have e1 : IntKind.u64.wrap ((W : Int) * sh) = (W : Int) * sh := by rw [IntKind.wrap_u64]; omega
                      have e2 : ((W : Int) * sh).tmod 1073741789 = (A : Int) := by rw [Int.tmod_eq_emod_of_nonneg m1.1, hA]; simp
                      have e3 : IntKind.u64.wrap ((A : Int) * ch) = (A : Int) * ch := by rw [IntKind.wrap_u64]; omega
                      have e4 : ((A : Int) * ch).tmod 1073741789 = (Sx : Int) := by rw [Int.tmod_eq_emod_of_nonneg m2.1, hSx]; simp
                      have e5 : IntKind.u64.wrap ((y : Int) * bd) = (y : Int) * bd := by rw [IntKind.wrap_u64]; omega
                      have su1 := su.1.out
                      have e6 : IntKind.u64.wrap ((u : Int) + (y : Int) * bd) = (u : Int) + (y : Int) * bd := by rw [IntKind.wrap_u64]; omega
                      have e7 : IntKind.u64.wrap ((u : Int) + (y : Int) * bd + Sx) = (u : Int) + (y : Int) * bd + Sx := by rw [IntKind.wrap_u64]; omega
                      have e8 : ((u : Int) + (y : Int) * bd + Sx).tmod 1073741789 = (((u + y * bd + Sx) % 1073741789 : Nat) : Int) := by rw [Int.tmod_eq_emod_of_nonneg (by omega)]; simp
                      have hTi : (0 : Int) < T := by omega
                      have hTn0 : 0 < T := by omega
                      have T0 : On4 wc ⟨q, 5, none⟩ ⟨p, 4, none⟩ ⟨p, 2, none⟩ ⟨cb, 0, none⟩ (.slice ai n cI) (.int .u64 (sh : Int)) (.slice (some ⟨cb, 0, none⟩) T cc) (.int .u64 (F0 : Int)) wc.drew := ⟨n5, i4, i2, ccb, (Below.refl _ _).drew⟩
                      have HS6 : Hid (RS wc p T N cb cc f x sh (.slice a5 (LA ++ LB).length c5) (LA ++ LB)) := S6
                      have HZP : Hid (wc.heap[wr.heap.size]? = some (.cells #[.int .u64 (u : Int), .int .u64 (y : Int), .int .i64 (x : Int), .int .u64 (d : Int), .int .u64 (e : Int)] 179 (0, 0))) := zp6
                      have HOW : Hid (∀ kk, (Value.slice a5 (LA ++ LB).length c5).ownBlock = some kk → w3.heap.size ≤ kk) := hown5
                      have hszl := belw3.size
                      clear hwc o5 B5 K5 Z6 P6 hown5 S6 zp6 zq6 gq6 rdi n5 i2 i4 ccb hF0 hW hch hbd hA hSx m1 m2 m3 sW sC sB z0 z1 z2 z3 z4 z5 z5' g4 o4' S3 hcb
                      go_wp2_with fail
                      go_region_held (fun w' => w'.cell? ⟨q, 5, none⟩ = some (.slice ai n cI) ∧ w'.cell? ⟨p, 4, none⟩ = some (.int .u64 (sh : Int)) ∧ w'.cell? ⟨p, 2, none⟩ = some (.slice (some ⟨cb, 0, none⟩) T cc) ∧ w'.cell? ⟨cb, 0, none⟩ = some (.int .u64 (F0 : Int)) ∧ Below wc.heap.size wc w')
                        (first | assumption | exact T0 | exact On4.below (by assumption) (by assumption)) (first | (go_at_call 29; refine (CW _ (Below.refl _ _).drew).mono ?_; rintro ex w7 ⟨rfl, hw⟩; subst hw) | (go_at_call 26; refine (CH _).mono ?_; rintro ex w7 ⟨rfl, bel7⟩))
                      all_goals
                        have bel8 : Below wc.heap.size wc w7 := (Below.refl _ _).drew.trans bel7
                        have zz := (bel8.block wr.heap.size (lt_of_block HZP.out)).trans HZP.out
                        have x0 : w7.cell? ⟨wr.heap.size, 0, none⟩ = some (.int .u64 (u : Int)) := by simp [World.cell?, zz]
                        have x1 : w7.cell? ⟨wr.heap.size, 1, none⟩ = some (.int .u64 (y : Int)) := by simp [World.cell?, zz]
                        have U0 : On4 w7 ⟨wr.heap.size, 0, none⟩ ⟨wr.heap.size, 1, none⟩ ⟨wr.heap.size, 0, none⟩ ⟨wr.heap.size, 1, none⟩ (.int .u64 (u : Int)) (.int .u64 (y : Int)) (.int .u64 (u : Int)) (.int .u64 (y : Int)) w7.drew := ⟨x0, x1, x0, x1, (Below.refl _ _).drew⟩
                        have CB9 : ∀ w', Below w7.heap.size w7 w' → Calls Tryz.prog 54 #[.pointer (some ⟨q, 0, none⟩), .int .i64 (k : Int)] w' fun ee w'' => ee = .returned (.int .u64 (bd : Nat)) ∧ Below w'.heap.size w' w'' := fun w' hb' => CBD w' (bel8.trans (hb'.mono bel8.size))
                        clear T0 CW CH CBD zz x0 x1 bel7
                        go_wp2_with fail
                        go_region_held (fun w' => w'.cell? ⟨wr.heap.size, 0, none⟩ = some (.int .u64 (u : Int)) ∧ w'.cell? ⟨wr.heap.size, 1, none⟩ = some (.int .u64 (y : Int)) ∧ w'.cell? ⟨wr.heap.size, 0, none⟩ = some (.int .u64 (u : Int)) ∧ w'.cell? ⟨wr.heap.size, 1, none⟩ = some (.int .u64 (y : Int)) ∧ Below w7.heap.size w7 w')
                          (first | assumption | exact U0 | exact On4.below (by assumption) (by assumption)) (first | (go_at_call 54; refine (CB9 _ (Below.refl _ _).drew).mono ?_; rintro ex w9 ⟨rfl, bel9⟩))
                        all_goals
                          have bel10 : Below wc.heap.size wc w9 := bel8.trans (((Below.refl _ _).drew.trans bel9).mono bel8.size)
                          go_wp2_with fail
                          go_ret2
                          refine ⟨0, HLK.out, .inr (.inr (.inr ⟨rfl, k, j, by have := HM.out; omega, hlt, HHit.out, fun h => hR1 (HRR.out.trans h), ?_, .slice a5 (LA ++ LB).length c5, ?_, ?_, ?_⟩))⟩
                          · rw [HX2.out, HAN.out]
                            exact ret2q (by simp)
                          · rw [← HLAB.out]; exact HS6.out.below bel10
                          · exact KF.trans (Below.chg bel10 _)
                          · intro kk hk
                            exact Nat.le_trans hszl (HOW.out kk hk)
                · have HN2 := hno (fun h => he1 h.2.2)
                  have g1 : ((e : Int) == Y) = false := by simp; omega
                  subst hx1 hd1
                  clear hno he1
                  go_wp2_with fail
                  first
                  | exact ⟨⟨j + 1, by omega, by go_num, beli.alloc beli.size _, HN2⟩, by simp [intOf]; omega⟩
                  | (go_roundw
                     case rel => exact ⟨j + 1, by omega, by go_num, beli.alloc beli.size _, HN2⟩
                     case measure => simp [intOf]; omega)
              · have HN2 := hno (fun h => hd1 h.2.1)
                have g1 : ((d : Int) == U) = false := by simp; omega
                subst hx1
                clear hno hd1
                go_wp2_with fail
                first
                | exact ⟨⟨j + 1, by omega, by go_num, beli.alloc beli.size _, HN2⟩, by simp [intOf]; omega⟩
                | (go_roundw
                   case rel => exact ⟨j + 1, by omega, by go_num, beli.alloc beli.size _, HN2⟩
                   case measure => simp [intOf]; omega)
            · have HN2 := hno (fun h => hx1 h.1)
              have g1 : ((x : Int) == id) = false := by simp; omega
              clear hno hx1
              go_wp2_with fail
              first
              | exact ⟨⟨j + 1, by omega, by go_num, beli.alloc beli.size _, HN2⟩, by simp [intOf]; omega⟩
              | (go_roundw
                 case rel => exact ⟨j + 1, by omega, by go_num, beli.alloc beli.size _, HN2⟩
                 case measure => simp [intOf]; omega)
          · go_wp2_with fail
            go_roundw
            case rel =>
              refine ⟨k + 1, by omega, by go_num, belr.trans (belo.mono belr.size), fun k' i' hk' => ?_⟩
              rcases Nat.lt_or_eq_of_le (Nat.le_of_lt_succ hk') with h | rfl
              · exact HH.out k' i' h
              · by_cases hi' : i' < j
                · exact HI.out i' hi'
                · rintro ⟨h0, _⟩
                  have := HM.out
                  omega
            case measure => simp [intOf]; omega
      · have hkn : n = k := by omega
        subst hkn
        go_wp2_with fail
        go_ret2
        exact ⟨0, HLK.out, .inr (.inl ⟨rfl, fun k' i' hk' => HH.out k' i' hk', belw, rfl⟩)⟩
end Go.Proofs.YteoioldbigomaaaGreat
