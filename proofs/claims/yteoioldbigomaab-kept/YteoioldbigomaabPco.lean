import Derived.Test.YteoioldbigomaabPcm
import Derived.Test.YteoioldbigomaabLit
namespace Go.Proofs.Yteoioldbigomaab
open Go.RowKit

/-- What the program's Commit leaves. -/
def PcmPost (w : World) (x : Nat) (F : Nat → Prop) (g : Sg) (l : List (Nat × Nat)) (d e : Nat) (ex : Ending) (w' : World) : Prop :=
  ∃ er F', M.CmE l d e er ∧ Chg F w w' ∧ F' = F ∧
    ((er ≠ 0 ∧ PS w' x F' g l ∧ ex = .returned (.tuple #[.agg #[.int .i64 0, .int .u64 0, .int .u64 0], .int .i64 er])) ∨
     (er = 0 ∧ PS w' x F' g (l ++ [(d, e)]) ∧ ex = .returned (.tuple #[.agg #[.int .i64 (g.id : Nat), .int .u64 (M.pw 2147483579 4 d : Nat), .int .u64 (M.pw 2147483579 4 e : Nat)], .int .i64 0])))

theorem keep_any {w : World} {x gb id sh mb : Nat} {l : List (Nat × Nat)} (h : SB w x gb id sh 0 mb) (hM : MapIs w mb id l) (hne : mb ≠ x) (h9 : id ≤ 9) (h6 : l.length ≤ 6) (hsc : ∀ z ∈ l, SC z.1 ∧ SC z.2) (y : Nat × Nat) (hs : SC y.1 ∧ SC y.2) :
    Calls Try.prog 29 #[.pointer (some ⟨x, 0, none⟩), pkey id y, pval y] w (KeepPost w x gb id sh mb l y) := by
  by_cases hy : y ∈ l
  · exact keep_pair h hM hne h9 y hy
  · exact keep_new h hM hne h9 h6 hsc y hs hy
set_option maxHeartbeats 4000000 in
set_option maxRecDepth 100000 in
theorem pcommit_any (d e : Nat) {w : World} {x : Nat} {F : Nat → Prop} {g : Sg} {l : List (Nat × Nat)} (hP : PS w x F g l) (hok : g.Ok) (hl : Ls l) :
    Calls Try.prog 11 #[.pointer (some ⟨x, 0, none⟩), .int .u64 d, .int .u64 e] w (PcmPost w x F g l d e) := by
  obtain ⟨gb, ab, o, c, mb, h, rfl⟩ := hP
  have h9 : g.id ≤ 9 := Nat.le_trans hok.iN hok.n9
  obtain ⟨W1, hW1⟩ : ∃ W1, w.alloc (.cells #[.int .i64 0, .int .u64 0, .int .u64 0] 40) = W1 := ⟨_, rfl⟩
  have B1 := below_alloc w (.cells #[.int .i64 0, .int .u64 0, .int .u64 0] 40)
  have z1 := heap_alloc_new w (.cells #[.int .i64 0, .int .u64 0, .int .u64 0] 40)
  rw [hW1] at B1 z1
  have h1 := h.below B1
  obtain ⟨W2, hW2⟩ : ∃ W2, W1.alloc (.cells #[.int .u64 (d : Nat), .int .u64 (e : Nat)] 22) = W2 := ⟨_, rfl⟩
  have B2 := below_alloc W1 (.cells #[.int .u64 (d : Nat), .int .u64 (e : Nat)] 22)
  have z2 := heap_alloc_new W1 (.cells #[.int .u64 (d : Nat), .int .u64 (e : Nat)] 22)
  rw [hW2] at B2 z2
  have BW2 : Below w.heap.size w W2 := B1.trans (B2.mono B1.size)
  have hw1 : w.heap.size < W1.heap.size := lt_of_block z1
  have hw2 : W1.heap.size < W2.heap.size := lt_of_block z2
  have CA := allN_core (some ⟨W1.heap.size, 0, none⟩) 2 [d, e] W2 (by simp) (rd_lit2 z2)
  have r2 := (B2.block w.heap.size hw1).trans z1
  have HH : Hid (PSat w x gb ab o c mb g l) := h
  have CM := made_yes h1.sb
  clear h h1 z2
  go_enter Try.func11, Try.ntmps11
  go_upto_region 1 with fail
  clear hW1
  go_wp2_with (go_at_call 25; refine CM.mono ?_; rintro e w' ⟨rfl, hw'⟩; subst hw')
  refine CA.mono ?_
  clear CA hW2 CM
  rintro ex w3 ⟨b3, ⟨hnz, nb, rfl, rd3⟩ | ⟨hnz, rfl⟩⟩
  · have hd : NZ d := hnz d (by simp)
    have he : NZ e := hnz e (by simp)
    have hcm : d ≠ 0 ∧ e ≠ 0 ∧ SC d ∧ SC e := ⟨hd.ne, he.ne, hd.sc, he.sc⟩
    have bw3 : Below w.heap.size w w3 := BW2.trans (b3.mono BW2.size)
    have r3 := (b3.block w.heap.size (by omega)).trans r2
    have h3 := HH.out.below bw3
    obtain ⟨nb', no, hnb, hnl, hnc⟩ := rd3.at (by simp)
    simp only [Option.some.injEq, Addr.mk.injEq, and_true] at hnb
    obtain ⟨rfl, rfl⟩ := hnb
    have c0 : w3.cell? ⟨nb, 0, none⟩ = some (.int .u64 (d : Nat)) := hnc 0 (by simp)
    have c1 : w3.cell? ⟨nb, 1, none⟩ = some (.int .u64 (e : Nat)) := hnc 1 (by simp)
    have HN : Hid (NZ d ∧ NZ e) := ⟨hd, he⟩
    have HC : Hid (d ≠ 0 ∧ e ≠ 0 ∧ SC d ∧ SC e) := hcm
    clear hnz hnc rd3 hd he hcm r2 hw2
    go_upto_region 6 with fail
    have K6 : ∀ w'', Below w3.heap.size w3 w'' → w''.cell? ⟨nb, 0, none⟩ = some (.int .u64 (d : Nat)) ∧ w''.cell? ⟨nb, 1, none⟩ = some (.int .u64 (e : Nat)) ∧ Below w3.heap.size w3 w'' := fun w'' b => ⟨(b.cell (p := ⟨nb, 0, none⟩) hnl).trans c0, (b.cell (p := ⟨nb, 1, none⟩) hnl).trans c1, b⟩
    go_cut [10] from 27 (fun s10 wx => s10 = .pointer (some ⟨w3.heap.size, 0, none⟩) ∧ wx = (w3.alloc (.cells #[.int .u64 (d : Nat), .int .u64 (e : Nat)] 78)).drew)
    case first =>
      go_region_held (fun w'' => w''.cell? ⟨nb, 0, none⟩ = some (.int .u64 (d : Nat)) ∧ w''.cell? ⟨nb, 1, none⟩ = some (.int .u64 (e : Nat)) ∧ Below w3.heap.size w3 w'')
        (first | assumption | exact K6 _ (Below.refl _ _).drew | exact K6 _ (below_alloc _ _).drew) (fail)
      all_goals
        go_wp2_with fail
        go_meet
        case rel => exact ⟨rfl, rfl⟩
    case rest =>
      obtain ⟨rfl, hwc⟩ := hcut
      have dV : Below w3.heap.size w3 wc := by rw [hwc]; exact (below_alloc _ _).drew
      have p4 : wc.heap[w3.heap.size]? = some (.cells #[.int .u64 (d : Nat), .int .u64 (e : Nat)] 78 (0, 0)) := by rw [hwc]; exact heap_alloc_new w3 _
      obtain ⟨V, hV⟩ : ∃ V, V = wc := ⟨_, rfl⟩
      subst hV
      clear hwc K6 c0 c1
      have h4 := h3.below dV
      have r4 := (dV.block w.heap.size (lt_of_block r3)).trans r3
      have hw3V : w3.heap.size < V.heap.size := lt_of_block p4
      have HI := hok
      have K7 : ∀ w'', Below V.heap.size V w'' → w''.cell? ⟨x, 1, none⟩ = some (.int .i64 (g.id : Nat)) ∧ w''.cell? ⟨w3.heap.size, 0, none⟩ = some (.int .u64 (d : Nat)) ∧ w''.cell? ⟨w3.heap.size, 1, none⟩ = some (.int .u64 (e : Nat)) ∧ Below V.heap.size V w'' := by
        intro w'' b
        have Z := (b.block w3.heap.size hw3V).trans p4
        exact ⟨(h4.sb.below b).cells.2.1, by simp [World.cell?, Z], by simp [World.cell?, Z], b⟩
      obtain ⟨X, hX⟩ : ∃ X, X = M.pw 2147483579 4 d := ⟨_, rfl⟩
      obtain ⟨Y, hY⟩ : ∃ Y, Y = M.pw 2147483579 4 e := ⟨_, rfl⟩
      have CX := fun w' => toThe_any d w' HN.out.1.sc
      have CY := fun w' => toThe_any e w' HN.out.2.sc
      rw [← hX] at CX
      rw [← hY] at CY
      have HX : Hid (X = M.pw 2147483579 4 d) := hX
      have HY : Hid (Y = M.pw 2147483579 4 e) := hY
      clear hX hY
      go_upto_region 7 with fail
      go_cut [11] from 34 (fun s11 wx => s11 = .pointer (some ⟨V.heap.size, 0, none⟩) ∧ wx = (V.alloc (.cells #[.int .i64 (g.id : Nat), .int .u64 (X : Nat), .int .u64 (Y : Nat)] 40)).drew)
      case first =>
        go_region_held (fun w'' => w''.cell? ⟨x, 1, none⟩ = some (.int .i64 (g.id : Nat)) ∧ w''.cell? ⟨w3.heap.size, 0, none⟩ = some (.int .u64 (d : Nat)) ∧ w''.cell? ⟨w3.heap.size, 1, none⟩ = some (.int .u64 (e : Nat)) ∧ Below V.heap.size V w'')
          (first | assumption | exact K7 _ (Below.refl _ _).drew | exact K7 _ (below_alloc _ _).drew) (first | (go_at_call 28; refine (CX _).mono ?_; rintro ex w5 ⟨rfl, hw5⟩; subst hw5) | (go_at_call 28; refine (CY _).mono ?_; rintro ex w5 ⟨rfl, hw5⟩; subst hw5))
        all_goals
          go_wp2_with fail
          go_meet
          case rel => exact ⟨rfl, rfl⟩
      case rest =>
        obtain ⟨rfl, hwc⟩ := hcut
        have dW : Below V.heap.size V wc := by rw [hwc]; exact (below_alloc _ _).drew
        have q5 : wc.heap[V.heap.size]? = some (.cells #[.int .i64 (g.id : Nat), .int .u64 (X : Nat), .int .u64 (Y : Nat)] 40 (0, 0)) := by rw [hwc]; exact heap_alloc_new V _
        have p5 := (dW.block w3.heap.size hw3V).trans p4
        have h5 := h4.below dW
        have r5 := (dW.block w.heap.size (lt_of_block r4)).trans r4
        have bwc : Below w.heap.size w wc := (bw3.trans (dV.mono bw3.size)).trans (dW.mono (Nat.le_trans bw3.size dV.size))
        have CK := keep_any h5.sb h5.mp h5.n3 h9 hl.six hl.sc (d, e) ⟨HN.out.1.sc, HN.out.2.sc⟩
        have ek : pkey g.id (d, e) = .agg #[.int .i64 (g.id : Nat), .int .u64 (X : Nat), .int .u64 (Y : Nat)] := by rw [HX.out, HY.out]
        rw [ek] at CK
        obtain ⟨k0, k1, k2, _, _, _⟩ := three q5
        obtain ⟨v0, v1, _, _⟩ := pr_cells p5
        have hVw : V.heap.size < wc.heap.size := lt_of_block q5
        have hxw : x < w.heap.size := HH.out.sb.lt
        have hmw : mb < w.heap.size := HH.out.mp.lt
        have hwV : w.heap.size < V.heap.size := lt_of_block r4
        have H5 : Hid (PSat wc x gb ab o c mb g l) := h5
        clear hwc K7 CX CY ek h4 h3 h5 p4 r4 r3
        go_wp2_with fail
        refine CK.mono ?_
        clear CK
        rintro ex w6 ⟨er, her, rfl, C6, S6, M6⟩
        have hx6 : ∀ k, k ≠ x → k ≠ mb → k < wc.heap.size → w6.heap[k]? = wc.heap[k]? := fun k h1 h2 h3 => C6.block k h3 (by rintro (h | h); exact h1 h; exact h2 h)
        have r6 := (hx6 w.heap.size (by omega) (by omega) (by omega)).trans r5
        have q6 := (hx6 V.heap.size (by omega) (by omega) hVw).trans q5
        obtain ⟨k0', k1', k2', _, _, _⟩ := three q6
        obtain ⟨y0, y1, y2, z0, z1, z2⟩ := three r6
        have C0 : Chg (psF x gb ab mb) w w6 := (Below.chg bwc _).trans (C6.mono fun k hk => by rcases hk with h | h; exact .inl h; exact .inr (.inr (.inr h)))
        have hs6 := C6.size
        have P6 : PSat w6 x gb ab o c mb g (if er = 0 then l ++ [(d, e)] else l) := by
          obtain ⟨dd, G⟩ := H5.out.gr
          have hcl := H5.out
          exact ⟨S6, ⟨dd, G.same (hx6 gb hcl.n1 (fun e => hcl.n4 e.symm) G.lt)⟩, hcl.rd.chg C6 (fun z hz => by simp only [Option.some.injEq] at hz; subst hz; rintro (h | h); exact hcl.n2 h; exact hcl.n5 h.symm), M6, hcl.n1, hcl.n2, hcl.n3, hcl.n4, hcl.n5, Nat.lt_of_lt_of_le hcl.lt hs6⟩
        have HS : Hid (SB w6 x gb g.id g.sh 0 mb ∧ MapIs w6 mb g.id (if er = 0 then l ++ [(d, e)] else l)) := ⟨S6, M6⟩
        have fin : ∀ u0 u1 u2, Chg (psF x gb ab mb) w (((w6.setCell ⟨w.heap.size, 0, none⟩ u0).setCell ⟨w.heap.size, 1, none⟩ u1).setCell ⟨w.heap.size, 2, none⟩ u2) ∧ PS (((w6.setCell ⟨w.heap.size, 0, none⟩ u0).setCell ⟨w.heap.size, 1, none⟩ u1).setCell ⟨w.heap.size, 2, none⟩ u2) x (psF x gb ab mb) g (if er = 0 then l ++ [(d, e)] else l) := by
          intro u0 u1 u2
          have hcl := HH.out
          obtain ⟨dd, G⟩ := hcl.gr
          refine ⟨C0.on (chg_set3 w6 w.heap.size u0 u1 u2) (fun j hj => .inr (by omega)), gb, ab, o, c, mb, P6.chg (chg_set3 w6 w.heap.size u0 u1 u2) ?_, rfl⟩
          have := G.lt
          have := hcl.lt
          rintro b (rfl | rfl | rfl | rfl) <;> omega
        have H6 : Hid (PSat w6 x gb ab o c mb g (if er = 0 then l ++ [(d, e)] else l)) := P6
        clear P6 S6 M6 C6 hx6 k0 k1 k2 v0 v1 r5 q5 r6 q6 p5
        rcases her with ⟨hy, rfl⟩ | ⟨hy, h6, rfl⟩ | ⟨hy, h6, rfl⟩
        · have HY2 : Hid ((d, e) ∈ l) := hy
          have f := fin (.int .i64 0) (.int .u64 0) (.int .u64 0)
          rw [if_neg (by omega)] at f
          have HF := Hid.intro f
          clear hy f fin
          go_wp2_with fail
          exact bodyPost_ret (v := .tuple #[.agg #[.int .i64 0, .int .u64 0, .int .u64 0], .int .i64 15]) (by simp [results, Try.results11, go_sem, *]) rfl ⟨15, _, .inr (.inl ⟨HC.out, HY2.out, rfl⟩), HF.out.1, rfl, .inl ⟨by omega, HF.out.2, rfl⟩⟩
        · have HY2 : Hid ((d, e) ∉ l) := hy
          have f := fin (.int .i64 0) (.int .u64 0) (.int .u64 0)
          rw [if_neg (by omega)] at f
          have HF := Hid.intro f
          have hl6 := hl.six
          have H66 : Hid (l.length = 6) := Nat.le_antisymm hl6 h6
          clear hy f fin h6 hl6
          go_wp2_with fail
          exact bodyPost_ret (v := .tuple #[.agg #[.int .i64 0, .int .u64 0, .int .u64 0], .int .i64 9]) (by simp [results, Try.results11, go_sem, *]) rfl ⟨9, _, .inr (.inr (.inl ⟨HC.out, HY2.out, H66.out, rfl⟩)), HF.out.1, rfl, .inl ⟨by omega, HF.out.2, rfl⟩⟩
        · have HY2 : Hid ((d, e) ∉ l) := hy
          have f := fin (.int .i64 (g.id : Nat)) (.int .u64 (X : Nat)) (.int .u64 (Y : Nat))
          rw [if_pos rfl] at f
          have HF := Hid.intro f
          have H66 : Hid (l.length ≠ 6) := fun h => absurd h6 (by omega)
          clear hy f fin h6
          go_wp2_with fail
          refine bodyPost_ret (v := .tuple #[.agg #[.int .i64 (g.id : Nat), .int .u64 (X : Nat), .int .u64 (Y : Nat)], .int .i64 0]) (by simp [results, Try.results11, go_sem, *]) rfl ⟨0, _, .inr (.inr (.inr ⟨HC.out, HY2.out, H66.out, rfl⟩)), HF.out.1, rfl, .inr ⟨rfl, HF.out.2, ?_⟩⟩
          rw [HX.out, HY.out]
  · have bw3 : Below w.heap.size w w3 := BW2.trans (b3.mono BW2.size)
    have r3 := (b3.block w.heap.size (by omega)).trans r2
    obtain ⟨y0, y1, y2, z0', z1', z2'⟩ := three r3
    have HC : Hid (¬ (d ≠ 0 ∧ e ≠ 0 ∧ SC d ∧ SC e)) := fun h => hnz (by
      intro y hy
      simp at hy
      rcases hy with rfl | rfl
      · exact ⟨h.1, h.2.2.1⟩
      · exact ⟨h.2.1, h.2.2.2⟩)
    have P3 : PS (((w3.setCell ⟨w.heap.size, 0, none⟩ (.int .i64 0)).setCell ⟨w.heap.size, 1, none⟩ (.int .u64 0)).setCell ⟨w.heap.size, 2, none⟩ (.int .u64 0)) x (psF x gb ab mb) g l := by
      have hcl := HH.out
      obtain ⟨dd, G⟩ := hcl.gr
      refine ⟨gb, ab, o, c, mb, (hcl.below bw3).chg (chg_set3 w3 w.heap.size _ _ _) ?_, rfl⟩
      have := G.lt
      have := hcl.lt
      have := hcl.sb.lt
      have := hcl.mp.lt
      rintro b (rfl | rfl | rfl | rfl) <;> omega
    have C3 : Chg (psF x gb ab mb) w (((w3.setCell ⟨w.heap.size, 0, none⟩ (.int .i64 0)).setCell ⟨w.heap.size, 1, none⟩ (.int .u64 0)).setCell ⟨w.heap.size, 2, none⟩ (.int .u64 0)) := (Below.chg bw3 _).on (chg_set3 w3 w.heap.size _ _ _) (fun j hj => .inr (by omega))
    have HF := Hid.intro (And.intro C3 P3)
    clear P3 C3 r2 r3 hnz hw2 z1
    go_wp2_with fail
    exact bodyPost_ret (v := .tuple #[.agg #[.int .i64 0, .int .u64 0, .int .u64 0], .int .i64 2]) (by simp [results, Try.results11, go_sem, *]) rfl ⟨2, _, .inl ⟨HC.out, rfl⟩, HF.out.1, rfl, .inl ⟨by omega, HF.out.2, rfl⟩⟩
end Go.Proofs.Yteoioldbigomaab
