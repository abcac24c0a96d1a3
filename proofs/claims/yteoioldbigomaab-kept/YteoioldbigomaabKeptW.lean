import Derived.Test.YteoioldbigomaabKc
namespace Go.Proofs.Yteoioldbigomaab
open Go.RowKit

theorem Chg.below {P : Nat → Prop} {a b : World} {B : Nat} (h : Chg P a b) (hp : ∀ k, P k → B ≤ k) (hB : B ≤ a.heap.size) : Below B a b :=
  ⟨h.os, h.tape, h.output, h.size, fun k hk => h.block k (by omega) fun hh => by have := hp k hh; omega⟩
/-- A signer that is one's own is let in. -/
theorem pnew_sure (id : Nat) (a : Option Addr) (c sh : Nat) (f : Nat → Nat) (w : World) (hr : RdF w a 2 (cu (M.sq f 2))) (hR : RightG 2 2 2 f) (h1 : 1 ≤ id) (h2 : id ≤ 2) (hs : SC sh) (hsh : M.pw 2147483579 4 sh = M.pub f 2 id) :
    Calls Try.prog 10 #[.agg #[.int .i64 2, .int .i64 2, .slice a 2 c], .int .i64 (id : Nat), .int .u64 sh] w fun e w' => Below w.heap.size w w' ∧ ∃ x F, e = .returned (.tuple #[.pointer (some ⟨x, 0, none⟩), .int .i64 0]) ∧ (∀ b, F b → w.heap.size ≤ b) ∧ PS w' x F ⟨2, 2, id, sh, f⟩ [] := by
  refine (pnew_any 2 2 id a 2 c sh f w hr).mono ?_
  rintro e w' ⟨b, er, hns, hres⟩
  have hn0 : M.NsE 2 2 2 f (id : Int) sh 0 := .inr (.inr (.inr (.inr ⟨hR, ⟨by omega, by omega⟩, hs, by simpa using hsh, rfl⟩)))
  have h0 := hns.one hn0
  subst h0
  rcases hres with ⟨hne, _⟩ | ⟨_, x, F, he, hF, hps⟩
  · exact absurd rfl hne
  · refine ⟨b, x, F, he, hF, ?_⟩
    simpa using hps

set_option maxHeartbeats 8000000 in
set_option maxRecDepth 100000 in
theorem kept_walk (seed : Nat) (order : ByteArray) (w : World) :
    Calls Try.prog 4 #[.int .u64 seed, .string order] w fun e w' => e = .returned (.bool true) ∧ Below w.heap.size w w' := by
  have D := dealt_any 0 0 0 seed w (by omega) (by omega) (by omega) (by omega)
  go_enter Try.func4, Try.ntmps4
  go_wp2_with fail
  refine D.mono ?_
  rintro e w1 ⟨bel1, T, N, m, a1, c1, a2, c2, a3, c3, d, hT2, hTN, hN9, hTm, hmN, rfl, rd1, rd2, rd3, hd, hlt, hT, hN⟩
  obtain rfl : T = 2 := hT rfl
  obtain rfl : N = 2 := hN rfl
  clear D hd hlt rd3 hT hN hT2 hTN hN9
  have bA := below_alloc w1 (gro 2 2 a1 2 c1)
  have zA := three (gro_new w1 2 2 a1 2 c1)
  have rd1a := rd1.below bA
  have rd2a := rd2.below bA
  obtain ⟨b2, o2, rfl, hb2, hc2⟩ := rd2a.at (by omega)
  obtain ⟨y1, hy1⟩ : ∃ y, y = M.poly (cf seed) 2 1 := ⟨_, rfl⟩
  obtain ⟨y2, hy2⟩ : ∃ y, y = M.poly (cf seed) 2 2 := ⟨_, rfl⟩
  have s1 := hc2 0 (by omega)
  have s2 := hc2 1 (by omega)
  rw [M.cu_sq _ _ _ (by omega)] at s1 s2
  have hs1 : SC y1 := by rw [hy1]; exact M.sumQ_lt _
  have hs2 : SC y2 := by rw [hy2]; exact M.sumQ_lt _
  have hR : RightG 2 2 2 (M.coms (cf seed)) := M.right_coms (cf seed) 2 2 (by omega) (by omega) (by omega) (cf_ne seed 0) (cf_sc seed 0)
  obtain ⟨W1, hW1⟩ : ∃ W1, w1.alloc (gro 2 2 a1 2 c1) = W1 := ⟨_, rfl⟩
  have hW1' : w1.alloc (Obj.cells #[.int .i64 2, .int .i64 2, .slice a1 2 c1] 25) = W1 := hW1
  rw [hW1] at bA zA rd1a rd2a hb2 s1 s2 hc2
  have bw1 : Below w.heap.size w W1 := bel1.trans (bA.mono bel1.size)
  have hm1 : w1.heap.size < W1.heap.size := by rw [← hW1, size_alloc]; omega
  have N1 := fun w' (hb : Below W1.heap.size W1 w') => pnew_sure 1 a1 c1 y1 (M.coms (cf seed)) w' (rd1a.below hb) hR (by omega) (by omega) hs1 ((M.pub_one _ _ _ _ hs1).2 hy1)
  have N2 := fun w' (hb : Below W1.heap.size W1 w') => pnew_sure 2 a1 c1 y2 (M.coms (cf seed)) w' (rd1a.below hb) hR (by omega) (by omega) hs2 ((M.pub_one _ _ _ _ hs2).2 hy2)
  have HOK1 : Hid (Sg.Ok ⟨2, 2, 1, y1, M.coms (cf seed)⟩) := ⟨hR, by simp, by simp, hs1⟩
  have HOK2 : Hid (Sg.Ok ⟨2, 2, 2, y2, M.coms (cf seed)⟩) := ⟨hR, by simp, by simp, hs2⟩
  have K4 : ∀ w', Below W1.heap.size W1 w' → w'.cell? ⟨w1.heap.size, 0, none⟩ = some (.int .i64 2) ∧ w'.cell? ⟨w1.heap.size, 1, none⟩ = some (.int .i64 2) ∧ w'.cell? ⟨w1.heap.size, 2, none⟩ = some (.slice a1 2 c1) ∧ w'.cell? ⟨b2, o2, none⟩ = some (.int .u64 (y1 : Nat)) ∧ w'.cell? ⟨b2, o2 + 1, none⟩ = some (.int .u64 (y2 : Nat)) ∧ Below W1.heap.size W1 w' := by
    intro w' bb
    refine ⟨(bb.cell (p := ⟨w1.heap.size, 0, none⟩) hm1).trans zA.1, (bb.cell (p := ⟨w1.heap.size, 1, none⟩) hm1).trans zA.2.1, (bb.cell (p := ⟨w1.heap.size, 2, none⟩) hm1).trans zA.2.2.1, ?_, ?_, bb⟩
    · rw [hy1]; exact (bb.cell (p := ⟨b2, o2, none⟩) hb2).trans s1
    · rw [hy2]; exact (bb.cell (p := ⟨b2, o2 + 1, none⟩) hb2).trans s2
  clear s1 s2 hc2 hy1 hy2 rd1a rd2a zA hR rd1 rd2 bA
  go_upto_region 4 with fail
  clear hW1 hW1'
  go_cut [9, 10] from 40 (fun s9 s10 wx => s10 = .int .i64 0 ∧ Below W1.heap.size W1 wx ∧ ∃ x F, s9 = .pointer (some ⟨x, 0, none⟩) ∧ (∀ b, F b → W1.heap.size ≤ b) ∧ PS wx x F ⟨2, 2, 1, y1, M.coms (cf seed)⟩ [])
  case first =>
    go_region_held (fun w' => w'.cell? ⟨w1.heap.size, 0, none⟩ = some (.int .i64 2) ∧ w'.cell? ⟨w1.heap.size, 1, none⟩ = some (.int .i64 2) ∧ w'.cell? ⟨w1.heap.size, 2, none⟩ = some (.slice a1 2 c1) ∧ w'.cell? ⟨b2, o2, none⟩ = some (.int .u64 (y1 : Nat)) ∧ w'.cell? ⟨b2, o2 + 1, none⟩ = some (.int .u64 (y2 : Nat)) ∧ Below W1.heap.size W1 w')
      (first | assumption | exact K4 _ (Below.refl _ _).drew | exact K4 _ b3) (first | (go_at_call 10; refine (N1 _ (Below.refl _ _).drew).mono ?_; rintro ex w3 ⟨b3', x, F, rfl, hF, hps⟩; have b3 : Below W1.heap.size W1 w3 := (Below.refl _ _).drew.trans b3'))
    all_goals
      go_wp2_with fail
      go_meet
      case rel => exact ⟨rfl, b3, x, F, rfl, hF, hps⟩
  case rest =>
    obtain ⟨rfl, b3, x, F, rfl, hF, hps⟩ := hcut
    obtain ⟨W2, hW2⟩ : ∃ W2, W2 = wc := ⟨_, rfl⟩
    subst hW2
    go_upto_region 5 with fail
    go_cut [11, 12] from 48 (fun s11 s12 wx => s12 = .int .i64 0 ∧ Below W2.heap.size W2 wx ∧ ∃ x F, s11 = .pointer (some ⟨x, 0, none⟩) ∧ (∀ b, F b → W2.heap.size ≤ b) ∧ PS wx x F ⟨2, 2, 2, y2, M.coms (cf seed)⟩ [])
    case first =>
      go_region_held (fun w' => w'.cell? ⟨w1.heap.size, 0, none⟩ = some (.int .i64 2) ∧ w'.cell? ⟨w1.heap.size, 1, none⟩ = some (.int .i64 2) ∧ w'.cell? ⟨w1.heap.size, 2, none⟩ = some (.slice a1 2 c1) ∧ w'.cell? ⟨b2, o2, none⟩ = some (.int .u64 (y1 : Nat)) ∧ w'.cell? ⟨b2, o2 + 1, none⟩ = some (.int .u64 (y2 : Nat)) ∧ Below W1.heap.size W1 w')
        (first | assumption | exact K4 _ b3.drew | exact K4 _ b4) (first | (go_at_call 10; refine (N2 _ b3.drew).mono ?_; rintro ex w4 ⟨b4', x2, F2, rfl, hF2, hps2⟩; have b4 : Below W1.heap.size W1 w4 := b3.drew.trans (b4'.mono b3.drew.size); have b4w : Below W2.heap.size W2 w4 := (Below.refl _ _).drew.trans b4'))
      all_goals
        go_wp2_with fail
        go_meet
        case rel => exact ⟨rfl, b4w, x2, F2, rfl, hF2, hps2⟩
    case rest =>
      obtain ⟨rfl, b4, x2, F2, rfl, hF2, hps2⟩ := hcut
      obtain ⟨W3, hW3⟩ : ∃ W3, W3 = wc := ⟨_, rfl⟩
      subst hW3
      have CC := pcommit_any 3 4 hps2 HOK2.out Ls.nil
      have hps3 : PS W3 x F ⟨2, 2, 1, y1, M.coms (cf seed)⟩ [] := side.chg hps (Below.chg b4 fun _ => False) fun _ _ h => h
      have hF1 : ∀ b, F b → b < W2.heap.size := side.lt hps
      have bw3 : Below w.heap.size w W3 := (bw1.trans (b3.mono bw1.size)).trans (b4.mono (Nat.le_trans bw1.size b3.size))
      clear N1 N2 K4 hps hps2
      go_wp2_with fail
      refine CC.mono ?_
      clear CC
      rintro ex W4 ⟨er, F2', hcm, hc4, rfl, hres⟩
      have hc0 : M.CmE [] 3 4 0 := .inr (.inr (.inr ⟨⟨by omega, by omega, ⟨by omega⟩, ⟨by omega⟩⟩, by simp, by simp, rfl⟩))
      have he0 := hcm.one hc0
      subst he0
      obtain ⟨hne, _⟩ | ⟨_, _, rfl⟩ := hres
      · exact absurd rfl hne
      · obtain ⟨X3, hX3⟩ : ∃ X, X = M.pw 2147483579 4 3 := ⟨_, rfl⟩
        obtain ⟨X4, hX4⟩ : ∃ X, X = M.pw 2147483579 4 4 := ⟨_, rfl⟩
        have HX : Hid (PRO X3 ∧ PRO X4) := ⟨by rw [hX3]; exact pro_four ⟨by omega, ⟨by omega⟩⟩, by rw [hX4]; exact pro_four ⟨by omega, ⟨by omega⟩⟩⟩
        rw [← hX3, ← hX4]
        have hps4 : PS W4 x F ⟨2, 2, 1, y1, M.coms (cf seed)⟩ [] := side.chg hps3 hc4 fun b hb h2 => by have h3 := hF1 b hb; have h4 := hF2 b h2; omega
        have bB := below_alloc W4 (.cells #[.int .i64 2, .int .u64 (X3 : Nat), .int .u64 (X4 : Nat)] 40)
        have zB := heap_alloc_new W4 (.cells #[.int .i64 2, .int .u64 (X3 : Nat), .int .u64 (X4 : Nat)] 40)
        obtain ⟨W0, hW0⟩ : ∃ W0, W4.alloc (.cells #[.int .i64 2, .int .u64 (X3 : Nat), .int .u64 (X4 : Nat)] 40) = W0 := ⟨_, rfl⟩
        rw [hW0] at bB zB
        have hps0 : PS W0 x F ⟨2, 2, 1, y1, M.coms (cf seed)⟩ [] := side.chg hps4 (Below.chg bB fun _ => False) fun _ _ h => h
        clear hX3 hX4 hps3 hps4 hcm hc0
        obtain ⟨g, hg⟩ : ∃ g : Sg, g = ⟨2, 2, 1, y1, M.coms (cf seed)⟩ := ⟨_, rfl⟩
        have G : G1 g := by rw [hg]; exact ⟨HOK1.out, rfl, rfl, rfl⟩
        rw [← hg] at hps0
        have hF0 : ∀ b, F b → b < W0.heap.size := side.lt hps0
        have HF0 : Hid (∀ b, F b → b < W0.heap.size) := hF0
        have hbw : w.heap.size ≤ W1.heap.size := bw1.size
        have CW : Chg (fun k => w.heap.size ≤ k) w W0 := ((Chg.of_below bw3).trans (hc4.mono fun k hk => by have h1 := hF2 k hk; have h2 := b3.size; omega)).trans (Below.chg bB _)
        have HFW : Hid (∀ b, F b → w.heap.size ≤ b) := fun b hb => by have := hF b hb; omega
        have HI0 : Hid (KI W0 W0 x F g (.slice none 0 0) [] []) := ⟨Chg.refl _ _, hps0, World.ownsRow_nil _ _ _ _⟩
        have HCW : Hid (Chg (fun k => w.heap.size ≤ k) w W0) := CW
        have HZB : Hid (W0.heap[W4.heap.size]? = some (.cells #[.int .i64 2, .int .u64 (X3 : Nat), .int .u64 (X4 : Nat)] 40 (0, 0))) := zB
        have HF4 : Hid (∀ b, F b → b < W4.heap.size) := fun b hb => by have h1 := hF1 b hb; have h2 := b4.size; have h3 := hc4.size; omega
        clear hps0 hF0 hg HOK1 HOK2 hF hF1 hF2 hs1 hs2 bB zB hc4 bw3 b3 b4 bw1 CW bel1 hTm hmN hb2 hm1
        go_upto_region 11 with fail
        clear hW0
        go_wp2_with fail
        go_loopw [14, 15, 16] (fun v q i wr => ∃ (k y : Nat) (l : List (Nat × Nat)), i = .int .i64 k ∧ q = .int .u64 y ∧ k ≤ 200 ∧ 1 ≤ y ∧ y ≤ k + 1 ∧ Hid (KI W0 wr x F g v l l ∧ Ls l ∧ Up l y)) (fun _ _ i _ => 200 - (intOf i).toNat)
        case atStart => exact ⟨0, 1, [], rfl, rfl, by omega, by omega, by omega, HI0.out, Ls.nil, fun p hp => by simp at hp⟩
        case round =>
          obtain ⟨k, y, l, rfl, rfl, hk2, hy1, hy2, HK⟩ := hrel
          obtain ⟨hKI, hLs, hUp⟩ := HK.out
          obtain ⟨av, cv, hv, hnil, hcells⟩ := hKI.kp.form
          subst hv
          obtain ⟨n, hn⟩ : ∃ n, n = l.length := ⟨_, rfl⟩
          have HN : Hid (n = l.length) := hn
          have hn6 : n ≤ 6 := by rw [hn]; exact hLs.six
          have HC : Hid (l.length ≠ 0 → ∃ g, av = some ⟨g, 0, none⟩ ∧ W0.heap.size ≤ g ∧ g < wr.heap.size ∧ l.length ≤ cv ∧ ∀ j u, (kcl l)[j]? = some u → wr.cell? ⟨g, j, none⟩ = some u) := hcells
          have HKI : Hid (KI W0 wr x F g (.slice av l.length cv) l l) := hKI
          rw [← hn]
          clear hn hnil hcells HK
          by_cases hk : k < order.size ∧ k < 200
          · have d1 : decide ((k : Int) < order.size) = true := decide_eq_true (by omega)
            have d2 : decide ((k : Int) < 200) = true := decide_eq_true (by omega)
            have hks : k < order.size := hk.1
            obtain ⟨z, hz, hz255⟩ : ∃ z : Nat, wrap64 ((order[k].toNat : Nat) : Int) = (z : Int) ∧ z ≤ 255 := by
              have h1 : order[k].toNat < 256 := order[k].toNat_lt
              exact ⟨order[k].toNat, by unfold wrap64; omega, by omega⟩
            go_upto_region 23 with fail
            rw [hz]
            clear hz d1 d2
            have ez : ((z : Int).tmod 3) = (z : Int) % 3 := Int.tmod_eq_emod_of_nonneg (by omega)
            by_cases h0 : z % 3 = 0
            · have b0 : ((z : Int) % 3 == 0) = true := by simp; omega
              have C1 := kcommit hKI HF0.out G hLs hUp hy1 (by omega)
              clear ez h0
              go_upto_region 24 with fail
              clear b0
              go_wp2_with fail
              refine C1.mono ?_
              clear C1
              rintro ex w5 ⟨hcA, ⟨h6, hKI5, rfl⟩ | ⟨h6, hKI5, rfl⟩⟩
              · have b6 : ((n : Int) == 6) = true := by have := HN.out; simp; omega
                have HK5 : Hid (KI W0 w5 x F g (.slice av l.length cv) l l) := hKI5
                clear hKI5 hKI h6
                go_wp2_with fail
                go_roundw
                case rel => exact ⟨k + 1, y, l, by go_num, rfl, by omega, hy1, by omega, by rw [HN.out]; exact HK5.out.below (below_alloc _ _), hLs, hUp⟩
                case measure => simp [intOf]; omega
              · have b6 : ((n : Int) == 6) = false := by have := HN.out; simp; omega
                have hn5 : n < 6 := by have := HN.out; omega
                have hLs2 := hLs.more hUp hy1 (by omega) h6
                obtain ⟨Y1, hY1⟩ : ∃ Y, Y = M.pw 2147483579 4 y := ⟨_, rfl⟩
                obtain ⟨Y2, hY2⟩ : ∃ Y, Y = M.pw 2147483579 4 (y + 1) := ⟨_, rfl⟩
                have HY : Hid (Y1 = M.pw 2147483579 4 y ∧ Y2 = M.pw 2147483579 4 (y + 1)) := ⟨hY1, hY2⟩
                rw [← hY1, ← hY2]
                have b5 := below_alloc w5 (.cells #[.int .i64 1, .int .u64 (Y1 : Nat), .int .u64 (Y2 : Nat)] 40)
                have z5 := heap_alloc_new w5 (.cells #[.int .i64 1, .int .u64 (Y1 : Nat), .int .u64 (Y2 : Nat)] 40)
                have C2 := kcommit2 (hKI5.below b5) HF0.out G hLs2 hy1 (by omega)
                obtain ⟨W5, hW5⟩ : ∃ W5, w5.alloc (.cells #[.int .i64 1, .int .u64 (Y1 : Nat), .int .u64 (Y2 : Nat)] 40) = W5 := ⟨_, rfl⟩
                have hs5 : W0.heap.size ≤ w5.heap.size := hKI5.chg.size
                rw [hW5] at b5 z5 C2
                clear h6 hKI5 hKI hY1 hY2
                go_upto_region 30 with fail
                clear hW5 b6
                go_wp2_with fail
                refine C2.mono ?_
                clear C2
                rintro ex w6 ⟨hc6, hKI6, rfl⟩
                have hlt5 : w5.heap.size < W5.heap.size := lt_of_block z5
                have z6 : w6.heap[w5.heap.size]? = some (.cells #[.int .i64 1, .int .u64 (Y1 : Nat), .int .u64 (Y2 : Nat)] 40 (0, 0)) :=
                  (hc6.block w5.heap.size hlt5 (fun hf => by have := HF0.out _ hf; omega)).trans z5
                have hs6 := hc6.size
                have b7 := below_alloc w6 (.cells #[.int .i64 0, .int .u64 0, .int .u64 0] 40)
                have hKI7 := hKI6.below b7
                have z7 := (b7.block w5.heap.size (by omega)).trans z6
                have hs7 := b7.size
                have HK7 : Hid (KI W0 (w6.alloc (.cells #[.int .i64 0, .int .u64 0, .int .u64 0] 40)) x F g (.slice av l.length cv) l (l ++ [(y, y + 1)])) := hKI7
                clear hKI6 hKI7 z6 hc6 hcA
                go_upto_region 33 with fail
                obtain ⟨W7, hW7⟩ : ∃ W7, w6.alloc (.cells #[.int .i64 0, .int .u64 0, .int .u64 0] 40) = W7 := ⟨_, rfl⟩
                rw [hW7] at b7 HK7 z7 hs7 ⊢
                clear hW7
                obtain ⟨q0, q1, q2, _, _, _⟩ := three z7
                have kp7 : ∀ o, KP (W7.alloc o) W0.heap.size (.slice av n cv) l := fun o => by rw [HN.out]; exact HK7.out.kp.below (below_alloc _ _)
                go_wp2_with (at_builtin; refine wpList_appendK _ rfl (.tmp 144) (.tmp 146) rfl W0.heap.size (.slice av n cv) l (y, y + 1) rfl (kp7 _) _ rfl (by simp) (by simp [HY.out.1]) (by simp [HY.out.2]) (by have := HN.out; omega) (by simp; omega) ?_; intro v8 w8 kp8 g8)
                have hKI8 : KI W0 w8 x F g v8 (l ++ [(y, y + 1)]) (l ++ [(y, y + 1)]) := (HK7.out.below (below_alloc _ _)).grow HF0.out kp8 (by rw [← HN.out]; exact g8)
                have hU8 := hUp.add hy1
                obtain ⟨L, hL⟩ : ∃ L, L = l ++ [(y, y + 1)] := ⟨_, rfl⟩
                rw [← hL] at hKI8 kp8 hLs2 hU8
                obtain ⟨a8, c8, rfl, _, _⟩ := kp8.form
                have C9 := kleft hKI8
                obtain ⟨n8, hn8⟩ : ∃ n8, n8 = L.length := ⟨_, rfl⟩
                have HN8 : Hid (n8 = L.length) := hn8
                rw [← hn8] at C9 ⊢
                clear hn8 hL hKI8 kp8 g8 kp7 q0 q1 q2 z7
                go_wp2_with fail
                refine C9.mono ?_
                clear C9
                rintro ex w9 ⟨_, hKI9, rfl⟩
                have HK9 := Hid.intro hKI9
                clear hKI9
                go_wp2_with fail
                go_roundw
                case rel => exact ⟨k + 1, y + 1, L, by go_num, by go_num, by omega, by omega, by omega, HK9.out, hLs2, hU8⟩
                case measure => simp [intOf]; omega
            · have b0 : ((z : Int) % 3 == 0) = false := by simp; omega
              by_cases h1 : z % 3 = 1
              · have b1 : ((z : Int) % 3 == 1) = true := by simp; omega
                by_cases hn0 : n = 0
                · have b2 : decide ((0 : Int) < n) = false := decide_eq_false (by omega)
                  have b2' : decide (0 < n) = false := decide_eq_false (by omega)
                  clear h0 h1 hn0
                  have zo := (hKI.chg.block W4.heap.size (lt_of_block HZB.out) (fun hf => by have := HF4.out _ hf; omega)).trans HZB.out
                  obtain ⟨o0, o1, o2', _, _, _⟩ := three zo
                  have bA := below_alloc wr (.cells #[.int .i64 2, .int .u64 (X3 : Nat), .int .u64 (X4 : Nat)] 40)
                  have CF := ksign_few (hKI.below bA) HF0.out G hLs ⟨#[109]⟩ (by decide) wr.heap.size X3 X4 1 (heap_alloc_new wr _)
                  have hW40 : W4.heap.size < W0.heap.size := lt_of_block HZB.out
                  have hs0 := hKI.chg.size
                  go_upto_region 17 with fail
                  clear b0 b1
                  go_wp2_with fail
                  refine CF.mono ?_
                  clear CF
                  rintro ex w5 ⟨hc5, hKI5, rfl⟩
                  have zo5 := (hc5.block W4.heap.size (by have := bA.size; omega) (fun hf => by have := HF4.out _ hf; omega)).trans ((bA.block W4.heap.size (by omega)).trans zo)
                  obtain ⟨p0, p1, p2, _, _, _⟩ := three zo5
                  have h4 : PRO 4 := pro_four (d := 1) ⟨by omega, ⟨by omega⟩⟩
                  have bB := below_alloc w5 (.cells #[.int .i64 1, .int .u64 4, .int .u64 4, .int .i64 2, .int .u64 (X3 : Nat), .int .u64 (X4 : Nat)] 40)
                  have CM := ksign_mine (hKI5.below bB) HF0.out G hLs ⟨#[109]⟩ (by decide) w5.heap.size 4 4 X3 X4 2 (heap_alloc_new w5 _) h4 h4 HX.out.1 HX.out.2 (fun p hp hh => by
                    have h1 := hUp p hp
                    have h2 := hLs.sc p hp
                    have e1 : 1 = p.1 := four_eq ⟨by omega⟩ h2.1 hh.1
                    have e2 : 1 = p.2 := four_eq ⟨by omega⟩ h2.2 hh.2
                    omega)
                  have hs5 := hc5.size
                  clear hKI hKI5 zo hc5 o0 o1 o2'
                  go_upto_region 20 with fail
                  go_wp2_with fail
                  refine CM.mono ?_
                  clear CM
                  rintro ex w6 ⟨hc6, hKI6, rfl⟩
                  have C9 := kleft hKI6
                  rw [← HN.out] at C9
                  clear hKI6 hc6 zo5 p0 p1 p2 h4
                  go_upto_region 45 with fail
                  go_wp2_with fail
                  refine C9.mono ?_
                  clear C9
                  rintro ex w9 ⟨_, hKI9, rfl⟩
                  have HK9 := Hid.intro hKI9
                  clear hKI9
                  go_wp2_with fail
                  go_roundw
                  case rel => exact ⟨k + 1, y, l, by go_num, rfl, by omega, hy1, by omega, HK9.out, hLs, hUp⟩
                  case measure => simp [intOf]; omega
                · have b2 : decide ((0 : Int) < n) = true := decide_eq_true (by omega)
                  clear h0 h1
                  obtain ⟨j, hje, hjn⟩ : ∃ j : Nat, ((z : Int) / 3 % (n : Int)) = (j : Int) ∧ j < n := ⟨z / 3 % n, by simp, Nat.mod_lt _ (by omega)⟩
                  have hjl : j < l.length := by rw [← HN.out]; exact hjn
                  obtain ⟨gk, hav, hgB, hgl, hcv, hcell⟩ := HC.out (by omega)
                  subst hav
                  obtain ⟨P1, hP1⟩ : ∃ P1, P1 = M.pw 2147483579 4 l[j].1 := ⟨_, rfl⟩
                  obtain ⟨P2, hP2⟩ : ∃ P2, P2 = M.pw 2147483579 4 l[j].2 := ⟨_, rfl⟩
                  have hzo := (hKI.chg.block W4.heap.size (lt_of_block HZB.out) (fun hf => by have := HF4.out _ hf; omega)).trans HZB.out
                  have hW4r : W4.heap.size < wr.heap.size := lt_of_block hzo
                  have K37 : ∀ w', Chg F wr w' → w'.cell? ⟨gk, j * 3, none⟩ = some (.int .i64 1) ∧ w'.cell? ⟨gk, j * 3 + 1, none⟩ = some (.int .u64 (P1 : Nat)) ∧ w'.cell? ⟨gk, j * 3 + 2, none⟩ = some (.int .u64 (P2 : Nat)) ∧ w'.cell? ⟨W4.heap.size, 0, none⟩ = some (.int .i64 2) ∧ w'.cell? ⟨W4.heap.size, 1, none⟩ = some (.int .u64 (X3 : Nat)) ∧ w'.cell? ⟨W4.heap.size, 2, none⟩ = some (.int .u64 (X4 : Nat)) := by
                    intro w' cc
                    have eg : ∀ i, w'.cell? ⟨gk, i, none⟩ = wr.cell? ⟨gk, i, none⟩ := fun i => cell_of_block (cc.block gk hgl (fun hf => by have := HF0.out _ hf; omega))
                    obtain ⟨k0, k1, k2⟩ := kcl_at l j hjl
                    obtain ⟨o0, o1, o2', _, _, _⟩ := three ((cc.block W4.heap.size hW4r (fun hf => by have := HF4.out _ hf; omega)).trans hzo)
                    rw [hP1, hP2]
                    exact ⟨(eg _).trans (hcell _ _ k0), (eg _).trans (hcell _ _ k1), (eg _).trans (hcell _ _ k2), o0, o1, o2'⟩
                  have hls := hLs.sc _ (List.getElem_mem hjl)
                  have hup := hUp _ (List.getElem_mem hjl)
                  have hPr1 : PRO P1 := by rw [hP1]; exact pro_four ⟨by omega, hls.1⟩
                  have hPr2 : PRO P2 := by rw [hP2]; exact pro_four ⟨by omega, hls.2⟩
                  have CS : ∀ w', Below wr.heap.size wr w' → w'.heap[wr.heap.size]? = some (.cells #[.int .i64 1, .int .u64 (P1 : Nat), .int .u64 (P2 : Nat), .int .i64 2, .int .u64 (X3 : Nat), .int .u64 (X4 : Nat)] 40 (0, 0)) →
                      Calls Try.prog 12 #[.pointer (some ⟨x, 0, none⟩), .string ⟨#[109]⟩, .slice (some ⟨wr.heap.size, 0, none⟩) 2 2] w' fun ex w'' => Chg F w' w'' ∧ ∃ zz er : Nat, ex = .returned (.tuple #[.int .u64 (zz : Nat), .int .i64 (er : Nat)]) ∧
                        ((er = 11 ∧ KI W0 w'' x F g (.slice (some ⟨gk, 0, none⟩) l.length cv) l l) ∨ (er = 0 ∧ KI W0 w'' x F g (.slice (some ⟨gk, 0, none⟩) l.length cv) l (l.take j ++ l.drop (j + 1)))) :=
                    fun w' bb hb => ksign_ok2 (hKI.below bb) HF0.out G hLs ⟨#[109]⟩ (by decide) wr.heap.size P1 P2 X3 X4 2 hb hPr1 hPr2 HX.out.1 HX.out.2 j hjl hP1 hP2
                  have hji : (j : Int) < n := by omega
                  have HP : Hid (P1 = M.pw 2147483579 4 l[j].1 ∧ P2 = M.pw 2147483579 4 l[j].2 ∧ PRO P1 ∧ PRO P2) := ⟨hP1, hP2, hPr1, hPr2⟩
                  have HC2 : Hid (∀ i u, (kcl l)[i]? = some u → wr.cell? ⟨gk, i, none⟩ = some u) := hcell
                  have HKR := Hid.intro hKI
                  clear hKI hcell hP1 hP2 hls hup hPr1 hPr2 hzo
                  go_upto_region 37 with fail
                  rw [hje]
                  clear hje b0 b1 b2 ez
                  go_cut [23, 24] from 77 to 205 (fun s23 s24 wx => Chg F wr wx ∧ ∃ zz er : Nat, s23 = .int .u64 (zz : Nat) ∧ s24 = .int .i64 (er : Nat) ∧ ((er = 11 ∧ KI W0 wx x F g (.slice (some ⟨gk, 0, none⟩) l.length cv) l l) ∨ (er = 0 ∧ KI W0 wx x F g (.slice (some ⟨gk, 0, none⟩) l.length cv) l (l.take j ++ l.drop (j + 1)))))
                  case first =>
                    go_region_held (fun w' => w'.cell? ⟨gk, j * 3, none⟩ = some (.int .i64 1) ∧ w'.cell? ⟨gk, j * 3 + 1, none⟩ = some (.int .u64 (P1 : Nat)) ∧ w'.cell? ⟨gk, j * 3 + 2, none⟩ = some (.int .u64 (P2 : Nat)) ∧ w'.cell? ⟨W4.heap.size, 0, none⟩ = some (.int .i64 2) ∧ w'.cell? ⟨W4.heap.size, 1, none⟩ = some (.int .u64 (X3 : Nat)) ∧ w'.cell? ⟨W4.heap.size, 2, none⟩ = some (.int .u64 (X4 : Nat)))
                      (first | assumption | exact K37 _ (Below.chg (Below.refl _ _).drew _) | exact K37 _ (Below.chg (below_alloc _ _).drew _) | exact K37 _ c5)
                      (first | (go_at_call 12; refine (CS _ (below_alloc _ _).drew (heap_alloc_new wr _)).mono ?_; rintro ex w5 ⟨c5', zz, er, rfl, hres⟩; have c5 : Chg F wr w5 := (Below.chg (below_alloc _ _).drew _).trans c5'))
                    all_goals
                      go_wp2_with fail
                      go_meet
                      case rel => exact ⟨c5, zz, er, rfl, rfl, hres⟩
                  case rest =>
                    obtain ⟨c5, zz, er, rfl, rfl, hres⟩ := hcut
                    obtain ⟨R5, hR5⟩ : ∃ R5, R5 = wc := ⟨_, rfl⟩
                    subst hR5
                    clear CS
                    rcases hres with ⟨rfl, hKI5⟩ | ⟨rfl, hKI5⟩
                    · have HK5 := Hid.intro hKI5
                      clear hKI5
                      go_wp2_with fail
                      go_roundw
                      case rel => exact ⟨k + 1, y, l, by go_num, rfl, by omega, hy1, by omega, by rw [HN.out]; exact HK5.out, hLs, hUp⟩
                      case measure => simp [intOf]; omega
                    · have hLc := hLs.cut j
                      have CM : ∀ w', Below R5.heap.size R5 w' → w'.heap[R5.heap.size]? = some (.cells #[.int .i64 1, .int .u64 (P1 : Nat), .int .u64 (P2 : Nat), .int .i64 2, .int .u64 (X3 : Nat), .int .u64 (X4 : Nat)] 40 (0, 0)) →
                          Calls Try.prog 12 #[.pointer (some ⟨x, 0, none⟩), .string ⟨#[110]⟩, .slice (some ⟨R5.heap.size, 0, none⟩) 2 2] w' fun ex w'' => Chg F w' w'' ∧ KI W0 w'' x F g (.slice (some ⟨gk, 0, none⟩) l.length cv) l (l.take j ++ l.drop (j + 1)) ∧ ex = .returned (.tuple #[.int .u64 0, .int .i64 10]) :=
                        fun w' bb hb => ksign_mine (hKI5.below bb) HF0.out G hLc ⟨#[110]⟩ (by decide) R5.heap.size P1 P2 X3 X4 2 hb HP.out.2.2.1 HP.out.2.2.2 HX.out.1 HX.out.2 (by rw [HP.out.1, HP.out.2.1]; exact cut_gone hLs hjl)
                      have HK5 := Hid.intro hKI5
                      clear hKI5
                      go_upto_region 41 with fail
                      go_cut [25, 26] from 77 to 205 (fun s25 s26 wx => s25 = .int .u64 0 ∧ s26 = .int .i64 10 ∧ Chg F R5 wx ∧ KI W0 wx x F g (.slice (some ⟨gk, 0, none⟩) l.length cv) l (l.take j ++ l.drop (j + 1)))
                      case first =>
                        go_region_held (fun w' => w'.cell? ⟨gk, j * 3, none⟩ = some (.int .i64 1) ∧ w'.cell? ⟨gk, j * 3 + 1, none⟩ = some (.int .u64 (P1 : Nat)) ∧ w'.cell? ⟨gk, j * 3 + 2, none⟩ = some (.int .u64 (P2 : Nat)) ∧ w'.cell? ⟨W4.heap.size, 0, none⟩ = some (.int .i64 2) ∧ w'.cell? ⟨W4.heap.size, 1, none⟩ = some (.int .u64 (X3 : Nat)) ∧ w'.cell? ⟨W4.heap.size, 2, none⟩ = some (.int .u64 (X4 : Nat)))
                          (first | assumption | exact K37 _ (c5.trans (Below.chg (Below.refl _ _).drew _)) | exact K37 _ (c5.trans (Below.chg (below_alloc _ _).drew _)) | exact K37 _ (c5.trans c6))
                          (first | (go_at_call 12; refine (CM _ (below_alloc _ _).drew (heap_alloc_new R5 _)).mono ?_; rintro ex w6 ⟨c6', hKI6, rfl⟩; have c6 : Chg F R5 w6 := (Below.chg (below_alloc _ _).drew _).trans c6'))
                        all_goals
                          go_wp2_with fail
                          go_meet
                          case rel => exact ⟨rfl, rfl, c6, hKI6⟩
                      case rest =>
                        obtain ⟨rfl, rfl, c6, hKI6⟩ := hcut
                        obtain ⟨R6, hR6⟩ : ∃ R6, R6 = wc := ⟨_, rfl⟩
                        subst hR6
                        clear CM K37
                        have hgR : gk < R6.heap.size := Nat.lt_of_lt_of_le hgl (Nat.le_trans c5.size c6.size)
                        have hcellR : ∀ i u, (kcl l)[i]? = some u → R6.cell? ⟨gk, i, none⟩ = some u := fun i u hi => (cell_of_block ((c5.trans c6).block gk hgl (fun hf => by have := HF0.out _ hf; omega))).trans (HC2.out i u hi)
                        have hBR : W0.heap.size ≤ R6.heap.size := hKI6.chg.size
                        have hjc : (j : Int) ≤ cv := by omega
                        obtain ⟨j', hj'⟩ : ∃ j', j' = j + 1 := ⟨_, rfl⟩
                        have hj1 : (j' : Int) ≤ n := by omega
                        have hwr : IntKind.i64.wrap ((j : Int) + 1) = (j' : Int) := by rw [IntKind.wrap_i64]; omega
                        have hlt : (l.take j).length = j := by rw [List.length_take]; omega
                        have hld : (l.drop (j + 1)).length = n - j' := by rw [List.length_drop, ← HN.out, hj']
                        have HLT := Hid.intro (And.intro hlt hld)
                        have HJ := Hid.intro hj'
                        have HCR := Hid.intro hcellR
                        have HK6 := Hid.intro hKI6
                        clear hlt hld hKI6 hcellR hj'
                        go_upto_region 44 with fail
                        by_cases hcvj : cv = j'
                        · have HCV := Hid.intro hcvj
                          have hcT : (cv = j') = True := eq_true hcvj
                          clear hcvj
                          go_region_law (first | (refine step_appendK rfl (Operand.const (.slice none 0 0)) (.tmp 194) rfl W0.heap.size (.slice none 0 0) [] (l.take j) rfl (World.ownsRow_nil _ _ _ _) ⟨gk, 0, none⟩ j cv (by simp [Act.eval, Act.put]) HLT.out.1.symm (fun i u hi => by rw [addr_add0]; exact HCR.out i u (kcl_take l j i u hi)) (by have := HLT.out.1; simp; omega) hBR ?_; intro v1 wA kpA gA) | (refine step_appendK rfl (.tmp 195) (.tmp 199) rfl W0.heap.size v1 ([] ++ l.take j) (l.drop (j + 1)) (by simp [Act.eval]) kpA ⟨gk, 0, none⟩ (n - j') (cv - j') (by simp [Act.eval]) HLT.out.2.symm (fun i u hi => by have h1 := (List.getElem?_eq_some_iff.1 hi).1; rw [kcl_len, HLT.out.2] at h1; have := HCV.out; have := HN.out; omega) (by have h1 := HLT.out.1; have h2 := HLT.out.2; rw [List.nil_append, h1, h2]; omega) (Nat.le_trans hBR gA.size) ?_; intro v2 wB kpB gB))
                          all_goals
                            go_wp2_with fail
                            have hKIB : KI W0 wB x F g v2 (([] ++ l.take j) ++ l.drop (j + 1)) (l.take j ++ l.drop (j + 1)) := by
                              have h1 : KI W0 wA x F g v1 ([] ++ l.take j) (l.take j ++ l.drop (j + 1)) := (HK6.out.below (Below.refl _ _).drew).growR HF0.out kpA (fun b hb => by cases hb) gA
                              exact h1.grow HF0.out kpB gB
                            have hUc := hUp.cut j
                            obtain ⟨L, hL⟩ : ∃ L, L = l.take j ++ l.drop (j + 1) := ⟨_, rfl⟩
                            rw [List.nil_append, ← hL] at hKIB
                            rw [← hL] at hUc hLc
                            obtain ⟨a8, c8, rfl, _, _⟩ := hKIB.kp.form
                            have C9 := kleft hKIB
                            obtain ⟨n8, hn8⟩ : ∃ n8, n8 = L.length := ⟨_, rfl⟩
                            rw [← hn8] at C9 ⊢
                            clear hn8 hL hKIB kpA kpB gA gB hcT hwr
                            go_wp2_with fail
                            refine C9.mono ?_
                            clear C9
                            rintro ex w9 ⟨_, hKI9, rfl⟩
                            have HK9 := Hid.intro hKI9
                            clear hKI9
                            go_wp2_with fail
                            go_roundw
                            case rel => exact ⟨k + 1, y, L, by go_num, rfl, by omega, hy1, by omega, HK9.out, hLc, hUc⟩
                            case measure => simp [intOf]; omega
                        · have hcT : (cv = j') = False := eq_false hcvj
                          clear hcvj
                          go_region_law (first | (refine step_appendK rfl (Operand.const (.slice none 0 0)) (.tmp 194) rfl W0.heap.size (.slice none 0 0) [] (l.take j) rfl (World.ownsRow_nil _ _ _ _) ⟨gk, 0, none⟩ j cv (by simp [Act.eval, Act.put]) HLT.out.1.symm (fun i u hi => by rw [addr_add0]; exact HCR.out i u (kcl_take l j i u hi)) (by have := HLT.out.1; simp; omega) hBR ?_; intro v1 wA kpA gA) | (refine step_appendK rfl (.tmp 195) (.tmp 199) rfl W0.heap.size v1 ([] ++ l.take j) (l.drop (j + 1)) (by simp [Act.eval]) kpA ⟨gk, j' * 3, none⟩ (n - j') (cv - j') (by simp [Act.eval]) HLT.out.2.symm (fun i u hi => by rw [addr_add, HJ.out]; exact (cell_of_block (gA.block gk hgR (by simp [Value.ownBlock]))).trans (HCR.out _ _ (kcl_drop l (j + 1) i u (by omega) hi))) (by have h1 := HLT.out.1; have h2 := HLT.out.2; rw [List.nil_append, h1, h2]; omega) (Nat.le_trans hBR gA.size) ?_; intro v2 wB kpB gB))
                          all_goals
                            go_wp2_with fail
                            have hKIB : KI W0 wB x F g v2 (([] ++ l.take j) ++ l.drop (j + 1)) (l.take j ++ l.drop (j + 1)) := by
                              have h1 : KI W0 wA x F g v1 ([] ++ l.take j) (l.take j ++ l.drop (j + 1)) := (HK6.out.below (Below.refl _ _).drew).growR HF0.out kpA (fun b hb => by cases hb) gA
                              exact h1.grow HF0.out kpB gB
                            have hUc := hUp.cut j
                            obtain ⟨L, hL⟩ : ∃ L, L = l.take j ++ l.drop (j + 1) := ⟨_, rfl⟩
                            rw [List.nil_append, ← hL] at hKIB
                            rw [← hL] at hUc hLc
                            obtain ⟨a8, c8, rfl, _, _⟩ := hKIB.kp.form
                            have C9 := kleft hKIB
                            obtain ⟨n8, hn8⟩ : ∃ n8, n8 = L.length := ⟨_, rfl⟩
                            rw [← hn8] at C9 ⊢
                            clear hn8 hL hKIB kpA kpB gA gB hcT hwr
                            go_wp2_with fail
                            refine C9.mono ?_
                            clear C9
                            rintro ex w9 ⟨_, hKI9, rfl⟩
                            have HK9 := Hid.intro hKI9
                            clear hKI9
                            go_wp2_with fail
                            go_roundw
                            case rel => exact ⟨k + 1, y, L, by go_num, rfl, by omega, hy1, by omega, HK9.out, hLc, hUc⟩
                            case measure => simp [intOf]; omega
              · have b1 : ((z : Int) % 3 == 1) = false := by simp; omega
                clear h0 h1
                have zo := (hKI.chg.block W4.heap.size (lt_of_block HZB.out) (fun hf => by have := HF4.out _ hf; omega)).trans HZB.out
                obtain ⟨o0, o1, o2', _, _, _⟩ := three zo
                have bA := below_alloc wr (.cells #[.int .i64 2, .int .u64 (X3 : Nat), .int .u64 (X4 : Nat)] 40)
                have CF := ksign_few (hKI.below bA) HF0.out G hLs ⟨#[109]⟩ (by decide) wr.heap.size X3 X4 1 (heap_alloc_new wr _)
                have hW40 : W4.heap.size < W0.heap.size := lt_of_block HZB.out
                have hs0 := hKI.chg.size
                go_upto_region 17 with fail
                clear b0 b1
                go_wp2_with fail
                refine CF.mono ?_
                clear CF
                rintro ex w5 ⟨hc5, hKI5, rfl⟩
                have zo5 := (hc5.block W4.heap.size (by have := bA.size; omega) (fun hf => by have := HF4.out _ hf; omega)).trans ((bA.block W4.heap.size (by omega)).trans zo)
                obtain ⟨p0, p1, p2, _, _, _⟩ := three zo5
                have h4 : PRO 4 := pro_four (d := 1) ⟨by omega, ⟨by omega⟩⟩
                have bB := below_alloc w5 (.cells #[.int .i64 1, .int .u64 4, .int .u64 4, .int .i64 2, .int .u64 (X3 : Nat), .int .u64 (X4 : Nat)] 40)
                have CM := ksign_mine (hKI5.below bB) HF0.out G hLs ⟨#[109]⟩ (by decide) w5.heap.size 4 4 X3 X4 2 (heap_alloc_new w5 _) h4 h4 HX.out.1 HX.out.2 (fun p hp hh => by
                  have h1 := hUp p hp
                  have h2 := hLs.sc p hp
                  have e1 : 1 = p.1 := four_eq ⟨by omega⟩ h2.1 hh.1
                  have e2 : 1 = p.2 := four_eq ⟨by omega⟩ h2.2 hh.2
                  omega)
                have hs5 := hc5.size
                clear hKI hKI5 zo hc5 o0 o1 o2'
                go_upto_region 20 with fail
                go_wp2_with fail
                refine CM.mono ?_
                clear CM
                rintro ex w6 ⟨hc6, hKI6, rfl⟩
                have C9 := kleft hKI6
                rw [← HN.out] at C9
                clear hKI6 hc6 zo5 p0 p1 p2 h4
                go_upto_region 45 with fail
                go_wp2_with fail
                refine C9.mono ?_
                clear C9
                rintro ex w9 ⟨_, hKI9, rfl⟩
                have HK9 := Hid.intro hKI9
                clear hKI9
                go_wp2_with fail
                go_roundw
                case rel => exact ⟨k + 1, y, l, by go_num, rfl, by omega, hy1, by omega, HK9.out, hLs, hUp⟩
                case measure => simp [intOf]; omega
          · go_wp2_with fail
            all_goals
              go_ret
              have hc := hKI.chg
              exact ⟨rfl, (HCW.out.trans (hc.mono HFW.out)).below (fun _ h => h) (Nat.le_refl _)⟩
end Go.Proofs.Yteoioldbigomaab
