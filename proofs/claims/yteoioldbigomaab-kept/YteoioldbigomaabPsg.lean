import Derived.Test.YteoioldbigomaabFf
import Derived.Test.YteoioldbigomaabLit
namespace Go.Proofs.Yteoioldbigomaab
open Go.RowKit

theorem cell_of_block {w w' : World} {b j : Nat} (h : w'.heap[b]? = w.heap[b]?) : w'.cell? ⟨b, j, none⟩ = w.cell? ⟨b, j, none⟩ := by simp [World.cell?, h]
/-- What has become of a signer that was asked for a pair. -/
structure TK (w4 wx : World) (x gb id sh mb : Nat) (l : List (Nat × Nat)) (ki : Int) (kd ke r : Nat) (p : Nat × Nat) (er : Nat) : Prop where
  chg : Chg (fun k => k = x ∨ k = mb) w4 wx
  sb : SB wx x gb id sh 0 mb
  res : ((∀ y ∈ l, pkey id y ≠ ckey ki kd ke) ∧ er = 10 ∧ MapIs wx mb id l) ∨ ((∃ y ∈ l, pkey id y = ckey ki kd ke) ∧ r = 1 ∧ er = 11 ∧ MapIs wx mb id l) ∨
    (r ≠ 1 ∧ er = 0 ∧ ∃ j, ∃ hj : j < l.length, pkey id l[j] = ckey ki kd ke ∧ p = l[j] ∧ MapIs wx mb id (l.take j ++ l.drop (j + 1)))
theorem TK.on {P : Nat → Prop} {w4 wx wy : World} {x gb id sh mb : Nat} {l : List (Nat × Nat)} {ki : Int} {kd ke r : Nat} {p : Nat × Nat} {er : Nat} (h : TK w4 wx x gb id sh mb l ki kd ke r p er) (hc : Chg P wx wy) (hx : ¬ P x) (hm : ¬ P mb) (hP : ∀ j, P j → w4.heap.size ≤ j) : TK w4 wy x gb id sh mb l ki kd ke r p er := by
  refine ⟨h.chg.on hc fun j hj => .inr (hP j hj), h.sb.same (hc.block x h.sb.lt hx), ?_⟩
  have hm' : ∀ l', MapIs wx mb id l' → MapIs wy mb id l' := fun l' hM => hM.same (hc.block mb hM.lt hm)
  rcases h.res with ⟨a, b, c⟩ | ⟨a, b, c, d⟩ | ⟨a, b, j, hj, c, d, e⟩
  · exact .inl ⟨a, b, hm' _ c⟩
  · exact .inr (.inl ⟨a, b, c, hm' _ d⟩)
  · exact .inr (.inr ⟨a, b, j, hj, c, d, hm' _ e⟩)
theorem TK.below {w4 wx wy : World} {x gb id sh mb : Nat} {l : List (Nat × Nat)} {ki : Int} {kd ke r : Nat} {p : Nat × Nat} {er : Nat} (h : TK w4 wx x gb id sh mb l ki kd ke r p er) (hb : Below wx.heap.size wx wy) : TK w4 wy x gb id sh mb l ki kd ke r p er :=
  h.on (Below.chg hb fun _ => False) (fun h => h) (fun h => h) (fun _ h => h.elim)
theorem take_tk {w4 w : World} {x gb id sh mb : Nat} {l : List (Nat × Nat)} (hb : Below w4.heap.size w4 w) (h : SB w x gb id sh 0 mb) (hM : MapIs w mb id l) (hne : mb ≠ x) (h9 : id ≤ 9) (hl : Ls l) (i : Int) (d e r : Nat) (hf : Fit3 i d e) :
    Calls Try.prog 34 #[.pointer (some ⟨x, 0, none⟩), ckey i d e, .int .u64 (r : Nat)] w fun ex w' => ∃ p er, ex = .returned (.tuple #[pval p, .int .i64 (er : Nat)]) ∧ Chg (fun k => k = x ∨ k = mb) w w' ∧ TK w4 w' x gb id sh mb l i d e r p er := by
  refine (take_any h hM hne h9 hl i d e r hf).mono ?_
  rintro ex w' ⟨hc, hsb, ⟨a, rfl, b⟩ | ⟨a, b, rfl, c⟩ | ⟨a, j, hj, b, rfl, c⟩⟩
  · exact ⟨(0, 0), 10, rfl, hc, (Below.chg hb _).trans hc, hsb, .inl ⟨a, rfl, b⟩⟩
  · exact ⟨(0, 0), 11, rfl, hc, (Below.chg hb _).trans hc, hsb, .inr (.inl ⟨a, b, rfl, c⟩)⟩
  · exact ⟨l[j], 0, rfl, hc, (Below.chg hb _).trans hc, hsb, .inr (.inr ⟨a, rfl, j, hj, b, rfl, c⟩)⟩
/-- .. and the pair lies in a block. -/
structure Taken (w4 wx : World) (x gb id sh mb : Nat) (l : List (Nat × Nat)) (ki : Int) (kd ke r pb : Nat) (p : Nat × Nat) (er : Nat) : Prop where
  tk : TK w4 wx x gb id sh mb l ki kd ke r p er
  cell : wx.heap[pb]? = some (.cells #[.int .u64 (p.1 : Nat), .int .u64 (p.2 : Nat)] 78 (0, 0))
  new : w4.heap.size ≤ pb

/-- What the program's Sign leaves. -/
def PsiPost (w : World) (x : Nat) (F : Nat → Prop) (g : Sg) (l : List (Nat × Nat)) (s : ByteArray) (n : Nat) (I : Nat → Int) (D E : Nat → Nat) (ex : Ending) (w' : World) : Prop :=
  ∃ (er : Nat) (F' : Nat → Prop), M.Look g.T g.N n I D E er ∧ Chg F w w' ∧ F' = F ∧
    ((er ≠ 0 ∧ PS w' x F' g l ∧ ex = .returned (.tuple #[.int .u64 0, .int .i64 er])) ∨
     (er = 0 ∧ (∀ k i, k < n → ¬ M.Hit g.id l I D E k i) ∧ PS w' x F' g l ∧ ex = .returned (.tuple #[.int .u64 0, .int .i64 10])) ∨
     (er = 0 ∧ (∃ k i, k < n ∧ M.Hit g.id l I D E k i) ∧ M.allR (fun j => (I j).toNat) D E g.f n s = 1 ∧ PS w' x F' g l ∧ ex = .returned (.tuple #[.int .u64 0, .int .i64 11])) ∨
     (er = 0 ∧ ∃ k i, ∃ hi : i < l.length, k < n ∧ M.Hit g.id l I D E k i ∧ M.allR (fun j => (I j).toNat) D E g.f n s ≠ 1 ∧
       ex = .returned (.tuple #[.int .u64 (M.ans (fun j => (I j).toNat) D E g.f n s g.sh k l[i].1 l[i].2 : Nat), .int .i64 0]) ∧ PS w' x F' g (l.take i ++ l.drop (i + 1))))

set_option maxHeartbeats 8000000 in
set_option maxRecDepth 100000 in
theorem psign_any {w : World} {x : Nat} {F : Nat → Prop} {g : Sg} {l : List (Nat × Nat)} (hP : PS w x F g l) (hok : g.Ok) (hl : Ls l) (s : ByteArray) (la : Option Addr) (n lc : Nat) (I : Nat → Int) (D E : Nat → Nat) (hr : RdC w la n I D E) (hn : n ≤ 65536) (hs : s.size ≤ 65536) :
    Calls Try.prog 12 #[.pointer (some ⟨x, 0, none⟩), .string s, .slice la n lc] w (PsiPost w x F g l s n I D E) := by
  obtain ⟨gb, ab, o, c, mb, h, rfl⟩ := hP
  have hid9 : g.id ≤ 9 := Nat.le_trans hok.iN hok.n9
  have CM := made_yes h.sb
  have CB := newBundle_any gb s la n lc I D E w hr hn
  obtain ⟨c0, c1, c2, _, _⟩ := h.sb.cells
  have HH : Hid (PSat w x gb ab o c mb g l) := h
  have hxl := h.sb.lt
  have hml := h.mp.lt
  clear h hr
  go_enter Try.func12, Try.ntmps12
  go_upto_region 3 with (first | (go_at_call 25; refine CM.mono ?_; rintro ex w ⟨rfl, hw⟩; subst hw))
  clear CM
  go_upto_region 4 with (first | (go_at_call 30; refine CB.mono ?_; rintro ex w2 ⟨b2, b, hbn, rfl, rl2⟩))
  clear CB
  have h2 := HH.out.below b2
  have BU2 : BU w2 gb g.T g.N ab o c g.f s (some ⟨b, 0, none⟩) n I D E := ⟨h2.gr, h2.rd, rl2, Nat.le_trans (by omega) hok.t2, hs⟩
  have BBV := BU2.boxed n
  have bV := below_alloc w2 (bobj gb s (some ⟨b, 0, none⟩) n n)
  obtain ⟨V, hV⟩ : ∃ V, w2.alloc (bobj gb s (some ⟨b, 0, none⟩) n n) = V := ⟨_, rfl⟩
  have hV' := hV
  unfold bobj at hV'
  rw [hV] at BBV bV
  rw [hV']
  have bwV : Below w.heap.size w V := b2.trans (bV.mono b2.size)
  have hkb : w.heap.size ≤ w2.heap.size := b2.size
  have CL := plook_any BBV.bu n hn
  have HBV : Hid (BB V w2.heap.size gb g.T g.N ab o c g.f s (some ⟨b, 0, none⟩) n n I D E) := BBV
  have k0 := BBV.k0
  have k1 := BBV.k1
  have k2 := BBV.k2
  clear hV hV' BBV BU2 rl2 h2 c0 c1 c2
  go_wp2_with fail
  refine CL.mono ?_
  clear CL
  rintro ex w3 ⟨b3, er, hlook, rfl⟩
  have bw3 : Below w.heap.size w w3 := bwV.trans (b3.mono bwV.size)
  by_cases her : er = 0
  · subst her
    obtain ⟨hTN, hI, hPRO⟩ := look_ok hlook hok.n9
    have hrise := look_rise hlook
    have hn9 : n ≤ 9 := Nat.le_trans hTN.2 hok.n9
    obtain ⟨J, hJ⟩ : ∃ J : Nat → Nat, J = fun j => (I j).toNat := ⟨_, rfl⟩
    have hIJ : ∀ j, j < n → I j = ((J j : Nat) : Int) := by
      intro j hj
      have := hI j hj
      rw [hJ]
      show I j = (((I j).toNat : Nat) : Int)
      omega
    have BR3 : BR w3 gb g.T g.N ab o c g.f s (some ⟨b, 0, none⟩) n J D E := ⟨(HBV.out.bu.below b3).congrI hIJ, hn9, fun j hj => by have h1 := hI j hj; have h2 := hIJ j hj; omega⟩
    have CA := pparts_any BR3 n (fun k hk => ⟨(hPRO k hk).1.el.el, (hPRO k hk).2.el.el⟩)
    obtain ⟨r, hr⟩ : ∃ r, r = M.allR J D E g.f n s := ⟨_, rfl⟩
    have CR : ∀ (w' : World) (q : Nat), RdF w' (some ⟨q, 0, none⟩) n (cu (M.sq (M.prt J D E g.f n s) n)) → Calls Try.prog 32 #[.slice (some ⟨q, 0, none⟩) n n] w' fun e w'' => e = .returned (.int .u64 (r : Nat)) ∧ w'' = w' := by
      intro w' q hq
      rw [hr]
      exact pall_any hn9 hq
    obtain ⟨ki, kd, ke, hkey⟩ := key_of g.id n I D E
    have hfit : Fit3 ki kd ke := by
      rcases hkey with ⟨k, hk, _, rfl, rfl, rfl⟩ | ⟨_, rfl, rfl, rfl⟩
      · have h1 := hI k hk
        have h2 := (hPRO k hk).1.el.el.out
        have h3 := (hPRO k hk).2.el.el.out
        exact ⟨WalkArith.wf_i64 (by omega), wf_u64 (by omega), wf_u64 (by omega)⟩
      · exact ⟨by decide, by decide, by decide⟩
    have hB3 := HBV.out.below b3
    have q0 := hB3.k0
    have q1 := hB3.k1
    have q2 := hB3.k2
    have HF : Hid (M.Look g.T g.N n I D E 0 ∧ (∀ j, j < n → 1 ≤ I j ∧ I j ≤ 9) ∧ (∀ i j, i < j → j < n → I i < I j) ∧ M.Key g.id n I D E ki kd ke ∧ Fit3 ki kd ke ∧ J = (fun j => (I j).toNat) ∧ r = M.allR J D E g.f n s ∧ (∀ j, j < n → I j = ((J j : Nat) : Int)) ∧ BR w3 gb g.T g.N ab o c g.f s (some ⟨b, 0, none⟩) n J D E) :=
      ⟨hlook, hI, hrise, hkey, hfit, hJ, hr, hIJ, BR3⟩
    clear hlook hI hrise hkey hfit hJ hr hIJ BR3 hB3 hPRO hTN k0 k1 k2
    go_upto_region 8 with (first | (go_at_call 33; refine CA.mono ?_; rintro ex w4a ⟨qq, rfl, _, b4, rdq⟩) | (go_at_call 32; refine (CR _ _ rdq).mono ?_; rintro ex w4 ⟨rfl, hw5⟩; subst hw5))
    clear CA CR rdq q0 q1 q2
    have bw4 : Below w.heap.size w w4 := bw3.trans (b4.mono bw3.size)
    have h4 := HH.out.below bw4
    have hB4 := (HBV.out.below b3).below b4
    have hkb4 : w2.heap.size < w4.heap.size := hB4.kl
    have hbl : n = 0 ∨ b < w4.heap.size := by
      rcases hB4.bu.rl with h0 | ⟨b', o', he, hlt, _⟩
      · exact .inl h0
      · simp only [Option.some.injEq, Addr.mk.injEq, and_true] at he
        exact .inr (by rw [he.1]; exact hlt)
    have K8 : ∀ w' : World, (∀ k, k < w4.heap.size → k ≠ x → k ≠ mb → w'.heap[k]? = w4.heap[k]?) → SB w' x gb g.id g.sh 0 mb → w'.cell? ⟨w2.heap.size, 0, none⟩ = some (.pointer (some ⟨gb, 0, none⟩)) ∧ w'.cell? ⟨w2.heap.size, 1, none⟩ = some (.string s) ∧ w'.cell? ⟨w2.heap.size, 2, none⟩ = some (.slice (some ⟨b, 0, none⟩) n n) ∧ w'.cell? ⟨x, 1, none⟩ = some (.int .i64 (g.id : Nat)) := by
      intro w' hk hsb
      have e : ∀ j, w'.cell? ⟨w2.heap.size, j, none⟩ = w4.cell? ⟨w2.heap.size, j, none⟩ := fun j => cell_of_block (hk w2.heap.size hkb4 (by omega) (by omega))
      exact ⟨(e 0).trans hB4.k0, (e 1).trans hB4.k1, (e 2).trans hB4.k2, hsb.cells.2.1⟩
    have K8b : ∀ w', Below w4.heap.size w4 w' → w'.cell? ⟨w2.heap.size, 0, none⟩ = some (.pointer (some ⟨gb, 0, none⟩)) ∧ w'.cell? ⟨w2.heap.size, 1, none⟩ = some (.string s) ∧ w'.cell? ⟨w2.heap.size, 2, none⟩ = some (.slice (some ⟨b, 0, none⟩) n n) ∧ w'.cell? ⟨x, 1, none⟩ = some (.int .i64 (g.id : Nat)) := fun w' bb => K8 w' (fun k hk _ _ => bb.block k hk) (h4.sb.below bb)
    have K8c : ∀ w' p er, TK w4 w' x gb g.id g.sh mb l ki kd ke r p er → w'.cell? ⟨w2.heap.size, 0, none⟩ = some (.pointer (some ⟨gb, 0, none⟩)) ∧ w'.cell? ⟨w2.heap.size, 1, none⟩ = some (.string s) ∧ w'.cell? ⟨w2.heap.size, 2, none⟩ = some (.slice (some ⟨b, 0, none⟩) n n) ∧ w'.cell? ⟨x, 1, none⟩ = some (.int .i64 (g.id : Nat)) :=
      fun w' p er tk => K8 w' (fun k hk h1 h2 => tk.chg.block k hk (by rintro (h | h); exact h1 h; exact h2 h)) tk.sb
    have CO : ∀ w', Below w4.heap.size w4 w' → Calls Try.prog 35 #[.agg #[.pointer (some ⟨gb, 0, none⟩), .string s, .slice (some ⟨b, 0, none⟩) n n], .int .i64 (g.id : Nat)] w' fun e w'' => Below w'.heap.size w' w'' ∧ Below w4.heap.size w4 w'' ∧ e = .returned (.agg #[.int .i64 ki, .int .u64 kd, .int .u64 ke]) :=
      fun w' bb => (of_key (hB4.bu.below bb) n hn g.id HF.out.2.2.2.1 HF.out.2.2.1).mono fun e w'' h => ⟨h.1, bb.trans (h.1.mono bb.size), h.2⟩
    have CT : ∀ w', Below w4.heap.size w4 w' → Calls Try.prog 34 #[.pointer (some ⟨x, 0, none⟩), .agg #[.int .i64 ki, .int .u64 kd, .int .u64 ke], .int .u64 (r : Nat)] w' fun ex w'' => ∃ p er, ex = .returned (.tuple #[.agg #[.int .u64 (p.1 : Nat), .int .u64 (p.2 : Nat)], .int .i64 (er : Nat)]) ∧ Chg (fun k => k = x ∨ k = mb) w' w'' ∧ TK w4 w'' x gb g.id g.sh mb l ki kd ke r p er :=
      fun w' bb => take_tk bb (h4.sb.below bb) (h4.mp.below bb) h4.n3 hid9 hl ki kd ke r HF.out.2.2.2.2.1
    have hx4 : x < w4.heap.size := h4.sb.lt
    have hm4 : mb < w4.heap.size := h4.mp.lt
    have hz4 : w4.heap.size < (w4.alloc (.cells #[.int .u64 0, .int .u64 0] 78)).heap.size := by rw [size_alloc]; omega
    have hz5 : ∀ w5 : World, w5.heap.size < (w5.alloc (.cells #[.int .u64 0, .int .u64 0] 78)).heap.size := fun w5 => by rw [size_alloc]; omega
    have fr : ∀ k, w4.heap.size ≤ k → ¬ (k = x ∨ k = mb) := fun k hk hh => by omega
    have onset : ∀ w7 p er pb u0 u1, TK w4 w7 x gb g.id g.sh mb l ki kd ke r p er → w4.heap.size ≤ pb → TK w4 ((w7.setCell ⟨pb, 0, none⟩ u0).setCell ⟨pb, 1, none⟩ u1) x gb g.id g.sh mb l ki kd ke r p er :=
      fun w7 p er pb u0 u1 tk hpb => tk.on (chg_set2 w7 pb u0 u1) (by omega) (by omega) (fun j hj => by omega)
    clear hB4 K8
    go_cut [11, 12] from 32 (fun s11 s12 wx => ∃ pb p er, s11 = .pointer (some ⟨pb, 0, none⟩) ∧ s12 = .int .i64 (er : Nat) ∧ Taken w4 wx x gb g.id g.sh mb l ki kd ke r pb p er)
    case first =>
      go_region_held (fun w' => w'.cell? ⟨w2.heap.size, 0, none⟩ = some (.pointer (some ⟨gb, 0, none⟩)) ∧ w'.cell? ⟨w2.heap.size, 1, none⟩ = some (.string s) ∧ w'.cell? ⟨w2.heap.size, 2, none⟩ = some (.slice (some ⟨b, 0, none⟩) n n) ∧ w'.cell? ⟨x, 1, none⟩ = some (.int .i64 (g.id : Nat)))
        (first | assumption | exact K8b _ (Below.refl _ _).drew | exact K8b _ (below_alloc _ _).drew | exact K8b _ b5 | exact K8b _ (b5.trans ((below_alloc _ _).mono b5.size)) | exact K8c _ _ _ tk7 | exact K8c _ _ _ (tk7.below (below_alloc _ _)) | exact K8c _ _ _ (onset _ _ _ _ _ _ tk7 (Nat.le_refl _)) | exact K8c _ _ _ (onset _ _ _ _ _ _ tk7 b5.size) | (trace_state; fail))
        (first | (go_at_call 35; refine (CO _ (by first | exact (Below.refl _ _).drew | exact (below_alloc _ _).drew)).mono ?_; rintro ex w5 ⟨b5', b5, rfl⟩; try (have y5 := (b5'.block w4.heap.size hz4).trans (heap_alloc_new w4 (.cells #[.int .u64 0, .int .u64 0] 78)))) | (go_at_call 34; refine (CT _ (by first | exact b5 | exact b5.trans ((below_alloc _ _).mono b5.size))).mono ?_; rintro ex w7 ⟨p, er7, rfl, c7, tk7⟩; first | (have y7 := (c7.block w4.heap.size (lt_of_block y5) (fr _ (Nat.le_refl _))).trans y5; obtain ⟨f0, f1, f2, f3⟩ := pr_cells y7) | (have y7 := (c7.block w5.heap.size (hz5 w5) (fr _ b5.size)).trans (heap_alloc_new w5 (.cells #[.int .u64 0, .int .u64 0] 78)); obtain ⟨f0, f1, f2, f3⟩ := pr_cells y7) | skip))
      all_goals
        go_wp2_with fail
        go_meet
        case rel =>
          first
          | exact ⟨_, p, er7, rfl, rfl, tk7.below (below_alloc _ _), heap_alloc_new _ _, tk7.chg.size⟩
          | exact ⟨_, p, er7, rfl, rfl, onset _ _ _ _ _ _ tk7 (Nat.le_refl _), pr_set y7 _ _, Nat.le_refl _⟩
          | exact ⟨_, p, er7, rfl, rfl, onset _ _ _ _ _ _ tk7 b5.size, pr_set y7 _ _, b5.size⟩
    case rest =>
      obtain ⟨pb, p, er, rfl, rfl, ⟨tk, pcell, pnew⟩⟩ := hcut
      obtain ⟨X, hX⟩ : ∃ X, X = wc := ⟨_, rfl⟩
      subst hX
      clear K8b K8c CO CT hz4 hz5 fr onset
      have hcl := HH.out
      have C0 : Chg (psF x gb ab mb) w X := (Below.chg bw4 _).trans (tk.chg.mono fun k hk => by rcases hk with h | h; exact .inl h; exact .inr (.inr (.inr h)))
      have mk : ∀ l', MapIs X mb g.id l' → PSat X x gb ab o c mb g l' := by
        intro l' hM
        obtain ⟨dd, G⟩ := h4.gr
        have hno : ∀ k, k ≠ x → k ≠ mb → ¬ (k = x ∨ k = mb) := fun k h1 h2 hh => by rcases hh with h | h; exact h1 h; exact h2 h
        exact ⟨tk.sb, ⟨dd, G.same (tk.chg.block gb G.lt (hno gb h4.n1 (fun e => h4.n4 e.symm)))⟩, h4.rd.chg tk.chg (fun z hz => by simp only [Option.some.injEq] at hz; subst hz; exact hno ab h4.n2 (fun e => h4.n5 e.symm)), hM, h4.n1, h4.n2, h4.n3, h4.n4, h4.n5, Nat.lt_of_lt_of_le h4.lt tk.chg.size⟩
      obtain ⟨hlook, hI, hrise, hkey, hfit, hJ, hr, hIJ, BR3⟩ := HF.out
      have hhit : ∀ k i, k < n → M.Hit g.id l I D E k i → ∃ hi : i < l.length, pkey g.id l[i] = ckey ki kd ke := by
        rintro k i hk ⟨hi, a1, a2, a3⟩
        refine ⟨hi, ?_⟩
        rcases hkey with ⟨k', hk', hi', rfl, rfl, rfl⟩ | ⟨hno, _⟩
        · have : k = k' := by
            rcases Nat.lt_trichotomy k k' with hh | hh | hh
            · have := hrise k k' hh hk'; omega
            · exact hh
            · have := hrise k' k hh hk; omega
          subst this
          unfold pkey
          rw [a1, a2, a3]
        · exact absurd a1 (hno k hk)
      have hkeyhit : ∀ i, ∀ hi : i < l.length, pkey g.id l[i] = ckey ki kd ke → ∃ k, k < n ∧ M.Hit g.id l I D E k i := by
        intro i hi he
        obtain ⟨e1, e2, e3⟩ := ckey_inj he
        rcases hkey with ⟨k', hk', hi', rfl, rfl, rfl⟩ | ⟨_, rfl, _, _⟩
        · exact ⟨k', hk', hi, hi', e2.symm, e3.symm⟩
        · have := hok.i1
          omega
      have HL0 : Hid (M.Look g.T g.N n I D E 0) := hlook
      rcases tk.res with ⟨hno, rfl, hM⟩ | ⟨⟨y, hy, hyk⟩, hr1, rfl, hM⟩ | ⟨hr1, rfl, jj, hjj, hjk, hp, hM⟩
      · have fin : PsiPost w x (psF x gb ab mb) g l s n I D E (.returned (.tuple #[.int .u64 0, .int .i64 10])) X :=
          ⟨0, _, hlook, C0, rfl, .inr (.inl ⟨rfl, fun k i hk hh => by obtain ⟨hi, he⟩ := hhit k i hk hh; exact hno _ (List.getElem_mem hi) he, ⟨gb, ab, o, c, mb, mk l hM, rfl⟩, rfl⟩)⟩
        have HFin := Hid.intro fin
        clear fin hlook hI hrise hkey hfit hJ hr hIJ BR3 hhit hkeyhit mk C0 tk pcell hcl h4 hno hM
        go_wp2_with fail
        go_ret2
        exact HFin.out
      · obtain ⟨i, hi, rfl⟩ := List.getElem_of_mem hy
        obtain ⟨k, hk, hh⟩ := hkeyhit i hi hyk
        have fin : PsiPost w x (psF x gb ab mb) g l s n I D E (.returned (.tuple #[.int .u64 0, .int .i64 11])) X :=
          ⟨0, _, hlook, C0, rfl, .inr (.inr (.inl ⟨rfl, ⟨k, i, hk, hh⟩, by rw [← hJ, ← hr]; exact hr1, ⟨gb, ab, o, c, mb, mk l hM, rfl⟩, rfl⟩))⟩
        have HFin := Hid.intro fin
        clear fin hlook hI hrise hkey hfit hJ hr hIJ BR3 hhit hkeyhit mk C0 tk pcell hcl h4 hM hy hyk hr1 hh
        go_wp2_with fail
        go_ret2
        exact HFin.out
      · obtain ⟨k, hk, hh⟩ := hkeyhit jj hjj hjk
        have hJk : J k = g.id := by
          have h1 := hIJ k hk
          have h2 : I k = g.id := hh.2.1
          omega
        have hps : SC p.1 ∧ SC p.2 := by rw [hp]; exact hl.sc _ (List.getElem_mem hjj)
        have hno : ∀ k, k ≠ x → k ≠ mb → ¬ (k = x ∨ k = mb) := fun k h1 h2 hh => by rcases hh with h | h; exact h1 h; exact h2 h
        have BRX : BR X gb g.T g.N ab o c g.f s (some ⟨b, 0, none⟩) n J D E :=
          ⟨(BR3.bu.below b4).chg tk.chg (hno gb h4.n1 (fun e => h4.n4 e.symm)) (hno ab h4.n2 (fun e => h4.n5 e.symm)) (fun z hz => by simp only [Option.some.injEq] at hz; subst hz; exact hno b (by omega) (by omega)), BR3.n9, BR3.j9⟩
        have hB4 := (HBV.out.below b3).below b4
        have eX : ∀ j, X.cell? ⟨w2.heap.size, j, none⟩ = w4.cell? ⟨w2.heap.size, j, none⟩ := fun j => cell_of_block (tk.chg.block w2.heap.size hkb4 (hno _ (by omega) (by omega)))
        have hkX : w2.heap.size < X.heap.size := Nat.lt_of_lt_of_le hkb4 tk.chg.size
        have hpbX : pb < X.heap.size := lt_of_block pcell
        obtain ⟨f0, f1, _, _⟩ := pr_cells pcell
        have K11 : ∀ w', Below X.heap.size X w' → w'.cell? ⟨w2.heap.size, 0, none⟩ = some (.pointer (some ⟨gb, 0, none⟩)) ∧ w'.cell? ⟨w2.heap.size, 1, none⟩ = some (.string s) ∧ w'.cell? ⟨w2.heap.size, 2, none⟩ = some (.slice (some ⟨b, 0, none⟩) n n) ∧ w'.cell? ⟨x, 1, none⟩ = some (.int .i64 (g.id : Nat)) ∧ w'.cell? ⟨x, 2, none⟩ = some (.int .u64 (g.sh : Nat)) ∧ w'.cell? ⟨pb, 0, none⟩ = some (.int .u64 (p.1 : Nat)) ∧ w'.cell? ⟨pb, 1, none⟩ = some (.int .u64 (p.2 : Nat)) ∧ Below X.heap.size X w' := by
          intro w' bb
          have hsb := tk.sb.below bb
          exact ⟨(bb.cell (p := ⟨w2.heap.size, 0, none⟩) hkX).trans ((eX 0).trans hB4.k0), (bb.cell (p := ⟨w2.heap.size, 1, none⟩) hkX).trans ((eX 1).trans hB4.k1), (bb.cell (p := ⟨w2.heap.size, 2, none⟩) hkX).trans ((eX 2).trans hB4.k2), hsb.cells.2.1, hsb.cells.2.2.1,
            (bb.cell (p := ⟨pb, 0, none⟩) hpbX).trans f0, (bb.cell (p := ⟨pb, 1, none⟩) hpbX).trans f1, bb⟩
        obtain ⟨u, hu⟩ : ∃ u, u = M.bind g.id (g.f 0) J D E n s := ⟨_, rfl⟩
        obtain ⟨q, hq⟩ : ∃ q, q = p.2 * u % 1073741789 := ⟨_, rfl⟩
        obtain ⟨wt, hwt⟩ : ∃ wt, wt = M.wt J n k := ⟨_, rfl⟩
        obtain ⟨v, hv⟩ : ∃ v, v = wt * g.sh % 1073741789 := ⟨_, rfl⟩
        obtain ⟨ch, hch⟩ : ∃ ch, ch = M.chal r (g.f 0) s := ⟨_, rfl⟩
        obtain ⟨ow, how⟩ : ∃ ow, ow = v * ch % 1073741789 := ⟨_, rfl⟩
        have hus : SC u := by rw [hu]; exact M.bind_sc _ _ _ _ _ _ _
        have hqs : SC q := by rw [hq]; exact SC.mod _
        have hwts : SC wt := by rw [hwt]; exact M.wt_sc _ _ _
        have hvs : SC v := by rw [hv]; exact SC.mod _
        have hchs : SC ch := by rw [hch]; exact M.hash_sc _ _ _ _
        have hows : SC ow := by rw [how]; exact SC.mod _
        have CF : ∀ w', Below X.heap.size X w' → Calls Try.prog 36 #[.agg #[.pointer (some ⟨gb, 0, none⟩), .string s, .slice (some ⟨b, 0, none⟩) n n], .int .i64 (g.id : Nat)] w' fun e w'' => e = .returned (.int .u64 (u : Nat)) ∧ Below X.heap.size X w'' := by
          intro w' bb
          rw [hu]
          exact (factor_any (BRX.below bb) n g.id hid9).mono fun e w'' h => ⟨h.1, bb.trans (h.2.mono bb.size)⟩
        have CW : ∀ w', Below X.heap.size X w' → Calls Try.prog 37 #[.agg #[.pointer (some ⟨gb, 0, none⟩), .string s, .slice (some ⟨b, 0, none⟩) n n], .int .i64 (g.id : Nat)] w' fun e w'' => e = .returned (.int .u64 (wt : Nat)) ∧ Below X.heap.size X w'' := by
          intro w' bb
          have h1 := pweight_any (BRX.below bb) n k hk (fun i hi hne he => by
            have e1 := hIJ i hi
            have e2 := hIJ k hk
            rcases Nat.lt_trichotomy i k with hh | hh | hh
            · have := hrise i k hh hk; omega
            · exact hne hh
            · have := hrise k i hh hi; omega)
          rw [hJk, ← hwt] at h1
          exact h1.mono fun e w'' h => ⟨h.1, bb.trans (h.2.mono bb.size)⟩
        have CC : ∀ w', Below X.heap.size X w' → Calls Try.prog 38 #[.agg #[.pointer (some ⟨gb, 0, none⟩), .string s, .slice (some ⟨b, 0, none⟩) n n], .int .u64 (r : Nat)] w' fun e w'' => e = .returned (.int .u64 (ch : Nat)) ∧ Below X.heap.size X w'' := by
          intro w' bb
          rw [hch]
          exact (pchallenge_any (BRX.below bb).bu n r).mono fun e w'' h => ⟨h.1, bb.trans (h.2.mono bb.size)⟩
        have T1 : ∀ w', Calls Try.prog 23 #[.int .u64 (p.2 : Nat), .int .u64 (u : Nat)] w' fun e w'' => e = .returned (.int .u64 (q : Nat)) ∧ w'' = w' := by
          intro w'; rw [hq]; exact times_any p.2 u w' hps.2 hus
        have T2 : ∀ w', Calls Try.prog 23 #[.int .u64 (wt : Nat), .int .u64 (g.sh : Nat)] w' fun e w'' => e = .returned (.int .u64 (v : Nat)) ∧ w'' = w' := by
          intro w'; rw [hv]; exact times_any wt g.sh w' hwts hok.sc
        have T3 : ∀ w', Calls Try.prog 23 #[.int .u64 (v : Nat), .int .u64 (ch : Nat)] w' fun e w'' => e = .returned (.int .u64 (ow : Nat)) ∧ w'' = w' := by
          intro w'; rw [how]; exact times_any v ch w' hvs hchs
        have fin : ∀ w', Below X.heap.size X w' → PsiPost w x (psF x gb ab mb) g l s n I D E (.returned (.tuple #[.int .u64 (M.sumF p.1 [q, ow] : Nat), .int .i64 0])) w' := by
          intro w' bb
          refine ⟨0, _, hlook, C0.trans (Below.chg bb _), rfl, .inr (.inr (.inr ⟨rfl, k, jj, hjj, hk, hh, by rw [← hJ, ← hr]; exact hr1, ?_, ⟨gb, ab, o, c, mb, (mk _ hM).below bb, rfl⟩⟩))⟩
          have e : M.sumF p.1 [q, ow] = M.ans J D E g.f n s g.sh k l[jj].1 l[jj].2 := by
            unfold M.ans
            rw [hJk, ← hu, ← hwt, ← hr, ← hch, ← hp, ← hv, ← how]
            show ((p.1 + q) % 1073741789 + ow) % 1073741789 = (p.1 + p.2 * u + ow) % 1073741789
            rw [hq]
            omega
          rw [e, hJ]
        have CS : ∀ w', RdF w' (some ⟨w'.heap.size, 0, none⟩) 2 (cu [q, ow]) → True := fun _ _ => trivial
        have HFin := Hid.intro fin
        clear CS fin hlook hI hrise hkey hfit hJ hr hIJ BR3 hhit hkeyhit mk C0 hcl h4 hM hr1 hh BRX hB4 eX hu hq hwt hv hch how hjk hp tk pcell f0 f1 hus hwts hvs hchs
        go_upto_region 11 with fail
        go_cut [13] from 47 (fun s13 wx => s13 = .int .u64 (q : Nat) ∧ Below X.heap.size X wx)
        case first =>
          go_region_held (fun w' => w'.cell? ⟨w2.heap.size, 0, none⟩ = some (.pointer (some ⟨gb, 0, none⟩)) ∧ w'.cell? ⟨w2.heap.size, 1, none⟩ = some (.string s) ∧ w'.cell? ⟨w2.heap.size, 2, none⟩ = some (.slice (some ⟨b, 0, none⟩) n n) ∧ w'.cell? ⟨x, 1, none⟩ = some (.int .i64 (g.id : Nat)) ∧ w'.cell? ⟨x, 2, none⟩ = some (.int .u64 (g.sh : Nat)) ∧ w'.cell? ⟨pb, 0, none⟩ = some (.int .u64 (p.1 : Nat)) ∧ w'.cell? ⟨pb, 1, none⟩ = some (.int .u64 (p.2 : Nat)) ∧ Below X.heap.size X w')
            (first | assumption | exact K11 _ (Below.refl _ _).drew | exact K11 _ b8) (first | (go_at_call 36; refine (CF _ (Below.refl _ _).drew).mono ?_; rintro ex w8 ⟨rfl, b8⟩) | (go_at_call 23; refine (T1 _).mono ?_; rintro ex w9 ⟨rfl, hw9⟩; subst hw9))
          all_goals
            go_wp2_with fail
            go_meet
            case rel => exact ⟨rfl, b8⟩
        case rest =>
          obtain ⟨rfl, bY⟩ := hcut
          obtain ⟨Y, hY⟩ : ∃ Y, Y = wc := ⟨_, rfl⟩
          subst hY
          go_upto_region 12 with fail
          go_cut [14] from 56 (fun s14 wx => s14 = .int .u64 (ow : Nat) ∧ Below X.heap.size X wx)
          case first =>
            go_region_held (fun w' => w'.cell? ⟨w2.heap.size, 0, none⟩ = some (.pointer (some ⟨gb, 0, none⟩)) ∧ w'.cell? ⟨w2.heap.size, 1, none⟩ = some (.string s) ∧ w'.cell? ⟨w2.heap.size, 2, none⟩ = some (.slice (some ⟨b, 0, none⟩) n n) ∧ w'.cell? ⟨x, 1, none⟩ = some (.int .i64 (g.id : Nat)) ∧ w'.cell? ⟨x, 2, none⟩ = some (.int .u64 (g.sh : Nat)) ∧ w'.cell? ⟨pb, 0, none⟩ = some (.int .u64 (p.1 : Nat)) ∧ w'.cell? ⟨pb, 1, none⟩ = some (.int .u64 (p.2 : Nat)) ∧ Below X.heap.size X w')
              (first | assumption | exact K11 _ bY.drew | exact K11 _ b8 | exact K11 _ b9) (first | (go_at_call 37; refine (CW _ (by first | exact b9 | exact bY.drew)).mono ?_; rintro ex w8 ⟨rfl, b8⟩) | (go_at_call 38; refine (CC _ (by first | exact b8 | exact bY.drew)).mono ?_; rintro ex w9 ⟨rfl, b9⟩) | (go_at_call 23; refine (T2 _).mono ?_; rintro ex w10 ⟨rfl, hw10⟩; subst hw10) | (go_at_call 23; refine (T3 _).mono ?_; rintro ex w10 ⟨rfl, hw10⟩; subst hw10))
            all_goals
              go_wp2_with fail
              go_meet
              case rel => exact ⟨rfl, by assumption⟩
          case rest =>
            obtain ⟨rfl, bZ⟩ := hcut
            have bz := below_alloc wc (.cells #[.int .u64 (q : Nat), .int .u64 (ow : Nat)] 51)
            have CS := together_from p.1 (some ⟨wc.heap.size, 0, none⟩) 2 [q, ow] (wc.alloc (.cells #[.int .u64 (q : Nat), .int .u64 (ow : Nat)] 51)) hps.1 (by simp) (by intro y hy; simp at hy; rcases hy with rfl | rfl; exact hqs; exact hows) (rd_lit2 (heap_alloc_new wc _))
            obtain ⟨_, _, _, _, _, g0, _, _⟩ := K11 _ bZ
            go_wp2_with (go_at_call 20; refine CS.mono ?_; rintro ex w10 ⟨rfl, hw10⟩; subst hw10)
            go_ret2
            exact HFin.out _ (bZ.trans (bz.mono bZ.size))
  · have hne : ((er : Int) == 0) = false := by simp; omega
    go_wp2_with fail
    go_ret2
    exact ⟨er, _, hlook, Below.chg bw3 _, rfl, .inl ⟨her, ⟨gb, ab, o, c, mb, HH.out.below bw3, rfl⟩, rfl⟩⟩
end Go.Proofs.Yteoioldbigomaab
