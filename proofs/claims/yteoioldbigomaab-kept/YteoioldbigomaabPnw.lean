import Derived.Test.YteoioldbigomaabPtk
import Derived.Test.YteoioldbigomaabWld
namespace Go.Proofs.Yteoioldbigomaab
open Go.RowKit

/-- A signer of the program's: its block, its group's, the commitments', the map's. -/
structure PSat (w : World) (x gb ab o c mb : Nat) (g : Sg) (l : List (Nat × Nat)) : Prop where
  sb : SB w x gb g.id g.sh 0 mb
  gr : ∃ d, GB w gb g.N g.T (some ⟨ab, o, none⟩) c d 0 (fun _ => 0) 0
  rd : RdF w (some ⟨ab, o, none⟩) g.T (cu (M.sq g.f g.T))
  mp : MapIs w mb g.id l
  n1 : gb ≠ x
  n2 : ab ≠ x
  n3 : mb ≠ x
  n4 : mb ≠ gb
  n5 : mb ≠ ab
  lt : ab < w.heap.size
abbrev psF (x gb ab mb : Nat) : Nat → Prop := fun k => k = x ∨ k = gb ∨ k = ab ∨ k = mb
def PS (w : World) (x : Nat) (F : Nat → Prop) (g : Sg) (l : List (Nat × Nat)) : Prop := ∃ gb ab o c mb, PSat w x gb ab o c mb g l ∧ F = psF x gb ab mb

theorem PSat.chg {P : Nat → Prop} {w w' : World} {x gb ab o c mb : Nat} {g : Sg} {l : List (Nat × Nat)} (h : PSat w x gb ab o c mb g l) (hc : Chg P w w') (hn : ∀ b, psF x gb ab mb b → ¬ P b) : PSat w' x gb ab o c mb g l := by
  obtain ⟨d, G⟩ := h.gr
  exact ⟨h.sb.same (hc.block x h.sb.lt (hn x (.inl rfl))), ⟨d, G.same (hc.block gb G.lt (hn gb (.inr (.inl rfl))))⟩, h.rd.chg hc (fun y hy => by simp only [Option.some.injEq] at hy; subst hy; exact hn ab (.inr (.inr (.inl rfl)))),
    h.mp.same (hc.block mb h.mp.lt (hn mb (.inr (.inr (.inr rfl))))), h.n1, h.n2, h.n3, h.n4, h.n5, Nat.lt_of_lt_of_le h.lt hc.size⟩
theorem PSat.below {w w' : World} {x gb ab o c mb : Nat} {g : Sg} {l : List (Nat × Nat)} (h : PSat w x gb ab o c mb g l) (b : Below w.heap.size w w') : PSat w' x gb ab o c mb g l := h.chg (Below.chg b fun _ => False) fun _ _ hf => hf
theorem GB.none {w : World} {g N T : Nat} {a : Option Addr} {c : Nat} {d m : Int} {pub : Nat → Nat} {k : Nat} (h : GB w g N T a c d m pub k) (p : Nat → Nat) : GB w g N T a c d m p 0 := by
  obtain ⟨cs, h0, h1, h2, h3, h4, h5, _⟩ := h
  exact ⟨cs, h0, h1, h2, h3, h4, h5, fun i hi => absurd hi (Nat.not_lt_zero _)⟩
def side : Side where
  PS := PS
  lt := by
    rintro w x F g l ⟨gb, ab, o, c, mb, h, rfl⟩ b hb
    obtain ⟨d, G⟩ := h.gr
    rcases hb with rfl | rfl | rfl | rfl
    · exact h.sb.lt
    · exact G.lt
    · exact h.lt
    · exact h.mp.lt
  chg := by
    rintro P w w' x F g l ⟨gb, ab, o, c, mb, h, rfl⟩ hc hn
    exact ⟨gb, ab, o, c, mb, h.chg hc hn, rfl⟩

set_option maxHeartbeats 1000000 in
set_option maxRecDepth 100000 in
theorem pnew_any (t n id : Int) (a : Option Addr) (len c sh : Nat) (f : Nat → Nat) (w : World) (hr : RdF w a len (cu (M.sq f len))) :
    Calls Try.prog 10 #[.agg #[.int .i64 t, .int .i64 n, .slice a len c], .int .i64 id, .int .u64 sh] w fun e w' => Below w.heap.size w w' ∧ ∃ er : Nat, M.NsE t n len f id sh er ∧
      ((er ≠ 0 ∧ e = .returned (.tuple #[.pointer none, .int .i64 er])) ∨
       (er = 0 ∧ ∃ x F, e = .returned (.tuple #[.pointer (some ⟨x, 0, none⟩), .int .i64 0]) ∧ (∀ b, F b → w.heap.size ≤ b) ∧ PS w' x F ⟨len, n.toNat, id.toNat, sh, f⟩ [])) := by
  have B := below_alloc w (gro t n a len c)
  by_cases hR : RightG t n len f
  · obtain ⟨T, hT⟩ : ∃ T : Nat, t = T := ⟨t.toNat, by have := hR.fit; obtain ⟨h1, h2, h3, h4⟩ := this; omega⟩
    obtain ⟨N, hN⟩ : ∃ N : Nat, n = N := ⟨n.toNat, by have := hR.fit; obtain ⟨h1, h2, h3, h4⟩ := this; omega⟩
    subst hT hN
    obtain rfl : len = T := by have := hR.fit; obtain ⟨h1, h2, h3, h4⟩ := this; omega
    have hlen : 2 ≤ len ∧ len ≤ 9 ∧ N ≤ 9 := by have := hR.fit; obtain ⟨h1, h2, h3, h4⟩ := this; omega
    have C := claim_ok id a N len c sh f _ (hr.below B) hR
    have HL : Hid (∀ i, i < len → EL (f i)) := fun i hi => (hR.els i hi).el
    have HR : Hid (RightG len N len f) := hR
    have hmm := @run_makeMap Try.prog
    clear hR hr
    go_enter Try.func10, Try.ntmps10
    go_wp2_with fail
    refine C.mono ?_
    rintro e w2 ⟨bel, ⟨hid, rfl⟩ | ⟨hid, hs, rfl⟩ | ⟨hid, hs, g, a', c', rfl, hg, G, rd, hne, hnew⟩⟩
    · clear C
      go_wp2_with fail
      go_ret2
      exact ⟨B.trans (bel.mono B.size), 5, .inr (.inl ⟨HR.out, hid, rfl⟩), .inl ⟨by omega, rfl⟩⟩
    · clear C
      go_wp2_with fail
      go_ret2
      exact ⟨B.trans (bel.mono B.size), 2, .inr (.inr (.inl ⟨HR.out, hid, hs, rfl⟩)), .inl ⟨by omega, rfl⟩⟩
    · clear C
      have belw2 : Below w.heap.size w w2 := B.trans (bel.mono B.size)
      obtain ⟨k, rfl⟩ : ∃ k : Nat, id = k := ⟨id.toNat, by omega⟩
      obtain ⟨ab, o, rfl, hab, _⟩ := rd.at (by omega)
      have hab1 := hne _ rfl
      have hab2 := hnew _ rfl
      simp only at hab1 hab2
      have CG := gave_any g N len k sh _ c' f _ (by omega) (by omega) HL.out G rd hne (by omega) (by omega) hs
      clear hne hnew
      by_cases h3 : M.pw 2147483579 4 sh = M.pub f len k
      · rw [decide_eq_true h3] at CG
        have H3 : Hid (M.pw 2147483579 4 sh = M.pub f len k) := h3
        clear h3
        go_wp2_with (go_at_call 17; refine CG.mono ?_; rintro e w4 ⟨rfl, gr, G4⟩)
        have belw : Below w.heap.size w w4 := belw2.grown gr belw2.size (fun k hk => by simp only [Option.some.injEq] at hk; subst hk; exact Nat.le_trans B.size hg)
        have rd4 : RdF w4 (some ⟨ab, o, none⟩) len (cu (M.sq f len)) := rd.grown gr (fun x hx => by simp only [Option.some.injEq] at hx; subst hx; exact hab1)
        have hwg : w.heap.size ≤ g := Nat.le_trans B.size hg
        have hwab : w.heap.size ≤ ab := Nat.le_trans B.size hab2
        have hgl := G4.lt
        have habl : ab < w4.heap.size := Nat.lt_of_lt_of_le hab gr.size
        have hw4 := belw.size
        go_ret2
        obtain ⟨O, hO⟩ : ∃ O : Obj, O = .cells #[.pointer (some ⟨g, 0, none⟩), .int .i64 (k : Int), .int .u64 (sh : Int), .int .i32 0, .int .u32 0, .map (some w4.heap.size)] 73 := ⟨_, rfl⟩
        have b5 := below_alloc w4 (.map #[] 0)
        have b6 := below_alloc (w4.alloc (.map #[] 0)) O
        have s5 := size_alloc w4 (.map #[] 0)
        have z6 := heap_alloc_new (w4.alloc (.map #[] 0)) O
        have bb : Below w4.heap.size w4 ((w4.alloc (.map #[] 0)).alloc O) := b5.trans (b6.mono b5.size)
        rw [hO] at z6 bb b6
        refine ⟨belw.trans (bb.mono belw.size), 0, .inr (.inr (.inr (.inr ⟨HR.out, hid, hs, by simpa using H3.out, rfl⟩))), .inr ⟨rfl, w4.heap.size + 1, psF (w4.heap.size + 1) g ab w4.heap.size, ?_, ?_, g, ab, o, c', w4.heap.size, ⟨?_, ⟨1, ?_⟩, ?_, ?_, ?_, ?_, ?_, ?_, ?_, ?_⟩, rfl⟩⟩
        · rfl
        · rintro b (rfl | rfl | rfl | rfl) <;> omega
        · rw [s5] at z6; exact z6
        · exact (G4.same (bb.block g hgl)).none _
        · exact rd4.below bb
        · exact (MapIs.made w4 k).below b6
        · omega
        · omega
        · omega
        · omega
        · omega
        · exact Nat.lt_of_lt_of_le habl bb.size
      · rw [decide_eq_false h3] at CG
        have H3 : Hid (M.pw 2147483579 4 sh ≠ M.pub f len k) := h3
        clear h3
        go_wp2_with (go_at_call 17; refine CG.mono ?_; rintro e w4 ⟨rfl, gr, G4⟩)
        have belw : Below w.heap.size w w4 := belw2.grown gr belw2.size (fun k hk => by simp only [Option.some.injEq] at hk; subst hk; exact Nat.le_trans B.size hg)
        go_ret2
        exact ⟨belw, 8, .inr (.inr (.inr (.inl ⟨HR.out, hid, hs, by simpa using H3.out, rfl⟩))), .inl ⟨by omega, rfl⟩⟩
  · have C := claim_group t n id a len c sh f _ (hr.below B) hR
    have HR : Hid (¬ RightG t n len f) := hR
    clear hR hr
    go_enter Try.func10, Try.ntmps10
    go_wp2_with (go_at_call 16; refine C.mono ?_; rintro e w2 ⟨rfl, bel⟩)
    go_ret2
    exact ⟨B.trans (bel.mono B.size), 4, .inl ⟨HR.out, rfl⟩, .inl ⟨by omega, rfl⟩⟩
end Go.Proofs.Yteoioldbigomaab
