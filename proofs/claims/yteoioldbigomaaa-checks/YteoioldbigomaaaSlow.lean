import Derived.Test.YteoioldbigomaaaOnce
namespace Go.Proofs.Yteoioldbigomaaa
open Go.RowKit

set_option maxRecDepth 100000 in
set_option maxHeartbeats 1600000 in
/-- (*sync.Once).doSlow of a group's Once: not yet done, the lock free. -/
theorem slow_any (g N T : Nat) (a : Option Addr) (c : Nat) (f : Nat → Nat) (w : World) (hN : N ≤ 9) (hT : T ≤ 65536) (hf : ∀ i, i < T → EL (f i)) (G : GB w g N T a c 0 0 (fun i => M.pub f T (i + 1)) 0)
    (rd : RdF w a T (cu (M.sq f T))) (hne : ∀ x, a = some x → x.block ≠ g) :
    Calls Try.prog 76 #[.pointer (some ⟨g, 2, none⟩), .func (.func 69) #[.pointer (some ⟨g, 0, none⟩)] #[]] w fun e w' => e = .returned (.tuple #[]) ∧
      w.grownBy w' (some g) ∧ GB w' g N T a c 1 0 (fun i => M.pub f T (i + 1)) N := by
  have HF : Hid (∀ i, i < T → EL (f i)) := hf
  have HE : Hid (∀ x, a = some x → x.block ≠ g) := hne
  clear hf hne
  obtain ⟨_, _, c2, c3⟩ := G.cells
  have f3 := G.frozen 3
  have G1 := G.setLock 1
  have gr1 := grown_set w g 3 (.int .i32 1)
  have rd1 := rd.grown gr1 HE.out
  obtain ⟨_, _, d2, _⟩ := G1.cells
  go_enter_defers Try.func76, Try.ntmps76
  go_wp2_with (first | (go_at_call 81; refine (lock_free ⟨g, 3, none⟩ _ c3 f3).mono ?_; rintro e w' ⟨rfl, rfl⟩) | (go_at_call 75; refine (load_zero ⟨g, 2, none⟩ _ d2).mono ?_; rintro e w' ⟨rfl, hw'⟩; subst hw') | (go_at_call 69; refine (work_any g N T a c 0 1 f _ hN hT HF.out G1 rd1 HE.out).mono ?_; rintro e w2 ⟨rfl, gr2, G2⟩))
  refine leaves_cons (f := 83) (args := #[.pointer (some ⟨g, 2, none⟩), .bool true]) (by simp) (by simp [go_sem]) ?_
  have G3 := G2.drew.setDone 1
  obtain ⟨_, _, e2, e3⟩ := G2.cells
  refine (store_deferred ⟨g, 2, none⟩ (.int .u32 0) .returning _ e2 (G2.frozen 2)).mono ?_
  rintro e u' w'' ⟨rfl, rfl, rfl⟩
  refine leaves_cons (f := 82) (args := #[.pointer (some ⟨g, 3, none⟩)]) (by simp [settle]) (by simp [go_sem]) ?_
  refine (unlock_deferred ⟨g, 3, none⟩ _ _ G3.cells.2.2.2 (G3.frozen 3)).mono ?_
  rintro e u' w'' ⟨rfl, rfl, rfl⟩
  have G4 := G3.setLock 0
  simp only [Leaves, settle, results, Try.results76]
  refine ⟨.tuple #[], by simp, rfl, ?_, G4⟩
  exact grown_trans gr1 (grown_trans gr2 (grown_trans (grown_drew _ _) (grown_trans (grown_set _ _ _ _) (grown_set _ _ _ _))))

set_option maxRecDepth 100000 in
theorem do_first (g N T : Nat) (a : Option Addr) (c : Nat) (f : Nat → Nat) (w : World) (hN : N ≤ 9) (hT : T ≤ 65536) (hf : ∀ i, i < T → EL (f i)) (G : GB w g N T a c 0 0 (fun i => M.pub f T (i + 1)) 0)
    (rd : RdF w a T (cu (M.sq f T))) (hne : ∀ x, a = some x → x.block ≠ g) :
    Calls Try.prog 68 #[.pointer (some ⟨g, 2, none⟩), .func (.func 69) #[.pointer (some ⟨g, 0, none⟩)] #[]] w fun e w' => e = .returned (.tuple #[]) ∧
      w.grownBy w' (some g) ∧ GB w' g N T a c 1 0 (fun i => M.pub f T (i + 1)) N := by
  have C := slow_any g N T a c f w hN hT hf G rd hne
  obtain ⟨_, _, c2, c3⟩ := G.cells
  clear hf hne rd
  go_enter Try.func68, Try.ntmps68
  go_wp2_with (first | (go_at_call 75; refine (load_zero ⟨g, 2, none⟩ _ c2).mono ?_; rintro e w' ⟨rfl, hw'⟩; subst hw') | (go_at_call 76; refine C.mono ?_; rintro e w2 ⟨rfl, gr2, G2⟩))
  go_end0
  exact ⟨rfl, gr2, G2⟩

set_option maxRecDepth 100000 in
theorem public_any (g N T id : Nat) (a : Option Addr) (c : Nat) (f : Nat → Nat) (w : World) (hN : N ≤ 9) (hT : T ≤ 65536) (hf : ∀ i, i < T → EL (f i)) (G : GB w g N T a c 0 0 (fun i => M.pub f T (i + 1)) 0)
    (rd : RdF w a T (cu (M.sq f T))) (hne : ∀ x, a = some x → x.block ≠ g) (h1 : 1 ≤ id) (h2 : id ≤ N) :
    Calls Try.prog 59 #[.pointer (some ⟨g, 0, none⟩), .int .i64 id] w fun e w' => e = .returned (.int .u64 (M.pub f T id : Nat)) ∧ w.grownBy w' (some g) ∧ GB w' g N T a c 1 0 (fun i => M.pub f T (i + 1)) N := by
  have C := do_first g N T a c f w hN hT hf G rd hne
  obtain ⟨c0, _, c2, c3⟩ := G.cells
  have hmf : ∀ (fn : Fn) (first cap : Array Value) (w : World), (Instr.makeFunc fn first cap).run Try.prog w = .ok (.func fn first cap) w := fun _ _ _ _ => rfl
  obtain ⟨k, rfl⟩ : ∃ k, id = k + 1 := ⟨id - 1, by omega⟩
  have e1 : (((k + 1 : Nat) : Int)) = (k : Int) + 1 := by omega
  rw [e1]
  have hk9 : (k : Int) < 9 := by omega
  clear hf hne rd e1
  go_enter Try.func59, Try.ntmps59
  go_wp2_with (go_at_call 68; refine C.mono ?_; rintro e w2 ⟨rfl, gr2, G2⟩; have hp := G2.pubAt (i := k) (by omega))
  go_ret
  exact ⟨rfl, gr2, G2⟩
end Go.Proofs.Yteoioldbigomaaa
