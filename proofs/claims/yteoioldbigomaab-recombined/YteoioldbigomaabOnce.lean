import Derived.Test.YteoioldbigomaabElem
import Derived.Defers
import Derived.Laws.Pointers
import Derived.Laws.LoneSync
import Derived.RegionCalls
namespace Go.Proofs.Yteoioldbigomaab
open Go.RowKit

theorem disable (w : World) : (callFunc 74 #[]).run Try.prog w = .ok (.value (.tuple #[])) w := run_call_mark0 Try.func74 (by kernel_rfl) (by kernel_rfl) (by kernel_rfl) .disable (by kernel_rfl) w
theorem enable (w : World) : (callFunc 76 #[]).run Try.prog w = .ok (.value (.tuple #[])) w := run_call_mark0 Try.func76 (by kernel_rfl) (by kernel_rfl) (by kernel_rfl) .enable (by kernel_rfl) w
theorem acquire (a : Addr) (w : World) : (callFunc 77 #[.pointer (some a)]).run Try.prog w = .ok (.value (.tuple #[])) w := run_call_marked Try.func77 (by kernel_rfl) (by kernel_rfl) (by kernel_rfl) .acquire (by kernel_rfl) a w
theorem releaseMerge (a : Addr) (w : World) : (callFunc 79 #[.pointer (some a)]).run Try.prog w = .ok (.value (.tuple #[])) w := run_call_marked Try.func79 (by kernel_rfl) (by kernel_rfl) (by kernel_rfl) .releaseMerge (by kernel_rfl) a w

/-- (*atomic.Bool).Store(true), deferred. -/
theorem store_deferred (a : Addr) (x : Value) (u : FrameMode) (w : World) (hc : w.cell? a = some x) (hz : w.frozen? a = false) :
    CallsD Try.prog 95 #[.pointer (some a), .bool true] u w fun e u' w' => u' = u ∧ (e = .returned (.tuple #[]) ∧ w' = w.drew.setCell a (.int .u32 1)) := by
  have hc' : w.drew.cell? a = some x := by go_simp
  have hz' : w.drew.frozen? a = false := by go_simp
  have hst := run_call_store (P := Try.prog) Try.func96 (by kernel_rfl) (by kernel_rfl) (by kernel_rfl) (by kernel_rfl) (k := .u32) (y := 1) hc' hz'
  go_enter_d Try.func95, Try.ntmps95
  go_wp2
  go_region_calls
  all_goals (go_end0; exact ⟨rfl, rfl⟩)

set_option maxRecDepth 100000 in
/-- (*sync.Mutex).Unlock, deferred. -/
theorem unlock_deferred (a : Addr) (u : FrameMode) (w : World) (hc : w.cell? a = some (.int .i32 1)) (hz : w.frozen? a = false) :
    CallsD Try.prog 40 #[.pointer (some a)] u w fun e u' w' => u' = u ∧ (e = .returned (.tuple #[]) ∧ w' = w.setCell a (.int .i32 0)) := by
  have hd := disable
  have he := enable
  have hr := releaseMerge
  have hadd := run_call_add (P := Try.prog) Try.func80 (by kernel_rfl) (by kernel_rfl) (by kernel_rfl) .i32 (by kernel_rfl) (y := -1) (s := 0) hc hz (by simp [go_sem]; rfl)
  have hcv := run_convert_to_unsafe (P := Try.prog) (src := 133) (dst := 137) Try.underlying133 Try.underlying137 (by kernel_rfl) hc
  go_enter_d Try.func40, Try.ntmps40
  go_wp2
  go_end0
  go_wp2
  go_end0
  exact ⟨rfl, rfl⟩

set_option maxRecDepth 100000 in
/-- (*sync.Mutex).Lock, the lock free. -/
theorem lock_free (a : Addr) (w : World) (hc : w.cell? a = some (.int .i32 0)) (hz : w.frozen? a = false) :
    Calls Try.prog 39 #[.pointer (some a)] w fun e w' => e = .returned (.tuple #[]) ∧ w' = w.setCell a (.int .i32 1) := by
  have hd := disable
  have he := enable
  have ha := acquire
  have hcas := run_call_cas_hit (P := Try.prog) Try.func75 (by kernel_rfl) (by kernel_rfl) (by kernel_rfl) .i32 (by kernel_rfl) (y := 1) hc hz
  have hc' : (w.setCell a (.int .i32 1)).cell? a = some (.int .i32 1) := World.cell?_setCell_same w a _ hc
  have hcv := run_convert_to_unsafe (P := Try.prog) (src := 133) (dst := 137) Try.underlying133 Try.underlying137 (by kernel_rfl) hc'
  go_enter Try.func39, Try.ntmps39
  go_wp2
  first | go_end0 | (simp only [Exit.inBlock, Exit.then]; refine bodyPost_ret (results_none rfl _ _ _) rfl ?_) | refine bodyPost_ret (results_none rfl _ _ _) rfl ?_
  go_wp2
  go_end0
  exact ⟨rfl, rfl⟩

set_option maxRecDepth 100000 in
/-- (*atomic.Bool).Load, not yet done. -/
theorem load_zero (a : Addr) (w : World) (hc : w.cell? a = some (.int .u32 0)) :
    Calls Try.prog 82 #[.pointer (some a)] w fun e w' => e = .returned (.bool false) ∧ w' = w := by
  have hl := run_call_load (P := Try.prog) Try.func94 (by kernel_rfl) (by kernel_rfl) (by kernel_rfl) .u32 (by kernel_rfl) hc
  go_enter Try.func82, Try.ntmps82
  go_wp2
  go_ret
  exact ⟨rfl, rfl⟩

end Go.Proofs.Yteoioldbigomaab
namespace Go.Proofs.Yteoioldbigomaab
open Go.RowKit

set_option maxRecDepth 100000 in
set_option maxHeartbeats 1600000 in
/-- (*sync.Once).doSlow of a group's Once: not yet done, the lock free. -/
theorem slow_any (g N T : Nat) (a : Option Addr) (c : Nat) (f : Nat → Nat) (w : World) (hN : N ≤ 9) (hT : T ≤ 65536) (hf : ∀ i, i < T → EL (f i)) (G : GB w g N T a c 0 0 (fun i => M.pub f T (i + 1)) 0)
    (rd : RdF w a T (cu (M.sq f T))) (hne : ∀ x, a = some x → x.block ≠ g) :
    Calls Try.prog 83 #[.pointer (some ⟨g, 2, none⟩), .func (.func 65) #[.pointer (some ⟨g, 0, none⟩)] #[]] w fun e w' => e = .returned (.tuple #[]) ∧
      w.grownBy w' (some g) ∧ GB w' g N T a c 1 0 (fun i => M.pub f T (i + 1)) N := by
  have HF : Hid (∀ i, i < T → EL (f i)) := hf
  have HE : Hid (∀ x, a = some x → x.block ≠ g) := hne
  clear hf hne
  obtain ⟨_, _, c2, c3⟩ := G.cells
  have f3 := G.frozen 3
  have G1 := G.setLock 1
  have gr1 := grown_set w g 3 (.int .i32 1)
  have rd1 := rd.grown gr1 HE.out
  obtain ⟨_, _, d2, _⟩ := G1.cells
  go_enter_defers Try.func83, Try.ntmps83
  go_wp2_with (first | (go_at_call 39; refine (lock_free ⟨g, 3, none⟩ _ c3 f3).mono ?_; rintro e w' ⟨rfl, rfl⟩) | (go_at_call 82; refine (load_zero ⟨g, 2, none⟩ _ d2).mono ?_; rintro e w' ⟨rfl, hw'⟩; subst hw') | (go_at_call 65; refine (work_any g N T a c 0 1 f _ hN hT HF.out G1 rd1 HE.out).mono ?_; rintro e w2 ⟨rfl, gr2, G2⟩))
  refine leaves_cons (f := 95) (args := #[.pointer (some ⟨g, 2, none⟩), .bool true]) (by simp) (by simp [go_sem]) ?_
  have G3 := G2.drew.setDone 1
  obtain ⟨_, _, e2, e3⟩ := G2.cells
  refine (store_deferred ⟨g, 2, none⟩ (.int .u32 0) .returning _ e2 (G2.frozen 2)).mono ?_
  rintro e u' w'' ⟨rfl, rfl, rfl⟩
  refine leaves_cons (f := 40) (args := #[.pointer (some ⟨g, 3, none⟩)]) (by simp [settle]) (by simp [go_sem]) ?_
  refine (unlock_deferred ⟨g, 3, none⟩ _ _ G3.cells.2.2.2 (G3.frozen 3)).mono ?_
  rintro e u' w'' ⟨rfl, rfl, rfl⟩
  have G4 := G3.setLock 0
  simp only [Leaves, settle, results, Try.results83]
  refine ⟨.tuple #[], by simp, rfl, ?_, G4⟩
  exact grown_trans gr1 (grown_trans gr2 (grown_trans (grown_drew _ _) (grown_trans (grown_set _ _ _ _) (grown_set _ _ _ _))))

set_option maxRecDepth 100000 in
theorem do_first (g N T : Nat) (a : Option Addr) (c : Nat) (f : Nat → Nat) (w : World) (hN : N ≤ 9) (hT : T ≤ 65536) (hf : ∀ i, i < T → EL (f i)) (G : GB w g N T a c 0 0 (fun i => M.pub f T (i + 1)) 0)
    (rd : RdF w a T (cu (M.sq f T))) (hne : ∀ x, a = some x → x.block ≠ g) :
    Calls Try.prog 64 #[.pointer (some ⟨g, 2, none⟩), .func (.func 65) #[.pointer (some ⟨g, 0, none⟩)] #[]] w fun e w' => e = .returned (.tuple #[]) ∧
      w.grownBy w' (some g) ∧ GB w' g N T a c 1 0 (fun i => M.pub f T (i + 1)) N := by
  have C := slow_any g N T a c f w hN hT hf G rd hne
  obtain ⟨_, _, c2, c3⟩ := G.cells
  clear hf hne rd
  go_enter Try.func64, Try.ntmps64
  go_wp2_with (first | (go_at_call 82; refine (load_zero ⟨g, 2, none⟩ _ c2).mono ?_; rintro e w' ⟨rfl, hw'⟩; subst hw') | (go_at_call 83; refine C.mono ?_; rintro e w2 ⟨rfl, gr2, G2⟩))
  go_end0
  exact ⟨rfl, gr2, G2⟩

set_option maxRecDepth 100000 in
theorem public_any (g N T id : Nat) (a : Option Addr) (c : Nat) (f : Nat → Nat) (w : World) (hN : N ≤ 9) (hT : T ≤ 65536) (hf : ∀ i, i < T → EL (f i)) (G : GB w g N T a c 0 0 (fun i => M.pub f T (i + 1)) 0)
    (rd : RdF w a T (cu (M.sq f T))) (hne : ∀ x, a = some x → x.block ≠ g) (h1 : 1 ≤ id) (h2 : id ≤ N) :
    Calls Try.prog 47 #[.pointer (some ⟨g, 0, none⟩), .int .i64 id] w fun e w' => e = .returned (.int .u64 (M.pub f T id : Nat)) ∧ w.grownBy w' (some g) ∧ GB w' g N T a c 1 0 (fun i => M.pub f T (i + 1)) N := by
  have C := do_first g N T a c f w hN hT hf G rd hne
  obtain ⟨c0, _, c2, c3⟩ := G.cells
  have hmf : ∀ (fn : Fn) (first cap : Array Value) (w : World), (Instr.makeFunc fn first cap).run Try.prog w = .ok (.func fn first cap) w := fun _ _ _ _ => rfl
  obtain ⟨k, rfl⟩ : ∃ k, id = k + 1 := ⟨id - 1, by omega⟩
  have e1 : (((k + 1 : Nat) : Int)) = (k : Int) + 1 := by omega
  rw [e1]
  have hk9 : (k : Int) < 9 := by omega
  clear hf hne rd e1
  go_enter Try.func47, Try.ntmps47
  go_wp2_with (go_at_call 64; refine C.mono ?_; rintro e w2 ⟨rfl, gr2, G2⟩; have hp := G2.pubAt (i := k) (by omega))
  go_ret
  exact ⟨rfl, gr2, G2⟩
end Go.Proofs.Yteoioldbigomaab
