/- The walk of the statement on programs against the document's own answer. -/
import Derived.Test.YtmapmhcmeokahaaAwake
import Derived.Test.YtmapmhcmeokahaaRchl
namespace Go.Proofs.Ytmapmhcmeokahaa
set_option linter.unusedSimpArgs false
set_option linter.unusedVariables false
set_option linter.unnecessarySimpa false
open Go.RowKit

set_option maxHeartbeats 1000000 in
theorem instChecks_w (s : Dk.Sh) (p : Dk.Prg) (w : World) (h : Dk.PrgAt w.heap.size w s p) :
    Calls Try.prog 4 #[Dk.pv s p] w fun e w' => e = .returned (.bool true) ∧ Below w.heap.size w w' := by
  obtain ⟨W1, e1⟩ : ∃ W1, W1 = w.alloc (.cells #[.slice s.fA s.fL s.fC, .int .i64 p.words, .int .i64 p.mutexes, .int .i64 p.conds, .slice s.sA s.sL s.sC, .slice s.pA s.pL s.pC, .int .i64 p.blocks, .int .i64 p.prio] 25) := ⟨_, rfl⟩
  have u1 : Below w.heap.size w W1 := by rw [e1]; exact Dk.up_alloc (Below.refl _ _) _
  have kb : ∀ w', Below W1.heap.size W1 w' → ∀ o, w'.cell? ⟨w.heap.size, o, none⟩ = (#[.slice s.fA s.fL s.fC, .int .i64 p.words, .int .i64 p.mutexes, .int .i64 p.conds, .slice s.sA s.sL s.sC, .slice s.pA s.pL s.pC, .int .i64 p.blocks, .int .i64 p.prio] : Array Value)[o]? := fun w' hw' => by
    rw [e1] at hw'
    exact Dk.box_cell hw'
  have k1 : ∀ (x : Dk.Up W1) o, x.wd.cell? ⟨w.heap.size, o, none⟩ = (#[.slice s.fA s.fL s.fC, .int .i64 p.words, .int .i64 p.mutexes, .int .i64 p.conds, .slice s.sA s.sL s.sC, .slice s.pA s.pL s.pC, .int .i64 p.blocks, .int .i64 p.prio] : Array Value)[o]? := fun x o => kb x.wd (up_below x) o
  clear kb
  have hne : Nonempty (Dk.Up W1) := ⟨⟨W1, Below.refl _ _⟩⟩
  have c1 : ∀ x : Dk.Up W1, Calls Try.prog 11 #[Dk.pv s p] x.wd fun e w' => e = .returned (.int .i64 (Dk.check p)) ∧ Below x.wd.heap.size x.wd w' := fun x =>
    Check_any w.heap.size s p x.wd (h.below (Dk.up_call u1 (up_below x)) (Nat.le_refl _)) (Dk.up_call u1 (up_below x)).size
  have c2 : ∀ x : Dk.Up W1, Calls Try.prog 12 #[Dk.pv s p] x.wd fun e w' => e = .returned (.int .i64 (Dk.check p)) ∧ Below x.wd.heap.size x.wd w' := fun x =>
    rCheck_any w.heap.size s p x.wd (h.below (Dk.up_call u1 (up_below x)) (Nat.le_refl _)) (Dk.up_call u1 (up_below x)).size
  have C1 : Hid _ := c1
  have C2 : Hid _ := c2
  clear c1 c2
  go_enter Try.func4, Try.ntmps4
  go_wp2_with fail
  rw [← e1]
  clear e1
  refine Dk.wp_region_up_lit (by kernel_rfl) (by kernel_rfl) ?_
  repeat (go_big_quiet_step ((first | (go_at_call 8; exact Dk.calls_up _ (awake_any _)) | (go_at_call 11; exact Dk.calls_up _ (C1.out _)) | (go_at_call 12; exact Dk.calls_up _ (C2.out _)))))
  refine wpQuiet_nil ?_
  intro _ hw'
  obtain ⟨x, hw''⟩ := hw'
  subst hw''
  go_wp2_with fail
  go_ret
  exact ⟨ret_bool (by simp), Dk.up_call u1 (up_below x)⟩

end Go.Proofs.Ytmapmhcmeokahaa
