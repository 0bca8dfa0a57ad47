/- The walk of the statement on instructions against the document's own answer. -/
import Derived.Test.YtmapmhcmeokahaaLawr
import Derived.Test.YtmapmhcmeokahaaRef
import Derived.Test.YtmapmhcmeokahaaUp
namespace Go.Proofs.Ytmapmhcmeokahaa
set_option linter.unusedSimpArgs false
set_option linter.unusedVariables false
set_option linter.unnecessarySimpa false
open Go.RowKit

set_option maxHeartbeats 1000000 in
theorem instSound_w (s : Dk.Sh) (p : Dk.Prg) (i : Dk.Ins) (w : World) (hs : Lens s p) (hp : p.ok) (hi : i.ok) :
    Calls Try.prog 3 #[Dk.pv s p, Dk.iv i] w fun e w' => e = .returned (.bool true) ∧ Below w.heap.size w w' := by
  obtain ⟨W2, e2⟩ : ∃ W2, W2 = (w.alloc (.cells #[.slice s.fA s.fL s.fC, .int .i64 p.words, .int .i64 p.mutexes, .int .i64 p.conds, .slice s.sA s.sL s.sC, .slice s.pA s.pL s.pC, .int .i64 p.blocks, .int .i64 p.prio] 25)).alloc (.cells #[.int .i64 i.op, .int .i64 i.a, .int .i64 i.b, .int .i64 i.c, .int .u64 (i.n : Nat)] 28) := ⟨_, rfl⟩
  obtain ⟨z2, hF⟩ := boxes s p i w W2 e2
  have k1 : ∀ (x : Dk.Up W2) o, x.wd.cell? ⟨w.heap.size, o, none⟩ = (#[.slice s.fA s.fL s.fC, .int .i64 p.words, .int .i64 p.mutexes, .int .i64 p.conds, .slice s.sA s.sL s.sC, .slice s.pA s.pL s.pC, .int .i64 p.blocks, .int .i64 p.prio] : Array Value)[o]? := fun x o => (hF x.wd x.property).2.1 o
  have k2 : ∀ (x : Dk.Up W2) o, x.wd.cell? ⟨w.heap.size + 1, o, none⟩ = (#[.int .i64 i.op, .int .i64 i.a, .int .i64 i.b, .int .i64 i.c, .int .u64 (i.n : Nat)] : Array Value)[o]? := fun x o => (hF x.wd x.property).2.2.1 o
  have hne : Nonempty (Dk.Up W2) := ⟨⟨W2, Below.refl _ _⟩⟩
  have HF : Hid _ := hF
  clear hF z2
  generalize hsd : Dk.soundB p i = r
  have c1 : ∀ w, Calls Try.prog 9 #[Dk.pv s p, Dk.iv i] w fun e w' => e = .returned (.bool r) ∧ Below w.heap.size w w' := fun w => by rw [← hsd]; exact Sound_any s p i w hs hp
  have c2 : ∀ w, Calls Try.prog 10 #[Dk.pv s p, Dk.iv i] w fun e w' => e = .returned (.bool r) ∧ Below w.heap.size w w' := fun w => by rw [← hsd]; exact rSound_any s p i w hs hp hi
  have C1 : Hid _ := c1
  have C2 : Hid _ := c2
  clear c1 c2 hsd
  go_enter Try.func3, Try.ntmps3
  go_wp2_with fail
  rw [← e2]
  clear e2
  refine Dk.wp_region_up_lit (by kernel_rfl) (by kernel_rfl) ?_
  repeat (go_big_quiet_step ((first | (go_at_call 8; exact Dk.calls_up _ (awake_any _)) | (go_at_call 9; exact Dk.calls_up _ (C1.out _)) | (go_at_call 10; exact Dk.calls_up _ (C2.out _)))))
  refine wpQuiet_nil ?_
  intro _ hw'
  obtain ⟨x, hw''⟩ := hw'
  subst hw''
  go_wp2_with fail
  go_ret
  exact ⟨ret_bool (by simp), (HF.out x.wd x.property).1⟩

end Go.Proofs.Ytmapmhcmeokahaa
