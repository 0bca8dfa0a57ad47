/- The walk of package inst's formOf: what an instruction has. -/
import Derived.Test.YtmapmhcmeokahaaRows
import Derived.Test.YtmapmhcmeokahaaInst
import Derived.WalkKit
import Derived.WalkSpells
import Derived.WalkLawsBesides
namespace Go.Proofs.Ytmapmhcmeokahaa
set_option linter.unusedSimpArgs false
set_option linter.unusedVariables false
set_option linter.unnecessarySimpa false
open Go.RowKit

theorem form_out {op : Int} (h : op < 1 ∨ 38 < op) : Dk.form op = ((0, 0, 0, 0), false) := by
  unfold Dk.form
  repeat rw [if_neg (by omega)]

set_option maxHeartbeats 4000000 in
theorem formOf_any (op : Int) (w : World) :
    Calls Try.prog 15 #[.int .i64 op] w fun e w' => e = .returned (.tuple #[.agg #[.int .i64 (Dk.form op).1.1, .int .i64 (Dk.form op).1.2.1, .int .i64 (Dk.form op).1.2.2.1, .int .i64 (Dk.form op).1.2.2.2], .bool (Dk.form op).2]) ∧ Below w.heap.size w w' := by
  go_enter Try.func15, Try.ntmps15
  go_wp2
  all_goals
    first
      | (have e := eq_of_beq ‹(op == _) = true›
         subst e
         exact bodyPost_ret (v := .tuple #[.agg #[.int .i64 _, .int .i64 _, .int .i64 _, .int .i64 _], .bool _]) (by simp [results, Try.results15, go_sem]; exact ⟨⟨rfl, rfl, rfl, rfl⟩, rfl⟩) rfl ⟨rfl, (Below.refl _ _).alloc (Nat.le_refl _) _⟩)
      | skip
  have ho : op < 1 ∨ 38 < op := by
    have h1 := ne_of_beq_false ‹(op == 1) = false›
    have h2 := ne_of_beq_false ‹(op == 2) = false›
    have h3 := ne_of_beq_false ‹(op == 3) = false›
    have h4 := ne_of_beq_false ‹(op == 4) = false›
    have h5 := ne_of_beq_false ‹(op == 5) = false›
    have h6 := ne_of_beq_false ‹(op == 6) = false›
    have h7 := ne_of_beq_false ‹(op == 7) = false›
    have h8 := ne_of_beq_false ‹(op == 8) = false›
    have h9 := ne_of_beq_false ‹(op == 9) = false›
    have h10 := ne_of_beq_false ‹(op == 10) = false›
    have h11 := ne_of_beq_false ‹(op == 11) = false›
    have h12 := ne_of_beq_false ‹(op == 12) = false›
    have h13 := ne_of_beq_false ‹(op == 13) = false›
    have h14 := ne_of_beq_false ‹(op == 14) = false›
    have h15 := ne_of_beq_false ‹(op == 15) = false›
    have h16 := ne_of_beq_false ‹(op == 16) = false›
    have h17 := ne_of_beq_false ‹(op == 17) = false›
    have h18 := ne_of_beq_false ‹(op == 18) = false›
    have h19 := ne_of_beq_false ‹(op == 19) = false›
    have h20 := ne_of_beq_false ‹(op == 20) = false›
    have h21 := ne_of_beq_false ‹(op == 21) = false›
    have h22 := ne_of_beq_false ‹(op == 22) = false›
    have h23 := ne_of_beq_false ‹(op == 23) = false›
    have h24 := ne_of_beq_false ‹(op == 24) = false›
    have h25 := ne_of_beq_false ‹(op == 25) = false›
    have h26 := ne_of_beq_false ‹(op == 26) = false›
    have h27 := ne_of_beq_false ‹(op == 27) = false›
    have h28 := ne_of_beq_false ‹(op == 28) = false›
    have h29 := ne_of_beq_false ‹(op == 29) = false›
    have h30 := ne_of_beq_false ‹(op == 30) = false›
    have h31 := ne_of_beq_false ‹(op == 31) = false›
    have h32 := ne_of_beq_false ‹(op == 32) = false›
    have h33 := ne_of_beq_false ‹(op == 33) = false›
    have h34 := ne_of_beq_false ‹(op == 34) = false›
    have h35 := ne_of_beq_false ‹(op == 35) = false›
    have h36 := ne_of_beq_false ‹(op == 36) = false›
    have h37 := ne_of_beq_false ‹(op == 37) = false›
    have h38 := ne_of_beq_false ‹(op == 38) = false›
    omega
  exact bodyPost_ret (v := .tuple #[.agg #[.int .i64 0, .int .i64 0, .int .i64 0, .int .i64 0], .bool false]) (by simp [results, Try.results15, go_sem]) rfl ⟨by rw [form_out ho], (Below.refl _ _).alloc (Nat.le_refl _) _⟩

end Go.Proofs.Ytmapmhcmeokahaa
