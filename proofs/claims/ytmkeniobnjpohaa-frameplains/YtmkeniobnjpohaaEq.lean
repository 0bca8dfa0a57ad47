/- That a frame, an instruction and eight words are like themselves. -/
import Derived.Test.YtmkeniobnjpohaaFr
import Derived.Test.YtmkeniobnjpohaaFb
import Derived.Test.YtmkeniobnjpohaaRows
import Derived.WalkKit
import Derived.WalkLawsBesides
import Derived.ChangeKeysEq
namespace Go.Proofs.Ytmkeniobnjpohaa
set_option linter.unusedSimpArgs false
set_option linter.unusedVariables false
set_option linter.unnecessarySimpa false
open Go.RowKit

theorem same_words (d : Nat) (r : Nat → Nat) (w : World) :
    (Op.equalIn (d + 2) 27 (.agg #[.int .u64 (r 0 : Nat), .int .u64 (r 1 : Nat), .int .u64 (r 2 : Nat), .int .u64 (r 3 : Nat), .int .u64 (r 4 : Nat), .int .u64 (r 5 : Nat), .int .u64 (r 6 : Nat), .int .u64 (r 7 : Nat)]) (.agg #[.int .u64 (r 0 : Nat), .int .u64 (r 1 : Nat), .int .u64 (r 2 : Nat), .int .u64 (r 3 : Nat), .int .u64 (r 4 : Nat), .int .u64 (r 5 : Nat), .int .u64 (r 6 : Nat), .int .u64 (r 7 : Nat)])).run Try.prog w = .ok true w := by
  rw [run_equalIn_array w (d + 1) (i := Try.t26) _ _ Try.underlying27 (by kernel_rfl)]
  have e : Try.prog.cellsOf 26 = 1 := by kernel_rfl
  rw [e]
  simp [Op.eqItems, List.range, List.range.loop, go_sem, part, run_equalIn_int w d 26 .u64 .u64 _ _ Try.underlying26]

theorem same_ins (d : Nat) (i : Dk.Ins) (w : World) : (Op.equalIn (d + 2) 31 (Dk.iv i) (Dk.iv i)).run Try.prog w = .ok true w := by
  rw [run_equalIn_agg w (d + 1) 31 _ _ (by kernel_rfl) (by kernel_rfl)]
  simp [go_sem, part]

theorem same_frm (d : Nat) (f : Dk.Frm) (w : World) : (Op.equalIn (d + 3) 29 (Dk.fv f) (Dk.fv f)).run Try.prog w = .ok true w := by
  rw [run_equalIn_agg w (d + 2) 29 _ _ (by kernel_rfl) (by kernel_rfl)]
  simp [go_sem, part, same_words]

theorem eql_ins (i : Dk.Ins) (w : World) : (binOp .eql 31 (Dk.iv i) (Dk.iv i)).run Try.prog w = .ok (.bool true) w := by
  rw [run_eql_struct, same_ins 9998]
  rfl
theorem eql_frm (f : Dk.Frm) (w : World) : (binOp .eql 29 (Dk.fv f) (Dk.fv f)).run Try.prog w = .ok (.bool true) w := by
  rw [run_eql_struct, same_frm 9997]
  rfl
theorem neq_frm (f : Dk.Frm) (w : World) : (binOp .neq 29 (Dk.fv f) (Dk.fv f)).run Try.prog w = .ok (.bool false) w := by
  rw [run_neq_struct, same_frm 9997]
  rfl
theorem eql_words (r : Nat → Nat) (w : World) : (binOp .eql 27 (.agg #[.int .u64 (r 0 : Nat), .int .u64 (r 1 : Nat), .int .u64 (r 2 : Nat), .int .u64 (r 3 : Nat), .int .u64 (r 4 : Nat), .int .u64 (r 5 : Nat), .int .u64 (r 6 : Nat), .int .u64 (r 7 : Nat)]) (.agg #[.int .u64 (r 0 : Nat), .int .u64 (r 1 : Nat), .int .u64 (r 2 : Nat), .int .u64 (r 3 : Nat), .int .u64 (r 4 : Nat), .int .u64 (r 5 : Nat), .int .u64 (r 6 : Nat), .int .u64 (r 7 : Nat)])).run Try.prog w = .ok (.bool true) w := by
  rw [run_eql_struct, same_words 9998]
  rfl

end Go.Proofs.Ytmkeniobnjpohaa
