/- The walks of what catches what was thrown. -/
import Derived.Test.YtmkeniobnjpohaaFd
import Derived.Defers
import Derived.Recover
namespace Go.Proofs.Ytmkeniobnjpohaa
set_option linter.unusedSimpArgs false
set_option linter.unusedVariables false
set_option linter.unnecessarySimpa false
open Go.RowKit

theorem assert_yes (w : World) (v : Value) : (Instr.typeAssert (.iface 66 v) 20 66 true).run Try.prog w = .ok (.tuple #[v, .bool true]) w := by kernel_rfl
theorem assert_no1 (w : World) (v : Value) : (Instr.typeAssert (.iface 68 v) 20 66 true).run Try.prog w = .ok (.tuple #[.int .u64 0, .bool false]) w := by kernel_rfl
theorem assert_no2 (w : World) (v : Value) : (Instr.typeAssert (.iface 70 v) 20 66 true).run Try.prog w = .ok (.tuple #[.int .u64 0, .bool false]) w := by kernel_rfl

set_option maxHeartbeats 1000000 in
theorem errorOf_word (v : Value) (w : World) :
    Calls Try.prog 34 #[.iface 66 v] w fun e w' => e = .returned (.int .i64 6) ∧ w' = w := by
  have h1 := assert_yes w v
  go_enter Try.func34, Try.ntmps34
  go_wp2
  go_ret
  exact ⟨rfl, rfl⟩

set_option maxHeartbeats 1000000 in
theorem errorOf_code (t : TypeId) (v : Value) (w : World) (ht : t = 68 ∨ t = 70) :
    Calls Try.prog 34 #[.iface t v] w fun e w' => e = .returned (.int .i64 8) ∧ w' = w := by
  have h1 := assert_no1 w v
  have h2 := assert_no2 w v
  rcases ht with rfl | rfl
  all_goals
    go_enter Try.func34, Try.ntmps34
    go_wp2
    go_ret
    exact ⟨rfl, rfl⟩

theorem catch_idle (p q r : Addr) (w : World) :
    CallsD Try.prog 33 #[.pointer (some p), .pointer (some q), .pointer (some r)] .returning w fun e u' w' => e = .returned (.tuple #[]) ∧ u' = .returning ∧ w' = w := by
  refine callsD_of_wpS Try.func33 rfl fun c₀ cs hu => ?_
  apply wpS_seq
  apply wpS_region
  simp [wpOpsS, go_sem, recoverD, hu, Try.ntmps33, Exit.thenS]
  refine wpS_of_wp ?_
  change Code.wp _ _ _ ⟨#[.pointer (some p), .pointer (some q), .pointer (some r), .nilIface, .nilIface, undef, undef, undef, undef, undef], []⟩ w
  go_wp2
  cases c₀
  simp_all [bodyPostS, results, Try.results33]

/-- What is caught: the answers are laid anew. -/
def CatchSaid (t : TypeId) (v : Value) (b : Nat) (k : Int) (w : World) : Prop :=
    CallsD Try.prog 33 #[.pointer (some ⟨b, 0, none⟩), .pointer (some ⟨b + 1, 0, none⟩), .pointer (some ⟨b + 1 + 1, 0, none⟩)] (.panicking [{ v := .iface t v, recovered := false }]) w fun e u' w' =>
      e = .returned (.tuple #[]) ∧ u' = .panicking [{ v := .iface t v, recovered := true }] ∧ Dk.Box w' b (Dk.fc Dk.Frm.zero) 29 ∧ Dk.Box w' (b + 1) #[.slice none 0 0] 40 ∧ Dk.Box w' (b + 1 + 1) #[.int .i64 k] 41 ∧ Below b w w'

set_option maxHeartbeats 1000000 in
theorem catch_any (t : TypeId) (v : Value) (b : Nat) (k : Int) (w : World) (c6 : Array Value) (x7 x8 : Value) (b6 : Dk.Box w b c6 29) (b7 : Dk.Box w (b + 1) #[x7] 40) (b8 : Dk.Box w (b + 1 + 1) #[x8] 41) (h6 : c6.size = 10)
    (hE : ∀ w, Calls Try.prog 34 #[.iface t v] w fun e w' => e = .returned (.int .i64 k) ∧ w' = w) : CatchSaid t v b k w := by
  unfold CatchSaid
  refine callsD_of_wpS Try.func33 rfl fun c₀ cs hu => ?_
  apply wpS_seq
  apply wpS_region
  simp [wpOpsS, go_sem, recoverD, hu, Try.ntmps33, Exit.thenS]
  refine wpS_of_wp ?_
  change Code.wp _ _ _ ⟨#[.pointer (some ⟨b, 0, none⟩), .pointer (some ⟨b + 1, 0, none⟩), .pointer (some ⟨b + 1 + 1, 0, none⟩), .iface t v, .iface t v, undef, undef, undef, undef, undef], []⟩ w
  obtain ⟨W1, e1⟩ : ∃ W1, w.setRow b (Dk.fc Dk.Frm.zero) = W1 := ⟨_, rfl⟩
  have k6 : Dk.Box W1 b (Dk.fc Dk.Frm.zero) 29 := e1 ▸ b6.row
  have k7 : Dk.Box W1 (b + 1) #[x7] 40 := e1 ▸ b7.row_other (by omega)
  have k8 : Dk.Box W1 (b + 1 + 1) #[x8] 41 := e1 ▸ b8.row_other (by omega)
  have u1 : Below b w W1 := e1 ▸ below_setRow (Below.refl _ _) (Nat.le_refl _) _
  have c7 : W1.cell? ⟨b + 1, 0, none⟩ = some x7 := k7.cell 0
  have c8 : W1.cell? ⟨b + 1 + 1, 0, none⟩ = some x8 := k8.cell 0
  have f7 := k7.frozen 0
  have f8 := k8.frozen 0
  have HB : Hid _ := b6
  have HE : Hid _ := e1
  have HC : Hid _ := hE
  have K6 : Hid _ := k6
  have K7 : Hid _ := k7
  have K8 : Hid _ := k8
  have U1 : Hid _ := u1
  clear b6 b7 b8 e1 hE k6 k7 k8 u1
  go_wp2_with (first | (go_at_call 34; refine (HC.out _).mono ?_; rintro e w' ⟨rfl, rfl⟩) | (refine wpList_store_row rfl 29 _ _ rfl b (Dk.fc Dk.Frm.zero) rfl rfl 29 _ HB.out.heap frm_size h6 (Dk.fc_cells _) ?_; rw [HE.out]))
  have z6 := (K6.out.set_other (b' := b + 1) (by omega) 0 (.slice none 0 0)).set_other (b' := b + 1 + 1) (by omega) 0 (.int .i64 k)
  have z7 := (K7.out.set 0 (.slice none 0 0)).set_other (b' := b + 1 + 1) (by omega) 0 (.int .i64 k)
  have z8 := (K8.out.set_other (b' := b + 1) (by omega) 0 (.slice none 0 0)).set 0 (.int .i64 k)
  have zu := (U1.out.setCell (p := ⟨b + 1, 0, none⟩) (by show b ≤ b + 1; omega) (.slice none 0 0)).setCell (p := ⟨b + 1 + 1, 0, none⟩) (by show b ≤ b + 1 + 1; omega) (.int .i64 k)
  refine ⟨rfl, _, rfl, .tuple #[], by simp [results, Try.results33, go_sem], rfl, rfl, z6, z7, z8, zu⟩

end Go.Proofs.Ytmkeniobnjpohaa
