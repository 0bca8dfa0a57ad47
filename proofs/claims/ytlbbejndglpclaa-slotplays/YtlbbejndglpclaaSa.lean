/- A fixed table, taken and freed; no table at all. -/
import Derived.Test.YtlbbejndglpclaaSu
namespace Go.Proofs.Ytlbbejndglpclaa
set_option linter.unusedSimpArgs false
set_option linter.unusedVariables false
set_option linter.unnecessarySimpa false
open Go.RowKit

theorem Take_yes (bt bs M : Nat) (st st' : Dk.St) (k : Nat) (h : Nat) (w : World) (hT : Dk.Tab w bt bs M st) (hM : M < 100000) (e1 : Dk.least st = k) (e2 : k < st.length) (e3 : Dk.taken st = st') (e4 : Dk.hd st' k = h) :
    Calls Try.prog 8 #[.pointer (some ⟨bt, 0, none⟩)] w fun e w' => e = .returned (.tuple #[.int .i64 (k : Int), .int .u64 (h : Int), .int .i64 0]) ∧ Dk.Tab w' bt bs (M + 1) st' ∧ w.grownBy w' (some bs) := by
  refine (Take_all bt bs M st w hT hM).mono ?_
  rintro e w' (⟨_, rfl, hT', hg⟩ | ⟨h1, _⟩)
  · rw [e1, e3, e4]
    exact ⟨rfl, e3 ▸ hT', hg⟩
  · omega
theorem Take_no (bt bs M : Nat) (st : Dk.St) (w : World) (hT : Dk.Tab w bt bs M st) (hM : M < 100000) (e1 : Dk.least st = st.length) :
    Calls Try.prog 8 #[.pointer (some ⟨bt, 0, none⟩)] w fun e w' => e = .returned (.tuple #[.int .i64 0, .int .u64 0, .int .i64 2]) ∧ Dk.Tab w' bt bs M st ∧ w.grownBy w' (some bs) := by
  refine (Take_all bt bs M st w hT hM).mono ?_
  rintro e w' (⟨h1, _⟩ | ⟨_, rfl, hT', hg⟩)
  · omega
  · exact ⟨rfl, hT', hg⟩

set_option maxRecDepth 100000 in
set_option maxHeartbeats 1000000 in
theorem awake_any (w : World) : Calls Try.prog 12 #[] w fun e w' => e = .returned (.bool true) ∧ Below w.heap.size w w' := by
  go_enter Try.func12, Try.ntmps12
  go_wp2_with fail
  refine (New_any 2 (by unfold Dk.i64; omega) w).mono ?_
  rintro e w1 ⟨rfl, h1, u1, _⟩
  go_wp2_with fail
  refine (Take_yes _ _ _ _ [(1, true), (0, false)] 0 65537 w1 h1 (by omega) rfl (by decide) rfl rfl).mono ?_
  rintro e w2 ⟨rfl, h2, g2⟩
  go_wp2_with fail
  refine (Take_yes _ _ _ _ [(1, true), (1, true)] 1 65538 w2 h2 (by omega) rfl (by decide) rfl rfl).mono ?_
  rintro e w3 ⟨rfl, h3, g3⟩
  go_wp2_with fail
  refine (Take_no _ _ _ _ w3 h3 (by omega) rfl).mono ?_
  rintro e w4 ⟨rfl, h4, g4⟩
  go_wp2_with fail
  refine (Free_any _ _ _ _ 65537 w4 h4 (by omega) (by omega)).mono ?_
  rintro e w5 ⟨rfl, h5, g5⟩
  go_wp2_with fail
  refine (Find_any _ _ _ _ 65537 w5 h5 (by omega) (by omega)).mono ?_
  rintro e w6 ⟨rfl, rfl⟩
  go_wp2_with fail
  refine (Take_yes _ _ _ _ [(2, true), (1, true)] 0 131073 w6 h5 (by omega) rfl (by decide) rfl rfl).mono ?_
  rintro e w7 ⟨rfl, h7, g7⟩
  have t5 : (Dk.find [(1, true), (1, true)] 65537).isSome = true := by decide
  have t6 : (Dk.find (Dk.freed [(1, true), (1, true)] 65537) 65537).isSome = false := by decide
  go_wp2_with fail
  go_ret
  exact ⟨rfl, Dk.up_far (Dk.up_far (Dk.up_far (Dk.up_far (Dk.up_far u1 g2 (Nat.le_refl _)) g3 (Nat.le_refl _)) g4 (Nat.le_refl _)) g5 (Nat.le_refl _)) g7 (Nat.le_refl _)⟩

set_option maxHeartbeats 1000000 in
theorem SlotNone_any (h : Nat) (n : Int) (hh : h < 18446744073709551616) (w : World) : Calls Try.prog 5 #[.int .u64 (h : Nat), .int .i64 n] w fun e w' => e = .returned (.bool true) ∧ Below w.heap.size w w' := by
  have K8 := Take_nil
  have K9 := Find_nil h hh
  have K10 := Free_nil h hh
  have K11 := Handle_nil n
  have K14 := Used_nil
  go_enter Try.func5, Try.ntmps5
  go_wp2_with (first | (go_at_call 8; refine (K8 _).mono ?_; rintro e w' ⟨rfl, rfl⟩) | (go_at_call 9; refine (K9 _).mono ?_; rintro e w' ⟨rfl, rfl⟩) | (go_at_call 11; refine (K11 _).mono ?_; rintro e w' ⟨rfl, rfl⟩))
  refine (awake_any _).mono ?_
  rintro e w1 ⟨rfl, hb⟩
  go_wp2_with (first | (go_at_call 10; refine (K10 _).mono ?_; rintro e w' ⟨rfl, rfl⟩) | (go_at_call 14; refine (K14 _).mono ?_; rintro e w' ⟨rfl, rfl⟩))
  go_ret
  exact ⟨rfl, hb⟩

end Go.Proofs.Ytlbbejndglpclaa
