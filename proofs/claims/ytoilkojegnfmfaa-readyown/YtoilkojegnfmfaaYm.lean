/- What each call of layer 13 does: Add, Pick, New. -/
import Derived.Test.YtoilkojegnfmfaaYl
namespace Dk
set_option linter.unusedSimpArgs false
set_option linter.unusedVariables false
set_option linter.unnecessarySimpa false
open Go Go.RowKit
theorem lineZ_call {P : Go.Program} {S : World → Prop} {Q : Exit → Act → World → Prop} {z : Nat} {L : List Oper} {j : Nat} {js : List Nat} {a : Act} {w : World} {o : Oper} {f : FuncId} {args : Array Value} (ho : L[j]? = some o) (hg : o.guard = none)
    (hr : (execOp a.eval o).run P w = .ok (.enter f args) w) (hc : Calls P f args w fun e w' => ∃ v, e = .returned v ∧ (j ≠ z → S w') ∧ lineZ P L.toArray Q S z js (a.put o.dst v) w') : lineZ P L.toArray Q S z (j :: js) a w := by
  have hw : Region.wanted o (yielded L.toArray a.tmps) = true := by simp [Region.wanted, hg]
  have ho' : L.toArray[j]? = some o := by simpa using ho
  unfold lineZ wpOp
  simp only [ho', hw, if_true]
  refine .inl ?_
  unfold Oper.wp
  rw [hr]
  simp only [Oper.upon]
  refine Calls.mono hc ?_
  rintro e w' ⟨v, rfl, h⟩
  exact h
/-- A slice of rows' places, as it lies. -/
def Places (w : World) (A : Option Addr) (L C : Nat) (rs : List (List Int)) : Prop := L ≤ C ∧ C ≤ maxLen ∧ ∀ k, k < L → ∃ g o bd v, A = some ⟨g, o, none⟩ ∧ w.cell? ⟨g, o + k, none⟩ = some (.pointer (some ⟨bd, 0, none⟩)) ∧ DQ 0 w bd v (rs.getD k [])
end Dk
namespace Go.Proofs.Ytoilkojegnfmfaa
set_option linter.unusedSimpArgs false
set_option linter.unusedVariables false
set_option linter.unnecessarySimpa false
open Go.RowKit

/-- No row has one. -/
theorem takeFrom_no (fn : Nat) (hfn : ∀ (args : Array Value) (w : World), (callFunc fn args).run Try.prog w = .ok (.enter fn args) w) (hno : ∀ (bd : Nat) (v : Value) (w : World), Dk.DQ 0 w bd v [] → Calls Try.prog fn #[.pointer (some ⟨bd, 0, none⟩)] w fun e w' => e = .returned (.tuple #[.int .i64 0, .bool false]) ∧ w' = w)
    (A : Option Addr) (L C : Nat) (rs : List (List Int)) (w : World) (h : Dk.Places w A L C rs) (he : ∀ k, k < L → rs.getD k [] = []) :
    Calls Try.prog 18 #[.slice A L C, .func (.func fn) #[] #[]] w fun e w' => e = .returned (.tuple #[.int .i64 0, .bool false]) ∧ w' = w := by
  obtain ⟨hC, hM, hk⟩ := h
  unfold maxLen at hM
  have HK : Hid _ := hk
  have HE : Hid _ := he
  clear hk he
  go_enter Try.func18, Try.ntmps18
  go_wp2_with fail
  go_loopw [12] (fun i w' => ∃ k : Nat, k ≤ L ∧ i = .int .i64 k ∧ Hid (w' = w)) (fun i w' => L - (RowKit.intOf i).toNat)
  case atStart => exact ⟨0, Nat.zero_le _, rfl, rfl⟩
  case round =>
    obtain ⟨k, hkn, rfl, HB⟩ := hrel
    have hw := HB.out
    subst wr
    by_cases hlt : k < L
    · obtain ⟨g, o, bd, v, rfl, c1, hD⟩ := HK.out k hlt
      rw [HE.out k hlt] at hD
      have K := hno bd v w hD
      clear hD
      go_wp2_with fail
      refine K.mono ?_
      rintro e w1 ⟨rfl, hw1⟩
      subst w1
      go_wp2_with fail
      go_roundw
      case rel => exact ⟨k + 1, by omega, by go_num, True.intro⟩
      case measure => simp [RowKit.intOf]; omega
    · go_wp2
      go_ret2
      exact ⟨rfl, rfl⟩
/-- The first row that has one. -/
theorem takeFrom_yes (fn : Nat) (hfn : ∀ (args : Array Value) (w : World), (callFunc fn args).run Try.prog w = .ok (.enter fn args) w) (hno : ∀ (bd : Nat) (v : Value) (w : World), Dk.DQ 0 w bd v [] → Calls Try.prog fn #[.pointer (some ⟨bd, 0, none⟩)] w fun e w' => e = .returned (.tuple #[.int .i64 0, .bool false]) ∧ w' = w)
    (A : Option Addr) (L C : Nat) (rs : List (List Int)) (w : World) (h : Dk.Places w A L C rs) (j : Nat) (hj : j < L) (he : ∀ k, k < j → rs.getD k [] = []) (x : Int) (R : World → Prop)
    (hyes : ∀ (g o bd : Nat) (v : Value), A = some ⟨g, o, none⟩ → w.cell? ⟨g, o + j, none⟩ = some (.pointer (some ⟨bd, 0, none⟩)) → Calls Try.prog fn #[.pointer (some ⟨bd, 0, none⟩)] w fun e w' => e = .returned (.tuple #[.int .i64 x, .bool true]) ∧ R w') :
    Calls Try.prog 18 #[.slice A L C, .func (.func fn) #[] #[]] w fun e w' => e = .returned (.tuple #[.int .i64 x, .bool true]) ∧ R w' := by
  obtain ⟨hC, hM, hk⟩ := h
  unfold maxLen at hM
  have HK : Hid _ := hk
  have HE : Hid _ := he
  have HY : Hid _ := hyes
  clear hk he hyes
  go_enter Try.func18, Try.ntmps18
  go_wp2_with fail
  go_loopw [12] (fun i w' => ∃ k : Nat, k ≤ j ∧ i = .int .i64 k ∧ Hid (w' = w)) (fun i w' => L - (RowKit.intOf i).toNat)
  case atStart => exact ⟨0, Nat.zero_le _, rfl, rfl⟩
  case round =>
    obtain ⟨k, hkn, rfl, HB⟩ := hrel
    have hw := HB.out
    subst wr
    have hlt : k < L := by omega
    obtain ⟨g, o, bd, v, rfl, c1, hD⟩ := HK.out k hlt
    by_cases hkj : k < j
    · rw [HE.out k hkj] at hD
      have K := hno bd v w hD
      clear hD
      go_wp2_with fail
      refine K.mono ?_
      rintro e w1 ⟨rfl, hw1⟩
      subst w1
      go_wp2_with fail
      go_roundw
      case rel => exact ⟨k + 1, by omega, by go_num, True.intro⟩
      case measure => simp [RowKit.intOf]; omega
    · obtain rfl : k = j := by omega
      have K := HY.out g o bd v rfl c1
      clear hD
      go_wp2_with fail
      refine K.mono ?_
      rintro e w1 ⟨rfl, hw1⟩
      have HR : Hid _ := hw1
      clear hw1
      go_wp2_with fail
      go_ret2
      exact ⟨rfl, HR.out⟩
theorem call_pop (args : Array Value) (w : World) : (callFunc 19 args).run Try.prog w = .ok (.enter 19 args) w := by kernel_rfl
theorem call_back (args : Array Value) (w : World) : (callFunc 20 args).run Try.prog w = .ok (.enter 20 args) w := by kernel_rfl
end Go.Proofs.Ytoilkojegnfmfaa
