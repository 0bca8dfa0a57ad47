/- The walks of package inst's functions on lists, and of the document's letters. -/
import Derived.Test.YtmapmhcmeokahaaLeaf
namespace Go.Proofs.Ytmapmhcmeokahaa
set_option linter.unusedSimpArgs false
set_option linter.unusedVariables false
set_option linter.unnecessarySimpa false
open Go.RowKit

theorem all_take_succ {α : Type} (xs : List α) (f : α → Bool) (d : α) (k : Nat) (h : k < xs.length) : (xs.take (k + 1)).all f = ((xs.take k).all f && f (xs.getD k d)) := by
  rw [List.take_succ_eq_append_getElem h, List.all_append]
  simp [List.getD, h]
theorem all_no {α : Type} (xs : List α) (f : α → Bool) (d : α) (k : Nat) (h : k < xs.length) (hf : f (xs.getD k d) = false) : xs.all f = false := by
  rw [List.all_eq_false]
  refine ⟨xs.getD k d, ?_, by rw [hf]; simp⟩
  rw [List.getD_eq_getElem?_getD, List.getElem?_eq_getElem h]
  exact List.getElem_mem h

set_option maxHeartbeats 400000 in
theorem allWithin_any (B : Nat) (A : Option Addr) (L C : Nat) (xs : List Int) (l m : Int) (w : World) (h : Dk.SlI B w A L C xs) :
    Calls Try.prog 25 #[.slice A L C, .int .i64 l, .int .i64 m] w fun e w' => e = .returned (.bool (Dk.allWithinB xs l m)) ∧ w' = w := by
  obtain ⟨hlen, hcap, hmax, _, hcells⟩ := h
  unfold maxLen at hmax
  have HL : Hid (xs.length = L) := hlen
  have HC := hcells
  clear hlen hcells
  have HC' : Hid _ := HC
  clear HC
  go_enter Try.func25, Try.ntmps25
  go_wp2
  go_loop [11] (fun i => ∃ k : Nat, k ≤ L ∧ i = .int .i64 k ∧ Hid ((xs.take k).all (fun n => Dk.withinB n l m) = true)) (fun i => L - (intOf i).toNat)
  case atStart => exact ⟨0, Nat.zero_le _, rfl, by show (xs.take 0).all _ = true; simp⟩
  case round =>
    obtain ⟨k, hk, rfl, HA⟩ := hrel
    by_cases hlt : k < L
    · obtain ⟨b, o, rfl, _, hc⟩ := HC'.out (by omega)
      have hcell := hc k hlt
      clear hc HC'
      obtain ⟨v, hv⟩ : ∃ v, v = xs.getD k 0 := ⟨_, rfl⟩
      rw [← hv] at hcell
      have HV : Hid (v = xs.getD k 0) := hv
      clear hv
      cases hw : Dk.withinB v l m
      · have HW := hw
        go_wp2_with (go_at_call 23; refine (within_any _ _ _ _).mono ?_; rintro e w' ⟨rfl, rfl⟩)
        go_ret
        exact ⟨ret_bool (all_no xs _ 0 k (by rw [HL.out]; exact hlt) (by rw [← HV.out]; exact HW)).symm, rfl⟩
      · have HW := hw
        go_wp2_with (go_at_call 23; refine (within_any _ _ _ _).mono ?_; rintro e w' ⟨rfl, rfl⟩)
        go_round
        case rel =>
          refine ⟨k + 1, by omega, by go_num, ?_⟩
          show (xs.take (k + 1)).all _ = true
          rw [all_take_succ xs _ 0 k (by rw [HL.out]; exact hlt), HA.out, ← HV.out, HW]
          rfl
        case measure => simp [intOf]; omega
    · go_wp2
      go_ret
      refine ⟨ret_bool ?_, rfl⟩
      have := HA.out
      rw [List.take_of_length_le (by rw [HL.out]; omega)] at this
      exact this.symm

set_option maxHeartbeats 400000 in
theorem codeFits_any (B : Nat) (A : Option Addr) (L C : Nat) (fs : List (List Dk.Ins)) (w : World) (h : Dk.SlF B w A L C fs) :
    Calls Try.prog 20 #[.slice A L C] w fun e w' => e = .returned (.bool (Dk.codeFitsB fs)) ∧ w' = w := by
  obtain ⟨hlen, hcap, hmax, hcells⟩ := h
  unfold maxLen at hmax
  have HL : Hid (fs.length = L) := hlen
  have HC := hcells
  clear hlen hcells
  have HC' : Hid _ := HC
  clear HC
  have HR : Hid (Dk.codeFitsB fs = (Dk.withinB L 1 8 && fs.all fun c => decide (c.length ≤ 256))) := by show Dk.codeFitsB fs = _; unfold Dk.codeFitsB; rw [HL.out]
  cases hw : Dk.withinB L 1 8
  · have HW := hw
    go_enter Try.func20, Try.ntmps20
    go_wp2_with (go_at_call 23; refine (within_any _ _ _ _).mono ?_; rintro e w' ⟨rfl, rfl⟩)
    go_ret
    exact ⟨ret_bool (by rw [HR.out, HW]; rfl), rfl⟩
  · have HW := hw
    go_enter Try.func20, Try.ntmps20
    go_wp2_with (go_at_call 23; refine (within_any _ _ _ _).mono ?_; rintro e w' ⟨rfl, rfl⟩)
    go_loop [11] (fun i => ∃ k : Nat, k ≤ L ∧ i = .int .i64 k ∧ Hid ((fs.take k).all (fun c => decide (c.length ≤ 256)) = true)) (fun i => L - (intOf i).toNat)
    case atStart => exact ⟨0, Nat.zero_le _, rfl, by show (fs.take 0).all _ = true; simp⟩
    case round =>
      obtain ⟨k, hk, rfl, HA⟩ := hrel
      by_cases hlt : k < L
      · obtain ⟨b, o, rfl, _, hc⟩ := HC'.out (by omega)
        obtain ⟨A', L', C', hcell, hn⟩ := hc k hlt
        have HN : Hid ((fs.getD k []).length = L') := hn.len
        have hmax' := hn.max
        have hcap' := hn.cap
        unfold maxLen at hmax'
        clear hc hn HC'
        by_cases hl : L' ≤ 256
        · have hl2 : ¬ 256 < L' := by omega
          go_wp2
          go_round
          case rel =>
            refine ⟨k + 1, by omega, by go_num, ?_⟩
            show (fs.take (k + 1)).all _ = true
            rw [all_take_succ fs _ [] k (by rw [HL.out]; exact hlt), HA.out, HN.out]
            simp [hl]
          case measure => simp [intOf]; omega
        · have hl2 : 256 < L' := by omega
          go_wp2
          go_ret
          exact ⟨ret_bool (by rw [HR.out, all_no fs _ [] k (by rw [HL.out]; exact hlt) (by rw [HN.out]; simp [hl]), Bool.and_false]), rfl⟩
      · go_wp2
        go_ret
        refine ⟨ret_bool ?_, rfl⟩
        have := HA.out
        rw [List.take_of_length_le (by rw [HL.out]; omega)] at this
        rw [HR.out, HW, this]
        rfl

end Go.Proofs.Ytmapmhcmeokahaa
