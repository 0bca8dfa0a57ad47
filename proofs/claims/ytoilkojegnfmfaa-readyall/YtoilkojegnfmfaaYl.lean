/- What each call of layer 13 does, but New and Pick. -/
import Derived.Test.YtoilkojegnfmfaaYk
namespace Go.Proofs.Ytoilkojegnfmfaa
set_option linter.unusedSimpArgs false
set_option linter.unusedVariables false
set_option linter.unnecessarySimpa false
open Go.RowKit

theorem count_nil (w : World) : Calls Try.prog 23 #[.pointer none] w fun e w' => e = .returned (.int .i64 0) ∧ w' = w := by
  go_enter Try.func23, Try.ntmps23
  go_wp2
  go_ret
  exact ⟨rfl, rfl⟩
theorem count_any {b n C : Nat} {A : Option Addr} {w : World} (h : Dk.Box w b #[.slice A n C] 44) (hn : n ≤ 64) : Calls Try.prog 23 #[.pointer (some ⟨b, 0, none⟩)] w fun e w' => e = .returned (.int .i64 (n : Int)) ∧ w' = w := by
  have c0 : w.cell? ⟨b, 0, none⟩ = some (.slice A n C) := h.cell 0
  clear h
  go_enter Try.func23, Try.ntmps23
  go_wp2
  go_ret
  exact ⟨rfl, rfl⟩
theorem isRow_nil (p : Int) (w : World) : Calls Try.prog 17 #[.pointer none, .int .i64 p] w fun e w' => e = .returned (.bool false) ∧ w' = w := by
  by_cases h0 : 0 ≤ p
  · have h1 : decide ((0 : Int) ≤ p) = true := decide_eq_true h0
    have h2 : decide (p < 0) = false := decide_eq_false (by omega)
    go_enter Try.func17, Try.ntmps17
    go_wp2_with (go_at_call 23; refine (count_nil w).mono ?_; rintro e w' ⟨rfl, hw'⟩; subst w')
    go_ret
    exact ⟨rfl, rfl⟩
  · have h1 : decide ((0 : Int) ≤ p) = false := decide_eq_false h0
    go_enter Try.func17, Try.ntmps17
    go_wp2_with fail
    go_ret
    exact ⟨rfl, rfl⟩
theorem isRow_any {b n C : Nat} {A : Option Addr} {w : World} (h : Dk.Box w b #[.slice A n C] 44) (hn : n ≤ 64) (p : Int) : Calls Try.prog 17 #[.pointer (some ⟨b, 0, none⟩), .int .i64 p] w fun e w' => e = .returned (.bool (decide (0 ≤ p) && decide (p < (n : Int)))) ∧ w' = w := by
  have K := count_any h hn
  clear h
  by_cases h0 : 0 ≤ p
  · have h1 : decide ((0 : Int) ≤ p) = true := decide_eq_true h0
    rw [h1, Bool.true_and]
    generalize hr : decide (p < (n : Int)) = r
    go_enter Try.func17, Try.ntmps17
    go_wp2_with (go_at_call 23; refine K.mono ?_; rintro e w' ⟨rfl, hw'⟩; subst w')
    go_ret
    exact ⟨by simp [hr], rfl⟩
  · have h1 : decide ((0 : Int) ≤ p) = false := decide_eq_false h0
    rw [h1, Bool.false_and]
    go_enter Try.func17, Try.ntmps17
    go_wp2_with fail
    go_ret
    exact ⟨rfl, rfl⟩

section
variable {W w : World} {b N : Nat} {rs : List (List Int)} {us ts : List Dk.Thing}
theorem Row_any (hR : Dk.R0 b rs ts) (s : Dk.Sep W w (us ++ ts)) (hF : Dk.Few N rs) (hN : N ≤ 200) (p : Int) : Calls Try.prog 12 #[.pointer (some ⟨b, 0, none⟩), .int .i64 p] w fun e w' => ∃ A C, e = .returned (.slice A (Dk.rowL rs p).length C) ∧ ∃ ts', Dk.R0 b rs ts' ∧ Dk.Sep W w' (Dk.rowOf 3 1 (.slice A (Dk.rowL rs p).length C) (Dk.rowL rs p).length (Dk.is (Dk.rowL rs p)) :: (us ++ ts')) := by
  obtain ⟨A, C, hb, hC, hM, hk⟩ := hR.head s
  unfold maxLen at hM
  have hl := hF.rows
  have K := isRow_any hb hl p
  by_cases hp : Dk.inRows rs p = true
  · have hp' := Dk.inRows_iff.1 hp
    obtain ⟨k, rfl⟩ : ∃ k : Nat, p = k := ⟨p.toNat, by omega⟩
    have hkl : k < rs.length := by omega
    have er : Dk.rowL rs (k : Int) = rs.getD k [] := by unfold Dk.rowL; rw [if_pos hp]; rfl
    rw [er]
    have hle := hF.rowz k hkl
    obtain ⟨g, bd, v, rfl, c1, hD, _⟩ := hk k hkl
    have c0 : w.cell? ⟨b, 0, none⟩ = some (.slice (some ⟨g, 0, none⟩) rs.length C) := hb.cell 0
    rw [show (decide ((0 : Int) ≤ (k : Int)) && decide ((k : Int) < (rs.length : Int))) = true by simp; omega] at K
    generalize rs.getD k [] = xs at hle hD ⊢
    have KA := All_any 0 bd v xs w hD (by omega)
    have fin : ∀ v' w', w'.ownsRow w.heap.size 3 1 v' xs.length (Dk.is xs) → Below w.heap.size w w' → ∃ A C, v' = .slice A xs.length C ∧ ∃ ts', Dk.R0 b rs ts' ∧ Dk.Sep W w' (Dk.rowOf 3 1 (.slice A xs.length C) xs.length (Dk.is xs) :: (us ++ ts')) := by
      intro v' w' ho u
      obtain ⟨A, C, rfl, _, _⟩ := Dk.owns_slice ho
      exact ⟨A, C, rfl, ts, hR, s.add u (Dk.owns_base ho (Nat.zero_le _)) (fun j hj => (ho.lt j hj).1)⟩
    have HF : Hid _ := fin
    have HL : Hid _ := hle
    clear fin hle hD hb hR s hF hp er hk
    go_enter Try.func12, Try.ntmps12
    go_wp2_with (first | (go_at_call 17; refine K.mono ?_; rintro e w' ⟨rfl, hw'⟩; subst w'))
    refine KA.mono ?_
    rintro e w1 ⟨v', rfl, ho, hu⟩
    obtain ⟨A', C', rfl, h⟩ := HF.out v' w1 ho hu
    have HH : Hid _ := h
    clear h ho hu HF KA K c0 c1
    go_wp2_with fail
    go_ret
    exact ⟨A', C', rfl, HH.out⟩
  · have er : Dk.rowL rs p = [] := by unfold Dk.rowL; rw [if_neg hp]
    rw [er]
    rw [show (decide ((0 : Int) ≤ p) && decide (p < (rs.length : Int))) = false from (by unfold Dk.inRows at hp; simpa using hp)] at K
    have fin : ∃ ts', Dk.R0 b rs ts' ∧ Dk.Sep W w (Dk.rowOf 3 1 (.slice none 0 0) 0 (Dk.is []) :: (us ++ ts')) := ⟨ts, hR, s.add (Below.refl _ _) (World.ownsRow_nil _ _ _ _) (fun k hk => by simp [Dk.rowOf, Value.ownBlock] at hk)⟩
    have HF : Hid _ := fin
    clear fin hb hR s hF hp er hk
    go_enter Try.func12, Try.ntmps12
    go_wp2_with (first | (go_at_call 17; refine K.mono ?_; rintro e w' ⟨rfl, hw'⟩; subst w'))
    go_ret
    exact ⟨none, 0, rfl, HF.out⟩

set_option maxHeartbeats 1000000 in
theorem Where_any (hR : Dk.R0 b rs ts) (s : Dk.Sep W w (us ++ ts)) (hF : Dk.Few N rs) (hN : N ≤ 200) (t : Int) : Calls Try.prog 13 #[.pointer (some ⟨b, 0, none⟩), .int .i64 t] w fun e w' => e = .returned (.tuple #[.int .i64 (Dk.whereT rs t), .bool (decide (Dk.whereK rs t < rs.length))]) ∧ Below w.heap.size w w' := by
  obtain ⟨A, C, hb, hC, hM, hk⟩ := hR.head s
  unfold maxLen at hM
  have hl := hF.rows
  have K := count_any hb hl
  have look : ∀ w', Below w.heap.size w w' → ∀ k, k < rs.length → ∃ g bd v, A = some ⟨g, 0, none⟩ ∧ w'.cell? ⟨b, 0, none⟩ = some (.slice A rs.length C) ∧ w'.cell? ⟨g, k, none⟩ = some (.pointer (some ⟨bd, 0, none⟩)) ∧ Dk.DQ 0 w' bd v (rs.getD k []) ∧ (rs.getD k []).length ≤ 200 := by
    intro w' u k hkl
    obtain ⟨g, bd, v, e, c1, hD, _⟩ := hk k hkl
    exact ⟨g, bd, v, e, (hb.up u).cell 0, by rw [u.cell (Dk.cell_lt c1)]; exact c1, hD.up u, Nat.le_trans (hF.rowz k hkl) hN⟩
  have HK : Hid _ := look
  generalize hn : rs.length = n at *
  clear look hk hb hR s hF
  go_enter Try.func13, Try.ntmps13
  go_wp2_with (first | (go_at_call 23; refine K.mono ?_; rintro e w' ⟨rfl, hw'⟩; subst w'))
  go_loopw [9] (fun i w' => ∃ k : Nat, k ≤ n ∧ i = .int .i64 k ∧ Hid (Below w.heap.size w w') ∧ Hid (∀ j, j < k → (rs.getD j []).contains t = false)) (fun i w' => n - (RowKit.intOf i).toNat)
  case atStart => exact ⟨0, Nat.zero_le _, rfl, Below.refl _ _, fun j hj => absurd hj (Nat.not_lt_zero _)⟩
  case round =>
    obtain ⟨k, hkn, rfl, HB, HN⟩ := hrel
    by_cases hlt : k < n
    · obtain ⟨g, bd, v, rfl, c0, c1, hD, hle⟩ := HK.out _ HB.out k hlt
      have HW : Hid _ := fun h => Dk.where_atz (rs := rs) (t := t) (k := k) (by omega) h HN.out
      have HM : Hid ((rs.getD k []).contains t = false → ∀ j, j < k + 1 → (rs.getD j []).contains t = false) := fun hc j hj => by
        rcases Nat.lt_or_ge j k with h | h
        · exact HN.out j h
        · obtain rfl : j = k := by omega
          exact hc
      clear HN
      generalize rs.getD k [] = xs at hD hle HW HM
      have KA := All_any 0 bd v xs wr hD (by omega)
      have fin : ∀ v' w', w'.ownsRow wr.heap.size 3 1 v' xs.length (Dk.is xs) → Below wr.heap.size wr w' → ∃ A' C', v' = .slice A' xs.length C' ∧ Dk.SlI w'.heap.size w' A' xs.length C' xs ∧ Below w.heap.size w w' := by
        intro v' w' ho u
        obtain ⟨A', C', e, h⟩ := Dk.owns_ints ho hD.wf
        exact ⟨A', C', e, h, Dk.up_call HB.out u⟩
      have HF : Hid _ := fin
      clear fin hD
      go_wp2_with fail
      refine KA.mono ?_
      rintro e w1 ⟨v', rfl, ho, hu⟩
      obtain ⟨A', C', rfl, hS, u1⟩ := HF.out v' w1 ho hu
      have KC := Contains_any A' xs.length C' xs t w1 hS
      clear HF KA c0 c1 ho hu hS
      by_cases hc : xs.contains t = true
      · rw [hc] at KC
        have e1 : Hid (Dk.whereK rs t = k) := HW.out hc
        have HU : Hid _ := u1
        clear hc u1 HW HM
        go_wp2_with fail
        refine KC.mono ?_
        rintro e w2 ⟨rfl, hw2⟩
        subst w2
        go_wp2_with fail
        go_ret2
        refine ⟨?_, HU.out⟩
        unfold Dk.whereT
        rw [e1.out, hn, if_pos hlt]
        simp [hlt]
      · rw [show xs.contains t = false by simpa using hc] at KC
        have e1 : Hid _ := HM.out (by simpa using hc)
        have HU : Hid _ := u1
        clear hc u1 HW HM
        go_wp2_with fail
        refine KC.mono ?_
        rintro e w2 ⟨rfl, hw2⟩
        subst w2
        go_wp2_with fail
        go_roundw
        case rel => exact ⟨k + 1, by omega, by go_num, HU.out, e1.out⟩
        case measure => simp [RowKit.intOf]; omega
    · have HW : Hid (Dk.whereK rs t = n) := (Dk.where_none (fun j hj => HN.out j (by omega))).trans hn
      go_wp2
      go_ret2
      have := HW.out
      refine ⟨?_, HB.out⟩
      unfold Dk.whereT
      simp [HW.out, hn]

theorem Where_nil (t : Int) (w : World) : Calls Try.prog 13 #[.pointer none, .int .i64 t] w fun e w' => e = .returned (.tuple #[.int .i64 0, .bool false]) ∧ w' = w := by
  go_enter Try.func13, Try.ntmps13
  go_wp2_with (first | (go_at_call 23; refine (count_nil w).mono ?_; rintro e w' ⟨rfl, hw'⟩; subst w'))
  go_loopw [9] (fun i w' => i = .int .i64 0 ∧ w' = w) (fun i w' => 0)
  case atStart => exact ⟨rfl, rfl⟩
  case round =>
    obtain ⟨rfl, hw⟩ := hrel
    subst wr
    go_wp2
    go_ret2
    exact ⟨rfl, rfl⟩
theorem Empty_nil (w : World) : Calls Try.prog 15 #[.pointer none] w fun e w' => e = .returned (.bool true) ∧ w' = w := by
  go_enter Try.func15, Try.ntmps15
  go_wp2_with (first | (go_at_call 23; refine (count_nil w).mono ?_; rintro e w' ⟨rfl, hw'⟩; subst w'))
  go_loopw [6] (fun i w' => i = .int .i64 0 ∧ w' = w) (fun i w' => 0)
  case atStart => exact ⟨rfl, rfl⟩
  case round =>
    obtain ⟨rfl, hw⟩ := hrel
    subst wr
    go_wp2
    go_ret
    exact ⟨rfl, rfl⟩
theorem Row_nil (p : Int) (w : World) : Calls Try.prog 12 #[.pointer none, .int .i64 p] w fun e w' => e = .returned (.slice none 0 0) ∧ w' = w := by
  go_enter Try.func12, Try.ntmps12
  go_wp2_with (first | (go_at_call 17; refine (isRow_nil p w).mono ?_; rintro e w' ⟨rfl, hw'⟩; subst w'))
  go_ret
  exact ⟨rfl, rfl⟩
theorem Add_nil (p t : Int) (w : World) : Calls Try.prog 10 #[.pointer none, .int .i64 p, .int .i64 t] w fun e w' => e = .returned (.bool false) ∧ w' = w := by
  go_enter Try.func10, Try.ntmps10
  go_wp2_with (first | (go_at_call 17; refine (isRow_nil p w).mono ?_; rintro e w' ⟨rfl, hw'⟩; subst w'))
  go_ret
  exact ⟨rfl, rfl⟩
theorem Pick_nil (p : Int) (w : World) : Calls Try.prog 7 #[.pointer none, .int .i64 p] w fun e w' => e = .returned (.tuple #[.int .i64 0, .bool false]) ∧ w' = w := by
  go_enter Try.func7, Try.ntmps7
  go_wp2_with (first | (go_at_call 17; refine (isRow_nil p w).mono ?_; rintro e w' ⟨rfl, hw'⟩; subst w'))
  go_ret2
  exact ⟨rfl, rfl⟩

set_option maxHeartbeats 1000000 in
theorem Empty_any (hR : Dk.R0 b rs ts) (s : Dk.Sep W w (us ++ ts)) (hF : Dk.Few N rs) (hN : N ≤ 200) : Calls Try.prog 15 #[.pointer (some ⟨b, 0, none⟩)] w fun e w' => e = .returned (.bool (Dk.emptyR rs)) ∧ Below w.heap.size w w' := by
  obtain ⟨A, C, hb, hC, hM, hk⟩ := hR.head s
  unfold maxLen at hM
  have hl := hF.rows
  have K := count_any hb hl
  have look : ∀ w', Below w.heap.size w w' → ∀ k, k < rs.length → ∃ g bd v, A = some ⟨g, 0, none⟩ ∧ w'.cell? ⟨b, 0, none⟩ = some (.slice A rs.length C) ∧ w'.cell? ⟨g, k, none⟩ = some (.pointer (some ⟨bd, 0, none⟩)) ∧ Dk.DQ 0 w' bd v (rs.getD k []) ∧ (rs.getD k []).length ≤ 200 := by
    intro w' u k hkl
    obtain ⟨g, bd, v, e, c1, hD, _⟩ := hk k hkl
    exact ⟨g, bd, v, e, (hb.up u).cell 0, by rw [u.cell (Dk.cell_lt c1)]; exact c1, hD.up u, Nat.le_trans (hF.rowz k hkl) hN⟩
  have HK : Hid _ := look
  generalize hn : rs.length = n at *
  clear look hk hb hR s hF
  go_enter Try.func15, Try.ntmps15
  go_wp2_with (first | (go_at_call 23; refine K.mono ?_; rintro e w' ⟨rfl, hw'⟩; subst w'))
  go_loopw [6] (fun i w' => ∃ k : Nat, k ≤ n ∧ i = .int .i64 k ∧ Hid (Below w.heap.size w w') ∧ Hid (∀ j, j < k → (rs.getD j []).isEmpty = true)) (fun i w' => n - (RowKit.intOf i).toNat)
  case atStart => exact ⟨0, Nat.zero_le _, rfl, Below.refl _ _, fun j hj => absurd hj (Nat.not_lt_zero _)⟩
  case round =>
    obtain ⟨k, hkn, rfl, HB, HN⟩ := hrel
    by_cases hlt : k < n
    · obtain ⟨g, bd, v, rfl, c0, c1, hD, hle⟩ := HK.out _ HB.out k hlt
      have HW : Hid _ := fun h => Dk.empty_at (rs := rs) (k := k) (by omega) h
      have HM : Hid ((rs.getD k []).isEmpty = true → ∀ j, j < k + 1 → (rs.getD j []).isEmpty = true) := fun hc j hj => by
        rcases Nat.lt_or_ge j k with h | h
        · exact HN.out j h
        · obtain rfl : j = k := by omega
          exact hc
      clear HN
      generalize rs.getD k [] = xs at hD hle HW HM
      have KA := All_any 0 bd v xs wr hD (by omega)
      have fin : ∀ v' w', w'.ownsRow wr.heap.size 3 1 v' xs.length (Dk.is xs) → Below wr.heap.size wr w' → ∃ A' C', v' = .slice A' xs.length C' ∧ Below w.heap.size w w' := by
        intro v' w' ho u
        obtain ⟨A', C', e, h⟩ := Dk.owns_ints ho hD.wf
        exact ⟨A', C', e, Dk.up_call HB.out u⟩
      have HF : Hid _ := fin
      clear fin hD
      go_wp2_with fail
      refine KA.mono ?_
      rintro e w1 ⟨v', rfl, ho, hu⟩
      obtain ⟨A', C', rfl, u1⟩ := HF.out v' w1 ho hu
      have HU : Hid _ := u1
      clear HF KA c0 c1 ho hu u1
      cases xs with
      | nil =>
        have e1 : Hid _ := HM.out rfl
        clear HW HM
        go_wp2_with fail
        go_roundw
        case rel => exact ⟨k + 1, by omega, by go_num, HU.out, e1.out⟩
        case measure => simp [RowKit.intOf]; omega
      | cons y r =>
        have e1 : Hid _ := HW.out rfl
        clear HW HM
        rw [List.length_cons] at hle
        rw [List.length_cons]
        generalize r.length = m at hle
        go_wp2_with fail
        go_ret
        exact ⟨by rw [e1.out]; rfl, HU.out⟩
    · have HW : Hid _ := Dk.empty_none (rs := rs) (fun j hj => HN.out j (by omega))
      go_wp2
      go_ret
      exact ⟨by rw [HW.out]; rfl, HB.out⟩
end
end Go.Proofs.Ytoilkojegnfmfaa
