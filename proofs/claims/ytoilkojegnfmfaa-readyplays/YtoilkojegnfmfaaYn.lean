/- What each call of layer 13 does: Add and Pick. -/
import Derived.Test.YtoilkojegnfmfaaYm
namespace Dk
set_option linter.unusedSimpArgs false
set_option linter.unusedVariables false
set_option linter.unnecessarySimpa false
open Go Go.RowKit
theorem last_split (l : List Int) (h : l.isEmpty = false) : ∃ r x, l = r ++ [x] := by
  cases hl : l.reverse with
  | nil => rw [List.reverse_eq_nil_iff] at hl; subst hl; cases h
  | cons x r => exact ⟨r.reverse, x, by rw [← List.reverse_reverse l, hl, List.reverse_cons]⟩
theorem pick_out {rs : List (List Int)} {p : Int} (h : ¬ inRows rs p = true) : pickT rs p = 0 ∧ pickB rs p = false ∧ pickR rs p = rs := by
  have e : pickAt rs p = none := by unfold pickAt; rw [if_neg h]
  unfold pickT pickB pickR
  rw [e]
  exact ⟨rfl, rfl, rfl⟩
theorem pick_ownz {rs : List (List Int)} {k : Nat} (hk : k < rs.length) {x : Int} {r : List Int} (e : rs.getD k [] = x :: r) : pickT rs (k : Int) = x ∧ pickB rs (k : Int) = true ∧ pickR rs (k : Int) = rs.set k r := by
  have h : inRows rs (k : Int) = true := inRows_iff.2 ⟨by omega, by omega⟩
  have e : pickAt rs (k : Int) = some (k, 0) ∧ rs.getD k [] = x :: r := ⟨by unfold pickAt; rw [if_pos h, show (k : Int).toNat = k from rfl, e]; simp, e⟩
  unfold pickT pickB pickR
  rw [e.1]
  dsimp only
  rw [e.2]
  exact ⟨rfl, rfl, rfl⟩
theorem pick_none {rs : List (List Int)} {k : Nat} (hk : k < rs.length) (hn : ∀ j, j < rs.length → rs.getD j [] = []) : pickT rs (k : Int) = 0 ∧ pickB rs (k : Int) = false ∧ pickR rs (k : Int) = rs := by
  have h : inRows rs (k : Int) = true := inRows_iff.2 ⟨by omega, by omega⟩
  have e : pickAt rs (k : Int) = none := by
    unfold pickAt
    rw [if_pos h, show (k : Int).toNat = k from rfl, hn k hk, first_none (fun j hj => by rw [hn j hj]; rfl)]
    simp
  unfold pickT pickB pickR
  rw [e]
  exact ⟨rfl, rfl, rfl⟩
theorem pick_last {rs : List (List Int)} {k j : Nat} (hk : k < rs.length) (h0 : rs.getD k [] = []) (hj : j < rs.length) (hn : ∀ i, i < j → rs.getD i [] = []) {x : Int} {r : List Int} (e : rs.getD j [] = r ++ [x]) : pickT rs (k : Int) = x ∧ pickB rs (k : Int) = true ∧ pickR rs (k : Int) = rs.set j r := by
  have h : inRows rs (k : Int) = true := inRows_iff.2 ⟨by omega, by omega⟩
  have e1 : pickAt rs (k : Int) = some (j, r.length) := by
    unfold pickAt
    rw [if_pos h, show (k : Int).toNat = k from rfl, h0, first_at hj (by rw [e]; simp) (fun i hi => by rw [hn i hi]; rfl), if_pos hj, e]
    simp
  unfold pickT pickB pickR
  rw [e1]
  dsimp only
  rw [e, List.eraseIdx_append_of_length_le (Nat.le_refl _)]
  simp [List.getD]
theorem add_in {rs : List (List Int)} {k : Nat} (hk : k < rs.length) (t : Int) (h : ¬ whereK rs t < rs.length) : canAdd rs (k : Int) t = true ∧ addTo rs (k : Int) t = rs.set k (rs.getD k [] ++ [t]) ∧ (rs.getD k []).contains t = false := by
  have h1 : inRows rs (k : Int) = true := inRows_iff.2 ⟨by omega, by omega⟩
  have h2 : rs.flatten.contains t = false := by rw [contains_flat]; exact decide_eq_false h
  have h3 : canAdd rs (k : Int) t = true := by unfold canAdd; rw [h1, h2]; rfl
  refine ⟨h3, by unfold addTo; rw [if_pos h3]; rfl, ?_⟩
  cases hc : (rs.getD k []).contains t
  · rfl
  · exfalso
    have : t ∈ rs.flatten := by
      rw [flat_getR rs k hk]
      exact List.mem_append_right _ (List.mem_append_left _ (List.contains_iff_mem.1 hc))
    rw [List.contains_iff_mem.2 this] at h2
    cases h2
theorem add_out {rs : List (List Int)} {p t : Int} (h : inRows rs p = false ∨ whereK rs t < rs.length) : canAdd rs p t = false ∧ addTo rs p t = rs := by
  have h3 : canAdd rs p t = false := by
    unfold canAdd
    rcases h with h | h
    · rw [h]; rfl
    · rw [contains_flat, decide_eq_true h]; simp
  refine ⟨h3, by unfold addTo; rw [h3]; simp⟩
end Dk
namespace Go.Proofs.Ytoilkojegnfmfaa
set_option linter.unusedSimpArgs false
set_option linter.unusedVariables false
set_option linter.unnecessarySimpa false
open Go.RowKit
section
variable {W w : World} {b N : Nat} {rs : List (List Int)} {us ts : List Dk.Thing}
set_option maxHeartbeats 1000000 in
theorem Add_any (hR : Dk.R0 b rs ts) (s : Dk.Sep W w (us ++ ts)) (hF : Dk.Few N rs) (hN : N ≤ 200) (p t : Int) (ht : Dk.i64 t) : Calls Try.prog 10 #[.pointer (some ⟨b, 0, none⟩), .int .i64 p, .int .i64 t] w fun e w' => e = .returned (.bool (Dk.canAdd rs p t)) ∧ ∃ ts', Dk.R0 b (Dk.addTo rs p t) ts' ∧ Dk.Sep W w' (us ++ ts') := by
  obtain ⟨A, C, hb, hC, hM, hk⟩ := hR.head s
  unfold maxLen at hM
  have hl := hF.rows
  have K := isRow_any hb hl p
  have KW := Where_any hR s hF hN t
  by_cases hp : Dk.inRows rs p = true
  · have hp' := Dk.inRows_iff.1 hp
    obtain ⟨k, rfl⟩ : ∃ k : Nat, p = k := ⟨p.toNat, by omega⟩
    have hkl : k < rs.length := by omega
    rw [show (decide ((0 : Int) ≤ (k : Int)) && decide ((k : Int) < (rs.length : Int))) = true by simp; omega] at K
    by_cases hw : Dk.whereK rs t < rs.length
    · obtain ⟨e1, e2⟩ := Dk.add_out (p := (k : Int)) (.inr hw)
      rw [e1, e2]
      rw [decide_eq_true hw] at KW
      have HS : Hid _ := s
      have HR : Hid _ := hR
      clear hb hR s hF hp hp' hk e1 e2 hw
      go_enter Try.func10, Try.ntmps10
      go_wp2_with (first | (go_at_call 17; refine K.mono ?_; rintro e w' ⟨rfl, hw'⟩; subst w'))
      refine KW.mono ?_
      rintro e w1 ⟨rfl, hu⟩
      have HU : Hid _ := hu
      clear hu KW
      go_wp2_with fail
      go_ret
      exact ⟨rfl, ts, HR.out, Dk.Sep.below HS.out HU.out⟩
    · obtain ⟨e1, e2, e3⟩ := Dk.add_in hkl t hw
      rw [e1, e2]
      rw [decide_eq_false hw] at KW
      have fin : ∀ w1, Below w.heap.size w w1 → ∃ g bd, A = some ⟨g, 0, none⟩ ∧ w1.cell? ⟨b, 0, none⟩ = some (.slice A rs.length C) ∧ w1.cell? ⟨g, k, none⟩ = some (.pointer (some ⟨bd, 0, none⟩)) ∧
          Calls Try.prog 21 #[.pointer (some ⟨bd, 0, none⟩), .int .i64 t] w1 fun e w' => e = .returned (.bool true) ∧ ∃ ts', Dk.R0 b (rs.set k (rs.getD k [] ++ [t])) ts' ∧ Dk.Sep W w' (us ++ ts') := by
        intro w1 u
        obtain ⟨A1, C1, hb1, _, _, hk1⟩ := hR.head (s.below u)
        have q := (hb.up u).heap.symm.trans hb1.heap
        simp only [Option.some.injEq, Obj.cells.injEq, Array.mk.injEq, List.cons.injEq, Value.slice.injEq, and_true, true_and] at q
        obtain ⟨rfl, rfl⟩ := q
        obtain ⟨g, bd, v, rfl, c1, hD, hput⟩ := hk1 k hkl
        refine ⟨g, bd, rfl, hb1.cell 0, c1, ?_⟩
        have hle := hF.rowz k hkl
        refine (Push_yes 0 bd v _ t w1 hD e3 ht (by omega)).mono ?_
        rintro e w' ⟨rfl, hT⟩
        exact ⟨rfl, hput w' _ hT⟩
      have HF : Hid _ := fin
      generalize rs.length = n at *
      clear fin hb hR s hF hp hp' hk e1 e2 hw e3
      go_enter Try.func10, Try.ntmps10
      go_wp2_with (first | (go_at_call 17; refine K.mono ?_; rintro e w' ⟨rfl, hw'⟩; subst w'))
      refine KW.mono ?_
      rintro e w1 ⟨rfl, hu⟩
      obtain ⟨g, bd, rfl, c0, c1, KP⟩ := HF.out w1 hu
      clear hu KW HF
      go_wp2_with fail
      refine KP.mono ?_
      rintro e w2 ⟨rfl, h⟩
      have HH : Hid _ := h
      clear h KP c0 c1
      go_wp2_with fail
      go_ret
      exact ⟨rfl, HH.out⟩
  · obtain ⟨e1, e2⟩ := Dk.add_out (t := t) (.inl (by simpa using hp : Dk.inRows rs p = false))
    rw [e1, e2]
    rw [show (decide ((0 : Int) ≤ p) && decide (p < (rs.length : Int))) = false from (by unfold Dk.inRows at hp; simpa using hp)] at K
    have HS : Hid _ := s
    have HR : Hid _ := hR
    clear hb hR s hF hp hk e1 e2 KW
    go_enter Try.func10, Try.ntmps10
    go_wp2_with (first | (go_at_call 17; refine K.mono ?_; rintro e w' ⟨rfl, hw'⟩; subst w'))
    go_ret
    exact ⟨rfl, ts, HR.out, HS.out⟩
set_option maxHeartbeats 1000000 in
theorem Pick_any (hR : Dk.R0 b rs ts) (s : Dk.Sep W w (us ++ ts)) (hF : Dk.Few N rs) (hN : N ≤ 200) (p : Int) : Calls Try.prog 7 #[.pointer (some ⟨b, 0, none⟩), .int .i64 p] w fun e w' => e = .returned (.tuple #[.int .i64 (Dk.pickT rs p), .bool (Dk.pickB rs p)]) ∧ ∃ ts', Dk.R0 b (Dk.pickR rs p) ts' ∧ Dk.Sep W w' (us ++ ts') := by
  obtain ⟨A, C, hb, hC, hM, hk⟩ := hR.head s
  have hM' := hM
  unfold maxLen at hM
  have hl := hF.rows
  have K := isRow_any hb hl p
  have c0 : w.cell? ⟨b, 0, none⟩ = some (.slice A rs.length C) := hb.cell 0
  by_cases hp : Dk.inRows rs p = true
  · have hp' := Dk.inRows_iff.1 hp
    obtain ⟨k, rfl⟩ : ∃ k : Nat, p = k := ⟨p.toNat, by omega⟩
    have hkl : k < rs.length := by omega
    rw [show (decide ((0 : Int) ≤ (k : Int)) && decide ((k : Int) < (rs.length : Int))) = true by simp; omega] at K
    obtain ⟨g, bd, v, rfl, c1, hD, hput⟩ := hk k hkl
    have hle := hF.rowz k hkl
    have P1 : ∀ xs, rs.getD k [] = xs → Dk.Places w (some ⟨g, k, none⟩) 1 (C - k) [xs] := fun xs e => by
      refine ⟨by omega, by unfold maxLen; omega, fun i hi => ?_⟩
      obtain rfl : i = 0 := by omega
      exact ⟨g, k, bd, v, rfl, c1, by rw [List.getD_cons_zero, ← e]; exact hD⟩
    cases hx : rs.getD k [] with
    | cons x r =>
      obtain ⟨e1, e2, e3⟩ := Dk.pick_ownz hkl hx
      rw [e1, e2, e3]
      rw [hx] at hD hle
      rw [List.length_cons] at hle
      have KT := takeFrom_yes 19 call_pop (fun bd v w h => Pop_no 0 bd v w h) (some ⟨g, k, none⟩) 1 (C - k) [x :: r] w (P1 _ hx) 0 (by omega) (fun i hi => absurd hi (by omega)) x (fun w' => ∃ ts', Dk.R0 b (rs.set k r) ts' ∧ Dk.Sep W w' (us ++ ts')) (fun g' o' bd' v' hA hc => by
        injection hA with hA
        injection hA with e1 e2
        subst e1
        subst e2
        rw [Nat.add_zero, c1] at hc
        injection hc with hc
        injection hc with hc
        injection hc with hc
        injection hc with hc
        subst hc
        refine (Pop_yes 0 bd v x r w hD (by omega)).mono ?_
        rintro e w' ⟨rfl, hT⟩
        exact ⟨rfl, hput w' _ hT⟩)
      generalize hn : rs.length = n at *
      clear hb hR s hF hp hp' hk e1 e2 e3 hD hput P1 hx c1 hle
      go_enter Try.func7, Try.ntmps7
      go_wp2_with (first | (go_at_call 17; refine K.mono ?_; rintro e w' ⟨rfl, hw'⟩; subst w'))
      refine KT.mono ?_
      rintro e w1 ⟨rfl, h⟩
      have HH : Hid _ := h
      clear h KT K c0
      go_wp2_with fail
      go_ret2
      exact ⟨rfl, HH.out⟩
    | nil =>
      have h00 : ∀ i, i < 1 → ([[]] : List (List Int)).getD i [] = [] := fun i hi => by
        obtain rfl : i = 0 := by omega
        rfl
      have KT := takeFrom_no 19 call_pop (fun bd v w h => Pop_no 0 bd v w h) (some ⟨g, k, none⟩) 1 (C - k) [[]] w (P1 _ hx) h00
      clear h00
      have P2 : Dk.Places w (some ⟨g, 0, none⟩) rs.length C rs := by
        refine ⟨hC, hM', fun i hi => ?_⟩
        obtain ⟨g', bd', v', e, c, h, _⟩ := hk i hi
        injection e with e
        injection e with e1 _
        subst e1
        exact ⟨g, 0, bd', v', rfl, by rw [Nat.zero_add]; exact c, h⟩
      have key : Calls Try.prog 18 #[.slice (some ⟨g, 0, none⟩) rs.length C, .func (.func 20) #[] #[]] w fun e w' => e = .returned (.tuple #[.int .i64 (Dk.pickT rs (k : Int)), .bool (Dk.pickB rs (k : Int))]) ∧ ∃ ts', Dk.R0 b (Dk.pickR rs (k : Int)) ts' ∧ Dk.Sep W w' (us ++ ts') := by
        by_cases hf : Dk.firstR rs < rs.length
        · have hn : ∀ i, i < Dk.firstR rs → rs.getD i [] = [] := fun i hi => by
            have h1 := List.not_of_lt_findIdx (p := fun r : List Int => !r.isEmpty) (xs := rs) hi
            have hil : i < rs.length := by omega
            simp only [Bool.not_eq_true, Bool.not_eq_false', List.isEmpty_iff] at h1
            simpa [List.getD, hil] using h1
          have hne := Dk.firstR_spec hf
          generalize Dk.firstR rs = j at hf hn hne
          obtain ⟨r, x, er⟩ := Dk.last_split _ hne
          obtain ⟨e1, e2, e3⟩ := Dk.pick_last hkl hx hf hn er
          rw [e1, e2, e3]
          obtain ⟨g', bd', v', eA, c, hD', hput'⟩ := hk j hf
          injection eA with eA
          injection eA with eA _
          subst eA
          have hle' := hF.rowz j hf
          rw [er] at hD' hle'
          rw [List.length_append, List.length_singleton] at hle'
          refine (takeFrom_yes 20 call_back (fun bd v w h => PopBack_no 0 bd v w h) (some ⟨g, 0, none⟩) rs.length C rs w P2 j hf hn x (fun w' => ∃ ts', Dk.R0 b (rs.set j r) ts' ∧ Dk.Sep W w' (us ++ ts')) (fun g2 o2 bd2 v2 hA hc => by
            injection hA with hA
            injection hA with q1 q2
            subst q1
            subst q2
            rw [Nat.zero_add, c] at hc
            injection hc with hc
            injection hc with hc
            injection hc with hc
            injection hc with hc
            subst hc
            refine (PopBack_yes 0 bd' v' x r w hD' (by omega)).mono ?_
            rintro e w' ⟨rfl, hT⟩
            exact ⟨rfl, hput' w' _ hT⟩))
        · have hn : ∀ j, j < rs.length → rs.getD j [] = [] := fun j hj => by
            have h1 := List.not_of_lt_findIdx (p := fun r : List Int => !r.isEmpty) (xs := rs) (i := j) (by unfold Dk.firstR at hf; omega)
            simp only [Bool.not_eq_true, Bool.not_eq_false', List.isEmpty_iff] at h1
            simpa [List.getD, hj] using h1
          obtain ⟨e1, e2, e3⟩ := Dk.pick_none hkl hn
          rw [e1, e2, e3]
          refine (takeFrom_no 20 call_back (fun bd v w h => PopBack_no 0 bd v w h) (some ⟨g, 0, none⟩) rs.length C rs w P2 hn).mono ?_
          rintro e w' ⟨rfl, hw⟩
          subst w'
          exact ⟨rfl, ts, hR, s⟩
      generalize Dk.pickT rs (k : Int) = pt at key ⊢
      generalize Dk.pickB rs (k : Int) = pb at key ⊢
      generalize Dk.pickR rs (k : Int) = pr at key ⊢
      generalize hn : rs.length = n at *
      clear hb hR s hF hp hp' hk hD hput P1 P2 hx c1 hle
      go_enter Try.func7, Try.ntmps7
      go_wp2_with (first | (go_at_call 17; refine K.mono ?_; rintro e w' ⟨rfl, hw'⟩; subst w'))
      refine KT.mono ?_
      rintro e w1 ⟨rfl, h⟩
      subst w1
      clear KT K
      go_wp2_with fail
      refine key.mono ?_
      rintro e w1 ⟨rfl, h⟩
      have HH : Hid _ := h
      clear h key c0
      go_wp2_with fail
      go_ret2
      exact ⟨rfl, HH.out⟩
  · obtain ⟨e1, e2, e3⟩ := Dk.pick_out hp
    rw [e1, e2, e3]
    rw [show (decide ((0 : Int) ≤ p) && decide (p < (rs.length : Int))) = false from (by unfold Dk.inRows at hp; simpa using hp)] at K
    have HS : Hid _ := s
    have HR : Hid _ := hR
    clear hb hR s hF hp hk e1 e2 e3 c0
    go_enter Try.func7, Try.ntmps7
    go_wp2_with (first | (go_at_call 17; refine K.mono ?_; rintro e w' ⟨rfl, hw'⟩; subst w'))
    go_ret2
    exact ⟨rfl, ts, HR.out, HS.out⟩
end
end Go.Proofs.Ytoilkojegnfmfaa
