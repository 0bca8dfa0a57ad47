/- Layer 14: looked at again and again, all that were taken away within a section come out, in order. -/
import Derived.Test.YtogddcbggenjmaaEg
import Derived.Deep.CutRange
namespace Dk
set_option linter.unusedSimpArgs false
set_option linter.unusedVariables false
set_option linter.unnecessarySimpa false
open Go Go.RowKit
/-- Those within a section. -/
def secs (es : List Ev) : List Ev := es.filter Ev.within
def cw (es : List Ev) (k : Nat) : Nat := (secs (es.take k)).length
theorem cw_zero (es : List Ev) : cw es 0 = 0 := rfl
set_option maxRecDepth 100000 in
theorem cw_yes {es : List Ev} {k : Nat} (h : k < es.length) (hp : (es.getD k Ev.zero).within = true) : cw es (k + 1) = cw es k + 1 ∧ cw es k < (secs es).length ∧ (secs es).getD (cw es k) Ev.zero = es.getD k Ev.zero := by
  have e1 : secs (es.take (k + 1)) = secs (es.take k) ++ [es.getD k Ev.zero] := by
    rw [take_succ_getD es Ev.zero k h]; unfold secs; rw [List.filter_append, List.filter_cons_of_pos hp, List.filter_nil]
  have e2 : secs es = secs (es.take k) ++ ([es.getD k Ev.zero] ++ secs (es.drop (k + 1))) := by
    rw [← List.append_assoc, ← e1]
    unfold secs
    rw [← List.filter_append, List.take_append_drop]
  refine ⟨by unfold cw; rw [e1]; simp, by rw [e2]; unfold cw; simp, ?_⟩
  rw [e2]
  unfold cw
  generalize secs (es.take k) = a
  simp [List.getD]
theorem cw_no {es : List Ev} {k : Nat} (h : k < es.length) (hp : (es.getD k Ev.zero).within = false) : cw es (k + 1) = cw es k := by
  unfold cw
  rw [take_succ_getD es Ev.zero k h]; unfold secs; rw [List.filter_append, List.filter_cons_of_neg (by rw [hp]; simp), List.filter_nil, List.append_nil]
theorem cw_le (es : List Ev) (k : Nat) : cw es k ≤ k := by
  unfold cw secs
  have := List.length_filter_le Ev.within (es.take k)
  rw [List.length_take] at this
  omega
theorem cw_all (es : List Ev) : cw es es.length = (secs es).length := by unfold cw; rw [List.take_length]
set_option maxRecDepth 100000 in
/-- The first one, and the others. -/
theorem secs_first {rs : List Ev} (h : secs rs ≠ []) : ∃ k, k < rs.length ∧ firstI rs = (k : Int) ∧ secs rs = rs.getD k Ev.zero :: secs (rs.take k ++ rs.drop (k + 1)) := by
  rcases firstI_cases rs with ⟨_, h2⟩ | ⟨k, h1, h2, h3, h4⟩
  · exfalso
    apply h
    unfold secs
    rw [List.filter_eq_nil_iff]
    intro x hx
    obtain ⟨j, hj, rfl⟩ := List.getElem_of_mem hx
    have := h2 j hj
    simpa [List.getD, hj] using this
  · refine ⟨k, h1, h2, ?_⟩
    have e0 : secs (rs.take k) = [] := by
      unfold secs
      rw [List.filter_eq_nil_iff]
      intro x hx
      obtain ⟨j, hj, rfl⟩ := List.getElem_of_mem hx
      rw [List.length_take] at hj
      have := h4 j (by omega)
      have hjr : j < rs.length := by omega
      simpa [List.getD, hjr] using this
    have e1 : rs = rs.take k ++ (rs.getD k Ev.zero :: rs.drop (k + 1)) := by
      have : rs.getD k Ev.zero = rs[k] := by simp [List.getD, h1]
      rw [this, List.getElem_cons_drop, List.take_append_drop]
    have e2 : secs rs = secs (rs.take k) ++ (rs.getD k Ev.zero :: secs (rs.drop (k + 1))) := by
      conv => lhs; rw [e1]
      unfold secs
      rw [List.filter_append, List.filter_cons_of_pos h3]
    rw [e2, e0, List.nil_append]
    unfold secs at e0 ⊢
    rw [List.filter_append, e0, List.nil_append]
theorem secs_none {rs : List Ev} (h : secs rs = []) : firstI rs = -1 := by
  rcases firstI_cases rs with ⟨h1, _⟩ | ⟨k, h1, h2, h3, h4⟩
  · exact h1
  · exfalso
    have hm : rs.getD k Ev.zero ∈ secs rs := List.mem_filter.2 ⟨by simp [List.getD, h1], h3⟩
    rw [h] at hm
    cases hm
theorem secs_ok {es : List Ev} (h : ∀ e ∈ es, e.ok) : ∀ e ∈ secs es, e.ok := fun e he => h e (List.mem_filter.1 he).1
end Dk
namespace Go.Proofs.Ytogddcbggenjmaa
set_option linter.unusedSimpArgs false
set_option linter.unusedVariables false
set_option linter.unnecessarySimpa false
open Go.RowKit Go.Lib
set_option maxRecDepth 100000 in
set_option maxHeartbeats 4000000 in
theorem EventLeft_any {A : Option Addr} {L0 C : Nat} {es0 : List Dk.Ev} {w : World} (hE0 : Dk.SlE w.heap.size w A L0 C es0) :
    Calls Try.prog 6 #[.slice A L0 C] w fun e w' => e = .returned (.bool true) ∧ Below w.heap.size w w' := by
  obtain ⟨L, es, hE, hL60, hmin⟩ : ∃ L es, Dk.SlE w.heap.size w A L C es ∧ L ≤ 60 ∧ L = min L0 60 := ⟨min L0 60, es0.take (min L0 60), hE0.take (by omega), by omega, rfl⟩
  have hcap0 := hE0.cap
  have hcap := hE.cap
  have hmax := hE.max
  unfold maxLen at hmax
  have HH : Hid (Dk.SlE w.heap.size w A L C es) := hE
  have HL : Hid (es.length = L) := hE.len
  have HM : Hid (L = min L0 60) := hmin
  have hs : 60 < L0 → ∃ b o, A = some ⟨b, o, none⟩ := fun h => by
    obtain ⟨b, o, e, _⟩ := hE0.cells (by omega)
    exact ⟨b, o, e⟩
  have HO : Hid (∀ e ∈ es, e.ok) := hE.wf
  have HA : Hid _ := hs
  clear hE hE0 hmin hs
  go_enter Try.func6, Try.ntmps6
  go_upto_if 18 with fail
  go_cut [0] from 19 to 20 (fun v w' => v = .slice A L C ∧ w' = w)
  case first =>
    by_cases h : 60 < L0
    · have hl : L = 60 := by have := HM.out; omega
      subst hl
      obtain ⟨b, o, rfl⟩ := HA.out h
      have h1 : (60 : Int) < (L0 : Int) := by omega
      have h2 : ¬ C < 60 := by omega
      go_wp2_with fail
      go_meet
      exact ⟨rfl, rfl⟩
    · have hl : L = L0 := by have := HM.out; omega
      subst hl
      go_wp2_with fail
      go_meet
      exact ⟨rfl, rfl⟩
  case rest =>
    obtain ⟨rfl, hw⟩ := hcut
    subst wc
    clear HM HA hcap0
    go_wp2_with fail
    go_loopw [3, 4] (fun v i w' => ∃ k : Nat, k ≤ L ∧ v = .int .i64 (Dk.cw es k : Int) ∧ i = .int .i64 k ∧ Hid (w' = w)) (fun v i w' => L - (intOf i).toNat)
    case atStart => exact ⟨0, Nat.zero_le _, rfl, rfl, rfl⟩
    case round =>
      obtain ⟨k, hk, rfl, rfl, HB⟩ := hrel
      have ew := HB.out
      subst wr
      by_cases hlt : k < L
      · obtain ⟨b, o, rfl, hbb, _, k0, k1, k2⟩ := HH.out.at hlt
        have hkl : k < es.length := by rw [HL.out]; exact hlt
        have hle := Dk.cw_le es k
        have HY : Hid ((es.getD k Dk.Ev.zero).within = true → Dk.cw es (k + 1) = Dk.cw es k + 1) := fun h => (Dk.cw_yes hkl h).1
        have HN : Hid ((es.getD k Dk.Ev.zero).within = false → Dk.cw es (k + 1) = Dk.cw es k) := fun h => Dk.cw_no hkl h
        generalize Dk.cw es k = n at *
        generalize es.getD k Dk.Ev.zero = x at k0 k1 k2 HY HN
        obtain ⟨xk, xt, xm⟩ := x
        by_cases hm : 0 < xm
        · have HQ : Hid _ := HY.out (decide_eq_true hm)
          go_wp2_with fail
          go_roundw
          case rel => exact ⟨k + 1, by omega, by rw [HQ.out]; go_num, by go_num, True.intro⟩
          case measure => simp [intOf]; omega
        · have HQ : Hid _ := HN.out (decide_eq_false hm)
          go_wp2_with fail
          go_roundw
          case rel => exact ⟨k + 1, by omega, by rw [HQ.out], by go_num, True.intro⟩
          case measure => simp [intOf]; omega
      · obtain rfl : k = L := by omega
        obtain ⟨many, hmany⟩ : ∃ many, Dk.cw es k = many := ⟨_, rfl⟩
        have hm60 : many ≤ 60 := by have := Dk.cw_le es k; omega
        have hmk : many ≤ k := by have := Dk.cw_le es k; omega
        have HMany : Hid ((Dk.secs es).length = many) := by rw [← hmany, ← HL.out]; exact (Dk.cw_all es).symm
        rw [hmany]
        obtain ⟨W1, e1⟩ : ∃ W1, W1 = w.alloc (.cells #[] 25) := ⟨_, rfl⟩
        have s1 := (Dk.Sep.begin (Below.refl w.heap.size w)).empty (s := 3) e1
        have H1 : Hid (w.alloc (.cells #[] 25) = W1) := e1.symm
        have HLk : Hid (k = k) := rfl
        clear e1 hmany
        go_wp2_with (rw [H1.out]; clear H1)
        go_loopw [5, 6, 7] (fun v5 v6 i w' => ∃ (j : Nat) (B : Option Addr) (D : Nat) (rs : List Dk.Ev) (ts : List Dk.Thing), j ≤ many ∧ i = .int .i64 j ∧ v5 = .slice B (k - j) D ∧ j ≤ k ∧ Dk.Sep w w' (Dk.rowOf 25 3 v6 j (Dk.evs ((Dk.secs es).take j)) :: ts) ∧ Hid (Dk.secs rs = (Dk.secs es).drop j) ∧ Hid (∀ w'' ts', Dk.Sep w w'' (ts' ++ ts) → Dk.SlE w''.heap.size w'' B (k - j) D rs)) (fun v5 v6 i w' => many - (intOf i).toNat)
        case atStart => exact ⟨0, A, C, es, [], Nat.zero_le _, rfl, rfl, Nat.zero_le _, s1, rfl, fun w'' ts' h => HH.out.up h.out⟩
        case round =>
          clear s1
          obtain ⟨j, B, D, rs, ts, hj, rfl, rfl, hjk, hS, HS1, HS2⟩ := hrel
          by_cases hlj : j < many
          · have hne : Dk.secs rs ≠ [] := fun h => by
              have h1 := HS1.out
              rw [h] at h1
              have h2 := congrArg List.length h1
              rw [List.length_drop, HMany.out] at h2
              simp at h2
              omega
            obtain ⟨p, hp, hF, hsec⟩ := Dk.secs_first hne
            have hR := HS2.out wr [_] hS
            have hlen := hR.len
            have hn0 : 0 < k - j := by omega
            obtain ⟨b, o, rfl, _⟩ := hR.cells hn0
            have K := Within_yes hR (by omega) (by omega) hF
            have h1 := HS1.out
            rw [hsec] at h1
            have hsj : j < (Dk.secs es).length := by rw [HMany.out]; exact hlj
            have hx : rs.getD p Dk.Ev.zero = (Dk.secs es).getD j Dk.Ev.zero := by
              have : (Dk.secs es).drop j = (Dk.secs es).getD j Dk.Ev.zero :: (Dk.secs es).drop (j + 1) := by
                have : (Dk.secs es).getD j Dk.Ev.zero = (Dk.secs es)[j] := by simp [List.getD, hsj]
                rw [this, List.getElem_cons_drop]
              rw [this] at h1
              exact (List.cons.inj h1).1
            have HS1' : Hid (Dk.secs (rs.take p ++ rs.drop (p + 1)) = (Dk.secs es).drop (j + 1)) := by
              have : (Dk.secs es).drop j = (Dk.secs es).getD j Dk.Ev.zero :: (Dk.secs es).drop (j + 1) := by
                have : (Dk.secs es).getD j Dk.Ev.zero = (Dk.secs es)[j] := by simp [List.getD, hsj]
                rw [this, List.getElem_cons_drop]
              rw [this] at h1
              exact (List.cons.inj h1).2
            have HT : Hid ((Dk.secs es).take (j + 1) = (Dk.secs es).take j ++ [rs.getD p Dk.Ev.zero]) := by
              have := Dk.take_succ_getD (Dk.secs es) Dk.Ev.zero j hsj
              rw [← hx] at this
              exact this
            have HW : Hid ((∀ e ∈ rs.take p ++ rs.drop (p + 1), e.ok) ∧ (rs.take p ++ rs.drop (p + 1)).length = k - (j + 1)) := ⟨fun e he => hR.wf e (by
              simp at he
              exact he.elim List.mem_of_mem_take List.mem_of_mem_drop), by simp; omega⟩
            generalize rs.getD p Dk.Ev.zero = x at K HT hx
            generalize rs.take p ++ rs.drop (p + 1) = rs' at K HS1' HW hsec
            obtain ⟨xk, xt, xm⟩ := x
            have y1 : ((((k - j - 1 : Nat)) : Int) != ((k - j : Nat) : Int) - 1) = false := by simp; omega
            have y2 : IntKind.i64.wrap (((k - j : Nat) : Int) - 1) = ((k - j : Nat) : Int) - 1 := by go_bits; omega
            clear hR hlen h1 hsec hne hF hx hp
            generalize hn : k - j = n at *
            have HNk : Hid (k - j = n) := hn
            clear hn
            go_wp2_with fail
            refine K.mono ?_
            rintro e w2 ⟨B', D', rfl, s2⟩
            obtain ⟨W3, e3⟩ : ∃ W3, W3 = w2.alloc (.cells #[.int .i64 xk, .int .i64 xt, .int .i64 xm] 25) := ⟨_, rfl⟩
            have s3 := (hS.onto s2).newBox e3
            have b3 := s3.box (b := w2.heap.size) (cs := #[.int .i64 xk, .int .i64 xt, .int .i64 xm]) (t := 25) (by simp)
            have d0 : W3.cell? ⟨w2.heap.size, 0, none⟩ = some (.int .i64 xk) := b3.cell 0
            have d1 : W3.cell? ⟨w2.heap.size, 1, none⟩ = some (.int .i64 xt) := b3.cell 1
            have d2 : W3.cell? ⟨w2.heap.size, 2, none⟩ = some (.int .i64 xm) := b3.cell 2
            have H3 : Hid (w2.alloc (.cells #[.int .i64 xk, .int .i64 xt, .int .i64 xm] 25) = W3) := e3.symm
            obtain ⟨v4, w4, r4, s4⟩ := Dk.Sep.appendE (us1 := [_, _]) (x := ⟨xk, xt, xm⟩) KE s3 (by unfold maxLen; omega) (by omega)
            rw [← HT.out] at s4
            have s5 := (s4.perm (us := Dk.rowOf 25 3 v4 (j + 1) (Dk.evs ((Dk.secs es).take (j + 1))) :: Dk.rowOf 25 3 (.slice B' (n - 1) D') (n - 1) (Dk.evs rs') :: Dk.boxOf w2.heap.size #[.int .i64 xk, .int .i64 xt, .int .i64 xm] 25 :: ts) (by
              refine ((List.Perm.swap _ _ _).append_right (_ :: ts)).trans ?_
              exact (List.perm_middle (l₁ := [_, _])).trans (List.Perm.refl _))).sub (us := [_, _]) (((List.nil_sublist _).cons_cons _).cons_cons _)
            have hnext : Hid (∀ w'' ts', Dk.Sep w w'' (ts' ++ [Dk.rowOf 25 3 (.slice B' (n - 1) D') (n - 1) (Dk.evs rs')]) → Dk.SlE w''.heap.size w'' B' (n - 1) D' rs') := fun w'' ts' h => by
              obtain ⟨_, _, ev, q⟩ := h.asEvs (e := 25) (v := .slice B' (n - 1) D') (n := n - 1) (xs := rs') (by simp) (by have := HW.out.2; have := HNk.out; omega) HW.out.1
              cases ev
              exact q
            clear s2 s3 s4 b3 e3 hS K HS1 HS2 HW
            go_wp2_with (first | (rw [H3.out]; clear H3) | (at_builtin; refine Lib.wpList_append_run _ rfl _ _ _ _ rfl _ _ rfl rfl _ _ r4 ?_))
            go_roundw
            case rel =>
              have e : k - (j + 1) = n - 1 := by have := HNk.out; omega
              refine ⟨j + 1, B', D', rs', _, by omega, by go_num, by rw [e], by omega, s5, HS1', ?_⟩
              rw [e]
              exact hnext
            case measure => simp [intOf]; omega
          · obtain rfl : j = many := by omega
            have hsec : Dk.secs rs = [] := by
              rw [HS1.out]
              exact List.drop_eq_nil_of_le (by rw [HMany.out]; exact Nat.le_refl _)
            have hR := HS2.out wr [_] hS
            have K := Within_no hR (by omega) (Dk.secs_none hsec)
            rw [List.take_of_length_le (by rw [HMany.out]; exact Nat.le_refl _)] at hS
            obtain ⟨A6, C6, rfl, _⟩ := hS.asEvs (e := 25) (v := u6) (n := j) (xs := Dk.secs es) (List.mem_cons_self ..) HMany.out (Dk.secs_ok HO.out)
            clear hR hsec HS1 HS2
            go_wp2_with fail
            refine K.mono ?_
            rintro e w2 ⟨B', D', rfl, s2⟩
            obtain ⟨W3, e3⟩ : ∃ W3, W3 = w2.alloc (.cells #[.int .i64 0, .int .i64 0, .int .i64 0] 25) := ⟨_, rfl⟩
            have s3 := ((hS.sub (us := [_]) ((List.nil_sublist _).cons_cons _)).below s2.out).newBox e3
            have b3 := s3.box (b := w2.heap.size) (cs := #[.int .i64 0, .int .i64 0, .int .i64 0]) (t := 25) (by simp)
            have HB3 : Hid _ := b3
            obtain ⟨W4, e4⟩ : ∃ W4, W4 = W3.setRow w2.heap.size #[.int .i64 0, .int .i64 0, .int .i64 0] := ⟨_, rfl⟩
            have s4 := Dk.Sep.setRow (us1 := []) s3 #[.int .i64 0, .int .i64 0, .int .i64 0]
            rw [← e4] at s4
            have H3 : Hid (w2.alloc (.cells #[.int .i64 0, .int .i64 0, .int .i64 0] 25) = W3) := e3.symm
            have H4 : Hid (W3.setRow w2.heap.size #[.int .i64 0, .int .i64 0, .int .i64 0] = W4) := e4.symm
            obtain ⟨_, _, ev, q4⟩ := s4.asEvs (e := 25) (v := .slice A6 j C6) (n := j) (xs := Dk.secs es) (by simp) HMany.out (Dk.secs_ok HO.out)
            cases ev
            have Q4 : Hid _ := q4
            have E4 : Hid _ := HH.out.up s4.out
            have U4 : Hid _ := s4.out
            clear K e3 e4 s2 s3 s4 b3 hS q4 HH
            go_wp2_with (first | (rw [H3.out]; clear H3) | (refine wpList_store_row rfl 25 _ _ rfl w2.heap.size #[.int .i64 0, .int .i64 0, .int .i64 0] rfl rfl 25 _ HB3.out.heap ev_size rfl (ev_cells _ _ _) ?_; rw [H4.out]; clear HB3))
            go_loopw [14, 15] (fun v i w' => ∃ k' : Nat, k' ≤ k ∧ v = .int .i64 (Dk.cw es k' : Int) ∧ i = .int .i64 k' ∧ Hid (Below W4.heap.size W4 w')) (fun v i w' => k - (intOf i).toNat)
            case atStart => exact ⟨0, Nat.zero_le _, rfl, rfl, Below.refl _ _⟩
            case round =>
              obtain ⟨k', hk', rfl, rfl, HB⟩ := hrel
              by_cases hlt : k' < k
              · obtain ⟨b, o, rfl, hbb, _, k0, k1, k2⟩ := E4.out.at hlt
                have hkl : k' < es.length := by rw [HL.out]; exact hlt
                have hle := Dk.cw_le es k'
                have HY : Hid ((es.getD k' Dk.Ev.zero).within = true → Dk.cw es (k' + 1) = Dk.cw es k' + 1 ∧ Dk.cw es k' < (Dk.secs es).length ∧ (Dk.secs es).getD (Dk.cw es k') Dk.Ev.zero = es.getD k' Dk.Ev.zero) := fun h => Dk.cw_yes hkl h
                have HN : Hid ((es.getD k' Dk.Ev.zero).within = false → Dk.cw es (k' + 1) = Dk.cw es k') := fun h => Dk.cw_no hkl h
                generalize Dk.cw es k' = n at *
                generalize es.getD k' Dk.Ev.zero = x at k0 k1 k2 HY HN
                obtain ⟨xk, xt, xm⟩ := x
                have c2 : wr.cell? ⟨b, o + k' * 3 + 2, none⟩ = some (.int .i64 xm) := by rw [HB.out.cell (by exact hbb)]; exact k2
                by_cases hm : 0 < xm
                · have HQ : Hid _ := HY.out (decide_eq_true hm)
                  have hnj : n < j := by have := HQ.out.2.1; rw [HMany.out] at this; exact this
                  obtain ⟨b', o', rfl, hbb', _, g0, g1, g2⟩ := Q4.out.at hnj
                  rw [HQ.out.2.2] at g0 g1 g2
                  have FC : Hid (∀ w', Below W4.heap.size W4 w' → w'.cell? ⟨b, o + k' * 3, none⟩ = some (.int .i64 xk) ∧ w'.cell? ⟨b, o + k' * 3 + 1, none⟩ = some (.int .i64 xt) ∧ w'.cell? ⟨b, o + k' * 3 + 2, none⟩ = some (.int .i64 xm) ∧ w'.cell? ⟨b', o' + n * 3, none⟩ = some (.int .i64 xk) ∧ w'.cell? ⟨b', o' + n * 3 + 1, none⟩ = some (.int .i64 xt) ∧ w'.cell? ⟨b', o' + n * 3 + 2, none⟩ = some (.int .i64 xm)) := fun w' u =>
                    ⟨(u.cell (by exact hbb)).trans k0, (u.cell (by exact hbb)).trans k1, (u.cell (by exact hbb)).trans k2, (u.cell (by exact hbb')).trans g0, (u.cell (by exact hbb')).trans g1, (u.cell (by exact hbb')).trans g2⟩
                  have hsame : ∀ w, (Op.equalIn 10000 25 (.agg #[.int .i64 xk, .int .i64 xt, .int .i64 xm]) (.agg #[.int .i64 xk, .int .i64 xt, .int .i64 xm])).run Try.prog w = .ok true w := same_ev 9998 _ _ _
                  have y1 : decide ((j : Int) ≤ (n : Int)) = false := decide_eq_false (by omega)
                  have y2 : decide (j ≤ n) = false := decide_eq_false (by omega)
                  have y3 : ¬ j ≤ n := by omega
                  have hnji : (n : Int) < (j : Int) := by omega
                  clear k0 k1 k2 g0 g1 g2 HY HN
                  go_wp2_with fail
                  refine Dk.wp_region_mix (S := fun w' => Below W4.heap.size W4 w') [(true, 0), (true, 1), (true, 2), (true, 3), (true, 4), (true, 5), (true, 6), (true, 7), (true, 8), (true, 9), (true, 10), (true, 11), (true, 12), (true, 13), (true, 14)] (by kernel_rfl) (by kernel_rfl) (by kernel_rfl) rfl (Dk.up_drew HB.out) ?_
                  iterate 5 (refine Dk.mix_held rfl rfl (fun w' hw' => by go_simp; rfl) ?_; simp only [Act.put, List.setIfInBounds_toArray, List.set_cons_succ, List.set_cons_zero])
                  iterate 3 (refine Dk.mix_held rfl rfl (fun w' hw' => by go_simp; rfl) ?_; simp only [Act.put, List.setIfInBounds_toArray, List.set_cons_succ, List.set_cons_zero])
                  refine Dk.mix_held (v := .agg #[.int .i64 xk, .int .i64 xt, .int .i64 xm]) rfl rfl (fun w' hw' => by obtain ⟨q0, q1, q2, q3, q4, q5⟩ := FC.out w' hw'; go_simp) ?_
                  simp only [Act.put, List.setIfInBounds_toArray, List.set_cons_succ, List.set_cons_zero]
                  iterate 3 (refine Dk.mix_held rfl rfl (fun w' hw' => by go_simp; rfl) ?_; simp only [Act.put, List.setIfInBounds_toArray, List.set_cons_succ, List.set_cons_zero])
                  refine Dk.mix_held (v := .agg #[.int .i64 xk, .int .i64 xt, .int .i64 xm]) rfl rfl (fun w' hw' => by obtain ⟨q0, q1, q2, q3, q4, q5⟩ := FC.out w' hw'; go_simp) ?_
                  simp only [Act.put, List.setIfInBounds_toArray, List.set_cons_succ, List.set_cons_zero]
                  iterate 2 (refine Dk.mix_held rfl rfl (fun w' hw' => by go_simp; rfl) ?_; simp only [Act.put, List.setIfInBounds_toArray, List.set_cons_succ, List.set_cons_zero])
                  show NoPanic _ Exit.normal _ _
                  refine NoPanic.normal ?_
                  go_wp2_with fail
                  go_roundw
                  case rel => exact ⟨k' + 1, by omega, by rw [HQ.out.1]; go_num, by go_num, Dk.up_drew HB.out⟩
                  case measure => simp [intOf]; omega
                · have HQ : Hid _ := HN.out (decide_eq_false hm)
                  clear k0 k1 k2 HY HN
                  go_wp2_with fail
                  go_roundw
                  case rel => exact ⟨k' + 1, by omega, by rw [HQ.out], by go_num, HB.out⟩
                  case measure => simp [intOf]; omega
              · obtain rfl : k' = k := by omega
                have e : Dk.cw es k' = j := by rw [← HL.out, Dk.cw_all, HMany.out]
                rw [e]
                clear e
                go_wp2_with fail
                refine (awake_any _).mono ?_
                rintro e w5 ⟨rfl, v5⟩
                have U5 : Hid _ := Dk.up_call (Dk.up_call U4.out HB.out) v5
                clear v5
                go_wp2
                go_ret
                exact ⟨rfl, U5.out⟩
end Go.Proofs.Ytogddcbggenjmaa
