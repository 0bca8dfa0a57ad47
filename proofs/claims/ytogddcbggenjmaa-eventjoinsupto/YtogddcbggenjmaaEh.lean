/- Layer 14: events, and more; what may run by them, what counts again. -/
import Derived.Test.YtogddcbggenjmaaEe
namespace Dk
set_option linter.unusedSimpArgs false
set_option linter.unusedVariables false
set_option linter.unnecessarySimpa false
open Go Go.RowKit
theorem tellL_append (p : Ev → Bool) (a b : List Ev) : tellL p (a ++ b) = tellL p a ++ tellL p b := by unfold tellL; rw [List.filter_append, List.map_append]
theorem keepL_keepL (a : List Ev) : keepL (keepL a) = keepL a := by unfold keepL; rw [List.filter_filter]; simp
theorem runs_keepL (a : List Ev) : tellL Ev.runs (keepL a) = tellL Ev.runs a := by
  unfold tellL keepL
  rw [List.filter_filter]
  congr 1
  apply List.filter_congr
  intro x _
  unfold Ev.kept
  cases x.runs <;> simp
section
variable {W w w' : World} {us us1 us2 : List Thing} {P : Go.Program} {ty e : TypeId}
set_option maxRecDepth 100000 in
/-- Numbers are appended. -/
theorem Sep.appendIs {bytes n m c : Nat} {v : Value} {xs ys : List Int} {A : Option Addr} (K : SlK P ty e (.int .i64 0) 1 bytes) (h : Sep W w (us1 ++ rowOf e 1 v n (is xs) :: us2)) (hy : SlI w.heap.size w A m c ys) (h63 : n + m ≤ maxLen) (hb : (n + m) * bytes ≤ 140737488355328) :
    ∃ v' w', (Builtin.append_ #[ty, ty] ty #[v, .slice A m c]).run P w = .ok v' w' ∧ Sep W w' (us1 ++ rowOf e 1 v' (n + m) (is (xs ++ ys)) :: us2) := by
  cases A with
  | none =>
    have hm : m = 0 := by
      cases m with
      | zero => rfl
      | succ m => obtain ⟨b, o, e, _⟩ := hy.cells (by omega); cases e
    subst hm
    have e0 : ys = [] := List.eq_nil_of_length_eq_zero hy.len
    subst e0
    obtain ⟨i0, hi0, hz0, hz1, hz2⟩ := info_parts K.info
    obtain ⟨A, C, ev, hc, hM⟩ := owns_slice (h.row (e := e) (s := 1) (v := v) (n := n) (xs := is xs) (by simp))
    refine ⟨v, w, ?_, by simpa using h⟩
    rw [ev]
    exact run_append_nothing w ty ty ty e i0 K.und hi0 A n C hc _ (Src.ofNil w K.und c)
  | some a =>
    obtain ⟨v', w', hr, hS, _⟩ := h.appendAt (m := m) (c := c) (news := is ys) (a := a) K (by rw [List.length_map, hy.len, Nat.mul_one]) (fun j u hj => by
      by_cases hm : m = 0
      · have e0 : ys = [] := List.eq_nil_of_length_eq_zero (by rw [hy.len, hm])
        subst e0
        simp at hj
      · obtain ⟨b, o, e1, _, hc⟩ := hy.cells (by omega)
        cases e1
        have hjl : j < ys.length := by
          have := (List.getElem?_eq_some_iff.1 hj).1
          rwa [List.length_map] at this
        rw [Addr.add_lit, hc j (by rw [← hy.len]; exact hjl), ← hj]
        simp [List.getD, hjl]) (fun u hu => by obtain ⟨y, _, rfl⟩ := List.mem_map.1 hu; rfl) h63 hb
    refine ⟨v', w', hr, ?_⟩
    rw [show is (xs ++ ys) = is xs ++ is ys from List.map_append]
    exact hS
end
end Dk
namespace Go.Proofs.Ytogddcbggenjmaa
set_option linter.unusedSimpArgs false
set_option linter.unusedVariables false
set_option linter.unnecessarySimpa false
open Go.RowKit Go.Lib
set_option maxRecDepth 100000 in
set_option maxHeartbeats 4000000 in
theorem EventJoins_any {A A1 : Option Addr} {L C L1 C1 : Nat} {es es1 : List Dk.Ev} {w : World} (hE : Dk.SlE w.heap.size w A L C es) (hE1 : Dk.SlE w.heap.size w A1 L1 C1 es1) (hL : L + L1 ≤ 3000000) :
    Calls Try.prog 5 #[.slice A L C, .slice A1 L1 C1] w fun e w' => e = .returned (.bool true) ∧ Below w.heap.size w w' := by
  have KJ := Join_any hE hE1 (by omega)
  have hcap := hE.cap
  have hcap1 := hE1.cap
  have HH : Hid (Dk.SlE w.heap.size w A L C es) := hE
  have HH1 : Hid (Dk.SlE w.heap.size w A1 L1 C1 es1) := hE1
  have HA : Hid (∀ e ∈ es ++ es1, e.ok) := fun e he => (List.mem_append.1 he).elim (hE.wf e) (hE1.wf e)
  have HLn : Hid ((es ++ es1).length = L + L1) := (by rw [List.length_append, hE.len, hE1.len] : (es ++ es1).length = L + L1)
  have HR : Hid (Dk.tellL Dk.Ev.runs (es ++ es1) = Dk.tellL Dk.Ev.runs es ++ Dk.tellL Dk.Ev.runs es1) := Dk.tellL_append _ _ _
  have HRl : Hid ((Dk.tellL Dk.Ev.runs es).length ≤ L ∧ (Dk.tellL Dk.Ev.runs es1).length ≤ L1) := ⟨by rw [← hE.len]; exact Dk.tellL_len _ _, by rw [← hE1.len]; exact Dk.tellL_len _ _⟩
  have HRo : Hid ((∀ x ∈ Dk.tellL Dk.Ev.runs es, Dk.i64 x) ∧ (∀ x ∈ Dk.tellL Dk.Ev.runs es1, Dk.i64 x)) := ⟨Dk.tellL_ok hE.wf, Dk.tellL_ok hE1.wf⟩
  clear hE hE1
  go_enter Try.func5, Try.ntmps5
  go_wp2_with fail
  refine KJ.mono ?_
  rintro e w1 ⟨B, D, rfl, s1⟩
  obtain ⟨_, _, ev, q1⟩ := s1.asEvs (e := 25) (v := .slice B (L + L1) D) (n := L + L1) (xs := es ++ es1) (by simp) HLn.out HA.out
  cases ev
  have E1 : Hid (Dk.SlE w1.heap.size w1 A L C es) := HH.out.up s1.out
  have F1 : Hid (Dk.SlE w1.heap.size w1 A1 L1 C1 es1) := HH1.out.up s1.out
  have J1 : Hid (Dk.SlE w1.heap.size w1 B (L + L1) D (es ++ es1)) := q1
  have U1 : Hid (Below w.heap.size w w1) := s1.out
  have hB : (B = none ∧ L = 0 ∧ L1 = 0 ∧ D = 0) ∨ ∃ g, B = some ⟨g, 0, none⟩ := by
    obtain ⟨_, ⟨e0, e1⟩ | ⟨g, cap, cur, e0, _⟩⟩ := s1.row (e := 25) (s := 3) (List.mem_cons_self ..)
    · left
      injection e0 with a1 a2 a3
      exact ⟨a1, by omega, by omega, a3⟩
    · right
      injection e0 with a1 a2 a3
      exact ⟨g, a1⟩
  have hD := q1.cap
  have hDm := q1.max
  unfold maxLen at hDm
  clear KJ HH HH1
  rcases hB with ⟨rfl, rfl, rfl, rfl⟩ | ⟨g, rfl⟩
  · have HALF1 : Dk.SlE w1.heap.size w1 none 0 0 es := by
      have h := E1.out
      exact Dk.SlE.none_ (List.eq_nil_of_length_eq_zero h.len) (Nat.zero_le _)
    have HF : Hid (Dk.SlE w1.heap.size w1 none 0 0 es1) := Dk.SlE.none_ (List.eq_nil_of_length_eq_zero F1.out.len) (Nat.zero_le _)
    clear s1 q1
    go_wp2_with fail
    have K1 := Events_same _ _ _ _ _ es w1 HALF1 E1.out
    refine K1.mono ?_
    rintro e w2 ⟨rfl, v2⟩
    have E2 : Hid _ := E1.out.up v2
    have F2 : Hid _ := F1.out.up v2
    have J2 : Hid _ := J1.out.up v2
    have U2 : Hid _ := Dk.up_call U1.out v2
    have HF2 : Hid _ := HF.out.up v2
    clear K1 v2 E1 F1 J1 U1 HALF1 HF
    go_wp2_with fail
    have K2 := Events_same _ _ _ _ _ es1 w2 HF2.out F2.out
    refine K2.mono ?_
    rintro e w3 ⟨rfl, v3⟩
    have E3 : Hid _ := E2.out.up v3
    have F3 : Hid _ := F2.out.up v3
    have J3 : Hid _ := J2.out.up v3
    have U3 : Hid _ := Dk.up_call U2.out v3
    clear K2 v3 E2 F2 J2 U2 HF2
    go_wp2_with fail
    have KK := Keep_any J3.out (by omega)
    refine KK.mono ?_
    rintro e w4 ⟨v, rfl, s4⟩
    obtain ⟨Ak, Ck, rfl, q4⟩ := s4.asEvs (e := 25) (v := v) (n := (Dk.keepL (es ++ es1)).length) (xs := Dk.keepL (es ++ es1)) (by simp) rfl (Dk.keepL_ok HA.out)
    have hkn : (Dk.keepL (es ++ es1)).length ≤ 3000000 := Nat.le_trans (Dk.keepL_len _) (by have := HLn.out; omega)
    have HKK : Hid (Dk.keepL (Dk.keepL (es ++ es1)) = Dk.keepL (es ++ es1)) := Dk.keepL_keepL _
    have HRK : Hid (Dk.tellL Dk.Ev.runs (Dk.keepL (es ++ es1)) = Dk.tellL Dk.Ev.runs (es ++ es1)) := Dk.runs_keepL _
    have HKo : Hid (∀ e ∈ Dk.keepL (es ++ es1), e.ok) := Dk.keepL_ok HA.out
    have E4 : Hid _ := E3.out.up s4.out
    have F4 : Hid _ := F3.out.up s4.out
    have J4 : Hid _ := J3.out.up s4.out
    have G4 : Hid _ := q4
    have U4 : Hid _ := Dk.up_call U3.out s4.out
    clear KK s4 E3 F3 J3 U3 q4
    generalize Dk.keepL (es ++ es1) = ks at *
    obtain ⟨n, hn⟩ : ∃ n, n = ks.length := ⟨_, rfl⟩
    rw [← hn] at G4 hkn ⊢
    have HN : Hid (ks.length = n) := hn.symm
    clear hn
    go_wp2_with fail
    refine (awake_any _).mono ?_
    rintro e w5 ⟨rfl, v5⟩
    have E5 : Hid _ := E4.out.up v5
    have F5 : Hid _ := F4.out.up v5
    have J5 : Hid _ := J4.out.up v5
    have G5 : Hid _ := G4.out.up v5
    have U5 : Hid _ := Dk.up_call U4.out v5
    clear v5 E4 F4 J4 G4 U4
    go_wp2_with fail
    refine (Ready_any J5.out (by omega)).mono ?_
    rintro e w6 ⟨v6, rfl, s6⟩
    rw [HR.out] at s6
    have E6 : Hid _ := E5.out.up s6.out
    have F6 : Hid _ := F5.out.up s6.out
    have T6 : Hid _ := s6
    clear s6 E5 F5
    go_wp2_with fail
    refine (Ready_any E6.out (by omega)).mono ?_
    rintro e w7 ⟨v7, rfl, s7⟩
    have s8 := Dk.Sep.onto T6.out s7
    have F7 : Hid _ := F6.out.up s7.out
    have T7 : Hid _ := s8
    clear s7 s8 E6 F6 T6
    go_wp2_with fail
    refine (Ready_any F7.out (by omega)).mono ?_
    rintro e w8 ⟨v8, rfl, s8⟩
    obtain ⟨A8, C8, rfl, q8⟩ := s8.asInts (e := 3) (v := v8) (xs := Dk.tellL Dk.Ev.runs es1) (by simp) rfl HRo.out.2
    have s9 := Dk.Sep.below T7.out s8.out
    have hr1 := HRl.out.1
    have hr2 := HRl.out.2
    obtain ⟨v9, w9, r9, t9⟩ := Dk.Sep.appendIs (us1 := []) KI s9 q8 (by unfold maxLen; omega) (by omega)
    have J9 : Hid _ := J5.out.up t9.out
    have G9 : Hid _ := G5.out.up t9.out
    have U9 : Hid _ := Dk.up_call U5.out t9.out
    have hlr : (Dk.tellL Dk.Ev.runs es).length + (Dk.tellL Dk.Ev.runs es1).length = (Dk.tellL Dk.Ev.runs es ++ Dk.tellL Dk.Ev.runs es1).length := by rw [List.length_append]
    rw [hlr] at t9
    have HRR : Hid (∀ x ∈ Dk.tellL Dk.Ev.runs es ++ Dk.tellL Dk.Ev.runs es1, Dk.i64 x) := fun x hx => (List.mem_append.1 hx).elim (HRo.out.1 x) (HRo.out.2 x)
    obtain ⟨A6, C6, rfl, p6⟩ := t9.asInts (e := 3) (v := v6) (xs := Dk.tellL Dk.Ev.runs es ++ Dk.tellL Dk.Ev.runs es1) (by simp) rfl HRR.out
    obtain ⟨A9, C9, rfl, p9⟩ := t9.asInts (e := 3) (v := v9) (xs := Dk.tellL Dk.Ev.runs es ++ Dk.tellL Dk.Ev.runs es1) (by simp) rfl HRR.out
    have KI1 := Ints_same _ _ _ _ _ _ w9 p6 p9
    clear s8 s9 q8 t9 p6 p9 T7 F7 J5 G5 U5 hr1 hr2 hlr HRl
    generalize (Dk.tellL Dk.Ev.runs es1).length = nr1 at *
    generalize Dk.tellL Dk.Ev.runs es ++ Dk.tellL Dk.Ev.runs es1 = rr at *
    generalize rr.length = nrr at *
    go_wp2_with (at_builtin; refine wpList_append_guard _ rfl _ _ _ _ rfl _ _ rfl rfl _ _ r9 ?_)
    refine KI1.mono ?_
    rintro e wa ⟨rfl, va⟩
    have Ja : Hid _ := J9.out.up va
    have Ga : Hid _ := G9.out.up va
    have Ua : Hid _ := Dk.up_call U9.out va
    clear KI1 va J9 G9 U9 r9
    go_wp2_with fail
    refine (Keep_any Ga.out (by omega)).mono ?_
    rintro e wb ⟨vb, rfl, sb⟩
    rw [HKK.out] at sb
    obtain ⟨Ab, Cb, rfl, qb⟩ := sb.asEvs (e := 25) (v := vb) (xs := ks) (by simp) rfl HKo.out
    rw [HN.out] at qb ⊢
    have KE1 := Events_same _ _ _ _ _ ks wb qb (Ga.out.up sb.out)
    have Jb : Hid _ := Ja.out.up sb.out
    have Gb : Hid _ := Ga.out.up sb.out
    have Ub : Hid _ := Dk.up_call Ua.out sb.out
    clear sb qb Ja Ga Ua
    go_wp2_with fail
    refine KE1.mono ?_
    rintro e wc ⟨rfl, vc⟩
    have Jc : Hid _ := Jb.out.up vc
    have Gc : Hid _ := Gb.out.up vc
    have Uc : Hid _ := Dk.up_call Ub.out vc
    clear KE1 vc Jb Gb Ub
    go_wp2_with fail
    refine (Ready_any Gc.out (by omega)).mono ?_
    rintro e wd ⟨vd, rfl, sd⟩
    rw [HRK.out, HR.out] at sd
    have Jd : Hid _ := Jc.out.up sd.out
    have Ud : Hid _ := Dk.up_call Uc.out sd.out
    have Sd : Hid _ := sd
    clear sd Jc Gc Uc
    go_wp2_with fail
    refine (Ready_any Jd.out (by omega)).mono ?_
    rintro e we ⟨ve, rfl, se⟩
    rw [HR.out] at se
    have tf := Dk.Sep.onto Sd.out se
    obtain ⟨Ad, Cd, rfl, pd⟩ := tf.asInts (e := 3) (v := vd) (xs := rr) (by simp) rfl HRR.out
    obtain ⟨Ae, Ce, rfl, pe⟩ := tf.asInts (e := 3) (v := ve) (xs := rr) (by simp) rfl HRR.out
    have KI2 := Ints_same _ _ _ _ _ rr we pd pe
    have Ue : Hid _ := Dk.up_call Ud.out se.out
    clear tf pd pe se Sd Jd Ud
    go_wp2_with fail
    refine KI2.mono ?_
    rintro e wf ⟨rfl, vf⟩
    go_wp2
    go_ret
    exact ⟨rfl, Dk.up_call Ue.out vf⟩
  · obtain ⟨LL, eLL⟩ : ∃ LL, LL = L + L1 := ⟨_, rfl⟩
    have HLL : Hid _ := eLL
    have hwL : IntKind.i64.wrap ((L : Int) + (L1 : Int)) = (LL : Int) := by subst eLL; go_bits; omega
    have yL : ((LL : Int) != (LL : Int)) = false := by simp
    obtain ⟨TB, eTB⟩ : ∃ TB : Option Addr, (if D = L then some ⟨g, 0, none⟩ else some ⟨g, L * 3, none⟩) = TB := ⟨_, rfl⟩
    have hlen : es.length = L := E1.out.len
    have HALF1 : Dk.SlE w1.heap.size w1 (some ⟨g, 0, none⟩) L D es := by
      have h := J1.out.take (k := L) (by omega)
      rw [List.take_left' hlen] at h
      exact h
    have HF : Hid (Dk.SlE w1.heap.size w1 TB L1 (D - L) es1) := by
      rw [← eTB]
      have h := J1.out.drop (k := L) (by omega)
      rw [List.drop_left' hlen, show L + L1 - L = L1 by omega, Nat.zero_add] at h
      by_cases hd : D = L
      · rw [if_pos hd]
        have h1 : L1 = 0 := by omega
        subst h1
        exact Dk.SlE.none_ (List.eq_nil_of_length_eq_zero F1.out.len) (by unfold maxLen; omega)
      · rw [if_neg hd]
        exact h
    rw [← eLL] at hD J1 HLn hL ⊢
    have hLD : ¬ D < L := by omega
    have hLLi : (L : Int) ≤ (LL : Int) := by omega
    have hLl : L ≤ LL := by omega
    have hLL1 : LL - L = L1 := by omega
    have hL1l : L1 ≤ LL := by omega
    clear s1 q1 hlen eLL
    go_wp2_with fail
    have K1 := Events_same _ _ _ _ _ es w1 HALF1 E1.out
    refine K1.mono ?_
    rintro e w2 ⟨rfl, v2⟩
    have E2 : Hid _ := E1.out.up v2
    have F2 : Hid _ := F1.out.up v2
    have J2 : Hid _ := J1.out.up v2
    have U2 : Hid _ := Dk.up_call U1.out v2
    have HF2 : Hid _ := HF.out.up v2
    clear K1 v2 E1 F1 J1 U1 HALF1 HF
    go_wp2_with fail
    have K2 := Events_same _ _ _ _ _ es1 w2 HF2.out F2.out
    refine K2.mono ?_
    rintro e w3 ⟨rfl, v3⟩
    have E3 : Hid _ := E2.out.up v3
    have F3 : Hid _ := F2.out.up v3
    have J3 : Hid _ := J2.out.up v3
    have U3 : Hid _ := Dk.up_call U2.out v3
    clear K2 v3 E2 F2 J2 U2 HF2
    go_wp2_with fail
    have KK := Keep_any J3.out (by omega)
    refine KK.mono ?_
    rintro e w4 ⟨v, rfl, s4⟩
    obtain ⟨Ak, Ck, rfl, q4⟩ := s4.asEvs (e := 25) (v := v) (n := (Dk.keepL (es ++ es1)).length) (xs := Dk.keepL (es ++ es1)) (by simp) rfl (Dk.keepL_ok HA.out)
    have hkn : (Dk.keepL (es ++ es1)).length ≤ 3000000 := Nat.le_trans (Dk.keepL_len _) (by have := HLn.out; omega)
    have HKK : Hid (Dk.keepL (Dk.keepL (es ++ es1)) = Dk.keepL (es ++ es1)) := Dk.keepL_keepL _
    have HRK : Hid (Dk.tellL Dk.Ev.runs (Dk.keepL (es ++ es1)) = Dk.tellL Dk.Ev.runs (es ++ es1)) := Dk.runs_keepL _
    have HKo : Hid (∀ e ∈ Dk.keepL (es ++ es1), e.ok) := Dk.keepL_ok HA.out
    have E4 : Hid _ := E3.out.up s4.out
    have F4 : Hid _ := F3.out.up s4.out
    have J4 : Hid _ := J3.out.up s4.out
    have G4 : Hid _ := q4
    have U4 : Hid _ := Dk.up_call U3.out s4.out
    clear KK s4 E3 F3 J3 U3 q4
    generalize Dk.keepL (es ++ es1) = ks at *
    obtain ⟨n, hn⟩ : ∃ n, n = ks.length := ⟨_, rfl⟩
    rw [← hn] at G4 hkn ⊢
    have HN : Hid (ks.length = n) := hn.symm
    clear hn
    go_wp2_with fail
    refine (awake_any _).mono ?_
    rintro e w5 ⟨rfl, v5⟩
    have E5 : Hid _ := E4.out.up v5
    have F5 : Hid _ := F4.out.up v5
    have J5 : Hid _ := J4.out.up v5
    have G5 : Hid _ := G4.out.up v5
    have U5 : Hid _ := Dk.up_call U4.out v5
    clear v5 E4 F4 J4 G4 U4
    go_wp2_with fail
    refine (Ready_any J5.out (by omega)).mono ?_
    rintro e w6 ⟨v6, rfl, s6⟩
    rw [HR.out] at s6
    have E6 : Hid _ := E5.out.up s6.out
    have F6 : Hid _ := F5.out.up s6.out
    have T6 : Hid _ := s6
    clear s6 E5 F5
    go_wp2_with fail
    refine (Ready_any E6.out (by omega)).mono ?_
    rintro e w7 ⟨v7, rfl, s7⟩
    have s8 := Dk.Sep.onto T6.out s7
    have F7 : Hid _ := F6.out.up s7.out
    have T7 : Hid _ := s8
    clear s7 s8 E6 F6 T6
    go_wp2_with fail
    refine (Ready_any F7.out (by omega)).mono ?_
    rintro e w8 ⟨v8, rfl, s8⟩
    obtain ⟨A8, C8, rfl, q8⟩ := s8.asInts (e := 3) (v := v8) (xs := Dk.tellL Dk.Ev.runs es1) (by simp) rfl HRo.out.2
    have s9 := Dk.Sep.below T7.out s8.out
    have hr1 := HRl.out.1
    have hr2 := HRl.out.2
    obtain ⟨v9, w9, r9, t9⟩ := Dk.Sep.appendIs (us1 := []) KI s9 q8 (by unfold maxLen; omega) (by omega)
    have J9 : Hid _ := J5.out.up t9.out
    have G9 : Hid _ := G5.out.up t9.out
    have U9 : Hid _ := Dk.up_call U5.out t9.out
    have hlr : (Dk.tellL Dk.Ev.runs es).length + (Dk.tellL Dk.Ev.runs es1).length = (Dk.tellL Dk.Ev.runs es ++ Dk.tellL Dk.Ev.runs es1).length := by rw [List.length_append]
    rw [hlr] at t9
    have HRR : Hid (∀ x ∈ Dk.tellL Dk.Ev.runs es ++ Dk.tellL Dk.Ev.runs es1, Dk.i64 x) := fun x hx => (List.mem_append.1 hx).elim (HRo.out.1 x) (HRo.out.2 x)
    obtain ⟨A6, C6, rfl, p6⟩ := t9.asInts (e := 3) (v := v6) (xs := Dk.tellL Dk.Ev.runs es ++ Dk.tellL Dk.Ev.runs es1) (by simp) rfl HRR.out
    obtain ⟨A9, C9, rfl, p9⟩ := t9.asInts (e := 3) (v := v9) (xs := Dk.tellL Dk.Ev.runs es ++ Dk.tellL Dk.Ev.runs es1) (by simp) rfl HRR.out
    have KI1 := Ints_same _ _ _ _ _ _ w9 p6 p9
    clear s8 s9 q8 t9 p6 p9 T7 F7 J5 G5 U5 hr1 hr2 hlr HRl
    generalize (Dk.tellL Dk.Ev.runs es1).length = nr1 at *
    generalize Dk.tellL Dk.Ev.runs es ++ Dk.tellL Dk.Ev.runs es1 = rr at *
    generalize rr.length = nrr at *
    go_wp2_with (at_builtin; refine wpList_append_guard _ rfl _ _ _ _ rfl _ _ rfl rfl _ _ r9 ?_)
    refine KI1.mono ?_
    rintro e wa ⟨rfl, va⟩
    have Ja : Hid _ := J9.out.up va
    have Ga : Hid _ := G9.out.up va
    have Ua : Hid _ := Dk.up_call U9.out va
    clear KI1 va J9 G9 U9 r9
    go_wp2_with fail
    refine (Keep_any Ga.out (by omega)).mono ?_
    rintro e wb ⟨vb, rfl, sb⟩
    rw [HKK.out] at sb
    obtain ⟨Ab, Cb, rfl, qb⟩ := sb.asEvs (e := 25) (v := vb) (xs := ks) (by simp) rfl HKo.out
    rw [HN.out] at qb ⊢
    have KE1 := Events_same _ _ _ _ _ ks wb qb (Ga.out.up sb.out)
    have Jb : Hid _ := Ja.out.up sb.out
    have Gb : Hid _ := Ga.out.up sb.out
    have Ub : Hid _ := Dk.up_call Ua.out sb.out
    clear sb qb Ja Ga Ua
    go_wp2_with fail
    refine KE1.mono ?_
    rintro e wc ⟨rfl, vc⟩
    have Jc : Hid _ := Jb.out.up vc
    have Gc : Hid _ := Gb.out.up vc
    have Uc : Hid _ := Dk.up_call Ub.out vc
    clear KE1 vc Jb Gb Ub
    go_wp2_with fail
    refine (Ready_any Gc.out (by omega)).mono ?_
    rintro e wd ⟨vd, rfl, sd⟩
    rw [HRK.out, HR.out] at sd
    have Jd : Hid _ := Jc.out.up sd.out
    have Ud : Hid _ := Dk.up_call Uc.out sd.out
    have Sd : Hid _ := sd
    clear sd Jc Gc Uc
    go_wp2_with fail
    refine (Ready_any Jd.out (by omega)).mono ?_
    rintro e we ⟨ve, rfl, se⟩
    rw [HR.out] at se
    have tf := Dk.Sep.onto Sd.out se
    obtain ⟨Ad, Cd, rfl, pd⟩ := tf.asInts (e := 3) (v := vd) (xs := rr) (by simp) rfl HRR.out
    obtain ⟨Ae, Ce, rfl, pe⟩ := tf.asInts (e := 3) (v := ve) (xs := rr) (by simp) rfl HRR.out
    have KI2 := Ints_same _ _ _ _ _ rr we pd pe
    have Ue : Hid _ := Dk.up_call Ud.out se.out
    clear tf pd pe se Sd Jd Ud
    go_wp2_with fail
    refine KI2.mono ?_
    rintro e wf ⟨rfl, vf⟩
    go_wp2
    go_ret
    exact ⟨rfl, Dk.up_call Ue.out vf⟩
end Go.Proofs.Ytogddcbggenjmaa
