/- The document's answer: which one of a row; is it there; who waits. -/
import Derived.Test.YtjkdaankjondjaaGs
import Derived.Test.YtjkdaankjondjaaDx
import Derived.Test.YtjkdaankjondjaaQz
import Derived.OwnWalk
namespace Go.Proofs.Ytjkdaankjondjaa
set_option linter.unusedSimpArgs false
set_option linter.unusedVariables false
set_option linter.unnecessarySimpa false
open Go.RowKit

set_option maxRecDepth 100000 in
theorem pick_any (c : Int) (n : Nat) (hc : Dk.i64 c) (hn : 0 < n) (hl : n ≤ 1000) (w : World) :
    Calls Try.prog 16 #[.int .i64 c, .int .i64 (n : Int)] w fun e w' => e = .returned (.int .i64 (Dk.at_ c n : Nat)) ∧ w' = w := by
  obtain ⟨h1, h2⟩ := hc
  have tq := Dk.tmod_le c hn
  have tneg := Dk.at_neg c hn
  have tpos := Dk.at_pos c hn
  obtain ⟨m, em⟩ : ∃ m, c.tmod (n : Int) = m := ⟨_, rfl⟩
  rw [em] at tq tneg tpos
  generalize Dk.at_ c n = a at *
  obtain ⟨q1, q2⟩ := tq
  have hn1 : (n : Int) ≠ 0 := by omega
  have hn2 : ¬ n = 0 := by omega
  by_cases hm : m < 0
  · have hma := tneg hm
    have zm : decide (m < 0) = true := decide_eq_true hm
    clear tneg tpos
    go_enter Try.func16, Try.ntmps16
    go_wp2_with fail
    go_ret
    exact ⟨rfl, rfl⟩
  · have hma := tpos hm
    subst hma
    have zm : decide ((a : Int) < 0) = false := decide_eq_false (by omega)
    clear tneg tpos
    go_enter Try.func16, Try.ntmps16
    go_wp2_with fail
    go_ret
    exact ⟨rfl, rfl⟩
set_option maxRecDepth 100000 in
theorem is_no (n : Int) (size : Nat) (h : n < 0 ∨ (size : Int) ≤ n) (w : World) :
    Calls Try.prog 24 #[.int .i64 n, .int .i64 (size : Int)] w fun e w' => e = .returned (.bool false) ∧ w' = w := by
  by_cases h0 : n < 0
  · have z0 : decide (0 ≤ n) = false := decide_eq_false (by omega)
    have z1 : decide (n ≥ 0) = false := decide_eq_false (by omega)
    go_enter Try.func24, Try.ntmps24
    go_wp2_with fail
    go_ret
    exact ⟨rfl, rfl⟩
  · have z0 : decide (0 ≤ n) = true := decide_eq_true (by omega)
    have z1 : decide (n ≥ 0) = true := decide_eq_true (by omega)
    have z2 : decide (n < (size : Int)) = false := decide_eq_false (by omega)
    go_enter Try.func24, Try.ntmps24
    go_wp2_with fail
    go_ret
    exact ⟨rfl, rfl⟩
set_option maxRecDepth 100000 in
theorem is_yes (n size : Nat) (h : n < size) (w : World) :
    Calls Try.prog 24 #[.int .i64 (n : Int), .int .i64 (size : Int)] w fun e w' => e = .returned (.bool true) ∧ w' = w := by
  have z2 : decide ((n : Int) < (size : Int)) = true := decide_eq_true (by omega)
  go_enter Try.func24, Try.ntmps24
  go_wp2_with fail
  go_ret
  exact ⟨rfl, rfl⟩

theorem any_next {α : Type} (p : α → Bool) (l : List α) (i : Nat) (x : α) (h : l[i]? = some x) : (l.take (i + 1)).any p = ((l.take i).any p || p x) := by
  rw [List.take_add_one, List.any_append, h]
  simp

section
variable {W w : World} {bm : Nat} {V : Dk.Vs} {S : Dk.St} {us : List Dk.Thing}
/-- A row of the model's rows: its value, and what In says of it. -/
theorem In_inner {ts : List Dk.Thing} {v : Value} {vs : List Value} {xss : List (List Int)} (h : Dk.Sep W w ts) (ht : Dk.nestOf 22 3 1 Dk.is v vs xss ∈ ts) (hx : ∀ l ∈ xss, ∀ x ∈ l, Dk.i64 x) (i : Nat) (hi : i < xss.length) (x : Int) :
    ∃ g C A L C', v = .slice (some ⟨g, 0, none⟩) xss.length C ∧ xss.length ≤ C ∧ C ≤ maxLen ∧ w.cell? ⟨g, i, none⟩ = some (.slice A L C') ∧ Calls Try.prog 41 #[.slice A L C', .int .i64 x] w fun e w' => e = .returned (.bool ((xss.getD i []).contains x)) ∧ w' = w := by
  obtain ⟨g, C, u, xs, ev, h1, h2, hu, hxs, hc, hf, ho, _⟩ := h.inner ht hi
  have hm : xs ∈ xss := List.mem_of_getElem? hxs
  obtain ⟨A, C', eu, hs⟩ := Dk.owns_ints ho (hx xs hm)
  subst eu
  refine ⟨g, C, A, _, C', ev, h1, h2, hc, ?_⟩
  have e : xss.getD i [] = xs := by simp [List.getD, hxs]
  rw [e]
  exact In_any A _ C' xs x w hs

set_option maxRecDepth 100000 in
set_option maxHeartbeats 2000000 in
theorem waits_m (h : Dk.Sep W w (Dk.mdl bm V S ++ us)) {k : Nat} (ok : Dk.Ok S k) (x : Int) :
    Calls Try.prog 25 #[.pointer (some ⟨bm, 0, none⟩), .int .i64 x] w fun e w' => e = .returned (.bool (S.waits x)) ∧ w' = w := by
  have hb := Dk.Mdl.head h
  obtain ⟨A2, C2, e2, q2, m2⟩ := h.nestLen (eh := 22) (e := 3) (s := 1) (f := Dk.is) (v := V.v2) (vs := V.hv) (xss := S.wait) (by simp [Dk.mdl])
  obtain ⟨A5, C5, e5, q5, m5⟩ := h.nestLen (eh := 22) (e := 3) (s := 1) (f := Dk.is) (v := V.v5) (vs := V.dv) (xss := S.downs) (by simp [Dk.mdl])
  obtain ⟨A3, C3, e3, q3, m3⟩ := h.nestLen (eh := 38) (e := 40) (s := 2) (f := Dk.pr2) (v := V.v3) (vs := V.cv) (xss := S.conds) (by simp [Dk.mdl])
  unfold maxLen at m2 m3 m5
  have c2 : w.cell? ⟨bm, 2, none⟩ = some (.slice A2 S.wait.length C2) := by rw [← e2]; exact hb.cell 2
  have c5 : w.cell? ⟨bm, 5, none⟩ = some (.slice A5 S.downs.length C5) := by rw [← e5]; exact hb.cell 5
  have c3 : w.cell? ⟨bm, 3, none⟩ = some (.slice A3 S.conds.length C3) := by rw [← e3]; exact hb.cell 3
  have HH : Hid (Dk.Sep W w (Dk.mdl bm V S ++ us)) := h
  have HO : Hid (Dk.Ok S k) := ok
  have E2 : Hid (V.v2 = .slice A2 S.wait.length C2) := e2
  have E3 : Hid (V.v3 = .slice A3 S.conds.length C3) := e3
  have E5 : Hid (V.v5 = .slice A5 S.downs.length C5) := e5
  clear hb h ok e2 e3 e5
  go_enter Try.func25, Try.ntmps25
  go_wp2_with fail
  go_loopw [5, 6] (fun v i w' => ∃ (j : Nat) (b : Bool), j ≤ S.wait.length ∧ i = .int .i64 j ∧ v = .bool b ∧ Hid (b = (S.wait.take j).any (·.contains x)) ∧ Hid (w' = w)) (fun v i w' => S.wait.length - (intOf i).toNat)
  case atStart => exact ⟨0, false, Nat.zero_le _, rfl, rfl, rfl, rfl⟩
  case round =>
    obtain ⟨j, b, hj, rfl, rfl, HB, HW⟩ := hrel
    have ew := HW.out
    subst wr
    by_cases hlt : j < S.wait.length
    · have z1 : decide ((j : Int) < (S.wait.length : Int)) = true := decide_eq_true (by omega)
      have hjl : (j : Int) < (S.wait.length : Int) := by omega
      obtain ⟨g, C, A, L, C', ev, _, _, hc, K⟩ := In_inner HH.out (v := V.v2) (vs := V.hv) (xss := S.wait) (by simp [Dk.mdl]) (fun l hl => HO.out.waits l hl) j hlt x
      have e2 := E2.out.symm.trans ev
      injection e2 with eA _ eC
      subst eA eC
      have hn := any_next (·.contains x) S.wait j (S.wait.getD j []) (by simp [List.getD, hlt])
      rw [← HB.out] at hn
      generalize (S.wait.getD j []).contains x = y at *
      have HN : Hid ((S.wait.take (j + 1)).any (·.contains x) = (b || y)) := hn
      clear hn ev
      generalize S.wait.length = n at *
      cases b
      · go_wp2_with fail
        refine K.mono ?_
        rintro e w' ⟨rfl, hw'⟩
        subst w'
        clear K
        go_wp2_with fail
        go_roundw
        case rel => exact ⟨j + 1, y, by omega, by go_num, rfl, HN.out.symm, True.intro⟩
        case measure => simp [intOf]; omega
      · go_wp2_with fail
        go_roundw
        case rel => exact ⟨j + 1, true, by omega, by go_num, rfl, HN.out.symm, True.intro⟩
        case measure => simp [intOf]; omega
    · have z1 : decide ((j : Int) < (S.wait.length : Int)) = false := decide_eq_false (by omega)
      have hbA : b = S.wait.any (·.contains x) := by rw [HB.out, List.take_of_length_le (by omega)]
      have HA : Hid (b = S.wait.any (·.contains x)) := hbA
      clear hbA HB E2
      go_wp2_with fail
      go_loopw [5, 7] (fun v i w' => ∃ (j : Nat) (b' : Bool), j ≤ S.downs.length ∧ i = .int .i64 j ∧ v = .bool b' ∧ Hid (b' = (b || (S.downs.take j).any (·.contains x))) ∧ Hid (w' = w)) (fun v i w' => S.downs.length - (intOf i).toNat)
      case atStart => exact ⟨0, b, Nat.zero_le _, rfl, rfl, (Bool.or_false b).symm, rfl⟩
      case round =>
        obtain ⟨j', b', hj', rfl, rfl, HB, HW⟩ := hrel
        have ew := HW.out
        subst wr
        by_cases hlt' : j' < S.downs.length
        · have z1' : decide ((j' : Int) < (S.downs.length : Int)) = true := decide_eq_true (by omega)
          have hjl : (j' : Int) < (S.downs.length : Int) := by omega
          obtain ⟨g, C, A, L, C', ev, _, _, hc, K⟩ := In_inner HH.out (v := V.v5) (vs := V.dv) (xss := S.downs) (by simp [Dk.mdl]) (fun l hl => HO.out.downsI l hl) j' hlt' x
          have e5 := E5.out.symm.trans ev
          injection e5 with eA _ eC
          subst eA eC
          have hn := any_next (·.contains x) S.downs j' (S.downs.getD j' []) (by simp [List.getD, hlt'])
          have hn' : (b || (S.downs.take (j' + 1)).any (·.contains x)) = (b' || (S.downs.getD j' []).contains x) := by rw [hn, HB.out, Bool.or_assoc]
          generalize (S.downs.getD j' []).contains x = y at *
          have HN : Hid ((b || (S.downs.take (j' + 1)).any (·.contains x)) = (b' || y)) := hn'
          clear hn hn' ev
          generalize S.downs.length = n at *
          cases b'
          · go_wp2_with fail
            refine K.mono ?_
            rintro e w' ⟨rfl, hw'⟩
            subst w'
            clear K
            go_wp2_with fail
            go_roundw
            case rel => exact ⟨j' + 1, y, by omega, by go_num, rfl, HN.out.symm, True.intro⟩
            case measure => simp [intOf]; omega
          · go_wp2_with fail
            go_roundw
            case rel => exact ⟨j' + 1, true, by omega, by go_num, rfl, HN.out.symm, True.intro⟩
            case measure => simp [intOf]; omega
        · have z1' : decide ((j' : Int) < (S.downs.length : Int)) = false := decide_eq_false (by omega)
          have hbA : b' = (S.wait.any (·.contains x) || S.downs.any (·.contains x)) := by rw [HB.out, HA.out, List.take_of_length_le (by omega)]
          have HA' : Hid (b' = (S.wait.any (·.contains x) || S.downs.any (·.contains x))) := hbA
          clear hbA HB E5 HA
          go_wp2_with fail
          go_loopw [5, 8] (fun v i w' => ∃ (j : Nat) (b : Bool), j ≤ S.conds.length ∧ i = .int .i64 j ∧ v = .bool b ∧ Hid (b = (b' || (S.conds.take j).any (fun l => l.any (fun p => p.1 == x)))) ∧ Hid (w' = w)) (fun v i w' => S.conds.length - (intOf i).toNat)
          case atStart => exact ⟨0, b', Nat.zero_le _, rfl, rfl, (Bool.or_false b').symm, rfl⟩
          case round =>
            obtain ⟨i, b3, hi, rfl, rfl, HB, HW⟩ := hrel
            have ew := HW.out
            subst wr
            by_cases hlt3 : i < S.conds.length
            · have z3 : decide ((i : Int) < (S.conds.length : Int)) = true := decide_eq_true (by omega)
              have hil : (i : Int) < (S.conds.length : Int) := by omega
              obtain ⟨g, C, u, l, ev, _, _, hu, hl, hc, hf, ho, _⟩ := HH.out.inner (eh := 38) (e := 40) (s := 2) (f := Dk.pr2) (v := V.v3) (vs := V.cv) (xss := S.conds) (by simp [Dk.mdl]) hlt3
              have e3 := E3.out.symm.trans ev
              injection e3 with eA _ eC
              subst eA eC
              obtain ⟨A, C', eu, hcap, hmax⟩ := Dk.owns_slice ho
              subst eu
              unfold maxLen at hmax
              have hn := any_next (fun l : List (Int × Int) => l.any (fun p => p.1 == x)) S.conds i l hl
              have hn' : (b' || (S.conds.take (i + 1)).any (fun l => l.any (fun p => p.1 == x))) = (b3 || l.any (fun p => p.1 == x)) := by rw [hn, HB.out, Bool.or_assoc]
              have HN : Hid ((b' || (S.conds.take (i + 1)).any (fun l => l.any (fun p => p.1 == x))) = (b3 || l.any (fun p => p.1 == x))) := hn'
              have HR : Hid (w.ownsRow W.heap.size 40 2 (.slice A l.length C') l.length (Dk.pr2 l)) := ho
              clear hn hn' ev ho hl hu HB
              generalize S.conds.length = n at *
              go_wp2_with fail
              go_loopw [5, 9] (fun v q w' => ∃ (j : Nat) (b : Bool), j ≤ l.length ∧ q = .int .i64 j ∧ v = .bool b ∧ Hid (b = (b3 || (l.take j).any (fun p => p.1 == x))) ∧ Hid (w' = w)) (fun v q w' => l.length - (intOf q).toNat)
              case atStart => exact ⟨0, b3, Nat.zero_le _, rfl, rfl, (Bool.or_false b3).symm, rfl⟩
              case round =>
                obtain ⟨j4, b4, hj4, rfl, rfl, HB4, HW4⟩ := hrel
                have ew := HW4.out
                subst wr
                by_cases hlt4 : j4 < l.length
                · have z4 : decide ((j4 : Int) < (l.length : Int)) = true := decide_eq_true (by omega)
                  have hjl4 : (j4 : Int) < (l.length : Int) := by omega
                  obtain ⟨_, ⟨_, h0⟩ | ⟨g4, cap4, cur4, e4, _⟩⟩ := id HR.out
                  · omega
                  injection e4 with eA4 _ eC4
                  subst eA4 eC4
                  have hcs := (HR.out.cells (g := g4) rfl) _ _ (Dk.pr2_get l j4 hlt4).1
                  rw [Addr.add_lit, Nat.zero_add] at hcs
                  have hn := any_next (fun p : Int × Int => p.1 == x) l j4 (l.getD j4 (0, 0)) (by simp [List.getD, hlt4])
                  have hn' : (b3 || (l.take (j4 + 1)).any (fun p => p.1 == x)) = (b4 || (l.getD j4 (0, 0)).1 == x) := by rw [hn, HB4.out, Bool.or_assoc]
                  generalize (l.getD j4 (0, 0)).1 = y at *
                  have HN4 : Hid ((b3 || (l.take (j4 + 1)).any (fun p => p.1 == x)) = (b4 || y == x)) := hn'
                  clear hn hn' HB4
                  generalize l.length = nl at *
                  cases b4
                  · by_cases hyx : y = x
                    · subst hyx
                      have HT : Hid ((b3 || (l.take (j4 + 1)).any (fun p => p.1 == y)) = true) := HN4.out.trans (by simp)
                      go_wp2_with fail
                      go_roundw
                      case rel => exact ⟨j4 + 1, true, by omega, by go_num, rfl, HT.out.symm, True.intro⟩
                      case measure => simp [intOf]; omega
                    · have HT : Hid ((b3 || (l.take (j4 + 1)).any (fun p => p.1 == x)) = false) := HN4.out.trans (by simpa using hyx)
                      have z5 : decide (y = x) = false := decide_eq_false hyx
                      have z6 : (y == x) = false := by simpa using hyx
                      go_wp2_with fail
                      go_roundw
                      case rel => exact ⟨j4 + 1, false, by omega, by go_num, rfl, HT.out.symm, True.intro⟩
                      case measure => simp [intOf]; omega
                  · go_wp2_with fail
                    go_roundw
                    case rel => exact ⟨j4 + 1, true, by omega, by go_num, rfl, HN4.out.symm, True.intro⟩
                    case measure => simp [intOf]; omega
                · have z4 : decide ((j4 : Int) < (l.length : Int)) = false := decide_eq_false (by omega)
                  have hb4 : b4 = (b3 || l.any (fun p => p.1 == x)) := by rw [HB4.out, List.take_of_length_le (by omega)]
                  have HF : Hid (b4 = (b' || (S.conds.take (i + 1)).any (fun l => l.any (fun p => p.1 == x)))) := hb4.trans HN.out.symm
                  clear HB4 hb4
                  go_wp2_with fail
                  go_roundw
                  case rel => exact ⟨i + 1, b4, by omega, by go_num, rfl, HF.out, True.intro⟩
                  case measure => simp [intOf]; omega
            · have z3 : decide ((i : Int) < (S.conds.length : Int)) = false := decide_eq_false (by omega)
              have hbF : b3 = S.waits x := by
                rw [HB.out, HA'.out, List.take_of_length_le (by omega)]
                rfl
              have HF : Hid (b3 = S.waits x) := hbF
              clear hbF HB HA'
              go_wp2_with fail
              go_ret
              exact ⟨congrArg (fun z => Ending.returned (Value.bool z)) HF.out, rfl⟩
end
end Go.Proofs.Ytjkdaankjondjaa
