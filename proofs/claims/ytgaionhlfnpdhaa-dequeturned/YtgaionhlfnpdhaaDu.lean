/- The walk of the statement on a row that is filled and emptied. -/
import Derived.Test.YtgaionhlfnpdhaaDg
namespace Go.Proofs.Ytgaionhlfnpdhaa
set_option linter.unusedSimpArgs false
set_option linter.unusedVariables false
set_option linter.unnecessarySimpa false
open Go.RowKit

set_option maxRecDepth 100000 in
set_option maxHeartbeats 4000000 in
theorem DequeTurned_any (A : Option Addr) (L C : Nat) (xs : List Int) (f g : Bool) (w : World) (h : Dk.SlI w.heap.size w A L C xs) :
    Calls Try.prog 4 #[.slice A L C, .bool f, .bool g] w fun e w' => e = .returned (.bool true) ∧ Below w.heap.size w w' := by
  have hcap := h.cap
  have hmax := h.max
  unfold maxLen at hmax
  have HH : Hid _ := h
  clear h
  go_enter Try.func4, Try.ntmps4
  go_wp2_with fail
  refine (New_any w).mono ?_
  rintro e w1 ⟨rfl, h1, u1, z1⟩
  have t1 := (Two.begin h1 u1).empty
  obtain ⟨bd, ebd⟩ : ∃ bd, w.heap.size = bd := ⟨_, rfl⟩
  rw [ebd] at t1 ⊢
  have HEB : Hid _ := ebd
  clear h1 u1 z1 ebd
  go_wp2_with fail
  go_loopw [8, 9] (fun u i w' => ∃ (i0 : Nat) (zs : List Int) (A1 : Option Addr) (C1 : Nat), i0 ≤ L ∧ i0 ≤ 60 ∧ i = .int .i64 i0 ∧ u = .slice A1 zs.length C1 ∧ Two w bd w' (Dk.dir f zs) (.slice A1 zs.length C1) zs ∧ zs.length ≤ i0) (fun u i w' => L - (intOf i).toNat)
  case atStart => exact ⟨0, [], _, _, Nat.zero_le _, Nat.zero_le _, rfl, rfl, by cases f <;> exact t1, Nat.le_refl _⟩
  case round =>
    obtain ⟨i, zs, A1, C1, hi, hi6, rfl, rfl, HT, hz⟩ := hrel
    clear t1
    by_cases hc : i < L ∧ i < 60
    · obtain ⟨hlt, hl6⟩ := hc
      obtain ⟨b, o, rfl, hb, hc⟩ := HH.out.cells (by omega)
      obtain ⟨y, ey⟩ : ∃ y, xs.getD i 0 = y := ⟨_, rfl⟩
      have hy : Dk.i64 y := by
        have hlen := HH.out.len
        rw [← ey]
        exact HH.out.wf _ (by simp [List.getD, show i < xs.length by omega])
      have cf : ∀ w', Below w.heap.size w w' → w'.cell? ⟨b, o + i, none⟩ = some (.int .i64 y) := fun w' hB => by rw [hB.cell (by show b < w.heap.size; exact hb), ← ey]; exact hc i hlt
      have HC : Hid _ := cf
      have HY : Hid _ := hy
      have c1 := cf wr HT.out
      have y6 : decide ((i : Int) < 60) = true := by simp; omega
      clear hc ey hy cf
      cases hcz : zs.contains y
      · have hd := Dk.dir_has f zs y
        rw [hcz] at hd
        have K : Calls Try.prog (if f then 9 else 8) #[.pointer (some ⟨bd, 0, none⟩), .int .i64 y] wr fun e w' => e = .returned (.bool true) ∧ Two w bd w' (Dk.dir f (zs ++ [y])) (.slice A1 zs.length C1) zs := by
          have hdl := Dk.dir_len f zs
          cases f
          · exact Push_two HT y hd HY.out (by omega)
          · have e : Dk.dir true (zs ++ [y]) = y :: Dk.dir true zs := by simp [Dk.dir]
            rw [e]
            exact PushFront_two HT y hd HY.out (by omega)
        have K17 : ∀ w', Two w bd w' (Dk.dir f (zs ++ [y])) (.slice A1 zs.length C1) zs → Calls Try.prog 17 #[.slice A1 zs.length C1, .int .i64 y] w' fun e w'' => e = .returned (.bool false) ∧ w'' = w' := fun w' t => by
          obtain ⟨A3, C3, e3, s2⟩ := t.sli
          obtain ⟨rfl, rfl⟩ : A1 = A3 ∧ C1 = C3 := by simpa using e3
          have := In_any A1 zs.length C1 zs y w' s2
          rw [hcz] at this
          exact this
        have HK17 : Hid _ := K17
        clear hd hcz HT K17
        cases f
        · simp only [if_true, Bool.false_eq_true, if_false] at K
          go_wp2_with fail
          refine K.mono ?_
          rintro e w2 ⟨rfl, t2⟩
          have c2 := HC.out w2 t2.out
          have K17 := HK17.out w2 t2
          obtain ⟨A4, C4, w4, r4, t4⟩ := Append_two t2 y HY.out (by omega)
          clear K t2 c1 HK17
          go_wp2_with (first | (go_at_call 17; refine K17.mono ?_; rintro e w' ⟨rfl, hw'⟩; subst w') | (at_builtin; refine Lib.wpList_append_run _ rfl _ _ _ _ rfl _ _ rfl rfl _ _ r4 ?_))
          go_roundw
          case rel => exact ⟨i + 1, zs ++ [y], A4, C4, by omega, by omega, by go_num, by rw [List.length_append]; rfl, by rw [List.length_append]; exact t4, by simp; omega⟩
          case measure => simp [intOf]; omega
        · simp only [if_true, Bool.false_eq_true, if_false] at K
          go_wp2_with fail
          refine K.mono ?_
          rintro e w2 ⟨rfl, t2⟩
          have c2 := HC.out w2 t2.out
          have K17 := HK17.out w2 t2
          obtain ⟨A4, C4, w4, r4, t4⟩ := Append_two t2 y HY.out (by omega)
          clear K t2 c1 HK17
          go_wp2_with (first | (go_at_call 17; refine K17.mono ?_; rintro e w' ⟨rfl, hw'⟩; subst w') | (at_builtin; refine Lib.wpList_append_run _ rfl _ _ _ _ rfl _ _ rfl rfl _ _ r4 ?_))
          go_roundw
          case rel => exact ⟨i + 1, zs ++ [y], A4, C4, by omega, by omega, by go_num, by rw [List.length_append]; rfl, by rw [List.length_append]; exact t4, by simp; omega⟩
          case measure => simp [intOf]; omega
      · have hd := Dk.dir_has f zs y
        rw [hcz] at hd
        have K : Calls Try.prog (if f then 9 else 8) #[.pointer (some ⟨bd, 0, none⟩), .int .i64 y] wr fun e w' => e = .returned (.bool false) ∧ w' = wr := by
          cases f
          · exact Push_two_no HT y hd
          · exact PushFront_two_no HT y hd
        have K17 : Calls Try.prog 17 #[.slice A1 zs.length C1, .int .i64 y] wr fun e w'' => e = .returned (.bool true) ∧ w'' = wr := by
          obtain ⟨A3, C3, e3, s2⟩ := HT.sli
          obtain ⟨rfl, rfl⟩ : A1 = A3 ∧ C1 = C3 := by simpa using e3
          have := In_any A1 zs.length C1 zs y wr s2
          rw [hcz] at this
          exact this
        clear hd hcz
        cases f
        · simp only [if_true, Bool.false_eq_true, if_false] at K
          go_wp2_with (first | (go_at_call 17; refine K17.mono ?_; rintro e w' ⟨rfl, hw'⟩; subst w') | (go_at_call 8; refine K.mono ?_; rintro e w' ⟨rfl, hw'⟩; subst w'))
          go_roundw
          case rel => exact ⟨i + 1, zs, A1, C1, by omega, by omega, by go_num, rfl, HT, by omega⟩
          case measure => simp [intOf]; omega
        · simp only [if_true, Bool.false_eq_true, if_false] at K
          go_wp2_with (first | (go_at_call 17; refine K17.mono ?_; rintro e w' ⟨rfl, hw'⟩; subst w') | (go_at_call 9; refine K.mono ?_; rintro e w' ⟨rfl, hw'⟩; subst w'))
          go_roundw
          case rel => exact ⟨i + 1, zs, A1, C1, by omega, by omega, by go_num, rfl, HT, by omega⟩
          case measure => simp [intOf]; omega
    · by_cases hlt : i < L
      · have y6 : decide ((i : Int) < 60) = false := by simp; omega
        go_wp2_with fail
        go_loopw [11] (fun i w' => ∃ j : Nat, j ≤ zs.length ∧ i = .int .i64 j ∧ Two w bd w' (Dk.rest f g zs j) (.slice A1 zs.length C1) zs) (fun i w' => zs.length - (intOf i).toNat)
        case atStart => exact ⟨0, Nat.zero_le _, rfl, by rw [Dk.rest_zero]; exact HT⟩
        case round =>
          obtain ⟨j, hjl, rfl, HR⟩ := hrel
          clear HT
          by_cases hj : j < zs.length
          · obtain ⟨A3, C3, e3, s2⟩ := HR.sli
            obtain ⟨rfl, rfl⟩ : A1 = A3 ∧ C1 = C3 := by simpa using e3
            have hC1 := s2.cap
            have hM1 := s2.max
            unfold maxLen at hM1
            obtain ⟨b1, o1, rfl, hb1, hc1⟩ := s2.cells (by omega)
            obtain ⟨m, em⟩ : ∃ m, zs.length - 1 - j = m := ⟨_, rfl⟩
            have hm : m < zs.length := by omega
            obtain ⟨p, ep⟩ : ∃ p, zs.getD j 0 = p := ⟨_, rfl⟩
            obtain ⟨q, eq⟩ : ∃ q, zs.getD m 0 = q := ⟨_, rfl⟩
            have c1 : wr.cell? ⟨b1, o1 + j, none⟩ = some (.int .i64 p) := by rw [← ep]; exact hc1 j hj
            have c2 : wr.cell? ⟨b1, o1 + m, none⟩ = some (.int .i64 q) := by rw [← eq]; exact hc1 m hm
            have qm : ((zs.length : Int) - 1 - (j : Int)) = (m : Int) := by omega
            have Ep : Hid (zs.getD j 0 = p) := ep
            have Eq : Hid (zs.getD (zs.length - 1 - j) 0 = q) := by rw [em]; exact eq
            have HC2 : Hid True := trivial
            clear s2 e3 hc1 em ep eq
            cases f <;> cases g
            · have K : Calls Try.prog 10 #[.pointer (some ⟨bd, 0, none⟩)] wr fun e w' => e = .returned (.tuple #[.int .i64 p, .bool true]) ∧ Two w bd w' (Dk.rest false false zs (j + 1)) (.slice (some ⟨b1, o1, none⟩) zs.length C1) zs := by
                have hrl := Dk.rest_len false false zs (j + 1)
                have hr := HR
                rw [Dk.rest_ff zs j hj] at hr
                rw [← Ep.out]
                exact Pop_two hr (by omega)
              go_wp2_with fail
              refine K.mono ?_
              rintro e w2 ⟨rfl, t2⟩
              clear K HR HC2 c1
              go_wp2_with fail
              go_roundw
              case rel => exact ⟨j + 1, by omega, by go_num, t2⟩
              case measure => simp [intOf]; omega
            · have K : Calls Try.prog 11 #[.pointer (some ⟨bd, 0, none⟩)] wr fun e w' => e = .returned (.tuple #[.int .i64 q, .bool true]) ∧ Two w bd w' (Dk.rest false true zs (j + 1)) (.slice (some ⟨b1, o1, none⟩) zs.length C1) zs := by
                have hrl := Dk.rest_len false true zs (j + 1)
                have hr := HR
                rw [Dk.rest_ft zs j hj] at hr
                rw [← Eq.out]
                exact PopBack_two hr (by omega)
              go_wp2_with fail
              refine K.mono ?_
              rintro e w2 ⟨rfl, t2⟩
              clear K HR HC2 c1
              go_wp2_with fail
              go_roundw
              case rel => exact ⟨j + 1, by omega, by go_num, t2⟩
              case measure => simp [intOf]; omega
            · have K : Calls Try.prog 10 #[.pointer (some ⟨bd, 0, none⟩)] wr fun e w' => e = .returned (.tuple #[.int .i64 q, .bool true]) ∧ Two w bd w' (Dk.rest true false zs (j + 1)) (.slice (some ⟨b1, o1, none⟩) zs.length C1) zs := by
                have hrl := Dk.rest_len true false zs (j + 1)
                have hr := HR
                rw [Dk.rest_tf zs j hj] at hr
                rw [← Eq.out]
                exact Pop_two hr (by omega)
              go_wp2_with fail
              refine K.mono ?_
              rintro e w2 ⟨rfl, t2⟩
              clear K HR HC2 c1
              go_wp2_with fail
              go_roundw
              case rel => exact ⟨j + 1, by omega, by go_num, t2⟩
              case measure => simp [intOf]; omega
            · have K : Calls Try.prog 11 #[.pointer (some ⟨bd, 0, none⟩)] wr fun e w' => e = .returned (.tuple #[.int .i64 p, .bool true]) ∧ Two w bd w' (Dk.rest true true zs (j + 1)) (.slice (some ⟨b1, o1, none⟩) zs.length C1) zs := by
                have hrl := Dk.rest_len true true zs (j + 1)
                have hr := HR
                rw [Dk.rest_tt zs j hj] at hr
                rw [← Ep.out]
                exact PopBack_two hr (by omega)
              go_wp2_with fail
              refine K.mono ?_
              rintro e w2 ⟨rfl, t2⟩
              clear K HR HC2 c1
              go_wp2_with fail
              go_roundw
              case rel => exact ⟨j + 1, by omega, by go_num, t2⟩
              case measure => simp [intOf]; omega
          · obtain rfl : j = zs.length := by omega
            have hr := HR
            rw [Dk.rest_end] at hr
            have K := Pop_two_no hr
            have hu := hr.out
            have HU : Hid _ := hu
            clear HR hr hu
            go_wp2_with (go_at_call 10; refine K.mono ?_; rintro e w' ⟨rfl, hw'⟩; subst w')
            refine (awake_any _).mono ?_
            rintro e w5 ⟨rfl, u5⟩
            go_wp2_with fail
            go_ret
            exact ⟨rfl, Dk.up_call HU.out u5⟩
      · have hc' : True := trivial
        go_wp2_with fail
        go_loopw [11] (fun i w' => ∃ j : Nat, j ≤ zs.length ∧ i = .int .i64 j ∧ Two w bd w' (Dk.rest f g zs j) (.slice A1 zs.length C1) zs) (fun i w' => zs.length - (intOf i).toNat)
        case atStart => exact ⟨0, Nat.zero_le _, rfl, by rw [Dk.rest_zero]; exact HT⟩
        case round =>
          obtain ⟨j, hjl, rfl, HR⟩ := hrel
          clear HT
          by_cases hj : j < zs.length
          · obtain ⟨A3, C3, e3, s2⟩ := HR.sli
            obtain ⟨rfl, rfl⟩ : A1 = A3 ∧ C1 = C3 := by simpa using e3
            have hC1 := s2.cap
            have hM1 := s2.max
            unfold maxLen at hM1
            obtain ⟨b1, o1, rfl, hb1, hc1⟩ := s2.cells (by omega)
            obtain ⟨m, em⟩ : ∃ m, zs.length - 1 - j = m := ⟨_, rfl⟩
            have hm : m < zs.length := by omega
            obtain ⟨p, ep⟩ : ∃ p, zs.getD j 0 = p := ⟨_, rfl⟩
            obtain ⟨q, eq⟩ : ∃ q, zs.getD m 0 = q := ⟨_, rfl⟩
            have c1 : wr.cell? ⟨b1, o1 + j, none⟩ = some (.int .i64 p) := by rw [← ep]; exact hc1 j hj
            have c2 : wr.cell? ⟨b1, o1 + m, none⟩ = some (.int .i64 q) := by rw [← eq]; exact hc1 m hm
            have qm : ((zs.length : Int) - 1 - (j : Int)) = (m : Int) := by omega
            have Ep : Hid (zs.getD j 0 = p) := ep
            have Eq : Hid (zs.getD (zs.length - 1 - j) 0 = q) := by rw [em]; exact eq
            have HC2 : Hid True := trivial
            clear s2 e3 hc1 em ep eq
            cases f <;> cases g
            · have K : Calls Try.prog 10 #[.pointer (some ⟨bd, 0, none⟩)] wr fun e w' => e = .returned (.tuple #[.int .i64 p, .bool true]) ∧ Two w bd w' (Dk.rest false false zs (j + 1)) (.slice (some ⟨b1, o1, none⟩) zs.length C1) zs := by
                have hrl := Dk.rest_len false false zs (j + 1)
                have hr := HR
                rw [Dk.rest_ff zs j hj] at hr
                rw [← Ep.out]
                exact Pop_two hr (by omega)
              go_wp2_with fail
              refine K.mono ?_
              rintro e w2 ⟨rfl, t2⟩
              clear K HR HC2 c1
              go_wp2_with fail
              go_roundw
              case rel => exact ⟨j + 1, by omega, by go_num, t2⟩
              case measure => simp [intOf]; omega
            · have K : Calls Try.prog 11 #[.pointer (some ⟨bd, 0, none⟩)] wr fun e w' => e = .returned (.tuple #[.int .i64 q, .bool true]) ∧ Two w bd w' (Dk.rest false true zs (j + 1)) (.slice (some ⟨b1, o1, none⟩) zs.length C1) zs := by
                have hrl := Dk.rest_len false true zs (j + 1)
                have hr := HR
                rw [Dk.rest_ft zs j hj] at hr
                rw [← Eq.out]
                exact PopBack_two hr (by omega)
              go_wp2_with fail
              refine K.mono ?_
              rintro e w2 ⟨rfl, t2⟩
              clear K HR HC2 c1
              go_wp2_with fail
              go_roundw
              case rel => exact ⟨j + 1, by omega, by go_num, t2⟩
              case measure => simp [intOf]; omega
            · have K : Calls Try.prog 10 #[.pointer (some ⟨bd, 0, none⟩)] wr fun e w' => e = .returned (.tuple #[.int .i64 q, .bool true]) ∧ Two w bd w' (Dk.rest true false zs (j + 1)) (.slice (some ⟨b1, o1, none⟩) zs.length C1) zs := by
                have hrl := Dk.rest_len true false zs (j + 1)
                have hr := HR
                rw [Dk.rest_tf zs j hj] at hr
                rw [← Eq.out]
                exact Pop_two hr (by omega)
              go_wp2_with fail
              refine K.mono ?_
              rintro e w2 ⟨rfl, t2⟩
              clear K HR HC2 c1
              go_wp2_with fail
              go_roundw
              case rel => exact ⟨j + 1, by omega, by go_num, t2⟩
              case measure => simp [intOf]; omega
            · have K : Calls Try.prog 11 #[.pointer (some ⟨bd, 0, none⟩)] wr fun e w' => e = .returned (.tuple #[.int .i64 p, .bool true]) ∧ Two w bd w' (Dk.rest true true zs (j + 1)) (.slice (some ⟨b1, o1, none⟩) zs.length C1) zs := by
                have hrl := Dk.rest_len true true zs (j + 1)
                have hr := HR
                rw [Dk.rest_tt zs j hj] at hr
                rw [← Ep.out]
                exact PopBack_two hr (by omega)
              go_wp2_with fail
              refine K.mono ?_
              rintro e w2 ⟨rfl, t2⟩
              clear K HR HC2 c1
              go_wp2_with fail
              go_roundw
              case rel => exact ⟨j + 1, by omega, by go_num, t2⟩
              case measure => simp [intOf]; omega
          · obtain rfl : j = zs.length := by omega
            have hr := HR
            rw [Dk.rest_end] at hr
            have K := Pop_two_no hr
            have hu := hr.out
            have HU : Hid _ := hu
            clear HR hr hu
            go_wp2_with (go_at_call 10; refine K.mono ?_; rintro e w' ⟨rfl, hw'⟩; subst w')
            refine (awake_any _).mono ?_
            rintro e w5 ⟨rfl, u5⟩
            go_wp2_with fail
            go_ret
            exact ⟨rfl, Dk.up_call HU.out u5⟩

end Go.Proofs.Ytgaionhlfnpdhaa
