/- The walk of the statement on handles that lead back. -/
import Derived.Test.YtlbbejndglpclaaSa
import Derived.Test.YtlbbejndglpclaaOpm
namespace Go.Proofs.Ytlbbejndglpclaa
set_option linter.unusedSimpArgs false
set_option linter.unusedVariables false
set_option linter.unnecessarySimpa false
open Go.RowKit

theorem byte_cell {B : Nat} {w : World} {A : Option Addr} {L C : Nat} {xs : List Nat} (h : Dk.Row 1 0 Dk.IsByte B w A L C xs) (h0 : 0 < L) : ∃ b o, A = some ⟨b, o, none⟩ ∧ b < B ∧ ∀ k, k < L → w.cell? ⟨b, o + k, none⟩ = some (.int .u8 ((xs.getD k 0 : Nat) : Nat)) ∧ xs.getD k 0 < 256 := by
  obtain ⟨b, o, e, hb, hc⟩ := h.cells h0
  refine ⟨b, o, e, hb, fun k hk => ?_⟩
  obtain ⟨vs, h1, ⟨rfl, hlt⟩, h3⟩ := hc k hk
  have := h3 0 (by omega)
  rw [Nat.mul_one, Nat.add_zero] at this
  rw [this]
  exact ⟨rfl, hlt⟩

/-- Whatever Take answers, a table is left. -/
theorem Take_some (bt bs M : Nat) (st : Dk.St) (w : World) (hT : Dk.Tab w bt bs M st) (hM : M < 100000) :
    Calls Try.prog 8 #[.pointer (some ⟨bt, 0, none⟩)] w fun e w' => ∃ v st', e = .returned v ∧ Dk.Tab w' bt bs (M + 1) st' ∧ st'.length = st.length ∧ w.grownBy w' (some bs) := by
  refine (Take_all bt bs M st w hT hM).mono ?_
  rintro e w' (⟨_, rfl, hT', hg⟩ | ⟨_, rfl, hT', hg⟩)
  · exact ⟨_, _, rfl, hT', by unfold Dk.taken; rw [Dk.put_len], hg⟩
  · exact ⟨_, _, rfl, hT'.more (by omega), rfl, hg⟩

set_option maxRecDepth 100000 in
set_option maxHeartbeats 2000000 in
theorem SlotBack_any (s : Nat) (hs : s < 256) (A : Option Addr) (L C : Nat) (xs : List Nat) (w : World) (hr : Dk.Row 1 0 Dk.IsByte w.heap.size w A L C xs) :
    Calls Try.prog 6 #[.int .u8 (s : Nat), .slice A L C] w fun e w' => e = .returned (.bool true) ∧ Below w.heap.size w w' := by
  obtain ⟨m, hm⟩ : ∃ m, s % 9 = m := ⟨_, rfl⟩
  have hm9 : m < 9 := by omega
  have q : ((s : Int) % 9) = m := by omega
  have hcap := hr.cap
  have hmax := hr.max
  unfold maxLen at hmax
  have hcl : Dk.clamp ((m : Int) + 1) = m + 1 := by unfold Dk.clamp; rw [if_neg (by omega), if_neg (by omega)]; omega
  have HCL : Hid _ := hcl
  clear hm hcl
  go_enter Try.func6, Try.ntmps6
  go_wp2_with fail
  refine (New_any ((m : Int) + 1) (by unfold Dk.i64; omega) w).mono ?_
  rintro e w1 ⟨rfl, h1, u1, z1⟩
  rw [HCL.out] at h1
  clear q
  generalize ebt : w.heap.size + 1 = bt at h1
  generalize ebs : w.heap.size = bs at h1
  have hbt : w.heap.size ≤ bt := by omega
  have hbs : w.heap.size ≤ bs := by omega
  have hl1 : (Dk.blank (m + 1)).length = m + 1 := by simp [Dk.blank]
  have HT1 : Hid _ := h1
  have HU1 : Hid _ := u1
  have HL1 : Hid _ := hl1
  have HR : Hid _ := hr
  clear h1 u1 hl1 z1 hr ebt ebs
  go_wp2_with fail
  go_loopw [7] (fun i w' => ∃ (i0 : Nat) (st : Dk.St), i0 ≤ L ∧ i0 ≤ 60 ∧ i = .int .i64 i0 ∧ Hid (Dk.Tab w' bt bs i0 st) ∧ Hid (st.length = m + 1) ∧ Hid (Below w.heap.size w w')) (fun i w' => L - (intOf i).toNat)
  case atStart => exact ⟨0, _, Nat.zero_le _, Nat.zero_le _, rfl, HT1.out, HL1.out, HU1.out⟩
  case round =>
    obtain ⟨i, st, hi, hi6, rfl, HT, HL, HB⟩ := hrel
    by_cases hlt : i < L
    · by_cases hl6 : i < 60
      · obtain ⟨b, o, rfl, hb, hc⟩ := byte_cell HR.out (by omega)
        obtain ⟨f, hf⟩ : ∃ f, xs.getD i 0 = f := ⟨_, rfl⟩
        have cf : wr.cell? ⟨b, o + i, none⟩ = some (.int .u8 (f : Nat)) := by rw [HB.out.cell (by show b < w.heap.size; exact hb), ← hf]; exact (hc i hlt).1
        have hf8 : f < 256 := by rw [← hf]; exact (hc i hlt).2
        clear hc hf
        have y6 : decide ((i : Int) < 60) = true := by simp; omega
        obtain ⟨k, hk⟩ : ∃ k, f % (m + 1) = k := ⟨_, rfl⟩
        have hkm : k < m + 1 := by rw [← hk]; exact Nat.mod_lt _ (by omega)
        have qk : ((f : Int) % ((m : Int) + 1)) = k := by rw [← hk]; rfl
        clear hk
        cases hu : Dk.us st k
        · have K11 := Handle_no bt bs i st (k : Int) wr HT.out (by simp [hu])
          clear hu
          have K8 := Take_some bt bs i st wr HT.out (by omega)
          go_wp2_with (first | (go_at_call 11; refine K11.mono ?_; rintro e w' ⟨rfl, rfl⟩))
          refine K8.mono ?_
          rintro e wa ⟨v8, sa, rfl, hTa, hla, ga⟩
          have HTa : Hid _ := hTa
          have HLa : Hid (sa.length = m + 1) := hla.trans HL.out
          have HBa : Hid _ := Dk.up_far HB.out ga hbs
          clear hTa hla ga
          go_wp2_with fail

          refine (Used_any bt bs (i + 1) sa wa HTa.out).mono ?_
          rintro e wb ⟨A', C', rfl, hS, ub⟩
          have HTb : Hid _ := HTa.out.up ub
          have HBb : Hid _ := Dk.up_call HBa.out ub
          have HS : Hid _ := hS
          obtain ⟨us, hus⟩ : ∃ us, Dk.usl sa sa.length = us := ⟨_, rfl⟩
          rw [hus] at hS HS
          rw [hus]
          have hscap := hS.cap
          have hsmax := hS.max
          unfold maxLen at hsmax
          have HUS : Hid _ := hus
          clear hus hS ub HTa HBa
          go_wp2_with fail
          go_loopw [14] (fun j w' => ∃ j0 : Nat, j0 ≤ us.length ∧ j = .int .i64 j0 ∧ Hid (w' = wb)) (fun j w' => us.length - (intOf j).toNat)
          case atStart => exact ⟨0, Nat.zero_le _, rfl, rfl⟩
          case round =>
            obtain ⟨j, hj, rfl, HW⟩ := hrel
            by_cases hjl : j < us.length
            · obtain ⟨b', o', rfl, hb', hc'⟩ := HS.out.cells (by omega)
              obtain ⟨g, hg, hgl, hgu⟩ := Dk.usl_mem (st := sa) (k := sa.length) (x := us.getD j 0) (by rw [HUS.out]; simp [List.getD, hjl])
              have cu : wr.cell? ⟨b', o' + j, none⟩ = some (.int .i64 (g : Int)) := by rw [HW.out, hc' j hjl, hg]
              have hTr : Dk.Tab wr bt bs (i + 1) sa := by rw [HW.out]; exact HTb.out
              have K11 := Handle_yes bt bs (i + 1) sa g wr hTr (by omega) hgu
              have hgs := HTb.out.small.1
              have K9 := Find_any bt bs (i + 1) sa (Dk.hd sa g) wr hTr (by omega) (Dk.hd_lt HTb.out.small (by omega) (by omega))
              rw [Dk.find_hd HTb.out.small hgu] at K9
              have y1 : ((g : Int) != (g : Int)) = false := by simp
              clear hc' hg hgu hTr
              go_wp2_with (first | (go_at_call 11; refine K11.mono ?_; rintro e w' ⟨rfl, rfl⟩) | (go_at_call 9; refine K9.mono ?_; rintro e w' ⟨rfl, rfl⟩))
              go_roundw
              case rel => exact ⟨j + 1, by omega, by go_num, HW⟩
              case measure => simp [intOf]; omega
            · go_wp2_with fail
              go_roundw
              case rel => exact ⟨i + 1, sa, by omega, by omega, by go_num, by rw [HW.out]; exact HTb.out, HLa, by rw [HW.out]; exact HBb.out⟩
              case measure => simp [intOf]; omega
        · have K11 := Handle_yes bt bs i st k wr HT.out (by omega) hu
          by_cases h99 : 99 < f
          · have y99 : decide ((99 : Int) < (f : Int)) = true := by simp; omega
            have hkl := HT.out.small.1
            have HLs := HL.out
            have K10 := Free_yes bt bs i st (Dk.hd st k) k wr HT.out (by omega) (Dk.hd_lt HT.out.small (by omega) (by omega)) (Dk.find_hd HT.out.small hu)
            obtain ⟨wa, ea⟩ : ∃ wa, wr.setCell ⟨bs, k * 2 + 1, none⟩ (.bool false) = wa := ⟨_, rfl⟩
            rw [ea] at K10
            obtain ⟨sa, esa⟩ : ∃ sa, Dk.put st k (Dk.tk st k) false = sa := ⟨_, rfl⟩
            have HTa : Hid (Dk.Tab wa bt bs (i + 1) sa) := by rw [← ea, ← esa]; exact (HT.out.flag k false (by omega)).more (by omega)
            have HLa : Hid (sa.length = m + 1) := by rw [← esa]; exact (Dk.put_len _ _ _ _).trans HL.out
            have HBa : Hid (Below w.heap.size w wa) := by rw [← ea]; exact Dk.up_set HB.out hbs _
            have K11' := Handle_no bt bs (i + 1) sa (k : Int) wa HTa.out (by rw [← esa]; simp [Dk.us_put _ _ _ _ _ (show k < st.length by omega)])
            clear ea esa hu HLs
            go_wp2_with (first | (go_at_call 11; refine K11.mono ?_; rintro e w' ⟨rfl, rfl⟩) | (go_at_call 10; refine K10.mono ?_; rintro e w' ⟨rfl, hw'⟩; subst w') | (go_at_call 11; refine K11'.mono ?_; rintro e w' ⟨rfl, hw'⟩; subst w'))

            refine (Used_any bt bs (i + 1) sa wa HTa.out).mono ?_
            rintro e wb ⟨A', C', rfl, hS, ub⟩
            have HTb : Hid _ := HTa.out.up ub
            have HBb : Hid _ := Dk.up_call HBa.out ub
            have HS : Hid _ := hS
            obtain ⟨us, hus⟩ : ∃ us, Dk.usl sa sa.length = us := ⟨_, rfl⟩
            rw [hus] at hS HS
            rw [hus]
            have hscap := hS.cap
            have hsmax := hS.max
            unfold maxLen at hsmax
            have HUS : Hid _ := hus
            clear hus hS ub HTa HBa
            go_wp2_with fail
            go_loopw [14] (fun j w' => ∃ j0 : Nat, j0 ≤ us.length ∧ j = .int .i64 j0 ∧ Hid (w' = wb)) (fun j w' => us.length - (intOf j).toNat)
            case atStart => exact ⟨0, Nat.zero_le _, rfl, rfl⟩
            case round =>
              obtain ⟨j, hj, rfl, HW⟩ := hrel
              by_cases hjl : j < us.length
              · obtain ⟨b', o', rfl, hb', hc'⟩ := HS.out.cells (by omega)
                obtain ⟨g, hg, hgl, hgu⟩ := Dk.usl_mem (st := sa) (k := sa.length) (x := us.getD j 0) (by rw [HUS.out]; simp [List.getD, hjl])
                have cu : wr.cell? ⟨b', o' + j, none⟩ = some (.int .i64 (g : Int)) := by rw [HW.out, hc' j hjl, hg]
                have hTr : Dk.Tab wr bt bs (i + 1) sa := by rw [HW.out]; exact HTb.out
                have K11 := Handle_yes bt bs (i + 1) sa g wr hTr (by omega) hgu
                have hgs := HTb.out.small.1
                have K9 := Find_any bt bs (i + 1) sa (Dk.hd sa g) wr hTr (by omega) (Dk.hd_lt HTb.out.small (by omega) (by omega))
                rw [Dk.find_hd HTb.out.small hgu] at K9
                have y1 : ((g : Int) != (g : Int)) = false := by simp
                clear hc' hg hgu hTr
                go_wp2_with (first | (go_at_call 11; refine K11.mono ?_; rintro e w' ⟨rfl, rfl⟩) | (go_at_call 9; refine K9.mono ?_; rintro e w' ⟨rfl, rfl⟩))
                go_roundw
                case rel => exact ⟨j + 1, by omega, by go_num, HW⟩
                case measure => simp [intOf]; omega
              · go_wp2_with fail
                go_roundw
                case rel => exact ⟨i + 1, sa, by omega, by omega, by go_num, by rw [HW.out]; exact HTb.out, HLa, by rw [HW.out]; exact HBb.out⟩
                case measure => simp [intOf]; omega
          · have y99 : decide ((99 : Int) < (f : Int)) = false := by simp; omega
            clear hu
            have K8 := Take_some bt bs i st wr HT.out (by omega)
            go_wp2_with (first | (go_at_call 11; refine K11.mono ?_; rintro e w' ⟨rfl, rfl⟩))
            refine K8.mono ?_
            rintro e wa ⟨v8, sa, rfl, hTa, hla, ga⟩
            have HTa : Hid _ := hTa
            have HLa : Hid (sa.length = m + 1) := hla.trans HL.out
            have HBa : Hid _ := Dk.up_far HB.out ga hbs
            clear hTa hla ga
            go_wp2_with fail

            refine (Used_any bt bs (i + 1) sa wa HTa.out).mono ?_
            rintro e wb ⟨A', C', rfl, hS, ub⟩
            have HTb : Hid _ := HTa.out.up ub
            have HBb : Hid _ := Dk.up_call HBa.out ub
            have HS : Hid _ := hS
            obtain ⟨us, hus⟩ : ∃ us, Dk.usl sa sa.length = us := ⟨_, rfl⟩
            rw [hus] at hS HS
            rw [hus]
            have hscap := hS.cap
            have hsmax := hS.max
            unfold maxLen at hsmax
            have HUS : Hid _ := hus
            clear hus hS ub HTa HBa
            go_wp2_with fail
            go_loopw [14] (fun j w' => ∃ j0 : Nat, j0 ≤ us.length ∧ j = .int .i64 j0 ∧ Hid (w' = wb)) (fun j w' => us.length - (intOf j).toNat)
            case atStart => exact ⟨0, Nat.zero_le _, rfl, rfl⟩
            case round =>
              obtain ⟨j, hj, rfl, HW⟩ := hrel
              by_cases hjl : j < us.length
              · obtain ⟨b', o', rfl, hb', hc'⟩ := HS.out.cells (by omega)
                obtain ⟨g, hg, hgl, hgu⟩ := Dk.usl_mem (st := sa) (k := sa.length) (x := us.getD j 0) (by rw [HUS.out]; simp [List.getD, hjl])
                have cu : wr.cell? ⟨b', o' + j, none⟩ = some (.int .i64 (g : Int)) := by rw [HW.out, hc' j hjl, hg]
                have hTr : Dk.Tab wr bt bs (i + 1) sa := by rw [HW.out]; exact HTb.out
                have K11 := Handle_yes bt bs (i + 1) sa g wr hTr (by omega) hgu
                have hgs := HTb.out.small.1
                have K9 := Find_any bt bs (i + 1) sa (Dk.hd sa g) wr hTr (by omega) (Dk.hd_lt HTb.out.small (by omega) (by omega))
                rw [Dk.find_hd HTb.out.small hgu] at K9
                have y1 : ((g : Int) != (g : Int)) = false := by simp
                clear hc' hg hgu hTr
                go_wp2_with (first | (go_at_call 11; refine K11.mono ?_; rintro e w' ⟨rfl, rfl⟩) | (go_at_call 9; refine K9.mono ?_; rintro e w' ⟨rfl, rfl⟩))
                go_roundw
                case rel => exact ⟨j + 1, by omega, by go_num, HW⟩
                case measure => simp [intOf]; omega
              · go_wp2_with fail
                go_roundw
                case rel => exact ⟨i + 1, sa, by omega, by omega, by go_num, by rw [HW.out]; exact HTb.out, HLa, by rw [HW.out]; exact HBb.out⟩
                case measure => simp [intOf]; omega
      · have y6 : decide ((i : Int) < 60) = false := by simp; omega
        go_wp2_with fail
        refine (awake_any _).mono ?_
        rintro e w2 ⟨rfl, hb⟩
        go_wp2_with fail
        go_ret
        exact ⟨rfl, Dk.up_call HB.out hb⟩
    · go_wp2_with fail
      refine (awake_any _).mono ?_
      rintro e w2 ⟨rfl, hb⟩
      go_wp2_with fail
      go_ret
      exact ⟨rfl, Dk.up_call HB.out hb⟩

end Go.Proofs.Ytlbbejndglpclaa
