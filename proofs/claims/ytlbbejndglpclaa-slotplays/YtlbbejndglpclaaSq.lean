/- The walk of the statement on plays. -/
import Derived.Test.YtlbbejndglpclaaSp
namespace Go.Proofs.Ytlbbejndglpclaa
set_option linter.unusedSimpArgs false
set_option linter.unusedVariables false
set_option linter.unnecessarySimpa false
open Go.RowKit

set_option maxRecDepth 100000 in
set_option maxHeartbeats 4000000 in
theorem SlotPlays_any (size : Int) (hs : Dk.i64 size) (A : Option Addr) (L C : Nat) (xs : List Dk.Act4) (w : World) (hr : Dk.Row 3 Dk.Act4.zero Dk.IsAct w.heap.size w A L C xs) :
    Calls Try.prog 3 #[.int .i64 size, .slice A L C] w fun e w' => e = .returned (.bool true) ∧ Below w.heap.size w w' := by
  have hcap := hr.cap
  have hmax := hr.max
  unfold maxLen at hmax
  obtain ⟨n, en⟩ : ∃ n, Dk.clamp size = n := ⟨_, rfl⟩
  have hn : n ≤ 1024 := by rw [← en]; exact Dk.clamp_le _
  have hn1 : size < 0 → (n : Int) = 0 := fun h => by rw [← en]; unfold Dk.clamp; rw [if_pos h]; rfl
  have hn2 : 1024 < size → (n : Int) = 1024 := fun h => by rw [← en]; unfold Dk.clamp; rw [if_neg (by omega), if_pos h]; rfl
  have hn3 : 0 ≤ size → size ≤ 1024 → (n : Int) = size := fun h h' => by rw [← en]; unfold Dk.clamp; rw [if_neg (by omega), if_neg (by omega)]; omega
  obtain ⟨i0, hi0, hz0, hz1, hz2⟩ := info_parts info27
  obtain ⟨j0, hj0, hy0, hy1, hy2⟩ := info_parts info3
  have HR : Hid _ := hr
  have H1 : Hid _ := hn1
  have H2 : Hid _ := hn2
  have H3 : Hid _ := hn3
  have K7 := New_any size hs w
  rw [en] at K7
  clear hr hn1 hn2 hn3 en
  go_enter Try.func3, Try.ntmps3
  go_wp2_with fail
  refine K7.mono ?_
  rintro e w1 ⟨rfl, h1, u1, z1⟩
  generalize ebt : w.heap.size + 1 = bt at h1
  generalize ebs : w.heap.size = bs at h1
  have hbt : w.heap.size ≤ bt := by omega
  have hbs : w.heap.size ≤ bs := by omega
  have hbt1 : bt < w1.heap.size := by omega
  have hbs1 : bs < w1.heap.size := by omega
  have hl1 : (Dk.blank n).length = n := by simp [Dk.blank]
  have HT1 : Hid _ := h1
  have HU1 : Hid _ := u1
  have HL1 : Hid _ := hl1
  clear h1 u1 hl1 z1 ebt ebs K7
  obtain ⟨p, hp1, hp2⟩ : ∃ p : Int, (size < 0 → p = 0) ∧ (0 ≤ size → p = size) := ⟨if size < 0 then 0 else size, fun h => if_pos h, fun h => if_neg (by omega)⟩
  have HP1 : Hid _ := hp1
  have HP2 : Hid _ := hp2
  clear hp1 hp2
  go_upto_if 29 with fail
  go_cut [6] from 27 to 31 (fun v w' => v = .int .i64 p ∧ w' = w1)
  case first =>
    by_cases h : size < 0
    · go_wp2_with fail
      go_meet
      exact ⟨by rw [HP1.out h], rfl⟩
    · go_wp2_with fail
      go_meet
      exact ⟨by rw [HP2.out (by omega)], rfl⟩
  case rest =>
    obtain ⟨rfl, hw⟩ := hcut
    subst wc
    go_upto_if 31 with fail
    go_cut [6] from 27 to 31 (fun v w' => v = .int .i64 (n : Int) ∧ w' = w1)
    case first =>
      by_cases h : 1024 < p
      · have h0 : ¬ size < 0 := fun h' => by have := HP1.out h'; omega
        have h1 : (n : Int) = 1024 := H2.out (by have := HP2.out (by omega); omega)
        have HN : Hid _ := h1
        clear h1 h0
        go_wp2_with fail
        go_meet
        exact ⟨by rw [HN.out], rfl⟩
      · have h1 : (n : Int) = p := by
          by_cases h0 : size < 0
          · rw [H1.out h0, HP1.out h0]
          · have h2 := HP2.out (by omega)
            rw [H3.out (by omega) (by omega), h2]
        have HN : Hid _ := h1
        clear h1
        go_wp2_with fail
        go_meet
        exact ⟨by rw [HN.out], rfl⟩
    case rest =>
      obtain ⟨rfl, hw⟩ := hcut
      subst wc
      clear HP1 HP2 H1 H2 H3
      have hmk7 := make_taken n hn
      have hmk8 := make_used n hn
      go_upto_region 7 with fail
      go_cut [7, 8] from 27 to 35 (fun s7 s8 w' => ∃ b7 b8, s7 = .slice (some ⟨b7, 0, none⟩) n n ∧ s8 = .slice (some ⟨b8, 0, none⟩) n n ∧ Dk.Book w' b7 b8 (Dk.blank n) ∧ Below w1.heap.size w1 w' ∧ w1.heap.size ≤ b7 ∧ w1.heap.size ≤ b8)
      case first =>
        go_region
        · go_wp2_with fail
          go_meet
          refine ⟨_, _, rfl, rfl, ⟨((Dk.Box.new _ _ _).old _).drew, ?_, by omega⟩, Dk.up_drew (Dk.up_alloc (Dk.up_alloc (Below.refl _ _) _) _), by omega, by omega⟩
          have := (Dk.Box.new (w1.alloc (.cells (Dk.tcs (Dk.blank n)) 27)) (Dk.ucs (Dk.blank n)) 4).drew
          rw [World.size_alloc] at this
          exact this
        · go_wp2_with fail
          go_meet
          refine ⟨_, _, rfl, rfl, ⟨?_, ((Dk.Box.new _ _ _).old _).drew, by omega⟩, Dk.up_drew (Dk.up_alloc (Dk.up_alloc (Below.refl _ _) _) _), by omega, by omega⟩
          have := (Dk.Box.new (w1.alloc (.cells (Dk.ucs (Dk.blank n)) 4)) (Dk.tcs (Dk.blank n)) 27).drew
          rw [World.size_alloc] at this
          exact this
      case rest =>
        obtain ⟨b7, b8, rfl, rfl, hK, uK, hb7, hb8⟩ := hcut
        have hl7 := hK.taken.lt
        have hl8 := hK.used.lt
        have hn78 := hK.ne
        have HK1 : Hid _ := hK
        have HTK : Hid _ := HT1.out.up uK
        have HUK : Hid _ := Dk.up_call HU1.out uK
        have huk := uK.size
        obtain ⟨B0, eB⟩ : ∃ B0, wc.heap.size = B0 := ⟨_, rfl⟩
        have hB7 : b7 < B0 := by omega
        have hB8 : b8 < B0 := by omega
        have hBt : bt < B0 := by omega
        have hBs : bs < B0 := by omega
        have hB0 : w.heap.size ≤ B0 := by have := HUK.out.size; omega
        have h7t : bt ≠ b7 := by omega
        have h8t : bt ≠ b8 := by omega
        have h7s : bs ≠ b7 := by omega
        have h8s : bs ≠ b8 := by omega
        have hw7 : w.heap.size ≤ b7 := by have := HU1.out.size; omega
        have hw8 : w.heap.size ≤ b8 := by have := HU1.out.size; omega
        have HEB : Hid _ := eB
        clear hK uK HT1 HU1 hl7 hl8 huk eB hmk7 hmk8 hb7 hb8 hbt1 hbs1
        go_wp2_with fail
        go_loopw [9, 10] (fun v i w' => ∃ (i0 : Nat) (st : Dk.St) (hl : List Nat), i0 ≤ L ∧ i0 ≤ 60 ∧ i = .int .i64 i0 ∧ w'.ownsRow B0 27 1 v hl.length (Dk.ws hl) ∧ hl.length ≤ i0 ∧ Hid (Dk.Tab w' bt bs i0 st) ∧ Hid (st.length = n) ∧ Hid (Dk.Book w' b7 b8 st) ∧ Hid (∀ x ∈ hl, x < 18446744073709551616) ∧ Hid (Below w.heap.size w w') ∧ Hid (B0 ≤ w'.heap.size)) (fun v i w' => L - (intOf i).toNat)
        case atStart =>
          refine ⟨0, _, [], Nat.zero_le _, Nat.zero_le _, rfl, ?_, Nat.zero_le _, HTK.out.up (Dk.up_alloc (Below.refl _ _) _), HL1.out, HK1.out.up (Dk.up_alloc (Below.refl _ _) _), fun x hx => absurd hx (by simp), Dk.up_alloc HUK.out _, by simp; rw [HEB.out]; exact Nat.le_succ _⟩
          exact World.ownsRow_lit wc #[] 0 (by rw [HEB.out]; exact Nat.le_refl _) (Nat.zero_le _) rfl
        case round =>
          obtain ⟨i, st, hl, hi, hi6, rfl, hown, hlen, HT, HL, HK, HO, HB, HS⟩ := hrel
          clear HTK HK1 HUK HL1
          by_cases hlt : i < L
          · by_cases hl6 : i < 60
            · obtain ⟨b, o, rfl, hb, hc⟩ := Dk.act_cell HR.out (by omega)
              obtain ⟨ac, ha1, ha2, ha3, hc1, hc2, hc3⟩ := hc i hlt
              have y6 : decide ((i : Int) < 60) = true := by simp; omega
              obtain ⟨wh, nn, hh⟩ := ac
              clear hc
              by_cases hwh : wh = 0
              · subst hwh
                obtain ⟨A', C', rfl, hcells⟩ := Dk.owns_words hown
                obtain ⟨wo, rfl⟩ : ∃ wo, wo = wr := ⟨_, rfl⟩
                have HOW : Hid _ := hown
                have c1 : wo.cell? ⟨b, o + i * 3, none⟩ = some (.int .i64 0) := by rw [HB.out.cell (by show b < w.heap.size; exact hb)]; exact hc1
                clear hown hcells hc1 hc2 hc3
                go_wp2_with fail
                go_loopw [11] (fun k w' => ∃ k0 : Nat, k0 ≤ Dk.least st ∧ k = .int .i64 k0 ∧ Hid (w' = wo)) (fun k w' => n - (intOf k).toNat)
                case atStart => exact ⟨0, Nat.zero_le _, rfl, rfl⟩
                case round =>
                  obtain ⟨k, hk, rfl, HW⟩ := hrel
                  have hll := Dk.least_le st
                  by_cases hkl : k < Dk.least st
                  · have hku := Dk.least_us hkl
                    have hkn : k < n := by have := HL.out; omega
                    have ck : wr.cell? ⟨b8, k, none⟩ = some (.bool true) := by rw [HW.out, HK.out.used.cell, Dk.ucs_at _ _ (by omega), hku]
                    clear hku hll c1
                    as_aux_lemma =>
                     go_wp2_with fail
                     go_roundw
                     case rel => exact ⟨k + 1, by omega, by go_num, HW⟩
                     case measure => simp [intOf]; omega
                  · have hke : Dk.least st = k := by omega
                    have hln := HL.out
                    have HKE : Hid _ := hke
                    have HTr : Hid (Dk.Tab wr bt bs i st) := by rw [HW.out]; exact HT.out
                    have HKr : Hid (Dk.Book wr b7 b8 st) := by rw [HW.out]; exact HK.out
                    have HBr : Hid (Below w.heap.size w wr) := by rw [HW.out]; exact HB.out
                    have HSr : Hid (B0 ≤ wr.heap.size) := by rw [HW.out]; exact HS.out
                    have HOWr : Hid (wr.ownsRow B0 27 1 (.slice A' hl.length C') hl.length (Dk.ws hl)) := by rw [HW.out]; exact HOW.out
                    by_cases hkn : k < n
                    · have hkf : Dk.us st k = false := by rw [← hke]; exact Dk.least_free (by omega)
                      have ck : wr.cell? ⟨b8, k, none⟩ = some (.bool false) := by rw [HKr.out.used.cell, Dk.ucs_at _ _ (by omega), hkf]
                      obtain ⟨t, et⟩ : ∃ t, Dk.tk st k = t := ⟨_, rfl⟩
                      have ht : t ≤ 60 := by rw [← et]; exact Nat.le_trans (HTr.out.small.2 k) (by omega)
                      obtain ⟨sa, esa⟩ : ∃ sa, Dk.taken st = sa := ⟨_, rfl⟩
                      have esp : Dk.put st k (t + 1) true = sa := by rw [← esa, ← et, ← hke]; rfl
                      have etk : Dk.tk sa k = t + 1 := by rw [← esp, Dk.tk_put _ _ _ _ _ (by omega), if_pos rfl]
                      obtain ⟨h, eh⟩ : ∃ h, Dk.hd sa k = h := ⟨_, rfl⟩
                      have ehv : h = (t + 1) * 65536 + k + 1 := by rw [← eh]; unfold Dk.hd; rw [etk]
                      have K8 := Take_yes bt bs i st sa k h wr HTr.out (by omega) hke (by omega) esa eh
                      have HEV : Hid _ := ehv
                      have HTK2 : Hid _ := etk
                      have HSP : Hid _ := esp
                      have HLa : Hid (sa.length = n) := by rw [← esa]; exact (Dk.taken_len _).trans HL.out
                      have HET : Hid _ := et
                      have yk : ((k : Int) == (n : Int)) = false := by simp; omega
                      have hh : h < 18446744073709551616 := by omega
                      have yh : ((h : Int) != ((t : Int) + 1) * 65536 + (k : Int) + 1) = false := by simp; omega
                      have hk1 : k < 1024 := by omega
                      have hks : k < st.length := by omega
                      clear hke hkf et esa esp etk eh ehv hll hln c1 HT HK HB HS HOW HL
                      as_aux_lemma =>
                       go_wp2_with fail
                       refine K8.mono ?_
                       rintro e wa ⟨rfl, hTa, ga⟩
                       have HTa : Hid _ := hTa
                       have HKa : Hid (Dk.Book wa b7 b8 st) := HKr.out.far ga (Ne.symm h7s) (Ne.symm h8s)
                       have HBa : Hid _ := Dk.up_far HBr.out ga hbs
                       have HSa : Hid _ := Nat.le_trans HSr.out ga.size
                       have HOWa : Hid _ := Dk.owns_far HOWr.out ga hBs
                       clear hTa ga HTr HKr HBr HSr HOWr K8 ck
                       obtain ⟨wb, eb⟩ : ∃ wb, wa.setCell ⟨b8, k, none⟩ (.bool true) = wb := ⟨_, rfl⟩
                       obtain ⟨wd, ed⟩ : ∃ wd, wb.setCell ⟨b7, k, none⟩ (.int .u64 ((t : Int) + 1)) = wd := ⟨_, rfl⟩
                       have a1 : wa.cell? ⟨b8, k, none⟩ = some (.bool (Dk.us st k)) := by rw [HKa.out.used.cell]; exact Dk.ucs_at _ _ hks
                       have a2 : wa.frozen? ⟨b8, k, none⟩ = false := HKa.out.used.frozen _
                       have bx : Dk.Box wb b7 (Dk.tcs st) 27 := eb ▸ HKa.out.taken.set_other hn78 _ _
                       have a3 : wb.cell? ⟨b7, k, none⟩ = some (.int .u64 (t : Nat)) := by rw [bx.cell, Dk.tcs_at _ _ hks, HET.out]
                       have a4 : wb.frozen? ⟨b7, k, none⟩ = false := bx.frozen _
                       have HKd : Hid (Dk.Book wd b7 b8 sa) := by rw [← ed, ← eb, ← HSP.out]; exact HKa.out.put k (t + 1) true
                       have a5 : wd.cell? ⟨b7, k, none⟩ = some (.int .u64 ((t : Int) + 1)) := by rw [HKd.out.taken.cell, Dk.tcs_at _ _ (by have := HLa.out; omega), HTK2.out]; rfl
                       have HTd : Hid (Dk.Tab wd bt bs (i + 1) sa) := by rw [← ed, ← eb]; exact (HTa.out.set_other h8t h8s).set_other h7t h7s
                       have HBd : Hid (Below w.heap.size w wd) := by rw [← ed, ← eb]; exact Dk.up_set (Dk.up_set HBa.out hw8 _) hw7 _
                       have HSd : Hid (B0 ≤ wd.heap.size) := by rw [← ed, ← eb]; simp only [World.setCell, Array.size_modify]; exact HSa.out
                       have HOWd : wd.ownsRow B0 27 1 (.slice A' hl.length C') hl.length (Dk.ws hl) := by rw [← ed, ← eb]; exact ownsRow_setCell_below (ownsRow_setCell_below HOWa.out (show b8 < B0 from hB8) _) (show b7 < B0 from hB7) _
                       have HEb : Hid _ := eb
                       have HEd : Hid _ := ed
                       clear eb ed bx HTa HKa HBa HSa HOWa
                       go_wp2_with (first | (rw [HEb.out]; clear HEb) | (rw [HEd.out]; clear HEd) | (at_builtin; refine wpList_append_own _ rfl _ _ 25 rfl B0 27 i0 (.int .u64 0) 1 8 Try.underlying25 hi0 hz0 hz1 hz2 rfl (by decide) _ _ _ rfl (HOWd.alloc _) ⟨wd.heap.size, 0, none⟩ 1 1 [.int .u64 (h : Int)] rfl rfl ?c1 ?c2 ?c3 ?c4 ?c5 ?_))
                       case c1 => exact one_new wd _ (.int .u64 (h : Int)) 27 rfl
                       case c2 => intro u hu; simp at hu; subst hu; rfl
                       case c3 => unfold maxLen; omega
                       case c4 => omega
                       case c5 => have := HSd.out; simp; omega
                       · intro v' wz hown' hgrow _
                         have HOWz : Hid (wz.ownsRow B0 27 1 v' (hl ++ [h]).length (Dk.ws (hl ++ [h]))) := by
                           have e1 : (hl ++ [h]).length = hl.length + 1 := by simp
                           have e2 : Dk.ws (hl ++ [h]) = Dk.ws hl ++ [.int .u64 (h : Int)] := by simp [Dk.ws]
                           show wz.ownsRow B0 27 1 v' (hl ++ [h]).length (Dk.ws (hl ++ [h]))
                           rw [e1, e2]
                           exact hown'
                         have hgr : ∀ k, Value.ownBlock (.slice A' hl.length C') = some k → B0 ≤ k := fun k hk => (HOWd.lt k hk).1
                         have HTz : Hid (Dk.Tab wz bt bs (i + 1) sa) := (HTd.out.up (Dk.up_alloc (Below.refl _ _) _)).grown hgrow hgr hBt hBs
                         have HKz : Hid (Dk.Book wz b7 b8 sa) := (HKd.out.up (Dk.up_alloc (Below.refl _ _) _)).grown hgrow hgr hB7 hB8
                         have HBz : Hid (Below w.heap.size w wz) := (Dk.up_alloc HBd.out _).grown hgrow (by simp; have := HBd.out.size; omega) (fun k hk => Nat.le_trans hB0 (hgr k hk))
                         have HSz : Hid (B0 ≤ wz.heap.size) := by have := hgrow.size; have h2 := HSd.out; simp at this; exact Nat.le_trans h2 (by omega)
                         have HOz : Hid (∀ x ∈ hl ++ [h], x < 18446744073709551616) := fun x hx => by
                           rcases List.mem_append.1 hx with hx | hx
                           · exact HO.out x hx
                           · rw [List.mem_singleton] at hx
                             rw [hx]
                             exact hh
                         clear hown' hgrow hgr HOWd HTd HKd HBd HSd HO a1 a2 a3 a4 a5
                         go_wp2_with fail
                         go_roundw
                         case rel => exact ⟨i + 1, sa, hl ++ [h], by omega, by omega, by go_num, HOWz.out, by simp; omega, HTz, HLa, HKz, HOz, HBz, HSz⟩
                         case measure => simp [intOf]; omega
                    · have K8 := Take_no bt bs i st wr HTr.out (by omega) (by omega)
                      have hkn' : k = n := by omega
                      have yk : ((k : Int) == (n : Int)) = true := by simp; omega
                      clear hke hll hln c1 HT HK HB HS HOW hkn'
                      as_aux_lemma =>
                       go_wp2_with fail
                       refine K8.mono ?_
                       rintro e wa ⟨rfl, hTa, ga⟩
                       have HTa : Hid _ := hTa.more (Nat.le_succ i)
                       have HKa : Hid (Dk.Book wa b7 b8 st) := HKr.out.far ga (Ne.symm h7s) (Ne.symm h8s)
                       have HBa : Hid _ := Dk.up_far HBr.out ga hbs
                       have HSa : Hid _ := Nat.le_trans HSr.out ga.size
                       have HOWa : Hid _ := Dk.owns_far HOWr.out ga hBs
                       clear hTa ga HTr HKr HBr HSr HOWr K8
                       go_wp2_with fail
                       go_roundw
                       case rel => exact ⟨i + 1, st, hl, by omega, by omega, by go_num, HOWa.out, by omega, HTa, HL, HKa, HO, HBa, HSa⟩
                       case measure => simp [intOf]; omega
              · obtain ⟨A', C', rfl, hcells⟩ := Dk.owns_words hown
                have HOW : Hid _ := hown
                have HCE : Hid _ := hcells
                have c1 : wr.cell? ⟨b, o + i * 3, none⟩ = some (.int .i64 wh) := by rw [HB.out.cell (by show b < w.heap.size; exact hb)]; exact hc1
                have c2 : wr.cell? ⟨b, o + i * 3 + 1, none⟩ = some (.int .i64 nn) := by rw [HB.out.cell (by show b < w.heap.size; exact hb)]; exact hc2
                have c3 : wr.cell? ⟨b, o + i * 3 + 2, none⟩ = some (.int .u64 (hh : Nat)) := by rw [HB.out.cell (by show b < w.heap.size; exact hb)]; exact hc3
                have ywh : ((wh : Int) == 0) = false := by simpa using hwh
                have hh64 : hh < 18446744073709551616 := ha3
                have hnn : Dk.i64 nn := ha2
                clear hown hcells hc1 hc2 hc3 ha1 ha2 ha3
                go_upto_region 26 with fail
                go_cut [131] from 37 to 212 (fun s w' => s = .bool (decide (0 < hl.length) && decide (0 ≤ nn)) ∧ w' = wr)
                case first =>
                  by_cases hp : 0 < hl.length
                  · have yl : decide ((0 : Int) < (hl.length : Int)) = true := by simp; omega
                    by_cases hq : 0 ≤ nn
                    · have yn : decide ((0 : Int) ≤ nn) = true := by simp; omega
                      go_wp2_with fail
                      go_meet
                      exact ⟨by simp [hp, hq], rfl⟩
                    · have yn : decide ((0 : Int) ≤ nn) = false := by simp; omega
                      go_wp2_with fail
                      go_meet
                      exact ⟨by simp [hp, hq], rfl⟩
                  · have yl : decide ((0 : Int) < (hl.length : Int)) = false := by rw [show hl.length = 0 by omega]; rfl
                    go_wp2_with fail
                    go_meet
                    exact ⟨by simp [hp], rfl⟩
                case rest =>
                  obtain ⟨rfl, hw⟩ := hcut
                  subst wc
                  go_upto_if 131 with fail
                  go_cut [15] from 37 to 212 (fun s w' => (∃ x : Nat, x < 18446744073709551616 ∧ s = .int .u64 (x : Int)) ∧ w' = wr)
                  case first =>
                    by_cases hp : 0 < hl.length ∧ 0 ≤ nn
                    · have yp : (decide (0 < hl.length) && decide (0 ≤ nn)) = true := by simp [hp.1, hp.2]
                      rw [yp]
                      obtain ⟨hp1, hp2⟩ := hp
                      obtain ⟨N, rfl⟩ : ∃ N : Nat, nn = N := ⟨nn.toNat, by omega⟩
                      obtain ⟨r, er⟩ : ∃ r, N % hl.length = r := ⟨_, rfl⟩
                      have hrl : r < hl.length := by rw [← er]; exact Nat.mod_lt _ hp1
                      have qr : ((N : Int) % (hl.length : Int)) = r := by rw [← er]; rfl
                      obtain ⟨g, rfl, hgB, hgc⟩ := HCE.out hp1
                      obtain ⟨x, ex⟩ : ∃ x, hl.getD r 0 = x := ⟨_, rfl⟩
                      have cu : wr.cell? ⟨g, r, none⟩ = some (.int .u64 (x : Nat)) := by rw [← ex]; exact hgc r hrl
                      have hx : x < 18446744073709551616 := HO.out x (by rw [← ex]; simp [List.getD, hrl])
                      clear er ex hgc HCE yp
                      go_wp2_with fail
                      go_meet
                      exact ⟨⟨x, hx, rfl⟩, rfl⟩
                    · have yp : (decide (0 < hl.length) && decide (0 ≤ nn)) = false := by
                        rw [← Bool.not_eq_true, Bool.and_eq_true]
                        simpa using hp
                      rw [yp]
                      clear yp
                      go_wp2_with fail
                      go_meet
                      exact ⟨⟨hh, hh64, rfl⟩, rfl⟩
                  case rest =>
                    obtain ⟨⟨x, hx, rfl⟩, hw⟩ := hcut
                    subst wc
                    have hln := HL.out
                    have HTm : Hid (Dk.Tab wr bt bs (i + 1) st) := HT.out.more (Nat.le_succ i)
                    clear c1 c2 c3 ywh HCE
                    by_cases hk0 : x % 65536 = 0
                    · have ef : Dk.find st x = none := by unfold Dk.find; rw [if_pos hk0]
                      have q : ((x : Int) % 65536) = 0 := by omega
                      have K9 := Find_any bt bs i st x wr HT.out (by omega) hx
                      rw [ef] at K9
                      have K10 := Free_no bt bs i st x wr HT.out (by omega) hx ef
                      clear ef
                      clear hln
                      clear hk0 HT
                      as_aux_lemma =>
                       go_wp2_with (first | (go_at_call 9; refine K9.mono ?_; rintro e w' ⟨rfl, hw'⟩; subst w') | (go_at_call 10; refine K10.mono ?_; rintro e w' ⟨rfl, hw'⟩; subst w'))
                       go_roundw
                       case rel =>
                        exact ⟨i + 1, st, hl, by omega, by omega, by go_num, HOW.out, by omega, HTm, HL, HK, HO, HB, HS⟩
                       case measure => simp [intOf]; omega
                    · obtain ⟨k, hk⟩ : ∃ k, x % 65536 = k + 1 := ⟨x % 65536 - 1, by omega⟩
                      have q : ((x : Int) % 65536) = k + 1 := by omega
                      have hk6 : k < 65536 := by omega
                      have ef0 : Dk.find st x = if Dk.us st k && Dk.hd st k == x then some k else none := by unfold Dk.find; rw [if_neg hk0, hk, Nat.add_sub_cancel]
                      by_cases hkn : k < n
                      · have hks : k < st.length := by omega
                        obtain ⟨t, et⟩ : ∃ t, Dk.tk st k = t := ⟨_, rfl⟩
                        have b1 : wr.cell? ⟨b7, k, none⟩ = some (.int .u64 (t : Nat)) := by rw [HK.out.taken.cell, Dk.tcs_at _ _ hks, et]
                        have b2 : wr.cell? ⟨b8, k, none⟩ = some (.bool (Dk.us st k)) := by rw [HK.out.used.cell, Dk.ucs_at _ _ hks]
                        have b3 : wr.frozen? ⟨b8, k, none⟩ = false := HK.out.used.frozen _
                        have hhd : Dk.hd st k = t * 65536 + k + 1 := by unfold Dk.hd; rw [et]
                        obtain ⟨d, ed⟩ : ∃ d, x / 65536 = d := ⟨_, rfl⟩
                        have qd : ((x : Int) / 65536) = d := by omega
                        cases hu : Dk.us st k
                        · rw [hu] at b2 ef0
                          have ef : Dk.find st x = none := by rw [ef0]; rfl
                          have K9 := Find_any bt bs i st x wr HT.out (by omega) hx
                          rw [ef] at K9
                          have K10 := Free_no bt bs i st x wr HT.out (by omega) hx ef
                          clear ef
                          clear hln hk hhd ef0 hu ed et
                          clear hk0 HT
                          as_aux_lemma =>
                           go_wp2_with (first | (go_at_call 9; refine K9.mono ?_; rintro e w' ⟨rfl, hw'⟩; subst w') | (go_at_call 10; refine K10.mono ?_; rintro e w' ⟨rfl, hw'⟩; subst w'))
                           go_roundw
                           case rel =>
                            exact ⟨i + 1, st, hl, by omega, by omega, by go_num, HOW.out, by omega, HTm, HL, HK, HO, HB, HS⟩
                           case measure => simp [intOf]; omega
                        · rw [hu] at b2 ef0
                          by_cases hxd : d = t
                          · have ehx : Dk.hd st k = x := by rw [hhd]; omega
                            have ef : Dk.find st x = some k := by rw [ef0, ehx]; simp
                            have K9 := Find_any bt bs i st x wr HT.out (by omega) hx
                            rw [ef] at K9
                            have K10 := Free_yes bt bs i st x k wr HT.out (by omega) hx ef
                            obtain ⟨wa, ea⟩ : ∃ wa, wr.setCell ⟨bs, k * 2 + 1, none⟩ (.bool false) = wa := ⟨_, rfl⟩
                            rw [ea] at K10
                            obtain ⟨wd, ew⟩ : ∃ wd, wa.setCell ⟨b8, k, none⟩ (.bool false) = wd := ⟨_, rfl⟩
                            have HKa : Dk.Book wa b7 b8 st := by rw [← ea]; exact HK.out.set_other (Ne.symm h7s) (Ne.symm h8s)
                            have a1 : wa.cell? ⟨b8, k, none⟩ = some (.bool true) := by rw [HKa.used.cell, Dk.ucs_at _ _ hks, hu]
                            have a2 : wa.frozen? ⟨b8, k, none⟩ = false := HKa.used.frozen _
                            obtain ⟨sa, esa⟩ : ∃ sa, Dk.put st k (Dk.tk st k) false = sa := ⟨_, rfl⟩
                            have HTd : Hid (Dk.Tab wd bt bs (i + 1) sa) := by rw [← ew, ← ea, ← esa]; exact ((HT.out.flag k false hks).set_other h8t h8s).more (Nat.le_succ i)
                            have HKd : Hid (Dk.Book wd b7 b8 sa) := by rw [← ew, ← esa]; exact HKa.flag k false hks
                            have HLd : Hid (sa.length = n) := by rw [← esa]; exact (Dk.put_len _ _ _ _).trans HL.out
                            have HBd : Hid (Below w.heap.size w wd) := by rw [← ew, ← ea]; exact Dk.up_set (Dk.up_set HB.out hbs _) hw8 _
                            have HSd : Hid (B0 ≤ wd.heap.size) := by rw [← ew, ← ea]; simp only [World.setCell, Array.size_modify]; exact HS.out
                            have HOWd : Hid (wd.ownsRow B0 27 1 (.slice A' hl.length C') hl.length (Dk.ws hl)) := by rw [← ew, ← ea]; exact ownsRow_setCell_below (ownsRow_setCell_below HOW.out (show bs < B0 from hBs) _) (show b8 < B0 from hB8) _
                            have HEw : Hid _ := ew
                            have yq : ((d : Int) == (t : Int)) = true := by simp; omega
                            have ykk : ((k : Int) != (k : Int)) = false := by simp
                            clear hln hk hhd ef0 ef hu ed et ehx ea ew esa HKa HT HL HB HS HOW HK HTm hxd
                            as_aux_lemma =>
                             go_wp2_with (first | (go_at_call 9; refine K9.mono ?_; rintro e w' ⟨rfl, hw'⟩; subst w') | (go_at_call 10; refine K10.mono ?_; rintro e w' ⟨rfl, hw'⟩; subst w') | (rw [HEw.out]; clear HEw))
                             try rw [HEw.out]
                             go_roundw
                             case rel =>
                              exact ⟨i + 1, sa, hl, by omega, by omega, by go_num, HOWd.out, by omega, HTd, HLd, HKd, HO, HBd, HSd⟩
                             case measure => simp [intOf]; omega
                          · have ehx : ¬ Dk.hd st k = x := by rw [hhd]; omega
                            have ef : Dk.find st x = none := by rw [ef0]; simp [ehx]
                            have K9 := Find_any bt bs i st x wr HT.out (by omega) hx
                            rw [ef] at K9
                            have K10 := Free_no bt bs i st x wr HT.out (by omega) hx ef
                            clear ef
                            have yq : ((d : Int) == (t : Int)) = false := by simp; omega
                            clear hln hk hhd ef0 hu ed et ehx
                            clear hk0 HT
                            as_aux_lemma =>
                             go_wp2_with (first | (go_at_call 9; refine K9.mono ?_; rintro e w' ⟨rfl, hw'⟩; subst w') | (go_at_call 10; refine K10.mono ?_; rintro e w' ⟨rfl, hw'⟩; subst w'))
                             go_roundw
                             case rel =>
                              exact ⟨i + 1, st, hl, by omega, by omega, by go_num, HOW.out, by omega, HTm, HL, HK, HO, HB, HS⟩
                             case measure => simp [intOf]; omega
                      · have hu : Dk.us st k = false := by
                          cases h : Dk.us st k
                          · rfl
                          · have := Dk.us_lt h; omega
                        have ef : Dk.find st x = none := by rw [ef0, hu]; rfl
                        have K9 := Find_any bt bs i st x wr HT.out (by omega) hx
                        rw [ef] at K9
                        have K10 := Free_no bt bs i st x wr HT.out (by omega) hx ef
                        clear ef
                        clear hln hk ef0 hu
                        clear hk0 HT
                        as_aux_lemma =>
                         go_wp2_with (first | (go_at_call 9; refine K9.mono ?_; rintro e w' ⟨rfl, hw'⟩; subst w') | (go_at_call 10; refine K10.mono ?_; rintro e w' ⟨rfl, hw'⟩; subst w'))
                         go_roundw
                         case rel =>
                          exact ⟨i + 1, st, hl, by omega, by omega, by go_num, HOW.out, by omega, HTm, HL, HK, HO, HB, HS⟩
                         case measure => simp [intOf]; omega
            · have y6 : decide ((i : Int) < 60) = false := by simp; omega
              obtain ⟨A', C', rfl, hcells⟩ := Dk.owns_words hown
              clear hown hcells HO
              obtain ⟨wo, rfl⟩ : ∃ wo, wo = wr := ⟨_, rfl⟩
              go_wp2_with fail
              go_loopw [21, 22] (fun v k w' => ∃ k0 : Nat, k0 ≤ n ∧ k = .int .i64 k0 ∧ w'.ownsRow B0 3 1 v (Dk.usl st k0).length ((Dk.usl st k0).map (Value.int .i64)) ∧ Hid (Dk.Tab w' bt bs i st) ∧ Hid (Dk.Book w' b7 b8 st) ∧ Hid (Below w.heap.size w w') ∧ Hid (B0 ≤ w'.heap.size)) (fun v k w' => n - (intOf k).toNat)
              case atStart =>
                refine ⟨0, Nat.zero_le _, rfl, ?_, HT.out.up (Dk.up_alloc (Below.refl _ _) _), HK.out.up (Dk.up_alloc (Below.refl _ _) _), Dk.up_alloc HB.out _, Nat.le_trans HS.out (Dk.up_alloc (Below.refl wo.heap.size wo) _).size⟩
                exact World.ownsRow_lit wo #[] 0 HS.out (Nat.zero_le _) rfl
              case round =>
                obtain ⟨k, hk, rfl, hown, HTr, HKr, HBr, HSr⟩ := hrel
                clear HT HK HB HS
                have hln := HL.out
                by_cases hkn : k < n
                · have hks : k < st.length := by omega
                  obtain ⟨t, et⟩ : ∃ t, Dk.tk st k = t := ⟨_, rfl⟩
                  have ht : t ≤ 60 := by rw [← et]; exact Nat.le_trans (HTr.out.small.2 k) hi6
                  have b1 : wr.cell? ⟨b7, k, none⟩ = some (.int .u64 (t : Nat)) := by rw [HKr.out.taken.cell, Dk.tcs_at _ _ hks, et]
                  have b2 : wr.cell? ⟨b8, k, none⟩ = some (.bool (Dk.us st k)) := by rw [HKr.out.used.cell, Dk.ucs_at _ _ hks]
                  have hul := Dk.usl_len st k
                  cases hu : Dk.us st k
                  · rw [hu] at b2
                    have K11 := Handle_no bt bs i st (k : Int) wr HTr.out (by simp [hu])
                    have HO1 : Hid (wr.ownsRow B0 3 1 u21 (Dk.usl st (k + 1)).length ((Dk.usl st (k + 1)).map (Value.int .i64))) := by rw [Dk.usl_no hu]; exact hown
                    clear hu hown hln et
                    as_aux_lemma =>
                     go_wp2_with (go_at_call 11; refine K11.mono ?_; rintro e w' ⟨rfl, hw'⟩; subst w')
                     go_roundw
                     case rel => exact ⟨k + 1, by omega, by go_num, HO1.out, HTr, HKr, HBr, HSr⟩
                     case measure => simp [intOf]; omega
                  · rw [hu] at b2
                    have K11 := Handle_yes bt bs i st k wr HTr.out (by omega) hu
                    obtain ⟨h, eh⟩ : ∃ h, Dk.hd st k = h := ⟨_, rfl⟩
                    rw [eh] at K11
                    have ehv : h = t * 65536 + k + 1 := by rw [← eh]; unfold Dk.hd; rw [et]
                    have yh : ((h : Int) != (t : Int) * 65536 + (k : Int) + 1) = false := by simp; omega
                    have hh : h < 18446744073709551616 := by omega
                    have HUF : Hid _ := hu
                    clear hu hln et eh ehv
                    as_aux_lemma =>
                     go_wp2_with (first | (go_at_call 11; refine K11.mono ?_; rintro e w' ⟨rfl, hw'⟩; subst w') | (at_builtin; refine wpList_append_own _ rfl _ _ 36 rfl B0 3 j0 (.int .i64 0) 1 8 Try.underlying36 hj0 hy0 hy1 hy2 rfl (by decide) _ _ _ rfl (hown.alloc _) ⟨wr.heap.size, 0, none⟩ 1 1 [.int .i64 (k : Int)] rfl rfl ?c1 ?c2 ?c3 ?c4 ?c5 ?_))
                     case c1 => exact one_new wr _ (.int .i64 (k : Int)) 3 rfl
                     case c2 => intro u hu; simp at hu; subst hu; rfl
                     case c3 => unfold maxLen; omega
                     case c4 => omega
                     case c5 => have := HSr.out; simp; omega
                     · intro v' wz hown' hgrow _
                       have HOz : Hid (wz.ownsRow B0 3 1 v' (Dk.usl st (k + 1)).length ((Dk.usl st (k + 1)).map (Value.int .i64))) := by
                         rw [Dk.usl_yes HUF.out, List.length_append, List.map_append]
                         exact hown'
                       have hgr : ∀ q, Value.ownBlock _ = some q → B0 ≤ q := fun q hq => (hown.lt q hq).1
                       have HTz : Hid (Dk.Tab wz bt bs i st) := (HTr.out.up (Dk.up_alloc (Below.refl _ _) _)).grown hgrow hgr hBt hBs
                       have HKz : Hid (Dk.Book wz b7 b8 st) := (HKr.out.up (Dk.up_alloc (Below.refl _ _) _)).grown hgrow hgr hB7 hB8
                       have HBz : Hid (Below w.heap.size w wz) := (Dk.up_alloc HBr.out _).grown hgrow (by simp; have := HBr.out.size; omega) (fun q hq => Nat.le_trans hB0 (hgr q hq))
                       have HSz : Hid (B0 ≤ wz.heap.size) := by have := hgrow.size; have h2 := HSr.out; simp at this; exact Nat.le_trans h2 (by omega)
                       clear hown' hgrow hgr hown HTr HKr HBr HSr b1 b2
                       go_wp2_with fail
                       go_roundw
                       case rel => exact ⟨k + 1, by omega, by go_num, HOz.out, HTz, HKz, HBz, HSz⟩
                       case measure => simp [intOf]; omega
                · have hke : k = st.length := by omega
                  have hul := Dk.usl_len st st.length
                  rw [hke] at hown
                  obtain ⟨us, eus⟩ : ∃ us, Dk.usl st st.length = us := ⟨_, rfl⟩
                  have hi8 : ∀ x ∈ us, Dk.i64 x := fun x hx => by
                    rw [← eus] at hx
                    obtain ⟨j, rfl, hj, _⟩ := Dk.usl_mem hx
                    unfold Dk.i64
                    omega
                  rw [eus] at hown hul
                  obtain ⟨A4, C4, rfl, hS⟩ := Dk.owns_ints hown hi8 (by unfold maxLen; omega)
                  have HS4 : Hid _ := hS
                  have HUS : Hid _ := eus
                  clear hS eus hi8 hown hke hln
                  as_aux_lemma =>
                   go_wp2_with fail
                   refine (awake_any _).mono ?_
                   rintro e w2 ⟨rfl, h2⟩
                   have K14 := Used_any bt bs i st w2 (HTr.out.up h2)
                   rw [HUS.out] at K14
                   have HB2 : Hid _ := Dk.up_call HBr.out h2
                   have HS2 : Hid _ := Dk.sli_up HS4.out h2
                   clear h2 HTr HBr HS4
                   go_wp2_with fail
                   refine K14.mono ?_
                   rintro e w3 ⟨A3, C3, rfl, hS3, u3⟩
                   have K13 := Ints_same _ _ _ _ _ _ w3 hS3 (Dk.sli_up HS2.out u3)
                   have HB3 : Hid _ := Dk.up_call HB2.out u3
                   clear hS3 u3 HB2 HS2 K14
                   go_wp2_with fail
                   refine K13.mono ?_
                   rintro e w4 ⟨rfl, h4⟩
                   go_wp2_with fail
                   go_ret
                   exact ⟨rfl, Dk.up_call HB3.out h4⟩
          · obtain ⟨A', C', rfl, hcells⟩ := Dk.owns_words hown
            clear hown hcells HO
            obtain ⟨wo, rfl⟩ : ∃ wo, wo = wr := ⟨_, rfl⟩
            go_wp2_with fail
            go_loopw [21, 22] (fun v k w' => ∃ k0 : Nat, k0 ≤ n ∧ k = .int .i64 k0 ∧ w'.ownsRow B0 3 1 v (Dk.usl st k0).length ((Dk.usl st k0).map (Value.int .i64)) ∧ Hid (Dk.Tab w' bt bs i st) ∧ Hid (Dk.Book w' b7 b8 st) ∧ Hid (Below w.heap.size w w') ∧ Hid (B0 ≤ w'.heap.size)) (fun v k w' => n - (intOf k).toNat)
            case atStart =>
              refine ⟨0, Nat.zero_le _, rfl, ?_, HT.out.up (Dk.up_alloc (Below.refl _ _) _), HK.out.up (Dk.up_alloc (Below.refl _ _) _), Dk.up_alloc HB.out _, Nat.le_trans HS.out (Dk.up_alloc (Below.refl wo.heap.size wo) _).size⟩
              exact World.ownsRow_lit wo #[] 0 HS.out (Nat.zero_le _) rfl
            case round =>
              obtain ⟨k, hk, rfl, hown, HTr, HKr, HBr, HSr⟩ := hrel
              clear HT HK HB HS
              have hln := HL.out
              by_cases hkn : k < n
              · have hks : k < st.length := by omega
                obtain ⟨t, et⟩ : ∃ t, Dk.tk st k = t := ⟨_, rfl⟩
                have ht : t ≤ 60 := by rw [← et]; exact Nat.le_trans (HTr.out.small.2 k) hi6
                have b1 : wr.cell? ⟨b7, k, none⟩ = some (.int .u64 (t : Nat)) := by rw [HKr.out.taken.cell, Dk.tcs_at _ _ hks, et]
                have b2 : wr.cell? ⟨b8, k, none⟩ = some (.bool (Dk.us st k)) := by rw [HKr.out.used.cell, Dk.ucs_at _ _ hks]
                have hul := Dk.usl_len st k
                cases hu : Dk.us st k
                · rw [hu] at b2
                  have K11 := Handle_no bt bs i st (k : Int) wr HTr.out (by simp [hu])
                  have HO1 : Hid (wr.ownsRow B0 3 1 u21 (Dk.usl st (k + 1)).length ((Dk.usl st (k + 1)).map (Value.int .i64))) := by rw [Dk.usl_no hu]; exact hown
                  clear hu hown hln et
                  as_aux_lemma =>
                   go_wp2_with (go_at_call 11; refine K11.mono ?_; rintro e w' ⟨rfl, hw'⟩; subst w')
                   go_roundw
                   case rel => exact ⟨k + 1, by omega, by go_num, HO1.out, HTr, HKr, HBr, HSr⟩
                   case measure => simp [intOf]; omega
                · rw [hu] at b2
                  have K11 := Handle_yes bt bs i st k wr HTr.out (by omega) hu
                  obtain ⟨h, eh⟩ : ∃ h, Dk.hd st k = h := ⟨_, rfl⟩
                  rw [eh] at K11
                  have ehv : h = t * 65536 + k + 1 := by rw [← eh]; unfold Dk.hd; rw [et]
                  have yh : ((h : Int) != (t : Int) * 65536 + (k : Int) + 1) = false := by simp; omega
                  have hh : h < 18446744073709551616 := by omega
                  have HUF : Hid _ := hu
                  clear hu hln et eh ehv
                  as_aux_lemma =>
                   go_wp2_with (first | (go_at_call 11; refine K11.mono ?_; rintro e w' ⟨rfl, hw'⟩; subst w') | (at_builtin; refine wpList_append_own _ rfl _ _ 36 rfl B0 3 j0 (.int .i64 0) 1 8 Try.underlying36 hj0 hy0 hy1 hy2 rfl (by decide) _ _ _ rfl (hown.alloc _) ⟨wr.heap.size, 0, none⟩ 1 1 [.int .i64 (k : Int)] rfl rfl ?c1 ?c2 ?c3 ?c4 ?c5 ?_))
                   case c1 => exact one_new wr _ (.int .i64 (k : Int)) 3 rfl
                   case c2 => intro u hu; simp at hu; subst hu; rfl
                   case c3 => unfold maxLen; omega
                   case c4 => omega
                   case c5 => have := HSr.out; simp; omega
                   · intro v' wz hown' hgrow _
                     have HOz : Hid (wz.ownsRow B0 3 1 v' (Dk.usl st (k + 1)).length ((Dk.usl st (k + 1)).map (Value.int .i64))) := by
                       rw [Dk.usl_yes HUF.out, List.length_append, List.map_append]
                       exact hown'
                     have hgr : ∀ q, Value.ownBlock _ = some q → B0 ≤ q := fun q hq => (hown.lt q hq).1
                     have HTz : Hid (Dk.Tab wz bt bs i st) := (HTr.out.up (Dk.up_alloc (Below.refl _ _) _)).grown hgrow hgr hBt hBs
                     have HKz : Hid (Dk.Book wz b7 b8 st) := (HKr.out.up (Dk.up_alloc (Below.refl _ _) _)).grown hgrow hgr hB7 hB8
                     have HBz : Hid (Below w.heap.size w wz) := (Dk.up_alloc HBr.out _).grown hgrow (by simp; have := HBr.out.size; omega) (fun q hq => Nat.le_trans hB0 (hgr q hq))
                     have HSz : Hid (B0 ≤ wz.heap.size) := by have := hgrow.size; have h2 := HSr.out; simp at this; exact Nat.le_trans h2 (by omega)
                     clear hown' hgrow hgr hown HTr HKr HBr HSr b1 b2
                     go_wp2_with fail
                     go_roundw
                     case rel => exact ⟨k + 1, by omega, by go_num, HOz.out, HTz, HKz, HBz, HSz⟩
                     case measure => simp [intOf]; omega
              · have hke : k = st.length := by omega
                have hul := Dk.usl_len st st.length
                rw [hke] at hown
                obtain ⟨us, eus⟩ : ∃ us, Dk.usl st st.length = us := ⟨_, rfl⟩
                have hi8 : ∀ x ∈ us, Dk.i64 x := fun x hx => by
                  rw [← eus] at hx
                  obtain ⟨j, rfl, hj, _⟩ := Dk.usl_mem hx
                  unfold Dk.i64
                  omega
                rw [eus] at hown hul
                obtain ⟨A4, C4, rfl, hS⟩ := Dk.owns_ints hown hi8 (by unfold maxLen; omega)
                have HS4 : Hid _ := hS
                have HUS : Hid _ := eus
                clear hS eus hi8 hown hke hln
                as_aux_lemma =>
                 go_wp2_with fail
                 refine (awake_any _).mono ?_
                 rintro e w2 ⟨rfl, h2⟩
                 have K14 := Used_any bt bs i st w2 (HTr.out.up h2)
                 rw [HUS.out] at K14
                 have HB2 : Hid _ := Dk.up_call HBr.out h2
                 have HS2 : Hid _ := Dk.sli_up HS4.out h2
                 clear h2 HTr HBr HS4
                 go_wp2_with fail
                 refine K14.mono ?_
                 rintro e w3 ⟨A3, C3, rfl, hS3, u3⟩
                 have K13 := Ints_same _ _ _ _ _ _ w3 hS3 (Dk.sli_up HS2.out u3)
                 have HB3 : Hid _ := Dk.up_call HB2.out u3
                 clear hS3 u3 HB2 HS2 K14
                 go_wp2_with fail
                 refine K13.mono ?_
                 rintro e w4 ⟨rfl, h4⟩
                 go_wp2_with fail
                 go_ret
                 exact ⟨rfl, Dk.up_call HB3.out h4⟩

end Go.Proofs.Ytlbbejndglpclaa
