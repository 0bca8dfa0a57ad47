/- The walk of the statement on handles that are told once. -/
import Derived.Test.YtlbbejndglpclaaSo
namespace Go.Proofs.Ytlbbejndglpclaa
set_option linter.unusedSimpArgs false
set_option linter.unusedVariables false
set_option linter.unnecessarySimpa false
open Go.RowKit

set_option maxRecDepth 100000 in
set_option maxHeartbeats 2000000 in
theorem SlotOnce_any (s : Nat) (hs : s < 256) (A : Option Addr) (L C : Nat) (xs : List Nat) (w : World) (hr : Dk.Row 1 0 Dk.IsByte w.heap.size w A L C xs) :
    Calls Try.prog 4 #[.int .u8 (s : Nat), .slice A L C] w fun e w' => e = .returned (.bool true) ∧ Below w.heap.size w w' := by
  obtain ⟨m, hm⟩ : ∃ m, s % 6 = m := ⟨_, rfl⟩
  have hm9 : m < 6 := by omega
  have q : ((s : Int) % 6) = m := by omega
  have hcap := hr.cap
  have hmax := hr.max
  unfold maxLen at hmax
  have hcl : Dk.clamp (m : Int) = m := by unfold Dk.clamp; rw [if_neg (by omega), if_neg (by omega)]; omega
  have HCL : Hid _ := hcl
  obtain ⟨i0, hi0, hz0, hz1, hz2⟩ := info_parts info27
  clear hm hcl
  go_enter Try.func4, Try.ntmps4
  go_wp2_with fail
  refine (New_any (m : Int) (by unfold Dk.i64; omega) w).mono ?_
  rintro e w1 ⟨rfl, h1, u1, z1⟩
  rw [HCL.out] at h1
  clear q
  generalize ebt : w.heap.size + 1 = bt at h1
  generalize ebs : w.heap.size = bs at h1
  have hbt : w.heap.size ≤ bt := by omega
  have hbs : w.heap.size ≤ bs := by omega
  obtain ⟨B0, eB⟩ : ∃ B0, w1.heap.size = B0 := ⟨_, rfl⟩
  have hbt0 : bt < B0 := by omega
  have hbs0 : bs < B0 := by omega
  have hB0 : w.heap.size ≤ B0 := by omega
  have hl1 : (Dk.blank m).length = m := by simp [Dk.blank]
  have HT1 : Hid _ := h1
  have HU1 : Hid _ := u1
  have HL1 : Hid _ := hl1
  have HR : Hid _ := hr
  have HEB : Hid _ := eB
  clear h1 u1 hl1 z1 hr ebt ebs eB
  go_wp2_with fail
  go_loopw [6, 7] (fun v i w' => ∃ (i0 : Nat) (st : Dk.St) (hs : List Nat), i0 ≤ L ∧ i0 ≤ 60 ∧ i = .int .i64 i0 ∧ w'.ownsRow B0 27 1 v hs.length (Dk.ws hs) ∧ hs.length ≤ i0 ∧ Hid (Dk.Tab w' bt bs i0 st) ∧ Hid (st.length = m) ∧ Hid (∀ x ∈ hs, Dk.Old st x) ∧ Hid (Below w.heap.size w w') ∧ Hid (B0 ≤ w'.heap.size)) (fun v i w' => L - (intOf i).toNat)
  case atStart =>
    refine ⟨0, _, [], Nat.zero_le _, Nat.zero_le _, rfl, ?_, Nat.zero_le _, HT1.out.up (Dk.up_alloc (Below.refl _ _) _), HL1.out, fun x hx => absurd hx (by simp), Dk.up_alloc HU1.out _, by simp; rw [HEB.out]; exact Nat.le_succ _⟩
    exact World.ownsRow_lit w1 #[] 0 (by rw [HEB.out]; exact Nat.le_refl _) (Nat.zero_le _) rfl
  case round =>
    obtain ⟨i, st, hl, hi, hi6, rfl, hown, hlen, HT, HL, HO, HB, HS⟩ := hrel
    by_cases hlt : i < L
    · by_cases hl6 : i < 60
      · obtain ⟨b, o, rfl, hb, hc⟩ := byte_cell HR.out (by omega)
        obtain ⟨f, hf⟩ : ∃ f, xs.getD i 0 = f := ⟨_, rfl⟩
        have hf8 : f < 256 := by rw [← hf]; exact (hc i hlt).2
        have cf : ∀ w', Below w.heap.size w w' → w'.cell? ⟨b, o + i, none⟩ = some (.int .u8 (f : Nat)) := fun w' hB => by rw [hB.cell (by show b < w.heap.size; exact hb), ← hf]; exact (hc i hlt).1
        have HC : Hid _ := cf
        clear hc hf cf
        have y6 : decide ((i : Int) < 60) = true := by simp; omega
        have K8 := Take_all bt bs i st wr HT.out (by omega)
        obtain ⟨A', C', rfl, hcells⟩ := Dk.owns_words hown
        have HOW : Hid _ := hown
        have HCE : Hid _ := hcells
        clear hown hcells
        go_wp2_with fail
        refine K8.mono ?_
        rintro e wa (⟨hle, rfl, hTa, ga⟩ | ⟨hle, rfl, hTa, ga⟩)
        · have hle4 := HT.out.small.1
          obtain ⟨h, eh⟩ : ∃ h, Dk.hd (Dk.taken st) (Dk.least st) = h := ⟨_, rfl⟩
          have hh : h < 18446744073709551616 := by rw [← eh]; exact Dk.hd_lt hTa.small (by omega) (by omega)
          have HNE : Hid (∀ x ∈ hl, x ≠ h) := fun x hx => by rw [← eh]; exact (HO.out x hx).fresh hle hle4
          obtain ⟨sa, esa⟩ : ∃ sa, Dk.taken st = sa := ⟨_, rfl⟩
          have HOa : Hid (∀ x ∈ hl ++ [h], Dk.Old sa x) := fun x hx => by
            rcases List.mem_append.1 hx with hx | hx
            · rw [← esa]; exact (HO.out x hx).taken hle
            · rw [List.mem_singleton] at hx
              rw [hx, ← eh, ← esa]
              exact Dk.Old.new hle
          have HLa : Hid (sa.length = m) := by rw [← esa]; exact (Dk.taken_len _).trans HL.out
          rw [eh]
          rw [esa] at hTa
          have HTa : Hid _ := hTa
          have HBa : Hid _ := Dk.up_far HB.out ga hbs
          have HOWa : Hid _ := Dk.owns_far HOW.out ga hbs0
          have HSa : Hid _ := Nat.le_trans HS.out ga.size
          generalize Dk.least st = kk
          clear hTa ga eh esa hle hle4 K8 HT HL HO HB HOW HCE
          go_wp2_with fail
          go_loopw [11] (fun k w' => ∃ k0 : Nat, k0 ≤ hl.length ∧ k = .int .i64 k0 ∧ Hid (w' = wa)) (fun k w' => hl.length - (intOf k).toNat)
          case atStart => exact ⟨0, Nat.zero_le _, rfl, rfl⟩
          case round =>
            obtain ⟨j, hj, rfl, HW⟩ := hrel
            by_cases hjl : j < hl.length
            · obtain ⟨A3, C3, e3, hc3⟩ := Dk.owns_words HOWa.out
              obtain ⟨rfl, rfl⟩ : A' = A3 ∧ C' = C3 := by simpa using e3
              obtain ⟨g, rfl, hgB, hgc⟩ := hc3 (by omega)
              obtain ⟨x, ex⟩ : ∃ x, hl.getD j 0 = x := ⟨_, rfl⟩
              have cu : wr.cell? ⟨g, j, none⟩ = some (.int .u64 (x : Nat)) := by rw [HW.out, ← ex]; exact hgc j hjl
              have hxn : x ≠ h := HNE.out x (by rw [← ex]; simp [List.getD, hjl])
              have y1 : ((x : Int) == (h : Int)) = false := by simp; omega
              clear ex hgc hc3 e3
              go_wp2_with fail
              go_roundw
              case rel => exact ⟨j + 1, by omega, by go_num, HW⟩
              case measure => simp [intOf]; omega
            · have HOWr : wr.ownsRow B0 27 1 (.slice A' hl.length C') hl.length (Dk.ws hl) := by rw [HW.out]; exact HOWa.out
              have HTr : Hid (Dk.Tab wr bt bs (i + 1) sa) := by rw [HW.out]; exact HTa.out
              have HBr : Hid (Below w.heap.size w wr) := by rw [HW.out]; exact HBa.out
              have hB0r : B0 ≤ wr.heap.size := by rw [HW.out]; exact HSa.out
              clear HTa HBa HOWa HW
              go_wp2_with (at_builtin; refine wpList_append_own _ rfl _ _ 25 rfl B0 27 i0 (.int .u64 0) 1 8 Try.underlying25 hi0 hz0 hz1 hz2 rfl (by decide) _ _ _ rfl (HOWr.alloc _) ⟨wr.heap.size, 0, none⟩ 1 1 [.int .u64 (h : Int)] rfl rfl ?c1 ?c2 ?c3 ?c4 ?c5 ?_)
              case c1 => exact one_new wr _ (.int .u64 (h : Int)) 27 rfl
              case c2 => intro u hu; simp at hu; subst hu; rfl
              case c3 => unfold maxLen; omega
              case c4 => omega
              case c5 => simp; omega
              · intro v' wz hown' hgrow _
                obtain ⟨hz, ehz⟩ : ∃ hz, hl ++ [h] = hz := ⟨_, rfl⟩
                have hzl : hz.length = hl.length + 1 := by rw [← ehz]; simp
                have hown2 : wz.ownsRow B0 27 1 v' hz.length (Dk.ws hz) := by rw [← ehz, List.length_append]; simpa [Dk.ws] using hown'
                have hgr : ∀ k, Value.ownBlock (.slice A' hl.length C') = some k → B0 ≤ k := fun k hk => (HOWr.lt k hk).1
                have HTz : Hid (Dk.Tab wz bt bs (i + 1) sa) := (HTr.out.up (Dk.up_alloc (Below.refl _ _) _)).grown hgrow hgr hbt0 hbs0
                have HBz : Hid (Below w.heap.size w wz) := (Dk.up_alloc HBr.out _).grown hgrow (by simp; have := HBr.out.size; omega) (fun k hk => Nat.le_trans hB0 (hgr k hk))
                have HOz : Hid (∀ x ∈ hz, Dk.Old sa x) := by rw [← ehz]; exact HOa.out
                have HLz := HLa
                have HSz : Hid (B0 ≤ wz.heap.size) := by have := hgrow.size; simp at this; exact Nat.le_trans hB0r (by omega)
                have hzi : hz.length ≤ i + 1 := by omega
                obtain ⟨A2, C2, rfl, hcells2⟩ := Dk.owns_words hown2
                have HOWz : Hid _ := hown2
                have HCz : Hid _ := hcells2
                have hpos : 0 < hz.length := by omega
                clear hown' hgrow HOWr HTr HBr hcells2 hown2 ehz HOa HLa hgr HNE hzl hB0r HSa
                obtain ⟨r, er⟩ : ∃ r, f % hz.length = r := ⟨_, rfl⟩
                have hrl : r < hz.length := by rw [← er]; exact Nat.mod_lt _ hpos
                have qr : ((f : Int) % (hz.length : Int)) = r := by rw [← er]; rfl
                have ypos : decide ((0 : Int) < (hz.length : Int)) = true := by simp; omega
                obtain ⟨g, rfl, hgB, hgc⟩ := HCz.out hpos
                obtain ⟨x, ex⟩ : ∃ x, hz.getD r 0 = x := ⟨_, rfl⟩
                have cu : wz.cell? ⟨g, r, none⟩ = some (.int .u64 (x : Nat)) := by rw [← ex]; exact hgc r hrl
                have hxm : x ∈ hz := by rw [← ex]; simp [List.getD, hrl]
                have cfz := HC.out wz HBz.out
                have hx64 : x < 18446744073709551616 := (HOz.out x hxm).lt HTz.out.small (by omega)
                have K10 : Calls Try.prog 10 #[.pointer (some ⟨bt, 0, none⟩), .int .u64 (x : Nat)] wz fun e w' => ∃ c : Int, e = .returned (.int .i64 c) ∧ Dk.Tab w' bt bs (i + 1) (Dk.freed sa x) ∧ wz.grownBy w' (some bs) := (Free_any bt bs (i + 1) sa x wz HTz.out (by omega) hx64).mono fun e w' h => ⟨_, h⟩
                clear er ex hgc HCz hxm
                go_wp2_with fail
                refine K10.mono ?_
                rintro e wy ⟨c10, rfl, hTy, gy⟩
                have K9 := Find_any bt bs (i + 1) (Dk.freed sa x) x wy hTy (by omega) hx64
                rw [Dk.freed_find] at K9
                have K10' := Free_no bt bs (i + 1) (Dk.freed sa x) x wy hTy (by omega) hx64 (Dk.freed_find _ _)
                have HTy : Hid _ := hTy
                have HOWy : Hid _ := Dk.owns_far HOWz.out gy hbs0
                have HBy : Hid _ := Dk.up_far HBz.out gy hbs
                have HSy : Hid _ := Nat.le_trans HSz.out gy.size
                clear hTy gy K10 cu cfz
                go_wp2_with (first | (go_at_call 9; refine K9.mono ?_; rintro e w' ⟨rfl, hw'⟩; subst w') | (go_at_call 10; refine K10'.mono ?_; rintro e w' ⟨rfl, hw'⟩; subst w'))
                go_roundw
                case rel => exact ⟨i + 1, Dk.freed sa x, hz, by omega, by omega, by go_num, HOWy.out, by omega, HTy, (Dk.freed_len _ _).trans HLz.out, fun y hy => (HOz.out y hy).freed x, HBy, HSy⟩
                case measure => simp [intOf]; omega
        · have HTa : Hid _ := hTa.more (Nat.le_succ i)
          have HBa : Hid _ := Dk.up_far HB.out ga hbs
          have HOWa : Hid _ := Dk.owns_far HOW.out ga hbs0
          have HSa : Hid _ := Nat.le_trans HS.out ga.size
          by_cases hpos : 0 < hl.length
          · obtain ⟨hz, ehz⟩ : ∃ hz, hl = hz := ⟨_, rfl⟩
            obtain ⟨sa, esa⟩ : ∃ sa, st = sa := ⟨_, rfl⟩
            obtain ⟨wz, ewz⟩ : ∃ wz, wa = wz := ⟨_, rfl⟩
            subst ehz
            subst esa
            subst ewz
            have HTz := HTa
            have HBz := HBa
            have HOz := HO
            have HLz := HL
            have HOWz := HOWa
            have HSz := HSa
            obtain ⟨A3, C3, e3, hc3⟩ := Dk.owns_words HOWa.out
            obtain ⟨rfl, rfl⟩ : A' = A3 ∧ C' = C3 := by simpa using e3
            have HCz : Hid _ := hc3
            clear hTa ga hle K8 HT HL HO HB HOW HCE HTa HBa HOWa hc3 e3
            obtain ⟨r, er⟩ : ∃ r, f % hl.length = r := ⟨_, rfl⟩
            have hrl : r < hl.length := by rw [← er]; exact Nat.mod_lt _ hpos
            have qr : ((f : Int) % (hl.length : Int)) = r := by rw [← er]; rfl
            have ypos : decide ((0 : Int) < (hl.length : Int)) = true := by simp; omega
            obtain ⟨g, rfl, hgB, hgc⟩ := HCz.out hpos
            obtain ⟨x, ex⟩ : ∃ x, hl.getD r 0 = x := ⟨_, rfl⟩
            have cu : wa.cell? ⟨g, r, none⟩ = some (.int .u64 (x : Nat)) := by rw [← ex]; exact hgc r hrl
            have hxm : x ∈ hl := by rw [← ex]; simp [List.getD, hrl]
            have cfz := HC.out wa HBz.out
            have hx64 : x < 18446744073709551616 := (HOz.out x hxm).lt HTz.out.small (by omega)
            have K10 : Calls Try.prog 10 #[.pointer (some ⟨bt, 0, none⟩), .int .u64 (x : Nat)] wa fun e w' => ∃ c : Int, e = .returned (.int .i64 c) ∧ Dk.Tab w' bt bs (i + 1) (Dk.freed st x) ∧ wa.grownBy w' (some bs) := (Free_any bt bs (i + 1) st x wa HTz.out (by omega) hx64).mono fun e w' h => ⟨_, h⟩
            clear er ex hgc HCz hxm
            go_wp2_with fail
            refine K10.mono ?_
            rintro e wy ⟨c10, rfl, hTy, gy⟩
            have K9 := Find_any bt bs (i + 1) (Dk.freed st x) x wy hTy (by omega) hx64
            rw [Dk.freed_find] at K9
            have K10' := Free_no bt bs (i + 1) (Dk.freed st x) x wy hTy (by omega) hx64 (Dk.freed_find _ _)
            have HTy : Hid _ := hTy
            have HOWy : Hid _ := Dk.owns_far HOWz.out gy hbs0
            have HBy : Hid _ := Dk.up_far HBz.out gy hbs
            have HSy : Hid _ := Nat.le_trans HSz.out gy.size
            clear hTy gy K10 cu cfz
            go_wp2_with (first | (go_at_call 9; refine K9.mono ?_; rintro e w' ⟨rfl, hw'⟩; subst w') | (go_at_call 10; refine K10'.mono ?_; rintro e w' ⟨rfl, hw'⟩; subst w'))
            go_roundw
            case rel => exact ⟨i + 1, Dk.freed st x, hl, by omega, by omega, by go_num, HOWy.out, by omega, HTy, (Dk.freed_len _ _).trans HLz.out, fun y hy => (HOz.out y hy).freed x, HBy, HSy⟩
            case measure => simp [intOf]; omega
          · obtain rfl : hl = [] := List.eq_nil_of_length_eq_zero (by omega)
            clear hTa ga hle K8
            go_wp2_with fail
            go_roundw
            case rel => exact ⟨i + 1, st, [], by omega, by omega, by go_num, HOWa.out, Nat.zero_le _, HTa, HL, HO, HBa, HSa⟩
            case measure => simp [intOf]; omega
      · have y6 : decide ((i : Int) < 60) = false := by simp; omega
        obtain ⟨A', C', rfl, hcells⟩ := Dk.owns_words hown
        clear hown hcells
        go_wp2_with fail
        refine (awake_any _).mono ?_
        rintro e w2 ⟨rfl, hb⟩
        go_wp2_with fail
        go_ret
        exact ⟨rfl, Dk.up_call HB.out hb⟩
    · obtain ⟨A', C', rfl, hcells⟩ := Dk.owns_words hown
      clear hown hcells
      go_wp2_with fail
      refine (awake_any _).mono ?_
      rintro e w2 ⟨rfl, hb⟩
      go_wp2_with fail
      go_ret
      exact ⟨rfl, Dk.up_call HB.out hb⟩

end Go.Proofs.Ytlbbejndglpclaa
