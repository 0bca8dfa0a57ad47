/- The walk of the statement on plays. -/
import Derived.Test.YtiaegeaogleepaaWz
namespace Go.Proofs.Ytiaegeaogleepaa
set_option linter.unusedSimpArgs false
set_option linter.unusedVariables false
set_option linter.unnecessarySimpa false
open Go.RowKit Go.Maps

theorem min_now {n0 i : Nat} (h : n0 ≤ i) (hi : i ≤ 100) : min ((n0 : Int) + 1) 1099511627776 = (n0 : Int) + 1 := by omega

set_option maxRecDepth 100000 in
set_option maxHeartbeats 20000000 in
theorem WheelPlays_any (A : Option Addr) (L C : Nat) (ac : List (List Int)) (w : World) (h : Dk.Row 2 [] Dk.IsInts w.heap.size w A L C ac) :
    Calls Try.prog 3 #[.slice A L C] w fun e w' => e = .returned (.bool true) ∧ Below w.heap.size w w' := by
  have hcap := h.cap
  have hmax := h.max
  unfold maxLen at hmax
  have HH : Hid _ := h
  clear h
  go_enter Try.func3, Try.ntmps3
  go_wp2_with fail
  refine (New_any w).mono ?_
  rintro e w1 ⟨rfl, h1, u1⟩
  obtain ⟨bd, ebd⟩ : ∃ bd, w.heap.size + 1 = bd := ⟨_, rfl⟩
  rw [ebd] at h1 ⊢
  have p1 := Pk.begin h1 u1
  have p2 := ((p1.empty rfl).empty rfl).perm (List.Perm.swap _ _ _)
  clear h1 u1 ebd p1
  go_wp2_with fail
  go_loopw [4, 5, 6, 7] (fun u v nw i w' => ∃ (i0 n0 : Nat) (Lw : List (Int × Int)) (A1 A2 : Option Addr) (C1 C2 : Nat), i0 ≤ L ∧ i0 ≤ 100 ∧ i = .int .i64 i0 ∧ nw = .int .i64 n0 ∧ n0 ≤ i0 ∧ u = .slice A1 (Dk.keysOf Lw).length C1 ∧ v = .slice A2 (Dk.endsOf Lw).length C2 ∧
      Pk w i0 bd w' n0 Lw [(.slice A1 (Dk.keysOf Lw).length C1, Dk.keysOf Lw), (.slice A2 (Dk.endsOf Lw).length C2, Dk.endsOf Lw)] [] ∧ Hid (Lw.length ≤ i0)) (fun u v nw i w' => L - (intOf i).toNat)
  case atStart => exact ⟨0, 0, [], _, _, _, _, Nat.zero_le _, Nat.zero_le _, rfl, rfl, Nat.le_refl _, rfl, rfl, by simpa [Dk.keysOf, Dk.endsOf] using p2, Nat.le_refl _⟩
  case round =>
    clear p2
    obtain ⟨i, n0, Lw, A1, A2, C1, C2, hi, hi1, rfl, rfl, hn0, rfl, rfl, hP, HL⟩ := hrel
    obtain ⟨ks, eks⟩ : ∃ ks, Dk.keysOf Lw = ks := ⟨_, rfl⟩
    obtain ⟨es, ees⟩ : ∃ es, Dk.endsOf Lw = es := ⟨_, rfl⟩
    have hkl : ks.length ≤ 100 := by have := HL.out; rw [← eks, Dk.keys_length]; omega
    have hel : es.length ≤ 100 := by have := HL.out; rw [← ees, Dk.ends_length]; omega
    rw [eks, ees] at hP ⊢
    have HKS : Hid _ := eks
    have HES : Hid _ := ees
    have HLK : Hid (ks.length = Lw.length) := by rw [← eks]; exact Dk.keys_length _
    have HLE : Hid (es.length = Lw.length) := by rw [← ees]; exact Dk.ends_length _
    clear eks ees
    by_cases hc : i < L ∧ i < 100
    · obtain ⟨hlt, hl6⟩ := hc
      obtain ⟨b, o, rfl, hb, hc⟩ := Dk.act2_cell HH.out (by omega)
      obtain ⟨q, y, hq, hy, cq, cy⟩ := hc i hlt
      have c1 : wr.cell? ⟨b, o + i * 2, none⟩ = some (.int .i64 q) := by rw [hP.out.cell (by show b < w.heap.size; exact hb)]; exact cq
      have c2 : wr.cell? ⟨b, o + i * 2 + 1, none⟩ = some (.int .i64 y) := by rw [hP.out.cell (by show b < w.heap.size; exact hb)]; exact cy
      have y6 : decide ((i : Int) < 100) = true := by simp; omega
      have HQ : Hid _ := hq
      have HY : Hid _ := hy
      clear hc hq hy cq cy
      by_cases y0 : y = 0
      · subst y0
        have pT := (((hP.below (Dk.up_alloc (Below.refl _ _) (.cells #[.int .i64 q, .int .i64 0] 27))).empty rfl).empty rfl).empty rfl
        generalize wr = wa at *
        clear HQ HY hP
        go_wp2_with fail
        clear c1 c2
        go_loopw [9, 10, 11, 12] (fun d l e k w' => ∃ (k0 : Nat) (dl ll el : List Int) (g3 C3 : Nat) (A4 A5 : Option Addr) (C4 C5 : Nat), k0 ≤ ks.length ∧ d = .slice (some ⟨g3, 0, none⟩) dl.length C3 ∧ l = .slice A4 ll.length C4 ∧ e = .slice A5 el.length C5 ∧ k = .int .i64 k0 ∧ dl.length ≤ k0 ∧ ll.length ≤ k0 ∧ el.length ≤ k0 ∧
            Pk w i bd w' n0 Lw [(.slice A5 el.length C5, el), (.slice A4 ll.length C4, ll), (.slice (some ⟨g3, 0, none⟩) dl.length C3, dl), (.slice A1 ks.length C1, ks), (.slice A2 es.length C2, es)] [] ∧ Hid (Dk.Went3 ((n0 : Int) + 1) Lw k0 dl ll el)) (fun d l e k w' => ks.length - (intOf k).toNat)
        case atStart => exact ⟨0, [], [], [], _, _, _, _, _, _, Nat.zero_le _, rfl, rfl, rfl, rfl, Nat.le_refl _, Nat.le_refl _, Nat.le_refl _, by simpa using pT, Dk.Went3.start⟩
        case round =>
          clear pT
          obtain ⟨k, dl, ll, el, g3, C3, A4, A5, C4, C5, hk, rfl, rfl, rfl, rfl, hd, hll, hee, hR, HW3⟩ := hrel
          by_cases hkk : k < ks.length
          · have hke : k < es.length := by have := HLK.out; have := HLE.out; omega
            have HKL : Hid (k < Lw.length) := by have := HLK.out; show k < Lw.length; omega
            obtain ⟨x, ex⟩ : ∃ x, ks.getD k 0 = x := ⟨_, rfl⟩
            obtain ⟨c, ec⟩ : ∃ c, es.getD k 0 = c := ⟨_, rfl⟩
            have HX : Hid ((Dk.keysOf Lw).getD k 0 = x) := by rw [HKS.out]; exact ex
            have HC : Hid ((Dk.endsOf Lw).getD k 0 = c) := by rw [HES.out]; exact ec
            have HXK : Hid _ := ex
            have hx64 : Dk.i64 x ∧ Dk.i64 c := by
              have hs1 := hR.slice (A := A1) (C := C1) (xs := ks) (by simp)
              have hs2 := hR.slice (A := A2) (C := C2) (xs := es) (by simp)
              exact ⟨hs1.wf _ (by rw [← ex]; simp [List.getD, hkk]), hs2.wf _ (by rw [← ec]; simp [List.getD, hke])⟩
            have HX64 : Hid _ := hx64.1
            have HC64 : Hid _ := hx64.2
            have s1 := hR.slice (A := A1) (C := C1) (xs := ks) (by simp)
            have s2 := hR.slice (A := A2) (C := C2) (xs := es) (by simp)
            have hC1 := s1.cap
            have hM1 := s1.max
            have hC2 := s2.cap
            have hM2 := s2.max
            unfold maxLen at hM1 hM2
            obtain ⟨b1, o1, rfl, hz1, hz2⟩ := s1.cells (by omega)
            obtain ⟨b2, o2, rfl, hz3, hz4⟩ := s2.cells (by omega)
            clear hz1 hz2 hz3 hz4
            have cx : wr.cell? ⟨b1, o1 + k, none⟩ = some (.int .i64 x) := by rw [← ex]; exact hR.cell (b := b1) (o := o1) (xs := ks) (C := C1) (by simp) hkk
            have cc : wr.cell? ⟨b2, o2 + k, none⟩ = some (.int .i64 c) := by rw [← ec]; exact hR.cell (b := b2) (o := o2) (xs := es) (C := C2) (by simp) hke
            clear ex hx64 s1 s2
            by_cases hct : (n0 : Int) + 1 < c
            · have yc : decide (c > (n0 : Int) + 1) = true := by simpa using hct
              have HW4 : Hid _ := HW3.out.stay HKL.out HX.out HC.out hct
              obtain ⟨A6, C6, w6, r6, p6⟩ := Pk.append (us1 := [(.slice A5 el.length C5, el)]) (us2 := [(.slice (some ⟨g3, 0, none⟩) dl.length C3, dl), (.slice (some ⟨b1, o1, none⟩) ks.length C1, ks), (.slice (some ⟨b2, o2, none⟩) es.length C2, es)]) hR x HX64.out (by omega)
              have cc6 : w6.cell? ⟨b2, o2 + k, none⟩ = some (.int .i64 c) := by rw [← ec]; exact p6.cell (b := b2) (o := o2) (xs := es) (C := C2) (by simp) hke
              obtain ⟨A7, C7, w7, r7, p7⟩ := Pk.append (us1 := []) (us2 := [(.slice A6 (ll.length + 1) C6, ll ++ [x]), (.slice (some ⟨g3, 0, none⟩) dl.length C3, dl), (.slice (some ⟨b1, o1, none⟩) ks.length C1, ks), (.slice (some ⟨b2, o2, none⟩) es.length C2, es)]) p6 c HC64.out (by omega)
              have HP7 : Hid (Pk w i bd w7 n0 Lw [(.slice A7 (el.length + 1) C7, el ++ [c]), (.slice A6 (ll.length + 1) C6, ll ++ [x]), (.slice (some ⟨g3, 0, none⟩) dl.length C3, dl), (.slice (some ⟨b1, o1, none⟩) ks.length C1, ks), (.slice (some ⟨b2, o2, none⟩) es.length C2, es)] []) := p7
              clear p7 p6 hR ec HW3 hct
              go_wp2_with (first | (at_builtin; refine Lib.wpList_append_run _ rfl _ _ _ _ rfl _ _ rfl rfl _ _ r6 ?_; clear r6) | (at_builtin; refine Lib.wpList_append_run _ rfl _ _ _ _ rfl _ _ rfl rfl _ _ r7 ?_))
              go_roundw
              case rel => exact ⟨k + 1, dl, ll ++ [x], el ++ [c], g3, C3, A6, A7, C6, C7, by omega, rfl, by simp, by simp, by go_num, by omega, by simp; omega, by simp; omega, by simpa using HP7.out, HW4.out⟩
              case measure => simp [intOf]; omega
            · have yc : decide (c > (n0 : Int) + 1) = false := by simpa using hct
              generalize wr = wb at *
              clear ec
              go_wp2_with fail
              clear cx cc
              go_loopw [13] (fun a w' => ∃ a0 : Nat, a0 ≤ dl.length ∧ a = .int .i64 a0 ∧ Pk w i bd w' n0 Lw [(.slice A5 el.length C5, el), (.slice A4 ll.length C4, ll), (.slice (some ⟨g3, 0, none⟩) dl.length C3, dl), (.slice (some ⟨b1, o1, none⟩) ks.length C1, ks), (.slice (some ⟨b2, o2, none⟩) es.length C2, es)] [] ∧ Hid (∀ j, j < a0 → dl.getD j 0 < x)) (fun a w' => dl.length - (intOf a).toNat)
              case atStart => exact ⟨0, Nat.zero_le _, rfl, hR, fun j hj => absurd hj (Nat.not_lt_zero _)⟩
              case round =>
                clear hR
                obtain ⟨a0, ha, rfl, hR2, HA⟩ := hrel
                have s3 := hR2.slice (A := some ⟨g3, 0, none⟩) (C := C3) (xs := dl) (by simp)
                have hC3 := s3.cap
                have hM3 := s3.max
                unfold maxLen at hM3
                clear s3
                have cxq : ∀ q, (wr.drewN q).cell? ⟨b1, o1 + k, none⟩ = some (.int .i64 x) := fun q => by
                  have := hR2.cell (b := b1) (o := o1) (xs := ks) (C := C1) (by simp) hkk
                  rw [HXK.out] at this
                  exact this
                by_cases haa : a0 < dl.length
                · obtain ⟨z, ez⟩ : ∃ z, dl.getD a0 0 = z := ⟨_, rfl⟩
                  have czq : ∀ q, (wr.drewN q).cell? ⟨g3, a0, none⟩ = some (.int .i64 z) := fun q => by
                    have := hR2.cell (b := g3) (o := 0) (xs := dl) (C := C3) (by simp) haa
                    rw [Nat.zero_add, ez] at this
                    exact this
                  have HZ : Hid _ := ez
                  clear ez
                  by_cases hz : z < x
                  · have yz : decide (z < x) = true := by simpa using hz
                    have HA2 : Hid (∀ j, j < a0 + 1 → dl.getD j 0 < x) := fun j hj => by
                      by_cases e : j = a0
                      · rw [e, HZ.out]; exact hz
                      · exact HA.out j (by omega)
                    have HR2 : Hid _ := fun q => hR2.below (Dk.up_drewN (Below.refl _ _) q)
                    clear hR2 HA HZ hz
                    go_wp2_with fail
                    go_quiet (fail)
                    go_wp2_with fail
                    go_roundw
                    case rel => exact ⟨a0 + 1, by omega, by go_num, HR2.out nq, HA2.out⟩
                    case measure => simp [intOf]; omega
                  · have yz : decide (z < x) = false := by simpa using hz
                    go_wp2_with fail
                    go_quiet (fail)
                    go_wp2_with fail
                    have hpl : a0 ≤ dl.length := by omega
                    have hW4 := HW3.out.gone (p := a0) (x := x) (c := c) HKL.out HX.out HC.out (by omega) hpl HA.out (fun _ => by rw [HZ.out]; omega)
                    have hR3 := hR2.below (Dk.up_drewN (Below.refl _ _) nq)
                    obtain ⟨wd, ewd⟩ : ∃ wd, wr.drewN nq = wd := ⟨_, rfl⟩
                    rw [ewd] at hR3
                    have HWD : Hid _ := ewd
                    have row := ((Hid.out hR3).rows (.slice (some ⟨g3, 0, none⟩) dl.length C3, dl) (by simp)).1
                    have cxd : wd.cell? ⟨b1, o1 + k, none⟩ = some (.int .i64 x) := by rw [← HXK.out]; exact hR3.cell (b := b1) (o := o1) (xs := ks) (C := C1) (by simp) hkk
                    have hb1 : b1 < wd.heap.size := Dk.lt_of_cell cxd
                    have HW4 : Hid _ := hW4
                    clear hW4 hR2 ewd czq cxq
                    rw [HWD.out]
                    refine region21 _ _ w.heap.size g3 C3 a0 b1 o1 ks.length C1 k dl x rfl rfl rfl rfl (by simp) row hpl (by omega) hkk hb1 cxd ?_
                    intro v86 v90 v95 v96 g' C' V hV uV
                    have hlen : (Dk.insAt dl a0 x).length = dl.length + 1 := Dk.ins_length dl a0 x
                    have hR4 : Pk w i bd V n0 Lw [(.slice A5 el.length C5, el), (.slice A4 ll.length C4, ll), (.slice (some ⟨g', 0, none⟩) (Dk.insAt dl a0 x).length C', Dk.insAt dl a0 x), (.slice (some ⟨b1, o1, none⟩) ks.length C1, ks), (.slice (some ⟨b2, o2, none⟩) es.length C2, es)] [] :=
                      Pk.fresh (us1 := [(.slice A5 el.length C5, el), (.slice A4 ll.length C4, ll)]) (us2 := [(.slice (some ⟨b1, o1, none⟩) ks.length C1, ks), (.slice (some ⟨b2, o2, none⟩) es.length C2, es)]) (u := (.slice (some ⟨g3, 0, none⟩) dl.length C3, dl)) (u' := (.slice (some ⟨g', 0, none⟩) (Dk.insAt dl a0 x).length C', Dk.insAt dl a0 x)) hR3 uV (by rw [hlen]; exact hV) (fun z hz => by
                        rcases List.mem_cons.1 ((Dk.ins_perm dl a0 x).mem_iff.1 hz) with e | hz
                        · rw [e]; exact HX64.out
                        · exact ((Hid.out hR3).rows (.slice (some ⟨g3, 0, none⟩) dl.length C3, dl) (by simp)).2.2 z hz)
                    have HLEN : Hid _ := hlen
                    clear hV uV row cxd hb1 hR3 hlen
                    simp only [Act.put, List.setIfInBounds_toArray, List.set_cons_succ, List.set_cons_zero]
                    go_wp2_with fail
                    go_roundw
                    case rel => exact ⟨k + 1, Dk.insAt dl a0 x, ll, el, g', C', A4, A5, C4, C5, by omega, by rw [HLEN.out], rfl, rfl, by go_num, by rw [HLEN.out]; omega, by omega, by omega, hR4, HW4.out⟩
                    case measure => simp [intOf]; omega
                · have e0 : a0 = dl.length := by omega
                  have czq : True := trivial
                  go_wp2_with fail
                  go_quiet (fail)
                  go_wp2_with fail
                  have hpl : a0 ≤ dl.length := by omega
                  have hW4 := HW3.out.gone (p := a0) (x := x) (c := c) HKL.out HX.out HC.out (by omega) hpl HA.out (fun hh => absurd hh (by omega))
                  have hR3 := hR2.below (Dk.up_drewN (Below.refl _ _) nq)
                  obtain ⟨wd, ewd⟩ : ∃ wd, wr.drewN nq = wd := ⟨_, rfl⟩
                  rw [ewd] at hR3
                  have HWD : Hid _ := ewd
                  have row := ((Hid.out hR3).rows (.slice (some ⟨g3, 0, none⟩) dl.length C3, dl) (by simp)).1
                  have cxd : wd.cell? ⟨b1, o1 + k, none⟩ = some (.int .i64 x) := by rw [← HXK.out]; exact hR3.cell (b := b1) (o := o1) (xs := ks) (C := C1) (by simp) hkk
                  have hb1 : b1 < wd.heap.size := Dk.lt_of_cell cxd
                  have HW4 : Hid _ := hW4
                  clear hW4 hR2 ewd czq cxq
                  rw [HWD.out]
                  refine region21 _ _ w.heap.size g3 C3 a0 b1 o1 ks.length C1 k dl x rfl rfl rfl rfl (by simp) row hpl (by omega) hkk hb1 cxd ?_
                  intro v86 v90 v95 v96 g' C' V hV uV
                  have hlen : (Dk.insAt dl a0 x).length = dl.length + 1 := Dk.ins_length dl a0 x
                  have hR4 : Pk w i bd V n0 Lw [(.slice A5 el.length C5, el), (.slice A4 ll.length C4, ll), (.slice (some ⟨g', 0, none⟩) (Dk.insAt dl a0 x).length C', Dk.insAt dl a0 x), (.slice (some ⟨b1, o1, none⟩) ks.length C1, ks), (.slice (some ⟨b2, o2, none⟩) es.length C2, es)] [] :=
                    Pk.fresh (us1 := [(.slice A5 el.length C5, el), (.slice A4 ll.length C4, ll)]) (us2 := [(.slice (some ⟨b1, o1, none⟩) ks.length C1, ks), (.slice (some ⟨b2, o2, none⟩) es.length C2, es)]) (u := (.slice (some ⟨g3, 0, none⟩) dl.length C3, dl)) (u' := (.slice (some ⟨g', 0, none⟩) (Dk.insAt dl a0 x).length C', Dk.insAt dl a0 x)) hR3 uV (by rw [hlen]; exact hV) (fun z hz => by
                      rcases List.mem_cons.1 ((Dk.ins_perm dl a0 x).mem_iff.1 hz) with e | hz
                      · rw [e]; exact HX64.out
                      · exact ((Hid.out hR3).rows (.slice (some ⟨g3, 0, none⟩) dl.length C3, dl) (by simp)).2.2 z hz)
                  have HLEN : Hid _ := hlen
                  clear hV uV row cxd hb1 hR3 hlen
                  simp only [Act.put, List.setIfInBounds_toArray, List.set_cons_succ, List.set_cons_zero]
                  go_wp2_with fail
                  go_roundw
                  case rel => exact ⟨k + 1, Dk.insAt dl a0 x, ll, el, g', C', A4, A5, C4, C5, by omega, by rw [HLEN.out], rfl, rfl, by go_num, by rw [HLEN.out]; omega, by omega, by omega, hR4, HW4.out⟩
                  case measure => simp [intOf]; omega
          · have hall := HW3.out.all (by have := HLK.out; omega)
            obtain ⟨e1, e2, hr, hp⟩ := hall
            subst e1
            subst e2
            have K := Tick_to hR (by omega) ((n0 : Int) + 1) (Dk.leftOf ((n0 : Int) + 1) Lw) dl (min_now hn0 hi1) rfl hr hp
            have HLN : Hid ((Dk.leftOf ((n0 : Int) + 1) Lw).length ≤ i) := Nat.le_trans (Dk.left_length _ _) HL.out
            clear hR hr hp HW3 HL
            generalize Dk.leftOf ((n0 : Int) + 1) Lw = Ln at *
            go_wp2_with fail
            refine K.mono ?_
            rintro _ w2 ⟨A8, C8, rfl, p2⟩
            have K2 := Ints_pk p2 (A := A8) (C := C8) (xs := dl) (A' := some ⟨g3, 0, none⟩) (C' := C3) (ys := dl) (by simp) (by simp) rfl
            clear K p2
            go_wp2_with fail
            refine K2.mono ?_
            rintro _ w3 ⟨rfl, p3⟩
            have K3 := Now_pk p3
            have p4 := (p3.sub (us' := [(.slice A5 (Dk.endsOf Ln).length C5, Dk.endsOf Ln), (.slice A4 (Dk.keysOf Ln).length C4, Dk.keysOf Ln)]) (bs' := []) (by simp) (List.nil_sublist _)).perm (List.Perm.swap _ _ _)
            have HP4 := p4.more (Nat.le_succ i)
            clear K2 p3 p4
            go_wp2_with (go_at_call 9; refine K3.mono ?_; rintro e w' ⟨rfl, hw'⟩; subst w')
            go_roundw
            case rel => exact ⟨i + 1, n0 + 1, Ln, A4, A5, C4, C5, by omega, by omega, by go_num, by go_num, by omega, rfl, rfl, by simpa using HP4, Nat.le_succ_of_le HLN.out⟩
            case measure => simp [intOf]; omega
      · by_cases hy1 : y < 1
        · have g1 : decide (y < 1) = true := by simpa using hy1
          have pB := hP.below (Dk.up_alloc (Below.refl _ _) (.cells #[.int .i64 q, .int .i64 y] 27))
          have KS : Calls Try.prog 11 #[.pointer (some ⟨bd, 0, none⟩), .int .i64 q, .int .i64 y] (wr.alloc (.cells #[.int .i64 q, .int .i64 y] 27)) fun e w' => e = .returned (.int .i64 1) ∧ w' = (wr.alloc (.cells #[.int .i64 q, .int .i64 y] 27)) := Sleep_few bd q y _ hy1
          have KI := In_pk pB (A := A1) (C := C1) (xs := ks) (by simp) q
          have HP2 : Hid (Pk w (i + 1) bd (wr.alloc (.cells #[.int .i64 q, .int .i64 y] 27)) n0 Lw [(.slice A1 ks.length C1, ks), (.slice A2 es.length C2, es)] []) := pB.more (Nat.le_succ i)
          by_cases hm : q ∈ Dk.keysOf Lw
          · obtain ⟨cE, hcE⟩ := Dk.keys_mem.1 hm
            have hmc : ks.contains q = true := by rw [Dk.mem_contains, ← HKS.out]; exact hm
            have KW := Waiting_pk pB (x := q) HQ.out hcE
            rw [hmc] at KI
            clear pB hP hm hcE hmc
            go_wp2_with (first | (go_at_call 11; refine KS.mono ?_; rintro e w' ⟨rfl, hw'⟩; subst w') | (go_at_call 12; refine KW.mono ?_; rintro e w' ⟨rfl, hw'⟩; subst w') | (go_at_call 10; refine KI.mono ?_; rintro e w' ⟨rfl, hw'⟩; subst w'))
            go_roundw
            case rel => exact ⟨i + 1, n0, Lw, A1, A2, C1, C2, by omega, by omega, by go_num, rfl, by omega, by rw [HKS.out], by rw [HES.out], by rw [HKS.out, HES.out]; exact HP2.out, Nat.le_succ_of_le HL.out⟩
            case measure => simp [intOf]; omega
          · have hmc : ks.contains q = false := by
              cases hcc : ks.contains q
              · rfl
              · exact absurd (HKS.out ▸ Dk.mem_contains.1 hcc) hm
            have KW := Waiting_pk_no pB (x := q) HQ.out hm
            rw [hmc] at KI
            clear pB hP hm hmc
            go_wp2_with (first | (go_at_call 11; refine KS.mono ?_; rintro e w' ⟨rfl, hw'⟩; subst w') | (go_at_call 12; refine KW.mono ?_; rintro e w' ⟨rfl, hw'⟩; subst w') | (go_at_call 10; refine KI.mono ?_; rintro e w' ⟨rfl, hw'⟩; subst w'))
            go_roundw
            case rel => exact ⟨i + 1, n0, Lw, A1, A2, C1, C2, by omega, by omega, by go_num, rfl, by omega, by rw [HKS.out], by rw [HES.out], by rw [HKS.out, HES.out]; exact HP2.out, Nat.le_succ_of_le HL.out⟩
            case measure => simp [intOf]; omega
        · by_cases hy2 : 1099511627776 < y
          · have g1 : decide (y < 1) = false := by simp; omega
            have g2 : decide (y > 1099511627776) = true := by simp; omega
            have pB := hP.below (Dk.up_alloc (Below.refl _ _) (.cells #[.int .i64 q, .int .i64 y] 27))
            have KS : Calls Try.prog 11 #[.pointer (some ⟨bd, 0, none⟩), .int .i64 q, .int .i64 y] (wr.alloc (.cells #[.int .i64 q, .int .i64 y] 27)) fun e w' => e = .returned (.int .i64 1) ∧ w' = (wr.alloc (.cells #[.int .i64 q, .int .i64 y] 27)) := Sleep_many bd q y _ hy2
            have KI := In_pk pB (A := A1) (C := C1) (xs := ks) (by simp) q
            have HP2 : Hid (Pk w (i + 1) bd (wr.alloc (.cells #[.int .i64 q, .int .i64 y] 27)) n0 Lw [(.slice A1 ks.length C1, ks), (.slice A2 es.length C2, es)] []) := pB.more (Nat.le_succ i)
            by_cases hm : q ∈ Dk.keysOf Lw
            · obtain ⟨cE, hcE⟩ := Dk.keys_mem.1 hm
              have hmc : ks.contains q = true := by rw [Dk.mem_contains, ← HKS.out]; exact hm
              have KW := Waiting_pk pB (x := q) HQ.out hcE
              rw [hmc] at KI
              clear pB hP hm hcE hmc
              go_wp2_with (first | (go_at_call 11; refine KS.mono ?_; rintro e w' ⟨rfl, hw'⟩; subst w') | (go_at_call 12; refine KW.mono ?_; rintro e w' ⟨rfl, hw'⟩; subst w') | (go_at_call 10; refine KI.mono ?_; rintro e w' ⟨rfl, hw'⟩; subst w'))
              go_roundw
              case rel => exact ⟨i + 1, n0, Lw, A1, A2, C1, C2, by omega, by omega, by go_num, rfl, by omega, by rw [HKS.out], by rw [HES.out], by rw [HKS.out, HES.out]; exact HP2.out, Nat.le_succ_of_le HL.out⟩
              case measure => simp [intOf]; omega
            · have hmc : ks.contains q = false := by
                cases hcc : ks.contains q
                · rfl
                · exact absurd (HKS.out ▸ Dk.mem_contains.1 hcc) hm
              have KW := Waiting_pk_no pB (x := q) HQ.out hm
              rw [hmc] at KI
              clear pB hP hm hmc
              go_wp2_with (first | (go_at_call 11; refine KS.mono ?_; rintro e w' ⟨rfl, hw'⟩; subst w') | (go_at_call 12; refine KW.mono ?_; rintro e w' ⟨rfl, hw'⟩; subst w') | (go_at_call 10; refine KI.mono ?_; rintro e w' ⟨rfl, hw'⟩; subst w'))
              go_roundw
              case rel => exact ⟨i + 1, n0, Lw, A1, A2, C1, C2, by omega, by omega, by go_num, rfl, by omega, by rw [HKS.out], by rw [HES.out], by rw [HKS.out, HES.out]; exact HP2.out, Nat.le_succ_of_le HL.out⟩
              case measure => simp [intOf]; omega
          · by_cases hm : q ∈ Dk.keysOf Lw
            · have g1 : decide (y < 1) = false := by simp; omega
              have g2 : decide (y > 1099511627776) = false := by simp; omega
              have pB := hP.below (Dk.up_alloc (Below.refl _ _) (.cells #[.int .i64 q, .int .i64 y] 27))
              have KS : Calls Try.prog 11 #[.pointer (some ⟨bd, 0, none⟩), .int .i64 q, .int .i64 y] (wr.alloc (.cells #[.int .i64 q, .int .i64 y] 27)) fun e w' => e = .returned (.int .i64 4) ∧ w' = (wr.alloc (.cells #[.int .i64 q, .int .i64 y] 27)) := Sleep_pk_busy pB HQ.out (by omega) (by omega) hm
              have KI := In_pk pB (A := A1) (C := C1) (xs := ks) (by simp) q
              have HP2 : Hid (Pk w (i + 1) bd (wr.alloc (.cells #[.int .i64 q, .int .i64 y] 27)) n0 Lw [(.slice A1 ks.length C1, ks), (.slice A2 es.length C2, es)] []) := pB.more (Nat.le_succ i)
              obtain ⟨cE, hcE⟩ := Dk.keys_mem.1 hm
              have hmc : ks.contains q = true := by rw [Dk.mem_contains, ← HKS.out]; exact hm
              have KW := Waiting_pk pB (x := q) HQ.out hcE
              rw [hmc] at KI
              clear pB hP hm hcE hmc
              go_wp2_with (first | (go_at_call 11; refine KS.mono ?_; rintro e w' ⟨rfl, hw'⟩; subst w') | (go_at_call 12; refine KW.mono ?_; rintro e w' ⟨rfl, hw'⟩; subst w') | (go_at_call 10; refine KI.mono ?_; rintro e w' ⟨rfl, hw'⟩; subst w'))
              go_roundw
              case rel => exact ⟨i + 1, n0, Lw, A1, A2, C1, C2, by omega, by omega, by go_num, rfl, by omega, by rw [HKS.out], by rw [HES.out], by rw [HKS.out, HES.out]; exact HP2.out, Nat.le_succ_of_le HL.out⟩
              case measure => simp [intOf]; omega
            · by_cases hov : (n0 : Int) + y ≤ 1099511627776
              · have g1 : decide (y < 1) = false := by simp; omega
                have g2 : decide (y > 1099511627776) = false := by simp; omega
                have g3 : decide ((n0 : Int) + y > 1099511627776) = false := by simp; omega
                have hmc : ks.contains q = false := by
                  cases hcc : ks.contains q
                  · rfl
                  · exact absurd (HKS.out ▸ Dk.mem_contains.1 hcc) hm
                obtain ⟨bx, ebx⟩ : ∃ bx, wr.heap.size = bx := ⟨_, rfl⟩
                have pB := hP.box (Dk.up_alloc (Below.refl _ _) (.cells #[.int .i64 q, .int .i64 y] 27)) (Dk.Box.new wr _ _)
                rw [ebx] at pB
                have KI := In_pk pB (A := A1) (C := C1) (xs := ks) (by simp) q
                rw [hmc] at KI
                have KS := Sleep_pk pB (x := q) (n := y) HQ.out (by omega) (by omega) hm (by omega)
                rw [show min ((n0 : Int) + y) 1099511627776 = (n0 : Int) + y by omega] at KS
                have HB : Hid _ := ebx
                clear pB hP hm hmc
                go_wp2_with (go_at_call 10; refine KI.mono ?_; rintro e w' ⟨rfl, hw'⟩; subst w')
                refine KS.mono ?_
                rintro _ w2 ⟨rfl, p2⟩
                have bx2 := p2.boxed (b := (bx, #[.int .i64 q, .int .i64 y], 27)) (by simp)
                have c20 : w2.cell? ⟨bx, 0, none⟩ = some (.int .i64 q) := bx2.cell 0
                have c21 : w2.cell? ⟨bx, 1, none⟩ = some (.int .i64 y) := bx2.cell 1
                obtain ⟨A6, C6, w6, r6, p6⟩ := Pk.append (us1 := []) (us2 := [(.slice A2 es.length C2, es)]) p2 q HQ.out (by omega)
                obtain ⟨A7, C7, w7, r7, p7⟩ := Pk.append (us1 := [(.slice A6 (ks.length + 1) C6, ks ++ [q])]) (us2 := []) p6 ((n0 : Int) + y) (by unfold Dk.i64; omega) (by omega)
                have bx7 := p7.boxed (b := (bx, #[.int .i64 q, .int .i64 y], 27)) (by simp)
                have c70 : w7.cell? ⟨bx, 0, none⟩ = some (.int .i64 q) := bx7.cell 0
                have p7' : Pk w (i + 1) bd w7 n0 (Lw ++ [(q, (n0 : Int) + y)]) [(.slice A6 (ks ++ [q]).length C6, ks ++ [q]), (.slice A7 (es ++ [(n0 : Int) + y]).length C7, es ++ [(n0 : Int) + y])] [(bx, #[.int .i64 q, .int .i64 y], 27)] := by simpa using p7
                have KW := Waiting_pk p7' (x := q) (c := (n0 : Int) + y) HQ.out (by simp)
                have KI2 := In_pk p7' (A := A6) (C := C6) (xs := ks ++ [q]) (by simp) q
                rw [show (ks ++ [q]).contains q = true by simp, show (ks ++ [q]).length = ks.length + 1 by simp] at KI2
                have s7 := p7'.slice (A := A7) (C := C7) (xs := es ++ [(n0 : Int) + y]) (by simp)
                have hC7 := s7.cap
                have hM7 := s7.max
                unfold maxLen at hM7
                obtain ⟨b7, o7, rfl, _, hc7⟩ := s7.cells (by simp)
                have c7 : w7.cell? ⟨b7, o7 + es.length, none⟩ = some (.int .i64 ((n0 : Int) + y)) := by
                  have := hc7 es.length (by simp)
                  rw [show (es ++ [(n0 : Int) + y]).getD es.length 0 = (n0 : Int) + y by simp [List.getD]] at this
                  exact this
                rw [show (es ++ [(n0 : Int) + y]).length = es.length + 1 by simp] at hC7
                have HP7 : Hid _ := p7'
                clear p2 p6 p7 p7' s7 hc7 bx2 bx7 KI KS c1 c2
                go_wp2_with (first | (go_at_call 12; refine KW.mono ?_; rintro e w' ⟨rfl, hw'⟩; subst w') | (go_at_call 10; refine KI2.mono ?_; rintro e w' ⟨rfl, hw'⟩; subst w') | (at_builtin; refine Lib.wpList_append_run _ rfl _ _ _ _ rfl _ _ rfl rfl _ _ r6 ?_; clear r6) | (at_builtin; refine Lib.wpList_append_run _ rfl _ _ _ _ rfl _ _ rfl rfl _ _ r7 ?_; clear r7))
                go_roundw
                case rel => exact ⟨i + 1, n0, Lw ++ [(q, (n0 : Int) + y)], A6, some ⟨b7, o7, none⟩, C6, C7, by omega, by omega, by go_num, rfl, by omega, by rw [Dk.keys_append, HKS.out]; simp [Dk.keysOf], by rw [Dk.ends_append, HES.out]; simp [Dk.endsOf], by
                    have := HP7.out
                    rw [Dk.keys_append, Dk.ends_append, HKS.out, HES.out]
                    exact (Pk.sub this (List.Sublist.refl _) (List.nil_sublist _)), by have := HL.out; show _ ≤ _; simp; omega⟩
                case measure => simp [intOf]; omega
              · have g1 : decide (y < 1) = false := by simp; omega
                have g2 : decide (y > 1099511627776) = false := by simp; omega
                have g3 : decide ((n0 : Int) + y > 1099511627776) = true := by simp; omega
                have hmc : ks.contains q = false := by
                  cases hcc : ks.contains q
                  · rfl
                  · exact absurd (HKS.out ▸ Dk.mem_contains.1 hcc) hm
                obtain ⟨bx, ebx⟩ : ∃ bx, wr.heap.size = bx := ⟨_, rfl⟩
                have pB := hP.box (Dk.up_alloc (Below.refl _ _) (.cells #[.int .i64 q, .int .i64 y] 27)) (Dk.Box.new wr _ _)
                rw [ebx] at pB
                have KI := In_pk pB (A := A1) (C := C1) (xs := ks) (by simp) q
                rw [hmc] at KI
                have KS := Sleep_pk pB (x := q) (n := y) HQ.out (by omega) (by omega) hm (by omega)
                rw [show min ((n0 : Int) + y) 1099511627776 = (1099511627776 : Int) by omega] at KS
                have HB : Hid _ := ebx
                clear pB hP hm hmc
                go_wp2_with (go_at_call 10; refine KI.mono ?_; rintro e w' ⟨rfl, hw'⟩; subst w')
                refine KS.mono ?_
                rintro _ w2 ⟨rfl, p2⟩
                have bx2 := p2.boxed (b := (bx, #[.int .i64 q, .int .i64 y], 27)) (by simp)
                have c20 : w2.cell? ⟨bx, 0, none⟩ = some (.int .i64 q) := bx2.cell 0
                have c21 : w2.cell? ⟨bx, 1, none⟩ = some (.int .i64 y) := bx2.cell 1
                obtain ⟨A6, C6, w6, r6, p6⟩ := Pk.append (us1 := []) (us2 := [(.slice A2 es.length C2, es)]) p2 q HQ.out (by omega)
                obtain ⟨A7, C7, w7, r7, p7⟩ := Pk.append (us1 := [(.slice A6 (ks.length + 1) C6, ks ++ [q])]) (us2 := []) p6 ((1099511627776 : Int)) (by unfold Dk.i64; omega) (by omega)
                have bx7 := p7.boxed (b := (bx, #[.int .i64 q, .int .i64 y], 27)) (by simp)
                have c70 : w7.cell? ⟨bx, 0, none⟩ = some (.int .i64 q) := bx7.cell 0
                have p7' : Pk w (i + 1) bd w7 n0 (Lw ++ [(q, (1099511627776 : Int))]) [(.slice A6 (ks ++ [q]).length C6, ks ++ [q]), (.slice A7 (es ++ [(1099511627776 : Int)]).length C7, es ++ [(1099511627776 : Int)])] [(bx, #[.int .i64 q, .int .i64 y], 27)] := by simpa using p7
                have KW := Waiting_pk p7' (x := q) (c := (1099511627776 : Int)) HQ.out (by simp)
                have KI2 := In_pk p7' (A := A6) (C := C6) (xs := ks ++ [q]) (by simp) q
                rw [show (ks ++ [q]).contains q = true by simp, show (ks ++ [q]).length = ks.length + 1 by simp] at KI2
                have s7 := p7'.slice (A := A7) (C := C7) (xs := es ++ [(1099511627776 : Int)]) (by simp)
                have hC7 := s7.cap
                have hM7 := s7.max
                unfold maxLen at hM7
                obtain ⟨b7, o7, rfl, _, hc7⟩ := s7.cells (by simp)
                have c7 : w7.cell? ⟨b7, o7 + es.length, none⟩ = some (.int .i64 ((1099511627776 : Int))) := by
                  have := hc7 es.length (by simp)
                  rw [show (es ++ [(1099511627776 : Int)]).getD es.length 0 = (1099511627776 : Int) by simp [List.getD]] at this
                  exact this
                rw [show (es ++ [(1099511627776 : Int)]).length = es.length + 1 by simp] at hC7
                have HP7 : Hid _ := p7'
                clear p2 p6 p7 p7' s7 hc7 bx2 bx7 KI KS c1 c2
                go_wp2_with (first | (go_at_call 12; refine KW.mono ?_; rintro e w' ⟨rfl, hw'⟩; subst w') | (go_at_call 10; refine KI2.mono ?_; rintro e w' ⟨rfl, hw'⟩; subst w') | (at_builtin; refine Lib.wpList_append_run _ rfl _ _ _ _ rfl _ _ rfl rfl _ _ r6 ?_; clear r6) | (at_builtin; refine Lib.wpList_append_run _ rfl _ _ _ _ rfl _ _ rfl rfl _ _ r7 ?_; clear r7))
                go_roundw
                case rel => exact ⟨i + 1, n0, Lw ++ [(q, (1099511627776 : Int))], A6, some ⟨b7, o7, none⟩, C6, C7, by omega, by omega, by go_num, rfl, by omega, by rw [Dk.keys_append, HKS.out]; simp [Dk.keysOf], by rw [Dk.ends_append, HES.out]; simp [Dk.endsOf], by
                    have := HP7.out
                    rw [Dk.keys_append, Dk.ends_append, HKS.out, HES.out]
                    exact (Pk.sub this (List.Sublist.refl _) (List.nil_sublist _)), by have := HL.out; show _ ≤ _; simp; omega⟩
                case measure => simp [intOf]; omega
    · by_cases hlt : i < L
      · have y6 : decide ((i : Int) < 100) = false := by simp; omega
        go_wp2_with fail
        refine (awake_any _).mono ?_
        rintro _ w9 ⟨rfl, u9⟩
        have HU : Hid _ := Dk.up_call hP.out u9
        clear u9 hP
        go_wp2_with fail
        go_ret
        exact ⟨rfl, HU.out⟩
      · go_wp2_with fail
        refine (awake_any _).mono ?_
        rintro _ w9 ⟨rfl, u9⟩
        have HU : Hid _ := Dk.up_call hP.out u9
        clear u9 hP
        go_wp2_with fail
        go_ret
        exact ⟨rfl, HU.out⟩

end Go.Proofs.Ytiaegeaogleepaa
