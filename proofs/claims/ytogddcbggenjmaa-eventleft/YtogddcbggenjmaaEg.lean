/- Layer 14: the first of any events that was taken away within a section, and the others. -/
import Derived.Test.YtogddcbggenjmaaEe
namespace Dk
open Go Go.RowKit
set_option maxRecDepth 100000 in
theorem firstI_cases (es : List Ev) : (Dk.firstI es = -1 ∧ ∀ i, i < es.length → (es.getD i Ev.zero).within = false) ∨ ∃ k, k < es.length ∧ Dk.firstI es = (k : Int) ∧ (es.getD k Ev.zero).within = true ∧ ∀ i, i < k → (es.getD i Ev.zero).within = false := by
  by_cases h : es.findIdx Ev.within < es.length
  · refine .inr ⟨_, h, by unfold firstI; rw [if_pos h], ?_, fun i hi => ?_⟩
    · have := List.findIdx_getElem (w := h)
      simpa [List.getD, h] using this
    · have := List.not_of_lt_findIdx hi
      have hil : i < es.length := by omega
      simpa [List.getD, hil] using this
  · refine .inl ⟨by unfold firstI; rw [if_neg h], fun i hi => ?_⟩
    have := List.not_of_lt_findIdx (p := Ev.within) (xs := es) (i := i) (by omega)
    simpa [List.getD, hi] using this
end Dk
namespace Go.Proofs.Ytogddcbggenjmaa
set_option linter.unusedSimpArgs false
set_option linter.unusedVariables false
set_option linter.unnecessarySimpa false
open Go.RowKit Go.Lib
set_option maxRecDepth 100000 in
set_option maxHeartbeats 4000000 in
theorem EventWithin_no {A : Option Addr} {L C : Nat} {es : List Dk.Ev} {w : World} (hE : Dk.SlE w.heap.size w A L C es) (hL : L ≤ 5864062014805) (hF : Dk.firstI es = -1) (hN : ∀ i, i < es.length → (es.getD i Dk.Ev.zero).within = false) :
    Calls Try.prog 4 #[.slice A L C] w fun e w' => e = .returned (.bool true) ∧ Below w.heap.size w w' := by
  have hlen := hE.len
  have hcap := hE.cap
  have hmax := hE.max
  unfold maxLen at hmax
  have hok := hE.wf
  have K := Within_no hE hL hF
  have HH : Hid (Dk.SlE w.heap.size w A L C es) := hE
  have HL : Hid (es.length = L) := hlen
  have HN : Hid (∀ i, i < es.length → (es.getD i Dk.Ev.zero).within = false) := hN
  have HO : Hid (∀ e ∈ es, e.ok) := hok
  clear hE hlen hN hok hF
  go_enter Try.func4, Try.ntmps4
  go_wp2_with fail
  refine K.mono ?_
  rintro e w2 ⟨B, D, rfl, s2⟩
  obtain ⟨W3, e3⟩ : ∃ W3, W3 = w2.alloc (.cells #[.int .i64 0, .int .i64 0, .int .i64 0] 25) := ⟨_, rfl⟩
  have s3 := s2.newBox e3
  have H3 : Hid (w2.alloc (.cells #[.int .i64 0, .int .i64 0, .int .i64 0] 25) = W3) := e3.symm
  have b3 := s3.box (b := w2.heap.size) (cs := #[.int .i64 0, .int .i64 0, .int .i64 0]) (t := 25) (by simp)
  have HB3 : Hid _ := b3
  obtain ⟨W4, e4⟩ : ∃ W4, W4 = W3.setRow w2.heap.size #[.int .i64 0, .int .i64 0, .int .i64 0] := ⟨_, rfl⟩
  have s4 := Dk.Sep.setRow (us1 := []) s3 #[.int .i64 0, .int .i64 0, .int .i64 0]
  rw [← e4] at s4
  have H4 : Hid (W3.setRow w2.heap.size #[.int .i64 0, .int .i64 0, .int .i64 0] = W4) := e4.symm
  have HS : Hid (Dk.Sep w W4 [Dk.boxOf w2.heap.size #[.int .i64 0, .int .i64 0, .int .i64 0] 25, Dk.rowOf 25 3 (.slice B L D) L (Dk.evs es)]) := s4
  have HE3 : Hid _ := HH.out.up s4.out
  clear K e3 s2 s3 e4 s4 b3
  go_wp2_with (first | (rw [H3.out]; clear H3) | (refine wpList_store_row rfl 25 _ _ rfl w2.heap.size #[.int .i64 0, .int .i64 0, .int .i64 0] rfl rfl 25 _ HB3.out.heap ev_size rfl (ev_cells _ _ _) ?_; rw [H4.out]; clear HB3))
  go_loopw [6] (fun i w' => ∃ k : Nat, k ≤ L ∧ i = .int .i64 k ∧ Hid (w' = W4)) (fun i w' => L - (intOf i).toNat)
  case atStart => exact ⟨0, Nat.zero_le _, rfl, rfl⟩
  case round =>
    obtain ⟨k, hk, rfl, HB⟩ := hrel
    have ew := HB.out
    subst wr
    by_cases hlt : k < L
    · obtain ⟨b, o, rfl, hbb, _, k0, k1, k2⟩ := HE3.out.at hlt
      have hn := HN.out k (by rw [HL.out]; exact hlt)
      generalize es.getD k Dk.Ev.zero = x at k0 k1 k2 hn
      obtain ⟨xk, xt, xm⟩ := x
      have y1 : decide (0 < xm) = false := hn
      clear hn
      go_wp2_with fail
      go_roundw
      case rel => exact ⟨k + 1, by omega, by go_num, True.intro⟩
      case measure => simp [intOf]; omega
    · obtain rfl : k = L := by omega
      go_wp2_with fail
      refine (awake_any _).mono ?_
      rintro e w5 ⟨rfl, v4⟩
      have S4 := Dk.Sep.below HS.out v4
      have b4 := S4.box (b := w2.heap.size) (cs := #[.int .i64 0, .int .i64 0, .int .i64 0]) (t := 25) (by simp)
      have d0 : w5.cell? ⟨w2.heap.size, 0, none⟩ = some (.int .i64 0) := b4.cell 0
      have d1 : w5.cell? ⟨w2.heap.size, 1, none⟩ = some (.int .i64 0) := b4.cell 1
      have d2 : w5.cell? ⟨w2.heap.size, 2, none⟩ = some (.int .i64 0) := b4.cell 2
      obtain ⟨_, _, ev, q4⟩ := S4.asEvs (e := 25) (v := .slice B k D) (n := k) (xs := es) (by simp) HL.out HO.out
      cases ev
      have KE := Events_same _ _ _ _ _ es w5 q4 (HE3.out.up v4)
      have U4 : Hid _ := S4.out
      have hsame : ∀ w, (Op.equalIn 10000 25 (.agg #[.int .i64 0, .int .i64 0, .int .i64 0]) (.agg #[.int .i64 0, .int .i64 0, .int .i64 0])).run Try.prog w = .ok true w := same_ev 9998 _ _ _
      clear S4 b4 q4 v4
      go_wp2_with fail
      refine KE.mono ?_
      rintro e w6 ⟨rfl, v5⟩
      go_wp2
      go_ret
      exact ⟨rfl, Dk.up_call U4.out v5⟩
set_option maxRecDepth 100000 in
set_option maxHeartbeats 4000000 in
theorem EventWithin_yes {A : Option Addr} {L C : Nat} {es : List Dk.Ev} {w : World} (hE : Dk.SlE w.heap.size w A L C es) (hL : L ≤ 5864062014805) (j : Nat) (hj : j < es.length) (hF : Dk.firstI es = (j : Int)) (hY : (es.getD j Dk.Ev.zero).within = true) (hN : ∀ i, i < j → (es.getD i Dk.Ev.zero).within = false) :
    Calls Try.prog 4 #[.slice A L C] w fun e w' => e = .returned (.bool true) ∧ Below w.heap.size w w' := by
  have hlen := hE.len
  have hcap := hE.cap
  have hmax := hE.max
  unfold maxLen at hmax
  have hok := hE.wf
  obtain ⟨b, o, rfl, hbb, _⟩ := hE.at (k := j) (by omega)
  have K := Within_yes hE hL (by omega) hF
  have hjL : j < L := by omega
  have HH : Hid (Dk.SlE w.heap.size w (some ⟨b, o, none⟩) L C es) := hE
  have HL : Hid (es.length = L) := hlen
  have HN : Hid (∀ i, i < j → (es.getD i Dk.Ev.zero).within = false) := hN
  have HY : Hid ((es.getD j Dk.Ev.zero).within = true) := hY
  have HO : Hid (∀ e ∈ es, e.ok) := hok
  obtain ⟨x, ex⟩ : ∃ x, es.getD j Dk.Ev.zero = x := ⟨_, rfl⟩
  obtain ⟨xk, xt, xm⟩ := x
  rw [ex] at K
  have HX : Hid (es.getD j Dk.Ev.zero = ⟨xk, xt, xm⟩) := ex
  clear hE hlen hN hok hF hY hj ex
  go_enter Try.func4, Try.ntmps4
  go_wp2_with fail
  refine K.mono ?_
  rintro e w2 ⟨B, D, rfl, s2⟩
  obtain ⟨W3, e3⟩ : ∃ W3, W3 = w2.alloc (.cells #[.int .i64 xk, .int .i64 xt, .int .i64 xm] 25) := ⟨_, rfl⟩
  have s3 := s2.newBox e3
  have H3 : Hid (w2.alloc (.cells #[.int .i64 xk, .int .i64 xt, .int .i64 xm] 25) = W3) := e3.symm
  have HS : Hid (Dk.Sep w W3 [Dk.boxOf w2.heap.size #[.int .i64 xk, .int .i64 xt, .int .i64 xm] 25, Dk.rowOf 25 3 (.slice B (L - 1) D) (L - 1) (Dk.evs (es.take j ++ es.drop (j + 1)))]) := s3
  have HE3 : Hid _ := HH.out.up s3.out
  clear K e3 s2 s3
  go_wp2_with (rw [H3.out]; clear H3)
  go_loopw [6] (fun i w' => ∃ k : Nat, k ≤ j ∧ i = .int .i64 k ∧ Hid (w' = W3)) (fun i w' => L - (intOf i).toNat)
  case atStart => exact ⟨0, Nat.zero_le _, rfl, rfl⟩
  case round =>
    obtain ⟨k, hk, rfl, HB⟩ := hrel
    have ew := HB.out
    subst wr
    by_cases hlt : k < j
    · obtain ⟨b', o', eb, hbb, _, k0, k1, k2⟩ := HE3.out.at (k := k) (by omega)
      cases eb
      have hn := HN.out k hlt
      generalize es.getD k Dk.Ev.zero = x at k0 k1 k2 hn
      obtain ⟨xk', xt', xm'⟩ := x
      have y1 : decide (0 < xm') = false := hn
      clear hn
      go_wp2_with fail
      go_roundw
      case rel => exact ⟨k + 1, by omega, by go_num, True.intro⟩
      case measure => simp [intOf]; omega
    · obtain rfl : k = j := by omega
      obtain ⟨b', o', eb, hbb, _, k0, k1, k2⟩ := HE3.out.at (k := k) hjL
      cases eb
      rw [HX.out] at k0 k1 k2
      have y1 : decide (0 < xm) = true := by have h := HY.out; rw [HX.out] at h; exact h
      have b3 := Dk.Sep.box HS.out (b := w2.heap.size) (cs := #[.int .i64 xk, .int .i64 xt, .int .i64 xm]) (t := 25) (by simp)
      have HB3 : Hid _ := b3
      have hsame : ∀ w, (Op.equalIn 10000 25 (.agg #[.int .i64 xk, .int .i64 xt, .int .i64 xm]) (.agg #[.int .i64 xk, .int .i64 xt, .int .i64 xm])).run Try.prog w = .ok true w := same_ev 9998 _ _ _
      obtain ⟨q, hq⟩ : ∃ q, q = k + 1 := ⟨_, rfl⟩
      have hw1 : IntKind.i64.wrap ((k : Int) + 1) = (q : Int) := by subst hq; go_bits; omega
      obtain ⟨TA, eTA⟩ : ∃ TA : Option Addr, (if C = q then some ⟨b, o, none⟩ else some ⟨b, o + q * 3, none⟩) = TA := ⟨_, rfl⟩
      have hqL : (q : Int) ≤ (L : Int) := by omega
      have hq0 : (0 : Int) ≤ (q : Int) := by omega
      have hkC : ¬ C < k := by omega
      have hkL : ((k : Nat) : Int) < (L : Int) := by omega
      have Hq : Hid _ := hq
      have FE : Hid (∀ w', Below W3.heap.size W3 w' → Dk.SlE w'.heap.size w' (some ⟨b, o, none⟩) k C (es.take k) ∧ Dk.SlE w'.heap.size w' TA (L - q) (C - q) (es.drop q)) := fun w' u => by
        have E4 := HE3.out.up u
        refine ⟨E4.take (by omega), ?_⟩
        rw [← eTA]
        by_cases hc : C = q
        · rw [if_pos hc, show C - q = 0 by omega, show L - q = 0 by omega]
          exact Dk.SlE.none_ (List.drop_eq_nil_of_le (by rw [E4.len]; omega)) (Nat.zero_le _)
        · rw [if_neg hc]
          exact E4.drop (by omega)
      have FC : Hid (∀ w', Below W3.heap.size W3 w' → w'.cell? ⟨w2.heap.size, 0, none⟩ = some (.int .i64 xk) ∧ w'.cell? ⟨w2.heap.size, 1, none⟩ = some (.int .i64 xt) ∧ w'.cell? ⟨w2.heap.size, 2, none⟩ = some (.int .i64 xm) ∧ w'.cell? ⟨b, o + k * 3, none⟩ = some (.int .i64 xk) ∧ w'.cell? ⟨b, o + k * 3 + 1, none⟩ = some (.int .i64 xt) ∧ w'.cell? ⟨b, o + k * 3 + 2, none⟩ = some (.int .i64 xm)) := fun w' u =>
        ⟨(HB3.out.up u).cell 0, (HB3.out.up u).cell 1, (HB3.out.up u).cell 2, (u.cell (by exact hbb)).trans k0, (u.cell (by exact hbb)).trans k1, (u.cell (by exact hbb)).trans k2⟩
      clear hq b3
      go_wp2_with fail
      refine Dk.wp_region_mix (S := fun w' => Below W3.heap.size W3 w') [(false, 0), (true, 1), (true, 2), (true, 3), (true, 4), (true, 5), (true, 6), (true, 7), (true, 8), (true, 9), (true, 10), (true, 11), (true, 12), (true, 13), (true, 15), (true, 16), (true, 17), (true, 19), (true, 20), (true, 21), (true, 22), (false, 14), (false, 18), (false, 23), (false, 24), (true, 25), (true, 26)] (by kernel_rfl) (by kernel_rfl) (by kernel_rfl) rfl (Dk.up_drew (Below.refl _ _)) ?_
      refine Dk.mix_call (f := 9) (args := #[]) rfl rfl (by go_simp) ?_
      refine (awake_any _).mono ?_
      rintro e w4 ⟨rfl, v4⟩
      have u4 := Dk.up_call (Dk.up_drew (Below.refl W3.heap.size W3)) v4
      have U4 : Hid _ := u4
      refine ⟨_, rfl, u4, ?_⟩
      clear u4 v4 k0 k1 k2
      simp only [Act.put, List.setIfInBounds_toArray, List.set_cons_succ, List.set_cons_zero]
      iterate 4 (refine Dk.mix_held rfl rfl (fun w' hw' => by go_simp; rfl) ?_; simp only [Act.put, List.setIfInBounds_toArray, List.set_cons_succ, List.set_cons_zero])
      refine Dk.mix_held (v := .agg #[.int .i64 xk, .int .i64 xt, .int .i64 xm]) rfl rfl (fun w' hw' => by obtain ⟨q0, q1, q2, q3, q4, q5⟩ := FC.out w' hw'; go_simp) ?_
      simp only [Act.put, List.setIfInBounds_toArray, List.set_cons_succ, List.set_cons_zero]
      iterate 3 (refine Dk.mix_held rfl rfl (fun w' hw' => by go_simp; rfl) ?_; simp only [Act.put, List.setIfInBounds_toArray, List.set_cons_succ, List.set_cons_zero])
      refine Dk.mix_held (v := .agg #[.int .i64 xk, .int .i64 xt, .int .i64 xm]) rfl rfl (fun w' hw' => by obtain ⟨q0, q1, q2, q3, q4, q5⟩ := FC.out w' hw'; go_simp) ?_
      simp only [Act.put, List.setIfInBounds_toArray, List.set_cons_succ, List.set_cons_zero]
      iterate 6 (refine Dk.mix_held rfl rfl (fun w' hw' => by go_simp; rfl) ?_; simp only [Act.put, List.setIfInBounds_toArray, List.set_cons_succ, List.set_cons_zero])
      refine Dk.mix_held (v := .slice (some ⟨b, o, none⟩) k C) rfl rfl (fun w' hw' => by go_simp; first | done | (intro h; exact absurd h hkC)) ?_
      simp only [Act.put, List.setIfInBounds_toArray, List.set_cons_succ, List.set_cons_zero]
      iterate 2 (refine Dk.mix_held rfl rfl (fun w' hw' => by go_simp; rfl) ?_; simp only [Act.put, List.setIfInBounds_toArray, List.set_cons_succ, List.set_cons_zero])
      refine Dk.mix_held (v := .int .i64 (q : Int)) rfl rfl (fun w' hw' => by go_simp) ?_
      simp only [Act.put, List.setIfInBounds_toArray, List.set_cons_succ, List.set_cons_zero]
      refine Dk.mix_held (v := .slice TA (L - q) (C - q)) rfl rfl (fun w' hw' => by go_simp) ?_
      simp only [Act.put, List.setIfInBounds_toArray, List.set_cons_succ, List.set_cons_zero]
      obtain ⟨W5, e5⟩ : ∃ W5, W5 = w4.alloc (.cells #[] 25) := ⟨_, rfl⟩
      have s5 := (Dk.Sep.begin (Below.refl w4.heap.size w4)).empty (s := 3) e5
      have u5 := Dk.up_call U4.out s5.out
      obtain ⟨v6, W6, r6, s6⟩ := Dk.Sep.appendEs (us1 := []) (xs := []) KE s5 rfl (FE.out _ u5).1 (by unfold maxLen; omega) (by omega)
      have u6 := Dk.up_call U4.out s6.out
      obtain ⟨v7, W7, r7, s7⟩ := Dk.Sep.appendEs (us1 := []) KE s6 (by rw [List.nil_append, List.length_take]; have := HL.out; omega) (FE.out _ u6).2 (by unfold maxLen; have := Hq.out; omega) (by have := Hq.out; omega)
      have u7 := Dk.up_call U4.out s7.out
      refine Dk.mix_val (w' := W5) (v := .slice (some ⟨w4.heap.size, 0, none⟩) 0 0) rfl rfl (by rw [e5]; go_simp) u5 ?_
      simp only [Act.put, List.setIfInBounds_toArray, List.set_cons_succ, List.set_cons_zero]
      refine Dk.mix_step rfl rfl (wp_append_run _ _ _ _ _ rfl _ _ rfl rfl _ _ r6 ⟨u6, ?_⟩)
      simp only [Act.put, List.setIfInBounds_toArray, List.set_cons_succ, List.set_cons_zero]
      refine Dk.mix_step rfl rfl (wp_append_run _ _ _ _ _ rfl _ _ rfl rfl _ _ r7 ⟨u7, ?_⟩)
      simp only [Act.put, List.setIfInBounds_toArray, List.set_cons_succ, List.set_cons_zero]
      have hn7 : 0 + k + (L - q) = L - 1 := by have := Hq.out; omega
      obtain ⟨A7, C7, ev, q7⟩ := s7.asEvs (e := 25) (v := v7) (n := 0 + k + (L - q)) (xs := [] ++ es.take k ++ es.drop q) (by simp) (by simp; have := Hq.out; have := HL.out; omega) (fun e he => HO.out e (by
        simp at he
        exact he.elim List.mem_of_mem_take List.mem_of_mem_drop))
      subst ev
      have S7 := Dk.Sep.below HS.out u7
      obtain ⟨_, _, ev, p7⟩ := S7.asEvs (e := 25) (v := .slice B (L - 1) D) (n := L - 1) (xs := es.take k ++ es.drop (k + 1)) (by simp) (by simp; have := HL.out; omega) (fun e he => HO.out e (by
        simp at he
        exact he.elim List.mem_of_mem_take List.mem_of_mem_drop))
      cases ev
      rw [List.nil_append, Hq.out] at q7
      rw [Hq.out] at hn7
      rw [hn7] at q7
      have KE := Events_same _ _ _ _ _ _ W7 p7 q7
      refine Dk.mix_call (f := 13) (args := #[.slice B (L - 1) D, .slice A7 (L - 1) C7]) rfl rfl (by rw [← hn7, ← Hq.out]; go_simp) ?_
      refine KE.mono ?_
      rintro e w8 ⟨rfl, v8⟩
      have u8 := Dk.up_call u7 v8
      refine ⟨_, rfl, u8, ?_⟩
      simp only [Act.put, List.setIfInBounds_toArray, List.set_cons_succ, List.set_cons_zero]
      iterate 2 (refine Dk.mix_held rfl rfl (fun w' hw' => by go_simp; rfl) ?_; simp only [Act.put, List.setIfInBounds_toArray, List.set_cons_succ, List.set_cons_zero])
      show NoPanic _ Exit.normal _ _
      refine NoPanic.normal ?_
      have U8 : Hid _ := Dk.up_call (Dk.Sep.out HS.out) u8
      clear KE u8 v8 p7 q7 S7 s7 u7 s6 u6 s5 u5
      go_wp2
      go_ret
      exact ⟨rfl, U8.out⟩
theorem EventWithin_any {A : Option Addr} {L C : Nat} {es : List Dk.Ev} {w : World} (hE : Dk.SlE w.heap.size w A L C es) (hL : L ≤ 5864062014805) :
    Calls Try.prog 4 #[.slice A L C] w fun e w' => e = .returned (.bool true) ∧ Below w.heap.size w w' := by
  rcases Dk.firstI_cases es with ⟨h1, h2⟩ | ⟨k, h1, h2, h3, h4⟩
  · exact EventWithin_no hE hL h1 h2
  · exact EventWithin_yes hE hL k h1 h2 h3 h4
end Go.Proofs.Ytogddcbggenjmaa
