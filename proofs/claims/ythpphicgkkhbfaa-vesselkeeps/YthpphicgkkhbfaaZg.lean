/- Layer 15: what is told, and what is left, are told behind one another. -/
import Derived.Test.YthpphicgkkhbfaaZe
namespace Dk
set_option linter.unusedSimpArgs false
set_option linter.unusedVariables false
set_option linter.unnecessarySimpa false
open Go Go.RowKit
/-- How many of the first k are such. -/
def cn (p : Ev → Bool) (es : List Ev) (k : Nat) : Nat := ((es.take k).filter p).length
theorem cn_zero (p : Ev → Bool) (es : List Ev) : cn p es 0 = 0 := rfl
theorem cn_yes {p : Ev → Bool} {es : List Ev} {k : Nat} (h : k < es.length) (hp : p (es.getD k Ev.zero) = true) : cn p es (k + 1) = cn p es k + 1 := by
  unfold cn
  rw [take_succ_getD es Ev.zero k h, List.filter_append, List.filter_cons_of_pos hp, List.filter_nil, List.length_append]
  rfl
theorem cn_no {p : Ev → Bool} {es : List Ev} {k : Nat} (h : k < es.length) (hp : p (es.getD k Ev.zero) = false) : cn p es (k + 1) = cn p es k := by
  unfold cn
  rw [take_succ_getD es Ev.zero k h, List.filter_append, List.filter_cons_of_neg (by rw [hp]; simp), List.filter_nil, List.append_nil]
theorem cn_le (p : Ev → Bool) (es : List Ev) (k : Nat) : cn p es k ≤ k := by
  unfold cn
  have := List.length_filter_le p (es.take k)
  rw [List.length_take] at this
  omega
theorem cn_all (p : Ev → Bool) (es : List Ev) : cn p es es.length = (es.filter p).length := by unfold cn; rw [List.take_length]
set_option maxRecDepth 100000 in
theorem tellV_kept {m t : Int} (h : holdsV m || runsV m t) : (tellV (holdsV m) (runsV m t) m t).kept = true := by
  cases hh : holdsV m with
  | true =>
    have : 0 < m := by
      unfold holdsV at hh
      simp at hh
      omega
    simp [Ev.kept, Ev.within, tellV, this]
  | false =>
    rw [hh] at h
    have hr : runsV m t = true := by simpa using h
    rw [hr]
    have : 0 ≤ t := by
      unfold runsV at hr
      simp at hr
      omega
    simp [Ev.kept, Ev.runs, tellV, this]
theorem takenV_kept {m t : Int} : ∀ e ∈ takenV m t, e.kept = true := by
  intro e he
  unfold takenV ownV at he
  split at he
  · obtain rfl := List.mem_singleton.1 he
    exact tellV_kept (by assumption)
  · cases he
theorem stripV_kept {m t : Int} {es : List Ev} : ∀ e ∈ stripV m t es, e.kept = true := by
  intro e he
  rcases List.mem_append.1 he with he | he
  · exact takenV_kept e he
  · exact (List.mem_filter.1 he).2
theorem stripV_again (m t : Int) (es : List Ev) : stripV 1 (-1) (stripV m t es) = stripV m t es := by
  show ([] : List Ev) ++ (stripV m t es).filter Ev.kept = _
  rw [List.nil_append, List.filter_eq_self]
  exact stripV_kept
set_option maxRecDepth 100000 in
theorem stripV_within {m t : Int} {es : List Ev} (h : holdsV m = true) : 0 < cn Ev.within (stripV m t es) (stripV m t es).length := by
  rw [cn_all]
  apply List.length_pos_of_mem (a := tellV true (runsV m t) m t)
  refine List.mem_filter.2 ⟨?_, ?_⟩
  · unfold stripV takenV ownV
    rw [h]
    simp
  · have : 0 < m := by
      unfold holdsV at h
      simp at h
      omega
    simp [Ev.within, tellV, this]
end Dk
namespace Go.Proofs.Ythpphicgkkhbfaa
set_option linter.unusedSimpArgs false
set_option linter.unusedVariables false
set_option linter.unnecessarySimpa false
open Go.RowKit Go.Lib
set_option maxRecDepth 100000 in
set_option maxHeartbeats 8000000 in
theorem VesselTold_any {m t : Int} {A A' : Option Addr} {L L' C C' : Nat} {es ms : List Dk.Ev} {w : World} (hm : Dk.i64 m) (ht : Dk.i64 t) (hE : Dk.SlE w.heap.size w A L C es) (hE' : Dk.SlE w.heap.size w A' L' C' ms) (hL : L + 2 + L' ≤ 5864062014805) :
    Calls Try.prog 5 #[Dk.vv m t A L C, .slice A' L' C'] w fun e w' => e = .returned (.bool true) ∧ Below w.heap.size w w' := by
  have hlen := hE.len
  have hlen' := hE'.len
  have hl1 := Dk.stripV_len m t es
  have HO : Hid _ := Dk.stripV_ok hm ht hE.wf
  have HO' : Hid _ := hE'.wf
  have HW : Hid _ := Dk.stripV_within (m := m) (t := t) (es := es)
  have HA : Hid _ := Dk.stripV_again m t es
  have KS : Hid (∀ w', Below w.heap.size w w' → _) := fun w' u => Strip_any (w := w') hm ht (hE.up u) (by omega)
  have KT : Hid (∀ w', Below w.heap.size w w' → _) := fun w' u => Told_any (w := w') (A' := none) (L' := 0) (C' := 0) (es' := []) hm ht (hE.up u) (Dk.SlE.none_ rfl (Nat.zero_le _)) (by omega)
  have HE' : Hid (∀ w', Below w.heap.size w w' → Dk.SlE w'.heap.size w' A' L' C' ms) := fun w' u => hE'.up u
  obtain ⟨W1, e1⟩ : ∃ W, W = w.alloc (.cells #[.int .i64 m, .int .i64 t, .slice A L C] 24) := ⟨_, rfl⟩
  have s1 := (Dk.Sep.begin (Below.refl w.heap.size w)).newBox e1
  have b1 := s1.box (List.mem_cons_self ..)
  have c0 : W1.cell? ⟨w.heap.size, 0, none⟩ = some (.int .i64 m) := b1.cell 0
  have c1 : W1.cell? ⟨w.heap.size, 1, none⟩ = some (.int .i64 t) := b1.cell 1
  have c2 : W1.cell? ⟨w.heap.size, 2, none⟩ = some (.slice A L C) := b1.cell 2
  have K1 := Told_any (w := W1) hm ht (hE.up s1.out) (hE'.up s1.out) (by omega)
  have KH := fun w => VHolds_any m t A L C w
  generalize Dk.stripV m t es = l at *
  generalize Dk.holdsV m = h at *
  have H1 : Hid (w.alloc (.cells #[.int .i64 m, .int .i64 t, .slice A L C] 24) = W1) := e1.symm
  clear e1 b1 hE hE'
  go_enter Try.func5, Try.ntmps5
  go_wp2_with (rw [H1.out]; clear H1)
  refine K1.mono ?_
  rintro e w2 ⟨B2, D2, rfl, s2⟩
  obtain ⟨W3, e3⟩ : ∃ W, W = w2.alloc (.cells #[.int .i64 1, .int .i64 (-1), .slice B2 (l.length + L') D2] 24) := ⟨_, rfl⟩
  have s3 := (s1.onto s2).newBox e3
  have K2 := New_v (HE'.out W3 s3.out) (by omega)
  have H3 : Hid (w2.alloc (.cells #[.int .i64 1, .int .i64 (-1), .slice B2 (l.length + L') D2] 24) = W3) := e3.symm
  clear K1 s1 s2 e3 c0 c1 c2
  go_wp2_with (rw [H3.out]; clear H3)
  refine K2.mono ?_
  rintro e w4 ⟨B4, D4, rfl, s4⟩
  obtain ⟨W5, e5⟩ : ∃ W, W = w4.alloc (.cells #[.int .i64 1, .int .i64 (-1), .slice B4 L' D4] 24) := ⟨_, rfl⟩
  have s5 := (s3.onto s4).newBox e5
  have HS : Hid _ := s5
  have FC : Hid (∀ w', Below W5.heap.size W5 w' → (w'.cell? ⟨w.heap.size, 0, none⟩ = some (.int .i64 m) ∧ w'.cell? ⟨w.heap.size, 1, none⟩ = some (.int .i64 t) ∧ w'.cell? ⟨w.heap.size, 2, none⟩ = some (.slice A L C)) ∧ (w'.cell? ⟨w2.heap.size, 0, none⟩ = some (.int .i64 1) ∧ w'.cell? ⟨w2.heap.size, 1, none⟩ = some (.int .i64 (-1)) ∧ w'.cell? ⟨w2.heap.size, 2, none⟩ = some (.slice B2 (l.length + L') D2)) ∧ (w'.cell? ⟨w4.heap.size, 0, none⟩ = some (.int .i64 1) ∧ w'.cell? ⟨w4.heap.size, 1, none⟩ = some (.int .i64 (-1)) ∧ w'.cell? ⟨w4.heap.size, 2, none⟩ = some (.slice B4 L' D4))) := fun w' u => by
    have S := Dk.Sep.below HS.out u
    have x1 := S.box (b := w.heap.size) (cs := #[.int .i64 m, .int .i64 t, .slice A L C]) (t := 24) (by simp)
    have x2 := S.box (b := w2.heap.size) (cs := #[.int .i64 1, .int .i64 (-1), .slice B2 (l.length + L') D2]) (t := 24) (by simp)
    have x3 := S.box (b := w4.heap.size) (cs := #[.int .i64 1, .int .i64 (-1), .slice B4 L' D4]) (t := 24) (by simp)
    exact ⟨⟨x1.cell 0, x1.cell 1, x1.cell 2⟩, ⟨x2.cell 0, x2.cell 1, x2.cell 2⟩, x3.cell 0, x3.cell 1, x3.cell 2⟩
  have H5 : Hid (w4.alloc (.cells #[.int .i64 1, .int .i64 (-1), .slice B4 L' D4] 24) = W5) := e5.symm
  clear K2 s3 s4 s5 e5
  go_wp2_with (rw [H5.out]; clear H5)
  refine Dk.wp_region_mix (S := fun w' => Below W5.heap.size W5 w') [(true, 0), (true, 1), (true, 2), (true, 3), (true, 4), (true, 5), (true, 6), (true, 7), (true, 8), (true, 9), (true, 10), (true, 11), (true, 13), (false, 12), (false, 14), (false, 15), (true, 16), (true, 17), (true, 18), (true, 19), (true, 20), (true, 21), (true, 22), (true, 23), (true, 24), (true, 25), (true, 26), (false, 27), (true, 28), (true, 29)] (by kernel_rfl) (by kernel_rfl) (by kernel_rfl) rfl (Dk.up_drew (Below.refl W5.heap.size W5)) ?_
  refine Dk.mix_held rfl rfl (fun w' hw' => by go_simp; rfl) ?_
  simp only [Act.put, List.setIfInBounds_toArray, List.set_cons_succ, List.set_cons_zero]
  refine Dk.mix_held (v := .int .i64 1) rfl rfl (fun w' hw' => by obtain ⟨⟨p0, p1, p2⟩, ⟨q0, q1, q2⟩, r0, r1, r2⟩ := FC.out w' hw'; go_simp) ?_
  simp only [Act.put, List.setIfInBounds_toArray, List.set_cons_succ, List.set_cons_zero]
  iterate 3 (refine Dk.mix_held rfl rfl (fun w' hw' => by go_simp; rfl) ?_; simp only [Act.put, List.setIfInBounds_toArray, List.set_cons_succ, List.set_cons_zero])
  refine Dk.mix_held (v := .int .i64 (-1)) rfl rfl (fun w' hw' => by obtain ⟨⟨p0, p1, p2⟩, ⟨q0, q1, q2⟩, r0, r1, r2⟩ := FC.out w' hw'; go_simp) ?_
  simp only [Act.put, List.setIfInBounds_toArray, List.set_cons_succ, List.set_cons_zero]
  iterate 4 (refine Dk.mix_held rfl rfl (fun w' hw' => by go_simp; rfl) ?_; simp only [Act.put, List.setIfInBounds_toArray, List.set_cons_succ, List.set_cons_zero])
  refine Dk.mix_held (v := .slice B2 (l.length + L') D2) rfl rfl (fun w' hw' => by obtain ⟨⟨p0, p1, p2⟩, ⟨q0, q1, q2⟩, r0, r1, r2⟩ := FC.out w' hw'; go_simp) ?_
  simp only [Act.put, List.setIfInBounds_toArray, List.set_cons_succ, List.set_cons_zero]
  refine Dk.mix_held (v := .agg #[.int .i64 m, .int .i64 t, .slice A L C]) rfl rfl (fun w' hw' => by obtain ⟨⟨p0, p1, p2⟩, ⟨q0, q1, q2⟩, r0, r1, r2⟩ := FC.out w' hw'; go_simp) ?_
  simp only [Act.put, List.setIfInBounds_toArray, List.set_cons_succ, List.set_cons_zero]
  refine Dk.mix_held rfl rfl (fun w' hw' => by go_simp; rfl) ?_
  simp only [Act.put, List.setIfInBounds_toArray, List.set_cons_succ, List.set_cons_zero]
  have ud := Dk.up_drew (Below.refl W5.heap.size W5)
  refine Dk.mix_call (f := 9) (args := #[Dk.vv m t A L C]) rfl rfl (by go_simp) ?_
  refine (KS.out _ (Dk.up_call (Dk.Sep.out HS.out) ud)).mono ?_
  rintro e w6 ⟨B6, D6, rfl, s6⟩
  have u6 := Dk.up_call ud s6.out
  refine ⟨_, rfl, u6, ?_⟩
  simp only [Act.put, List.setIfInBounds_toArray, List.set_cons_succ, List.set_cons_zero]
  obtain ⟨v7, W7, r7, s7⟩ := Dk.Sep.appendEs (us1 := []) KE s6 rfl (HE'.out _ (Dk.up_call (Dk.Sep.out HS.out) u6)) (by unfold maxLen; omega) (by omega)
  have u7 := Dk.up_call ud s7.out
  refine Dk.mix_step rfl rfl (wp_append_run _ _ _ _ _ rfl _ _ rfl rfl _ _ r7 ⟨u7, ?_⟩)
  simp only [Act.put, List.setIfInBounds_toArray, List.set_cons_succ, List.set_cons_zero]
  obtain ⟨A7, C7, ev, q7⟩ := s7.asEvs (e := 36) (v := v7) (n := l.length + L') (xs := l ++ ms) (by simp) (by rw [List.length_append, hlen']) (fun e he => (List.mem_append.1 he).elim (HO.out e) (HO'.out e))
  subst ev
  have S7 := Dk.Sep.below HS.out u7
  obtain ⟨_, _, ev, p7⟩ := S7.asEvs (e := 36) (v := .slice B2 (l.length + L') D2) (n := l.length + L') (xs := l ++ ms) (by simp) (by rw [List.length_append, hlen']) (fun e he => (List.mem_append.1 he).elim (HO.out e) (HO'.out e))
  cases ev
  refine Dk.mix_call (f := 8) (args := #[.slice B2 (l.length + L') D2, .slice A7 (l.length + L') C7]) rfl rfl (by go_simp) ?_
  refine (Events_same _ _ _ _ _ _ W7 p7 q7).mono ?_
  rintro e w8 ⟨rfl, v8⟩
  have u8 := Dk.up_call u7 v8
  refine ⟨_, rfl, u8, ?_⟩
  simp only [Act.put, List.setIfInBounds_toArray, List.set_cons_succ, List.set_cons_zero]
  iterate 4 (refine Dk.mix_held rfl rfl (fun w' hw' => by go_simp; rfl) ?_; simp only [Act.put, List.setIfInBounds_toArray, List.set_cons_succ, List.set_cons_zero])
  refine Dk.mix_held (v := .int .i64 1) rfl rfl (fun w' hw' => by obtain ⟨⟨p0, p1, p2⟩, ⟨q0, q1, q2⟩, r0, r1, r2⟩ := FC.out w' hw'; go_simp) ?_
  simp only [Act.put, List.setIfInBounds_toArray, List.set_cons_succ, List.set_cons_zero]
  iterate 4 (refine Dk.mix_held rfl rfl (fun w' hw' => by go_simp; rfl) ?_; simp only [Act.put, List.setIfInBounds_toArray, List.set_cons_succ, List.set_cons_zero])
  refine Dk.mix_held (v := .slice B4 L' D4) rfl rfl (fun w' hw' => by obtain ⟨⟨p0, p1, p2⟩, ⟨q0, q1, q2⟩, r0, r1, r2⟩ := FC.out w' hw'; go_simp) ?_
  simp only [Act.put, List.setIfInBounds_toArray, List.set_cons_succ, List.set_cons_zero]
  refine Dk.mix_held rfl rfl (fun w' hw' => by go_simp; rfl) ?_
  simp only [Act.put, List.setIfInBounds_toArray, List.set_cons_succ, List.set_cons_zero]
  have S8 := Dk.Sep.below HS.out u8
  obtain ⟨_, _, ev, p8⟩ := S8.asEvs (e := 36) (v := .slice B4 L' D4) (n := L') (xs := ms) (by simp) hlen' HO'.out
  cases ev
  refine Dk.mix_call (f := 8) (args := #[.slice B4 L' D4, .slice A' L' C']) rfl rfl (by go_simp) ?_
  refine (Events_same _ _ _ _ _ _ w8 p8 (HE'.out _ S8.out)).mono ?_
  rintro e w9 ⟨rfl, v9⟩
  have u9 := Dk.up_call u8 v9
  refine ⟨_, rfl, u9, ?_⟩
  simp only [Act.put, List.setIfInBounds_toArray, List.set_cons_succ, List.set_cons_zero]
  iterate 2 (refine Dk.mix_held rfl rfl (fun w' hw' => by go_simp; rfl) ?_; simp only [Act.put, List.setIfInBounds_toArray, List.set_cons_succ, List.set_cons_zero])
  show NoPanic _ Exit.normal _ _
  refine NoPanic.normal ?_
  have S9 := (Dk.Sep.below HS.out u9).sub (us := [Dk.boxOf w.heap.size #[.int .i64 m, .int .i64 t, .slice A L C] 24]) (by refine List.singleton_sublist.2 ?_; simp)
  obtain ⟨⟨p0, p1, p2⟩, _⟩ := FC.out _ u9
  have K5 := KT.out _ S9.out
  rw [List.append_nil, Nat.add_zero] at K5
  clear p7 q7 p8 s6 s7 S7 S8 r7 u6 u7 u8 u9 v8 v9 ud KS KT FC HE' HO' HS
  go_wp2_with fail
  refine K5.mono ?_
  rintro e wa ⟨Ba, Da, rfl, sa⟩
  obtain ⟨Wb, eb⟩ : ∃ W, W = wa.alloc (.cells #[.int .i64 1, .int .i64 (-1), .slice Ba l.length Da] 24) := ⟨_, rfl⟩
  have sb := (S9.onto sa).newBox eb
  have bb := sb.box (List.mem_cons_self ..)
  have d0 : Wb.cell? ⟨wa.heap.size, 0, none⟩ = some (.int .i64 1) := bb.cell 0
  have d1 : Wb.cell? ⟨wa.heap.size, 1, none⟩ = some (.int .i64 (-1)) := bb.cell 1
  have d2 : Wb.cell? ⟨wa.heap.size, 2, none⟩ = some (.slice Ba l.length Da) := bb.cell 2
  obtain ⟨_, _, ev, qb⟩ := sb.asEvs (e := 36) (v := .slice Ba l.length Da) (n := l.length) (xs := l) (by simp) rfl HO.out
  cases ev
  have K6 := Told_any (m := 1) (t := -1) (A' := none) (L' := 0) (C' := 0) (es' := []) ⟨by decide, by decide⟩ ⟨by decide, by decide⟩ qb (Dk.SlE.none_ rfl (Nat.zero_le _)) (by omega)
  rw [HA.out, List.append_nil, Nat.add_zero] at K6
  have Hb : Hid (wa.alloc (.cells #[.int .i64 1, .int .i64 (-1), .slice Ba l.length Da] 24) = Wb) := eb.symm
  clear K5 sa S9 p0 p1 p2 bb qb eb
  go_wp2_with (rw [Hb.out]; clear Hb)
  refine K6.mono ?_
  rintro e wc ⟨Bc, Dc, rfl, sc⟩
  obtain ⟨Wd, ed⟩ : ∃ W, W = wc.alloc (.cells #[.int .i64 1, .int .i64 (-1), .slice Bc l.length Dc] 24) := ⟨_, rfl⟩
  have sd := (sb.onto sc).newBox ed
  have HSd : Hid _ := sd
  have FD : Hid (∀ w', Below Wd.heap.size Wd w' → (w'.cell? ⟨w.heap.size, 0, none⟩ = some (.int .i64 m) ∧ w'.cell? ⟨w.heap.size, 1, none⟩ = some (.int .i64 t) ∧ w'.cell? ⟨w.heap.size, 2, none⟩ = some (.slice A L C)) ∧ w'.cell? ⟨wa.heap.size, 2, none⟩ = some (.slice Ba l.length Da) ∧ w'.cell? ⟨wc.heap.size, 2, none⟩ = some (.slice Bc l.length Dc)) := fun w' u => by
    have S := Dk.Sep.below HSd.out u
    have x1 := S.box (b := w.heap.size) (cs := #[.int .i64 m, .int .i64 t, .slice A L C]) (t := 24) (by simp)
    have x2 := S.box (b := wa.heap.size) (cs := #[.int .i64 1, .int .i64 (-1), .slice Ba l.length Da]) (t := 24) (by simp)
    have x3 := S.box (b := wc.heap.size) (cs := #[.int .i64 1, .int .i64 (-1), .slice Bc l.length Dc]) (t := 24) (by simp)
    exact ⟨⟨x1.cell 0, x1.cell 1, x1.cell 2⟩, x2.cell 2, x3.cell 2⟩
  have FE : Hid (∀ w', Below Wd.heap.size Wd w' → Dk.SlE w'.heap.size w' Ba l.length Da l ∧ Dk.SlE w'.heap.size w' Bc l.length Dc l) := fun w' u => by
    have S := Dk.Sep.below HSd.out u
    obtain ⟨_, _, ev, q1⟩ := S.asEvs (e := 36) (v := .slice Ba l.length Da) (n := l.length) (xs := l) (by simp) rfl HO.out
    cases ev
    obtain ⟨_, _, ev, q2⟩ := S.asEvs (e := 36) (v := .slice Bc l.length Dc) (n := l.length) (xs := l) (by simp) rfl HO.out
    cases ev
    exact ⟨q1, q2⟩
  obtain ⟨⟨p0, p1, p2⟩, p3, p4⟩ := FD.out _ (Below.refl _ _)
  have Hd : Hid (wc.alloc (.cells #[.int .i64 1, .int .i64 (-1), .slice Bc l.length Dc] 24) = Wd) := ed.symm
  have hcap := (FE.out _ (Below.refl _ _)).2.cap
  have hmax := (FE.out _ (Below.refl _ _)).2.max
  unfold maxLen at hmax
  have HUd : Hid _ := Dk.Sep.out HSd.out
  clear K6 sb sc sd ed HSd d0 d1 d2 HA HO
  go_wp2_with (rw [Hd.out]; clear Hd)
  go_loopw [9, 10] (fun v i w' => ∃ k : Nat, k ≤ l.length ∧ v = .int .i64 (Dk.cn Dk.Ev.within l k : Int) ∧ i = .int .i64 k ∧ Hid (w' = Wd)) (fun v i w' => l.length - (intOf i).toNat)
  case atStart => exact ⟨0, Nat.zero_le _, rfl, rfl, rfl⟩
  case round =>
    obtain ⟨k, hk, rfl, rfl, HB⟩ := hrel
    have ew := HB.out
    subst wr
    by_cases hlt : k < l.length
    · obtain ⟨b, o, rfl, hbb, _, k0, k1, k2⟩ := (FE.out _ (Below.refl _ _)).2.at hlt
      have hle := Dk.cn_le Dk.Ev.within l k
      have HY : Hid ((l.getD k Dk.Ev.zero).within = true → Dk.cn Dk.Ev.within l (k + 1) = Dk.cn Dk.Ev.within l k + 1) := fun h => Dk.cn_yes hlt h
      have HN : Hid ((l.getD k Dk.Ev.zero).within = false → Dk.cn Dk.Ev.within l (k + 1) = Dk.cn Dk.Ev.within l k) := fun h => Dk.cn_no hlt h
      generalize Dk.cn Dk.Ev.within l k = n at *
      generalize l.getD k Dk.Ev.zero = x at k0 k1 k2 HY HN
      obtain ⟨xk, xt, xm⟩ := x
      by_cases hm0 : 0 < xm
      · have HQ : Hid _ := HY.out (decide_eq_true hm0)
        go_wp2_with fail
        go_roundw
        case rel => exact ⟨k + 1, by omega, by rw [HQ.out]; go_num, by go_num, True.intro⟩
        case measure => simp [intOf]; omega
      · have HQ : Hid _ := HN.out (decide_eq_false hm0)
        go_wp2_with fail
        go_roundw
        case rel => exact ⟨k + 1, by omega, by rw [HQ.out], by go_num, True.intro⟩
        case measure => simp [intOf]; omega
    · obtain hkl : k = l.length := by omega
      have HW' : Hid (h = true → 0 < Dk.cn Dk.Ev.within l k) := by rw [hkl]; exact HW.out
      rw [← hkl] at p3 p4
      generalize Dk.cn Dk.Ev.within l k = n at *
      go_wp2_with fail
      refine (awake_any _).mono ?_
      rintro e we ⟨rfl, ve⟩
      obtain ⟨⟨g0, g1, g2⟩, g3, g4⟩ := FD.out _ ve
      obtain ⟨q1, q2⟩ := FE.out _ ve
      have K7 := Events_same _ _ _ _ _ _ we q1 q2
      clear p0 p1 p2 p3 p4 q1 q2
      go_wp2_with fail
      refine K7.mono ?_
      rintro e wf ⟨rfl, vf⟩
      have ue := Dk.up_call ve vf
      obtain ⟨⟨p0, p1, p2⟩, p3, p4⟩ := FD.out _ ue
      clear K7 g0 g1 g2 g3 g4 ve vf
      cases h with
      | true =>
        have hn : 0 < n := HW'.out rfl
        have hni : (0 : Int) < (n : Int) := by omega
        go_wp2_with fail
        refine (KH _).mono ?_
        rintro e wg ⟨rfl, vg⟩
        have U : Hid _ := Dk.up_call HUd.out (Dk.up_call ue vg)
        clear ue vg p0 p1 p2 p3 p4 KH FD FE
        go_wp2_with fail
        go_ret
        exact ⟨rfl, U.out⟩
      | false =>
        go_wp2_with fail
        refine (KH _).mono ?_
        rintro e wg ⟨rfl, vg⟩
        have U : Hid _ := Dk.up_call HUd.out (Dk.up_call ue vg)
        clear ue vg p0 p1 p2 p3 p4 KH FD FE
        go_wp2_with fail
        go_ret
        exact ⟨rfl, U.out⟩
end Go.Proofs.Ythpphicgkkhbfaa
