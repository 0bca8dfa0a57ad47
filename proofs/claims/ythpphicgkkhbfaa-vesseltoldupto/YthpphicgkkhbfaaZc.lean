/- Layer 15: what is left of a vessel that is taken away; what it is told. -/
import Derived.Test.YthpphicgkkhbfaaZb
namespace Go.Proofs.Ythpphicgkkhbfaa
set_option linter.unusedSimpArgs false
set_option linter.unusedVariables false
set_option linter.unnecessarySimpa false
open Go.RowKit Go.Lib
set_option maxRecDepth 100000 in
set_option maxHeartbeats 4000000 in
theorem Strip_any {m t : Int} {A : Option Addr} {L C : Nat} {es : List Dk.Ev} {w : World} (hm : Dk.i64 m) (ht : Dk.i64 t) (hE : Dk.SlE w.heap.size w A L C es) (hL : L + 1 ≤ 5864062014805) :
    Calls Try.prog 9 #[Dk.vv m t A L C] w fun e w' => ∃ B D, e = .returned (.slice B (Dk.stripV m t es).length D) ∧ Dk.Sep w w' [Dk.rowOf 36 3 (.slice B (Dk.stripV m t es).length D) (Dk.stripV m t es).length (Dk.evs (Dk.stripV m t es))] := by
  have KT := fun w => taken_any m t A L C w
  have HTok : Hid _ := Dk.takenV_ok hm ht
  have HKok : Hid _ := Dk.keepL_ok hE.wf
  have hlen := hE.len
  have hTl := Dk.takenV_len m t
  have hKl := Dk.keepL_len es
  unfold Dk.stripV
  generalize Dk.takenV m t = ts at *
  obtain ⟨W1, e1⟩ : ∃ W, W = w.alloc (.cells #[.int .i64 m, .int .i64 t, .slice A L C] 24) := ⟨_, rfl⟩
  have s1 := (Dk.Sep.begin (Below.refl w.heap.size w)).newBox e1
  have HE : Hid _ := hE.up s1.out
  have HU : Hid _ := s1.out
  have b1 := s1.box (List.mem_cons_self ..)
  have FC : Hid (∀ w', Below W1.heap.size W1 w' → w'.cell? ⟨w.heap.size, 0, none⟩ = some (.int .i64 m) ∧ w'.cell? ⟨w.heap.size, 1, none⟩ = some (.int .i64 t) ∧ w'.cell? ⟨w.heap.size, 2, none⟩ = some (.slice A L C)) := fun w' u =>
    ⟨(b1.up u).cell 0, (b1.up u).cell 1, (b1.up u).cell 2⟩
  have H1 : Hid (w.alloc (.cells #[.int .i64 m, .int .i64 t, .slice A L C] 24) = W1) := e1.symm
  clear hE e1 b1 s1
  go_enter Try.func9, Try.ntmps9
  go_wp2_with (rw [H1.out]; clear H1)
  refine Dk.wp_region_mix (S := fun w' => Below W1.heap.size W1 w') [(true, 0), (true, 2), (true, 3), (false, 1), (false, 4), (false, 5), (true, 6)] (by kernel_rfl) (by kernel_rfl) (by kernel_rfl) rfl (Dk.up_drew (Below.refl W1.heap.size W1)) ?_
  refine Dk.mix_held (v := .agg #[.int .i64 m, .int .i64 t, .slice A L C]) rfl rfl (fun w' hw' => by obtain ⟨q0, q1, q2⟩ := FC.out w' hw'; go_simp) ?_
  simp only [Act.put, List.setIfInBounds_toArray, List.set_cons_succ, List.set_cons_zero]
  refine Dk.mix_held rfl rfl (fun w' hw' => by go_simp; rfl) ?_
  simp only [Act.put, List.setIfInBounds_toArray, List.set_cons_succ, List.set_cons_zero]
  refine Dk.mix_held (v := .slice A L C) rfl rfl (fun w' hw' => by obtain ⟨q0, q1, q2⟩ := FC.out w' hw'; go_simp) ?_
  simp only [Act.put, List.setIfInBounds_toArray, List.set_cons_succ, List.set_cons_zero]
  refine Dk.mix_call (f := 17) (args := #[Dk.vv m t A L C]) rfl rfl (by go_simp) ?_
  refine (KT _).mono ?_
  rintro e w2 ⟨v, rfl, s2⟩
  have u2 := Dk.up_call (Dk.up_drew (Below.refl W1.heap.size W1)) s2.out
  refine ⟨_, rfl, u2, ?_⟩
  simp only [Act.put, List.setIfInBounds_toArray, List.set_cons_succ, List.set_cons_zero]
  have K3 := Keep_any (HE.out.up u2) (by omega)
  refine Dk.mix_call (f := 18) (args := #[.slice A L C]) rfl rfl (by go_simp) ?_
  refine K3.mono ?_
  rintro e w3 ⟨v', rfl, s3⟩
  have u3 := Dk.up_call u2 s3.out
  refine ⟨_, rfl, u3, ?_⟩
  simp only [Act.put, List.setIfInBounds_toArray, List.set_cons_succ, List.set_cons_zero]
  obtain ⟨A2, C2, rfl, q2⟩ := (s2.below s3.out).asEvs (e := 36) (v := v) (n := ts.length) (xs := ts) (List.mem_cons_self ..) rfl HTok.out
  obtain ⟨A3, C3, rfl, q3⟩ := s3.asEvs (e := 36) (v := v') (n := (Dk.keepL es).length) (xs := Dk.keepL es) (List.mem_cons_self ..) rfl HKok.out
  have K4 := Join_any q2 q3 (by omega)
  refine Dk.mix_call (f := 16) (args := #[.slice A2 ts.length C2, .slice A3 (Dk.keepL es).length C3]) rfl rfl (by go_simp) ?_
  refine K4.mono ?_
  rintro e w4 ⟨B, D, rfl, s4⟩
  have u4 := Dk.up_call u3 s4.out
  refine ⟨_, rfl, u4, ?_⟩
  have HS : Hid _ := (Dk.Sep.begin (Dk.up_call (Dk.up_call HU.out u3) (Below.refl _ _))).onto s4
  rw [← List.length_append] at HS
  clear K3 K4 q2 q3 s2 s3 s4 u2 u3 u4 KT
  simp only [Act.put, List.setIfInBounds_toArray, List.set_cons_succ, List.set_cons_zero]
  refine Dk.mix_held rfl rfl (fun w' hw' => by go_simp; rfl) ?_
  simp only [Act.put, List.setIfInBounds_toArray, List.set_cons_succ, List.set_cons_zero]
  rw [← List.length_append]
  show NoPanic _ Exit.normal _ _
  refine NoPanic.normal ?_
  go_wp2
  go_ret
  exact ⟨_, _, rfl, HS.out⟩
set_option maxRecDepth 100000 in
set_option maxHeartbeats 4000000 in
theorem Told_any {m t : Int} {A A' : Option Addr} {L L' C C' : Nat} {es es' : List Dk.Ev} {w : World} (hm : Dk.i64 m) (ht : Dk.i64 t) (hE : Dk.SlE w.heap.size w A L C es) (hE' : Dk.SlE w.heap.size w A' L' C' es') (hL : L + 1 + L' ≤ 5864062014805) :
    Calls Try.prog 13 #[Dk.vv m t A L C, .slice A' L' C'] w fun e w' => ∃ B D, e = .returned (Dk.vv 1 (-1) B ((Dk.stripV m t es).length + L') D) ∧ Dk.Sep w w' [Dk.rowOf 36 3 (.slice B ((Dk.stripV m t es).length + L') D) ((Dk.stripV m t es).length + L') (Dk.evs (Dk.stripV m t es ++ es'))] := by
  have hlen := hE.len
  have hlen' := hE'.len
  have hSl := Dk.stripV_len m t es
  have HO : Hid _ := Dk.stripV_ok hm ht hE.wf
  have HO' : Hid _ := hE'.wf
  obtain ⟨W1, e1⟩ : ∃ W, W = w.alloc (.cells #[.int .i64 m, .int .i64 t, .slice A L C] 24) := ⟨_, rfl⟩
  have s1 := (Dk.Sep.begin (Below.refl w.heap.size w)).newBox e1
  obtain ⟨W2, e2⟩ : ∃ W, W = W1.alloc (.cells #[.int .i64 0, .int .i64 0, .slice none 0 0] 24) := ⟨_, rfl⟩
  have s2 := s1.newBox e2
  have b2 := s2.box (b := w.heap.size) (cs := #[.int .i64 m, .int .i64 t, .slice A L C]) (t := 24) (by simp)
  have c0 : W2.cell? ⟨w.heap.size, 0, none⟩ = some (.int .i64 m) := b2.cell 0
  have c1 : W2.cell? ⟨w.heap.size, 1, none⟩ = some (.int .i64 t) := b2.cell 1
  have c2 : W2.cell? ⟨w.heap.size, 2, none⟩ = some (.slice A L C) := b2.cell 2
  have hwW : w.heap.size < W1.heap.size := (s1.box (List.mem_cons_self ..)).lt
  have K1 := Strip_any hm ht (hE.up s2.out) (by omega)
  have HE' : Hid _ := hE'.up s2.out
  generalize Dk.stripV m t es = l at *
  have H1 : Hid (w.alloc (.cells #[.int .i64 m, .int .i64 t, .slice A L C] 24) = W1) := e1.symm
  have H2 : Hid (W1.alloc (.cells #[.int .i64 0, .int .i64 0, .slice none 0 0] 24) = W2) := e2.symm
  clear e1 e2 b2 hE hE' s1
  go_enter Try.func13, Try.ntmps13
  go_wp2_with (first | (rw [H1.out]; clear H1) | (rw [H2.out]; clear H2))
  refine K1.mono ?_
  rintro e w3 ⟨B3, D3, rfl, s3⟩
  obtain ⟨_, _, ev, q3⟩ := s3.asEvs (List.mem_cons_self ..) rfl HO.out
  cases ev
  have K2 := Join_any q3 (HE'.out.up s3.out) (by omega)
  have S3 := s2.onto s3
  clear K1 q3 s3 s2 c0 c1 c2
  go_wp2_with fail
  refine K2.mono ?_
  rintro e w4 ⟨B4, D4, rfl, s4⟩
  obtain ⟨_, _, ev, q4⟩ := s4.asEvs (List.mem_cons_self ..) (by rw [List.length_append, hlen']) (fun e he => (List.mem_append.1 he).elim (HO.out e) (HO'.out e))
  cases ev
  have K3 := New_v q4 (by omega)
  have S4 := S3.below s4.out
  clear K2 q4 s4 S3
  go_wp2_with fail
  refine K3.mono ?_
  rintro e w5 ⟨B, D, rfl, s5⟩
  have s3 := S4.onto s5
  have b2 : Dk.Box w5 W1.heap.size #[.int .i64 0, .int .i64 0, .slice none 0 0] 24 := s3.box (by simp)
  have HB2 : Hid _ := b2
  have s6 := Dk.Sep.setRow (us1 := [_, _]) s3 #[.int .i64 1, .int .i64 (-1), .slice B (l.length + L') D]
  obtain ⟨W6, e6⟩ : ∃ W, W = w5.setRow W1.heap.size #[.int .i64 1, .int .i64 (-1), .slice B (l.length + L') D] := ⟨_, rfl⟩
  rw [← e6] at s6
  have b6 : Dk.Box W6 W1.heap.size #[.int .i64 1, .int .i64 (-1), .slice B (l.length + L') D] 24 := s6.box (by simp)
  have HB6 : Hid _ := b6
  have HS : Hid (Dk.Sep w W6 [Dk.rowOf 36 3 (.slice B (l.length + L') D) (l.length + L') (Dk.evs (l ++ es'))]) := s6.sub ((List.nil_sublist _).cons_cons _)
  have H6 : Hid (w5.setRow W1.heap.size #[.int .i64 1, .int .i64 (-1), .slice B (l.length + L') D] = W6) := e6.symm
  clear b2 s3 s6 e6 b6 S4 s5 K3
  go_wp2_with (refine wpList_store_row rfl 24 _ _ rfl W1.heap.size #[.int .i64 1, .int .i64 (-1), .slice B (l.length + L') D] rfl rfl 24 _ HB2.out.heap vv_size rfl (vv_cells _ _ _ _ _) ?_; rw [H6.out]; clear HB2 H6)
  (try simp only [Exit.inBlock, Exit.then])
  refine bodyPost_ret (results_cell_row rfl _ _ W1.heap.size 24 #[.int .i64 1, .int .i64 (-1), .slice B (l.length + L') D] (0, 0) _ rfl HB6.out.heap Try.underlying24 rfl vv_size) rfl ?_
  exact ⟨_, _, rfl, HS.out⟩
end Go.Proofs.Ythpphicgkkhbfaa
