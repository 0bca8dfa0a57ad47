/- What Put and Get do. -/
import Derived.Test.YtnoeigmcanggdaaTq
import Derived.Test.YtnoeigmcanggdaaDx
import Derived.Test.YtnoeigmcanggdaaQz
import Derived.OwnWalk
namespace Go.Proofs.Ytnoeigmcanggdaa
set_option linter.unusedSimpArgs false
set_option linter.unusedVariables false
set_option linter.unnecessarySimpa false
open Go.RowKit Go.Lib

theorem results_tmp4 {fn : Func} {t u v x : Tmp} (h : fn.results = #[.tmp t, .tmp u, .tmp v, .tmp x]) (tmps : Array Value) (P : Program) (w : World) :
    (results fn tmps).run P w = .ok (.tuple #[tmps.getD t undef, tmps.getD u undef, tmps.getD v undef, tmps.getD x undef]) w := by
  simp [results, h]

theorem Put_nil (x : Int) (y : Nat) (w : World) : Calls Try.prog 10 #[.pointer none, .int .i64 x, .int .u64 (y : Nat)] w fun e w' => e = .returned (.tuple #[.bool false, .int .i64 0, .bool false]) ∧ w' = w := by
  go_enter Try.func10, Try.ntmps10
  go_wp2
  go_ret3
  exact ⟨rfl, rfl⟩
theorem Get_nil (x : Int) (w : World) : Calls Try.prog 8 #[.pointer none, .int .i64 x] w fun e w' => e = .returned (.tuple #[.int .u64 0, .bool false, .int .i64 0, .bool false]) ∧ w' = w := by
  go_enter Try.func8, Try.ntmps8
  go_wp2
  (try simp only [Exit.inBlock, Exit.then])
  refine bodyPost_ret (results_tmp4 rfl _ _ _) rfl ?_
  exact ⟨rfl, rfl⟩

section
variable {W w : World} {bt : Nat} {room : Int} {ws : List Nat} {ps : List (Int × Nat)} {gs : List Int} {us : List Dk.Thing}

theorem Put_waits (h : Dk.Tb W w bt room ws ps gs us) (x : Int) (y : Nat) (hw : Dk.waits ps gs x = true) :
    Calls Try.prog 10 #[.pointer (some ⟨bt, 0, none⟩), .int .i64 x, .int .u64 (y : Nat)] w fun e w' => e = .returned (.tuple #[.bool false, .int .i64 0, .bool false]) ∧ Dk.Tb W w' bt room ws ps gs us := by
  have K := waits_any h x
  rw [hw] at K
  clear hw
  go_enter Try.func10, Try.ntmps10
  go_wp2_with fail
  refine K.mono ?_
  rintro e w' ⟨rfl, hb⟩
  have h' := h.below hb
  clear h K hb
  go_wp2_with fail
  go_ret3
  exact ⟨rfl, h'⟩
theorem Put_given {g : Int} (h : Dk.Tb W w bt room ws ps (g :: gs) us) (x : Int) (y : Nat) (hw : Dk.waits ps (g :: gs) x = false) :
    Calls Try.prog 10 #[.pointer (some ⟨bt, 0, none⟩), .int .i64 x, .int .u64 (y : Nat)] w fun e w' => e = .returned (.tuple #[.bool true, .int .i64 g, .bool true]) ∧ Dk.Tb W w' bt room ws ps gs us := by
  have K := waits_any h x
  rw [hw] at K
  clear hw
  go_enter Try.func10, Try.ntmps10
  go_wp2_with fail
  refine K.mono ?_
  rintro e w' ⟨rfl, hb⟩
  have h' := h.below hb
  clear h K hb
  go_wp2_with fail
  refine (first_ints h').mono ?_
  rintro e w1 ⟨rfl, h1⟩
  clear h'
  go_wp2_with fail
  go_ret3
  exact ⟨rfl, h1⟩
set_option maxHeartbeats 1000000 in
theorem Put_room (h : Dk.Tb W w bt room ws ps [] us) (x : Int) (y : Nat) (hw : Dk.waits ps [] x = false) (hy : y < 2 ^ 64) (hr : ws.length < Dk.most room) (hl : ws.length ≤ 1000) :
    Calls Try.prog 10 #[.pointer (some ⟨bt, 0, none⟩), .int .i64 x, .int .u64 (y : Nat)] w fun e w' => e = .returned (.tuple #[.bool true, .int .i64 0, .bool false]) ∧ Dk.Tb W w' bt room (ws ++ [y]) ps [] us := by
  have K := waits_any h x
  rw [hw] at K
  have HR : Hid (decide (ws.length < Dk.most room) = true) := decide_eq_true hr
  clear hw hr
  go_enter Try.func10, Try.ntmps10
  go_wp2_with fail
  refine K.mono ?_
  rintro e w1 ⟨rfl, hb⟩
  have h1 := h.below hb
  clear h K hb
  go_wp2_with fail
  refine (none_ints h1).mono ?_
  rintro e w' ⟨rfl, hw'⟩
  subst w'
  go_wp2_with fail
  refine (hasRoom_any h1).mono ?_
  rw [HR.out]
  rintro e w2 ⟨rfl, hb⟩
  have h2 := h1.below hb
  clear h1 hb HR
  obtain ⟨A, n, C, A', n', C', w3, c1, r1, d1, f1, h3⟩ := Tb.add1 h2 y hy hl
  clear h2 hy
  go_wp2_with (at_builtin; refine Lib.wpList_append_run _ rfl _ _ _ _ rfl _ _ rfl rfl _ _ r1 ?_)
  go_ret3
  exact ⟨rfl, h3⟩
set_option maxHeartbeats 1000000 in
theorem Put_full (h : Dk.Tb W w bt room ws ps [] us) (x : Int) (y : Nat) (hw : Dk.waits ps [] x = false) (hx : Dk.i64 x) (hy : y < 2 ^ 64) (hr : ¬ ws.length < Dk.most room) (hl : ps.length ≤ 1000) :
    Calls Try.prog 10 #[.pointer (some ⟨bt, 0, none⟩), .int .i64 x, .int .u64 (y : Nat)] w fun e w' => e = .returned (.tuple #[.bool false, .int .i64 0, .bool false]) ∧ Dk.Tb W w' bt room ws (ps ++ [(x, y)]) [] us := by
  have K := waits_any h x
  rw [hw] at K
  have HR : Hid (decide (ws.length < Dk.most room) = false) := decide_eq_false hr
  clear hw hr
  go_enter Try.func10, Try.ntmps10
  go_wp2_with fail
  refine K.mono ?_
  rintro e w1 ⟨rfl, hb⟩
  have h1 := h.below hb
  clear h K hb
  go_wp2_with fail
  refine (none_ints h1).mono ?_
  rintro e w' ⟨rfl, hw'⟩
  subst w'
  go_wp2_with fail
  refine (hasRoom_any h1).mono ?_
  rw [HR.out]
  rintro e w2 ⟨rfl, hb⟩
  have h2 := h1.below hb
  clear h1 hb HR
  obtain ⟨A, n, C, A', n', C', w3, c1, r1, d1, f1, h3⟩ := Tb.add2 h2 x y hx hy hl
  clear h2 hy hx
  go_wp2_with (at_builtin; refine Lib.wpList_append_run _ rfl _ _ _ _ rfl _ _ rfl rfl _ _ r1 ?_)
  go_ret3
  exact ⟨rfl, h3⟩

theorem Get_waits (h : Dk.Tb W w bt room ws ps gs us) (x : Int) (hw : Dk.waits ps gs x = true) :
    Calls Try.prog 8 #[.pointer (some ⟨bt, 0, none⟩), .int .i64 x] w fun e w' => e = .returned (.tuple #[.int .u64 0, .bool false, .int .i64 0, .bool false]) ∧ Dk.Tb W w' bt room ws ps gs us := by
  have K := waits_any h x
  rw [hw] at K
  clear hw
  go_enter Try.func8, Try.ntmps8
  go_wp2_with fail
  refine K.mono ?_
  rintro e w' ⟨rfl, hb⟩
  have h' := h.below hb
  clear h K hb
  go_wp2_with fail
  (try simp only [Exit.inBlock, Exit.then])
  refine bodyPost_ret (results_tmp4 rfl _ _ _) rfl ?_
  exact ⟨rfl, h'⟩
set_option maxHeartbeats 1000000 in
theorem Get_none (h : Dk.Tb W w bt room [] ps gs us) (x : Int) (hw : Dk.waits ps gs x = false) (hx : Dk.i64 x) (hl : gs.length ≤ 1000) :
    Calls Try.prog 8 #[.pointer (some ⟨bt, 0, none⟩), .int .i64 x] w fun e w' => e = .returned (.tuple #[.int .u64 0, .bool false, .int .i64 0, .bool false]) ∧ Dk.Tb W w' bt room [] ps (gs ++ [x]) us := by
  have K := waits_any h x
  rw [hw] at K
  clear hw
  go_enter Try.func8, Try.ntmps8
  go_wp2_with fail
  refine K.mono ?_
  rintro e w1 ⟨rfl, hb⟩
  have h1 := h.below hb
  clear h K hb
  go_wp2_with fail
  refine (none_words h1).mono ?_
  rintro e w' ⟨rfl, hw'⟩
  subst w'
  obtain ⟨A, n, C, A', n', C', w3, c1, r1, d1, f1, h3⟩ := Tb.add3 h1 x hx hl
  clear h1 hx
  go_wp2_with (at_builtin; refine Lib.wpList_append_run _ rfl _ _ _ _ rfl _ _ rfl rfl _ _ r1 ?_)
  (try simp only [Exit.inBlock, Exit.then])
  refine bodyPost_ret (results_tmp4 rfl _ _ _) rfl ?_
  exact ⟨rfl, h3⟩
set_option maxHeartbeats 1000000 in
theorem Get_one {y : Nat} (h : Dk.Tb W w bt room (y :: ws) [] gs us) (x : Int) (hw : Dk.waits [] gs x = false) :
    Calls Try.prog 8 #[.pointer (some ⟨bt, 0, none⟩), .int .i64 x] w fun e w' => e = .returned (.tuple #[.int .u64 (y : Nat), .bool true, .int .i64 0, .bool false]) ∧ Dk.Tb W w' bt room ws [] gs us := by
  have K := waits_any h x
  rw [hw] at K
  clear hw
  go_enter Try.func8, Try.ntmps8
  go_wp2_with fail
  refine K.mono ?_
  rintro e w1 ⟨rfl, hb⟩
  have h1 := h.below hb
  clear h K hb
  go_wp2_with fail
  refine (first_words h1).mono ?_
  rintro e w2 ⟨rfl, h2⟩
  clear h1
  go_wp2_with fail
  refine (none_pairs h2).mono ?_
  rintro e w3 ⟨rfl, hb⟩
  have h3 := h2.below hb
  clear h2 hb
  obtain ⟨W4, e4⟩ : ∃ W4, W4 = w3.alloc (.cells #[.int .i64 0, .int .u64 0] 52) := ⟨_, rfl⟩
  have h4 := Tb.newBox h3 e4
  have b4 : Dk.Box W4 w3.heap.size #[.int .i64 0, .int .u64 0] 52 := Tb.box h4 (by simp)
  obtain ⟨W5, e5⟩ : ∃ W5, W5 = W4.setRow w3.heap.size #[.int .i64 0, .int .u64 0] := ⟨_, rfl⟩
  have h5 := Tb.setRow h4 e5
  have b5 : Dk.Box W5 w3.heap.size #[.int .i64 0, .int .u64 0] 52 := Tb.box h5 (by simp)
  have c5 : W5.cell? ⟨w3.heap.size, 0, none⟩ = some (.int .i64 0) := b5.cell 0
  have H4 : Hid (w3.alloc (.cells #[.int .i64 0, .int .u64 0] 52) = W4) := e4.symm
  have H5 : Hid (W4.setRow w3.heap.size #[.int .i64 0, .int .u64 0] = W5) := e5.symm
  have HB : Hid (Dk.Box W4 w3.heap.size #[.int .i64 0, .int .u64 0] 52) := b4
  clear e4 e5 h3 h4 b4 b5
  go_wp2_with (first | (rw [H4.out]; clear H4) | (refine wpList_store_row rfl 52 _ _ rfl w3.heap.size #[.int .i64 0, .int .u64 0] rfl rfl 52 _ HB.out.heap pair_size rfl (pair_cells _ _) ?_; rw [H5.out]; clear HB))
  go_quiet (fail)
  go_wp2_with fail
  (try simp only [Exit.inBlock, Exit.then])
  refine bodyPost_ret (results_tmp4 rfl _ _ _) rfl ?_
  exact ⟨rfl, Tb.drop (h5.below (Dk.up_drewN (Below.refl _ _) _))⟩
set_option maxHeartbeats 2000000 in
theorem Get_more {y z : Nat} {q : Int} (h : Dk.Tb W w bt room (y :: ws) ((q, z) :: ps) gs us) (x : Int) (hw : Dk.waits ((q, z) :: ps) gs x = false) (hl : ws.length ≤ 1000) :
    Calls Try.prog 8 #[.pointer (some ⟨bt, 0, none⟩), .int .i64 x] w fun e w' => e = .returned (.tuple #[.int .u64 (y : Nat), .bool true, .int .i64 q, .bool true]) ∧ Dk.Tb W w' bt room (ws ++ [z]) ps gs us := by
  have K := waits_any h x
  have hz : z < 2 ^ 64 := (h.fit.ps (q, z) (by simp)).2
  rw [hw] at K
  clear hw
  go_enter Try.func8, Try.ntmps8
  go_wp2_with fail
  refine K.mono ?_
  rintro e w1 ⟨rfl, hb⟩
  have h1 := h.below hb
  clear h K hb
  go_wp2_with fail
  refine (first_words h1).mono ?_
  rintro e w2 ⟨rfl, h2⟩
  clear h1
  go_wp2_with fail
  refine (first_pairs h2).mono ?_
  rintro e w3 ⟨rfl, h3⟩
  clear h2
  obtain ⟨W4, e4⟩ : ∃ W4, W4 = w3.alloc (.cells #[.int .i64 0, .int .u64 0] 52) := ⟨_, rfl⟩
  have h4 := Tb.newBox h3 e4
  have b4 : Dk.Box W4 w3.heap.size #[.int .i64 0, .int .u64 0] 52 := Tb.box h4 (by simp)
  obtain ⟨W5, e5⟩ : ∃ W5, W5 = W4.setRow w3.heap.size #[.int .i64 q, .int .u64 (z : Nat)] := ⟨_, rfl⟩
  have h5 := Tb.setRow h4 e5
  have b5 : Dk.Box W5 w3.heap.size #[.int .i64 q, .int .u64 (z : Nat)] 52 := Tb.box h5 (by simp)
  have H4 : Hid (w3.alloc (.cells #[.int .i64 0, .int .u64 0] 52) = W4) := e4.symm
  have H5 : Hid (W4.setRow w3.heap.size #[.int .i64 q, .int .u64 (z : Nat)] = W5) := e5.symm
  have HB : Hid (Dk.Box W4 w3.heap.size #[.int .i64 0, .int .u64 0] 52) := b4
  -- the drawn statement
  have h6 := h5.below (Dk.up_drew (Below.refl _ _))
  obtain ⟨A, n, C, A', n', C', w7, c1, r1, d1, f1, h7⟩ := Tb.add1 h6 z hz hl
  have b6 : W5.drew.cell? ⟨w3.heap.size, 1, none⟩ = some (.int .u64 (z : Nat)) := b5.drew.cell 1
  obtain ⟨W7, e7⟩ : ∃ W7, W7 = w7.setCell ⟨bt, 1, none⟩ (.slice A' n' C') := ⟨_, rfl⟩
  rw [← e7] at h7
  have b7 : W7.cell? ⟨w3.heap.size, 0, none⟩ = some (.int .i64 q) := (Tb.box h7 (b := w3.heap.size) (cs := #[.int .i64 q, .int .u64 (z : Nat)]) (e := 52) (by simp)).cell 0
  have hne7 : bt ≠ w3.heap.size := by
    obtain ⟨v1, v2, v3, t, _⟩ := Hid.out h3
    exact Nat.ne_of_lt t.head.lt
  have H7 : Hid (w7.setCell ⟨bt, 1, none⟩ (.slice A' n' C') = W7) := e7.symm
  have hb7 : w7.cell? ⟨w3.heap.size, 1, none⟩ = some (.int .u64 (z : Nat)) := by
    have q := (Tb.box h7 (b := w3.heap.size) (cs := #[.int .i64 q, .int .u64 (z : Nat)]) (e := 52) (by simp)).cell 1
    rw [e7, World.cell?_setCell_far _ _ _ _ hne7] at q
    exact q
  have HB7 : Hid (w7.cell? ⟨w3.heap.size, 1, none⟩ = some (.int .u64 (z : Nat))) := hb7
  have HR : Hid _ := r1
  have HD : Hid (w7.cell? ⟨bt, 1, none⟩ = some (.slice A n C) ∧ w7.frozen? ⟨bt, 1, none⟩ = false) := ⟨d1, f1⟩
  clear e4 e5 e7 h3 h4 h5 h6 b4 b5 hz r1 d1 f1 hb7
  go_wp2_with (first | (rw [H4.out]; clear H4) | (refine wpList_store_row rfl 52 _ _ rfl w3.heap.size #[.int .i64 q, .int .u64 (z : Nat)] rfl rfl 52 _ HB.out.heap pair_size rfl (pair_cells _ _) ?_; rw [H5.out]; clear HB))
  refine Dk.wp_region_lineZ (z := 11) (S := fun w' => w'.cell? ⟨bt, 1, none⟩ = some (.slice A n C) ∧ w'.cell? ⟨w3.heap.size, 1, none⟩ = some (.int .u64 (z : Nat))) [0, 1, 2, 3, 4, 5, 6] [7, 8, 9, 10, 11] (by kernel_rfl) (by kernel_rfl) (by kernel_rfl) ⟨c1, b6⟩ ?_
  refine Dk.held_step (v := .pointer (some ⟨bt, 0, none⟩)) rfl rfl (fun w' hw' => by go_simp) ?_
  simp only [Act.put, List.setIfInBounds_toArray, List.set_cons_succ, List.set_cons_zero]
  refine Dk.held_step (v := .pointer (some ⟨bt, 0, none⟩)) rfl rfl (fun w' hw' => by go_simp) ?_
  simp only [Act.put, List.setIfInBounds_toArray, List.set_cons_succ, List.set_cons_zero]
  refine Dk.held_step (v := .pointer (some ⟨bt, 0, none⟩)) rfl rfl (fun w' hw' => by go_simp) ?_
  simp only [Act.put, List.setIfInBounds_toArray, List.set_cons_succ, List.set_cons_zero]
  refine Dk.held_step (v := .pointer (some ⟨bt, 1, none⟩)) rfl rfl (fun w' hw' => by go_simp) ?_
  simp only [Act.put, List.setIfInBounds_toArray, List.set_cons_succ, List.set_cons_zero]
  refine Dk.held_step (v := .slice A n C) rfl rfl (fun w' hw' => by have := hw'.1; go_simp) ?_
  simp only [Act.put, List.setIfInBounds_toArray, List.set_cons_succ, List.set_cons_zero]
  refine Dk.held_step (v := .pointer (some ⟨w3.heap.size, 1, none⟩)) rfl rfl (fun w' hw' => by go_simp) ?_
  simp only [Act.put, List.setIfInBounds_toArray, List.set_cons_succ, List.set_cons_zero]
  refine Dk.held_step (v := .int .u64 (z : Nat)) rfl rfl (fun w' hw' => by have := hw'.2; go_simp) ?_
  simp only [Act.put, List.setIfInBounds_toArray, List.set_cons_succ, List.set_cons_zero]
  obtain ⟨W6, e6⟩ : ∃ W6, W6 = W5.drew.alloc (.cells #[.int .u64 (z : Nat)] 27) := ⟨_, rfl⟩
  have S6 : W6.cell? ⟨bt, 1, none⟩ = some (.slice A n C) ∧ W6.cell? ⟨w3.heap.size, 1, none⟩ = some (.int .u64 (z : Nat)) := by rw [e6]; exact ⟨Lib.cell?_alloc_some _ c1, Lib.cell?_alloc_some _ b6⟩
  have e5s : W5.drew.heap.size = W5.heap.size := rfl
  refine Dk.lineZ_step (v := .slice (some ⟨W5.drew.heap.size, 0, none⟩) 1 1) (w' := W6) rfl rfl (by rw [e6]; go_simp) (fun _ => S6) ?_
  simp only [Act.put, List.setIfInBounds_toArray, List.set_cons_succ, List.set_cons_zero]
  have r6 := HR.out
  rw [← e6, e5s] at r6
  refine Dk.lineZ_step (v := (.slice A' n' C')) (w' := w7) rfl rfl (by simp only [execOp, resolve, invoke, builtin]; simp [Act.eval, r6]) (fun _ => ⟨HD.out.1, HB7.out⟩) ?_
  simp only [Act.put, List.setIfInBounds_toArray, List.set_cons_succ, List.set_cons_zero]
  refine Dk.lineZ_step (v := .pointer (some ⟨bt, 0, none⟩)) (w' := w7) rfl rfl (by go_simp) (fun _ => ⟨HD.out.1, HB7.out⟩) ?_
  simp only [Act.put, List.setIfInBounds_toArray, List.set_cons_succ, List.set_cons_zero]
  refine Dk.lineZ_step (v := .pointer (some ⟨bt, 1, none⟩)) (w' := w7) rfl rfl (by go_simp) (fun _ => ⟨HD.out.1, HB7.out⟩) ?_
  simp only [Act.put, List.setIfInBounds_toArray, List.set_cons_succ, List.set_cons_zero]
  refine Dk.lineZ_skip (w' := W7) rfl rfl (by rw [← H7.out]; have q1 := HD.out.1; have q2 := HD.out.2; go_simp) (fun h => absurd rfl h) ?_
  simp only [Act.put, List.setIfInBounds_toArray, List.set_cons_succ, List.set_cons_zero]
  rename_i hK
  refine hK _ _ ?_
  clear r6 S6 e6 e5s HR HD HB7 H7 H5 c1 b6 hK
  go_wp2_with fail
  go_quiet (fail)
  go_wp2_with fail
  (try simp only [Exit.inBlock, Exit.then])
  refine bodyPost_ret (results_tmp4 rfl _ _ _) rfl ?_
  exact ⟨rfl, Tb.drop (h7.below (Dk.up_drewN (Below.refl _ _) _))⟩
end
end Go.Proofs.Ytnoeigmcanggdaa
