/- A request comes. -/
import Derived.Test.YtpknboeobldbpaaKp
namespace Go.Proofs.Ytpknboeobldbpaa
set_option linter.unusedSimpArgs false
set_option linter.unusedVariables false
set_option linter.unnecessarySimpa false
open Go.RowKit Go.Lib
section
variable {W w w' : World} {bd : Nat} {bs : List Nat} {rs : List Dk.Rq} {us us' us1 us2 : List Dk.Thing}

/-- One request more. -/
theorem Db.more (h : Dk.Db W w bd bs rs us) (r : Dk.Rq) (hr : r.ok) (hb : 0 ≤ r.block ∧ r.block < bs.length) (hl : rs.length ≤ 1000) :
    ∃ A n C A' n' C' w', w.cell? ⟨bd, 1, none⟩ = some (.slice A n C) ∧ (Builtin.append_ #[26, 26] 26 #[.slice A n C, .slice (some ⟨w.heap.size, 0, none⟩) 1 1]).run Try.prog (w.alloc (.cells #[.int .i64 r.who, .int .i64 r.block, .bool r.write, .int .u64 (r.x : Nat)] 29)) = .ok (.slice A' n' C') w' ∧ w'.cell? ⟨bd, 1, none⟩ = some (.slice A n C) ∧ w'.frozen? ⟨bd, 1, none⟩ = false ∧ Dk.Db W (w'.setCell ⟨bd, 1, none⟩ (.slice A' n' C')) bd bs (rs ++ [r]) us := by
  obtain ⟨v1, v2, t, ft⟩ := Hid.out h
  obtain ⟨W1, e1⟩ : ∃ W1, W1 = w.alloc (.cells #[.int .i64 r.who, .int .i64 r.block, .bool r.write, .int .u64 (r.x : Nat)] 29) := ⟨_, rfl⟩
  have u1 : Below w.heap.size w W1 := by rw [e1]; exact Dk.up_alloc (Below.refl _ _) _
  have b1 : Dk.Box W1 w.heap.size #[.int .i64 r.who, .int .i64 r.block, .bool r.write, .int .u64 (r.x : Nat)] 29 := by rw [e1]; exact Dk.Box.new _ _ _
  have t1 := t.below u1
  obtain ⟨A, C, ev, _, _⟩ := Dk.owns_slice t.row2
  obtain ⟨v', w', hrun, ho, hg, hf, _⟩ := K26.append W.heap.size 26 v2 _ _ W1 t1.row2 ⟨w.heap.size, 0, none⟩ 1 1 r.cells rfl (fun j u hj => by
    rw [Addr.add_lit, Nat.zero_add, b1.cell]
    simpa [Dk.Rq.cells] using hj) (fun u hu => Dk.rqs_one [r] u (by simpa [Dk.rqs] using hu)) (by omega) t1.up.size
  have ho' : w'.ownsRow W.heap.size 29 4 v' (rs ++ [r]).length (Dk.rqs (rs ++ [r])) := by
    rw [List.length_append, Dk.rqs_append]
    simpa [Dk.rqs] using ho
  obtain ⟨A', C', ev', _, _⟩ := Dk.owns_slice ho
  have hb' : Dk.Box w' bd #[v1, v2] 46 := ⟨by rw [hg.block bd t1.head.lt (fun e => t1.ne2 e.symm)]; exact t1.head.heap⟩
  rw [← e1]
  subst ev'
  have o2 := Dk.owns_away ho' ((Dk.Away.refl (fun k => k = bd) w').set (.inl rfl) 1 (.slice A' (rs.length + 1) C')) (fun k hk e => by
    rcases hf k hk with q | q
    · rw [e] at q; exact t1.ne2 q
    · have := t1.head.lt; omega)
  have a2 : Dk.Away (fun k => k = bd ∨ v2.ownBlock = some k) W1 (w'.setCell ⟨bd, 1, none⟩ (.slice A' (rs.length + 1) C')) := (Dk.Away.of_grown hg (fun k hk => .inl (.inr hk))).set (.inl (.inl rfl)) _ _
  have T := t1.set2 a2 (hb'.set 1 _) o2 hf
  subst ev
  exact ⟨_, _, _, _, _, _, w', t.head.cell 1, hrun, hb'.cell 1, hb'.frozen 1, ⟨_, _, T, ft.add hr hb⟩⟩

theorem Ask_nil (a b : Int) (c : Bool) (d : Nat) (w : World) : Calls Try.prog 8 #[.pointer none, .agg #[.int .i64 a, .int .i64 b, .bool c, .int .u64 (d : Nat)]] w fun e w' => e = .returned (.int .i64 1) ∧ Below w.heap.size w w' := by
  have u1 : Below w.heap.size w (w.alloc (.cells #[.int .i64 a, .int .i64 b, .bool c, .int .u64 (d : Nat)] 29)) := Dk.up_alloc (Below.refl _ _) _
  have HU : Hid _ := u1
  clear u1
  go_enter Try.func8, Try.ntmps8
  go_wp2_with fail
  refine (Block_nil _ _).mono ?_
  rintro e w' ⟨rfl, hw'⟩
  subst w'
  go_wp2_with fail
  go_ret
  exact ⟨rfl, HU.out⟩

set_option maxHeartbeats 1000000 in
theorem Ask_arg (h : Dk.Db W w bd bs rs us) (a b : Int) (c : Bool) (d : Nat) (hb : b < 0 ∨ (bs.length : Int) ≤ b) :
    Calls Try.prog 8 #[.pointer (some ⟨bd, 0, none⟩), .agg #[.int .i64 a, .int .i64 b, .bool c, .int .u64 (d : Nat)]] w fun e w' => e = .returned (.int .i64 1) ∧ Dk.Db W w' bd bs rs us := by
  obtain ⟨W1, e1⟩ : ∃ W1, W1 = w.alloc (.cells #[.int .i64 a, .int .i64 b, .bool c, .int .u64 (d : Nat)] 29) := ⟨_, rfl⟩
  have h1 := Db.newBox h e1
  have b1 : Dk.Box W1 w.heap.size #[.int .i64 a, .int .i64 b, .bool c, .int .u64 (d : Nat)] 29 := Db.box h1 (by simp)
  have c1 : W1.cell? ⟨w.heap.size, 1, none⟩ = some (.int .i64 b) := b1.cell 1
  have HE : Hid (w.alloc (.cells #[.int .i64 a, .int .i64 b, .bool c, .int .u64 (d : Nat)] 29) = W1) := e1.symm
  have K := Block_no h1 b hb
  have h2 := Db.drop h1
  clear e1 b1 h h1 hb
  go_enter Try.func8, Try.ntmps8
  go_wp2_with (rw [HE.out]; clear HE)
  refine K.mono ?_
  rintro e w' ⟨rfl, hw'⟩
  subst w'
  go_wp2_with fail
  go_ret
  exact ⟨rfl, h2⟩

set_option maxHeartbeats 1000000 in
theorem Ask_busy (h : Dk.Db W w bd bs rs us) (a : Int) (b : Nat) (c : Bool) (d : Nat) (hb : b < bs.length) (hw : Dk.waits rs a = true) :
    Calls Try.prog 8 #[.pointer (some ⟨bd, 0, none⟩), .agg #[.int .i64 a, .int .i64 (b : Int), .bool c, .int .u64 (d : Nat)]] w fun e w' => e = .returned (.int .i64 4) ∧ Dk.Db W w' bd bs rs us := by
  obtain ⟨W1, e1⟩ : ∃ W1, W1 = w.alloc (.cells #[.int .i64 a, .int .i64 (b : Int), .bool c, .int .u64 (d : Nat)] 29) := ⟨_, rfl⟩
  have h1 := Db.newBox h e1
  have b1 : Dk.Box W1 w.heap.size #[.int .i64 a, .int .i64 (b : Int), .bool c, .int .u64 (d : Nat)] 29 := Db.box h1 (by simp)
  have c0 : W1.cell? ⟨w.heap.size, 0, none⟩ = some (.int .i64 a) := b1.cell 0
  have c1 : W1.cell? ⟨w.heap.size, 1, none⟩ = some (.int .i64 (b : Int)) := b1.cell 1
  have HE : Hid (w.alloc (.cells #[.int .i64 a, .int .i64 (b : Int), .bool c, .int .u64 (d : Nat)] 29) = W1) := e1.symm
  have K := Block_yes h1 b hb
  have K2 := waits_any h1 a
  rw [hw] at K2
  have h2 := Db.drop h1
  clear e1 b1 h h1 hb hw
  go_enter Try.func8, Try.ntmps8
  go_wp2_with (rw [HE.out]; clear HE)
  refine K.mono ?_
  rintro e w' ⟨rfl, hw'⟩
  subst w'
  go_wp2_with fail
  refine K2.mono ?_
  rintro e w2 ⟨rfl, u2⟩
  have h3 := h2.below u2
  clear u2 h2
  go_wp2_with fail
  go_ret
  exact ⟨rfl, h3⟩

set_option maxHeartbeats 2000000 in
theorem Ask_ok (h : Dk.Db W w bd bs rs us) (a : Int) (b : Nat) (c : Bool) (d : Nat) (hb : b < bs.length) (hw : Dk.waits rs a = false) (hok : Dk.Rq.ok ⟨a, b, c, d⟩) (hl : rs.length ≤ 1000) :
    Calls Try.prog 8 #[.pointer (some ⟨bd, 0, none⟩), .agg #[.int .i64 a, .int .i64 (b : Int), .bool c, .int .u64 (d : Nat)]] w fun e w' => e = .returned (.int .i64 0) ∧ Dk.Db W w' bd bs (rs ++ [⟨a, b, c, d⟩]) us := by
  obtain ⟨W1, e1⟩ : ∃ W1, W1 = w.alloc (.cells #[.int .i64 a, .int .i64 (b : Int), .bool c, .int .u64 (d : Nat)] 29) := ⟨_, rfl⟩
  have h1 := Db.newBox h e1
  have b1 : Dk.Box W1 w.heap.size #[.int .i64 a, .int .i64 (b : Int), .bool c, .int .u64 (d : Nat)] 29 := Db.box h1 (by simp)
  have c0 : W1.cell? ⟨w.heap.size, 0, none⟩ = some (.int .i64 a) := b1.cell 0
  have c1 : W1.cell? ⟨w.heap.size, 1, none⟩ = some (.int .i64 (b : Int)) := b1.cell 1
  have HE : Hid (w.alloc (.cells #[.int .i64 a, .int .i64 (b : Int), .bool c, .int .u64 (d : Nat)] 29) = W1) := e1.symm
  have K := Block_yes h1 b hb
  have K2 := waits_any h1 a
  rw [hw] at K2
  have HB : Hid (0 ≤ (b : Int) ∧ (b : Int) < bs.length) := ⟨by omega, by omega⟩
  clear e1 b1 h hb hw
  go_enter Try.func8, Try.ntmps8
  go_wp2_with (rw [HE.out]; clear HE)
  refine K.mono ?_
  rintro e w' ⟨rfl, hw'⟩
  subst w'
  go_wp2_with fail
  refine K2.mono ?_
  rintro e w2 ⟨rfl, u2⟩
  have h3 := h1.below u2
  clear u2 h1 K K2 c0 c1
  -- the drawn statement
  have h6 := h3.below (Dk.up_drew (Below.refl _ _))
  have b6 : Dk.Box w2.drew w.heap.size #[.int .i64 a, .int .i64 (b : Int), .bool c, .int .u64 (d : Nat)] 29 := Db.box h6 (by simp)
  obtain ⟨A, n, C, A', n', C', w7, k1, r1, d1, f1, h7⟩ := Db.more h6 ⟨a, b, c, d⟩ hok HB.out hl
  have b7 : Dk.Box w7 w.heap.size #[.int .i64 a, .int .i64 (b : Int), .bool c, .int .u64 (d : Nat)] 29 := by
    have hne : w.heap.size ≠ bd := by
      obtain ⟨v1, v2, t, _⟩ := Hid.out h6
      have q := (List.pairwise_cons.1 (Hid.out t).apart).1 (Dk.boxOf w.heap.size #[.int .i64 a, .int .i64 (b : Int), .bool c, .int .u64 (d : Nat)] 29) (by simp)
      exact fun e => q bd rfl e.symm
    have q : Dk.Box (w7.setCell ⟨bd, 1, none⟩ (.slice A' n' C')) w.heap.size #[.int .i64 a, .int .i64 (b : Int), .bool c, .int .u64 (d : Nat)] 29 := Db.box h7 (by simp)
    refine ⟨?_⟩
    have := q.heap
    rwa [Below.heap_setCell w7 ⟨bd, 1, none⟩ _ w.heap.size (fun e => hne (by simpa using e))] at this
  have HK : Hid (w2.drew.cell? ⟨bd, 1, none⟩ = some (.slice A n C) ∧ w2.drew.cell? ⟨w.heap.size, 0, none⟩ = some (.int .i64 a) ∧ w2.drew.cell? ⟨w.heap.size, 1, none⟩ = some (.int .i64 (b : Int)) ∧ w2.drew.cell? ⟨w.heap.size, 2, none⟩ = some (.bool c) ∧ w2.drew.cell? ⟨w.heap.size, 3, none⟩ = some (.int .u64 (d : Nat))) := ⟨k1, b6.cell 0, b6.cell 1, b6.cell 2, b6.cell 3⟩
  have HS : Hid (w7.cell? ⟨bd, 1, none⟩ = some (.slice A n C) ∧ w7.cell? ⟨w.heap.size, 0, none⟩ = some (.int .i64 a) ∧ w7.cell? ⟨w.heap.size, 1, none⟩ = some (.int .i64 (b : Int)) ∧ w7.cell? ⟨w.heap.size, 2, none⟩ = some (.bool c) ∧ w7.cell? ⟨w.heap.size, 3, none⟩ = some (.int .u64 (d : Nat))) := ⟨d1, b7.cell 0, b7.cell 1, b7.cell 2, b7.cell 3⟩
  have HF : Hid (w7.frozen? ⟨bd, 1, none⟩ = false) := f1
  have HR : Hid _ := r1
  have h8 := Db.drop h7
  obtain ⟨W7, e7⟩ : ∃ W7, W7 = w7.setCell ⟨bd, 1, none⟩ (.slice A' n' C') := ⟨_, rfl⟩
  rw [← e7] at h8
  have H7 : Hid (w7.setCell ⟨bd, 1, none⟩ (.slice A' n' C') = W7) := e7.symm
  clear h3 h6 h7 b6 b7 k1 r1 d1 f1 e7 hok HB
  go_wp2_with fail
  refine Dk.wp_region_lineZ (z := 10) (S := fun w' => w'.cell? ⟨bd, 1, none⟩ = some (.slice A n C) ∧ w'.cell? ⟨w.heap.size, 0, none⟩ = some (.int .i64 a) ∧ w'.cell? ⟨w.heap.size, 1, none⟩ = some (.int .i64 (b : Int)) ∧ w'.cell? ⟨w.heap.size, 2, none⟩ = some (.bool c) ∧ w'.cell? ⟨w.heap.size, 3, none⟩ = some (.int .u64 (d : Nat))) [0, 1, 2, 3, 4, 5] [6, 7, 8, 9, 10] (by kernel_rfl) (by kernel_rfl) (by kernel_rfl) HK.out ?_
  refine Dk.held_step (v := .pointer (some ⟨bd, 0, none⟩)) rfl rfl (fun w' hw' => by go_simp) ?_
  simp only [Act.put, List.setIfInBounds_toArray, List.set_cons_succ, List.set_cons_zero]
  refine Dk.held_step (v := .pointer (some ⟨bd, 0, none⟩)) rfl rfl (fun w' hw' => by go_simp) ?_
  simp only [Act.put, List.setIfInBounds_toArray, List.set_cons_succ, List.set_cons_zero]
  refine Dk.held_step (v := .pointer (some ⟨bd, 0, none⟩)) rfl rfl (fun w' hw' => by go_simp) ?_
  simp only [Act.put, List.setIfInBounds_toArray, List.set_cons_succ, List.set_cons_zero]
  refine Dk.held_step (v := .pointer (some ⟨bd, 1, none⟩)) rfl rfl (fun w' hw' => by go_simp) ?_
  simp only [Act.put, List.setIfInBounds_toArray, List.set_cons_succ, List.set_cons_zero]
  refine Dk.held_step (v := .slice A n C) rfl rfl (fun w' hw' => by have := hw'.1; go_simp) ?_
  simp only [Act.put, List.setIfInBounds_toArray, List.set_cons_succ, List.set_cons_zero]
  refine Dk.held_step (v := .agg #[.int .i64 a, .int .i64 (b : Int), .bool c, .int .u64 (d : Nat)]) rfl rfl (fun w' hw' => by obtain ⟨_, q0, q1, q2, q3⟩ := hw'; go_simp) ?_
  simp only [Act.put, List.setIfInBounds_toArray, List.set_cons_succ, List.set_cons_zero]
  obtain ⟨W6, e6⟩ : ∃ W6, W6 = w2.drew.alloc (.cells #[.int .i64 a, .int .i64 (b : Int), .bool c, .int .u64 (d : Nat)] 29) := ⟨_, rfl⟩
  have S6 : W6.cell? ⟨bd, 1, none⟩ = some (.slice A n C) ∧ W6.cell? ⟨w.heap.size, 0, none⟩ = some (.int .i64 a) ∧ W6.cell? ⟨w.heap.size, 1, none⟩ = some (.int .i64 (b : Int)) ∧ W6.cell? ⟨w.heap.size, 2, none⟩ = some (.bool c) ∧ W6.cell? ⟨w.heap.size, 3, none⟩ = some (.int .u64 (d : Nat)) := by
    rw [e6]
    obtain ⟨q, q0, q1, q2, q3⟩ := HK.out
    exact ⟨Lib.cell?_alloc_some _ q, Lib.cell?_alloc_some _ q0, Lib.cell?_alloc_some _ q1, Lib.cell?_alloc_some _ q2, Lib.cell?_alloc_some _ q3⟩
  refine Dk.lineZ_step (v := .slice (some ⟨w2.drew.heap.size, 0, none⟩) 1 1) (w' := W6) rfl rfl (by rw [e6]; go_simp) (fun _ => S6) ?_
  simp only [Act.put, List.setIfInBounds_toArray, List.set_cons_succ, List.set_cons_zero]
  have r6 := HR.out
  rw [← e6, show w2.drew.heap.size = w2.heap.size from rfl] at r6
  refine Dk.lineZ_step (v := (.slice A' n' C')) (w' := w7) rfl rfl (by simp only [execOp, resolve, invoke, builtin]; simp [Act.eval, r6]) (fun _ => HS.out) ?_
  simp only [Act.put, List.setIfInBounds_toArray, List.set_cons_succ, List.set_cons_zero]
  refine Dk.lineZ_step (v := .pointer (some ⟨bd, 0, none⟩)) (w' := w7) rfl rfl (by go_simp) (fun _ => HS.out) ?_
  simp only [Act.put, List.setIfInBounds_toArray, List.set_cons_succ, List.set_cons_zero]
  refine Dk.lineZ_step (v := .pointer (some ⟨bd, 1, none⟩)) (w' := w7) rfl rfl (by go_simp) (fun _ => HS.out) ?_
  simp only [Act.put, List.setIfInBounds_toArray, List.set_cons_succ, List.set_cons_zero]
  refine Dk.lineZ_skip (w' := W7) rfl rfl (by rw [← H7.out]; have q1 := HS.out.1; have q2 := HF.out; go_simp) (fun h => absurd rfl h) ?_
  simp only [Act.put, List.setIfInBounds_toArray, List.set_cons_succ, List.set_cons_zero]
  rename_i hK
  refine hK _ _ ?_
  clear r6 S6 e6 HR HK HS HF H7 hK
  go_wp2_with fail
  go_ret
  exact ⟨rfl, h8⟩
end
end Go.Proofs.Ytpknboeobldbpaa
