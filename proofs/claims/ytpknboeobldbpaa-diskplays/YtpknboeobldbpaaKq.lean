/- What a request does to a block. -/
import Derived.Test.YtpknboeobldbpaaKp
namespace Go.Proofs.Ytpknboeobldbpaa
set_option linter.unusedSimpArgs false
set_option linter.unusedVariables false
set_option linter.unnecessarySimpa false
open Go.RowKit Go.Lib
section
variable {W w w' : World} {bd : Nat} {bs : List Nat} {rs : List Dk.Rq} {us us' us1 us2 : List Dk.Thing}

/-- A block is written. -/
theorem Db.write (h : Dk.Db W w bd bs rs us) (k : Nat) (hk : k < bs.length) (y : Nat) (hy : y < 2 ^ 64) :
    ∃ g C, w.cell? ⟨bd, 0, none⟩ = some (.slice (some ⟨g, 0, none⟩) bs.length C) ∧ bs.length ≤ C ∧ C ≤ maxLen ∧ w.cell? ⟨g, k, none⟩ = some (.int .u64 (bs.getD k 0 : Nat)) ∧ w.frozen? ⟨g, k, none⟩ = false ∧ Dk.Db W (w.setCell ⟨g, k, none⟩ (.int .u64 (y : Nat))) bd (bs.set k y) rs us := by
  obtain ⟨v1, v2, t, f⟩ := Hid.out h
  obtain ⟨g, C, ev, h1, h2, hc, hf, hs⟩ := word_at (n := 0) t.row1 hk
  subst ev
  refine ⟨g, C, t.head.cell 0, h1, h2, hc, hf, ⟨_, _, t.set1 ((Dk.Away.refl (fun j => Value.ownBlock (.slice (some ⟨g, 0, none⟩) bs.length C) = some j) w).set (b := g) (.inl rfl) _ _) (hs y), f.set k y hy⟩⟩

set_option maxHeartbeats 1000000 in
theorem serve_read (h : Dk.Db W w bd bs rs us) (who : Int) (k x : Nat) (hk : k < bs.length) :
    Calls Try.prog 14 #[.pointer (some ⟨bd, 0, none⟩), .agg #[.int .i64 who, .int .i64 (k : Int), .bool false, .int .u64 (x : Nat)]] w fun e w' => e = .returned (.int .u64 (bs.getD k 0 : Nat)) ∧ Below w.heap.size w w' := by
  obtain ⟨W1, e1⟩ : ∃ W1, W1 = w.alloc (.cells #[.int .i64 who, .int .i64 (k : Int), .bool false, .int .u64 (x : Nat)] 29) := ⟨_, rfl⟩
  have h1 := Db.newBox h e1
  have b1 : Dk.Box W1 w.heap.size #[.int .i64 who, .int .i64 (k : Int), .bool false, .int .u64 (x : Nat)] 29 := Db.box h1 (by simp)
  have u1 : Below w.heap.size w W1 := by rw [e1]; exact Dk.up_alloc (Below.refl _ _) _
  have c1 : W1.cell? ⟨w.heap.size, 1, none⟩ = some (.int .i64 (k : Int)) := b1.cell 1
  have c2 : W1.cell? ⟨w.heap.size, 2, none⟩ = some (.bool false) := b1.cell 2
  obtain ⟨g, C, c0, hC, hm, cg, _, _⟩ := Db.write h1 k hk 0 (by decide)
  unfold maxLen at hm
  have HE : Hid (w.alloc (.cells #[.int .i64 who, .int .i64 (k : Int), .bool false, .int .u64 (x : Nat)] 29) = W1) := e1.symm
  have HU : Hid (Below w.heap.size w W1) := u1
  clear e1 h1 b1 h u1
  generalize bs.getD k 0 = y at *
  generalize bs.length = n at *
  have hkn : (k : Int) < (n : Int) := by omega
  go_enter Try.func14, Try.ntmps14
  go_wp2_with (rw [HE.out]; clear HE)
  go_quiet (fail)
  go_wp2_with fail
  go_ret
  exact ⟨rfl, Dk.up_drewN HU.out _⟩

set_option maxHeartbeats 1000000 in
theorem serve_write (h : Dk.Db W w bd bs rs us) (who : Int) (k x : Nat) (hk : k < bs.length) (hx : x < 2 ^ 64) :
    Calls Try.prog 14 #[.pointer (some ⟨bd, 0, none⟩), .agg #[.int .i64 who, .int .i64 (k : Int), .bool true, .int .u64 (x : Nat)]] w fun e w' => e = .returned (.int .u64 0) ∧ Dk.Db W w' bd (bs.set k x) rs us := by
  obtain ⟨W1, e1⟩ : ∃ W1, W1 = w.alloc (.cells #[.int .i64 who, .int .i64 (k : Int), .bool true, .int .u64 (x : Nat)] 29) := ⟨_, rfl⟩
  have h1 := Db.newBox h e1
  have b1 : Dk.Box W1 w.heap.size #[.int .i64 who, .int .i64 (k : Int), .bool true, .int .u64 (x : Nat)] 29 := Db.box h1 (by simp)
  have c2 : W1.cell? ⟨w.heap.size, 2, none⟩ = some (.bool true) := b1.cell 2
  have h2 := h1.below (Dk.up_drew (Below.refl _ _))
  obtain ⟨g, C, c0, hC, hm, cg, fg, h3⟩ := Db.write h2 k hk x hx
  unfold maxLen at hm
  have b3 : Dk.Box (W1.drew.setCell ⟨g, k, none⟩ (.int .u64 (x : Nat))) w.heap.size #[.int .i64 who, .int .i64 (k : Int), .bool true, .int .u64 (x : Nat)] 29 := Db.box h3 (by simp)
  have c3 : (W1.drew.setCell ⟨g, k, none⟩ (.int .u64 (x : Nat))).cell? ⟨bd, 0, none⟩ = some (.slice (some ⟨g, 0, none⟩) bs.length C) := by
    obtain ⟨v1, v2, t, f⟩ := Hid.out h2
    have q := t.head
    have e0 := q.cell 0
    rw [c0] at e0
    have ev : v1 = .slice (some ⟨g, 0, none⟩) bs.length C := by simpa using e0.symm
    have hne := t.ne1
    rw [ev] at hne
    have hb : bd ≠ g := fun e => hne (by rw [e]; rfl)
    rw [(q.set_other hb k _).cell, ← ev]
    rfl
  have hS : (fun w' : World => w'.cell? ⟨bd, 0, none⟩ = some (.slice (some ⟨g, 0, none⟩) bs.length C) ∧ w'.cell? ⟨w.heap.size, 1, none⟩ = some (.int .i64 (k : Int)) ∧ w'.cell? ⟨w.heap.size, 3, none⟩ = some (.int .u64 (x : Nat))) W1.drew := ⟨c0, b1.drew.cell 1, b1.drew.cell 3⟩
  have HS : Hid _ := hS
  have HT : Hid ((W1.drew.setCell ⟨g, k, none⟩ (.int .u64 (x : Nat))).cell? ⟨bd, 0, none⟩ = some (.slice (some ⟨g, 0, none⟩) bs.length C) ∧ (W1.drew.setCell ⟨g, k, none⟩ (.int .u64 (x : Nat))).cell? ⟨w.heap.size, 1, none⟩ = some (.int .i64 (k : Int)) ∧ (W1.drew.setCell ⟨g, k, none⟩ (.int .u64 (x : Nat))).cell? ⟨w.heap.size, 3, none⟩ = some (.int .u64 (x : Nat))) := ⟨c3, b3.cell 1, b3.cell 3⟩
  have h4 := Db.drop h3
  have HD : Hid (Dk.Db W (W1.drew.setCell ⟨g, k, none⟩ (.int .u64 (x : Nat))) bd (bs.set k x) rs us) := h4
  have HE : Hid (w.alloc (.cells #[.int .i64 who, .int .i64 (k : Int), .bool true, .int .u64 (x : Nat)] 29) = W1) := e1.symm
  clear e1 h1 b1 h h2 h3 h4 b3 hS c0 c3 hx
  generalize hb0 : bs.set k x = bs' at *
  clear hb0
  generalize bs.getD k 0 = y at *
  generalize bs.length = n at *
  have hkn : (k : Int) < (n : Int) := by omega
  go_enter Try.func14, Try.ntmps14
  go_wp2_with (rw [HE.out]; clear HE)
  refine Dk.wp_region_line (S := fun w' => w'.cell? ⟨bd, 0, none⟩ = some (.slice (some ⟨g, 0, none⟩) n C) ∧ w'.cell? ⟨w.heap.size, 1, none⟩ = some (.int .i64 (k : Int)) ∧ w'.cell? ⟨w.heap.size, 3, none⟩ = some (.int .u64 (x : Nat))) [0, 1, 2, 3, 4, 5, 6, 7, 8] [9] (by kernel_rfl) (by kernel_rfl) HS.out ?_
  refine Dk.held_step (v := .pointer (some ⟨bd, 0, none⟩)) rfl rfl (fun w' hw' => by go_simp) ?_
  simp only [Act.put, List.setIfInBounds_toArray, List.set_cons_succ, List.set_cons_zero]
  refine Dk.held_step (v := .pointer (some ⟨bd, 0, none⟩)) rfl rfl (fun w' hw' => by go_simp) ?_
  simp only [Act.put, List.setIfInBounds_toArray, List.set_cons_succ, List.set_cons_zero]
  refine Dk.held_step (v := .pointer (some ⟨bd, 0, none⟩)) rfl rfl (fun w' hw' => by go_simp) ?_
  simp only [Act.put, List.setIfInBounds_toArray, List.set_cons_succ, List.set_cons_zero]
  refine Dk.held_step (v := .slice (some ⟨g, 0, none⟩) n C) rfl rfl (fun w' hw' => by have := hw'.1; go_simp) ?_
  simp only [Act.put, List.setIfInBounds_toArray, List.set_cons_succ, List.set_cons_zero]
  refine Dk.held_step (v := .pointer (some ⟨w.heap.size, 1, none⟩)) rfl rfl (fun w' hw' => by go_simp) ?_
  simp only [Act.put, List.setIfInBounds_toArray, List.set_cons_succ, List.set_cons_zero]
  refine Dk.held_step (v := .int .i64 (k : Int)) rfl rfl (fun w' hw' => by have := hw'.2.1; go_simp) ?_
  simp only [Act.put, List.setIfInBounds_toArray, List.set_cons_succ, List.set_cons_zero]
  refine Dk.held_step (v := .pointer (some ⟨w.heap.size, 3, none⟩)) rfl rfl (fun w' hw' => by go_simp) ?_
  simp only [Act.put, List.setIfInBounds_toArray, List.set_cons_succ, List.set_cons_zero]
  refine Dk.held_step (v := .int .u64 (x : Nat)) rfl rfl (fun w' hw' => by have := hw'.2.2; go_simp) ?_
  simp only [Act.put, List.setIfInBounds_toArray, List.set_cons_succ, List.set_cons_zero]
  refine Dk.held_step (v := .pointer (some ⟨g, k, none⟩)) rfl rfl (fun w' hw' => by go_simp) ?_
  simp only [Act.put, List.setIfInBounds_toArray, List.set_cons_succ, List.set_cons_zero]
  refine Dk.line_step rfl rfl ?_
  refine wp_skip (w' := W1.drew.setCell ⟨g, k, none⟩ (.int .u64 (x : Nat))) (by go_simp) ⟨HT.out, ?_⟩
  simp only [Act.put, List.setIfInBounds_toArray, List.set_cons_succ, List.set_cons_zero]
  rename_i hK
  refine hK _ _ ?_
  generalize W1.drew.setCell ⟨g, k, none⟩ (.int .u64 (x : Nat)) = W2 at *
  go_wp2_with fail
  go_ret
  exact ⟨rfl, HD.out⟩
end
end Go.Proofs.Ytpknboeobldbpaa
