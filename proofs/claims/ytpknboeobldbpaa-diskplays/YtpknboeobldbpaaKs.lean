/- A request is done; the requests are told. -/
import Derived.Test.YtpknboeobldbpaaKq
import Derived.Test.YtpknboeobldbpaaKt
namespace Dk
open Go
/-- What is answered, and what the blocks have then. -/
def Rq.said (r : Rq) (bs : List Nat) : Nat := if r.write then 0 else bs.getD r.block.toNat 0
def Rq.left (r : Rq) (bs : List Nat) : List Nat := if r.write then bs.set r.block.toNat r.x else bs
theorem line_call {P : Go.Program} {S : World → Prop} {Q : Exit → Act → World → Prop} {L : List Oper} {j : Nat} {js : List Nat} {a : Act} {w : World} {o : Oper} {f : FuncId} {args : Array Value} (ho : L[j]? = some o) (hg : o.guard = none)
    (hr : (execOp a.eval o).run P w = .ok (.enter f args) w) (hc : Calls P f args w fun e w' => ∃ v, e = .returned v ∧ S w' ∧ lineWalk P L.toArray Q S js (a.put o.dst v) w') : lineWalk P L.toArray Q S (j :: js) a w := by
  refine line_step ho hg ?_
  unfold Oper.wp
  rw [hr]
  simp only [Oper.upon]
  refine Calls.mono hc ?_
  rintro e w' ⟨v, rfl, h⟩
  exact h
end Dk
namespace Go.Proofs.Ytpknboeobldbpaa
set_option linter.unusedSimpArgs false
set_option linter.unusedVariables false
set_option linter.unnecessarySimpa false
open Go.RowKit Go.Lib
section
variable {W w w' : World} {bd : Nat} {bs : List Nat} {rs : List Dk.Rq} {us us' us1 us2 : List Dk.Thing}

theorem serve_any (h : Dk.Db W w bd bs rs us) (r : Dk.Rq) (hr : r.ok) (hb : 0 ≤ r.block ∧ r.block < bs.length) :
    Calls Try.prog 14 #[.pointer (some ⟨bd, 0, none⟩), .agg #[.int .i64 r.who, .int .i64 r.block, .bool r.write, .int .u64 (r.x : Nat)]] w fun e w' => e = .returned (.int .u64 (r.said bs : Nat)) ∧ Dk.Db W w' bd (r.left bs) rs us := by
  obtain ⟨who, block, write, x⟩ := r
  obtain ⟨k, rfl⟩ : ∃ k : Nat, block = k := ⟨block.toNat, (Int.toNat_of_nonneg hb.1).symm⟩
  have hk : k < bs.length := by have := hb.2; simpa using this
  cases write
  · refine (serve_read h who k x hk).mono ?_
    rintro e w' ⟨rfl, u⟩
    exact ⟨rfl, h.below u⟩
  · refine (serve_write h who k x hk hr.2.2).mono ?_
    rintro e w' ⟨rfl, h'⟩
    exact ⟨rfl, h'⟩

theorem Done_nil (k : Int) (w : World) : Calls Try.prog 7 #[.pointer none, .int .i64 k] w fun e w' => e = .returned (.tuple #[.agg #[.int .i64 0, .int .i64 0, .bool false, .int .u64 0], .int .u64 0, .bool false]) ∧ Below w.heap.size w w' := by
  obtain ⟨W1, e1⟩ : ∃ W1, W1 = w.alloc (.cells #[.int .i64 0, .int .i64 0, .bool false, .int .u64 0] 29) := ⟨_, rfl⟩
  have u1 : Below w.heap.size w W1 := by rw [e1]; exact Dk.up_alloc (Below.refl _ _) _
  have b1 : Dk.Box W1 w.heap.size #[.int .i64 0, .int .i64 0, .bool false, .int .u64 0] 29 := by rw [e1]; exact Dk.Box.new _ _ _
  have HB : Hid (Dk.Box W1 w.heap.size #[.int .i64 0, .int .i64 0, .bool false, .int .u64 0] 29) := b1
  have H1 : Hid (w.alloc (.cells #[.int .i64 0, .int .i64 0, .bool false, .int .u64 0] 29) = W1) := e1.symm
  have HU : Hid (Below w.heap.size w W1) := u1
  clear e1 u1 b1
  go_enter Try.func7, Try.ntmps7
  go_wp2_with (first | (rw [H1.out]; clear H1) | (refine wpList_store_row rfl 29 _ _ rfl w.heap.size #[.int .i64 0, .int .i64 0, .bool false, .int .u64 0] rfl rfl 29 _ HB.out.heap rq_size rfl (rq_cells _ _ _ _) ?_))
  have d0 := (HB.out.row (cs' := #[.int .i64 0, .int .i64 0, .bool false, .int .u64 0])).cell
  exact bodyPost_ret (v := .tuple #[.agg #[.int .i64 0, .int .i64 0, .bool false, .int .u64 0], .int .u64 0, .bool false]) (by simp [results, Try.results7, go_sem, d0]) rfl ⟨rfl, up_row HU.out (Nat.le_refl _) _⟩
theorem Done_none (h : Dk.Db W w bd bs [] us) (k : Int) : Calls Try.prog 7 #[.pointer (some ⟨bd, 0, none⟩), .int .i64 k] w fun e w' => e = .returned (.tuple #[.agg #[.int .i64 0, .int .i64 0, .bool false, .int .u64 0], .int .u64 0, .bool false]) ∧ Dk.Db W w' bd bs [] us := by
  obtain ⟨W1, e1⟩ : ∃ W1, W1 = w.alloc (.cells #[.int .i64 0, .int .i64 0, .bool false, .int .u64 0] 29) := ⟨_, rfl⟩
  have h1 := Db.newBox h e1
  have b1 : Dk.Box W1 w.heap.size #[.int .i64 0, .int .i64 0, .bool false, .int .u64 0] 29 := Db.box h1 (by simp)
  obtain ⟨A, C, c1⟩ : ∃ A C, W1.cell? ⟨bd, 1, none⟩ = some (.slice A 0 C) := by
    obtain ⟨v1, v2, t, f⟩ := Hid.out h1
    obtain ⟨A, C, ev, _, _⟩ := Dk.owns_slice t.row2
    subst ev
    exact ⟨A, C, t.head.cell 1⟩
  have HB : Hid (Dk.Box W1 w.heap.size #[.int .i64 0, .int .i64 0, .bool false, .int .u64 0] 29) := b1
  have H1 : Hid (w.alloc (.cells #[.int .i64 0, .int .i64 0, .bool false, .int .u64 0] 29) = W1) := e1.symm
  have h2 := Db.drop (Db.setRow (cs' := #[.int .i64 0, .int .i64 0, .bool false, .int .u64 0]) h1 rfl)
  clear e1 h1 b1 h
  go_enter Try.func7, Try.ntmps7
  go_wp2_with (first | (rw [H1.out]; clear H1) | (refine wpList_store_row rfl 29 _ _ rfl w.heap.size #[.int .i64 0, .int .i64 0, .bool false, .int .u64 0] rfl rfl 29 _ HB.out.heap rq_size rfl (rq_cells _ _ _ _) ?_))
  have d0 := (HB.out.row (cs' := #[.int .i64 0, .int .i64 0, .bool false, .int .u64 0])).cell
  exact bodyPost_ret (v := .tuple #[.agg #[.int .i64 0, .int .i64 0, .bool false, .int .u64 0], .int .u64 0, .bool false]) (by simp [results, Try.results7, go_sem, d0]) rfl ⟨rfl, h2⟩

set_option maxHeartbeats 2000000 in
theorem Done_any (h : Dk.Db W w bd bs rs us) (k : Int) (hi : Dk.i64 k) (hn : 0 < rs.length) (hl : rs.length ≤ 1000) (r : Dk.Rq) (hr : rs.getD (Dk.at_ k rs.length) Dk.Rq.zero = r) :
    Calls Try.prog 7 #[.pointer (some ⟨bd, 0, none⟩), .int .i64 k] w fun e w' => e = .returned (.tuple #[.agg #[.int .i64 r.who, .int .i64 r.block, .bool r.write, .int .u64 (r.x : Nat)], .int .u64 (r.said bs : Nat), .bool true]) ∧ Dk.Db W w' bd (r.left bs) (rs.eraseIdx (Dk.at_ k rs.length)) us := by
  obtain ⟨W1, e1⟩ : ∃ W1, W1 = w.alloc (.cells #[.int .i64 0, .int .i64 0, .bool false, .int .u64 0] 29) := ⟨_, rfl⟩
  have h1 := Db.newBox h e1
  obtain ⟨A, C, c1⟩ : ∃ A C, W1.cell? ⟨bd, 1, none⟩ = some (.slice A rs.length C) := by
    obtain ⟨v1, v2, t, f⟩ := Hid.out h1
    obtain ⟨A, C, ev, _, _⟩ := Dk.owns_slice t.row2
    subst ev
    exact ⟨A, C, t.head.cell 1⟩
  have K := take_any h1 k hi hn hl r hr
  have hmem : r ∈ rs := by rw [← hr]; exact Dk.getD_mem _ _ _ (Dk.at_lt k hn)
  have hok := h.fit.reqs r hmem
  have hbl := h.fit.there r hmem
  have H1 : Hid (w.alloc (.cells #[.int .i64 0, .int .i64 0, .bool false, .int .u64 0] 29) = W1) := e1.symm
  have HO : Hid (r.ok ∧ 0 ≤ r.block ∧ r.block < bs.length) := ⟨hok, hbl⟩
  generalize hrs : rs.eraseIdx (Dk.at_ k rs.length) = rs' at *
  clear e1 h1 h hr hmem hok hbl hrs
  generalize rs.length = n at *
  have hn0 : ¬ n = 0 := by omega
  have hn1 : ¬ (n : Int) = 0 := by omega
  have y1 : decide ((n : Int) = 0) = false := by simp; omega
  have y2 : decide (n = 0) = false := by simp; omega
  have y3 : ((n : Int) == 0) = false := by simp; omega
  have y4 : (n == 0) = false := by simp; omega
  have HS := @serve_any
  obtain ⟨r1, r2, r3, r4⟩ := r
  simp only at K HO ⊢
  go_enter Try.func7, Try.ntmps7
  go_wp2_with (rw [H1.out]; clear H1)
  refine K.mono ?_
  rintro e w2 ⟨rfl, h2⟩
  clear K c1
  obtain ⟨W3, e3⟩ : ∃ W3, W3 = w2.alloc (.cells #[.int .i64 0, .int .i64 0, .bool false, .int .u64 0] 29) := ⟨_, rfl⟩
  have h3 := Db.newBox h2 e3
  have b3 : Dk.Box W3 w2.heap.size #[.int .i64 0, .int .i64 0, .bool false, .int .u64 0] 29 := Db.box h3 (by simp)
  obtain ⟨W4, e4⟩ : ∃ W4, W4 = W3.setRow w2.heap.size #[.int .i64 r1, .int .i64 r2, .bool r3, .int .u64 (r4 : Nat)] := ⟨_, rfl⟩
  have h4 := Db.setRow h3 e4
  have h5 := h4.below (Dk.up_drew (Below.refl _ _))
  have b5 : Dk.Box W4.drew w2.heap.size #[.int .i64 r1, .int .i64 r2, .bool r3, .int .u64 (r4 : Nat)] 29 := Db.box h5 (by simp)
  have KS := serve_any h5 ⟨r1, r2, r3, r4⟩ HO.out.1 HO.out.2
  have H3 : Hid (w2.alloc (.cells #[.int .i64 0, .int .i64 0, .bool false, .int .u64 0] 29) = W3) := e3.symm
  have H4 : Hid (W3.setRow w2.heap.size #[.int .i64 r1, .int .i64 r2, .bool r3, .int .u64 (r4 : Nat)] = W4) := e4.symm
  have HB3 : Hid (Dk.Box W3 w2.heap.size #[.int .i64 0, .int .i64 0, .bool false, .int .u64 0] 29) := b3
  have HB5 : Hid (Dk.Box W4.drew w2.heap.size #[.int .i64 r1, .int .i64 r2, .bool r3, .int .u64 (r4 : Nat)] 29) := b5
  clear e3 e4 h2 h3 h4 h5 b3 b5 HS
  go_wp2_with (first | (rw [H3.out]; clear H3) | (refine wpList_store_row rfl 29 _ _ rfl w2.heap.size #[.int .i64 r1, .int .i64 r2, .bool r3, .int .u64 (r4 : Nat)] rfl rfl 29 _ HB3.out.heap rq_size rfl (rq_cells _ _ _ _) ?_; rw [H4.out]; clear HB3))
  refine Dk.wp_region_line (S := fun w' => Dk.Box w' w2.heap.size #[.int .i64 r1, .int .i64 r2, .bool r3, .int .u64 (r4 : Nat)] 29) [0, 1, 2] [3, 4, 5, 6] (by kernel_rfl) (by kernel_rfl) HB5.out ?_
  refine Dk.held_step (v := .agg #[.int .i64 r1, .int .i64 r2, .bool r3, .int .u64 (r4 : Nat)]) rfl rfl (fun w' hw' => by have q0 : w'.cell? ⟨w2.heap.size, 0, none⟩ = some (.int .i64 r1) := hw'.cell 0; have q1 : w'.cell? ⟨w2.heap.size, 1, none⟩ = some (.int .i64 r2) := hw'.cell 1; have q2 : w'.cell? ⟨w2.heap.size, 2, none⟩ = some (.bool r3) := hw'.cell 2; have q3 : w'.cell? ⟨w2.heap.size, 3, none⟩ = some (.int .u64 (r4 : Nat)) := hw'.cell 3; go_simp) ?_
  simp only [Act.put, List.setIfInBounds_toArray, List.set_cons_succ, List.set_cons_zero]
  refine Dk.held_step (v := .pointer (some ⟨bd, 0, none⟩)) rfl rfl (fun w' hw' => by go_simp) ?_
  simp only [Act.put, List.setIfInBounds_toArray, List.set_cons_succ, List.set_cons_zero]
  refine Dk.held_step (v := .agg #[.int .i64 r1, .int .i64 r2, .bool r3, .int .u64 (r4 : Nat)]) rfl rfl (fun w' hw' => by have q0 : w'.cell? ⟨w2.heap.size, 0, none⟩ = some (.int .i64 r1) := hw'.cell 0; have q1 : w'.cell? ⟨w2.heap.size, 1, none⟩ = some (.int .i64 r2) := hw'.cell 1; have q2 : w'.cell? ⟨w2.heap.size, 2, none⟩ = some (.bool r3) := hw'.cell 2; have q3 : w'.cell? ⟨w2.heap.size, 3, none⟩ = some (.int .u64 (r4 : Nat)) := hw'.cell 3; go_simp) ?_
  simp only [Act.put, List.setIfInBounds_toArray, List.set_cons_succ, List.set_cons_zero]
  refine Dk.line_call (f := 14) (args := #[.pointer (some ⟨bd, 0, none⟩), .agg #[.int .i64 r1, .int .i64 r2, .bool r3, .int .u64 (r4 : Nat)]]) rfl rfl (by go_simp) ?_
  refine KS.mono ?_
  rintro e w6 ⟨rfl, h6⟩
  have b6 : Dk.Box w6 w2.heap.size #[.int .i64 r1, .int .i64 r2, .bool r3, .int .u64 (r4 : Nat)] 29 := Db.box h6 (by simp)
  have b6' : Dk.Box w6 w.heap.size #[.int .i64 0, .int .i64 0, .bool false, .int .u64 0] 29 := Db.box h6 (by simp)
  have h7 := Db.setRow (cs' := #[.int .i64 r1, .int .i64 r2, .bool r3, .int .u64 (r4 : Nat)]) (Db.swap h6) rfl
  have b7 : Dk.Box (w6.setRow w.heap.size #[.int .i64 r1, .int .i64 r2, .bool r3, .int .u64 (r4 : Nat)]) w2.heap.size #[.int .i64 r1, .int .i64 r2, .bool r3, .int .u64 (r4 : Nat)] 29 := Db.box h7 (by simp)
  have b7' := b6'.row (cs' := #[.int .i64 r1, .int .i64 r2, .bool r3, .int .u64 (r4 : Nat)])
  have h8 := Db.drop (Db.drop h7)
  refine ⟨_, rfl, b6, ?_⟩
  simp only [Act.put, List.setIfInBounds_toArray, List.set_cons_succ, List.set_cons_zero]
  refine Dk.line_step rfl rfl ?_
  refine wp_store_row 29 _ _ rfl w.heap.size #[.int .i64 r1, .int .i64 r2, .bool r3, .int .u64 (r4 : Nat)] rfl rfl 29 _ b6'.heap rq_size rfl (rq_cells _ _ _ _) ⟨b7, ?_⟩
  simp only [Act.put, List.setIfInBounds_toArray, List.set_cons_succ, List.set_cons_zero]
  generalize w6.setRow w.heap.size #[.int .i64 r1, .int .i64 r2, .bool r3, .int .u64 (r4 : Nat)] = W7 at *
  refine Dk.line_step rfl rfl ?_
  refine wp_run (v := .int .u64 (Dk.Rq.said ⟨r1, r2, r3, r4⟩ bs : Nat)) (w' := W7) (by go_simp) ⟨b7, ?_⟩
  simp only [Act.put, List.setIfInBounds_toArray, List.set_cons_succ, List.set_cons_zero]
  refine Dk.line_step rfl rfl ?_
  refine wp_run (v := .bool true) (w' := W7) (by go_simp) ⟨b7, ?_⟩
  simp only [Act.put, List.setIfInBounds_toArray, List.set_cons_succ, List.set_cons_zero]
  rename_i hK
  refine hK _ _ ?_
  have d0 := b7'.cell
  clear HB5 H4 b6 b6' h6 h7 KS b7 b7' hK
  go_wp2_with fail
  exact bodyPost_ret (v := .tuple #[.agg #[.int .i64 r1, .int .i64 r2, .bool r3, .int .u64 (r4 : Nat)], .int .u64 (Dk.Rq.said ⟨r1, r2, r3, r4⟩ bs : Nat), .bool true]) (by simp [results, Try.results7, go_sem, d0]) rfl ⟨rfl, h8⟩

theorem nils26 (w : World) : (Builtin.append_ #[26, 26] 26 #[.slice none 0 0, .slice none 0 0]).run Try.prog w = .ok (.slice none 0 0) w := by
  obtain ⟨i0, hi0, _, _, _⟩ := info_parts info29
  simp [Builtin.append_, run_underlying Try.underlying26, sizeOf, typeInfo, hi0, Builtin.lenOf, run_firstCells_none, go_sem]
/-- append of a list to nothing. -/
theorem copy_any {ty e : TypeId} {z : Value} {s bytes : Nat} (K : Dk.SlK Try.prog ty e z s bytes) (hn : ∀ w, (Builtin.append_ #[ty, ty] ty #[.slice none 0 0, .slice none 0 0]).run Try.prog w = .ok (.slice none 0 0) w) (B : Nat) (v : Value) (n : Nat) (xs : List Value) (w : World) (h : w.ownsRow B e s v n xs) (h1 : ∀ u ∈ xs, u.oneCell' = true) (hl : n ≤ 10000) :
    ∃ v' w', (Builtin.append_ #[ty, ty] ty #[.slice none 0 0, v]).run Try.prog w = .ok v' w' ∧ w'.ownsRow w.heap.size e s v' n xs ∧ Below w.heap.size w w' := by
  obtain ⟨hx, ⟨rfl, h0⟩ | ⟨g, cap, cur, rfl, hb, hg, hn, hm, hs, ht⟩⟩ := id h
  · subst h0
    obtain rfl : xs = [] := List.eq_nil_of_length_eq_zero (by simpa using hx)
    exact ⟨_, w, hn w, World.ownsRow_nil _ _ _ _, Below.refl _ _⟩
  · obtain ⟨v', w', hr, ho, hg, _, _⟩ := K.append w.heap.size ty (.slice none 0 0) [] 0 w (World.ownsRow_nil _ _ _ _) ⟨g, 0, none⟩ n cap xs hx (h.cells (g := g) rfl) h1 (by omega) (Nat.le_refl _)
    rw [Nat.zero_add, List.nil_append] at ho
    exact ⟨v', w', hr, ho, ⟨hg.os, hg.tape, hg.output, hg.size, fun k hk => hg.block k hk (by simp [Value.ownBlock])⟩⟩
theorem Wait_nil (w : World) : Calls Try.prog 12 #[.pointer none] w fun e w' => e = .returned (.slice none 0 0) ∧ w' = w := by
  go_enter Try.func12, Try.ntmps12
  go_wp2
  go_ret
  exact ⟨rfl, rfl⟩
theorem Wait_any (h : Dk.Db W w bd bs rs us) (hl : rs.length ≤ 1000) :
    Calls Try.prog 12 #[.pointer (some ⟨bd, 0, none⟩)] w fun e w' => ∃ A C, e = .returned (.slice A rs.length C) ∧ Dk.Db W w' bd bs rs us ∧ Hid (Below w.heap.size w w') ∧ Hid (w'.ownsRow w.heap.size 29 4 (.slice A rs.length C) rs.length (Dk.rqs rs)) := by
  obtain ⟨v1, v2, t, ft⟩ := Hid.out h
  obtain ⟨v', w', hr, ho, hu⟩ := copy_any K26 nils26 _ v2 _ _ w t.row2 (Dk.rqs_one _) (by omega)
  obtain ⟨A, C, ev, hc, hm⟩ := Dk.owns_slice t.row2
  have c0 : w.cell? ⟨bd, 1, none⟩ = some v2 := t.head.cell 1
  have H' := h.below hu
  obtain ⟨A', C', ev', _, _⟩ := Dk.owns_slice ho
  subst ev ev'
  have HR : Hid (w'.ownsRow w.heap.size 29 4 (.slice A' rs.length C') rs.length (Dk.rqs rs)) := ho
  have HU : Hid (Below w.heap.size w w') := hu
  clear ho hu h t ft
  go_enter Try.func12, Try.ntmps12
  go_wp2_with (at_builtin; refine Lib.wpList_append_run _ rfl _ _ _ _ rfl _ _ rfl rfl _ _ hr ?_)
  go_ret
  exact ⟨_, _, rfl, H', HU, HR⟩
end
end Go.Proofs.Ytpknboeobldbpaa
