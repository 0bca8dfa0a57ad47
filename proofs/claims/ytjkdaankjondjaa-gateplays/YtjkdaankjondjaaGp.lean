/- A mutex is given up, in the document's answer. -/
import Derived.Test.YtjkdaankjondjaaGn
namespace Dk
set_option linter.unusedSimpArgs false
set_option linter.unusedVariables false
set_option linter.unnecessarySimpa false
open Go Go.RowKit
section
variable {P : Go.Program} {S : World → Prop} {Q : Exit → Act → World → Prop}
theorem lineZ_call {z : Nat} {L : List Oper} {j : Nat} {js : List Nat} {a : Act} {w : World} {o : Oper} {f : FuncId} {args : Array Value} (ho : L[j]? = some o) (hg : o.guard = none)
    (hr : (execOp a.eval o).run P w = .ok (.enter f args) w) (hc : Calls P f args w fun e w' => ∃ v, e = .returned v ∧ (j ≠ z → S w') ∧ lineZ P L.toArray Q S z js (a.put o.dst v) w') : lineZ P L.toArray Q S z (j :: js) a w := by
  have hw : Region.wanted o (yielded L.toArray a.tmps) = true := by simp [Region.wanted, hg]
  have ho' : L.toArray[j]? = some o := by simpa using ho
  unfold lineZ wpOp
  simp only [ho', hw, if_true]
  refine .inl ?_
  unfold Oper.wp
  rw [hr]
  simp only [Oper.upon]
  refine Calls.mono hc ?_
  rintro e w' ⟨v, rfl, h⟩
  exact h
end
end Dk
namespace Go.Proofs.Ytjkdaankjondjaa
set_option linter.unusedSimpArgs false
set_option linter.unusedVariables false
set_option linter.unnecessarySimpa false
open Go.RowKit
theorem wp_skip {P : Program} {o : Oper} {a : Act} {w w' : World} {K : Act → World → Prop} {Q : Exit → Act → World → Prop} (h : (execOp a.eval o).run P w = .ok .skip w') (hK : K (a.put o.dst undef) w') : o.wp P a w K Q := by
  unfold Oper.wp
  rw [h]
  exact hK
theorem owns_up {w w' : World} {base : Nat} {e : TypeId} {size : Nat} {v : Value} {n : Nat} {xs : List Value} (h : w.ownsRow base e size v n xs) (u : Below w.heap.size w w') : w'.ownsRow base e size v n xs := Dk.owns_away h (Dk.Away.of_up (S := fun _ => False) u) (fun _ _ e => e)
section
variable {W w w' : World} {bm : Nat} {V : Dk.Vs} {S : Dk.St} {us : List Dk.Thing}
theorem Mdl.fields (h : Dk.Sep W w (Dk.mdl bm V S ++ us)) : w.cell? ⟨bm, 0, none⟩ = some V.v0 ∧ w.cell? ⟨bm, 1, none⟩ = some V.v1 ∧ w.cell? ⟨bm, 2, none⟩ = some V.v2 ∧ w.cell? ⟨bm, 3, none⟩ = some V.v3 ∧ w.cell? ⟨bm, 4, none⟩ = some V.v4 ∧ w.cell? ⟨bm, 5, none⟩ = some V.v5 := by
  have hb := Dk.Mdl.head h
  exact ⟨hb.cell 0, hb.cell 1, hb.cell 2, hb.cell 3, hb.cell 4, hb.cell 5⟩
set_option maxRecDepth 100000 in
set_option maxHeartbeats 2000000 in
theorem open_none (h : Dk.Sep W w (Dk.mdl bm V S ++ us)) {k n : Nat} (ok : Dk.Ok S k) (hn : n < S.owner.length) (c : Int) (h0 : (S.wait.getD n []).length = 0) :
    Calls Try.prog 26 #[.pointer (some ⟨bm, 0, none⟩), .int .i64 (n : Int), .int .i64 c] w fun e w' => e = .returned (.tuple #[.int .i64 0, .bool false]) ∧ Dk.Sep W w' (Dk.mdl bm V { S with held := S.held.set n false } ++ us) := by
  obtain ⟨f0, f1, f2, f3, f4, f5⟩ := Mdl.fields h
  obtain ⟨g2, C2, A, L, C', e2, q2, m2, hL, _, c2, _, _, _⟩ := Mdl.putWait h (n := n) (by rw [ok.wait]; exact hn)
  obtain ⟨g1, C1, e1, q1, m1, c1, z1, hset⟩ := Mdl.setHeld h (n := n) (by rw [ok.held]; exact hn)
  rw [h0] at hL
  subst hL
  have hs := hset false
  have hw : n < S.wait.length := by rw [ok.wait]; exact hn
  have hh : n < S.held.length := by rw [ok.held]; exact hn
  rw [e2] at f2
  rw [e1] at f1
  unfold maxLen at m1 m2
  have hwi : (n : Int) < (S.wait.length : Int) := by omega
  have hhi : (n : Int) < (S.held.length : Int) := by omega
  clear h ok e1 e2 hset h0 f0 f3 f4 f5
  generalize { S with held := S.held.set n false } = S' at *
  generalize S.wait.length = lw at *
  generalize S.held.length = lh at *
  generalize S.held.getD n false = y at *
  go_enter Try.func26, Try.ntmps26
  go_wp2_with fail
  go_ret2
  exact ⟨rfl, hs⟩
set_option maxRecDepth 100000 in
set_option maxHeartbeats 4000000 in
theorem open_some (h : Dk.Sep W w (Dk.mdl bm V S ++ us)) {k n : Nat} (ok : Dk.Ok S k) (hk : k ≤ 900) (hn : n < S.owner.length) (c : Int) (hc : Dk.i64 c) (l : List Int) (hl : S.wait.getD n [] = l) (h0 : 0 < l.length) (a : Nat) (ha : Dk.at_ c l.length = a) (x : Int) (hx : l.getD a 0 = x) :
    Calls Try.prog 26 #[.pointer (some ⟨bm, 0, none⟩), .int .i64 (n : Int), .int .i64 c] w fun e w' => e = .returned (.tuple #[.int .i64 x, .bool true]) ∧ ∃ V', Dk.Sep W w' (Dk.mdl bm V' { S with owner := S.owner.set n x, wait := S.wait.set n (l.eraseIdx a) } ++ us) := by
  have hwn : n < S.wait.length := by rw [ok.wait]; exact hn
  have hal : a < l.length := by rw [← ha]; exact Dk.at_lt c h0
  have hlk : l.length ≤ 900 := by
    have hm : l ∈ S.wait := by rw [← hl]; simp [List.getD, hwn]
    have := ok.waitLen hm
    omega
  have hle : S.wait.length = S.owner.length := ok.wait
  obtain ⟨f0, f1, f2, f3, f4, f5⟩ := Mdl.fields h
  obtain ⟨g2, C2, A, L, C', e2, q2, m2, hL, hv2, c2, _, ho, _⟩ := Mdl.putWait h hwn
  rw [hl] at hL ho
  subst hL
  rw [hle] at e2 q2
  obtain ⟨_, ⟨_, h1⟩ | ⟨gi, cap, cur, ec, _⟩⟩ := id ho
  · omega
  injection ec with eA _ eC
  subst eA eC
  have ci : w.cell? ⟨gi, a, none⟩ = some (.int .i64 x) := by
    have q := ho.cells (g := gi) rfl a (.int .i64 x) (by rw [← hx]; simp [List.getD, hal])
    rw [Addr.add_lit, Nat.zero_add] at q
    exact q
  have KP := pick_any c l.length hc h0 (by omega) w
  rw [ha] at KP
  -- the owner
  have hd := h.below (Dk.up_drew (Below.refl _ _))
  obtain ⟨go, Co, e0, q0, m0, c0, z0, hset⟩ := Mdl.setOwner hd (n := n) hn
  have h5 := hset x
  obtain ⟨W5, e5⟩ : ∃ W5, W5 = w.drew.setCell ⟨go, n, none⟩ (.int .i64 x) := ⟨_, rfl⟩
  rw [← e5] at h5
  obtain ⟨p0, p1, p2, p3, p4, p5⟩ := Mdl.fields h5
  obtain ⟨g2', C2', A', L', C'', e2', _, _, hL', hv2', c2', z2', ho', put⟩ := Mdl.putWait h5 (n := n) hwn
  obtain ⟨eg2, eC2⟩ : g2' = g2 ∧ C2' = C2 := by
    have := e2.symm.trans e2'
    simp at this
    exact ⟨this.1.symm, this.2.2.symm⟩
  subst eg2 eC2
  obtain ⟨eA', eL', eC'⟩ : A' = some ⟨gi, 0, none⟩ ∧ L' = l.length ∧ C'' = C' := by
    have := hv2'.symm.trans hv2
    simpa using this
  subst eA' eL' eC'
  have el5 : S.wait.getD n [] = l := hl
  have ho5 : W5.ownsRow W.heap.size 3 1 (.slice (some ⟨gi, 0, none⟩) l.length C'') l.length (Dk.is l) := by
    have q : W5.ownsRow W.heap.size 3 1 (.slice (some ⟨gi, 0, none⟩) l.length C'') (S.wait.getD n []).length (Dk.is (S.wait.getD n [])) := ho'
    rw [el5] at q
    exact q
  have ci5 : W5.cell? ⟨gi, a, none⟩ = some (.int .i64 x) := by
    have q := ho5.cells (g := gi) rfl a (.int .i64 x) (by rw [← hx]; simp [List.getD, hal])
    rw [Addr.add_lit, Nat.zero_add] at q
    exact q
  -- the row, without the one
  have d5 : Below W5.heap.size W5 W5.drew := Dk.up_drew (Below.refl _ _)
  have KW := Without_any W.heap.size (.slice (some ⟨gi, 0, none⟩) l.length C'') l a W5.drew (owns_up ho5 d5) hal (by omega)
  have fin : ∀ v' w6, w6.ownsRow W5.drew.heap.size 3 1 v' (l.eraseIdx a).length (Dk.is (l.eraseIdx a)) → Below W5.drew.heap.size W5.drew w6 → w6.cell? ⟨g2', n, none⟩ = some (.slice (some ⟨gi, 0, none⟩) l.length C'') ∧ w6.frozen? ⟨g2', n, none⟩ = false ∧ (∃ A L C, v' = .slice A L C) ∧ ∃ V', Dk.Sep W (w6.setCell ⟨g2', n, none⟩ v') (Dk.mdl bm V' { S with owner := S.owner.set n x, wait := S.wait.set n (l.eraseIdx a) } ++ us) := by
    intro v' w6 ho6 hb6
    have b6 : Below W5.heap.size W5 w6 := Dk.up_call d5 hb6
    obtain ⟨r1, r2, r3⟩ := put w6 v' (l.eraseIdx a) (Dk.Away.of_up b6) (Dk.owns_base ho6 (Nat.zero_le _)) (Dk.From.new (w := W5) ho6)
    obtain ⟨Ax, Cx, ex, _, _⟩ := Dk.owns_slice ho6
    exact ⟨r1, r2, ⟨_, _, _, ex⟩, ⟨_, r3⟩⟩
  have hz : ∀ w6, Below W5.drew.heap.size W5.drew w6 → ∀ b o, b < W5.heap.size → w6.cell? ⟨b, o, none⟩ = W5.cell? ⟨b, o, none⟩ := fun w6 u b o hb => u.cell (p := ⟨b, o, none⟩) hb
  have f5b : bm < W5.heap.size := lt_of_cell' p2
  have f5g : g2' < W5.heap.size := lt_of_cell' c2'
  rw [e2'] at p2
  rw [e0] at f0 p0
  rw [hle] at p2
  rw [e2] at f2
  have f0d : w.drew.cell? ⟨bm, 0, none⟩ = some (.slice (some ⟨go, 0, none⟩) S.owner.length Co) := f0
  have f2d : w.drew.cell? ⟨bm, 2, none⟩ = some (.slice (some ⟨g2', 0, none⟩) S.owner.length C2') := f2
  have hown : ∀ V' w7, Dk.Sep W w7 (Dk.mdl bm V' { S with owner := S.owner.set n x, wait := S.wait.set n (l.eraseIdx a) } ++ us) → ∃ g C, w7.cell? ⟨bm, 0, none⟩ = some (.slice (some ⟨g, 0, none⟩) S.owner.length C) ∧ w7.cell? ⟨g, n, none⟩ = some (.int .i64 x) := fun V' w7 h7 => by
    have hn' : n < (S.owner.set n x).length := by rw [List.length_set]; exact hn
    obtain ⟨y0, _⟩ := Mdl.fields h7
    obtain ⟨g, C, e, _, _, cc, _, _⟩ := Mdl.setOwner h7 (n := n) hn'
    have el : (S.owner.set n x).length = S.owner.length := List.length_set
    refine ⟨g, C, ?_, ?_⟩
    · rw [y0, e]
      show some (Value.slice _ (S.owner.set n x).length _) = _
      rw [el]
    · rw [cc]
      show some (Value.int .i64 ((S.owner.set n x).getD n 0)) = _
      simp [List.getD, hn]
  generalize { S with owner := S.owner.set n x, wait := S.wait.set n (l.eraseIdx a) } = S' at *
  unfold maxLen at m0 m2
  have hni : (n : Int) < (S.owner.length : Int) := by omega
  have hai : (a : Int) < (l.length : Int) := by omega
  have hn0 : ¬ l.length = 0 := by omega
  have hn1 : ((l.length : Int) == 0) = false := by simpa using (show ¬ (l.length : Int) = 0 by omega)
  have hn2 : decide ((l.length : Int) = 0) = false := decide_eq_false (by omega)
  have hn3 : decide (l.length = 0) = false := decide_eq_false (by omega)
  have HS5 : Hid (W5.cell? ⟨bm, 0, none⟩ = some (.slice (some ⟨go, 0, none⟩) S.owner.length Co) ∧ W5.cell? ⟨bm, 2, none⟩ = some (.slice (some ⟨g2', 0, none⟩) S.owner.length C2') ∧ W5.cell? ⟨g2', n, none⟩ = some (.slice (some ⟨gi, 0, none⟩) l.length C'') ∧ W5.cell? ⟨gi, a, none⟩ = some (.int .i64 x)) := ⟨p0, p2, c2', ci5⟩
  have HS0 : Hid (w.drew.cell? ⟨bm, 0, none⟩ = some (.slice (some ⟨go, 0, none⟩) S.owner.length Co) ∧ w.drew.cell? ⟨bm, 2, none⟩ = some (.slice (some ⟨g2', 0, none⟩) S.owner.length C2') ∧ w.drew.cell? ⟨g2', n, none⟩ = some (.slice (some ⟨gi, 0, none⟩) l.length C'') ∧ w.drew.cell? ⟨gi, a, none⟩ = some (.int .i64 x)) := ⟨f0d, f2d, c2, ci⟩
  have HF : Hid (∀ v' w6, w6.ownsRow W5.drew.heap.size 3 1 v' (l.eraseIdx a).length (Dk.is (l.eraseIdx a)) → Below W5.drew.heap.size W5.drew w6 → w6.cell? ⟨g2', n, none⟩ = some (.slice (some ⟨gi, 0, none⟩) l.length C'') ∧ w6.frozen? ⟨g2', n, none⟩ = false ∧ (∃ A L C, v' = .slice A L C) ∧ ∃ V', Dk.Sep W (w6.setCell ⟨g2', n, none⟩ v') (Dk.mdl bm V' S' ++ us)) := fin
  have HZ : Hid (∀ w6, Below W5.drew.heap.size W5.drew w6 → ∀ b o, b < W5.heap.size → w6.cell? ⟨b, o, none⟩ = W5.cell? ⟨b, o, none⟩) := hz
  have HS6 : Hid (W5.drew.cell? ⟨bm, 2, none⟩ = some (.slice (some ⟨g2', 0, none⟩) S.owner.length C2') ∧ W5.drew.cell? ⟨g2', n, none⟩ = some (.slice (some ⟨gi, 0, none⟩) l.length C'')) := ⟨p2, c2'⟩
  have H5 : Hid (w.drew.setCell ⟨go, n, none⟩ (.int .i64 x) = W5) := e5.symm
  have HO0 : Hid (∀ V' w7, Dk.Sep W w7 (Dk.mdl bm V' S' ++ us) → ∃ g C, w7.cell? ⟨bm, 0, none⟩ = some (.slice (some ⟨g, 0, none⟩) S.owner.length C) ∧ w7.cell? ⟨g, n, none⟩ = some (.int .i64 x)) := hown
  clear fin hz h hd hset h5 e5 put ho ho' ho5 hv2 hv2' e2 e2' e0 ok hx ha hl el5 hL' f1 f3 f4 f5 p1 p3 p4 p5 hc z2' d5 hown
  generalize S.owner.length = M at *
  generalize hLl : l.length = L at *
  go_enter Try.func26, Try.ntmps26
  go_wp2_with fail
  refine KP.mono ?_
  rintro e w' ⟨rfl, hw'⟩
  subst w'
  clear KP
  go_wp2_with fail
  refine Dk.wp_region_line (S := fun w' => w'.cell? ⟨bm, 0, none⟩ = some (.slice (some ⟨go, 0, none⟩) M Co) ∧ w'.cell? ⟨bm, 2, none⟩ = some (.slice (some ⟨g2', 0, none⟩) M C2') ∧ w'.cell? ⟨g2', n, none⟩ = some (.slice (some ⟨gi, 0, none⟩) L C'') ∧ w'.cell? ⟨gi, a, none⟩ = some (.int .i64 x)) [0, 1, 2, 3, 4, 5, 6, 7, 8, 9, 10, 11, 12, 13, 14, 15] [16] (by kernel_rfl) (by kernel_rfl) HS0.out ?_
  refine Dk.held_step (v := .pointer (some ⟨bm, 0, none⟩)) rfl rfl (fun w' hw' => by obtain ⟨q0, q1, q2, q3⟩ := hw'; go_simp) ?_
  simp only [Act.put, List.setIfInBounds_toArray, List.set_cons_succ, List.set_cons_zero]
  refine Dk.held_step (v := .pointer (some ⟨bm, 0, none⟩)) rfl rfl (fun w' hw' => by obtain ⟨q0, q1, q2, q3⟩ := hw'; go_simp) ?_
  simp only [Act.put, List.setIfInBounds_toArray, List.set_cons_succ, List.set_cons_zero]
  refine Dk.held_step (v := .pointer (some ⟨bm, 0, none⟩)) rfl rfl (fun w' hw' => by obtain ⟨q0, q1, q2, q3⟩ := hw'; go_simp) ?_
  simp only [Act.put, List.setIfInBounds_toArray, List.set_cons_succ, List.set_cons_zero]
  refine Dk.held_step (v := .slice (some ⟨go, 0, none⟩) M Co) rfl rfl (fun w' hw' => by obtain ⟨q0, q1, q2, q3⟩ := hw'; go_simp) ?_
  simp only [Act.put, List.setIfInBounds_toArray, List.set_cons_succ, List.set_cons_zero]
  refine Dk.held_step (v := .int .i64 (n : Int)) rfl rfl (fun w' hw' => by obtain ⟨q0, q1, q2, q3⟩ := hw'; go_simp) ?_
  simp only [Act.put, List.setIfInBounds_toArray, List.set_cons_succ, List.set_cons_zero]
  refine Dk.held_step (v := .pointer (some ⟨bm, 0, none⟩)) rfl rfl (fun w' hw' => by obtain ⟨q0, q1, q2, q3⟩ := hw'; go_simp) ?_
  simp only [Act.put, List.setIfInBounds_toArray, List.set_cons_succ, List.set_cons_zero]
  refine Dk.held_step (v := .pointer (some ⟨bm, 0, none⟩)) rfl rfl (fun w' hw' => by obtain ⟨q0, q1, q2, q3⟩ := hw'; go_simp) ?_
  simp only [Act.put, List.setIfInBounds_toArray, List.set_cons_succ, List.set_cons_zero]
  refine Dk.held_step (v := .pointer (some ⟨bm, 2, none⟩)) rfl rfl (fun w' hw' => by obtain ⟨q0, q1, q2, q3⟩ := hw'; go_simp) ?_
  simp only [Act.put, List.setIfInBounds_toArray, List.set_cons_succ, List.set_cons_zero]
  refine Dk.held_step (v := .slice (some ⟨g2', 0, none⟩) M C2') rfl rfl (fun w' hw' => by obtain ⟨q0, q1, q2, q3⟩ := hw'; go_simp) ?_
  simp only [Act.put, List.setIfInBounds_toArray, List.set_cons_succ, List.set_cons_zero]
  refine Dk.held_step (v := .int .i64 (n : Int)) rfl rfl (fun w' hw' => by obtain ⟨q0, q1, q2, q3⟩ := hw'; go_simp) ?_
  simp only [Act.put, List.setIfInBounds_toArray, List.set_cons_succ, List.set_cons_zero]
  refine Dk.held_step (v := .pointer (some ⟨g2', n, none⟩)) rfl rfl (fun w' hw' => by obtain ⟨q0, q1, q2, q3⟩ := hw'; go_simp) ?_
  simp only [Act.put, List.setIfInBounds_toArray, List.set_cons_succ, List.set_cons_zero]
  refine Dk.held_step (v := .slice (some ⟨gi, 0, none⟩) L C'') rfl rfl (fun w' hw' => by obtain ⟨q0, q1, q2, q3⟩ := hw'; go_simp) ?_
  simp only [Act.put, List.setIfInBounds_toArray, List.set_cons_succ, List.set_cons_zero]
  refine Dk.held_step (v := .int .i64 (a : Int)) rfl rfl (fun w' hw' => by obtain ⟨q0, q1, q2, q3⟩ := hw'; go_simp) ?_
  simp only [Act.put, List.setIfInBounds_toArray, List.set_cons_succ, List.set_cons_zero]
  refine Dk.held_step (v := .pointer (some ⟨gi, a, none⟩)) rfl rfl (fun w' hw' => by obtain ⟨q0, q1, q2, q3⟩ := hw'; go_simp) ?_
  simp only [Act.put, List.setIfInBounds_toArray, List.set_cons_succ, List.set_cons_zero]
  refine Dk.held_step (v := .int .i64 x) rfl rfl (fun w' hw' => by obtain ⟨q0, q1, q2, q3⟩ := hw'; go_simp) ?_
  simp only [Act.put, List.setIfInBounds_toArray, List.set_cons_succ, List.set_cons_zero]
  refine Dk.held_step (v := .pointer (some ⟨go, n, none⟩)) rfl rfl (fun w' hw' => by obtain ⟨q0, q1, q2, q3⟩ := hw'; go_simp) ?_
  simp only [Act.put, List.setIfInBounds_toArray, List.set_cons_succ, List.set_cons_zero]
  refine Dk.line_step rfl rfl ?_
  refine wp_skip (w' := W5) (by rw [← H5.out]; go_simp) ⟨HS5.out, ?_⟩
  simp only [Act.put, List.setIfInBounds_toArray, List.set_cons_succ, List.set_cons_zero]
  rename_i hK
  refine hK _ _ ?_
  clear hK HS0 HS5 f0 f2 c2 ci f0d f2d
  go_wp2_with fail
  refine Dk.wp_region_lineZ (z := 15) (S := fun w' => w'.cell? ⟨bm, 2, none⟩ = some (.slice (some ⟨g2', 0, none⟩) M C2') ∧ w'.cell? ⟨g2', n, none⟩ = some (.slice (some ⟨gi, 0, none⟩) L C'')) [0, 1, 2, 3, 4, 5, 6, 7, 8, 9, 10, 11, 12] [13, 14, 15] (by kernel_rfl) (by kernel_rfl) (by kernel_rfl) HS6.out ?_
  refine Dk.held_step (v := .pointer (some ⟨bm, 0, none⟩)) rfl rfl (fun w' hw' => by obtain ⟨q0, q1⟩ := hw'; go_simp) ?_
  simp only [Act.put, List.setIfInBounds_toArray, List.set_cons_succ, List.set_cons_zero]
  refine Dk.held_step (v := .pointer (some ⟨bm, 0, none⟩)) rfl rfl (fun w' hw' => by obtain ⟨q0, q1⟩ := hw'; go_simp) ?_
  simp only [Act.put, List.setIfInBounds_toArray, List.set_cons_succ, List.set_cons_zero]
  refine Dk.held_step (v := .pointer (some ⟨bm, 2, none⟩)) rfl rfl (fun w' hw' => by obtain ⟨q0, q1⟩ := hw'; go_simp) ?_
  simp only [Act.put, List.setIfInBounds_toArray, List.set_cons_succ, List.set_cons_zero]
  refine Dk.held_step (v := .slice (some ⟨g2', 0, none⟩) M C2') rfl rfl (fun w' hw' => by obtain ⟨q0, q1⟩ := hw'; go_simp) ?_
  simp only [Act.put, List.setIfInBounds_toArray, List.set_cons_succ, List.set_cons_zero]
  refine Dk.held_step (v := .int .i64 (n : Int)) rfl rfl (fun w' hw' => by obtain ⟨q0, q1⟩ := hw'; go_simp) ?_
  simp only [Act.put, List.setIfInBounds_toArray, List.set_cons_succ, List.set_cons_zero]
  refine Dk.held_step (v := .pointer (some ⟨bm, 0, none⟩)) rfl rfl (fun w' hw' => by obtain ⟨q0, q1⟩ := hw'; go_simp) ?_
  simp only [Act.put, List.setIfInBounds_toArray, List.set_cons_succ, List.set_cons_zero]
  refine Dk.held_step (v := .pointer (some ⟨bm, 0, none⟩)) rfl rfl (fun w' hw' => by obtain ⟨q0, q1⟩ := hw'; go_simp) ?_
  simp only [Act.put, List.setIfInBounds_toArray, List.set_cons_succ, List.set_cons_zero]
  refine Dk.held_step (v := .pointer (some ⟨bm, 2, none⟩)) rfl rfl (fun w' hw' => by obtain ⟨q0, q1⟩ := hw'; go_simp) ?_
  simp only [Act.put, List.setIfInBounds_toArray, List.set_cons_succ, List.set_cons_zero]
  refine Dk.held_step (v := .slice (some ⟨g2', 0, none⟩) M C2') rfl rfl (fun w' hw' => by obtain ⟨q0, q1⟩ := hw'; go_simp) ?_
  simp only [Act.put, List.setIfInBounds_toArray, List.set_cons_succ, List.set_cons_zero]
  refine Dk.held_step (v := .int .i64 (n : Int)) rfl rfl (fun w' hw' => by obtain ⟨q0, q1⟩ := hw'; go_simp) ?_
  simp only [Act.put, List.setIfInBounds_toArray, List.set_cons_succ, List.set_cons_zero]
  refine Dk.held_step (v := .pointer (some ⟨g2', n, none⟩)) rfl rfl (fun w' hw' => by obtain ⟨q0, q1⟩ := hw'; go_simp) ?_
  simp only [Act.put, List.setIfInBounds_toArray, List.set_cons_succ, List.set_cons_zero]
  refine Dk.held_step (v := .slice (some ⟨gi, 0, none⟩) L C'') rfl rfl (fun w' hw' => by obtain ⟨q0, q1⟩ := hw'; go_simp) ?_
  simp only [Act.put, List.setIfInBounds_toArray, List.set_cons_succ, List.set_cons_zero]
  refine Dk.held_step (v := .int .i64 (a : Int)) rfl rfl (fun w' hw' => by obtain ⟨q0, q1⟩ := hw'; go_simp) ?_
  simp only [Act.put, List.setIfInBounds_toArray, List.set_cons_succ, List.set_cons_zero]
  refine Dk.lineZ_call (f := 42) (args := #[.slice (some ⟨gi, 0, none⟩) L C'', .int .i64 (a : Int)]) rfl rfl (by go_simp) ?_
  refine KW.mono ?_
  rintro e w6 ⟨v', rfl, ho6, hnn, hb6⟩
  obtain ⟨r1, r2, ⟨Ax, Lx, Cx, rfl⟩, V', h7⟩ := HF.out v' w6 ho6 hb6
  have r0 : w6.cell? ⟨bm, 2, none⟩ = some (.slice (some ⟨g2', 0, none⟩) M C2') := (HZ.out w6 hb6 bm 2 f5b).trans p2
  refine ⟨_, rfl, fun _ => ⟨r0, r1⟩, ?_⟩
  simp only [Act.put, List.setIfInBounds_toArray, List.set_cons_succ, List.set_cons_zero]
  refine Dk.lineZ_step (v := .pointer (some ⟨g2', n, none⟩)) (w' := w6) rfl rfl (by go_simp) (fun _ => ⟨r0, r1⟩) ?_
  simp only [Act.put, List.setIfInBounds_toArray, List.set_cons_succ, List.set_cons_zero]
  obtain ⟨g7, C7, o7, x7⟩ := HO0.out _ _ h7
  obtain ⟨W7, e7⟩ : ∃ W7, W7 = w6.setCell ⟨g2', n, none⟩ (.slice Ax Lx Cx) := ⟨_, rfl⟩
  rw [← e7] at h7 o7 x7
  refine Dk.lineZ_skip (w' := W7) rfl rfl (by rw [e7]; go_simp) (fun h => absurd rfl h) ?_
  simp only [Act.put, List.setIfInBounds_toArray, List.set_cons_succ, List.set_cons_zero]
  rename_i hK
  refine hK _ _ ?_
  clear hK HF HZ HS6 H5 HO0 KW e7 r0 r1 r2 ho6 hb6 hnn
  go_wp2_with fail
  go_ret2
  exact ⟨rfl, V', h7⟩
end
end Go.Proofs.Ytjkdaankjondjaa
