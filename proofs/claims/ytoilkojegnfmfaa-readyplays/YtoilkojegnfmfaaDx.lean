/- A list without the number at a place. -/
import Derived.Test.YtoilkojegnfmfaaDr
namespace Go.Proofs.Ytoilkojegnfmfaa
set_option linter.unusedSimpArgs false
set_option linter.unusedVariables false
set_option linter.unnecessarySimpa false
open Go.RowKit

theorem wp_run {P : Program} {o : Oper} {a : Act} {w w' : World} {v : Value} {K : Act → World → Prop} {Q : Exit → Act → World → Prop} (h : (execOp a.eval o).run P w = .ok (.value v) w') (hK : K (a.put o.dst v) w') : o.wp P a w K Q := by
  unfold Oper.wp
  rw [h]
  exact hK

set_option maxRecDepth 100000 in
set_option maxHeartbeats 1000000 in
theorem Without_any (B : Nat) (v : Value) (xs : List Int) (k : Nat) (w : World) (h : w.ownsRow B 3 1 v xs.length (Dk.is xs)) (hk : k < xs.length) (hl : xs.length ≤ 1000) :
    Calls Try.prog 8 #[v, .int .i64 (k : Int)] w fun e w' => ∃ v', e = .returned v' ∧ w'.ownsRow w.heap.size 3 1 v' (xs.eraseIdx k).length (Dk.is (xs.eraseIdx k)) ∧ v' ≠ .slice none 0 0 ∧ Below w.heap.size w w' := by
  have hel : (xs.eraseIdx k).length = xs.length - 1 := by rw [List.length_eraseIdx, if_pos hk]
  obtain ⟨_, ⟨rfl, h0⟩ | ⟨b, C, cur, rfl, hb, hg, hn, hm, hs, ht⟩⟩ := id h
  · omega
  have hC := hm
  unfold maxLen at hC
  have hcells : ∀ j u, (Dk.is xs)[j]? = some u → w.cell? ((⟨b, 0, none⟩ : Addr).add j) = some u := h.cells (g := b) rfl
  have hblt : b < w.heap.size := (Array.getElem?_eq_some_iff.1 hg).1
  have h1c : ∀ u ∈ Dk.is xs, u.oneCell' = true := fun u hu => by
    obtain ⟨y, _, rfl⟩ := List.mem_map.1 hu
    rfl
  -- the first list
  obtain ⟨w1, e1⟩ : ∃ w1, w1 = w.drew.alloc (.cells #[] 3) := ⟨_, rfl⟩
  have u1 : Below w.heap.size w w1 := by rw [e1]; exact Dk.up_alloc (Dk.up_drew (Below.refl _ _)) _
  have o1 : w1.ownsRow w.heap.size 3 1 (.slice (some ⟨w.heap.size, 0, none⟩) 0 0) 0 [] := by rw [e1]; exact World.ownsRow_lit w.drew #[] 0 (Nat.le_refl _) (Nat.zero_le _) rfl
  have keep : ∀ w', Below w.heap.size w w' → ∀ j u, (Dk.is xs)[j]? = some u → w'.cell? ((⟨b, 0, none⟩ : Addr).add j) = some u := fun w' u j x hj => by
    rw [u.cell (by rw [Addr.add_lit]; exact hblt)]
    exact hcells j x hj
  obtain ⟨v9, w9, r9, o9, g9, f9, n9⟩ := append_from w.heap.size 30 _ [] 0 w1 o1 ⟨b, 0, none⟩ k C ((Dk.is xs).take k) (by simp; omega) (fun j u hj => by
    rw [List.getElem?_take] at hj
    split at hj
    · exact keep w1 u1 j u hj
    · cases hj) (fun u hu => h1c u (List.mem_of_mem_take hu)) (by omega) u1.size
  rw [Nat.zero_add, List.nil_append] at o9
  have u9 : Below w.heap.size w w9 := u1.grown g9 u1.size (fun j hj => (o1.lt j hj).1)
  have hv9 : v9 ≠ .slice none 0 0 := fun e => by simpa using n9.1 e
  obtain ⟨A9, C9, ev9, _, _⟩ := Dk.owns_slice o9
  subst ev9
  -- the second one
  obtain ⟨A2, hA2, hs2⟩ : ∃ A2 : Addr, (if C = k + 1 then some (⟨b, 0, none⟩ : Addr) else some ⟨b, k + 1, none⟩) = some A2 ∧ (∀ t u, ((Dk.is xs).drop (k + 1))[t]? = some u → w9.cell? (A2.add t) = some u) := by
    by_cases hc : C = k + 1
    · refine ⟨⟨b, 0, none⟩, by simp [hc], fun t u hu => ?_⟩
      rw [List.getElem?_drop, List.getElem?_eq_none (by simp; omega)] at hu
      cases hu
    · refine ⟨⟨b, k + 1, none⟩, by simp [hc], fun t u hu => ?_⟩
      rw [List.getElem?_drop] at hu
      have := keep w9 u9 (k + 1 + t) u hu
      rw [Addr.add_lit] at this ⊢
      rw [Nat.zero_add] at this
      exact this
  obtain ⟨v14, w14, r14, o14, g14, f14, n14⟩ := append_from w.heap.size 30 _ _ k w9 o9 A2 (xs.length - (k + 1)) (C - (k + 1)) ((Dk.is xs).drop (k + 1)) (by simp) hs2 (fun u hu => h1c u (List.mem_of_mem_drop hu)) (by omega) u9.size
  have u14 : Below w.heap.size w w14 := u9.grown g14 u9.size (fun j hj => (o9.lt j hj).1)
  have hv14 : v14 ≠ .slice none 0 0 := fun e => hv9 (n14.1 e).1
  have o14' : w14.ownsRow w.heap.size 3 1 v14 (xs.eraseIdx k).length (Dk.is (xs.eraseIdx k)) := by
    rw [hel, List.eraseIdx_eq_take_drop_succ, Dk.is, List.map_append, List.map_take, List.map_drop, show xs.length - 1 = k + (xs.length - (k + 1)) by omega]
    exact o14
  obtain ⟨A14, C14, ev14, _, _⟩ := Dk.owns_slice o14
  subst ev14
  have HO : Hid _ := o14'
  have HU : Hid _ := u14
  have HV : Hid _ := hv14
  have HA : Hid _ := hA2
  have HE : Hid _ := e1
  clear o14' o14 u14 hv14 g14 f14 n14 hs2 hv9 u9 n9 f9 g9 o9 keep o1 u1 h1c hcells h hel hg hs ht hA2 e1
  go_enter Try.func8, Try.ntmps8
  go_wp2
  refine Dk.wp_region_line (S := fun w' => True) [1, 2, 3, 5, 6, 7, 8] [0, 4, 9, 10] (by kernel_rfl) (by kernel_rfl) trivial ?_
  refine Dk.held_step (v := .slice (some ⟨b, 0, none⟩) xs.length C) rfl rfl (fun w' _ => by go_simp) ?_
  simp only [Act.put, List.setIfInBounds_toArray, List.set_cons_succ, List.set_cons_zero]
  refine Dk.held_step (v := .int .i64 (k : Int)) rfl rfl (fun w' _ => by go_simp) ?_
  simp only [Act.put, List.setIfInBounds_toArray, List.set_cons_succ, List.set_cons_zero]
  refine Dk.held_step (v := .slice (some ⟨b, 0, none⟩) k C) rfl rfl (fun w' _ => by go_simp; intro hh; exact absurd hh (by omega)) ?_
  simp only [Act.put, List.setIfInBounds_toArray, List.set_cons_succ, List.set_cons_zero]
  refine Dk.held_step (v := .slice (some ⟨b, 0, none⟩) xs.length C) rfl rfl (fun w' _ => by go_simp) ?_
  simp only [Act.put, List.setIfInBounds_toArray, List.set_cons_succ, List.set_cons_zero]
  refine Dk.held_step (v := .int .i64 (k : Int)) rfl rfl (fun w' _ => by go_simp) ?_
  simp only [Act.put, List.setIfInBounds_toArray, List.set_cons_succ, List.set_cons_zero]
  refine Dk.held_step (v := .int .i64 ((k : Int) + 1)) rfl rfl (fun w' _ => by go_simp; rw [IntKind.wrap_i64]; omega) ?_
  simp only [Act.put, List.setIfInBounds_toArray, List.set_cons_succ, List.set_cons_zero]
  refine Dk.held_step (v := .slice (some A2) (xs.length - (k + 1)) (C - (k + 1))) rfl rfl (fun w' _ => by go_simp; rw [if_pos (by omega), HA.out]) ?_
  simp only [Act.put, List.setIfInBounds_toArray, List.set_cons_succ, List.set_cons_zero]
  refine Dk.line_step rfl rfl ?_
  refine wp_run (v := .slice (some ⟨w.heap.size, 0, none⟩) 0 0) (w' := w1) (by rw [HE.out]; go_simp) ⟨trivial, ?_⟩
  simp only [Act.put, List.setIfInBounds_toArray, List.set_cons_succ, List.set_cons_zero]
  refine Dk.line_step rfl rfl ?_
  refine wp_run (v := .slice A9 k C9) (w' := w9) (by simp only [execOp, resolve, invoke, builtin]; simp [Act.eval, r9]) ⟨trivial, ?_⟩
  simp only [Act.put, List.setIfInBounds_toArray, List.set_cons_succ, List.set_cons_zero]
  refine Dk.line_step rfl rfl ?_
  refine wp_run (v := .slice A14 (k + (xs.length - (k + 1))) C14) (w' := w14) (by simp only [execOp, resolve, invoke, builtin]; simp [Act.eval, r14]) ⟨trivial, ?_⟩
  simp only [Act.put, List.setIfInBounds_toArray, List.set_cons_succ, List.set_cons_zero]
  refine Dk.line_step rfl rfl ?_
  refine wp_run (v := .slice A14 (k + (xs.length - (k + 1))) C14) (w' := w14) (by go_simp) ⟨trivial, ?_⟩
  simp only [Act.put, List.setIfInBounds_toArray, List.set_cons_succ, List.set_cons_zero]
  rename_i hK
  refine hK _ _ ?_
  go_wp2
  go_ret
  exact ⟨_, rfl, HO.out, HV.out, HU.out⟩

end Go.Proofs.Ytoilkojegnfmfaa
