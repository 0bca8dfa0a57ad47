/- New of layer 13; and all its calls in one term. -/
import Derived.Test.YtoilkojegnfmfaaYn
namespace Dk
set_option linter.unusedSimpArgs false
set_option linter.unusedVariables false
set_option linter.unnecessarySimpa false
open Go Go.RowKit
theorem nRows_le (p : Int) : nRows p ≤ 64 := by unfold nRows; omega
theorem R0.blank {b : Nat} {V : Value} (ds : List (Nat × Value × List Int)) {n : Nat} (h : ds.map (fun d => d.2.2) = List.replicate n []) : R0 b (List.replicate n []) (boxOf b #[V] 44 :: rowOf 45 1 V ds.length (ptrs ds) :: dqs ds) := ⟨V, ds, h.symm, rfl⟩
end Dk
namespace Go.Proofs.Ytoilkojegnfmfaa
set_option linter.unusedSimpArgs false
set_option linter.unusedVariables false
set_option linter.unnecessarySimpa false
open Go.RowKit
theorem infoD : (Try.prog.info? 45).map (fun i => (i.zero, i.size, i.bytes)) = some (some (.pointer none), 1, 8) := by kernel_rfl
theorem KD : Dk.SlK Try.prog 42 45 (.pointer none) 1 8 := ⟨Try.underlying42, infoD, rfl, by decide, by decide⟩
set_option maxHeartbeats 1000000 in
theorem New_rows {W w : World} {us : List Dk.Thing} (s : Dk.Sep W w us) (p : Int) (hi : Dk.i64 p) : Calls Try.prog 6 #[.int .i64 p] w fun e w' => ∃ b ts, e = .returned (.pointer (some ⟨b, 0, none⟩)) ∧ Dk.R0 b (List.replicate (Dk.nRows p) []) ts ∧ Dk.Sep W w' (us ++ ts) := by
  have hn64 := Dk.nRows_le p
  have e2 : min (max p 0) 64 = ((Dk.nRows p : Nat) : Int) := by unfold Dk.nRows; omega
  generalize Dk.nRows p = n at hn64 e2 ⊢
  obtain ⟨w1, ew1⟩ : ∃ w1, w1 = w.alloc (.cells #[.slice none 0 0] 44) := ⟨_, rfl⟩
  have s1 := s.newBox ew1
  have H1 : Hid _ := ew1.symm
  have H2 : Hid _ := e2
  generalize hb : w.heap.size = b at s1
  clear ew1 e2
  go_enter Try.func6, Try.ntmps6
  go_wp2_with fail
  rw [H1.out, H2.out]
  have start : ∃ V ds, ds.length = 0 ∧ ds.map (fun d : Nat × Value × List Int => d.2.2) = List.replicate 0 [] ∧ Dk.Sep W w1 (us ++ (Dk.boxOf b #[V] 44 :: Dk.rowOf 45 1 V ds.length (Dk.ptrs ds) :: Dk.dqs ds)) := by
    refine ⟨.slice none 0 0, [], rfl, rfl, ?_⟩
    have q := (s1.add (t := Dk.rowOf 45 1 (.slice none 0 0) 0 []) (Below.refl _ _) (World.ownsRow_nil _ _ _ _) (fun k hk => by simp [Dk.rowOf, Value.ownBlock] at hk))
    refine q.perm ?_
    refine List.Perm.trans (List.Perm.swap _ _ _) ?_
    exact List.perm_append_comm (l₁ := [_, _])
  have HS : Hid _ := start
  clear start s1 s H1 H2 hi hb
  go_loopw [9] (fun i w' => ∃ k : Nat, k ≤ n ∧ i = .int .i64 k ∧ Hid (∃ V ds, ds.length = k ∧ ds.map (fun d : Nat × Value × List Int => d.2.2) = List.replicate k [] ∧ Dk.Sep W w' (us ++ (Dk.boxOf b #[V] 44 :: Dk.rowOf 45 1 V ds.length (Dk.ptrs ds) :: Dk.dqs ds)))) (fun i w' => n - (RowKit.intOf i).toNat)
  case atStart => exact ⟨0, Nat.zero_le _, rfl, HS.out⟩
  case round =>
    obtain ⟨k, hkn, rfl, HR⟩ := hrel
    obtain ⟨V, ds, hd1, hd2, hs⟩ := HR.out
    by_cases hlt : k < n
    · have s0 := hs.below (Dk.up_drew (Below.refl _ _))
      obtain ⟨A, C, eV, _, _⟩ := Dk.owns_slice (s0.row (e := 45) (s := 1) (v := V) (n := ds.length) (xs := Dk.ptrs ds) (by simp))
      rw [hd1] at eV
      have c0 : wr.drew.cell? ⟨b, 0, none⟩ = some (.slice A k C) := by rw [← eV]; exact (s0.box (b := b) (cs := #[V]) (t := 44) (by simp)).cell 0
      have KN := New_any wr.drew
      have fin : ∀ w2, Dk.DQ wr.drew.heap.size w2 wr.drew.heap.size (.slice none 0 0) [] → Below wr.drew.heap.size wr.drew w2 → ∃ A' n' C' w3, w2.cell? ⟨b, 0, none⟩ = some (.slice A k C) ∧ (w2.alloc (.cells #[.pointer (some ⟨wr.drew.heap.size, 0, none⟩)] 45)).cell? ⟨b, 0, none⟩ = some (.slice A k C) ∧
          (Builtin.append_ #[42, 42] 42 #[.slice A k C, .slice (some ⟨w2.heap.size, 0, none⟩) 1 1]).run Try.prog (w2.alloc (.cells #[.pointer (some ⟨wr.drew.heap.size, 0, none⟩)] 45)) = .ok (.slice A' n' C') w3 ∧
          w3.cell? ⟨b, 0, none⟩ = some (.slice A k C) ∧ w3.frozen? ⟨b, 0, none⟩ = false ∧
          ∃ V ds, ds.length = k + 1 ∧ ds.map (fun d : Nat × Value × List Int => d.2.2) = List.replicate (k + 1) [] ∧ Dk.Sep W (w3.setCell ⟨b, 0, none⟩ (.slice A' n' C')) (us ++ (Dk.boxOf b #[V] 44 :: Dk.rowOf 45 1 V ds.length (Dk.ptrs ds) :: Dk.dqs ds)) := by
        intro w2 hD u
        have t1 := s0.add (t := Dk.dqT wr.drew.heap.size (.slice none 0 0) []) u ⟨Nat.zero_le _, hD.head, World.ownsRow_nil _ _ _ _, hD.ne, hD.wf⟩ (fun j hj => hj.elim (fun e => by omega) (fun e => by simp [Value.ownBlock] at e))
        have b2 : w2.cell? ⟨b, 0, none⟩ = some (.slice A k C) := by rw [← eV]; exact (t1.box (b := b) (cs := #[V]) (t := 44) (by simp)).cell 0
        have t2 : Dk.Sep W w2 ((Dk.dqT wr.drew.heap.size (.slice none 0 0) [] :: us ++ [Dk.boxOf b #[V] 44]) ++ Dk.rowOf 45 1 V ds.length (Dk.ptrs ds) :: Dk.dqs ds) := by simpa using t1
        obtain ⟨v', w3, hr, t3, hne⟩ := Dk.Sep.append (ty := 42) (x := .pointer (some ⟨wr.drew.heap.size, 0, none⟩)) KD t2 rfl (by omega)
        obtain ⟨A', C', ev, _, _⟩ := Dk.owns_slice (t3.row (e := 45) (s := 1) (v := v') (n := ds.length + 1) (xs := Dk.ptrs ds ++ [.pointer (some ⟨wr.drew.heap.size, 0, none⟩)]) (by simp))
        have bx := t3.box (b := b) (cs := #[V]) (t := 44) (by simp)
        have t4 : Dk.Sep W w3 ((Dk.dqT wr.drew.heap.size (.slice none 0 0) [] :: us) ++ Dk.boxOf b #[V] 44 :: (Dk.rowOf 45 1 v' (ds.length + 1) (Dk.ptrs ds ++ [.pointer (some ⟨wr.drew.heap.size, 0, none⟩)]) :: Dk.dqs ds)) := by simpa using t3
        have t5 := t4.setBox (o := 0) v'
        subst ev
        refine ⟨A', _, C', w3, b2, Lib.cell?_alloc_some _ b2, by rw [← eV]; exact hr, by rw [← eV]; exact bx.cell 0, bx.frozen 0, .slice A' (ds.length + 1) C', ds ++ [(wr.drew.heap.size, .slice none 0 0, [])], by simp [hd1], by rw [List.map_append, hd2, List.replicate_succ']; rfl, ?_⟩
        have eL : us ++ (Dk.boxOf b #[.slice A' (ds.length + 1) C'] 44 :: Dk.rowOf 45 1 (.slice A' (ds.length + 1) C') (ds ++ [(wr.drew.heap.size, Value.slice none 0 0, ([] : List Int))]).length (Dk.ptrs (ds ++ [(wr.drew.heap.size, Value.slice none 0 0, [])])) :: Dk.dqs (ds ++ [(wr.drew.heap.size, Value.slice none 0 0, [])])) =
            (us ++ (Dk.boxOf b #[.slice A' (ds.length + 1) C'] 44 :: Dk.rowOf 45 1 (.slice A' (ds.length + 1) C') (ds.length + 1) (Dk.ptrs ds ++ [.pointer (some ⟨wr.drew.heap.size, 0, none⟩)]) :: Dk.dqs ds)) ++ [Dk.dqT wr.drew.heap.size (.slice none 0 0) []] := by simp [Dk.dqs, Dk.ptrs]
        rw [eL]
        exact t5.perm (List.perm_append_comm (l₁ := [_]))
      have HF : Hid _ := fin
      have ew : wr.drew.heap.size = wr.heap.size := rfl
      generalize wr.drew.heap.size = nb at *
      clear fin hs s0 hd1 hd2 HR eV
      go_wp2_with fail
      refine Dk.wp_region_lineZ (z := 10) (S := fun w' => w'.cell? ⟨b, 0, none⟩ = some (.slice A k C)) [0, 1, 2, 3, 4] [5, 6, 7, 8, 9, 10] (by kernel_rfl) (by kernel_rfl) (by kernel_rfl) c0 ?_
      refine Dk.held_step (v := .pointer (some ⟨b, 0, none⟩)) rfl rfl (fun w' hw' => by go_simp) ?_
      simp only [Act.put, List.setIfInBounds_toArray, List.set_cons_succ, List.set_cons_zero]
      refine Dk.held_step (v := .pointer (some ⟨b, 0, none⟩)) rfl rfl (fun w' hw' => by go_simp) ?_
      simp only [Act.put, List.setIfInBounds_toArray, List.set_cons_succ, List.set_cons_zero]
      refine Dk.held_step (v := .pointer (some ⟨b, 0, none⟩)) rfl rfl (fun w' hw' => by go_simp) ?_
      simp only [Act.put, List.setIfInBounds_toArray, List.set_cons_succ, List.set_cons_zero]
      refine Dk.held_step (v := .pointer (some ⟨b, 0, none⟩)) rfl rfl (fun w' hw' => by go_simp) ?_
      simp only [Act.put, List.setIfInBounds_toArray, List.set_cons_succ, List.set_cons_zero]
      refine Dk.held_step (v := .slice A k C) rfl rfl (fun w' hw' => by go_simp) ?_
      simp only [Act.put, List.setIfInBounds_toArray, List.set_cons_succ, List.set_cons_zero]
      refine Dk.lineZ_call (f := 16) (args := #[]) rfl rfl (by go_simp) ?_
      refine KN.mono ?_
      rintro e w2 ⟨rfl, hD, u, hzz⟩
      clear hzz
      obtain ⟨A', n', C', w3, b2, b2', hr, b3, f3, hfin⟩ := HF.out w2 hD u
      have HE : Hid _ := hfin
      have HR3 : Hid _ := hr
      clear hfin hD u KN HF hr c0
      refine ⟨_, rfl, fun _ => b2, ?_⟩
      simp only [Act.put, List.setIfInBounds_toArray, List.set_cons_succ, List.set_cons_zero]
      obtain ⟨w2a, e2a⟩ : ∃ w2a, w2a = w2.alloc (.cells #[.pointer (some ⟨nb, 0, none⟩)] 45) := ⟨_, rfl⟩
      rw [← e2a] at b2'
      refine Dk.lineZ_step (v := .slice (some ⟨w2.heap.size, 0, none⟩) 1 1) (w' := w2a) rfl rfl (by rw [e2a]; go_simp) (fun _ => b2') ?_
      simp only [Act.put, List.setIfInBounds_toArray, List.set_cons_succ, List.set_cons_zero]
      have r3 := HR3.out
      rw [← e2a] at r3
      refine Dk.lineZ_step (v := .slice A' n' C') (w' := w3) rfl rfl (by simp only [execOp, resolve, invoke, builtin]; simp [Act.eval, r3]) (fun _ => b3) ?_
      simp only [Act.put, List.setIfInBounds_toArray, List.set_cons_succ, List.set_cons_zero]
      refine Dk.lineZ_step (v := .pointer (some ⟨b, 0, none⟩)) (w' := w3) rfl rfl (by go_simp) (fun _ => b3) ?_
      simp only [Act.put, List.setIfInBounds_toArray, List.set_cons_succ, List.set_cons_zero]
      refine Dk.lineZ_step (v := .pointer (some ⟨b, 0, none⟩)) (w' := w3) rfl rfl (by go_simp) (fun _ => b3) ?_
      simp only [Act.put, List.setIfInBounds_toArray, List.set_cons_succ, List.set_cons_zero]
      refine Dk.lineZ_skip (w' := w3.setCell ⟨b, 0, none⟩ (.slice A' n' C')) rfl rfl (by go_simp) (fun h => absurd rfl h) ?_
      simp only [Act.put, List.setIfInBounds_toArray, List.set_cons_succ, List.set_cons_zero]
      rename_i hK
      refine hK _ _ ?_
      clear hK r3 e2a HR3 b2' b2 b3 f3
      go_wp2_with fail
      go_roundw
      case rel => exact ⟨k + 1, by omega, by go_num, HE.out⟩
      case measure => simp [RowKit.intOf]; omega
    · obtain rfl : k = n := by omega
      have HL : Hid _ := Dk.R0.blank (b := b) (V := V) ds hd2
      have HZ : Hid _ := hs
      clear hs hd1 hd2 HR
      go_wp2
      go_ret
      exact ⟨b, _, rfl, HL.out, HZ.out⟩
theorem rowsR : RowsI Dk.R0 := {
  new := fun s p hp => New_rows s p hp
  add := fun hR s hF hN p t _ ht => Add_any hR s hF hN p t ht
  pick := fun hR s hF hN p _ => Pick_any hR s hF hN p
  where_ := fun {_ w _ _ rs _ ts} hR s hF hN t _ => (Where_any hR s hF hN t).mono fun e w' h => ⟨Dk.whereT rs t, h.1, fun hl => by unfold Dk.whereT; rw [if_pos hl], by
    have h1 := hF.rows
    unfold Dk.whereT Dk.i64
    split <;> omega, ts, hR, s.below h.2⟩
  empty := fun {_ _ _ _ _ _ ts} hR s hF hN => (Empty_any hR s hF hN).mono fun e w' h => ⟨h.1, ts, hR, s.below h.2⟩
  row := fun hR s hF hN p _ => Row_any hR s hF hN p
  add_nil := fun w p t => (Add_nil p t w).mono fun e w' h => ⟨h.1, by rw [h.2]; exact Below.refl _ _⟩
  pick_nil := fun w p => (Pick_nil p w).mono fun e w' h => ⟨h.1, by rw [h.2]; exact Below.refl _ _⟩
  where_nil := fun w t => (Where_nil t w).mono fun e w' h => ⟨⟨0, h.1⟩, by rw [h.2]; exact Below.refl _ _⟩
  empty_nil := fun w => (Empty_nil w).mono fun e w' h => ⟨h.1, by rw [h.2]; exact Below.refl _ _⟩
  row_nil := fun w p => (Row_nil p w).mono fun e w' h => ⟨⟨none, 0, h.1⟩, by rw [h.2]; exact Below.refl _ _⟩ }
end Go.Proofs.Ytoilkojegnfmfaa
