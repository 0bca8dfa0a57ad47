/- So many of each: the document's answer begins. -/
import Derived.Test.YtjkdaankjondjaaGb
import Derived.Deep.CutRange
import Derived.Test.YtjkdaankjondjaaLm
namespace Go.Proofs.Ytjkdaankjondjaa
set_option linter.unusedSimpArgs false
set_option linter.unusedVariables false
set_option linter.unnecessarySimpa false
open Go.RowKit
abbrev tB (bm : Nat) (v0 v1 v2 v3 v4 v5 : Value) : Dk.Thing := Dk.boxOf bm #[v0, v1, v2, v3, v4, v5] 37
abbrev tO (mutexes : Int) (v : Value) : Dk.Thing := Dk.rowOf 3 1 v (List.replicate (Dk.lim mutexes) (0 : Int)).length (Dk.is (List.replicate (Dk.lim mutexes) (0 : Int)))
abbrev tH (mutexes : Int) (v : Value) : Dk.Thing := Dk.rowOf 4 1 v (List.replicate (Dk.lim mutexes) false).length (Dk.bv (List.replicate (Dk.lim mutexes) false))
abbrev tW (mutexes : Int) (v : Value) (hv : List Value) : Dk.Thing := Dk.nestOf 22 3 1 Dk.is v hv (List.replicate (Dk.lim mutexes) ([] : List Int))
abbrev tC (n : Nat) (v : Value) (cv : List Value) : Dk.Thing := Dk.nestOf 38 40 2 Dk.pr2 v cv (List.replicate n ([] : List (Int × Int)))
abbrev tR (ct : List Int) (v : Value) : Dk.Thing := Dk.rowOf 3 1 v ct.length (Dk.is ct)
abbrev tD (dn : List (List Int)) (v : Value) (dv : List Value) : Dk.Thing := Dk.nestOf 22 3 1 Dk.is v dv dn
section
variable {W w : World} {us : List Dk.Thing}
set_option maxRecDepth 100000 in
set_option maxHeartbeats 64000000 in
theorem begin_t (h : Dk.Sep W w us) (mutexes conds : Int) (A : Option Addr) (L C : Nat) (xs : List Int) (hs : Dk.SlI W.heap.size W A L C xs) :
    Calls Try.prog 9 #[.int .i64 mutexes, .int .i64 conds, .slice A L C] w fun e w' => ∃ bm V, e = .returned (.pointer (some ⟨bm, 0, none⟩)) ∧ Dk.Sep W w' (Dk.mdl bm V ⟨List.replicate (Dk.lim mutexes) 0, List.replicate (Dk.lim mutexes) false, List.replicate (Dk.lim mutexes) [], List.replicate (Dk.lim conds) [], (xs.take 4).map Dk.cl, List.replicate (min L 4) []⟩ ++ us) := by
  have HX : Hid (Dk.SlI W.heap.size W A L C xs) := hs
  have HSL : Hid (xs.length = L) := hs.len
  have hmxs := hs.max
  have hcaps := hs.cap
  unfold maxLen at hmxs
  clear hs
  obtain ⟨bm, ebm⟩ : ∃ bm, w.heap.size = bm := ⟨_, rfl⟩
  obtain ⟨W1, e1⟩ : ∃ W1, W1 = w.alloc (.cells #[.slice none 0 0, .slice none 0 0, .slice none 0 0, .slice none 0 0, .slice none 0 0, .slice none 0 0] 37) := ⟨_, rfl⟩
  have H1 : Hid (w.alloc (.cells #[.slice none 0 0, .slice none 0 0, .slice none 0 0, .slice none 0 0, .slice none 0 0, .slice none 0 0] 37) = W1) := e1.symm
  have HBM : Hid (w.heap.size = bm) := ebm
  have t0 : Dk.Sep W W1 (Dk.mdl bm ⟨.slice none 0 0, .slice none 0 0, .slice none 0 0, .slice none 0 0, .slice none 0 0, .slice none 0 0, [], [], []⟩ ⟨[], [], [], [], [], []⟩ ++ us) := by
    have q0 := h.add (t := Dk.nestOf 22 3 1 Dk.is (.slice none 0 0) [] []) (Below.refl _ _) ⟨World.ownsRow_nil _ _ _ _, rfl, fun i u xs hu => by simp at hu, List.pairwise_singleton _ _⟩ (fun k hk => by rcases hk with hk | ⟨u, hu, _⟩ <;> simp_all [Value.ownBlock])
    have q1 := q0.add (t := Dk.rowOf 3 1 (.slice none 0 0) 0 (Dk.is [])) (Below.refl _ _) (World.ownsRow_nil _ _ _ _) (fun k hk => by simp [Dk.rowOf, Value.ownBlock] at hk)
    have q2 := q1.add (t := Dk.nestOf 38 40 2 Dk.pr2 (.slice none 0 0) [] []) (Below.refl _ _) ⟨World.ownsRow_nil _ _ _ _, rfl, fun i u xs hu => by simp at hu, List.pairwise_singleton _ _⟩ (fun k hk => by rcases hk with hk | ⟨u, hu, _⟩ <;> simp_all [Value.ownBlock])
    have q3 := q2.add (t := Dk.nestOf 22 3 1 Dk.is (.slice none 0 0) [] []) (Below.refl _ _) ⟨World.ownsRow_nil _ _ _ _, rfl, fun i u xs hu => by simp at hu, List.pairwise_singleton _ _⟩ (fun k hk => by rcases hk with hk | ⟨u, hu, _⟩ <;> simp_all [Value.ownBlock])
    have q4 := q3.add (t := Dk.rowOf 4 1 (.slice none 0 0) 0 (Dk.bv [])) (Below.refl _ _) (World.ownsRow_nil _ _ _ _) (fun k hk => by simp [Dk.rowOf, Value.ownBlock] at hk)
    have q5 := q4.add (t := Dk.rowOf 3 1 (.slice none 0 0) 0 (Dk.is [])) (Below.refl _ _) (World.ownsRow_nil _ _ _ _) (fun k hk => by simp [Dk.rowOf, Value.ownBlock] at hk)
    rw [← ebm]
    exact q5.newBox e1
  clear e1 ebm
  go_enter Try.func9, Try.ntmps9
  go_wp2_with (rw [H1.out, HBM.out]; clear H1)
  go_loopw [8] (fun i w' => ∃ (j : Nat) (V : Dk.Vs), j ≤ Dk.lim mutexes ∧ i = .int .i64 j ∧ Dk.Sep W w' (Dk.mdl bm V ⟨List.replicate j 0, List.replicate j false, List.replicate j [], [], [], []⟩ ++ us)) (fun i w' => Dk.lim mutexes - (intOf i).toNat)
  case atStart => exact ⟨0, _, Nat.zero_le _, rfl, t0⟩
  case round =>
    obtain ⟨j, V, hj, rfl, hT⟩ := hrel
    clear t0
    by_cases hlt : j < Dk.lim mutexes
    · have hl2 := (Dk.lim_lt mutexes j).1 hlt
      have y1 : decide ((j : Int) < mutexes) = true := decide_eq_true hl2.1
      have y2 : decide ((j : Int) < 4) = true := decide_eq_true (by omega)
      have y3 : decide (j < 4) = true := decide_eq_true (by omega)
      obtain ⟨O, eO⟩ : ∃ O : List Int, O = List.replicate j 0 := ⟨_, rfl⟩
      obtain ⟨Hd, eHd⟩ : ∃ Hd : List Bool, Hd = List.replicate j false := ⟨_, rfl⟩
      obtain ⟨Wt, eWt⟩ : ∃ Wt : List (List Int), Wt = List.replicate j [] := ⟨_, rfl⟩
      obtain ⟨Cd, eCd⟩ : ∃ Cd : List (List (Int × Int)), Cd = [] := ⟨_, rfl⟩
      obtain ⟨Ct, eCt⟩ : ∃ Ct : List Int, Ct = [] := ⟨_, rfl⟩
      obtain ⟨Dn, eDn⟩ : ∃ Dn : List (List Int), Dn = [] := ⟨_, rfl⟩
      rw [← eO, ← eHd, ← eWt, ← eCd, ← eCt, ← eDn] at hT
      have lO : O.length ≤ 4 := by rw [eO, List.length_replicate]; omega
      have lH : Hd.length ≤ 4 := by rw [eHd, List.length_replicate]; omega
      have lW : Wt.length ≤ 4 := by rw [eWt, List.length_replicate]; omega
      obtain ⟨v0, v1, v2, v3, v4, v5, hv, cv, dv⟩ := V
      obtain ⟨A0, C0, E0, _, _⟩ := Dk.owns_slice (Dk.Mdl.owner hT)
      obtain ⟨A1, C1, E1, _, _⟩ := Dk.owns_slice (Dk.Mdl.held hT)
      obtain ⟨A2, C2, E2, _, _⟩ := hT.nestLen (eh := 22) (e := 3) (s := 1) (f := Dk.is) (v := v2) (vs := hv) (xss := Wt) (by simp [Dk.mdl])
      simp only at E0 E1 E2
      subst E0 E1 E2
      obtain ⟨L0, eL0⟩ : ∃ L0, L0 = O.length := ⟨_, rfl⟩
      obtain ⟨L1, eL1⟩ : ∃ L1, L1 = Hd.length := ⟨_, rfl⟩
      obtain ⟨L2, eL2⟩ : ∃ L2, L2 = Wt.length := ⟨_, rfl⟩
      have sd : Dk.Sep W wr.drew (Dk.boxOf bm #[.slice A0 L0 C0, .slice A1 L1 C1, .slice A2 L2 C2, v3, v4, v5] 37 :: Dk.rowOf 3 1 (.slice A0 L0 C0) O.length (Dk.is O) :: Dk.rowOf 4 1 (.slice A1 L1 C1) Hd.length (Dk.bv Hd) :: Dk.nestOf 22 3 1 Dk.is (.slice A2 L2 C2) hv Wt :: Dk.nestOf 38 40 2 Dk.pr2 v3 cv Cd :: Dk.rowOf 3 1 v4 Ct.length (Dk.is Ct) :: Dk.nestOf 22 3 1 Dk.is v5 dv Dn :: us) := by
        rw [eL0, eL1, eL2]
        exact hT.below (Dk.up_drew (Below.refl _ _))
      have fx : ∀ (ts : List Dk.Thing) (w : World), Dk.Sep W w ts → Dk.boxOf bm #[.slice A0 L0 C0, .slice A1 L1 C1, .slice A2 L2 C2, v3, v4, v5] 37 ∈ ts → (fun w' : World => w'.cell? ⟨bm, 0, none⟩ = some (.slice A0 L0 C0) ∧ w'.cell? ⟨bm, 1, none⟩ = some (.slice A1 L1 C1) ∧ w'.cell? ⟨bm, 2, none⟩ = some (.slice A2 L2 C2)) w := fun ts w hh hm => by
        have hb := hh.box hm
        exact ⟨hb.cell 0, hb.cell 1, hb.cell 2⟩
      have HS : Hid ((fun w' : World => w'.cell? ⟨bm, 0, none⟩ = some (.slice A0 L0 C0) ∧ w'.cell? ⟨bm, 1, none⟩ = some (.slice A1 L1 C1) ∧ w'.cell? ⟨bm, 2, none⟩ = some (.slice A2 L2 C2)) wr.drew) := fx _ _ sd (by simp)
      clear hT
      go_wp2_with fail
      refine Dk.wp_region_tree (S := fun w' : World => w'.cell? ⟨bm, 0, none⟩ = some (.slice A0 L0 C0) ∧ w'.cell? ⟨bm, 1, none⟩ = some (.slice A1 L1 C1) ∧ w'.cell? ⟨bm, 2, none⟩ = some (.slice A2 L2 C2)) [1, 2] [0, 3, 4, 5, 6, 9, 10, 11, 12, 15, 16, 17, 18] [1, 2, 21, 22, 23, 24, 25, 26, 27, 28, 29] 15 (by kernel_rfl) (by kernel_rfl) (by kernel_rfl) (by kernel_rfl) rfl HS.out _ ?_ (fun a' h => h)
      refine Dk.held_step (v := .pointer (some ⟨bm, 0, none⟩)) rfl rfl (fun w' hw' => by go_simp) ?_
      simp only [Act.put, List.setIfInBounds_toArray, List.set_cons_succ, List.set_cons_zero]
      refine Dk.held_step (v := .pointer (some ⟨bm, 0, none⟩)) rfl rfl (fun w' hw' => by go_simp) ?_
      simp only [Act.put, List.setIfInBounds_toArray, List.set_cons_succ, List.set_cons_zero]
      refine Dk.held_step (v := .pointer (some ⟨bm, 0, none⟩)) rfl rfl (fun w' hw' => by obtain ⟨q0, q1, q2⟩ := hw'; go_simp) ?_
      simp only [Act.put, List.setIfInBounds_toArray, List.set_cons_succ, List.set_cons_zero]
      refine Dk.held_step (v := .pointer (some ⟨bm, 0, none⟩)) rfl rfl (fun w' hw' => by obtain ⟨q0, q1, q2⟩ := hw'; go_simp) ?_
      simp only [Act.put, List.setIfInBounds_toArray, List.set_cons_succ, List.set_cons_zero]
      refine Dk.held_step (v := .pointer (some ⟨bm, 0, none⟩)) rfl rfl (fun w' hw' => by obtain ⟨q0, q1, q2⟩ := hw'; go_simp) ?_
      simp only [Act.put, List.setIfInBounds_toArray, List.set_cons_succ, List.set_cons_zero]
      refine Dk.held_step (v := .pointer (some ⟨bm, 0, none⟩)) rfl rfl (fun w' hw' => by obtain ⟨q0, q1, q2⟩ := hw'; go_simp) ?_
      simp only [Act.put, List.setIfInBounds_toArray, List.set_cons_succ, List.set_cons_zero]
      refine Dk.held_step (v := .slice A0 L0 C0) rfl rfl (fun w' hw' => by obtain ⟨q0, q1, q2⟩ := hw'; go_simp) ?_
      simp only [Act.put, List.setIfInBounds_toArray, List.set_cons_succ, List.set_cons_zero]
      refine Dk.held_step (v := .pointer (some ⟨bm, 0, none⟩)) rfl rfl (fun w' hw' => by obtain ⟨q0, q1, q2⟩ := hw'; go_simp) ?_
      simp only [Act.put, List.setIfInBounds_toArray, List.set_cons_succ, List.set_cons_zero]
      refine Dk.held_step (v := .pointer (some ⟨bm, 0, none⟩)) rfl rfl (fun w' hw' => by obtain ⟨q0, q1, q2⟩ := hw'; go_simp) ?_
      simp only [Act.put, List.setIfInBounds_toArray, List.set_cons_succ, List.set_cons_zero]
      refine Dk.held_step (v := .pointer (some ⟨bm, 1, none⟩)) rfl rfl (fun w' hw' => by obtain ⟨q0, q1, q2⟩ := hw'; go_simp) ?_
      simp only [Act.put, List.setIfInBounds_toArray, List.set_cons_succ, List.set_cons_zero]
      refine Dk.held_step (v := .slice A1 L1 C1) rfl rfl (fun w' hw' => by obtain ⟨q0, q1, q2⟩ := hw'; go_simp) ?_
      simp only [Act.put, List.setIfInBounds_toArray, List.set_cons_succ, List.set_cons_zero]
      refine Dk.held_step (v := .pointer (some ⟨bm, 0, none⟩)) rfl rfl (fun w' hw' => by obtain ⟨q0, q1, q2⟩ := hw'; go_simp) ?_
      simp only [Act.put, List.setIfInBounds_toArray, List.set_cons_succ, List.set_cons_zero]
      refine Dk.held_step (v := .pointer (some ⟨bm, 0, none⟩)) rfl rfl (fun w' hw' => by obtain ⟨q0, q1, q2⟩ := hw'; go_simp) ?_
      simp only [Act.put, List.setIfInBounds_toArray, List.set_cons_succ, List.set_cons_zero]
      refine Dk.held_step (v := .pointer (some ⟨bm, 2, none⟩)) rfl rfl (fun w' hw' => by obtain ⟨q0, q1, q2⟩ := hw'; go_simp) ?_
      simp only [Act.put, List.setIfInBounds_toArray, List.set_cons_succ, List.set_cons_zero]
      refine Dk.held_step (v := .slice A2 L2 C2) rfl rfl (fun w' hw' => by obtain ⟨q0, q1, q2⟩ := hw'; go_simp) ?_
      simp only [Act.put, List.setIfInBounds_toArray, List.set_cons_succ, List.set_cons_zero]
      generalize wr.drew = Wd at *
      refine Dk.nameY ?_
      intro a0 hA
      refine Dk.cutY (T := fun a w => ∃ (x30 x36 x42 : Value) (aa0 : Option Addr) (l0 c0 : Nat) (aa1 : Option Addr) (l1 c1 : Nat) (aa2 : Option Addr) (l2 c2 : Nat), a = ((((((a0.put (some 30) x30).put (some 31) (.slice aa0 l0 c0)).put (some 36) x36).put (some 37) (.slice aa1 l1 c1)).put (some 42) x42).put (some 43) (.slice aa2 l2 c2)) ∧ Dk.Sep W w (Dk.boxOf bm #[.slice A0 L0 C0, .slice A1 L1 C1, .slice A2 L2 C2, v3, v4, v5] 37 :: Dk.rowOf 3 1 (.slice aa0 l0 c0) (O.length + 1) (Dk.is O ++ [.int .i64 0]) :: Dk.rowOf 4 1 (.slice aa1 l1 c1) (Hd.length + 1) (Dk.bv Hd ++ [.bool false]) :: Dk.nestOf 22 3 1 Dk.is (.slice aa2 l2 c2) (hv ++ [.slice none 0 0]) (Wt ++ [[]]) :: Dk.nestOf 38 40 2 Dk.pr2 v3 cv Cd :: Dk.rowOf 3 1 v4 Ct.length (Dk.is Ct) :: Dk.nestOf 22 3 1 Dk.is v5 dv Dn :: us)) (js := [21, 22, 23, 24, 25, 26, 27, 28, 29]) ?_ 6 _ _ _ ?_
      · rintro a w6 ⟨x30, x36, x42, aa0, l0, c0, aa1, l1, c1, aa2, l2, c2, rfl, s6⟩
        rw [← hA]
        simp only [Act.put, List.setIfInBounds_toArray, List.set_cons_succ, List.set_cons_zero]
        have k0 : w6.cell? ⟨bm, 0, none⟩ = some (.slice A0 L0 C0) := (s6.box (b := bm) (cs := #[.slice A0 L0 C0, .slice A1 L1 C1, .slice A2 L2 C2, v3, v4, v5]) (t := 37) (by simp)).cell 0
        have f0 : w6.frozen? ⟨bm, 0, none⟩ = false := (s6.box (b := bm) (cs := #[.slice A0 L0 C0, .slice A1 L1 C1, .slice A2 L2 C2, v3, v4, v5]) (t := 37) (by simp)).frozen 0
        obtain ⟨w7, g0⟩ : ∃ w7, w7 = w6.setCell ⟨bm, 0, none⟩ (.slice aa0 l0 c0) := ⟨_, rfl⟩
        have s7 : Dk.Sep W w7 (Dk.boxOf bm #[.slice aa0 l0 c0, .slice A1 L1 C1, .slice A2 L2 C2, v3, v4, v5] 37 :: Dk.rowOf 3 1 (.slice aa0 l0 c0) (O.length + 1) (Dk.is O ++ [.int .i64 0]) :: Dk.rowOf 4 1 (.slice aa1 l1 c1) (Hd.length + 1) (Dk.bv Hd ++ [.bool false]) :: Dk.nestOf 22 3 1 Dk.is (.slice aa2 l2 c2) (hv ++ [.slice none 0 0]) (Wt ++ [[]]) :: Dk.nestOf 38 40 2 Dk.pr2 v3 cv Cd :: Dk.rowOf 3 1 v4 Ct.length (Dk.is Ct) :: Dk.nestOf 22 3 1 Dk.is v5 dv Dn :: us) := by
          rw [g0]
          exact Dk.Sep.setBox (us1 := []) (o := 0) s6 (.slice aa0 l0 c0)
        refine Dk.lineY_step (v := .pointer (some ⟨bm, 0, none⟩)) (w' := w6) (some 44) rfl rfl rfl (by go_simp) (fun h => absurd (by decide) h) ?_
        simp only [Act.put, List.setIfInBounds_toArray, List.set_cons_succ, List.set_cons_zero]
        refine Dk.lineY_step (v := .pointer (some ⟨bm, 0, none⟩)) (w' := w6) (some 45) rfl rfl rfl (by go_simp) (fun h => absurd (by decide) h) ?_
        simp only [Act.put, List.setIfInBounds_toArray, List.set_cons_succ, List.set_cons_zero]
        refine Dk.lineY_skip (w' := w7) none rfl rfl rfl (by rw [g0]; go_simp) (fun h => absurd (by decide) h) ?_
        simp only [Act.put, List.setIfInBounds_toArray, List.set_cons_succ, List.set_cons_zero]
        clear k0 f0 g0 s6
        have k1 : w7.cell? ⟨bm, 1, none⟩ = some (.slice A1 L1 C1) := (s7.box (b := bm) (cs := #[.slice aa0 l0 c0, .slice A1 L1 C1, .slice A2 L2 C2, v3, v4, v5]) (t := 37) (by simp)).cell 1
        have f1 : w7.frozen? ⟨bm, 1, none⟩ = false := (s7.box (b := bm) (cs := #[.slice aa0 l0 c0, .slice A1 L1 C1, .slice A2 L2 C2, v3, v4, v5]) (t := 37) (by simp)).frozen 1
        obtain ⟨w8, g1⟩ : ∃ w8, w8 = w7.setCell ⟨bm, 1, none⟩ (.slice aa1 l1 c1) := ⟨_, rfl⟩
        have s8 : Dk.Sep W w8 (Dk.boxOf bm #[.slice aa0 l0 c0, .slice aa1 l1 c1, .slice A2 L2 C2, v3, v4, v5] 37 :: Dk.rowOf 3 1 (.slice aa0 l0 c0) (O.length + 1) (Dk.is O ++ [.int .i64 0]) :: Dk.rowOf 4 1 (.slice aa1 l1 c1) (Hd.length + 1) (Dk.bv Hd ++ [.bool false]) :: Dk.nestOf 22 3 1 Dk.is (.slice aa2 l2 c2) (hv ++ [.slice none 0 0]) (Wt ++ [[]]) :: Dk.nestOf 38 40 2 Dk.pr2 v3 cv Cd :: Dk.rowOf 3 1 v4 Ct.length (Dk.is Ct) :: Dk.nestOf 22 3 1 Dk.is v5 dv Dn :: us) := by
          rw [g1]
          exact Dk.Sep.setBox (us1 := []) (o := 1) s7 (.slice aa1 l1 c1)
        refine Dk.lineY_step (v := .pointer (some ⟨bm, 0, none⟩)) (w' := w7) (some 46) rfl rfl rfl (by go_simp) (fun h => absurd (by decide) h) ?_
        simp only [Act.put, List.setIfInBounds_toArray, List.set_cons_succ, List.set_cons_zero]
        refine Dk.lineY_step (v := .pointer (some ⟨bm, 1, none⟩)) (w' := w7) (some 47) rfl rfl rfl (by go_simp) (fun h => absurd (by decide) h) ?_
        simp only [Act.put, List.setIfInBounds_toArray, List.set_cons_succ, List.set_cons_zero]
        refine Dk.lineY_skip (w' := w8) none rfl rfl rfl (by rw [g1]; go_simp) (fun h => absurd (by decide) h) ?_
        simp only [Act.put, List.setIfInBounds_toArray, List.set_cons_succ, List.set_cons_zero]
        clear k1 f1 g1 s7
        have k2 : w8.cell? ⟨bm, 2, none⟩ = some (.slice A2 L2 C2) := (s8.box (b := bm) (cs := #[.slice aa0 l0 c0, .slice aa1 l1 c1, .slice A2 L2 C2, v3, v4, v5]) (t := 37) (by simp)).cell 2
        have f2 : w8.frozen? ⟨bm, 2, none⟩ = false := (s8.box (b := bm) (cs := #[.slice aa0 l0 c0, .slice aa1 l1 c1, .slice A2 L2 C2, v3, v4, v5]) (t := 37) (by simp)).frozen 2
        obtain ⟨w9, g2⟩ : ∃ w9, w9 = w8.setCell ⟨bm, 2, none⟩ (.slice aa2 l2 c2) := ⟨_, rfl⟩
        have s9 : Dk.Sep W w9 (Dk.boxOf bm #[.slice aa0 l0 c0, .slice aa1 l1 c1, .slice aa2 l2 c2, v3, v4, v5] 37 :: Dk.rowOf 3 1 (.slice aa0 l0 c0) (O.length + 1) (Dk.is O ++ [.int .i64 0]) :: Dk.rowOf 4 1 (.slice aa1 l1 c1) (Hd.length + 1) (Dk.bv Hd ++ [.bool false]) :: Dk.nestOf 22 3 1 Dk.is (.slice aa2 l2 c2) (hv ++ [.slice none 0 0]) (Wt ++ [[]]) :: Dk.nestOf 38 40 2 Dk.pr2 v3 cv Cd :: Dk.rowOf 3 1 v4 Ct.length (Dk.is Ct) :: Dk.nestOf 22 3 1 Dk.is v5 dv Dn :: us) := by
          rw [g2]
          exact Dk.Sep.setBox (us1 := []) (o := 2) s8 (.slice aa2 l2 c2)
        refine Dk.lineY_step (v := .pointer (some ⟨bm, 0, none⟩)) (w' := w8) (some 48) rfl rfl rfl (by go_simp) (fun h => absurd (by decide) h) ?_
        simp only [Act.put, List.setIfInBounds_toArray, List.set_cons_succ, List.set_cons_zero]
        refine Dk.lineY_step (v := .pointer (some ⟨bm, 2, none⟩)) (w' := w8) (some 49) rfl rfl rfl (by go_simp) (fun h => absurd (by decide) h) ?_
        simp only [Act.put, List.setIfInBounds_toArray, List.set_cons_succ, List.set_cons_zero]
        refine Dk.lineY_skip (w' := w9) none rfl rfl rfl (by rw [g2]; go_simp) (fun h => absurd (by decide) h) ?_
        simp only [Act.put, List.setIfInBounds_toArray, List.set_cons_succ, List.set_cons_zero]
        clear k2 f2 g2 s8
        rename ∀ (_ : Act) (_ : World), Code.wp _ _ _ _ _ → _ => hK
        refine hK _ _ ?_
        clear hK HS sd fx
        have hfin : Dk.Sep W w9 (Dk.mdl bm ⟨.slice aa0 l0 c0, .slice aa1 l1 c1, .slice aa2 l2 c2, v3, v4, v5, hv ++ [.slice none 0 0], cv, dv⟩ ⟨List.replicate (j + 1) 0, List.replicate (j + 1) false, List.replicate (j + 1) [], [], [], []⟩ ++ us) := by
          subst eCd eCt eDn
          rw [List.replicate_succ', List.replicate_succ', List.replicate_succ', ← eO, ← eHd, ← eWt]
          unfold Dk.mdl
          simp only [List.length_append, Dk.is, Dk.bv, List.map_append]
          exact s9
        clear eO eHd eWt eCd eCt eDn eL0 eL1 eL2
        go_wp2_with fail
        go_roundw
        case rel => exact ⟨j + 1, _, by omega, by go_num, hfin⟩
        case measure => simp [intOf]; omega
      · refine Dk.nodeT (rs := [7, 13, 19]) (by kernel_rfl) (by simp) ?_
        intro i hi
        simp only [List.mem_cons, List.not_mem_nil, or_false] at hi
        rcases hi with rfl | rfl | rfl
        · obtain ⟨w1, e1⟩ : ∃ w1, w1 = Wd.alloc (.cells #[.int .i64 0] 3) := ⟨_, rfl⟩
          have s1 := sd.newBox e1
          refine Dk.op_value (v := .slice (some ⟨Wd.heap.size, 0, none⟩) 1 1) (w' := w1) (some 30) rfl rfl rfl (by rw [← hA]; (try simp only [Act.put, List.setIfInBounds_toArray, List.set_cons_succ, List.set_cons_zero]); rw [e1]; go_simp) ⟨fun _ => fx _ _ s1 (by simp), ?_⟩
          refine Dk.nodeT (rs := [8, 13, 19]) (by kernel_rfl) (by simp) ?_
          intro i hi
          simp only [List.mem_cons, List.not_mem_nil, or_false] at hi
          rcases hi with rfl | rfl | rfl
          · have hb2 : Dk.Box w1 Wd.heap.size #[.int .i64 0] 3 := s1.box (by simp)
            obtain ⟨aa0, l0, c0, w2, r2, s2⟩ := Dk.Sep.appendBox (us1 := [Dk.boxOf Wd.heap.size #[.int .i64 0] 3, Dk.boxOf bm #[.slice A0 L0 C0, .slice A1 L1 C1, .slice A2 L2 C2, v3, v4, v5] 37]) (us2 := Dk.rowOf 4 1 (.slice A1 L1 C1) Hd.length (Dk.bv Hd) :: Dk.nestOf 22 3 1 Dk.is (.slice A2 L2 C2) hv Wt :: Dk.nestOf 38 40 2 Dk.pr2 v3 cv Cd :: Dk.rowOf 3 1 v4 Ct.length (Dk.is Ct) :: Dk.nestOf 22 3 1 Dk.is v5 dv Dn :: us) K22 s1 hb2 rfl (by omega)
            refine Dk.op_value (v := .slice aa0 l0 c0) (w' := w2) (some 31) rfl rfl rfl (by rw [← hA]; (try simp only [Act.put, List.setIfInBounds_toArray, List.set_cons_succ, List.set_cons_zero]); simp only [execOp, resolve, invoke, builtin]; simp [Act.eval, r2]) ⟨fun _ => fx _ _ s2 (by simp), ?_⟩
            refine Dk.nodeT (rs := [13, 19]) (by kernel_rfl) (by simp) ?_
            intro i hi
            simp only [List.mem_cons, List.not_mem_nil, or_false] at hi
            rcases hi with rfl | rfl
            · obtain ⟨w3, e3⟩ : ∃ w3, w3 = w2.alloc (.cells #[.bool false] 4) := ⟨_, rfl⟩
              have s3 := s2.newBox e3
              refine Dk.op_value (v := .slice (some ⟨w2.heap.size, 0, none⟩) 1 1) (w' := w3) (some 36) rfl rfl rfl (by rw [← hA]; (try simp only [Act.put, List.setIfInBounds_toArray, List.set_cons_succ, List.set_cons_zero]); rw [e3]; go_simp) ⟨fun _ => fx _ _ s3 (by simp), ?_⟩
              refine Dk.nodeT (rs := [14, 19]) (by kernel_rfl) (by simp) ?_
              intro i hi
              simp only [List.mem_cons, List.not_mem_nil, or_false] at hi
              rcases hi with rfl | rfl
              · have hb4 : Dk.Box w3 w2.heap.size #[.bool false] 4 := s3.box (by simp)
                obtain ⟨aa1, l1, c1, w4, r4, s4⟩ := Dk.Sep.appendBox (us1 := [Dk.boxOf w2.heap.size #[.bool false] 4, Dk.boxOf Wd.heap.size #[.int .i64 0] 3, Dk.boxOf bm #[.slice A0 L0 C0, .slice A1 L1 C1, .slice A2 L2 C2, v3, v4, v5] 37, Dk.rowOf 3 1 (.slice aa0 l0 c0) (O.length + 1) (Dk.is O ++ [.int .i64 0])]) (us2 := Dk.nestOf 22 3 1 Dk.is (.slice A2 L2 C2) hv Wt :: Dk.nestOf 38 40 2 Dk.pr2 v3 cv Cd :: Dk.rowOf 3 1 v4 Ct.length (Dk.is Ct) :: Dk.nestOf 22 3 1 Dk.is v5 dv Dn :: us) K33 s3 hb4 rfl (by omega)
                refine Dk.op_value (v := .slice aa1 l1 c1) (w' := w4) (some 37) rfl rfl rfl (by rw [← hA]; (try simp only [Act.put, List.setIfInBounds_toArray, List.set_cons_succ, List.set_cons_zero]); simp only [execOp, resolve, invoke, builtin]; simp [Act.eval, r4]) ⟨fun _ => fx _ _ s4 (by simp), ?_⟩
                refine Dk.nodeT (rs := [19]) (by kernel_rfl) (by simp) ?_
                intro i hi
                simp only [List.mem_cons, List.not_mem_nil, or_false] at hi
                subst hi
                obtain ⟨w5, e5⟩ : ∃ w5, w5 = w4.alloc (.cells #[.slice none 0 0] 22) := ⟨_, rfl⟩
                have s5 := s4.newBox e5
                refine Dk.op_value (v := .slice (some ⟨w4.heap.size, 0, none⟩) 1 1) (w' := w5) (some 42) rfl rfl rfl (by rw [← hA]; (try simp only [Act.put, List.setIfInBounds_toArray, List.set_cons_succ, List.set_cons_zero]); rw [e5]; go_simp) ⟨fun _ => fx _ _ s5 (by simp), ?_⟩
                refine Dk.nodeT (rs := [20]) (by kernel_rfl) (by simp) ?_
                intro i hi
                simp only [List.mem_cons, List.not_mem_nil, or_false] at hi
                subst hi
                have hb6 : Dk.Box w5 w4.heap.size #[.slice none 0 0] 22 := s5.box (by simp)
                obtain ⟨aa2, l2, c2, w6, r6, s6⟩ := Dk.Sep.nestGrow (us1 := [Dk.boxOf w4.heap.size #[.slice none 0 0] 22, Dk.boxOf w2.heap.size #[.bool false] 4, Dk.boxOf Wd.heap.size #[.int .i64 0] 3, Dk.boxOf bm #[.slice A0 L0 C0, .slice A1 L1 C1, .slice A2 L2 C2, v3, v4, v5] 37, Dk.rowOf 3 1 (.slice aa0 l0 c0) (O.length + 1) (Dk.is O ++ [.int .i64 0]), Dk.rowOf 4 1 (.slice aa1 l1 c1) (Hd.length + 1) (Dk.bv Hd ++ [.bool false])]) (us2 := Dk.nestOf 38 40 2 Dk.pr2 v3 cv Cd :: Dk.rowOf 3 1 v4 Ct.length (Dk.is Ct) :: Dk.nestOf 22 3 1 Dk.is v5 dv Dn :: us) K34 s5 hb6 rfl (by omega)
                refine Dk.op_value (v := .slice aa2 l2 c2) (w' := w6) (some 43) rfl rfl rfl (by rw [← hA]; (try simp only [Act.put, List.setIfInBounds_toArray, List.set_cons_succ, List.set_cons_zero]); simp only [execOp, resolve, invoke, builtin]; simp [Act.eval, r6]) ⟨fun _ => fx _ _ s6 (by simp), ?_⟩
                refine ⟨by kernel_rfl, .slice (some ⟨Wd.heap.size, 0, none⟩) 1 1, .slice (some ⟨w2.heap.size, 0, none⟩) 1 1, .slice (some ⟨w4.heap.size, 0, none⟩) 1 1, aa0, l0, c0, aa1, l1, c1, aa2, l2, c2, ?_, s6.sub ?_⟩
                · subst hA
                  first | rfl | (simp only [Act.put, List.setIfInBounds_toArray, List.set_cons_succ, List.set_cons_zero])
                · exact List.sublist_append_right [_, _, _] _
              · obtain ⟨w7, e7⟩ : ∃ w7, w7 = w3.alloc (.cells #[.slice none 0 0] 22) := ⟨_, rfl⟩
                have s7 := s3.newBox e7
                refine Dk.op_value (v := .slice (some ⟨w3.heap.size, 0, none⟩) 1 1) (w' := w7) (some 42) rfl rfl rfl (by rw [← hA]; (try simp only [Act.put, List.setIfInBounds_toArray, List.set_cons_succ, List.set_cons_zero]); rw [e7]; go_simp) ⟨fun _ => fx _ _ s7 (by simp), ?_⟩
                refine Dk.nodeT (rs := [14]) (by kernel_rfl) (by simp) ?_
                intro i hi
                simp only [List.mem_cons, List.not_mem_nil, or_false] at hi
                subst hi
                have hb8 : Dk.Box w7 w2.heap.size #[.bool false] 4 := s7.box (by simp)
                obtain ⟨aa1, l1, c1, w8, r8, s8⟩ := Dk.Sep.appendBox (us1 := [Dk.boxOf w3.heap.size #[.slice none 0 0] 22, Dk.boxOf w2.heap.size #[.bool false] 4, Dk.boxOf Wd.heap.size #[.int .i64 0] 3, Dk.boxOf bm #[.slice A0 L0 C0, .slice A1 L1 C1, .slice A2 L2 C2, v3, v4, v5] 37, Dk.rowOf 3 1 (.slice aa0 l0 c0) (O.length + 1) (Dk.is O ++ [.int .i64 0])]) (us2 := Dk.nestOf 22 3 1 Dk.is (.slice A2 L2 C2) hv Wt :: Dk.nestOf 38 40 2 Dk.pr2 v3 cv Cd :: Dk.rowOf 3 1 v4 Ct.length (Dk.is Ct) :: Dk.nestOf 22 3 1 Dk.is v5 dv Dn :: us) K33 s7 hb8 rfl (by omega)
                refine Dk.op_value (v := .slice aa1 l1 c1) (w' := w8) (some 37) rfl rfl rfl (by rw [← hA]; (try simp only [Act.put, List.setIfInBounds_toArray, List.set_cons_succ, List.set_cons_zero]); simp only [execOp, resolve, invoke, builtin]; simp [Act.eval, r8]) ⟨fun _ => fx _ _ s8 (by simp), ?_⟩
                refine Dk.nodeT (rs := [20]) (by kernel_rfl) (by simp) ?_
                intro i hi
                simp only [List.mem_cons, List.not_mem_nil, or_false] at hi
                subst hi
                have hb9 : Dk.Box w8 w3.heap.size #[.slice none 0 0] 22 := s8.box (by simp)
                obtain ⟨aa2, l2, c2, w9, r9, s9⟩ := Dk.Sep.nestGrow (us1 := [Dk.boxOf w3.heap.size #[.slice none 0 0] 22, Dk.boxOf w2.heap.size #[.bool false] 4, Dk.boxOf Wd.heap.size #[.int .i64 0] 3, Dk.boxOf bm #[.slice A0 L0 C0, .slice A1 L1 C1, .slice A2 L2 C2, v3, v4, v5] 37, Dk.rowOf 3 1 (.slice aa0 l0 c0) (O.length + 1) (Dk.is O ++ [.int .i64 0]), Dk.rowOf 4 1 (.slice aa1 l1 c1) (Hd.length + 1) (Dk.bv Hd ++ [.bool false])]) (us2 := Dk.nestOf 38 40 2 Dk.pr2 v3 cv Cd :: Dk.rowOf 3 1 v4 Ct.length (Dk.is Ct) :: Dk.nestOf 22 3 1 Dk.is v5 dv Dn :: us) K34 s8 hb9 rfl (by omega)
                refine Dk.op_value (v := .slice aa2 l2 c2) (w' := w9) (some 43) rfl rfl rfl (by rw [← hA]; (try simp only [Act.put, List.setIfInBounds_toArray, List.set_cons_succ, List.set_cons_zero]); simp only [execOp, resolve, invoke, builtin]; simp [Act.eval, r9]) ⟨fun _ => fx _ _ s9 (by simp), ?_⟩
                refine ⟨by kernel_rfl, .slice (some ⟨Wd.heap.size, 0, none⟩) 1 1, .slice (some ⟨w2.heap.size, 0, none⟩) 1 1, .slice (some ⟨w3.heap.size, 0, none⟩) 1 1, aa0, l0, c0, aa1, l1, c1, aa2, l2, c2, ?_, s9.sub ?_⟩
                · subst hA
                  first | rfl | (simp only [Act.put, List.setIfInBounds_toArray, List.set_cons_succ, List.set_cons_zero])
                · exact List.sublist_append_right [_, _, _] _
            · obtain ⟨w10, e10⟩ : ∃ w10, w10 = w2.alloc (.cells #[.slice none 0 0] 22) := ⟨_, rfl⟩
              have s10 := s2.newBox e10
              refine Dk.op_value (v := .slice (some ⟨w2.heap.size, 0, none⟩) 1 1) (w' := w10) (some 42) rfl rfl rfl (by rw [← hA]; (try simp only [Act.put, List.setIfInBounds_toArray, List.set_cons_succ, List.set_cons_zero]); rw [e10]; go_simp) ⟨fun _ => fx _ _ s10 (by simp), ?_⟩
              refine Dk.nodeT (rs := [13]) (by kernel_rfl) (by simp) ?_
              intro i hi
              simp only [List.mem_cons, List.not_mem_nil, or_false] at hi
              subst hi
              obtain ⟨w11, e11⟩ : ∃ w11, w11 = w10.alloc (.cells #[.bool false] 4) := ⟨_, rfl⟩
              have s11 := s10.newBox e11
              refine Dk.op_value (v := .slice (some ⟨w10.heap.size, 0, none⟩) 1 1) (w' := w11) (some 36) rfl rfl rfl (by rw [← hA]; (try simp only [Act.put, List.setIfInBounds_toArray, List.set_cons_succ, List.set_cons_zero]); rw [e11]; go_simp) ⟨fun _ => fx _ _ s11 (by simp), ?_⟩
              refine Dk.nodeT (rs := [14]) (by kernel_rfl) (by simp) ?_
              intro i hi
              simp only [List.mem_cons, List.not_mem_nil, or_false] at hi
              subst hi
              have hb12 : Dk.Box w11 w10.heap.size #[.bool false] 4 := s11.box (by simp)
              obtain ⟨aa1, l1, c1, w12, r12, s12⟩ := Dk.Sep.appendBox (us1 := [Dk.boxOf w10.heap.size #[.bool false] 4, Dk.boxOf w2.heap.size #[.slice none 0 0] 22, Dk.boxOf Wd.heap.size #[.int .i64 0] 3, Dk.boxOf bm #[.slice A0 L0 C0, .slice A1 L1 C1, .slice A2 L2 C2, v3, v4, v5] 37, Dk.rowOf 3 1 (.slice aa0 l0 c0) (O.length + 1) (Dk.is O ++ [.int .i64 0])]) (us2 := Dk.nestOf 22 3 1 Dk.is (.slice A2 L2 C2) hv Wt :: Dk.nestOf 38 40 2 Dk.pr2 v3 cv Cd :: Dk.rowOf 3 1 v4 Ct.length (Dk.is Ct) :: Dk.nestOf 22 3 1 Dk.is v5 dv Dn :: us) K33 s11 hb12 rfl (by omega)
              refine Dk.op_value (v := .slice aa1 l1 c1) (w' := w12) (some 37) rfl rfl rfl (by rw [← hA]; (try simp only [Act.put, List.setIfInBounds_toArray, List.set_cons_succ, List.set_cons_zero]); simp only [execOp, resolve, invoke, builtin]; simp [Act.eval, r12]) ⟨fun _ => fx _ _ s12 (by simp), ?_⟩
              refine Dk.nodeT (rs := [20]) (by kernel_rfl) (by simp) ?_
              intro i hi
              simp only [List.mem_cons, List.not_mem_nil, or_false] at hi
              subst hi
              have hb13 : Dk.Box w12 w2.heap.size #[.slice none 0 0] 22 := s12.box (by simp)
              obtain ⟨aa2, l2, c2, w13, r13, s13⟩ := Dk.Sep.nestGrow (us1 := [Dk.boxOf w10.heap.size #[.bool false] 4, Dk.boxOf w2.heap.size #[.slice none 0 0] 22, Dk.boxOf Wd.heap.size #[.int .i64 0] 3, Dk.boxOf bm #[.slice A0 L0 C0, .slice A1 L1 C1, .slice A2 L2 C2, v3, v4, v5] 37, Dk.rowOf 3 1 (.slice aa0 l0 c0) (O.length + 1) (Dk.is O ++ [.int .i64 0]), Dk.rowOf 4 1 (.slice aa1 l1 c1) (Hd.length + 1) (Dk.bv Hd ++ [.bool false])]) (us2 := Dk.nestOf 38 40 2 Dk.pr2 v3 cv Cd :: Dk.rowOf 3 1 v4 Ct.length (Dk.is Ct) :: Dk.nestOf 22 3 1 Dk.is v5 dv Dn :: us) K34 s12 hb13 rfl (by omega)
              refine Dk.op_value (v := .slice aa2 l2 c2) (w' := w13) (some 43) rfl rfl rfl (by rw [← hA]; (try simp only [Act.put, List.setIfInBounds_toArray, List.set_cons_succ, List.set_cons_zero]); simp only [execOp, resolve, invoke, builtin]; simp [Act.eval, r13]) ⟨fun _ => fx _ _ s13 (by simp), ?_⟩
              refine ⟨by kernel_rfl, .slice (some ⟨Wd.heap.size, 0, none⟩) 1 1, .slice (some ⟨w10.heap.size, 0, none⟩) 1 1, .slice (some ⟨w2.heap.size, 0, none⟩) 1 1, aa0, l0, c0, aa1, l1, c1, aa2, l2, c2, ?_, s13.sub ?_⟩
              · subst hA
                first | rfl | (simp only [Act.put, List.setIfInBounds_toArray, List.set_cons_succ, List.set_cons_zero])
              · exact List.sublist_append_right [_, _, _] _
          · obtain ⟨w14, e14⟩ : ∃ w14, w14 = w1.alloc (.cells #[.bool false] 4) := ⟨_, rfl⟩
            have s14 := s1.newBox e14
            refine Dk.op_value (v := .slice (some ⟨w1.heap.size, 0, none⟩) 1 1) (w' := w14) (some 36) rfl rfl rfl (by rw [← hA]; (try simp only [Act.put, List.setIfInBounds_toArray, List.set_cons_succ, List.set_cons_zero]); rw [e14]; go_simp) ⟨fun _ => fx _ _ s14 (by simp), ?_⟩
            refine Dk.nodeT (rs := [8, 19]) (by kernel_rfl) (by simp) ?_
            intro i hi
            simp only [List.mem_cons, List.not_mem_nil, or_false] at hi
            rcases hi with rfl | rfl
            · have hb15 : Dk.Box w14 Wd.heap.size #[.int .i64 0] 3 := s14.box (by simp)
              obtain ⟨aa0, l0, c0, w15, r15, s15⟩ := Dk.Sep.appendBox (us1 := [Dk.boxOf w1.heap.size #[.bool false] 4, Dk.boxOf Wd.heap.size #[.int .i64 0] 3, Dk.boxOf bm #[.slice A0 L0 C0, .slice A1 L1 C1, .slice A2 L2 C2, v3, v4, v5] 37]) (us2 := Dk.rowOf 4 1 (.slice A1 L1 C1) Hd.length (Dk.bv Hd) :: Dk.nestOf 22 3 1 Dk.is (.slice A2 L2 C2) hv Wt :: Dk.nestOf 38 40 2 Dk.pr2 v3 cv Cd :: Dk.rowOf 3 1 v4 Ct.length (Dk.is Ct) :: Dk.nestOf 22 3 1 Dk.is v5 dv Dn :: us) K22 s14 hb15 rfl (by omega)
              refine Dk.op_value (v := .slice aa0 l0 c0) (w' := w15) (some 31) rfl rfl rfl (by rw [← hA]; (try simp only [Act.put, List.setIfInBounds_toArray, List.set_cons_succ, List.set_cons_zero]); simp only [execOp, resolve, invoke, builtin]; simp [Act.eval, r15]) ⟨fun _ => fx _ _ s15 (by simp), ?_⟩
              refine Dk.nodeT (rs := [14, 19]) (by kernel_rfl) (by simp) ?_
              intro i hi
              simp only [List.mem_cons, List.not_mem_nil, or_false] at hi
              rcases hi with rfl | rfl
              · have hb16 : Dk.Box w15 w1.heap.size #[.bool false] 4 := s15.box (by simp)
                obtain ⟨aa1, l1, c1, w16, r16, s16⟩ := Dk.Sep.appendBox (us1 := [Dk.boxOf w1.heap.size #[.bool false] 4, Dk.boxOf Wd.heap.size #[.int .i64 0] 3, Dk.boxOf bm #[.slice A0 L0 C0, .slice A1 L1 C1, .slice A2 L2 C2, v3, v4, v5] 37, Dk.rowOf 3 1 (.slice aa0 l0 c0) (O.length + 1) (Dk.is O ++ [.int .i64 0])]) (us2 := Dk.nestOf 22 3 1 Dk.is (.slice A2 L2 C2) hv Wt :: Dk.nestOf 38 40 2 Dk.pr2 v3 cv Cd :: Dk.rowOf 3 1 v4 Ct.length (Dk.is Ct) :: Dk.nestOf 22 3 1 Dk.is v5 dv Dn :: us) K33 s15 hb16 rfl (by omega)
                refine Dk.op_value (v := .slice aa1 l1 c1) (w' := w16) (some 37) rfl rfl rfl (by rw [← hA]; (try simp only [Act.put, List.setIfInBounds_toArray, List.set_cons_succ, List.set_cons_zero]); simp only [execOp, resolve, invoke, builtin]; simp [Act.eval, r16]) ⟨fun _ => fx _ _ s16 (by simp), ?_⟩
                refine Dk.nodeT (rs := [19]) (by kernel_rfl) (by simp) ?_
                intro i hi
                simp only [List.mem_cons, List.not_mem_nil, or_false] at hi
                subst hi
                obtain ⟨w17, e17⟩ : ∃ w17, w17 = w16.alloc (.cells #[.slice none 0 0] 22) := ⟨_, rfl⟩
                have s17 := s16.newBox e17
                refine Dk.op_value (v := .slice (some ⟨w16.heap.size, 0, none⟩) 1 1) (w' := w17) (some 42) rfl rfl rfl (by rw [← hA]; (try simp only [Act.put, List.setIfInBounds_toArray, List.set_cons_succ, List.set_cons_zero]); rw [e17]; go_simp) ⟨fun _ => fx _ _ s17 (by simp), ?_⟩
                refine Dk.nodeT (rs := [20]) (by kernel_rfl) (by simp) ?_
                intro i hi
                simp only [List.mem_cons, List.not_mem_nil, or_false] at hi
                subst hi
                have hb18 : Dk.Box w17 w16.heap.size #[.slice none 0 0] 22 := s17.box (by simp)
                obtain ⟨aa2, l2, c2, w18, r18, s18⟩ := Dk.Sep.nestGrow (us1 := [Dk.boxOf w16.heap.size #[.slice none 0 0] 22, Dk.boxOf w1.heap.size #[.bool false] 4, Dk.boxOf Wd.heap.size #[.int .i64 0] 3, Dk.boxOf bm #[.slice A0 L0 C0, .slice A1 L1 C1, .slice A2 L2 C2, v3, v4, v5] 37, Dk.rowOf 3 1 (.slice aa0 l0 c0) (O.length + 1) (Dk.is O ++ [.int .i64 0]), Dk.rowOf 4 1 (.slice aa1 l1 c1) (Hd.length + 1) (Dk.bv Hd ++ [.bool false])]) (us2 := Dk.nestOf 38 40 2 Dk.pr2 v3 cv Cd :: Dk.rowOf 3 1 v4 Ct.length (Dk.is Ct) :: Dk.nestOf 22 3 1 Dk.is v5 dv Dn :: us) K34 s17 hb18 rfl (by omega)
                refine Dk.op_value (v := .slice aa2 l2 c2) (w' := w18) (some 43) rfl rfl rfl (by rw [← hA]; (try simp only [Act.put, List.setIfInBounds_toArray, List.set_cons_succ, List.set_cons_zero]); simp only [execOp, resolve, invoke, builtin]; simp [Act.eval, r18]) ⟨fun _ => fx _ _ s18 (by simp), ?_⟩
                refine ⟨by kernel_rfl, .slice (some ⟨Wd.heap.size, 0, none⟩) 1 1, .slice (some ⟨w1.heap.size, 0, none⟩) 1 1, .slice (some ⟨w16.heap.size, 0, none⟩) 1 1, aa0, l0, c0, aa1, l1, c1, aa2, l2, c2, ?_, s18.sub ?_⟩
                · subst hA
                  first | rfl | (simp only [Act.put, List.setIfInBounds_toArray, List.set_cons_succ, List.set_cons_zero])
                · exact List.sublist_append_right [_, _, _] _
              · obtain ⟨w19, e19⟩ : ∃ w19, w19 = w15.alloc (.cells #[.slice none 0 0] 22) := ⟨_, rfl⟩
                have s19 := s15.newBox e19
                refine Dk.op_value (v := .slice (some ⟨w15.heap.size, 0, none⟩) 1 1) (w' := w19) (some 42) rfl rfl rfl (by rw [← hA]; (try simp only [Act.put, List.setIfInBounds_toArray, List.set_cons_succ, List.set_cons_zero]); rw [e19]; go_simp) ⟨fun _ => fx _ _ s19 (by simp), ?_⟩
                refine Dk.nodeT (rs := [14]) (by kernel_rfl) (by simp) ?_
                intro i hi
                simp only [List.mem_cons, List.not_mem_nil, or_false] at hi
                subst hi
                have hb20 : Dk.Box w19 w1.heap.size #[.bool false] 4 := s19.box (by simp)
                obtain ⟨aa1, l1, c1, w20, r20, s20⟩ := Dk.Sep.appendBox (us1 := [Dk.boxOf w15.heap.size #[.slice none 0 0] 22, Dk.boxOf w1.heap.size #[.bool false] 4, Dk.boxOf Wd.heap.size #[.int .i64 0] 3, Dk.boxOf bm #[.slice A0 L0 C0, .slice A1 L1 C1, .slice A2 L2 C2, v3, v4, v5] 37, Dk.rowOf 3 1 (.slice aa0 l0 c0) (O.length + 1) (Dk.is O ++ [.int .i64 0])]) (us2 := Dk.nestOf 22 3 1 Dk.is (.slice A2 L2 C2) hv Wt :: Dk.nestOf 38 40 2 Dk.pr2 v3 cv Cd :: Dk.rowOf 3 1 v4 Ct.length (Dk.is Ct) :: Dk.nestOf 22 3 1 Dk.is v5 dv Dn :: us) K33 s19 hb20 rfl (by omega)
                refine Dk.op_value (v := .slice aa1 l1 c1) (w' := w20) (some 37) rfl rfl rfl (by rw [← hA]; (try simp only [Act.put, List.setIfInBounds_toArray, List.set_cons_succ, List.set_cons_zero]); simp only [execOp, resolve, invoke, builtin]; simp [Act.eval, r20]) ⟨fun _ => fx _ _ s20 (by simp), ?_⟩
                refine Dk.nodeT (rs := [20]) (by kernel_rfl) (by simp) ?_
                intro i hi
                simp only [List.mem_cons, List.not_mem_nil, or_false] at hi
                subst hi
                have hb21 : Dk.Box w20 w15.heap.size #[.slice none 0 0] 22 := s20.box (by simp)
                obtain ⟨aa2, l2, c2, w21, r21, s21⟩ := Dk.Sep.nestGrow (us1 := [Dk.boxOf w15.heap.size #[.slice none 0 0] 22, Dk.boxOf w1.heap.size #[.bool false] 4, Dk.boxOf Wd.heap.size #[.int .i64 0] 3, Dk.boxOf bm #[.slice A0 L0 C0, .slice A1 L1 C1, .slice A2 L2 C2, v3, v4, v5] 37, Dk.rowOf 3 1 (.slice aa0 l0 c0) (O.length + 1) (Dk.is O ++ [.int .i64 0]), Dk.rowOf 4 1 (.slice aa1 l1 c1) (Hd.length + 1) (Dk.bv Hd ++ [.bool false])]) (us2 := Dk.nestOf 38 40 2 Dk.pr2 v3 cv Cd :: Dk.rowOf 3 1 v4 Ct.length (Dk.is Ct) :: Dk.nestOf 22 3 1 Dk.is v5 dv Dn :: us) K34 s20 hb21 rfl (by omega)
                refine Dk.op_value (v := .slice aa2 l2 c2) (w' := w21) (some 43) rfl rfl rfl (by rw [← hA]; (try simp only [Act.put, List.setIfInBounds_toArray, List.set_cons_succ, List.set_cons_zero]); simp only [execOp, resolve, invoke, builtin]; simp [Act.eval, r21]) ⟨fun _ => fx _ _ s21 (by simp), ?_⟩
                refine ⟨by kernel_rfl, .slice (some ⟨Wd.heap.size, 0, none⟩) 1 1, .slice (some ⟨w1.heap.size, 0, none⟩) 1 1, .slice (some ⟨w15.heap.size, 0, none⟩) 1 1, aa0, l0, c0, aa1, l1, c1, aa2, l2, c2, ?_, s21.sub ?_⟩
                · subst hA
                  first | rfl | (simp only [Act.put, List.setIfInBounds_toArray, List.set_cons_succ, List.set_cons_zero])
                · exact List.sublist_append_right [_, _, _] _
            · obtain ⟨w22, e22⟩ : ∃ w22, w22 = w14.alloc (.cells #[.slice none 0 0] 22) := ⟨_, rfl⟩
              have s22 := s14.newBox e22
              refine Dk.op_value (v := .slice (some ⟨w14.heap.size, 0, none⟩) 1 1) (w' := w22) (some 42) rfl rfl rfl (by rw [← hA]; (try simp only [Act.put, List.setIfInBounds_toArray, List.set_cons_succ, List.set_cons_zero]); rw [e22]; go_simp) ⟨fun _ => fx _ _ s22 (by simp), ?_⟩
              refine Dk.nodeT (rs := [8]) (by kernel_rfl) (by simp) ?_
              intro i hi
              simp only [List.mem_cons, List.not_mem_nil, or_false] at hi
              subst hi
              have hb23 : Dk.Box w22 Wd.heap.size #[.int .i64 0] 3 := s22.box (by simp)
              obtain ⟨aa0, l0, c0, w23, r23, s23⟩ := Dk.Sep.appendBox (us1 := [Dk.boxOf w14.heap.size #[.slice none 0 0] 22, Dk.boxOf w1.heap.size #[.bool false] 4, Dk.boxOf Wd.heap.size #[.int .i64 0] 3, Dk.boxOf bm #[.slice A0 L0 C0, .slice A1 L1 C1, .slice A2 L2 C2, v3, v4, v5] 37]) (us2 := Dk.rowOf 4 1 (.slice A1 L1 C1) Hd.length (Dk.bv Hd) :: Dk.nestOf 22 3 1 Dk.is (.slice A2 L2 C2) hv Wt :: Dk.nestOf 38 40 2 Dk.pr2 v3 cv Cd :: Dk.rowOf 3 1 v4 Ct.length (Dk.is Ct) :: Dk.nestOf 22 3 1 Dk.is v5 dv Dn :: us) K22 s22 hb23 rfl (by omega)
              refine Dk.op_value (v := .slice aa0 l0 c0) (w' := w23) (some 31) rfl rfl rfl (by rw [← hA]; (try simp only [Act.put, List.setIfInBounds_toArray, List.set_cons_succ, List.set_cons_zero]); simp only [execOp, resolve, invoke, builtin]; simp [Act.eval, r23]) ⟨fun _ => fx _ _ s23 (by simp), ?_⟩
              refine Dk.nodeT (rs := [14]) (by kernel_rfl) (by simp) ?_
              intro i hi
              simp only [List.mem_cons, List.not_mem_nil, or_false] at hi
              subst hi
              have hb24 : Dk.Box w23 w1.heap.size #[.bool false] 4 := s23.box (by simp)
              obtain ⟨aa1, l1, c1, w24, r24, s24⟩ := Dk.Sep.appendBox (us1 := [Dk.boxOf w14.heap.size #[.slice none 0 0] 22, Dk.boxOf w1.heap.size #[.bool false] 4, Dk.boxOf Wd.heap.size #[.int .i64 0] 3, Dk.boxOf bm #[.slice A0 L0 C0, .slice A1 L1 C1, .slice A2 L2 C2, v3, v4, v5] 37, Dk.rowOf 3 1 (.slice aa0 l0 c0) (O.length + 1) (Dk.is O ++ [.int .i64 0])]) (us2 := Dk.nestOf 22 3 1 Dk.is (.slice A2 L2 C2) hv Wt :: Dk.nestOf 38 40 2 Dk.pr2 v3 cv Cd :: Dk.rowOf 3 1 v4 Ct.length (Dk.is Ct) :: Dk.nestOf 22 3 1 Dk.is v5 dv Dn :: us) K33 s23 hb24 rfl (by omega)
              refine Dk.op_value (v := .slice aa1 l1 c1) (w' := w24) (some 37) rfl rfl rfl (by rw [← hA]; (try simp only [Act.put, List.setIfInBounds_toArray, List.set_cons_succ, List.set_cons_zero]); simp only [execOp, resolve, invoke, builtin]; simp [Act.eval, r24]) ⟨fun _ => fx _ _ s24 (by simp), ?_⟩
              refine Dk.nodeT (rs := [20]) (by kernel_rfl) (by simp) ?_
              intro i hi
              simp only [List.mem_cons, List.not_mem_nil, or_false] at hi
              subst hi
              have hb25 : Dk.Box w24 w14.heap.size #[.slice none 0 0] 22 := s24.box (by simp)
              obtain ⟨aa2, l2, c2, w25, r25, s25⟩ := Dk.Sep.nestGrow (us1 := [Dk.boxOf w14.heap.size #[.slice none 0 0] 22, Dk.boxOf w1.heap.size #[.bool false] 4, Dk.boxOf Wd.heap.size #[.int .i64 0] 3, Dk.boxOf bm #[.slice A0 L0 C0, .slice A1 L1 C1, .slice A2 L2 C2, v3, v4, v5] 37, Dk.rowOf 3 1 (.slice aa0 l0 c0) (O.length + 1) (Dk.is O ++ [.int .i64 0]), Dk.rowOf 4 1 (.slice aa1 l1 c1) (Hd.length + 1) (Dk.bv Hd ++ [.bool false])]) (us2 := Dk.nestOf 38 40 2 Dk.pr2 v3 cv Cd :: Dk.rowOf 3 1 v4 Ct.length (Dk.is Ct) :: Dk.nestOf 22 3 1 Dk.is v5 dv Dn :: us) K34 s24 hb25 rfl (by omega)
              refine Dk.op_value (v := .slice aa2 l2 c2) (w' := w25) (some 43) rfl rfl rfl (by rw [← hA]; (try simp only [Act.put, List.setIfInBounds_toArray, List.set_cons_succ, List.set_cons_zero]); simp only [execOp, resolve, invoke, builtin]; simp [Act.eval, r25]) ⟨fun _ => fx _ _ s25 (by simp), ?_⟩
              refine ⟨by kernel_rfl, .slice (some ⟨Wd.heap.size, 0, none⟩) 1 1, .slice (some ⟨w1.heap.size, 0, none⟩) 1 1, .slice (some ⟨w14.heap.size, 0, none⟩) 1 1, aa0, l0, c0, aa1, l1, c1, aa2, l2, c2, ?_, s25.sub ?_⟩
              · subst hA
                first | rfl | (simp only [Act.put, List.setIfInBounds_toArray, List.set_cons_succ, List.set_cons_zero])
              · exact List.sublist_append_right [_, _, _] _
          · obtain ⟨w26, e26⟩ : ∃ w26, w26 = w1.alloc (.cells #[.slice none 0 0] 22) := ⟨_, rfl⟩
            have s26 := s1.newBox e26
            refine Dk.op_value (v := .slice (some ⟨w1.heap.size, 0, none⟩) 1 1) (w' := w26) (some 42) rfl rfl rfl (by rw [← hA]; (try simp only [Act.put, List.setIfInBounds_toArray, List.set_cons_succ, List.set_cons_zero]); rw [e26]; go_simp) ⟨fun _ => fx _ _ s26 (by simp), ?_⟩
            refine Dk.nodeT (rs := [8, 13]) (by kernel_rfl) (by simp) ?_
            intro i hi
            simp only [List.mem_cons, List.not_mem_nil, or_false] at hi
            rcases hi with rfl | rfl
            · have hb27 : Dk.Box w26 Wd.heap.size #[.int .i64 0] 3 := s26.box (by simp)
              obtain ⟨aa0, l0, c0, w27, r27, s27⟩ := Dk.Sep.appendBox (us1 := [Dk.boxOf w1.heap.size #[.slice none 0 0] 22, Dk.boxOf Wd.heap.size #[.int .i64 0] 3, Dk.boxOf bm #[.slice A0 L0 C0, .slice A1 L1 C1, .slice A2 L2 C2, v3, v4, v5] 37]) (us2 := Dk.rowOf 4 1 (.slice A1 L1 C1) Hd.length (Dk.bv Hd) :: Dk.nestOf 22 3 1 Dk.is (.slice A2 L2 C2) hv Wt :: Dk.nestOf 38 40 2 Dk.pr2 v3 cv Cd :: Dk.rowOf 3 1 v4 Ct.length (Dk.is Ct) :: Dk.nestOf 22 3 1 Dk.is v5 dv Dn :: us) K22 s26 hb27 rfl (by omega)
              refine Dk.op_value (v := .slice aa0 l0 c0) (w' := w27) (some 31) rfl rfl rfl (by rw [← hA]; (try simp only [Act.put, List.setIfInBounds_toArray, List.set_cons_succ, List.set_cons_zero]); simp only [execOp, resolve, invoke, builtin]; simp [Act.eval, r27]) ⟨fun _ => fx _ _ s27 (by simp), ?_⟩
              refine Dk.nodeT (rs := [13]) (by kernel_rfl) (by simp) ?_
              intro i hi
              simp only [List.mem_cons, List.not_mem_nil, or_false] at hi
              subst hi
              obtain ⟨w28, e28⟩ : ∃ w28, w28 = w27.alloc (.cells #[.bool false] 4) := ⟨_, rfl⟩
              have s28 := s27.newBox e28
              refine Dk.op_value (v := .slice (some ⟨w27.heap.size, 0, none⟩) 1 1) (w' := w28) (some 36) rfl rfl rfl (by rw [← hA]; (try simp only [Act.put, List.setIfInBounds_toArray, List.set_cons_succ, List.set_cons_zero]); rw [e28]; go_simp) ⟨fun _ => fx _ _ s28 (by simp), ?_⟩
              refine Dk.nodeT (rs := [14]) (by kernel_rfl) (by simp) ?_
              intro i hi
              simp only [List.mem_cons, List.not_mem_nil, or_false] at hi
              subst hi
              have hb29 : Dk.Box w28 w27.heap.size #[.bool false] 4 := s28.box (by simp)
              obtain ⟨aa1, l1, c1, w29, r29, s29⟩ := Dk.Sep.appendBox (us1 := [Dk.boxOf w27.heap.size #[.bool false] 4, Dk.boxOf w1.heap.size #[.slice none 0 0] 22, Dk.boxOf Wd.heap.size #[.int .i64 0] 3, Dk.boxOf bm #[.slice A0 L0 C0, .slice A1 L1 C1, .slice A2 L2 C2, v3, v4, v5] 37, Dk.rowOf 3 1 (.slice aa0 l0 c0) (O.length + 1) (Dk.is O ++ [.int .i64 0])]) (us2 := Dk.nestOf 22 3 1 Dk.is (.slice A2 L2 C2) hv Wt :: Dk.nestOf 38 40 2 Dk.pr2 v3 cv Cd :: Dk.rowOf 3 1 v4 Ct.length (Dk.is Ct) :: Dk.nestOf 22 3 1 Dk.is v5 dv Dn :: us) K33 s28 hb29 rfl (by omega)
              refine Dk.op_value (v := .slice aa1 l1 c1) (w' := w29) (some 37) rfl rfl rfl (by rw [← hA]; (try simp only [Act.put, List.setIfInBounds_toArray, List.set_cons_succ, List.set_cons_zero]); simp only [execOp, resolve, invoke, builtin]; simp [Act.eval, r29]) ⟨fun _ => fx _ _ s29 (by simp), ?_⟩
              refine Dk.nodeT (rs := [20]) (by kernel_rfl) (by simp) ?_
              intro i hi
              simp only [List.mem_cons, List.not_mem_nil, or_false] at hi
              subst hi
              have hb30 : Dk.Box w29 w1.heap.size #[.slice none 0 0] 22 := s29.box (by simp)
              obtain ⟨aa2, l2, c2, w30, r30, s30⟩ := Dk.Sep.nestGrow (us1 := [Dk.boxOf w27.heap.size #[.bool false] 4, Dk.boxOf w1.heap.size #[.slice none 0 0] 22, Dk.boxOf Wd.heap.size #[.int .i64 0] 3, Dk.boxOf bm #[.slice A0 L0 C0, .slice A1 L1 C1, .slice A2 L2 C2, v3, v4, v5] 37, Dk.rowOf 3 1 (.slice aa0 l0 c0) (O.length + 1) (Dk.is O ++ [.int .i64 0]), Dk.rowOf 4 1 (.slice aa1 l1 c1) (Hd.length + 1) (Dk.bv Hd ++ [.bool false])]) (us2 := Dk.nestOf 38 40 2 Dk.pr2 v3 cv Cd :: Dk.rowOf 3 1 v4 Ct.length (Dk.is Ct) :: Dk.nestOf 22 3 1 Dk.is v5 dv Dn :: us) K34 s29 hb30 rfl (by omega)
              refine Dk.op_value (v := .slice aa2 l2 c2) (w' := w30) (some 43) rfl rfl rfl (by rw [← hA]; (try simp only [Act.put, List.setIfInBounds_toArray, List.set_cons_succ, List.set_cons_zero]); simp only [execOp, resolve, invoke, builtin]; simp [Act.eval, r30]) ⟨fun _ => fx _ _ s30 (by simp), ?_⟩
              refine ⟨by kernel_rfl, .slice (some ⟨Wd.heap.size, 0, none⟩) 1 1, .slice (some ⟨w27.heap.size, 0, none⟩) 1 1, .slice (some ⟨w1.heap.size, 0, none⟩) 1 1, aa0, l0, c0, aa1, l1, c1, aa2, l2, c2, ?_, s30.sub ?_⟩
              · subst hA
                first | rfl | (simp only [Act.put, List.setIfInBounds_toArray, List.set_cons_succ, List.set_cons_zero])
              · exact List.sublist_append_right [_, _, _] _
            · obtain ⟨w31, e31⟩ : ∃ w31, w31 = w26.alloc (.cells #[.bool false] 4) := ⟨_, rfl⟩
              have s31 := s26.newBox e31
              refine Dk.op_value (v := .slice (some ⟨w26.heap.size, 0, none⟩) 1 1) (w' := w31) (some 36) rfl rfl rfl (by rw [← hA]; (try simp only [Act.put, List.setIfInBounds_toArray, List.set_cons_succ, List.set_cons_zero]); rw [e31]; go_simp) ⟨fun _ => fx _ _ s31 (by simp), ?_⟩
              refine Dk.nodeT (rs := [8]) (by kernel_rfl) (by simp) ?_
              intro i hi
              simp only [List.mem_cons, List.not_mem_nil, or_false] at hi
              subst hi
              have hb32 : Dk.Box w31 Wd.heap.size #[.int .i64 0] 3 := s31.box (by simp)
              obtain ⟨aa0, l0, c0, w32, r32, s32⟩ := Dk.Sep.appendBox (us1 := [Dk.boxOf w26.heap.size #[.bool false] 4, Dk.boxOf w1.heap.size #[.slice none 0 0] 22, Dk.boxOf Wd.heap.size #[.int .i64 0] 3, Dk.boxOf bm #[.slice A0 L0 C0, .slice A1 L1 C1, .slice A2 L2 C2, v3, v4, v5] 37]) (us2 := Dk.rowOf 4 1 (.slice A1 L1 C1) Hd.length (Dk.bv Hd) :: Dk.nestOf 22 3 1 Dk.is (.slice A2 L2 C2) hv Wt :: Dk.nestOf 38 40 2 Dk.pr2 v3 cv Cd :: Dk.rowOf 3 1 v4 Ct.length (Dk.is Ct) :: Dk.nestOf 22 3 1 Dk.is v5 dv Dn :: us) K22 s31 hb32 rfl (by omega)
              refine Dk.op_value (v := .slice aa0 l0 c0) (w' := w32) (some 31) rfl rfl rfl (by rw [← hA]; (try simp only [Act.put, List.setIfInBounds_toArray, List.set_cons_succ, List.set_cons_zero]); simp only [execOp, resolve, invoke, builtin]; simp [Act.eval, r32]) ⟨fun _ => fx _ _ s32 (by simp), ?_⟩
              refine Dk.nodeT (rs := [14]) (by kernel_rfl) (by simp) ?_
              intro i hi
              simp only [List.mem_cons, List.not_mem_nil, or_false] at hi
              subst hi
              have hb33 : Dk.Box w32 w26.heap.size #[.bool false] 4 := s32.box (by simp)
              obtain ⟨aa1, l1, c1, w33, r33, s33⟩ := Dk.Sep.appendBox (us1 := [Dk.boxOf w26.heap.size #[.bool false] 4, Dk.boxOf w1.heap.size #[.slice none 0 0] 22, Dk.boxOf Wd.heap.size #[.int .i64 0] 3, Dk.boxOf bm #[.slice A0 L0 C0, .slice A1 L1 C1, .slice A2 L2 C2, v3, v4, v5] 37, Dk.rowOf 3 1 (.slice aa0 l0 c0) (O.length + 1) (Dk.is O ++ [.int .i64 0])]) (us2 := Dk.nestOf 22 3 1 Dk.is (.slice A2 L2 C2) hv Wt :: Dk.nestOf 38 40 2 Dk.pr2 v3 cv Cd :: Dk.rowOf 3 1 v4 Ct.length (Dk.is Ct) :: Dk.nestOf 22 3 1 Dk.is v5 dv Dn :: us) K33 s32 hb33 rfl (by omega)
              refine Dk.op_value (v := .slice aa1 l1 c1) (w' := w33) (some 37) rfl rfl rfl (by rw [← hA]; (try simp only [Act.put, List.setIfInBounds_toArray, List.set_cons_succ, List.set_cons_zero]); simp only [execOp, resolve, invoke, builtin]; simp [Act.eval, r33]) ⟨fun _ => fx _ _ s33 (by simp), ?_⟩
              refine Dk.nodeT (rs := [20]) (by kernel_rfl) (by simp) ?_
              intro i hi
              simp only [List.mem_cons, List.not_mem_nil, or_false] at hi
              subst hi
              have hb34 : Dk.Box w33 w1.heap.size #[.slice none 0 0] 22 := s33.box (by simp)
              obtain ⟨aa2, l2, c2, w34, r34, s34⟩ := Dk.Sep.nestGrow (us1 := [Dk.boxOf w26.heap.size #[.bool false] 4, Dk.boxOf w1.heap.size #[.slice none 0 0] 22, Dk.boxOf Wd.heap.size #[.int .i64 0] 3, Dk.boxOf bm #[.slice A0 L0 C0, .slice A1 L1 C1, .slice A2 L2 C2, v3, v4, v5] 37, Dk.rowOf 3 1 (.slice aa0 l0 c0) (O.length + 1) (Dk.is O ++ [.int .i64 0]), Dk.rowOf 4 1 (.slice aa1 l1 c1) (Hd.length + 1) (Dk.bv Hd ++ [.bool false])]) (us2 := Dk.nestOf 38 40 2 Dk.pr2 v3 cv Cd :: Dk.rowOf 3 1 v4 Ct.length (Dk.is Ct) :: Dk.nestOf 22 3 1 Dk.is v5 dv Dn :: us) K34 s33 hb34 rfl (by omega)
              refine Dk.op_value (v := .slice aa2 l2 c2) (w' := w34) (some 43) rfl rfl rfl (by rw [← hA]; (try simp only [Act.put, List.setIfInBounds_toArray, List.set_cons_succ, List.set_cons_zero]); simp only [execOp, resolve, invoke, builtin]; simp [Act.eval, r34]) ⟨fun _ => fx _ _ s34 (by simp), ?_⟩
              refine ⟨by kernel_rfl, .slice (some ⟨Wd.heap.size, 0, none⟩) 1 1, .slice (some ⟨w26.heap.size, 0, none⟩) 1 1, .slice (some ⟨w1.heap.size, 0, none⟩) 1 1, aa0, l0, c0, aa1, l1, c1, aa2, l2, c2, ?_, s34.sub ?_⟩
              · subst hA
                first | rfl | (simp only [Act.put, List.setIfInBounds_toArray, List.set_cons_succ, List.set_cons_zero])
              · exact List.sublist_append_right [_, _, _] _
        · obtain ⟨w35, e35⟩ : ∃ w35, w35 = Wd.alloc (.cells #[.bool false] 4) := ⟨_, rfl⟩
          have s35 := sd.newBox e35
          refine Dk.op_value (v := .slice (some ⟨Wd.heap.size, 0, none⟩) 1 1) (w' := w35) (some 36) rfl rfl rfl (by rw [← hA]; (try simp only [Act.put, List.setIfInBounds_toArray, List.set_cons_succ, List.set_cons_zero]); rw [e35]; go_simp) ⟨fun _ => fx _ _ s35 (by simp), ?_⟩
          refine Dk.nodeT (rs := [7, 19]) (by kernel_rfl) (by simp) ?_
          intro i hi
          simp only [List.mem_cons, List.not_mem_nil, or_false] at hi
          rcases hi with rfl | rfl
          · obtain ⟨w36, e36⟩ : ∃ w36, w36 = w35.alloc (.cells #[.int .i64 0] 3) := ⟨_, rfl⟩
            have s36 := s35.newBox e36
            refine Dk.op_value (v := .slice (some ⟨w35.heap.size, 0, none⟩) 1 1) (w' := w36) (some 30) rfl rfl rfl (by rw [← hA]; (try simp only [Act.put, List.setIfInBounds_toArray, List.set_cons_succ, List.set_cons_zero]); rw [e36]; go_simp) ⟨fun _ => fx _ _ s36 (by simp), ?_⟩
            refine Dk.nodeT (rs := [8, 19]) (by kernel_rfl) (by simp) ?_
            intro i hi
            simp only [List.mem_cons, List.not_mem_nil, or_false] at hi
            rcases hi with rfl | rfl
            · have hb37 : Dk.Box w36 w35.heap.size #[.int .i64 0] 3 := s36.box (by simp)
              obtain ⟨aa0, l0, c0, w37, r37, s37⟩ := Dk.Sep.appendBox (us1 := [Dk.boxOf w35.heap.size #[.int .i64 0] 3, Dk.boxOf Wd.heap.size #[.bool false] 4, Dk.boxOf bm #[.slice A0 L0 C0, .slice A1 L1 C1, .slice A2 L2 C2, v3, v4, v5] 37]) (us2 := Dk.rowOf 4 1 (.slice A1 L1 C1) Hd.length (Dk.bv Hd) :: Dk.nestOf 22 3 1 Dk.is (.slice A2 L2 C2) hv Wt :: Dk.nestOf 38 40 2 Dk.pr2 v3 cv Cd :: Dk.rowOf 3 1 v4 Ct.length (Dk.is Ct) :: Dk.nestOf 22 3 1 Dk.is v5 dv Dn :: us) K22 s36 hb37 rfl (by omega)
              refine Dk.op_value (v := .slice aa0 l0 c0) (w' := w37) (some 31) rfl rfl rfl (by rw [← hA]; (try simp only [Act.put, List.setIfInBounds_toArray, List.set_cons_succ, List.set_cons_zero]); simp only [execOp, resolve, invoke, builtin]; simp [Act.eval, r37]) ⟨fun _ => fx _ _ s37 (by simp), ?_⟩
              refine Dk.nodeT (rs := [14, 19]) (by kernel_rfl) (by simp) ?_
              intro i hi
              simp only [List.mem_cons, List.not_mem_nil, or_false] at hi
              rcases hi with rfl | rfl
              · have hb38 : Dk.Box w37 Wd.heap.size #[.bool false] 4 := s37.box (by simp)
                obtain ⟨aa1, l1, c1, w38, r38, s38⟩ := Dk.Sep.appendBox (us1 := [Dk.boxOf w35.heap.size #[.int .i64 0] 3, Dk.boxOf Wd.heap.size #[.bool false] 4, Dk.boxOf bm #[.slice A0 L0 C0, .slice A1 L1 C1, .slice A2 L2 C2, v3, v4, v5] 37, Dk.rowOf 3 1 (.slice aa0 l0 c0) (O.length + 1) (Dk.is O ++ [.int .i64 0])]) (us2 := Dk.nestOf 22 3 1 Dk.is (.slice A2 L2 C2) hv Wt :: Dk.nestOf 38 40 2 Dk.pr2 v3 cv Cd :: Dk.rowOf 3 1 v4 Ct.length (Dk.is Ct) :: Dk.nestOf 22 3 1 Dk.is v5 dv Dn :: us) K33 s37 hb38 rfl (by omega)
                refine Dk.op_value (v := .slice aa1 l1 c1) (w' := w38) (some 37) rfl rfl rfl (by rw [← hA]; (try simp only [Act.put, List.setIfInBounds_toArray, List.set_cons_succ, List.set_cons_zero]); simp only [execOp, resolve, invoke, builtin]; simp [Act.eval, r38]) ⟨fun _ => fx _ _ s38 (by simp), ?_⟩
                refine Dk.nodeT (rs := [19]) (by kernel_rfl) (by simp) ?_
                intro i hi
                simp only [List.mem_cons, List.not_mem_nil, or_false] at hi
                subst hi
                obtain ⟨w39, e39⟩ : ∃ w39, w39 = w38.alloc (.cells #[.slice none 0 0] 22) := ⟨_, rfl⟩
                have s39 := s38.newBox e39
                refine Dk.op_value (v := .slice (some ⟨w38.heap.size, 0, none⟩) 1 1) (w' := w39) (some 42) rfl rfl rfl (by rw [← hA]; (try simp only [Act.put, List.setIfInBounds_toArray, List.set_cons_succ, List.set_cons_zero]); rw [e39]; go_simp) ⟨fun _ => fx _ _ s39 (by simp), ?_⟩
                refine Dk.nodeT (rs := [20]) (by kernel_rfl) (by simp) ?_
                intro i hi
                simp only [List.mem_cons, List.not_mem_nil, or_false] at hi
                subst hi
                have hb40 : Dk.Box w39 w38.heap.size #[.slice none 0 0] 22 := s39.box (by simp)
                obtain ⟨aa2, l2, c2, w40, r40, s40⟩ := Dk.Sep.nestGrow (us1 := [Dk.boxOf w38.heap.size #[.slice none 0 0] 22, Dk.boxOf w35.heap.size #[.int .i64 0] 3, Dk.boxOf Wd.heap.size #[.bool false] 4, Dk.boxOf bm #[.slice A0 L0 C0, .slice A1 L1 C1, .slice A2 L2 C2, v3, v4, v5] 37, Dk.rowOf 3 1 (.slice aa0 l0 c0) (O.length + 1) (Dk.is O ++ [.int .i64 0]), Dk.rowOf 4 1 (.slice aa1 l1 c1) (Hd.length + 1) (Dk.bv Hd ++ [.bool false])]) (us2 := Dk.nestOf 38 40 2 Dk.pr2 v3 cv Cd :: Dk.rowOf 3 1 v4 Ct.length (Dk.is Ct) :: Dk.nestOf 22 3 1 Dk.is v5 dv Dn :: us) K34 s39 hb40 rfl (by omega)
                refine Dk.op_value (v := .slice aa2 l2 c2) (w' := w40) (some 43) rfl rfl rfl (by rw [← hA]; (try simp only [Act.put, List.setIfInBounds_toArray, List.set_cons_succ, List.set_cons_zero]); simp only [execOp, resolve, invoke, builtin]; simp [Act.eval, r40]) ⟨fun _ => fx _ _ s40 (by simp), ?_⟩
                refine ⟨by kernel_rfl, .slice (some ⟨w35.heap.size, 0, none⟩) 1 1, .slice (some ⟨Wd.heap.size, 0, none⟩) 1 1, .slice (some ⟨w38.heap.size, 0, none⟩) 1 1, aa0, l0, c0, aa1, l1, c1, aa2, l2, c2, ?_, s40.sub ?_⟩
                · subst hA
                  first | rfl | (simp only [Act.put, List.setIfInBounds_toArray, List.set_cons_succ, List.set_cons_zero])
                · exact List.sublist_append_right [_, _, _] _
              · obtain ⟨w41, e41⟩ : ∃ w41, w41 = w37.alloc (.cells #[.slice none 0 0] 22) := ⟨_, rfl⟩
                have s41 := s37.newBox e41
                refine Dk.op_value (v := .slice (some ⟨w37.heap.size, 0, none⟩) 1 1) (w' := w41) (some 42) rfl rfl rfl (by rw [← hA]; (try simp only [Act.put, List.setIfInBounds_toArray, List.set_cons_succ, List.set_cons_zero]); rw [e41]; go_simp) ⟨fun _ => fx _ _ s41 (by simp), ?_⟩
                refine Dk.nodeT (rs := [14]) (by kernel_rfl) (by simp) ?_
                intro i hi
                simp only [List.mem_cons, List.not_mem_nil, or_false] at hi
                subst hi
                have hb42 : Dk.Box w41 Wd.heap.size #[.bool false] 4 := s41.box (by simp)
                obtain ⟨aa1, l1, c1, w42, r42, s42⟩ := Dk.Sep.appendBox (us1 := [Dk.boxOf w37.heap.size #[.slice none 0 0] 22, Dk.boxOf w35.heap.size #[.int .i64 0] 3, Dk.boxOf Wd.heap.size #[.bool false] 4, Dk.boxOf bm #[.slice A0 L0 C0, .slice A1 L1 C1, .slice A2 L2 C2, v3, v4, v5] 37, Dk.rowOf 3 1 (.slice aa0 l0 c0) (O.length + 1) (Dk.is O ++ [.int .i64 0])]) (us2 := Dk.nestOf 22 3 1 Dk.is (.slice A2 L2 C2) hv Wt :: Dk.nestOf 38 40 2 Dk.pr2 v3 cv Cd :: Dk.rowOf 3 1 v4 Ct.length (Dk.is Ct) :: Dk.nestOf 22 3 1 Dk.is v5 dv Dn :: us) K33 s41 hb42 rfl (by omega)
                refine Dk.op_value (v := .slice aa1 l1 c1) (w' := w42) (some 37) rfl rfl rfl (by rw [← hA]; (try simp only [Act.put, List.setIfInBounds_toArray, List.set_cons_succ, List.set_cons_zero]); simp only [execOp, resolve, invoke, builtin]; simp [Act.eval, r42]) ⟨fun _ => fx _ _ s42 (by simp), ?_⟩
                refine Dk.nodeT (rs := [20]) (by kernel_rfl) (by simp) ?_
                intro i hi
                simp only [List.mem_cons, List.not_mem_nil, or_false] at hi
                subst hi
                have hb43 : Dk.Box w42 w37.heap.size #[.slice none 0 0] 22 := s42.box (by simp)
                obtain ⟨aa2, l2, c2, w43, r43, s43⟩ := Dk.Sep.nestGrow (us1 := [Dk.boxOf w37.heap.size #[.slice none 0 0] 22, Dk.boxOf w35.heap.size #[.int .i64 0] 3, Dk.boxOf Wd.heap.size #[.bool false] 4, Dk.boxOf bm #[.slice A0 L0 C0, .slice A1 L1 C1, .slice A2 L2 C2, v3, v4, v5] 37, Dk.rowOf 3 1 (.slice aa0 l0 c0) (O.length + 1) (Dk.is O ++ [.int .i64 0]), Dk.rowOf 4 1 (.slice aa1 l1 c1) (Hd.length + 1) (Dk.bv Hd ++ [.bool false])]) (us2 := Dk.nestOf 38 40 2 Dk.pr2 v3 cv Cd :: Dk.rowOf 3 1 v4 Ct.length (Dk.is Ct) :: Dk.nestOf 22 3 1 Dk.is v5 dv Dn :: us) K34 s42 hb43 rfl (by omega)
                refine Dk.op_value (v := .slice aa2 l2 c2) (w' := w43) (some 43) rfl rfl rfl (by rw [← hA]; (try simp only [Act.put, List.setIfInBounds_toArray, List.set_cons_succ, List.set_cons_zero]); simp only [execOp, resolve, invoke, builtin]; simp [Act.eval, r43]) ⟨fun _ => fx _ _ s43 (by simp), ?_⟩
                refine ⟨by kernel_rfl, .slice (some ⟨w35.heap.size, 0, none⟩) 1 1, .slice (some ⟨Wd.heap.size, 0, none⟩) 1 1, .slice (some ⟨w37.heap.size, 0, none⟩) 1 1, aa0, l0, c0, aa1, l1, c1, aa2, l2, c2, ?_, s43.sub ?_⟩
                · subst hA
                  first | rfl | (simp only [Act.put, List.setIfInBounds_toArray, List.set_cons_succ, List.set_cons_zero])
                · exact List.sublist_append_right [_, _, _] _
            · obtain ⟨w44, e44⟩ : ∃ w44, w44 = w36.alloc (.cells #[.slice none 0 0] 22) := ⟨_, rfl⟩
              have s44 := s36.newBox e44
              refine Dk.op_value (v := .slice (some ⟨w36.heap.size, 0, none⟩) 1 1) (w' := w44) (some 42) rfl rfl rfl (by rw [← hA]; (try simp only [Act.put, List.setIfInBounds_toArray, List.set_cons_succ, List.set_cons_zero]); rw [e44]; go_simp) ⟨fun _ => fx _ _ s44 (by simp), ?_⟩
              refine Dk.nodeT (rs := [8]) (by kernel_rfl) (by simp) ?_
              intro i hi
              simp only [List.mem_cons, List.not_mem_nil, or_false] at hi
              subst hi
              have hb45 : Dk.Box w44 w35.heap.size #[.int .i64 0] 3 := s44.box (by simp)
              obtain ⟨aa0, l0, c0, w45, r45, s45⟩ := Dk.Sep.appendBox (us1 := [Dk.boxOf w36.heap.size #[.slice none 0 0] 22, Dk.boxOf w35.heap.size #[.int .i64 0] 3, Dk.boxOf Wd.heap.size #[.bool false] 4, Dk.boxOf bm #[.slice A0 L0 C0, .slice A1 L1 C1, .slice A2 L2 C2, v3, v4, v5] 37]) (us2 := Dk.rowOf 4 1 (.slice A1 L1 C1) Hd.length (Dk.bv Hd) :: Dk.nestOf 22 3 1 Dk.is (.slice A2 L2 C2) hv Wt :: Dk.nestOf 38 40 2 Dk.pr2 v3 cv Cd :: Dk.rowOf 3 1 v4 Ct.length (Dk.is Ct) :: Dk.nestOf 22 3 1 Dk.is v5 dv Dn :: us) K22 s44 hb45 rfl (by omega)
              refine Dk.op_value (v := .slice aa0 l0 c0) (w' := w45) (some 31) rfl rfl rfl (by rw [← hA]; (try simp only [Act.put, List.setIfInBounds_toArray, List.set_cons_succ, List.set_cons_zero]); simp only [execOp, resolve, invoke, builtin]; simp [Act.eval, r45]) ⟨fun _ => fx _ _ s45 (by simp), ?_⟩
              refine Dk.nodeT (rs := [14]) (by kernel_rfl) (by simp) ?_
              intro i hi
              simp only [List.mem_cons, List.not_mem_nil, or_false] at hi
              subst hi
              have hb46 : Dk.Box w45 Wd.heap.size #[.bool false] 4 := s45.box (by simp)
              obtain ⟨aa1, l1, c1, w46, r46, s46⟩ := Dk.Sep.appendBox (us1 := [Dk.boxOf w36.heap.size #[.slice none 0 0] 22, Dk.boxOf w35.heap.size #[.int .i64 0] 3, Dk.boxOf Wd.heap.size #[.bool false] 4, Dk.boxOf bm #[.slice A0 L0 C0, .slice A1 L1 C1, .slice A2 L2 C2, v3, v4, v5] 37, Dk.rowOf 3 1 (.slice aa0 l0 c0) (O.length + 1) (Dk.is O ++ [.int .i64 0])]) (us2 := Dk.nestOf 22 3 1 Dk.is (.slice A2 L2 C2) hv Wt :: Dk.nestOf 38 40 2 Dk.pr2 v3 cv Cd :: Dk.rowOf 3 1 v4 Ct.length (Dk.is Ct) :: Dk.nestOf 22 3 1 Dk.is v5 dv Dn :: us) K33 s45 hb46 rfl (by omega)
              refine Dk.op_value (v := .slice aa1 l1 c1) (w' := w46) (some 37) rfl rfl rfl (by rw [← hA]; (try simp only [Act.put, List.setIfInBounds_toArray, List.set_cons_succ, List.set_cons_zero]); simp only [execOp, resolve, invoke, builtin]; simp [Act.eval, r46]) ⟨fun _ => fx _ _ s46 (by simp), ?_⟩
              refine Dk.nodeT (rs := [20]) (by kernel_rfl) (by simp) ?_
              intro i hi
              simp only [List.mem_cons, List.not_mem_nil, or_false] at hi
              subst hi
              have hb47 : Dk.Box w46 w36.heap.size #[.slice none 0 0] 22 := s46.box (by simp)
              obtain ⟨aa2, l2, c2, w47, r47, s47⟩ := Dk.Sep.nestGrow (us1 := [Dk.boxOf w36.heap.size #[.slice none 0 0] 22, Dk.boxOf w35.heap.size #[.int .i64 0] 3, Dk.boxOf Wd.heap.size #[.bool false] 4, Dk.boxOf bm #[.slice A0 L0 C0, .slice A1 L1 C1, .slice A2 L2 C2, v3, v4, v5] 37, Dk.rowOf 3 1 (.slice aa0 l0 c0) (O.length + 1) (Dk.is O ++ [.int .i64 0]), Dk.rowOf 4 1 (.slice aa1 l1 c1) (Hd.length + 1) (Dk.bv Hd ++ [.bool false])]) (us2 := Dk.nestOf 38 40 2 Dk.pr2 v3 cv Cd :: Dk.rowOf 3 1 v4 Ct.length (Dk.is Ct) :: Dk.nestOf 22 3 1 Dk.is v5 dv Dn :: us) K34 s46 hb47 rfl (by omega)
              refine Dk.op_value (v := .slice aa2 l2 c2) (w' := w47) (some 43) rfl rfl rfl (by rw [← hA]; (try simp only [Act.put, List.setIfInBounds_toArray, List.set_cons_succ, List.set_cons_zero]); simp only [execOp, resolve, invoke, builtin]; simp [Act.eval, r47]) ⟨fun _ => fx _ _ s47 (by simp), ?_⟩
              refine ⟨by kernel_rfl, .slice (some ⟨w35.heap.size, 0, none⟩) 1 1, .slice (some ⟨Wd.heap.size, 0, none⟩) 1 1, .slice (some ⟨w36.heap.size, 0, none⟩) 1 1, aa0, l0, c0, aa1, l1, c1, aa2, l2, c2, ?_, s47.sub ?_⟩
              · subst hA
                first | rfl | (simp only [Act.put, List.setIfInBounds_toArray, List.set_cons_succ, List.set_cons_zero])
              · exact List.sublist_append_right [_, _, _] _
          · obtain ⟨w48, e48⟩ : ∃ w48, w48 = w35.alloc (.cells #[.slice none 0 0] 22) := ⟨_, rfl⟩
            have s48 := s35.newBox e48
            refine Dk.op_value (v := .slice (some ⟨w35.heap.size, 0, none⟩) 1 1) (w' := w48) (some 42) rfl rfl rfl (by rw [← hA]; (try simp only [Act.put, List.setIfInBounds_toArray, List.set_cons_succ, List.set_cons_zero]); rw [e48]; go_simp) ⟨fun _ => fx _ _ s48 (by simp), ?_⟩
            refine Dk.nodeT (rs := [7]) (by kernel_rfl) (by simp) ?_
            intro i hi
            simp only [List.mem_cons, List.not_mem_nil, or_false] at hi
            subst hi
            obtain ⟨w49, e49⟩ : ∃ w49, w49 = w48.alloc (.cells #[.int .i64 0] 3) := ⟨_, rfl⟩
            have s49 := s48.newBox e49
            refine Dk.op_value (v := .slice (some ⟨w48.heap.size, 0, none⟩) 1 1) (w' := w49) (some 30) rfl rfl rfl (by rw [← hA]; (try simp only [Act.put, List.setIfInBounds_toArray, List.set_cons_succ, List.set_cons_zero]); rw [e49]; go_simp) ⟨fun _ => fx _ _ s49 (by simp), ?_⟩
            refine Dk.nodeT (rs := [8]) (by kernel_rfl) (by simp) ?_
            intro i hi
            simp only [List.mem_cons, List.not_mem_nil, or_false] at hi
            subst hi
            have hb50 : Dk.Box w49 w48.heap.size #[.int .i64 0] 3 := s49.box (by simp)
            obtain ⟨aa0, l0, c0, w50, r50, s50⟩ := Dk.Sep.appendBox (us1 := [Dk.boxOf w48.heap.size #[.int .i64 0] 3, Dk.boxOf w35.heap.size #[.slice none 0 0] 22, Dk.boxOf Wd.heap.size #[.bool false] 4, Dk.boxOf bm #[.slice A0 L0 C0, .slice A1 L1 C1, .slice A2 L2 C2, v3, v4, v5] 37]) (us2 := Dk.rowOf 4 1 (.slice A1 L1 C1) Hd.length (Dk.bv Hd) :: Dk.nestOf 22 3 1 Dk.is (.slice A2 L2 C2) hv Wt :: Dk.nestOf 38 40 2 Dk.pr2 v3 cv Cd :: Dk.rowOf 3 1 v4 Ct.length (Dk.is Ct) :: Dk.nestOf 22 3 1 Dk.is v5 dv Dn :: us) K22 s49 hb50 rfl (by omega)
            refine Dk.op_value (v := .slice aa0 l0 c0) (w' := w50) (some 31) rfl rfl rfl (by rw [← hA]; (try simp only [Act.put, List.setIfInBounds_toArray, List.set_cons_succ, List.set_cons_zero]); simp only [execOp, resolve, invoke, builtin]; simp [Act.eval, r50]) ⟨fun _ => fx _ _ s50 (by simp), ?_⟩
            refine Dk.nodeT (rs := [14]) (by kernel_rfl) (by simp) ?_
            intro i hi
            simp only [List.mem_cons, List.not_mem_nil, or_false] at hi
            subst hi
            have hb51 : Dk.Box w50 Wd.heap.size #[.bool false] 4 := s50.box (by simp)
            obtain ⟨aa1, l1, c1, w51, r51, s51⟩ := Dk.Sep.appendBox (us1 := [Dk.boxOf w48.heap.size #[.int .i64 0] 3, Dk.boxOf w35.heap.size #[.slice none 0 0] 22, Dk.boxOf Wd.heap.size #[.bool false] 4, Dk.boxOf bm #[.slice A0 L0 C0, .slice A1 L1 C1, .slice A2 L2 C2, v3, v4, v5] 37, Dk.rowOf 3 1 (.slice aa0 l0 c0) (O.length + 1) (Dk.is O ++ [.int .i64 0])]) (us2 := Dk.nestOf 22 3 1 Dk.is (.slice A2 L2 C2) hv Wt :: Dk.nestOf 38 40 2 Dk.pr2 v3 cv Cd :: Dk.rowOf 3 1 v4 Ct.length (Dk.is Ct) :: Dk.nestOf 22 3 1 Dk.is v5 dv Dn :: us) K33 s50 hb51 rfl (by omega)
            refine Dk.op_value (v := .slice aa1 l1 c1) (w' := w51) (some 37) rfl rfl rfl (by rw [← hA]; (try simp only [Act.put, List.setIfInBounds_toArray, List.set_cons_succ, List.set_cons_zero]); simp only [execOp, resolve, invoke, builtin]; simp [Act.eval, r51]) ⟨fun _ => fx _ _ s51 (by simp), ?_⟩
            refine Dk.nodeT (rs := [20]) (by kernel_rfl) (by simp) ?_
            intro i hi
            simp only [List.mem_cons, List.not_mem_nil, or_false] at hi
            subst hi
            have hb52 : Dk.Box w51 w35.heap.size #[.slice none 0 0] 22 := s51.box (by simp)
            obtain ⟨aa2, l2, c2, w52, r52, s52⟩ := Dk.Sep.nestGrow (us1 := [Dk.boxOf w48.heap.size #[.int .i64 0] 3, Dk.boxOf w35.heap.size #[.slice none 0 0] 22, Dk.boxOf Wd.heap.size #[.bool false] 4, Dk.boxOf bm #[.slice A0 L0 C0, .slice A1 L1 C1, .slice A2 L2 C2, v3, v4, v5] 37, Dk.rowOf 3 1 (.slice aa0 l0 c0) (O.length + 1) (Dk.is O ++ [.int .i64 0]), Dk.rowOf 4 1 (.slice aa1 l1 c1) (Hd.length + 1) (Dk.bv Hd ++ [.bool false])]) (us2 := Dk.nestOf 38 40 2 Dk.pr2 v3 cv Cd :: Dk.rowOf 3 1 v4 Ct.length (Dk.is Ct) :: Dk.nestOf 22 3 1 Dk.is v5 dv Dn :: us) K34 s51 hb52 rfl (by omega)
            refine Dk.op_value (v := .slice aa2 l2 c2) (w' := w52) (some 43) rfl rfl rfl (by rw [← hA]; (try simp only [Act.put, List.setIfInBounds_toArray, List.set_cons_succ, List.set_cons_zero]); simp only [execOp, resolve, invoke, builtin]; simp [Act.eval, r52]) ⟨fun _ => fx _ _ s52 (by simp), ?_⟩
            refine ⟨by kernel_rfl, .slice (some ⟨w48.heap.size, 0, none⟩) 1 1, .slice (some ⟨Wd.heap.size, 0, none⟩) 1 1, .slice (some ⟨w35.heap.size, 0, none⟩) 1 1, aa0, l0, c0, aa1, l1, c1, aa2, l2, c2, ?_, s52.sub ?_⟩
            · subst hA
              first | rfl | (simp only [Act.put, List.setIfInBounds_toArray, List.set_cons_succ, List.set_cons_zero])
            · exact List.sublist_append_right [_, _, _] _
        · obtain ⟨w53, e53⟩ : ∃ w53, w53 = Wd.alloc (.cells #[.slice none 0 0] 22) := ⟨_, rfl⟩
          have s53 := sd.newBox e53
          refine Dk.op_value (v := .slice (some ⟨Wd.heap.size, 0, none⟩) 1 1) (w' := w53) (some 42) rfl rfl rfl (by rw [← hA]; (try simp only [Act.put, List.setIfInBounds_toArray, List.set_cons_succ, List.set_cons_zero]); rw [e53]; go_simp) ⟨fun _ => fx _ _ s53 (by simp), ?_⟩
          refine Dk.nodeT (rs := [7, 13]) (by kernel_rfl) (by simp) ?_
          intro i hi
          simp only [List.mem_cons, List.not_mem_nil, or_false] at hi
          rcases hi with rfl | rfl
          · obtain ⟨w54, e54⟩ : ∃ w54, w54 = w53.alloc (.cells #[.int .i64 0] 3) := ⟨_, rfl⟩
            have s54 := s53.newBox e54
            refine Dk.op_value (v := .slice (some ⟨w53.heap.size, 0, none⟩) 1 1) (w' := w54) (some 30) rfl rfl rfl (by rw [← hA]; (try simp only [Act.put, List.setIfInBounds_toArray, List.set_cons_succ, List.set_cons_zero]); rw [e54]; go_simp) ⟨fun _ => fx _ _ s54 (by simp), ?_⟩
            refine Dk.nodeT (rs := [8, 13]) (by kernel_rfl) (by simp) ?_
            intro i hi
            simp only [List.mem_cons, List.not_mem_nil, or_false] at hi
            rcases hi with rfl | rfl
            · have hb55 : Dk.Box w54 w53.heap.size #[.int .i64 0] 3 := s54.box (by simp)
              obtain ⟨aa0, l0, c0, w55, r55, s55⟩ := Dk.Sep.appendBox (us1 := [Dk.boxOf w53.heap.size #[.int .i64 0] 3, Dk.boxOf Wd.heap.size #[.slice none 0 0] 22, Dk.boxOf bm #[.slice A0 L0 C0, .slice A1 L1 C1, .slice A2 L2 C2, v3, v4, v5] 37]) (us2 := Dk.rowOf 4 1 (.slice A1 L1 C1) Hd.length (Dk.bv Hd) :: Dk.nestOf 22 3 1 Dk.is (.slice A2 L2 C2) hv Wt :: Dk.nestOf 38 40 2 Dk.pr2 v3 cv Cd :: Dk.rowOf 3 1 v4 Ct.length (Dk.is Ct) :: Dk.nestOf 22 3 1 Dk.is v5 dv Dn :: us) K22 s54 hb55 rfl (by omega)
              refine Dk.op_value (v := .slice aa0 l0 c0) (w' := w55) (some 31) rfl rfl rfl (by rw [← hA]; (try simp only [Act.put, List.setIfInBounds_toArray, List.set_cons_succ, List.set_cons_zero]); simp only [execOp, resolve, invoke, builtin]; simp [Act.eval, r55]) ⟨fun _ => fx _ _ s55 (by simp), ?_⟩
              refine Dk.nodeT (rs := [13]) (by kernel_rfl) (by simp) ?_
              intro i hi
              simp only [List.mem_cons, List.not_mem_nil, or_false] at hi
              subst hi
              obtain ⟨w56, e56⟩ : ∃ w56, w56 = w55.alloc (.cells #[.bool false] 4) := ⟨_, rfl⟩
              have s56 := s55.newBox e56
              refine Dk.op_value (v := .slice (some ⟨w55.heap.size, 0, none⟩) 1 1) (w' := w56) (some 36) rfl rfl rfl (by rw [← hA]; (try simp only [Act.put, List.setIfInBounds_toArray, List.set_cons_succ, List.set_cons_zero]); rw [e56]; go_simp) ⟨fun _ => fx _ _ s56 (by simp), ?_⟩
              refine Dk.nodeT (rs := [14]) (by kernel_rfl) (by simp) ?_
              intro i hi
              simp only [List.mem_cons, List.not_mem_nil, or_false] at hi
              subst hi
              have hb57 : Dk.Box w56 w55.heap.size #[.bool false] 4 := s56.box (by simp)
              obtain ⟨aa1, l1, c1, w57, r57, s57⟩ := Dk.Sep.appendBox (us1 := [Dk.boxOf w55.heap.size #[.bool false] 4, Dk.boxOf w53.heap.size #[.int .i64 0] 3, Dk.boxOf Wd.heap.size #[.slice none 0 0] 22, Dk.boxOf bm #[.slice A0 L0 C0, .slice A1 L1 C1, .slice A2 L2 C2, v3, v4, v5] 37, Dk.rowOf 3 1 (.slice aa0 l0 c0) (O.length + 1) (Dk.is O ++ [.int .i64 0])]) (us2 := Dk.nestOf 22 3 1 Dk.is (.slice A2 L2 C2) hv Wt :: Dk.nestOf 38 40 2 Dk.pr2 v3 cv Cd :: Dk.rowOf 3 1 v4 Ct.length (Dk.is Ct) :: Dk.nestOf 22 3 1 Dk.is v5 dv Dn :: us) K33 s56 hb57 rfl (by omega)
              refine Dk.op_value (v := .slice aa1 l1 c1) (w' := w57) (some 37) rfl rfl rfl (by rw [← hA]; (try simp only [Act.put, List.setIfInBounds_toArray, List.set_cons_succ, List.set_cons_zero]); simp only [execOp, resolve, invoke, builtin]; simp [Act.eval, r57]) ⟨fun _ => fx _ _ s57 (by simp), ?_⟩
              refine Dk.nodeT (rs := [20]) (by kernel_rfl) (by simp) ?_
              intro i hi
              simp only [List.mem_cons, List.not_mem_nil, or_false] at hi
              subst hi
              have hb58 : Dk.Box w57 Wd.heap.size #[.slice none 0 0] 22 := s57.box (by simp)
              obtain ⟨aa2, l2, c2, w58, r58, s58⟩ := Dk.Sep.nestGrow (us1 := [Dk.boxOf w55.heap.size #[.bool false] 4, Dk.boxOf w53.heap.size #[.int .i64 0] 3, Dk.boxOf Wd.heap.size #[.slice none 0 0] 22, Dk.boxOf bm #[.slice A0 L0 C0, .slice A1 L1 C1, .slice A2 L2 C2, v3, v4, v5] 37, Dk.rowOf 3 1 (.slice aa0 l0 c0) (O.length + 1) (Dk.is O ++ [.int .i64 0]), Dk.rowOf 4 1 (.slice aa1 l1 c1) (Hd.length + 1) (Dk.bv Hd ++ [.bool false])]) (us2 := Dk.nestOf 38 40 2 Dk.pr2 v3 cv Cd :: Dk.rowOf 3 1 v4 Ct.length (Dk.is Ct) :: Dk.nestOf 22 3 1 Dk.is v5 dv Dn :: us) K34 s57 hb58 rfl (by omega)
              refine Dk.op_value (v := .slice aa2 l2 c2) (w' := w58) (some 43) rfl rfl rfl (by rw [← hA]; (try simp only [Act.put, List.setIfInBounds_toArray, List.set_cons_succ, List.set_cons_zero]); simp only [execOp, resolve, invoke, builtin]; simp [Act.eval, r58]) ⟨fun _ => fx _ _ s58 (by simp), ?_⟩
              refine ⟨by kernel_rfl, .slice (some ⟨w53.heap.size, 0, none⟩) 1 1, .slice (some ⟨w55.heap.size, 0, none⟩) 1 1, .slice (some ⟨Wd.heap.size, 0, none⟩) 1 1, aa0, l0, c0, aa1, l1, c1, aa2, l2, c2, ?_, s58.sub ?_⟩
              · subst hA
                first | rfl | (simp only [Act.put, List.setIfInBounds_toArray, List.set_cons_succ, List.set_cons_zero])
              · exact List.sublist_append_right [_, _, _] _
            · obtain ⟨w59, e59⟩ : ∃ w59, w59 = w54.alloc (.cells #[.bool false] 4) := ⟨_, rfl⟩
              have s59 := s54.newBox e59
              refine Dk.op_value (v := .slice (some ⟨w54.heap.size, 0, none⟩) 1 1) (w' := w59) (some 36) rfl rfl rfl (by rw [← hA]; (try simp only [Act.put, List.setIfInBounds_toArray, List.set_cons_succ, List.set_cons_zero]); rw [e59]; go_simp) ⟨fun _ => fx _ _ s59 (by simp), ?_⟩
              refine Dk.nodeT (rs := [8]) (by kernel_rfl) (by simp) ?_
              intro i hi
              simp only [List.mem_cons, List.not_mem_nil, or_false] at hi
              subst hi
              have hb60 : Dk.Box w59 w53.heap.size #[.int .i64 0] 3 := s59.box (by simp)
              obtain ⟨aa0, l0, c0, w60, r60, s60⟩ := Dk.Sep.appendBox (us1 := [Dk.boxOf w54.heap.size #[.bool false] 4, Dk.boxOf w53.heap.size #[.int .i64 0] 3, Dk.boxOf Wd.heap.size #[.slice none 0 0] 22, Dk.boxOf bm #[.slice A0 L0 C0, .slice A1 L1 C1, .slice A2 L2 C2, v3, v4, v5] 37]) (us2 := Dk.rowOf 4 1 (.slice A1 L1 C1) Hd.length (Dk.bv Hd) :: Dk.nestOf 22 3 1 Dk.is (.slice A2 L2 C2) hv Wt :: Dk.nestOf 38 40 2 Dk.pr2 v3 cv Cd :: Dk.rowOf 3 1 v4 Ct.length (Dk.is Ct) :: Dk.nestOf 22 3 1 Dk.is v5 dv Dn :: us) K22 s59 hb60 rfl (by omega)
              refine Dk.op_value (v := .slice aa0 l0 c0) (w' := w60) (some 31) rfl rfl rfl (by rw [← hA]; (try simp only [Act.put, List.setIfInBounds_toArray, List.set_cons_succ, List.set_cons_zero]); simp only [execOp, resolve, invoke, builtin]; simp [Act.eval, r60]) ⟨fun _ => fx _ _ s60 (by simp), ?_⟩
              refine Dk.nodeT (rs := [14]) (by kernel_rfl) (by simp) ?_
              intro i hi
              simp only [List.mem_cons, List.not_mem_nil, or_false] at hi
              subst hi
              have hb61 : Dk.Box w60 w54.heap.size #[.bool false] 4 := s60.box (by simp)
              obtain ⟨aa1, l1, c1, w61, r61, s61⟩ := Dk.Sep.appendBox (us1 := [Dk.boxOf w54.heap.size #[.bool false] 4, Dk.boxOf w53.heap.size #[.int .i64 0] 3, Dk.boxOf Wd.heap.size #[.slice none 0 0] 22, Dk.boxOf bm #[.slice A0 L0 C0, .slice A1 L1 C1, .slice A2 L2 C2, v3, v4, v5] 37, Dk.rowOf 3 1 (.slice aa0 l0 c0) (O.length + 1) (Dk.is O ++ [.int .i64 0])]) (us2 := Dk.nestOf 22 3 1 Dk.is (.slice A2 L2 C2) hv Wt :: Dk.nestOf 38 40 2 Dk.pr2 v3 cv Cd :: Dk.rowOf 3 1 v4 Ct.length (Dk.is Ct) :: Dk.nestOf 22 3 1 Dk.is v5 dv Dn :: us) K33 s60 hb61 rfl (by omega)
              refine Dk.op_value (v := .slice aa1 l1 c1) (w' := w61) (some 37) rfl rfl rfl (by rw [← hA]; (try simp only [Act.put, List.setIfInBounds_toArray, List.set_cons_succ, List.set_cons_zero]); simp only [execOp, resolve, invoke, builtin]; simp [Act.eval, r61]) ⟨fun _ => fx _ _ s61 (by simp), ?_⟩
              refine Dk.nodeT (rs := [20]) (by kernel_rfl) (by simp) ?_
              intro i hi
              simp only [List.mem_cons, List.not_mem_nil, or_false] at hi
              subst hi
              have hb62 : Dk.Box w61 Wd.heap.size #[.slice none 0 0] 22 := s61.box (by simp)
              obtain ⟨aa2, l2, c2, w62, r62, s62⟩ := Dk.Sep.nestGrow (us1 := [Dk.boxOf w54.heap.size #[.bool false] 4, Dk.boxOf w53.heap.size #[.int .i64 0] 3, Dk.boxOf Wd.heap.size #[.slice none 0 0] 22, Dk.boxOf bm #[.slice A0 L0 C0, .slice A1 L1 C1, .slice A2 L2 C2, v3, v4, v5] 37, Dk.rowOf 3 1 (.slice aa0 l0 c0) (O.length + 1) (Dk.is O ++ [.int .i64 0]), Dk.rowOf 4 1 (.slice aa1 l1 c1) (Hd.length + 1) (Dk.bv Hd ++ [.bool false])]) (us2 := Dk.nestOf 38 40 2 Dk.pr2 v3 cv Cd :: Dk.rowOf 3 1 v4 Ct.length (Dk.is Ct) :: Dk.nestOf 22 3 1 Dk.is v5 dv Dn :: us) K34 s61 hb62 rfl (by omega)
              refine Dk.op_value (v := .slice aa2 l2 c2) (w' := w62) (some 43) rfl rfl rfl (by rw [← hA]; (try simp only [Act.put, List.setIfInBounds_toArray, List.set_cons_succ, List.set_cons_zero]); simp only [execOp, resolve, invoke, builtin]; simp [Act.eval, r62]) ⟨fun _ => fx _ _ s62 (by simp), ?_⟩
              refine ⟨by kernel_rfl, .slice (some ⟨w53.heap.size, 0, none⟩) 1 1, .slice (some ⟨w54.heap.size, 0, none⟩) 1 1, .slice (some ⟨Wd.heap.size, 0, none⟩) 1 1, aa0, l0, c0, aa1, l1, c1, aa2, l2, c2, ?_, s62.sub ?_⟩
              · subst hA
                first | rfl | (simp only [Act.put, List.setIfInBounds_toArray, List.set_cons_succ, List.set_cons_zero])
              · exact List.sublist_append_right [_, _, _] _
          · obtain ⟨w63, e63⟩ : ∃ w63, w63 = w53.alloc (.cells #[.bool false] 4) := ⟨_, rfl⟩
            have s63 := s53.newBox e63
            refine Dk.op_value (v := .slice (some ⟨w53.heap.size, 0, none⟩) 1 1) (w' := w63) (some 36) rfl rfl rfl (by rw [← hA]; (try simp only [Act.put, List.setIfInBounds_toArray, List.set_cons_succ, List.set_cons_zero]); rw [e63]; go_simp) ⟨fun _ => fx _ _ s63 (by simp), ?_⟩
            refine Dk.nodeT (rs := [7]) (by kernel_rfl) (by simp) ?_
            intro i hi
            simp only [List.mem_cons, List.not_mem_nil, or_false] at hi
            subst hi
            obtain ⟨w64, e64⟩ : ∃ w64, w64 = w63.alloc (.cells #[.int .i64 0] 3) := ⟨_, rfl⟩
            have s64 := s63.newBox e64
            refine Dk.op_value (v := .slice (some ⟨w63.heap.size, 0, none⟩) 1 1) (w' := w64) (some 30) rfl rfl rfl (by rw [← hA]; (try simp only [Act.put, List.setIfInBounds_toArray, List.set_cons_succ, List.set_cons_zero]); rw [e64]; go_simp) ⟨fun _ => fx _ _ s64 (by simp), ?_⟩
            refine Dk.nodeT (rs := [8]) (by kernel_rfl) (by simp) ?_
            intro i hi
            simp only [List.mem_cons, List.not_mem_nil, or_false] at hi
            subst hi
            have hb65 : Dk.Box w64 w63.heap.size #[.int .i64 0] 3 := s64.box (by simp)
            obtain ⟨aa0, l0, c0, w65, r65, s65⟩ := Dk.Sep.appendBox (us1 := [Dk.boxOf w63.heap.size #[.int .i64 0] 3, Dk.boxOf w53.heap.size #[.bool false] 4, Dk.boxOf Wd.heap.size #[.slice none 0 0] 22, Dk.boxOf bm #[.slice A0 L0 C0, .slice A1 L1 C1, .slice A2 L2 C2, v3, v4, v5] 37]) (us2 := Dk.rowOf 4 1 (.slice A1 L1 C1) Hd.length (Dk.bv Hd) :: Dk.nestOf 22 3 1 Dk.is (.slice A2 L2 C2) hv Wt :: Dk.nestOf 38 40 2 Dk.pr2 v3 cv Cd :: Dk.rowOf 3 1 v4 Ct.length (Dk.is Ct) :: Dk.nestOf 22 3 1 Dk.is v5 dv Dn :: us) K22 s64 hb65 rfl (by omega)
            refine Dk.op_value (v := .slice aa0 l0 c0) (w' := w65) (some 31) rfl rfl rfl (by rw [← hA]; (try simp only [Act.put, List.setIfInBounds_toArray, List.set_cons_succ, List.set_cons_zero]); simp only [execOp, resolve, invoke, builtin]; simp [Act.eval, r65]) ⟨fun _ => fx _ _ s65 (by simp), ?_⟩
            refine Dk.nodeT (rs := [14]) (by kernel_rfl) (by simp) ?_
            intro i hi
            simp only [List.mem_cons, List.not_mem_nil, or_false] at hi
            subst hi
            have hb66 : Dk.Box w65 w53.heap.size #[.bool false] 4 := s65.box (by simp)
            obtain ⟨aa1, l1, c1, w66, r66, s66⟩ := Dk.Sep.appendBox (us1 := [Dk.boxOf w63.heap.size #[.int .i64 0] 3, Dk.boxOf w53.heap.size #[.bool false] 4, Dk.boxOf Wd.heap.size #[.slice none 0 0] 22, Dk.boxOf bm #[.slice A0 L0 C0, .slice A1 L1 C1, .slice A2 L2 C2, v3, v4, v5] 37, Dk.rowOf 3 1 (.slice aa0 l0 c0) (O.length + 1) (Dk.is O ++ [.int .i64 0])]) (us2 := Dk.nestOf 22 3 1 Dk.is (.slice A2 L2 C2) hv Wt :: Dk.nestOf 38 40 2 Dk.pr2 v3 cv Cd :: Dk.rowOf 3 1 v4 Ct.length (Dk.is Ct) :: Dk.nestOf 22 3 1 Dk.is v5 dv Dn :: us) K33 s65 hb66 rfl (by omega)
            refine Dk.op_value (v := .slice aa1 l1 c1) (w' := w66) (some 37) rfl rfl rfl (by rw [← hA]; (try simp only [Act.put, List.setIfInBounds_toArray, List.set_cons_succ, List.set_cons_zero]); simp only [execOp, resolve, invoke, builtin]; simp [Act.eval, r66]) ⟨fun _ => fx _ _ s66 (by simp), ?_⟩
            refine Dk.nodeT (rs := [20]) (by kernel_rfl) (by simp) ?_
            intro i hi
            simp only [List.mem_cons, List.not_mem_nil, or_false] at hi
            subst hi
            have hb67 : Dk.Box w66 Wd.heap.size #[.slice none 0 0] 22 := s66.box (by simp)
            obtain ⟨aa2, l2, c2, w67, r67, s67⟩ := Dk.Sep.nestGrow (us1 := [Dk.boxOf w63.heap.size #[.int .i64 0] 3, Dk.boxOf w53.heap.size #[.bool false] 4, Dk.boxOf Wd.heap.size #[.slice none 0 0] 22, Dk.boxOf bm #[.slice A0 L0 C0, .slice A1 L1 C1, .slice A2 L2 C2, v3, v4, v5] 37, Dk.rowOf 3 1 (.slice aa0 l0 c0) (O.length + 1) (Dk.is O ++ [.int .i64 0]), Dk.rowOf 4 1 (.slice aa1 l1 c1) (Hd.length + 1) (Dk.bv Hd ++ [.bool false])]) (us2 := Dk.nestOf 38 40 2 Dk.pr2 v3 cv Cd :: Dk.rowOf 3 1 v4 Ct.length (Dk.is Ct) :: Dk.nestOf 22 3 1 Dk.is v5 dv Dn :: us) K34 s66 hb67 rfl (by omega)
            refine Dk.op_value (v := .slice aa2 l2 c2) (w' := w67) (some 43) rfl rfl rfl (by rw [← hA]; (try simp only [Act.put, List.setIfInBounds_toArray, List.set_cons_succ, List.set_cons_zero]); simp only [execOp, resolve, invoke, builtin]; simp [Act.eval, r67]) ⟨fun _ => fx _ _ s67 (by simp), ?_⟩
            refine ⟨by kernel_rfl, .slice (some ⟨w63.heap.size, 0, none⟩) 1 1, .slice (some ⟨w53.heap.size, 0, none⟩) 1 1, .slice (some ⟨Wd.heap.size, 0, none⟩) 1 1, aa0, l0, c0, aa1, l1, c1, aa2, l2, c2, ?_, s67.sub ?_⟩
            · subst hA
              first | rfl | (simp only [Act.put, List.setIfInBounds_toArray, List.set_cons_succ, List.set_cons_zero])
            · exact List.sublist_append_right [_, _, _] _
    · have hl2 := mt (Dk.lim_lt mutexes j).2 hlt
      by_cases g1 : (j : Int) < mutexes
      · have y1 : decide ((j : Int) < mutexes) = true := decide_eq_true g1
        have y2 : decide ((j : Int) < 4) = false := decide_eq_false (by omega)
        have y3 : decide (j < 4) = false := decide_eq_false (by omega)
        obtain rfl : j = Dk.lim mutexes := by omega
        go_wp2_with fail
        generalize wr = wq at *
        go_loopw [9] (fun i w' => ∃ (j : Nat) (V : Dk.Vs), j ≤ Dk.lim conds ∧ i = .int .i64 j ∧ Dk.Sep W w' (Dk.mdl bm V ⟨(List.replicate (Dk.lim mutexes) (0 : Int)), (List.replicate (Dk.lim mutexes) false), (List.replicate (Dk.lim mutexes) ([] : List Int)), (List.replicate j ([] : List (Int × Int))), [], []⟩ ++ us)) (fun i w' => Dk.lim conds - (intOf i).toNat)
        case atStart => exact ⟨0, _, Nat.zero_le _, rfl, hT⟩
        case round =>
          obtain ⟨j, V, hj, rfl, hU⟩ := hrel
          clear hT
          by_cases hlt : j < Dk.lim conds
          · have hl2 := (Dk.lim_lt conds j).1 hlt
            have y1 : decide ((j : Int) < conds) = true := decide_eq_true hl2.1
            have y2 : decide ((j : Int) < 4) = true := decide_eq_true (by omega)
            have y3 : decide (j < 4) = true := decide_eq_true (by omega)
            obtain ⟨v0, v1, v2, v3, v4, v5, hv, cv, dv⟩ := V
            obtain ⟨A3, C3, E3, _, _⟩ := hU.nestLen (eh := 38) (e := 40) (s := 2) (f := Dk.pr2) (v := v3) (vs := cv) (xss := (List.replicate j ([] : List (Int × Int)))) (by simp [Dk.mdl])
            have lcd : (List.replicate j ([] : List (Int × Int))).length = j := List.length_replicate
            rw [lcd] at E3
            subst E3
            obtain ⟨W2, e2⟩ : ∃ W2, W2 = wr.alloc (.cells #[.slice none 0 0] 38) := ⟨_, rfl⟩
            have h2 : Dk.Sep W W2 (Dk.boxOf wr.heap.size #[.slice none 0 0] 38 :: tB bm v0 v1 v2 (.slice A3 j C3) v4 v5 :: tO mutexes v0 :: tH mutexes v1 :: tW mutexes v2 hv :: tC j (.slice A3 j C3) cv :: tR ([] : List Int) v4 :: tD ([] : List (List Int)) v5 dv :: us) := hU.newBox e2
            have hb2 : Dk.Box W2 wr.heap.size #[.slice none 0 0] 38 := h2.box (by simp)
            have c0 : W2.cell? ⟨bm, 3, none⟩ = some (.slice A3 j C3) := (h2.box (b := bm) (cs := #[v0, v1, v2, .slice A3 j C3, v4, v5]) (t := 37) (by simp)).cell 3
            have c0' : wr.cell? ⟨bm, 3, none⟩ = some (.slice A3 j C3) := (hU.box (b := bm) (cs := #[v0, v1, v2, .slice A3 j C3, v4, v5]) (t := 37) (by simp [Dk.mdl])).cell 3
            obtain ⟨a3, l3, c3, w3, hrun, h3⟩ := Dk.Sep.nestGrow (us1 := [Dk.boxOf wr.heap.size #[.slice none 0 0] 38, tB bm v0 v1 v2 (.slice A3 j C3) v4 v5, tO mutexes v0, tH mutexes v1, tW mutexes v2 hv]) (us2 := tR ([] : List Int) v4 :: tD ([] : List (List Int)) v5 dv :: us) K35 h2 hb2 rfl (by rw [lcd]; omega)
            have b3 : Dk.Box w3 bm #[v0, v1, v2, .slice A3 j C3, v4, v5] 37 := h3.box (by simp)
            have k3 : w3.cell? ⟨bm, 3, none⟩ = some (.slice A3 j C3) := b3.cell 3
            have f3 : w3.frozen? ⟨bm, 3, none⟩ = false := b3.frozen 3
            obtain ⟨W4, e4⟩ : ∃ W4, W4 = w3.setCell ⟨bm, 3, none⟩ (.slice a3 l3 c3) := ⟨_, rfl⟩
            have h4 := Dk.Sep.setBox (us1 := [_]) (o := 3) h3 (.slice a3 l3 c3)
            have h5 : Dk.Sep W W4 (Dk.mdl bm ⟨v0, v1, v2, .slice a3 l3 c3, v4, v5, hv, cv ++ [.slice none 0 0], dv⟩ ⟨(List.replicate (Dk.lim mutexes) (0 : Int)), (List.replicate (Dk.lim mutexes) false), (List.replicate (Dk.lim mutexes) ([] : List Int)), (List.replicate (j + 1) ([] : List (Int × Int))), [], []⟩ ++ us) := by
              rw [List.replicate_succ', e4]
              exact h4.sub (List.sublist_cons_self _ _)
            have H2 : Hid (wr.alloc (.cells #[.slice none 0 0] 38) = W2) := e2.symm
            have H4 : Hid (w3.setCell ⟨bm, 3, none⟩ (.slice a3 l3 c3) = W4) := e4.symm
            clear h2 h3 h4 hU b3 hb2 e2 e4
            go_wp2_with (first | (rw [H2.out]; clear H2) | (rw [H4.out]; clear H4) | (at_builtin; refine Lib.wpList_append_run _ rfl _ _ _ _ rfl _ _ rfl rfl _ _ hrun ?_))
            go_roundw
            case rel => exact ⟨j + 1, _, by omega, by go_num, h5⟩
            case measure => simp [intOf]; omega
          · have hl2 := mt (Dk.lim_lt conds j).2 hlt
            by_cases g2 : (j : Int) < conds
            · have y1 : decide ((j : Int) < conds) = true := decide_eq_true g2
              have y2 : decide ((j : Int) < 4) = false := decide_eq_false (by omega)
              have y3 : decide (j < 4) = false := decide_eq_false (by omega)
              obtain rfl : j = Dk.lim conds := by omega
              go_wp2_with fail
              generalize wr = wcc at *
              go_loopw [10] (fun i w' => ∃ (j : Nat) (V : Dk.Vs), j ≤ min L 4 ∧ i = .int .i64 j ∧ Dk.Sep W w' (Dk.mdl bm V ⟨(List.replicate (Dk.lim mutexes) (0 : Int)), (List.replicate (Dk.lim mutexes) false), (List.replicate (Dk.lim mutexes) ([] : List Int)), (List.replicate (Dk.lim conds) ([] : List (Int × Int))), ((xs.take j).map Dk.cl), (List.replicate j ([] : List Int))⟩ ++ us)) (fun i w' => min L 4 - (intOf i).toNat)
              case atStart => exact ⟨0, _, Nat.zero_le _, rfl, hU⟩
              case round =>
                obtain ⟨j, V, hj, rfl, hX⟩ := hrel
                clear hU
                by_cases hlt : j < min L 4
                · have y1 : decide ((j : Int) < (L : Int)) = true := decide_eq_true (by omega)
                  have y2 : decide ((j : Int) < 4) = true := decide_eq_true (by omega)
                  have y3 : decide (j < 4) = true := decide_eq_true (by omega)
                  have hjL : (j : Int) < (L : Int) := by omega
                  obtain ⟨bs, os, rfl, hbs, hcs⟩ := HX.out.cells (by omega)
                  obtain ⟨x, ex⟩ := Dk.lt_some (l := xs) (i := j) (by have := HSL.out; omega)
                  have d0 : wr.cell? ⟨bs, os + j, none⟩ = some (.int .i64 x) := by
                    have q1 := hcs j (by omega)
                    rw [Dk.getD_some ex] at q1
                    rw [hX.out.cell (p := ⟨bs, os + j, none⟩) hbs]
                    exact q1
                  have HXJ : Hid (xs[j]? = some x) := ex
                  obtain ⟨v0, v1, v2, v3, v4, v5, hv, cv, dv⟩ := V
                  obtain ⟨A4, C4, E4, _, _⟩ := Dk.owns_slice (Dk.Mdl.count hX)
                  obtain ⟨A5, C5, E5, _, _⟩ := hX.nestLen (eh := 22) (e := 3) (s := 1) (f := Dk.is) (v := v5) (vs := dv) (xss := (List.replicate j ([] : List Int))) (by simp [Dk.mdl])
                  have lct : ((xs.take j).map Dk.cl).length = j := by rw [List.length_map, List.length_take, HSL.out]; omega
                  have ldn : (List.replicate j ([] : List Int)).length = j := List.length_replicate
                  simp only at E4 E5
                  rw [lct] at E4
                  rw [ldn] at E5
                  subst E4 E5
                  have sd : Dk.Sep W wr.drew (tB bm v0 v1 v2 v3 (.slice A4 j C4) (.slice A5 j C5) :: tO mutexes v0 :: tH mutexes v1 :: tW mutexes v2 hv :: tC (Dk.lim conds) v3 cv :: tR ((xs.take j).map Dk.cl) (.slice A4 j C4) :: tD (List.replicate j ([] : List Int)) (.slice A5 j C5) dv :: us) := hX.below (Dk.up_drew (Below.refl _ _))
                  have fx : ∀ (ts : List Dk.Thing) (w : World), Dk.Sep W w ts → tB bm v0 v1 v2 v3 (.slice A4 j C4) (.slice A5 j C5) ∈ ts → (fun w' : World => w'.cell? ⟨bm, 4, none⟩ = some (.slice A4 j C4) ∧ w'.cell? ⟨bm, 5, none⟩ = some (.slice A5 j C5)) w := fun ts w hh hm => by
                    have hb := hh.box hm
                    exact ⟨hb.cell 4, hb.cell 5⟩
                  have HS : Hid ((fun w' : World => w'.cell? ⟨bm, 4, none⟩ = some (.slice A4 j C4) ∧ w'.cell? ⟨bm, 5, none⟩ = some (.slice A5 j C5)) wr.drew) := fx _ _ sd (by simp)
                  clear hX hcs ex
                  obtain ⟨q, eq⟩ : ∃ q, Dk.cl x = q := ⟨_, rfl⟩
                  obtain ⟨p, ep⟩ : ∃ p : Int, (if x < 0 then 0 else x) = p := ⟨_, rfl⟩
                  have HP1 : Hid (x < 0 → p = 0) := fun h => by rw [← ep, if_pos h]
                  have HP2 : Hid (¬ x < 0 → p = x) := fun h => by rw [← ep, if_neg h]
                  have HQ1 : Hid (1048576 < p → q = 1048576) := fun h => by
                    rw [← eq]
                    unfold Dk.cl
                    by_cases h0 : x < 0
                    · have := HP1.out h0; omega
                    · rw [HP2.out h0] at h
                      rw [if_neg h0, if_pos h]
                  have HQ2 : Hid (¬ 1048576 < p → q = p) := fun h => by
                    rw [← eq]
                    unfold Dk.cl
                    by_cases h0 : x < 0
                    · rw [if_pos h0, HP1.out h0]
                    · rw [HP2.out h0] at h ⊢
                      rw [if_neg h0, if_neg h]
                  have hcl := eq
                  clear eq ep
                  go_upto_if 83 with fail
                  go_cut [11] from 82 to 85 (fun v w' => v = .int .i64 p ∧ w' = wr)
                  case first =>
                    by_cases n0 : x < 0
                    · have z1 : decide (x < 0) = true := decide_eq_true n0
                      go_wp2_with fail
                      go_meet
                      exact ⟨by rw [HP1.out n0], rfl⟩
                    · have z1 : decide (x < 0) = false := decide_eq_false n0
                      go_wp2_with fail
                      go_meet
                      exact ⟨by rw [HP2.out n0], rfl⟩
                  case rest =>
                    obtain ⟨rfl, hw⟩ := hcut
                    subst wc
                    clear HP1 HP2
                    go_upto_if 85 with fail
                    go_cut [11] from 82 to 85 (fun v w' => v = .int .i64 q ∧ w' = wr)
                    case first =>
                      by_cases n1 : 1048576 < p
                      · have z2 : decide (p > 1048576) = true := decide_eq_true n1
                        have z3 : decide (1048576 < p) = true := decide_eq_true n1
                        go_wp2_with fail
                        go_meet
                        exact ⟨by rw [HQ1.out n1], rfl⟩
                      · have z2 : decide (p > 1048576) = false := decide_eq_false n1
                        have z3 : decide (1048576 < p) = false := decide_eq_false n1
                        go_wp2_with fail
                        go_meet
                        exact ⟨by rw [HQ2.out n1], rfl⟩
                    case rest =>
                      obtain ⟨rfl, hw⟩ := hcut
                      subst wc
                      clear HQ1 HQ2
                      have HCL : Hid (Dk.cl x = q) := hcl
                      clear hcl
                      go_wp2_with fail
                      refine Dk.wp_region_tree (S := fun w' : World => w'.cell? ⟨bm, 4, none⟩ = some (.slice A4 j C4) ∧ w'.cell? ⟨bm, 5, none⟩ = some (.slice A5 j C5)) [1] [0, 2, 3, 4, 5, 6, 9, 10, 11, 12] [1, 15, 16, 17, 18, 19, 20] 10 (by kernel_rfl) (by kernel_rfl) (by kernel_rfl) (by kernel_rfl) rfl HS.out _ ?_ (fun a' h => h)
                      refine Dk.held_step (v := .pointer (some ⟨bm, 0, none⟩)) rfl rfl (fun w' hw' => by go_simp) ?_
                      simp only [Act.put, List.setIfInBounds_toArray, List.set_cons_succ, List.set_cons_zero]
                      refine Dk.held_step (v := .pointer (some ⟨bm, 0, none⟩)) rfl rfl (fun w' hw' => by obtain ⟨q0, q1⟩ := hw'; go_simp) ?_
                      simp only [Act.put, List.setIfInBounds_toArray, List.set_cons_succ, List.set_cons_zero]
                      refine Dk.held_step (v := .pointer (some ⟨bm, 0, none⟩)) rfl rfl (fun w' hw' => by obtain ⟨q0, q1⟩ := hw'; go_simp) ?_
                      simp only [Act.put, List.setIfInBounds_toArray, List.set_cons_succ, List.set_cons_zero]
                      refine Dk.held_step (v := .pointer (some ⟨bm, 0, none⟩)) rfl rfl (fun w' hw' => by obtain ⟨q0, q1⟩ := hw'; go_simp) ?_
                      simp only [Act.put, List.setIfInBounds_toArray, List.set_cons_succ, List.set_cons_zero]
                      refine Dk.held_step (v := .pointer (some ⟨bm, 4, none⟩)) rfl rfl (fun w' hw' => by obtain ⟨q0, q1⟩ := hw'; go_simp) ?_
                      simp only [Act.put, List.setIfInBounds_toArray, List.set_cons_succ, List.set_cons_zero]
                      refine Dk.held_step (v := .slice A4 j C4) rfl rfl (fun w' hw' => by obtain ⟨q0, q1⟩ := hw'; go_simp) ?_
                      simp only [Act.put, List.setIfInBounds_toArray, List.set_cons_succ, List.set_cons_zero]
                      refine Dk.held_step (v := .int .i64 q) rfl rfl (fun w' hw' => by obtain ⟨q0, q1⟩ := hw'; go_simp) ?_
                      simp only [Act.put, List.setIfInBounds_toArray, List.set_cons_succ, List.set_cons_zero]
                      refine Dk.held_step (v := .pointer (some ⟨bm, 0, none⟩)) rfl rfl (fun w' hw' => by obtain ⟨q0, q1⟩ := hw'; go_simp) ?_
                      simp only [Act.put, List.setIfInBounds_toArray, List.set_cons_succ, List.set_cons_zero]
                      refine Dk.held_step (v := .pointer (some ⟨bm, 0, none⟩)) rfl rfl (fun w' hw' => by obtain ⟨q0, q1⟩ := hw'; go_simp) ?_
                      simp only [Act.put, List.setIfInBounds_toArray, List.set_cons_succ, List.set_cons_zero]
                      refine Dk.held_step (v := .pointer (some ⟨bm, 5, none⟩)) rfl rfl (fun w' hw' => by obtain ⟨q0, q1⟩ := hw'; go_simp) ?_
                      simp only [Act.put, List.setIfInBounds_toArray, List.set_cons_succ, List.set_cons_zero]
                      refine Dk.held_step (v := .slice A5 j C5) rfl rfl (fun w' hw' => by obtain ⟨q0, q1⟩ := hw'; go_simp) ?_
                      simp only [Act.put, List.setIfInBounds_toArray, List.set_cons_succ, List.set_cons_zero]
                      generalize wr.drew = Wd at *
                      refine Dk.nameY ?_
                      intro a0 hA
                      refine Dk.cutY (T := fun a w => ∃ (x93 x99 : Value) (aa0 : Option Addr) (l0 c0 : Nat) (aa1 : Option Addr) (l1 c1 : Nat), a = ((((a0.put (some 93) x93).put (some 94) (.slice aa0 l0 c0)).put (some 99) x99).put (some 100) (.slice aa1 l1 c1)) ∧ Dk.Sep W w (tB bm v0 v1 v2 v3 (.slice A4 j C4) (.slice A5 j C5) :: tO mutexes v0 :: tH mutexes v1 :: tW mutexes v2 hv :: tC (Dk.lim conds) v3 cv :: Dk.rowOf 3 1 (.slice aa0 l0 c0) (((xs.take j).map Dk.cl).length + 1) (Dk.is ((xs.take j).map Dk.cl) ++ [.int .i64 q]) :: Dk.nestOf 22 3 1 Dk.is (.slice aa1 l1 c1) (dv ++ [.slice none 0 0]) ((List.replicate j ([] : List Int)) ++ [[]]) :: us)) (js := [15, 16, 17, 18, 19, 20]) ?_ 4 _ _ _ ?_
                      · rintro a w6 ⟨x93, x99, aa0, l0, c0, aa1, l1, c1, rfl, s6⟩
                        rw [← hA]
                        clear hA
                        simp only [Act.put, List.setIfInBounds_toArray, List.set_cons_succ, List.set_cons_zero]
                        have k0 : w6.cell? ⟨bm, 4, none⟩ = some (.slice A4 j C4) := (s6.box (b := bm) (cs := #[v0, v1, v2, v3, .slice A4 j C4, .slice A5 j C5]) (t := 37) (by simp)).cell 4
                        have f0 : w6.frozen? ⟨bm, 4, none⟩ = false := (s6.box (b := bm) (cs := #[v0, v1, v2, v3, .slice A4 j C4, .slice A5 j C5]) (t := 37) (by simp)).frozen 4
                        obtain ⟨w7, g0⟩ : ∃ w7, w7 = w6.setCell ⟨bm, 4, none⟩ (.slice aa0 l0 c0) := ⟨_, rfl⟩
                        have s7 : Dk.Sep W w7 (tB bm v0 v1 v2 v3 (.slice aa0 l0 c0) (.slice A5 j C5) :: tO mutexes v0 :: tH mutexes v1 :: tW mutexes v2 hv :: tC (Dk.lim conds) v3 cv :: Dk.rowOf 3 1 (.slice aa0 l0 c0) (((xs.take j).map Dk.cl).length + 1) (Dk.is ((xs.take j).map Dk.cl) ++ [.int .i64 q]) :: Dk.nestOf 22 3 1 Dk.is (.slice aa1 l1 c1) (dv ++ [.slice none 0 0]) ((List.replicate j ([] : List Int)) ++ [[]]) :: us) := by
                          rw [g0]
                          exact Dk.Sep.setBox (us1 := []) (o := 4) s6 (.slice aa0 l0 c0)
                        refine Dk.lineY_step (v := .pointer (some ⟨bm, 0, none⟩)) (w' := w6) (some 101) rfl rfl rfl (by go_simp) (fun h => absurd (by decide) h) ?_
                        simp only [Act.put, List.setIfInBounds_toArray, List.set_cons_succ, List.set_cons_zero]
                        refine Dk.lineY_step (v := .pointer (some ⟨bm, 4, none⟩)) (w' := w6) (some 102) rfl rfl rfl (by go_simp) (fun h => absurd (by decide) h) ?_
                        simp only [Act.put, List.setIfInBounds_toArray, List.set_cons_succ, List.set_cons_zero]
                        refine Dk.lineY_skip (w' := w7) none rfl rfl rfl (by rw [g0]; go_simp) (fun h => absurd (by decide) h) ?_
                        simp only [Act.put, List.setIfInBounds_toArray, List.set_cons_succ, List.set_cons_zero]
                        clear k0 f0 g0 s6
                        have k1 : w7.cell? ⟨bm, 5, none⟩ = some (.slice A5 j C5) := (s7.box (b := bm) (cs := #[v0, v1, v2, v3, .slice aa0 l0 c0, .slice A5 j C5]) (t := 37) (by simp)).cell 5
                        have f1 : w7.frozen? ⟨bm, 5, none⟩ = false := (s7.box (b := bm) (cs := #[v0, v1, v2, v3, .slice aa0 l0 c0, .slice A5 j C5]) (t := 37) (by simp)).frozen 5
                        obtain ⟨w8, g1⟩ : ∃ w8, w8 = w7.setCell ⟨bm, 5, none⟩ (.slice aa1 l1 c1) := ⟨_, rfl⟩
                        have s8 : Dk.Sep W w8 (tB bm v0 v1 v2 v3 (.slice aa0 l0 c0) (.slice aa1 l1 c1) :: tO mutexes v0 :: tH mutexes v1 :: tW mutexes v2 hv :: tC (Dk.lim conds) v3 cv :: Dk.rowOf 3 1 (.slice aa0 l0 c0) (((xs.take j).map Dk.cl).length + 1) (Dk.is ((xs.take j).map Dk.cl) ++ [.int .i64 q]) :: Dk.nestOf 22 3 1 Dk.is (.slice aa1 l1 c1) (dv ++ [.slice none 0 0]) ((List.replicate j ([] : List Int)) ++ [[]]) :: us) := by
                          rw [g1]
                          exact Dk.Sep.setBox (us1 := []) (o := 5) s7 (.slice aa1 l1 c1)
                        refine Dk.lineY_step (v := .pointer (some ⟨bm, 0, none⟩)) (w' := w7) (some 103) rfl rfl rfl (by go_simp) (fun h => absurd (by decide) h) ?_
                        simp only [Act.put, List.setIfInBounds_toArray, List.set_cons_succ, List.set_cons_zero]
                        refine Dk.lineY_step (v := .pointer (some ⟨bm, 5, none⟩)) (w' := w7) (some 104) rfl rfl rfl (by go_simp) (fun h => absurd (by decide) h) ?_
                        simp only [Act.put, List.setIfInBounds_toArray, List.set_cons_succ, List.set_cons_zero]
                        refine Dk.lineY_skip (w' := w8) none rfl rfl rfl (by rw [g1]; go_simp) (fun h => absurd (by decide) h) ?_
                        simp only [Act.put, List.setIfInBounds_toArray, List.set_cons_succ, List.set_cons_zero]
                        clear k1 f1 g1 s7
                        rename ∀ (_ : Act) (_ : World), Code.wp _ _ _ _ _ → _ => hK
                        refine hK _ _ ?_
                        clear hK HS sd fx
                        have hfin : Dk.Sep W w8 (Dk.mdl bm ⟨v0, v1, v2, v3, .slice aa0 l0 c0, .slice aa1 l1 c1, hv, cv, dv ++ [.slice none 0 0]⟩ ⟨(List.replicate (Dk.lim mutexes) (0 : Int)), (List.replicate (Dk.lim mutexes) false), (List.replicate (Dk.lim mutexes) ([] : List Int)), (List.replicate (Dk.lim conds) ([] : List (Int × Int))), ((xs.take (j + 1)).map Dk.cl), (List.replicate (j + 1) ([] : List Int))⟩ ++ us) := by
                          have et : (xs.take (j + 1)).map Dk.cl = (xs.take j).map Dk.cl ++ [q] := by
                            rw [List.take_add_one, HXJ.out, List.map_append]
                            show _ ++ [Dk.cl x] = _
                            rw [HCL.out]
                          rw [et, List.replicate_succ']
                          unfold Dk.mdl
                          simp only [List.length_append, Dk.is, List.map_append]
                          exact s8
                        clear HCL
                        go_wp2_with fail
                        go_roundw
                        case rel => exact ⟨j + 1, _, by omega, by go_num, hfin⟩
                        case measure => simp [intOf]; omega
                      · refine Dk.nodeT (rs := [7, 13]) (by kernel_rfl) (by simp) ?_
                        intro i hi
                        simp only [List.mem_cons, List.not_mem_nil, or_false] at hi
                        rcases hi with rfl | rfl
                        · obtain ⟨wt1, e1⟩ : ∃ wt1, wt1 = Wd.alloc (.cells #[.int .i64 q] 3) := ⟨_, rfl⟩
                          have st1 := sd.newBox e1
                          refine Dk.op_value (v := .slice (some ⟨Wd.heap.size, 0, none⟩) 1 1) (w' := wt1) (some 93) rfl rfl rfl (by rw [← hA]; clear hA; (try simp only [Act.put, List.setIfInBounds_toArray, List.set_cons_succ, List.set_cons_zero]); rw [e1]; go_simp) ⟨fun _ => fx _ _ st1 (by simp), ?_⟩
                          refine Dk.nodeT (rs := [8, 13]) (by kernel_rfl) (by simp) ?_
                          intro i hi
                          simp only [List.mem_cons, List.not_mem_nil, or_false] at hi
                          rcases hi with rfl | rfl
                          · have hb2 : Dk.Box wt1 Wd.heap.size #[.int .i64 q] 3 := st1.box (by simp)
                            obtain ⟨aa0, l0, c0, wt2, r2, st2⟩ := Dk.Sep.appendBox (us1 := [Dk.boxOf Wd.heap.size #[.int .i64 q] 3, tB bm v0 v1 v2 v3 (.slice A4 j C4) (.slice A5 j C5), tO mutexes v0, tH mutexes v1, tW mutexes v2 hv, tC (Dk.lim conds) v3 cv]) (us2 := tD (List.replicate j ([] : List Int)) (.slice A5 j C5) dv :: us) K22 st1 hb2 rfl (by omega)
                            refine Dk.op_value (v := .slice aa0 l0 c0) (w' := wt2) (some 94) rfl rfl rfl (by rw [← hA]; clear hA; (try simp only [Act.put, List.setIfInBounds_toArray, List.set_cons_succ, List.set_cons_zero]); simp only [execOp, resolve, invoke, builtin]; simp [Act.eval, r2]) ⟨fun _ => fx _ _ st2 (by simp), ?_⟩
                            refine Dk.nodeT (rs := [13]) (by kernel_rfl) (by simp) ?_
                            intro i hi
                            simp only [List.mem_cons, List.not_mem_nil, or_false] at hi
                            subst hi
                            obtain ⟨wt3, e3⟩ : ∃ wt3, wt3 = wt2.alloc (.cells #[.slice none 0 0] 22) := ⟨_, rfl⟩
                            have st3 := st2.newBox e3
                            refine Dk.op_value (v := .slice (some ⟨wt2.heap.size, 0, none⟩) 1 1) (w' := wt3) (some 99) rfl rfl rfl (by rw [← hA]; clear hA; (try simp only [Act.put, List.setIfInBounds_toArray, List.set_cons_succ, List.set_cons_zero]); rw [e3]; go_simp) ⟨fun _ => fx _ _ st3 (by simp), ?_⟩
                            refine Dk.nodeT (rs := [14]) (by kernel_rfl) (by simp) ?_
                            intro i hi
                            simp only [List.mem_cons, List.not_mem_nil, or_false] at hi
                            subst hi
                            have hb4 : Dk.Box wt3 wt2.heap.size #[.slice none 0 0] 22 := st3.box (by simp)
                            obtain ⟨aa1, l1, c1, wt4, r4, st4⟩ := Dk.Sep.nestGrow (us1 := [Dk.boxOf wt2.heap.size #[.slice none 0 0] 22, Dk.boxOf Wd.heap.size #[.int .i64 q] 3, tB bm v0 v1 v2 v3 (.slice A4 j C4) (.slice A5 j C5), tO mutexes v0, tH mutexes v1, tW mutexes v2 hv, tC (Dk.lim conds) v3 cv, Dk.rowOf 3 1 (.slice aa0 l0 c0) (((xs.take j).map Dk.cl).length + 1) (Dk.is ((xs.take j).map Dk.cl) ++ [.int .i64 q])]) (us2 := us) K34 st3 hb4 rfl (by omega)
                            refine Dk.op_value (v := .slice aa1 l1 c1) (w' := wt4) (some 100) rfl rfl rfl (by rw [← hA]; clear hA; (try simp only [Act.put, List.setIfInBounds_toArray, List.set_cons_succ, List.set_cons_zero]); simp only [execOp, resolve, invoke, builtin]; simp [Act.eval, r4]) ⟨fun _ => fx _ _ st4 (by simp), ?_⟩
                            refine ⟨by kernel_rfl, .slice (some ⟨Wd.heap.size, 0, none⟩) 1 1, .slice (some ⟨wt2.heap.size, 0, none⟩) 1 1, aa0, l0, c0, aa1, l1, c1, ?_, st4.sub ?_⟩
                            · subst hA
                              first | rfl | (simp only [Act.put, List.setIfInBounds_toArray, List.set_cons_succ, List.set_cons_zero])
                            · exact List.sublist_append_right [_, _] _
                          · obtain ⟨wt5, e5⟩ : ∃ wt5, wt5 = wt1.alloc (.cells #[.slice none 0 0] 22) := ⟨_, rfl⟩
                            have st5 := st1.newBox e5
                            refine Dk.op_value (v := .slice (some ⟨wt1.heap.size, 0, none⟩) 1 1) (w' := wt5) (some 99) rfl rfl rfl (by rw [← hA]; clear hA; (try simp only [Act.put, List.setIfInBounds_toArray, List.set_cons_succ, List.set_cons_zero]); rw [e5]; go_simp) ⟨fun _ => fx _ _ st5 (by simp), ?_⟩
                            refine Dk.nodeT (rs := [8]) (by kernel_rfl) (by simp) ?_
                            intro i hi
                            simp only [List.mem_cons, List.not_mem_nil, or_false] at hi
                            subst hi
                            have hb6 : Dk.Box wt5 Wd.heap.size #[.int .i64 q] 3 := st5.box (by simp)
                            obtain ⟨aa0, l0, c0, wt6, r6, st6⟩ := Dk.Sep.appendBox (us1 := [Dk.boxOf wt1.heap.size #[.slice none 0 0] 22, Dk.boxOf Wd.heap.size #[.int .i64 q] 3, tB bm v0 v1 v2 v3 (.slice A4 j C4) (.slice A5 j C5), tO mutexes v0, tH mutexes v1, tW mutexes v2 hv, tC (Dk.lim conds) v3 cv]) (us2 := tD (List.replicate j ([] : List Int)) (.slice A5 j C5) dv :: us) K22 st5 hb6 rfl (by omega)
                            refine Dk.op_value (v := .slice aa0 l0 c0) (w' := wt6) (some 94) rfl rfl rfl (by rw [← hA]; clear hA; (try simp only [Act.put, List.setIfInBounds_toArray, List.set_cons_succ, List.set_cons_zero]); simp only [execOp, resolve, invoke, builtin]; simp [Act.eval, r6]) ⟨fun _ => fx _ _ st6 (by simp), ?_⟩
                            refine Dk.nodeT (rs := [14]) (by kernel_rfl) (by simp) ?_
                            intro i hi
                            simp only [List.mem_cons, List.not_mem_nil, or_false] at hi
                            subst hi
                            have hb7 : Dk.Box wt6 wt1.heap.size #[.slice none 0 0] 22 := st6.box (by simp)
                            obtain ⟨aa1, l1, c1, wt7, r7, st7⟩ := Dk.Sep.nestGrow (us1 := [Dk.boxOf wt1.heap.size #[.slice none 0 0] 22, Dk.boxOf Wd.heap.size #[.int .i64 q] 3, tB bm v0 v1 v2 v3 (.slice A4 j C4) (.slice A5 j C5), tO mutexes v0, tH mutexes v1, tW mutexes v2 hv, tC (Dk.lim conds) v3 cv, Dk.rowOf 3 1 (.slice aa0 l0 c0) (((xs.take j).map Dk.cl).length + 1) (Dk.is ((xs.take j).map Dk.cl) ++ [.int .i64 q])]) (us2 := us) K34 st6 hb7 rfl (by omega)
                            refine Dk.op_value (v := .slice aa1 l1 c1) (w' := wt7) (some 100) rfl rfl rfl (by rw [← hA]; clear hA; (try simp only [Act.put, List.setIfInBounds_toArray, List.set_cons_succ, List.set_cons_zero]); simp only [execOp, resolve, invoke, builtin]; simp [Act.eval, r7]) ⟨fun _ => fx _ _ st7 (by simp), ?_⟩
                            refine ⟨by kernel_rfl, .slice (some ⟨Wd.heap.size, 0, none⟩) 1 1, .slice (some ⟨wt1.heap.size, 0, none⟩) 1 1, aa0, l0, c0, aa1, l1, c1, ?_, st7.sub ?_⟩
                            · subst hA
                              first | rfl | (simp only [Act.put, List.setIfInBounds_toArray, List.set_cons_succ, List.set_cons_zero])
                            · exact List.sublist_append_right [_, _] _
                        · obtain ⟨wt8, e8⟩ : ∃ wt8, wt8 = Wd.alloc (.cells #[.slice none 0 0] 22) := ⟨_, rfl⟩
                          have st8 := sd.newBox e8
                          refine Dk.op_value (v := .slice (some ⟨Wd.heap.size, 0, none⟩) 1 1) (w' := wt8) (some 99) rfl rfl rfl (by rw [← hA]; clear hA; (try simp only [Act.put, List.setIfInBounds_toArray, List.set_cons_succ, List.set_cons_zero]); rw [e8]; go_simp) ⟨fun _ => fx _ _ st8 (by simp), ?_⟩
                          refine Dk.nodeT (rs := [7]) (by kernel_rfl) (by simp) ?_
                          intro i hi
                          simp only [List.mem_cons, List.not_mem_nil, or_false] at hi
                          subst hi
                          obtain ⟨wt9, e9⟩ : ∃ wt9, wt9 = wt8.alloc (.cells #[.int .i64 q] 3) := ⟨_, rfl⟩
                          have st9 := st8.newBox e9
                          refine Dk.op_value (v := .slice (some ⟨wt8.heap.size, 0, none⟩) 1 1) (w' := wt9) (some 93) rfl rfl rfl (by rw [← hA]; clear hA; (try simp only [Act.put, List.setIfInBounds_toArray, List.set_cons_succ, List.set_cons_zero]); rw [e9]; go_simp) ⟨fun _ => fx _ _ st9 (by simp), ?_⟩
                          refine Dk.nodeT (rs := [8]) (by kernel_rfl) (by simp) ?_
                          intro i hi
                          simp only [List.mem_cons, List.not_mem_nil, or_false] at hi
                          subst hi
                          have hb10 : Dk.Box wt9 wt8.heap.size #[.int .i64 q] 3 := st9.box (by simp)
                          obtain ⟨aa0, l0, c0, wt10, r10, st10⟩ := Dk.Sep.appendBox (us1 := [Dk.boxOf wt8.heap.size #[.int .i64 q] 3, Dk.boxOf Wd.heap.size #[.slice none 0 0] 22, tB bm v0 v1 v2 v3 (.slice A4 j C4) (.slice A5 j C5), tO mutexes v0, tH mutexes v1, tW mutexes v2 hv, tC (Dk.lim conds) v3 cv]) (us2 := tD (List.replicate j ([] : List Int)) (.slice A5 j C5) dv :: us) K22 st9 hb10 rfl (by omega)
                          refine Dk.op_value (v := .slice aa0 l0 c0) (w' := wt10) (some 94) rfl rfl rfl (by rw [← hA]; clear hA; (try simp only [Act.put, List.setIfInBounds_toArray, List.set_cons_succ, List.set_cons_zero]); simp only [execOp, resolve, invoke, builtin]; simp [Act.eval, r10]) ⟨fun _ => fx _ _ st10 (by simp), ?_⟩
                          refine Dk.nodeT (rs := [14]) (by kernel_rfl) (by simp) ?_
                          intro i hi
                          simp only [List.mem_cons, List.not_mem_nil, or_false] at hi
                          subst hi
                          have hb11 : Dk.Box wt10 Wd.heap.size #[.slice none 0 0] 22 := st10.box (by simp)
                          obtain ⟨aa1, l1, c1, wt11, r11, st11⟩ := Dk.Sep.nestGrow (us1 := [Dk.boxOf wt8.heap.size #[.int .i64 q] 3, Dk.boxOf Wd.heap.size #[.slice none 0 0] 22, tB bm v0 v1 v2 v3 (.slice A4 j C4) (.slice A5 j C5), tO mutexes v0, tH mutexes v1, tW mutexes v2 hv, tC (Dk.lim conds) v3 cv, Dk.rowOf 3 1 (.slice aa0 l0 c0) (((xs.take j).map Dk.cl).length + 1) (Dk.is ((xs.take j).map Dk.cl) ++ [.int .i64 q])]) (us2 := us) K34 st10 hb11 rfl (by omega)
                          refine Dk.op_value (v := .slice aa1 l1 c1) (w' := wt11) (some 100) rfl rfl rfl (by rw [← hA]; clear hA; (try simp only [Act.put, List.setIfInBounds_toArray, List.set_cons_succ, List.set_cons_zero]); simp only [execOp, resolve, invoke, builtin]; simp [Act.eval, r11]) ⟨fun _ => fx _ _ st11 (by simp), ?_⟩
                          refine ⟨by kernel_rfl, .slice (some ⟨wt8.heap.size, 0, none⟩) 1 1, .slice (some ⟨Wd.heap.size, 0, none⟩) 1 1, aa0, l0, c0, aa1, l1, c1, ?_, st11.sub ?_⟩
                          · subst hA
                            first | rfl | (simp only [Act.put, List.setIfInBounds_toArray, List.set_cons_succ, List.set_cons_zero])
                          · exact List.sublist_append_right [_, _] _
                · by_cases g3 : j < L
                  · have y1 : decide ((j : Int) < (L : Int)) = true := decide_eq_true (by omega)
                    have y2 : decide ((j : Int) < 4) = false := decide_eq_false (by omega)
                    have y3 : decide (j < 4) = false := decide_eq_false (by omega)
                    obtain rfl : j = min L 4 := by omega
                    have ex4 : xs.take (min L 4) = xs.take 4 := by rw [← HSL.out, Nat.min_comm, ← List.take_take, List.take_length]
                    rw [ex4] at hX
                    go_wp2_with fail
                    go_ret
                    exact ⟨bm, _, rfl, hX⟩
                  · have y1 : decide ((j : Int) < (L : Int)) = false := decide_eq_false (by omega)
                    obtain rfl : j = min L 4 := by omega
                    have ex4 : xs.take (min L 4) = xs.take 4 := by rw [← HSL.out, Nat.min_comm, ← List.take_take, List.take_length]
                    rw [ex4] at hX
                    go_wp2_with fail
                    go_ret
                    exact ⟨bm, _, rfl, hX⟩
            · have y1 : decide ((j : Int) < conds) = false := decide_eq_false g2
              obtain rfl : j = Dk.lim conds := by omega
              go_wp2_with fail
              generalize wr = wcc at *
              go_loopw [10] (fun i w' => ∃ (j : Nat) (V : Dk.Vs), j ≤ min L 4 ∧ i = .int .i64 j ∧ Dk.Sep W w' (Dk.mdl bm V ⟨(List.replicate (Dk.lim mutexes) (0 : Int)), (List.replicate (Dk.lim mutexes) false), (List.replicate (Dk.lim mutexes) ([] : List Int)), (List.replicate (Dk.lim conds) ([] : List (Int × Int))), ((xs.take j).map Dk.cl), (List.replicate j ([] : List Int))⟩ ++ us)) (fun i w' => min L 4 - (intOf i).toNat)
              case atStart => exact ⟨0, _, Nat.zero_le _, rfl, hU⟩
              case round =>
                obtain ⟨j, V, hj, rfl, hX⟩ := hrel
                clear hU
                by_cases hlt : j < min L 4
                · have y1 : decide ((j : Int) < (L : Int)) = true := decide_eq_true (by omega)
                  have y2 : decide ((j : Int) < 4) = true := decide_eq_true (by omega)
                  have y3 : decide (j < 4) = true := decide_eq_true (by omega)
                  have hjL : (j : Int) < (L : Int) := by omega
                  obtain ⟨bs, os, rfl, hbs, hcs⟩ := HX.out.cells (by omega)
                  obtain ⟨x, ex⟩ := Dk.lt_some (l := xs) (i := j) (by have := HSL.out; omega)
                  have d0 : wr.cell? ⟨bs, os + j, none⟩ = some (.int .i64 x) := by
                    have q1 := hcs j (by omega)
                    rw [Dk.getD_some ex] at q1
                    rw [hX.out.cell (p := ⟨bs, os + j, none⟩) hbs]
                    exact q1
                  have HXJ : Hid (xs[j]? = some x) := ex
                  obtain ⟨v0, v1, v2, v3, v4, v5, hv, cv, dv⟩ := V
                  obtain ⟨A4, C4, E4, _, _⟩ := Dk.owns_slice (Dk.Mdl.count hX)
                  obtain ⟨A5, C5, E5, _, _⟩ := hX.nestLen (eh := 22) (e := 3) (s := 1) (f := Dk.is) (v := v5) (vs := dv) (xss := (List.replicate j ([] : List Int))) (by simp [Dk.mdl])
                  have lct : ((xs.take j).map Dk.cl).length = j := by rw [List.length_map, List.length_take, HSL.out]; omega
                  have ldn : (List.replicate j ([] : List Int)).length = j := List.length_replicate
                  simp only at E4 E5
                  rw [lct] at E4
                  rw [ldn] at E5
                  subst E4 E5
                  have sd : Dk.Sep W wr.drew (tB bm v0 v1 v2 v3 (.slice A4 j C4) (.slice A5 j C5) :: tO mutexes v0 :: tH mutexes v1 :: tW mutexes v2 hv :: tC (Dk.lim conds) v3 cv :: tR ((xs.take j).map Dk.cl) (.slice A4 j C4) :: tD (List.replicate j ([] : List Int)) (.slice A5 j C5) dv :: us) := hX.below (Dk.up_drew (Below.refl _ _))
                  have fx : ∀ (ts : List Dk.Thing) (w : World), Dk.Sep W w ts → tB bm v0 v1 v2 v3 (.slice A4 j C4) (.slice A5 j C5) ∈ ts → (fun w' : World => w'.cell? ⟨bm, 4, none⟩ = some (.slice A4 j C4) ∧ w'.cell? ⟨bm, 5, none⟩ = some (.slice A5 j C5)) w := fun ts w hh hm => by
                    have hb := hh.box hm
                    exact ⟨hb.cell 4, hb.cell 5⟩
                  have HS : Hid ((fun w' : World => w'.cell? ⟨bm, 4, none⟩ = some (.slice A4 j C4) ∧ w'.cell? ⟨bm, 5, none⟩ = some (.slice A5 j C5)) wr.drew) := fx _ _ sd (by simp)
                  clear hX hcs ex
                  obtain ⟨q, eq⟩ : ∃ q, Dk.cl x = q := ⟨_, rfl⟩
                  obtain ⟨p, ep⟩ : ∃ p : Int, (if x < 0 then 0 else x) = p := ⟨_, rfl⟩
                  have HP1 : Hid (x < 0 → p = 0) := fun h => by rw [← ep, if_pos h]
                  have HP2 : Hid (¬ x < 0 → p = x) := fun h => by rw [← ep, if_neg h]
                  have HQ1 : Hid (1048576 < p → q = 1048576) := fun h => by
                    rw [← eq]
                    unfold Dk.cl
                    by_cases h0 : x < 0
                    · have := HP1.out h0; omega
                    · rw [HP2.out h0] at h
                      rw [if_neg h0, if_pos h]
                  have HQ2 : Hid (¬ 1048576 < p → q = p) := fun h => by
                    rw [← eq]
                    unfold Dk.cl
                    by_cases h0 : x < 0
                    · rw [if_pos h0, HP1.out h0]
                    · rw [HP2.out h0] at h ⊢
                      rw [if_neg h0, if_neg h]
                  have hcl := eq
                  clear eq ep
                  go_upto_if 83 with fail
                  go_cut [11] from 82 to 85 (fun v w' => v = .int .i64 p ∧ w' = wr)
                  case first =>
                    by_cases n0 : x < 0
                    · have z1 : decide (x < 0) = true := decide_eq_true n0
                      go_wp2_with fail
                      go_meet
                      exact ⟨by rw [HP1.out n0], rfl⟩
                    · have z1 : decide (x < 0) = false := decide_eq_false n0
                      go_wp2_with fail
                      go_meet
                      exact ⟨by rw [HP2.out n0], rfl⟩
                  case rest =>
                    obtain ⟨rfl, hw⟩ := hcut
                    subst wc
                    clear HP1 HP2
                    go_upto_if 85 with fail
                    go_cut [11] from 82 to 85 (fun v w' => v = .int .i64 q ∧ w' = wr)
                    case first =>
                      by_cases n1 : 1048576 < p
                      · have z2 : decide (p > 1048576) = true := decide_eq_true n1
                        have z3 : decide (1048576 < p) = true := decide_eq_true n1
                        go_wp2_with fail
                        go_meet
                        exact ⟨by rw [HQ1.out n1], rfl⟩
                      · have z2 : decide (p > 1048576) = false := decide_eq_false n1
                        have z3 : decide (1048576 < p) = false := decide_eq_false n1
                        go_wp2_with fail
                        go_meet
                        exact ⟨by rw [HQ2.out n1], rfl⟩
                    case rest =>
                      obtain ⟨rfl, hw⟩ := hcut
                      subst wc
                      clear HQ1 HQ2
                      have HCL : Hid (Dk.cl x = q) := hcl
                      clear hcl
                      go_wp2_with fail
                      refine Dk.wp_region_tree (S := fun w' : World => w'.cell? ⟨bm, 4, none⟩ = some (.slice A4 j C4) ∧ w'.cell? ⟨bm, 5, none⟩ = some (.slice A5 j C5)) [1] [0, 2, 3, 4, 5, 6, 9, 10, 11, 12] [1, 15, 16, 17, 18, 19, 20] 10 (by kernel_rfl) (by kernel_rfl) (by kernel_rfl) (by kernel_rfl) rfl HS.out _ ?_ (fun a' h => h)
                      refine Dk.held_step (v := .pointer (some ⟨bm, 0, none⟩)) rfl rfl (fun w' hw' => by go_simp) ?_
                      simp only [Act.put, List.setIfInBounds_toArray, List.set_cons_succ, List.set_cons_zero]
                      refine Dk.held_step (v := .pointer (some ⟨bm, 0, none⟩)) rfl rfl (fun w' hw' => by obtain ⟨q0, q1⟩ := hw'; go_simp) ?_
                      simp only [Act.put, List.setIfInBounds_toArray, List.set_cons_succ, List.set_cons_zero]
                      refine Dk.held_step (v := .pointer (some ⟨bm, 0, none⟩)) rfl rfl (fun w' hw' => by obtain ⟨q0, q1⟩ := hw'; go_simp) ?_
                      simp only [Act.put, List.setIfInBounds_toArray, List.set_cons_succ, List.set_cons_zero]
                      refine Dk.held_step (v := .pointer (some ⟨bm, 0, none⟩)) rfl rfl (fun w' hw' => by obtain ⟨q0, q1⟩ := hw'; go_simp) ?_
                      simp only [Act.put, List.setIfInBounds_toArray, List.set_cons_succ, List.set_cons_zero]
                      refine Dk.held_step (v := .pointer (some ⟨bm, 4, none⟩)) rfl rfl (fun w' hw' => by obtain ⟨q0, q1⟩ := hw'; go_simp) ?_
                      simp only [Act.put, List.setIfInBounds_toArray, List.set_cons_succ, List.set_cons_zero]
                      refine Dk.held_step (v := .slice A4 j C4) rfl rfl (fun w' hw' => by obtain ⟨q0, q1⟩ := hw'; go_simp) ?_
                      simp only [Act.put, List.setIfInBounds_toArray, List.set_cons_succ, List.set_cons_zero]
                      refine Dk.held_step (v := .int .i64 q) rfl rfl (fun w' hw' => by obtain ⟨q0, q1⟩ := hw'; go_simp) ?_
                      simp only [Act.put, List.setIfInBounds_toArray, List.set_cons_succ, List.set_cons_zero]
                      refine Dk.held_step (v := .pointer (some ⟨bm, 0, none⟩)) rfl rfl (fun w' hw' => by obtain ⟨q0, q1⟩ := hw'; go_simp) ?_
                      simp only [Act.put, List.setIfInBounds_toArray, List.set_cons_succ, List.set_cons_zero]
                      refine Dk.held_step (v := .pointer (some ⟨bm, 0, none⟩)) rfl rfl (fun w' hw' => by obtain ⟨q0, q1⟩ := hw'; go_simp) ?_
                      simp only [Act.put, List.setIfInBounds_toArray, List.set_cons_succ, List.set_cons_zero]
                      refine Dk.held_step (v := .pointer (some ⟨bm, 5, none⟩)) rfl rfl (fun w' hw' => by obtain ⟨q0, q1⟩ := hw'; go_simp) ?_
                      simp only [Act.put, List.setIfInBounds_toArray, List.set_cons_succ, List.set_cons_zero]
                      refine Dk.held_step (v := .slice A5 j C5) rfl rfl (fun w' hw' => by obtain ⟨q0, q1⟩ := hw'; go_simp) ?_
                      simp only [Act.put, List.setIfInBounds_toArray, List.set_cons_succ, List.set_cons_zero]
                      generalize wr.drew = Wd at *
                      refine Dk.nameY ?_
                      intro a0 hA
                      refine Dk.cutY (T := fun a w => ∃ (x93 x99 : Value) (aa0 : Option Addr) (l0 c0 : Nat) (aa1 : Option Addr) (l1 c1 : Nat), a = ((((a0.put (some 93) x93).put (some 94) (.slice aa0 l0 c0)).put (some 99) x99).put (some 100) (.slice aa1 l1 c1)) ∧ Dk.Sep W w (tB bm v0 v1 v2 v3 (.slice A4 j C4) (.slice A5 j C5) :: tO mutexes v0 :: tH mutexes v1 :: tW mutexes v2 hv :: tC (Dk.lim conds) v3 cv :: Dk.rowOf 3 1 (.slice aa0 l0 c0) (((xs.take j).map Dk.cl).length + 1) (Dk.is ((xs.take j).map Dk.cl) ++ [.int .i64 q]) :: Dk.nestOf 22 3 1 Dk.is (.slice aa1 l1 c1) (dv ++ [.slice none 0 0]) ((List.replicate j ([] : List Int)) ++ [[]]) :: us)) (js := [15, 16, 17, 18, 19, 20]) ?_ 4 _ _ _ ?_
                      · rintro a w6 ⟨x93, x99, aa0, l0, c0, aa1, l1, c1, rfl, s6⟩
                        rw [← hA]
                        clear hA
                        simp only [Act.put, List.setIfInBounds_toArray, List.set_cons_succ, List.set_cons_zero]
                        have k0 : w6.cell? ⟨bm, 4, none⟩ = some (.slice A4 j C4) := (s6.box (b := bm) (cs := #[v0, v1, v2, v3, .slice A4 j C4, .slice A5 j C5]) (t := 37) (by simp)).cell 4
                        have f0 : w6.frozen? ⟨bm, 4, none⟩ = false := (s6.box (b := bm) (cs := #[v0, v1, v2, v3, .slice A4 j C4, .slice A5 j C5]) (t := 37) (by simp)).frozen 4
                        obtain ⟨w7, g0⟩ : ∃ w7, w7 = w6.setCell ⟨bm, 4, none⟩ (.slice aa0 l0 c0) := ⟨_, rfl⟩
                        have s7 : Dk.Sep W w7 (tB bm v0 v1 v2 v3 (.slice aa0 l0 c0) (.slice A5 j C5) :: tO mutexes v0 :: tH mutexes v1 :: tW mutexes v2 hv :: tC (Dk.lim conds) v3 cv :: Dk.rowOf 3 1 (.slice aa0 l0 c0) (((xs.take j).map Dk.cl).length + 1) (Dk.is ((xs.take j).map Dk.cl) ++ [.int .i64 q]) :: Dk.nestOf 22 3 1 Dk.is (.slice aa1 l1 c1) (dv ++ [.slice none 0 0]) ((List.replicate j ([] : List Int)) ++ [[]]) :: us) := by
                          rw [g0]
                          exact Dk.Sep.setBox (us1 := []) (o := 4) s6 (.slice aa0 l0 c0)
                        refine Dk.lineY_step (v := .pointer (some ⟨bm, 0, none⟩)) (w' := w6) (some 101) rfl rfl rfl (by go_simp) (fun h => absurd (by decide) h) ?_
                        simp only [Act.put, List.setIfInBounds_toArray, List.set_cons_succ, List.set_cons_zero]
                        refine Dk.lineY_step (v := .pointer (some ⟨bm, 4, none⟩)) (w' := w6) (some 102) rfl rfl rfl (by go_simp) (fun h => absurd (by decide) h) ?_
                        simp only [Act.put, List.setIfInBounds_toArray, List.set_cons_succ, List.set_cons_zero]
                        refine Dk.lineY_skip (w' := w7) none rfl rfl rfl (by rw [g0]; go_simp) (fun h => absurd (by decide) h) ?_
                        simp only [Act.put, List.setIfInBounds_toArray, List.set_cons_succ, List.set_cons_zero]
                        clear k0 f0 g0 s6
                        have k1 : w7.cell? ⟨bm, 5, none⟩ = some (.slice A5 j C5) := (s7.box (b := bm) (cs := #[v0, v1, v2, v3, .slice aa0 l0 c0, .slice A5 j C5]) (t := 37) (by simp)).cell 5
                        have f1 : w7.frozen? ⟨bm, 5, none⟩ = false := (s7.box (b := bm) (cs := #[v0, v1, v2, v3, .slice aa0 l0 c0, .slice A5 j C5]) (t := 37) (by simp)).frozen 5
                        obtain ⟨w8, g1⟩ : ∃ w8, w8 = w7.setCell ⟨bm, 5, none⟩ (.slice aa1 l1 c1) := ⟨_, rfl⟩
                        have s8 : Dk.Sep W w8 (tB bm v0 v1 v2 v3 (.slice aa0 l0 c0) (.slice aa1 l1 c1) :: tO mutexes v0 :: tH mutexes v1 :: tW mutexes v2 hv :: tC (Dk.lim conds) v3 cv :: Dk.rowOf 3 1 (.slice aa0 l0 c0) (((xs.take j).map Dk.cl).length + 1) (Dk.is ((xs.take j).map Dk.cl) ++ [.int .i64 q]) :: Dk.nestOf 22 3 1 Dk.is (.slice aa1 l1 c1) (dv ++ [.slice none 0 0]) ((List.replicate j ([] : List Int)) ++ [[]]) :: us) := by
                          rw [g1]
                          exact Dk.Sep.setBox (us1 := []) (o := 5) s7 (.slice aa1 l1 c1)
                        refine Dk.lineY_step (v := .pointer (some ⟨bm, 0, none⟩)) (w' := w7) (some 103) rfl rfl rfl (by go_simp) (fun h => absurd (by decide) h) ?_
                        simp only [Act.put, List.setIfInBounds_toArray, List.set_cons_succ, List.set_cons_zero]
                        refine Dk.lineY_step (v := .pointer (some ⟨bm, 5, none⟩)) (w' := w7) (some 104) rfl rfl rfl (by go_simp) (fun h => absurd (by decide) h) ?_
                        simp only [Act.put, List.setIfInBounds_toArray, List.set_cons_succ, List.set_cons_zero]
                        refine Dk.lineY_skip (w' := w8) none rfl rfl rfl (by rw [g1]; go_simp) (fun h => absurd (by decide) h) ?_
                        simp only [Act.put, List.setIfInBounds_toArray, List.set_cons_succ, List.set_cons_zero]
                        clear k1 f1 g1 s7
                        rename ∀ (_ : Act) (_ : World), Code.wp _ _ _ _ _ → _ => hK
                        refine hK _ _ ?_
                        clear hK HS sd fx
                        have hfin : Dk.Sep W w8 (Dk.mdl bm ⟨v0, v1, v2, v3, .slice aa0 l0 c0, .slice aa1 l1 c1, hv, cv, dv ++ [.slice none 0 0]⟩ ⟨(List.replicate (Dk.lim mutexes) (0 : Int)), (List.replicate (Dk.lim mutexes) false), (List.replicate (Dk.lim mutexes) ([] : List Int)), (List.replicate (Dk.lim conds) ([] : List (Int × Int))), ((xs.take (j + 1)).map Dk.cl), (List.replicate (j + 1) ([] : List Int))⟩ ++ us) := by
                          have et : (xs.take (j + 1)).map Dk.cl = (xs.take j).map Dk.cl ++ [q] := by
                            rw [List.take_add_one, HXJ.out, List.map_append]
                            show _ ++ [Dk.cl x] = _
                            rw [HCL.out]
                          rw [et, List.replicate_succ']
                          unfold Dk.mdl
                          simp only [List.length_append, Dk.is, List.map_append]
                          exact s8
                        clear HCL
                        go_wp2_with fail
                        go_roundw
                        case rel => exact ⟨j + 1, _, by omega, by go_num, hfin⟩
                        case measure => simp [intOf]; omega
                      · refine Dk.nodeT (rs := [7, 13]) (by kernel_rfl) (by simp) ?_
                        intro i hi
                        simp only [List.mem_cons, List.not_mem_nil, or_false] at hi
                        rcases hi with rfl | rfl
                        · obtain ⟨wt1, e1⟩ : ∃ wt1, wt1 = Wd.alloc (.cells #[.int .i64 q] 3) := ⟨_, rfl⟩
                          have st1 := sd.newBox e1
                          refine Dk.op_value (v := .slice (some ⟨Wd.heap.size, 0, none⟩) 1 1) (w' := wt1) (some 93) rfl rfl rfl (by rw [← hA]; clear hA; (try simp only [Act.put, List.setIfInBounds_toArray, List.set_cons_succ, List.set_cons_zero]); rw [e1]; go_simp) ⟨fun _ => fx _ _ st1 (by simp), ?_⟩
                          refine Dk.nodeT (rs := [8, 13]) (by kernel_rfl) (by simp) ?_
                          intro i hi
                          simp only [List.mem_cons, List.not_mem_nil, or_false] at hi
                          rcases hi with rfl | rfl
                          · have hb2 : Dk.Box wt1 Wd.heap.size #[.int .i64 q] 3 := st1.box (by simp)
                            obtain ⟨aa0, l0, c0, wt2, r2, st2⟩ := Dk.Sep.appendBox (us1 := [Dk.boxOf Wd.heap.size #[.int .i64 q] 3, tB bm v0 v1 v2 v3 (.slice A4 j C4) (.slice A5 j C5), tO mutexes v0, tH mutexes v1, tW mutexes v2 hv, tC (Dk.lim conds) v3 cv]) (us2 := tD (List.replicate j ([] : List Int)) (.slice A5 j C5) dv :: us) K22 st1 hb2 rfl (by omega)
                            refine Dk.op_value (v := .slice aa0 l0 c0) (w' := wt2) (some 94) rfl rfl rfl (by rw [← hA]; clear hA; (try simp only [Act.put, List.setIfInBounds_toArray, List.set_cons_succ, List.set_cons_zero]); simp only [execOp, resolve, invoke, builtin]; simp [Act.eval, r2]) ⟨fun _ => fx _ _ st2 (by simp), ?_⟩
                            refine Dk.nodeT (rs := [13]) (by kernel_rfl) (by simp) ?_
                            intro i hi
                            simp only [List.mem_cons, List.not_mem_nil, or_false] at hi
                            subst hi
                            obtain ⟨wt3, e3⟩ : ∃ wt3, wt3 = wt2.alloc (.cells #[.slice none 0 0] 22) := ⟨_, rfl⟩
                            have st3 := st2.newBox e3
                            refine Dk.op_value (v := .slice (some ⟨wt2.heap.size, 0, none⟩) 1 1) (w' := wt3) (some 99) rfl rfl rfl (by rw [← hA]; clear hA; (try simp only [Act.put, List.setIfInBounds_toArray, List.set_cons_succ, List.set_cons_zero]); rw [e3]; go_simp) ⟨fun _ => fx _ _ st3 (by simp), ?_⟩
                            refine Dk.nodeT (rs := [14]) (by kernel_rfl) (by simp) ?_
                            intro i hi
                            simp only [List.mem_cons, List.not_mem_nil, or_false] at hi
                            subst hi
                            have hb4 : Dk.Box wt3 wt2.heap.size #[.slice none 0 0] 22 := st3.box (by simp)
                            obtain ⟨aa1, l1, c1, wt4, r4, st4⟩ := Dk.Sep.nestGrow (us1 := [Dk.boxOf wt2.heap.size #[.slice none 0 0] 22, Dk.boxOf Wd.heap.size #[.int .i64 q] 3, tB bm v0 v1 v2 v3 (.slice A4 j C4) (.slice A5 j C5), tO mutexes v0, tH mutexes v1, tW mutexes v2 hv, tC (Dk.lim conds) v3 cv, Dk.rowOf 3 1 (.slice aa0 l0 c0) (((xs.take j).map Dk.cl).length + 1) (Dk.is ((xs.take j).map Dk.cl) ++ [.int .i64 q])]) (us2 := us) K34 st3 hb4 rfl (by omega)
                            refine Dk.op_value (v := .slice aa1 l1 c1) (w' := wt4) (some 100) rfl rfl rfl (by rw [← hA]; clear hA; (try simp only [Act.put, List.setIfInBounds_toArray, List.set_cons_succ, List.set_cons_zero]); simp only [execOp, resolve, invoke, builtin]; simp [Act.eval, r4]) ⟨fun _ => fx _ _ st4 (by simp), ?_⟩
                            refine ⟨by kernel_rfl, .slice (some ⟨Wd.heap.size, 0, none⟩) 1 1, .slice (some ⟨wt2.heap.size, 0, none⟩) 1 1, aa0, l0, c0, aa1, l1, c1, ?_, st4.sub ?_⟩
                            · subst hA
                              first | rfl | (simp only [Act.put, List.setIfInBounds_toArray, List.set_cons_succ, List.set_cons_zero])
                            · exact List.sublist_append_right [_, _] _
                          · obtain ⟨wt5, e5⟩ : ∃ wt5, wt5 = wt1.alloc (.cells #[.slice none 0 0] 22) := ⟨_, rfl⟩
                            have st5 := st1.newBox e5
                            refine Dk.op_value (v := .slice (some ⟨wt1.heap.size, 0, none⟩) 1 1) (w' := wt5) (some 99) rfl rfl rfl (by rw [← hA]; clear hA; (try simp only [Act.put, List.setIfInBounds_toArray, List.set_cons_succ, List.set_cons_zero]); rw [e5]; go_simp) ⟨fun _ => fx _ _ st5 (by simp), ?_⟩
                            refine Dk.nodeT (rs := [8]) (by kernel_rfl) (by simp) ?_
                            intro i hi
                            simp only [List.mem_cons, List.not_mem_nil, or_false] at hi
                            subst hi
                            have hb6 : Dk.Box wt5 Wd.heap.size #[.int .i64 q] 3 := st5.box (by simp)
                            obtain ⟨aa0, l0, c0, wt6, r6, st6⟩ := Dk.Sep.appendBox (us1 := [Dk.boxOf wt1.heap.size #[.slice none 0 0] 22, Dk.boxOf Wd.heap.size #[.int .i64 q] 3, tB bm v0 v1 v2 v3 (.slice A4 j C4) (.slice A5 j C5), tO mutexes v0, tH mutexes v1, tW mutexes v2 hv, tC (Dk.lim conds) v3 cv]) (us2 := tD (List.replicate j ([] : List Int)) (.slice A5 j C5) dv :: us) K22 st5 hb6 rfl (by omega)
                            refine Dk.op_value (v := .slice aa0 l0 c0) (w' := wt6) (some 94) rfl rfl rfl (by rw [← hA]; clear hA; (try simp only [Act.put, List.setIfInBounds_toArray, List.set_cons_succ, List.set_cons_zero]); simp only [execOp, resolve, invoke, builtin]; simp [Act.eval, r6]) ⟨fun _ => fx _ _ st6 (by simp), ?_⟩
                            refine Dk.nodeT (rs := [14]) (by kernel_rfl) (by simp) ?_
                            intro i hi
                            simp only [List.mem_cons, List.not_mem_nil, or_false] at hi
                            subst hi
                            have hb7 : Dk.Box wt6 wt1.heap.size #[.slice none 0 0] 22 := st6.box (by simp)
                            obtain ⟨aa1, l1, c1, wt7, r7, st7⟩ := Dk.Sep.nestGrow (us1 := [Dk.boxOf wt1.heap.size #[.slice none 0 0] 22, Dk.boxOf Wd.heap.size #[.int .i64 q] 3, tB bm v0 v1 v2 v3 (.slice A4 j C4) (.slice A5 j C5), tO mutexes v0, tH mutexes v1, tW mutexes v2 hv, tC (Dk.lim conds) v3 cv, Dk.rowOf 3 1 (.slice aa0 l0 c0) (((xs.take j).map Dk.cl).length + 1) (Dk.is ((xs.take j).map Dk.cl) ++ [.int .i64 q])]) (us2 := us) K34 st6 hb7 rfl (by omega)
                            refine Dk.op_value (v := .slice aa1 l1 c1) (w' := wt7) (some 100) rfl rfl rfl (by rw [← hA]; clear hA; (try simp only [Act.put, List.setIfInBounds_toArray, List.set_cons_succ, List.set_cons_zero]); simp only [execOp, resolve, invoke, builtin]; simp [Act.eval, r7]) ⟨fun _ => fx _ _ st7 (by simp), ?_⟩
                            refine ⟨by kernel_rfl, .slice (some ⟨Wd.heap.size, 0, none⟩) 1 1, .slice (some ⟨wt1.heap.size, 0, none⟩) 1 1, aa0, l0, c0, aa1, l1, c1, ?_, st7.sub ?_⟩
                            · subst hA
                              first | rfl | (simp only [Act.put, List.setIfInBounds_toArray, List.set_cons_succ, List.set_cons_zero])
                            · exact List.sublist_append_right [_, _] _
                        · obtain ⟨wt8, e8⟩ : ∃ wt8, wt8 = Wd.alloc (.cells #[.slice none 0 0] 22) := ⟨_, rfl⟩
                          have st8 := sd.newBox e8
                          refine Dk.op_value (v := .slice (some ⟨Wd.heap.size, 0, none⟩) 1 1) (w' := wt8) (some 99) rfl rfl rfl (by rw [← hA]; clear hA; (try simp only [Act.put, List.setIfInBounds_toArray, List.set_cons_succ, List.set_cons_zero]); rw [e8]; go_simp) ⟨fun _ => fx _ _ st8 (by simp), ?_⟩
                          refine Dk.nodeT (rs := [7]) (by kernel_rfl) (by simp) ?_
                          intro i hi
                          simp only [List.mem_cons, List.not_mem_nil, or_false] at hi
                          subst hi
                          obtain ⟨wt9, e9⟩ : ∃ wt9, wt9 = wt8.alloc (.cells #[.int .i64 q] 3) := ⟨_, rfl⟩
                          have st9 := st8.newBox e9
                          refine Dk.op_value (v := .slice (some ⟨wt8.heap.size, 0, none⟩) 1 1) (w' := wt9) (some 93) rfl rfl rfl (by rw [← hA]; clear hA; (try simp only [Act.put, List.setIfInBounds_toArray, List.set_cons_succ, List.set_cons_zero]); rw [e9]; go_simp) ⟨fun _ => fx _ _ st9 (by simp), ?_⟩
                          refine Dk.nodeT (rs := [8]) (by kernel_rfl) (by simp) ?_
                          intro i hi
                          simp only [List.mem_cons, List.not_mem_nil, or_false] at hi
                          subst hi
                          have hb10 : Dk.Box wt9 wt8.heap.size #[.int .i64 q] 3 := st9.box (by simp)
                          obtain ⟨aa0, l0, c0, wt10, r10, st10⟩ := Dk.Sep.appendBox (us1 := [Dk.boxOf wt8.heap.size #[.int .i64 q] 3, Dk.boxOf Wd.heap.size #[.slice none 0 0] 22, tB bm v0 v1 v2 v3 (.slice A4 j C4) (.slice A5 j C5), tO mutexes v0, tH mutexes v1, tW mutexes v2 hv, tC (Dk.lim conds) v3 cv]) (us2 := tD (List.replicate j ([] : List Int)) (.slice A5 j C5) dv :: us) K22 st9 hb10 rfl (by omega)
                          refine Dk.op_value (v := .slice aa0 l0 c0) (w' := wt10) (some 94) rfl rfl rfl (by rw [← hA]; clear hA; (try simp only [Act.put, List.setIfInBounds_toArray, List.set_cons_succ, List.set_cons_zero]); simp only [execOp, resolve, invoke, builtin]; simp [Act.eval, r10]) ⟨fun _ => fx _ _ st10 (by simp), ?_⟩
                          refine Dk.nodeT (rs := [14]) (by kernel_rfl) (by simp) ?_
                          intro i hi
                          simp only [List.mem_cons, List.not_mem_nil, or_false] at hi
                          subst hi
                          have hb11 : Dk.Box wt10 Wd.heap.size #[.slice none 0 0] 22 := st10.box (by simp)
                          obtain ⟨aa1, l1, c1, wt11, r11, st11⟩ := Dk.Sep.nestGrow (us1 := [Dk.boxOf wt8.heap.size #[.int .i64 q] 3, Dk.boxOf Wd.heap.size #[.slice none 0 0] 22, tB bm v0 v1 v2 v3 (.slice A4 j C4) (.slice A5 j C5), tO mutexes v0, tH mutexes v1, tW mutexes v2 hv, tC (Dk.lim conds) v3 cv, Dk.rowOf 3 1 (.slice aa0 l0 c0) (((xs.take j).map Dk.cl).length + 1) (Dk.is ((xs.take j).map Dk.cl) ++ [.int .i64 q])]) (us2 := us) K34 st10 hb11 rfl (by omega)
                          refine Dk.op_value (v := .slice aa1 l1 c1) (w' := wt11) (some 100) rfl rfl rfl (by rw [← hA]; clear hA; (try simp only [Act.put, List.setIfInBounds_toArray, List.set_cons_succ, List.set_cons_zero]); simp only [execOp, resolve, invoke, builtin]; simp [Act.eval, r11]) ⟨fun _ => fx _ _ st11 (by simp), ?_⟩
                          refine ⟨by kernel_rfl, .slice (some ⟨wt8.heap.size, 0, none⟩) 1 1, .slice (some ⟨Wd.heap.size, 0, none⟩) 1 1, aa0, l0, c0, aa1, l1, c1, ?_, st11.sub ?_⟩
                          · subst hA
                            first | rfl | (simp only [Act.put, List.setIfInBounds_toArray, List.set_cons_succ, List.set_cons_zero])
                          · exact List.sublist_append_right [_, _] _
                · by_cases g3 : j < L
                  · have y1 : decide ((j : Int) < (L : Int)) = true := decide_eq_true (by omega)
                    have y2 : decide ((j : Int) < 4) = false := decide_eq_false (by omega)
                    have y3 : decide (j < 4) = false := decide_eq_false (by omega)
                    obtain rfl : j = min L 4 := by omega
                    have ex4 : xs.take (min L 4) = xs.take 4 := by rw [← HSL.out, Nat.min_comm, ← List.take_take, List.take_length]
                    rw [ex4] at hX
                    go_wp2_with fail
                    go_ret
                    exact ⟨bm, _, rfl, hX⟩
                  · have y1 : decide ((j : Int) < (L : Int)) = false := decide_eq_false (by omega)
                    obtain rfl : j = min L 4 := by omega
                    have ex4 : xs.take (min L 4) = xs.take 4 := by rw [← HSL.out, Nat.min_comm, ← List.take_take, List.take_length]
                    rw [ex4] at hX
                    go_wp2_with fail
                    go_ret
                    exact ⟨bm, _, rfl, hX⟩
      · have y1 : decide ((j : Int) < mutexes) = false := decide_eq_false g1
        obtain rfl : j = Dk.lim mutexes := by omega
        go_wp2_with fail
        generalize wr = wq at *
        go_loopw [9] (fun i w' => ∃ (j : Nat) (V : Dk.Vs), j ≤ Dk.lim conds ∧ i = .int .i64 j ∧ Dk.Sep W w' (Dk.mdl bm V ⟨(List.replicate (Dk.lim mutexes) (0 : Int)), (List.replicate (Dk.lim mutexes) false), (List.replicate (Dk.lim mutexes) ([] : List Int)), (List.replicate j ([] : List (Int × Int))), [], []⟩ ++ us)) (fun i w' => Dk.lim conds - (intOf i).toNat)
        case atStart => exact ⟨0, _, Nat.zero_le _, rfl, hT⟩
        case round =>
          obtain ⟨j, V, hj, rfl, hU⟩ := hrel
          clear hT
          by_cases hlt : j < Dk.lim conds
          · have hl2 := (Dk.lim_lt conds j).1 hlt
            have y1 : decide ((j : Int) < conds) = true := decide_eq_true hl2.1
            have y2 : decide ((j : Int) < 4) = true := decide_eq_true (by omega)
            have y3 : decide (j < 4) = true := decide_eq_true (by omega)
            obtain ⟨v0, v1, v2, v3, v4, v5, hv, cv, dv⟩ := V
            obtain ⟨A3, C3, E3, _, _⟩ := hU.nestLen (eh := 38) (e := 40) (s := 2) (f := Dk.pr2) (v := v3) (vs := cv) (xss := (List.replicate j ([] : List (Int × Int)))) (by simp [Dk.mdl])
            have lcd : (List.replicate j ([] : List (Int × Int))).length = j := List.length_replicate
            rw [lcd] at E3
            subst E3
            obtain ⟨W2, e2⟩ : ∃ W2, W2 = wr.alloc (.cells #[.slice none 0 0] 38) := ⟨_, rfl⟩
            have h2 : Dk.Sep W W2 (Dk.boxOf wr.heap.size #[.slice none 0 0] 38 :: tB bm v0 v1 v2 (.slice A3 j C3) v4 v5 :: tO mutexes v0 :: tH mutexes v1 :: tW mutexes v2 hv :: tC j (.slice A3 j C3) cv :: tR ([] : List Int) v4 :: tD ([] : List (List Int)) v5 dv :: us) := hU.newBox e2
            have hb2 : Dk.Box W2 wr.heap.size #[.slice none 0 0] 38 := h2.box (by simp)
            have c0 : W2.cell? ⟨bm, 3, none⟩ = some (.slice A3 j C3) := (h2.box (b := bm) (cs := #[v0, v1, v2, .slice A3 j C3, v4, v5]) (t := 37) (by simp)).cell 3
            have c0' : wr.cell? ⟨bm, 3, none⟩ = some (.slice A3 j C3) := (hU.box (b := bm) (cs := #[v0, v1, v2, .slice A3 j C3, v4, v5]) (t := 37) (by simp [Dk.mdl])).cell 3
            obtain ⟨a3, l3, c3, w3, hrun, h3⟩ := Dk.Sep.nestGrow (us1 := [Dk.boxOf wr.heap.size #[.slice none 0 0] 38, tB bm v0 v1 v2 (.slice A3 j C3) v4 v5, tO mutexes v0, tH mutexes v1, tW mutexes v2 hv]) (us2 := tR ([] : List Int) v4 :: tD ([] : List (List Int)) v5 dv :: us) K35 h2 hb2 rfl (by rw [lcd]; omega)
            have b3 : Dk.Box w3 bm #[v0, v1, v2, .slice A3 j C3, v4, v5] 37 := h3.box (by simp)
            have k3 : w3.cell? ⟨bm, 3, none⟩ = some (.slice A3 j C3) := b3.cell 3
            have f3 : w3.frozen? ⟨bm, 3, none⟩ = false := b3.frozen 3
            obtain ⟨W4, e4⟩ : ∃ W4, W4 = w3.setCell ⟨bm, 3, none⟩ (.slice a3 l3 c3) := ⟨_, rfl⟩
            have h4 := Dk.Sep.setBox (us1 := [_]) (o := 3) h3 (.slice a3 l3 c3)
            have h5 : Dk.Sep W W4 (Dk.mdl bm ⟨v0, v1, v2, .slice a3 l3 c3, v4, v5, hv, cv ++ [.slice none 0 0], dv⟩ ⟨(List.replicate (Dk.lim mutexes) (0 : Int)), (List.replicate (Dk.lim mutexes) false), (List.replicate (Dk.lim mutexes) ([] : List Int)), (List.replicate (j + 1) ([] : List (Int × Int))), [], []⟩ ++ us) := by
              rw [List.replicate_succ', e4]
              exact h4.sub (List.sublist_cons_self _ _)
            have H2 : Hid (wr.alloc (.cells #[.slice none 0 0] 38) = W2) := e2.symm
            have H4 : Hid (w3.setCell ⟨bm, 3, none⟩ (.slice a3 l3 c3) = W4) := e4.symm
            clear h2 h3 h4 hU b3 hb2 e2 e4
            go_wp2_with (first | (rw [H2.out]; clear H2) | (rw [H4.out]; clear H4) | (at_builtin; refine Lib.wpList_append_run _ rfl _ _ _ _ rfl _ _ rfl rfl _ _ hrun ?_))
            go_roundw
            case rel => exact ⟨j + 1, _, by omega, by go_num, h5⟩
            case measure => simp [intOf]; omega
          · have hl2 := mt (Dk.lim_lt conds j).2 hlt
            by_cases g2 : (j : Int) < conds
            · have y1 : decide ((j : Int) < conds) = true := decide_eq_true g2
              have y2 : decide ((j : Int) < 4) = false := decide_eq_false (by omega)
              have y3 : decide (j < 4) = false := decide_eq_false (by omega)
              obtain rfl : j = Dk.lim conds := by omega
              go_wp2_with fail
              generalize wr = wcc at *
              go_loopw [10] (fun i w' => ∃ (j : Nat) (V : Dk.Vs), j ≤ min L 4 ∧ i = .int .i64 j ∧ Dk.Sep W w' (Dk.mdl bm V ⟨(List.replicate (Dk.lim mutexes) (0 : Int)), (List.replicate (Dk.lim mutexes) false), (List.replicate (Dk.lim mutexes) ([] : List Int)), (List.replicate (Dk.lim conds) ([] : List (Int × Int))), ((xs.take j).map Dk.cl), (List.replicate j ([] : List Int))⟩ ++ us)) (fun i w' => min L 4 - (intOf i).toNat)
              case atStart => exact ⟨0, _, Nat.zero_le _, rfl, hU⟩
              case round =>
                obtain ⟨j, V, hj, rfl, hX⟩ := hrel
                clear hU
                by_cases hlt : j < min L 4
                · have y1 : decide ((j : Int) < (L : Int)) = true := decide_eq_true (by omega)
                  have y2 : decide ((j : Int) < 4) = true := decide_eq_true (by omega)
                  have y3 : decide (j < 4) = true := decide_eq_true (by omega)
                  have hjL : (j : Int) < (L : Int) := by omega
                  obtain ⟨bs, os, rfl, hbs, hcs⟩ := HX.out.cells (by omega)
                  obtain ⟨x, ex⟩ := Dk.lt_some (l := xs) (i := j) (by have := HSL.out; omega)
                  have d0 : wr.cell? ⟨bs, os + j, none⟩ = some (.int .i64 x) := by
                    have q1 := hcs j (by omega)
                    rw [Dk.getD_some ex] at q1
                    rw [hX.out.cell (p := ⟨bs, os + j, none⟩) hbs]
                    exact q1
                  have HXJ : Hid (xs[j]? = some x) := ex
                  obtain ⟨v0, v1, v2, v3, v4, v5, hv, cv, dv⟩ := V
                  obtain ⟨A4, C4, E4, _, _⟩ := Dk.owns_slice (Dk.Mdl.count hX)
                  obtain ⟨A5, C5, E5, _, _⟩ := hX.nestLen (eh := 22) (e := 3) (s := 1) (f := Dk.is) (v := v5) (vs := dv) (xss := (List.replicate j ([] : List Int))) (by simp [Dk.mdl])
                  have lct : ((xs.take j).map Dk.cl).length = j := by rw [List.length_map, List.length_take, HSL.out]; omega
                  have ldn : (List.replicate j ([] : List Int)).length = j := List.length_replicate
                  simp only at E4 E5
                  rw [lct] at E4
                  rw [ldn] at E5
                  subst E4 E5
                  have sd : Dk.Sep W wr.drew (tB bm v0 v1 v2 v3 (.slice A4 j C4) (.slice A5 j C5) :: tO mutexes v0 :: tH mutexes v1 :: tW mutexes v2 hv :: tC (Dk.lim conds) v3 cv :: tR ((xs.take j).map Dk.cl) (.slice A4 j C4) :: tD (List.replicate j ([] : List Int)) (.slice A5 j C5) dv :: us) := hX.below (Dk.up_drew (Below.refl _ _))
                  have fx : ∀ (ts : List Dk.Thing) (w : World), Dk.Sep W w ts → tB bm v0 v1 v2 v3 (.slice A4 j C4) (.slice A5 j C5) ∈ ts → (fun w' : World => w'.cell? ⟨bm, 4, none⟩ = some (.slice A4 j C4) ∧ w'.cell? ⟨bm, 5, none⟩ = some (.slice A5 j C5)) w := fun ts w hh hm => by
                    have hb := hh.box hm
                    exact ⟨hb.cell 4, hb.cell 5⟩
                  have HS : Hid ((fun w' : World => w'.cell? ⟨bm, 4, none⟩ = some (.slice A4 j C4) ∧ w'.cell? ⟨bm, 5, none⟩ = some (.slice A5 j C5)) wr.drew) := fx _ _ sd (by simp)
                  clear hX hcs ex
                  obtain ⟨q, eq⟩ : ∃ q, Dk.cl x = q := ⟨_, rfl⟩
                  obtain ⟨p, ep⟩ : ∃ p : Int, (if x < 0 then 0 else x) = p := ⟨_, rfl⟩
                  have HP1 : Hid (x < 0 → p = 0) := fun h => by rw [← ep, if_pos h]
                  have HP2 : Hid (¬ x < 0 → p = x) := fun h => by rw [← ep, if_neg h]
                  have HQ1 : Hid (1048576 < p → q = 1048576) := fun h => by
                    rw [← eq]
                    unfold Dk.cl
                    by_cases h0 : x < 0
                    · have := HP1.out h0; omega
                    · rw [HP2.out h0] at h
                      rw [if_neg h0, if_pos h]
                  have HQ2 : Hid (¬ 1048576 < p → q = p) := fun h => by
                    rw [← eq]
                    unfold Dk.cl
                    by_cases h0 : x < 0
                    · rw [if_pos h0, HP1.out h0]
                    · rw [HP2.out h0] at h ⊢
                      rw [if_neg h0, if_neg h]
                  have hcl := eq
                  clear eq ep
                  go_upto_if 83 with fail
                  go_cut [11] from 82 to 85 (fun v w' => v = .int .i64 p ∧ w' = wr)
                  case first =>
                    by_cases n0 : x < 0
                    · have z1 : decide (x < 0) = true := decide_eq_true n0
                      go_wp2_with fail
                      go_meet
                      exact ⟨by rw [HP1.out n0], rfl⟩
                    · have z1 : decide (x < 0) = false := decide_eq_false n0
                      go_wp2_with fail
                      go_meet
                      exact ⟨by rw [HP2.out n0], rfl⟩
                  case rest =>
                    obtain ⟨rfl, hw⟩ := hcut
                    subst wc
                    clear HP1 HP2
                    go_upto_if 85 with fail
                    go_cut [11] from 82 to 85 (fun v w' => v = .int .i64 q ∧ w' = wr)
                    case first =>
                      by_cases n1 : 1048576 < p
                      · have z2 : decide (p > 1048576) = true := decide_eq_true n1
                        have z3 : decide (1048576 < p) = true := decide_eq_true n1
                        go_wp2_with fail
                        go_meet
                        exact ⟨by rw [HQ1.out n1], rfl⟩
                      · have z2 : decide (p > 1048576) = false := decide_eq_false n1
                        have z3 : decide (1048576 < p) = false := decide_eq_false n1
                        go_wp2_with fail
                        go_meet
                        exact ⟨by rw [HQ2.out n1], rfl⟩
                    case rest =>
                      obtain ⟨rfl, hw⟩ := hcut
                      subst wc
                      clear HQ1 HQ2
                      have HCL : Hid (Dk.cl x = q) := hcl
                      clear hcl
                      go_wp2_with fail
                      refine Dk.wp_region_tree (S := fun w' : World => w'.cell? ⟨bm, 4, none⟩ = some (.slice A4 j C4) ∧ w'.cell? ⟨bm, 5, none⟩ = some (.slice A5 j C5)) [1] [0, 2, 3, 4, 5, 6, 9, 10, 11, 12] [1, 15, 16, 17, 18, 19, 20] 10 (by kernel_rfl) (by kernel_rfl) (by kernel_rfl) (by kernel_rfl) rfl HS.out _ ?_ (fun a' h => h)
                      refine Dk.held_step (v := .pointer (some ⟨bm, 0, none⟩)) rfl rfl (fun w' hw' => by go_simp) ?_
                      simp only [Act.put, List.setIfInBounds_toArray, List.set_cons_succ, List.set_cons_zero]
                      refine Dk.held_step (v := .pointer (some ⟨bm, 0, none⟩)) rfl rfl (fun w' hw' => by obtain ⟨q0, q1⟩ := hw'; go_simp) ?_
                      simp only [Act.put, List.setIfInBounds_toArray, List.set_cons_succ, List.set_cons_zero]
                      refine Dk.held_step (v := .pointer (some ⟨bm, 0, none⟩)) rfl rfl (fun w' hw' => by obtain ⟨q0, q1⟩ := hw'; go_simp) ?_
                      simp only [Act.put, List.setIfInBounds_toArray, List.set_cons_succ, List.set_cons_zero]
                      refine Dk.held_step (v := .pointer (some ⟨bm, 0, none⟩)) rfl rfl (fun w' hw' => by obtain ⟨q0, q1⟩ := hw'; go_simp) ?_
                      simp only [Act.put, List.setIfInBounds_toArray, List.set_cons_succ, List.set_cons_zero]
                      refine Dk.held_step (v := .pointer (some ⟨bm, 4, none⟩)) rfl rfl (fun w' hw' => by obtain ⟨q0, q1⟩ := hw'; go_simp) ?_
                      simp only [Act.put, List.setIfInBounds_toArray, List.set_cons_succ, List.set_cons_zero]
                      refine Dk.held_step (v := .slice A4 j C4) rfl rfl (fun w' hw' => by obtain ⟨q0, q1⟩ := hw'; go_simp) ?_
                      simp only [Act.put, List.setIfInBounds_toArray, List.set_cons_succ, List.set_cons_zero]
                      refine Dk.held_step (v := .int .i64 q) rfl rfl (fun w' hw' => by obtain ⟨q0, q1⟩ := hw'; go_simp) ?_
                      simp only [Act.put, List.setIfInBounds_toArray, List.set_cons_succ, List.set_cons_zero]
                      refine Dk.held_step (v := .pointer (some ⟨bm, 0, none⟩)) rfl rfl (fun w' hw' => by obtain ⟨q0, q1⟩ := hw'; go_simp) ?_
                      simp only [Act.put, List.setIfInBounds_toArray, List.set_cons_succ, List.set_cons_zero]
                      refine Dk.held_step (v := .pointer (some ⟨bm, 0, none⟩)) rfl rfl (fun w' hw' => by obtain ⟨q0, q1⟩ := hw'; go_simp) ?_
                      simp only [Act.put, List.setIfInBounds_toArray, List.set_cons_succ, List.set_cons_zero]
                      refine Dk.held_step (v := .pointer (some ⟨bm, 5, none⟩)) rfl rfl (fun w' hw' => by obtain ⟨q0, q1⟩ := hw'; go_simp) ?_
                      simp only [Act.put, List.setIfInBounds_toArray, List.set_cons_succ, List.set_cons_zero]
                      refine Dk.held_step (v := .slice A5 j C5) rfl rfl (fun w' hw' => by obtain ⟨q0, q1⟩ := hw'; go_simp) ?_
                      simp only [Act.put, List.setIfInBounds_toArray, List.set_cons_succ, List.set_cons_zero]
                      generalize wr.drew = Wd at *
                      refine Dk.nameY ?_
                      intro a0 hA
                      refine Dk.cutY (T := fun a w => ∃ (x93 x99 : Value) (aa0 : Option Addr) (l0 c0 : Nat) (aa1 : Option Addr) (l1 c1 : Nat), a = ((((a0.put (some 93) x93).put (some 94) (.slice aa0 l0 c0)).put (some 99) x99).put (some 100) (.slice aa1 l1 c1)) ∧ Dk.Sep W w (tB bm v0 v1 v2 v3 (.slice A4 j C4) (.slice A5 j C5) :: tO mutexes v0 :: tH mutexes v1 :: tW mutexes v2 hv :: tC (Dk.lim conds) v3 cv :: Dk.rowOf 3 1 (.slice aa0 l0 c0) (((xs.take j).map Dk.cl).length + 1) (Dk.is ((xs.take j).map Dk.cl) ++ [.int .i64 q]) :: Dk.nestOf 22 3 1 Dk.is (.slice aa1 l1 c1) (dv ++ [.slice none 0 0]) ((List.replicate j ([] : List Int)) ++ [[]]) :: us)) (js := [15, 16, 17, 18, 19, 20]) ?_ 4 _ _ _ ?_
                      · rintro a w6 ⟨x93, x99, aa0, l0, c0, aa1, l1, c1, rfl, s6⟩
                        rw [← hA]
                        clear hA
                        simp only [Act.put, List.setIfInBounds_toArray, List.set_cons_succ, List.set_cons_zero]
                        have k0 : w6.cell? ⟨bm, 4, none⟩ = some (.slice A4 j C4) := (s6.box (b := bm) (cs := #[v0, v1, v2, v3, .slice A4 j C4, .slice A5 j C5]) (t := 37) (by simp)).cell 4
                        have f0 : w6.frozen? ⟨bm, 4, none⟩ = false := (s6.box (b := bm) (cs := #[v0, v1, v2, v3, .slice A4 j C4, .slice A5 j C5]) (t := 37) (by simp)).frozen 4
                        obtain ⟨w7, g0⟩ : ∃ w7, w7 = w6.setCell ⟨bm, 4, none⟩ (.slice aa0 l0 c0) := ⟨_, rfl⟩
                        have s7 : Dk.Sep W w7 (tB bm v0 v1 v2 v3 (.slice aa0 l0 c0) (.slice A5 j C5) :: tO mutexes v0 :: tH mutexes v1 :: tW mutexes v2 hv :: tC (Dk.lim conds) v3 cv :: Dk.rowOf 3 1 (.slice aa0 l0 c0) (((xs.take j).map Dk.cl).length + 1) (Dk.is ((xs.take j).map Dk.cl) ++ [.int .i64 q]) :: Dk.nestOf 22 3 1 Dk.is (.slice aa1 l1 c1) (dv ++ [.slice none 0 0]) ((List.replicate j ([] : List Int)) ++ [[]]) :: us) := by
                          rw [g0]
                          exact Dk.Sep.setBox (us1 := []) (o := 4) s6 (.slice aa0 l0 c0)
                        refine Dk.lineY_step (v := .pointer (some ⟨bm, 0, none⟩)) (w' := w6) (some 101) rfl rfl rfl (by go_simp) (fun h => absurd (by decide) h) ?_
                        simp only [Act.put, List.setIfInBounds_toArray, List.set_cons_succ, List.set_cons_zero]
                        refine Dk.lineY_step (v := .pointer (some ⟨bm, 4, none⟩)) (w' := w6) (some 102) rfl rfl rfl (by go_simp) (fun h => absurd (by decide) h) ?_
                        simp only [Act.put, List.setIfInBounds_toArray, List.set_cons_succ, List.set_cons_zero]
                        refine Dk.lineY_skip (w' := w7) none rfl rfl rfl (by rw [g0]; go_simp) (fun h => absurd (by decide) h) ?_
                        simp only [Act.put, List.setIfInBounds_toArray, List.set_cons_succ, List.set_cons_zero]
                        clear k0 f0 g0 s6
                        have k1 : w7.cell? ⟨bm, 5, none⟩ = some (.slice A5 j C5) := (s7.box (b := bm) (cs := #[v0, v1, v2, v3, .slice aa0 l0 c0, .slice A5 j C5]) (t := 37) (by simp)).cell 5
                        have f1 : w7.frozen? ⟨bm, 5, none⟩ = false := (s7.box (b := bm) (cs := #[v0, v1, v2, v3, .slice aa0 l0 c0, .slice A5 j C5]) (t := 37) (by simp)).frozen 5
                        obtain ⟨w8, g1⟩ : ∃ w8, w8 = w7.setCell ⟨bm, 5, none⟩ (.slice aa1 l1 c1) := ⟨_, rfl⟩
                        have s8 : Dk.Sep W w8 (tB bm v0 v1 v2 v3 (.slice aa0 l0 c0) (.slice aa1 l1 c1) :: tO mutexes v0 :: tH mutexes v1 :: tW mutexes v2 hv :: tC (Dk.lim conds) v3 cv :: Dk.rowOf 3 1 (.slice aa0 l0 c0) (((xs.take j).map Dk.cl).length + 1) (Dk.is ((xs.take j).map Dk.cl) ++ [.int .i64 q]) :: Dk.nestOf 22 3 1 Dk.is (.slice aa1 l1 c1) (dv ++ [.slice none 0 0]) ((List.replicate j ([] : List Int)) ++ [[]]) :: us) := by
                          rw [g1]
                          exact Dk.Sep.setBox (us1 := []) (o := 5) s7 (.slice aa1 l1 c1)
                        refine Dk.lineY_step (v := .pointer (some ⟨bm, 0, none⟩)) (w' := w7) (some 103) rfl rfl rfl (by go_simp) (fun h => absurd (by decide) h) ?_
                        simp only [Act.put, List.setIfInBounds_toArray, List.set_cons_succ, List.set_cons_zero]
                        refine Dk.lineY_step (v := .pointer (some ⟨bm, 5, none⟩)) (w' := w7) (some 104) rfl rfl rfl (by go_simp) (fun h => absurd (by decide) h) ?_
                        simp only [Act.put, List.setIfInBounds_toArray, List.set_cons_succ, List.set_cons_zero]
                        refine Dk.lineY_skip (w' := w8) none rfl rfl rfl (by rw [g1]; go_simp) (fun h => absurd (by decide) h) ?_
                        simp only [Act.put, List.setIfInBounds_toArray, List.set_cons_succ, List.set_cons_zero]
                        clear k1 f1 g1 s7
                        rename ∀ (_ : Act) (_ : World), Code.wp _ _ _ _ _ → _ => hK
                        refine hK _ _ ?_
                        clear hK HS sd fx
                        have hfin : Dk.Sep W w8 (Dk.mdl bm ⟨v0, v1, v2, v3, .slice aa0 l0 c0, .slice aa1 l1 c1, hv, cv, dv ++ [.slice none 0 0]⟩ ⟨(List.replicate (Dk.lim mutexes) (0 : Int)), (List.replicate (Dk.lim mutexes) false), (List.replicate (Dk.lim mutexes) ([] : List Int)), (List.replicate (Dk.lim conds) ([] : List (Int × Int))), ((xs.take (j + 1)).map Dk.cl), (List.replicate (j + 1) ([] : List Int))⟩ ++ us) := by
                          have et : (xs.take (j + 1)).map Dk.cl = (xs.take j).map Dk.cl ++ [q] := by
                            rw [List.take_add_one, HXJ.out, List.map_append]
                            show _ ++ [Dk.cl x] = _
                            rw [HCL.out]
                          rw [et, List.replicate_succ']
                          unfold Dk.mdl
                          simp only [List.length_append, Dk.is, List.map_append]
                          exact s8
                        clear HCL
                        go_wp2_with fail
                        go_roundw
                        case rel => exact ⟨j + 1, _, by omega, by go_num, hfin⟩
                        case measure => simp [intOf]; omega
                      · refine Dk.nodeT (rs := [7, 13]) (by kernel_rfl) (by simp) ?_
                        intro i hi
                        simp only [List.mem_cons, List.not_mem_nil, or_false] at hi
                        rcases hi with rfl | rfl
                        · obtain ⟨wt1, e1⟩ : ∃ wt1, wt1 = Wd.alloc (.cells #[.int .i64 q] 3) := ⟨_, rfl⟩
                          have st1 := sd.newBox e1
                          refine Dk.op_value (v := .slice (some ⟨Wd.heap.size, 0, none⟩) 1 1) (w' := wt1) (some 93) rfl rfl rfl (by rw [← hA]; clear hA; (try simp only [Act.put, List.setIfInBounds_toArray, List.set_cons_succ, List.set_cons_zero]); rw [e1]; go_simp) ⟨fun _ => fx _ _ st1 (by simp), ?_⟩
                          refine Dk.nodeT (rs := [8, 13]) (by kernel_rfl) (by simp) ?_
                          intro i hi
                          simp only [List.mem_cons, List.not_mem_nil, or_false] at hi
                          rcases hi with rfl | rfl
                          · have hb2 : Dk.Box wt1 Wd.heap.size #[.int .i64 q] 3 := st1.box (by simp)
                            obtain ⟨aa0, l0, c0, wt2, r2, st2⟩ := Dk.Sep.appendBox (us1 := [Dk.boxOf Wd.heap.size #[.int .i64 q] 3, tB bm v0 v1 v2 v3 (.slice A4 j C4) (.slice A5 j C5), tO mutexes v0, tH mutexes v1, tW mutexes v2 hv, tC (Dk.lim conds) v3 cv]) (us2 := tD (List.replicate j ([] : List Int)) (.slice A5 j C5) dv :: us) K22 st1 hb2 rfl (by omega)
                            refine Dk.op_value (v := .slice aa0 l0 c0) (w' := wt2) (some 94) rfl rfl rfl (by rw [← hA]; clear hA; (try simp only [Act.put, List.setIfInBounds_toArray, List.set_cons_succ, List.set_cons_zero]); simp only [execOp, resolve, invoke, builtin]; simp [Act.eval, r2]) ⟨fun _ => fx _ _ st2 (by simp), ?_⟩
                            refine Dk.nodeT (rs := [13]) (by kernel_rfl) (by simp) ?_
                            intro i hi
                            simp only [List.mem_cons, List.not_mem_nil, or_false] at hi
                            subst hi
                            obtain ⟨wt3, e3⟩ : ∃ wt3, wt3 = wt2.alloc (.cells #[.slice none 0 0] 22) := ⟨_, rfl⟩
                            have st3 := st2.newBox e3
                            refine Dk.op_value (v := .slice (some ⟨wt2.heap.size, 0, none⟩) 1 1) (w' := wt3) (some 99) rfl rfl rfl (by rw [← hA]; clear hA; (try simp only [Act.put, List.setIfInBounds_toArray, List.set_cons_succ, List.set_cons_zero]); rw [e3]; go_simp) ⟨fun _ => fx _ _ st3 (by simp), ?_⟩
                            refine Dk.nodeT (rs := [14]) (by kernel_rfl) (by simp) ?_
                            intro i hi
                            simp only [List.mem_cons, List.not_mem_nil, or_false] at hi
                            subst hi
                            have hb4 : Dk.Box wt3 wt2.heap.size #[.slice none 0 0] 22 := st3.box (by simp)
                            obtain ⟨aa1, l1, c1, wt4, r4, st4⟩ := Dk.Sep.nestGrow (us1 := [Dk.boxOf wt2.heap.size #[.slice none 0 0] 22, Dk.boxOf Wd.heap.size #[.int .i64 q] 3, tB bm v0 v1 v2 v3 (.slice A4 j C4) (.slice A5 j C5), tO mutexes v0, tH mutexes v1, tW mutexes v2 hv, tC (Dk.lim conds) v3 cv, Dk.rowOf 3 1 (.slice aa0 l0 c0) (((xs.take j).map Dk.cl).length + 1) (Dk.is ((xs.take j).map Dk.cl) ++ [.int .i64 q])]) (us2 := us) K34 st3 hb4 rfl (by omega)
                            refine Dk.op_value (v := .slice aa1 l1 c1) (w' := wt4) (some 100) rfl rfl rfl (by rw [← hA]; clear hA; (try simp only [Act.put, List.setIfInBounds_toArray, List.set_cons_succ, List.set_cons_zero]); simp only [execOp, resolve, invoke, builtin]; simp [Act.eval, r4]) ⟨fun _ => fx _ _ st4 (by simp), ?_⟩
                            refine ⟨by kernel_rfl, .slice (some ⟨Wd.heap.size, 0, none⟩) 1 1, .slice (some ⟨wt2.heap.size, 0, none⟩) 1 1, aa0, l0, c0, aa1, l1, c1, ?_, st4.sub ?_⟩
                            · subst hA
                              first | rfl | (simp only [Act.put, List.setIfInBounds_toArray, List.set_cons_succ, List.set_cons_zero])
                            · exact List.sublist_append_right [_, _] _
                          · obtain ⟨wt5, e5⟩ : ∃ wt5, wt5 = wt1.alloc (.cells #[.slice none 0 0] 22) := ⟨_, rfl⟩
                            have st5 := st1.newBox e5
                            refine Dk.op_value (v := .slice (some ⟨wt1.heap.size, 0, none⟩) 1 1) (w' := wt5) (some 99) rfl rfl rfl (by rw [← hA]; clear hA; (try simp only [Act.put, List.setIfInBounds_toArray, List.set_cons_succ, List.set_cons_zero]); rw [e5]; go_simp) ⟨fun _ => fx _ _ st5 (by simp), ?_⟩
                            refine Dk.nodeT (rs := [8]) (by kernel_rfl) (by simp) ?_
                            intro i hi
                            simp only [List.mem_cons, List.not_mem_nil, or_false] at hi
                            subst hi
                            have hb6 : Dk.Box wt5 Wd.heap.size #[.int .i64 q] 3 := st5.box (by simp)
                            obtain ⟨aa0, l0, c0, wt6, r6, st6⟩ := Dk.Sep.appendBox (us1 := [Dk.boxOf wt1.heap.size #[.slice none 0 0] 22, Dk.boxOf Wd.heap.size #[.int .i64 q] 3, tB bm v0 v1 v2 v3 (.slice A4 j C4) (.slice A5 j C5), tO mutexes v0, tH mutexes v1, tW mutexes v2 hv, tC (Dk.lim conds) v3 cv]) (us2 := tD (List.replicate j ([] : List Int)) (.slice A5 j C5) dv :: us) K22 st5 hb6 rfl (by omega)
                            refine Dk.op_value (v := .slice aa0 l0 c0) (w' := wt6) (some 94) rfl rfl rfl (by rw [← hA]; clear hA; (try simp only [Act.put, List.setIfInBounds_toArray, List.set_cons_succ, List.set_cons_zero]); simp only [execOp, resolve, invoke, builtin]; simp [Act.eval, r6]) ⟨fun _ => fx _ _ st6 (by simp), ?_⟩
                            refine Dk.nodeT (rs := [14]) (by kernel_rfl) (by simp) ?_
                            intro i hi
                            simp only [List.mem_cons, List.not_mem_nil, or_false] at hi
                            subst hi
                            have hb7 : Dk.Box wt6 wt1.heap.size #[.slice none 0 0] 22 := st6.box (by simp)
                            obtain ⟨aa1, l1, c1, wt7, r7, st7⟩ := Dk.Sep.nestGrow (us1 := [Dk.boxOf wt1.heap.size #[.slice none 0 0] 22, Dk.boxOf Wd.heap.size #[.int .i64 q] 3, tB bm v0 v1 v2 v3 (.slice A4 j C4) (.slice A5 j C5), tO mutexes v0, tH mutexes v1, tW mutexes v2 hv, tC (Dk.lim conds) v3 cv, Dk.rowOf 3 1 (.slice aa0 l0 c0) (((xs.take j).map Dk.cl).length + 1) (Dk.is ((xs.take j).map Dk.cl) ++ [.int .i64 q])]) (us2 := us) K34 st6 hb7 rfl (by omega)
                            refine Dk.op_value (v := .slice aa1 l1 c1) (w' := wt7) (some 100) rfl rfl rfl (by rw [← hA]; clear hA; (try simp only [Act.put, List.setIfInBounds_toArray, List.set_cons_succ, List.set_cons_zero]); simp only [execOp, resolve, invoke, builtin]; simp [Act.eval, r7]) ⟨fun _ => fx _ _ st7 (by simp), ?_⟩
                            refine ⟨by kernel_rfl, .slice (some ⟨Wd.heap.size, 0, none⟩) 1 1, .slice (some ⟨wt1.heap.size, 0, none⟩) 1 1, aa0, l0, c0, aa1, l1, c1, ?_, st7.sub ?_⟩
                            · subst hA
                              first | rfl | (simp only [Act.put, List.setIfInBounds_toArray, List.set_cons_succ, List.set_cons_zero])
                            · exact List.sublist_append_right [_, _] _
                        · obtain ⟨wt8, e8⟩ : ∃ wt8, wt8 = Wd.alloc (.cells #[.slice none 0 0] 22) := ⟨_, rfl⟩
                          have st8 := sd.newBox e8
                          refine Dk.op_value (v := .slice (some ⟨Wd.heap.size, 0, none⟩) 1 1) (w' := wt8) (some 99) rfl rfl rfl (by rw [← hA]; clear hA; (try simp only [Act.put, List.setIfInBounds_toArray, List.set_cons_succ, List.set_cons_zero]); rw [e8]; go_simp) ⟨fun _ => fx _ _ st8 (by simp), ?_⟩
                          refine Dk.nodeT (rs := [7]) (by kernel_rfl) (by simp) ?_
                          intro i hi
                          simp only [List.mem_cons, List.not_mem_nil, or_false] at hi
                          subst hi
                          obtain ⟨wt9, e9⟩ : ∃ wt9, wt9 = wt8.alloc (.cells #[.int .i64 q] 3) := ⟨_, rfl⟩
                          have st9 := st8.newBox e9
                          refine Dk.op_value (v := .slice (some ⟨wt8.heap.size, 0, none⟩) 1 1) (w' := wt9) (some 93) rfl rfl rfl (by rw [← hA]; clear hA; (try simp only [Act.put, List.setIfInBounds_toArray, List.set_cons_succ, List.set_cons_zero]); rw [e9]; go_simp) ⟨fun _ => fx _ _ st9 (by simp), ?_⟩
                          refine Dk.nodeT (rs := [8]) (by kernel_rfl) (by simp) ?_
                          intro i hi
                          simp only [List.mem_cons, List.not_mem_nil, or_false] at hi
                          subst hi
                          have hb10 : Dk.Box wt9 wt8.heap.size #[.int .i64 q] 3 := st9.box (by simp)
                          obtain ⟨aa0, l0, c0, wt10, r10, st10⟩ := Dk.Sep.appendBox (us1 := [Dk.boxOf wt8.heap.size #[.int .i64 q] 3, Dk.boxOf Wd.heap.size #[.slice none 0 0] 22, tB bm v0 v1 v2 v3 (.slice A4 j C4) (.slice A5 j C5), tO mutexes v0, tH mutexes v1, tW mutexes v2 hv, tC (Dk.lim conds) v3 cv]) (us2 := tD (List.replicate j ([] : List Int)) (.slice A5 j C5) dv :: us) K22 st9 hb10 rfl (by omega)
                          refine Dk.op_value (v := .slice aa0 l0 c0) (w' := wt10) (some 94) rfl rfl rfl (by rw [← hA]; clear hA; (try simp only [Act.put, List.setIfInBounds_toArray, List.set_cons_succ, List.set_cons_zero]); simp only [execOp, resolve, invoke, builtin]; simp [Act.eval, r10]) ⟨fun _ => fx _ _ st10 (by simp), ?_⟩
                          refine Dk.nodeT (rs := [14]) (by kernel_rfl) (by simp) ?_
                          intro i hi
                          simp only [List.mem_cons, List.not_mem_nil, or_false] at hi
                          subst hi
                          have hb11 : Dk.Box wt10 Wd.heap.size #[.slice none 0 0] 22 := st10.box (by simp)
                          obtain ⟨aa1, l1, c1, wt11, r11, st11⟩ := Dk.Sep.nestGrow (us1 := [Dk.boxOf wt8.heap.size #[.int .i64 q] 3, Dk.boxOf Wd.heap.size #[.slice none 0 0] 22, tB bm v0 v1 v2 v3 (.slice A4 j C4) (.slice A5 j C5), tO mutexes v0, tH mutexes v1, tW mutexes v2 hv, tC (Dk.lim conds) v3 cv, Dk.rowOf 3 1 (.slice aa0 l0 c0) (((xs.take j).map Dk.cl).length + 1) (Dk.is ((xs.take j).map Dk.cl) ++ [.int .i64 q])]) (us2 := us) K34 st10 hb11 rfl (by omega)
                          refine Dk.op_value (v := .slice aa1 l1 c1) (w' := wt11) (some 100) rfl rfl rfl (by rw [← hA]; clear hA; (try simp only [Act.put, List.setIfInBounds_toArray, List.set_cons_succ, List.set_cons_zero]); simp only [execOp, resolve, invoke, builtin]; simp [Act.eval, r11]) ⟨fun _ => fx _ _ st11 (by simp), ?_⟩
                          refine ⟨by kernel_rfl, .slice (some ⟨wt8.heap.size, 0, none⟩) 1 1, .slice (some ⟨Wd.heap.size, 0, none⟩) 1 1, aa0, l0, c0, aa1, l1, c1, ?_, st11.sub ?_⟩
                          · subst hA
                            first | rfl | (simp only [Act.put, List.setIfInBounds_toArray, List.set_cons_succ, List.set_cons_zero])
                          · exact List.sublist_append_right [_, _] _
                · by_cases g3 : j < L
                  · have y1 : decide ((j : Int) < (L : Int)) = true := decide_eq_true (by omega)
                    have y2 : decide ((j : Int) < 4) = false := decide_eq_false (by omega)
                    have y3 : decide (j < 4) = false := decide_eq_false (by omega)
                    obtain rfl : j = min L 4 := by omega
                    have ex4 : xs.take (min L 4) = xs.take 4 := by rw [← HSL.out, Nat.min_comm, ← List.take_take, List.take_length]
                    rw [ex4] at hX
                    go_wp2_with fail
                    go_ret
                    exact ⟨bm, _, rfl, hX⟩
                  · have y1 : decide ((j : Int) < (L : Int)) = false := decide_eq_false (by omega)
                    obtain rfl : j = min L 4 := by omega
                    have ex4 : xs.take (min L 4) = xs.take 4 := by rw [← HSL.out, Nat.min_comm, ← List.take_take, List.take_length]
                    rw [ex4] at hX
                    go_wp2_with fail
                    go_ret
                    exact ⟨bm, _, rfl, hX⟩
            · have y1 : decide ((j : Int) < conds) = false := decide_eq_false g2
              obtain rfl : j = Dk.lim conds := by omega
              go_wp2_with fail
              generalize wr = wcc at *
              go_loopw [10] (fun i w' => ∃ (j : Nat) (V : Dk.Vs), j ≤ min L 4 ∧ i = .int .i64 j ∧ Dk.Sep W w' (Dk.mdl bm V ⟨(List.replicate (Dk.lim mutexes) (0 : Int)), (List.replicate (Dk.lim mutexes) false), (List.replicate (Dk.lim mutexes) ([] : List Int)), (List.replicate (Dk.lim conds) ([] : List (Int × Int))), ((xs.take j).map Dk.cl), (List.replicate j ([] : List Int))⟩ ++ us)) (fun i w' => min L 4 - (intOf i).toNat)
              case atStart => exact ⟨0, _, Nat.zero_le _, rfl, hU⟩
              case round =>
                obtain ⟨j, V, hj, rfl, hX⟩ := hrel
                clear hU
                by_cases hlt : j < min L 4
                · have y1 : decide ((j : Int) < (L : Int)) = true := decide_eq_true (by omega)
                  have y2 : decide ((j : Int) < 4) = true := decide_eq_true (by omega)
                  have y3 : decide (j < 4) = true := decide_eq_true (by omega)
                  have hjL : (j : Int) < (L : Int) := by omega
                  obtain ⟨bs, os, rfl, hbs, hcs⟩ := HX.out.cells (by omega)
                  obtain ⟨x, ex⟩ := Dk.lt_some (l := xs) (i := j) (by have := HSL.out; omega)
                  have d0 : wr.cell? ⟨bs, os + j, none⟩ = some (.int .i64 x) := by
                    have q1 := hcs j (by omega)
                    rw [Dk.getD_some ex] at q1
                    rw [hX.out.cell (p := ⟨bs, os + j, none⟩) hbs]
                    exact q1
                  have HXJ : Hid (xs[j]? = some x) := ex
                  obtain ⟨v0, v1, v2, v3, v4, v5, hv, cv, dv⟩ := V
                  obtain ⟨A4, C4, E4, _, _⟩ := Dk.owns_slice (Dk.Mdl.count hX)
                  obtain ⟨A5, C5, E5, _, _⟩ := hX.nestLen (eh := 22) (e := 3) (s := 1) (f := Dk.is) (v := v5) (vs := dv) (xss := (List.replicate j ([] : List Int))) (by simp [Dk.mdl])
                  have lct : ((xs.take j).map Dk.cl).length = j := by rw [List.length_map, List.length_take, HSL.out]; omega
                  have ldn : (List.replicate j ([] : List Int)).length = j := List.length_replicate
                  simp only at E4 E5
                  rw [lct] at E4
                  rw [ldn] at E5
                  subst E4 E5
                  have sd : Dk.Sep W wr.drew (tB bm v0 v1 v2 v3 (.slice A4 j C4) (.slice A5 j C5) :: tO mutexes v0 :: tH mutexes v1 :: tW mutexes v2 hv :: tC (Dk.lim conds) v3 cv :: tR ((xs.take j).map Dk.cl) (.slice A4 j C4) :: tD (List.replicate j ([] : List Int)) (.slice A5 j C5) dv :: us) := hX.below (Dk.up_drew (Below.refl _ _))
                  have fx : ∀ (ts : List Dk.Thing) (w : World), Dk.Sep W w ts → tB bm v0 v1 v2 v3 (.slice A4 j C4) (.slice A5 j C5) ∈ ts → (fun w' : World => w'.cell? ⟨bm, 4, none⟩ = some (.slice A4 j C4) ∧ w'.cell? ⟨bm, 5, none⟩ = some (.slice A5 j C5)) w := fun ts w hh hm => by
                    have hb := hh.box hm
                    exact ⟨hb.cell 4, hb.cell 5⟩
                  have HS : Hid ((fun w' : World => w'.cell? ⟨bm, 4, none⟩ = some (.slice A4 j C4) ∧ w'.cell? ⟨bm, 5, none⟩ = some (.slice A5 j C5)) wr.drew) := fx _ _ sd (by simp)
                  clear hX hcs ex
                  obtain ⟨q, eq⟩ : ∃ q, Dk.cl x = q := ⟨_, rfl⟩
                  obtain ⟨p, ep⟩ : ∃ p : Int, (if x < 0 then 0 else x) = p := ⟨_, rfl⟩
                  have HP1 : Hid (x < 0 → p = 0) := fun h => by rw [← ep, if_pos h]
                  have HP2 : Hid (¬ x < 0 → p = x) := fun h => by rw [← ep, if_neg h]
                  have HQ1 : Hid (1048576 < p → q = 1048576) := fun h => by
                    rw [← eq]
                    unfold Dk.cl
                    by_cases h0 : x < 0
                    · have := HP1.out h0; omega
                    · rw [HP2.out h0] at h
                      rw [if_neg h0, if_pos h]
                  have HQ2 : Hid (¬ 1048576 < p → q = p) := fun h => by
                    rw [← eq]
                    unfold Dk.cl
                    by_cases h0 : x < 0
                    · rw [if_pos h0, HP1.out h0]
                    · rw [HP2.out h0] at h ⊢
                      rw [if_neg h0, if_neg h]
                  have hcl := eq
                  clear eq ep
                  go_upto_if 83 with fail
                  go_cut [11] from 82 to 85 (fun v w' => v = .int .i64 p ∧ w' = wr)
                  case first =>
                    by_cases n0 : x < 0
                    · have z1 : decide (x < 0) = true := decide_eq_true n0
                      go_wp2_with fail
                      go_meet
                      exact ⟨by rw [HP1.out n0], rfl⟩
                    · have z1 : decide (x < 0) = false := decide_eq_false n0
                      go_wp2_with fail
                      go_meet
                      exact ⟨by rw [HP2.out n0], rfl⟩
                  case rest =>
                    obtain ⟨rfl, hw⟩ := hcut
                    subst wc
                    clear HP1 HP2
                    go_upto_if 85 with fail
                    go_cut [11] from 82 to 85 (fun v w' => v = .int .i64 q ∧ w' = wr)
                    case first =>
                      by_cases n1 : 1048576 < p
                      · have z2 : decide (p > 1048576) = true := decide_eq_true n1
                        have z3 : decide (1048576 < p) = true := decide_eq_true n1
                        go_wp2_with fail
                        go_meet
                        exact ⟨by rw [HQ1.out n1], rfl⟩
                      · have z2 : decide (p > 1048576) = false := decide_eq_false n1
                        have z3 : decide (1048576 < p) = false := decide_eq_false n1
                        go_wp2_with fail
                        go_meet
                        exact ⟨by rw [HQ2.out n1], rfl⟩
                    case rest =>
                      obtain ⟨rfl, hw⟩ := hcut
                      subst wc
                      clear HQ1 HQ2
                      have HCL : Hid (Dk.cl x = q) := hcl
                      clear hcl
                      go_wp2_with fail
                      refine Dk.wp_region_tree (S := fun w' : World => w'.cell? ⟨bm, 4, none⟩ = some (.slice A4 j C4) ∧ w'.cell? ⟨bm, 5, none⟩ = some (.slice A5 j C5)) [1] [0, 2, 3, 4, 5, 6, 9, 10, 11, 12] [1, 15, 16, 17, 18, 19, 20] 10 (by kernel_rfl) (by kernel_rfl) (by kernel_rfl) (by kernel_rfl) rfl HS.out _ ?_ (fun a' h => h)
                      refine Dk.held_step (v := .pointer (some ⟨bm, 0, none⟩)) rfl rfl (fun w' hw' => by go_simp) ?_
                      simp only [Act.put, List.setIfInBounds_toArray, List.set_cons_succ, List.set_cons_zero]
                      refine Dk.held_step (v := .pointer (some ⟨bm, 0, none⟩)) rfl rfl (fun w' hw' => by obtain ⟨q0, q1⟩ := hw'; go_simp) ?_
                      simp only [Act.put, List.setIfInBounds_toArray, List.set_cons_succ, List.set_cons_zero]
                      refine Dk.held_step (v := .pointer (some ⟨bm, 0, none⟩)) rfl rfl (fun w' hw' => by obtain ⟨q0, q1⟩ := hw'; go_simp) ?_
                      simp only [Act.put, List.setIfInBounds_toArray, List.set_cons_succ, List.set_cons_zero]
                      refine Dk.held_step (v := .pointer (some ⟨bm, 0, none⟩)) rfl rfl (fun w' hw' => by obtain ⟨q0, q1⟩ := hw'; go_simp) ?_
                      simp only [Act.put, List.setIfInBounds_toArray, List.set_cons_succ, List.set_cons_zero]
                      refine Dk.held_step (v := .pointer (some ⟨bm, 4, none⟩)) rfl rfl (fun w' hw' => by obtain ⟨q0, q1⟩ := hw'; go_simp) ?_
                      simp only [Act.put, List.setIfInBounds_toArray, List.set_cons_succ, List.set_cons_zero]
                      refine Dk.held_step (v := .slice A4 j C4) rfl rfl (fun w' hw' => by obtain ⟨q0, q1⟩ := hw'; go_simp) ?_
                      simp only [Act.put, List.setIfInBounds_toArray, List.set_cons_succ, List.set_cons_zero]
                      refine Dk.held_step (v := .int .i64 q) rfl rfl (fun w' hw' => by obtain ⟨q0, q1⟩ := hw'; go_simp) ?_
                      simp only [Act.put, List.setIfInBounds_toArray, List.set_cons_succ, List.set_cons_zero]
                      refine Dk.held_step (v := .pointer (some ⟨bm, 0, none⟩)) rfl rfl (fun w' hw' => by obtain ⟨q0, q1⟩ := hw'; go_simp) ?_
                      simp only [Act.put, List.setIfInBounds_toArray, List.set_cons_succ, List.set_cons_zero]
                      refine Dk.held_step (v := .pointer (some ⟨bm, 0, none⟩)) rfl rfl (fun w' hw' => by obtain ⟨q0, q1⟩ := hw'; go_simp) ?_
                      simp only [Act.put, List.setIfInBounds_toArray, List.set_cons_succ, List.set_cons_zero]
                      refine Dk.held_step (v := .pointer (some ⟨bm, 5, none⟩)) rfl rfl (fun w' hw' => by obtain ⟨q0, q1⟩ := hw'; go_simp) ?_
                      simp only [Act.put, List.setIfInBounds_toArray, List.set_cons_succ, List.set_cons_zero]
                      refine Dk.held_step (v := .slice A5 j C5) rfl rfl (fun w' hw' => by obtain ⟨q0, q1⟩ := hw'; go_simp) ?_
                      simp only [Act.put, List.setIfInBounds_toArray, List.set_cons_succ, List.set_cons_zero]
                      generalize wr.drew = Wd at *
                      refine Dk.nameY ?_
                      intro a0 hA
                      refine Dk.cutY (T := fun a w => ∃ (x93 x99 : Value) (aa0 : Option Addr) (l0 c0 : Nat) (aa1 : Option Addr) (l1 c1 : Nat), a = ((((a0.put (some 93) x93).put (some 94) (.slice aa0 l0 c0)).put (some 99) x99).put (some 100) (.slice aa1 l1 c1)) ∧ Dk.Sep W w (tB bm v0 v1 v2 v3 (.slice A4 j C4) (.slice A5 j C5) :: tO mutexes v0 :: tH mutexes v1 :: tW mutexes v2 hv :: tC (Dk.lim conds) v3 cv :: Dk.rowOf 3 1 (.slice aa0 l0 c0) (((xs.take j).map Dk.cl).length + 1) (Dk.is ((xs.take j).map Dk.cl) ++ [.int .i64 q]) :: Dk.nestOf 22 3 1 Dk.is (.slice aa1 l1 c1) (dv ++ [.slice none 0 0]) ((List.replicate j ([] : List Int)) ++ [[]]) :: us)) (js := [15, 16, 17, 18, 19, 20]) ?_ 4 _ _ _ ?_
                      · rintro a w6 ⟨x93, x99, aa0, l0, c0, aa1, l1, c1, rfl, s6⟩
                        rw [← hA]
                        clear hA
                        simp only [Act.put, List.setIfInBounds_toArray, List.set_cons_succ, List.set_cons_zero]
                        have k0 : w6.cell? ⟨bm, 4, none⟩ = some (.slice A4 j C4) := (s6.box (b := bm) (cs := #[v0, v1, v2, v3, .slice A4 j C4, .slice A5 j C5]) (t := 37) (by simp)).cell 4
                        have f0 : w6.frozen? ⟨bm, 4, none⟩ = false := (s6.box (b := bm) (cs := #[v0, v1, v2, v3, .slice A4 j C4, .slice A5 j C5]) (t := 37) (by simp)).frozen 4
                        obtain ⟨w7, g0⟩ : ∃ w7, w7 = w6.setCell ⟨bm, 4, none⟩ (.slice aa0 l0 c0) := ⟨_, rfl⟩
                        have s7 : Dk.Sep W w7 (tB bm v0 v1 v2 v3 (.slice aa0 l0 c0) (.slice A5 j C5) :: tO mutexes v0 :: tH mutexes v1 :: tW mutexes v2 hv :: tC (Dk.lim conds) v3 cv :: Dk.rowOf 3 1 (.slice aa0 l0 c0) (((xs.take j).map Dk.cl).length + 1) (Dk.is ((xs.take j).map Dk.cl) ++ [.int .i64 q]) :: Dk.nestOf 22 3 1 Dk.is (.slice aa1 l1 c1) (dv ++ [.slice none 0 0]) ((List.replicate j ([] : List Int)) ++ [[]]) :: us) := by
                          rw [g0]
                          exact Dk.Sep.setBox (us1 := []) (o := 4) s6 (.slice aa0 l0 c0)
                        refine Dk.lineY_step (v := .pointer (some ⟨bm, 0, none⟩)) (w' := w6) (some 101) rfl rfl rfl (by go_simp) (fun h => absurd (by decide) h) ?_
                        simp only [Act.put, List.setIfInBounds_toArray, List.set_cons_succ, List.set_cons_zero]
                        refine Dk.lineY_step (v := .pointer (some ⟨bm, 4, none⟩)) (w' := w6) (some 102) rfl rfl rfl (by go_simp) (fun h => absurd (by decide) h) ?_
                        simp only [Act.put, List.setIfInBounds_toArray, List.set_cons_succ, List.set_cons_zero]
                        refine Dk.lineY_skip (w' := w7) none rfl rfl rfl (by rw [g0]; go_simp) (fun h => absurd (by decide) h) ?_
                        simp only [Act.put, List.setIfInBounds_toArray, List.set_cons_succ, List.set_cons_zero]
                        clear k0 f0 g0 s6
                        have k1 : w7.cell? ⟨bm, 5, none⟩ = some (.slice A5 j C5) := (s7.box (b := bm) (cs := #[v0, v1, v2, v3, .slice aa0 l0 c0, .slice A5 j C5]) (t := 37) (by simp)).cell 5
                        have f1 : w7.frozen? ⟨bm, 5, none⟩ = false := (s7.box (b := bm) (cs := #[v0, v1, v2, v3, .slice aa0 l0 c0, .slice A5 j C5]) (t := 37) (by simp)).frozen 5
                        obtain ⟨w8, g1⟩ : ∃ w8, w8 = w7.setCell ⟨bm, 5, none⟩ (.slice aa1 l1 c1) := ⟨_, rfl⟩
                        have s8 : Dk.Sep W w8 (tB bm v0 v1 v2 v3 (.slice aa0 l0 c0) (.slice aa1 l1 c1) :: tO mutexes v0 :: tH mutexes v1 :: tW mutexes v2 hv :: tC (Dk.lim conds) v3 cv :: Dk.rowOf 3 1 (.slice aa0 l0 c0) (((xs.take j).map Dk.cl).length + 1) (Dk.is ((xs.take j).map Dk.cl) ++ [.int .i64 q]) :: Dk.nestOf 22 3 1 Dk.is (.slice aa1 l1 c1) (dv ++ [.slice none 0 0]) ((List.replicate j ([] : List Int)) ++ [[]]) :: us) := by
                          rw [g1]
                          exact Dk.Sep.setBox (us1 := []) (o := 5) s7 (.slice aa1 l1 c1)
                        refine Dk.lineY_step (v := .pointer (some ⟨bm, 0, none⟩)) (w' := w7) (some 103) rfl rfl rfl (by go_simp) (fun h => absurd (by decide) h) ?_
                        simp only [Act.put, List.setIfInBounds_toArray, List.set_cons_succ, List.set_cons_zero]
                        refine Dk.lineY_step (v := .pointer (some ⟨bm, 5, none⟩)) (w' := w7) (some 104) rfl rfl rfl (by go_simp) (fun h => absurd (by decide) h) ?_
                        simp only [Act.put, List.setIfInBounds_toArray, List.set_cons_succ, List.set_cons_zero]
                        refine Dk.lineY_skip (w' := w8) none rfl rfl rfl (by rw [g1]; go_simp) (fun h => absurd (by decide) h) ?_
                        simp only [Act.put, List.setIfInBounds_toArray, List.set_cons_succ, List.set_cons_zero]
                        clear k1 f1 g1 s7
                        rename ∀ (_ : Act) (_ : World), Code.wp _ _ _ _ _ → _ => hK
                        refine hK _ _ ?_
                        clear hK HS sd fx
                        have hfin : Dk.Sep W w8 (Dk.mdl bm ⟨v0, v1, v2, v3, .slice aa0 l0 c0, .slice aa1 l1 c1, hv, cv, dv ++ [.slice none 0 0]⟩ ⟨(List.replicate (Dk.lim mutexes) (0 : Int)), (List.replicate (Dk.lim mutexes) false), (List.replicate (Dk.lim mutexes) ([] : List Int)), (List.replicate (Dk.lim conds) ([] : List (Int × Int))), ((xs.take (j + 1)).map Dk.cl), (List.replicate (j + 1) ([] : List Int))⟩ ++ us) := by
                          have et : (xs.take (j + 1)).map Dk.cl = (xs.take j).map Dk.cl ++ [q] := by
                            rw [List.take_add_one, HXJ.out, List.map_append]
                            show _ ++ [Dk.cl x] = _
                            rw [HCL.out]
                          rw [et, List.replicate_succ']
                          unfold Dk.mdl
                          simp only [List.length_append, Dk.is, List.map_append]
                          exact s8
                        clear HCL
                        go_wp2_with fail
                        go_roundw
                        case rel => exact ⟨j + 1, _, by omega, by go_num, hfin⟩
                        case measure => simp [intOf]; omega
                      · refine Dk.nodeT (rs := [7, 13]) (by kernel_rfl) (by simp) ?_
                        intro i hi
                        simp only [List.mem_cons, List.not_mem_nil, or_false] at hi
                        rcases hi with rfl | rfl
                        · obtain ⟨wt1, e1⟩ : ∃ wt1, wt1 = Wd.alloc (.cells #[.int .i64 q] 3) := ⟨_, rfl⟩
                          have st1 := sd.newBox e1
                          refine Dk.op_value (v := .slice (some ⟨Wd.heap.size, 0, none⟩) 1 1) (w' := wt1) (some 93) rfl rfl rfl (by rw [← hA]; clear hA; (try simp only [Act.put, List.setIfInBounds_toArray, List.set_cons_succ, List.set_cons_zero]); rw [e1]; go_simp) ⟨fun _ => fx _ _ st1 (by simp), ?_⟩
                          refine Dk.nodeT (rs := [8, 13]) (by kernel_rfl) (by simp) ?_
                          intro i hi
                          simp only [List.mem_cons, List.not_mem_nil, or_false] at hi
                          rcases hi with rfl | rfl
                          · have hb2 : Dk.Box wt1 Wd.heap.size #[.int .i64 q] 3 := st1.box (by simp)
                            obtain ⟨aa0, l0, c0, wt2, r2, st2⟩ := Dk.Sep.appendBox (us1 := [Dk.boxOf Wd.heap.size #[.int .i64 q] 3, tB bm v0 v1 v2 v3 (.slice A4 j C4) (.slice A5 j C5), tO mutexes v0, tH mutexes v1, tW mutexes v2 hv, tC (Dk.lim conds) v3 cv]) (us2 := tD (List.replicate j ([] : List Int)) (.slice A5 j C5) dv :: us) K22 st1 hb2 rfl (by omega)
                            refine Dk.op_value (v := .slice aa0 l0 c0) (w' := wt2) (some 94) rfl rfl rfl (by rw [← hA]; clear hA; (try simp only [Act.put, List.setIfInBounds_toArray, List.set_cons_succ, List.set_cons_zero]); simp only [execOp, resolve, invoke, builtin]; simp [Act.eval, r2]) ⟨fun _ => fx _ _ st2 (by simp), ?_⟩
                            refine Dk.nodeT (rs := [13]) (by kernel_rfl) (by simp) ?_
                            intro i hi
                            simp only [List.mem_cons, List.not_mem_nil, or_false] at hi
                            subst hi
                            obtain ⟨wt3, e3⟩ : ∃ wt3, wt3 = wt2.alloc (.cells #[.slice none 0 0] 22) := ⟨_, rfl⟩
                            have st3 := st2.newBox e3
                            refine Dk.op_value (v := .slice (some ⟨wt2.heap.size, 0, none⟩) 1 1) (w' := wt3) (some 99) rfl rfl rfl (by rw [← hA]; clear hA; (try simp only [Act.put, List.setIfInBounds_toArray, List.set_cons_succ, List.set_cons_zero]); rw [e3]; go_simp) ⟨fun _ => fx _ _ st3 (by simp), ?_⟩
                            refine Dk.nodeT (rs := [14]) (by kernel_rfl) (by simp) ?_
                            intro i hi
                            simp only [List.mem_cons, List.not_mem_nil, or_false] at hi
                            subst hi
                            have hb4 : Dk.Box wt3 wt2.heap.size #[.slice none 0 0] 22 := st3.box (by simp)
                            obtain ⟨aa1, l1, c1, wt4, r4, st4⟩ := Dk.Sep.nestGrow (us1 := [Dk.boxOf wt2.heap.size #[.slice none 0 0] 22, Dk.boxOf Wd.heap.size #[.int .i64 q] 3, tB bm v0 v1 v2 v3 (.slice A4 j C4) (.slice A5 j C5), tO mutexes v0, tH mutexes v1, tW mutexes v2 hv, tC (Dk.lim conds) v3 cv, Dk.rowOf 3 1 (.slice aa0 l0 c0) (((xs.take j).map Dk.cl).length + 1) (Dk.is ((xs.take j).map Dk.cl) ++ [.int .i64 q])]) (us2 := us) K34 st3 hb4 rfl (by omega)
                            refine Dk.op_value (v := .slice aa1 l1 c1) (w' := wt4) (some 100) rfl rfl rfl (by rw [← hA]; clear hA; (try simp only [Act.put, List.setIfInBounds_toArray, List.set_cons_succ, List.set_cons_zero]); simp only [execOp, resolve, invoke, builtin]; simp [Act.eval, r4]) ⟨fun _ => fx _ _ st4 (by simp), ?_⟩
                            refine ⟨by kernel_rfl, .slice (some ⟨Wd.heap.size, 0, none⟩) 1 1, .slice (some ⟨wt2.heap.size, 0, none⟩) 1 1, aa0, l0, c0, aa1, l1, c1, ?_, st4.sub ?_⟩
                            · subst hA
                              first | rfl | (simp only [Act.put, List.setIfInBounds_toArray, List.set_cons_succ, List.set_cons_zero])
                            · exact List.sublist_append_right [_, _] _
                          · obtain ⟨wt5, e5⟩ : ∃ wt5, wt5 = wt1.alloc (.cells #[.slice none 0 0] 22) := ⟨_, rfl⟩
                            have st5 := st1.newBox e5
                            refine Dk.op_value (v := .slice (some ⟨wt1.heap.size, 0, none⟩) 1 1) (w' := wt5) (some 99) rfl rfl rfl (by rw [← hA]; clear hA; (try simp only [Act.put, List.setIfInBounds_toArray, List.set_cons_succ, List.set_cons_zero]); rw [e5]; go_simp) ⟨fun _ => fx _ _ st5 (by simp), ?_⟩
                            refine Dk.nodeT (rs := [8]) (by kernel_rfl) (by simp) ?_
                            intro i hi
                            simp only [List.mem_cons, List.not_mem_nil, or_false] at hi
                            subst hi
                            have hb6 : Dk.Box wt5 Wd.heap.size #[.int .i64 q] 3 := st5.box (by simp)
                            obtain ⟨aa0, l0, c0, wt6, r6, st6⟩ := Dk.Sep.appendBox (us1 := [Dk.boxOf wt1.heap.size #[.slice none 0 0] 22, Dk.boxOf Wd.heap.size #[.int .i64 q] 3, tB bm v0 v1 v2 v3 (.slice A4 j C4) (.slice A5 j C5), tO mutexes v0, tH mutexes v1, tW mutexes v2 hv, tC (Dk.lim conds) v3 cv]) (us2 := tD (List.replicate j ([] : List Int)) (.slice A5 j C5) dv :: us) K22 st5 hb6 rfl (by omega)
                            refine Dk.op_value (v := .slice aa0 l0 c0) (w' := wt6) (some 94) rfl rfl rfl (by rw [← hA]; clear hA; (try simp only [Act.put, List.setIfInBounds_toArray, List.set_cons_succ, List.set_cons_zero]); simp only [execOp, resolve, invoke, builtin]; simp [Act.eval, r6]) ⟨fun _ => fx _ _ st6 (by simp), ?_⟩
                            refine Dk.nodeT (rs := [14]) (by kernel_rfl) (by simp) ?_
                            intro i hi
                            simp only [List.mem_cons, List.not_mem_nil, or_false] at hi
                            subst hi
                            have hb7 : Dk.Box wt6 wt1.heap.size #[.slice none 0 0] 22 := st6.box (by simp)
                            obtain ⟨aa1, l1, c1, wt7, r7, st7⟩ := Dk.Sep.nestGrow (us1 := [Dk.boxOf wt1.heap.size #[.slice none 0 0] 22, Dk.boxOf Wd.heap.size #[.int .i64 q] 3, tB bm v0 v1 v2 v3 (.slice A4 j C4) (.slice A5 j C5), tO mutexes v0, tH mutexes v1, tW mutexes v2 hv, tC (Dk.lim conds) v3 cv, Dk.rowOf 3 1 (.slice aa0 l0 c0) (((xs.take j).map Dk.cl).length + 1) (Dk.is ((xs.take j).map Dk.cl) ++ [.int .i64 q])]) (us2 := us) K34 st6 hb7 rfl (by omega)
                            refine Dk.op_value (v := .slice aa1 l1 c1) (w' := wt7) (some 100) rfl rfl rfl (by rw [← hA]; clear hA; (try simp only [Act.put, List.setIfInBounds_toArray, List.set_cons_succ, List.set_cons_zero]); simp only [execOp, resolve, invoke, builtin]; simp [Act.eval, r7]) ⟨fun _ => fx _ _ st7 (by simp), ?_⟩
                            refine ⟨by kernel_rfl, .slice (some ⟨Wd.heap.size, 0, none⟩) 1 1, .slice (some ⟨wt1.heap.size, 0, none⟩) 1 1, aa0, l0, c0, aa1, l1, c1, ?_, st7.sub ?_⟩
                            · subst hA
                              first | rfl | (simp only [Act.put, List.setIfInBounds_toArray, List.set_cons_succ, List.set_cons_zero])
                            · exact List.sublist_append_right [_, _] _
                        · obtain ⟨wt8, e8⟩ : ∃ wt8, wt8 = Wd.alloc (.cells #[.slice none 0 0] 22) := ⟨_, rfl⟩
                          have st8 := sd.newBox e8
                          refine Dk.op_value (v := .slice (some ⟨Wd.heap.size, 0, none⟩) 1 1) (w' := wt8) (some 99) rfl rfl rfl (by rw [← hA]; clear hA; (try simp only [Act.put, List.setIfInBounds_toArray, List.set_cons_succ, List.set_cons_zero]); rw [e8]; go_simp) ⟨fun _ => fx _ _ st8 (by simp), ?_⟩
                          refine Dk.nodeT (rs := [7]) (by kernel_rfl) (by simp) ?_
                          intro i hi
                          simp only [List.mem_cons, List.not_mem_nil, or_false] at hi
                          subst hi
                          obtain ⟨wt9, e9⟩ : ∃ wt9, wt9 = wt8.alloc (.cells #[.int .i64 q] 3) := ⟨_, rfl⟩
                          have st9 := st8.newBox e9
                          refine Dk.op_value (v := .slice (some ⟨wt8.heap.size, 0, none⟩) 1 1) (w' := wt9) (some 93) rfl rfl rfl (by rw [← hA]; clear hA; (try simp only [Act.put, List.setIfInBounds_toArray, List.set_cons_succ, List.set_cons_zero]); rw [e9]; go_simp) ⟨fun _ => fx _ _ st9 (by simp), ?_⟩
                          refine Dk.nodeT (rs := [8]) (by kernel_rfl) (by simp) ?_
                          intro i hi
                          simp only [List.mem_cons, List.not_mem_nil, or_false] at hi
                          subst hi
                          have hb10 : Dk.Box wt9 wt8.heap.size #[.int .i64 q] 3 := st9.box (by simp)
                          obtain ⟨aa0, l0, c0, wt10, r10, st10⟩ := Dk.Sep.appendBox (us1 := [Dk.boxOf wt8.heap.size #[.int .i64 q] 3, Dk.boxOf Wd.heap.size #[.slice none 0 0] 22, tB bm v0 v1 v2 v3 (.slice A4 j C4) (.slice A5 j C5), tO mutexes v0, tH mutexes v1, tW mutexes v2 hv, tC (Dk.lim conds) v3 cv]) (us2 := tD (List.replicate j ([] : List Int)) (.slice A5 j C5) dv :: us) K22 st9 hb10 rfl (by omega)
                          refine Dk.op_value (v := .slice aa0 l0 c0) (w' := wt10) (some 94) rfl rfl rfl (by rw [← hA]; clear hA; (try simp only [Act.put, List.setIfInBounds_toArray, List.set_cons_succ, List.set_cons_zero]); simp only [execOp, resolve, invoke, builtin]; simp [Act.eval, r10]) ⟨fun _ => fx _ _ st10 (by simp), ?_⟩
                          refine Dk.nodeT (rs := [14]) (by kernel_rfl) (by simp) ?_
                          intro i hi
                          simp only [List.mem_cons, List.not_mem_nil, or_false] at hi
                          subst hi
                          have hb11 : Dk.Box wt10 Wd.heap.size #[.slice none 0 0] 22 := st10.box (by simp)
                          obtain ⟨aa1, l1, c1, wt11, r11, st11⟩ := Dk.Sep.nestGrow (us1 := [Dk.boxOf wt8.heap.size #[.int .i64 q] 3, Dk.boxOf Wd.heap.size #[.slice none 0 0] 22, tB bm v0 v1 v2 v3 (.slice A4 j C4) (.slice A5 j C5), tO mutexes v0, tH mutexes v1, tW mutexes v2 hv, tC (Dk.lim conds) v3 cv, Dk.rowOf 3 1 (.slice aa0 l0 c0) (((xs.take j).map Dk.cl).length + 1) (Dk.is ((xs.take j).map Dk.cl) ++ [.int .i64 q])]) (us2 := us) K34 st10 hb11 rfl (by omega)
                          refine Dk.op_value (v := .slice aa1 l1 c1) (w' := wt11) (some 100) rfl rfl rfl (by rw [← hA]; clear hA; (try simp only [Act.put, List.setIfInBounds_toArray, List.set_cons_succ, List.set_cons_zero]); simp only [execOp, resolve, invoke, builtin]; simp [Act.eval, r11]) ⟨fun _ => fx _ _ st11 (by simp), ?_⟩
                          refine ⟨by kernel_rfl, .slice (some ⟨wt8.heap.size, 0, none⟩) 1 1, .slice (some ⟨Wd.heap.size, 0, none⟩) 1 1, aa0, l0, c0, aa1, l1, c1, ?_, st11.sub ?_⟩
                          · subst hA
                            first | rfl | (simp only [Act.put, List.setIfInBounds_toArray, List.set_cons_succ, List.set_cons_zero])
                          · exact List.sublist_append_right [_, _] _
                · by_cases g3 : j < L
                  · have y1 : decide ((j : Int) < (L : Int)) = true := decide_eq_true (by omega)
                    have y2 : decide ((j : Int) < 4) = false := decide_eq_false (by omega)
                    have y3 : decide (j < 4) = false := decide_eq_false (by omega)
                    obtain rfl : j = min L 4 := by omega
                    have ex4 : xs.take (min L 4) = xs.take 4 := by rw [← HSL.out, Nat.min_comm, ← List.take_take, List.take_length]
                    rw [ex4] at hX
                    go_wp2_with fail
                    go_ret
                    exact ⟨bm, _, rfl, hX⟩
                  · have y1 : decide ((j : Int) < (L : Int)) = false := decide_eq_false (by omega)
                    obtain rfl : j = min L 4 := by omega
                    have ex4 : xs.take (min L 4) = xs.take 4 := by rw [← HSL.out, Nat.min_comm, ← List.take_take, List.take_length]
                    rw [ex4] at hX
                    go_wp2_with fail
                    go_ret
                    exact ⟨bm, _, rfl, hX⟩
end
end Go.Proofs.Ytjkdaankjondjaa
