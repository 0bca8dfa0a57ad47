/- Those that wait for a condition are told, in the document's answer. -/
import Derived.Test.YtjkdaankjondjaaGp
import Derived.Lib.SliceRun
namespace Go.Proofs.Ytjkdaankjondjaa
set_option linter.unusedSimpArgs false
set_option linter.unusedVariables false
set_option linter.unnecessarySimpa false
open Go.RowKit
section
variable {W w w' : World} {bm : Nat} {V : Dk.Vs} {S : Dk.St} {us : List Dk.Thing}
/-- A condition's row is taken out. -/
theorem Mdl.takeConds (h : Dk.Sep W w (Dk.mdl bm V S ++ us)) {n : Nat} (hn : n < S.conds.length) : ∃ g C A C', V.v3 = .slice (some ⟨g, 0, none⟩) S.conds.length C ∧ S.conds.length ≤ C ∧ C ≤ maxLen ∧ (S.conds.getD n []).length ≤ C' ∧ C' ≤ maxLen ∧ w.cell? ⟨g, n, none⟩ = some (.slice A (S.conds.getD n []).length C') ∧ w.frozen? ⟨g, n, none⟩ = false ∧
    Dk.Sep W (w.setCell ⟨g, n, none⟩ (.slice none 0 0)) (Dk.mdl bm { V with cv := V.cv.set n (.slice none 0 0) } { S with conds := S.conds.set n [] } ++ (Dk.rowOf 40 2 (.slice A (S.conds.getD n []).length C') (S.conds.getD n []).length (Dk.pr2 (S.conds.getD n [])) :: us)) := by
  obtain ⟨g, C, u, xs, ev, h1, h2, hu, hx, hc, hf, ho, _⟩ := h.inner (eh := 38) (e := 40) (s := 2) (f := Dk.pr2) (v := V.v3) (vs := V.cv) (xss := S.conds) (by simp [Dk.mdl]) hn
  have ex : S.conds.getD n [] = xs := by simp [List.getD, hx]
  obtain ⟨A, C', eu, h3, h4⟩ := Dk.owns_slice ho
  subst eu
  rw [ex]
  refine ⟨g, C, A, C', ev, h1, h2, h3, h4, hc, hf, ?_⟩
  have q := Dk.Sep.nestTake (us1 := [Dk.boxOf bm #[V.v0, V.v1, V.v2, V.v3, V.v4, V.v5] 37, Dk.rowOf 3 1 V.v0 S.owner.length (Dk.is S.owner), Dk.rowOf 4 1 V.v1 S.held.length (Dk.bv S.held), Dk.nestOf 22 3 1 Dk.is V.v2 V.hv S.wait]) (us2 := [Dk.rowOf 3 1 V.v4 S.count.length (Dk.is S.count), Dk.nestOf 22 3 1 Dk.is V.v5 V.dv S.downs] ++ us) h hn ev hu hx rfl
  exact Dk.Sep.perm q (((List.perm_middle (l₁ := [Dk.rowOf 3 1 V.v4 S.count.length (Dk.is S.count), Dk.nestOf 22 3 1 Dk.is V.v5 V.dv S.downs])).symm.cons _).append_left _)

set_option maxRecDepth 100000 in
set_option maxHeartbeats 8000000 in
theorem signal_m (h : Dk.Sep W w (Dk.mdl bm V S ++ us)) {k c : Nat} (ok : Dk.Ok S k) (hk : k ≤ 400) (hc : c < S.conds.length) (ch : Int) (hi : Dk.i64 ch) (all : Bool) :
    Calls Try.prog 27 #[.pointer (some ⟨bm, 0, none⟩), .int .i64 (c : Int), .int .i64 ch, .bool all] w fun e w' => ∃ A C, e = .returned (.slice A (S.signal c ch all).2.length C) ∧ ∃ V', Dk.Sep W w' (Dk.rowOf 3 1 (.slice A (S.signal c ch all).2.length C) (S.signal c ch all).2.length (Dk.is (S.signal c ch all).2) :: (Dk.mdl bm V' (S.signal c ch all).1 ++ us)) := by
  have hmem := Dk.getD_mem S.conds [] c hc
  have hll := ok.condLen hmem
  have hlo0 := ok.conds _ hmem
  obtain ⟨f0, f1, f2, f3, f4, f5⟩ := Mdl.fields h
  obtain ⟨g3, C3, A, C', e3, q3, m3, q3', m3', c3, z3, h1⟩ := Mdl.takeConds h hc
  rw [e3] at f3
  unfold maxLen at m3 m3'
  obtain ⟨l, el⟩ : ∃ l, S.conds.getD c [] = l := ⟨_, rfl⟩
  rw [el] at h1 hll hlo0 q3' c3
  obtain ⟨W1, e1⟩ : ∃ W1, W1 = w.setCell ⟨g3, c, none⟩ (.slice none 0 0) := ⟨_, rfl⟩
  rw [← e1] at h1
  have H1 : Hid (w.setCell ⟨g3, c, none⟩ (.slice none 0 0) = W1) := e1.symm
  have hci : (c : Int) < (S.conds.length : Int) := by omega
  have f3' : W1.cell? ⟨bm, 3, none⟩ = some (.slice (some ⟨g3, 0, none⟩) S.conds.length C3) := by
    have q := (Mdl.fields h1).2.2.2.1
    rw [q]
    exact congrArg some e3
  clear e1 h f0 f1 f2 f4 f5 e3
  cases all with
  | true =>
    rw [Dk.signal_all, el]
    have ok1 : Dk.Ok { S with conds := S.conds.set c [] } k := ok.setConds c hc [] (fun p hp => by simp at hp) (by simp)
    have s2 := (h1.empty (e := 3) (s := 1) rfl).perm (List.perm_middle).symm
    obtain ⟨S1, eS1⟩ : ∃ S1, S1 = { S with conds := S.conds.set c [] } := ⟨_, rfl⟩
    have hos : ∀ p ∈ l, Dk.i64 p.1 ∧ 0 ≤ p.2 ∧ p.2 < (S1.owner.length : Int) := by rw [eS1]; exact hlo0
    rw [← eS1] at ok1 s2 ⊢
    clear eS1
    obtain ⟨kk, ekk⟩ : ∃ kk, kk = k := ⟨_, rfl⟩
    have hkk : kk ≤ 400 := by omega
    rw [← ekk] at ok1
    clear ekk
    obtain ⟨os, eos⟩ : ∃ os, os = l := ⟨_, rfl⟩
    rw [← eos] at hos s2 ⊢
    obtain ⟨Lo, hlo⟩ : ∃ Lo, Lo = os.length := ⟨_, rfl⟩
    have eLo : Lo = l.length := by rw [hlo, eos]
    have hLo4 : Lo ≤ 400 := by omega
    rw [← eLo] at c3 hll
    rw [show l.length = Lo from eLo.symm] at q3'
    have s2 : Dk.Sep W (W1.alloc (.cells #[] 3)) (Dk.mdl bm { V with cv := V.cv.set c (.slice none 0 0) } S1 ++ (Dk.rowOf 3 1 (.slice (some ⟨W1.heap.size, 0, none⟩) 0 0) 0 [] :: Dk.rowOf 40 2 (.slice A Lo C') os.length (Dk.pr2 os) :: us)) := by
      rw [hlo]
      exact s2
    have t0 : Dk.Sep W (W1.alloc (.cells #[] 3)) (Dk.mdl bm { V with cv := V.cv.set c (.slice none 0 0) } (S1.goes (os.take 0)).1 ++ (Dk.rowOf 3 1 (.slice (some ⟨W1.heap.size, 0, none⟩) 0 0) (S1.goes (os.take 0)).2.length (Dk.is (S1.goes (os.take 0)).2) :: Dk.rowOf 40 2 (.slice A Lo C') os.length (Dk.pr2 os) :: us)) := s2
    have hlo' : Hid (Lo = os.length) := hlo
    clear s2 h1 eos eLo hlo
    obtain ⟨Ao, eAo⟩ : ∃ Ao, Ao = A := ⟨_, rfl⟩
    obtain ⟨Co, eCo⟩ : ∃ Co, Co = C' := ⟨_, rfl⟩
    subst eAo eCo
    go_enter Try.func27, Try.ntmps27
    go_wp2_with (rw [H1.out]; clear H1)
    have HS1 : Hid (∀ p ∈ os, Dk.i64 p.1 ∧ 0 ≤ p.2 ∧ p.2 < (S1.owner.length : Int)) := hos
    have HO1 : Hid (Dk.Ok S1 kk) := ok1
    clear hos ok1
    go_loopw [12, 13] (fun v i w' => ∃ (j : Nat) (V' : Dk.Vs), j ≤ Lo ∧ i = .int .i64 j ∧ Dk.Sep W w' (Dk.mdl bm V' (S1.goes (os.take j)).1 ++ (Dk.rowOf 3 1 v (S1.goes (os.take j)).2.length (Dk.is (S1.goes (os.take j)).2) :: Dk.rowOf 40 2 (.slice Ao Lo Co) os.length (Dk.pr2 os) :: us))) (fun v i w' => Lo - (intOf i).toNat)
    case atStart => exact ⟨0, _, Nat.zero_le _, rfl, t0⟩
    case round =>
      obtain ⟨j, V', hj, rfl, hT⟩ := hrel
      clear t0
      by_cases hlt : j < Lo
      · have z1 : decide ((j : Int) < (Lo : Int)) = true := decide_eq_true (by omega)
        have hjL : (j : Int) < (Lo : Int) := by omega
        have hlo := hlo'.out
        have hjo : j < os.length := by omega
        obtain ⟨⟨p1, pm⟩, ep⟩ : ∃ p, os.getD j (0, 0) = p := ⟨_, rfl⟩
        have hpm := HS1.out _ (ep ▸ Dk.getD_mem os (0, 0) j hjo)
        have hos' : ∀ p ∈ os.take j, Dk.i64 p.1 ∧ 0 ≤ p.2 ∧ p.2 < (S1.owner.length : Int) := fun p hp => HS1.out p (List.mem_of_mem_take hp)
        have okT := Dk.Ok.goes (os.take j) HO1.out hos'
        have hnext : S1.goes (os.take (j + 1)) = (((S1.goes (os.take j)).1.goes1 (p1, pm)).1, (S1.goes (os.take j)).2 ++ ((S1.goes (os.take j)).1.goes1 (p1, pm)).2) := by
          rw [List.take_add_one, show os[j]? = some (p1, pm) by rw [← ep]; simp [List.getD, hjo]]
          exact Dk.goes_snoc _ _ _
        have hgl : (S1.goes (os.take j)).2.length ≤ 1000 := by
          have := Dk.goes_len (os.take j) S1
          rw [List.length_take] at this
          omega
        obtain ⟨T, eT⟩ : ∃ T, (S1.goes (os.take j)).1 = T := ⟨_, rfl⟩
        obtain ⟨gs, egs⟩ : ∃ gs, (S1.goes (os.take j)).2 = gs := ⟨_, rfl⟩
        rw [eT] at hT okT hnext
        rw [egs] at hT hnext hgl
        clear eT egs hos' hlo
        obtain ⟨n, en⟩ : ∃ n : Nat, pm = n := ⟨pm.toNat, (Int.toNat_of_nonneg hpm.2.1).symm⟩
        subst en
        have hn : n < T.owner.length := by have := hpm.2.2; have := okT.2; omega
        -- the one's cells
        have hro : wr.ownsRow W.heap.size 40 2 (.slice Ao Lo Co) os.length (Dk.pr2 os) := hT.row (by simp)
        obtain ⟨_, ⟨_, h00⟩ | ⟨gq, capq, curq, eq0, _, hgq, _⟩⟩ := id hro
        · have := hlo'.out; omega
        injection eq0 with eAq eLq eCq
        clear eLq
        subst eAq eCq
        have hgq' : gq < wr.heap.size := (Array.getElem?_eq_some_iff.1 hgq).1
        have hcs := hro.cells (g := gq) rfl
        have pg := Dk.pr2_get os j hjo
        rw [ep] at pg
        have x0 : wr.cell? ⟨gq, j * 2, none⟩ = some (.int .i64 p1) := by
          have q := hcs _ _ pg.1
          rw [Addr.add_lit, Nat.zero_add] at q
          exact q
        have x1 : wr.cell? ⟨gq, j * 2 + 1, none⟩ = some (.int .i64 (n : Int)) := by
          have q := hcs _ _ pg.2
          rw [Addr.add_lit, Nat.zero_add] at q
          exact q
        obtain ⟨f0, f1, f2, f3, f4, f5⟩ := Mdl.fields hT
        have hhn : n < T.held.length := by rw [okT.1.held]; exact hn
        obtain ⟨g1, C1, e1, q1, m1, c1, z11, hset⟩ := Mdl.setHeld hT (n := n) hhn
        rw [e1, okT.1.held] at f1
        rw [okT.1.held] at q1
        unfold maxLen at m1
        have hni : (n : Int) < (T.owner.length : Int) := by omega
        have hoff : ∀ t ∈ Dk.mdl bm V' T, ∀ k, t.own k → ¬ (Dk.rowOf 40 2 (.slice (some ⟨gq, 0, none⟩) Lo Co) os.length (Dk.pr2 os)).own k := fun t ht k hk => (List.pairwise_append.1 (Hid.out hT).apart).2.2 t ht _ (by simp) k hk
        cases hh : T.held.getD n false with
        | true =>
          rw [hh] at c1
          have hn1 : T.goes1 (p1, (n : Int)) = ({ T with wait := T.wait.set n (T.wait.getD n [] ++ [p1]) }, []) := by
            unfold Dk.St.goes1
            simp only [Int.toNat_natCast, hh, if_true]
          rw [hn1] at hnext
          have hwn : n < T.wait.length := by rw [okT.1.wait]; exact hn
          have hlw : (T.wait.getD n []).length ≤ 1000 := by
            have := okT.1.waitLen (Dk.getD_mem T.wait [] n hwn)
            rw [List.length_take] at this
            omega
          have hd := hT.below (Dk.up_drew (Below.refl _ _))
          obtain ⟨g2, C2, A, L, C', A', L', C'', w6, V6, e2, q2, m2, c2, r6, _, d6, z6, aw, hv6, h7⟩ := Mdl.addWait hd hwn p1 hlw
          rw [e2, okT.1.wait] at f2
          rw [okT.1.wait] at q2
          unfold maxLen at m2
          have hnb : bm < wr.drew.heap.size := lt_of_cell' (w := wr.drew) f2
          have hno : ¬ (Value.ownBlock (.slice A L C') = some bm) := fun e => (List.pairwise_cons.1 (Hid.out hT).apart).1 (Dk.nestOf 22 3 1 Dk.is V'.v2 V'.hv T.wait) (by simp) bm rfl (.inr ⟨_, List.mem_of_getElem? hv6, e⟩)
          have hnq : ¬ (Value.ownBlock (.slice A L C') = some gq) := fun e => hoff (Dk.nestOf 22 3 1 Dk.is V'.v2 V'.hv T.wait) (by simp [Dk.mdl]) gq (.inr ⟨_, List.mem_of_getElem? hv6, e⟩) rfl
          have HK : Hid (wr.drew.cell? ⟨bm, 2, none⟩ = some (.slice (some ⟨g2, 0, none⟩) T.owner.length C2) ∧ wr.drew.cell? ⟨g2, n, none⟩ = some (.slice A L C') ∧ wr.drew.cell? ⟨gq, j * 2, none⟩ = some (.int .i64 p1)) := ⟨f2, c2, x0⟩
          have HK6 : Hid (w6.cell? ⟨bm, 2, none⟩ = some (.slice (some ⟨g2, 0, none⟩) T.owner.length C2) ∧ w6.cell? ⟨g2, n, none⟩ = some (.slice A L C') ∧ w6.cell? ⟨gq, j * 2, none⟩ = some (.int .i64 p1)) := ⟨(Dk.Away.cell aw hnb hno 2).trans f2, d6, (Dk.Away.cell aw (show gq < wr.drew.heap.size from hgq') hnq _).trans x0⟩
          have HF6 : Hid (w6.frozen? ⟨g2, n, none⟩ = false) := z6
          have HR6 : Hid _ := r6
          have HNX : Hid (S1.goes (os.take (j + 1)) = ({ T with wait := T.wait.set n (T.wait.getD n [] ++ [p1]) }, gs ++ [])) := hnext
          obtain ⟨W7, e7⟩ : ∃ W7, W7 = w6.setCell ⟨g2, n, none⟩ (.slice A' L' C'') := ⟨_, rfl⟩
          rw [← e7] at h7
          have H7 : Hid (w6.setCell ⟨g2, n, none⟩ (.slice A' L' C'') = W7) := e7.symm
          have hfin : ∃ V', Dk.Sep W W7 (Dk.mdl bm V' (S1.goes (os.take (j + 1))).1 ++ (Dk.rowOf 3 1 u12 (S1.goes (os.take (j + 1))).2.length (Dk.is (S1.goes (os.take (j + 1))).2) :: Dk.rowOf 40 2 (.slice (some ⟨gq, 0, none⟩) Lo Co) os.length (Dk.pr2 os) :: us)) := ⟨V6, by
            rw [HNX.out]
            simp only [List.append_nil]
            exact h7⟩
          obtain ⟨V8, h8⟩ := hfin
          clear hset hT hd h7 e7 HNX hnext hn1 okT aw d6 z6 r6 c2 hcs pg hro hoff e1 e2 hv6 hno hnq f0 f3 f4 f5 hpm
          generalize T.owner.length = M at *
          go_wp2_with fail
          refine Dk.wp_region_lineZ (z := 20) (S := fun w' => w'.cell? ⟨bm, 2, none⟩ = some (.slice (some ⟨g2, 0, none⟩) M C2) ∧ w'.cell? ⟨g2, n, none⟩ = some (.slice A L C') ∧ w'.cell? ⟨gq, j * 2, none⟩ = some (.int .i64 p1)) [0, 1, 2, 3, 4, 5, 6, 7, 8, 9, 10, 11, 12, 13, 14, 15, 16] [17, 18, 19, 20] (by kernel_rfl) (by kernel_rfl) (by kernel_rfl) HK.out ?_
          refine Dk.held_step (v := .pointer (some ⟨bm, 0, none⟩)) rfl rfl (fun w' hw' => by obtain ⟨q0, q1, q2⟩ := hw'; go_simp) ?_
          simp only [Act.put, List.setIfInBounds_toArray, List.set_cons_succ, List.set_cons_zero]
          refine Dk.held_step (v := .pointer (some ⟨bm, 0, none⟩)) rfl rfl (fun w' hw' => by obtain ⟨q0, q1, q2⟩ := hw'; go_simp) ?_
          simp only [Act.put, List.setIfInBounds_toArray, List.set_cons_succ, List.set_cons_zero]
          refine Dk.held_step (v := .pointer (some ⟨bm, 2, none⟩)) rfl rfl (fun w' hw' => by obtain ⟨q0, q1, q2⟩ := hw'; go_simp) ?_
          simp only [Act.put, List.setIfInBounds_toArray, List.set_cons_succ, List.set_cons_zero]
          refine Dk.held_step (v := .slice (some ⟨g2, 0, none⟩) M C2) rfl rfl (fun w' hw' => by obtain ⟨q0, q1, q2⟩ := hw'; go_simp) ?_
          simp only [Act.put, List.setIfInBounds_toArray, List.set_cons_succ, List.set_cons_zero]
          refine Dk.held_step (v := .int .i64 (n : Int)) rfl rfl (fun w' hw' => by obtain ⟨q0, q1, q2⟩ := hw'; go_simp) ?_
          simp only [Act.put, List.setIfInBounds_toArray, List.set_cons_succ, List.set_cons_zero]
          refine Dk.held_step (v := .pointer (some ⟨bm, 0, none⟩)) rfl rfl (fun w' hw' => by obtain ⟨q0, q1, q2⟩ := hw'; go_simp) ?_
          simp only [Act.put, List.setIfInBounds_toArray, List.set_cons_succ, List.set_cons_zero]
          refine Dk.held_step (v := .pointer (some ⟨bm, 0, none⟩)) rfl rfl (fun w' hw' => by obtain ⟨q0, q1, q2⟩ := hw'; go_simp) ?_
          simp only [Act.put, List.setIfInBounds_toArray, List.set_cons_succ, List.set_cons_zero]
          refine Dk.held_step (v := .pointer (some ⟨bm, 2, none⟩)) rfl rfl (fun w' hw' => by obtain ⟨q0, q1, q2⟩ := hw'; go_simp) ?_
          simp only [Act.put, List.setIfInBounds_toArray, List.set_cons_succ, List.set_cons_zero]
          refine Dk.held_step (v := .slice (some ⟨g2, 0, none⟩) M C2) rfl rfl (fun w' hw' => by obtain ⟨q0, q1, q2⟩ := hw'; go_simp) ?_
          simp only [Act.put, List.setIfInBounds_toArray, List.set_cons_succ, List.set_cons_zero]
          refine Dk.held_step (v := .int .i64 (n : Int)) rfl rfl (fun w' hw' => by obtain ⟨q0, q1, q2⟩ := hw'; go_simp) ?_
          simp only [Act.put, List.setIfInBounds_toArray, List.set_cons_succ, List.set_cons_zero]
          refine Dk.held_step (v := .pointer (some ⟨g2, n, none⟩)) rfl rfl (fun w' hw' => by obtain ⟨q0, q1, q2⟩ := hw'; go_simp) ?_
          simp only [Act.put, List.setIfInBounds_toArray, List.set_cons_succ, List.set_cons_zero]
          refine Dk.held_step (v := .slice A L C') rfl rfl (fun w' hw' => by obtain ⟨q0, q1, q2⟩ := hw'; go_simp) ?_
          simp only [Act.put, List.setIfInBounds_toArray, List.set_cons_succ, List.set_cons_zero]
          refine Dk.held_step (v := .slice (some ⟨gq, 0, none⟩) Lo Co) rfl rfl (fun w' hw' => by obtain ⟨q0, q1, q2⟩ := hw'; go_simp) ?_
          simp only [Act.put, List.setIfInBounds_toArray, List.set_cons_succ, List.set_cons_zero]
          refine Dk.held_step (v := .int .i64 (j : Int)) rfl rfl (fun w' hw' => by obtain ⟨q0, q1, q2⟩ := hw'; go_simp) ?_
          simp only [Act.put, List.setIfInBounds_toArray, List.set_cons_succ, List.set_cons_zero]
          refine Dk.held_step (v := .pointer (some ⟨gq, j * 2, none⟩)) rfl rfl (fun w' hw' => by obtain ⟨q0, q1, q2⟩ := hw'; go_simp) ?_
          simp only [Act.put, List.setIfInBounds_toArray, List.set_cons_succ, List.set_cons_zero]
          refine Dk.held_step (v := .pointer (some ⟨gq, j * 2, none⟩)) rfl rfl (fun w' hw' => by obtain ⟨q0, q1, q2⟩ := hw'; go_simp) ?_
          simp only [Act.put, List.setIfInBounds_toArray, List.set_cons_succ, List.set_cons_zero]
          refine Dk.held_step (v := .int .i64 p1) rfl rfl (fun w' hw' => by obtain ⟨q0, q1, q2⟩ := hw'; go_simp) ?_
          simp only [Act.put, List.setIfInBounds_toArray, List.set_cons_succ, List.set_cons_zero]
          obtain ⟨W5, e5⟩ : ∃ W5, W5 = wr.drew.alloc (.cells #[.int .i64 p1] 3) := ⟨_, rfl⟩
          have S5 : W5.cell? ⟨bm, 2, none⟩ = some (.slice (some ⟨g2, 0, none⟩) M C2) ∧ W5.cell? ⟨g2, n, none⟩ = some (.slice A L C') ∧ W5.cell? ⟨gq, j * 2, none⟩ = some (.int .i64 p1) := by
            rw [e5]
            exact ⟨Lib.cell?_alloc_some _ HK.out.1, Lib.cell?_alloc_some _ HK.out.2.1, Lib.cell?_alloc_some _ HK.out.2.2⟩
          refine Dk.lineZ_step (v := .slice (some ⟨wr.drew.heap.size, 0, none⟩) 1 1) (w' := W5) rfl rfl (by rw [e5]; go_simp) (fun _ => S5) ?_
          simp only [Act.put, List.setIfInBounds_toArray, List.set_cons_succ, List.set_cons_zero]
          have r5 := HR6.out
          rw [← e5, show wr.drew.heap.size = wr.heap.size from rfl] at r5
          refine Dk.lineZ_step (v := .slice A' L' C'') (w' := w6) rfl rfl (by simp only [execOp, resolve, invoke, builtin]; simp [Act.eval, r5]) (fun _ => HK6.out) ?_
          simp only [Act.put, List.setIfInBounds_toArray, List.set_cons_succ, List.set_cons_zero]
          refine Dk.lineZ_step (v := .pointer (some ⟨g2, n, none⟩)) (w' := w6) rfl rfl (by go_simp) (fun _ => HK6.out) ?_
          simp only [Act.put, List.setIfInBounds_toArray, List.set_cons_succ, List.set_cons_zero]
          refine Dk.lineZ_skip (w' := W7) rfl rfl (by rw [← H7.out]; have q1 := HK6.out.2.1; have q2 := HF6.out; go_simp) (fun h => absurd rfl h) ?_
          simp only [Act.put, List.setIfInBounds_toArray, List.set_cons_succ, List.set_cons_zero]
          rename_i hK
          refine hK _ _ ?_
          clear hK HK HK6 HF6 HR6 H7 e5 S5 r5 x0 x1 c1 f1 f2
          go_wp2_with fail
          go_roundw
          case rel => exact ⟨j + 1, V8, by omega, by go_num, h8⟩
          case measure => simp [intOf]; omega
        | false =>
          rw [hh] at c1
          have hn1 : T.goes1 (p1, (n : Int)) = ({ T with held := T.held.set n true, owner := T.owner.set n p1 }, [p1]) := by
            unfold Dk.St.goes1
            simp only [Int.toNat_natCast, hh]
            rfl
          rw [hn1] at hnext
          -- held
          have h3 := hset true
          obtain ⟨W3, e3⟩ : ∃ W3, W3 = wr.setCell ⟨g1, n, none⟩ (.bool true) := ⟨_, rfl⟩
          rw [← e3] at h3
          have hd := h3.below (Dk.up_drew (Below.refl _ _))
          obtain ⟨p0, _⟩ := Mdl.fields hd
          obtain ⟨g0, C0, e0, q0, m0, c0, z0, hset0⟩ := Mdl.setOwner hd (n := n) hn
          rw [e0] at p0
          unfold maxLen at m0
          have h4 := hset0 p1
          obtain ⟨W4, e4⟩ : ∃ W4, W4 = W3.drew.setCell ⟨g0, n, none⟩ (.int .i64 p1) := ⟨_, rfl⟩
          rw [← e4] at h4
          obtain ⟨p0', _⟩ := Mdl.fields h4
          rw [e0] at p0'
          have x3 : ∀ (V' : Dk.Vs) (T : Dk.St) (w : World) (v : Value), Dk.Sep W w (Dk.mdl bm V' T ++ (Dk.rowOf 3 1 v gs.length (Dk.is gs) :: Dk.rowOf 40 2 (.slice (some ⟨gq, 0, none⟩) Lo Co) os.length (Dk.pr2 os) :: us)) → w.cell? ⟨gq, j * 2, none⟩ = some (.int .i64 p1) := fun V' T w v h => by
            have hr : w.ownsRow W.heap.size 40 2 (.slice (some ⟨gq, 0, none⟩) Lo Co) os.length (Dk.pr2 os) := h.row (by simp)
            have q := hr.cells (g := gq) rfl _ _ pg.1
            rw [Addr.add_lit, Nat.zero_add] at q
            exact q
          have y3 := x3 _ _ _ _ hd
          have y4 := x3 _ _ _ _ h4
          obtain ⟨v9, w9, r9, h9, _⟩ := Dk.Sep.append (us1 := Dk.mdl bm V' { T with held := T.held.set n true, owner := T.owner.set n p1 }) (us2 := Dk.rowOf 40 2 (.slice (some ⟨gq, 0, none⟩) Lo Co) os.length (Dk.pr2 os) :: us) (x := .int .i64 p1) K22 h4 rfl (by omega)
          have hfin : Dk.Sep W w9 (Dk.mdl bm V' (S1.goes (os.take (j + 1))).1 ++ (Dk.rowOf 3 1 v9 (S1.goes (os.take (j + 1))).2.length (Dk.is (S1.goes (os.take (j + 1))).2) :: Dk.rowOf 40 2 (.slice (some ⟨gq, 0, none⟩) Lo Co) os.length (Dk.pr2 os) :: us)) := by
            rw [hnext]
            simp only [List.length_append, Dk.is, List.map_append]
            exact h9
          obtain ⟨Av, Cv, ev12, _, _⟩ := Dk.owns_slice (hT.row (e := 3) (s := 1) (v := u12) (n := gs.length) (xs := Dk.is gs) (by simp))
          subst ev12
          have H3 : Hid (wr.setCell ⟨g1, n, none⟩ (.bool true) = W3) := e3.symm
          have H4 : Hid (W3.drew.setCell ⟨g0, n, none⟩ (.int .i64 p1) = W4) := e4.symm
          have HK3 : Hid (W3.drew.cell? ⟨bm, 0, none⟩ = some (.slice (some ⟨g0, 0, none⟩) T.owner.length C0) ∧ W3.drew.cell? ⟨gq, j * 2, none⟩ = some (.int .i64 p1)) := ⟨p0, y3⟩
          have HK4 : Hid (W4.cell? ⟨bm, 0, none⟩ = some (.slice (some ⟨g0, 0, none⟩) T.owner.length C0) ∧ W4.cell? ⟨gq, j * 2, none⟩ = some (.int .i64 p1)) := ⟨p0', y4⟩
          clear hset hset0 hT hd h3 h4 h9 x3 e3 e4 hnext hn1 okT hcs pg hro hoff e1 e0 f0 f2 f3 f4 f5 hpm p0 p0' y3
          generalize T.owner.length = M at *
          go_wp2_with (rw [H3.out]; clear H3)
          refine Dk.wp_region_line (S := fun w' => w'.cell? ⟨bm, 0, none⟩ = some (.slice (some ⟨g0, 0, none⟩) M C0) ∧ w'.cell? ⟨gq, j * 2, none⟩ = some (.int .i64 p1)) [0, 1, 2, 3, 4, 5, 6, 7, 8, 9, 10] [11] (by kernel_rfl) (by kernel_rfl) HK3.out ?_
          refine Dk.held_step (v := .pointer (some ⟨bm, 0, none⟩)) rfl rfl (fun w' hw' => by obtain ⟨q0, q1⟩ := hw'; go_simp) ?_
          simp only [Act.put, List.setIfInBounds_toArray, List.set_cons_succ, List.set_cons_zero]
          refine Dk.held_step (v := .pointer (some ⟨bm, 0, none⟩)) rfl rfl (fun w' hw' => by obtain ⟨q0, q1⟩ := hw'; go_simp) ?_
          simp only [Act.put, List.setIfInBounds_toArray, List.set_cons_succ, List.set_cons_zero]
          refine Dk.held_step (v := .pointer (some ⟨bm, 0, none⟩)) rfl rfl (fun w' hw' => by obtain ⟨q0, q1⟩ := hw'; go_simp) ?_
          simp only [Act.put, List.setIfInBounds_toArray, List.set_cons_succ, List.set_cons_zero]
          refine Dk.held_step (v := .slice (some ⟨g0, 0, none⟩) M C0) rfl rfl (fun w' hw' => by obtain ⟨q0, q1⟩ := hw'; go_simp) ?_
          simp only [Act.put, List.setIfInBounds_toArray, List.set_cons_succ, List.set_cons_zero]
          refine Dk.held_step (v := .int .i64 (n : Int)) rfl rfl (fun w' hw' => by obtain ⟨q0, q1⟩ := hw'; go_simp) ?_
          simp only [Act.put, List.setIfInBounds_toArray, List.set_cons_succ, List.set_cons_zero]
          refine Dk.held_step (v := .slice (some ⟨gq, 0, none⟩) Lo Co) rfl rfl (fun w' hw' => by obtain ⟨q0, q1⟩ := hw'; go_simp) ?_
          simp only [Act.put, List.setIfInBounds_toArray, List.set_cons_succ, List.set_cons_zero]
          refine Dk.held_step (v := .int .i64 (j : Int)) rfl rfl (fun w' hw' => by obtain ⟨q0, q1⟩ := hw'; go_simp) ?_
          simp only [Act.put, List.setIfInBounds_toArray, List.set_cons_succ, List.set_cons_zero]
          refine Dk.held_step (v := .pointer (some ⟨gq, j * 2, none⟩)) rfl rfl (fun w' hw' => by obtain ⟨q0, q1⟩ := hw'; go_simp) ?_
          simp only [Act.put, List.setIfInBounds_toArray, List.set_cons_succ, List.set_cons_zero]
          refine Dk.held_step (v := .pointer (some ⟨gq, j * 2, none⟩)) rfl rfl (fun w' hw' => by obtain ⟨q0, q1⟩ := hw'; go_simp) ?_
          simp only [Act.put, List.setIfInBounds_toArray, List.set_cons_succ, List.set_cons_zero]
          refine Dk.held_step (v := .int .i64 p1) rfl rfl (fun w' hw' => by obtain ⟨q0, q1⟩ := hw'; go_simp) ?_
          simp only [Act.put, List.setIfInBounds_toArray, List.set_cons_succ, List.set_cons_zero]
          refine Dk.held_step (v := .pointer (some ⟨g0, n, none⟩)) rfl rfl (fun w' hw' => by obtain ⟨q0, q1⟩ := hw'; go_simp) ?_
          simp only [Act.put, List.setIfInBounds_toArray, List.set_cons_succ, List.set_cons_zero]
          refine Dk.line_step rfl rfl ?_
          refine wp_skip (w' := W4) (by rw [← H4.out]; go_simp) ⟨HK4.out, ?_⟩
          simp only [Act.put, List.setIfInBounds_toArray, List.set_cons_succ, List.set_cons_zero]
          rename_i hK
          refine hK _ _ ?_
          clear hK HK3 HK4 H4 x0 x1 c1 f1 c0 z0
          go_wp2_with (at_builtin; refine Lib.wpList_append_run _ rfl _ _ _ _ rfl _ _ rfl rfl _ _ r9 ?_)
          go_roundw
          case rel => exact ⟨j + 1, V', by omega, by go_num, hfin⟩
          case measure => simp [intOf]; omega
      · have z1 : decide ((j : Int) < (Lo : Int)) = false := decide_eq_false (by omega)
        have hlo := hlo'.out
        rw [List.take_of_length_le (by omega)] at hT
        clear hlo
        obtain ⟨Av, Cv, ev12, _, _⟩ := Dk.owns_slice (hT.row (e := 3) (s := 1) (v := u12) (n := (S1.goes os).2.length) (xs := Dk.is (S1.goes os).2) (by simp))
        subst ev12
        clear HO1 HS1
        go_wp2_with fail
        go_ret
        exact ⟨_, _, rfl, V', Dk.Sep.perm (hT.sub (us := Dk.mdl bm V' (S1.goes os).1 ++ (Dk.rowOf 3 1 (.slice Av (S1.goes os).2.length Cv) (S1.goes os).2.length (Dk.is (S1.goes os).2) :: us)) ((List.Sublist.refl _).append ((List.sublist_cons_self _ _).cons_cons _))) List.perm_middle⟩
  | false =>
    by_cases hl0 : l.length = 0
    · have hl1 : l = [] := List.eq_nil_of_length_eq_zero hl0
      rw [show S.signal c ch false = ({ S with conds := S.conds.set c [] } : Dk.St).goes l by rw [Dk.signal_none S c ch (by rw [el]; exact hl1), hl1]]
      have z0 : decide ((0 : Int) < (l.length : Int)) = false := decide_eq_false (by omega)
      have z0' : decide (0 < l.length) = false := decide_eq_false (by omega)
      have z0'' : decide ((l.length : Int) > 0) = false := decide_eq_false (by omega)
      have ok1 : Dk.Ok { S with conds := S.conds.set c [] } k := ok.setConds c hc [] (fun p hp => by simp at hp) (by simp)
      have s2 := (h1.empty (e := 3) (s := 1) rfl).perm (List.perm_middle).symm
      obtain ⟨S1, eS1⟩ : ∃ S1, S1 = { S with conds := S.conds.set c [] } := ⟨_, rfl⟩
      have hos : ∀ p ∈ l, Dk.i64 p.1 ∧ 0 ≤ p.2 ∧ p.2 < (S1.owner.length : Int) := by rw [eS1]; exact hlo0
      rw [← eS1] at ok1 s2 ⊢
      clear eS1
      obtain ⟨kk, ekk⟩ : ∃ kk, kk = k := ⟨_, rfl⟩
      have hkk : kk ≤ 400 := by omega
      rw [← ekk] at ok1
      clear ekk
      obtain ⟨os, eos⟩ : ∃ os, os = l := ⟨_, rfl⟩
      rw [← eos] at hos s2 ⊢
      obtain ⟨Lo, hlo⟩ : ∃ Lo, Lo = os.length := ⟨_, rfl⟩
      have eLo : Lo = l.length := by rw [hlo, eos]
      have hLo4 : Lo ≤ 400 := by omega
      rw [← eLo] at c3 hll z0 z0' z0'' hl0
      rw [show l.length = Lo from eLo.symm] at q3'
      have s2 : Dk.Sep W (W1.alloc (.cells #[] 3)) (Dk.mdl bm { V with cv := V.cv.set c (.slice none 0 0) } S1 ++ (Dk.rowOf 3 1 (.slice (some ⟨W1.heap.size, 0, none⟩) 0 0) 0 [] :: Dk.rowOf 40 2 (.slice A Lo C') os.length (Dk.pr2 os) :: us)) := by
        rw [hlo]
        exact s2
      have t0 : Dk.Sep W (W1.alloc (.cells #[] 3)) (Dk.mdl bm { V with cv := V.cv.set c (.slice none 0 0) } (S1.goes (os.take 0)).1 ++ (Dk.rowOf 3 1 (.slice (some ⟨W1.heap.size, 0, none⟩) 0 0) (S1.goes (os.take 0)).2.length (Dk.is (S1.goes (os.take 0)).2) :: Dk.rowOf 40 2 (.slice A Lo C') os.length (Dk.pr2 os) :: us)) := s2
      have hlo' : Hid (Lo = os.length) := hlo
      clear s2 h1 eos eLo hlo
      obtain ⟨Ao, eAo⟩ : ∃ Ao, Ao = A := ⟨_, rfl⟩
      obtain ⟨Co, eCo⟩ : ∃ Co, Co = C' := ⟨_, rfl⟩
      subst eAo eCo
      go_enter Try.func27, Try.ntmps27
      go_wp2_with (rw [H1.out]; clear H1)
      have HS1 : Hid (∀ p ∈ os, Dk.i64 p.1 ∧ 0 ≤ p.2 ∧ p.2 < (S1.owner.length : Int)) := hos
      have HO1 : Hid (Dk.Ok S1 kk) := ok1
      clear hos ok1
      go_loopw [12, 13] (fun v i w' => ∃ (j : Nat) (V' : Dk.Vs), j ≤ Lo ∧ i = .int .i64 j ∧ Dk.Sep W w' (Dk.mdl bm V' (S1.goes (os.take j)).1 ++ (Dk.rowOf 3 1 v (S1.goes (os.take j)).2.length (Dk.is (S1.goes (os.take j)).2) :: Dk.rowOf 40 2 (.slice Ao Lo Co) os.length (Dk.pr2 os) :: us))) (fun v i w' => Lo - (intOf i).toNat)
      case atStart => exact ⟨0, _, Nat.zero_le _, rfl, t0⟩
      case round =>
        obtain ⟨j, V', hj, rfl, hT⟩ := hrel
        clear t0
        by_cases hlt : j < Lo
        · exact absurd hlt (by omega)
        · have z1 : decide ((j : Int) < (Lo : Int)) = false := decide_eq_false (by omega)
          have hlo := hlo'.out
          rw [List.take_of_length_le (by omega)] at hT
          clear hlo
          obtain ⟨Av, Cv, ev12, _, _⟩ := Dk.owns_slice (hT.row (e := 3) (s := 1) (v := u12) (n := (S1.goes os).2.length) (xs := Dk.is (S1.goes os).2) (by simp))
          subst ev12
          clear HO1 HS1
          go_wp2_with fail
          go_ret
          exact ⟨_, _, rfl, V', Dk.Sep.perm (hT.sub (us := Dk.mdl bm V' (S1.goes os).1 ++ (Dk.rowOf 3 1 (.slice Av (S1.goes os).2.length Cv) (S1.goes os).2.length (Dk.is (S1.goes os).2) :: us)) ((List.Sublist.refl _).append ((List.sublist_cons_self _ _).cons_cons _))) List.perm_middle⟩
    · have hlp : 0 < l.length := by omega
      rw [Dk.signal_one S c ch l el hlp]
      have KP := pick_any ch l.length hi hlp (by omega) W1
      obtain ⟨a, ea⟩ : ∃ a, Dk.at_ ch l.length = a := ⟨_, rfl⟩
      have hal : a < l.length := by rw [← ea]; exact Dk.at_lt ch hlp
      rw [ea] at KP ⊢
      clear ea
      obtain ⟨⟨p1, pm⟩, ep⟩ : ∃ p, l.getD a (0, 0) = p := ⟨_, rfl⟩
      have hpm := hlo0 _ (ep ▸ Dk.getD_mem l (0, 0) a hal)
      rw [ep]
      have hro : W1.ownsRow W.heap.size 40 2 (.slice A l.length C') l.length (Dk.pr2 l) := h1.row (by simp)
      obtain ⟨_, ⟨_, h00⟩ | ⟨gl, Cl, curl, eq0, _⟩⟩ := id hro
      · omega
      injection eq0 with eAl _ eCl
      subst eAl eCl
      have pg := Dk.pr2_get l a hal
      rw [ep] at pg
      have x0 : W1.cell? ⟨gl, a * 2, none⟩ = some (.int .i64 p1) := by
        have q := hro.cells (g := gl) rfl _ _ pg.1
        rw [Addr.add_lit, Nat.zero_add] at q
        exact q
      have x1 : W1.cell? ⟨gl, a * 2 + 1, none⟩ = some (.int .i64 pm) := by
        have q := hro.cells (g := gl) rfl _ _ pg.2
        rw [Addr.add_lit, Nat.zero_add] at q
        exact q
      -- the one, in a list of its own
      obtain ⟨W2, e2⟩ : ∃ W2, W2 = W1.alloc (.cells #[.int .i64 p1, .int .i64 pm] 40) := ⟨_, rfl⟩
      have u2 : Below W1.heap.size W1 W2 := by rw [e2]; exact Dk.up_alloc (Below.refl _ _) _
      obtain ⟨gq, egq⟩ : ∃ gq, W1.heap.size = gq := ⟨_, rfl⟩
      have h2 : Dk.Sep W W2 (Dk.rowOf 40 2 (.slice (some ⟨gq, 0, none⟩) 1 1) 1 (Dk.pr2 [(p1, pm)]) :: (Dk.mdl bm { V with cv := V.cv.set c (.slice none 0 0) } { S with conds := S.conds.set c [] } ++ (Dk.rowOf 40 2 (.slice (some ⟨gl, 0, none⟩) l.length C') l.length (Dk.pr2 l) :: us))) := by
        refine h1.add u2 ?_ (fun k hk => ?_)
        · have q := World.ownsRow_lit W1 (e := 40) (size := 2) (base := 0) #[.int .i64 p1, .int .i64 pm] 1 (Nat.zero_le _) (by unfold maxLen; omega) rfl
          rw [← e2, egq] at q
          exact q
        · have : k = gq := by simpa [Dk.rowOf, Value.ownBlock] using hk.symm
          omega
      have h2' := h2.perm (us := Dk.mdl bm { V with cv := V.cv.set c (.slice none 0 0) } { S with conds := S.conds.set c [] } ++ (Dk.rowOf 40 2 (.slice (some ⟨gq, 0, none⟩) 1 1) 1 (Dk.pr2 [(p1, pm)]) :: Dk.rowOf 40 2 (.slice (some ⟨gl, 0, none⟩) l.length C') l.length (Dk.pr2 l) :: us)) List.perm_middle.symm
      -- the others
      have d2 := h2'.below (Dk.up_drew (Below.refl _ _))
      have hr2 : W2.drew.ownsRow W.heap.size 40 2 (.slice (some ⟨gl, 0, none⟩) l.length C') l.length (Dk.pr2 l) := d2.row (by simp)
      obtain ⟨gl', Cl', A2, A9, C9, w9, A14, C14, w14, ev, _, _, hA2, r9, u9, r14, u14, o14⟩ := K38.without hr2 (Dk.pr2_one _) a hal (by omega)
      cases ev
      have hel : (l.eraseIdx a).length = l.length - 1 := by rw [List.length_eraseIdx, if_pos hal]
      have o14' : w14.ownsRow W2.drew.heap.size 40 2 (.slice A14 (a + (l.length - (a + 1))) C14) (l.eraseIdx a).length (Dk.pr2 (l.eraseIdx a)) := by
        rw [Dk.pr2_erase, hel]
        exact o14
      have hcl : (S.conds.set c []).length = S.conds.length := List.length_set
      obtain ⟨g3', C3', A3, L3, C3'', e3', _, _, _, hv3', c3', _, _, put⟩ := Mdl.putConds d2 (n := c) (by show c < (S.conds.set c []).length; rw [hcl]; exact hc)
      have eg3 : g3' = g3 := by
        have q := (Mdl.fields d2).2.2.2.1
        have q' : W2.drew.cell? ⟨bm, 3, none⟩ = W1.cell? ⟨bm, 3, none⟩ := u2.cell (p := ⟨bm, 3, none⟩) (lt_of_cell' f3')
        rw [q', f3'] at q
        have := (Option.some.inj q).trans e3'
        simp at this
        exact this.1.symm
      subst eg3
      obtain ⟨_, z14, h3⟩ := put w14 (.slice A14 (a + (l.length - (a + 1))) C14) (l.eraseIdx a) (Dk.Away.of_up u14) (Dk.owns_base o14' (Nat.zero_le _)) (Dk.From.new o14')
      have d14 : w14.cell? ⟨g3', c, none⟩ = some (.slice A3 L3 C3'') := (u14.cell (p := ⟨g3', c, none⟩) (lt_of_cell' c3')).trans c3'
      obtain ⟨W3, e3⟩ : ∃ W3, W3 = w14.setCell ⟨g3', c, none⟩ (.slice A14 (a + (l.length - (a + 1))) C14) := ⟨_, rfl⟩
      rw [← e3] at h3
      have h3' : ∃ V3, Dk.Sep W W3 (Dk.mdl bm V3 { S with conds := S.conds.set c (l.eraseIdx a) } ++ (Dk.rowOf 40 2 (.slice (some ⟨gq, 0, none⟩) 1 1) 1 (Dk.pr2 [(p1, pm)]) :: us)) := ⟨_, by
        have q := h3.sub (us := Dk.mdl bm _ _ ++ (Dk.rowOf 40 2 (.slice (some ⟨gq, 0, none⟩) 1 1) 1 (Dk.pr2 [(p1, pm)]) :: us)) ((List.Sublist.refl _).append ((List.sublist_cons_self _ _).cons_cons _))
        rw [show (({ S with conds := S.conds.set c [] } : Dk.St).conds.set c (l.eraseIdx a)) = S.conds.set c (l.eraseIdx a) from List.set_set ..] at q
        exact q⟩
      obtain ⟨V3, h4⟩ := h3'
      have bm2 : bm < W2.drew.heap.size := Nat.lt_of_lt_of_le (lt_of_cell' f3') u2.size
      have k2 : W2.drew.cell? ⟨bm, 3, none⟩ = some (.slice (some ⟨g3', 0, none⟩) S.conds.length C3) := (u2.cell (p := ⟨bm, 3, none⟩) (lt_of_cell' f3')).trans f3'
      have HK2 : Hid (W2.drew.cell? ⟨bm, 3, none⟩ = some (.slice (some ⟨g3', 0, none⟩) S.conds.length C3)) := k2
      have HK9 : Hid (w9.cell? ⟨bm, 3, none⟩ = some (.slice (some ⟨g3', 0, none⟩) S.conds.length C3)) := (u9.cell (p := ⟨bm, 3, none⟩) bm2).trans k2
      have HK14 : Hid (w14.cell? ⟨bm, 3, none⟩ = some (.slice (some ⟨g3', 0, none⟩) S.conds.length C3)) := (u14.cell (p := ⟨bm, 3, none⟩) bm2).trans k2
      have HA2 : Hid ((if C' = a + 1 then some (⟨gl, 0, none⟩ : Addr) else some ⟨gl, (a + 1) * 2, none⟩) = some A2) := hA2
      have HR9 : Hid _ := r9
      have HR14 : Hid _ := r14
      have HD14 : Hid (w14.cell? ⟨g3', c, none⟩ = some (.slice A3 L3 C3'') ∧ w14.frozen? ⟨g3', c, none⟩ = false) := ⟨d14, z14⟩
      have H2 : Hid (W1.alloc (.cells #[.int .i64 p1, .int .i64 pm] 40) = W2) := e2.symm
      have H3 : Hid (w14.setCell ⟨g3', c, none⟩ (.slice A14 (a + (l.length - (a + 1))) C14) = W3) := e3.symm
      have HGQ : Hid (W1.heap.size = gq) := egq
      have hai : (a : Int) < (l.length : Int) := by omega
      have z0 : decide ((0 : Int) < (l.length : Int)) = true := decide_eq_true (by omega)
      have z0' : decide (0 < l.length) = true := decide_eq_true (by omega)
      have z0'' : decide ((l.length : Int) > 0) = true := decide_eq_true (by omega)
      have ok1 : Dk.Ok { S with conds := S.conds.set c (l.eraseIdx a) } k := ok.setConds c hc _ (Dk.erase_mem hlo0) (by rw [el, hel]; omega)
      have s2 := (h4.empty (e := 3) (s := 1) rfl).perm (List.perm_middle).symm
      obtain ⟨S1, eS1⟩ : ∃ S1, S1 = { S with conds := S.conds.set c (l.eraseIdx a) } := ⟨_, rfl⟩
      obtain ⟨os, eos⟩ : ∃ os, os = [(p1, pm)] := ⟨_, rfl⟩
      have hos : ∀ p ∈ os, Dk.i64 p.1 ∧ 0 ≤ p.2 ∧ p.2 < (S1.owner.length : Int) := by
        rw [eS1, eos]
        intro p hp
        rw [List.mem_singleton] at hp
        rw [hp]
        exact hpm
      have hlo : 1 = os.length := by rw [eos]; rfl
      rw [← eS1] at ok1 s2 ⊢
      rw [← eos] at s2 ⊢
      have t0 : Dk.Sep W (W3.alloc (.cells #[] 3)) (Dk.mdl bm V3 (S1.goes (os.take 0)).1 ++ (Dk.rowOf 3 1 (.slice (some ⟨W3.heap.size, 0, none⟩) 0 0) (S1.goes (os.take 0)).2.length (Dk.is (S1.goes (os.take 0)).2) :: Dk.rowOf 40 2 (.slice (some ⟨gq, 0, none⟩) 1 1) os.length (Dk.pr2 os) :: us)) := by
        rw [← hlo]
        exact s2
      obtain ⟨kk, ekk⟩ : ∃ kk, kk = k := ⟨_, rfl⟩
      have hkk : kk ≤ 400 := by omega
      rw [← ekk] at ok1
      have hlo' : Hid (1 = os.length) := hlo
      clear hlo
      clear s2 h1 h2 h2' d2 h3 h4 put hr2 hro pg ep eS1 eos ekk hpm o14 o14' u9 u14 u2 e2 e3 egq r9 r14 d14 z14 hA2 k2 c3' e3' hv3' hel hcl
      go_enter Try.func27, Try.ntmps27
      go_wp2_with (rw [H1.out]; clear H1)
      refine KP.mono ?_
      rintro e w' ⟨rfl, hw'⟩
      subst w'
      clear KP
      go_wp2_with (rw [H2.out, HGQ.out]; clear H2)
      refine Dk.wp_region_lineZ (z := 16) (S := fun w' => w'.cell? ⟨bm, 3, none⟩ = some (.slice (some ⟨g3', 0, none⟩) S.conds.length C3)) [0, 1, 2, 3, 4, 6, 7, 8, 10, 11, 12, 13] [5, 9, 14, 15, 16] (by kernel_rfl) (by kernel_rfl) (by kernel_rfl) HK2.out ?_
      refine Dk.held_step (v := .pointer (some ⟨bm, 0, none⟩)) rfl rfl (fun w' hw' => by have q0 := hw'; go_simp) ?_
      simp only [Act.put, List.setIfInBounds_toArray, List.set_cons_succ, List.set_cons_zero]
      refine Dk.held_step (v := .pointer (some ⟨bm, 0, none⟩)) rfl rfl (fun w' hw' => by have q0 := hw'; go_simp) ?_
      simp only [Act.put, List.setIfInBounds_toArray, List.set_cons_succ, List.set_cons_zero]
      refine Dk.held_step (v := .pointer (some ⟨bm, 3, none⟩)) rfl rfl (fun w' hw' => by have q0 := hw'; go_simp) ?_
      simp only [Act.put, List.setIfInBounds_toArray, List.set_cons_succ, List.set_cons_zero]
      refine Dk.held_step (v := .slice (some ⟨g3', 0, none⟩) S.conds.length C3) rfl rfl (fun w' hw' => by have q0 := hw'; go_simp) ?_
      simp only [Act.put, List.setIfInBounds_toArray, List.set_cons_succ, List.set_cons_zero]
      refine Dk.held_step (v := .int .i64 (c : Int)) rfl rfl (fun w' hw' => by have q0 := hw'; go_simp) ?_
      simp only [Act.put, List.setIfInBounds_toArray, List.set_cons_succ, List.set_cons_zero]
      refine Dk.held_step (v := .slice (some ⟨gl, 0, none⟩) l.length C') rfl rfl (fun w' hw' => by have q0 := hw'; go_simp) ?_
      simp only [Act.put, List.setIfInBounds_toArray, List.set_cons_succ, List.set_cons_zero]
      refine Dk.held_step (v := .int .i64 (a : Int)) rfl rfl (fun w' hw' => by have q0 := hw'; go_simp) ?_
      simp only [Act.put, List.setIfInBounds_toArray, List.set_cons_succ, List.set_cons_zero]
      refine Dk.held_step (v := .slice (some ⟨gl, 0, none⟩) a C') rfl rfl (fun w' hw' => by have q0 := hw'; go_simp; intro hh; exact absurd hh (by omega)) ?_
      simp only [Act.put, List.setIfInBounds_toArray, List.set_cons_succ, List.set_cons_zero]
      refine Dk.held_step (v := .slice (some ⟨gl, 0, none⟩) l.length C') rfl rfl (fun w' hw' => by have q0 := hw'; go_simp) ?_
      simp only [Act.put, List.setIfInBounds_toArray, List.set_cons_succ, List.set_cons_zero]
      refine Dk.held_step (v := .int .i64 (a : Int)) rfl rfl (fun w' hw' => by have q0 := hw'; go_simp) ?_
      simp only [Act.put, List.setIfInBounds_toArray, List.set_cons_succ, List.set_cons_zero]
      refine Dk.held_step (v := .int .i64 ((a : Int) + 1)) rfl rfl (fun w' hw' => by have q0 := hw'; go_simp; rw [IntKind.wrap_i64]; omega) ?_
      simp only [Act.put, List.setIfInBounds_toArray, List.set_cons_succ, List.set_cons_zero]
      refine Dk.held_step (v := .slice (some A2) (l.length - (a + 1)) (C' - (a + 1))) rfl rfl (fun w' hw' => by have q0 := hw'; go_simp; rw [if_pos (by omega), HA2.out]) ?_
      simp only [Act.put, List.setIfInBounds_toArray, List.set_cons_succ, List.set_cons_zero]
      obtain ⟨W7, e7⟩ : ∃ W7, W7 = W2.drew.alloc (.cells #[] 40) := ⟨_, rfl⟩
      have k7 : W7.cell? ⟨bm, 3, none⟩ = some (.slice (some ⟨g3', 0, none⟩) S.conds.length C3) := by rw [e7]; exact Lib.cell?_alloc_some _ HK2.out
      have r9 := HR9.out
      rw [← e7, show W2.drew.heap.size = W2.heap.size from rfl] at r9
      have r14 := HR14.out
      refine Dk.lineZ_step (v := .slice (some ⟨W2.heap.size, 0, none⟩) 0 0) (w' := W7) rfl rfl (by rw [e7]; go_simp) (fun _ => k7) ?_
      simp only [Act.put, List.setIfInBounds_toArray, List.set_cons_succ, List.set_cons_zero]
      refine Dk.lineZ_step (v := .slice A9 a C9) (w' := w9) rfl rfl (by simp only [execOp, resolve, invoke, builtin]; simp [Act.eval, r9]) (fun _ => HK9.out) ?_
      simp only [Act.put, List.setIfInBounds_toArray, List.set_cons_succ, List.set_cons_zero]
      refine Dk.lineZ_step (v := .slice A14 (a + (l.length - (a + 1))) C14) (w' := w14) rfl rfl (by simp only [execOp, resolve, invoke, builtin]; simp [Act.eval, r14]) (fun _ => HK14.out) ?_
      simp only [Act.put, List.setIfInBounds_toArray, List.set_cons_succ, List.set_cons_zero]
      refine Dk.lineZ_step (v := .pointer (some ⟨g3', c, none⟩)) (w' := w14) rfl rfl (by go_simp) (fun _ => HK14.out) ?_
      simp only [Act.put, List.setIfInBounds_toArray, List.set_cons_succ, List.set_cons_zero]
      refine Dk.lineZ_skip (w' := W3) rfl rfl (by rw [← H3.out]; have q1 := HD14.out.1; have q2 := HD14.out.2; go_simp) (fun h => absurd rfl h) ?_
      simp only [Act.put, List.setIfInBounds_toArray, List.set_cons_succ, List.set_cons_zero]
      rename ∀ (_ : Act) (_ : World), Code.wp _ _ _ _ _ → _ => hK
      refine hK _ _ ?_
      clear hK e7 k7 r9 r14 HR9 HR14 HK2 HK9 HK14 HD14 H3 HA2 x0 x1 f3 f3' c3 z3 HGQ
      go_wp2_with fail
      have HS1 : Hid (∀ p ∈ os, Dk.i64 p.1 ∧ 0 ≤ p.2 ∧ p.2 < (S1.owner.length : Int)) := hos
      have HO1 : Hid (Dk.Ok S1 kk) := ok1
      clear hos ok1
      go_loopw [12, 13] (fun v i w' => ∃ (j : Nat) (V' : Dk.Vs), j ≤ 1 ∧ i = .int .i64 j ∧ Dk.Sep W w' (Dk.mdl bm V' (S1.goes (os.take j)).1 ++ (Dk.rowOf 3 1 v (S1.goes (os.take j)).2.length (Dk.is (S1.goes (os.take j)).2) :: Dk.rowOf 40 2 (.slice (some ⟨gq, 0, none⟩) 1 1) os.length (Dk.pr2 os) :: us))) (fun v i w' => 1 - (intOf i).toNat)
      case atStart => exact ⟨0, _, Nat.zero_le _, rfl, t0⟩
      case round =>
        obtain ⟨j, V', hj, rfl, hT⟩ := hrel
        clear t0
        by_cases hlt : j < 1
        · have z1 : decide ((j : Int) < (1 : Int)) = true := decide_eq_true (by omega)
          have hjL : (j : Int) < (1 : Int) := by omega
          have hlo := hlo'.out
          have hjo : j < os.length := by omega
          obtain ⟨⟨p1, pm⟩, ep⟩ : ∃ p, os.getD j (0, 0) = p := ⟨_, rfl⟩
          have hpm := HS1.out _ (ep ▸ Dk.getD_mem os (0, 0) j hjo)
          have hos' : ∀ p ∈ os.take j, Dk.i64 p.1 ∧ 0 ≤ p.2 ∧ p.2 < (S1.owner.length : Int) := fun p hp => HS1.out p (List.mem_of_mem_take hp)
          have okT := Dk.Ok.goes (os.take j) HO1.out hos'
          have hnext : S1.goes (os.take (j + 1)) = (((S1.goes (os.take j)).1.goes1 (p1, pm)).1, (S1.goes (os.take j)).2 ++ ((S1.goes (os.take j)).1.goes1 (p1, pm)).2) := by
            rw [List.take_add_one, show os[j]? = some (p1, pm) by rw [← ep]; simp [List.getD, hjo]]
            exact Dk.goes_snoc _ _ _
          have hgl : (S1.goes (os.take j)).2.length ≤ 1000 := by
            have := Dk.goes_len (os.take j) S1
            rw [List.length_take] at this
            omega
          obtain ⟨T, eT⟩ : ∃ T, (S1.goes (os.take j)).1 = T := ⟨_, rfl⟩
          obtain ⟨gs, egs⟩ : ∃ gs, (S1.goes (os.take j)).2 = gs := ⟨_, rfl⟩
          rw [eT] at hT okT hnext
          rw [egs] at hT hnext hgl
          clear eT egs hos' hlo
          obtain ⟨n, en⟩ : ∃ n : Nat, pm = n := ⟨pm.toNat, (Int.toNat_of_nonneg hpm.2.1).symm⟩
          subst en
          have hn : n < T.owner.length := by have := hpm.2.2; have := okT.2; omega
          -- the one's cells
          have hro : wr.ownsRow W.heap.size 40 2 (.slice (some ⟨gq, 0, none⟩) 1 1) os.length (Dk.pr2 os) := hT.row (by simp)
          have hgq' : gq < wr.heap.size := (hro.lt gq rfl).2
          have hcs := hro.cells (g := gq) rfl
          have pg := Dk.pr2_get os j hjo
          rw [ep] at pg
          have x0 : wr.cell? ⟨gq, j * 2, none⟩ = some (.int .i64 p1) := by
            have q := hcs _ _ pg.1
            rw [Addr.add_lit, Nat.zero_add] at q
            exact q
          have x1 : wr.cell? ⟨gq, j * 2 + 1, none⟩ = some (.int .i64 (n : Int)) := by
            have q := hcs _ _ pg.2
            rw [Addr.add_lit, Nat.zero_add] at q
            exact q
          obtain ⟨f0, f1, f2, f3, f4, f5⟩ := Mdl.fields hT
          have hhn : n < T.held.length := by rw [okT.1.held]; exact hn
          obtain ⟨g1, C1, e1, q1, m1, c1, z11, hset⟩ := Mdl.setHeld hT (n := n) hhn
          rw [e1, okT.1.held] at f1
          rw [okT.1.held] at q1
          unfold maxLen at m1
          have hni : (n : Int) < (T.owner.length : Int) := by omega
          have hoff : ∀ t ∈ Dk.mdl bm V' T, ∀ k, t.own k → ¬ (Dk.rowOf 40 2 (.slice (some ⟨gq, 0, none⟩) 1 1) os.length (Dk.pr2 os)).own k := fun t ht k hk => (List.pairwise_append.1 (Hid.out hT).apart).2.2 t ht _ (by simp) k hk
          cases hh : T.held.getD n false with
          | true =>
            rw [hh] at c1
            have hn1 : T.goes1 (p1, (n : Int)) = ({ T with wait := T.wait.set n (T.wait.getD n [] ++ [p1]) }, []) := by
              unfold Dk.St.goes1
              simp only [Int.toNat_natCast, hh, if_true]
            rw [hn1] at hnext
            have hwn : n < T.wait.length := by rw [okT.1.wait]; exact hn
            have hlw : (T.wait.getD n []).length ≤ 1000 := by
              have := okT.1.waitLen (Dk.getD_mem T.wait [] n hwn)
              rw [List.length_take] at this
              omega
            have hd := hT.below (Dk.up_drew (Below.refl _ _))
            obtain ⟨g2, C2, A, L, C', A', L', C'', w6, V6, e2, q2, m2, c2, r6, _, d6, z6, aw, hv6, h7⟩ := Mdl.addWait hd hwn p1 hlw
            rw [e2, okT.1.wait] at f2
            rw [okT.1.wait] at q2
            unfold maxLen at m2
            have hnb : bm < wr.drew.heap.size := lt_of_cell' (w := wr.drew) f2
            have hno : ¬ (Value.ownBlock (.slice A L C') = some bm) := fun e => (List.pairwise_cons.1 (Hid.out hT).apart).1 (Dk.nestOf 22 3 1 Dk.is V'.v2 V'.hv T.wait) (by simp) bm rfl (.inr ⟨_, List.mem_of_getElem? hv6, e⟩)
            have hnq : ¬ (Value.ownBlock (.slice A L C') = some gq) := fun e => hoff (Dk.nestOf 22 3 1 Dk.is V'.v2 V'.hv T.wait) (by simp [Dk.mdl]) gq (.inr ⟨_, List.mem_of_getElem? hv6, e⟩) rfl
            have HK : Hid (wr.drew.cell? ⟨bm, 2, none⟩ = some (.slice (some ⟨g2, 0, none⟩) T.owner.length C2) ∧ wr.drew.cell? ⟨g2, n, none⟩ = some (.slice A L C') ∧ wr.drew.cell? ⟨gq, j * 2, none⟩ = some (.int .i64 p1)) := ⟨f2, c2, x0⟩
            have HK6 : Hid (w6.cell? ⟨bm, 2, none⟩ = some (.slice (some ⟨g2, 0, none⟩) T.owner.length C2) ∧ w6.cell? ⟨g2, n, none⟩ = some (.slice A L C') ∧ w6.cell? ⟨gq, j * 2, none⟩ = some (.int .i64 p1)) := ⟨(Dk.Away.cell aw hnb hno 2).trans f2, d6, (Dk.Away.cell aw (show gq < wr.drew.heap.size from hgq') hnq _).trans x0⟩
            have HF6 : Hid (w6.frozen? ⟨g2, n, none⟩ = false) := z6
            have HR6 : Hid _ := r6
            have HNX : Hid (S1.goes (os.take (j + 1)) = ({ T with wait := T.wait.set n (T.wait.getD n [] ++ [p1]) }, gs ++ [])) := hnext
            obtain ⟨W7, e7⟩ : ∃ W7, W7 = w6.setCell ⟨g2, n, none⟩ (.slice A' L' C'') := ⟨_, rfl⟩
            rw [← e7] at h7
            have H7 : Hid (w6.setCell ⟨g2, n, none⟩ (.slice A' L' C'') = W7) := e7.symm
            have hfin : ∃ V', Dk.Sep W W7 (Dk.mdl bm V' (S1.goes (os.take (j + 1))).1 ++ (Dk.rowOf 3 1 u12 (S1.goes (os.take (j + 1))).2.length (Dk.is (S1.goes (os.take (j + 1))).2) :: Dk.rowOf 40 2 (.slice (some ⟨gq, 0, none⟩) 1 1) os.length (Dk.pr2 os) :: us)) := ⟨V6, by
              rw [HNX.out]
              simp only [List.append_nil]
              exact h7⟩
            obtain ⟨V8, h8⟩ := hfin
            clear hset hT hd h7 e7 HNX hnext hn1 okT aw d6 z6 r6 c2 hcs pg hro hoff e1 e2 hv6 hno hnq f0 f3 f4 f5 hpm
            generalize T.owner.length = M at *
            go_wp2_with fail
            refine Dk.wp_region_lineZ (z := 20) (S := fun w' => w'.cell? ⟨bm, 2, none⟩ = some (.slice (some ⟨g2, 0, none⟩) M C2) ∧ w'.cell? ⟨g2, n, none⟩ = some (.slice A L C') ∧ w'.cell? ⟨gq, j * 2, none⟩ = some (.int .i64 p1)) [0, 1, 2, 3, 4, 5, 6, 7, 8, 9, 10, 11, 12, 13, 14, 15, 16] [17, 18, 19, 20] (by kernel_rfl) (by kernel_rfl) (by kernel_rfl) HK.out ?_
            refine Dk.held_step (v := .pointer (some ⟨bm, 0, none⟩)) rfl rfl (fun w' hw' => by obtain ⟨q0, q1, q2⟩ := hw'; go_simp) ?_
            simp only [Act.put, List.setIfInBounds_toArray, List.set_cons_succ, List.set_cons_zero]
            refine Dk.held_step (v := .pointer (some ⟨bm, 0, none⟩)) rfl rfl (fun w' hw' => by obtain ⟨q0, q1, q2⟩ := hw'; go_simp) ?_
            simp only [Act.put, List.setIfInBounds_toArray, List.set_cons_succ, List.set_cons_zero]
            refine Dk.held_step (v := .pointer (some ⟨bm, 2, none⟩)) rfl rfl (fun w' hw' => by obtain ⟨q0, q1, q2⟩ := hw'; go_simp) ?_
            simp only [Act.put, List.setIfInBounds_toArray, List.set_cons_succ, List.set_cons_zero]
            refine Dk.held_step (v := .slice (some ⟨g2, 0, none⟩) M C2) rfl rfl (fun w' hw' => by obtain ⟨q0, q1, q2⟩ := hw'; go_simp) ?_
            simp only [Act.put, List.setIfInBounds_toArray, List.set_cons_succ, List.set_cons_zero]
            refine Dk.held_step (v := .int .i64 (n : Int)) rfl rfl (fun w' hw' => by obtain ⟨q0, q1, q2⟩ := hw'; go_simp) ?_
            simp only [Act.put, List.setIfInBounds_toArray, List.set_cons_succ, List.set_cons_zero]
            refine Dk.held_step (v := .pointer (some ⟨bm, 0, none⟩)) rfl rfl (fun w' hw' => by obtain ⟨q0, q1, q2⟩ := hw'; go_simp) ?_
            simp only [Act.put, List.setIfInBounds_toArray, List.set_cons_succ, List.set_cons_zero]
            refine Dk.held_step (v := .pointer (some ⟨bm, 0, none⟩)) rfl rfl (fun w' hw' => by obtain ⟨q0, q1, q2⟩ := hw'; go_simp) ?_
            simp only [Act.put, List.setIfInBounds_toArray, List.set_cons_succ, List.set_cons_zero]
            refine Dk.held_step (v := .pointer (some ⟨bm, 2, none⟩)) rfl rfl (fun w' hw' => by obtain ⟨q0, q1, q2⟩ := hw'; go_simp) ?_
            simp only [Act.put, List.setIfInBounds_toArray, List.set_cons_succ, List.set_cons_zero]
            refine Dk.held_step (v := .slice (some ⟨g2, 0, none⟩) M C2) rfl rfl (fun w' hw' => by obtain ⟨q0, q1, q2⟩ := hw'; go_simp) ?_
            simp only [Act.put, List.setIfInBounds_toArray, List.set_cons_succ, List.set_cons_zero]
            refine Dk.held_step (v := .int .i64 (n : Int)) rfl rfl (fun w' hw' => by obtain ⟨q0, q1, q2⟩ := hw'; go_simp) ?_
            simp only [Act.put, List.setIfInBounds_toArray, List.set_cons_succ, List.set_cons_zero]
            refine Dk.held_step (v := .pointer (some ⟨g2, n, none⟩)) rfl rfl (fun w' hw' => by obtain ⟨q0, q1, q2⟩ := hw'; go_simp) ?_
            simp only [Act.put, List.setIfInBounds_toArray, List.set_cons_succ, List.set_cons_zero]
            refine Dk.held_step (v := .slice A L C') rfl rfl (fun w' hw' => by obtain ⟨q0, q1, q2⟩ := hw'; go_simp) ?_
            simp only [Act.put, List.setIfInBounds_toArray, List.set_cons_succ, List.set_cons_zero]
            refine Dk.held_step (v := .slice (some ⟨gq, 0, none⟩) 1 1) rfl rfl (fun w' hw' => by obtain ⟨q0, q1, q2⟩ := hw'; go_simp) ?_
            simp only [Act.put, List.setIfInBounds_toArray, List.set_cons_succ, List.set_cons_zero]
            refine Dk.held_step (v := .int .i64 (j : Int)) rfl rfl (fun w' hw' => by obtain ⟨q0, q1, q2⟩ := hw'; go_simp) ?_
            simp only [Act.put, List.setIfInBounds_toArray, List.set_cons_succ, List.set_cons_zero]
            refine Dk.held_step (v := .pointer (some ⟨gq, j * 2, none⟩)) rfl rfl (fun w' hw' => by obtain ⟨q0, q1, q2⟩ := hw'; go_simp) ?_
            simp only [Act.put, List.setIfInBounds_toArray, List.set_cons_succ, List.set_cons_zero]
            refine Dk.held_step (v := .pointer (some ⟨gq, j * 2, none⟩)) rfl rfl (fun w' hw' => by obtain ⟨q0, q1, q2⟩ := hw'; go_simp) ?_
            simp only [Act.put, List.setIfInBounds_toArray, List.set_cons_succ, List.set_cons_zero]
            refine Dk.held_step (v := .int .i64 p1) rfl rfl (fun w' hw' => by obtain ⟨q0, q1, q2⟩ := hw'; go_simp) ?_
            simp only [Act.put, List.setIfInBounds_toArray, List.set_cons_succ, List.set_cons_zero]
            obtain ⟨W5, e5⟩ : ∃ W5, W5 = wr.drew.alloc (.cells #[.int .i64 p1] 3) := ⟨_, rfl⟩
            have S5 : W5.cell? ⟨bm, 2, none⟩ = some (.slice (some ⟨g2, 0, none⟩) M C2) ∧ W5.cell? ⟨g2, n, none⟩ = some (.slice A L C') ∧ W5.cell? ⟨gq, j * 2, none⟩ = some (.int .i64 p1) := by
              rw [e5]
              exact ⟨Lib.cell?_alloc_some _ HK.out.1, Lib.cell?_alloc_some _ HK.out.2.1, Lib.cell?_alloc_some _ HK.out.2.2⟩
            refine Dk.lineZ_step (v := .slice (some ⟨wr.drew.heap.size, 0, none⟩) 1 1) (w' := W5) rfl rfl (by rw [e5]; go_simp) (fun _ => S5) ?_
            simp only [Act.put, List.setIfInBounds_toArray, List.set_cons_succ, List.set_cons_zero]
            have r5 := HR6.out
            rw [← e5, show wr.drew.heap.size = wr.heap.size from rfl] at r5
            refine Dk.lineZ_step (v := .slice A' L' C'') (w' := w6) rfl rfl (by simp only [execOp, resolve, invoke, builtin]; simp [Act.eval, r5]) (fun _ => HK6.out) ?_
            simp only [Act.put, List.setIfInBounds_toArray, List.set_cons_succ, List.set_cons_zero]
            refine Dk.lineZ_step (v := .pointer (some ⟨g2, n, none⟩)) (w' := w6) rfl rfl (by go_simp) (fun _ => HK6.out) ?_
            simp only [Act.put, List.setIfInBounds_toArray, List.set_cons_succ, List.set_cons_zero]
            refine Dk.lineZ_skip (w' := W7) rfl rfl (by rw [← H7.out]; have q1 := HK6.out.2.1; have q2 := HF6.out; go_simp) (fun h => absurd rfl h) ?_
            simp only [Act.put, List.setIfInBounds_toArray, List.set_cons_succ, List.set_cons_zero]
            rename_i hK
            refine hK _ _ ?_
            clear hK HK HK6 HF6 HR6 H7 e5 S5 r5 x0 x1 c1 f1 f2
            go_wp2_with fail
            go_roundw
            case rel => exact ⟨j + 1, V8, by omega, by go_num, h8⟩
            case measure => simp [intOf]; omega
          | false =>
            rw [hh] at c1
            have hn1 : T.goes1 (p1, (n : Int)) = ({ T with held := T.held.set n true, owner := T.owner.set n p1 }, [p1]) := by
              unfold Dk.St.goes1
              simp only [Int.toNat_natCast, hh]
              rfl
            rw [hn1] at hnext
            -- held
            have h3 := hset true
            obtain ⟨W3, e3⟩ : ∃ W3, W3 = wr.setCell ⟨g1, n, none⟩ (.bool true) := ⟨_, rfl⟩
            rw [← e3] at h3
            have hd := h3.below (Dk.up_drew (Below.refl _ _))
            obtain ⟨p0, _⟩ := Mdl.fields hd
            obtain ⟨g0, C0, e0, q0, m0, c0, z0, hset0⟩ := Mdl.setOwner hd (n := n) hn
            rw [e0] at p0
            unfold maxLen at m0
            have h4 := hset0 p1
            obtain ⟨W4, e4⟩ : ∃ W4, W4 = W3.drew.setCell ⟨g0, n, none⟩ (.int .i64 p1) := ⟨_, rfl⟩
            rw [← e4] at h4
            obtain ⟨p0', _⟩ := Mdl.fields h4
            rw [e0] at p0'
            have x3 : ∀ (V' : Dk.Vs) (T : Dk.St) (w : World) (v : Value), Dk.Sep W w (Dk.mdl bm V' T ++ (Dk.rowOf 3 1 v gs.length (Dk.is gs) :: Dk.rowOf 40 2 (.slice (some ⟨gq, 0, none⟩) 1 1) os.length (Dk.pr2 os) :: us)) → w.cell? ⟨gq, j * 2, none⟩ = some (.int .i64 p1) := fun V' T w v h => by
              have hr : w.ownsRow W.heap.size 40 2 (.slice (some ⟨gq, 0, none⟩) 1 1) os.length (Dk.pr2 os) := h.row (by simp)
              have q := hr.cells (g := gq) rfl _ _ pg.1
              rw [Addr.add_lit, Nat.zero_add] at q
              exact q
            have y3 := x3 _ _ _ _ hd
            have y4 := x3 _ _ _ _ h4
            obtain ⟨v9, w9, r9, h9, _⟩ := Dk.Sep.append (us1 := Dk.mdl bm V' { T with held := T.held.set n true, owner := T.owner.set n p1 }) (us2 := Dk.rowOf 40 2 (.slice (some ⟨gq, 0, none⟩) 1 1) os.length (Dk.pr2 os) :: us) (x := .int .i64 p1) K22 h4 rfl (by omega)
            have hfin : Dk.Sep W w9 (Dk.mdl bm V' (S1.goes (os.take (j + 1))).1 ++ (Dk.rowOf 3 1 v9 (S1.goes (os.take (j + 1))).2.length (Dk.is (S1.goes (os.take (j + 1))).2) :: Dk.rowOf 40 2 (.slice (some ⟨gq, 0, none⟩) 1 1) os.length (Dk.pr2 os) :: us)) := by
              rw [hnext]
              simp only [List.length_append, Dk.is, List.map_append]
              exact h9
            obtain ⟨Av, Cv, ev12, _, _⟩ := Dk.owns_slice (hT.row (e := 3) (s := 1) (v := u12) (n := gs.length) (xs := Dk.is gs) (by simp))
            subst ev12
            have H3 : Hid (wr.setCell ⟨g1, n, none⟩ (.bool true) = W3) := e3.symm
            have H4 : Hid (W3.drew.setCell ⟨g0, n, none⟩ (.int .i64 p1) = W4) := e4.symm
            have HK3 : Hid (W3.drew.cell? ⟨bm, 0, none⟩ = some (.slice (some ⟨g0, 0, none⟩) T.owner.length C0) ∧ W3.drew.cell? ⟨gq, j * 2, none⟩ = some (.int .i64 p1)) := ⟨p0, y3⟩
            have HK4 : Hid (W4.cell? ⟨bm, 0, none⟩ = some (.slice (some ⟨g0, 0, none⟩) T.owner.length C0) ∧ W4.cell? ⟨gq, j * 2, none⟩ = some (.int .i64 p1)) := ⟨p0', y4⟩
            clear hset hset0 hT hd h3 h4 h9 x3 e3 e4 hnext hn1 okT hcs pg hro hoff e1 e0 f0 f2 f3 f4 f5 hpm p0 p0' y3
            generalize T.owner.length = M at *
            go_wp2_with (rw [H3.out]; clear H3)
            refine Dk.wp_region_line (S := fun w' => w'.cell? ⟨bm, 0, none⟩ = some (.slice (some ⟨g0, 0, none⟩) M C0) ∧ w'.cell? ⟨gq, j * 2, none⟩ = some (.int .i64 p1)) [0, 1, 2, 3, 4, 5, 6, 7, 8, 9, 10] [11] (by kernel_rfl) (by kernel_rfl) HK3.out ?_
            refine Dk.held_step (v := .pointer (some ⟨bm, 0, none⟩)) rfl rfl (fun w' hw' => by obtain ⟨q0, q1⟩ := hw'; go_simp) ?_
            simp only [Act.put, List.setIfInBounds_toArray, List.set_cons_succ, List.set_cons_zero]
            refine Dk.held_step (v := .pointer (some ⟨bm, 0, none⟩)) rfl rfl (fun w' hw' => by obtain ⟨q0, q1⟩ := hw'; go_simp) ?_
            simp only [Act.put, List.setIfInBounds_toArray, List.set_cons_succ, List.set_cons_zero]
            refine Dk.held_step (v := .pointer (some ⟨bm, 0, none⟩)) rfl rfl (fun w' hw' => by obtain ⟨q0, q1⟩ := hw'; go_simp) ?_
            simp only [Act.put, List.setIfInBounds_toArray, List.set_cons_succ, List.set_cons_zero]
            refine Dk.held_step (v := .slice (some ⟨g0, 0, none⟩) M C0) rfl rfl (fun w' hw' => by obtain ⟨q0, q1⟩ := hw'; go_simp) ?_
            simp only [Act.put, List.setIfInBounds_toArray, List.set_cons_succ, List.set_cons_zero]
            refine Dk.held_step (v := .int .i64 (n : Int)) rfl rfl (fun w' hw' => by obtain ⟨q0, q1⟩ := hw'; go_simp) ?_
            simp only [Act.put, List.setIfInBounds_toArray, List.set_cons_succ, List.set_cons_zero]
            refine Dk.held_step (v := .slice (some ⟨gq, 0, none⟩) 1 1) rfl rfl (fun w' hw' => by obtain ⟨q0, q1⟩ := hw'; go_simp) ?_
            simp only [Act.put, List.setIfInBounds_toArray, List.set_cons_succ, List.set_cons_zero]
            refine Dk.held_step (v := .int .i64 (j : Int)) rfl rfl (fun w' hw' => by obtain ⟨q0, q1⟩ := hw'; go_simp) ?_
            simp only [Act.put, List.setIfInBounds_toArray, List.set_cons_succ, List.set_cons_zero]
            refine Dk.held_step (v := .pointer (some ⟨gq, j * 2, none⟩)) rfl rfl (fun w' hw' => by obtain ⟨q0, q1⟩ := hw'; go_simp) ?_
            simp only [Act.put, List.setIfInBounds_toArray, List.set_cons_succ, List.set_cons_zero]
            refine Dk.held_step (v := .pointer (some ⟨gq, j * 2, none⟩)) rfl rfl (fun w' hw' => by obtain ⟨q0, q1⟩ := hw'; go_simp) ?_
            simp only [Act.put, List.setIfInBounds_toArray, List.set_cons_succ, List.set_cons_zero]
            refine Dk.held_step (v := .int .i64 p1) rfl rfl (fun w' hw' => by obtain ⟨q0, q1⟩ := hw'; go_simp) ?_
            simp only [Act.put, List.setIfInBounds_toArray, List.set_cons_succ, List.set_cons_zero]
            refine Dk.held_step (v := .pointer (some ⟨g0, n, none⟩)) rfl rfl (fun w' hw' => by obtain ⟨q0, q1⟩ := hw'; go_simp) ?_
            simp only [Act.put, List.setIfInBounds_toArray, List.set_cons_succ, List.set_cons_zero]
            refine Dk.line_step rfl rfl ?_
            refine wp_skip (w' := W4) (by rw [← H4.out]; go_simp) ⟨HK4.out, ?_⟩
            simp only [Act.put, List.setIfInBounds_toArray, List.set_cons_succ, List.set_cons_zero]
            rename_i hK
            refine hK _ _ ?_
            clear hK HK3 HK4 H4 x0 x1 c1 f1 c0 z0
            go_wp2_with (at_builtin; refine Lib.wpList_append_run _ rfl _ _ _ _ rfl _ _ rfl rfl _ _ r9 ?_)
            go_roundw
            case rel => exact ⟨j + 1, V', by omega, by go_num, hfin⟩
            case measure => simp [intOf]; omega
        · have z1 : decide ((j : Int) < (1 : Int)) = false := decide_eq_false (by omega)
          have hlo := hlo'.out
          rw [List.take_of_length_le (by omega)] at hT
          clear hlo
          obtain ⟨Av, Cv, ev12, _, _⟩ := Dk.owns_slice (hT.row (e := 3) (s := 1) (v := u12) (n := (S1.goes os).2.length) (xs := Dk.is (S1.goes os).2) (by simp))
          subst ev12
          clear HO1 HS1
          go_wp2_with fail
          go_ret
          exact ⟨_, _, rfl, V', Dk.Sep.perm (hT.sub (us := Dk.mdl bm V' (S1.goes os).1 ++ (Dk.rowOf 3 1 (.slice Av (S1.goes os).2.length Cv) (S1.goes os).2.length (Dk.is (S1.goes os).2) :: us)) ((List.Sublist.refl _).append ((List.sublist_cons_self _ _).cons_cons _))) List.perm_middle⟩
end
end Go.Proofs.Ytjkdaankjondjaa
