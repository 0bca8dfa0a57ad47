/- What is written of the document's answer, a field at a time. -/
import Derived.Test.YtjkdaankjondjaaGm
namespace Go.Proofs.Ytjkdaankjondjaa
set_option linter.unusedSimpArgs false
set_option linter.unusedVariables false
set_option linter.unnecessarySimpa false
open Go.RowKit
theorem info4 : (Try.prog.info? 4).map (fun i => (i.zero, i.size, i.bytes)) = some (some (.bool false), 1, 1) := by kernel_rfl
theorem info22 : (Try.prog.info? 22).map (fun i => (i.zero, i.size, i.bytes)) = some (some (.slice none 0 0), 1, 24) := by kernel_rfl
theorem info38 : (Try.prog.info? 38).map (fun i => (i.zero, i.size, i.bytes)) = some (some (.slice none 0 0), 1, 24) := by kernel_rfl
theorem info40 : (Try.prog.info? 40).map (fun i => (i.zero, i.size, i.bytes)) = some (some (.agg #[.int .i64 0, .int .i64 0]), 2, 16) := by kernel_rfl
theorem K22 : Dk.SlK Try.prog 22 3 (.int .i64 0) 1 8 := ⟨Try.underlying22, info3, rfl, by decide, by decide⟩
theorem K33 : Dk.SlK Try.prog 33 4 (.bool false) 1 1 := ⟨Try.underlying33, info4, rfl, by decide, by decide⟩
theorem K34 : Dk.SlK Try.prog 34 22 (.slice none 0 0) 1 24 := ⟨Try.underlying34, info22, rfl, by decide, by decide⟩
theorem K35 : Dk.SlK Try.prog 35 38 (.slice none 0 0) 1 24 := ⟨Try.underlying35, info38, rfl, by decide, by decide⟩
theorem K38 : Dk.SlK Try.prog 38 40 (.agg #[.int .i64 0, .int .i64 0]) 2 16 := ⟨Try.underlying38, info40, rfl, by decide, by decide⟩
theorem lt_of_cell' {w : World} {b o : Nat} {v : Value} (h : w.cell? ⟨b, o, none⟩ = some v) : b < w.heap.size := Dk.lt_of_cell h
section
variable {W w w' : World} {bm : Nat} {V : Dk.Vs} {S : Dk.St} {us : List Dk.Thing}
theorem Mdl.setOwner (h : Dk.Sep W w (Dk.mdl bm V S ++ us)) {n : Nat} (hn : n < S.owner.length) : ∃ g C, V.v0 = .slice (some ⟨g, 0, none⟩) S.owner.length C ∧ S.owner.length ≤ C ∧ C ≤ maxLen ∧ w.cell? ⟨g, n, none⟩ = some (Value.int .i64 (S.owner.getD n 0)) ∧ w.frozen? ⟨g, n, none⟩ = false ∧ ∀ y, Dk.Sep W (w.setCell ⟨g, n, none⟩ (Value.int .i64 y)) (Dk.mdl bm V { S with owner := S.owner.set n y } ++ us) := by
  obtain ⟨g, C, x, ev, h1, h2, hx, hc, hf, hs⟩ := Dk.Sep.cell (us1 := [Dk.boxOf bm #[V.v0, V.v1, V.v2, V.v3, V.v4, V.v5] 37]) (us2 := [Dk.rowOf 4 1 V.v1 S.held.length (Dk.bv S.held), Dk.nestOf 22 3 1 Dk.is V.v2 V.hv S.wait, Dk.nestOf 38 40 2 Dk.pr2 V.v3 V.cv S.conds, Dk.rowOf 3 1 V.v4 S.count.length (Dk.is S.count), Dk.nestOf 22 3 1 Dk.is V.v5 V.dv S.downs] ++ us) (e := 3) (v := V.v0) (xs := Dk.is S.owner) h hn
  have ex : x = Value.int .i64 (S.owner.getD n 0) := by
    have : (Dk.is S.owner)[n]? = some (Value.int .i64 (S.owner.getD n 0)) := by simp [List.getD, hn]
    rw [this] at hx
    exact (Option.some.inj hx).symm
  subst ex
  refine ⟨g, C, ev, h1, h2, hc, hf, fun y => ?_⟩
  have q := hs (Value.int .i64 y)
  rw [← List.map_set] at q
  have el : (S.owner.set n y).length = S.owner.length := List.length_set
  unfold Dk.mdl
  simp only [el]
  exact q
theorem Mdl.setHeld (h : Dk.Sep W w (Dk.mdl bm V S ++ us)) {n : Nat} (hn : n < S.held.length) : ∃ g C, V.v1 = .slice (some ⟨g, 0, none⟩) S.held.length C ∧ S.held.length ≤ C ∧ C ≤ maxLen ∧ w.cell? ⟨g, n, none⟩ = some (Value.bool (S.held.getD n false)) ∧ w.frozen? ⟨g, n, none⟩ = false ∧ ∀ y, Dk.Sep W (w.setCell ⟨g, n, none⟩ (Value.bool y)) (Dk.mdl bm V { S with held := S.held.set n y } ++ us) := by
  obtain ⟨g, C, x, ev, h1, h2, hx, hc, hf, hs⟩ := Dk.Sep.cell (us1 := [Dk.boxOf bm #[V.v0, V.v1, V.v2, V.v3, V.v4, V.v5] 37, Dk.rowOf 3 1 V.v0 S.owner.length (Dk.is S.owner)]) (us2 := [Dk.nestOf 22 3 1 Dk.is V.v2 V.hv S.wait, Dk.nestOf 38 40 2 Dk.pr2 V.v3 V.cv S.conds, Dk.rowOf 3 1 V.v4 S.count.length (Dk.is S.count), Dk.nestOf 22 3 1 Dk.is V.v5 V.dv S.downs] ++ us) (e := 4) (v := V.v1) (xs := Dk.bv S.held) h hn
  have ex : x = Value.bool (S.held.getD n false) := by
    have : (Dk.bv S.held)[n]? = some (Value.bool (S.held.getD n false)) := by simp [List.getD, hn]
    rw [this] at hx
    exact (Option.some.inj hx).symm
  subst ex
  refine ⟨g, C, ev, h1, h2, hc, hf, fun y => ?_⟩
  have q := hs (Value.bool y)
  rw [← List.map_set] at q
  have el : (S.held.set n y).length = S.held.length := List.length_set
  unfold Dk.mdl
  simp only [el]
  exact q
theorem Mdl.setCount (h : Dk.Sep W w (Dk.mdl bm V S ++ us)) {n : Nat} (hn : n < S.count.length) : ∃ g C, V.v4 = .slice (some ⟨g, 0, none⟩) S.count.length C ∧ S.count.length ≤ C ∧ C ≤ maxLen ∧ w.cell? ⟨g, n, none⟩ = some (Value.int .i64 (S.count.getD n 0)) ∧ w.frozen? ⟨g, n, none⟩ = false ∧ ∀ y, Dk.Sep W (w.setCell ⟨g, n, none⟩ (Value.int .i64 y)) (Dk.mdl bm V { S with count := S.count.set n y } ++ us) := by
  obtain ⟨g, C, x, ev, h1, h2, hx, hc, hf, hs⟩ := Dk.Sep.cell (us1 := [Dk.boxOf bm #[V.v0, V.v1, V.v2, V.v3, V.v4, V.v5] 37, Dk.rowOf 3 1 V.v0 S.owner.length (Dk.is S.owner), Dk.rowOf 4 1 V.v1 S.held.length (Dk.bv S.held), Dk.nestOf 22 3 1 Dk.is V.v2 V.hv S.wait, Dk.nestOf 38 40 2 Dk.pr2 V.v3 V.cv S.conds]) (us2 := [Dk.nestOf 22 3 1 Dk.is V.v5 V.dv S.downs] ++ us) (e := 3) (v := V.v4) (xs := Dk.is S.count) h hn
  have ex : x = Value.int .i64 (S.count.getD n 0) := by
    have : (Dk.is S.count)[n]? = some (Value.int .i64 (S.count.getD n 0)) := by simp [List.getD, hn]
    rw [this] at hx
    exact (Option.some.inj hx).symm
  subst ex
  refine ⟨g, C, ev, h1, h2, hc, hf, fun y => ?_⟩
  have q := hs (Value.int .i64 y)
  rw [← List.map_set] at q
  have el : (S.count.set n y).length = S.count.length := List.length_set
  unfold Dk.mdl
  simp only [el]
  exact q
theorem Mdl.putWait (h : Dk.Sep W w (Dk.mdl bm V S ++ us)) {n : Nat} (hn : n < S.wait.length) : ∃ g C A L C', V.v2 = .slice (some ⟨g, 0, none⟩) S.wait.length C ∧ S.wait.length ≤ C ∧ C ≤ maxLen ∧ L = (S.wait.getD n []).length ∧ V.hv[n]? = some (.slice A L C') ∧ w.cell? ⟨g, n, none⟩ = some (.slice A L C') ∧ w.frozen? ⟨g, n, none⟩ = false ∧ w.ownsRow W.heap.size 3 1 (.slice A L C') (S.wait.getD n []).length (Dk.is (S.wait.getD n [])) ∧
    ∀ w' u' (ys : List Int), Dk.Away (fun k => Value.ownBlock (.slice A L C') = some k) w w' → w'.ownsRow 0 3 1 u' ys.length (Dk.is ys) → Dk.From w (.slice A L C') u' →
      w'.cell? ⟨g, n, none⟩ = some (.slice A L C') ∧ w'.frozen? ⟨g, n, none⟩ = false ∧ Dk.Sep W (w'.setCell ⟨g, n, none⟩ u') (Dk.mdl bm { V with hv := V.hv.set n u' } { S with wait := S.wait.set n ys } ++ us) := by
  obtain ⟨g, C, u, xs, ev, h1, h2, hu, hx, hc, hf, ho, _⟩ := h.inner (eh := 22) (e := 3) (s := 1) (f := Dk.is) (v := V.v2) (vs := V.hv) (xss := S.wait) (by simp [Dk.mdl]) hn
  have ex : S.wait.getD n [] = xs := by simp [List.getD, hx]
  obtain ⟨A, C', eu, _, _⟩ := Dk.owns_slice ho
  subst eu
  rw [ex]
  refine ⟨g, C, A, xs.length, C', ev, h1, h2, rfl, hu, hc, hf, ho, fun w' u' ys a ho' hf' => ?_⟩
  exact Dk.Sep.nestPut (us1 := [Dk.boxOf bm #[V.v0, V.v1, V.v2, V.v3, V.v4, V.v5] 37, Dk.rowOf 3 1 V.v0 S.owner.length (Dk.is S.owner), Dk.rowOf 4 1 V.v1 S.held.length (Dk.bv S.held)]) (us2 := [Dk.nestOf 38 40 2 Dk.pr2 V.v3 V.cv S.conds, Dk.rowOf 3 1 V.v4 S.count.length (Dk.is S.count), Dk.nestOf 22 3 1 Dk.is V.v5 V.dv S.downs] ++ us) h hn ev hu a ho' hf'
theorem Mdl.putConds (h : Dk.Sep W w (Dk.mdl bm V S ++ us)) {n : Nat} (hn : n < S.conds.length) : ∃ g C A L C', V.v3 = .slice (some ⟨g, 0, none⟩) S.conds.length C ∧ S.conds.length ≤ C ∧ C ≤ maxLen ∧ L = (S.conds.getD n []).length ∧ V.cv[n]? = some (.slice A L C') ∧ w.cell? ⟨g, n, none⟩ = some (.slice A L C') ∧ w.frozen? ⟨g, n, none⟩ = false ∧ w.ownsRow W.heap.size 40 2 (.slice A L C') (S.conds.getD n []).length (Dk.pr2 (S.conds.getD n [])) ∧
    ∀ w' u' (ys : List (Int × Int)), Dk.Away (fun k => Value.ownBlock (.slice A L C') = some k) w w' → w'.ownsRow 0 40 2 u' ys.length (Dk.pr2 ys) → Dk.From w (.slice A L C') u' →
      w'.cell? ⟨g, n, none⟩ = some (.slice A L C') ∧ w'.frozen? ⟨g, n, none⟩ = false ∧ Dk.Sep W (w'.setCell ⟨g, n, none⟩ u') (Dk.mdl bm { V with cv := V.cv.set n u' } { S with conds := S.conds.set n ys } ++ us) := by
  obtain ⟨g, C, u, xs, ev, h1, h2, hu, hx, hc, hf, ho, _⟩ := h.inner (eh := 38) (e := 40) (s := 2) (f := Dk.pr2) (v := V.v3) (vs := V.cv) (xss := S.conds) (by simp [Dk.mdl]) hn
  have ex : S.conds.getD n [] = xs := by simp [List.getD, hx]
  obtain ⟨A, C', eu, _, _⟩ := Dk.owns_slice ho
  subst eu
  rw [ex]
  refine ⟨g, C, A, xs.length, C', ev, h1, h2, rfl, hu, hc, hf, ho, fun w' u' ys a ho' hf' => ?_⟩
  exact Dk.Sep.nestPut (us1 := [Dk.boxOf bm #[V.v0, V.v1, V.v2, V.v3, V.v4, V.v5] 37, Dk.rowOf 3 1 V.v0 S.owner.length (Dk.is S.owner), Dk.rowOf 4 1 V.v1 S.held.length (Dk.bv S.held), Dk.nestOf 22 3 1 Dk.is V.v2 V.hv S.wait]) (us2 := [Dk.rowOf 3 1 V.v4 S.count.length (Dk.is S.count), Dk.nestOf 22 3 1 Dk.is V.v5 V.dv S.downs] ++ us) h hn ev hu a ho' hf'
theorem Mdl.putDowns (h : Dk.Sep W w (Dk.mdl bm V S ++ us)) {n : Nat} (hn : n < S.downs.length) : ∃ g C A L C', V.v5 = .slice (some ⟨g, 0, none⟩) S.downs.length C ∧ S.downs.length ≤ C ∧ C ≤ maxLen ∧ L = (S.downs.getD n []).length ∧ V.dv[n]? = some (.slice A L C') ∧ w.cell? ⟨g, n, none⟩ = some (.slice A L C') ∧ w.frozen? ⟨g, n, none⟩ = false ∧ w.ownsRow W.heap.size 3 1 (.slice A L C') (S.downs.getD n []).length (Dk.is (S.downs.getD n [])) ∧
    ∀ w' u' (ys : List Int), Dk.Away (fun k => Value.ownBlock (.slice A L C') = some k) w w' → w'.ownsRow 0 3 1 u' ys.length (Dk.is ys) → Dk.From w (.slice A L C') u' →
      w'.cell? ⟨g, n, none⟩ = some (.slice A L C') ∧ w'.frozen? ⟨g, n, none⟩ = false ∧ Dk.Sep W (w'.setCell ⟨g, n, none⟩ u') (Dk.mdl bm { V with dv := V.dv.set n u' } { S with downs := S.downs.set n ys } ++ us) := by
  obtain ⟨g, C, u, xs, ev, h1, h2, hu, hx, hc, hf, ho, _⟩ := h.inner (eh := 22) (e := 3) (s := 1) (f := Dk.is) (v := V.v5) (vs := V.dv) (xss := S.downs) (by simp [Dk.mdl]) hn
  have ex : S.downs.getD n [] = xs := by simp [List.getD, hx]
  obtain ⟨A, C', eu, _, _⟩ := Dk.owns_slice ho
  subst eu
  rw [ex]
  refine ⟨g, C, A, xs.length, C', ev, h1, h2, rfl, hu, hc, hf, ho, fun w' u' ys a ho' hf' => ?_⟩
  exact Dk.Sep.nestPut (us1 := [Dk.boxOf bm #[V.v0, V.v1, V.v2, V.v3, V.v4, V.v5] 37, Dk.rowOf 3 1 V.v0 S.owner.length (Dk.is S.owner), Dk.rowOf 4 1 V.v1 S.held.length (Dk.bv S.held), Dk.nestOf 22 3 1 Dk.is V.v2 V.hv S.wait, Dk.nestOf 38 40 2 Dk.pr2 V.v3 V.cv S.conds, Dk.rowOf 3 1 V.v4 S.count.length (Dk.is S.count)]) (us2 := us) h hn ev hu a ho' hf'
theorem Mdl.addWait (h : Dk.Sep W w (Dk.mdl bm V S ++ us)) {n : Nat} (hn : n < S.wait.length) (x : Int) (hl : (S.wait.getD n []).length ≤ 1000) : ∃ g C A L C' A' L' C'' w' V', V.v2 = .slice (some ⟨g, 0, none⟩) S.wait.length C ∧ S.wait.length ≤ C ∧ C ≤ maxLen ∧ w.cell? ⟨g, n, none⟩ = some (.slice A L C') ∧
    (Builtin.append_ #[22, 22] 22 #[.slice A L C', .slice (some ⟨w.heap.size, 0, none⟩) 1 1]).run Try.prog (w.alloc (.cells #[.int .i64 x] 3)) = .ok (.slice A' L' C'') w' ∧ Below W.heap.size W w' ∧ w'.cell? ⟨g, n, none⟩ = some (.slice A L C') ∧ w'.frozen? ⟨g, n, none⟩ = false ∧ Dk.Away (fun k => Value.ownBlock (.slice A L C') = some k) w w' ∧ V.hv[n]? = some (.slice A L C') ∧
    Dk.Sep W (w'.setCell ⟨g, n, none⟩ (.slice A' L' C'')) (Dk.mdl bm V' { S with wait := S.wait.set n (S.wait.getD n [] ++ [x]) } ++ us) := by
  obtain ⟨W1, e1⟩ : ∃ W1, W1 = w.alloc (.cells #[.int .i64 x] 3) := ⟨_, rfl⟩
  have u1 : Below w.heap.size w W1 := by rw [e1]; exact Dk.up_alloc (Below.refl _ _) _
  have b1 : Dk.Box W1 w.heap.size #[.int .i64 x] 3 := by rw [e1]; exact Dk.Box.new _ _ _
  obtain ⟨g, C, A, L, C', ev, h1, h2, hL, hvn, hc, hf, _, _⟩ := Mdl.putWait h hn
  have hW := h.below u1
  obtain ⟨g', D, A', L', C'', ev', _, _, hL', _, hc', hf', ho', put⟩ := Mdl.putWait hW hn
  have eg : g = g' := by
    rw [ev] at ev'
    simp at ev'
    exact ev'.1
  subst eg
  have hgl : g < w.heap.size := lt_of_cell' hc
  have ec : Value.slice A L C' = .slice A' L' C'' := by
    have := u1.cell (p := ⟨g, n, none⟩) hgl
    rw [hc, hc'] at this
    exact (Option.some.inj this).symm
  rw [← ec] at put ho' hc'
  obtain ⟨v', w', hr, ho, hg, hfr, _⟩ := K22.append W.heap.size 22 (.slice A L C') _ _ W1 ho' ⟨w.heap.size, 0, none⟩ 1 1 [.int .i64 x] rfl (fun j u hj => by
    rw [Addr.add_lit, Nat.zero_add, b1.cell]
    simpa using hj) (fun u hu => by simp at hu; rw [hu]; rfl) (by omega) hW.out.size
  have hoy : w'.ownsRow 0 3 1 v' (S.wait.getD n [] ++ [x]).length (Dk.is (S.wait.getD n [] ++ [x])) := by
    rw [List.length_append, Dk.is, List.map_append]
    exact Dk.owns_base ho (Nat.zero_le _)
  have aw : Dk.Away (fun k => Value.ownBlock (.slice A L C') = some k) W1 w' := Dk.Away.of_grown hg (fun k hk => .inl hk)
  obtain ⟨p1, p2, p3⟩ := put w' v' _ aw hoy hfr
  obtain ⟨Ax, Cx, ex, _, _⟩ := Dk.owns_slice ho
  subst ex
  rw [← e1]
  refine ⟨g, C, A, L, C', Ax, _, Cx, w', _, ev, h1, h2, hc, hr, ?_, p1, p2, ?_, hvn, p3⟩
  · exact aw.below hW.out (fun k hk => (ho'.lt k hk).1)
  · exact (Dk.Away.of_up u1).trans aw (fun k hk => .inl hk)
theorem Mdl.addDowns (h : Dk.Sep W w (Dk.mdl bm V S ++ us)) {n : Nat} (hn : n < S.downs.length) (x : Int) (hl : (S.downs.getD n []).length ≤ 1000) : ∃ g C A L C' A' L' C'' w' V', V.v5 = .slice (some ⟨g, 0, none⟩) S.downs.length C ∧ S.downs.length ≤ C ∧ C ≤ maxLen ∧ w.cell? ⟨g, n, none⟩ = some (.slice A L C') ∧
    (Builtin.append_ #[22, 22] 22 #[.slice A L C', .slice (some ⟨w.heap.size, 0, none⟩) 1 1]).run Try.prog (w.alloc (.cells #[.int .i64 x] 3)) = .ok (.slice A' L' C'') w' ∧ Below W.heap.size W w' ∧ w'.cell? ⟨g, n, none⟩ = some (.slice A L C') ∧ w'.frozen? ⟨g, n, none⟩ = false ∧ Dk.Away (fun k => Value.ownBlock (.slice A L C') = some k) w w' ∧ V.dv[n]? = some (.slice A L C') ∧
    Dk.Sep W (w'.setCell ⟨g, n, none⟩ (.slice A' L' C'')) (Dk.mdl bm V' { S with downs := S.downs.set n (S.downs.getD n [] ++ [x]) } ++ us) := by
  obtain ⟨W1, e1⟩ : ∃ W1, W1 = w.alloc (.cells #[.int .i64 x] 3) := ⟨_, rfl⟩
  have u1 : Below w.heap.size w W1 := by rw [e1]; exact Dk.up_alloc (Below.refl _ _) _
  have b1 : Dk.Box W1 w.heap.size #[.int .i64 x] 3 := by rw [e1]; exact Dk.Box.new _ _ _
  obtain ⟨g, C, A, L, C', ev, h1, h2, hL, hvn, hc, hf, _, _⟩ := Mdl.putDowns h hn
  have hW := h.below u1
  obtain ⟨g', D, A', L', C'', ev', _, _, hL', _, hc', hf', ho', put⟩ := Mdl.putDowns hW hn
  have eg : g = g' := by
    rw [ev] at ev'
    simp at ev'
    exact ev'.1
  subst eg
  have hgl : g < w.heap.size := lt_of_cell' hc
  have ec : Value.slice A L C' = .slice A' L' C'' := by
    have := u1.cell (p := ⟨g, n, none⟩) hgl
    rw [hc, hc'] at this
    exact (Option.some.inj this).symm
  rw [← ec] at put ho' hc'
  obtain ⟨v', w', hr, ho, hg, hfr, _⟩ := K22.append W.heap.size 22 (.slice A L C') _ _ W1 ho' ⟨w.heap.size, 0, none⟩ 1 1 [.int .i64 x] rfl (fun j u hj => by
    rw [Addr.add_lit, Nat.zero_add, b1.cell]
    simpa using hj) (fun u hu => by simp at hu; rw [hu]; rfl) (by omega) hW.out.size
  have hoy : w'.ownsRow 0 3 1 v' (S.downs.getD n [] ++ [x]).length (Dk.is (S.downs.getD n [] ++ [x])) := by
    rw [List.length_append, Dk.is, List.map_append]
    exact Dk.owns_base ho (Nat.zero_le _)
  have aw : Dk.Away (fun k => Value.ownBlock (.slice A L C') = some k) W1 w' := Dk.Away.of_grown hg (fun k hk => .inl hk)
  obtain ⟨p1, p2, p3⟩ := put w' v' _ aw hoy hfr
  obtain ⟨Ax, Cx, ex, _, _⟩ := Dk.owns_slice ho
  subst ex
  rw [← e1]
  refine ⟨g, C, A, L, C', Ax, _, Cx, w', _, ev, h1, h2, hc, hr, ?_, p1, p2, ?_, hvn, p3⟩
  · exact aw.below hW.out (fun k hk => (ho'.lt k hk).1)
  · exact (Dk.Away.of_up u1).trans aw (fun k hk => .inl hk)
theorem Mdl.addConds (h : Dk.Sep W w (Dk.mdl bm V S ++ us)) {n : Nat} (hn : n < S.conds.length) (x z : Int) (hl : (S.conds.getD n []).length ≤ 1000) : ∃ g C A L C' A' L' C'' w' V', V.v3 = .slice (some ⟨g, 0, none⟩) S.conds.length C ∧ S.conds.length ≤ C ∧ C ≤ maxLen ∧ w.cell? ⟨g, n, none⟩ = some (.slice A L C') ∧
    (Builtin.append_ #[38, 38] 38 #[.slice A L C', .slice (some ⟨w.heap.size, 0, none⟩) 1 1]).run Try.prog (w.alloc (.cells #[.int .i64 x, .int .i64 z] 40)) = .ok (.slice A' L' C'') w' ∧ Below W.heap.size W w' ∧ w'.cell? ⟨g, n, none⟩ = some (.slice A L C') ∧ w'.frozen? ⟨g, n, none⟩ = false ∧ Dk.Away (fun k => Value.ownBlock (.slice A L C') = some k) w w' ∧ V.cv[n]? = some (.slice A L C') ∧
    Dk.Sep W (w'.setCell ⟨g, n, none⟩ (.slice A' L' C'')) (Dk.mdl bm V' { S with conds := S.conds.set n (S.conds.getD n [] ++ [(x, z)]) } ++ us) := by
  obtain ⟨W1, e1⟩ : ∃ W1, W1 = w.alloc (.cells #[.int .i64 x, .int .i64 z] 40) := ⟨_, rfl⟩
  have u1 : Below w.heap.size w W1 := by rw [e1]; exact Dk.up_alloc (Below.refl _ _) _
  have b1 : Dk.Box W1 w.heap.size #[.int .i64 x, .int .i64 z] 40 := by rw [e1]; exact Dk.Box.new _ _ _
  obtain ⟨g, C, A, L, C', ev, h1, h2, hL, hvn, hc, hf, _, _⟩ := Mdl.putConds h hn
  have hW := h.below u1
  obtain ⟨g', D, A', L', C'', ev', _, _, hL', _, hc', hf', ho', put⟩ := Mdl.putConds hW hn
  have eg : g = g' := by
    rw [ev] at ev'
    simp at ev'
    exact ev'.1
  subst eg
  have hgl : g < w.heap.size := lt_of_cell' hc
  have ec : Value.slice A L C' = .slice A' L' C'' := by
    have := u1.cell (p := ⟨g, n, none⟩) hgl
    rw [hc, hc'] at this
    exact (Option.some.inj this).symm
  rw [← ec] at put ho' hc'
  obtain ⟨v', w', hr, ho, hg, hfr, _⟩ := K38.append W.heap.size 38 (.slice A L C') _ _ W1 ho' ⟨w.heap.size, 0, none⟩ 1 1 [.int .i64 x, .int .i64 z] rfl (fun j u hj => by
    rw [Addr.add_lit, Nat.zero_add, b1.cell]
    simpa using hj) (fun u hu => by simp at hu; rcases hu with rfl | rfl <;> rfl) (by omega) hW.out.size
  have hoy : w'.ownsRow 0 40 2 v' (S.conds.getD n [] ++ [(x, z)]).length (Dk.pr2 (S.conds.getD n [] ++ [(x, z)])) := by
    rw [List.length_append, Dk.pr2_append]
    exact Dk.owns_base ho (Nat.zero_le _)
  have aw : Dk.Away (fun k => Value.ownBlock (.slice A L C') = some k) W1 w' := Dk.Away.of_grown hg (fun k hk => .inl hk)
  obtain ⟨p1, p2, p3⟩ := put w' v' _ aw hoy hfr
  obtain ⟨Ax, Cx, ex, _, _⟩ := Dk.owns_slice ho
  subst ex
  rw [← e1]
  refine ⟨g, C, A, L, C', Ax, _, Cx, w', _, ev, h1, h2, hc, hr, ?_, p1, p2, ?_, hvn, p3⟩
  · exact aw.below hW.out (fun k hk => (ho'.lt k hk).1)
  · exact (Dk.Away.of_up u1).trans aw (fun k hk => .inl hk)
end
end Go.Proofs.Ytjkdaankjondjaa
