/- The first of those who wait to put goes. -/
import Derived.Test.YtnoeigmcanggdaaTo
namespace Go.Proofs.Ytnoeigmcanggdaa
set_option linter.unusedSimpArgs false
set_option linter.unusedVariables false
set_option linter.unnecessarySimpa false
open Go.RowKit Go.Lib

theorem Dk.Away.row {S : Nat → Prop} {w w' : World} {b : Nat} (h : Dk.Away S w w') (hb : S b ∨ w.heap.size ≤ b) (cs : Array Value) : Dk.Away S w (w'.setRow b cs) :=
  ⟨h.os, h.tape, h.output, by simp [World.setRow]; exact h.size, fun k hk hn => (setRow_other w' b k cs (fun e => by subst e; exact hb.elim hn (fun h1 => absurd hk (by omega)))).trans (h.block k hk hn)⟩
theorem up_row {w w' : World} {b : Nat} (h : Below w.heap.size w w') (hb : w.heap.size ≤ b) (cs : Array Value) : Below w.heap.size w (w'.setRow b cs) :=
  ⟨h.os, h.tape, h.output, by simp [World.setRow]; exact h.size, fun k hk => (setRow_other w' b k cs (by omega)).trans (h.block k hk)⟩
theorem owns_up {w w' : World} {base : Nat} {e : TypeId} {size : Nat} {v : Value} {n : Nat} {xs : List Value} (h : w.ownsRow base e size v n xs) (u : Below w.heap.size w w') : w'.ownsRow base e size v n xs := Dk.owns_away h (Dk.Away.of_up (S := fun _ => False) u) (fun _ _ e => e)
theorem pair_cells (a b : Int) : (#[.int .i64 a, .int .u64 b] : Array Value).all (·.oneCell') = true := by simp [Value.oneCell']
theorem pair_size : (Try.prog.info? 52).map (·.size) = some 2 := by kernel_rfl

set_option maxHeartbeats 1000000 in
theorem take_pairs_no (b o : Nat) (C : Nat) (A : Option Addr) (w : World) (hb : b < w.heap.size) (hc : w.cell? ⟨b, o, none⟩ = some (.slice A 0 C)) :
    Calls Try.prog 19 #[.pointer (some ⟨b, o, none⟩)] w fun e w' => e = .returned (.tuple #[.agg #[.int .i64 0, .int .u64 0], .bool false]) ∧ Below w.heap.size w w' := by
  obtain ⟨W1, e1⟩ : ∃ W1, W1 = w.alloc (.cells #[.int .i64 0, .int .u64 0] 52) := ⟨_, rfl⟩
  have u1 : Below w.heap.size w W1 := by rw [e1]; exact Dk.up_alloc (Below.refl _ _) _
  have z1 : W1.heap.size = w.heap.size + 1 := by rw [e1]; simp
  have b1 : Dk.Box W1 w.heap.size #[.int .i64 0, .int .u64 0] 52 := by rw [e1]; exact Dk.Box.new _ _ _
  have c1 : W1.cell? ⟨b, o, none⟩ = some (.slice A 0 C) := by rw [u1.cell (by exact hb)]; exact hc
  obtain ⟨W2, e2⟩ : ∃ W2, W2 = W1.alloc (.cells #[.int .i64 0, .int .u64 0] 52) := ⟨_, rfl⟩
  have u2 : Below w.heap.size w W2 := by rw [e2]; exact Dk.up_alloc u1 _
  have b2 : Dk.Box W2 (w.heap.size + 1) #[.int .i64 0, .int .u64 0] 52 := by rw [e2, ← z1]; exact Dk.Box.new _ _ _
  have b21 : Dk.Box W2 w.heap.size #[.int .i64 0, .int .u64 0] 52 := by rw [e2]; exact b1.old _
  have c2 : W2.cell? ⟨w.heap.size + 1, 0, none⟩ = some (.int .i64 0) := b2.cell 0
  have c2' : W2.cell? ⟨w.heap.size + 1, 1, none⟩ = some (.int .u64 0) := b2.cell 1
  have H1 : Hid (w.alloc (.cells #[.int .i64 0, .int .u64 0] 52) = W1) := e1.symm
  have H2 : Hid (W1.alloc (.cells #[.int .i64 0, .int .u64 0] 52) = W2) := e2.symm
  have HB : Hid (Dk.Box W2 w.heap.size #[.int .i64 0, .int .u64 0] 52) := b21
  have HU : Hid (Below w.heap.size w W2) := u2
  clear e1 e2 u1 u2 b1 b2 b21 hc
  go_enter Try.func19, Try.ntmps19
  go_wp2_with (first | (rw [H1.out]; clear H1) | (rw [H2.out]; clear H2) | (refine wpList_store_row rfl 52 _ _ rfl w.heap.size #[.int .i64 0, .int .u64 0] rfl rfl 52 _ HB.out.heap pair_size rfl (pair_cells _ _) ?_))
  have d0 := (HB.out.row (cs' := #[.int .i64 0, .int .u64 0])).cell
  exact bodyPost_ret (v := .tuple #[.agg #[.int .i64 0, .int .u64 0], .bool false]) (by simp [results, Try.results19, go_sem, d0]) rfl ⟨rfl, up_row HU.out (Nat.le_refl _) _⟩

set_option maxHeartbeats 1000000 in
theorem take_pairs_yes (B b o : Nat) (cs : Array Value) (t : TypeId) (v : Value) (p : Int × Nat) (rest : List Value) (n : Nat) (w : World) (hbx : Dk.Box w b cs t) (hcs : cs[o]? = some v) (h : w.ownsRow B 52 2 v (n + 1) ([.int .i64 p.1, .int .u64 (p.2 : Nat)] ++ rest)) (h1 : ∀ u ∈ rest, u.oneCell' = true) (hne : v.ownBlock ≠ some b) :
    Calls Try.prog 19 #[.pointer (some ⟨b, o, none⟩)] w fun e w' => ∃ v', e = .returned (.tuple #[.agg #[.int .i64 p.1, .int .u64 (p.2 : Nat)], .bool true]) ∧ w'.ownsRow B 52 2 v' n rest ∧ Dk.Box w' b (cs.setIfInBounds o v') t ∧ v'.ownBlock = v.ownBlock ∧ Dk.Away (fun k => k = b ∨ v.ownBlock = some k) w w' := by
  obtain ⟨p1, p2⟩ := p
  show Calls Try.prog 19 #[.pointer (some ⟨b, o, none⟩)] w fun e w' => ∃ v', e = .returned (.tuple #[.agg #[.int .i64 p1, .int .u64 (p2 : Nat)], .bool true]) ∧ w'.ownsRow B 52 2 v' n rest ∧ Dk.Box w' b (cs.setIfInBounds o v') t ∧ v'.ownBlock = v.ownBlock ∧ Dk.Away (fun k => k = b ∨ v.ownBlock = some k) w w'
  change w.ownsRow B 52 2 v (n + 1) ([.int .i64 p1, .int .u64 (p2 : Nat)] ++ rest) at h
  obtain ⟨W1, e1⟩ : ∃ W1, W1 = w.alloc (.cells #[.int .i64 0, .int .u64 0] 52) := ⟨_, rfl⟩
  have u1 : Below w.heap.size w W1 := by rw [e1]; exact Dk.up_alloc (Below.refl _ _) _
  have z1 : W1.heap.size = w.heap.size + 1 := by rw [e1]; simp
  have b1 : Dk.Box W1 w.heap.size #[.int .i64 0, .int .u64 0] 52 := by rw [e1]; exact Dk.Box.new _ _ _
  have hblt := hbx.lt
  have hvlt : ∀ k, v.ownBlock = some k → k < w.heap.size := fun k hk => (h.lt k hk).2
  obtain ⟨W2, e2⟩ : ∃ W2, W2 = W1.alloc (.cells #[.int .i64 0, .int .u64 0] 52) := ⟨_, rfl⟩
  have u2 : Below w.heap.size w W2 := by rw [e2]; exact Dk.up_alloc u1 _
  have b2 : Dk.Box W2 (w.heap.size + 1) #[.int .i64 0, .int .u64 0] 52 := by rw [e2, ← z1]; exact Dk.Box.new _ _ _
  have b21 : Dk.Box W2 w.heap.size #[.int .i64 0, .int .u64 0] 52 := by rw [e2]; exact b1.old _
  obtain ⟨W3, e3⟩ : ∃ W3, W3 = W2.setRow (w.heap.size + 1) #[.int .i64 p1, .int .u64 (p2 : Nat)] := ⟨_, rfl⟩
  have u3 : Below w.heap.size w W3 := by rw [e3]; exact up_row u2 (by omega) _
  have b3 : Dk.Box W3 (w.heap.size + 1) #[.int .i64 p1, .int .u64 (p2 : Nat)] 52 := by rw [e3]; exact b2.row
  have b31 : Dk.Box W3 w.heap.size #[.int .i64 0, .int .u64 0] 52 := by rw [e3]; exact b21.row_other (by omega)
  have bx3 : Dk.Box W3 b cs t := hbx.up u3
  have h3 : W3.ownsRow B 52 2 v (n + 1) ([.int .i64 p1, .int .u64 (p2 : Nat)] ++ rest) := owns_up h u3
  have K := Delete_pairs B v [.int .i64 p1, .int .u64 (p2 : Nat)] rest n W3 h3 rfl h1
  have fin : ∀ v' w', w'.ownsRow B 52 2 v' n rest → W3.grownBy w' v.ownBlock → v'.ownBlock = v.ownBlock →
      (((w'.setCell ⟨b, o, none⟩ v').setRow w.heap.size #[.int .i64 p1, .int .u64 (p2 : Nat)]).ownsRow B 52 2 v' n rest ∧ Dk.Box ((w'.setCell ⟨b, o, none⟩ v').setRow w.heap.size #[.int .i64 p1, .int .u64 (p2 : Nat)]) b (cs.setIfInBounds o v') t ∧ v'.ownBlock = v.ownBlock ∧ Dk.Away (fun k => k = b ∨ v.ownBlock = some k) w ((w'.setCell ⟨b, o, none⟩ v').setRow w.heap.size #[.int .i64 p1, .int .u64 (p2 : Nat)]))
      ∧ (∃ A L C, v' = .slice A L C) ∧ w'.cell? ⟨b, o, none⟩ = some v ∧ w'.frozen? ⟨b, o, none⟩ = false ∧ Dk.Box (w'.setCell ⟨b, o, none⟩ v') (w.heap.size + 1) #[.int .i64 p1, .int .u64 (p2 : Nat)] 52 ∧ Dk.Box (w'.setCell ⟨b, o, none⟩ v') w.heap.size #[.int .i64 0, .int .u64 0] 52 := by
    intro v' w' ho hg hv
    have hb : Dk.Box w' b cs t := ⟨by rw [hg.block b bx3.lt (fun e => hne e.symm)]; exact bx3.heap⟩
    have q3 : Dk.Box w' (w.heap.size + 1) #[.int .i64 p1, .int .u64 (p2 : Nat)] 52 := ⟨by rw [hg.block _ b3.lt (fun e => absurd (hvlt _ e.symm) (by omega))]; exact b3.heap⟩
    have q1 : Dk.Box w' w.heap.size #[.int .i64 0, .int .u64 0] 52 := ⟨by rw [hg.block _ b31.lt (fun e => absurd (hvlt _ e.symm) (by omega))]; exact b31.heap⟩
    obtain ⟨A', C', e', _, _⟩ := Dk.owns_slice ho
    have a1 : Dk.Away (fun k => k = b ∨ v.ownBlock = some k) w (w'.setCell ⟨b, o, none⟩ v') :=
      ((Dk.Away.of_up u3).trans (Dk.Away.of_grown (S := fun k => k = b ∨ v.ownBlock = some k) hg (fun k hk => .inl (.inr hk))) (fun k hk => .inl hk)).set (.inl (.inl rfl)) _ _
    refine ⟨⟨?_, (hb.set o v').row_other (by omega), hv, Dk.Away.row a1 (.inr (Nat.le_refl _)) _⟩, ⟨A', _, C', e'⟩, by rw [hb.cell]; exact hcs, hb.frozen o, q3.set_other (by omega) _ _, q1.set_other (by omega) _ _⟩
    have o1 := Dk.owns_away ho ((Dk.Away.refl (fun k => k = b) w').set (.inl rfl) o v') (fun k hk e => by rw [hv, e] at hk; exact hne hk)
    exact Dk.owns_away o1 (Dk.Away.row (Dk.Away.refl (fun k => k = w.heap.size) _) (.inl rfl) _) (fun k hk e => by rw [hv, e] at hk; exact absurd (hvlt _ hk) (by omega))
  obtain ⟨_, ⟨_, hz⟩ | ⟨g, cap, cur, rfl, hb, hg, hn, hm, hs, ht⟩⟩ := id h
  · omega
  unfold maxLen at hm
  have hglt : g < w.heap.size := hvlt g rfl
  have c0 : W1.cell? ⟨b, o, none⟩ = some (.slice (some ⟨g, 0, none⟩) (n + 1) cap) := by rw [(hbx.up u1).cell]; exact hcs
  have c3 : W3.cell? ⟨b, o, none⟩ = some (.slice (some ⟨g, 0, none⟩) (n + 1) cap) := by rw [bx3.cell]; exact hcs
  have c1 : W1.cell? ⟨g, 0, none⟩ = some (.int .i64 p1) := by
    have := (owns_up h u1).cells (g := g) rfl 0 (.int .i64 p1) rfl
    rw [Addr.add_lit] at this
    exact this
  have c2 : W1.cell? ⟨g, 1, none⟩ = some (.int .u64 (p2 : Nat)) := by
    have := (owns_up h u1).cells (g := g) rfl 1 (.int .u64 (p2 : Nat)) rfl
    rw [Addr.add_lit] at this
    exact this
  have HF : Hid _ := fin
  have H1 : Hid (w.alloc (.cells #[.int .i64 0, .int .u64 0] 52) = W1) := e1.symm
  have H2 : Hid (W1.alloc (.cells #[.int .i64 0, .int .u64 0] 52) = W2) := e2.symm
  have H3 : Hid (W2.setRow (w.heap.size + 1) #[.int .i64 p1, .int .u64 (p2 : Nat)] = W3) := e3.symm
  have HB2 : Hid (Dk.Box W2 (w.heap.size + 1) #[.int .i64 0, .int .u64 0] 52) := b2
  clear fin h h3 hbx hcs hne ht hs hg h1 e1 e2 e3 u1 u2 u3 b1 b2 b21 b3 b31 bx3 hvlt
  go_enter Try.func19, Try.ntmps19
  go_wp2_with (first | (rw [H1.out]; clear H1) | (rw [H2.out]; clear H2) | (refine wpList_store_row rfl 52 _ _ rfl (w.heap.size + 1) #[.int .i64 p1, .int .u64 (p2 : Nat)] rfl rfl 52 _ HB2.out.heap pair_size rfl (pair_cells _ _) ?_; rw [H3.out]; clear HB2))
  refine K.mono ?_
  rintro e w' ⟨v', rfl, ho, hg, hv⟩
  obtain ⟨hfin, ⟨A', L', C', rfl⟩, cb, fb, q3, q1⟩ := HF.out v' w' ho hg hv
  have HW : Hid _ := hfin
  have HQ : Hid _ := q1
  have d0 : (w'.setCell ⟨b, o, none⟩ (.slice A' L' C')).cell? ⟨w.heap.size + 1, 0, none⟩ = some (.int .i64 p1) := q3.cell 0
  have d1 : (w'.setCell ⟨b, o, none⟩ (.slice A' L' C')).cell? ⟨w.heap.size + 1, 1, none⟩ = some (.int .u64 (p2 : Nat)) := q3.cell 1
  clear hfin ho hg hv HF c0 c1 c2 c3 K q1 q3
  go_wp2_with (refine wpList_store_row rfl 52 _ _ rfl w.heap.size #[.int .i64 p1, .int .u64 (p2 : Nat)] rfl rfl 52 _ HQ.out.heap pair_size rfl (pair_cells _ _) ?_)
  have d2 := (HQ.out.row (cs' := #[.int .i64 p1, .int .u64 (p2 : Nat)])).cell
  exact bodyPost_ret (v := .tuple #[.agg #[.int .i64 p1, .int .u64 (p2 : Nat)], .bool true]) (by simp [results, Try.results19, go_sem, d2]) rfl ⟨_, rfl, HW.out⟩

end Go.Proofs.Ytnoeigmcanggdaa
