/- A pipe in memory: its box, its three rows, apart from one another and from all that lies beside. -/
import Derived.Test.YtnoeigmcanggdaaTh
import Derived.Test.YtnoeigmcanggdaaOpn
namespace Dk
set_option linter.unusedSimpArgs false
set_option linter.unusedVariables false
set_option linter.unnecessarySimpa false
open Go Go.RowKit

/-- Words, as cells. -/
abbrev uw (xs : List Nat) : List Value := xs.map (fun n => Value.int .u64 (n : Nat))
/-- Who waits to put, with their words, as cells. -/
def prs : List (Int × Nat) → List Value
  | [] => []
  | p :: r => [Value.int .i64 p.1, .int .u64 (p.2 : Nat)] ++ prs r
theorem prs_length : ∀ ps, (prs ps).length = ps.length * 2
  | [] => rfl
  | p :: r => by rw [prs, List.length_append, prs_length r, List.length_cons]; simp; omega
theorem prs_append : ∀ ps qs, prs (ps ++ qs) = prs ps ++ prs qs
  | [], qs => rfl
  | p :: r, qs => by rw [List.cons_append, prs, prs, prs_append r, List.append_assoc]
theorem prs_one : ∀ ps, ∀ u ∈ prs ps, u.oneCell' = true
  | [], u, h => absurd h (by simp [prs])
  | p :: r, u, h => by
    rw [prs] at h
    rcases List.mem_append.1 h with h | h
    · simp at h
      rcases h with rfl | rfl <;> rfl
    · exact prs_one r u h
theorem prs_get : ∀ (ps : List (Int × Nat)) (k : Nat), k < ps.length → (prs ps)[k * 2]? = some (.int .i64 (ps.getD k (0, 0)).1) ∧ (prs ps)[k * 2 + 1]? = some (.int .u64 ((ps.getD k (0, 0)).2 : Nat))
  | [], k, h => absurd h (by simp)
  | p :: r, 0, _ => by simp [prs]
  | p :: r, k + 1, h => by
    have := prs_get r k (by simp at h; omega)
    rw [prs, List.getElem?_append_right (by simp; omega), List.getElem?_append_right (by simp; omega)]
    simp only [List.length_cons, List.length_nil, List.getD_cons_succ]
    rw [show (k + 1) * 2 - (0 + 1 + 1) = k * 2 by omega, show (k + 1) * 2 + 1 - (0 + 1 + 1) = k * 2 + 1 by omega]
    exact this
theorem is_one (xs : List Int) : ∀ u ∈ is xs, u.oneCell' = true := fun u hu => by
  obtain ⟨y, _, rfl⟩ := List.mem_map.1 hu
  rfl
theorem uw_one (xs : List Nat) : ∀ u ∈ uw xs, u.oneCell' = true := fun u hu => by
  obtain ⟨y, _, rfl⟩ := List.mem_map.1 hu
  rfl

/-- All numbers are numbers of their types. -/
structure Fit (ws : List Nat) (ps : List (Int × Nat)) (gs : List Int) : Prop where
  ws : ∀ x ∈ ws, x < 2 ^ 64
  ps : ∀ p ∈ ps, i64 p.1 ∧ p.2 < 2 ^ 64
  gs : ∀ x ∈ gs, i64 x

/-- The pipe's box, and its rows. -/
def tube (bt : Nat) (room : Int) (v1 v2 v3 : Value) (ws : List Nat) (ps : List (Int × Nat)) (gs : List Int) (us : List Thing) : List Thing :=
  boxOf bt #[.int .i64 room, v1, v2, v3] 46 :: rowOf 27 1 v1 ws.length (uw ws) :: rowOf 52 2 v2 ps.length (prs ps) :: rowOf 3 1 v3 gs.length (is gs) :: us
def Tub (W w : World) (bt : Nat) (room : Int) (v1 v2 v3 : Value) (ws : List Nat) (ps : List (Int × Nat)) (gs : List Int) (us : List Thing) : Prop := Sep W w (tube bt room v1 v2 v3 ws ps gs us)
/-- A pipe, and things beside it. -/
def Tb (W w : World) (bt : Nat) (room : Int) (ws : List Nat) (ps : List (Int × Nat)) (gs : List Int) (us : List Thing) : Prop := Hid (∃ v1 v2 v3, Tub W w bt room v1 v2 v3 ws ps gs us ∧ Fit ws ps gs)

section
variable {W w w' : World} {x y x' y' : Thing} {us : List Thing}
/-- A box and a row are turned. -/
theorem Sep.two (h : Sep W w (x :: y :: us)) (a : Away (fun k => x.own k ∨ y.own k) w w') (hx : x'.holds w') (hy : y'.holds w') (nx : ∀ k, x'.own k → x.own k) (ny : ∀ k, y'.own k → y.own k ∨ w.heap.size ≤ k) : Sep W w' (x' :: y' :: us) := by
  have q := Hid.out h
  have qx := q.all x (by simp)
  have qy := q.all y (by simp)
  have p1 := List.pairwise_cons.1 q.apart
  have p2 := List.pairwise_cons.1 p1.2
  refine ⟨fun t ht => ?_, ?_, a.below q.up (fun k hk => hk.elim (qx.2 k) (qy.2 k))⟩
  · rcases List.mem_cons.1 ht with rfl | ht
    · exact ⟨hx, fun k hk => qx.2 k (nx k hk)⟩
    rcases List.mem_cons.1 ht with rfl | ht
    · exact ⟨hy, fun k hk => (ny k hk).elim (qy.2 k) (fun h1 => Nat.le_trans q.up.size h1)⟩
    · have qt := q.all t (by simp [ht])
      refine ⟨t.local_ w w' qt.1 (fun k hk => a.block k (t.lt w qt.1 k hk) (fun ho => ?_)), qt.2⟩
      exact ho.elim (fun ho => p1.1 t (by simp [ht]) k ho hk) (fun ho => p2.1 t ht k ho hk)
  · refine List.pairwise_cons.2 ⟨fun t ht k hk htk => ?_, List.pairwise_cons.2 ⟨fun t ht k hk htk => ?_, p2.2⟩⟩
    · rcases List.mem_cons.1 ht with rfl | ht
      · exact (ny k htk).elim (p1.1 y (by simp) k (nx k hk)) (fun h1 => absurd (x.lt w qx.1 k (nx k hk)) (by omega))
      · exact p1.1 t (by simp [ht]) k (nx k hk) htk
    · have qt := q.all t (by simp [ht])
      exact (ny k hk).elim (fun ho => p2.1 t ht k ho htk) (fun h1 => absurd (t.lt w qt.1 k htk) (by omega))

variable {bt : Nat} {room : Int} {v1 v2 v3 v1' v2' v3' : Value} {ws ws' : List Nat} {ps ps' : List (Int × Nat)} {gs gs' : List Int}
theorem Tub.head (h : Tub W w bt room v1 v2 v3 ws ps gs us) : Box w bt #[.int .i64 room, v1, v2, v3] 46 := Sep.box h (by simp [tube])
theorem Tub.row1 (h : Tub W w bt room v1 v2 v3 ws ps gs us) : w.ownsRow W.heap.size 27 1 v1 ws.length (uw ws) := Sep.row h (by simp [tube])
theorem Tub.row2 (h : Tub W w bt room v1 v2 v3 ws ps gs us) : w.ownsRow W.heap.size 52 2 v2 ps.length (prs ps) := Sep.row h (by simp [tube])
theorem Tub.row3 (h : Tub W w bt room v1 v2 v3 ws ps gs us) : w.ownsRow W.heap.size 3 1 v3 gs.length (is gs) := Sep.row h (by simp [tube])
theorem Tub.up (h : Tub W w bt room v1 v2 v3 ws ps gs us) : Below W.heap.size W w := Sep.out h
theorem Tub.below (h : Tub W w bt room v1 v2 v3 ws ps gs us) (b : Below w.heap.size w w') : Tub W w' bt room v1 v2 v3 ws ps gs us := Sep.below h b
theorem Tub.ne1 (h : Tub W w bt room v1 v2 v3 ws ps gs us) : v1.ownBlock ≠ some bt := fun e => by
  have q := (List.pairwise_cons.1 (Hid.out h).apart).1 (rowOf 27 1 v1 ws.length (uw ws)) (by simp)
  exact q bt rfl e
theorem Tub.ne2 (h : Tub W w bt room v1 v2 v3 ws ps gs us) : v2.ownBlock ≠ some bt := fun e => by
  have q := (List.pairwise_cons.1 (Hid.out h).apart).1 (rowOf 52 2 v2 ps.length (prs ps)) (by simp)
  exact q bt rfl e
theorem Tub.ne3 (h : Tub W w bt room v1 v2 v3 ws ps gs us) : v3.ownBlock ≠ some bt := fun e => by
  have q := (List.pairwise_cons.1 (Hid.out h).apart).1 (rowOf 3 1 v3 gs.length (is gs)) (by simp)
  exact q bt rfl e
theorem Tub.set1 (h : Tub W w bt room v1 v2 v3 ws ps gs us) (a : Away (fun k => k = bt ∨ v1.ownBlock = some k) w w') (hb : Box w' bt #[.int .i64 room, v1', v2, v3] 46) (ho : w'.ownsRow W.heap.size 27 1 v1' ws'.length (uw ws')) (hf : From w v1 v1') : Tub W w' bt room v1' v2 v3 ws' ps gs us :=
  Sep.two (x' := boxOf bt #[.int .i64 room, v1', v2, v3] 46) (y' := rowOf 27 1 v1' ws'.length (uw ws')) h a hb (owns_base ho (Nat.zero_le _)) (fun k hk => hk) hf
theorem Tub.set2 (h : Tub W w bt room v1 v2 v3 ws ps gs us) (a : Away (fun k => k = bt ∨ v2.ownBlock = some k) w w') (hb : Box w' bt #[.int .i64 room, v1, v2', v3] 46) (ho : w'.ownsRow W.heap.size 52 2 v2' ps'.length (prs ps')) (hf : From w v2 v2') : Tub W w' bt room v1 v2' v3 ws ps' gs us := by
  have p := Sep.perm h (us := boxOf bt #[.int .i64 room, v1, v2, v3] 46 :: rowOf 52 2 v2 ps.length (prs ps) :: rowOf 27 1 v1 ws.length (uw ws) :: rowOf 3 1 v3 gs.length (is gs) :: us) ((List.Perm.swap _ _ _).cons _)
  have q := Sep.two (x' := boxOf bt #[.int .i64 room, v1, v2', v3] 46) (y' := rowOf 52 2 v2' ps'.length (prs ps')) p a hb (owns_base ho (Nat.zero_le _)) (fun k hk => hk) hf
  exact Sep.perm q ((List.Perm.swap _ _ _).cons _)
theorem Tub.set3 (h : Tub W w bt room v1 v2 v3 ws ps gs us) (a : Away (fun k => k = bt ∨ v3.ownBlock = some k) w w') (hb : Box w' bt #[.int .i64 room, v1, v2, v3'] 46) (ho : w'.ownsRow W.heap.size 3 1 v3' gs'.length (is gs')) (hf : From w v3 v3') : Tub W w' bt room v1 v2 v3' ws ps gs' us := by
  have p := Sep.perm h (us := boxOf bt #[.int .i64 room, v1, v2, v3] 46 :: rowOf 3 1 v3 gs.length (is gs) :: rowOf 27 1 v1 ws.length (uw ws) :: rowOf 52 2 v2 ps.length (prs ps) :: us) (((((List.Perm.swap _ _ _).trans ((List.Perm.swap _ _ _).cons _)).symm).cons _).symm.symm)
  have q := Sep.two (x' := boxOf bt #[.int .i64 room, v1, v2, v3'] 46) (y' := rowOf 3 1 v3' gs'.length (is gs')) p a hb (owns_base ho (Nat.zero_le _)) (fun k hk => hk) hf
  exact Sep.perm q (((List.Perm.swap _ _ _).trans ((List.Perm.swap _ _ _).cons _)).cons _)
/-- What lies beside, and goes on. -/
theorem Tb.out (h : Tb W w bt room ws ps gs us) : Below W.heap.size W w := by
  obtain ⟨v1, v2, v3, t, _⟩ := Hid.out h
  exact t.up
theorem Tb.fit (h : Tb W w bt room ws ps gs us) : Fit ws ps gs := by
  obtain ⟨v1, v2, v3, _, f⟩ := Hid.out h
  exact f
theorem Tb.below (h : Tb W w bt room ws ps gs us) (b : Below w.heap.size w w') : Tb W w' bt room ws ps gs us := by
  obtain ⟨v1, v2, v3, t, f⟩ := Hid.out h
  exact ⟨v1, v2, v3, t.below b, f⟩
end
end Dk
