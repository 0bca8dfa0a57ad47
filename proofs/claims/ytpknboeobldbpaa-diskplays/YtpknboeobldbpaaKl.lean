/- A disk in memory: its box, its blocks, its requests, apart from one another and from all that lies beside. -/
import Derived.Test.YtpknboeobldbpaaTh
import Derived.Test.YtpknboeobldbpaaOpn
namespace Dk
set_option linter.unusedSimpArgs false
set_option linter.unusedVariables false
set_option linter.unnecessarySimpa false
open Go Go.RowKit

/-- Words, as cells. -/
abbrev uw (xs : List Nat) : List Value := xs.map (fun n => Value.int .u64 (n : Nat))
/-- A request. -/
structure Rq where
  who : Int
  block : Int
  write : Bool
  x : Nat
def Rq.zero : Rq := ⟨0, 0, false, 0⟩
def Rq.ok (r : Rq) : Prop := i64 r.who ∧ i64 r.block ∧ r.x < 2 ^ 64
def Rq.cells (r : Rq) : List Value := [.int .i64 r.who, .int .i64 r.block, .bool r.write, .int .u64 (r.x : Nat)]
/-- Requests, as cells. -/
def rqs : List Rq → List Value
  | [] => []
  | r :: l => r.cells ++ rqs l
theorem rqs_length : ∀ rs, (rqs rs).length = rs.length * 4
  | [] => rfl
  | p :: r => by rw [rqs, List.length_append, rqs_length r, List.length_cons]; simp [Rq.cells]; omega
theorem rqs_append : ∀ ps qs, rqs (ps ++ qs) = rqs ps ++ rqs qs
  | [], qs => rfl
  | p :: r, qs => by rw [List.cons_append, rqs, rqs, rqs_append r, List.append_assoc]
theorem rqs_one : ∀ ps, ∀ u ∈ rqs ps, u.oneCell' = true
  | [], u, h => absurd h (by simp [rqs])
  | p :: r, u, h => by
    rw [rqs] at h
    rcases List.mem_append.1 h with h | h
    · simp [Rq.cells] at h
      rcases h with rfl | rfl | rfl | rfl <;> rfl
    · exact rqs_one r u h
theorem rqs_get : ∀ (ps : List Rq) (k : Nat), k < ps.length → ∀ j, j < 4 → (rqs ps)[k * 4 + j]? = (ps.getD k Rq.zero).cells[j]?
  | [], k, h => absurd h (by simp)
  | p :: r, 0, _ => fun j hj => by
    rw [rqs, List.getElem?_append_left (by simp [Rq.cells]; omega), Nat.zero_mul, Nat.zero_add]
    rfl
  | p :: r, k + 1, h => fun j hj => by
    have := rqs_get r k (by simp at h; omega) j hj
    rw [rqs, List.getElem?_append_right (by simp [Rq.cells]; omega)]
    simp only [Rq.cells, List.length_cons, List.length_nil, List.getD_cons_succ]
    rw [show (k + 1) * 4 + j - (0 + 1 + 1 + 1 + 1) = k * 4 + j by omega]
    exact this
theorem rqs_take : ∀ (ps : List Rq) (k : Nat), (rqs ps).take (k * 4) = rqs (ps.take k)
  | [], k => by simp [rqs]
  | p :: r, 0 => by simp [rqs]
  | p :: r, k + 1 => by
    rw [rqs, List.take_append, List.take_of_length_le (by simp [Rq.cells]; omega), List.take_succ_cons, rqs, ← rqs_take r k]
    congr 2
    simp [Rq.cells]
    omega
theorem rqs_drop : ∀ (ps : List Rq) (k : Nat), (rqs ps).drop (k * 4) = rqs (ps.drop k)
  | [], k => by simp [rqs]
  | p :: r, 0 => by simp
  | p :: r, k + 1 => by
    rw [rqs, List.drop_append, List.drop_eq_nil_of_le (by simp [Rq.cells]; omega), List.nil_append, List.drop_succ_cons, ← rqs_drop r k]
    congr 1
    simp [Rq.cells]
    omega
theorem rqs_erase (ps : List Rq) (k : Nat) : rqs (ps.eraseIdx k) = (rqs ps).take (k * 4) ++ (rqs ps).drop ((k + 1) * 4) := by
  rw [rqs_take, rqs_drop, List.eraseIdx_eq_take_drop_succ, rqs_append]
theorem uw_one (xs : List Nat) : ∀ u ∈ uw xs, u.oneCell' = true := fun u hu => by
  obtain ⟨y, _, rfl⟩ := List.mem_map.1 hu
  rfl

/-- All numbers are numbers of their types, and each request's block is there. -/
structure Fit (bs : List Nat) (rs : List Rq) : Prop where
  words : ∀ x ∈ bs, x < 2 ^ 64
  reqs : ∀ r ∈ rs, r.ok
  there : ∀ r ∈ rs, 0 ≤ r.block ∧ r.block < bs.length
theorem getD_mem {α : Type} (l : List α) (d : α) (k : Nat) (h : k < l.length) : l.getD k d ∈ l := by simp [List.getD, h]
theorem Fit.erase {bs : List Nat} {rs : List Rq} (h : Fit bs rs) (k : Nat) : Fit bs (rs.eraseIdx k) := ⟨h.words, fun r hr => h.reqs r (List.mem_of_mem_eraseIdx hr), fun r hr => h.there r (List.mem_of_mem_eraseIdx hr)⟩
theorem Fit.add {bs : List Nat} {rs : List Rq} (h : Fit bs rs) {r : Rq} (hr : r.ok) (hb : 0 ≤ r.block ∧ r.block < bs.length) : Fit bs (rs ++ [r]) := ⟨h.words, fun q hq => by
  rcases List.mem_append.1 hq with hq | hq
  · exact h.reqs q hq
  · rw [List.mem_singleton] at hq; rw [hq]; exact hr, fun q hq => by
  rcases List.mem_append.1 hq with hq | hq
  · exact h.there q hq
  · rw [List.mem_singleton] at hq; rw [hq]; exact hb⟩
theorem Fit.set {bs : List Nat} {rs : List Rq} (h : Fit bs rs) (k x : Nat) (hx : x < 2 ^ 64) : Fit (bs.set k x) rs := ⟨fun y hy => by
  rcases List.mem_or_eq_of_mem_set hy with hy | hy
  · exact h.words y hy
  · rw [hy]; exact hx, h.reqs, fun r hr => by rw [List.length_set]; exact h.there r hr⟩

/-- The disk's box, and its rows. -/
def disk (bd : Nat) (v1 v2 : Value) (bs : List Nat) (rs : List Rq) (us : List Thing) : List Thing :=
  boxOf bd #[v1, v2] 46 :: rowOf 27 1 v1 bs.length (uw bs) :: rowOf 29 4 v2 rs.length (rqs rs) :: us
def Dsk (W w : World) (bd : Nat) (v1 v2 : Value) (bs : List Nat) (rs : List Rq) (us : List Thing) : Prop := Sep W w (disk bd v1 v2 bs rs us)
/-- A disk, and things beside it. -/
def Db (W w : World) (bd : Nat) (bs : List Nat) (rs : List Rq) (us : List Thing) : Prop := Hid (∃ v1 v2, Dsk W w bd v1 v2 bs rs us ∧ Fit bs rs)

section
variable {W w w' : World} {x y x' y' : Thing} {us : List Thing}
/-- A box and a row are turned. -/
theorem Sep.two (h : Sep W w (x :: y :: us)) (a : Away (fun k => x.own k ∨ y.own k) w w') (hx : x'.holds w') (hy : y'.holds w') (nx : ∀ k, x'.own k → x.own k) (ny : ∀ k, y'.own k → y.own k ∨ w.heap.size ≤ k) : Sep W w' (x' :: y' :: us) := by
  have q := Hid.out h
  have qx := q.all x (by simp)
  have qy := q.all y (by simp)
  have p1 := List.pairwise_cons.1 q.apart
  have p2 := List.pairwise_cons.1 p1.2
  refine ⟨fun t ht => ?_, ?_, a.below q.up (fun k hk => hk.elim (qx.2 k) (qy.2 k))⟩
  · rcases List.mem_cons.1 ht with rfl | ht
    · exact ⟨hx, fun k hk => qx.2 k (nx k hk)⟩
    rcases List.mem_cons.1 ht with rfl | ht
    · exact ⟨hy, fun k hk => (ny k hk).elim (qy.2 k) (fun h1 => Nat.le_trans q.up.size h1)⟩
    · have qt := q.all t (by simp [ht])
      refine ⟨t.local_ w w' qt.1 (fun k hk => a.block k (t.lt w qt.1 k hk) (fun ho => ?_)), qt.2⟩
      exact ho.elim (fun ho => p1.1 t (by simp [ht]) k ho hk) (fun ho => p2.1 t ht k ho hk)
  · refine List.pairwise_cons.2 ⟨fun t ht k hk htk => ?_, List.pairwise_cons.2 ⟨fun t ht k hk htk => ?_, p2.2⟩⟩
    · rcases List.mem_cons.1 ht with rfl | ht
      · exact (ny k htk).elim (p1.1 y (by simp) k (nx k hk)) (fun h1 => absurd (x.lt w qx.1 k (nx k hk)) (by omega))
      · exact p1.1 t (by simp [ht]) k (nx k hk) htk
    · have qt := q.all t (by simp [ht])
      exact (ny k hk).elim (fun ho => p2.1 t ht k ho htk) (fun h1 => absurd (t.lt w qt.1 k htk) (by omega))

variable {bd : Nat} {v1 v2 v1' v2' : Value} {bs bs' : List Nat} {rs rs' : List Rq}
theorem Dsk.head (h : Dsk W w bd v1 v2 bs rs us) : Box w bd #[v1, v2] 46 := Sep.box h (by simp [disk])
theorem Dsk.row1 (h : Dsk W w bd v1 v2 bs rs us) : w.ownsRow W.heap.size 27 1 v1 bs.length (uw bs) := Sep.row h (by simp [disk])
theorem Dsk.row2 (h : Dsk W w bd v1 v2 bs rs us) : w.ownsRow W.heap.size 29 4 v2 rs.length (rqs rs) := Sep.row h (by simp [disk])
theorem Dsk.up (h : Dsk W w bd v1 v2 bs rs us) : Below W.heap.size W w := Sep.out h
theorem Dsk.below (h : Dsk W w bd v1 v2 bs rs us) (b : Below w.heap.size w w') : Dsk W w' bd v1 v2 bs rs us := Sep.below h b
theorem Dsk.ne1 (h : Dsk W w bd v1 v2 bs rs us) : v1.ownBlock ≠ some bd := fun e => by
  have q := (List.pairwise_cons.1 (Hid.out h).apart).1 (rowOf 27 1 v1 bs.length (uw bs)) (by simp)
  exact q bd rfl e
theorem Dsk.ne2 (h : Dsk W w bd v1 v2 bs rs us) : v2.ownBlock ≠ some bd := fun e => by
  have q := (List.pairwise_cons.1 (Hid.out h).apart).1 (rowOf 29 4 v2 rs.length (rqs rs)) (by simp)
  exact q bd rfl e
theorem Dsk.set1 (h : Dsk W w bd v1 v2 bs rs us) (a : Away (fun k => v1.ownBlock = some k) w w') (ho : w'.ownsRow W.heap.size 27 1 v1 bs'.length (uw bs')) : Dsk W w' bd v1 v2 bs' rs us :=
  Sep.turn (us1 := [boxOf bd #[v1, v2] 46]) (t := rowOf 27 1 v1 bs.length (uw bs)) (t' := rowOf 27 1 v1 bs'.length (uw bs')) h a (owns_base ho (Nat.zero_le _)) (fun k hk => .inl hk)
theorem Dsk.set2 (h : Dsk W w bd v1 v2 bs rs us) (a : Away (fun k => k = bd ∨ v2.ownBlock = some k) w w') (hb : Box w' bd #[v1, v2'] 46) (ho : w'.ownsRow W.heap.size 29 4 v2' rs'.length (rqs rs')) (hf : From w v2 v2') : Dsk W w' bd v1 v2' bs rs' us := by
  have p := Sep.perm h (us := boxOf bd #[v1, v2] 46 :: rowOf 29 4 v2 rs.length (rqs rs) :: rowOf 27 1 v1 bs.length (uw bs) :: us) ((List.Perm.swap _ _ _).cons _)
  have q := Sep.two (x' := boxOf bd #[v1, v2'] 46) (y' := rowOf 29 4 v2' rs'.length (rqs rs')) p a hb (owns_base ho (Nat.zero_le _)) (fun k hk => hk) hf
  exact Sep.perm q ((List.Perm.swap _ _ _).cons _)
/-- What lies beside, and goes on. -/
theorem Db.out (h : Db W w bd bs rs us) : Below W.heap.size W w := by
  obtain ⟨v1, v2, t, _⟩ := Hid.out h
  exact t.up
theorem Db.fit (h : Db W w bd bs rs us) : Fit bs rs := by
  obtain ⟨v1, v2, _, f⟩ := Hid.out h
  exact f
theorem Db.below (h : Db W w bd bs rs us) (b : Below w.heap.size w w') : Db W w' bd bs rs us := by
  obtain ⟨v1, v2, t, f⟩ := Hid.out h
  exact ⟨v1, v2, t.below b, f⟩
end
end Dk
