/- Mutexes, conditions and semaphores: plain mathematics, and the document's answer in memory. -/
import Derived.Test.YtjkdaankjondjaaNx
import Derived.Test.YtjkdaankjondjaaOpn
namespace Dk
set_option linter.unusedSimpArgs false
set_option linter.unusedVariables false
set_option linter.unnecessarySimpa false
open Go Go.RowKit

/-- The rest of a number by how many there are, not below 0. -/
def at_ (k : Int) (n : Nat) : Nat := (k % (n : Int)).toNat
theorem at_lt (k : Int) {n : Nat} (h : 0 < n) : at_ k n < n := by
  unfold at_
  have h1 := Int.emod_nonneg k (show (n : Int) ≠ 0 by omega)
  have h2 := Int.emod_lt_of_pos k (show (0 : Int) < n by omega)
  omega
theorem at_eq (k : Int) {n : Nat} (h : 0 < n) : (at_ k n : Int) = k % (n : Int) := by
  unfold at_
  have h1 := Int.emod_nonneg k (show (n : Int) ≠ 0 by omega)
  omega
theorem tmod_le (k : Int) {n : Nat} (h : 0 < n) : -(n : Int) < k.tmod n ∧ k.tmod n < n := by
  have h1 := Int.tmod_lt_of_pos k (show (0 : Int) < n by omega)
  have h2 := Int.lt_tmod_of_pos k (show (0 : Int) < n by omega)
  exact ⟨h2, h1⟩
theorem tmod_emod (k : Int) (n : Nat) : (k.tmod n) % (n : Int) = k % (n : Int) := by
  have h := Int.tmod_add_mul_tdiv k n
  conv => rhs; rw [← h]
  rw [Int.add_mul_emod_self_left]
theorem at_up (k : Int) {n : Nat} (h : 0 < n) : (k.tmod n + n) % (n : Int) = (at_ k n : Int) := by
  rw [at_eq k h, ← tmod_emod k n, Int.add_emod_right]
theorem at_neg (k : Int) {n : Nat} (h : 0 < n) (hq : k.tmod n < 0) : k.tmod n + n = (at_ k n : Int) := by
  rw [← at_up k h, Int.emod_eq_of_lt]
  · have := (tmod_le k h).1; omega
  · omega
theorem at_pos (k : Int) {n : Nat} (h : 0 < n) (hq : ¬ k.tmod n < 0) : k.tmod n = (at_ k n : Int) := by
  rw [at_eq k h, ← tmod_emod k n, Int.emod_eq_of_lt (by omega)]
  exact (tmod_le k h).2

/-- Mutexes (whose, whether anybody's, who waits), conditions (who waits, with which mutex), semaphores (how many, who waits). -/
structure St where
  owner : List Int
  held : List Bool
  wait : List (List Int)
  conds : List (List (Int × Int))
  count : List Int
  downs : List (List Int)
def St.waits (S : St) (x : Int) : Bool := S.wait.any (·.contains x) || S.downs.any (·.contains x) || S.conds.any (fun l => l.any (fun p => p.1 == x))
/-- A mutex is given up. -/
def St.open (S : St) (n : Nat) (choice : Int) : St × Int × Bool :=
  let l := S.wait.getD n []
  if l.length = 0 then ({ S with held := S.held.set n false }, 0, false)
  else ({ S with owner := S.owner.set n (l.getD (at_ choice l.length) 0), wait := S.wait.set n (l.eraseIdx (at_ choice l.length)) }, l.getD (at_ choice l.length) 0, true)
/-- One that was told goes on, or waits for its mutex. -/
def St.goes1 (S : St) (p : Int × Int) : St × List Int :=
  let n := p.2.toNat
  if S.held.getD n false then ({ S with wait := S.wait.set n (S.wait.getD n [] ++ [p.1]) }, [])
  else ({ S with held := S.held.set n true, owner := S.owner.set n p.1 }, [p.1])
def St.goes (S : St) : List (Int × Int) → St × List Int
  | [] => (S, [])
  | p :: r => ((S.goes1 p).1.goes r).1 |> fun T => (T, (S.goes1 p).2 ++ ((S.goes1 p).1.goes r).2)
/-- Who is told. -/
def St.told (S : St) (c : Nat) (choice : Int) (all : Bool) : List (Int × Int) :=
  let l := S.conds.getD c []
  if all then l else if l.length = 0 then [] else [l.getD (at_ choice l.length) (0, 0)]
def St.kept (S : St) (c : Nat) (choice : Int) (all : Bool) : List (Int × Int) :=
  let l := S.conds.getD c []
  if all then [] else if l.length = 0 then [] else l.eraseIdx (at_ choice l.length)
def St.signal (S : St) (c : Nat) (choice : Int) (all : Bool) : St × List Int :=
  ({ S with conds := S.conds.set c (S.kept c choice all) }).goes (S.told c choice all)

/-- How many wait. -/
def lens {α : Type} (l : List (List α)) : Nat := (l.map List.length).sum
def St.tot (S : St) : Nat := lens S.wait + lens S.conds + lens S.downs
theorem lens_mem {α : Type} : ∀ (l : List (List α)) (x : List α), x ∈ l → x.length ≤ lens l
  | [], x, h => absurd h (by simp)
  | y :: r, x, h => by
    unfold lens
    rw [List.map_cons, List.sum_cons]
    rcases List.mem_cons.1 h with rfl | h
    · omega
    · have := lens_mem r x h
      unfold lens at this
      omega
theorem lens_set {α : Type} : ∀ (l : List (List α)) (i : Nat) (y : List α), i < l.length → lens (l.set i y) + (l.getD i []).length = lens l + y.length
  | [], i, y, h => absurd h (by simp)
  | x :: r, 0, y, _ => by
    unfold lens
    simp
    omega
  | x :: r, i + 1, y, h => by
    have := lens_set r i y (by simpa using h)
    unfold lens at this ⊢
    simp only [List.set_cons_succ, List.map_cons, List.sum_cons, List.getD_cons_succ]
    omega
/-- All is as it should be. -/
structure Ok (S : St) (k : Nat) : Prop where
  held : S.held.length = S.owner.length
  wait : S.wait.length = S.owner.length
  downs : S.downs.length = S.count.length
  most : S.owner.length ≤ 4 ∧ S.conds.length ≤ 4 ∧ S.count.length ≤ 4
  owner : ∀ x ∈ S.owner, i64 x
  waits : ∀ l ∈ S.wait, ∀ x ∈ l, i64 x
  downsI : ∀ l ∈ S.downs, ∀ x ∈ l, i64 x
  conds : ∀ l ∈ S.conds, ∀ p ∈ l, i64 p.1 ∧ 0 ≤ p.2 ∧ p.2 < S.owner.length
  count : ∀ x ∈ S.count, 0 ≤ x ∧ x ≤ 1048576
  tot : S.tot ≤ k
theorem getD_mem {α : Type} (l : List α) (d : α) (k : Nat) (h : k < l.length) : l.getD k d ∈ l := by simp [List.getD, h]
theorem Ok.waitLen {S : St} {k : Nat} (h : Ok S k) {l : List Int} (hl : l ∈ S.wait) : l.length ≤ k := by
  have := lens_mem _ _ hl
  have := h.tot
  unfold St.tot at this
  omega
theorem Ok.condLen {S : St} {k : Nat} (h : Ok S k) {l : List (Int × Int)} (hl : l ∈ S.conds) : l.length ≤ k := by
  have := lens_mem _ _ hl
  have := h.tot
  unfold St.tot at this
  omega
theorem Ok.downLen {S : St} {k : Nat} (h : Ok S k) {l : List Int} (hl : l ∈ S.downs) : l.length ≤ k := by
  have := lens_mem _ _ hl
  have := h.tot
  unfold St.tot at this
  omega
theorem mem_set {α : Type} {l : List α} {i : Nat} {y : α} {p : α → Prop} (h : ∀ x ∈ l, p x) (hy : p y) : ∀ x ∈ l.set i y, p x := fun x hx => by
  rcases List.mem_or_eq_of_mem_set hx with hx | rfl
  · exact h x hx
  · exact hy
theorem Ok.mono {S : St} {k k' : Nat} (h : Ok S k) (hk : k ≤ k') : Ok S k' := ⟨h.held, h.wait, h.downs, h.most, h.owner, h.waits, h.downsI, h.conds, h.count, Nat.le_trans h.tot hk⟩
theorem Ok.setHeld {S : St} {k : Nat} (h : Ok S k) (n : Nat) (b : Bool) : Ok { S with held := S.held.set n b } k := ⟨by rw [List.length_set]; exact h.held, h.wait, h.downs, h.most, h.owner, h.waits, h.downsI, h.conds, h.count, h.tot⟩
theorem Ok.setOwner {S : St} {k : Nat} (h : Ok S k) (n : Nat) (x : Int) (hx : i64 x) : Ok { S with owner := S.owner.set n x } k :=
  ⟨by show _ = (S.owner.set n x).length; rw [List.length_set]; exact h.held, by show _ = (S.owner.set n x).length; rw [List.length_set]; exact h.wait, h.downs, by show (S.owner.set n x).length ≤ 4 ∧ _; rw [List.length_set]; exact h.most, mem_set h.owner hx, h.waits, h.downsI, fun l hl p hp => by show _ ∧ _ ∧ _ < ((S.owner.set n x).length : Int); rw [List.length_set]; exact h.conds l hl p hp, h.count, h.tot⟩
theorem Ok.setWait {S : St} {k k' : Nat} (h : Ok S k) (n : Nat) (hn : n < S.wait.length) (l : List Int) (hl : ∀ x ∈ l, i64 x) (hk : k + l.length ≤ k' + (S.wait.getD n []).length) : Ok { S with wait := S.wait.set n l } k' :=
  ⟨h.held, by show (S.wait.set n l).length = _; rw [List.length_set]; exact h.wait, h.downs, h.most, h.owner, mem_set h.waits hl, h.downsI, h.conds, h.count, by
    have h1 := lens_set S.wait n l hn
    have h2 := h.tot
    unfold St.tot at h2 ⊢
    show lens (S.wait.set n l) + lens S.conds + lens S.downs ≤ k'
    omega⟩
theorem Ok.setDowns {S : St} {k k' : Nat} (h : Ok S k) (n : Nat) (hn : n < S.downs.length) (l : List Int) (hl : ∀ x ∈ l, i64 x) (hk : k + l.length ≤ k' + (S.downs.getD n []).length) : Ok { S with downs := S.downs.set n l } k' :=
  ⟨h.held, h.wait, by show (S.downs.set n l).length = _; rw [List.length_set]; exact h.downs, h.most, h.owner, h.waits, mem_set h.downsI hl, h.conds, h.count, by
    have h1 := lens_set S.downs n l hn
    have h2 := h.tot
    unfold St.tot at h2 ⊢
    show lens S.wait + lens S.conds + lens (S.downs.set n l) ≤ k'
    omega⟩
theorem Ok.setConds {S : St} {k k' : Nat} (h : Ok S k) (n : Nat) (hn : n < S.conds.length) (l : List (Int × Int)) (hl : ∀ p ∈ l, i64 p.1 ∧ 0 ≤ p.2 ∧ p.2 < S.owner.length) (hk : k + l.length ≤ k' + (S.conds.getD n []).length) : Ok { S with conds := S.conds.set n l } k' :=
  ⟨h.held, h.wait, h.downs, by show _ ∧ (S.conds.set n l).length ≤ 4 ∧ _; rw [List.length_set]; exact h.most, h.owner, h.waits, h.downsI, mem_set h.conds hl, h.count, by
    have h1 := lens_set S.conds n l hn
    have h2 := h.tot
    unfold St.tot at h2 ⊢
    show lens S.wait + lens (S.conds.set n l) + lens S.downs ≤ k'
    omega⟩
theorem Ok.setCount {S : St} {k : Nat} (h : Ok S k) (n : Nat) (x : Int) (hx : 0 ≤ x ∧ x ≤ 1048576) : Ok { S with count := S.count.set n x } k :=
  ⟨h.held, h.wait, by show _ = (S.count.set n x).length; rw [List.length_set]; exact h.downs, by show _ ∧ _ ∧ (S.count.set n x).length ≤ 4; rw [List.length_set]; exact h.most, h.owner, h.waits, h.downsI, h.conds, mem_set h.count hx, h.tot⟩
theorem erase_mem {α : Type} {l : List α} {i : Nat} {p : α → Prop} (h : ∀ x ∈ l, p x) : ∀ x ∈ l.eraseIdx i, p x := fun x hx => h x (List.mem_of_mem_eraseIdx hx)
theorem snoc_mem {α : Type} {l : List α} {y : α} {p : α → Prop} (h : ∀ x ∈ l, p x) (hy : p y) : ∀ x ∈ l ++ [y], p x := fun x hx => by
  rcases List.mem_append.1 hx with hx | hx
  · exact h x hx
  · rw [List.mem_singleton] at hx; rw [hx]; exact hy
theorem Ok.goes1 {S : St} {k : Nat} (h : Ok S k) (p : Int × Int) (hp : i64 p.1 ∧ 0 ≤ p.2 ∧ p.2 < S.owner.length) : Ok (S.goes1 p).1 (k + 1) ∧ (S.goes1 p).1.owner.length = S.owner.length := by
  have hn : p.2.toNat < S.wait.length := by have := h.wait; omega
  unfold St.goes1
  dsimp only
  split
  · exact ⟨h.setWait _ hn _ (snoc_mem (h.waits _ (getD_mem _ _ _ hn)) hp.1) (by simp; omega), rfl⟩
  · exact ⟨(((h.setOwner _ _ hp.1).setHeld _ true)).mono (by omega), List.length_set⟩
theorem goes_snoc : ∀ (l : List (Int × Int)) (S : St) (p : Int × Int), S.goes (l ++ [p]) = (((S.goes l).1.goes1 p).1, (S.goes l).2 ++ ((S.goes l).1.goes1 p).2)
  | [], S, p => by simp [St.goes]
  | q :: r, S, p => by
    rw [List.cons_append, St.goes, St.goes, goes_snoc r]
    simp
theorem Ok.goes : ∀ (l : List (Int × Int)) {S : St} {k : Nat}, Ok S k → (∀ p ∈ l, i64 p.1 ∧ 0 ≤ p.2 ∧ p.2 < S.owner.length) → Ok (S.goes l).1 (k + l.length) ∧ (S.goes l).1.owner.length = S.owner.length
  | [], S, k, h, _ => ⟨h, rfl⟩
  | p :: r, S, k, h, hp => by
    have h1 := h.goes1 p (hp p (by simp))
    have h2 := Ok.goes r h1.1 (fun q hq => by rw [h1.2]; exact hp q (by simp [hq]))
    rw [St.goes, List.length_cons]
    exact ⟨h2.1.mono (by omega), h2.2.trans h1.2⟩
theorem goes_len : ∀ (l : List (Int × Int)) (S : St), (S.goes l).2.length ≤ l.length
  | [], S => Nat.le_refl _
  | p :: r, S => by
    rw [St.goes, List.length_cons]
    have h1 := goes_len r (S.goes1 p).1
    have h2 : (S.goes1 p).2.length ≤ 1 := by
      unfold St.goes1
      dsimp only
      split <;> simp
    simp only [List.length_append]
    omega
theorem signal_all (S : St) (c : Nat) (ch : Int) : S.signal c ch true = ({ S with conds := S.conds.set c [] }).goes (S.conds.getD c []) := rfl
theorem signal_none (S : St) (c : Nat) (ch : Int) (h : S.conds.getD c [] = []) : S.signal c ch false = ({ S with conds := S.conds.set c [] }).goes [] := by
  unfold St.signal St.told St.kept
  rw [h]
  rfl
theorem signal_one (S : St) (c : Nat) (ch : Int) (l : List (Int × Int)) (h : S.conds.getD c [] = l) (h0 : 0 < l.length) : S.signal c ch false = ({ S with conds := S.conds.set c (l.eraseIdx (at_ ch l.length)) }).goes [l.getD (at_ ch l.length) (0, 0)] := by
  unfold St.signal St.told St.kept
  rw [h]
  have : ¬ l.length = 0 := by omega
  simp [this]
theorem open_eq_none (S : St) (n : Nat) (ch : Int) (h : (S.wait.getD n []).length = 0) : S.open n ch = ({ S with held := S.held.set n false }, 0, false) := by
  unfold St.open
  simp only [h, if_true]
theorem open_eq_some (S : St) (n : Nat) (ch : Int) (l : List Int) (h : S.wait.getD n [] = l) (h0 : 0 < l.length) (a : Nat) (ha : at_ ch l.length = a) (x : Int) (hx : l.getD a 0 = x) : S.open n ch = ({ S with owner := S.owner.set n x, wait := S.wait.set n (l.eraseIdx a) }, x, true) := by
  unfold St.open
  have : ¬ l.length = 0 := by omega
  simp only [h, this, if_false, ha, hx]
theorem goes_i64 : ∀ (l : List (Int × Int)) (S : St), (∀ p ∈ l, i64 p.1) → ∀ x ∈ (S.goes l).2, i64 x
  | [], S, _, x, hx => absurd hx (by simp [St.goes])
  | p :: r, S, hp, x, hx => by
    rw [St.goes] at hx
    rcases List.mem_append.1 hx with hx | hx
    · unfold St.goes1 at hx
      simp only at hx
      split at hx
      · simp at hx
      · simp at hx; rw [hx]; exact hp p (by simp)
    · exact goes_i64 r _ (fun q hq => hp q (by simp [hq])) x hx

/-- Bools, and pairs of numbers, as cells. -/
abbrev bv (xs : List Bool) : List Value := xs.map Value.bool
def pr2 : List (Int × Int) → List Value
  | [] => []
  | p :: r => [Value.int .i64 p.1, .int .i64 p.2] ++ pr2 r
theorem pr2_length : ∀ ps, (pr2 ps).length = ps.length * 2
  | [] => rfl
  | p :: r => by rw [pr2, List.length_append, pr2_length r, List.length_cons]; simp; omega
theorem pr2_append : ∀ ps qs, pr2 (ps ++ qs) = pr2 ps ++ pr2 qs
  | [], qs => rfl
  | p :: r, qs => by rw [List.cons_append, pr2, pr2, pr2_append r, List.append_assoc]
theorem pr2_one : ∀ ps, ∀ u ∈ pr2 ps, u.oneCell' = true
  | [], u, h => absurd h (by simp [pr2])
  | p :: r, u, h => by
    rw [pr2] at h
    rcases List.mem_append.1 h with h | h
    · simp at h
      rcases h with rfl | rfl <;> rfl
    · exact pr2_one r u h
theorem pr2_get : ∀ (ps : List (Int × Int)) (k : Nat), k < ps.length → (pr2 ps)[k * 2]? = some (.int .i64 (ps.getD k (0, 0)).1) ∧ (pr2 ps)[k * 2 + 1]? = some (.int .i64 (ps.getD k (0, 0)).2)
  | [], k, h => absurd h (by simp)
  | p :: r, 0, _ => by simp [pr2]
  | p :: r, k + 1, h => by
    have := pr2_get r k (by simp at h; omega)
    rw [pr2, List.getElem?_append_right (by simp; omega), List.getElem?_append_right (by simp; omega)]
    simp only [List.length_cons, List.length_nil, List.getD_cons_succ]
    rw [show (k + 1) * 2 - (0 + 1 + 1) = k * 2 by omega, show (k + 1) * 2 + 1 - (0 + 1 + 1) = k * 2 + 1 by omega]
    exact this
theorem pr2_take : ∀ (ps : List (Int × Int)) (k : Nat), (pr2 ps).take (k * 2) = pr2 (ps.take k)
  | [], k => by simp [pr2]
  | p :: r, 0 => by simp [pr2]
  | p :: r, k + 1 => by
    rw [pr2, List.take_append, List.take_of_length_le (by simp; omega), List.take_succ_cons, pr2, ← pr2_take r k]
    congr 2
    simp
    omega
theorem pr2_drop : ∀ (ps : List (Int × Int)) (k : Nat), (pr2 ps).drop (k * 2) = pr2 (ps.drop k)
  | [], k => by simp [pr2]
  | p :: r, 0 => by simp
  | p :: r, k + 1 => by
    rw [pr2, List.drop_append, List.drop_eq_nil_of_le (by simp; omega), List.nil_append, List.drop_succ_cons, ← pr2_drop r k]
    congr 1
    simp
    omega
theorem pr2_erase (ps : List (Int × Int)) (k : Nat) : pr2 (ps.eraseIdx k) = (pr2 ps).take (k * 2) ++ (pr2 ps).drop ((k + 1) * 2) := by
  rw [pr2_take, pr2_drop, List.eraseIdx_eq_take_drop_succ, pr2_append]
theorem is_one (xs : List Int) : ∀ u ∈ is xs, u.oneCell' = true := fun u hu => by
  obtain ⟨y, _, rfl⟩ := List.mem_map.1 hu
  rfl

/-- The values of the model's fields, and of its rows' rows. -/
structure Vs where
  v0 : Value
  v1 : Value
  v2 : Value
  v3 : Value
  v4 : Value
  v5 : Value
  hv : List Value
  cv : List Value
  dv : List Value
/-- The model in memory. -/
def mdl (bm : Nat) (V : Vs) (S : St) : List Thing :=
  [boxOf bm #[V.v0, V.v1, V.v2, V.v3, V.v4, V.v5] 37, rowOf 3 1 V.v0 S.owner.length (is S.owner), rowOf 4 1 V.v1 S.held.length (bv S.held), nestOf 22 3 1 is V.v2 V.hv S.wait, nestOf 38 40 2 pr2 V.v3 V.cv S.conds, rowOf 3 1 V.v4 S.count.length (is S.count), nestOf 22 3 1 is V.v5 V.dv S.downs]

section
variable {W w w' : World} {bm : Nat} {V : Vs} {S : St} {us : List Thing}
theorem Mdl.head (h : Sep W w (mdl bm V S ++ us)) : Box w bm #[V.v0, V.v1, V.v2, V.v3, V.v4, V.v5] 37 := h.box (by simp [mdl])
theorem Mdl.owner (h : Sep W w (mdl bm V S ++ us)) : w.ownsRow W.heap.size 3 1 V.v0 S.owner.length (is S.owner) := h.row (by simp [mdl])
theorem Mdl.held (h : Sep W w (mdl bm V S ++ us)) : w.ownsRow W.heap.size 4 1 V.v1 S.held.length (bv S.held) := h.row (by simp [mdl])
theorem Mdl.count (h : Sep W w (mdl bm V S ++ us)) : w.ownsRow W.heap.size 3 1 V.v4 S.count.length (is S.count) := h.row (by simp [mdl])
end
end Dk
