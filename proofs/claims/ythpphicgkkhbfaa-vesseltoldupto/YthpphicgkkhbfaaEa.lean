/- Events: plain mathematics, and how lists of them lie in memory. -/
import Derived.Test.YthpphicgkkhbfaaTh
import Derived.Test.YthpphicgkkhbfaaOpd
import Derived.Deep.Upon
namespace Dk
set_option linter.unusedSimpArgs false
set_option linter.unusedVariables false
set_option linter.unnecessarySimpa false
open Go Go.RowKit

/-- An event. -/
structure Ev where
  k : Int
  t : Int
  m : Int
def Ev.zero : Ev := ⟨0, 0, 0⟩
def Ev.ok (e : Ev) : Prop := i64 e.k ∧ i64 e.t ∧ i64 e.m
abbrev Ev.cells (e : Ev) : List Value := [.int .i64 e.k, .int .i64 e.t, .int .i64 e.m]
abbrev Ev.v (e : Ev) : Value := .agg #[.int .i64 e.k, .int .i64 e.t, .int .i64 e.m]
def evs : List Ev → List Value
  | [] => []
  | r :: l => r.cells ++ evs l
theorem evs_length : ∀ rs, (evs rs).length = rs.length * 3
  | [] => rfl
  | p :: r => by rw [evs, List.length_append, evs_length r, List.length_cons]; simp [Ev.cells]; omega
theorem evs_append : ∀ ps qs, evs (ps ++ qs) = evs ps ++ evs qs
  | [], qs => rfl
  | p :: r, qs => by rw [List.cons_append, evs, evs, evs_append r, List.append_assoc]
theorem evs_one : ∀ ps, ∀ u ∈ evs ps, u.oneCell' = true
  | [], u, h => absurd h (by simp [evs])
  | p :: r, u, h => by
    rw [evs] at h
    rcases List.mem_append.1 h with h | h
    · simp [Ev.cells] at h
      rcases h with rfl | rfl | rfl <;> rfl
    · exact evs_one r u h
set_option maxRecDepth 100000 in
theorem evs_get : ∀ (ps : List Ev) (k : Nat), k < ps.length → ∀ j, j < 3 → (evs ps)[k * 3 + j]? = (ps.getD k Ev.zero).cells[j]?
  | [], k, h => absurd h (by simp)
  | p :: r, 0, _ => fun j hj => by
    rw [evs, List.getElem?_append_left (by simp [Ev.cells]; omega), Nat.zero_mul, Nat.zero_add]
    rfl
  | p :: r, k + 1, h => fun j hj => by
    have := evs_get r k (by simp at h; omega) j hj
    rw [evs, List.getElem?_append_right (by simp [Ev.cells]; omega)]
    simp only [Ev.cells, List.length_cons, List.length_nil, List.getD_cons_succ]
    rw [show (k + 1) * 3 + j - (0 + 1 + 1 + 1) = k * 3 + j by omega]
    exact this

/-- Events as they are read. -/
structure SlE (B : Nat) (w : World) (A : Option Addr) (L C : Nat) (es : List Ev) : Prop where
  len : es.length = L
  cap : L ≤ C
  max : C ≤ maxLen
  wf : ∀ e ∈ es, e.ok
  cells : 0 < L → ∃ b o, A = some ⟨b, o, none⟩ ∧ b < B ∧ ∀ k, k < L → ∀ j, j < 3 → w.cell? ⟨b, o + k * 3 + j, none⟩ = (es.getD k Ev.zero).cells[j]?
theorem SlE.below {B B' : Nat} {w w' : World} {A : Option Addr} {L C : Nat} {xs : List Ev} (h : SlE B w A L C xs) (hb : Below B' w w') (hB : B ≤ B') : SlE B w' A L C xs :=
  ⟨h.len, h.cap, h.max, h.wf, fun h0 => by
    obtain ⟨b, o, h1, h2, h3⟩ := h.cells h0
    exact ⟨b, o, h1, h2, fun k hk j hj => by rw [hb.cell (by show b < B'; omega)]; exact h3 k hk j hj⟩⟩
theorem SlE.more {B B' : Nat} {w : World} {A : Option Addr} {L C : Nat} {xs : List Ev} (h : SlE B w A L C xs) (hB : B ≤ B') : SlE B' w A L C xs :=
  ⟨h.len, h.cap, h.max, h.wf, fun h0 => by
    obtain ⟨b, o, h1, h2, h3⟩ := h.cells h0
    exact ⟨b, o, h1, by omega, h3⟩⟩
theorem SlE.up {w w' : World} {A : Option Addr} {L C : Nat} {xs : List Ev} (h : SlE w.heap.size w A L C xs) (u : Below w.heap.size w w') : SlE w'.heap.size w' A L C xs := (h.below u (Nat.le_refl _)).more u.size
/-- One event, as it lies. -/
theorem SlE.at {B : Nat} {w : World} {A : Option Addr} {L C : Nat} {xs : List Ev} (h : SlE B w A L C xs) {k : Nat} (hk : k < L) : ∃ b o, A = some ⟨b, o, none⟩ ∧ b < B ∧ (xs.getD k Ev.zero).ok ∧ w.cell? ⟨b, o + k * 3, none⟩ = some (.int .i64 (xs.getD k Ev.zero).k) ∧ w.cell? ⟨b, o + k * 3 + 1, none⟩ = some (.int .i64 (xs.getD k Ev.zero).t) ∧ w.cell? ⟨b, o + k * 3 + 2, none⟩ = some (.int .i64 (xs.getD k Ev.zero).m) := by
  obtain ⟨b, o, e, hb, hc⟩ := h.cells (by omega)
  have hl := h.len
  have hk' : k < xs.length := by omega
  refine ⟨b, o, e, hb, h.wf _ (by simp [List.getD, hk']), hc k hk 0 (by omega), hc k hk 1 (by omega), hc k hk 2 (by omega)⟩
/-- The first so many. -/
theorem SlE.take {B : Nat} {w : World} {A : Option Addr} {L C : Nat} {xs : List Ev} (h : SlE B w A L C xs) {k : Nat} (hk : k ≤ L) : SlE B w A k C (xs.take k) :=
  ⟨by rw [List.length_take, h.len]; omega, Nat.le_trans hk h.cap, h.max, fun e he => h.wf e (List.mem_of_mem_take he), fun h0 => by
    obtain ⟨b, o, h1, h2, h3⟩ := h.cells (by omega)
    refine ⟨b, o, h1, h2, fun i hi j hj => ?_⟩
    rw [h3 i (by omega) j hj]
    simp [List.getD, hi]⟩
set_option maxRecDepth 100000 in
/-- What is behind. -/
theorem SlE.drop {B : Nat} {w : World} {b o : Nat} {L C : Nat} {xs : List Ev} (h : SlE B w (some ⟨b, o, none⟩) L C xs) {k : Nat} (hk : k ≤ L) : SlE B w (some ⟨b, o + k * 3, none⟩) (L - k) (C - k) (xs.drop k) := by
  have h1 := h.len
  have h2 := h.cap
  have h3 := h.max
  refine ⟨by rw [List.length_drop]; omega, by omega, by omega, fun e he => h.wf e (List.mem_of_mem_drop he), fun h0 => ?_⟩
  obtain ⟨b', o', e, hlt, hc⟩ := h.cells (by omega)
  cases e
  refine ⟨b, o + k * 3, rfl, hlt, fun i hi j hj => ?_⟩
  have := hc (k + i) (by omega) j hj
  rw [show o + k * 3 + i * 3 + j = o + (k + i) * 3 + j by omega, this]
  simp [List.getD, List.getElem?_drop]
/-- Nothing is behind the last. -/
theorem SlE.none_ {B : Nat} {w : World} {A : Option Addr} {C : Nat} {xs : List Ev} (h : xs = []) (hC : C ≤ maxLen) : SlE B w A 0 C xs := ⟨by rw [h]; rfl, Nat.zero_le _, hC, fun e he => absurd he (by rw [h]; simp), fun h0 => absurd h0 (by omega)⟩
set_option maxRecDepth 100000 in
/-- Events as an argument. -/
theorem row_sle {B : Nat} {w : World} {A : Option Addr} {L C : Nat} {xs : List (List Int)} (h : Row 3 [] IsInts B w A L C xs) : ∃ es : List Ev, SlE B w A L C es := by
  refine ⟨xs.map fun l => ⟨l.getD 0 0, l.getD 1 0, l.getD 2 0⟩, by rw [List.length_map]; exact h.len, h.cap, h.max, fun e he => ?_, fun h0 => ?_⟩
  · obtain ⟨l, hl, rfl⟩ := List.mem_map.1 he
    obtain ⟨j, hj, rfl⟩ := List.getElem_of_mem hl
    have hL := h.len
    obtain ⟨b, o, _, _, hc⟩ := h.cells (by omega)
    obtain ⟨vs, h1, ⟨h2, h3⟩, _⟩ := hc j (by omega)
    have e : xs.getD j [] = xs[j] := by simp [List.getD, hj]
    rw [e] at h2 h3
    have hl3 : xs[j].length = 3 := by rw [h2, List.length_map] at h1; exact h1
    generalize xs[j] = l at h3 hl3
    match l, hl3 with
    | [x, y, z], _ => exact ⟨h3 x (by simp), h3 y (by simp), h3 z (by simp)⟩
  · obtain ⟨b, o, e, hb, hc⟩ := h.cells h0
    refine ⟨b, o, e, hb, fun k hk j hj => ?_⟩
    obtain ⟨vs, h1, ⟨h2, h3⟩, h4⟩ := hc k hk
    rw [h4 j hj, h2]
    have hL := h.len
    have e : (xs.map fun l : List Int => (⟨l.getD 0 0, l.getD 1 0, l.getD 2 0⟩ : Ev)).getD k Ev.zero = ⟨(xs.getD k []).getD 0 0, (xs.getD k []).getD 1 0, (xs.getD k []).getD 2 0⟩ := by
      have : k < xs.length := by omega
      simp [List.getD, this]
    rw [e]
    have hl3 : (xs.getD k []).length = 3 := by rw [h2, List.length_map] at h1; exact h1
    generalize xs.getD k [] = l at hl3
    match l, hl3 with
    | [x, y, z], _ => rfl
set_option maxRecDepth 100000 in
/-- A row of events that is owned, as it is read. -/
theorem owns_evs {w : World} {base : Nat} {e : TypeId} {v : Value} {n : Nat} {xs : List Ev} (h : w.ownsRow base e 3 v n (evs xs)) (hn : xs.length = n) (hx : ∀ x ∈ xs, x.ok) : ∃ A C, v = .slice A n C ∧ SlE w.heap.size w A n C xs := by
  obtain ⟨_, h | ⟨g, cap, cur, rfl, hb, hg, hc, hm, hs, ht⟩⟩ := h
  · obtain ⟨rfl, h0⟩ := h
    subst h0
    exact ⟨none, 0, rfl, hn, Nat.le_refl _, Nat.zero_le _, hx, fun h => absurd h (by omega)⟩
  · refine ⟨_, cap, rfl, hn, hc, hm, hx, fun h0 => ⟨g, 0, rfl, (Array.getElem?_eq_some_iff.1 hg).1, fun k hk j hj => ?_⟩⟩
    have hbx : Box w g cur e := ⟨hg⟩
    rw [hbx.cell, Nat.zero_add, ← evs_get xs k (by omega) j hj, ← ht, List.getElem?_take, if_pos (by omega), Array.getElem?_toList]

set_option maxRecDepth 100000 in
/-- What 'append' leaves, and where: of whatever bytes fit. -/
theorem SlK.appendW {P : Go.Program} {t e : TypeId} {z : Value} {s bytes : Nat} (K : SlK P t e z s bytes) (B : Nat) (ty : TypeId) (v : Value) (xs : List Value) (n : Nat) (w : World) (hown : w.ownsRow B e s v n xs) (a : Addr) (m c : Nat) (news : List Value) (hl : news.length = m * s) (hnews : ∀ j u, news[j]? = some u → w.cell? (a.add j) = some u) (h1 : ∀ u ∈ news, u.oneCell' = true)
    (h63 : n + m ≤ maxLen) (h : (n + m) * bytes ≤ 140737488355328) (hB : B ≤ w.heap.size) :
    ∃ v' w', (Builtin.append_ #[t, t] ty #[v, .slice (some a) m c]).run P w = .ok v' w' ∧ w'.ownsRow B e s v' (n + m) (xs ++ news) ∧ w.grownBy w' v.ownBlock ∧ From w v v' ∧ (v' = .slice none 0 0 ↔ v = .slice none 0 0 ∧ m = 0) := by
  obtain ⟨i0, hi0, hz0, hz1, hz2⟩ := info_parts K.info
  have hb3 : m * bytes ≤ 140737488355328 := Nat.le_trans (Nat.mul_le_mul_right _ (by omega)) h
  have hl1 : news.length = m * i0.size := by rw [hz1]; exact hl
  obtain ⟨v', w', hr, ho, hg, hi⟩ := run_append_own (P := P) w B t ty e i0 z s bytes K.und hi0 hz0 hz1 hz2 K.cells K.pos v n xs hown a m c news hl hnews h1 h63 h hB
  have hmm : m ≤ maxLen := by omega
  refine ⟨v', w', hr, ho, hg, ?_, hi⟩
  obtain ⟨hxl, ⟨rfl, rfl⟩ | ⟨g, cap, cur, rfl, hb, hgg, hn, hm, hs, ht⟩⟩ := id hown
  · by_cases hm : m = 0
    · rw [hi.2 ⟨rfl, hm⟩]
      exact From.refl _ _
    · have hr2 := run_append_nil (P := P) w t ty e i0 z K.und hi0 hz0 a m c news hl1 hnews (by omega) (by unfold maxLen at hmm; omega) (by rw [hz2]; omega)
      rw [hr] at hr2
      injection hr2 with e1 e2
      subst e1
      exact fun k hk => .inr (by simp [Value.ownBlock] at hk; omega)
  · by_cases hroom : n + m ≤ cap
    · have hr2 := run_append_room (P := P) w t ty e i0 K.und hi0 g n cap cur hgg a m c news hl1 hnews h1 hroom (by
        rw [hz1, hl, hs, ← Nat.add_mul]
        exact Nat.mul_le_mul_right _ hroom)
      rw [hr] at hr2
      injection hr2 with e1 e2
      subst e1
      exact From.same _ rfl
    · have holds : ∀ j u, xs[j]? = some u → w.cell? ((⟨g, 0, none⟩ : Addr).add j) = some u := hown.cells (g := g) rfl
      have hr2 := run_append_grow (P := P) w t ty e i0 z K.und hi0 hz0 ⟨g, 0, none⟩ n cap xs (by rw [hz1]; exact hxl) holds a m c news hl1 hnews (by omega) (by unfold maxLen at h63; omega) (growslice_fits (by omega) (by rw [hz2]; exact h))
      rw [hr] at hr2
      injection hr2 with e1 e2
      subst e1
      exact fun k hk => .inr (by simp [Value.ownBlock] at hk; omega)

section
variable {W w w' : World} {us us1 us2 : List Thing} {P : Go.Program} {ty e : TypeId}
/-- No row. -/
theorem Sep.nilRow (h : Sep W w us) (e : TypeId) (s : Nat) : Sep W w (rowOf e s (.slice none 0 0) 0 [] :: us) :=
  h.add (Below.refl _ _) ⟨by simp, .inl ⟨rfl, rfl⟩⟩ (fun k hk => by simp [rowOf, Value.ownBlock] at hk)
/-- Some cells at an address are appended. -/
theorem Sep.appendAt {z : Value} {s bytes n m c : Nat} {v : Value} {xs news : List Value} {a : Addr} (K : SlK P ty e z s bytes) (h : Sep W w (us1 ++ rowOf e s v n xs :: us2)) (hl : news.length = m * s) (hc : ∀ j u, news[j]? = some u → w.cell? (a.add j) = some u) (h1 : ∀ u ∈ news, u.oneCell' = true) (h63 : n + m ≤ maxLen) (hb : (n + m) * bytes ≤ 140737488355328) :
    ∃ v' w', (Builtin.append_ #[ty, ty] ty #[v, .slice (some a) m c]).run P w = .ok v' w' ∧ Sep W w' (us1 ++ rowOf e s v' (n + m) (xs ++ news) :: us2) ∧ (v' = .slice none 0 0 ↔ v = .slice none 0 0 ∧ m = 0) := by
  obtain ⟨v', w', hrun, ho, hg, hf, hnil⟩ := K.appendW W.heap.size ty v xs n w (h.row (by simp)) a m c news hl hc h1 h63 hb h.out.size
  exact ⟨v', w', hrun, h.turn (Away.of_grown hg (fun k hk => .inl hk)) (owns_base ho (Nat.zero_le _)) (fun k hk => hf k hk), hnil⟩
set_option maxRecDepth 100000 in
/-- One number is appended. -/
theorem Sep.appendI {bytes n : Nat} {v : Value} {xs : List Int} {x : Int} (K : SlK P ty e (.int .i64 0) 1 bytes) (h : Sep W w (us1 ++ rowOf e 1 v n (is xs) :: us2)) (h63 : n + 1 ≤ maxLen) (hb : (n + 1) * bytes ≤ 140737488355328) :
    ∃ v' w', (Builtin.append_ #[ty, ty] ty #[v, .slice (some ⟨w.heap.size, 0, none⟩) 1 1]).run P (w.alloc (.cells #[.int .i64 x] e)) = .ok v' w' ∧ Sep W w' (us1 ++ rowOf e 1 v' (n + 1) (is (xs ++ [x])) :: us2) := by
  have s1 := h.below (w' := w.alloc (.cells #[.int .i64 x] e)) (Dk.up_alloc (Below.refl _ _) _)
  obtain ⟨v', w', hr, hS, _⟩ := s1.appendAt (m := 1) (c := 1) (news := [.int .i64 x]) (a := ⟨w.heap.size, 0, none⟩) K rfl (fun j u hj => by
    rw [Addr.add_lit, Nat.zero_add, (Box.new w #[.int .i64 x] e).cell]
    match j, hj with
    | 0, hj => simpa using hj) (fun u hu => by simp at hu; rw [hu]; rfl) h63 hb
  refine ⟨v', w', hr, ?_⟩
  rw [show is (xs ++ [x]) = is xs ++ [.int .i64 x] from by simp]
  exact hS
set_option maxRecDepth 100000 in
/-- One event is appended. -/
theorem Sep.appendE {z : Value} {bytes n : Nat} {v : Value} {xs : List Ev} {x : Ev} (K : SlK P ty e z 3 bytes) (h : Sep W w (us1 ++ rowOf e 3 v n (evs xs) :: us2)) (h63 : n + 1 ≤ maxLen) (hb : (n + 1) * bytes ≤ 140737488355328) :
    ∃ v' w', (Builtin.append_ #[ty, ty] ty #[v, .slice (some ⟨w.heap.size, 0, none⟩) 1 1]).run P (w.alloc (.cells #[.int .i64 x.k, .int .i64 x.t, .int .i64 x.m] e)) = .ok v' w' ∧ Sep W w' (us1 ++ rowOf e 3 v' (n + 1) (evs (xs ++ [x])) :: us2) := by
  have s1 := h.below (w' := w.alloc (.cells #[.int .i64 x.k, .int .i64 x.t, .int .i64 x.m] e)) (Dk.up_alloc (Below.refl _ _) _)
  obtain ⟨v', w', hr, hS, _⟩ := s1.appendAt (m := 1) (c := 1) (news := x.cells) (a := ⟨w.heap.size, 0, none⟩) K rfl (fun j u hj => by
    rw [Addr.add_lit, Nat.zero_add, (Box.new w #[.int .i64 x.k, .int .i64 x.t, .int .i64 x.m] e).cell]
    match j, hj with
    | 0, hj => simpa using hj
    | 1, hj => simpa using hj
    | 2, hj => simpa using hj) (fun u hu => by
      simp [Ev.cells] at hu
      rcases hu with rfl | rfl | rfl <;> rfl) h63 hb
  refine ⟨v', w', hr, ?_⟩
  rw [evs_append]
  exact hS
set_option maxRecDepth 100000 in
/-- Events are appended. -/
theorem Sep.appendEs {z : Value} {bytes n m c : Nat} {v : Value} {xs ys : List Ev} {A : Option Addr} (K : SlK P ty e z 3 bytes) (h : Sep W w (us1 ++ rowOf e 3 v n (evs xs) :: us2)) (hn : xs.length = n) (hy : SlE w.heap.size w A m c ys) (h63 : n + m ≤ maxLen) (hb : (n + m) * bytes ≤ 140737488355328) :
    ∃ v' w', (Builtin.append_ #[ty, ty] ty #[v, .slice A m c]).run P w = .ok v' w' ∧ Sep W w' (us1 ++ rowOf e 3 v' (n + m) (evs (xs ++ ys)) :: us2) := by
  cases A with
  | none =>
    have hm : m = 0 := by
      cases m with
      | zero => rfl
      | succ m => obtain ⟨b, o, e, _⟩ := hy.cells (by omega); cases e
    subst hm
    have e0 : ys = [] := List.eq_nil_of_length_eq_zero hy.len
    subst e0
    obtain ⟨i0, hi0, hz0, hz1, hz2⟩ := info_parts K.info
    obtain ⟨A, C, ev, hc, hM⟩ := owns_slice (h.row (e := e) (s := 3) (v := v) (n := n) (xs := evs xs) (by simp))
    refine ⟨v, w, ?_, by simpa using h⟩
    rw [ev]
    exact run_append_nothing w ty ty ty e i0 K.und hi0 A n C hc _ (Src.ofNil w K.und c)
  | some a =>
    obtain ⟨v', w', hr, hS, _⟩ := h.appendAt (m := m) (c := c) (news := evs ys) (a := a) K (by rw [evs_length, hy.len]) (fun j u hj => by
      by_cases hm : m = 0
      · have e0 : ys = [] := List.eq_nil_of_length_eq_zero (by rw [hy.len, hm])
        subst e0
        simp [evs] at hj
      · obtain ⟨b, o, e1, _, hc⟩ := hy.cells (by omega)
        cases e1
        have hjl : j < m * 3 := by
          have := (List.getElem?_eq_some_iff.1 hj).1
          rw [evs_length, hy.len] at this
          exact this
        rw [Addr.add_lit, ← hj, show o + j = o + (j / 3) * 3 + j % 3 by omega, hc (j / 3) (by omega) (j % 3) (by omega), ← evs_get ys (j / 3) (by rw [hy.len]; omega) (j % 3) (by omega), show j / 3 * 3 + j % 3 = j by omega]) (evs_one ys) h63 hb
    refine ⟨v', w', hr, ?_⟩
    rw [evs_append]
    exact hS
end
end Dk
