/- Rows of records, and maps, as things of a call's own. -/
import Derived.Test.YtjkdaankjondjaaHa
import Derived.Test.YtjkdaankjondjaaWl
import Derived.Test.YtjkdaankjondjaaGn
import Derived.Test.YtjkdaankjondjaaHl
import Derived.Maps.OwnSet
import Derived.Maps.RangeWalk
import Derived.Carry
namespace Dk
set_option linter.unusedSimpArgs false
set_option linter.unusedVariables false
set_option linter.unnecessarySimpa false
open Go Go.RowKit
theorem owns_box_k {w : World} {base b n cap s : Nat} {cur : Array Value} {t : TypeId} {vs : List Value} (h : Dk.Box w b cur t) (hb : base ≤ b) (hc : cur.size = cap * s) (hm : cap ≤ maxLen) (hn : vs.length = n * s) (hl : n ≤ cap) (hv : ∀ j, j < n * s → cur[j]? = vs[j]?) : w.ownsRow base t s (.slice (some ⟨b, 0, none⟩) n cap) n vs := by
  refine ⟨hn, .inr ⟨b, cap, cur, rfl, hb, h.heap, hl, hm, hc, ?_⟩⟩
  apply List.ext_getElem?
  intro j
  rw [List.getElem?_take]
  by_cases hj : j < n * s
  · rw [if_pos hj, Array.getElem?_toList]; exact hv j hj
  · rw [if_neg hj, List.getElem?_eq_none (by omega)]
section
variable {W w w' : World} {t t' : Thing} {ts us us1 us2 : List Thing} {e : TypeId} {q : Nat} {v : Value}
/-- A cell of a row of records: read, and written. -/
theorem row_cellq {B n k : Nat} {xs : List Value} (hr : w.ownsRow B e q v n xs) (hk : k < n * q) : ∃ g C x, v = .slice (some ⟨g, 0, none⟩) n C ∧ n ≤ C ∧ C ≤ maxLen ∧ xs[k]? = some x ∧ w.cell? ⟨g, k, none⟩ = some x ∧ w.frozen? ⟨g, k, none⟩ = false ∧ ∀ y, (w.setCell ⟨g, k, none⟩ y).ownsRow B e q v n (xs.set k y) := by
  obtain ⟨hl, ⟨_, h0⟩ | ⟨g, cap, cur, rfl, hb, hgg, h1, h2, h3, h4⟩⟩ := id hr
  · rw [h0] at hk; omega
  have hx : xs[k]? = some xs[k] := List.getElem?_eq_getElem (by omega)
  have hc := hr.cells (g := g) rfl k _ hx
  rw [Addr.add_lit, Nat.zero_add] at hc
  have bx : Box w g cur e := ⟨hgg⟩
  have hle : n * q ≤ cap * q := Nat.mul_le_mul_right _ h1
  refine ⟨g, cap, _, rfl, h1, h2, hx, hc, bx.frozen k, fun y => ?_⟩
  refine owns_box_k (bx.set k y) hb (by rw [Array.size_setIfInBounds]; exact h3) h2 (by rw [List.length_set]; exact hl) h1 (fun i hi => ?_)
  rw [Array.getElem?_setIfInBounds]
  have hi' : cur[i]? = xs[i]? := by
    rw [← h4, List.getElem?_take, if_pos (by omega), Array.getElem?_toList]
  by_cases hij : k = i
  · subst hij
    rw [if_pos rfl, if_pos (by omega), List.getElem?_set_self (by omega)]
  · rw [if_neg hij, hi', List.getElem?_set_ne hij]
/-- A row of records, beside others, is written. -/
theorem Sep.cellq {n k : Nat} {xs : List Value} (h : Sep W w (us1 ++ rowOf e q v n xs :: us2)) (hk : k < n * q) : ∃ g C x, v = .slice (some ⟨g, 0, none⟩) n C ∧ n ≤ C ∧ C ≤ maxLen ∧ xs[k]? = some x ∧ w.cell? ⟨g, k, none⟩ = some x ∧ w.frozen? ⟨g, k, none⟩ = false ∧ ∀ y, Sep W (w.setCell ⟨g, k, none⟩ y) (us1 ++ rowOf e q v n (xs.set k y) :: us2) := by
  have hr := h.row (e := e) (s := q) (v := v) (n := n) (xs := xs) (by simp)
  obtain ⟨g, C, x, ev, h1, h2, hx, hc, hf, hs⟩ := row_cellq hr hk
  refine ⟨g, C, x, ev, h1, h2, hx, hc, hf, fun y => ?_⟩
  refine Sep.turn (t := rowOf e q v n xs) (t' := rowOf e q v n (xs.set k y)) h ?_ (owns_base (hs y) (Nat.zero_le _)) (fun j hj => .inl hj)
  subst ev
  exact (Away.refl (rowOf e q (.slice (some ⟨g, 0, none⟩) n C) n xs).own w).set (b := g) (.inl rfl) _ _
/-- The same at a place that is known. -/
theorem Sep.cellg {n k g C : Nat} {x : Value} {xs : List Value} (h : Sep W w (us1 ++ rowOf e q (.slice (some ⟨g, 0, none⟩) n C) n xs :: us2)) (hl : xs.length = n * q) (hx : xs[k]? = some x) : w.cell? ⟨g, k, none⟩ = some x ∧ w.frozen? ⟨g, k, none⟩ = false ∧ ∀ y, Sep W (w.setCell ⟨g, k, none⟩ y) (us1 ++ rowOf e q (.slice (some ⟨g, 0, none⟩) n C) n (xs.set k y) :: us2) := by
  obtain ⟨g', C', x', ev, h1, h2, hx', hc, hf, hs⟩ := h.cellq (k := k) (by rw [← hl]; exact some_lt hx)
  cases ev
  rw [hx] at hx'
  cases hx'
  exact ⟨hc, hf, hs⟩
theorem Sep.rowLen {n : Nat} {xs : List Value} (h : Sep W w ts) (ht : rowOf e q v n xs ∈ ts) : xs.length = n * q := (h.row ht).1
/-- A new row. -/
theorem Sep.addRow {n : Nat} {xs : List Value} (h : Sep W w ts) (b : Below w.heap.size w w') (hr : w'.ownsRow w.heap.size e q v n xs) : Sep W w' (rowOf e q v n xs :: ts) :=
  h.add b (owns_base hr (Nat.zero_le _)) (fun k hk => (World.ownsRow.lt hr k hk).1)
end
end Dk

namespace Go.Proofs.Ytjkdaankjondjaa
set_option linter.unusedSimpArgs false
set_option linter.unusedVariables false
set_option linter.unnecessarySimpa false
open Go.RowKit Go.Maps

theorem law3 : Keyed Try.prog 3 := int_keyed Try.underlying3
theorem zero3 (w : World) : (zeroValue 3).run Try.prog w = .ok (.int .i64 0) w := by kernel_rfl
theorem wf_of {x : Int} (h : Dk.i64 x) : (Lit.int .i64 x).wf = true := by
  unfold Dk.i64 at h
  exact WalkArith.wf_i64 (by omega)
/-- A block is a map that tells of some pairs. -/
def Told (w : World) (bm : Nat) (L : List (Int × Int)) : Prop := ∃ D : DataW Unit, w.ownsMap Try.prog 3 (plainElem Try.prog 3) bm L.length D ∧ Dk.Tells D L ∧ Maps.size D = L.length
theorem Told.lt {w : World} {bm : Nat} {L : List (Int × Int)} (h : Told w bm L) : bm < w.heap.size := by
  obtain ⟨D, h, _⟩ := h
  exact h.lt
theorem Told.of_block {w w' : World} {bm : Nat} {L : List (Int × Int)} (h : Told w bm L) (e : w'.heap[bm]? = w.heap[bm]?) : Told w' bm L := by
  obtain ⟨D, ⟨es, clock, hb, r⟩, ht⟩ := h
  exact ⟨D, ⟨es, clock, e.trans hb, r⟩, ht⟩
def mapOf (bm : Nat) (L : List (Int × Int)) : Dk.Thing := {
  own := fun k => k = bm
  holds := fun w => Told w bm L
  local_ := fun w w' h hk => h.of_block (hk bm rfl)
  lt := fun w h k hk => hk ▸ h.lt }
theorem tight {w : World} {b n : Nat} {D : DataW Unit} (h : w.ownsMap Try.prog 3 (plainElem Try.prog 3) b n D) : w.ownsMap Try.prog 3 (plainElem Try.prog 3) b (Maps.size D) D := by
  obtain ⟨es, clock, hb, F, hs, e⟩ := h
  refine ⟨es, clock, hb, F, ?_, e⟩
  rw [e]
  simp [Maps.size, length_sorted]
theorem Told.look {w : World} {bm : Nat} {L : List (Int × Int)} (h : Told w bm L) {x c : Int} (hi : Dk.i64 x) (hx : (x, c) ∈ L) : (Instr.lookup 64 (.map (some bm)) (.int .i64 x) false).run Try.prog w = .ok (.int .i64 c) w := by
  obtain ⟨D, ho, ht, _⟩ := h
  obtain ⟨es, clock, hb, F, _, rfl⟩ := id ho
  rcases Maps.fit_look false law3 Try.underlying64 (zero3 w) hb F (keyOf_int_mk Try.underlying3 (wf_of hi)) with ⟨hrun, _, hat⟩ | ⟨e0, y, _, _, hrun, hRv, hat, _⟩
  · have := ht.has hx
    rw [Maps.has_false_of_atKey hat] at this
    cases this
  · have h1 := ht.yes _ hx (.lit (.int .i64 0))
    rw [hat] at h1
    obtain ⟨a, ea, e, _⟩ := plainElem_int_inv Try.underlying3 hRv
    rw [e] at h1
    simp at h1
    rw [h1] at ea
    rw [hrun, ea]
    rfl
theorem Told.put {w : World} {bm : Nat} {L : List (Int × Int)} (h : Told w bm L) {x c : Int} (hi : Dk.i64 x) (hc : Dk.i64 c) (hx : x ∉ Dk.keysOf L) (hl : L.length ≤ 1000) :
    ∃ w', (Instr.mapUpdate 64 (.map (some bm)) (.int .i64 x) (.int .i64 c)).run Try.prog w = .ok () w' ∧ Told w' bm (L ++ [(x, c)]) ∧ w.grownBy w' (some bm) := by
  obtain ⟨D, ho, ht, hs⟩ := h
  obtain ⟨w', hr, ho', hg⟩ := ho.update law3 Try.underlying64 (by unfold maxLen; omega) (keyOf_int_mk Try.underlying3 (wf_of hi)) (plainElem_int Try.underlying3 (wf_of hc))
  refine ⟨w', hr, ⟨_, by rw [List.length_append]; exact ho', ht.put hx, ?_⟩, hg⟩
  rw [Maps.size_put (ho.tidy law3), ht.no x hx]
  simp [hs]
theorem Told.del {w : World} {bm : Nat} {L : List (Int × Int)} (h : Told w bm L) {x c : Int} {k : Nat} (hi : Dk.i64 x) (hk : L[k]? = some (x, c)) :
    ∃ w', (Builtin.delete_ #[64, 3] 0 #[.map (some bm), .int .i64 x]).run Try.prog w = .ok (.tuple #[]) w' ∧ Told w' bm (L.eraseIdx k) ∧ w.grownBy w' (some bm) := by
  obtain ⟨D, ho, ht, hs⟩ := h
  have hkl := Dk.some_lt hk
  obtain ⟨w', hr, ho', hg⟩ := ho.drop law3 Try.underlying64 (keyOf_int_mk Try.underlying3 (wf_of hi)) 0
  have hsz := Maps.size_del (k := .int .i64 x) (ho.tidy law3)
  rw [ht.has (List.mem_of_getElem? hk)] at hsz
  have hel : (L.eraseIdx k).length = L.length - 1 := by rw [List.length_eraseIdx, if_pos hkl]
  have hf : (L.filter fun p => p.1 != x) = L.eraseIdx k := by
    have hn := ht.nodup
    have e := List.getElem?_eq_some_iff.1 hk
    have es : L = L.take k ++ (x, c) :: L.drop (k + 1) := by
      rw [← e.2, List.getElem_cons_drop, List.take_append_drop]
    rw [List.eraseIdx_eq_take_drop_succ]
    conv => lhs; rw [es]
    rw [es] at hn
    unfold Dk.keysOf at hn
    rw [List.map_append, List.map_cons] at hn
    have hn2 := List.nodup_append.1 hn
    have hn3 := List.nodup_cons.1 hn2.2.1
    rw [List.filter_append, List.filter_cons_of_neg (by simp), List.filter_eq_self.2 (fun p hp => ?_), List.filter_eq_self.2 (fun p hp => ?_)]
    · have h3 : x ∉ (L.drop (k + 1)).map Prod.fst := hn3.1
      have : p.1 ≠ x := fun ee => h3 (by rw [← ee]; exact List.mem_map_of_mem hp)
      simpa using this
    · have : p.1 ≠ x := fun ee => hn2.2.2 p.1 (List.mem_map_of_mem hp) x (by simp) ee
      simpa using this
  refine ⟨w', hr, ⟨_, ?_, by rw [← hf]; exact ht.del x, ?_⟩, hg.grown⟩
  · have := tight ho'
    rw [show Maps.size (D.del (.int .i64 x)) = (L.eraseIdx k).length by simp at hsz; omega] at this
    exact this
  · simp at hsz
    omega
theorem Told.made (w : World) : Told (w.alloc (.map #[] 0)) w.heap.size [] := ⟨.map [], World.ownsMap_made w Try.prog 3 _, Dk.Tells.empty, rfl⟩
end Go.Proofs.Ytjkdaankjondjaa
