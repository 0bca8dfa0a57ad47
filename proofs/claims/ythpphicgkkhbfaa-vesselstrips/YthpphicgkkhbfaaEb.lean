/- Layer 14: what an event says, its threads, those that may run, those that count again. -/
import Derived.Test.YthpphicgkkhbfaaEa
import Derived.Test.YthpphicgkkhbfaaUp
import Derived.Test.YthpphicgkkhbfaaDr
import Derived.OwnWalk
import Derived.Laws.OwnMore
import Derived.KernelRfl
namespace Dk
set_option linter.unusedSimpArgs false
set_option linter.unusedVariables false
set_option linter.unnecessarySimpa false
def Ev.runs (e : Ev) : Bool := decide (0 ≤ e.t) && decide (e.m ≤ 0) && (e.k == 3 || e.k == 4)
def Ev.within (e : Ev) : Bool := decide (0 < e.m)
def Ev.has (e : Ev) : Bool := decide (0 ≤ e.t)
def tellL (p : Ev → Bool) (es : List Ev) : List Int := (es.filter p).map Ev.t
def Ev.kept (e : Ev) : Bool := e.runs || e.within
def keepL (es : List Ev) : List Ev := es.filter Ev.kept
theorem tellL_len (p : Ev → Bool) (es : List Ev) : (tellL p es).length ≤ es.length := by
  unfold tellL; rw [List.length_map]; exact List.length_filter_le _ _
theorem keepL_len (es : List Ev) : (keepL es).length ≤ es.length := List.length_filter_le _ _
theorem take_succ_getD {α : Type} (l : List α) (d : α) (k : Nat) (h : k < l.length) : l.take (k + 1) = l.take k ++ [l.getD k d] := by
  rw [List.take_add_one, List.getElem?_eq_getElem h]; simp [List.getD, h]
theorem tellL_yes {p : Ev → Bool} {es : List Ev} {k : Nat} (h : k < es.length) (hp : p (es.getD k Ev.zero) = true) : tellL p (es.take (k + 1)) = tellL p (es.take k) ++ [(es.getD k Ev.zero).t] := by
  rw [take_succ_getD es Ev.zero k h]; unfold tellL; rw [List.filter_append, List.filter_cons_of_pos hp, List.filter_nil, List.map_append]; rfl
theorem tellL_no {p : Ev → Bool} {es : List Ev} {k : Nat} (h : k < es.length) (hp : p (es.getD k Ev.zero) = false) : tellL p (es.take (k + 1)) = tellL p (es.take k) := by
  rw [take_succ_getD es Ev.zero k h]; unfold tellL; rw [List.filter_append, List.filter_cons_of_neg (by rw [hp]; simp), List.filter_nil, List.append_nil]
theorem keepL_yes {es : List Ev} {k : Nat} (h : k < es.length) (hp : (es.getD k Ev.zero).kept = true) : keepL (es.take (k + 1)) = keepL (es.take k) ++ [es.getD k Ev.zero] := by
  rw [take_succ_getD es Ev.zero k h]; unfold keepL; rw [List.filter_append, List.filter_cons_of_pos hp, List.filter_nil]
theorem keepL_no {es : List Ev} {k : Nat} (h : k < es.length) (hp : (es.getD k Ev.zero).kept = false) : keepL (es.take (k + 1)) = keepL (es.take k) := by
  rw [take_succ_getD es Ev.zero k h]; unfold keepL; rw [List.filter_append, List.filter_cons_of_neg (by rw [hp]; simp), List.filter_nil, List.append_nil]
end Dk
namespace Go.Proofs.Ythpphicgkkhbfaa
set_option linter.unusedSimpArgs false
set_option linter.unusedVariables false
set_option linter.unnecessarySimpa false
open Go.RowKit Go.Lib
set_option maxRecDepth 100000 in
theorem infoI : (Try.prog.info? 3).map (fun i => (i.zero, i.size, i.bytes)) = some (some (.int .i64 0), 1, 8) := by kernel_rfl
set_option maxRecDepth 100000 in
theorem infoE : (Try.prog.info? 36).map (fun i => (i.zero, i.size, i.bytes)) = some (some (.agg #[.int .i64 0, .int .i64 0, .int .i64 0]), 3, 24) := by kernel_rfl
theorem KE : Dk.SlK Try.prog 22 36 (.agg #[.int .i64 0, .int .i64 0, .int .i64 0]) 3 24 := ⟨Try.underlying22, infoE, rfl, by decide, by decide⟩

set_option maxRecDepth 100000 in
/-- The document's Runs. -/
theorem refRuns_any (e : Dk.Ev) (w : World) : Calls Try.prog 15 #[e.v] w fun x w' => x = .returned (.tuple #[.int .i64 (if e.runs then e.t else 0), .bool e.runs]) ∧ Below w.heap.size w w' := by
  obtain ⟨k, t, m⟩ := e
  go_enter Try.func15, Try.ntmps15
  go_wp2
  all_goals (go_ret2; refine ⟨?_, Dk.up_alloc (Below.refl _ _) _⟩; (try simp_all [Dk.Ev.runs]); all_goals (first | done | omega | (split <;> simp_all <;> omega)))
set_option maxRecDepth 100000 in
theorem inSection_any (e : Dk.Ev) (w : World) : Calls Try.prog 20 #[e.v] w fun x w' => x = .returned (.bool e.within) ∧ Below w.heap.size w w' := by
  obtain ⟨k, t, m⟩ := e
  go_enter Try.func20, Try.ntmps20
  go_wp2
  all_goals (go_ret; refine ⟨?_, Dk.up_alloc (Below.refl _ _) _⟩; (try simp_all [Dk.Ev.within]); all_goals (first | done | omega | (split <;> simp_all <;> omega)))
set_option maxRecDepth 100000 in
theorem threadOf_any (e : Dk.Ev) (w : World) : Calls Try.prog 21 #[e.v] w fun x w' => x = .returned (.tuple #[.int .i64 (if e.has then e.t else 0), .bool e.has]) ∧ Below w.heap.size w w' := by
  obtain ⟨k, t, m⟩ := e
  go_enter Try.func21, Try.ntmps21
  go_wp2
  all_goals (go_ret2; refine ⟨?_, Dk.up_alloc (Below.refl _ _) _⟩; (try simp_all [Dk.Ev.has]); all_goals (first | done | omega | (split <;> simp_all <;> omega)))

set_option maxRecDepth 100000 in
/-- The layer's Runs. -/
theorem Runs_any (e : Dk.Ev) (w : World) : Calls Try.prog 19 #[e.v] w fun x w' => x = .returned (.tuple #[.int .i64 (if e.runs then e.t else 0), .bool e.runs]) ∧ Below w.heap.size w w' := by
  obtain ⟨k, t, m⟩ := e
  have K1 : ∀ w, Calls Try.prog 20 #[.agg #[.int .i64 k, .int .i64 t, .int .i64 m]] w fun x w' => x = .returned (.bool (decide (0 < m))) ∧ Below w.heap.size w w' := fun w => inSection_any ⟨k, t, m⟩ w
  have K2 : ∀ w, Calls Try.prog 21 #[.agg #[.int .i64 k, .int .i64 t, .int .i64 m]] w fun x w' => x = .returned (.tuple #[.int .i64 (if decide (0 ≤ t) = true then t else 0), .bool (decide (0 ≤ t))]) ∧ Below w.heap.size w w' := fun w => threadOf_any ⟨k, t, m⟩ w
  obtain ⟨W1, e1⟩ : ∃ W1, W1 = w.alloc (.cells #[.int .i64 k, .int .i64 t, .int .i64 m] 36) := ⟨_, rfl⟩
  have u1 : Below w.heap.size w W1 := by rw [e1]; exact Dk.up_alloc (Below.refl _ _) _
  have b1 : Dk.Box W1 w.heap.size #[.int .i64 k, .int .i64 t, .int .i64 m] 36 := by rw [e1]; exact Dk.Box.new _ _ _
  have c0 : W1.cell? ⟨w.heap.size, 0, none⟩ = some (.int .i64 k) := b1.cell 0
  have c1 : W1.cell? ⟨w.heap.size, 1, none⟩ = some (.int .i64 t) := b1.cell 1
  have c2 : W1.cell? ⟨w.heap.size, 2, none⟩ = some (.int .i64 m) := b1.cell 2
  have HE : Hid (w.alloc (.cells #[.int .i64 k, .int .i64 t, .int .i64 m] 36) = W1) := e1.symm
  have HB : Hid (Dk.Box W1 w.heap.size #[.int .i64 k, .int .i64 t, .int .i64 m] 36) := b1
  have HU : Hid (Below w.heap.size w W1) := u1
  clear e1 u1 b1
  by_cases hm : 0 < m
  · have hr : (Dk.Ev.mk k t m).runs = false := by simp [Dk.Ev.runs]; omega
    rw [hr]
    rw [decide_eq_true hm] at K1
    clear hm hr
    go_enter Try.func19, Try.ntmps19
    go_wp2_with (rw [HE.out]; clear HE)
    refine (K1 _).mono ?_
    rintro x w1 ⟨rfl, v1⟩
    clear c0 c1 c2
    go_wp2
    go_ret2
    exact ⟨rfl, Dk.up_call HU.out v1⟩
  · rw [decide_eq_false hm] at K1
    by_cases hk : k = 3 ∨ k = 4
    · have hr : (Dk.Ev.mk k t m).runs = decide (0 ≤ t) := by rcases hk with rfl | rfl <;> simp [Dk.Ev.runs] <;> omega
      rw [hr]
      clear hr hm
      generalize (if decide (0 ≤ t) = true then t else 0) = tv at K2 ⊢
      generalize decide (0 ≤ t) = tb at K2 ⊢
      go_enter Try.func19, Try.ntmps19
      go_wp2_with (rw [HE.out]; clear HE)
      refine (K1 _).mono ?_
      rintro x w1 ⟨rfl, v1⟩
      have b2 := (HB.out).up v1
      have c0 : w1.cell? ⟨w.heap.size, 0, none⟩ = some (.int .i64 k) := b2.cell 0
      have c1 : w1.cell? ⟨w.heap.size, 1, none⟩ = some (.int .i64 t) := b2.cell 1
      have c2 : w1.cell? ⟨w.heap.size, 2, none⟩ = some (.int .i64 m) := b2.cell 2
      have u2 : Hid (Below w.heap.size w w1) := Dk.up_call HU.out v1
      clear HB HU v1 b2 K1
      rcases hk with rfl | rfl
      all_goals
        go_wp2_with fail
        refine (K2 _).mono ?_
        rintro x w2 ⟨rfl, v2⟩
        go_wp2
        go_ret2
        exact ⟨rfl, Dk.up_call u2.out v2⟩
    · have hr : (Dk.Ev.mk k t m).runs = false := by simp [Dk.Ev.runs]; omega
      rw [hr]
      have h3 : (k != 3) = true := by simp; omega
      have h4 : (k != 4) = true := by simp; omega
      clear hr hm hk
      go_enter Try.func19, Try.ntmps19
      go_wp2_with (rw [HE.out]; clear HE)
      refine (K1 _).mono ?_
      rintro x w1 ⟨rfl, v1⟩
      have b2 := (HB.out).up v1
      have c0 : w1.cell? ⟨w.heap.size, 0, none⟩ = some (.int .i64 k) := b2.cell 0
      have u2 : Hid (Below w.heap.size w w1) := Dk.up_call HU.out v1
      clear HB HU v1 b2 K1 K2
      go_wp2
      go_ret2
      exact ⟨rfl, u2.out⟩
end Go.Proofs.Ythpphicgkkhbfaa
