/- Regions that draw their order: what only reads is taken first wherever it is ready, the rest comes in one order. Of any program of the model. -/
import Derived.Test.YthpphicgkkhbfaaQh
namespace Dk
set_option linter.unusedSimpArgs false
set_option linter.unusedVariables false
set_option linter.unnecessarySimpa false
open Go Go.RowKit
section
variable {P : Go.Program} {ops : Array Oper} {md : Region.Mode} {S : World → Prop} {Q : Exit → Act → World → Prop}
def mixWalk (P : Go.Program) (ops : Array Oper) (Q : Exit → Act → World → Prop) (S : World → Prop) : List (Bool × Nat) → Act → World → Prop
  | [], a, w => Q .normal a w
  | (true, i) :: r, a, w => ∃ o v, ops[i]? = some o ∧ YieldsIf P ops S o v a ∧ mixWalk P ops Q S r (a.put o.dst v) w
  | (false, j) :: r, a, w => wpOp P ops Q j (fun a' w' => S w' ∧ mixWalk P ops Q S r a' w') a w
def mixB (md : Region.Mode) (ops : Array Oper) : List (Bool × Nat) → Array Bool → Bool
  | [], listed => Region.ready md ops listed == []
  | (true, i) :: r, listed => (Region.ready md ops listed).contains i && Region.free md ops listed i && mixB md ops r (listed.setIfInBounds i true)
  | (false, j) :: r, listed => Region.ready md ops listed == [j] && mixB md ops r (listed.setIfInBounds j true)
set_option maxRecDepth 100000 in
theorem mix_any (hs : Region.noSelect ops = true) (hQ : ∀ c a w, ¬ Q (.panic c) a w) : ∀ (r : List (Bool × Nat)) (listed : Array Bool) (a : Act) (w : World), mixB md ops r listed = true → S w → mixWalk P ops Q S r a w → wpAnyH P md ops Q S r.length listed a w
  | [], listed, a, w, hB, _, h => ⟨by simpa [mixB] using hB, h⟩
  | (true, i) :: r, listed, a, w, hB, hS, h => by
    simp only [mixB, Bool.and_eq_true] at hB
    obtain ⟨o, v, ho, hy, hK⟩ := h
    exact wpAnyH_take (fuel := r.length) ho hs hB.1.2 hB.1.1 (fun c a w h => absurd h (hQ _ _ _)) hy hS (mix_any hs hQ r _ _ _ hB.2 hS hK)
  | (false, j) :: r, listed, a, w, hB, hS, h => by
    simp only [mixB, Bool.and_eq_true] at hB
    have hr : Region.ready md ops listed = [j] := by simpa using hB.1
    refine wpAnyH_all hr (by simp) fun i hi => ?_
    obtain rfl : i = j := by simpa using hi
    exact wpOp_mono (fun a' w' h' => ⟨h'.1, mix_any hs hQ r _ a' w' hB.2 h'.1 h'.2⟩) h
set_option maxRecDepth 100000 in
theorem wp_region_mix {id : Nat} {a : Act} {w : World} {L : List Oper} (r : List (Bool × Nat)) (hm : P.follows .mixedOrders = true) (hs : Region.noSelect L.toArray = true) (hB : mixB .any L.toArray r (Array.replicate L.toArray.size false) = true) (hl : r.length = L.length) (hS : S w.drew)
    (h : mixWalk P L.toArray (NoPanic Q) S r a w.drew) : (Code.region id L.toArray true).wp P Q a w := by
  refine wp_region_noPanic (wp_region_held (S := S) hm ?_)
  have key := mix_any (md := .any) (Q := NoPanic Q) (S := S) hs (fun c a w h => h) r _ a w.drew hB hS h
  rw [hl] at key
  have e : L.toArray.size = L.length := by simp
  rw [e] at key ⊢
  exact key
/-- The steps of such a walk. -/
theorem mix_held {L : List Oper} {i : Nat} {r : List (Bool × Nat)} {a : Act} {w : World} {o : Oper} {v : Value} (ho : L[i]? = some o) (hw : Region.wanted o (yielded L.toArray a.tmps) = true) (hy : ∀ w, S w → (execOp a.eval o).run P w = .ok (.value v) w)
    (h : mixWalk P L.toArray Q S r (a.put o.dst v) w) : mixWalk P L.toArray Q S ((true, i) :: r) a w := ⟨o, v, by simpa using ho, .inl ⟨hw, hy⟩, h⟩
set_option maxRecDepth 100000 in
theorem mix_val {L : List Oper} {j : Nat} {r : List (Bool × Nat)} {a : Act} {w w' : World} {o : Oper} {v : Value} (ho : L[j]? = some o) (hw : Region.wanted o (yielded L.toArray a.tmps) = true) (hr : (execOp a.eval o).run P w = .ok (.value v) w') (hS : S w')
    (h : mixWalk P L.toArray Q S r (a.put o.dst v) w') : mixWalk P L.toArray Q S ((false, j) :: r) a w := by
  have ho' : L.toArray[j]? = some o := by simpa using ho
  unfold mixWalk wpOp
  simp only [ho', hw, if_true]
  refine .inl ?_
  unfold Oper.wp
  rw [hr]
  exact ⟨hS, h⟩
set_option maxRecDepth 100000 in
theorem mix_skip {L : List Oper} {j : Nat} {r : List (Bool × Nat)} {a : Act} {w w' : World} {o : Oper} (ho : L[j]? = some o) (hw : Region.wanted o (yielded L.toArray a.tmps) = true) (hr : (execOp a.eval o).run P w = .ok .skip w') (hS : S w')
    (h : mixWalk P L.toArray Q S r (a.put o.dst undef) w') : mixWalk P L.toArray Q S ((false, j) :: r) a w := by
  have ho' : L.toArray[j]? = some o := by simpa using ho
  unfold mixWalk wpOp
  simp only [ho', hw, if_true]
  refine .inl ?_
  unfold Oper.wp
  rw [hr]
  exact ⟨hS, h⟩
theorem mix_step {L : List Oper} {j : Nat} {r : List (Bool × Nat)} {a : Act} {w : World} {o : Oper} (ho : L[j]? = some o) (hw : Region.wanted o (yielded L.toArray a.tmps) = true)
    (h : o.wp P a w (fun a' w' => S w' ∧ mixWalk P L.toArray Q S r a' w') Q) : mixWalk P L.toArray Q S ((false, j) :: r) a w := by
  have ho' : L.toArray[j]? = some o := by simpa using ho
  unfold mixWalk wpOp
  simp only [ho', hw, if_true]
  exact .inl h
set_option maxRecDepth 100000 in
theorem mix_call {L : List Oper} {j : Nat} {r : List (Bool × Nat)} {a : Act} {w : World} {o : Oper} {f : FuncId} {args : Array Value} (ho : L[j]? = some o) (hw : Region.wanted o (yielded L.toArray a.tmps) = true) (hr : (execOp a.eval o).run P w = .ok (.enter f args) w)
    (hc : Calls P f args w fun e w' => ∃ v, e = .returned v ∧ S w' ∧ mixWalk P L.toArray Q S r (a.put o.dst v) w') : mixWalk P L.toArray Q S ((false, j) :: r) a w := by
  have ho' : L.toArray[j]? = some o := by simpa using ho
  unfold mixWalk wpOp
  simp only [ho', hw, if_true]
  refine .inl ?_
  unfold Oper.wp
  rw [hr]
  simp only [Oper.upon]
  refine Calls.mono hc ?_
  rintro e w' ⟨v, rfl, h⟩
  exact h
end
end Dk
