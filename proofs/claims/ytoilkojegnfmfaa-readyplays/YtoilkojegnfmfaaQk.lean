/- Regions that draw their order and make memory in several orders: what only reads is taken first; steps over a frame that is not written out. Of any program of the model. -/
import Derived.Test.YtoilkojegnfmfaaQh
namespace Dk
set_option linter.unusedSimpArgs false
set_option linter.unusedVariables false
set_option linter.unnecessarySimpa false
open Go Go.RowKit
section
variable {P : Go.Program} {ops : Array Oper} {md : Region.Mode} {S : World → Prop}
def heldsB (md : Region.Mode) (ops : Array Oper) : List Nat → Array Bool → Bool
  | [], _ => true
  | i :: is, listed => (Region.ready md ops listed).contains i && Region.free md ops listed i && heldsB md ops is (listed.setIfInBounds i true)
def marked (is : List Nat) (listed : Array Bool) : Array Bool := is.foldl (fun l i => l.setIfInBounds i true) listed
/-- What only reads is taken first; then what there is goes on. -/
theorem held_then {Q : Exit → Act → World → Prop} (hs : Region.noSelect ops = true) (hQ : ∀ c a w, ¬ Q (.panic c) a w) (w : World) (hS : S w) (fuel : Nat) (K : Act → Prop) : ∀ (is : List Nat) (listed : Array Bool) (a : Act), heldsB md ops is listed = true →
    heldWalk P ops S K is a → (∀ a', K a' → wpAnyH P md ops Q S fuel (marked is listed) a' w) → wpAnyH P md ops Q S (fuel + is.length) listed a w
  | [], listed, a, hB, h, hK => hK a h
  | i :: is, listed, a, hB, h, hK => by
    simp only [heldsB, Bool.and_eq_true] at hB
    obtain ⟨o, v, ho, hy, hW⟩ := h
    exact wpAnyH_take (fuel := fuel + is.length) ho hs hB.1.2 hB.1.1 (fun c a w h => absurd h (hQ _ _ _)) hy hS (held_then hs hQ w hS fuel K is _ _ hB.2 hW hK)
theorem held_val {K : Act → Prop} {L : List Oper} {i : Nat} {is : List Nat} {a : Act} {o : Oper} {v : Value} (d : Option Tmp) (hd : o.dst = d) (ho : L[i]? = some o) (hg : o.guard = none) (hy : ∀ w, S w → (execOp a.eval o).run P w = .ok (.value v) w)
    (h : heldWalk P L.toArray S K is (a.put d v)) : heldWalk P L.toArray S K (i :: is) a := by
  subst hd
  exact held_step ho hg hy h
theorem eval_put (a : Act) (d k : Nat) (v : Value) (h : d < a.tmps.size) : (a.put (some d) v).eval (.tmp k) = if d = k then v else a.eval (.tmp k) := by
  by_cases e : d = k
  · subst e; simp [Act.put, Act.eval, h]
  · rw [if_neg e]; simp [Act.put, Act.eval, Array.getElem?_setIfInBounds_ne e]
theorem size_put (a : Act) (d : Nat) (v : Value) : (a.put (some d) v).tmps.size = a.tmps.size := by simp [Act.put]
theorem put2 (a : Act) (x y : Nat) (v u : Value) (h : x ≠ y) : (a.put (some x) v).put (some y) u = (a.put (some y) u).put (some x) v := Act.put_comm a v u (fun d hd e => h (by rw [Option.some.inj hd, ← Option.some.inj e]))
theorem op_value {L : List Oper} {Q : Exit → Act → World → Prop} {j : Nat} {K : Act → World → Prop} {a : Act} {w w' : World} {o : Oper} {v : Value} (d : Option Tmp) (ho : L[j]? = some o) (hd : o.dst = d) (hg : o.guard = none) (hr : (execOp a.eval o).run P w = .ok (.value v) w') (hK : K (a.put d v) w') : wpOp P L.toArray Q j K a w := by
  subst hd
  have hw : Region.wanted o (yielded L.toArray a.tmps) = true := by simp [Region.wanted, hg]
  have ho' : L.toArray[j]? = some o := by simpa using ho
  unfold wpOp
  simp only [ho', hw, if_true]
  refine .inl ?_
  unfold Oper.wp
  rw [hr]
  exact hK
end
end Dk
