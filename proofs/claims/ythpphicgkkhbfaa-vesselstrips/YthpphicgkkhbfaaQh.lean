/- Regions that draw their order: what only reads is taken first, the rest comes in one order. Of any program of the model. -/
import Derived.Test.YthpphicgkkhbfaaQp
import Derived.Deep.RegionHeld3
namespace Dk
set_option linter.unusedSimpArgs false
set_option linter.unusedVariables false
set_option linter.unnecessarySimpa false
open Go Go.RowKit

section
variable {P : Go.Program} {ops : Array Oper} {md : Region.Mode} {S : World → Prop}

def heldWalk (P : Go.Program) (ops : Array Oper) (S : World → Prop) (K : Act → Prop) : List Nat → Act → Prop
  | [], a => K a
  | i :: is, a => ∃ o v, ops[i]? = some o ∧ YieldsIf P ops S o v a ∧ heldWalk P ops S K is (a.put o.dst v)
def lineWalk (P : Go.Program) (ops : Array Oper) (Q : Exit → Act → World → Prop) (S : World → Prop) : List Nat → Act → World → Prop
  | [], a, w => Q .normal a w
  | j :: js, a, w => wpOp P ops Q j (fun a' w' => S w' ∧ lineWalk P ops Q S js a' w') a w

def linesB (md : Region.Mode) (ops : Array Oper) : List Nat → Array Bool → Bool
  | [], listed => Region.ready md ops listed == []
  | j :: js, listed => Region.ready md ops listed == [j] && linesB md ops js (listed.setIfInBounds j true)
def firstB (md : Region.Mode) (ops : Array Oper) (js : List Nat) : List Nat → Array Bool → Bool
  | [], listed => linesB md ops js listed
  | i :: is, listed => (Region.ready md ops listed).contains i && Region.free md ops listed i && firstB md ops js is (listed.setIfInBounds i true)

set_option maxRecDepth 100000 in
theorem line_any {Q : Exit → Act → World → Prop} : ∀ (js : List Nat) (listed : Array Bool) (a : Act) (w : World), linesB md ops js listed = true → lineWalk P ops Q S js a w → wpAnyH P md ops Q S js.length listed a w
  | [], listed, a, w, hB, h => ⟨by simpa [linesB] using hB, h⟩
  | j :: js, listed, a, w, hB, h => by
    simp only [linesB, Bool.and_eq_true] at hB
    have hr : Region.ready md ops listed = [j] := by simpa using hB.1
    refine wpAnyH_all hr (by simp) fun i hi => ?_
    obtain rfl : i = j := by simpa using hi
    exact wpOp_mono (fun a' w' h' => ⟨h'.1, line_any js _ a' w' hB.2 h'.2⟩) h

theorem held_any {Q : Exit → Act → World → Prop} (hs : Region.noSelect ops = true) (hQ : ∀ c a w, ¬ Q (.panic c) a w) (js : List Nat) (w : World) (hS : S w) : ∀ (is : List Nat) (listed : Array Bool) (a : Act), firstB md ops js is listed = true →
    heldWalk P ops S (fun a' => lineWalk P ops Q S js a' w) is a → wpAnyH P md ops Q S (js.length + is.length) listed a w
  | [], listed, a, hB, h => line_any js listed a w hB h
  | i :: is, listed, a, hB, h => by
    simp only [firstB, Bool.and_eq_true] at hB
    obtain ⟨o, v, ho, hy, hK⟩ := h
    exact wpAnyH_take (fuel := js.length + is.length) ho hs hB.1.2 hB.1.1 (fun c a w h => absurd h (hQ _ _ _)) hy hS (held_any hs hQ js w hS is _ _ hB.2 hK)

def heldB (L : List Oper) (is js : List Nat) : Bool := Region.noSelect L.toArray && firstB .any L.toArray js is (Array.replicate L.toArray.size false) && decide (js.length + is.length = L.length)

set_option maxRecDepth 100000 in
theorem wp_region_line {id : Nat} {Q : Exit → Act → World → Prop} {a : Act} {w : World} {L : List Oper} (is js : List Nat) (hm : P.follows .mixedOrders = true) (hB : heldB L is js = true) (hS : S w.drew)
    (h : heldWalk P L.toArray S (fun a' => lineWalk P L.toArray (NoPanic Q) S js a' w.drew) is a) : (Code.region id L.toArray true).wp P Q a w := by
  unfold heldB at hB
  simp only [Bool.and_eq_true, decide_eq_true_eq] at hB
  obtain ⟨⟨hs, hf⟩, hl⟩ := hB
  refine wp_region_noPanic (wp_region_held (S := S) hm ?_)
  have key := held_any (md := .any) (Q := NoPanic Q) (S := S) hs (fun c a w h => h) js w.drew hS is _ a hf h
  rw [hl] at key
  have e : L.toArray.size = L.length := by simp
  rw [e] at key ⊢
  exact key

/-- The steps of such a walk. -/
theorem line_step {Q : Exit → Act → World → Prop} {L : List Oper} {j : Nat} {js : List Nat} {a : Act} {w : World} {o : Oper} (ho : L[j]? = some o) (hg : o.guard = none)
    (h : o.wp P a w (fun a' w' => S w' ∧ lineWalk P L.toArray Q S js a' w') Q) : lineWalk P L.toArray Q S (j :: js) a w := by
  have hw : Region.wanted o (yielded L.toArray a.tmps) = true := by simp [Region.wanted, hg]
  have ho' : L.toArray[j]? = some o := by simpa using ho
  unfold lineWalk wpOp
  simp only [ho', hw, if_true]
  exact .inl h
theorem held_step {K : Act → Prop} {L : List Oper} {i : Nat} {is : List Nat} {a : Act} {o : Oper} {v : Value} (ho : L[i]? = some o) (hg : o.guard = none) (hy : ∀ w, S w → (execOp a.eval o).run P w = .ok (.value v) w)
    (h : heldWalk P L.toArray S K is (a.put o.dst v)) : heldWalk P L.toArray S K (i :: is) a :=
  ⟨o, v, by simpa using ho, .inl ⟨by simp [Region.wanted, hg], hy⟩, h⟩
end

end Dk
