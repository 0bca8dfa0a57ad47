/- Regions that draw their order: what only reads is taken first, the rest comes in one order, and its last operation may write what was read. Of any program of the model. -/
import Derived.Test.YtoilkojegnfmfaaQk
namespace Dk
set_option linter.unusedSimpArgs false
set_option linter.unusedVariables false
set_option linter.unnecessarySimpa false
open Go Go.RowKit

section
variable {P : Go.Program} {ops : Array Oper} {md : Region.Mode} {S : World → Prop} {Q : Exit → Act → World → Prop}

/-- Whatever order is picked; S holds behind every operation but z. -/
def wpAnyZ (P : Go.Program) (md : Region.Mode) (ops : Array Oper) (Q : Exit → Act → World → Prop) (S : World → Prop) (z : Nat) : Nat → Array Bool → Act → World → Prop
  | 0, listed, a, w => Region.ready md ops listed = [] ∧ Q .normal a w
  | fuel + 1, listed, a, w =>
    (Region.ready md ops listed = [] → Q .normal a w) ∧
    ∀ i ∈ Region.ready md ops listed, wpOp P ops Q i (fun a' w' => (i ≠ z → S w') ∧ wpAnyZ P md ops Q S z fuel (listed.setIfInBounds i true) a' w') a w

theorem wpAny_of_Z {z : Nat} : ∀ (fuel : Nat) (listed : Array Bool) (a : Act) (w : World), wpAnyZ P md ops Q S z fuel listed a w → wpAny P md ops Q fuel listed a w
  | 0, _, _, _, h => h
  | fuel + 1, _, _, _, h => ⟨h.1, fun i hi => wpOp_mono (fun a' w' h' => wpAny_of_Z fuel _ a' w' h'.2) (h.2 i hi)⟩

/-- z waits for i. -/
def waitsB (md : Region.Mode) (ops : Array Oper) (z i : Nat) : Bool := match ops[z]? with
  | some o => o.after.any fun e => Region.binds md e && e.on == i
  | none => false
theorem waits_not {z i : Nat} {listed : Array Bool} (hz : waitsB md ops z i = true) (hr : i ∈ Region.ready md ops listed) : z ∉ Region.ready md ops listed := fun hj => by
  obtain ⟨hjun, oj, hoj, hall⟩ := mem_ready.1 hj
  unfold waitsB at hz
  rw [hoj] at hz
  simp only [Array.any_eq_true] at hz
  obtain ⟨k, hk, he⟩ := hz
  simp only [Bool.and_eq_true, beq_iff_eq] at he
  have h1 := hall _ (Array.getElem_mem hk) he.1
  have h0 := (mem_ready.1 hr).1
  rw [he.2] at h1
  rcases Nat.lt_or_ge i listed.size with h' | h'
  · simp [h'] at h0 h1; rw [h0] at h1; cases h1
  · simp [Array.getElem?_eq_none h'] at h1

theorem wpAnyZ_first {i z : Nat} {oi : Oper} {v : Value} (hi : ops[i]? = some oi) (hsel : ∀ (j : Nat) (o : Oper) cs b, ops[j]? = some o → o.op ≠ .select cs b)
    (hQ : ∀ c a w, Q (.panic c) (a.put oi.dst v) w → Q (.panic c) a w) (hz : waitsB md ops z i = true) :
    ∀ (fuel : Nat) (listed : Array Bool) (a : Act) (w : World),
      (∀ j oj, ops[j]? = some oj → j ≠ i → listed.getD j true = false → (∀ e ∈ oj.after, Region.binds md e = true → e.on ≠ i) → oi.apart ops oj = true) →
      i ∈ Region.ready md ops listed → YieldsIf P ops S oi v a → S w →
      wpAnyZ P md ops Q S z fuel (listed.setIfInBounds i true) (a.put oi.dst v) w → wpAnyZ P md ops Q S z (fuel + 1) listed a w := by
  intro fuel
  induction fuel with
  | zero =>
    intro listed a w _ hr hy hS H
    refine ⟨fun h => (by rw [h] at hr; cases hr), fun j hj => ?_⟩
    by_cases hji : j = i
    · subst hji; exact hy.wpOp hi hS ⟨fun _ => hS, H⟩
    · have := ready_mono hj hji
      rw [H.1] at this
      cases this
  | succ fuel ih =>
    intro listed a w hfree hr hy hS H
    refine ⟨fun h => (by rw [h] at hr; cases hr), fun j hj => ?_⟩
    by_cases hji : j = i
    · subst hji; exact hy.wpOp hi hS ⟨fun _ => hS, H⟩
    · have h1 := H.2 j (ready_mono hj hji)
      have hjz : j ≠ z := fun e => waits_not hz hr (e ▸ hj)
      obtain ⟨hjun, oj, hoj, hall⟩ := mem_ready.1 hj
      have hnot : ∀ e ∈ oj.after, Region.binds md e = true → e.on ≠ i := fun e he hb heq => by
        have h1 := hall e he hb
        have h0 := (mem_ready.1 hr).1
        rw [heq] at h1
        rcases Nat.lt_or_ge i listed.size with h' | h'
        · simp [h'] at h0 h1; rw [h0] at h1; cases h1
        · simp [Array.getElem?_eq_none h'] at h1
      have h2 := wpOp_putIf hoj (hfree j oj hoj hji hjun hnot) (fun cs b => hsel i oi cs b hi) (fun cs b => hsel j oj cs b hoj) hQ hy h1
      have hfree' : ∀ k ok, ops[k]? = some ok → k ≠ i → (listed.setIfInBounds j true).getD k true = false →
          (∀ e ∈ ok.after, Region.binds md e = true → e.on ≠ i) → oi.apart ops ok = true := fun k ok hk hki hun hno => by
        refine hfree k ok hk hki ?_ hno
        by_cases hjk : j = k
        · subst hjk; exact hjun
        · rw [getD_set_ne true hjk] at hun; exact hun
      refine wpOp_mono (fun a' w' h3 => ⟨fun hn => h3.2.1 hn, ih (listed.setIfInBounds j true) a' w' hfree' (ready_mono hr (Ne.symm hji)) h3.1 (h3.2.1 hjz) ?_⟩) h2
      rw [Array.setIfInBounds_comm _ _ hji]
      exact h3.2.2

def lineZ (P : Go.Program) (ops : Array Oper) (Q : Exit → Act → World → Prop) (S : World → Prop) (z : Nat) : List Nat → Act → World → Prop
  | [], a, w => Q .normal a w
  | j :: js, a, w => wpOp P ops Q j (fun a' w' => (j ≠ z → S w') ∧ lineZ P ops Q S z js a' w') a w
theorem lineZ_any {z : Nat} : ∀ (js : List Nat) (listed : Array Bool) (a : Act) (w : World), linesB md ops js listed = true → lineZ P ops Q S z js a w → wpAnyZ P md ops Q S z js.length listed a w
  | [], listed, a, w, hB, h => ⟨by simpa [linesB] using hB, h⟩
  | j :: js, listed, a, w, hB, h => by
    simp only [linesB, Bool.and_eq_true] at hB
    have hr : Region.ready md ops listed = [j] := by simpa using hB.1
    refine ⟨fun h0 => absurd (hr.symm.trans h0) (by simp), fun i hi => ?_⟩
    obtain rfl : i = j := by rw [hr] at hi; simpa using hi
    exact wpOp_mono (fun a' w' h' => ⟨h'.1, lineZ_any js _ a' w' hB.2 h'.2⟩) h
theorem heldZ_any {z : Nat} (hs : Region.noSelect ops = true) (hQ : ∀ c a w, ¬ Q (.panic c) a w) (js : List Nat) (w : World) (hS : S w) : ∀ (is : List Nat) (listed : Array Bool) (a : Act), firstB md ops js is listed = true → is.all (waitsB md ops z) = true →
    heldWalk P ops S (fun a' => lineZ P ops Q S z js a' w) is a → wpAnyZ P md ops Q S z (js.length + is.length) listed a w
  | [], listed, a, hB, _, h => lineZ_any js listed a w hB h
  | i :: is, listed, a, hB, hz, h => by
    simp only [firstB, Bool.and_eq_true] at hB
    simp only [List.all_cons, Bool.and_eq_true] at hz
    obtain ⟨o, v, ho, hy, hK⟩ := h
    exact wpAnyZ_first ho (Region.noSelect_spec hs) (fun c a w h => absurd h (hQ _ _ _)) hz.1 _ _ _ _ (Region.free_spec ho hB.1.2) (by simpa using hB.1.1) hy hS (heldZ_any hs hQ js w hS is _ _ hB.2 hz.2 hK)
theorem wp_region_lineZ {id z : Nat} {a : Act} {w : World} {L : List Oper} (is js : List Nat) (hm : P.follows .mixedOrders = true) (hB : heldB L is js = true) (hz : is.all (waitsB .any L.toArray z) = true) (hS : S w.drew)
    (h : heldWalk P L.toArray S (fun a' => lineZ P L.toArray (NoPanic Q) S z js a' w.drew) is a) : (Code.region id L.toArray true).wp P Q a w := by
  unfold heldB at hB
  simp only [Bool.and_eq_true, decide_eq_true_eq] at hB
  obtain ⟨⟨hs, hf⟩, hl⟩ := hB
  have key := heldZ_any (md := .any) (Q := NoPanic Q) (S := S) (z := z) hs (fun c a w h => h) js w.drew hS is _ a hf hz h
  rw [hl] at key
  have e : L.toArray.size = L.length := by simp
  refine wp_region_noPanic (wp_region_any hm ?_)
  rw [e] at key
  rw [e]
  exact wpAny_of_Z _ _ _ _ key
theorem lineZ_step {z : Nat} {L : List Oper} {j : Nat} {js : List Nat} {a : Act} {w w' : World} {o : Oper} {v : Value} (ho : L[j]? = some o) (hg : o.guard = none)
    (hr : (execOp a.eval o).run P w = .ok (.value v) w') (hS : j ≠ z → S w') (h : lineZ P L.toArray Q S z js (a.put o.dst v) w') : lineZ P L.toArray Q S z (j :: js) a w := by
  have hw : Region.wanted o (yielded L.toArray a.tmps) = true := by simp [Region.wanted, hg]
  have ho' : L.toArray[j]? = some o := by simpa using ho
  unfold lineZ wpOp
  simp only [ho', hw, if_true]
  refine .inl ?_
  unfold Oper.wp
  rw [hr]
  exact ⟨hS, h⟩
theorem lineZ_skip {z : Nat} {L : List Oper} {j : Nat} {js : List Nat} {a : Act} {w w' : World} {o : Oper} (ho : L[j]? = some o) (hg : o.guard = none)
    (hr : (execOp a.eval o).run P w = .ok .skip w') (hS : j ≠ z → S w') (h : lineZ P L.toArray Q S z js (a.put o.dst undef) w') : lineZ P L.toArray Q S z (j :: js) a w := by
  have hw : Region.wanted o (yielded L.toArray a.tmps) = true := by simp [Region.wanted, hg]
  have ho' : L.toArray[j]? = some o := by simpa using ho
  unfold lineZ wpOp
  simp only [ho', hw, if_true]
  refine .inl ?_
  unfold Oper.wp
  rw [hr]
  exact ⟨hS, h⟩
end
end Dk
