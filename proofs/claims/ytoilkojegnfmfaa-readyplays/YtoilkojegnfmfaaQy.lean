/- Regions that draw their order: what only reads is taken first; then anything, in any order; some operations may write what was read, where they wait, by whatever steps, for all that reads. Of any program of the model. -/
import Derived.Test.YtoilkojegnfmfaaQz
namespace Dk
set_option linter.unusedSimpArgs false
set_option linter.unusedVariables false
set_option linter.unnecessarySimpa false
open Go Go.RowKit

section
variable {P : Go.Program} {ops : Array Oper} {md : Region.Mode} {S : World → Prop} {Q : Exit → Act → World → Prop} {Z : List Nat}

/-- Whatever order is picked; S holds behind every operation but those of Z. -/
def wpAnyY (P : Go.Program) (md : Region.Mode) (ops : Array Oper) (Q : Exit → Act → World → Prop) (S : World → Prop) (Z : List Nat) : Nat → Array Bool → Act → World → Prop
  | 0, listed, a, w => Region.ready md ops listed = [] ∧ Q .normal a w
  | fuel + 1, listed, a, w =>
    (Region.ready md ops listed = [] → Q .normal a w) ∧
    ∀ i ∈ Region.ready md ops listed, wpOp P ops Q i (fun a' w' => (i ∉ Z → S w') ∧ wpAnyY P md ops Q S Z fuel (listed.setIfInBounds i true) a' w') a w
theorem wpAny_of_Y : ∀ (fuel : Nat) (listed : Array Bool) (a : Act) (w : World), wpAnyY P md ops Q S Z fuel listed a w → wpAny P md ops Q fuel listed a w
  | 0, _, _, _, h => h
  | fuel + 1, _, _, _, h => ⟨h.1, fun i hi => wpOp_mono (fun a' w' h' => wpAny_of_Y fuel _ a' w' h'.2) (h.2 i hi)⟩

/-- z waits for i, by some steps. -/
def depB (md : Region.Mode) (ops : Array Oper) : Nat → Nat → Nat → Bool
  | 0, _, _ => false
  | f + 1, z, i => match ops[z]? with
    | some o => o.after.any fun e => Region.binds md e && (e.on == i || depB md ops f e.on i)
    | none => false
theorem dep_listed {listed : Array Bool} (hc : Closed md ops listed) {i : Nat} : ∀ (f z : Nat), depB md ops f z i = true → listed.getD z false = true → listed.getD i false = true
  | 0, z, h, _ => by simp [depB] at h
  | f + 1, z, h, hz => by
    unfold depB at h
    cases ho : ops[z]? with
    | none => rw [ho] at h; simp at h
    | some o =>
      rw [ho] at h
      simp only [Array.any_eq_true] at h
      obtain ⟨k, hk, he⟩ := h
      simp only [Bool.and_eq_true, Bool.or_eq_true, beq_iff_eq] at he
      have h1 := hc z o ho hz _ (Array.getElem_mem hk) he.1
      rcases he.2 with e | e
      · rw [← e]; exact h1
      · exact dep_listed hc f _ e h1
theorem dep_ready {listed : Array Bool} (hc : Closed md ops listed) {f z i : Nat} (h : depB md ops f z i = true) (hi : i ∈ Region.ready md ops listed) : z ∉ Region.ready md ops listed := fun hz => by
  have hl := (Closed.next hc hz)
  obtain ⟨hzun, oz, hoz, hall⟩ := mem_ready.1 hz
  have hi0 := (mem_ready.1 hi).1
  have hzl : z < listed.size := by
    rcases Nat.lt_or_ge z listed.size with h' | h'
    · exact h'
    · simp [Array.getElem?_eq_none h'] at hzun
  have h1 := dep_listed hl f z h (by simp [hzl])
  have hzi : z ≠ i := fun e => by
    subst e
    have h2 := h
    cases f with
    | zero => simp [depB] at h2
    | succ f =>
      unfold depB at h2
      rw [hoz] at h2
      simp only [Array.any_eq_true] at h2
      obtain ⟨k, hk, he⟩ := h2
      simp only [Bool.and_eq_true, Bool.or_eq_true, beq_iff_eq] at he
      have h3 := hall _ (Array.getElem_mem hk) he.1
      rcases he.2 with e | e
      · rw [e] at h3
        rcases Nat.lt_or_ge z listed.size with h' | h'
        · simp [h'] at hi0 h3; rw [hi0] at h3; cases h3
        · omega
      · have h4 := dep_listed hc f _ e h3
        simp [hzl] at hi0 h4; rw [hi0] at h4; cases h4
  rw [getD_set_ne false hzi] at h1
  rcases Nat.lt_or_ge i listed.size with h' | h'
  · simp [h'] at hi0 h1; rw [hi0] at h1; cases h1
  · simp [Array.getElem?_eq_none h'] at h1

theorem wpAnyY_first {i : Nat} {oi : Oper} {v : Value} (hi : ops[i]? = some oi) (hsel : ∀ (j : Nat) (o : Oper) cs b, ops[j]? = some o → o.op ≠ .select cs b)
    (hQ : ∀ c a w, Q (.panic c) (a.put oi.dst v) w → Q (.panic c) a w) :
    ∀ (fuel : Nat) (listed : Array Bool) (a : Act) (w : World), Closed md ops listed → (∀ z ∈ Z, depB md ops ops.size z i = true ∨ listed.getD z false = true) →
      (∀ j oj, ops[j]? = some oj → j ≠ i → listed.getD j true = false → (∀ e ∈ oj.after, Region.binds md e = true → e.on ≠ i) → oi.apart ops oj = true) →
      i ∈ Region.ready md ops listed → YieldsIf P ops S oi v a → S w →
      wpAnyY P md ops Q S Z fuel (listed.setIfInBounds i true) (a.put oi.dst v) w → wpAnyY P md ops Q S Z (fuel + 1) listed a w := by
  intro fuel
  induction fuel with
  | zero =>
    intro listed a w hcl hz _ hr hy hS H
    refine ⟨fun h => (by rw [h] at hr; cases hr), fun j hj => ?_⟩
    by_cases hji : j = i
    · subst hji; exact hy.wpOp hi hS ⟨fun _ => hS, H⟩
    · have := ready_mono hj hji
      rw [H.1] at this
      cases this
  | succ fuel ih =>
    intro listed a w hcl hz hfree hr hy hS H
    refine ⟨fun h => (by rw [h] at hr; cases hr), fun j hj => ?_⟩
    by_cases hji : j = i
    · subst hji; exact hy.wpOp hi hS ⟨fun _ => hS, H⟩
    · have h1 := H.2 j (ready_mono hj hji)
      have hjz : j ∉ Z := fun e => by
        rcases hz j e with h | h
        · exact dep_ready hcl h hr hj
        · have h0 := (mem_ready.1 hj).1
          rcases Nat.lt_or_ge j listed.size with h' | h'
          · simp [h'] at h0 h; rw [h0] at h; cases h
          · simp [Array.getElem?_eq_none h'] at h
      obtain ⟨hjun, oj, hoj, hall⟩ := mem_ready.1 hj
      have hnot : ∀ e ∈ oj.after, Region.binds md e = true → e.on ≠ i := fun e he hb heq => by
        have h1 := hall e he hb
        have h0 := (mem_ready.1 hr).1
        rw [heq] at h1
        rcases Nat.lt_or_ge i listed.size with h' | h'
        · simp [h'] at h0 h1; rw [h0] at h1; cases h1
        · simp [Array.getElem?_eq_none h'] at h1
      have h2 := wpOp_putIf hoj (hfree j oj hoj hji hjun hnot) (fun cs b => hsel i oi cs b hi) (fun cs b => hsel j oj cs b hoj) hQ hy h1
      have hfree' : ∀ k ok, ops[k]? = some ok → k ≠ i → (listed.setIfInBounds j true).getD k true = false →
          (∀ e ∈ ok.after, Region.binds md e = true → e.on ≠ i) → oi.apart ops ok = true := fun k ok hk hki hun hno => by
        refine hfree k ok hk hki ?_ hno
        by_cases hjk : j = k
        · subst hjk; exact hjun
        · rw [getD_set_ne true hjk] at hun; exact hun
      refine wpOp_mono (fun a' w' h3 => ⟨fun hn => h3.2.1 hn, ih (listed.setIfInBounds j true) a' w' (hcl.next hj) (fun z hzz => (hz z hzz).imp id (fun h => getD_set_true h)) hfree' (ready_mono hr (Ne.symm hji)) h3.1 (h3.2.1 hjz) ?_⟩) h2
      rw [Array.setIfInBounds_comm _ _ hji]
      exact h3.2.2

/-- What reads nothing is taken first, whenever it comes. -/
theorem wpAnyY_free {i : Nat} {oi : Oper} {v : Value} (hi : ops[i]? = some oi) (hsel : ∀ (j : Nat) (o : Oper) cs b, ops[j]? = some o → o.op ≠ .select cs b)
    (hQ : ∀ c a w, Q (.panic c) (a.put oi.dst v) w → Q (.panic c) a w) (hZ : i ∈ Z) :
    ∀ (fuel : Nat) (listed : Array Bool) (a : Act) (w : World),
      (∀ j oj, ops[j]? = some oj → j ≠ i → listed.getD j true = false → (∀ e ∈ oj.after, Region.binds md e = true → e.on ≠ i) → oi.apart ops oj = true) →
      i ∈ Region.ready md ops listed → YieldsIf P ops (fun _ => True) oi v a →
      wpAnyY P md ops Q S Z fuel (listed.setIfInBounds i true) (a.put oi.dst v) w → wpAnyY P md ops Q S Z (fuel + 1) listed a w := by
  intro fuel
  induction fuel with
  | zero =>
    intro listed a w _ hr hy H
    refine ⟨fun h => (by rw [h] at hr; cases hr), fun j hj => ?_⟩
    by_cases hji : j = i
    · subst hji; exact hy.wpOp hi trivial ⟨fun h => absurd hZ h, H⟩
    · have := ready_mono hj hji
      rw [H.1] at this
      cases this
  | succ fuel ih =>
    intro listed a w hfree hr hy H
    refine ⟨fun h => (by rw [h] at hr; cases hr), fun j hj => ?_⟩
    by_cases hji : j = i
    · subst hji; exact hy.wpOp hi trivial ⟨fun h => absurd hZ h, H⟩
    · have h1 := H.2 j (ready_mono hj hji)
      obtain ⟨hjun, oj, hoj, hall⟩ := mem_ready.1 hj
      have hnot : ∀ e ∈ oj.after, Region.binds md e = true → e.on ≠ i := fun e he hb heq => by
        have h1 := hall e he hb
        have h0 := (mem_ready.1 hr).1
        rw [heq] at h1
        rcases Nat.lt_or_ge i listed.size with h' | h'
        · simp [h'] at h0 h1; rw [h0] at h1; cases h1
        · simp [Array.getElem?_eq_none h'] at h1
      have h2 := wpOp_putIf hoj (hfree j oj hoj hji hjun hnot) (fun cs b => hsel i oi cs b hi) (fun cs b => hsel j oj cs b hoj) hQ hy h1
      have hfree' : ∀ k ok, ops[k]? = some ok → k ≠ i → (listed.setIfInBounds j true).getD k true = false →
          (∀ e ∈ ok.after, Region.binds md e = true → e.on ≠ i) → oi.apart ops ok = true := fun k ok hk hki hun hno => by
        refine hfree k ok hk hki ?_ hno
        by_cases hjk : j = k
        · subst hjk; exact hjun
        · rw [getD_set_ne true hjk] at hun; exact hun
      refine wpOp_mono (fun a' w' h3 => ⟨fun hn => h3.2.1 hn, ih (listed.setIfInBounds j true) a' w' hfree' (ready_mono hr (Ne.symm hji)) h3.1 ?_⟩) h2
      rw [Array.setIfInBounds_comm _ _ hji]
      exact h3.2.2
def heldsY (md : Region.Mode) (ops : Array Oper) (Z : List Nat) : List Nat → Array Bool → Bool
  | [], _ => true
  | i :: is, listed => (Region.ready md ops listed).contains i && Region.free md ops listed i && (Z.all fun z => depB md ops ops.size z i || listed.getD z false) && heldsY md ops Z is (listed.setIfInBounds i true)
def freesY (md : Region.Mode) (ops : Array Oper) (Z : List Nat) : List Nat → Array Bool → Bool
  | [], _ => true
  | i :: is, listed => (Region.ready md ops listed).contains i && Region.free md ops listed i && Z.contains i && freesY md ops Z is (listed.setIfInBounds i true)
theorem marked_closed : ∀ (is : List Nat) {listed : Array Bool}, Closed md ops listed → freesY md ops Z is listed = true → Closed md ops (marked is listed)
  | [], _, h, _ => h
  | i :: is, listed, h, hB => by
    simp only [freesY, Bool.and_eq_true] at hB
    exact marked_closed is (h.next (by simpa using hB.1.1.1)) hB.2
/-- What only reads is taken first; then what there is goes on. -/
theorem heldY_then (hs : Region.noSelect ops = true) (hQ : ∀ c a w, ¬ Q (.panic c) a w) (w : World) (hS : S w) (fuel : Nat) (K : Act → Prop) : ∀ (is : List Nat) (listed : Array Bool) (a : Act), Closed md ops listed → heldsY md ops Z is listed = true →
    heldWalk P ops S K is a → (∀ a', K a' → wpAnyY P md ops Q S Z fuel (marked is listed) a' w) → wpAnyY P md ops Q S Z (fuel + is.length) listed a w
  | [], listed, a, _, hB, h, hK => hK a h
  | i :: is, listed, a, hcl, hB, h, hK => by
    simp only [heldsY, Bool.and_eq_true] at hB
    obtain ⟨o, v, ho, hy, hW⟩ := h
    have hr : i ∈ Region.ready md ops listed := by simpa using hB.1.1.1
    exact wpAnyY_first ho (Region.noSelect_spec hs) (fun c a w h => absurd h (hQ _ _ _)) _ _ _ _ hcl (fun z hzz => by simpa using List.all_eq_true.1 hB.1.2 z hzz) (Region.free_spec ho hB.1.1.2) hr hy hS (heldY_then hs hQ w hS fuel K is _ _ (hcl.next hr) hB.2 hW hK)
theorem freeY_then (hs : Region.noSelect ops = true) (hQ : ∀ c a w, ¬ Q (.panic c) a w) (w : World) (fuel : Nat) (K : Act → Prop) : ∀ (is : List Nat) (listed : Array Bool) (a : Act), freesY md ops Z is listed = true →
    heldWalk P ops (fun _ => True) K is a → (∀ a', K a' → wpAnyY P md ops Q S Z fuel (marked is listed) a' w) → wpAnyY P md ops Q S Z (fuel + is.length) listed a w
  | [], listed, a, hB, h, hK => hK a h
  | i :: is, listed, a, hB, h, hK => by
    simp only [freesY, Bool.and_eq_true] at hB
    obtain ⟨o, v, ho, hy, hW⟩ := h
    have hr : i ∈ Region.ready md ops listed := by simpa using hB.1.1.1
    exact wpAnyY_free ho (Region.noSelect_spec hs) (fun c a w h => absurd h (hQ _ _ _)) (by simpa using hB.1.2) _ _ _ _ (Region.free_spec ho hB.1.1.2) hr hy (freeY_then hs hQ w fuel K is _ _ hB.2 hW hK)
theorem closed_none : Closed md ops (Array.replicate ops.size false) := fun m om hm hl => by
  have := (Array.getElem?_eq_some_iff.1 hm).1
  simp [this] at hl
/-- The whole: what reads nothing and what only reads first, the rest as a tree of orders. -/
theorem wp_region_tree {id : Nat} {a : Act} {w : World} {L : List Oper} (fs is : List Nat) (Z : List Nat) (fuel : Nat) (hm : P.follows .mixedOrders = true) (hs : Region.noSelect L.toArray = true) (hF : freesY .any L.toArray Z fs (Array.replicate L.toArray.size false) = true) (hB : heldsY .any L.toArray Z is (marked fs (Array.replicate L.toArray.size false)) = true) (hl : fuel + is.length + fs.length = L.length) (hS : S w.drew) (K : Act → Prop)
    (h : heldWalk P L.toArray (fun _ => True) (fun a' => heldWalk P L.toArray S K is a') fs a) (hK : ∀ a', K a' → wpAnyY P .any L.toArray (NoPanic Q) S Z fuel (marked is (marked fs (Array.replicate L.toArray.size false))) a' w.drew) : (Code.region id L.toArray true).wp P Q a w := by
  have key := freeY_then (md := .any) (Q := NoPanic Q) (S := S) (Z := Z) hs (fun c a w h => h) w.drew (fuel + is.length) (fun a' => heldWalk P L.toArray S K is a') fs _ a hF h
    (fun a' ha' => heldY_then (md := .any) (Q := NoPanic Q) (S := S) (Z := Z) hs (fun c a w h => h) w.drew hS fuel K is _ a' (marked_closed fs closed_none hF) hB ha' hK)
  rw [hl] at key
  have e : L.toArray.size = L.length := by simp
  refine wp_region_noPanic (wp_region_any hm ?_)
  rw [e] at key
  rw [e]
  exact wpAny_of_Y _ _ _ _ key
/-- A node of the tree. -/
theorem treeY {rs : List Nat} {fuel : Nat} {listed : Array Bool} {a : Act} {w : World} (hr : Region.ready md ops listed = rs) (hne : rs ≠ []) (h : ∀ i ∈ rs, wpOp P ops Q i (fun a' w' => (i ∉ Z → S w') ∧ wpAnyY P md ops Q S Z fuel (listed.setIfInBounds i true) a' w') a w) : wpAnyY P md ops Q S Z (fuel + 1) listed a w :=
  ⟨fun h0 => absurd (hr.symm.trans h0) hne, fun i hi => h i (hr ▸ hi)⟩
/-- From here on in one order. -/
def lineY (P : Go.Program) (ops : Array Oper) (Q : Exit → Act → World → Prop) (S : World → Prop) (Z : List Nat) : List Nat → Act → World → Prop
  | [], a, w => Q .normal a w
  | j :: js, a, w => wpOp P ops Q j (fun a' w' => (j ∉ Z → S w') ∧ lineY P ops Q S Z js a' w') a w
theorem lineY_any : ∀ (js : List Nat) (listed : Array Bool) (a : Act) (w : World), linesB md ops js listed = true → lineY P ops Q S Z js a w → wpAnyY P md ops Q S Z js.length listed a w
  | [], listed, a, w, hB, h => ⟨by simpa [linesB] using hB, h⟩
  | j :: js, listed, a, w, hB, h => by
    simp only [linesB, Bool.and_eq_true] at hB
    have hr : Region.ready md ops listed = [j] := by simpa using hB.1
    refine ⟨fun h0 => absurd (hr.symm.trans h0) (by simp), fun i hi => ?_⟩
    obtain rfl : i = j := by rw [hr] at hi; simpa using hi
    exact wpOp_mono (fun a' w' h' => ⟨h'.1, lineY_any js _ a' w' hB.2 h'.2⟩) h
theorem lineY_step {L : List Oper} {j : Nat} {js : List Nat} {a : Act} {w w' : World} {o : Oper} {v : Value} (d : Option Tmp) (ho : L[j]? = some o) (hd : o.dst = d) (hg : o.guard = none)
    (hr : (execOp a.eval o).run P w = .ok (.value v) w') (hS : j ∉ Z → S w') (h : lineY P L.toArray Q S Z js (a.put d v) w') : lineY P L.toArray Q S Z (j :: js) a w := op_value d ho hd hg hr ⟨hS, h⟩
theorem lineY_skip {L : List Oper} {j : Nat} {js : List Nat} {a : Act} {w w' : World} {o : Oper} (d : Option Tmp) (ho : L[j]? = some o) (hd : o.dst = d) (hg : o.guard = none)
    (hr : (execOp a.eval o).run P w = .ok .skip w') (hS : j ∉ Z → S w') (h : lineY P L.toArray Q S Z js (a.put d undef) w') : lineY P L.toArray Q S Z (j :: js) a w := by
  subst hd
  have hw : Region.wanted o (yielded L.toArray a.tmps) = true := by simp [Region.wanted, hg]
  have ho' : L.toArray[j]? = some o := by simpa using ho
  unfold lineY wpOp
  simp only [ho', hw, if_true]
  refine .inl ?_
  unfold Oper.wp
  rw [hr]
  exact ⟨hS, h⟩
end
end Dk
namespace Dk
set_option linter.unusedSimpArgs false
set_option linter.unusedVariables false
open Go Go.RowKit
section
variable {P : Go.Program} {ops : Array Oper} {md : Region.Mode} {S : World → Prop} {Q : Exit → Act → World → Prop} {Z : List Nat}
/-- A tree of orders whose leaves meet in T, from where on there is one order. -/
def wpAnyT (P : Go.Program) (md : Region.Mode) (ops : Array Oper) (Q : Exit → Act → World → Prop) (S : World → Prop) (Z : List Nat) (T : Act → World → Prop) (js : List Nat) : Nat → Array Bool → Act → World → Prop
  | 0, listed, a, w => linesB md ops js listed = true ∧ T a w
  | fuel + 1, listed, a, w => Region.ready md ops listed ≠ [] ∧ ∀ i ∈ Region.ready md ops listed, wpOp P ops Q i (fun a' w' => (i ∉ Z → S w') ∧ wpAnyT P md ops Q S Z T js fuel (listed.setIfInBounds i true) a' w') a w
theorem cutY {T : Act → World → Prop} {js : List Nat} (ht : ∀ a w, T a w → lineY P ops Q S Z js a w) : ∀ (fuel : Nat) (listed : Array Bool) (a : Act) (w : World), wpAnyT P md ops Q S Z T js fuel listed a w → wpAnyY P md ops Q S Z (js.length + fuel) listed a w
  | 0, listed, a, w, h => lineY_any js listed a w h.1 (ht a w h.2)
  | fuel + 1, listed, a, w, h => ⟨fun h0 => absurd h0 h.1, fun i hi => wpOp_mono (fun a' w' h' => ⟨h'.1, cutY ht fuel _ a' w' h'.2⟩) (h.2 i hi)⟩
theorem nodeT {T : Act → World → Prop} {js rs : List Nat} {fuel : Nat} {listed : Array Bool} {a : Act} {w : World} (hr : Region.ready md ops listed = rs) (hne : rs ≠ []) (h : ∀ i ∈ rs, wpOp P ops Q i (fun a' w' => (i ∉ Z → S w') ∧ wpAnyT P md ops Q S Z T js fuel (listed.setIfInBounds i true) a' w') a w) : wpAnyT P md ops Q S Z T js (fuel + 1) listed a w :=
  ⟨fun h0 => absurd (hr.symm.trans h0) hne, fun i hi => h i (hr ▸ hi)⟩
end
end Dk
namespace Dk
open Go Go.RowKit
theorem nameY {P : Go.Program} {ops : Array Oper} {md : Region.Mode} {S : World → Prop} {Q : Exit → Act → World → Prop} {Z : List Nat} {f : Nat} {l : Array Bool} {a : Act} {w : World} (h : ∀ a0, a = a0 → wpAnyY P md ops Q S Z f l a0 w) : wpAnyY P md ops Q S Z f l a w := h a rfl
end Dk
