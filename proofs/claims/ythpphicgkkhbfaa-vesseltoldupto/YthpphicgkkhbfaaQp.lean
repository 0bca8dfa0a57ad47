/- Regions that draw their order, whose operations only read, and one of whose calls panics: one walk serves all orders. Of any program of the model. -/
import Derived.Test.YthpphicgkkhbfaaQl
namespace Dk
set_option linter.unusedSimpArgs false
set_option linter.unusedVariables false
set_option linter.unnecessarySimpa false
open Go Go.RowKit

section
variable {P : Go.Program} {ops : Array Oper} {md : Region.Mode} {C E : World → Prop} {z : Nat} {G : Act → Prop} {ch : List PanicEntry}

/-- Operation z comes up in state 'a': a call that panics. -/
def PanicOk (P : Go.Program) (ops : Array Oper) (C E : World → Prop) (z : Nat) (G : Act → Prop) (ch : List PanicEntry) (a : Act) : Prop :=
  ∃ o, ops[z]? = some o ∧ Region.wanted o (yielded ops a.tmps) = true ∧ (∀ w, C w → ∃ f args, (execOp a.eval o).run P w = .ok (.enter f args) w ∧ Calls P f args w fun e w' => e = .panicked ch ∧ E w') ∧ G a

def wpP (P : Go.Program) (md : Region.Mode) (ops : Array Oper) (C E : World → Prop) (z : Nat) (G : Act → Prop) (ch : List PanicEntry) : Nat → Array Bool → Act → Prop
  | 0, _, _ => False
  | fuel + 1, listed, a => Region.ready md ops listed ≠ [] ∧
    ∀ i ∈ Region.ready md ops listed, (i = z → PanicOk P ops C E z G ch a) ∧ (i ≠ z → qOp P ops C i (wpP P md ops C E z G ch fuel (listed.setIfInBounds i true)) a)

set_option maxRecDepth 100000 in
theorem wpAny_of_P {Q' : Exit → Act → World → Prop} (hQ : ∀ a w, G a → E w → Q' (.panic ch) a w) : ∀ (fuel m : Nat) (listed : Array Bool) (a : Act) (w : World), fuel ≤ m → C w →
    wpP P md ops C E z G ch fuel listed a → wpAny P md ops Q' m listed a w
  | 0, _, _, _, _, _, _, h => h.elim
  | fuel + 1, 0, _, _, _, hm, _, _ => absurd hm (by omega)
  | fuel + 1, m + 1, listed, a, w, hm, hw, h => by
    refine ⟨fun h0 => absurd h0 h.1, fun i hi => ?_⟩
    by_cases e : i = z
    · obtain ⟨o, ho, hwant, hrun, hG⟩ := (h.2 i hi).1 e
      obtain ⟨f, args, hr, hc⟩ := hrun w hw
      unfold wpOp
      rw [e, ho]
      simp only [hwant, if_true]
      refine .inl ?_
      unfold Oper.wp
      rw [hr]
      exact hc.mono fun e' w' ⟨he, hE⟩ => by subst he; exact hQ _ _ hG hE
    · exact wpOp_of_qOp hw (fun a' w' hw' hk => wpAny_of_P hQ fuel m _ a' w' (by omega) hw' hk) ((h.2 i hi).2 e)

set_option maxRecDepth 100000 in
theorem wpP_first {i : Nat} {oi : Oper} {v : Value} (hiz : i ≠ z) (hi : ops[i]? = some oi) (hsel : ∀ (j : Nat) (o : Oper) cs b, ops[j]? = some o → o.op ≠ .select cs b) (hG : ∀ a, G (a.put oi.dst v) → G a) :
    ∀ (fuel : Nat) (listed : Array Bool) (a : Act),
      (∀ j oj, ops[j]? = some oj → j ≠ i → listed.getD j true = false → (∀ e ∈ oj.after, Region.binds md e = true → e.on ≠ i) → oi.apart ops oj = true) →
      i ∈ Region.ready md ops listed → YieldsIn P ops C oi v a →
      wpP P md ops C E z G ch fuel (listed.setIfInBounds i true) (a.put oi.dst v) → wpP P md ops C E z G ch (fuel + 1) listed a := by
  intro fuel
  induction fuel with
  | zero => intro listed a _ _ _ H; exact H.elim
  | succ fuel ih =>
    intro listed a hfree hr hy H
    refine ⟨fun h => (by rw [h] at hr; cases hr), fun j hj => ?_⟩
    by_cases hji : j = i
    · subst hji; exact ⟨fun e => absurd e hiz, fun _ => hy.qOp hi H⟩
    · have h1 := H.2 j (ready_mono hj hji)
      obtain ⟨hjun, oj, hoj, hall⟩ := mem_ready.1 hj
      have hnot : ∀ e ∈ oj.after, Region.binds md e = true → e.on ≠ i := fun e he hb heq => by
        have h1 := hall e he hb
        have h0 := (mem_ready.1 hr).1
        rw [heq] at h1
        rcases Nat.lt_or_ge i listed.size with h' | h'
        · simp [h'] at h0 h1; rw [h0] at h1; cases h1
        · simp [Array.getElem?_eq_none h'] at h1
      have hap := hfree j oj hoj hji hjun hnot
      obtain ⟨k1, k2, k3⟩ := Oper.apart_spec hap
      have hfree' : ∀ k ok, ops[k]? = some ok → k ≠ i → (listed.setIfInBounds j true).getD k true = false →
          (∀ e ∈ ok.after, Region.binds md e = true → e.on ≠ i) → oi.apart ops ok = true := fun k ok hk hki hun hno => by
        refine hfree k ok hk hki ?_ hno
        by_cases hjk : j = k
        · subst hjk; exact hjun
        · rw [getD_set_ne true hjk] at hun; exact hun
      have same : ∀ u, YieldsIn P ops C oi v (a.put oj.dst u) := fun u =>
        hy.of_same (execOp_put oi (fun cs b => hsel i oi cs b hi) a oj.dst u k3) (wanted_put oi a oj.dst u k3)
      refine ⟨fun e => ?_, fun e => ?_⟩
      · obtain ⟨oz, hoz, hwant, hrun, hGa⟩ := h1.1 e
        obtain rfl : oj = oz := by rw [e] at hoj; rw [hoj] at hoz; exact Option.some.inj hoz
        refine ⟨oj, hoz, by rw [wanted_put oj a oi.dst v k1] at hwant; exact hwant, fun w hw => ?_, hG _ hGa⟩
        have := hrun w hw
        rwa [execOp_put oj (fun cs b => hsel j oj cs b hoj) a oi.dst v k1] at this
      · have h2 := qOp_keep (R := fun a' => YieldsIn P ops C oi v a') hoj hap (fun cs b => hsel j oj cs b hoj) same (h1.2 e)
        refine qOp_mono (fun a' h3 => ih (listed.setIfInBounds j true) a' hfree' (ready_mono hr (Ne.symm hji)) h3.1 ?_) h2
        rw [Array.setIfInBounds_comm _ _ hji]
        exact h3.2

/-- May the operations 'is' be taken one behind another, and is z the only one that may come up then? -/
def takeB (md : Region.Mode) (ops : Array Oper) (z : Nat) : List Nat → Array Bool → Bool
  | [], listed => Region.ready md ops listed == [z]
  | i :: is, listed => (Region.ready md ops listed).contains i && Region.free md ops listed i && i != z && takeB md ops z is (listed.setIfInBounds i true)

set_option maxRecDepth 100000 in
theorem wpP_take (hs : Region.noSelect ops = true) (hG : ∀ (i : Nat) (o : Oper), ops[i]? = some o → ∀ v a, G (a.put o.dst v) → G a) : ∀ (is : List Nat) (listed : Array Bool) (a : Act), takeB md ops z is listed = true →
    wpQuiet P ops C (PanicOk P ops C E z G ch) (is.filterMap fun i => ops[i]?) a → wpP P md ops C E z G ch (is.length + 1) listed a
  | [], listed, a, hB, h => by
    have hr : Region.ready md ops listed = [z] := by simpa [takeB] using hB
    refine ⟨by rw [hr]; simp, fun i hi => ?_⟩
    rw [hr] at hi
    have hi' : i = z := by simpa using hi
    exact ⟨fun _ => h, fun e => absurd hi' e⟩
  | i :: is, listed, a, hB, h => by
    simp only [takeB, Bool.and_eq_true] at hB
    obtain ⟨⟨⟨hr, hf⟩, hz⟩, hB'⟩ := hB
    have hiz : i ≠ z := by simpa using hz
    have hr' : i ∈ Region.ready md ops listed := by simpa using hr
    obtain ⟨_, o, ho, _⟩ := mem_ready.1 hr'
    have h' : wpQuiet P ops C (PanicOk P ops C E z G ch) (o :: is.filterMap fun i => ops[i]?) a := by
      rw [List.filterMap_cons] at h
      simpa only [ho] using h
    have hst : qOp P ops C i (wpQuiet P ops C (PanicOk P ops C E z G ch) (is.filterMap fun i => ops[i]?)) a := by unfold qOp; simp only [ho]; exact h'
    obtain ⟨v, hy, hK⟩ := yieldsIn_of_qOp ho hst
    exact wpP_first hiz ho (Region.noSelect_spec hs) (hG i o ho v) (is.length + 1) listed a (Region.free_spec ho hf) hr' hy (wpP_take hs hG is _ _ hB' hK)

/-- Nothing that the region's operations write is among these slots. -/
def offB (ops : Array Oper) (keep : List Nat) : Bool := ops.all fun o => match o.dst with | some d => !keep.contains d | none => true
def panicB (L : List Oper) (z : Nat) (is keep : List Nat) : Bool := Region.noSelect L.toArray && takeB .any L.toArray z is (Array.replicate L.toArray.size false) && offB L.toArray keep && decide (is.length < L.length)
/-- The frame: what it defers, and those slots. -/
def Kept (a0 : Act) (keep : List Nat) (a : Act) : Prop := a.defers = a0.defers ∧ ∀ k ∈ keep, a.tmps[k]? = a0.tmps[k]?

set_option maxRecDepth 100000 in
theorem wp_region_panics {id : Nat} {Q : Exit → Act → World → Prop} {a : Act} {w : World} {L : List Oper} (is keep : List Nat) (z : Nat) (ch : List PanicEntry) (hm : P.follows .mixedOrders = true) (hB : panicB L z is keep = true) (hC : C w.drew)
    (hQ : ∀ a' w', Kept a keep a' → E w' → Q (.panic ch) a' w')
    (h : wpQuiet P L.toArray C (PanicOk P L.toArray C E z (Kept a keep) ch) (is.filterMap fun i => L[i]?) a) : (Code.region id L.toArray true).wp P Q a w := by
  unfold panicB at hB
  simp only [Bool.and_eq_true] at hB
  obtain ⟨⟨⟨hs, ht⟩, ho⟩, hl⟩ := hB
  have hG : ∀ (i : Nat) (o : Oper), L.toArray[i]? = some o → ∀ v a', Kept a keep (a'.put o.dst v) → Kept a keep a' := by
    intro i o hi v a' hk
    have := Array.all_eq_true_iff_forall_mem.1 ho o (Array.mem_of_getElem? hi)
    cases hd : o.dst with
    | none => rw [hd] at hk; exact hk
    | some d =>
      rw [hd] at hk this
      simp only [Bool.not_eq_true', List.contains_eq_mem, decide_eq_false_iff_not] at this
      refine ⟨hk.1, fun k hkk => ?_⟩
      rw [← hk.2 k hkk]
      have : d ≠ k := fun e => this (e ▸ hkk)
      simp [Act.put, Array.getElem?_setIfInBounds_ne this]
  have e : (is.filterMap fun i => L.toArray[i]?) = is.filterMap fun i => L[i]? := by simp
  have key := wpP_take (md := .any) (C := C) (E := E) (z := z) (G := Kept a keep) (ch := ch) hs hG is _ a ht (by rw [e]; exact h)
  refine wp_region_any hm ?_
  exact wpAny_of_P hQ _ _ _ _ _ (by have := of_decide_eq_true hl; simp; omega) hC key
end

end Dk
