/- What the walks of the statements on shares have in common. -/
import Derived.Test.YtihikekhfbpnaaaFj
import Derived.Test.YtihikekhfbpnaaaFf
import Derived.Test.YtihikekhfbpnaaaOpm
import Derived.Deep.CutRange
namespace Dk
set_option linter.unusedSimpArgs false
set_option linter.unusedVariables false
set_option linter.unnecessarySimpa false
open Go Go.RowKit

theorem wf_i8 {x : Int} (h : (Lit.int .i8 x).wf = true) : -128 ≤ x ∧ x ≤ 127 := by
  simp [Lit.wf, IntKind.min, IntKind.max, IntKind.signed, IntKind.bits] at h
  omega
theorem i8_cell {B : Nat} {w : World} {A : Option Addr} {L C : Nat} {xs : List Int} (h : Row 1 0 (IsInt .i8) B w A L C xs) (h0 : 0 < L) : ∃ b o, A = some ⟨b, o, none⟩ ∧ b < B ∧ ∀ k, k < L → w.cell? ⟨b, o + k, none⟩ = some (.int .i8 (xs.getD k 0)) ∧ -128 ≤ xs.getD k 0 ∧ xs.getD k 0 ≤ 127 := by
  obtain ⟨b, o, e, hb, hc⟩ := h.cells h0
  refine ⟨b, o, e, hb, fun k hk => ?_⟩
  obtain ⟨vs, h1, ⟨rfl, hlt⟩, h3⟩ := hc k hk
  have := h3 0 (by omega)
  rw [Nat.mul_one, Nat.add_zero] at this
  rw [this]
  exact ⟨rfl, wf_i8 hlt⟩
theorem u8_cell {B : Nat} {w : World} {A : Option Addr} {L C : Nat} {xs : List Nat} (h : Row 1 0 IsByte B w A L C xs) (h0 : 0 < L) : ∃ b o, A = some ⟨b, o, none⟩ ∧ b < B ∧ ∀ k, k < L → w.cell? ⟨b, o + k, none⟩ = some (.int .u8 ((xs.getD k 0 : Nat) : Nat)) ∧ xs.getD k 0 < 256 := by
  obtain ⟨b, o, e, hb, hc⟩ := h.cells h0
  refine ⟨b, o, e, hb, fun k hk => ?_⟩
  obtain ⟨vs, h1, ⟨rfl, hlt⟩, h3⟩ := hc k hk
  have := h3 0 (by omega)
  rw [Nat.mul_one, Nat.add_zero] at this
  rw [this]
  exact ⟨rfl, hlt⟩
theorem take_more {α : Type} (xs : List α) (k : Nat) (hk : k < xs.length) (d : α) : xs.take (k + 1) = xs.take k ++ [xs.getD k d] := by
  rw [List.take_succ_eq_append_getElem hk]
  simp [List.getD, hk]
theorem sum_take_more (xs : List Int) (k : Nat) (hk : k < xs.length) : (xs.take (k + 1)).sum = (xs.take k).sum + xs.getD k 0 := by
  rw [take_more xs k hk 0, List.sum_append, List.sum_singleton]
theorem sum_take_pos : ∀ (xs : List Int) (k : Nat), (∀ j, j < xs.length → 0 ≤ xs.getD j 0) → 0 ≤ (xs.take k).sum ∧ (xs.take k).sum ≤ xs.sum
  | [], k, _ => by simp
  | x :: xs, 0, h => by
    have := (sum_take_pos xs xs.length (fun j hj => by simpa using h (j + 1) (by simpa using hj))).1
    rw [List.take_length] at this
    have h0 := h 0 (by simp)
    simp at h0 ⊢
    omega
  | x :: xs, k + 1, h => by
    have := sum_take_pos xs k (fun j hj => by simpa using h (j + 1) (by simpa using hj))
    have h0 := h 0 (by simp)
    simp at h0 ⊢
    omega
theorem getD_mem {xs : List Int} {k : Nat} (h : k < xs.length) : xs.getD k 0 ∈ xs := by
  simp [List.getD, h]
theorem sli_read {B : Nat} {w : World} {A : Option Addr} {L C : Nat} {xs : List Int} (h : SlI B w A L C xs) (k : Nat) (hk : k < L) : ∃ b o, A = some ⟨b, o, none⟩ ∧ ∀ w', Below B w w' → w'.cell? ⟨b, o + k, none⟩ = some (.int .i64 (xs.getD k 0)) := by
  obtain ⟨b, o, e, hlt, hc⟩ := h.cells (by omega)
  exact ⟨b, o, e, fun w' u => by rw [u.cell (by show b < B; exact hlt)]; exact hc k hk⟩

/-- The frame, out of what it was and what is in some of its slots. -/
theorem SameBut.fold {slots : List Nat} {a0 a : Act} (h : SameBut slots a0 a) (hl : ∀ d ∈ slots, d < a0.tmps.size) : a = slots.foldl (fun x d => x.put (some d) (a.eval (.tmp d))) a0 := by
  have key : ∀ (ss : List Nat) (x : Act), x.tmps.size = a.tmps.size → x.defers = a.defers → (∀ d ∈ ss, d < a.tmps.size) → (∀ k, k ∉ ss → a.eval (.tmp k) = x.eval (.tmp k)) → a = ss.foldl (fun x d => x.put (some d) (a.eval (.tmp d))) x := by
    intro ss
    induction ss with
    | nil => intro x h1 h2 _ h4; exact act_ext h1.symm h2.symm (fun k _ => h4 k (by simp))
    | cons d ss ih =>
      intro x h1 h2 h3 h4
      rw [List.foldl_cons]
      refine ih (x.put (some d) (a.eval (.tmp d))) (by rw [size_put]; exact h1) h2 (fun k hk => h3 k (by simp [hk])) (fun k hk => ?_)
      rw [eval_put _ _ _ _ (by rw [h1]; exact h3 d (by simp))]
      by_cases e : d = k
      · subst e; rw [if_pos rfl]
      · rw [if_neg e]
        refine h4 k ?_
        simp only [List.mem_cons, not_or]
        exact ⟨Ne.symm e, hk⟩
  exact key slots a0 h.size.symm h.defers.symm (fun d hd => by rw [h.size]; exact hl d hd) h.eval
end Dk
namespace Go.Proofs.Ytihikekhfbpnaaa
set_option linter.unusedSimpArgs false
set_option linter.unusedVariables false
set_option linter.unnecessarySimpa false
open Go.RowKit Go.Lib
theorem K22 : Dk.SlK Try.prog 22 3 (.int .i64 0) 1 8 := ⟨Try.underlying22, info3, rfl, by decide, by decide⟩
end Go.Proofs.Ytihikekhfbpnaaa
