/- Plain facts on a program's parts, and on a program with more of everything; and how they lie in memory. -/
import Derived.Test.YtmapmhcmeokahaaMem
namespace Dk
set_option linter.unusedSimpArgs false
set_option linter.unusedVariables false
set_option linter.unnecessarySimpa false

def only (fs : List (List Ins)) (k : Nat) : List (List Ins) := (List.replicate fs.length []).set k (fs.getD k [])
def part (p : Prg) (k : Nat) : Prg := { p with funcs := only p.funcs k }
def more (p : Prg) : Prg := { p with mutexes := 4, conds := 4, sems := [1, 1, 1, 1], pipes := [1, 1, 1, 1] }

theorem only_length (fs : List (List Ins)) (k : Nat) : (only fs k).length = fs.length := by simp [only]
theorem choices_part (p : Prg) (k : Nat) (x : Int) : choices (part p k) x = choices p x := by
  unfold choices part
  simp only [only_length]
theorem sound_part (p : Prg) (k : Nat) (i : Ins) : soundB (part p k) i = soundB p i := by
  unfold soundB mayB
  simp only [choices_part]
theorem only_getD (fs : List (List Ins)) (k r : Nat) (hk : k < fs.length) : (only fs k).getD r [] = if r = k then fs.getD k [] else [] := by
  unfold only
  simp only [List.getD_eq_getElem?_getD, List.getElem?_set, List.length_replicate]
  by_cases h : k = r
  · subst h; simp [hk]
  · rw [if_neg h, if_neg (fun e => h e.symm)]
    by_cases hr : r < fs.length <;> simp [hr, List.getElem?_replicate]
theorem only_mem {fs : List (List Ins)} {k : Nat} {c : List Ins} (h : c ∈ only fs k) : c = [] ∨ c = fs.getD k [] := by
  unfold only at h
  rcases List.mem_or_eq_of_mem_set h with h | h
  · exact Or.inl (List.eq_of_mem_replicate h)
  · exact Or.inr h
theorem only_has {fs : List (List Ins)} {k : Nat} (hk : k < fs.length) : fs.getD k [] ∈ only fs k := by
  unfold only
  exact List.mem_set (by simpa using hk) _
theorem all_only (fs : List (List Ins)) (k : Nat) (hk : k < fs.length) (f : List Ins → Bool) (h0 : f [] = true) : (only fs k).all f = f (fs.getD k []) := by
  rw [Bool.eq_iff_iff, List.all_eq_true]
  constructor
  · intro h; exact h _ (only_has hk)
  · intro h c hc
    rcases only_mem hc with e | e <;> rw [e]
    · exact h0
    · exact h

theorem fits_of {p : Prg} (h : (check p == 9) = false) : codeFitsB p.funcs = true ∧ objectsFitB p = true := by
  have : (codeFitsB p.funcs && objectsFitB p) = true := by
    rw [← Bool.not_eq_false]
    intro e
    unfold check at h
    rw [if_pos e] at h
    simp at h
  exact Bool.and_eq_true_iff.1 this
theorem check_zero_iff {p : Prg} (h : (check p == 9) = false) : (check p == 0) = allSoundB p := by
  obtain ⟨h1, h2⟩ := fits_of h
  unfold check
  rw [h1, h2]
  cases allSoundB p <;> rfl
theorem part_fits {p : Prg} {k : Nat} (hk : k < p.funcs.length) (h : (check p == 9) = false) : (check (part p k) == 9) = false := by
  obtain ⟨h1, h2⟩ := fits_of h
  have e1 : codeFitsB (part p k).funcs = true := by
    show codeFitsB (only p.funcs k) = true
    unfold codeFitsB at *
    rw [only_length]
    rw [Bool.and_eq_true] at h1 ⊢
    refine ⟨h1.1, ?_⟩
    rw [all_only _ _ hk _ (by simp)]
    rw [List.all_eq_true] at h1
    have hm : p.funcs.getD k [] ∈ p.funcs := by
      rw [List.getD_eq_getElem?_getD, List.getElem?_eq_getElem hk]
      exact List.getElem_mem hk
    exact h1.2 _ hm
  have e2 : objectsFitB (part p k) = true := h2
  unfold check
  rw [e1, e2]
  cases allSoundB (part p k) <;> rfl
theorem check_part {p : Prg} {k : Nat} (hk : k < p.funcs.length) (h : (check p == 9) = false) : (check (part p k) == 0) = (p.funcs.getD k []).all fun i => soundB p i := by
  rw [check_zero_iff (part_fits hk h)]
  unfold allSoundB
  show ((only p.funcs k).all fun c => c.all fun i => soundB (part p k) i) = _
  rw [all_only _ _ hk _ (by simp)]
  simp only [sound_part]

theorem choices_more {p : Prg} (h : objectsFitB p = true) (x : Int) : choices p x ≤ choices (more p) x := by
  unfold objectsFitB withinB at h
  simp only [Bool.and_eq_true, decide_eq_true_eq] at h
  unfold choices more
  simp only [List.length_cons, List.length_nil]
  repeat' split
  all_goals omega
theorem may_more {p : Prg} (h : objectsFitB p = true) (x v : Int) (hm : mayB p x v = true) : mayB (more p) x v = true := by
  have hc := choices_more h x
  unfold mayB at *
  rw [Bool.or_eq_true] at *
  rcases hm with hm | hm
  · exact Or.inl hm
  · right
    simp only [decide_eq_true_eq] at *
    omega
theorem sound_more {p : Prg} (h : (check p == 9) = false) {i : Ins} (hs : soundB p i = true) : soundB (more p) i = true := by
  have h2 := (fits_of h).2
  unfold soundB at *
  simp only [Bool.and_eq_true] at *
  obtain ⟨⟨⟨⟨a, b⟩, c⟩, d⟩, e⟩ := hs
  exact ⟨⟨⟨⟨a, may_more h2 _ _ b⟩, may_more h2 _ _ c⟩, may_more h2 _ _ d⟩, may_more h2 _ _ e⟩

open Go Go.RowKit

theorem nilN (B : Nat) (w : World) : SlN B w none 0 0 [] := ⟨rfl, Nat.le_refl _, Nat.zero_le _, by simp, fun h => absurd h (by omega)⟩

/-- A part, in memory: a new row of functions, all empty but one. -/
theorem part_at {B B' : Nat} {w : World} {s : Sh} {p : Prg} {k nb : Nat} {A' : Option Addr} {L' C' : Nat} (h : PrgAt B w s p) (hk : k < s.fL) (hB : B ≤ B') (hnb : nb < B')
    (hrow : SlN B w A' L' C' (p.funcs.getD k [])) (hcell : ∀ r, r < s.fL → w.cell? ⟨nb, r, none⟩ = some (if r = k then .slice A' L' C' else .slice none 0 0)) :
    PrgAt B' w ⟨some ⟨nb, 0, none⟩, s.fL, s.fL, s.sA, s.sL, s.sC, s.pA, s.pL, s.pC⟩ (part p k) := by
  have hl := h.funcs.len
  refine ⟨⟨?_, Nat.le_refl _, Nat.le_trans h.funcs.cap h.funcs.max, fun _ => ⟨nb, 0, rfl, hnb, fun r hr => ?_⟩⟩, h.sems.more hB, h.pipes.more hB, h.words, h.mutexes, h.conds, h.blocks, h.prio⟩
  · show (only p.funcs k).length = s.fL
    rw [only_length]; exact hl
  · have hr' : r < s.fL := hr
    have hc := hcell r hr'
    show ∃ A' L' C', w.cell? ⟨nb, 0 + r, none⟩ = some (.slice A' L' C') ∧ SlN B' w A' L' C' ((only p.funcs k).getD r [])
    rw [only_getD _ _ _ (by rw [hl]; exact hk), Nat.zero_add]
    by_cases e : r = k
    · rw [if_pos e] at hc ⊢
      exact ⟨A', L', C', hc, hrow.more hB⟩
    · rw [if_neg e] at hc ⊢
      exact ⟨none, 0, 0, hc, nilN _ _⟩

end Dk
