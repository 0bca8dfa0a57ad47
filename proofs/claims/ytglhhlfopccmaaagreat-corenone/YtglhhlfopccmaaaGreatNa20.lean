import Derived.Test.YtglhhlfopccmaaaGreatNa19
set_option linter.unusedSimpArgs false
set_option linter.unusedVariables false
set_option linter.unnecessarySimpa false
set_option maxHeartbeats 8000000
set_option maxRecDepth 100000
namespace Dk
open Go Go.RowKit
section
variable {α β : Type} {f : α → List β} {q : Nat}
theorem flat_len (hf : ∀ a, (f a).length = q) : ∀ l : List α, (l.flatMap f).length = l.length * q
 | [] => by simp
 | a :: r => by rw [List.flatMap_cons, List.length_append, flat_len hf r, hf a, List.length_cons, Nat.add_mul, Nat.one_mul, Nat.add_comm]
theorem flat_get (hf : ∀ a, (f a).length = q) : ∀ (l : List α) (i j : Nat) (a : α), l[i]? = some a → j < q → (l.flatMap f)[i * q + j]? = (f a)[j]?
 | [], i, j, a, h, _ => by simp at h
 | x :: r, 0, j, a, h, hj => by
  simp at h
  subst h
  rw [List.flatMap_cons, Nat.zero_mul, Nat.zero_add, List.getElem?_append_left (by rw [hf]; exact hj)]
 | x :: r, i + 1, j, a, h, hj => by
  rw [List.flatMap_cons, List.getElem?_append_right (by rw [hf, Nat.add_mul]; omega), hf, show (i + 1) * q + j - q = i * q + j by rw [Nat.add_mul, Nat.one_mul]; omega]
  exact flat_get hf r i j a (by simpa using h) hj
theorem flat_set (hf : ∀ a, (f a).length = q) : ∀ (l : List α) (i j : Nat) (a a' : α) (y : β), l[i]? = some a → j < q → f a' = (f a).set j y → (l.flatMap f).set (i * q + j) y = (l.set i a').flatMap f
 | [], i, j, a, a', y, h, _, _ => by simp at h
 | x :: r, 0, j, a, a', y, h, hj, he => by
  simp at h
  subst h
  rw [List.flatMap_cons, Nat.zero_mul, Nat.zero_add, List.set_append_left _ _ (by rw [hf]; exact hj), List.set_cons_zero, List.flatMap_cons, he]
 | x :: r, i + 1, j, a, a', y, h, hj, he => by
  rw [List.flatMap_cons, List.set_append_right _ _ (by rw [hf, Nat.add_mul]; omega), hf, show (i + 1) * q + j - q = i * q + j by rw [Nat.add_mul, Nat.one_mul]; omega, List.set_cons_succ, List.flatMap_cons, flat_set hf r i j a a' y (by simpa using h) hj he]
theorem flat_all {p : β → Prop} (hf : ∀ a, ∀ x ∈ f a, p x) (l : List α) : ∀ x ∈ l.flatMap f, p x := fun x hx => by
 obtain ⟨a, _, ha⟩ := List.mem_flatMap.1 hx
 exact hf a x ha
end
section
variable {α : Type}
theorem perm_at : ∀ (l : List α) (i : Nat) (a : α), l[i]? = some a → l.Perm (a :: l.eraseIdx i)
 | [], i, a, h => by simp at h
 | x :: r, 0, a, h => by simp at h; subst h; exact List.Perm.refl _
 | x :: r, i + 1, a, h => ((perm_at r i a (by simpa using h)).cons x).trans (List.Perm.swap _ _ _)
theorem set_self : ∀ (l : List α) (i : Nat) (a : α), l[i]? = some a → l.set i a = l
 | [], i, a, h => by simp at h
 | x :: r, 0, a, h => by simp at h; subst h; rfl
 | x :: r, i + 1, a, h => by rw [List.set_cons_succ, set_self r i a (by simpa using h)]
theorem getD_some {l : List α} {i : Nat} {a : α} (h : l[i]? = some a) (d : α) : l.getD i d = a := by rw [List.getD_eq_getElem?_getD, h]; rfl
theorem some_lt {l : List α} {i : Nat} {a : α} (h : l[i]? = some a) : i < l.length := (List.getElem?_eq_some_iff.1 h).1
theorem lt_some {l : List α} {i : Nat} (h : i < l.length) : ∃ a, l[i]? = some a := ⟨_, List.getElem?_eq_getElem h⟩
end
def cts {α : Type} (g : α → Int) (x : Int) (l : List (List α)) : Nat := (l.map fun r => (r.map g).count x).sum
theorem cts_set {α : Type} (g : α → Int) (x : Int) : ∀ (l : List (List α)) (i : Nat) (y : List α), i < l.length → cts g x (l.set i y) + ((l.getD i []).map g).count x = cts g x l + (y.map g).count x
 | [], i, y, h => absurd h (by simp)
 | z :: r, 0, y, _ => by
  unfold cts
  simp
  omega
 | z :: r, i + 1, y, h => by
  have := cts_set g x r i y (by simpa using h)
  unfold cts at this ⊢
  simp only [List.set_cons_succ, List.map_cons, List.sum_cons, List.getD_cons_succ]
  omega
theorem cts_get {α : Type} (g : α → Int) (x : Int) : ∀ (l : List (List α)) (i : Nat), ((l.getD i []).map g).count x ≤ cts g x l
 | [], i => by simp
 | z :: r, 0 => by unfold cts; simp
 | z :: r, i + 1 => by
  have := cts_get g x r i
  unfold cts at this ⊢
  simp only [List.map_cons, List.sum_cons, List.getD_cons_succ]
  omega
theorem cts_pos {α : Type} (g : α → Int) (x : Int) : ∀ (l : List (List α)), (l.any fun r => (r.map g).contains x) = decide (0 < cts g x l)
 | [] => by simp [cts]
 | z :: r => by
  have := cts_pos g x r
  rw [List.any_cons, this]
  unfold cts
  simp only [List.map_cons, List.sum_cons]
  by_cases h : 0 < (z.map g).count x
  ·have : (z.map g).contains x = true := by rw [List.contains_iff_mem]; exact List.count_pos_iff.1 h
   rw [this]
   simp
   omega
  ·have : (z.map g).contains x = false := by
    rw [Bool.eq_false_iff]
    intro hc
    rw [List.contains_iff_mem] at hc
    exact h (List.count_pos_iff.2 hc)
   rw [this]
   simp
   omega
def St.cnt (S : St) (x : Int) : Nat := cts id x S.wait + cts Prod.fst x S.conds + cts id x S.downs
theorem St.waits_cnt (S : St) (x : Int) : S.waits x = decide (0 < S.cnt x) := by
 have h1 := cts_pos id x S.wait
 have h2 := cts_pos Prod.fst x S.conds
 have h3 := cts_pos id x S.downs
 simp only [List.map_id] at h1 h3
 have h2' : (S.conds.any fun l => l.any fun p => p.1 == x) = decide (0 < cts Prod.fst x S.conds) := by
  rw [← h2]
  congr 1
  funext r
  rw [Bool.eq_iff_iff, List.any_eq_true, List.contains_iff_mem, List.mem_map]
  constructor
  ·rintro ⟨p, hp, e⟩
   exact ⟨p, hp, by simpa using e⟩
  ·rintro ⟨p, hp, e⟩
   exact ⟨p, hp, by simpa using e⟩
 unfold St.waits St.cnt
 rw [h1, h3, h2']
 simp only [← Bool.decide_or]
 rw [decide_eq_decide]
 omega
structure Fair (S : St) : Prop where
 once : ∀ x, S.cnt x ≤ 1
 free : ∀ n, n < S.wait.length → S.held.getD n false = false → S.wait.getD n [] = []
 some_ : ∀ n, n < S.downs.length → 0 < S.count.getD n 0 → S.downs.getD n [] = []
theorem getD_set_eq {α : Type} {l : List α} {n : Nat} {y d : α} (h : n < l.length) : (l.set n y).getD n d = y := by simp [List.getD, h]
theorem getD_set_ne {α : Type} {l : List α} {n m : Nat} {y d : α} (h : n ≠ m) : (l.set n y).getD m d = l.getD m d := by simp [List.getD, List.getElem?_set_ne h]
theorem cnt_wait (S : St) (n : Nat) (hn : n < S.wait.length) (l : List Int) (x : Int) : St.cnt { S with wait := S.wait.set n l } x + (S.wait.getD n []).count x = S.cnt x + l.count x := by
 have := cts_set id x S.wait n l hn
 simp only [List.map_id] at this
 unfold St.cnt
 dsimp only
 omega
theorem cnt_downs (S : St) (n : Nat) (hn : n < S.downs.length) (l : List Int) (x : Int) : St.cnt { S with downs := S.downs.set n l } x + (S.downs.getD n []).count x = S.cnt x + l.count x := by
 have := cts_set id x S.downs n l hn
 simp only [List.map_id] at this
 unfold St.cnt
 dsimp only
 omega
theorem cnt_conds (S : St) (n : Nat) (hn : n < S.conds.length) (l : List (Int × Int)) (x : Int) : St.cnt { S with conds := S.conds.set n l } x + ((S.conds.getD n []).map Prod.fst).count x = S.cnt x + (l.map Prod.fst).count x := by
 have := cts_set Prod.fst x S.conds n l hn
 unfold St.cnt
 dsimp only
 omega
theorem count_le {x y : Int} : [y].count x ≤ 1 := by rw [List.count_singleton]; split <;> omega
theorem not_waits {S : St} {x : Int} (h : S.waits x = false) : S.cnt x = 0 := by
 rw [St.waits_cnt] at h
 simpa using h
theorem Fair.addWait {S : St} (h : Fair S) (n : Nat) (hn : n < S.wait.length) (who : Int) (hw : S.waits who = false) (hh : S.held.getD n false = true) : Fair { S with wait := S.wait.set n (S.wait.getD n [] ++ [who]) } := by
 refine ⟨fun x => ?_, fun m hm hf => ?_, h.some_⟩
 ·have h1 := cnt_wait S n hn (S.wait.getD n [] ++ [who]) x
  rw [List.count_append] at h1
  by_cases hx : who = x
  ·subst hx
   have := not_waits hw
   have := count_le (x := who) (y := who)
   omega
  ·have h2 := h.once x
   rw [List.count_singleton, if_neg (by simpa using hx)] at h1
   omega
 ·dsimp only at hm hf ⊢
  rw [List.length_set] at hm
  by_cases e : n = m
  ·subst e; rw [hh] at hf; cases hf
  ·rw [getD_set_ne e]
   exact h.free m hm hf
theorem Fair.addDowns {S : St} (h : Fair S) (n : Nat) (hn : n < S.downs.length) (who : Int) (hw : S.waits who = false) (hc : ¬ 0 < S.count.getD n 0) : Fair { S with downs := S.downs.set n (S.downs.getD n [] ++ [who]) } := by
 refine ⟨fun x => ?_, h.free, fun m hm hf => ?_⟩
 ·have h1 := cnt_downs S n hn (S.downs.getD n [] ++ [who]) x
  rw [List.count_append] at h1
  by_cases hx : who = x
  ·subst hx
   have := not_waits hw
   have := count_le (x := who) (y := who)
   omega
  ·have h2 := h.once x
   rw [List.count_singleton, if_neg (by simpa using hx)] at h1
   omega
 ·dsimp only at hm hf ⊢
  rw [List.length_set] at hm
  by_cases e : n = m
  ·subst e; exact absurd hf hc
  ·rw [getD_set_ne e]
   exact h.some_ m hm hf
theorem cnt_erase {l : List Int} {k : Nat} {x : Int} : (l.eraseIdx k).count x ≤ l.count x := List.Sublist.count_le _ (List.eraseIdx_sublist _ _)
theorem Fair.takeDowns {S : St} (h : Fair S) (n : Nat) (hn : n < S.downs.length) (k : Nat) : Fair { S with downs := S.downs.set n ((S.downs.getD n []).eraseIdx k) } := by
 refine ⟨fun x => ?_, h.free, fun m hm hf => ?_⟩
 ·have h1 := cnt_downs S n hn ((S.downs.getD n []).eraseIdx k) x
  have h2 := h.once x
  have h3 := cnt_erase (l := S.downs.getD n []) (k := k) (x := x)
  omega
 ·dsimp only at hm hf ⊢
  rw [List.length_set] at hm
  have h4 := h.some_ m hm hf
  by_cases e : n = m
  ·subst e
   rw [getD_set_eq hm, h4]
   rfl
  ·rw [getD_set_ne e]
   exact h4
theorem Fair.setCount {S : St} (h : Fair S) (n : Nat) (y : Int) (hy : S.downs.getD n [] = [] ∨ ¬ 0 < y) : Fair { S with count := S.count.set n y } := by
 refine ⟨h.once, h.free, fun m hm hf => ?_⟩
 dsimp only at hm hf ⊢
 by_cases e : n = m
 ·subst e
  rcases hy with hy | hy
  ·exact hy
  ·by_cases hl : n < S.count.length
   ·rw [getD_set_eq hl] at hf
    exact absurd hf hy
   ·have : (S.count.set n y).getD n 0 = 0 := by simp [List.getD, List.getElem?_eq_none (show (S.count.set n y).length ≤ n by rw [List.length_set]; omega)]
    omega
 ·rw [getD_set_ne e] at hf
  exact h.some_ m hm hf
theorem Fair.yes {S : St} (h : Fair S) (n : Nat) (who : Int) : Fair { S with held := S.held.set n true, owner := S.owner.set n who } := by
 refine ⟨h.once, fun m hm hf => ?_, h.some_⟩
 dsimp only at hm hf ⊢
 by_cases e : n = m
 ·subst e
  by_cases hl : n < S.held.length
  ·rw [getD_set_eq hl] at hf
   cases hf
  ·have e1 : S.held.getD n false = false := by simp [List.getD, List.getElem?_eq_none (show S.held.length ≤ n by omega)]
   exact h.free n hm e1
 ·rw [getD_set_ne e] at hf
  exact h.free m hm hf
theorem Fair.addConds {S : St} (h : Fair S) (n : Nat) (hn : n < S.conds.length) (p : Int × Int) (hw : S.waits p.1 = false) : Fair { S with conds := S.conds.set n (S.conds.getD n [] ++ [p]) } := by
 refine ⟨fun x => ?_, h.free, h.some_⟩
 have h1 := cnt_conds S n hn (S.conds.getD n [] ++ [p]) x
 rw [List.map_append, List.count_append, List.map_cons, List.map_nil] at h1
 by_cases hx : p.1 = x
 ·rw [hx] at hw h1
  have := not_waits hw
  have := count_le (x := x) (y := x)
  omega
 ·have h2 := h.once x
  rw [List.count_singleton, if_neg (by simpa using hx)] at h1
  omega
theorem Fair.open {S : St} {k : Nat} (h : Fair S) (ok : Ok S k) (n : Nat) (hn : n < S.owner.length) (ch : Int) : Fair (S.open n ch).1 ∧ ∀ x, (S.open n ch).1.cnt x ≤ S.cnt x := by
 have hw : n < S.wait.length := by rw [ok.wait]; exact hn
 have hh : n < S.held.length := by rw [ok.held]; exact hn
 by_cases h0 : (S.wait.getD n []).length = 0
 ·rw [open_eq_none S n ch h0]
  refine ⟨⟨h.once, fun m hm hf => ?_, h.some_⟩, fun x => Nat.le_refl _⟩
  dsimp only at hm hf ⊢
  by_cases e : n = m
  ·subst e
   exact List.eq_nil_of_length_eq_zero h0
  ·rw [getD_set_ne e] at hf
   exact h.free m hm hf
 ·rw [open_eq_some S n ch _ rfl (by omega) _ rfl _ rfl]
  have hc : ∀ x, St.cnt { S with owner := S.owner.set n ((S.wait.getD n []).getD (at_ ch (S.wait.getD n []).length) 0), wait := S.wait.set n ((S.wait.getD n []).eraseIdx (at_ ch (S.wait.getD n []).length)) } x ≤ S.cnt x := fun x => by
   have h1 := cnt_wait S n hw ((S.wait.getD n []).eraseIdx (at_ ch (S.wait.getD n []).length)) x
   have h3 := cnt_erase (l := S.wait.getD n []) (k := at_ ch (S.wait.getD n []).length) (x := x)
   unfold St.cnt at h1 ⊢
   dsimp only at h1 ⊢
   omega
  refine ⟨⟨fun x => Nat.le_trans (hc x) (h.once x), fun m hm hf => ?_, h.some_⟩, hc⟩
  dsimp only at hm hf ⊢
  rw [List.length_set] at hm
  have h4 := h.free m hm hf
  by_cases e : n = m
  ·subst e
   rw [h4] at h0
   exact absurd rfl h0
  ·rw [getD_set_ne e]
   exact h4
theorem open_conds (S : St) (n : Nat) (ch : Int) : (S.open n ch).1.conds = S.conds := by
 unfold St.open
 dsimp only
 split <;> rfl
theorem open_lens (S : St) (n : Nat) (ch : Int) : (S.open n ch).1.owner.length = S.owner.length := by
 unfold St.open
 dsimp only
 split
 ·rfl
 ·exact List.length_set
theorem told_kept (S : St) (c : Nat) (hc : c < S.conds.length) (ch : Int) (all : Bool) (x : Int) : St.cnt { S with conds := S.conds.set c (S.kept c ch all) } x + ((S.told c ch all).map Prod.fst).count x = S.cnt x := by
 have h1 := cnt_conds S c hc (S.kept c ch all) x
 have : ((S.kept c ch all).map Prod.fst).count x + ((S.told c ch all).map Prod.fst).count x = ((S.conds.getD c []).map Prod.fst).count x := by
  unfold St.kept St.told
  dsimp only
  cases all
  ·by_cases h0 : (S.conds.getD c []).length = 0
   ·have e0 := List.eq_nil_of_length_eq_zero h0
    simp [h0]
    rw [← List.getD_eq_getElem?_getD, e0]
    simp
   ·simp only [h0, if_false, Bool.false_eq_true]
    generalize S.conds.getD c [] = l at h0 ⊢
    have hk := at_lt ch (n := l.length) (by omega)
    generalize at_ ch l.length = k at hk ⊢
    have hp := perm_at l k (l.getD k (0, 0)) (by rw [List.getElem?_eq_getElem hk]; simp [List.getD, hk])
    have := (hp.map Prod.fst).count_eq x
    rw [this]
    simp [List.count_cons]
  ·simp
 omega
end Dk
