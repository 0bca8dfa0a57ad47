/- Four lists beside a pipe: what the document's own answer keeps. -/
import Derived.Test.YtnoeigmcanggdaaTt
namespace Go.Proofs.Ytnoeigmcanggdaa
set_option linter.unusedSimpArgs false
set_option linter.unusedVariables false
set_option linter.unnecessarySimpa false
open Go.RowKit Go.Lib

/-- Words, who waits to put, who waits to get, what they bring. -/
def R4 (va vb vc vd : Value) (a : List Nat) (b c : List Int) (d : List Nat) : List Dk.Thing :=
  [Dk.rowOf 27 1 va a.length (Dk.uw a), Dk.rowOf 3 1 vb b.length (Dk.is b), Dk.rowOf 3 1 vc c.length (Dk.is c), Dk.rowOf 27 1 vd d.length (Dk.uw d)]

theorem row_si (v : Value) (xs : List Int) (x : Int) : Dk.rowOf 3 1 v (xs.length + 1) (Dk.is xs ++ [.int .i64 x]) = Dk.rowOf 3 1 v (xs ++ [x]).length (Dk.is (xs ++ [x])) := by
  rw [List.length_append, Dk.is, Dk.is, List.map_append]
  rfl
theorem row_sw (v : Value) (xs : List Nat) (x : Nat) : Dk.rowOf 27 1 v (xs.length + 1) (Dk.uw xs ++ [.int .u64 (x : Nat)]) = Dk.rowOf 27 1 v (xs ++ [x]).length (Dk.uw (xs ++ [x])) := by
  rw [List.length_append, Dk.uw, Dk.uw, List.map_append]
  rfl

section
variable {W w : World} {bt : Nat} {room : Int} {ws : List Nat} {ps : List (Int × Nat)} {gs : List Int} {va vb vc vd : Value} {a d : List Nat} {b c : List Int}
theorem R4.ints {v : Value} {xs : List Int} (h : Dk.Tb W w bt room ws ps gs (R4 va vb vc vd a b c d)) (hm : Dk.rowOf 3 1 v xs.length (Dk.is xs) ∈ R4 va vb vc vd a b c d) (hx : ∀ x ∈ xs, Dk.i64 x) : ∃ A C, v = .slice A xs.length C ∧ Dk.SlI w.heap.size w A xs.length C xs := Dk.owns_ints (Tb.row h hm) hx
theorem R4.words {v : Value} {xs : List Nat} (h : Dk.Tb W w bt room ws ps gs (R4 va vb vc vd a b c d)) (hm : Dk.rowOf 27 1 v xs.length (Dk.uw xs) ∈ R4 va vb vc vd a b c d) (hx : ∀ x ∈ xs, x < 2 ^ 64) : ∃ A C, v = .slice A xs.length C ∧ Dk.Row 1 0 Dk.IsWord w.heap.size w A xs.length C xs := owns_words (Tb.row h hm) hx
/-- The first of a list. -/
theorem R4.head {e : TypeId} {n : Nat} {v x : Value} {xs : List Value} {us : List Dk.Thing} (h : Dk.Tb W w bt room ws ps gs us) (hm : Dk.rowOf e 1 v (n + 1) (x :: xs) ∈ us) : ∃ g C, v = .slice (some ⟨g, 0, none⟩) (n + 1) C ∧ n + 1 ≤ C ∧ C ≤ maxLen ∧ w.cell? ⟨g, 0, none⟩ = some x := by
  have hr := Tb.row h hm
  obtain ⟨_, ⟨_, h0⟩ | ⟨g, C, cur, rfl, hb, hg, hn, hm, hs, ht⟩⟩ := id hr
  · omega
  have := hr.cells (g := g) rfl 0 x rfl
  rw [Addr.add_lit] at this
  exact ⟨g, C, rfl, hn, hm, this⟩

theorem R4.addA (h : Dk.Tb W w bt room ws ps gs (R4 va vb vc vd a b c d)) (x : Nat) (hl : a.length ≤ 1000) :
    ∃ v' w', (Builtin.append_ #[25, 25] 25 #[va, .slice (some ⟨w.heap.size, 0, none⟩) 1 1]).run Try.prog (w.alloc (.cells #[.int .u64 (x : Nat)] 27)) = .ok v' w' ∧ Dk.Tb W w' bt room ws ps gs (R4 v' vb vc vd (a ++ [x]) b c d) := by
  obtain ⟨v', w', hr, t⟩ := Tb.append (us1 := []) (us2 := [Dk.rowOf 3 1 vb b.length (Dk.is b), Dk.rowOf 3 1 vc c.length (Dk.is c), Dk.rowOf 27 1 vd d.length (Dk.uw d)]) (x := .int .u64 (x : Nat)) K25 h rfl (by omega)
  rw [row_sw] at t
  exact ⟨v', w', hr, t⟩

theorem R4.addB (h : Dk.Tb W w bt room ws ps gs (R4 va vb vc vd a b c d)) (x : Int) (hl : b.length ≤ 1000) :
    ∃ v' w', (Builtin.append_ #[26, 26] 26 #[vb, .slice (some ⟨w.heap.size, 0, none⟩) 1 1]).run Try.prog (w.alloc (.cells #[.int .i64 x] 3)) = .ok v' w' ∧ Dk.Tb W w' bt room ws ps gs (R4 va v' vc vd a (b ++ [x]) c d) := by
  obtain ⟨v', w', hr, t⟩ := Tb.append (us1 := [Dk.rowOf 27 1 va a.length (Dk.uw a)]) (us2 := [Dk.rowOf 3 1 vc c.length (Dk.is c), Dk.rowOf 27 1 vd d.length (Dk.uw d)]) (x := .int .i64 x) K26 h rfl (by omega)
  rw [row_si] at t
  exact ⟨v', w', hr, t⟩

theorem R4.addC (h : Dk.Tb W w bt room ws ps gs (R4 va vb vc vd a b c d)) (x : Int) (hl : c.length ≤ 1000) :
    ∃ v' w', (Builtin.append_ #[26, 26] 26 #[vc, .slice (some ⟨w.heap.size, 0, none⟩) 1 1]).run Try.prog (w.alloc (.cells #[.int .i64 x] 3)) = .ok v' w' ∧ Dk.Tb W w' bt room ws ps gs (R4 va vb v' vd a b (c ++ [x]) d) := by
  obtain ⟨v', w', hr, t⟩ := Tb.append (us1 := [Dk.rowOf 27 1 va a.length (Dk.uw a), Dk.rowOf 3 1 vb b.length (Dk.is b)]) (us2 := [Dk.rowOf 27 1 vd d.length (Dk.uw d)]) (x := .int .i64 x) K26 h rfl (by omega)
  rw [row_si] at t
  exact ⟨v', w', hr, t⟩

theorem R4.addD (h : Dk.Tb W w bt room ws ps gs (R4 va vb vc vd a b c d)) (x : Nat) (hl : d.length ≤ 1000) :
    ∃ v' w', (Builtin.append_ #[25, 25] 25 #[vd, .slice (some ⟨w.heap.size, 0, none⟩) 1 1]).run Try.prog (w.alloc (.cells #[.int .u64 (x : Nat)] 27)) = .ok v' w' ∧ Dk.Tb W w' bt room ws ps gs (R4 va vb vc v' a b c (d ++ [x])) := by
  obtain ⟨v', w', hr, t⟩ := Tb.append (us1 := [Dk.rowOf 27 1 va a.length (Dk.uw a), Dk.rowOf 3 1 vb b.length (Dk.is b), Dk.rowOf 3 1 vc c.length (Dk.is c)]) (us2 := []) (x := .int .u64 (x : Nat)) K25 h rfl (by omega)
  rw [row_sw] at t
  exact ⟨v', w', hr, t⟩

theorem R4.tailA {x : Nat} (h : Dk.Tb W w bt room ws ps gs (R4 va vb vc vd (x :: a) b c d)) (hl : a.length ≤ 1000) :
    ∃ g C A v' w', va = .slice (some ⟨g, 0, none⟩) (a.length + 1) C ∧ a.length + 1 ≤ C ∧ C ≤ maxLen ∧ w.cell? ⟨g, 0, none⟩ = some (.int .u64 (x : Nat)) ∧ (if C = 1 then some (⟨g, 0, none⟩ : Addr) else some ⟨g, 1, none⟩) = some A ∧ (Builtin.append_ #[25, 25] 25 #[.slice (some ⟨w.heap.size, 0, none⟩) 0 0, .slice (some A) a.length (C - 1)]).run Try.prog (w.alloc (.cells #[] 27)) = .ok v' w' ∧ Dk.Tb W w' bt room ws ps gs (R4 v' vb vc vd a b c d) :=
  Tb.tail (us1 := []) (us2 := [Dk.rowOf 3 1 vb b.length (Dk.is b), Dk.rowOf 3 1 vc c.length (Dk.is c), Dk.rowOf 27 1 vd d.length (Dk.uw d)]) K25 h (Dk.uw_one _) (by omega)

theorem R4.tailD {x : Nat} (h : Dk.Tb W w bt room ws ps gs (R4 va vb vc vd a b c (x :: d))) (hl : d.length ≤ 1000) :
    ∃ g C A v' w', vd = .slice (some ⟨g, 0, none⟩) (d.length + 1) C ∧ d.length + 1 ≤ C ∧ C ≤ maxLen ∧ w.cell? ⟨g, 0, none⟩ = some (.int .u64 (x : Nat)) ∧ (if C = 1 then some (⟨g, 0, none⟩ : Addr) else some ⟨g, 1, none⟩) = some A ∧ (Builtin.append_ #[25, 25] 25 #[.slice (some ⟨w.heap.size, 0, none⟩) 0 0, .slice (some A) d.length (C - 1)]).run Try.prog (w.alloc (.cells #[] 27)) = .ok v' w' ∧ Dk.Tb W w' bt room ws ps gs (R4 va vb vc v' a b c d) :=
  Tb.tail (us1 := [Dk.rowOf 27 1 va a.length (Dk.uw a), Dk.rowOf 3 1 vb b.length (Dk.is b), Dk.rowOf 3 1 vc c.length (Dk.is c)]) (us2 := []) K25 h (Dk.uw_one _) (by omega)

theorem R4.dropB {x : Int} (h : Dk.Tb W w bt room ws ps gs (R4 va vb vc vd a (x :: b) c d)) (hl : b.length ≤ 900) :
    Calls Try.prog 9 #[vb, .int .i64 0] w fun e w' => ∃ v', e = .returned v' ∧ Dk.Tb W w' bt room ws ps gs (R4 va v' vc vd a b c d) := by
  have hr : w.ownsRow W.heap.size 3 1 vb (x :: b).length (Dk.is (x :: b)) := Tb.row h (by simp [R4])
  have K : Calls Try.prog 9 #[vb, .int .i64 0] w fun e w' => ∃ v', e = .returned v' ∧ w'.ownsRow w.heap.size 3 1 v' b.length (Dk.is b) ∧ v' ≠ .slice none 0 0 ∧ Below w.heap.size w w' := Without_any W.heap.size vb (x :: b) 0 w hr (by simp) (by simp; omega)
  refine K.mono ?_
  rintro e w' ⟨v', rfl, ho, _, hu⟩
  exact ⟨v', rfl, Tb.fresh (us1 := [Dk.rowOf 27 1 va a.length (Dk.uw a)]) (us2 := [Dk.rowOf 3 1 vc c.length (Dk.is c), Dk.rowOf 27 1 vd d.length (Dk.uw d)]) h hu (t' := Dk.rowOf 3 1 v' b.length (Dk.is b)) (Dk.owns_base ho (Nat.zero_le _)) (fun k hk => (ho.lt k hk).1)⟩

theorem R4.dropC {x : Int} (h : Dk.Tb W w bt room ws ps gs (R4 va vb vc vd a b (x :: c) d)) (hl : c.length ≤ 900) :
    Calls Try.prog 9 #[vc, .int .i64 0] w fun e w' => ∃ v', e = .returned v' ∧ Dk.Tb W w' bt room ws ps gs (R4 va vb v' vd a b c d) := by
  have hr : w.ownsRow W.heap.size 3 1 vc (x :: c).length (Dk.is (x :: c)) := Tb.row h (by simp [R4])
  have K : Calls Try.prog 9 #[vc, .int .i64 0] w fun e w' => ∃ v', e = .returned v' ∧ w'.ownsRow w.heap.size 3 1 v' c.length (Dk.is c) ∧ v' ≠ .slice none 0 0 ∧ Below w.heap.size w w' := Without_any W.heap.size vc (x :: c) 0 w hr (by simp) (by simp; omega)
  refine K.mono ?_
  rintro e w' ⟨v', rfl, ho, _, hu⟩
  exact ⟨v', rfl, Tb.fresh (us1 := [Dk.rowOf 27 1 va a.length (Dk.uw a), Dk.rowOf 3 1 vb b.length (Dk.is b)]) (us2 := [Dk.rowOf 27 1 vd d.length (Dk.uw d)]) h hu (t' := Dk.rowOf 3 1 v' c.length (Dk.is c)) (Dk.owns_base ho (Nat.zero_le _)) (fun k hk => (ho.lt k hk).1)⟩

theorem waits_eq (ps : List (Int × Nat)) (gs : List Int) (x : Int) : Dk.waits ps gs x = ((ps.map Prod.fst).contains x || gs.contains x) := by
  unfold Dk.waits
  rw [Bool.or_comm]
  congr 1
  induction ps with
  | nil => rfl
  | cons p r ih =>
    rw [List.any_cons, List.map_cons, List.contains_cons, ih]
    congr 1
    exact Bool.beq_comm
end
end Go.Proofs.Ytnoeigmcanggdaa
