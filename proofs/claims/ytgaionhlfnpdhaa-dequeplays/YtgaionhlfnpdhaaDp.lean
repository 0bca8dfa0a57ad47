/- What the statement on plays does with its list. -/
import Derived.Test.YtgaionhlfnpdhaaDg
import Derived.Test.YtgaionhlfnpdhaaOpd
namespace Dk
set_option linter.unusedSimpArgs false
set_option linter.unusedVariables false
set_option linter.unnecessarySimpa false
open Go Go.RowKit

/-- The last place at which a number is, of the first ones. -/
def atOf (zs : List Int) (y : Int) : Nat → Int
  | 0 => -1
  | k + 1 => if zs.getD k 0 = y then (k : Int) else atOf zs y k
theorem atOf_no (zs : List Int) (y : Int) : ∀ n, (∀ j, j < n → zs.getD j 0 ≠ y) → atOf zs y n = -1
  | 0, _ => rfl
  | n + 1, h => by rw [atOf, if_neg (h n (by omega)), atOf_no zs y n (fun j hj => h j (by omega))]
theorem atOf_yes (zs : List Int) (y : Int) (p : Nat) (hp : zs.getD p 0 = y) : ∀ n, p < n → (∀ j, p < j → j < n → zs.getD j 0 ≠ y) → atOf zs y n = p
  | 0, h, _ => absurd h (by omega)
  | n + 1, h, hn => by
    rw [atOf]
    by_cases e : n = p
    · rw [if_pos (by rw [e]; exact hp), e]
    · rw [if_neg (hn n (by omega) (by omega))]
      exact atOf_yes zs y p hp n (by omega) (fun j h1 h2 => hn j h1 (by omega))
theorem has_no {zs : List Int} {y : Int} (h : zs.contains y = false) : ∀ j, j < zs.length → zs.getD j 0 ≠ y := by
  intro j hj e
  have : y ∈ zs := by
    rw [← e]
    simp [List.getD, hj]
  rw [← List.contains_iff_mem, h] at this
  cases this
theorem has_yes {zs : List Int} {y : Int} (hn : zs.Nodup) (h : zs.contains y = true) : ∃ p, p < zs.length ∧ zs.getD p 0 = y ∧ ∀ j, j < zs.length → j ≠ p → zs.getD j 0 ≠ y := by
  rw [List.contains_iff_mem] at h
  obtain ⟨p, hp, e⟩ := List.getElem_of_mem h
  refine ⟨p, hp, by simp [List.getD, hp, e], fun j hj hjp e' => hjp ?_⟩
  have e2 : zs[j] = zs[p] := by
    rw [e, ← e']
    simp [List.getD, hj]
  have hpw := List.pairwise_iff_getElem.1 (List.nodup_iff_pairwise_ne.1 hn)
  rcases Nat.lt_trichotomy j p with h1 | h1 | h1
  · exact absurd e2 (hpw j p hj hp h1)
  · exact h1
  · exact absurd e2.symm (hpw p j hp hj h1)
theorem nodup_behind {zs : List Int} {y : Int} (hn : zs.Nodup) (h : zs.contains y = false) : (zs ++ [y]).Nodup := by
  rw [List.nodup_append]
  refine ⟨hn, by simp, fun a ha b hb e => ?_⟩
  simp at hb
  subst hb
  subst e
  rw [← List.contains_iff_mem, h] at ha
  cases ha
theorem nodup_ahead {zs : List Int} {y : Int} (hn : zs.Nodup) (h : zs.contains y = false) : (y :: zs).Nodup := by
  rw [List.nodup_cons]
  refine ⟨fun ha => ?_, hn⟩
  rw [← List.contains_iff_mem, h] at ha
  cases ha
theorem nodup_erase {zs : List Int} (hn : zs.Nodup) (k : Nat) : (zs.eraseIdx k).Nodup := hn.sublist (List.eraseIdx_sublist zs k)
/-- The cells of an act of two numbers. -/
theorem act2_cell {B : Nat} {w : World} {A : Option Addr} {L C : Nat} {ac : List (List Int)} (h : Row 2 [] IsInts B w A L C ac) (h0 : 0 < L) : ∃ b o, A = some ⟨b, o, none⟩ ∧ b < B ∧ ∀ k, k < L → ∃ q y, i64 q ∧ i64 y ∧ w.cell? ⟨b, o + k * 2, none⟩ = some (.int .i64 q) ∧ w.cell? ⟨b, o + k * 2 + 1, none⟩ = some (.int .i64 y) := by
  obtain ⟨b, o, e, hb, hc⟩ := h.cells h0
  refine ⟨b, o, e, hb, fun k hk => ?_⟩
  obtain ⟨vs, h1, ⟨rfl, h2⟩, h3⟩ := hc k hk
  match hm : ac.getD k [], h1, h2, h3 with
  | [q, y], _, h2, h3 => exact ⟨q, y, h2 q (by simp), h2 y (by simp), h3 0 (by omega), h3 1 (by omega)⟩
end Dk
namespace Go.Proofs.Ytgaionhlfnpdhaa
set_option linter.unusedSimpArgs false
set_option linter.unusedVariables false
set_option linter.unnecessarySimpa false
open Go.RowKit

theorem owns_some {w : World} {base : Nat} {e : TypeId} {size : Nat} {v : Value} {n : Nat} {xs : List Value} (h : w.ownsRow base e size v n xs) (hv : v ≠ .slice none 0 0) : ∃ g C, v = .slice (some ⟨g, 0, none⟩) n C := by
  obtain ⟨_, ⟨rfl, rfl⟩ | ⟨g, cap, cur, rfl, _⟩⟩ := h
  · exact absurd rfl hv
  · exact ⟨g, cap, rfl⟩
/-- 'append' of one number to a list that is not nil. -/
theorem Append_some {W w : World} {bd g C : Nat} {xs ys : List Int} (h : Two W bd w xs (.slice (some ⟨g, 0, none⟩) ys.length C) ys) (y : Int) (hy : Dk.i64 y) (hl : ys.length ≤ 1000) :
    ∃ g' C' w', (Builtin.append_ #[25, 25] 25 #[.slice (some ⟨g, 0, none⟩) ys.length C, .slice (some ⟨w.heap.size, 0, none⟩) 1 1]).run Try.prog (w.alloc (.cells #[.int .i64 y] 3)) = .ok (.slice (some ⟨g', 0, none⟩) (ys.length + 1) C') w' ∧ Two W bd w' xs (.slice (some ⟨g', 0, none⟩) (ys.length + 1) C') (ys ++ [y]) := by
  obtain ⟨w1, e1⟩ : ∃ w1, w1 = w.alloc (.cells #[.int .i64 y] 3) := ⟨_, rfl⟩
  have u1 : Below w.heap.size w w1 := by rw [e1]; exact Dk.up_alloc (Below.refl _ _) _
  have h1 := h.below u1
  have p := Hid.out h1
  obtain ⟨v', w', hr, ho, hg, hf, hn⟩ := append_from W.heap.size 25 _ (Dk.is ys) ys.length w1 p.list ⟨w.heap.size, 0, none⟩ 1 1 [.int .i64 y] rfl (one_new w w1 _ 3 e1) (fun u hu => by simp at hu; subst hu; rfl) (by omega) p.up.size
  obtain ⟨g', C', rfl⟩ := owns_some ho (fun e => by simpa using hn.1 e)
  have ho' : w'.ownsRow W.heap.size 3 1 (.slice (some ⟨g', 0, none⟩) (ys.length + 1) C') (ys ++ [y]).length (Dk.is (ys ++ [y])) := by rw [List.length_append, Dk.is, List.map_append]; exact ho
  rw [e1] at hr
  refine ⟨g', C', w', hr, h1.turn (Dk.Away.of_grown hg (fun k hk => .inl hk)) ho' hf ?_⟩
  intro z hz
  rcases List.mem_append.1 hz with hz | hz
  · exact p.wf z hz
  · rw [List.mem_singleton] at hz; rw [hz]; exact hy
/-- A new list of one number, and the list behind it. -/
theorem Ahead_some {W w : World} {bd g C : Nat} {xs ys : List Int} (h : Two W bd w xs (.slice (some ⟨g, 0, none⟩) ys.length C) ys) (y : Int) (hy : Dk.i64 y) (hl : ys.length ≤ 1000) :
    ∃ g' C' w', (Builtin.append_ #[25, 25] 25 #[.slice (some ⟨w.heap.size, 0, none⟩) 1 1, .slice (some ⟨g, 0, none⟩) ys.length C]).run Try.prog (w.alloc (.cells #[.int .i64 y] 3)) = .ok (.slice (some ⟨g', 0, none⟩) (1 + ys.length) C') w' ∧ Two W bd w' xs (.slice (some ⟨g', 0, none⟩) (1 + ys.length) C') (y :: ys) := by
  obtain ⟨w1, e1⟩ : ∃ w1, w1 = w.alloc (.cells #[.int .i64 y] 3) := ⟨_, rfl⟩
  have u1 : Below w.heap.size w w1 := by rw [e1]; exact Dk.up_alloc (Below.refl _ _) _
  have h1 := h.below u1
  have p := Hid.out h1
  have o1 : w1.ownsRow w.heap.size 3 1 (.slice (some ⟨w.heap.size, 0, none⟩) 1 1) 1 [.int .i64 y] := by rw [e1]; exact World.ownsRow_lit w #[.int .i64 y] 1 (Nat.le_refl _) (by unfold maxLen; omega) rfl
  obtain ⟨v', w', hr, ho, hg, hf, hn⟩ := append_from w.heap.size 25 _ [.int .i64 y] 1 w1 o1 ⟨g, 0, none⟩ ys.length C (Dk.is ys) (by simp) (p.list.cells (g := g) rfl) (fun u hu => by obtain ⟨y, _, rfl⟩ := List.mem_map.1 hu; rfl) (by omega) u1.size
  obtain ⟨g', C', rfl⟩ := owns_some ho (fun e => by simpa using hn.1 e)
  have ho' : w'.ownsRow w.heap.size 3 1 (.slice (some ⟨g', 0, none⟩) (1 + ys.length) C') (y :: ys).length (Dk.is (y :: ys)) := by rw [List.length_cons, Nat.add_comm ys.length 1]; exact ho
  rw [e1] at hr
  refine ⟨g', C', w', hr, h.new (u1.grown hg u1.size (fun j hj => (o1.lt j hj).1)) ho' ?_⟩
  intro z hz
  rcases List.mem_cons.1 hz with hz | hz
  · rw [hz]; exact hy
  · exact p.wf z hz
theorem Without_two {W w : World} {bd : Nat} {xs ys : List Int} {u : Value} (h : Two W bd w xs u ys) (k : Nat) (hk : k < ys.length) (hl : ys.length ≤ 1000) :
    Calls Try.prog 12 #[u, .int .i64 (k : Int)] w fun e w' => ∃ g C, e = .returned (.slice (some ⟨g, 0, none⟩) (ys.eraseIdx k).length C) ∧ Two W bd w' xs (.slice (some ⟨g, 0, none⟩) (ys.eraseIdx k).length C) (ys.eraseIdx k) := by
  refine (Without_any W.heap.size u ys k w (Hid.out h).list hk hl).mono ?_
  rintro e w' ⟨v', rfl, ho, hv, hu⟩
  obtain ⟨g, C, rfl⟩ := owns_some ho hv
  exact ⟨g, C, rfl, h.new hu ho (fun y hy => (Hid.out h).wf y (List.mem_of_mem_eraseIdx hy))⟩

theorem Pop_at {W w : World} {bd : Nat} {xs ys : List Int} {u : Value} (h : Two W bd w xs u ys) (h0 : 0 < xs.length) (hl : xs.length ≤ 900) :
    Calls Try.prog 10 #[.pointer (some ⟨bd, 0, none⟩)] w fun e w' => e = .returned (.tuple #[.int .i64 (xs.getD 0 0), .bool true]) ∧ Two W bd w' (xs.eraseIdx 0) u ys := by
  cases xs with
  | nil => simp at h0
  | cons x rs =>
    exact Pop_two (xs := rs) h (by rw [List.length_cons] at hl; omega)
theorem PopBack_at {W w : World} {bd : Nat} {xs ys : List Int} {u : Value} (h : Two W bd w xs u ys) (h0 : 0 < xs.length) (hl : xs.length ≤ 900) :
    Calls Try.prog 11 #[.pointer (some ⟨bd, 0, none⟩)] w fun e w' => e = .returned (.tuple #[.int .i64 (xs.getD (xs.length - 1) 0), .bool true]) ∧ Two W bd w' (xs.eraseIdx (xs.length - 1)) u ys := by
  obtain ⟨rs, x, rfl⟩ : ∃ rs x, xs = rs ++ [x] := ⟨xs.dropLast, xs.getLast (by intro e; rw [e] at h0; simp at h0), (List.dropLast_concat_getLast _).symm⟩
  have hll : (rs ++ [x]).length - 1 = rs.length := by simp
  have e1 : (rs ++ [x]).eraseIdx rs.length = rs := by rw [List.eraseIdx_append_of_length_le (by omega)]; simp
  have e2 : (rs ++ [x]).getD rs.length 0 = x := by simp [List.getD]
  rw [hll, e1, e2]
  exact PopBack_two h (by simp at hl; omega)

end Go.Proofs.Ytgaionhlfnpdhaa
