/- A new disk; what a block has; what a request does to a block. -/
import Derived.Test.YtpknboeobldbpaaKo
namespace Go.Proofs.Ytpknboeobldbpaa
set_option linter.unusedSimpArgs false
set_option linter.unusedVariables false
set_option linter.unnecessarySimpa false
open Go.RowKit Go.Lib
section
variable {W w w' : World} {bd : Nat} {bs : List Nat} {rs : List Dk.Rq} {us us' us1 us2 : List Dk.Thing}

theorem New_any (h : Dk.Sep W w us) (n : Int) :
    Calls Try.prog 6 #[.int .i64 n] w fun e w' => e = .returned (.pointer (some ⟨w.heap.size + 1, 0, none⟩)) ∧ Dk.Db W w' (w.heap.size + 1) (List.replicate (Dk.blocks n) 0) [] us := by
  have hle := Dk.blocks_le n
  obtain ⟨w1, hmk, s1, z1⟩ := Sep.made h (Dk.blocks n) (by omega)
  have he := Dk.blocks_eq n
  have fin : Dk.Db W (w1.alloc (.cells #[.slice (some ⟨w.heap.size, 0, none⟩) (Dk.blocks n) (Dk.blocks n), .slice none 0 0] 46)) (w.heap.size + 1) (List.replicate (Dk.blocks n) 0) [] us := by
    have s2 := s1.add (t := Dk.rowOf 29 4 (.slice none 0 0) 0 (Dk.rqs [])) (Below.refl _ _) (World.ownsRow_nil _ _ _ _) (fun k hk => by simp [Dk.rowOf, Value.ownBlock] at hk)
    have s3 := (s2.perm (List.Perm.swap _ _ _)).newBox (cs := #[.slice (some ⟨w.heap.size, 0, none⟩) (Dk.blocks n) (Dk.blocks n), .slice none 0 0]) (e := 46) rfl
    rw [z1] at s3
    refine ⟨.slice (some ⟨w.heap.size, 0, none⟩) (Dk.blocks n) (Dk.blocks n), .slice none 0 0, ?_, ⟨fun x hx => by rw [(List.mem_replicate.1 hx).2]; decide, fun x hx => by simp at hx, fun x hx => by simp at hx⟩⟩
    unfold Dk.Dsk Dk.disk
    rw [List.length_replicate]
    exact s3
  generalize Dk.blocks n = m at *
  have HF : Hid _ := fin
  clear fin h s1
  go_enter Try.func6, Try.ntmps6
  go_wp2
  go_ret
  exact ⟨rfl, HF.out⟩

theorem Block_nil (k : Int) (w : World) : Calls Try.prog 9 #[.pointer none, .int .i64 k] w fun e w' => e = .returned (.tuple #[.int .u64 0, .bool false]) ∧ w' = w := by
  go_enter Try.func9, Try.ntmps9
  go_wp2
  go_ret2
  exact ⟨rfl, rfl⟩
/-- The blocks: where they lie. -/
theorem Db.words (h : Dk.Db W w bd bs rs us) : ∃ A C, w.cell? ⟨bd, 0, none⟩ = some (.slice A bs.length C) ∧ bs.length ≤ C ∧ C ≤ maxLen := by
  obtain ⟨v1, v2, t, f⟩ := Hid.out h
  obtain ⟨A, C, ev, h1, h2⟩ := Dk.owns_slice t.row1
  subst ev
  exact ⟨A, C, t.head.cell 0, h1, h2⟩
/-- A word of a row: where it lies, and that it may be written. -/
theorem word_at {B n k : Nat} {v : Value} {xs : List Nat} (hr : w.ownsRow B 27 1 v xs.length (Dk.uw xs)) (hk : k < xs.length) : ∃ g C, v = .slice (some ⟨g, 0, none⟩) xs.length C ∧ xs.length ≤ C ∧ C ≤ maxLen ∧ w.cell? ⟨g, k, none⟩ = some (.int .u64 (xs.getD k 0 : Nat)) ∧ w.frozen? ⟨g, k, none⟩ = false ∧ ∀ y : Nat, (w.setCell ⟨g, k, none⟩ (.int .u64 (y : Nat))).ownsRow B 27 1 v (xs.set k y).length (Dk.uw (xs.set k y)) := by
  obtain ⟨_, ⟨_, h0⟩ | ⟨g, cap, cur, rfl, hb, hgg, h1, h2, h3, h4⟩⟩ := id hr
  · omega
  have hc := hr.cells (g := g) rfl k (.int .u64 (xs.getD k 0 : Nat)) (by simp [List.getD, hk])
  rw [Addr.add_lit, Nat.zero_add] at hc
  have bx : Dk.Box w g cur 27 := ⟨hgg⟩
  refine ⟨g, cap, rfl, h1, h2, hc, bx.frozen k, fun y => ?_⟩
  rw [Nat.mul_one] at h3
  rw [List.length_set]
  refine Dk.owns_box (bx.set k (.int .u64 (y : Nat))) hb (by rw [Array.size_setIfInBounds]; exact h3) h2 (by simp) h1 (fun i hi => ?_)
  rw [Array.getElem?_setIfInBounds]
  have hi' : cur[i]? = (Dk.uw xs)[i]? := by
    rw [← h4, List.getElem?_take, if_pos (by omega), Array.getElem?_toList]
  by_cases hij : k = i
  · subst hij
    rw [if_pos rfl, if_pos (by omega)]
    simp [hk]
  · rw [if_neg hij, hi']
    simp [Dk.uw, List.getElem?_set, hij]
theorem Block_no (h : Dk.Db W w bd bs rs us) (k : Int) (hk : k < 0 ∨ (bs.length : Int) ≤ k) : Calls Try.prog 9 #[.pointer (some ⟨bd, 0, none⟩), .int .i64 k] w fun e w' => e = .returned (.tuple #[.int .u64 0, .bool false]) ∧ w' = w := by
  obtain ⟨A, C, c0, _, _⟩ := Db.words h
  generalize bs.length = n at *
  by_cases h0 : k < 0
  · go_enter Try.func9, Try.ntmps9
    go_wp2
    go_ret2
    exact ⟨rfl, rfl⟩
  · have h1 : k ≥ (n : Int) := by omega
    have y0 : decide (k < 0) = false := by simp; omega
    have y1 : decide (k ≥ (n : Int)) = true := by simp; omega
    go_enter Try.func9, Try.ntmps9
    go_wp2
    go_ret2
    exact ⟨rfl, rfl⟩
theorem Block_yes (h : Dk.Db W w bd bs rs us) (k : Nat) (hk : k < bs.length) : Calls Try.prog 9 #[.pointer (some ⟨bd, 0, none⟩), .int .i64 (k : Int)] w fun e w' => e = .returned (.tuple #[.int .u64 (bs.getD k 0 : Nat), .bool true]) ∧ w' = w := by
  obtain ⟨v1, v2, t, f⟩ := Hid.out h
  obtain ⟨g, C, ev, h1, h2, hc, hf, _⟩ := word_at (n := 0) t.row1 hk
  unfold maxLen at h2
  have c0 := t.head.cell 0
  subst ev
  simp only [List.getElem?_toArray, List.getElem?_cons_zero] at c0
  generalize bs.getD k 0 = x at *
  generalize bs.length = n at *
  have y1 : decide ((k : Int) ≥ (n : Int)) = false := by simp; omega
  have y2 : decide ((n : Int) ≤ (k : Int)) = false := by simp; omega
  have y3 : decide (n ≤ k) = false := by simp; omega
  have hkn : (k : Int) < (n : Int) := by omega
  clear t f h
  go_enter Try.func9, Try.ntmps9
  go_wp2
  go_ret2
  exact ⟨rfl, rfl⟩
end
end Go.Proofs.Ytpknboeobldbpaa
