/- What each call of the layer does with a row. -/
import Derived.Test.YtoilkojegnfmfaaDs
import Derived.Deep.CutRange
namespace Go.Proofs.Ytoilkojegnfmfaa
set_option linter.unusedSimpArgs false
set_option linter.unusedVariables false
set_option linter.unnecessarySimpa false
open Go.RowKit

theorem New_any (w : World) :
    Calls Try.prog 16 #[] w fun e w' => e = .returned (.pointer (some ⟨w.heap.size, 0, none⟩)) ∧ Dk.DQ w.heap.size w' w.heap.size (.slice none 0 0) [] ∧ Below w.heap.size w w' ∧ w'.heap.size = w.heap.size + 1 := by
  go_enter Try.func16, Try.ntmps16
  go_wp2
  go_ret
  exact ⟨rfl, ⟨Nat.le_refl _, Dk.Box.new w _ 54, World.ownsRow_nil _ _ _ _, by simp [Value.ownBlock], fun x hx => by simp at hx⟩, Dk.up_alloc (Below.refl _ _) _, by simp⟩

theorem mayCome_nil (x : Int) (w : World) : Calls Try.prog 27 #[.pointer none, .int .i64 x] w fun e w' => e = .returned (.bool false) ∧ w' = w := by
  go_enter Try.func27, Try.ntmps27
  go_wp2
  go_ret
  exact ⟨rfl, rfl⟩
theorem mayCome_any (B bd : Nat) (v : Value) (xs : List Int) (x : Int) (w : World) (h : Dk.DQ B w bd v xs) :
    Calls Try.prog 27 #[.pointer (some ⟨bd, 0, none⟩), .int .i64 x] w fun e w' => e = .returned (.bool (!xs.contains x)) ∧ w' = w := by
  obtain ⟨A, C, rfl, hS⟩ := Dk.owns_ints h.row h.wf
  have c0 : w.cell? ⟨bd, 0, none⟩ = some (.slice A xs.length C) := h.head.cell 0
  have K := Contains_any A xs.length C xs x w hS
  generalize xs.contains x = r at K
  clear hS h
  go_enter Try.func27, Try.ntmps27
  go_wp2_with (go_at_call 24; refine K.mono ?_; rintro e w' ⟨rfl, hw'⟩; subst w')
  go_ret
  exact ⟨rfl, rfl⟩
theorem isEmpty_nil (w : World) : Calls Try.prog 25 #[.pointer none] w fun e w' => e = .returned (.bool true) ∧ w' = w := by
  go_enter Try.func25, Try.ntmps25
  go_wp2
  go_ret
  exact ⟨rfl, rfl⟩
theorem isEmpty_any (B bd : Nat) (v : Value) (xs : List Int) (w : World) (h : Dk.DQ B w bd v xs) :
    Calls Try.prog 25 #[.pointer (some ⟨bd, 0, none⟩)] w fun e w' => e = .returned (.bool xs.isEmpty) ∧ w' = w := by
  obtain ⟨A, C, rfl, hS⟩ := Dk.owns_ints h.row h.wf
  have c0 : w.cell? ⟨bd, 0, none⟩ = some (.slice A xs.length C) := h.head.cell 0
  have hc := hS.cap
  have hm := hS.max
  unfold maxLen at hm
  clear hS h
  go_enter Try.func25, Try.ntmps25
  go_wp2
  go_ret
  refine ⟨?_, rfl⟩
  cases xs with
  | nil => simp
  | cons y r => simp; omega

/-- What the layer's calls leave of a row. -/
def Went (B : Nat) (w : World) (bd : Nat) (v : Value) (w' : World) (xs' : List Int) : Prop := ∃ v', Dk.DQ B w' bd v' xs' ∧ Dk.Away (Dk.At bd v) w w' ∧ Dk.From w v v'

theorem Push_nil (x : Int) (w : World) : Calls Try.prog 21 #[.pointer none, .int .i64 x] w fun e w' => e = .returned (.bool false) ∧ w' = w := by
  go_enter Try.func21, Try.ntmps21
  go_wp2_with (go_at_call 27; refine (mayCome_nil x w).mono ?_; rintro e w' ⟨rfl, hw'⟩; subst w')
  go_ret
  exact ⟨rfl, rfl⟩
theorem Push_no (B bd : Nat) (v : Value) (xs : List Int) (x : Int) (w : World) (h : Dk.DQ B w bd v xs) (hx : xs.contains x = true) :
    Calls Try.prog 21 #[.pointer (some ⟨bd, 0, none⟩), .int .i64 x] w fun e w' => e = .returned (.bool false) ∧ w' = w := by
  have K := mayCome_any B bd v xs x w h
  rw [hx] at K
  clear hx h
  go_enter Try.func21, Try.ntmps21
  go_wp2_with (go_at_call 27; refine K.mono ?_; rintro e w' ⟨rfl, hw'⟩; subst w')
  go_ret
  exact ⟨rfl, rfl⟩
theorem Push_yes (B bd : Nat) (v : Value) (xs : List Int) (x : Int) (w : World) (h : Dk.DQ B w bd v xs) (hx : xs.contains x = false) (hi : Dk.i64 x) (hl : xs.length ≤ 1000) :
    Calls Try.prog 21 #[.pointer (some ⟨bd, 0, none⟩), .int .i64 x] w fun e w' => e = .returned (.bool true) ∧ Went B w bd v w' (xs ++ [x]) := by
  have K := mayCome_any B bd v xs x w h
  rw [hx] at K
  have hB : B ≤ w.heap.size := Nat.le_trans h.base (Nat.le_of_lt h.head.lt)
  obtain ⟨A, C, e, _, _⟩ := Dk.owns_slice h.row
  obtain ⟨W, eW⟩ : ∃ W, W = w.alloc (.cells #[.int .i64 x] 3) := ⟨_, rfl⟩
  have uW : Below w.heap.size w W := by rw [eW]; exact Dk.up_alloc (Below.refl _ _) _
  have hW := h.up uW
  have hsz : w.heap.size ≤ W.heap.size := uW.size
  have ap : ∀ ty, ∃ v' w', (Builtin.append_ #[30, 30] ty #[v, .slice (some ⟨w.heap.size, 0, none⟩) 1 1]).run Try.prog W = .ok v' w' ∧ w'.ownsRow B 3 1 v' (xs.length + 1) (Dk.is xs ++ [.int .i64 x]) ∧ W.grownBy w' v.ownBlock ∧ Dk.From W v v' ∧ (v' = .slice none 0 0 ↔ v = .slice none 0 0 ∧ 1 = 0) := fun ty =>
    append_from B ty v (Dk.is xs) xs.length W hW.row ⟨w.heap.size, 0, none⟩ 1 1 [.int .i64 x] rfl (one_new w W _ 3 eW) (fun u hu => by simp at hu; subst hu; rfl) (by omega) (by omega)
  subst e
  have c0 : w.cell? ⟨bd, 0, none⟩ = some (.slice A xs.length C) := h.head.cell 0
  obtain ⟨v', w', hr, ho, hg, hf, _⟩ := ap 30
  have ho' : w'.ownsRow B 3 1 v' (xs ++ [x]).length (Dk.is (xs ++ [x])) := by rw [List.length_append, Dk.is, List.map_append]; exact ho
  obtain ⟨hD, hA⟩ := hW.put ho' hg hf (fun y hy => by
    rcases List.mem_append.1 hy with hy | hy
    · exact h.wf y hy
    · rw [List.mem_singleton] at hy; rw [hy]; exact hi)
  have hwent : Went B w bd (.slice A xs.length C) (w'.setCell ⟨bd, 0, none⟩ v') (xs ++ [x]) := ⟨v', hD, (Dk.Away.of_up uW).trans hA (fun k hk => .inl hk), hf.mono hsz⟩
  obtain ⟨A', C', rfl, _, _⟩ := Dk.owns_slice ho
  have hb' : w'.cell? ⟨bd, 0, none⟩ = some (.slice A xs.length C) := by
    have hb : Dk.Box w' bd #[.slice A xs.length C] 54 := ⟨by rw [hg.block bd hW.head.lt (fun e => hW.ne e.symm)]; exact hW.head.heap⟩
    exact hb.cell 0
  have hf' : w'.frozen? ⟨bd, 0, none⟩ = false := by
    have hb : Dk.Box w' bd #[.slice A xs.length C] 54 := ⟨by rw [hg.block bd hW.head.lt (fun e => hW.ne e.symm)]; exact hW.head.heap⟩
    exact hb.frozen 0
  have HW : Hid _ := hwent
  rw [eW] at hr
  clear hwent hD hA ho' ho hg hf hx h hW ap uW hsz
  go_enter Try.func21, Try.ntmps21
  go_wp2_with (first | (go_at_call 27; refine K.mono ?_; rintro e w' ⟨rfl, hw'⟩; subst w') | (at_builtin; refine Lib.wpList_append_run _ rfl _ _ _ _ rfl _ _ rfl rfl _ _ hr ?_))
  go_ret
  exact ⟨rfl, HW.out⟩

/-- The number at a place goes. -/
theorem take_any (B bd : Nat) (v : Value) (xs : List Int) (k : Nat) (w : World) (h : Dk.DQ B w bd v xs) (hk : k < xs.length) (hl : xs.length ≤ 1000) :
    Calls Try.prog 26 #[.pointer (some ⟨bd, 0, none⟩), .int .i64 (k : Int)] w fun e w' => e = .returned (.int .i64 (xs.getD k 0)) ∧ Went B w bd v w' (xs.eraseIdx k) := by
  have K2 := Delete_any B v xs k w h.row hk
  have fin : ∀ v' w', w'.ownsRow B 3 1 v' (xs.eraseIdx k).length (Dk.is (xs.eraseIdx k)) → w.grownBy w' v.ownBlock → Dk.From w v v' → Went B w bd v (w'.setCell ⟨bd, 0, none⟩ v') (xs.eraseIdx k) ∧ (∃ A L C, v' = .slice A L C) ∧ w'.cell? ⟨bd, 0, none⟩ = some v ∧ w'.frozen? ⟨bd, 0, none⟩ = false := by
    intro v' w' ho hg hf
    obtain ⟨hD, hA⟩ := h.put ho hg hf (fun y hy => h.wf y (List.mem_of_mem_eraseIdx hy))
    have hb : Dk.Box w' bd #[v] 54 := ⟨by rw [hg.block bd h.head.lt (fun e => h.ne e.symm)]; exact h.head.heap⟩
    obtain ⟨A', C', e', _, _⟩ := Dk.owns_slice ho
    exact ⟨⟨v', hD, hA, hf⟩, ⟨A', _, C', e'⟩, hb.cell 0, hb.frozen 0⟩
  obtain ⟨A, C, rfl, hS⟩ := Dk.owns_ints h.row h.wf
  have hcap := hS.cap
  have hmax := hS.max
  unfold maxLen at hmax
  have c0 : w.cell? ⟨bd, 0, none⟩ = some (.slice A xs.length C) := h.head.cell 0
  obtain ⟨b, o, rfl, hb, hc⟩ := hS.cells (by omega)
  have c1 := hc k hk
  have HF : Hid _ := fin
  generalize xs.getD k 0 = y at c1
  clear fin h hS hc
  go_enter Try.func26, Try.ntmps26
  go_wp2_with fail
  refine K2.mono ?_
  rintro e w' ⟨v', rfl, ho, hg, hf⟩
  obtain ⟨hwent, ⟨A', L', C', rfl⟩, cb, fb⟩ := HF.out v' w' ho hg hf
  have HW : Hid _ := hwent
  clear hwent ho hg hf HF c0 c1 K2
  go_wp2_with fail
  go_ret
  exact ⟨rfl, HW.out⟩

theorem Pop_nil (w : World) : Calls Try.prog 19 #[.pointer none] w fun e w' => e = .returned (.tuple #[.int .i64 0, .bool false]) ∧ w' = w := by
  go_enter Try.func19, Try.ntmps19
  go_wp2_with (go_at_call 25; refine (isEmpty_nil w).mono ?_; rintro e w' ⟨rfl, hw'⟩; subst w')
  go_ret2
  exact ⟨rfl, rfl⟩
theorem Pop_no (B bd : Nat) (v : Value) (w : World) (h : Dk.DQ B w bd v []) :
    Calls Try.prog 19 #[.pointer (some ⟨bd, 0, none⟩)] w fun e w' => e = .returned (.tuple #[.int .i64 0, .bool false]) ∧ w' = w := by
  have K := isEmpty_any B bd v [] w h
  rw [List.isEmpty_nil] at K
  clear h
  go_enter Try.func19, Try.ntmps19
  go_wp2_with (go_at_call 25; refine K.mono ?_; rintro e w' ⟨rfl, hw'⟩; subst w')
  go_ret2
  exact ⟨rfl, rfl⟩
theorem Pop_yes (B bd : Nat) (v : Value) (x : Int) (xs : List Int) (w : World) (h : Dk.DQ B w bd v (x :: xs)) (hl : xs.length ≤ 900) :
    Calls Try.prog 19 #[.pointer (some ⟨bd, 0, none⟩)] w fun e w' => e = .returned (.tuple #[.int .i64 x, .bool true]) ∧ Went B w bd v w' xs := by
  have K := isEmpty_any B bd v _ w h
  rw [List.isEmpty_cons] at K
  have K2 := take_any B bd v (x :: xs) 0 w h (by simp) (by simp; omega)
  rw [List.eraseIdx_cons_zero, List.getD_cons_zero] at K2
  clear h
  go_enter Try.func19, Try.ntmps19
  go_wp2_with (first | (go_at_call 25; refine K.mono ?_; rintro e w' ⟨rfl, hw'⟩; subst w'))
  refine K2.mono ?_
  rintro e w' ⟨rfl, hW⟩
  have HW : Hid _ := hW
  clear hW
  go_wp2_with fail
  go_ret2
  exact ⟨rfl, HW.out⟩
theorem PopBack_nil (w : World) : Calls Try.prog 20 #[.pointer none] w fun e w' => e = .returned (.tuple #[.int .i64 0, .bool false]) ∧ w' = w := by
  go_enter Try.func20, Try.ntmps20
  go_wp2_with (go_at_call 25; refine (isEmpty_nil w).mono ?_; rintro e w' ⟨rfl, hw'⟩; subst w')
  go_ret2
  exact ⟨rfl, rfl⟩
theorem PopBack_no (B bd : Nat) (v : Value) (w : World) (h : Dk.DQ B w bd v []) :
    Calls Try.prog 20 #[.pointer (some ⟨bd, 0, none⟩)] w fun e w' => e = .returned (.tuple #[.int .i64 0, .bool false]) ∧ w' = w := by
  have K := isEmpty_any B bd v [] w h
  rw [List.isEmpty_nil] at K
  clear h
  go_enter Try.func20, Try.ntmps20
  go_wp2_with (go_at_call 25; refine K.mono ?_; rintro e w' ⟨rfl, hw'⟩; subst w')
  go_ret2
  exact ⟨rfl, rfl⟩
theorem PopBack_yes (B bd : Nat) (v : Value) (x : Int) (xs : List Int) (w : World) (h : Dk.DQ B w bd v (xs ++ [x])) (hl : xs.length ≤ 900) :
    Calls Try.prog 20 #[.pointer (some ⟨bd, 0, none⟩)] w fun e w' => e = .returned (.tuple #[.int .i64 x, .bool true]) ∧ Went B w bd v w' xs := by
  have K := isEmpty_any B bd v _ w h
  have he : (xs ++ [x]).isEmpty = false := by simp
  rw [he] at K
  have hll : (xs ++ [x]).length = xs.length + 1 := by simp
  have K2 := take_any B bd v (xs ++ [x]) xs.length w h (by omega) (by omega)
  have e1 : (xs ++ [x]).eraseIdx xs.length = xs := by rw [List.eraseIdx_append_of_length_le (by omega)]; simp
  have e2 : (xs ++ [x]).getD xs.length 0 = x := by simp [List.getD]
  rw [e1, e2] at K2
  obtain ⟨A, C, rfl, hC, hM⟩ := Dk.owns_slice h.row
  unfold maxLen at hM
  have c0 : w.cell? ⟨bd, 0, none⟩ = some (.slice A (xs.length + 1) C) := by rw [← hll]; exact h.head.cell 0
  clear h e1 e2 he
  go_enter Try.func20, Try.ntmps20
  go_wp2_with (first | (go_at_call 25; refine K.mono ?_; rintro e w' ⟨rfl, hw'⟩; subst w'))
  refine K2.mono ?_
  rintro e w' ⟨rfl, hW⟩
  have HW : Hid _ := hW
  clear hW
  go_wp2_with fail
  go_ret2
  exact ⟨rfl, HW.out⟩

theorem All_nil (w : World) : Calls Try.prog 22 #[.pointer none] w fun e w' => e = .returned (.slice none 0 0) ∧ w' = w := by
  go_enter Try.func22, Try.ntmps22
  go_wp2
  go_ret
  exact ⟨rfl, rfl⟩
theorem append_nils (ty : TypeId) (C : Nat) (w : World) : (Builtin.append_ #[30, 30] ty #[.slice none 0 0, .slice none 0 C]).run Try.prog w = .ok (.slice none 0 0) w := by
  obtain ⟨i0, hi0, hz0, hz1, hz2⟩ := info_parts info3
  simp [Builtin.append_, run_underlying Try.underlying30, Go.sizeOf, typeInfo, hi0, Builtin.lenOf, Builtin.firstCells, loadCells, loadCellsFrom]
theorem All_any (B bd : Nat) (v : Value) (xs : List Int) (w : World) (h : Dk.DQ B w bd v xs) (hl : xs.length ≤ 1000) :
    Calls Try.prog 22 #[.pointer (some ⟨bd, 0, none⟩)] w fun e w' => ∃ v', e = .returned v' ∧ w'.ownsRow w.heap.size 3 1 v' xs.length (Dk.is xs) ∧ Below w.heap.size w w' := by
  have key : ∃ v' w', (Builtin.append_ #[30, 30] 30 #[.slice none 0 0, v]).run Try.prog w = .ok v' w' ∧ w'.ownsRow w.heap.size 3 1 v' xs.length (Dk.is xs) ∧ Below w.heap.size w w' := by
    obtain ⟨_, ⟨rfl, h0⟩ | ⟨g, cap, cur, rfl, hb, hg, hn, hm, hs, ht⟩⟩ := id h.row
    · obtain rfl : xs = [] := List.eq_nil_of_length_eq_zero h0
      exact ⟨_, w, append_nils 30 0 w, World.ownsRow_nil _ _ _ _, Below.refl _ _⟩
    · obtain ⟨v', w', hr, ho, hg, _, _⟩ := append_from w.heap.size 30 (.slice none 0 0) [] 0 w (World.ownsRow_nil _ _ _ _) ⟨g, 0, none⟩ xs.length cap (Dk.is xs) (by simp) (h.row.cells (g := g) rfl) (fun u hu => by obtain ⟨y, _, rfl⟩ := List.mem_map.1 hu; rfl) (by omega) (Nat.le_refl _)
      rw [Nat.zero_add, List.nil_append] at ho
      exact ⟨v', w', hr, ho, ⟨hg.os, hg.tape, hg.output, hg.size, fun k hk => hg.block k hk (by simp [Value.ownBlock])⟩⟩
  obtain ⟨v', w', hr, ho, hu⟩ := key
  obtain ⟨A, C, rfl, _, _⟩ := Dk.owns_slice h.row
  obtain ⟨A', C', rfl, _, _⟩ := Dk.owns_slice ho
  have c0 : w.cell? ⟨bd, 0, none⟩ = some (.slice A xs.length C) := h.head.cell 0
  have HO : Hid _ := ho
  have HU : Hid _ := hu
  clear ho hu h
  go_enter Try.func22, Try.ntmps22
  go_wp2_with (at_builtin; refine Lib.wpList_append_run _ rfl _ _ _ _ rfl _ _ rfl rfl _ _ hr ?_)
  go_ret
  exact ⟨_, rfl, HO.out, HU.out⟩

end Go.Proofs.Ytoilkojegnfmfaa
