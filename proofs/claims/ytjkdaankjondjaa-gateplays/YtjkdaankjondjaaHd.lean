/- A mutex, and a semaphore, in a row of records: what their calls do. -/
import Derived.Test.YtjkdaankjondjaaHc
namespace Go.Proofs.Ytjkdaankjondjaa
set_option linter.unusedSimpArgs false
set_option linter.unusedVariables false
set_option linter.unnecessarySimpa false
open Go.RowKit

section
variable {W w : World} {e : TypeId} {q g n C o : Nat} {Hs : List Value} {u : Value} {xs : List Int} {us : List Dk.Thing}

theorem isOf_any {owner : Int} {owned : Bool} (c1 : w.cell? ⟨g, o + 1, none⟩ = some (.int .i64 owner)) (c2 : w.cell? ⟨g, o + 2, none⟩ = some (.bool owned)) (who : Int) :
    Calls Try.prog 34 #[.pointer (some ⟨g, o, none⟩), .int .i64 who] w fun e' w' => e' = .returned (.bool (owned && decide (owner = who))) ∧ w' = w := by
  cases owned
  · go_enter Try.func34, Try.ntmps34
    go_wp2
    go_ret
    exact ⟨rfl, rfl⟩
  · obtain ⟨r, er⟩ : ∃ r, decide (owner = who) = r := ⟨_, rfl⟩
    have er2 : (owner == who) = r := by rw [← er]; rfl
    rw [Bool.true_and, er]
    go_enter Try.func34, Try.ntmps34
    go_wp2
    go_ret
    exact ⟨rfl, rfl⟩

theorem lock_held (h : Dk.Sep W w (Dk.rowOf e q (.slice (some ⟨g, 0, none⟩) n C) n Hs :: Dk.rowOf 3 1 u xs.length (Dk.is xs) :: us)) (h0 : Hs[o]? = some u) (h2 : Hs[o + 2]? = some (.bool true)) (who : Int) (hl : xs.length ≤ 1000) :
    Calls Try.prog 35 #[.pointer (some ⟨g, o, none⟩), .int .i64 who] w fun e' w' => e' = .returned (.bool false) ∧ ∃ u', Dk.Sep W w' (Dk.rowOf e q (.slice (some ⟨g, 0, none⟩) n C) n (Hs.set o u') :: Dk.rowOf 3 1 u' (xs ++ [who]).length (Dk.is (xs ++ [who])) :: us) := by
  have hlen : Hs.length = n * q := h.rowLen (List.mem_cons_self ..)
  have c2 : w.cell? ⟨g, o + 2, none⟩ = some (.bool true) := (h.cellg (us1 := []) hlen h2).1
  have K := join_any h h0 who hl
  clear h h0 h2
  go_enter Try.func35, Try.ntmps35
  go_wp2_with fail
  refine K.mono ?_
  rintro e' w' ⟨rfl, u', h'⟩
  clear K c2
  go_wp2_with fail
  go_ret
  exact ⟨rfl, u', h'⟩
theorem lock_free {x : Value} (h : Dk.Sep W w (Dk.rowOf e q (.slice (some ⟨g, 0, none⟩) n C) n Hs :: us)) (h1 : Hs[o + 1]? = some (.int .i64 0)) (h2 : Hs[o + 2]? = some (.bool false)) (who : Int) :
    Calls Try.prog 35 #[.pointer (some ⟨g, o, none⟩), .int .i64 who] w fun e' w' => e' = .returned (.bool true) ∧ Dk.Sep W w' (Dk.rowOf e q (.slice (some ⟨g, 0, none⟩) n C) n ((Hs.set (o + 1) (.int .i64 who)).set (o + 2) (.bool true)) :: us) := by
  have hlen : Hs.length = n * q := h.rowLen (List.mem_cons_self ..)
  obtain ⟨c2, f2, _⟩ := h.cellg (us1 := []) hlen h2
  obtain ⟨c1, f1, s1⟩ := h.cellg (us1 := []) hlen h1
  have hs1 := s1 (.int .i64 who)
  obtain ⟨W1, e1⟩ : ∃ W1, W1 = w.setCell ⟨g, o + 1, none⟩ (.int .i64 who) := ⟨_, rfl⟩
  rw [← e1] at hs1
  obtain ⟨d2, z2, s2⟩ := Dk.Sep.cellg (us1 := []) hs1 (k := o + 2) (x := .bool false) (by rw [List.length_set]; exact hlen) (by rw [List.getElem?_set_ne (by omega)]; exact h2)
  have HS : Hid _ := s2 (.bool true)
  have HE : Hid (w.setCell ⟨g, o + 1, none⟩ (.int .i64 who) = W1) := e1.symm
  clear s1 s2 hs1 h e1 h1 h2
  go_enter Try.func35, Try.ntmps35
  go_wp2_with (rw [HE.out]; clear HE)
  go_ret
  exact ⟨rfl, HS.out⟩

theorem unlock_none {A : Option Addr} {Ca : Nat} {y : Int} (h : Dk.Sep W w (Dk.rowOf e q (.slice (some ⟨g, 0, none⟩) n C) n Hs :: us)) (h0 : Hs[o]? = some (.slice A 0 Ca)) (h1 : Hs[o + 1]? = some (.int .i64 y)) (h2 : Hs[o + 2]? = some (.bool true)) (ch : Int) :
    Calls Try.prog 36 #[.pointer (some ⟨g, o, none⟩), .int .i64 ch] w fun e' w' => e' = .returned (.tuple #[.int .i64 0, .bool false]) ∧ Dk.Sep W w' (Dk.rowOf e q (.slice (some ⟨g, 0, none⟩) n C) n ((Hs.set (o + 1) (.int .i64 0)).set (o + 2) (.bool false)) :: us) := by
  have hlen : Hs.length = n * q := h.rowLen (List.mem_cons_self ..)
  obtain ⟨c0, _, _⟩ := h.cellg (us1 := []) hlen h0
  obtain ⟨c2, f2, _⟩ := h.cellg (us1 := []) hlen h2
  obtain ⟨c1, f1, s1⟩ := h.cellg (us1 := []) hlen h1
  have hs1 := s1 (.int .i64 0)
  obtain ⟨W1, e1⟩ : ∃ W1, W1 = w.setCell ⟨g, o + 1, none⟩ (.int .i64 0) := ⟨_, rfl⟩
  rw [← e1] at hs1
  obtain ⟨d2, z2, s2⟩ := Dk.Sep.cellg (us1 := []) hs1 (k := o + 2) (x := .bool true) (by rw [List.length_set]; exact hlen) (by rw [List.getElem?_set_ne (by omega)]; exact h2)
  have hs2 := s2 (.bool false)
  obtain ⟨W2, e2⟩ : ∃ W2, W2 = W1.setCell ⟨g, o + 2, none⟩ (.bool false) := ⟨_, rfl⟩
  rw [← e2] at hs2
  have h1l := Dk.some_lt h1
  have h2l := Dk.some_lt h2
  have t1 : ∀ y : Dk.Up W2, y.wd.cell? ⟨g, o + 1, none⟩ = some (.int .i64 0) := fun y => (Dk.Sep.cellg (us1 := []) (hs2.below y.property) (by rw [List.length_set, List.length_set]; exact hlen) (by rw [List.getElem?_set_ne (by omega), List.getElem?_set_self h1l])).1
  have t2 : ∀ y : Dk.Up W2, y.wd.cell? ⟨g, o + 2, none⟩ = some (.bool false) := fun y => (Dk.Sep.cellg (us1 := []) (hs2.below y.property) (by rw [List.length_set, List.length_set]; exact hlen) (by rw [List.getElem?_set_self (by rw [List.length_set]; exact h2l)])).1
  have hne : Nonempty (Dk.Up W2) := ⟨⟨W2, Below.refl _ _⟩⟩
  have K := take_none c0 ch
  have HS : Hid _ := hs2
  have HE : Hid (w.setCell ⟨g, o + 1, none⟩ (.int .i64 0) = W1) := e1.symm
  have HE2 : Hid (W1.setCell ⟨g, o + 2, none⟩ (.bool false) = W2) := e2.symm
  clear s1 s2 hs1 hs2 h e1 e2 h1 h2 h1l h2l c0
  go_enter Try.func36, Try.ntmps36
  go_wp2_with fail
  refine K.mono ?_
  rintro e' w' ⟨rfl, hw'⟩
  subst w'
  clear K
  go_wp2_with (first | (rw [HE.out]; clear HE) | (rw [HE2.out]; clear HE2))
  refine Dk.wp_region_up_lit (by kernel_rfl) (by kernel_rfl) ?_
  repeat (go_big_quiet_step (fail))
  refine wpQuiet_nil ?_
  intro _ hw'
  obtain ⟨y, hw''⟩ := hw'
  subst hw''
  have h' := Dk.Sep.below HS.out y.property
  clear HS t1 t2 hne
  go_wp2_with fail
  go_ret2
  exact ⟨rfl, h'⟩
set_option maxHeartbeats 1000000 in
theorem unlock_some {y : Int} (h : Dk.Sep W w (Dk.rowOf e q (.slice (some ⟨g, 0, none⟩) n C) n Hs :: Dk.rowOf 3 1 u xs.length (Dk.is xs) :: us)) (h0 : Hs[o]? = some u) (h1 : Hs[o + 1]? = some (.int .i64 y)) (h2 : Hs[o + 2]? = some (.bool true)) (k : Int) (hi : Dk.i64 k) (hn : 0 < xs.length) (hl : xs.length ≤ 1000) (a : Nat) (ea : Dk.at_ k xs.length = a) :
    Calls Try.prog 36 #[.pointer (some ⟨g, o, none⟩), .int .i64 k] w fun e' w' => e' = .returned (.tuple #[.int .i64 (xs.getD a 0), .bool true]) ∧ ∃ u', Dk.Sep W w' (Dk.rowOf e q (.slice (some ⟨g, 0, none⟩) n C) n (((Hs.set o u').set (o + 1) (.int .i64 (xs.getD a 0))).set (o + 2) (.bool true)) :: Dk.rowOf 3 1 u' (xs.eraseIdx a).length (Dk.is (xs.eraseIdx a)) :: us) := by
  have hlen : Hs.length = n * q := h.rowLen (List.mem_cons_self ..)
  have K := take_some h h0 k hi hn hl a ea
  generalize xs.getD a 0 = x at K ⊢
  have h0l := Dk.some_lt h0
  have h1l := Dk.some_lt h1
  have h2l := Dk.some_lt h2
  clear h ea hi
  go_enter Try.func36, Try.ntmps36
  go_wp2_with fail
  refine K.mono ?_
  rintro e' w ⟨rfl, u', h⟩
  clear K
  obtain ⟨c1, f1, s1⟩ := h.cellg (us1 := []) (k := o + 1) (x := .int .i64 y) (by rw [List.length_set]; exact hlen) (by rw [List.getElem?_set_ne (by omega)]; exact h1)
  have hs1 := s1 (.int .i64 x)
  obtain ⟨W1, e1⟩ : ∃ W1, W1 = w.setCell ⟨g, o + 1, none⟩ (.int .i64 x) := ⟨_, rfl⟩
  rw [← e1] at hs1
  obtain ⟨d2, z2, s2⟩ := Dk.Sep.cellg (us1 := []) hs1 (k := o + 2) (x := .bool true) (by rw [List.length_set, List.length_set]; exact hlen) (by rw [List.getElem?_set_ne (by omega), List.getElem?_set_ne (by omega)]; exact h2)
  have hs2 := s2 (.bool true)
  obtain ⟨W2, e2⟩ : ∃ W2, W2 = W1.setCell ⟨g, o + 2, none⟩ (.bool true) := ⟨_, rfl⟩
  rw [← e2] at hs2
  have t1 : ∀ y : Dk.Up W2, y.wd.cell? ⟨g, o + 1, none⟩ = some (.int .i64 x) := fun y => (Dk.Sep.cellg (us1 := []) (hs2.below y.property) (by rw [List.length_set, List.length_set, List.length_set]; exact hlen) (by rw [List.getElem?_set_ne (by omega), List.getElem?_set_self (by rw [List.length_set]; exact h1l)])).1
  have t2 : ∀ y : Dk.Up W2, y.wd.cell? ⟨g, o + 2, none⟩ = some (.bool true) := fun y => (Dk.Sep.cellg (us1 := []) (hs2.below y.property) (by rw [List.length_set, List.length_set, List.length_set]; exact hlen) (by rw [List.getElem?_set_self (by rw [List.length_set, List.length_set]; exact h2l)])).1
  have hne : Nonempty (Dk.Up W2) := ⟨⟨W2, Below.refl _ _⟩⟩
  have HS : Hid _ := hs2
  have HE : Hid (w.setCell ⟨g, o + 1, none⟩ (.int .i64 x) = W1) := e1.symm
  have HE2 : Hid (W1.setCell ⟨g, o + 2, none⟩ (.bool true) = W2) := e2.symm
  clear s1 s2 hs1 hs2 h e1 e2 h1 h2 h1l h2l h0 h0l
  go_wp2_with (first | (rw [HE.out]; clear HE) | (rw [HE2.out]; clear HE2))
  refine Dk.wp_region_up_lit (by kernel_rfl) (by kernel_rfl) ?_
  repeat (go_big_quiet_step (fail))
  refine wpQuiet_nil ?_
  intro _ hw'
  obtain ⟨y, hw''⟩ := hw'
  subst hw''
  have h' := Dk.Sep.below HS.out y.property
  clear HS t1 t2 hne
  go_wp2_with fail
  go_ret2
  exact ⟨rfl, u', h'⟩

theorem down_less {c : Int} (h : Dk.Sep W w (Dk.rowOf e q (.slice (some ⟨g, 0, none⟩) n C) n Hs :: us)) (h1 : Hs[o + 1]? = some (.int .i64 c)) (hc : 0 < c ∧ c ≤ 1048576) (who : Int) :
    Calls Try.prog 40 #[.pointer (some ⟨g, o, none⟩), .int .i64 who] w fun e' w' => e' = .returned (.bool true) ∧ Dk.Sep W w' (Dk.rowOf e q (.slice (some ⟨g, 0, none⟩) n C) n (Hs.set (o + 1) (.int .i64 (c - 1))) :: us) := by
  have hlen : Hs.length = n * q := h.rowLen (List.mem_cons_self ..)
  obtain ⟨c1, f1, s1⟩ := h.cellg (us1 := []) hlen h1
  have HS : Hid _ := s1 (.int .i64 (c - 1))
  have z0 : decide (c = 0) = false := decide_eq_false (by omega)
  have z1 : (c == 0) = false := by simpa using z0
  have z2 : IntKind.i64.wrap (c - 1) = c - 1 := by rw [IntKind.wrap_i64]; omega
  clear s1 h h1
  go_enter Try.func40, Try.ntmps40
  go_wp2
  go_ret
  exact ⟨rfl, HS.out⟩
theorem down_join (h : Dk.Sep W w (Dk.rowOf e q (.slice (some ⟨g, 0, none⟩) n C) n Hs :: Dk.rowOf 3 1 u xs.length (Dk.is xs) :: us)) (h0 : Hs[o]? = some u) (h1 : Hs[o + 1]? = some (.int .i64 0)) (who : Int) (hl : xs.length ≤ 1000) :
    Calls Try.prog 40 #[.pointer (some ⟨g, o, none⟩), .int .i64 who] w fun e' w' => e' = .returned (.bool false) ∧ ∃ u', Dk.Sep W w' (Dk.rowOf e q (.slice (some ⟨g, 0, none⟩) n C) n (Hs.set o u') :: Dk.rowOf 3 1 u' (xs ++ [who]).length (Dk.is (xs ++ [who])) :: us) := by
  have hlen : Hs.length = n * q := h.rowLen (List.mem_cons_self ..)
  have c1 : w.cell? ⟨g, o + 1, none⟩ = some (.int .i64 0) := (h.cellg (us1 := []) hlen h1).1
  have K := join_any h h0 who hl
  clear h h0 h1
  go_enter Try.func40, Try.ntmps40
  go_wp2_with fail
  refine K.mono ?_
  rintro e' w' ⟨rfl, u', h'⟩
  clear K c1
  go_wp2_with fail
  go_ret
  exact ⟨rfl, u', h'⟩
theorem up_take (h : Dk.Sep W w (Dk.rowOf e q (.slice (some ⟨g, 0, none⟩) n C) n Hs :: Dk.rowOf 3 1 u xs.length (Dk.is xs) :: us)) (h0 : Hs[o]? = some u) (k : Int) (hi : Dk.i64 k) (hn : 0 < xs.length) (hl : xs.length ≤ 1000) (a : Nat) (ea : Dk.at_ k xs.length = a) :
    Calls Try.prog 39 #[.pointer (some ⟨g, o, none⟩), .int .i64 k] w fun e' w' => e' = .returned (.tuple #[.int .i64 (xs.getD a 0), .bool true, .int .i64 0]) ∧ ∃ u', Dk.Sep W w' (Dk.rowOf e q (.slice (some ⟨g, 0, none⟩) n C) n (Hs.set o u') :: Dk.rowOf 3 1 u' (xs.eraseIdx a).length (Dk.is (xs.eraseIdx a)) :: us) := by
  have K := take_some h h0 k hi hn hl a ea
  generalize xs.getD a 0 = x at K ⊢
  clear h h0 hi ea
  go_enter Try.func39, Try.ntmps39
  go_wp2_with fail
  refine K.mono ?_
  rintro e' w' ⟨rfl, u', h'⟩
  clear K
  go_wp2_with fail
  go_ret3
  exact ⟨rfl, u', h'⟩
theorem up_full_ {A : Option Addr} {Ca : Nat} (c0 : w.cell? ⟨g, o, none⟩ = some (.slice A 0 Ca)) (c1 : w.cell? ⟨g, o + 1, none⟩ = some (.int .i64 1048576)) (k : Int) :
    Calls Try.prog 39 #[.pointer (some ⟨g, o, none⟩), .int .i64 k] w fun e' w' => e' = .returned (.tuple #[.int .i64 0, .bool false, .int .i64 2]) ∧ w' = w := by
  have K := take_none c0 k
  go_enter Try.func39, Try.ntmps39
  go_wp2_with fail
  refine K.mono ?_
  rintro e' w' ⟨rfl, hw'⟩
  subst w'
  clear K
  go_wp2_with fail
  go_ret3
  exact ⟨rfl, rfl⟩
theorem up_more_ {A : Option Addr} {Ca : Nat} {c : Int} (h : Dk.Sep W w (Dk.rowOf e q (.slice (some ⟨g, 0, none⟩) n C) n Hs :: us)) (h0 : Hs[o]? = some (.slice A 0 Ca)) (h1 : Hs[o + 1]? = some (.int .i64 c)) (hc : 0 ≤ c ∧ c < 1048576) (k : Int) :
    Calls Try.prog 39 #[.pointer (some ⟨g, o, none⟩), .int .i64 k] w fun e' w' => e' = .returned (.tuple #[.int .i64 0, .bool false, .int .i64 0]) ∧ Dk.Sep W w' (Dk.rowOf e q (.slice (some ⟨g, 0, none⟩) n C) n (Hs.set (o + 1) (.int .i64 (c + 1))) :: us) := by
  have hlen : Hs.length = n * q := h.rowLen (List.mem_cons_self ..)
  obtain ⟨c0, _, _⟩ := h.cellg (us1 := []) hlen h0
  obtain ⟨c1, f1, s1⟩ := h.cellg (us1 := []) hlen h1
  have HS : Hid _ := s1 (.int .i64 (c + 1))
  have z0 : decide (c = 1048576) = false := decide_eq_false (by omega)
  have z1 : (c == 1048576) = false := by simpa using z0
  have z2 : IntKind.i64.wrap (c + 1) = c + 1 := by rw [IntKind.wrap_i64]; omega
  have K := take_none c0 k
  clear s1 h h0 h1
  go_enter Try.func39, Try.ntmps39
  go_wp2_with fail
  refine K.mono ?_
  rintro e' w' ⟨rfl, hw'⟩
  subst w'
  clear K
  go_wp2_with fail
  go_ret3
  exact ⟨rfl, HS.out⟩
end
end Go.Proofs.Ytjkdaankjondjaa
