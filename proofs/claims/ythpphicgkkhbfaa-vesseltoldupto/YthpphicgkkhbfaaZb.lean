/- Layer 15: what is told of a vessel that is taken away; what is left of it; what it is told then. -/
import Derived.Test.YthpphicgkkhbfaaZa
namespace Go.Proofs.Ythpphicgkkhbfaa
set_option linter.unusedSimpArgs false
set_option linter.unusedVariables false
set_option linter.unnecessarySimpa false
open Go.RowKit Go.Lib
set_option maxRecDepth 100000 in
set_option maxHeartbeats 4000000 in
theorem taken_any (m t : Int) (A : Option Addr) (L C : Nat) (w : World) :
    Calls Try.prog 17 #[Dk.vv m t A L C] w fun e w' => ∃ v, e = .returned v ∧ Dk.Sep w w' [Dk.rowOf 36 3 v (Dk.takenV m t).length (Dk.evs (Dk.takenV m t))] := by
  have KR := fun w => VRuns_any m t A L C w
  have KH := fun w => VHolds_any m t A L C w
  unfold Dk.takenV
  generalize Dk.runsV m t = r at *
  generalize Dk.holdsV m = h at *
  obtain ⟨W1, e1⟩ : ∃ W, W = w.alloc (.cells #[.int .i64 m, .int .i64 t, .slice A L C] 24) := ⟨_, rfl⟩
  have s1 := (Dk.Sep.begin (Below.refl w.heap.size w)).newBox e1
  have b1 := s1.box (List.mem_cons_self ..)
  have d0 : W1.cell? ⟨w.heap.size, 0, none⟩ = some (.int .i64 m) := b1.cell 0
  have d1 : W1.cell? ⟨w.heap.size, 1, none⟩ = some (.int .i64 t) := b1.cell 1
  have d2 : W1.cell? ⟨w.heap.size, 2, none⟩ = some (.slice A L C) := b1.cell 2
  have H1 : Hid (w.alloc (.cells #[.int .i64 m, .int .i64 t, .slice A L C] 24) = W1) := e1.symm
  clear e1
  cases r with
  | false =>
    cases h with
    | false =>
      rw [show Dk.ownV false false m t = [] from rfl]
      have KR : ∀ w, Calls Try.prog 11 #[Dk.vv m t A L C] w fun x w' => x = .returned (.tuple #[.int .i64 0, .bool false]) ∧ Below w.heap.size w w' := KR
      go_enter Try.func17, Try.ntmps17
      go_wp2_with (rw [H1.out]; clear H1)
      refine (KR _).mono ?_
      rintro e w2 ⟨rfl, v2⟩
      have s2 := s1.below v2
      have b2 := s2.box (List.mem_cons_self ..)
      have c0 : w2.cell? ⟨w.heap.size, 0, none⟩ = some (.int .i64 m) := b2.cell 0
      have c1 : w2.cell? ⟨w.heap.size, 1, none⟩ = some (.int .i64 t) := b2.cell 1
      have c2 : w2.cell? ⟨w.heap.size, 2, none⟩ = some (.slice A L C) := b2.cell 2
      clear s1 b1 d0 d1 d2 v2 b2 KR
      go_wp2_with fail
      refine (KH _).mono ?_
      rintro e w3 ⟨rfl, v3⟩
      have s3 := s2.below v3
      clear s2 v3 KH c0 c1 c2
      have HS : Hid _ := (s3.nilRow 36 3).sub (us := [_]) ((List.nil_sublist _).cons_cons _)
      clear s3
      go_wp2
      go_ret
      exact ⟨_, rfl, HS.out⟩
    | true =>
      rw [show Dk.ownV true false m t = [⟨4, -1, m⟩] from rfl]
      have KR : ∀ w, Calls Try.prog 11 #[Dk.vv m t A L C] w fun x w' => x = .returned (.tuple #[.int .i64 0, .bool false]) ∧ Below w.heap.size w w' := KR
      go_enter Try.func17, Try.ntmps17
      go_wp2_with (rw [H1.out]; clear H1)
      refine (KR _).mono ?_
      rintro e w2 ⟨rfl, v2⟩
      have s2 := s1.below v2
      have b2 := s2.box (List.mem_cons_self ..)
      have c0 : w2.cell? ⟨w.heap.size, 0, none⟩ = some (.int .i64 m) := b2.cell 0
      have c1 : w2.cell? ⟨w.heap.size, 1, none⟩ = some (.int .i64 t) := b2.cell 1
      have c2 : w2.cell? ⟨w.heap.size, 2, none⟩ = some (.slice A L C) := b2.cell 2
      clear s1 b1 d0 d1 d2 v2 b2 KR
      go_wp2_with fail
      refine (KH _).mono ?_
      rintro e w3 ⟨rfl, v3⟩
      have s3 := s2.below v3
      clear s2 v3 KH c0 c1 c2
      have b3 := s3.box (List.mem_cons_self ..)
      have f0 : w3.cell? ⟨w.heap.size, 0, none⟩ = some (.int .i64 m) := b3.cell 0
      have hw3 : w.heap.size < w3.heap.size := b3.lt
      clear b3
      obtain ⟨W4, e4⟩ : ∃ W, W = w3.alloc (.cells #[.int .i64 4, .int .i64 (-1), .int .i64 0] 36) := ⟨_, rfl⟩
      have s4 := s3.newBox e4
      have q4 : w.heap.size ≠ w3.heap.size := by omega
      have H4 : Hid (w3.alloc (.cells #[.int .i64 4, .int .i64 (-1), .int .i64 0] 36) = W4) := e4.symm
      have b4 := s4.box (List.mem_cons_self ..)
      have fz4 : W4.frozen? ⟨w3.heap.size, 2, none⟩ = false := b4.frozen 2
      have fc4 : W4.cell? ⟨w3.heap.size, 2, none⟩ = some (.int .i64 0) := b4.cell 2
      have g4 : W4.cell? ⟨w.heap.size, 0, none⟩ = some (.int .i64 m) := (s4.box (b := w.heap.size) (cs := #[.int .i64 m, .int .i64 t, .slice A L C]) (t := 24) (by simp)).cell 0
      have s5 := Dk.Sep.setBox (us1 := []) (o := 2) s4 (.int .i64 m)
      have s5 : Dk.Sep w (W4.setCell ⟨w3.heap.size, 2, none⟩ (.int .i64 m)) [Dk.boxOf w3.heap.size #[.int .i64 4, .int .i64 (-1), .int .i64 m] 36, Dk.boxOf w.heap.size #[.int .i64 m, .int .i64 t, .slice A L C] 24] := s5
      obtain ⟨W5, e5⟩ : ∃ W, W = W4.setCell ⟨w3.heap.size, 2, none⟩ (.int .i64 m) := ⟨_, rfl⟩
      rw [← e5] at s5
      have H5 : Hid (W4.setCell ⟨w3.heap.size, 2, none⟩ (.int .i64 m) = W5) := e5.symm
      have b5 := s5.box (List.mem_cons_self ..)
      have k0 : W5.cell? ⟨w3.heap.size, 0, none⟩ = some (.int .i64 4) := b5.cell 0
      have k1 : W5.cell? ⟨w3.heap.size, 1, none⟩ = some (.int .i64 (-1)) := b5.cell 1
      have k2 : W5.cell? ⟨w3.heap.size, 2, none⟩ = some (.int .i64 m) := b5.cell 2
      obtain ⟨W6, e6⟩ : ∃ W, W = W5.alloc (.cells #[.int .i64 4, .int .i64 (-1), .int .i64 m] 36) := ⟨_, rfl⟩
      have s6 := Dk.Sep.lit (n := 1) (s := 3) (xs := Dk.evs [⟨4, -1, m⟩]) s5 e6 rfl rfl (by decide)
      have HS : Hid _ := s6.sub (us := [_]) ((List.nil_sublist _).cons_cons _)
      have H6 : Hid (W5.alloc (.cells #[.int .i64 4, .int .i64 (-1), .int .i64 m] 36) = W6) := e6.symm
      clear s3 s4 e4 s5 e5 s6 e6 b4 b5
      go_wp2_with (first | (rw [H4.out]; clear H4) | (rw [H5.out]; clear H5) | (rw [H6.out]; clear H6))
      go_ret
      exact ⟨_, rfl, HS.out⟩
  | true =>
    cases h with
    | false =>
      rw [show Dk.ownV false true m t = [⟨4, t, 0⟩] from rfl]
      have KR : ∀ w, Calls Try.prog 11 #[Dk.vv m t A L C] w fun x w' => x = .returned (.tuple #[.int .i64 t, .bool true]) ∧ Below w.heap.size w w' := KR
      go_enter Try.func17, Try.ntmps17
      go_wp2_with (rw [H1.out]; clear H1)
      refine (KR _).mono ?_
      rintro e w2 ⟨rfl, v2⟩
      have s2 := s1.below v2
      have b2 := s2.box (List.mem_cons_self ..)
      have c0 : w2.cell? ⟨w.heap.size, 0, none⟩ = some (.int .i64 m) := b2.cell 0
      have c1 : w2.cell? ⟨w.heap.size, 1, none⟩ = some (.int .i64 t) := b2.cell 1
      have c2 : w2.cell? ⟨w.heap.size, 2, none⟩ = some (.slice A L C) := b2.cell 2
      clear s1 b1 d0 d1 d2 v2 b2 KR
      go_wp2_with fail
      refine (KH _).mono ?_
      rintro e w3 ⟨rfl, v3⟩
      have s3 := s2.below v3
      clear s2 v3 KH c0 c1 c2
      obtain ⟨W4, e4⟩ : ∃ W, W = w3.alloc (.cells #[.int .i64 4, .int .i64 (-1), .int .i64 0] 36) := ⟨_, rfl⟩
      have s4 := s3.newBox e4
      have H4 : Hid (w3.alloc (.cells #[.int .i64 4, .int .i64 (-1), .int .i64 0] 36) = W4) := e4.symm
      have b4 := s4.box (List.mem_cons_self ..)
      have fz4 : W4.frozen? ⟨w3.heap.size, 1, none⟩ = false := b4.frozen 1
      have fc4 : W4.cell? ⟨w3.heap.size, 1, none⟩ = some (.int .i64 (-1)) := b4.cell 1
      have s5 := Dk.Sep.setBox (us1 := []) (o := 1) s4 (.int .i64 t)
      have s5 : Dk.Sep w (W4.setCell ⟨w3.heap.size, 1, none⟩ (.int .i64 t)) [Dk.boxOf w3.heap.size #[.int .i64 4, .int .i64 t, .int .i64 0] 36, Dk.boxOf w.heap.size #[.int .i64 m, .int .i64 t, .slice A L C] 24] := s5
      obtain ⟨W5, e5⟩ : ∃ W, W = W4.setCell ⟨w3.heap.size, 1, none⟩ (.int .i64 t) := ⟨_, rfl⟩
      rw [← e5] at s5
      have H5 : Hid (W4.setCell ⟨w3.heap.size, 1, none⟩ (.int .i64 t) = W5) := e5.symm
      have b5 := s5.box (List.mem_cons_self ..)
      have k0 : W5.cell? ⟨w3.heap.size, 0, none⟩ = some (.int .i64 4) := b5.cell 0
      have k1 : W5.cell? ⟨w3.heap.size, 1, none⟩ = some (.int .i64 t) := b5.cell 1
      have k2 : W5.cell? ⟨w3.heap.size, 2, none⟩ = some (.int .i64 0) := b5.cell 2
      obtain ⟨W6, e6⟩ : ∃ W, W = W5.alloc (.cells #[.int .i64 4, .int .i64 t, .int .i64 0] 36) := ⟨_, rfl⟩
      have s6 := Dk.Sep.lit (n := 1) (s := 3) (xs := Dk.evs [⟨4, t, 0⟩]) s5 e6 rfl rfl (by decide)
      have HS : Hid _ := s6.sub (us := [_]) ((List.nil_sublist _).cons_cons _)
      have H6 : Hid (W5.alloc (.cells #[.int .i64 4, .int .i64 t, .int .i64 0] 36) = W6) := e6.symm
      clear s3 s4 e4 s5 e5 s6 e6 b4 b5
      go_wp2_with (first | (rw [H4.out]; clear H4) | (rw [H5.out]; clear H5) | (rw [H6.out]; clear H6))
      go_ret
      exact ⟨_, rfl, HS.out⟩
    | true =>
      rw [show Dk.ownV true true m t = [⟨4, t, m⟩] from rfl]
      have KR : ∀ w, Calls Try.prog 11 #[Dk.vv m t A L C] w fun x w' => x = .returned (.tuple #[.int .i64 t, .bool true]) ∧ Below w.heap.size w w' := KR
      go_enter Try.func17, Try.ntmps17
      go_wp2_with (rw [H1.out]; clear H1)
      refine (KR _).mono ?_
      rintro e w2 ⟨rfl, v2⟩
      have s2 := s1.below v2
      have b2 := s2.box (List.mem_cons_self ..)
      have c0 : w2.cell? ⟨w.heap.size, 0, none⟩ = some (.int .i64 m) := b2.cell 0
      have c1 : w2.cell? ⟨w.heap.size, 1, none⟩ = some (.int .i64 t) := b2.cell 1
      have c2 : w2.cell? ⟨w.heap.size, 2, none⟩ = some (.slice A L C) := b2.cell 2
      clear s1 b1 d0 d1 d2 v2 b2 KR
      go_wp2_with fail
      refine (KH _).mono ?_
      rintro e w3 ⟨rfl, v3⟩
      have s3 := s2.below v3
      clear s2 v3 KH c0 c1 c2
      have b3 := s3.box (List.mem_cons_self ..)
      have f0 : w3.cell? ⟨w.heap.size, 0, none⟩ = some (.int .i64 m) := b3.cell 0
      have hw3 : w.heap.size < w3.heap.size := b3.lt
      clear b3
      obtain ⟨W4, e4⟩ : ∃ W, W = w3.alloc (.cells #[.int .i64 4, .int .i64 (-1), .int .i64 0] 36) := ⟨_, rfl⟩
      have s4 := s3.newBox e4
      have q4 : w.heap.size ≠ w3.heap.size := by omega
      have H4 : Hid (w3.alloc (.cells #[.int .i64 4, .int .i64 (-1), .int .i64 0] 36) = W4) := e4.symm
      have b4 := s4.box (List.mem_cons_self ..)
      have fz4 : W4.frozen? ⟨w3.heap.size, 1, none⟩ = false := b4.frozen 1
      have fc4 : W4.cell? ⟨w3.heap.size, 1, none⟩ = some (.int .i64 (-1)) := b4.cell 1
      have g4 : W4.cell? ⟨w.heap.size, 0, none⟩ = some (.int .i64 m) := (s4.box (b := w.heap.size) (cs := #[.int .i64 m, .int .i64 t, .slice A L C]) (t := 24) (by simp)).cell 0
      have s5 := Dk.Sep.setBox (us1 := []) (o := 1) s4 (.int .i64 t)
      have s5 : Dk.Sep w (W4.setCell ⟨w3.heap.size, 1, none⟩ (.int .i64 t)) [Dk.boxOf w3.heap.size #[.int .i64 4, .int .i64 t, .int .i64 0] 36, Dk.boxOf w.heap.size #[.int .i64 m, .int .i64 t, .slice A L C] 24] := s5
      obtain ⟨W5, e5⟩ : ∃ W, W = W4.setCell ⟨w3.heap.size, 1, none⟩ (.int .i64 t) := ⟨_, rfl⟩
      rw [← e5] at s5
      have H5 : Hid (W4.setCell ⟨w3.heap.size, 1, none⟩ (.int .i64 t) = W5) := e5.symm
      have b5 := s5.box (List.mem_cons_self ..)
      have fz5 : W5.frozen? ⟨w3.heap.size, 2, none⟩ = false := b5.frozen 2
      have fc5 : W5.cell? ⟨w3.heap.size, 2, none⟩ = some (.int .i64 0) := b5.cell 2
      have g5 : W5.cell? ⟨w.heap.size, 0, none⟩ = some (.int .i64 m) := (s5.box (b := w.heap.size) (cs := #[.int .i64 m, .int .i64 t, .slice A L C]) (t := 24) (by simp)).cell 0
      have s6 := Dk.Sep.setBox (us1 := []) (o := 2) s5 (.int .i64 m)
      have s6 : Dk.Sep w (W5.setCell ⟨w3.heap.size, 2, none⟩ (.int .i64 m)) [Dk.boxOf w3.heap.size #[.int .i64 4, .int .i64 t, .int .i64 m] 36, Dk.boxOf w.heap.size #[.int .i64 m, .int .i64 t, .slice A L C] 24] := s6
      obtain ⟨W6, e6⟩ : ∃ W, W = W5.setCell ⟨w3.heap.size, 2, none⟩ (.int .i64 m) := ⟨_, rfl⟩
      rw [← e6] at s6
      have H6 : Hid (W5.setCell ⟨w3.heap.size, 2, none⟩ (.int .i64 m) = W6) := e6.symm
      have b6 := s6.box (List.mem_cons_self ..)
      have k0 : W6.cell? ⟨w3.heap.size, 0, none⟩ = some (.int .i64 4) := b6.cell 0
      have k1 : W6.cell? ⟨w3.heap.size, 1, none⟩ = some (.int .i64 t) := b6.cell 1
      have k2 : W6.cell? ⟨w3.heap.size, 2, none⟩ = some (.int .i64 m) := b6.cell 2
      obtain ⟨W7, e7⟩ : ∃ W, W = W6.alloc (.cells #[.int .i64 4, .int .i64 t, .int .i64 m] 36) := ⟨_, rfl⟩
      have s7 := Dk.Sep.lit (n := 1) (s := 3) (xs := Dk.evs [⟨4, t, m⟩]) s6 e7 rfl rfl (by decide)
      have HS : Hid _ := s7.sub (us := [_]) ((List.nil_sublist _).cons_cons _)
      have H7 : Hid (W6.alloc (.cells #[.int .i64 4, .int .i64 t, .int .i64 m] 36) = W7) := e7.symm
      clear s3 s4 e4 s5 e5 s6 e6 s7 e7 b4 b5 b6
      go_wp2_with (first | (rw [H4.out]; clear H4) | (rw [H5.out]; clear H5) | (rw [H6.out]; clear H6) | (rw [H7.out]; clear H7))
      go_ret
      exact ⟨_, rfl, HS.out⟩
end Go.Proofs.Ythpphicgkkhbfaa
