/- Layer 15: the fixed fact of the statements. -/
import Derived.Test.YthpphicgkkhbfaaZc
namespace Dk
open Go Go.RowKit
theorem ev_ok (a b c : Int) (ha : i64 a) (hb : i64 b) (hc : i64 c) : ∀ e ∈ [(⟨a, b, c⟩ : Ev)], e.ok := fun e he => by
  obtain rfl := List.mem_singleton.1 he
  exact ⟨ha, hb, hc⟩
end Dk
namespace Go.Proofs.Ythpphicgkkhbfaa
set_option linter.unusedSimpArgs false
set_option linter.unusedVariables false
set_option linter.unnecessarySimpa false
open Go.RowKit Go.Lib
set_option maxRecDepth 100000 in
set_option maxHeartbeats 4000000 in
theorem awake_any (w : World) : Calls Try.prog 7 #[] w fun e w' => e = .returned (.bool true) ∧ Below w.heap.size w w' := by
  obtain ⟨W1, e1⟩ : ∃ W1, W1 = w.alloc (.cells #[.int .i64 1, .int .i64 (-1), .int .i64 0] 36) := ⟨_, rfl⟩
  have s1 := Dk.Sep.lit (n := 1) (s := 3) (xs := Dk.evs [⟨1, -1, 0⟩]) (Dk.Sep.begin (Below.refl w.heap.size w)) e1 rfl rfl (by decide)
  obtain ⟨_, _, ev, E1⟩ := s1.asEvs (List.mem_cons_self ..) rfl (Dk.ev_ok _ _ _ ⟨by decide, by decide⟩ ⟨by decide, by decide⟩ ⟨by decide, by decide⟩)
  cases ev
  have H1 : Hid (w.alloc (.cells #[.int .i64 1, .int .i64 (-1), .int .i64 0] 36) = W1) := e1.symm
  have K1 := New_v E1 (by decide)
  clear e1 E1
  go_enter Try.func7, Try.ntmps7
  go_wp2_with (rw [H1.out]; clear H1)
  refine K1.mono ?_
  rintro e w2 ⟨B, D, rfl, s2⟩
  obtain ⟨W3, e3⟩ : ∃ W, W = w2.alloc (.cells #[.int .i64 1, .int .i64 (-1), .slice B 1 D] 24) := ⟨_, rfl⟩
  have s3 := (s1.onto s2).newBox e3
  have b3 := s3.box (List.mem_cons_self ..)
  have z30 : W3.frozen? ⟨w2.heap.size, 0, none⟩ = false := b3.frozen 0
  have z31 : W3.frozen? ⟨w2.heap.size, 1, none⟩ = false := b3.frozen 1
  have d30 : W3.cell? ⟨w2.heap.size, 0, none⟩ = some (.int .i64 1) := b3.cell 0
  have d31 : W3.cell? ⟨w2.heap.size, 1, none⟩ = some (.int .i64 (-1)) := b3.cell 1
  obtain ⟨W4, e4⟩ : ∃ W, W = W3.setCell ⟨w2.heap.size, 0, none⟩ (.int .i64 7) := ⟨_, rfl⟩
  have s4 := Dk.Sep.setBox (us1 := []) (o := 0) s3 (.int .i64 7)
  rw [← e4] at s4
  have b4 := s4.box (List.mem_cons_self ..)
  have z40 : W4.frozen? ⟨w2.heap.size, 1, none⟩ = false := b4.frozen 1
  have d41 : W4.cell? ⟨w2.heap.size, 1, none⟩ = some (.int .i64 (-1)) := b4.cell 1
  obtain ⟨W5, e5⟩ : ∃ W, W = W4.setCell ⟨w2.heap.size, 1, none⟩ (.int .i64 3) := ⟨_, rfl⟩
  have s5 := Dk.Sep.setBox (us1 := []) (o := 1) s4 (.int .i64 3)
  rw [← e5] at s5
  have s5 : Dk.Sep w W5 [Dk.boxOf w2.heap.size #[.int .i64 7, .int .i64 3, .slice B 1 D] 24, Dk.rowOf 36 3 (.slice B 1 D) 1 (Dk.evs [⟨1, -1, 0⟩])] := s5.sub (((List.nil_sublist _).cons_cons _).cons_cons _)
  have b5 := s5.box (List.mem_cons_self ..)
  have FB : Hid (∀ w' us, Dk.Sep w w' (us ++ [Dk.boxOf w2.heap.size #[.int .i64 7, .int .i64 3, .slice B 1 D] 24, Dk.rowOf 36 3 (.slice B 1 D) 1 (Dk.evs [⟨1, -1, 0⟩])]) → w'.cell? ⟨w2.heap.size, 0, none⟩ = some (.int .i64 7) ∧ w'.cell? ⟨w2.heap.size, 1, none⟩ = some (.int .i64 3) ∧ w'.cell? ⟨w2.heap.size, 2, none⟩ = some (.slice B 1 D)) := fun w' us h => by
    have b := h.box (b := w2.heap.size) (cs := #[.int .i64 7, .int .i64 3, .slice B 1 D]) (t := 24) (by simp)
    exact ⟨b.cell 0, b.cell 1, b.cell 2⟩
  obtain ⟨q0, q1, q2⟩ := FB.out _ [] s5
  have H3 : Hid (w2.alloc (.cells #[.int .i64 1, .int .i64 (-1), .slice B 1 D] 24) = W3) := e3.symm
  have H4 : Hid (W3.setCell ⟨w2.heap.size, 0, none⟩ (.int .i64 7) = W4) := e4.symm
  have H5 : Hid (W4.setCell ⟨w2.heap.size, 1, none⟩ (.int .i64 3) = W5) := e5.symm
  have hok := Dk.ev_ok 1 (-1) 0 ⟨by decide, by decide⟩ ⟨by decide, by decide⟩ ⟨by decide, by decide⟩
  obtain ⟨_, _, ev, E5⟩ := s5.asEvs (e := 36) (n := 1) (v := .slice B 1 D) (xs := [⟨1, -1, 0⟩]) (by simp) rfl hok
  cases ev
  have K2 := Strip_any (m := 7) (t := 3) ⟨by decide, by decide⟩ ⟨by decide, by decide⟩ E5 (by decide)
  rw [show Dk.stripV 7 3 [⟨1, -1, 0⟩] = [⟨4, 3, 7⟩] from rfl] at K2
  clear s1 s2 s3 s4 e3 e4 e5 b3 b4 b5 K1 E5
  go_wp2_with (first | (rw [H3.out]; clear H3) | (rw [H4.out]; clear H4) | (rw [H5.out]; clear H5 z40 d41))
  refine K2.mono ?_
  rintro e w6 ⟨B6, D6, rfl, s6⟩
  have S6 := s5.onto s6
  obtain ⟨r0, r1, r2⟩ := FB.out _ [_] S6
  have KR := VRuns_any 7 3 B 1 D w6
  rw [show Dk.runsV 7 3 = true from rfl] at KR
  clear K2 s5 s6 q0 q1 q2
  go_wp2_with fail
  refine KR.mono ?_
  rintro e w7 ⟨rfl, v7⟩
  have S7 := S6.below v7
  obtain ⟨q0, q1, q2⟩ := FB.out _ [_] S7
  obtain ⟨W8, e8⟩ : ∃ W, W = w7.alloc (.cells #[.int .i64 3, .int .i64 1, .int .i64 0] 36) := ⟨_, rfl⟩
  have S8 := Dk.Sep.lit (n := 1) (s := 3) (xs := Dk.evs [⟨3, 1, 0⟩]) S7 e8 rfl rfl (by decide)
  obtain ⟨_, _, ev, F8⟩ := S8.asEvs (e := 36) (n := 1) (xs := [⟨3, 1, 0⟩]) (List.mem_cons_self ..) rfl (Dk.ev_ok _ _ _ ⟨by decide, by decide⟩ ⟨by decide, by decide⟩ ⟨by decide, by decide⟩)
  cases ev
  obtain ⟨_, _, ev, E8⟩ := S8.asEvs (e := 36) (n := 1) (v := .slice B 1 D) (xs := [⟨1, -1, 0⟩]) (by simp) rfl hok
  cases ev
  have K3 := Told_any (m := 7) (t := 3) ⟨by decide, by decide⟩ ⟨by decide, by decide⟩ E8 F8 (by decide)
  rw [show Dk.stripV 7 3 [⟨1, -1, 0⟩] = [⟨4, 3, 7⟩] from rfl] at K3
  have H8 : Hid (w7.alloc (.cells #[.int .i64 3, .int .i64 1, .int .i64 0] 36) = W8) := e8.symm
  clear S6 S7 KR v7 r0 r1 r2 F8 E8 e8
  go_wp2_with (rw [H8.out]; clear H8)
  refine K3.mono ?_
  rintro e w9 ⟨B9, D9, rfl, s9⟩
  have S9 := (S8.sub (List.sublist_cons_self _ _)).below s9.out
  obtain ⟨Wa, ea⟩ : ∃ W, W = w9.alloc (.cells #[.int .i64 1, .int .i64 (-1), .slice B9 2 D9] 24) := ⟨_, rfl⟩
  have Sa := S9.newBox ea
  have HSa : Hid _ := Sa
  have FA : Hid (∀ w', Below Wa.heap.size Wa w' → w'.cell? ⟨w2.heap.size, 0, none⟩ = some (.int .i64 7) ∧ w'.cell? ⟨w2.heap.size, 1, none⟩ = some (.int .i64 3) ∧ w'.cell? ⟨w2.heap.size, 2, none⟩ = some (.slice B 1 D) ∧ w'.cell? ⟨w9.heap.size, 0, none⟩ = some (.int .i64 1) ∧ w'.cell? ⟨w9.heap.size, 1, none⟩ = some (.int .i64 (-1)) ∧ w'.cell? ⟨w9.heap.size, 2, none⟩ = some (.slice B9 2 D9)) := fun w' u => by
    have S := Dk.Sep.below HSa.out u
    obtain ⟨x0, x1, x2⟩ := FB.out _ [_, _] S
    have b := S.box (List.mem_cons_self ..)
    exact ⟨x0, x1, x2, b.cell 0, b.cell 1, b.cell 2⟩
  obtain ⟨x0, x1, x2, x3, x4, x5⟩ := FA.out _ (Below.refl _ _)
  obtain ⟨_, _, ev, E6⟩ := Sa.asEvs (e := 36) (n := 1) (v := .slice B6 1 D6) (xs := [⟨4, 3, 7⟩]) (by simp) rfl (Dk.ev_ok _ _ _ ⟨by decide, by decide⟩ ⟨by decide, by decide⟩ ⟨by decide, by decide⟩)
  cases ev
  obtain ⟨b, o, rfl, hbb, _, k0, k1, k2⟩ := E6.at (k := 0) (by decide)
  simp only [Nat.zero_mul, Nat.add_zero] at k0 k1 k2
  have k0 : Wa.cell? ⟨b, o, none⟩ = some (.int .i64 4) := k0
  have k1 : Wa.cell? ⟨b, o + 1, none⟩ = some (.int .i64 3) := k1
  have k2 : Wa.cell? ⟨b, o + 2, none⟩ = some (.int .i64 7) := k2
  have KH := VHolds_any 7 3 B 1 D Wa
  rw [show Dk.holdsV 7 = true from rfl] at KH
  have hsame : ∀ w, (Op.equalIn 10000 36 (.agg #[.int .i64 4, .int .i64 3, .int .i64 7]) (.agg #[.int .i64 4, .int .i64 3, .int .i64 7])).run Try.prog w = .ok true w := same_ev 9998 _ _ _
  have Ha : Hid (w9.alloc (.cells #[.int .i64 1, .int .i64 (-1), .slice B9 2 D9] 24) = Wa) := ea.symm
  clear K3 S8 s9 S9 ea E6 q0 q1 q2 Sa
  go_wp2_with (rw [Ha.out]; clear Ha)
  refine KH.mono ?_
  rintro e wb ⟨rfl, vb⟩
  obtain ⟨y0, y1, y2, y3, y4, y5⟩ := FA.out _ vb
  have HU : Hid _ := Dk.up_call (Dk.Sep.out HSa.out) vb
  clear KH vb x0 x1 x2 x3 x4 x5 k0 k1 k2
  go_wp2
  go_ret
  exact ⟨rfl, HU.out⟩
end Go.Proofs.Ythpphicgkkhbfaa
