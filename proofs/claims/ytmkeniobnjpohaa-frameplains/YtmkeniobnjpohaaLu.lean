/- The walks of the statement on plain instructions, where one may be: words and memory. -/
import Derived.Test.YtmkeniobnjpohaaLt
namespace Go.Proofs.Ytmkeniobnjpohaa
set_option linter.unusedSimpArgs false
set_option linter.unusedVariables false
set_option linter.unnecessarySimpa false
open Go.RowKit

set_option maxRecDepth 100000 in
set_option maxHeartbeats 1000000 in
theorem plains_store (f : Dk.Frm) (a b c : Int) (n : Nat) (A : Option Addr) (L C : Nat) (m : List Nat) (w : World) (hr : Dk.Row 1 0 Dk.IsWord w.heap.size w A L C m) (hL : L ≤ 200) (mz : List Nat) (g : Dk.Frm) (hP : OkSaid f ⟨19, a, b, c, n⟩ A L C m g mz) (hmz : mz.length = L) (hwz : ∀ x ∈ mz, x < 18446744073709551616) (ha : Dk.plB a 8 = true) (hb' : Dk.plB b 8 = true) (hx : f.r a.toNat < L) (hmm : m.set (f.r a.toNat) (f.r b.toNat) = mz) (hw : f.to (wrap64 (f.pc + 1)) = g) :
    Calls Try.prog 5 #[Dk.fv f, .agg #[.int .i64 19, .int .i64 a, .int .i64 b, .int .i64 c, .int .u64 (n : Nat)], .slice A L C] w fun e w' => e = .returned (.bool true) ∧ Below w.heap.size w w' := by
  have HMZ : Hid _ := hmz
  have HWZ : Hid _ := hwz
  have HW : Hid _ := hw
  clear hmz hwz hw
  obtain ⟨a0, a8⟩ := Dk.plB_iff.1 ha
  obtain ⟨b0, b8⟩ := Dk.plB_iff.1 hb'
  have hsz : (hasS 19).size = 3 := rfl
  have hcv : IntKind.u64.wrap (L : Int) = L := by rw [IntKind.wrap_u64]; omega
  have hge : ¬ (L : Int) ≤ (f.r a.toNat : Int) := by omega
  have x0 : (0 : Int) ≤ (f.r a.toNat : Int) := Int.natCast_nonneg _
  have x1 : (f.r a.toNat : Int) < (L : Int) := by omega
  have HX : Hid _ := hx
  have HMM : Hid _ := hmm
  clear hx hmm
  have y0 : decide ((200 : Int) < (L : Int)) = false := by simp; omega
  obtain ⟨X, e3⟩ : ∃ X, (w.alloc (.cells #[.int .i64 f.fn, .int .i64 f.pc, .int .u64 (f.r 0 : Nat), .int .u64 (f.r 1 : Nat), .int .u64 (f.r 2 : Nat), .int .u64 (f.r 3 : Nat), .int .u64 (f.r 4 : Nat), .int .u64 (f.r 5 : Nat), .int .u64 (f.r 6 : Nat), .int .u64 (f.r 7 : Nat)] 29)).alloc (.cells #[.int .i64 19, .int .i64 a, .int .i64 b, .int .i64 c, .int .u64 (n : Nat)] 31) = X := ⟨_, rfl⟩
  obtain ⟨b1, b2, u0, z0⟩ := two_box _ _ _ _ _ _ e3
  have hX := hr.up u0
  have q1 := b1.cell
  have q2 := b2.cell
  go_enter Try.func5, Try.ntmps5
  go_wp2_with fail
  try rw [e3]
  clear e3 q1 q2
  refine (hP X hX).mono ?_
  rintro e w1 ⟨wb, rfl, bw0, hb⟩
  have c1 := b1.up hb
  have c2 := b2.up hb
  have u1 := Dk.up_call u0 hb
  have n1 := c1.lt
  have n2 := c2.lt
  obtain ⟨Y, eY⟩ : ∃ Y, w1.alloc (.cells #[.int .i64 g.fn, .int .i64 g.pc, .int .u64 (g.r 0 : Nat), .int .u64 (g.r 1 : Nat), .int .u64 (g.r 2 : Nat), .int .u64 (g.r 3 : Nat), .int .u64 (g.r 4 : Nat), .int .u64 (g.r 5 : Nat), .int .u64 (g.r 6 : Nat), .int .u64 (g.r 7 : Nat)] 29) = Y := ⟨_, rfl⟩
  have d1 : Dk.Box Y w.heap.size (Dk.fc f) 29 := eY ▸ c1.old _
  have d2 : Dk.Box Y (w.heap.size + 1) #[.int .i64 19, .int .i64 a, .int .i64 b, .int .i64 c, .int .u64 (n : Nat)] 31 := eY ▸ c2.old _
  have d3 : Dk.Box Y w1.heap.size (Dk.fc g) 29 := eY ▸ Dk.Box.new _ _ _
  have d4 : Dk.Box Y wb (Dk.wc mz) 26 := eY ▸ bw0.old _
  have u2 : Below w.heap.size w Y := eY ▸ Dk.up_alloc u1 _
  have HEY : Hid _ := eY
  clear eY
  have t2 := c2.cell
  clear hb b1 b2 z0 u0 u1 hX
  go_wp2_with fail
  try rw [HEY.out]
  clear HEY t2 c1 c2
  refine (Has_any _ _).mono ?_
  rintro e w2 ⟨rfl, hb⟩
  have c1 := d1.up hb
  have c2 := d2.up hb
  have c3 := d3.up hb
  have u3 := Dk.up_call u2 hb
  have t2 := c2.cell
  have c4 := d4.up hb
  clear d1 d2 d3 u2 hb
  go_wp2_with (go_at_call 14; refine (reg_any _ _).mono ?_; rintro e w' ⟨rfl, rfl⟩)
  clear t2
  refine region10 _ _ w.heap.size f A L C m c1 (hr.up u3) hL rfl rfl (by exact (by decide : 104 ≤ 252)) ?_
  intro bw bl cp v V s1 s2 s3 s4 s5 s6
  have p1 := c1.up s3
  have p2 := c2.up s3
  have p3 := c3.up s3
  have p4 := c4.up s3
  have uV := Dk.up_call u3 s3
  have m1 := c1.lt
  have m2 := c2.lt
  have m3 := c3.lt
  have m4 := c4.lt
  clear c1 c2 c3 u3 s3 c4
  simp only [Act.put, List.setIfInBounds_toArray, List.set_cons_succ, List.set_cons_zero]
  obtain ⟨V1, eV1⟩ : ∃ V1, V.setCell ⟨bw, 1, none⟩ (.int .i64 (wrap64 (f.pc + 1))) = V1 := ⟨_, rfl⟩
  have q0 : Dk.Box V1 bw (Dk.fc (f.to (wrap64 (f.pc + 1)))) 29 := eV1 ▸ s1.set 1 _
  have q1 : Dk.Box V1 w.heap.size (Dk.fc f) 29 := eV1 ▸ p1.set_other (by omega) _ _
  have q2 : Dk.Box V1 (w.heap.size + 1) #[.int .i64 19, .int .i64 a, .int .i64 b, .int .i64 c, .int .u64 (n : Nat)] 31 := eV1 ▸ p2.set_other (by omega) _ _
  have q3 : Dk.Box V1 w1.heap.size (Dk.fc g) 29 := eV1 ▸ p3.set_other (by omega) _ _
  have q4 : Dk.Box V1 wb (Dk.wc mz) 26 := eV1 ▸ p4.set_other (by omega) _ _
  have q5 : Roomy V1 bl cp m := eV1 ▸ roomy_other s2 s6
  have uV1 : Below w.heap.size w V1 := eV1 ▸ uV.setCell (p := ⟨bw, 1, none⟩) (by show w.heap.size ≤ bw; omega) _
  have i0 := p1.cell 1
  have i1 := s1.cell 1
  have i2 := s1.frozen 1
  clear p1 p2 p3 uV s1 s2 p4
  have hlm := hr.len
  have z0' : Dk.Box V1 bw (Dk.fc g) 29 := by rw [← HW.out]; exact q0
  obtain ⟨V2, eV2⟩ : ∃ V2, V1.setCell ⟨bl, f.r a.toNat, none⟩ (.int .u64 (f.r b.toNat : Nat)) = V2 := ⟨_, rfl⟩
  have hgt : w.heap.size ≤ bl ∧ w1.heap.size < bl ∧ wb < bl := by omega
  have z0 : Dk.Box V2 bw (Dk.fc g) 29 := eV2 ▸ z0'.set_other (fun e => s6 e.symm) _ _
  have z3 : Dk.Box V2 w1.heap.size (Dk.fc g) 29 := eV2 ▸ q3.set_other (by omega) _ _
  have z4 : Dk.Box V2 wb (Dk.wc mz) 26 := eV2 ▸ q4.set_other (by omega) _ _
  have z5 : Roomy V2 bl cp mz := by rw [← HMM.out]; exact eV2 ▸ roomy_set q5 _ _
  have zu : Below w.heap.size w V2 := eV2 ▸ uV1.setCell (by show w.heap.size ≤ bl; omega) _
  obtain ⟨j0, j1⟩ := roomy_cell q5 (f.r a.toNat) (by rw [hlm]; exact HX.out)
  have y9 : (f.r a.toNat : Int) < (cp : Int) := by have := q5.cap; omega
  clear hlm
  have ra := q1.cell (2 + a.toNat)
  rw [Dk.fc_reg _ _ (by omega)] at ra
  have rb := q1.cell (2 + b.toNat)
  rw [Dk.fc_reg _ _ (by omega)] at rb
  have j2 := q2.cell
  have HE1 : Hid _ := eV1
  have HE2 : Hid _ := eV2
  clear eV1 eV2 q0 q1 q2 q3 q4 q5 uV1
  go_wp2_with (first | (rw [HE1.out]; clear HE1) | (rw [HE2.out]; clear HE2) | fail)
  try rw [HE2.out]
  try clear HE2
  refine (awake_any _).mono ?_
  rintro e w4 ⟨rfl, hb4⟩
  have t0 := (z0.up hb4).cell
  have t3 := (z3.up hb4).cell
  have ra := row_box (z4.up hb4) rfl HMZ.out (by unfold maxLen; omega) HWZ.out
  have rb := roomy_row (z5.up hb4) HMZ.out HWZ.out
  have u5 := Dk.up_call zu hb4
  have hs2 : ∀ w, (Op.equalIn 9999 27 (.agg #[.int .u64 (g.r 0 : Nat), .int .u64 (g.r 1 : Nat), .int .u64 (g.r 2 : Nat), .int .u64 (g.r 3 : Nat), .int .u64 (g.r 4 : Nat), .int .u64 (g.r 5 : Nat), .int .u64 (g.r 6 : Nat), .int .u64 (g.r 7 : Nat)]) (.agg #[.int .u64 (g.r 0 : Nat), .int .u64 (g.r 1 : Nat), .int .u64 (g.r 2 : Nat), .int .u64 (g.r 3 : Nat), .int .u64 (g.r 4 : Nat), .int .u64 (g.r 5 : Nat), .int .u64 (g.r 6 : Nat), .int .u64 (g.r 7 : Nat)])).run Try.prog w = .ok true w := same_words 9997 g.r
  have hg := Try.eqGuardType29
  clear z0 z3 z4 z5 zu hb4
  go_wp2_with fail
  refine (Words_same _ _ _ _ _ _ _ ra rb).mono ?_
  rintro e w5 ⟨rfl, hb5⟩
  go_wp2_with fail
  go_ret
  exact ⟨rfl, Dk.up_call u5 hb5⟩

set_option maxRecDepth 100000 in
set_option maxHeartbeats 1000000 in
theorem plains_store_bad (f : Dk.Frm) (a b c : Int) (n : Nat) (A : Option Addr) (L C : Nat) (m : List Nat) (w : World) (hr : Dk.Row 1 0 Dk.IsWord w.heap.size w A L C m) (hL : L ≤ 200) (hP : ErrSaid f ⟨19, a, b, c, n⟩ A L C m 6) (ha : Dk.plB a 8 = true) (hb' : Dk.plB b 8 = true) (hx : L ≤ f.r a.toNat) :
    Calls Try.prog 5 #[Dk.fv f, .agg #[.int .i64 19, .int .i64 a, .int .i64 b, .int .i64 c, .int .u64 (n : Nat)], .slice A L C] w fun e w' => e = .returned (.bool true) ∧ Below w.heap.size w w' := by
  obtain ⟨a0, a8⟩ := Dk.plB_iff.1 ha
  obtain ⟨b0, b8⟩ := Dk.plB_iff.1 hb'
  have hsz : (hasS 19).size = 3 := rfl
  have hcv : IntKind.u64.wrap (L : Int) = L := by rw [IntKind.wrap_u64]; omega
  have hge : (L : Int) ≤ (f.r a.toNat : Int) := by omega
  have HX : Hid _ := hx
  clear hx
  have y0 : decide ((200 : Int) < (L : Int)) = false := by simp; omega
  obtain ⟨X, e3⟩ : ∃ X, (w.alloc (.cells #[.int .i64 f.fn, .int .i64 f.pc, .int .u64 (f.r 0 : Nat), .int .u64 (f.r 1 : Nat), .int .u64 (f.r 2 : Nat), .int .u64 (f.r 3 : Nat), .int .u64 (f.r 4 : Nat), .int .u64 (f.r 5 : Nat), .int .u64 (f.r 6 : Nat), .int .u64 (f.r 7 : Nat)] 29)).alloc (.cells #[.int .i64 19, .int .i64 a, .int .i64 b, .int .i64 c, .int .u64 (n : Nat)] 31) = X := ⟨_, rfl⟩
  obtain ⟨b1, b2, u0, z0⟩ := two_box _ _ _ _ _ _ e3
  have hX := hr.up u0
  have q1 := b1.cell
  have q2 := b2.cell
  go_enter Try.func5, Try.ntmps5
  go_wp2_with fail
  try rw [e3]
  clear e3 q1 q2
  refine (hP X hX).mono ?_
  rintro e w1 ⟨rfl, hb⟩
  have c1 := b1.up hb
  have c2 := b2.up hb
  have u1 := Dk.up_call u0 hb
  have n1 := c1.lt
  have n2 := c2.lt
  obtain ⟨Y, eY⟩ : ∃ Y, w1.alloc (.cells #[.int .i64 Dk.Frm.zero.fn, .int .i64 Dk.Frm.zero.pc, .int .u64 (Dk.Frm.zero.r 0 : Nat), .int .u64 (Dk.Frm.zero.r 1 : Nat), .int .u64 (Dk.Frm.zero.r 2 : Nat), .int .u64 (Dk.Frm.zero.r 3 : Nat), .int .u64 (Dk.Frm.zero.r 4 : Nat), .int .u64 (Dk.Frm.zero.r 5 : Nat), .int .u64 (Dk.Frm.zero.r 6 : Nat), .int .u64 (Dk.Frm.zero.r 7 : Nat)] 29) = Y := ⟨_, rfl⟩
  have d1 : Dk.Box Y w.heap.size (Dk.fc f) 29 := eY ▸ c1.old _
  have d2 : Dk.Box Y (w.heap.size + 1) #[.int .i64 19, .int .i64 a, .int .i64 b, .int .i64 c, .int .u64 (n : Nat)] 31 := eY ▸ c2.old _
  have d3 : Dk.Box Y w1.heap.size (Dk.fc Dk.Frm.zero) 29 := eY ▸ Dk.Box.new _ _ _
  have u2 : Below w.heap.size w Y := eY ▸ Dk.up_alloc u1 _
  have HEY : Hid _ := eY
  clear eY
  have t2 := c2.cell
  clear hb b1 b2 z0 u0 u1 hX
  go_wp2_with fail
  try rw [HEY.out]
  clear HEY t2 c1 c2
  refine (Has_any _ _).mono ?_
  rintro e w2 ⟨rfl, hb⟩
  have c1 := d1.up hb
  have c2 := d2.up hb
  have c3 := d3.up hb
  have u3 := Dk.up_call u2 hb
  have t2 := c2.cell
  clear d1 d2 d3 u2 hb
  go_wp2_with (go_at_call 14; refine (reg_any _ _).mono ?_; rintro e w' ⟨rfl, rfl⟩)
  clear t2
  refine region10 _ _ w.heap.size f A L C m c1 (hr.up u3) hL rfl rfl (by exact (by decide : 104 ≤ 252)) ?_
  intro bw bl cp v V s1 s2 s3 s4 s5 s6
  have p1 := c1.up s3
  have p2 := c2.up s3
  have p3 := c3.up s3
  have uV := Dk.up_call u3 s3
  have m1 := c1.lt
  have m2 := c2.lt
  have m3 := c3.lt
  clear c1 c2 c3 u3 s3
  simp only [Act.put, List.setIfInBounds_toArray, List.set_cons_succ, List.set_cons_zero]
  obtain ⟨V1, eV1⟩ : ∃ V1, V.setCell ⟨bw, 1, none⟩ (.int .i64 (wrap64 (f.pc + 1))) = V1 := ⟨_, rfl⟩
  have q0 : Dk.Box V1 bw (Dk.fc (f.to (wrap64 (f.pc + 1)))) 29 := eV1 ▸ s1.set 1 _
  have q1 : Dk.Box V1 w.heap.size (Dk.fc f) 29 := eV1 ▸ p1.set_other (by omega) _ _
  have q2 : Dk.Box V1 (w.heap.size + 1) #[.int .i64 19, .int .i64 a, .int .i64 b, .int .i64 c, .int .u64 (n : Nat)] 31 := eV1 ▸ p2.set_other (by omega) _ _
  have q3 : Dk.Box V1 w1.heap.size (Dk.fc Dk.Frm.zero) 29 := eV1 ▸ p3.set_other (by omega) _ _
  have q5 : Roomy V1 bl cp m := eV1 ▸ roomy_other s2 s6
  have uV1 : Below w.heap.size w V1 := eV1 ▸ uV.setCell (p := ⟨bw, 1, none⟩) (by show w.heap.size ≤ bw; omega) _
  have i0 := p1.cell 1
  have i1 := s1.cell 1
  have i2 := s1.frozen 1
  clear p1 p2 p3 uV s1 s2
  have z3 := q3
  have zu := uV1
  have ra := q1.cell (2 + a.toNat)
  rw [Dk.fc_reg _ _ (by omega)] at ra
  have j2 := q2.cell
  have HE1 : Hid _ := eV1
  clear eV1 q0 q1 q2 q3 q5 uV1
  go_wp2_with (first | (rw [HE1.out]; clear HE1) | fail)
  try rw [HE1.out]
  try clear HE1
  refine (awake_any _).mono ?_
  rintro e w4 ⟨rfl, hb4⟩
  have t3 := (z3.up hb4).cell
  have u5 := Dk.up_call zu hb4
  have hs2 : ∀ w, (Op.equalIn 9999 27 (.agg #[.int .u64 (Dk.Frm.zero.r 0 : Nat), .int .u64 (Dk.Frm.zero.r 1 : Nat), .int .u64 (Dk.Frm.zero.r 2 : Nat), .int .u64 (Dk.Frm.zero.r 3 : Nat), .int .u64 (Dk.Frm.zero.r 4 : Nat), .int .u64 (Dk.Frm.zero.r 5 : Nat), .int .u64 (Dk.Frm.zero.r 6 : Nat), .int .u64 (Dk.Frm.zero.r 7 : Nat)]) (.agg #[.int .u64 0, .int .u64 0, .int .u64 0, .int .u64 0, .int .u64 0, .int .u64 0, .int .u64 0, .int .u64 0])).run Try.prog w = .ok true w := same_words 9997 (fun _ => 0)
  have hg := Try.eqGuardType29
  clear z3 zu hb4 j2
  go_wp2_with fail
  go_ret
  exact ⟨rfl, u5⟩

set_option maxRecDepth 100000 in
set_option maxHeartbeats 1000000 in
theorem plains_load_bad (f : Dk.Frm) (a b c : Int) (n : Nat) (A : Option Addr) (L C : Nat) (m : List Nat) (w : World) (hr : Dk.Row 1 0 Dk.IsWord w.heap.size w A L C m) (hL : L ≤ 200) (hP : ErrSaid f ⟨18, a, b, c, n⟩ A L C m 6) (ha : Dk.plB a 8 = true) (hb' : Dk.plB b 8 = true) (hx : L ≤ f.r b.toNat) :
    Calls Try.prog 5 #[Dk.fv f, .agg #[.int .i64 18, .int .i64 a, .int .i64 b, .int .i64 c, .int .u64 (n : Nat)], .slice A L C] w fun e w' => e = .returned (.bool true) ∧ Below w.heap.size w w' := by
  obtain ⟨a0, a8⟩ := Dk.plB_iff.1 ha
  obtain ⟨b0, b8⟩ := Dk.plB_iff.1 hb'
  have hsz : (hasS 18).size = 3 := rfl
  have hcv : IntKind.u64.wrap (L : Int) = L := by rw [IntKind.wrap_u64]; omega
  have hge : (L : Int) ≤ (f.r b.toNat : Int) := by omega
  have HX : Hid _ := hx
  clear hx
  have y0 : decide ((200 : Int) < (L : Int)) = false := by simp; omega
  obtain ⟨X, e3⟩ : ∃ X, (w.alloc (.cells #[.int .i64 f.fn, .int .i64 f.pc, .int .u64 (f.r 0 : Nat), .int .u64 (f.r 1 : Nat), .int .u64 (f.r 2 : Nat), .int .u64 (f.r 3 : Nat), .int .u64 (f.r 4 : Nat), .int .u64 (f.r 5 : Nat), .int .u64 (f.r 6 : Nat), .int .u64 (f.r 7 : Nat)] 29)).alloc (.cells #[.int .i64 18, .int .i64 a, .int .i64 b, .int .i64 c, .int .u64 (n : Nat)] 31) = X := ⟨_, rfl⟩
  obtain ⟨b1, b2, u0, z0⟩ := two_box _ _ _ _ _ _ e3
  have hX := hr.up u0
  have q1 := b1.cell
  have q2 := b2.cell
  go_enter Try.func5, Try.ntmps5
  go_wp2_with fail
  try rw [e3]
  clear e3 q1 q2
  refine (hP X hX).mono ?_
  rintro e w1 ⟨rfl, hb⟩
  have c1 := b1.up hb
  have c2 := b2.up hb
  have u1 := Dk.up_call u0 hb
  have n1 := c1.lt
  have n2 := c2.lt
  obtain ⟨Y, eY⟩ : ∃ Y, w1.alloc (.cells #[.int .i64 Dk.Frm.zero.fn, .int .i64 Dk.Frm.zero.pc, .int .u64 (Dk.Frm.zero.r 0 : Nat), .int .u64 (Dk.Frm.zero.r 1 : Nat), .int .u64 (Dk.Frm.zero.r 2 : Nat), .int .u64 (Dk.Frm.zero.r 3 : Nat), .int .u64 (Dk.Frm.zero.r 4 : Nat), .int .u64 (Dk.Frm.zero.r 5 : Nat), .int .u64 (Dk.Frm.zero.r 6 : Nat), .int .u64 (Dk.Frm.zero.r 7 : Nat)] 29) = Y := ⟨_, rfl⟩
  have d1 : Dk.Box Y w.heap.size (Dk.fc f) 29 := eY ▸ c1.old _
  have d2 : Dk.Box Y (w.heap.size + 1) #[.int .i64 18, .int .i64 a, .int .i64 b, .int .i64 c, .int .u64 (n : Nat)] 31 := eY ▸ c2.old _
  have d3 : Dk.Box Y w1.heap.size (Dk.fc Dk.Frm.zero) 29 := eY ▸ Dk.Box.new _ _ _
  have u2 : Below w.heap.size w Y := eY ▸ Dk.up_alloc u1 _
  have HEY : Hid _ := eY
  clear eY
  have t2 := c2.cell
  clear hb b1 b2 z0 u0 u1 hX
  go_wp2_with fail
  try rw [HEY.out]
  clear HEY t2 c1 c2
  refine (Has_any _ _).mono ?_
  rintro e w2 ⟨rfl, hb⟩
  have c1 := d1.up hb
  have c2 := d2.up hb
  have c3 := d3.up hb
  have u3 := Dk.up_call u2 hb
  have t2 := c2.cell
  clear d1 d2 d3 u2 hb
  go_wp2_with (go_at_call 14; refine (reg_any _ _).mono ?_; rintro e w' ⟨rfl, rfl⟩)
  clear t2
  refine region10 _ _ w.heap.size f A L C m c1 (hr.up u3) hL rfl rfl (by exact (by decide : 104 ≤ 252)) ?_
  intro bw bl cp v V s1 s2 s3 s4 s5 s6
  have p1 := c1.up s3
  have p2 := c2.up s3
  have p3 := c3.up s3
  have uV := Dk.up_call u3 s3
  have m1 := c1.lt
  have m2 := c2.lt
  have m3 := c3.lt
  clear c1 c2 c3 u3 s3
  simp only [Act.put, List.setIfInBounds_toArray, List.set_cons_succ, List.set_cons_zero]
  obtain ⟨V1, eV1⟩ : ∃ V1, V.setCell ⟨bw, 1, none⟩ (.int .i64 (wrap64 (f.pc + 1))) = V1 := ⟨_, rfl⟩
  have q0 : Dk.Box V1 bw (Dk.fc (f.to (wrap64 (f.pc + 1)))) 29 := eV1 ▸ s1.set 1 _
  have q1 : Dk.Box V1 w.heap.size (Dk.fc f) 29 := eV1 ▸ p1.set_other (by omega) _ _
  have q2 : Dk.Box V1 (w.heap.size + 1) #[.int .i64 18, .int .i64 a, .int .i64 b, .int .i64 c, .int .u64 (n : Nat)] 31 := eV1 ▸ p2.set_other (by omega) _ _
  have q3 : Dk.Box V1 w1.heap.size (Dk.fc Dk.Frm.zero) 29 := eV1 ▸ p3.set_other (by omega) _ _
  have q5 : Roomy V1 bl cp m := eV1 ▸ roomy_other s2 s6
  have uV1 : Below w.heap.size w V1 := eV1 ▸ uV.setCell (p := ⟨bw, 1, none⟩) (by show w.heap.size ≤ bw; omega) _
  have i0 := p1.cell 1
  have i1 := s1.cell 1
  have i2 := s1.frozen 1
  clear p1 p2 p3 uV s1 s2
  have z3 := q3
  have zu := uV1
  have rb := q1.cell (2 + b.toNat)
  rw [Dk.fc_reg _ _ (by omega)] at rb
  have j2 := q2.cell
  have HE1 : Hid _ := eV1
  clear eV1 q0 q1 q2 q3 q5 uV1
  go_wp2_with (first | (rw [HE1.out]; clear HE1) | fail)
  try rw [HE1.out]
  try clear HE1
  refine (awake_any _).mono ?_
  rintro e w4 ⟨rfl, hb4⟩
  have t3 := (z3.up hb4).cell
  have u5 := Dk.up_call zu hb4
  have hs2 : ∀ w, (Op.equalIn 9999 27 (.agg #[.int .u64 (Dk.Frm.zero.r 0 : Nat), .int .u64 (Dk.Frm.zero.r 1 : Nat), .int .u64 (Dk.Frm.zero.r 2 : Nat), .int .u64 (Dk.Frm.zero.r 3 : Nat), .int .u64 (Dk.Frm.zero.r 4 : Nat), .int .u64 (Dk.Frm.zero.r 5 : Nat), .int .u64 (Dk.Frm.zero.r 6 : Nat), .int .u64 (Dk.Frm.zero.r 7 : Nat)]) (.agg #[.int .u64 0, .int .u64 0, .int .u64 0, .int .u64 0, .int .u64 0, .int .u64 0, .int .u64 0, .int .u64 0])).run Try.prog w = .ok true w := same_words 9997 (fun _ => 0)
  have hg := Try.eqGuardType29
  clear z3 zu hb4 j2
  go_wp2_with fail
  go_ret
  exact ⟨rfl, u5⟩

end Go.Proofs.Ytmkeniobnjpohaa
