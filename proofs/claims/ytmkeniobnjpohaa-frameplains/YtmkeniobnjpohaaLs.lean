/- The walks of the statement on what stays. -/
import Derived.Test.YtmkeniobnjpohaaLj
import Derived.Test.YtmkeniobnjpohaaFt
namespace Go.Proofs.Ytmkeniobnjpohaa
set_option linter.unusedSimpArgs false
set_option linter.unusedVariables false
set_option linter.unnecessarySimpa false
open Go.RowKit

theorem row_cell {B : Nat} {w : World} {A : Option Addr} {L C : Nat} {xs : List Nat} (h : Dk.Row 1 0 Dk.IsWord B w A L C xs) (h0 : 0 < L) : ∃ b o, A = some ⟨b, o, none⟩ ∧ b < B ∧ ∀ k, k < L → w.cell? ⟨b, o + k, none⟩ = some (.int .u64 ((xs.getD k 0 : Nat) : Nat)) := by
  obtain ⟨b, o, e, hb, hc⟩ := h.cells h0
  refine ⟨b, o, e, hb, fun k hk => ?_⟩
  obtain ⟨vs, h1, ⟨rfl, _⟩, h3⟩ := hc k hk
  have := h3 0 (by omega)
  rw [Nat.mul_one, Nat.add_zero] at this
  rw [this]
  rfl

set_option maxHeartbeats 1000000 in
theorem Words_same (A A' : Option Addr) (L C C' : Nat) (xs : List Nat) (w : World) (h : Dk.Row 1 0 Dk.IsWord w.heap.size w A L C xs) (h' : Dk.Row 1 0 Dk.IsWord w.heap.size w A' L C' xs) :
    Calls Try.prog 15 #[.slice A L C, .slice A' L C'] w fun e w' => e = .returned (.bool true) ∧ Below w.heap.size w w' := by
  have hcap := h.cap
  have hmax := h.max
  unfold maxLen at hmax
  go_enter Try.func15, Try.ntmps15
  go_wp2
  go_loopw [5] (fun i w' => ∃ k : Nat, k ≤ L ∧ i = .int .i64 k ∧ Hid (Below w.heap.size w w')) (fun i w' => L - (intOf i).toNat)
  case atStart => exact ⟨0, Nat.zero_le _, rfl, Below.refl _ _⟩
  case round =>
    obtain ⟨k, hk, rfl, HB⟩ := hrel
    by_cases hlt : k < L
    · obtain ⟨b, o, rfl, hb, hc⟩ := row_cell h (by omega)
      obtain ⟨b', o', rfl, hb', hc'⟩ := row_cell h' (by omega)
      have c1 : wr.cell? ⟨b, o + k, none⟩ = some (.int .u64 ((xs.getD k 0 : Nat) : Nat)) := by rw [HB.out.cell (by show b < w.heap.size; exact hb)]; exact hc k hlt
      have c2 : wr.cell? ⟨b', o' + k, none⟩ = some (.int .u64 ((xs.getD k 0 : Nat) : Nat)) := by rw [HB.out.cell (by show b' < w.heap.size; exact hb')]; exact hc' k hlt
      generalize xs.getD k 0 = v at c1 c2
      clear hc hc' h h'
      go_wp2
      go_quiet (fail)
      go_wp2
      go_roundw
      case rel => exact ⟨k + 1, by omega, by go_num, Dk.up_drewN HB.out nq⟩
      case measure => simp [intOf]; omega
    · go_wp2
      go_ret
      exact ⟨rfl, HB.out⟩

set_option maxRecDepth 100000 in
set_option maxHeartbeats 1000000 in
theorem stays_long (f : Dk.Frm) (op a b c : Int) (n : Nat) (A : Option Addr) (L C : Nat) (m : List Nat) (w : World) (hr : Dk.Row 1 0 Dk.IsWord w.heap.size w A L C m) (hL : 200 < L) :
    Calls Try.prog 6 #[Dk.fv f, .agg #[.int .i64 op, .int .i64 a, .int .i64 b, .int .i64 c, .int .u64 (n : Nat)], .slice A L C] w fun e w' => e = .returned (.bool true) ∧ Below w.heap.size w w' := by
  have y0 : decide ((200 : Int) < (L : Int)) = true := by simp; omega
  go_enter Try.func6, Try.ntmps6
  go_wp2_with fail
  refine (awake_any _).mono ?_
  rintro e w1 ⟨rfl, hb⟩
  go_wp2_with fail
  go_ret
  exact ⟨rfl, Dk.up_call (Dk.up_alloc (Dk.up_alloc (Below.refl _ _) _) _) hb⟩

set_option maxRecDepth 100000 in
set_option maxHeartbeats 1000000 in
theorem stays_err (f : Dk.Frm) (op a b c : Int) (n : Nat) (A : Option Addr) (L C : Nat) (m : List Nat) (w : World) (hr : Dk.Row 1 0 Dk.IsWord w.heap.size w A L C m) (hL : L ≤ 200) (k : Int) (hk : k = 6 ∨ k = 8) (hP : ErrSaid f ⟨op, a, b, c, n⟩ A L C m k) :
    Calls Try.prog 6 #[Dk.fv f, .agg #[.int .i64 op, .int .i64 a, .int .i64 b, .int .i64 c, .int .u64 (n : Nat)], .slice A L C] w fun e w' => e = .returned (.bool true) ∧ Below w.heap.size w w' := by
  have y0 : decide ((200 : Int) < (L : Int)) = false := by simp; omega
  obtain ⟨X, e3⟩ : ∃ X, (w.alloc (.cells #[.int .i64 f.fn, .int .i64 f.pc, .int .u64 (f.r 0 : Nat), .int .u64 (f.r 1 : Nat), .int .u64 (f.r 2 : Nat), .int .u64 (f.r 3 : Nat), .int .u64 (f.r 4 : Nat), .int .u64 (f.r 5 : Nat), .int .u64 (f.r 6 : Nat), .int .u64 (f.r 7 : Nat)] 29)).alloc (.cells #[.int .i64 op, .int .i64 a, .int .i64 b, .int .i64 c, .int .u64 (n : Nat)] 31) = X := ⟨_, rfl⟩
  obtain ⟨b1, b2, u0, z0⟩ := two_box _ _ _ _ _ _ e3
  have hX := hr.up u0
  have q1 := b1.cell
  have q2 := b2.cell
  go_enter Try.func6, Try.ntmps6
  go_wp2_with fail
  try rw [e3]
  clear e3 q1 q2
  refine (hP X hX).mono ?_
  rintro e w1 ⟨rfl, hb⟩
  have c1 := b1.up hb
  have c2 := b2.up hb
  have u1 := Dk.up_call u0 hb
  have n1 := c1.lt
  have n2 := c2.lt
  obtain ⟨Y, eY⟩ : ∃ Y, w1.alloc (.cells #[.int .i64 Dk.Frm.zero.fn, .int .i64 Dk.Frm.zero.pc, .int .u64 (Dk.Frm.zero.r 0 : Nat), .int .u64 (Dk.Frm.zero.r 1 : Nat), .int .u64 (Dk.Frm.zero.r 2 : Nat), .int .u64 (Dk.Frm.zero.r 3 : Nat), .int .u64 (Dk.Frm.zero.r 4 : Nat), .int .u64 (Dk.Frm.zero.r 5 : Nat), .int .u64 (Dk.Frm.zero.r 6 : Nat), .int .u64 (Dk.Frm.zero.r 7 : Nat)] 29) = Y := ⟨_, rfl⟩
  have d1 : Dk.Box Y w.heap.size (Dk.fc f) 29 := eY ▸ c1.old _
  have d2 : Dk.Box Y (w.heap.size + 1) #[.int .i64 op, .int .i64 a, .int .i64 b, .int .i64 c, .int .u64 (n : Nat)] 31 := eY ▸ c2.old _
  have d3 : Dk.Box Y w1.heap.size (Dk.fc Dk.Frm.zero) 29 := eY ▸ Dk.Box.new _ _ _
  have u2 : Below w.heap.size w Y := eY ▸ Dk.up_alloc u1 _
  have hY := hr.up u2
  have HEY : Hid _ := eY
  clear eY
  have t1 := c1.cell
  have t2 := c2.cell
  clear hb b1 b2 z0 u0 u1 hX
  go_wp2_with fail
  try rw [HEY.out]
  clear HEY t1 t2 c1 c2
  refine (hP Y hY).mono ?_
  rintro e w2 ⟨rfl, hb⟩
  have c1 := d1.up hb
  have c2 := d2.up hb
  have c3 := d3.up hb
  have u3 := Dk.up_call u2 hb
  have n3 := c1.lt
  have n4 := c2.lt
  have n5 := c3.lt
  obtain ⟨V, eV⟩ : ∃ V, w2.alloc (.cells #[.int .i64 Dk.Frm.zero.fn, .int .i64 Dk.Frm.zero.pc, .int .u64 (Dk.Frm.zero.r 0 : Nat), .int .u64 (Dk.Frm.zero.r 1 : Nat), .int .u64 (Dk.Frm.zero.r 2 : Nat), .int .u64 (Dk.Frm.zero.r 3 : Nat), .int .u64 (Dk.Frm.zero.r 4 : Nat), .int .u64 (Dk.Frm.zero.r 5 : Nat), .int .u64 (Dk.Frm.zero.r 6 : Nat), .int .u64 (Dk.Frm.zero.r 7 : Nat)] 29) = V := ⟨_, rfl⟩
  have f1 : Dk.Box V w.heap.size (Dk.fc f) 29 := eV ▸ c1.old _
  have f2 : Dk.Box V (w.heap.size + 1) #[.int .i64 op, .int .i64 a, .int .i64 b, .int .i64 c, .int .u64 (n : Nat)] 31 := eV ▸ c2.old _
  have f3 : Dk.Box V w1.heap.size (Dk.fc Dk.Frm.zero) 29 := eV ▸ c3.old _
  have f4 : Dk.Box V w2.heap.size (Dk.fc Dk.Frm.zero) 29 := eV ▸ Dk.Box.new _ _ _
  have u4 : Below w.heap.size w V := eV ▸ Dk.up_alloc u3 _
  have HEV : Hid _ := eV
  clear eV
  have t1 := c1.cell
  have t2 := c2.cell
  have t3 := c3.cell
  have hs : ∀ w, (Op.equalIn 10000 29 (Dk.fv Dk.Frm.zero) (Dk.fv Dk.Frm.zero)).run Try.prog w = .ok true w := same_frm 9997 _
  have hs' := neq_frm Dk.Frm.zero
  have hg := Try.eqGuardType29
  clear hb d1 d2 d3 u2 hY
  go_wp2_with fail
  try rw [HEV.out]
  clear HEV t1 t2 t3 c1 c2 c3 hs hs' hg
  have r0 : Dk.Row 1 0 Dk.IsWord V.heap.size V none 0 0 [] := ⟨rfl, Nat.le_refl _, Nat.zero_le _, fun h => absurd h (by omega)⟩
  refine (Words_same _ _ _ _ _ _ _ r0 r0).mono ?_
  rintro e w3 ⟨rfl, hb3⟩
  have hk' : (k != 0) = true := by rcases hk with rfl | rfl <;> rfl
  go_wp2_with fail
  refine (awake_any _).mono ?_
  rintro e w4 ⟨rfl, hb4⟩
  go_wp2_with fail
  go_ret
  exact ⟨rfl, Dk.up_call (Dk.up_call u4 hb3) hb4⟩

set_option maxRecDepth 100000 in
set_option maxHeartbeats 1000000 in
theorem stays_ok (f : Dk.Frm) (op a b c : Int) (n : Nat) (A : Option Addr) (L C : Nat) (m : List Nat) (w : World) (hr : Dk.Row 1 0 Dk.IsWord w.heap.size w A L C m) (hL : L ≤ 200) (mz : List Nat) (g : Dk.Frm) (hP : OkSaid f ⟨op, a, b, c, n⟩ A L C m g mz) (hmz : mz.length = L) (hwz : ∀ x ∈ mz, x < 18446744073709551616) (hfn : g.fn = f.fn) (hgr : ∀ k : Nat, (k : Int) ≠ a → g.r k = f.r k) (hdf : ∀ k, Dk.diffs mz m k ≤ 1 ∧ (op ≠ 19 → Dk.diffs mz m k = 0)) :
    Calls Try.prog 6 #[Dk.fv f, .agg #[.int .i64 op, .int .i64 a, .int .i64 b, .int .i64 c, .int .u64 (n : Nat)], .slice A L C] w fun e w' => e = .returned (.bool true) ∧ Below w.heap.size w w' := by
  have HFN : Hid _ := hfn
  have HGR : Hid _ := hgr
  have HDF : Hid _ := hdf
  have HMZ : Hid _ := hmz
  clear hfn hgr hdf hmz
  have y0 : decide ((200 : Int) < (L : Int)) = false := by simp; omega
  obtain ⟨X, e3⟩ : ∃ X, (w.alloc (.cells #[.int .i64 f.fn, .int .i64 f.pc, .int .u64 (f.r 0 : Nat), .int .u64 (f.r 1 : Nat), .int .u64 (f.r 2 : Nat), .int .u64 (f.r 3 : Nat), .int .u64 (f.r 4 : Nat), .int .u64 (f.r 5 : Nat), .int .u64 (f.r 6 : Nat), .int .u64 (f.r 7 : Nat)] 29)).alloc (.cells #[.int .i64 op, .int .i64 a, .int .i64 b, .int .i64 c, .int .u64 (n : Nat)] 31) = X := ⟨_, rfl⟩
  obtain ⟨b1, b2, u0, z0⟩ := two_box _ _ _ _ _ _ e3
  have hX := hr.up u0
  have q1 := b1.cell
  have q2 := b2.cell
  go_enter Try.func6, Try.ntmps6
  go_wp2_with fail
  try rw [e3]
  clear e3 q1 q2
  refine (hP X hX).mono ?_
  rintro e w1 ⟨wb, rfl, bw, hb⟩
  have c1 := b1.up hb
  have c2 := b2.up hb
  have u1 := Dk.up_call u0 hb
  have n1 := c1.lt
  have n2 := c2.lt
  obtain ⟨Y, eY⟩ : ∃ Y, w1.alloc (.cells #[.int .i64 g.fn, .int .i64 g.pc, .int .u64 (g.r 0 : Nat), .int .u64 (g.r 1 : Nat), .int .u64 (g.r 2 : Nat), .int .u64 (g.r 3 : Nat), .int .u64 (g.r 4 : Nat), .int .u64 (g.r 5 : Nat), .int .u64 (g.r 6 : Nat), .int .u64 (g.r 7 : Nat)] 29) = Y := ⟨_, rfl⟩
  have d1 : Dk.Box Y w.heap.size (Dk.fc f) 29 := eY ▸ c1.old _
  have d2 : Dk.Box Y (w.heap.size + 1) #[.int .i64 op, .int .i64 a, .int .i64 b, .int .i64 c, .int .u64 (n : Nat)] 31 := eY ▸ c2.old _
  have d3 : Dk.Box Y w1.heap.size (Dk.fc g) 29 := eY ▸ Dk.Box.new _ _ _
  have d4 : Dk.Box Y wb (Dk.wc mz) 26 := eY ▸ bw.old _
  have u2 : Below w.heap.size w Y := eY ▸ Dk.up_alloc u1 _
  have hY := hr.up u2
  have HEY : Hid _ := eY
  clear eY
  have t1 := c1.cell
  have t2 := c2.cell
  clear hb b1 b2 z0 u0 u1 hX
  go_wp2_with fail
  try rw [HEY.out]
  clear HEY t1 t2 c1 c2
  refine (hP Y hY).mono ?_
  rintro e w2 ⟨wc, rfl, bv, hb⟩
  have c1 := d1.up hb
  have c2 := d2.up hb
  have c3 := d3.up hb
  have u3 := Dk.up_call u2 hb
  have n3 := c1.lt
  have n4 := c2.lt
  have n5 := c3.lt
  obtain ⟨V, eV⟩ : ∃ V, w2.alloc (.cells #[.int .i64 g.fn, .int .i64 g.pc, .int .u64 (g.r 0 : Nat), .int .u64 (g.r 1 : Nat), .int .u64 (g.r 2 : Nat), .int .u64 (g.r 3 : Nat), .int .u64 (g.r 4 : Nat), .int .u64 (g.r 5 : Nat), .int .u64 (g.r 6 : Nat), .int .u64 (g.r 7 : Nat)] 29) = V := ⟨_, rfl⟩
  have f1 : Dk.Box V w.heap.size (Dk.fc f) 29 := eV ▸ c1.old _
  have f2 : Dk.Box V (w.heap.size + 1) #[.int .i64 op, .int .i64 a, .int .i64 b, .int .i64 c, .int .u64 (n : Nat)] 31 := eV ▸ c2.old _
  have f3 : Dk.Box V w1.heap.size (Dk.fc g) 29 := eV ▸ c3.old _
  have f4 : Dk.Box V w2.heap.size (Dk.fc g) 29 := eV ▸ Dk.Box.new _ _ _
  have f5 : Dk.Box V wb (Dk.wc mz) 26 := eV ▸ (d4.up hb).old _
  have f6 : Dk.Box V wc (Dk.wc mz) 26 := eV ▸ bv.old _
  have u4 : Below w.heap.size w V := eV ▸ Dk.up_alloc u3 _
  have HEV : Hid _ := eV
  clear eV
  have t1 := c1.cell
  have t2 := c2.cell
  have t3 := c3.cell
  have hs : ∀ w, (Op.equalIn 10000 29 (Dk.fv g) (Dk.fv g)).run Try.prog w = .ok true w := same_frm 9997 _
  have hs' := neq_frm g
  have hg := Try.eqGuardType29
  clear hb d1 d2 d3 u2 hY
  go_wp2_with fail
  try rw [HEV.out]
  clear HEV t1 t2 t3 c1 c2 c3 hs hs' hg
  have ra := row_box f5 rfl HMZ.out (by unfold maxLen; omega) hwz
  have rb := row_box f6 rfl HMZ.out (by unfold maxLen; omega) hwz
  refine (Words_same _ _ _ _ _ _ _ ra rb).mono ?_
  rintro e w3 ⟨rfl, hb3⟩
  have k1 := (f1.up hb3).cell
  have k3 := (f3.up hb3).cell
  have HF1 : Hid _ := f1.up hb3
  have HF2 : Hid _ := f2.up hb3
  have HF3 : Hid _ := f3.up hb3
  have HF5 : Hid _ := f5.up hb3
  have HU : Hid _ := Dk.up_call u4 hb3
  have hg1 : (g.fn != f.fn) = false := by rw [HFN.out]; simp
  clear f1 f2 f3 f4 f5 f6 hb3 u4 ra rb bw bv d4 hP
  go_wp2_with fail
  clear k1 k3
  go_loopw [13] (fun x w' => ∃ k : Nat, k ≤ 8 ∧ x = .int .i64 k ∧ Hid (Below w3.heap.size w3 w')) (fun x w' => 8 - (intOf x).toNat)
  case atStart => exact ⟨0, Nat.zero_le _, rfl, Below.refl _ _⟩
  case round =>
    obtain ⟨k, hk, rfl, HB⟩ := hrel
    by_cases hlt : k < 8
    · have g1 : wr.cell? ⟨w.heap.size, 2 + k, none⟩ = some (.int .u64 (f.r k : Nat)) := by rw [(HF1.out.up HB.out).cell]; exact Dk.fc_reg f k hlt
      have g2 : wr.cell? ⟨w.heap.size + 1, 1, none⟩ = some (.int .i64 a) := (HF2.out.up HB.out).cell 1
      have g3 : wr.cell? ⟨w1.heap.size, 2 + k, none⟩ = some (.int .u64 (g.r k : Nat)) := by rw [(HF3.out.up HB.out).cell]; exact Dk.fc_reg g k hlt
      by_cases e : (k : Int) = a
      · have e1 : ((k : Int) != a) = false := by simp [e]
        have HE : Hid _ := e
        clear e
        go_wp2
        go_quiet (fail)
        go_wp2
        go_roundw
        case rel => exact ⟨k + 1, by omega, by go_num, Dk.up_drewN HB.out nq⟩
        case measure => simp [intOf]; omega
      · have e1 : ((k : Int) != a) = true := by simp [e]
        have e2 : g.r k = f.r k := HGR.out k (by omega)
        have e3 : ((g.r k : Int) != (f.r k : Int)) = false := by rw [e2]; simp
        have HE : Hid _ := e
        clear e e2
        go_wp2
        go_quiet (fail)
        go_wp2
        go_roundw
        case rel => exact ⟨k + 1, by omega, by go_num, Dk.up_drewN HB.out nq⟩
        case measure => simp [intOf]; omega
    · go_wp2
      go_loopw [14, 15] (fun d x w' => ∃ k : Nat, k ≤ L ∧ x = .int .i64 k ∧ d = .int .i64 ((Dk.diffs mz m k : Nat)) ∧ Hid (Below w3.heap.size w3 w')) (fun d x w' => L - (intOf x).toNat)
      case atStart => exact ⟨0, Nat.zero_le _, rfl, rfl, HB⟩
      case round =>
        obtain ⟨k2, hk2, rfl, rfl, HB2⟩ := hrel
        clear HB
        have hd1 := (HDF.out k2).1
        by_cases hlt2 : k2 < L
        · obtain ⟨b', o', rfl, hb', hc'⟩ := row_cell hr (by omega)
          have g1 : wr.cell? ⟨b', o' + k2, none⟩ = some (.int .u64 ((m.getD k2 0 : Nat) : Nat)) := by rw [(Dk.up_call HU.out HB2.out).cell (by show b' < w.heap.size; exact hb')]; exact hc' k2 hlt2
          have g2 : wr.cell? ⟨wb, k2, none⟩ = some (.int .u64 ((mz.getD k2 0 : Nat) : Nat)) := by rw [(HF5.out.up HB2.out).cell, Dk.wc_cell _ _ (by rw [HMZ.out]; omega)]
          have HD : Hid (Dk.diffs mz m (k2 + 1) = Dk.diffs mz m k2 + (if mz.getD k2 0 = m.getD k2 0 then 0 else 1)) := rfl
          clear hc'
          by_cases e : mz.getD k2 0 = m.getD k2 0
          · have HE : Hid _ := e
            have e1 : ((mz.getD k2 0 : Int) != (m.getD k2 0 : Int)) = false := by rw [e]; simp
            clear e
            generalize mz.getD k2 0 = v1 at *
            generalize m.getD k2 0 = v2 at *
            go_wp2
            go_quiet (fail)
            go_wp2
            go_roundw
            case rel => exact ⟨k2 + 1, by omega, by go_num, by rw [HD.out, if_pos HE.out]; rfl, Dk.up_drewN HB2.out nq⟩
            case measure => simp [intOf]; omega
          · have HE : Hid _ := e
            have e1 : ((mz.getD k2 0 : Int) != (m.getD k2 0 : Int)) = true := by rw [bne_iff_ne]; exact fun h => e (Int.ofNat.inj h)
            clear e
            generalize mz.getD k2 0 = v1 at *
            generalize m.getD k2 0 = v2 at *
            go_wp2
            go_quiet (fail)
            go_wp2
            go_roundw
            case rel => exact ⟨k2 + 1, by omega, by go_num, by rw [HD.out, if_neg HE.out]; go_num, Dk.up_drewN HB2.out nq⟩
            case measure => simp [intOf]; omega
        · go_wp2_with fail
          refine (awake_any _).mono ?_
          rintro e w4 ⟨rfl, hb4⟩
          have g2 := ((HF2.out.up HB2.out).up hb4).cell
          have hd2 := (HDF.out k2).2
          have hle : ((Dk.diffs mz m k2 : Nat) : Int) ≤ 1 := by omega
          have uE := Dk.up_call (Dk.up_call HU.out HB2.out) hb4
          generalize Dk.diffs mz m k2 = dz at *
          by_cases hz : (dz : Int) = 0
          · have hz1 : ((dz : Int) == 0) = true := by simp [hz]
            clear hz hd2
            go_wp2
            go_ret
            exact ⟨ret_bool (by simp [*]), uE⟩
          · have hz1 : ((dz : Int) == 0) = false := beq_no hz
            have h19 : op = 19 := Classical.byContradiction fun h => hz (by rw [hd2 h]; rfl)
            have h19' : (op == 19) = true := by simp [h19]
            clear hz hd2 h19
            go_wp2
            go_ret
            exact ⟨ret_bool (by simp [*]), uE⟩

theorem doneM_words (f : Dk.Frm) (i : Dk.Ins) (m : List Nat) (hf : f.ok) (hm : ∀ x ∈ m, x < 18446744073709551616) : ∀ x ∈ Dk.doneM f i m, x < 18446744073709551616 := by
  intro x hx
  unfold Dk.doneM at hx
  split at hx
  · rcases List.mem_or_eq_of_mem_set hx with h | h
    · exact hm x h
    · rw [h]; exact hf.r _
  · exact hm x hx
theorem row_words {B : Nat} {w : World} {A : Option Addr} {L C : Nat} {xs : List Nat} (h : Dk.Row 1 0 Dk.IsWord B w A L C xs) : ∀ x ∈ xs, x < 18446744073709551616 := by
  intro x hx
  obtain ⟨k, hk, rfl⟩ := List.getElem_of_mem hx
  have hl := h.len
  obtain ⟨b, o, _, _, hc⟩ := h.cells (by omega)
  obtain ⟨vs, _, ⟨_, hv⟩, _⟩ := hc k (by omega)
  rw [List.getD_eq_getElem?_getD, List.getElem?_eq_getElem hk] at hv
  exact hv

theorem stays_any (f : Dk.Frm) (i : Dk.Ins) (A : Option Addr) (L C : Nat) (m : List Nat) (w : World) (hf : f.ok) (hi : i.ok) (hr : Dk.Row 1 0 Dk.IsWord w.heap.size w A L C m) :
    Calls Try.prog 6 #[Dk.fv f, Dk.iv i, .slice A L C] w fun e w' => e = .returned (.bool true) ∧ Below w.heap.size w w' := by
  obtain ⟨op, a, b, c, n⟩ := i
  by_cases hL : 200 < L
  · exact stays_long f op a b c n A L C m w hr hL
  have hL' : L ≤ 200 := by omega
  have hlen := hr.len
  rcases plain_cases f ⟨op, a, b, c, n⟩ A L C m hf hi (by omega) with ⟨_, hP⟩ | ⟨_, _, hP⟩ | ⟨hc, _, hP⟩
  · exact stays_err f op a b c n A L C m w hr hL' 8 (Or.inr rfl) hP
  · exact stays_err f op a b c n A L C m w hr hL' 6 (Or.inl rfl) hP
  · refine stays_ok f op a b c n A L C m w hr hL' _ _ hP (by rw [Dk.doneM_len]; exact hlen) (doneM_words f _ m hf (row_words hr)) (Dk.done_fn _ _ _) (fun k hk => ?_) (fun k => Dk.diffs_done f ⟨op, a, b, c, n⟩ m k)
    by_cases h16 : op = 16
    · subst h16
      rw [Dk.doneF_jump]
      exact Dk.to_r' _ _ _
    · refine Dk.done_r f ⟨op, a, b, c, n⟩ m k ?_
      have := (Dk.code_regs hc).1 (by
        show 1 ≤ Dk.regN op
        unfold Dk.regN
        rw [if_neg h16]
        split
        · omega
        · split <;> omega)
      show k ≠ a.toNat
      have h0 : 0 ≤ a := this.1
      omega

end Go.Proofs.Ytmkeniobnjpohaa
