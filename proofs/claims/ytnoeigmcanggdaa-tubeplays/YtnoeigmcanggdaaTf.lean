/- The walk of the statement on full and empty pipes. -/
import Derived.Test.YtnoeigmcanggdaaTt
import Derived.Test.YtnoeigmcanggdaaOpt
namespace Dk
open Go Go.RowKit
theorem line_call {P : Go.Program} {S : World → Prop} {Q : Exit → Act → World → Prop} {L : List Oper} {j : Nat} {js : List Nat} {a : Act} {w : World} {o : Oper} {f : FuncId} {args : Array Value} (ho : L[j]? = some o) (hg : o.guard = none)
    (hr : (execOp a.eval o).run P w = .ok (.enter f args) w) (hc : Calls P f args w fun e w' => ∃ v, e = .returned v ∧ S w' ∧ lineWalk P L.toArray Q S js (a.put o.dst v) w') : lineWalk P L.toArray Q S (j :: js) a w := by
  refine line_step ho hg ?_
  unfold Oper.wp
  rw [hr]
  simp only [Oper.upon]
  refine Calls.mono hc ?_
  rintro e w' ⟨v, rfl, h⟩
  exact h
end Dk
namespace Go.Proofs.Ytnoeigmcanggdaa
set_option linter.unusedSimpArgs false
set_option linter.unusedVariables false
set_option linter.unnecessarySimpa false
open Go.RowKit Go.Lib

/-- An act's cells. -/
theorem act_cell {B : Nat} {w : World} {A : Option Addr} {L C : Nat} {xs : List Dk.TAct} (h : Dk.Row 3 Dk.TAct.zero Dk.IsTAct B w A L C xs) {k : Nat} (hk : k < L) : ∃ b o g who x, A = some ⟨b, o, none⟩ ∧ b < B ∧ w.cell? ⟨b, o + k * 3, none⟩ = some (.bool g) ∧ w.cell? ⟨b, o + k * 3 + 1, none⟩ = some (.int .i64 who) ∧ w.cell? ⟨b, o + k * 3 + 2, none⟩ = some (.int .u64 ((x : Nat) : Int)) ∧ Dk.i64 who ∧ x < 2 ^ 64 := by
  obtain ⟨b, o, e, hb, hc⟩ := h.cells (by omega)
  obtain ⟨vs, h1, ⟨rfl, hi, hx⟩, h3⟩ := hc k hk
  exact ⟨b, o, _, _, _, e, hb, h3 0 (by omega), h3 1 (by omega), h3 2 (by omega), hi, hx⟩
theorem Ti.out {W w : World} {bt k : Nat} {room : Int} {us : List Dk.Thing} (h : Ti W w bt room k us) : Below W.heap.size W w := by
  obtain ⟨ws, ps, gs, t, i⟩ := Hid.out h
  exact t.out

set_option maxRecDepth 100000 in
set_option maxHeartbeats 4000000 in
theorem TubeFull_any (n : Nat) (hn : n < 256) (A : Option Addr) (L C : Nat) (xs : List Dk.TAct) (w : World) (hr : Dk.Row 3 Dk.TAct.zero Dk.IsTAct w.heap.size w A L C xs) :
    Calls Try.prog 5 #[.int .u8 (n : Int), .slice A L C] w fun e w' => e = .returned (.bool true) ∧ Below w.heap.size w w' := by
  have hcap := hr.cap
  have hmax := hr.max
  unfold maxLen at hmax
  have HR : Hid (Dk.Row 3 Dk.TAct.zero Dk.IsTAct w.heap.size w A L C xs) := hr
  clear hr
  go_enter Try.func5, Try.ntmps5
  go_wp2_with fail
  obtain ⟨r, er⟩ : ∃ r : Int, (n : Int) % 8 + 1 = r := ⟨_, rfl⟩
  rw [er]
  have hr1 : 1 ≤ r := by omega
  have hr8 : r ≤ 8 := by omega
  clear er hn
  refine (New_any (Dk.Sep.begin (Below.refl _ w)) r).mono ?_
  rintro e w1 ⟨rfl, h1⟩
  obtain ⟨bt, ebt⟩ : ∃ bt, w.heap.size = bt := ⟨_, rfl⟩
  have t0 : Ti w w1 bt r 0 [] := ⟨[], [], [], ebt ▸ h1, ⟨by simp, fun h => by simp at h, fun h => by simp at h, by simp, by simp⟩⟩
  rw [show (Value.pointer (some ⟨w.heap.size, 0, none⟩)) = .pointer (some ⟨bt, 0, none⟩) by rw [ebt]]
  clear h1 ebt
  go_wp2_with fail
  go_loopw [7] (fun i w' => ∃ k : Nat, k ≤ L ∧ k ≤ 80 ∧ i = .int .i64 k ∧ Ti w w' bt r k []) (fun i w' => L - (intOf i).toNat)
  case atStart => exact ⟨0, Nat.zero_le _, Nat.zero_le _, rfl, t0⟩
  case round =>
    obtain ⟨k, hk, hk8, rfl, hT⟩ := hrel
    clear t0
    by_cases hlt : k < L
    · by_cases hlt8 : k < 80
      · obtain ⟨b, o, g, who, x, rfl, hb, c0, c1, c2, hi, hx⟩ := act_cell HR.out hlt
        have d0 : wr.cell? ⟨b, o + k * 3, none⟩ = some (.bool g) := by rw [hT.out.cell (by exact hb)]; exact c0
        have d1 : wr.cell? ⟨b, o + k * 3 + 1, none⟩ = some (.int .i64 who) := by rw [hT.out.cell (by exact hb)]; exact c1
        have d2 : wr.cell? ⟨b, o + k * 3 + 2, none⟩ = some (.int .u64 ((x : Nat) : Int)) := by rw [hT.out.cell (by exact hb)]; exact c2
        have y1 : decide ((k : Int) < (L : Int)) = true := by simp; omega
        have y2 : decide ((k : Int) < 80) = true := by simp; omega
        have hkL : (k : Int) < (L : Int) := by omega
        cases g with
        | true =>
          go_wp2_with fail
          refine (Get_ti hT who hi (by omega)).mono ?_
          rintro e w2 ⟨_, _, _, _, rfl, hT2⟩
          clear hT d0 d1 d2 c0 c1 c2
          obtain ⟨ws, ps, gs, t2, i2⟩ := Hid.out hT2
          clear hT2
          go_wp2_with fail
          refine (Words_any t2 (by have := i2.le; have := most_le r; omega)).mono ?_
          rintro e w3 ⟨A3, C3, rfl, t3, _, _⟩
          clear t2
          go_wp2_with fail
          refine (Putters_any t3 (by have := i2.lp; omega)).mono ?_
          rintro e w4 ⟨A4, C4, rfl, t4, _, _⟩
          clear t3
          go_wp2_with fail
          refine (Getters_any t4 (by have := i2.lg; omega)).mono ?_
          rintro e w5 ⟨A5, C5, rfl, t5, _, _⟩
          clear t4
          have hT5 : Ti w w5 bt r (k + 1) [] := ⟨ws, ps, gs, t5, i2⟩
          have hm : (Dk.most r : Int) = r := by
            unfold Dk.most
            rw [if_neg (by omega), if_neg (by omega)]
            omega
          have q1 := i2.le
          have q2 := i2.put
          have q3 := i2.get
          have q4 := i2.lp
          have q5 := i2.lg
          generalize ws.length = a at *
          generalize ps.length = p at *
          generalize gs.length = q at *
          have z1 : decide (r < (a : Int)) = false := by simp; omega
          by_cases hp : 0 < p
          · have z2 : decide ((0 : Int) < (p : Int)) = true := by simp; omega
            have z2' : decide (0 < p) = true := by simp; omega
            have ha : (a : Int) = r := by have := q2 hp; omega
            have hq : q = 0 := by
              cases hz : q with
              | zero => rfl
              | succ m => have := q3 (by omega); omega
            subst hq
            subst ha
            clear t5 i2 q1 q2 q3 q4 q5 hm
            go_wp2_with fail
            go_roundw
            case rel => exact ⟨k + 1, by omega, by omega, by go_num, hT5⟩
            case measure => simp [intOf]; omega
          · obtain rfl : p = 0 := by omega
            by_cases hq : 0 < q
            · have z3 : decide ((0 : Int) < (q : Int)) = true := by simp; omega
              have z3' : decide (0 < q) = true := by simp; omega
              have ha : a = 0 := q3 hq
              subst ha
              clear t5 i2 q1 q2 q3 q4 q5 hm
              go_wp2_with fail
              go_roundw
              case rel => exact ⟨k + 1, by omega, by omega, by go_num, hT5⟩
              case measure => simp [intOf]; omega
            · obtain rfl : q = 0 := by omega
              clear t5 i2 q1 q2 q3 q4 q5 hm
              go_wp2_with fail
              go_roundw
              case rel => exact ⟨k + 1, by omega, by omega, by go_num, hT5⟩
              case measure => simp [intOf]; omega
        | false =>
          go_wp2_with fail
          refine Dk.wp_region_line (S := fun w' => w'.cell? ⟨b, o + k * 3 + 1, none⟩ = some (.int .i64 who) ∧ w'.cell? ⟨b, o + k * 3 + 2, none⟩ = some (.int .u64 ((x : Nat) : Int))) [0, 1, 2, 3, 4, 5, 6, 7, 8, 9, 10] [11] (by kernel_rfl) (by kernel_rfl) ⟨d1, d2⟩ ?_
          refine Dk.held_step (v := .pointer (some ⟨bt, 0, none⟩)) rfl rfl (fun w' hw' => by go_simp) ?_
          simp only [Act.put, List.setIfInBounds_toArray, List.set_cons_succ, List.set_cons_zero]
          refine Dk.held_step (v := .slice (some ⟨b, o, none⟩) L C) rfl rfl (fun w' hw' => by go_simp) ?_
          simp only [Act.put, List.setIfInBounds_toArray, List.set_cons_succ, List.set_cons_zero]
          refine Dk.held_step (v := .int .i64 (k : Int)) rfl rfl (fun w' hw' => by go_simp) ?_
          simp only [Act.put, List.setIfInBounds_toArray, List.set_cons_succ, List.set_cons_zero]
          refine Dk.held_step (v := .pointer (some ⟨b, o + k * 3, none⟩)) rfl rfl (fun w' hw' => by go_simp) ?_
          simp only [Act.put, List.setIfInBounds_toArray, List.set_cons_succ, List.set_cons_zero]
          refine Dk.held_step (v := .pointer (some ⟨b, o + k * 3 + 1, none⟩)) rfl rfl (fun w' hw' => by go_simp) ?_
          simp only [Act.put, List.setIfInBounds_toArray, List.set_cons_succ, List.set_cons_zero]
          refine Dk.held_step (v := .int .i64 who) rfl rfl (fun w' hw' => by have := hw'.1; go_simp) ?_
          simp only [Act.put, List.setIfInBounds_toArray, List.set_cons_succ, List.set_cons_zero]
          refine Dk.held_step (v := .slice (some ⟨b, o, none⟩) L C) rfl rfl (fun w' hw' => by go_simp) ?_
          simp only [Act.put, List.setIfInBounds_toArray, List.set_cons_succ, List.set_cons_zero]
          refine Dk.held_step (v := .int .i64 (k : Int)) rfl rfl (fun w' hw' => by go_simp) ?_
          simp only [Act.put, List.setIfInBounds_toArray, List.set_cons_succ, List.set_cons_zero]
          refine Dk.held_step (v := .pointer (some ⟨b, o + k * 3, none⟩)) rfl rfl (fun w' hw' => by go_simp) ?_
          simp only [Act.put, List.setIfInBounds_toArray, List.set_cons_succ, List.set_cons_zero]
          refine Dk.held_step (v := .pointer (some ⟨b, o + k * 3 + 2, none⟩)) rfl rfl (fun w' hw' => by go_simp) ?_
          simp only [Act.put, List.setIfInBounds_toArray, List.set_cons_succ, List.set_cons_zero]
          refine Dk.held_step (v := .int .u64 ((x : Nat) : Int)) rfl rfl (fun w' hw' => by have := hw'.2; go_simp) ?_
          simp only [Act.put, List.setIfInBounds_toArray, List.set_cons_succ, List.set_cons_zero]
          have hT1 : Ti w wr.drew bt r k [] := by
            obtain ⟨ws, ps, gs, t, i⟩ := Hid.out hT
            exact ⟨ws, ps, gs, t.below (Dk.up_drew (Below.refl _ _)), i⟩
          refine Dk.line_call (f := 10) (args := #[.pointer (some ⟨bt, 0, none⟩), .int .i64 who, .int .u64 ((x : Nat) : Int)]) rfl rfl (by go_simp) ?_
          refine (Put_ti hT1 who x hi hx (by omega)).mono ?_
          rintro e w2 ⟨rb, rn, rc, rfl, hT2⟩
          refine ⟨_, rfl, ⟨by rw [hT2.out.cell (by exact hb)]; exact c1, by rw [hT2.out.cell (by exact hb)]; exact c2⟩, ?_⟩
          simp only [Act.put, List.setIfInBounds_toArray, List.set_cons_succ, List.set_cons_zero]
          rename_i hK
          refine hK _ _ ?_
          clear hT hT1 d0 d1 d2 c0 c1 c2
          obtain ⟨ws, ps, gs, t2, i2⟩ := Hid.out hT2
          clear hT2
          go_wp2_with fail
          refine (Words_any t2 (by have := i2.le; have := most_le r; omega)).mono ?_
          rintro e w3 ⟨A3, C3, rfl, t3, _, _⟩
          clear t2
          go_wp2_with fail
          refine (Putters_any t3 (by have := i2.lp; omega)).mono ?_
          rintro e w4 ⟨A4, C4, rfl, t4, _, _⟩
          clear t3
          go_wp2_with fail
          refine (Getters_any t4 (by have := i2.lg; omega)).mono ?_
          rintro e w5 ⟨A5, C5, rfl, t5, _, _⟩
          clear t4
          have hT5 : Ti w w5 bt r (k + 1) [] := ⟨ws, ps, gs, t5, i2⟩
          have hm : (Dk.most r : Int) = r := by
            unfold Dk.most
            rw [if_neg (by omega), if_neg (by omega)]
            omega
          have q1 := i2.le
          have q2 := i2.put
          have q3 := i2.get
          have q4 := i2.lp
          have q5 := i2.lg
          generalize ws.length = a at *
          generalize ps.length = p at *
          generalize gs.length = q at *
          have z1 : decide (r < (a : Int)) = false := by simp; omega
          by_cases hp : 0 < p
          · have z2 : decide ((0 : Int) < (p : Int)) = true := by simp; omega
            have z2' : decide (0 < p) = true := by simp; omega
            have ha : (a : Int) = r := by have := q2 hp; omega
            have hq : q = 0 := by
              cases hz : q with
              | zero => rfl
              | succ m => have := q3 (by omega); omega
            subst hq
            subst ha
            clear t5 i2 q1 q2 q3 q4 q5 hm
            go_wp2_with fail
            go_roundw
            case rel => exact ⟨k + 1, by omega, by omega, by go_num, hT5⟩
            case measure => simp [intOf]; omega
          · obtain rfl : p = 0 := by omega
            by_cases hq : 0 < q
            · have z3 : decide ((0 : Int) < (q : Int)) = true := by simp; omega
              have z3' : decide (0 < q) = true := by simp; omega
              have ha : a = 0 := q3 hq
              subst ha
              clear t5 i2 q1 q2 q3 q4 q5 hm
              go_wp2_with fail
              go_roundw
              case rel => exact ⟨k + 1, by omega, by omega, by go_num, hT5⟩
              case measure => simp [intOf]; omega
            · obtain rfl : q = 0 := by omega
              clear t5 i2 q1 q2 q3 q4 q5 hm
              go_wp2_with fail
              go_roundw
              case rel => exact ⟨k + 1, by omega, by omega, by go_num, hT5⟩
              case measure => simp [intOf]; omega
      · have y2 : decide ((k : Int) < 80) = false := by simp; omega
        have y1 : decide ((k : Int) < (L : Int)) = true := by simp; omega
        have u := hT.out
        have HU : Hid (Below w.heap.size w wr) := u
        clear u hT
        go_wp2_with fail
        refine (awake_any wr).mono ?_
        rintro e w2 ⟨rfl, u2⟩
        go_wp2_with fail
        go_ret
        exact ⟨rfl, Dk.up_call HU.out u2⟩
    · have y1 : decide ((k : Int) < (L : Int)) = false := by simp; omega
      have u := hT.out
      have HU : Hid (Below w.heap.size w wr) := u
      clear u hT
      go_wp2_with fail
      refine (awake_any wr).mono ?_
      rintro e w2 ⟨rfl, u2⟩
      go_wp2_with fail
      go_ret
      exact ⟨rfl, Dk.up_call HU.out u2⟩
end Go.Proofs.Ytnoeigmcanggdaa
