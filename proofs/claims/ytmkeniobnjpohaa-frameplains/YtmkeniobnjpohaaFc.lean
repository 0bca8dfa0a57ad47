/- The walks of package frame's questions about an instruction's code. -/
import Derived.Test.YtmkeniobnjpohaaFl
namespace Go.Proofs.Ytmkeniobnjpohaa
set_option linter.unusedSimpArgs false
set_option linter.unusedVariables false
set_option linter.unnecessarySimpa false
open Go.RowKit

theorem slI_new {W : World} {B : Nat} (hB : W.heap.size = B) (ys : List Int) (cs : Array Value) (t : TypeId) (n : Nat) (hn : ys.length = n) (hm : n ≤ maxLen) (hw : ∀ y ∈ ys, Dk.i64 y) (hc : ∀ k, k < n → cs[k]? = some (.int .i64 (ys.getD k 0))) :
    Dk.SlI (W.alloc (.cells cs t)).heap.size (W.alloc (.cells cs t)) (some ⟨B, 0, none⟩) n n ys := hB ▸
  ⟨hn, Nat.le_refl _, hm, hw, fun _ => ⟨_, _, rfl, by simp, fun k hk => by rw [Dk.box_cell (Below.refl _ _), Nat.zero_add]; exact hc k hk⟩⟩

def RegsSaid (i : Dk.Ins) (w : World) : Prop :=
    Calls Try.prog 48 #[Dk.iv i] w fun e w' => ∃ A C, e = .returned (.slice A (Dk.regN i.op) C) ∧ Dk.SlI w'.heap.size w' A (Dk.regN i.op) C (Dk.regs i) ∧ Below w.heap.size w w'

set_option maxHeartbeats 1000000 in
theorem registers_none (op a b c : Int) (n : Nat) (w : World) (hop : op = 16) (ha : Dk.i64 a) (hb : Dk.i64 b) (hc : Dk.i64 c) : RegsSaid ⟨op, a, b, c, n⟩ w := by
  have er : Dk.regN op = 0 := by unfold Dk.regN; rw [if_pos hop]
  have es : Dk.regs ⟨op, a, b, c, n⟩ = [] := by unfold Dk.regs; simp only [er]; rfl
  unfold RegsSaid
  rw [es]
  simp only [er]
  clear er es
  subst hop
  go_enter Try.func48, Try.ntmps48
  go_wp2
  go_ret
  exact ⟨_, _, rfl, ⟨rfl, Nat.le_refl _, Nat.zero_le _, by simp, fun h0 => absurd h0 (by omega)⟩, Dk.up_alloc (Below.refl _ _) _⟩

set_option maxHeartbeats 1000000 in
theorem registers_one (op a b c : Int) (n : Nat) (w : World) (hop : op = 1 ∨ op = 17) (ha : Dk.i64 a) (hb : Dk.i64 b) (hc : Dk.i64 c) : RegsSaid ⟨op, a, b, c, n⟩ w := by
  have er : Dk.regN op = 1 := by unfold Dk.regN; rw [if_neg (by omega), if_pos hop]
  have es : Dk.regs ⟨op, a, b, c, n⟩ = [a] := by unfold Dk.regs; simp only [er]; rfl
  unfold RegsSaid
  rw [es]
  simp only [er]
  clear er es
  rcases hop with rfl | rfl
  all_goals
    go_enter Try.func48, Try.ntmps48
    go_wp2
    go_ret
    refine ⟨_, _, rfl, ?_, Dk.up_alloc (Dk.up_alloc (Below.refl _ _) _) _⟩
    refine slI_new (World.size_alloc _ _) [a] _ _ 1 rfl (by decide) (by simp [*]) ?_
    intro k hk; obtain rfl : k = 0 := (by omega); rfl

set_option maxHeartbeats 1000000 in
theorem registers_two (op a b c : Int) (n : Nat) (w : World) (hop : op = 2 ∨ op = 14 ∨ op = 15 ∨ op = 18 ∨ op = 19) (ha : Dk.i64 a) (hb : Dk.i64 b) (hc : Dk.i64 c) : RegsSaid ⟨op, a, b, c, n⟩ w := by
  have er : Dk.regN op = 2 := by unfold Dk.regN; rw [if_neg (by omega), if_neg (by omega), if_pos hop]
  have es : Dk.regs ⟨op, a, b, c, n⟩ = [a, b] := by unfold Dk.regs; simp only [er]; rfl
  unfold RegsSaid
  rw [es]
  simp only [er]
  clear er es
  rcases hop with rfl | rfl | rfl | rfl | rfl
  all_goals
    go_enter Try.func48, Try.ntmps48
    go_wp2
    go_ret
    refine ⟨_, _, rfl, ?_, Dk.up_alloc (Dk.up_alloc (Below.refl _ _) _) _⟩
    refine slI_new (World.size_alloc _ _) [a, b] _ _ 2 rfl (by decide) (by simp [*]) ?_
    intro k hk; rcases (by omega : k = 0 ∨ k = 1) with rfl | rfl <;> rfl

set_option maxHeartbeats 1000000 in
theorem registers_three (op a b c : Int) (n : Nat) (w : World) (hop : op ≠ 16 ∧ op ≠ 1 ∧ op ≠ 17 ∧ op ≠ 2 ∧ op ≠ 14 ∧ op ≠ 15 ∧ op ≠ 18 ∧ op ≠ 19) (ha : Dk.i64 a) (hb : Dk.i64 b) (hc : Dk.i64 c) : RegsSaid ⟨op, a, b, c, n⟩ w := by
  have er : Dk.regN op = 3 := by unfold Dk.regN; rw [if_neg (by omega), if_neg (by omega), if_neg (by omega)]
  have es : Dk.regs ⟨op, a, b, c, n⟩ = [a, b, c] := by unfold Dk.regs; simp only [er]; rfl
  unfold RegsSaid
  rw [es]
  simp only [er]
  clear er es
  have h16 : (op == 16) = false := beq_no (by omega)
  have h1 : (op == 1) = false := beq_no (by omega)
  have h17 : (op == 17) = false := beq_no (by omega)
  have h2 : (op == 2) = false := beq_no (by omega)
  have h14 : (op == 14) = false := beq_no (by omega)
  have h15 : (op == 15) = false := beq_no (by omega)
  have h18 : (op == 18) = false := beq_no (by omega)
  have h19 : (op == 19) = false := beq_no (by omega)
  clear hop
  go_enter Try.func48, Try.ntmps48
  go_wp2
  go_ret
  refine ⟨_, _, rfl, ?_, Dk.up_alloc (Dk.up_alloc (Below.refl _ _) _) _⟩
  refine slI_new (World.size_alloc _ _) [a, b, c] _ _ 3 rfl (by decide) (by simp [*]) ?_
  intro k hk; rcases (by omega : k = 0 ∨ k = 1 ∨ k = 2) with rfl | rfl | rfl <;> rfl

theorem registers_any (i : Dk.Ins) (w : World) (hi : i.ok) : RegsSaid i w := by
  obtain ⟨op, a, b, c, n⟩ := i
  by_cases h1 : op = 16
  · exact registers_none op a b c n w h1 hi.a hi.b hi.c
  · by_cases h2 : op = 1 ∨ op = 17
    · exact registers_one op a b c n w h2 hi.a hi.b hi.c
    · by_cases h3 : op = 2 ∨ op = 14 ∨ op = 15 ∨ op = 18 ∨ op = 19
      · exact registers_two op a b c n w h3 hi.a hi.b hi.c
      · exact registers_three op a b c n w (by omega) hi.a hi.b hi.c

/-- What a question on the code throws. -/
def Thrown (t1 t2 : TypeId) (e : Ending) : Prop := ∃ t v, (t = t1 ∨ t = t2) ∧ e = .panicked [{ v := .iface t v, recovered := false }]

/-- How a question on the code ends. -/
def CodeEnd (b : Bool) (e : Ending) : Prop := (b = true → e = .returned (.tuple #[])) ∧ (b = false → Thrown 68 70 e)

theorem class_one {op : Int} (h : Dk.withinB op 1 19 = true) : Dk.classOf op = 1 := by unfold Dk.classOf; rw [h]; rfl
theorem class_else {op : Int} (h : Dk.withinB op 1 19 = false) : (Dk.classOf op == 1) = false := by
  unfold Dk.classOf
  rw [h]
  cases Dk.withinB op 20 32 <;> cases Dk.withinB op 33 38 <;> rfl

set_option maxHeartbeats 1000000 in
theorem askCode_class (i : Dk.Ins) (w : World) (h : Dk.withinB i.op 1 19 = false) :
    Calls Try.prog 35 #[Dk.iv i] w fun e w' => Thrown 68 70 e ∧ Below w.heap.size w w' := by
  have hc := class_else h
  have hc' : (Dk.classOf i.op != 1) = true := by rw [bne, hc]; rfl
  clear h
  go_enter Try.func35, Try.ntmps35
  go_wp2_with (go_at_call 47; refine (class_any _ _).mono ?_; rintro e w' ⟨rfl, rfl⟩)
  exact ⟨rfl, ⟨_, _, Or.inl rfl, rfl⟩, Dk.up_alloc (Below.refl _ _) _⟩

theorem all_take_succ {α : Type} (xs : List α) (f : α → Bool) (d : α) (k : Nat) (h : k < xs.length) : (xs.take (k + 1)).all f = ((xs.take k).all f && f (xs.getD k d)) := by
  rw [List.take_succ_eq_append_getElem h, List.all_append]
  simp [List.getD, h]
theorem all_no {α : Type} (xs : List α) (f : α → Bool) (d : α) (k : Nat) (h : k < xs.length) (hf : f (xs.getD k d) = false) : xs.all f = false := by
  rw [List.all_eq_false]
  refine ⟨xs.getD k d, ?_, by rw [hf]; simp⟩
  rw [List.getD_eq_getElem?_getD, List.getElem?_eq_getElem h]
  exact List.getElem_mem h

set_option maxHeartbeats 1000000 in
theorem askCode_any (i : Dk.Ins) (w : World) (hi : i.ok) (h : Dk.withinB i.op 1 19 = true) :
    Calls Try.prog 35 #[Dk.iv i] w fun e w' => CodeEnd ((Dk.regs i).all fun r => Dk.plB r 8) e ∧ Below w.heap.size w w' := by
  have hc := class_one h
  clear h
  have hrg := fun w => registers_any i w hi
  have HRG : Hid _ := hrg
  clear hrg hi
  obtain ⟨xs, hxs⟩ : ∃ xs, xs = Dk.regs i := ⟨_, rfl⟩
  obtain ⟨L, hL⟩ : ∃ L, L = Dk.regN i.op := ⟨_, rfl⟩
  have hL3 : L ≤ 3 := by rw [hL]; exact Dk.regN_le _
  unfold RegsSaid at HRG
  rw [← hxs, ← hL] at HRG
  rw [← hxs]
  clear hxs hL
  go_enter Try.func35, Try.ntmps35
  go_wp2_with (go_at_call 47; refine (class_any _ _).mono ?_; rintro e w' ⟨rfl, rfl⟩)
  refine (HRG.out _).mono ?_
  rintro e w1 ⟨A, C, rfl, hs, hb⟩
  have u1 : Below w.heap.size w w1 := Dk.up_call (Dk.up_alloc (Below.refl _ _) _) hb
  have HU : Hid _ := u1
  clear u1 hb HRG
  obtain ⟨hlen, hcap, hmax, _, hcells⟩ := hs
  unfold maxLen at hmax
  have HL : Hid (xs.length = L) := hlen
  have HC : Hid _ := hcells
  clear hlen hcells
  go_wp2_with fail
  go_loop [14] (fun x => ∃ k : Nat, k ≤ L ∧ x = .int .i64 k ∧ Hid ((xs.take k).all (fun r => Dk.plB r 8) = true)) (fun x => L - (intOf x).toNat)
  case atStart => exact ⟨0, Nat.zero_le _, rfl, by show (xs.take 0).all _ = true; simp⟩
  case round =>
    obtain ⟨k, hk, rfl, HA⟩ := hrel
    by_cases hlt : k < L
    · obtain ⟨b, o, rfl, _, hcl⟩ := HC.out (by omega)
      have hcell := hcl k hlt
      clear hcl HC
      obtain ⟨v, hv⟩ : ∃ v, v = xs.getD k 0 := ⟨_, rfl⟩
      rw [← hv] at hcell
      have HV : Hid (v = xs.getD k 0) := hv
      clear hv
      cases hw : Dk.plB v 8
      · have HW := hw
        go_wp2_with (go_at_call 16; refine (isPlace_any _ _ _).mono ?_; rintro e w' ⟨rfl, rfl⟩)
        refine ⟨rfl, ?_, HU.out⟩
        rw [all_no xs _ 0 k (by rw [HL.out]; exact hlt) (by rw [← HV.out]; exact HW)]
        exact ⟨fun h => (by cases h), fun _ => ⟨_, _, Or.inr rfl, rfl⟩⟩
      · have HW := hw
        go_wp2_with (go_at_call 16; refine (isPlace_any _ _ _).mono ?_; rintro e w' ⟨rfl, rfl⟩)
        go_round
        case rel =>
          refine ⟨k + 1, by omega, by go_num, ?_⟩
          show (xs.take (k + 1)).all _ = true
          rw [all_take_succ xs _ 0 k (by rw [HL.out]; exact hlt), HA.out, ← HV.out, HW]
          rfl
        case measure => simp [intOf]; omega
    · go_wp2
      have hall := HA.out
      rw [List.take_of_length_le (by rw [HL.out]; omega)] at hall
      go_end0
      rw [hall]
      exact ⟨⟨fun _ => rfl, fun h => by cases h⟩, HU.out⟩

end Go.Proofs.Ytmkeniobnjpohaa
