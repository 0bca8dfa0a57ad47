/- The walks of the statements on classes and on registers. -/
import Derived.Test.YtmapmhcmeokahaaAwake
namespace Go.Proofs.Ytmapmhcmeokahaa
set_option linter.unusedSimpArgs false
set_option linter.unusedVariables false
set_option linter.unnecessarySimpa false
open Go.RowKit

set_option maxHeartbeats 1000000 in
theorem classes_of (op c : Int) (b : Bool) (w : World) (hc : Dk.classOf op = c) (hs : Dk.seenB op = b)
    (h : (op < 1 ∧ c = 0 ∧ b = false) ∨ (1 ≤ op ∧ op < 18 ∧ c = 1 ∧ b = false) ∨ (18 ≤ op ∧ op ≤ 19 ∧ c = 1 ∧ b = true) ∨ (20 ≤ op ∧ op ≤ 32 ∧ c = 2 ∧ b = true) ∨ (33 ≤ op ∧ op ≤ 38 ∧ c = 3 ∧ b = true) ∨ (38 < op ∧ c = 0 ∧ b = false)) :
    Calls Try.prog 5 #[.int .i64 op] w fun e w' => e = .returned (.bool true) ∧ Below w.heap.size w w' := by
  rcases h with ⟨h1, rfl, rfl⟩ | ⟨h1, h2, rfl, rfl⟩ | ⟨h1, h2, rfl, rfl⟩ | ⟨h1, h2, rfl, rfl⟩ | ⟨h1, h2, rfl, rfl⟩ | ⟨h1, rfl, rfl⟩
  all_goals
    go_enter Try.func5, Try.ntmps5
    go_wp2_with fail
    refine (awake_any _).mono ?_
    rintro e w1 ⟨rfl, hb1⟩
    go_wp2_with fail
    refine (class_any _ _).mono ?_
    rintro e w' ⟨rfl, rfl⟩
    go_wp2_with fail
    refine (seen_any _ _).mono ?_
    rintro e w' ⟨rfl, rfl⟩
    go_wp2_with fail
    go_ret
    exact ⟨ret_bool (by first | rfl | (simp; omega)), hb1⟩

theorem instClasses_w (op : Int) (w : World) :
    Calls Try.prog 5 #[.int .i64 op] w fun e w' => e = .returned (.bool true) ∧ Below w.heap.size w w' := by
  refine classes_of op _ _ w rfl rfl ?_
  unfold Dk.classOf Dk.seenB Dk.withinB
  by_cases h1 : op < 1
  · left; simp; omega
  by_cases h2 : op < 18
  · right; left; simp; omega
  by_cases h3 : op < 20
  · right; right; left; simp; omega
  by_cases h4 : op < 33
  · right; right; right; left; simp; omega
  by_cases h5 : op ≤ 38
  · right; right; right; right; left; simp; omega
  · right; right; right; right; right; simp; omega

theorem may_reg_of {p : Dk.Prg} {op a : Int} (ha : Dk.i64 a) (x : Int) (hx : x = 0 ∨ x = 1 ∨ x = 5) (h : Dk.mayB p x (Dk.u64 a) = true) (hm : x = 5 → Dk.i64 p.mutexes) : 0 ≤ a ∧ (x ≠ 5 → a ≤ 7) := by
  rcases hx with rfl | rfl | rfl
  · rw [Dk.may_none p ha] at h
    simp [Dk.fieldB] at h
    omega
  · rw [Dk.may_reg p ha] at h
    simp [Dk.fieldB] at h
    omega
  · rw [Dk.may_mutex p ha (hm rfl)] at h
    simp [Dk.fieldB] at h
    omega
theorem ite_ok {α : Type} {P : α → Prop} {c : Prop} [Decidable c] {a b : α} (ha : c → P a) (hb : ¬ c → P b) : P (if c then a else b) := by
  by_cases h : c
  · rw [if_pos h]; exact ha h
  · rw [if_neg h]; exact hb h
def Parts (op : Int) (r : (Int × Int × Int × Int) × Bool) : Prop := (r.1.1 = 0 ∨ r.1.1 = 1) ∧ (r.1.2.1 = 0 ∨ r.1.2.1 = 1) ∧ (r.1.2.2.1 = 0 ∨ r.1.2.2.1 = 1 ∨ r.1.2.2.1 = 5) ∧ (r.2 = true → 1 ≤ op ∧ op ≤ 38)
theorem form_parts (op : Int) : Parts op (Dk.form op) := by
  unfold Dk.form
  repeat' refine ite_ok (P := Parts op) (fun _ => ?_) (fun _ => ?_)
  all_goals
    refine ⟨by decide, by decide, by decide, fun h => ?_⟩
    first | omega | (exact absurd h (by decide))
theorem sound_regs {p : Dk.Prg} {i : Dk.Ins} (hi : i.ok) (hm : Dk.i64 p.mutexes) (h : Dk.soundB p i = true) : (0 ≤ i.a ∧ i.a ≤ 7) ∧ (0 ≤ i.b ∧ i.b ≤ 7) ∧ 0 ≤ i.c ∧ 1 ≤ i.op ∧ i.op ≤ 38 := by
  unfold Dk.soundB at h
  simp only [Bool.and_eq_true] at h
  obtain ⟨⟨⟨⟨h0, h1⟩, h2⟩, h3⟩, _⟩ := h
  obtain ⟨fa, fb, fc, fo⟩ := form_parts i.op
  have k1 := may_reg_of (op := i.op) hi.a _ (by omega) h1 (fun _ => hm)
  have k2 := may_reg_of (op := i.op) hi.b _ (by omega) h2 (fun _ => hm)
  have k3 := may_reg_of (op := i.op) hi.c _ (by omega) h3 (fun _ => hm)
  have k4 := fo h0
  exact ⟨⟨k1.1, k1.2 (by omega)⟩, ⟨k2.1, k2.2 (by omega)⟩, k3.1, k4.1, k4.2⟩
theorem class_pos {op : Int} (h1 : 1 ≤ op) (h2 : op ≤ 38) : 0 < Dk.classOf op := by
  unfold Dk.classOf Dk.withinB
  by_cases a : op ≤ 19
  · simp [a, h1]
  by_cases b : op ≤ 32
  · simp [a, b, show 20 ≤ op by omega]
  · simp [a, b, show 33 ≤ op by omega, h2]
theorem class_seen (op : Int) : Dk.classOf op < 2 ∨ (2 ≤ Dk.classOf op ∧ Dk.seenB op = true) := by
  unfold Dk.classOf Dk.withinB Dk.seenB Dk.withinB
  repeat' split
  all_goals simp_all
  all_goals omega

end Go.Proofs.Ytmapmhcmeokahaa
