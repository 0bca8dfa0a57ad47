/- What a plain instruction does, in one. -/
import Derived.Test.YtmkeniobnjpohaaFe
namespace Dk
set_option linter.unusedSimpArgs false
set_option linter.unusedVariables false
set_option linter.unnecessarySimpa false

theorem code_op {i : Ins} (h : codeB i = true) : 1 ≤ i.op ∧ i.op ≤ 19 := by
  unfold codeB withinB at h
  simp only [Bool.and_eq_true, decide_eq_true_eq] at h
  exact h.1
theorem code_regs {i : Ins} (h : codeB i = true) : (1 ≤ regN i.op → 0 ≤ i.a ∧ i.a < 8) ∧ (2 ≤ regN i.op → 0 ≤ i.b ∧ i.b < 8) ∧ (3 ≤ regN i.op → 0 ≤ i.c ∧ i.c < 8) := by
  unfold codeB regs at h
  simp only [Bool.and_eq_true] at h
  have h2 := h.2
  rw [List.all_eq_true] at h2
  have key : ∀ r, r ∈ [i.a, i.b, i.c].take (regN i.op) → 0 ≤ r ∧ r < 8 := fun r hr => plB_iff.1 (h2 r hr)
  generalize regN i.op = k at key
  refine ⟨fun hk => key _ ?_, fun hk => key _ ?_, fun hk => key _ ?_⟩
  · obtain ⟨j, rfl⟩ : ∃ j, k = j + 1 := ⟨k - 1, by omega⟩
    simp
  · obtain ⟨j, rfl⟩ : ∃ j, k = j + 2 := ⟨k - 2, by omega⟩
    simp
  · obtain ⟨j, rfl⟩ : ∃ j, k = j + 3 := ⟨k - 3, by omega⟩
    simp
theorem regN_three {op : Int} (h : op ≠ 16 ∧ op ≠ 17 ∧ op ≠ 1 ∧ op ≠ 18 ∧ op ≠ 19 ∧ op ≠ 2 ∧ op ≠ 14 ∧ op ≠ 15) : regN op = 3 := by
  unfold regN
  rw [if_neg (by omega), if_neg (by omega), if_neg (by omega)]
end Dk
namespace Go.Proofs.Ytmkeniobnjpohaa
set_option linter.unusedSimpArgs false
set_option linter.unusedVariables false
set_option linter.unnecessarySimpa false
open Go.RowKit

theorem plain_end {e e' : Ending} {w w' : World} {wb : Nat} {m : List Nat} (he : e = e') (hm : Dk.Box w wb (Dk.wc m) 26) (hb : Below w.heap.size w w') : e = e' ∧ Below wb w w' ∧ Dk.Box w' wb (Dk.wc m) 26 :=
  ⟨he, hb.mono (Nat.le_of_lt hm.lt), hm.up hb⟩

theorem do_ok (f : Dk.Frm) (i : Dk.Ins) (m : List Nat) (L C : Nat) (w : World) (wb : Nat) (hf : f.ok) (hc : Dk.codeB i = true) (hx : Dk.faultB f i L = false) (hm : Dk.Box w wb (Dk.wc m) 26) (hL : m.length = L) (hmax : L ≤ maxLen) :
    Calls Try.prog 36 #[Dk.fv f, Dk.iv i, .slice (some ⟨wb, 0, none⟩) L C] w fun e w' => e = .returned (Dk.fv (Dk.doneF f i m)) ∧ Below wb w w' ∧ Dk.Box w' wb (Dk.wc (Dk.doneM f i m)) 26 := by
  obtain ⟨ra, rb, rc⟩ := Dk.code_regs hc
  have ho := Dk.code_op hc
  clear hc
  obtain ⟨op, a, b, c, n⟩ := i
  simp only at ra rb rc ho
  by_cases h16 : op = 16
  · subst h16
    exact (do_jump f a b c n _ L C w).mono fun e w' ⟨he, hb⟩ => plain_end he hm hb
  by_cases h17 : op = 17
  · subst h17
    obtain ⟨a0, a8⟩ := ra (by decide)
    have eM : Dk.doneM f ⟨17, a, b, c, n⟩ m = m := rfl
    rw [eM]
    by_cases hz : f.r a.toNat = 0
    · have eF : Dk.doneF f ⟨17, a, b, c, n⟩ m = f.to (wrap64 n) := by unfold Dk.doneF; simp [hz]
      rw [eF]
      exact (do_zero_yes f a b c n _ L C w a0 a8 (by simp [hz])).mono fun e w' ⟨he, hb⟩ => plain_end he hm hb
    · have eF : Dk.doneF f ⟨17, a, b, c, n⟩ m = f.to (wrap64 (f.pc + 1)) := by unfold Dk.doneF; simp [hz]
      rw [eF]
      exact (do_zero_no f a b c n _ L C w a0 a8 (by simp; omega)).mono fun e w' ⟨he, hb⟩ => plain_end he hm hb
  by_cases h1 : op = 1
  · subst h1
    obtain ⟨a0, a8⟩ := ra (by decide)
    exact (do_set f a b c n _ L C w a0 a8).mono fun e w' ⟨he, hb⟩ => plain_end he hm hb
  by_cases h18 : op = 18
  · subst h18
    obtain ⟨a0, a8⟩ := ra (by decide)
    obtain ⟨b0, b8⟩ := rb (by decide)
    have hx' : f.r b.toNat < L := by simpa [Dk.faultB] using hx
    exact (do_load f a b c n L C w hf wb m hm hL hx' hmax a0 a8 b0 b8).mono fun e w' ⟨he, hb⟩ => plain_end he hm hb
  by_cases h19 : op = 19
  · subst h19
    obtain ⟨a0, a8⟩ := ra (by decide)
    obtain ⟨b0, b8⟩ := rb (by decide)
    have hx' : f.r a.toNat < L := by simpa [Dk.faultB] using hx
    refine (do_store f a b c n L C w wb m hm hL hx' hmax a0 a8 b0 b8).mono fun e w' ⟨he, hb⟩ => ⟨he, ?_, ?_⟩
    · exact ((Below.refl _ _).setCell (p := ⟨wb, f.r a.toNat, none⟩) (Nat.le_refl _) _).trans (hb.mono (Nat.le_of_lt hm.lt))
    · exact (hm.setWord _ _).below hb hm.lt
  by_cases h2 : op = 2 ∨ op = 14 ∨ op = 15
  · rcases h2 with rfl | rfl | rfl
    all_goals
      obtain ⟨a0, a8⟩ := ra (by decide)
      obtain ⟨b0, b8⟩ := rb (by decide)
    · exact (do_move2 f a b c n _ L C w hf a0 a8 b0 b8).mono fun e w' ⟨he, hb⟩ => plain_end he hm hb
    · exact (do_move14 f a b c n _ L C w hf a0 a8 b0 b8).mono fun e w' ⟨he, hb⟩ => plain_end he hm hb
    · exact (do_move15 f a b c n _ L C w hf a0 a8 b0 b8).mono fun e w' ⟨he, hb⟩ => plain_end he hm hb
  · have h3 : op ≠ 16 ∧ op ≠ 17 ∧ op ≠ 1 ∧ op ≠ 18 ∧ op ≠ 19 ∧ op ≠ 2 ∧ op ≠ 14 ∧ op ≠ 15 := by omega
    have er := Dk.regN_three h3
    obtain ⟨a0, a8⟩ := ra (by omega)
    obtain ⟨b0, b8⟩ := rb (by omega)
    obtain ⟨c0, c8⟩ := rc (by omega)
    have eM : Dk.doneM f ⟨op, a, b, c, n⟩ m = m := by unfold Dk.doneM; rw [if_neg (by simpa using h19)]
    have eF : Dk.doneF f ⟨op, a, b, c, n⟩ m = (f.to (wrap64 (f.pc + 1))).set a.toNat (Dk.ariW op (f.r b.toNat) (f.r c.toNat)) := by
      unfold Dk.doneF
      simp only [h16, h17, h1, h18, h19, h2, if_false]
    rw [eM, eF]
    exact (do_three f op a b c n _ L C w hf h3 a0 a8 b0 b8 c0 c8).mono fun e w' ⟨he, hb⟩ => plain_end he hm hb

theorem do_bad (f : Dk.Frm) (i : Dk.Ins) (A : Option Addr) (L C : Nat) (hc : Dk.codeB i = true) (hx : Dk.faultB f i L = true) (hmax : L ≤ maxLen) :
    ∃ x : Nat, ∀ w, Calls Try.prog 36 #[Dk.fv f, Dk.iv i, .slice A L C] w fun e w' => e = .panicked [{ v := .iface 66 (.int .u64 (x : Nat)), recovered := false }] ∧ Below w.heap.size w w' := by
  obtain ⟨ra, rb, rc⟩ := Dk.code_regs hc
  clear hc
  obtain ⟨op, a, b, c, n⟩ := i
  simp only at ra rb rc
  unfold Dk.faultB at hx
  simp only [Bool.or_eq_true, Bool.and_eq_true, decide_eq_true_eq] at hx
  rcases hx with ⟨rfl, hx⟩ | ⟨rfl, hx⟩
  · obtain ⟨a0, a8⟩ := ra (by decide)
    obtain ⟨b0, b8⟩ := rb (by decide)
    exact ⟨_, fun w => do_load_bad f a b c n A L C w hx hmax a0 a8 b0 b8⟩
  · obtain ⟨a0, a8⟩ := ra (by decide)
    obtain ⟨b0, b8⟩ := rb (by decide)
    exact ⟨_, fun w => do_store_bad f a b c n A L C w hx hmax a0 a8 b0 b8⟩

end Go.Proofs.Ytmkeniobnjpohaa
