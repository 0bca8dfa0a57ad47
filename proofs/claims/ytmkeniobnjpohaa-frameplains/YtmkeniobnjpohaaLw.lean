/- The statement on plain instructions, in one. -/
import Derived.Test.YtmkeniobnjpohaaLv
namespace Go.Proofs.Ytmkeniobnjpohaa
set_option linter.unusedSimpArgs false
set_option linter.unusedVariables false
set_option linter.unnecessarySimpa false
open Go.RowKit

theorem size_two {op : Int} (h : op = 2 ∨ op = 14 ∨ op = 15 ∨ op = 18 ∨ op = 19) : (hasS op).size = 3 := by
  rcases h with rfl | rfl | rfl | rfl | rfl <;> rfl
theorem size_three {op : Int} (h : 3 ≤ op ∧ op ≤ 13) : (hasS op).size = 4 := by
  rcases (by omega : op = 3 ∨ op = 4 ∨ op = 5 ∨ op = 6 ∨ op = 7 ∨ op = 8 ∨ op = 9 ∨ op = 10 ∨ op = 11 ∨ op = 12 ∨ op = 13) with rfl | rfl | rfl | rfl | rfl | rfl | rfl | rfl | rfl | rfl | rfl <;> rfl

theorem regN_one {op : Int} (h : op = 1 ∨ op = 17) : Dk.regN op = 1 := by rcases h with rfl | rfl <;> rfl
theorem regN_two {op : Int} (h : op = 2 ∨ op = 14 ∨ op = 15 ∨ op = 18 ∨ op = 19) : Dk.regN op = 2 := by rcases h with rfl | rfl | rfl | rfl | rfl <;> rfl
theorem regN_three' {op : Int} (h : 3 ≤ op ∧ op ≤ 13) : Dk.regN op = 3 := Dk.regN_three (by omega)

theorem plains_code (f : Dk.Frm) (op a b c : Int) (n : Nat) (A : Option Addr) (L C : Nat) (m : List Nat) (w : World) (hr : Dk.Row 1 0 Dk.IsWord w.heap.size w A L C m) (hL : L ≤ 200) (hc : Dk.codeB ⟨op, a, b, c, n⟩ = false) (hP : ErrSaid f ⟨op, a, b, c, n⟩ A L C m 8) :
    Calls Try.prog 5 #[Dk.fv f, .agg #[.int .i64 op, .int .i64 a, .int .i64 b, .int .i64 c, .int .u64 (n : Nat)], .slice A L C] w fun e w' => e = .returned (.bool true) ∧ Below w.heap.size w w' := by
  by_cases h1 : 1 ≤ op
  · by_cases h2 : op ≤ 19
    · have e1 : decide ((1 : Int) ≤ op) = true := decide_eq_true h1
      have e2 : decide (op ≤ 19) = true := decide_eq_true h2
      have hin : Dk.withinB op 1 19 = true := by unfold Dk.withinB; rw [e1, e2]; rfl
      have hall : ([a, b, c].take (Dk.regN op)).all (fun r => Dk.plB r 8) = false := by
        unfold Dk.codeB Dk.regs at hc
        simp only at hc
        rw [hin, Bool.true_and] at hc
        exact hc
      have h16 : op ≠ 16 := by
        rintro rfl
        simp [show Dk.regN 16 = 0 from rfl] at hall
      have e16 : (op != 16) = true := by simpa using h16
      cases ha : Dk.plB a 8
      · exact plains_err2 f op a b c n A L C m w hr hL hP e1 e2 e16 _ rfl ha
      · by_cases k1 : op = 1 ∨ op = 17
        · exfalso
          rw [regN_one k1] at hall
          simp [ha] at hall
        · by_cases k2 : op = 2 ∨ op = 14 ∨ op = 15 ∨ op = 18 ∨ op = 19
          · cases hb : Dk.plB b 8
            · exact plains_err3 f op a b c n A L C m w hr hL hP e1 e2 e16 3 (size_two k2) rfl ha hb
            · exfalso
              rw [regN_two k2] at hall
              simp [ha, hb] at hall
          · have k3 : 3 ≤ op ∧ op ≤ 13 := by omega
            cases hb : Dk.plB b 8
            · exact plains_err3 f op a b c n A L C m w hr hL hP e1 e2 e16 4 (size_three k3) rfl ha hb
            · cases hcc : Dk.plB c 8
              · exact plains_err4 f op a b c n A L C m w hr hL hP e1 e2 e16 (size_three k3) ha hb hcc
              · exfalso
                rw [regN_three' k3] at hall
                simp [ha, hb, hcc] at hall
    · exact plains_err1 f op a b c n A L C m w hr hL hP (decide_eq_true h1) (decide_eq_false h2)
  · exact plains_err0 f op a b c n A L C m w hr hL hP (decide_eq_false h1)

theorem plains_any (f : Dk.Frm) (i : Dk.Ins) (A : Option Addr) (L C : Nat) (m : List Nat) (w : World) (hf : f.ok) (hi : i.ok) (hr : Dk.Row 1 0 Dk.IsWord w.heap.size w A L C m) :
    Calls Try.prog 5 #[Dk.fv f, Dk.iv i, .slice A L C] w fun e w' => e = .returned (.bool true) ∧ Below w.heap.size w w' := by
  obtain ⟨op, a, b, c, n⟩ := i
  by_cases hL : 200 < L
  · exact plains_long f op a b c n A L C m w hr hL
  have hL' : L ≤ 200 := by omega
  have hlen := hr.len
  have hww := row_words hr
  rcases plain_cases f ⟨op, a, b, c, n⟩ A L C m hf hi (by omega) with ⟨hc, hP⟩ | ⟨hc, hx, hP⟩ | ⟨hc, hx, hP⟩
  · exact plains_code f op a b c n A L C m w hr hL' hc hP
  · obtain ⟨ra, rb, rc⟩ := Dk.code_regs hc
    simp only at ra rb rc
    unfold Dk.faultB at hx
    simp only [Bool.or_eq_true, Bool.and_eq_true, decide_eq_true_eq] at hx
    rcases hx with ⟨rfl, hx⟩ | ⟨rfl, hx⟩
    · exact plains_load_bad f a b c n A L C m w hr hL' hP (Dk.plB_iff.2 (ra (by decide))) (Dk.plB_iff.2 (rb (by decide))) hx
    · exact plains_store_bad f a b c n A L C m w hr hL' hP (Dk.plB_iff.2 (ra (by decide))) (Dk.plB_iff.2 (rb (by decide))) hx
  · obtain ⟨ra, rb, rc⟩ := Dk.code_regs hc
    have ho := Dk.code_op hc
    simp only at ra rb rc ho
    by_cases h16 : op = 16
    · subst h16
      exact plains_jump f a b c n A L C m w hr hL' _ hP hlen hww rfl
    by_cases h17 : op = 17
    · subst h17
      have ha := Dk.plB_iff.2 (ra (by decide))
      have eM : Dk.doneM f ⟨17, a, b, c, n⟩ m = m := rfl
      rw [eM] at hP
      by_cases hz : f.r a.toNat = 0
      · have eF : Dk.doneF f ⟨17, a, b, c, n⟩ m = f.to (wrap64 n) := by unfold Dk.doneF; simp [hz]
        rw [eF] at hP
        exact plains_zero1 f a b c n A L C m w hr hL' _ hP hlen hww ha (by simp [hz]) rfl
      · have eF : Dk.doneF f ⟨17, a, b, c, n⟩ m = f.to (wrap64 (f.pc + 1)) := by unfold Dk.doneF; simp [hz]
        rw [eF] at hP
        exact plains_zero2 f a b c n A L C m w hr hL' _ hP hlen hww ha (by simp; omega) rfl
    by_cases h1 : op = 1
    · subst h1
      exact plains_set f a b c n A L C m w hr hL' _ hP hlen hww (Dk.plB_iff.2 (ra (by decide))) rfl
    by_cases h18 : op = 18
    · subst h18
      have hx' : f.r b.toNat < L := by simpa [Dk.faultB] using hx
      exact plains_load f a b c n A L C m w hr hL' _ hP hlen hww (Dk.plB_iff.2 (ra (by decide))) (Dk.plB_iff.2 (rb (by decide))) hx' _ rfl rfl
    by_cases h19 : op = 19
    · subst h19
      have hx' : f.r a.toNat < L := by simpa [Dk.faultB] using hx
      exact plains_store f a b c n A L C m w hr hL' _ _ hP (by rw [Dk.doneM_len]; exact hlen) (doneM_words f _ m hf hww) (Dk.plB_iff.2 (ra (by decide))) (Dk.plB_iff.2 (rb (by decide))) hx' rfl rfl
    by_cases h2 : op = 2 ∨ op = 14 ∨ op = 15
    · rcases h2 with rfl | rfl | rfl
      · exact plains_move2 f a b c n A L C m w hr hL' _ hP hlen hww (Dk.plB_iff.2 (ra (by decide))) (Dk.plB_iff.2 (rb (by decide))) hf _ rfl rfl
      · exact plains_move14 f a b c n A L C m w hr hL' _ hP hlen hww (Dk.plB_iff.2 (ra (by decide))) (Dk.plB_iff.2 (rb (by decide))) hf _ rfl rfl
      · exact plains_move15 f a b c n A L C m w hr hL' _ hP hlen hww (Dk.plB_iff.2 (ra (by decide))) (Dk.plB_iff.2 (rb (by decide))) hf _ rfl rfl
    · have h3 : 3 ≤ op ∧ op ≤ 13 := by omega
      have er := regN_three' h3
      have eM : Dk.doneM f ⟨op, a, b, c, n⟩ m = m := by unfold Dk.doneM; rw [if_neg (by simpa using h19)]
      have eF : Dk.doneF f ⟨op, a, b, c, n⟩ m = (f.to (wrap64 (f.pc + 1))).set a.toNat (Dk.ariW op (f.r b.toNat) (f.r c.toNat)) := by
        unfold Dk.doneF
        simp only [h16, h17, h1, h18, h19, h2, if_false]
      rw [eM, eF] at hP
      exact plains_three f op a b c n A L C m w hr hL' _ hP hlen hww (Dk.plB_iff.2 (ra (by omega))) (Dk.plB_iff.2 (rb (by omega))) (Dk.plB_iff.2 (rc (by omega))) h3 (size_three h3) hf _ rfl rfl

end Go.Proofs.Ytmkeniobnjpohaa
