/- Plain mathematics of layer 3: what plain instructions do. No program is spoken of here. -/
import Derived.Test.YtmkeniobnjpohaaOpn
import Derived.Test.YtmkeniobnjpohaaConv
namespace Dk
set_option linter.unusedSimpArgs false
set_option linter.unusedVariables false
set_option linter.unnecessarySimpa false
open Go Go.RowKit

/-- What two words come to. -/
def ariW (op : Int) (a b : Nat) : Nat :=
  if op = 2 then a
  else if op = 3 then (a + b) % 18446744073709551616
  else if op = 4 then (a + (18446744073709551616 - b)) % 18446744073709551616
  else if op = 5 then a * b % 18446744073709551616
  else if op = 6 then (if a < b then 1 else 0)
  else if op = 7 then nAdd a b
  else if op = 8 then nSub a b
  else if op = 9 then nMul a b
  else if op = 10 then nDiv a b
  else if op = 11 then nMin a b
  else if op = 12 then nMax a b
  else if op = 13 then (if lt a b then 1 else 0)
  else if op = 14 then tI a
  else if op = 15 then tF a
  else 0
def ariB (op : Int) : Bool := decide (2 ≤ op ∧ op ≤ 15)

theorem ariW_out {op : Int} {a b : Nat} (h : ¬ (2 ≤ op ∧ op ≤ 15)) : ariW op a b = 0 := by
  unfold ariW
  repeat rw [if_neg (by omega)]

/-- Is it a place in something that has so many? -/
def plB (x n : Int) : Bool := decide (0 ≤ x) && decide (x < n)
theorem plB_iff {x n : Int} : plB x n = true ↔ 0 ≤ x ∧ x < n := by simp [plB]
theorem plB_no {x n : Int} : plB x n = false ↔ ¬ (0 ≤ x ∧ x < n) := by rw [← Bool.not_eq_true, plB_iff]

/-- How many registers a plain instruction has, and which. -/
def regN (op : Int) : Nat := if op = 16 then 0 else if op = 1 ∨ op = 17 then 1 else if op = 2 ∨ op = 14 ∨ op = 15 ∨ op = 18 ∨ op = 19 then 2 else 3
def regs (i : Ins) : List Int := [i.a, i.b, i.c].take (regN i.op)
theorem regN_le (op : Int) : regN op ≤ 3 := by
  unfold regN
  split
  · omega
  · split
    · omega
    · split <;> omega
theorem regs_len (i : Ins) : (regs i).length = regN i.op := by have := regN_le i.op; simp [regs]; omega

/-- May the instruction's code be? -/
def codeB (i : Ins) : Bool := withinB i.op 1 19 && (regs i).all fun r => plB r 8
/-- Is an address asked for that has no word? -/
def faultB (f : Frm) (i : Ins) (L : Nat) : Bool := (decide (i.op = 18) && decide (L ≤ f.r i.b.toNat)) || (decide (i.op = 19) && decide (L ≤ f.r i.a.toNat))
/-- What an instruction's error is. -/
def errB (f : Frm) (i : Ins) (L : Nat) : Int := if codeB i = false then 8 else if faultB f i L = true then 6 else 0

def Frm.set (f : Frm) (k v : Nat) : Frm := ⟨f.fn, f.pc, fun j => if j = k then v else f.r j⟩
def Frm.to (f : Frm) (pc : Int) : Frm := ⟨f.fn, pc, f.r⟩
def Frm.zero : Frm := ⟨0, 0, fun _ => 0⟩

/-- The frame behind an instruction. -/
def doneF (f : Frm) (i : Ins) (m : List Nat) : Frm :=
  if i.op = 16 then f.to (wrap64 i.n)
  else if i.op = 17 then (if f.r i.a.toNat = 0 then f.to (wrap64 i.n) else f.to (wrap64 (f.pc + 1)))
  else if i.op = 1 then (f.to (wrap64 (f.pc + 1))).set i.a.toNat i.n
  else if i.op = 18 then (f.to (wrap64 (f.pc + 1))).set i.a.toNat (m.getD (f.r i.b.toNat) 0)
  else if i.op = 19 then f.to (wrap64 (f.pc + 1))
  else if i.op = 2 ∨ i.op = 14 ∨ i.op = 15 then (f.to (wrap64 (f.pc + 1))).set i.a.toNat (ariW i.op (f.r i.b.toNat) 0)
  else (f.to (wrap64 (f.pc + 1))).set i.a.toNat (ariW i.op (f.r i.b.toNat) (f.r i.c.toNat))
/-- The words behind it. -/
def doneM (f : Frm) (i : Ins) (m : List Nat) : List Nat := if i.op = 19 then m.set (f.r i.a.toNat) (f.r i.b.toNat) else m

theorem doneM_len (f : Frm) (i : Ins) (m : List Nat) : (doneM f i m).length = m.length := by unfold doneM; split <;> simp

end Dk
