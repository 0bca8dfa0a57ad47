import Derived.Test.YtpnajphbjfehnaaGreatChecked
import Derived.Test.YtpnajphbjfehnaaGreatRows
import Ieee.Arith
import Derived.Laws.FloatBits
set_option linter.unusedSimpArgs false
set_option linter.unusedVariables false
set_option linter.unnecessarySimpa false
set_option maxHeartbeats 8000000
set_option maxRecDepth 100000
theorem zA {α : Type _} {l : List α} {i : Nat} {a : α} : l.toArray.setIfInBounds i a = (l.set i a).toArray := by rw [List.setIfInBounds_toArray]
theorem zB {α : Type _} {x a : α} {xs : List α} {n : Nat} : (x :: xs).set (n + 1) a = x :: xs.set n a := by rw [List.set_cons_succ]
theorem zC {α : Type _} {x a : α} {xs : List α} : (x :: xs).set 0 a = a :: xs := by rw [List.set_cons_zero]
theorem zD : (∀ (a : Go.Act) (d : Go.Tmp) (v : Go.Value), a.put (some d) v = { a with tmps := a.tmps.setIfInBounds d v }) ∧ (∀ (a : Go.Act) (v : Go.Value), a.put none v = a) ∧ (∀ (l : List Go.Value) (i : Nat) (a : Go.Value), l.toArray.setIfInBounds i a = (l.set i a).toArray) ∧ (∀ (x a : Go.Value) (xs : List Go.Value) (n : Nat), (x :: xs).set (n + 1) a = x :: xs.set n a) ∧ (∀ (x a : Go.Value) (xs : List Go.Value), (x :: xs).set 0 a = a :: xs) := ⟨fun _ _ _ => rfl, fun _ _ => rfl, fun l i a => by rw [List.setIfInBounds_toArray], fun _ _ _ _ => by rw [List.set_cons_succ], fun _ _ _ => by rw [List.set_cons_zero]⟩
namespace Dk
open Ieee
theorem sw:Ieee.double.signWeight=9223372036854775808:=by decide
theorem fb:Ieee.double.fractionBits=52:=rfl
def sg (a:Nat):Bool:=a / 9223372036854775808 % 2 == 1
def rg (a:Nat):Nat:=a % 9223372036854775808
def ex (r:Nat):Nat:=r / 4503599627370496 - 1
def mg (r:Nat):Nat:=if r < 4503599627370496 then r else 4503599627370496+r % 4503599627370496
def vl (r:Nat):Nat:=mg r*2 ^ ex r
def nn (a:Nat):Bool:=decide (9218868437227405312 < rg a)
def key (a:Nat):Int:=if sg a then -(rg a:Int) else rg a
theorem mg_lt (r:Nat):mg r < 9007199254740992:=by unfold mg;split <;> omega
theorem word_eq (s:Bool) (r:Nat):double.word s r=if s then 9223372036854775808+r else r:=by unfold Format.word;rw [sw]
def out (o:Option Nat):Nat:=o.getD 9221120237041090560
def nAdd (a b:Nat):Nat:=out (double.add a b)
def nSub (a b:Nat):Nat:=out (double.sub a b)
def nMul (a b:Nat):Nat:=out (double.mul a b)
def nDiv (a b:Nat):Nat:=out (double.div a b)
theorem nAdd_lt (a b:Nat):nAdd a b < 18446744073709551616:=by
 unfold nAdd out;cases h:double.add a b with
 | none=>decide
 | some r=>exact Ieee.Format.add_lt double h
theorem nSub_lt (a b:Nat):nSub a b < 18446744073709551616:=by
 unfold nSub out;cases h:double.sub a b with
 | none=>decide
 | some r=>exact Ieee.Format.sub_lt double h
theorem nMul_lt (a b:Nat):nMul a b < 18446744073709551616:=by
 unfold nMul out;cases h:double.mul a b with
 | none=>decide
 | some r=>exact Ieee.Format.mul_lt double h
theorem nDiv_lt (a b:Nat):nDiv a b < 18446744073709551616:=by
 unfold nDiv out;cases h:double.div a b with
 | none=>decide
 | some r=>exact Ieee.Format.div_lt double h
def lt (a b:Nat):Bool:=!nn a && !nn b && decide (key a < key b)
def eq (a b:Nat):Bool:=!nn a && !nn b && decide (key a=key b)
end Dk
