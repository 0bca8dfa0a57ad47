/- The walk of the document's own answer on instructions. -/
import Derived.Test.YtmapmhcmeokahaaHas
import Derived.Test.YtmapmhcmeokahaaSound
import Derived.Deep.QuietTactic
import Derived.BigQuiet
import Derived.Deep.RegionWith
import Derived.Laws.Closers25
namespace Go.Proofs.Ytmapmhcmeokahaa
set_option linter.unusedSimpArgs false
set_option linter.unusedVariables false
set_option linter.unnecessarySimpa false
open Go.RowKit

theorem in65 (S : ByteArray) (x : Bool) (w : World) (hs : S.size ≤ maxLen) (h : Dk.inB S.data.toList 65 = x) : Calls Try.prog 19 #[.string S, .int .u8 65] w fun e w' => e = .returned (.bool x) ∧ w' = w := by rw [← h]; exact in_any S 65 w hs
theorem in66 (S : ByteArray) (x : Bool) (w : World) (hs : S.size ≤ maxLen) (h : Dk.inB S.data.toList 66 = x) : Calls Try.prog 19 #[.string S, .int .u8 66] w fun e w' => e = .returned (.bool x) ∧ w' = w := by rw [← h]; exact in_any S 66 w hs
theorem in67 (S : ByteArray) (x : Bool) (w : World) (hs : S.size ≤ maxLen) (h : Dk.inB S.data.toList 67 = x) : Calls Try.prog 19 #[.string S, .int .u8 67] w fun e w' => e = .returned (.bool x) ∧ w' = w := by rw [← h]; exact in_any S 67 w hs
theorem in77 (S : ByteArray) (x : Bool) (w : World) (hs : S.size ≤ maxLen) (h : Dk.inB S.data.toList 77 = x) : Calls Try.prog 19 #[.string S, .int .u8 77] w fun e w' => e = .returned (.bool x) ∧ w' = w := by rw [← h]; exact in_any S 77 w hs
theorem field_is (n m : Int) (is r : Bool) (w : World) (h : Dk.fieldB n is m = r) : Calls Try.prog 18 #[.int .i64 n, .bool is, .int .i64 m] w fun e w' => e = .returned (.bool r) ∧ w' = w := by rw [← h]; exact field_any n m is w

/-- What is left behind the registers, as the walk comes to it. -/
def rlMost (s : Dk.Sh) (p : Dk.Prg) (k : Int) : Int := if (k == 99) = true then 257 else if (k == 102) = true then s.fL else if (k == 109) = true then p.mutexes else if (k == 107) = true then p.conds else if (k == 115) = true then s.sL else if (k == 112) = true then s.pL else 0
def rl (s : Dk.Sh) (p : Dk.Prg) (k : Int) (n : Nat) : Bool := if (k == 120) = true then true else if (k == 110) = true then ((n : Int) == 0) else decide (0 < rlMost s p k) && decide ((n : Int) < IntKind.u64.wrap (rlMost s p k))

theorem letter (c k : UInt8) : (((c.toNat : Int) == (k.toNat : Int)) = true) = (c = k) := by
  apply propext
  constructor
  · intro h; exact byte_eq h
  · rintro rfl; simp
theorem rl_eq {s : Dk.Sh} {p : Dk.Prg} (hs : Lens s p) (c : UInt8) (n : Nat) : rl s p c.toNat n = Dk.rlast p c n := by
  have e120 : (((c.toNat : Int) == 120) = true) = (c = 120) := letter c 120
  have e110 : (((c.toNat : Int) == 110) = true) = (c = 110) := letter c 110
  have e99 : (((c.toNat : Int) == 99) = true) = (c = 99) := letter c 99
  have e102 : (((c.toNat : Int) == 102) = true) = (c = 102) := letter c 102
  have e109 : (((c.toNat : Int) == 109) = true) = (c = 109) := letter c 109
  have e107 : (((c.toNat : Int) == 107) = true) = (c = 107) := letter c 107
  have e115 : (((c.toNat : Int) == 115) = true) = (c = 115) := letter c 115
  have e112 : (((c.toNat : Int) == 112) = true) = (c = 112) := letter c 112
  have em : rlMost s p c.toNat = Dk.most p c := by
    unfold rlMost Dk.most
    simp only [e99, e102, e109, e107, e115, e112]
    rw [hs.ef, hs.es, hs.ep]
  unfold rl Dk.rlast
  rw [em, conv_u64]
  simp only [e120, e110]
  by_cases h : c = 120
  · rw [if_pos h, if_pos h]
  · rw [if_neg h, if_neg h]
    by_cases h2 : c = 110
    · rw [if_pos h2, if_pos h2, Bool.eq_iff_iff]; simp
    · rw [if_neg h2, if_neg h2]

set_option maxHeartbeats 1000000 in
theorem rs_e (s : Dk.Sh) (p : Dk.Prg) (i : Dk.Ins) (w : World) (S : ByteArray) (a b c : Bool) (hS : hasS i.op = S) (hsz : S.size ≤ maxLen) (hem : S.toList.isEmpty = true) (HR : Hid (Dk.rsoundB p i = false)) :
    Calls Try.prog 10 #[Dk.pv s p, Dk.iv i] w fun e w' => e = .returned (.bool (Dk.rsoundB p i)) ∧ Below w.heap.size w w' := by
  have hsz' : S.size ≤ maxLen := hsz
  unfold maxLen at hsz
  have HS : Hid (hasS i.op = S) := hS
  clear hS
  go_enter Try.func10, Try.ntmps10
  go_wp2_with fail
  refine (Has_any _ _).mono ?_
  rintro e w1 ⟨rfl, hb1⟩
  rw [HS.out]
  have bi := Dk.box_cell hb1
  have bp := Dk.box_cell (Dk.up_call (Dk.up_alloc (Below.refl _ _) _) hb1)
  simp only [World.size_alloc] at bi
  have u1 : Below w.heap.size w w1 := Dk.up_call (Dk.up_alloc (Dk.up_alloc (Below.refl _ _) _) _) hb1
  clear hb1
  go_wp2_with fail
  go_quiet (fail)
  go_wp2_with fail
  go_ret
  exact ⟨ret_bool HR.out.symm, Dk.up_drewN u1 _⟩

set_option maxHeartbeats 1000000 in
theorem rs_a (s : Dk.Sh) (p : Dk.Prg) (i : Dk.Ins) (w : World) (S : ByteArray) (a b c : Bool) (hS : hasS i.op = S) (hsz : S.size ≤ maxLen) (hem : S.toList.isEmpty = false) (HR : Hid (Dk.rsoundB p i = false)) (ia : Hid (Dk.inB S.data.toList 65 = a)) (fa : Hid (Dk.fieldB i.a a 8 = false)) :
    Calls Try.prog 10 #[Dk.pv s p, Dk.iv i] w fun e w' => e = .returned (.bool (Dk.rsoundB p i)) ∧ Below w.heap.size w w' := by
  have hsz' : S.size ≤ maxLen := hsz
  unfold maxLen at hsz
  have HS : Hid (hasS i.op = S) := hS
  clear hS
  go_enter Try.func10, Try.ntmps10
  go_wp2_with fail
  refine (Has_any _ _).mono ?_
  rintro e w1 ⟨rfl, hb1⟩
  rw [HS.out]
  have bi := Dk.box_cell hb1
  have bp := Dk.box_cell (Dk.up_call (Dk.up_alloc (Below.refl _ _) _) hb1)
  simp only [World.size_alloc] at bi
  have u1 : Below w.heap.size w w1 := Dk.up_call (Dk.up_alloc (Dk.up_alloc (Below.refl _ _) _) _) hb1
  clear hb1
  go_wp2_with fail
  go_quiet ((first | (go_at_call_of 19 (Value.int .u8 65); exact Calls.quiet_of_same (in65 S a _ hsz' ia.out)) | (go_at_call_of 18 (Value.int .i64 i.a); exact Calls.quiet_of_same (field_is i.a 8 a false _ fa.out))))
  go_wp2_with fail
  go_ret
  exact ⟨ret_bool HR.out.symm, Dk.up_drewN u1 _⟩

set_option maxHeartbeats 1000000 in
theorem rs_b (s : Dk.Sh) (p : Dk.Prg) (i : Dk.Ins) (w : World) (S : ByteArray) (a b c : Bool) (hS : hasS i.op = S) (hsz : S.size ≤ maxLen) (hem : S.toList.isEmpty = false) (HR : Hid (Dk.rsoundB p i = false)) (ia : Hid (Dk.inB S.data.toList 65 = a)) (fa : Hid (Dk.fieldB i.a a 8 = true)) (ib : Hid (Dk.inB S.data.toList 66 = b)) (fb : Hid (Dk.fieldB i.b b 8 = false)) :
    Calls Try.prog 10 #[Dk.pv s p, Dk.iv i] w fun e w' => e = .returned (.bool (Dk.rsoundB p i)) ∧ Below w.heap.size w w' := by
  have hsz' : S.size ≤ maxLen := hsz
  unfold maxLen at hsz
  have HS : Hid (hasS i.op = S) := hS
  clear hS
  go_enter Try.func10, Try.ntmps10
  go_wp2_with fail
  refine (Has_any _ _).mono ?_
  rintro e w1 ⟨rfl, hb1⟩
  rw [HS.out]
  have bi := Dk.box_cell hb1
  have bp := Dk.box_cell (Dk.up_call (Dk.up_alloc (Below.refl _ _) _) hb1)
  simp only [World.size_alloc] at bi
  have u1 : Below w.heap.size w w1 := Dk.up_call (Dk.up_alloc (Dk.up_alloc (Below.refl _ _) _) _) hb1
  clear hb1
  go_wp2_with fail
  go_quiet ((first | (go_at_call_of 19 (Value.int .u8 65); exact Calls.quiet_of_same (in65 S a _ hsz' ia.out)) | (go_at_call_of 18 (Value.int .i64 i.a); exact Calls.quiet_of_same (field_is i.a 8 a true _ fa.out)) | (go_at_call_of 19 (Value.int .u8 66); exact Calls.quiet_of_same (in66 S b _ hsz' ib.out)) | (go_at_call_of 18 (Value.int .i64 i.b); exact Calls.quiet_of_same (field_is i.b 8 b false _ fb.out))))
  go_wp2_with fail
  go_ret
  exact ⟨ret_bool HR.out.symm, Dk.up_drewN u1 _⟩

set_option maxHeartbeats 1000000 in
theorem rs_m0 (s : Dk.Sh) (p : Dk.Prg) (i : Dk.Ins) (w : World) (S : ByteArray) (a b c : Bool) (hS : hasS i.op = S) (hsz : S.size ≤ maxLen) (hem : S.toList.isEmpty = false) (HR : Hid (Dk.rsoundB p i = false)) (ia : Hid (Dk.inB S.data.toList 65 = a)) (fa : Hid (Dk.fieldB i.a a 8 = true)) (ib : Hid (Dk.inB S.data.toList 66 = b)) (fb : Hid (Dk.fieldB i.b b 8 = true)) (im : Hid (Dk.inB S.data.toList 77 = true)) (fc : Hid (Dk.fieldB i.c true p.mutexes = false)) :
    Calls Try.prog 10 #[Dk.pv s p, Dk.iv i] w fun e w' => e = .returned (.bool (Dk.rsoundB p i)) ∧ Below w.heap.size w w' := by
  have hsz' : S.size ≤ maxLen := hsz
  unfold maxLen at hsz
  have HS : Hid (hasS i.op = S) := hS
  clear hS
  go_enter Try.func10, Try.ntmps10
  go_wp2_with fail
  refine (Has_any _ _).mono ?_
  rintro e w1 ⟨rfl, hb1⟩
  rw [HS.out]
  have bi := Dk.box_cell hb1
  have bp := Dk.box_cell (Dk.up_call (Dk.up_alloc (Below.refl _ _) _) hb1)
  simp only [World.size_alloc] at bi
  have u1 : Below w.heap.size w w1 := Dk.up_call (Dk.up_alloc (Dk.up_alloc (Below.refl _ _) _) _) hb1
  clear hb1
  go_wp2_with fail
  go_quiet ((first | (go_at_call_of 19 (Value.int .u8 65); exact Calls.quiet_of_same (in65 S a _ hsz' ia.out)) | (go_at_call_of 18 (Value.int .i64 i.a); exact Calls.quiet_of_same (field_is i.a 8 a true _ fa.out)) | (go_at_call_of 19 (Value.int .u8 66); exact Calls.quiet_of_same (in66 S b _ hsz' ib.out)) | (go_at_call_of 18 (Value.int .i64 i.b); exact Calls.quiet_of_same (field_is i.b 8 b true _ fb.out))))
  have u2 : Below w.heap.size w (w1.drewN nq) := Dk.up_drewN u1 nq
  have bi2 : ∀ o, (w1.drewN nq).cell? ⟨w.heap.size + 1, o, none⟩ = _ := bi
  have bp2 : ∀ o, (w1.drewN nq).cell? ⟨w.heap.size, o, none⟩ = _ := bp
  clear bi bp u1
  generalize w1.drewN nq = w2 at *
  go_wp2_with fail
  refine (in77 S true _ hsz' im.out).mono ?_
  rintro e w' ⟨rfl, rfl⟩
  go_wp2_with fail
  refine (field_is i.c p.mutexes true false _ fc.out).mono ?_
  rintro e w' ⟨rfl, rfl⟩
  go_wp2_with fail
  go_ret
  exact ⟨ret_bool HR.out.symm, u2⟩

set_option maxHeartbeats 1000000 in
theorem rs_m1 (s : Dk.Sh) (p : Dk.Prg) (i : Dk.Ins) (w : World) (S : ByteArray) (a b c : Bool) (hS : hasS i.op = S) (hsz : S.size ≤ maxLen) (hem : S.toList.isEmpty = false) (hpos : 0 < S.size) (HR : Hid (Dk.rsoundB p i = rl s p (S[S.size - 1]'(by omega)).toNat i.n)) (ia : Hid (Dk.inB S.data.toList 65 = a)) (fa : Hid (Dk.fieldB i.a a 8 = true)) (ib : Hid (Dk.inB S.data.toList 66 = b)) (fb : Hid (Dk.fieldB i.b b 8 = true)) (im : Hid (Dk.inB S.data.toList 77 = true)) (fc : Hid (Dk.fieldB i.c true p.mutexes = true)) :
    Calls Try.prog 10 #[Dk.pv s p, Dk.iv i] w fun e w' => e = .returned (.bool (Dk.rsoundB p i)) ∧ Below w.heap.size w w' := by
  have hsz' : S.size ≤ maxLen := hsz
  unfold maxLen at hsz
  have HS : Hid (hasS i.op = S) := hS
  clear hS
  go_enter Try.func10, Try.ntmps10
  go_wp2_with fail
  refine (Has_any _ _).mono ?_
  rintro e w1 ⟨rfl, hb1⟩
  rw [HS.out]
  have bi := Dk.box_cell hb1
  have bp := Dk.box_cell (Dk.up_call (Dk.up_alloc (Below.refl _ _) _) hb1)
  simp only [World.size_alloc] at bi
  have u1 : Below w.heap.size w w1 := Dk.up_call (Dk.up_alloc (Dk.up_alloc (Below.refl _ _) _) _) hb1
  clear hb1
  go_wp2_with fail
  go_quiet ((first | (go_at_call_of 19 (Value.int .u8 65); exact Calls.quiet_of_same (in65 S a _ hsz' ia.out)) | (go_at_call_of 18 (Value.int .i64 i.a); exact Calls.quiet_of_same (field_is i.a 8 a true _ fa.out)) | (go_at_call_of 19 (Value.int .u8 66); exact Calls.quiet_of_same (in66 S b _ hsz' ib.out)) | (go_at_call_of 18 (Value.int .i64 i.b); exact Calls.quiet_of_same (field_is i.b 8 b true _ fb.out))))
  have u2 : Below w.heap.size w (w1.drewN nq) := Dk.up_drewN u1 nq
  have bi2 : ∀ o, (w1.drewN nq).cell? ⟨w.heap.size + 1, o, none⟩ = _ := bi
  have bp2 : ∀ o, (w1.drewN nq).cell? ⟨w.heap.size, o, none⟩ = _ := bp
  clear bi bp u1
  generalize w1.drewN nq = w2 at *
  go_wp2_with fail
  refine (in77 S true _ hsz' im.out).mono ?_
  rintro e w' ⟨rfl, rfl⟩
  go_wp2_with fail
  refine (field_is i.c p.mutexes true true _ fc.out).mono ?_
  rintro e w' ⟨rfl, rfl⟩
  go_wp2_with fail
  all_goals
    go_ret
    refine ⟨ret_bool ?_, u2⟩
    rw [HR.out]
    unfold rl rlMost
    simp [*] <;> first | rw [show IntKind.u64.wrap 257 = 257 from by decide] | (intro h; omega)

set_option maxHeartbeats 1000000 in
theorem rs_n0 (s : Dk.Sh) (p : Dk.Prg) (i : Dk.Ins) (w : World) (S : ByteArray) (a b c : Bool) (hS : hasS i.op = S) (hsz : S.size ≤ maxLen) (hem : S.toList.isEmpty = false) (HR : Hid (Dk.rsoundB p i = false)) (ia : Hid (Dk.inB S.data.toList 65 = a)) (fa : Hid (Dk.fieldB i.a a 8 = true)) (ib : Hid (Dk.inB S.data.toList 66 = b)) (fb : Hid (Dk.fieldB i.b b 8 = true)) (im : Hid (Dk.inB S.data.toList 77 = false)) (ic : Hid (Dk.inB S.data.toList 67 = c)) (fc : Hid (Dk.fieldB i.c c 8 = false)) :
    Calls Try.prog 10 #[Dk.pv s p, Dk.iv i] w fun e w' => e = .returned (.bool (Dk.rsoundB p i)) ∧ Below w.heap.size w w' := by
  have hsz' : S.size ≤ maxLen := hsz
  unfold maxLen at hsz
  have HS : Hid (hasS i.op = S) := hS
  clear hS
  go_enter Try.func10, Try.ntmps10
  go_wp2_with fail
  refine (Has_any _ _).mono ?_
  rintro e w1 ⟨rfl, hb1⟩
  rw [HS.out]
  have bi := Dk.box_cell hb1
  have bp := Dk.box_cell (Dk.up_call (Dk.up_alloc (Below.refl _ _) _) hb1)
  simp only [World.size_alloc] at bi
  have u1 : Below w.heap.size w w1 := Dk.up_call (Dk.up_alloc (Dk.up_alloc (Below.refl _ _) _) _) hb1
  clear hb1
  go_wp2_with fail
  go_quiet ((first | (go_at_call_of 19 (Value.int .u8 65); exact Calls.quiet_of_same (in65 S a _ hsz' ia.out)) | (go_at_call_of 18 (Value.int .i64 i.a); exact Calls.quiet_of_same (field_is i.a 8 a true _ fa.out)) | (go_at_call_of 19 (Value.int .u8 66); exact Calls.quiet_of_same (in66 S b _ hsz' ib.out)) | (go_at_call_of 18 (Value.int .i64 i.b); exact Calls.quiet_of_same (field_is i.b 8 b true _ fb.out))))
  have u2 : Below w.heap.size w (w1.drewN nq) := Dk.up_drewN u1 nq
  have bi2 : ∀ o, (w1.drewN nq).cell? ⟨w.heap.size + 1, o, none⟩ = _ := bi
  have bp2 : ∀ o, (w1.drewN nq).cell? ⟨w.heap.size, o, none⟩ = _ := bp
  clear bi bp u1
  generalize w1.drewN nq = w2 at *
  go_wp2_with fail
  refine (in77 S false _ hsz' im.out).mono ?_
  rintro e w' ⟨rfl, rfl⟩
  go_wp2_with fail
  go_quiet ((first | (go_at_call_of 19 (Value.int .u8 67); exact Calls.quiet_of_same (in67 S c _ hsz' ic.out)) | (go_at_call_of 18 (Value.int .i64 i.c); exact Calls.quiet_of_same (field_is i.c 8 c false _ fc.out))))
  go_wp2_with fail
  go_ret
  exact ⟨ret_bool HR.out.symm, Dk.up_drewN u2 _⟩

set_option maxHeartbeats 1000000 in
theorem rs_n1 (s : Dk.Sh) (p : Dk.Prg) (i : Dk.Ins) (w : World) (S : ByteArray) (a b c : Bool) (hS : hasS i.op = S) (hsz : S.size ≤ maxLen) (hem : S.toList.isEmpty = false) (hpos : 0 < S.size) (HR : Hid (Dk.rsoundB p i = rl s p (S[S.size - 1]'(by omega)).toNat i.n)) (ia : Hid (Dk.inB S.data.toList 65 = a)) (fa : Hid (Dk.fieldB i.a a 8 = true)) (ib : Hid (Dk.inB S.data.toList 66 = b)) (fb : Hid (Dk.fieldB i.b b 8 = true)) (im : Hid (Dk.inB S.data.toList 77 = false)) (ic : Hid (Dk.inB S.data.toList 67 = c)) (fc : Hid (Dk.fieldB i.c c 8 = true)) :
    Calls Try.prog 10 #[Dk.pv s p, Dk.iv i] w fun e w' => e = .returned (.bool (Dk.rsoundB p i)) ∧ Below w.heap.size w w' := by
  have hsz' : S.size ≤ maxLen := hsz
  unfold maxLen at hsz
  have HS : Hid (hasS i.op = S) := hS
  clear hS
  go_enter Try.func10, Try.ntmps10
  go_wp2_with fail
  refine (Has_any _ _).mono ?_
  rintro e w1 ⟨rfl, hb1⟩
  rw [HS.out]
  have bi := Dk.box_cell hb1
  have bp := Dk.box_cell (Dk.up_call (Dk.up_alloc (Below.refl _ _) _) hb1)
  simp only [World.size_alloc] at bi
  have u1 : Below w.heap.size w w1 := Dk.up_call (Dk.up_alloc (Dk.up_alloc (Below.refl _ _) _) _) hb1
  clear hb1
  go_wp2_with fail
  go_quiet ((first | (go_at_call_of 19 (Value.int .u8 65); exact Calls.quiet_of_same (in65 S a _ hsz' ia.out)) | (go_at_call_of 18 (Value.int .i64 i.a); exact Calls.quiet_of_same (field_is i.a 8 a true _ fa.out)) | (go_at_call_of 19 (Value.int .u8 66); exact Calls.quiet_of_same (in66 S b _ hsz' ib.out)) | (go_at_call_of 18 (Value.int .i64 i.b); exact Calls.quiet_of_same (field_is i.b 8 b true _ fb.out))))
  have u2 : Below w.heap.size w (w1.drewN nq) := Dk.up_drewN u1 nq
  have bi2 : ∀ o, (w1.drewN nq).cell? ⟨w.heap.size + 1, o, none⟩ = _ := bi
  have bp2 : ∀ o, (w1.drewN nq).cell? ⟨w.heap.size, o, none⟩ = _ := bp
  clear bi bp u1
  generalize w1.drewN nq = w2 at *
  go_wp2_with fail
  refine (in77 S false _ hsz' im.out).mono ?_
  rintro e w' ⟨rfl, rfl⟩
  go_wp2_with fail
  go_quiet ((first | (go_at_call_of 19 (Value.int .u8 67); exact Calls.quiet_of_same (in67 S c _ hsz' ic.out)) | (go_at_call_of 18 (Value.int .i64 i.c); exact Calls.quiet_of_same (field_is i.c 8 c true _ fc.out))))
  go_wp2_with fail
  all_goals
    go_ret
    refine ⟨ret_bool ?_, Dk.up_drewN u2 _⟩
    rw [HR.out]
    unfold rl rlMost
    simp [*] <;> first | rw [show IntKind.u64.wrap 257 = 257 from by decide] | (intro h; omega)

theorem rSound_has (s : Dk.Sh) (p : Dk.Prg) (i : Dk.Ins) (w : World) (hs : Lens s p) :
    Calls Try.prog 10 #[Dk.pv s p, Dk.iv i] w fun e w' => e = .returned (.bool (Dk.rsoundB p i)) ∧ Below w.heap.size w w' := by
  obtain ⟨S, hS⟩ : ∃ S, hasS i.op = S := ⟨_, rfl⟩
  have hL : S.data.toList = Dk.has i.op := by rw [← hS]; rfl
  have hlen : S.size = (Dk.has i.op).length := by rw [← hL]; simp
  have hle : (Dk.has i.op).length ≤ 4 := by
    unfold Dk.has
    split
    · decide
    · generalize i.op.toNat = k
      unfold Dk.hasL
      split <;> decide
  have hsz : S.size ≤ maxLen := by unfold maxLen; omega
  have hR : Dk.rsoundB p i = (if S.data.toList = [] then false else if Dk.fieldB i.a (Dk.inB S.data.toList 65) 8 = false then false else if Dk.fieldB i.b (Dk.inB S.data.toList 66) 8 = false then false
      else if (if Dk.inB S.data.toList 77 then Dk.fieldB i.c true p.mutexes else Dk.fieldB i.c (Dk.inB S.data.toList 67) 8) = false then false else Dk.rlast p (Dk.lastOf S.data.toList) i.n) := by
    rw [hL]; rfl
  by_cases h0 : S.data.toList = []
  · have hem : S.toList.isEmpty = true := by
      have : S = ByteArray.empty := by
        obtain ⟨⟨l⟩⟩ := S
        simp only at h0
        rw [h0]
        rfl
      rw [← decide_eq_emptyBytes]; exact decide_eq_true this
    exact rs_e s p i w S false false false hS hsz hem (by show _ = false; rw [hR, if_pos h0])
  have hpos : 0 < S.size := by rw [hlen, ← hL]; exact List.length_pos_iff.2 h0
  have hem : S.toList.isEmpty = false := by
    rw [← decide_eq_emptyBytes]
    exact decide_eq_false (fun e => h0 (by rw [e]; rfl))
  rw [if_neg h0] at hR
  cases fa : Dk.fieldB i.a (Dk.inB S.data.toList 65) 8
  · exact rs_a s p i w S _ false false hS hsz hem (by show _ = false; rw [hR, if_pos fa]) rfl fa
  rw [if_neg (by rw [fa]; decide)] at hR
  cases fb : Dk.fieldB i.b (Dk.inB S.data.toList 66) 8
  · exact rs_b s p i w S _ _ false hS hsz hem (by show _ = false; rw [hR, if_pos fb]) rfl fa rfl fb
  rw [if_neg (by rw [fb]; decide)] at hR
  have hlast : Dk.lastOf S.data.toList = S[S.size - 1] := by
    unfold Dk.lastOf
    rw [show S.data.toList.length = S.size by simp]
    exact getD_byte S _ (by omega)
  cases im : Dk.inB S.data.toList 77
  · simp only [im, Bool.false_eq_true, if_false] at hR
    cases fc : Dk.fieldB i.c (Dk.inB S.data.toList 67) 8
    · exact rs_n0 s p i w S _ _ _ hS hsz hem (by show _ = false; rw [hR, if_pos fc]) rfl fa rfl fb im rfl fc
    · rw [if_neg (by rw [fc]; decide), hlast, ← rl_eq hs] at hR
      exact rs_n1 s p i w S _ _ _ hS hsz hem hpos hR rfl fa rfl fb im rfl fc
  · simp only [im, if_true] at hR
    cases fc : Dk.fieldB i.c true p.mutexes
    · exact rs_m0 s p i w S _ _ false hS hsz hem (by show _ = false; rw [hR, if_pos fc]) rfl fa rfl fb im fc
    · rw [if_neg (by rw [fc]; decide), hlast, ← rl_eq hs] at hR
      exact rs_m1 s p i w S _ _ false hS hsz hem hpos hR rfl fa rfl fb im fc

theorem rSound_any (s : Dk.Sh) (p : Dk.Prg) (i : Dk.Ins) (w : World) (hs : Lens s p) (hp : p.ok) (hi : i.ok) :
    Calls Try.prog 10 #[Dk.pv s p, Dk.iv i] w fun e w' => e = .returned (.bool (Dk.soundB p i)) ∧ Below w.heap.size w w' := by
  rw [← Dk.rsound_eq p i hp hi]
  exact rSound_has s p i w hs

end Go.Proofs.Ytmapmhcmeokahaa
