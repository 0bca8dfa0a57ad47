/- The walk of package inst's Sound. -/
import Derived.Test.YtmapmhcmeokahaaLeaf
import Derived.Test.YtmapmhcmeokahaaForm
namespace Go.Proofs.Ytmapmhcmeokahaa
set_option linter.unusedSimpArgs false
set_option linter.unusedVariables false
set_option linter.unnecessarySimpa false
open Go.RowKit

theorem choices_i64 {p : Dk.Prg} (hp : p.ok) (x : Int) : Dk.i64 (Dk.choices p x) := by
  obtain ⟨h1, h2, h3, h4, h5⟩ := hp
  unfold Dk.i64 at *
  unfold Dk.choices
  repeat' split
  all_goals omega

/-- The lists' lengths are the slices'. -/
structure Lens (s : Dk.Sh) (p : Dk.Prg) : Prop where
  ef : p.funcs.length = s.fL
  es : p.sems.length = s.sL
  ep : p.pipes.length = s.pL
theorem lens_of {B : Nat} {w : World} {s : Dk.Sh} {p : Dk.Prg} (h : Dk.PrgAt B w s p) : Lens s p := ⟨h.funcs.len, h.sems.len, h.pipes.len⟩

theorem may_fit (s : Dk.Sh) (p : Dk.Prg) (x v : Int) (w : World) (hs : Lens s p) (hp : p.ok) :
    Calls Try.prog 16 #[.int .i64 x, Dk.pv s p, .int .u64 v] w fun e w' => e = .returned (.bool (Dk.mayB p x v)) ∧ Below w.heap.size w w' :=
  may_any s p x v w hs.ef hs.es hs.ep (choices_i64 hp x)

theorem sound_eq (p : Dk.Prg) (i : Dk.Ins) : Dk.soundB p i = ((Dk.form i.op).2 && Dk.mayB p (Dk.form i.op).1.1 (IntKind.u64.wrap i.a) && Dk.mayB p (Dk.form i.op).1.2.1 (IntKind.u64.wrap i.b) && Dk.mayB p (Dk.form i.op).1.2.2.1 (IntKind.u64.wrap i.c) && Dk.mayB p (Dk.form i.op).1.2.2.2 i.n) := by
  unfold Dk.soundB
  rw [conv_u64, conv_u64, conv_u64]

set_option maxHeartbeats 1000000 in
theorem sound_0 (s : Dk.Sh) (p : Dk.Prg) (i : Dk.Ins) (w : World) (hs : Lens s p) (hp : p.ok)  (h0 : (Dk.form i.op).2 = false) :
    Calls Try.prog 9 #[Dk.pv s p, Dk.iv i] w fun e w' => e = .returned (.bool (Dk.soundB p i)) ∧ Below w.heap.size w w' := by
  have HS : Hid (Dk.soundB p i = false) := by show _ = false; rw [sound_eq, h0]; rfl
  go_enter Try.func9, Try.ntmps9
  go_wp2_with fail
  refine (formOf_any _ _).mono ?_
  rintro e w1 ⟨rfl, hb1⟩
  obtain ⟨hc1, hf1, hz1⟩ := Dk.bcell hb1
  simp only [World.size_alloc] at hz1
  have hn0 : w.heap.size < w1.heap.size := by omega
  have hn1 : w.heap.size + 1 < w1.heap.size := by omega
  clear hz1
  go_wp2_with fail
  go_ret
  exact ⟨ret_bool HS.out.symm, Dk.up_alloc (Dk.up_call (Dk.up_alloc (Dk.up_alloc (Below.refl _ _) _) _) hb1) _⟩

set_option maxHeartbeats 1000000 in
theorem sound_1 (s : Dk.Sh) (p : Dk.Prg) (i : Dk.Ins) (w : World) (hs : Lens s p) (hp : p.ok) (h0 : (Dk.form i.op).2 = true) (h1 : Dk.mayB p (Dk.form i.op).1.1 (IntKind.u64.wrap i.a) = false) :
    Calls Try.prog 9 #[Dk.pv s p, Dk.iv i] w fun e w' => e = .returned (.bool (Dk.soundB p i)) ∧ Below w.heap.size w w' := by
  have HS : Hid (Dk.soundB p i = false) := by show _ = false; rw [sound_eq, h0, h1]; rfl
  go_enter Try.func9, Try.ntmps9
  go_wp2_with fail
  refine (formOf_any _ _).mono ?_
  rintro e w1 ⟨rfl, hb1⟩
  obtain ⟨hc1, hf1, hz1⟩ := Dk.bcell hb1
  simp only [World.size_alloc] at hz1
  have hn0 : w.heap.size < w1.heap.size := by omega
  have hn1 : w.heap.size + 1 < w1.heap.size := by omega
  clear hz1
  go_wp2_with fail
  refine (may_fit s p _ _ _ hs hp).mono ?_
  rintro e w2 ⟨rfl, hb2⟩
  obtain ⟨hc2, hf2, hz2⟩ := Dk.bcell hb2
  simp only [World.size_alloc] at hz2
  have n20 : w.heap.size < w2.heap.size := by omega
  have n21 : w.heap.size + 1 < w2.heap.size := by omega
  have n22 : w1.heap.size < w2.heap.size := by omega
  clear hz2
  go_wp2_with fail
  go_ret
  exact ⟨ret_bool HS.out.symm, Dk.up_call (Dk.up_alloc (Dk.up_call (Dk.up_alloc (Dk.up_alloc (Below.refl _ _) _) _) hb1) _) hb2⟩

set_option maxHeartbeats 1000000 in
theorem sound_2 (s : Dk.Sh) (p : Dk.Prg) (i : Dk.Ins) (w : World) (hs : Lens s p) (hp : p.ok) (h0 : (Dk.form i.op).2 = true) (h1 : Dk.mayB p (Dk.form i.op).1.1 (IntKind.u64.wrap i.a) = true) (h2 : Dk.mayB p (Dk.form i.op).1.2.1 (IntKind.u64.wrap i.b) = false) :
    Calls Try.prog 9 #[Dk.pv s p, Dk.iv i] w fun e w' => e = .returned (.bool (Dk.soundB p i)) ∧ Below w.heap.size w w' := by
  have HS : Hid (Dk.soundB p i = false) := by show _ = false; rw [sound_eq, h0, h1, h2]; rfl
  go_enter Try.func9, Try.ntmps9
  go_wp2_with fail
  refine (formOf_any _ _).mono ?_
  rintro e w1 ⟨rfl, hb1⟩
  obtain ⟨hc1, hf1, hz1⟩ := Dk.bcell hb1
  simp only [World.size_alloc] at hz1
  have hn0 : w.heap.size < w1.heap.size := by omega
  have hn1 : w.heap.size + 1 < w1.heap.size := by omega
  clear hz1
  go_wp2_with fail
  refine (may_fit s p _ _ _ hs hp).mono ?_
  rintro e w2 ⟨rfl, hb2⟩
  obtain ⟨hc2, hf2, hz2⟩ := Dk.bcell hb2
  simp only [World.size_alloc] at hz2
  have n20 : w.heap.size < w2.heap.size := by omega
  have n21 : w.heap.size + 1 < w2.heap.size := by omega
  have n22 : w1.heap.size < w2.heap.size := by omega
  clear hz2
  go_wp2_with fail
  refine (may_fit s p _ _ _ hs hp).mono ?_
  rintro e w3 ⟨rfl, hb3⟩
  obtain ⟨hc3, hf3, hz3⟩ := Dk.bcell hb3
  have n30 : w.heap.size < w3.heap.size := by omega
  have n31 : w.heap.size + 1 < w3.heap.size := by omega
  have n32 : w1.heap.size < w3.heap.size := by omega
  clear hz3
  go_wp2_with fail
  go_ret
  exact ⟨ret_bool HS.out.symm, Dk.up_call (Dk.up_call (Dk.up_alloc (Dk.up_call (Dk.up_alloc (Dk.up_alloc (Below.refl _ _) _) _) hb1) _) hb2) hb3⟩

set_option maxHeartbeats 1000000 in
theorem sound_3 (s : Dk.Sh) (p : Dk.Prg) (i : Dk.Ins) (w : World) (hs : Lens s p) (hp : p.ok) (h0 : (Dk.form i.op).2 = true) (h1 : Dk.mayB p (Dk.form i.op).1.1 (IntKind.u64.wrap i.a) = true) (h2 : Dk.mayB p (Dk.form i.op).1.2.1 (IntKind.u64.wrap i.b) = true) (h3 : Dk.mayB p (Dk.form i.op).1.2.2.1 (IntKind.u64.wrap i.c) = false) :
    Calls Try.prog 9 #[Dk.pv s p, Dk.iv i] w fun e w' => e = .returned (.bool (Dk.soundB p i)) ∧ Below w.heap.size w w' := by
  have HS : Hid (Dk.soundB p i = false) := by show _ = false; rw [sound_eq, h0, h1, h2, h3]; rfl
  go_enter Try.func9, Try.ntmps9
  go_wp2_with fail
  refine (formOf_any _ _).mono ?_
  rintro e w1 ⟨rfl, hb1⟩
  obtain ⟨hc1, hf1, hz1⟩ := Dk.bcell hb1
  simp only [World.size_alloc] at hz1
  have hn0 : w.heap.size < w1.heap.size := by omega
  have hn1 : w.heap.size + 1 < w1.heap.size := by omega
  clear hz1
  go_wp2_with fail
  refine (may_fit s p _ _ _ hs hp).mono ?_
  rintro e w2 ⟨rfl, hb2⟩
  obtain ⟨hc2, hf2, hz2⟩ := Dk.bcell hb2
  simp only [World.size_alloc] at hz2
  have n20 : w.heap.size < w2.heap.size := by omega
  have n21 : w.heap.size + 1 < w2.heap.size := by omega
  have n22 : w1.heap.size < w2.heap.size := by omega
  clear hz2
  go_wp2_with fail
  refine (may_fit s p _ _ _ hs hp).mono ?_
  rintro e w3 ⟨rfl, hb3⟩
  obtain ⟨hc3, hf3, hz3⟩ := Dk.bcell hb3
  have n30 : w.heap.size < w3.heap.size := by omega
  have n31 : w.heap.size + 1 < w3.heap.size := by omega
  have n32 : w1.heap.size < w3.heap.size := by omega
  clear hz3
  go_wp2_with fail
  refine (may_fit s p _ _ _ hs hp).mono ?_
  rintro e w4 ⟨rfl, hb4⟩
  obtain ⟨hc4, hf4, hz4⟩ := Dk.bcell hb4
  have n40 : w.heap.size < w4.heap.size := by omega
  have n41 : w.heap.size + 1 < w4.heap.size := by omega
  have n42 : w1.heap.size < w4.heap.size := by omega
  clear hz4
  go_wp2_with fail
  go_ret
  exact ⟨ret_bool HS.out.symm, Dk.up_call (Dk.up_call (Dk.up_call (Dk.up_alloc (Dk.up_call (Dk.up_alloc (Dk.up_alloc (Below.refl _ _) _) _) hb1) _) hb2) hb3) hb4⟩

set_option maxHeartbeats 1000000 in
theorem sound_4 (s : Dk.Sh) (p : Dk.Prg) (i : Dk.Ins) (w : World) (hs : Lens s p) (hp : p.ok) (h0 : (Dk.form i.op).2 = true) (h1 : Dk.mayB p (Dk.form i.op).1.1 (IntKind.u64.wrap i.a) = true) (h2 : Dk.mayB p (Dk.form i.op).1.2.1 (IntKind.u64.wrap i.b) = true) (h3 : Dk.mayB p (Dk.form i.op).1.2.2.1 (IntKind.u64.wrap i.c) = true) (h4 : Dk.mayB p (Dk.form i.op).1.2.2.2 i.n = false) :
    Calls Try.prog 9 #[Dk.pv s p, Dk.iv i] w fun e w' => e = .returned (.bool (Dk.soundB p i)) ∧ Below w.heap.size w w' := by
  have HS : Hid (Dk.soundB p i = false) := by show _ = false; rw [sound_eq, h0, h1, h2, h3, h4, Bool.and_false]
  go_enter Try.func9, Try.ntmps9
  go_wp2_with fail
  refine (formOf_any _ _).mono ?_
  rintro e w1 ⟨rfl, hb1⟩
  obtain ⟨hc1, hf1, hz1⟩ := Dk.bcell hb1
  simp only [World.size_alloc] at hz1
  have hn0 : w.heap.size < w1.heap.size := by omega
  have hn1 : w.heap.size + 1 < w1.heap.size := by omega
  clear hz1
  go_wp2_with fail
  refine (may_fit s p _ _ _ hs hp).mono ?_
  rintro e w2 ⟨rfl, hb2⟩
  obtain ⟨hc2, hf2, hz2⟩ := Dk.bcell hb2
  simp only [World.size_alloc] at hz2
  have n20 : w.heap.size < w2.heap.size := by omega
  have n21 : w.heap.size + 1 < w2.heap.size := by omega
  have n22 : w1.heap.size < w2.heap.size := by omega
  clear hz2
  go_wp2_with fail
  refine (may_fit s p _ _ _ hs hp).mono ?_
  rintro e w3 ⟨rfl, hb3⟩
  obtain ⟨hc3, hf3, hz3⟩ := Dk.bcell hb3
  have n30 : w.heap.size < w3.heap.size := by omega
  have n31 : w.heap.size + 1 < w3.heap.size := by omega
  have n32 : w1.heap.size < w3.heap.size := by omega
  clear hz3
  go_wp2_with fail
  refine (may_fit s p _ _ _ hs hp).mono ?_
  rintro e w4 ⟨rfl, hb4⟩
  obtain ⟨hc4, hf4, hz4⟩ := Dk.bcell hb4
  have n40 : w.heap.size < w4.heap.size := by omega
  have n41 : w.heap.size + 1 < w4.heap.size := by omega
  have n42 : w1.heap.size < w4.heap.size := by omega
  clear hz4
  go_wp2_with fail
  refine (may_fit s p _ _ _ hs hp).mono ?_
  rintro e w5 ⟨rfl, hb5⟩
  obtain ⟨hc5, hf5, hz5⟩ := Dk.bcell hb5
  have n50 : w.heap.size < w5.heap.size := by omega
  have n51 : w.heap.size + 1 < w5.heap.size := by omega
  have n52 : w1.heap.size < w5.heap.size := by omega
  clear hz5
  go_wp2_with fail
  go_ret
  exact ⟨ret_bool HS.out.symm, Dk.up_call (Dk.up_call (Dk.up_call (Dk.up_call (Dk.up_alloc (Dk.up_call (Dk.up_alloc (Dk.up_alloc (Below.refl _ _) _) _) hb1) _) hb2) hb3) hb4) hb5⟩

set_option maxHeartbeats 1000000 in
theorem sound_5 (s : Dk.Sh) (p : Dk.Prg) (i : Dk.Ins) (w : World) (hs : Lens s p) (hp : p.ok) (h0 : (Dk.form i.op).2 = true) (h1 : Dk.mayB p (Dk.form i.op).1.1 (IntKind.u64.wrap i.a) = true) (h2 : Dk.mayB p (Dk.form i.op).1.2.1 (IntKind.u64.wrap i.b) = true) (h3 : Dk.mayB p (Dk.form i.op).1.2.2.1 (IntKind.u64.wrap i.c) = true) (h4 : Dk.mayB p (Dk.form i.op).1.2.2.2 i.n = true) :
    Calls Try.prog 9 #[Dk.pv s p, Dk.iv i] w fun e w' => e = .returned (.bool (Dk.soundB p i)) ∧ Below w.heap.size w w' := by
  have HS : Hid (Dk.soundB p i = true) := by show _ = true; rw [sound_eq, h0, h1, h2, h3, h4]; rfl
  go_enter Try.func9, Try.ntmps9
  go_wp2_with fail
  refine (formOf_any _ _).mono ?_
  rintro e w1 ⟨rfl, hb1⟩
  obtain ⟨hc1, hf1, hz1⟩ := Dk.bcell hb1
  simp only [World.size_alloc] at hz1
  have hn0 : w.heap.size < w1.heap.size := by omega
  have hn1 : w.heap.size + 1 < w1.heap.size := by omega
  clear hz1
  go_wp2_with fail
  refine (may_fit s p _ _ _ hs hp).mono ?_
  rintro e w2 ⟨rfl, hb2⟩
  obtain ⟨hc2, hf2, hz2⟩ := Dk.bcell hb2
  simp only [World.size_alloc] at hz2
  have n20 : w.heap.size < w2.heap.size := by omega
  have n21 : w.heap.size + 1 < w2.heap.size := by omega
  have n22 : w1.heap.size < w2.heap.size := by omega
  clear hz2
  go_wp2_with fail
  refine (may_fit s p _ _ _ hs hp).mono ?_
  rintro e w3 ⟨rfl, hb3⟩
  obtain ⟨hc3, hf3, hz3⟩ := Dk.bcell hb3
  have n30 : w.heap.size < w3.heap.size := by omega
  have n31 : w.heap.size + 1 < w3.heap.size := by omega
  have n32 : w1.heap.size < w3.heap.size := by omega
  clear hz3
  go_wp2_with fail
  refine (may_fit s p _ _ _ hs hp).mono ?_
  rintro e w4 ⟨rfl, hb4⟩
  obtain ⟨hc4, hf4, hz4⟩ := Dk.bcell hb4
  have n40 : w.heap.size < w4.heap.size := by omega
  have n41 : w.heap.size + 1 < w4.heap.size := by omega
  have n42 : w1.heap.size < w4.heap.size := by omega
  clear hz4
  go_wp2_with fail
  refine (may_fit s p _ _ _ hs hp).mono ?_
  rintro e w5 ⟨rfl, hb5⟩
  obtain ⟨hc5, hf5, hz5⟩ := Dk.bcell hb5
  have n50 : w.heap.size < w5.heap.size := by omega
  have n51 : w.heap.size + 1 < w5.heap.size := by omega
  have n52 : w1.heap.size < w5.heap.size := by omega
  clear hz5
  go_wp2_with fail
  go_ret
  exact ⟨ret_bool HS.out.symm, Dk.up_call (Dk.up_call (Dk.up_call (Dk.up_call (Dk.up_alloc (Dk.up_call (Dk.up_alloc (Dk.up_alloc (Below.refl _ _) _) _) hb1) _) hb2) hb3) hb4) hb5⟩

theorem Sound_any (s : Dk.Sh) (p : Dk.Prg) (i : Dk.Ins) (w : World) (hs : Lens s p) (hp : p.ok) :
    Calls Try.prog 9 #[Dk.pv s p, Dk.iv i] w fun e w' => e = .returned (.bool (Dk.soundB p i)) ∧ Below w.heap.size w w' := by
  cases h0 : (Dk.form i.op).2
  · exact sound_0 s p i w hs hp h0
  cases h1 : Dk.mayB p (Dk.form i.op).1.1 (IntKind.u64.wrap i.a)
  · exact sound_1 s p i w hs hp h0 h1
  cases h2 : Dk.mayB p (Dk.form i.op).1.2.1 (IntKind.u64.wrap i.b)
  · exact sound_2 s p i w hs hp h0 h1 h2
  cases h3 : Dk.mayB p (Dk.form i.op).1.2.2.1 (IntKind.u64.wrap i.c)
  · exact sound_3 s p i w hs hp h0 h1 h2 h3
  cases h4 : Dk.mayB p (Dk.form i.op).1.2.2.2 i.n
  · exact sound_4 s p i w hs hp h0 h1 h2 h3 h4
  · exact sound_5 s p i w hs hp h0 h1 h2 h3 h4

end Go.Proofs.Ytmapmhcmeokahaa
