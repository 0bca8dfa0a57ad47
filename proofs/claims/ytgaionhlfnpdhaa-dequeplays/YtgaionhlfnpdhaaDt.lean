/- A row behind a pointer, and a list beside it. -/
import Derived.Test.YtgaionhlfnpdhaaDa
namespace Go.Proofs.Ytgaionhlfnpdhaa
set_option linter.unusedSimpArgs false
set_option linter.unusedVariables false
set_option linter.unnecessarySimpa false
open Go.RowKit

/-- A row behind a pointer holds xs, a list u beside it holds ys; both are a call's own, and all else is as it was. -/
structure Pair (W : World) (bd : Nat) (w : World) (xs : List Int) (u : Value) (ys : List Int) : Prop where
  row : ∃ v, Dk.DQ W.heap.size w bd v xs ∧ Dk.Apart v u
  list : w.ownsRow W.heap.size 3 1 u ys.length (Dk.is ys)
  ne : u.ownBlock ≠ some bd
  wf : ∀ y ∈ ys, Dk.i64 y
  up : Below W.heap.size W w
def Two (W : World) (bd : Nat) (w : World) (xs : List Int) (u : Value) (ys : List Int) : Prop := Hid (Pair W bd w xs u ys)

theorem Two.wx {W w : World} {bd : Nat} {xs ys : List Int} {u : Value} (h : Two W bd w xs u ys) : ∀ x ∈ xs, Dk.i64 x := by
  obtain ⟨v, d, _⟩ := (Hid.out h).row
  exact d.wf
theorem Two.begin {W w : World} {bd : Nat} {v : Value} {xs : List Int} (h : Dk.DQ W.heap.size w bd v xs) (u : Below W.heap.size W w) : Two W bd w xs (.slice none 0 0) [] :=
  ⟨⟨v, h, fun k hk e => by simp [Value.ownBlock] at e⟩, World.ownsRow_nil _ _ _ _, by simp [Value.ownBlock], fun y hy => by simp at hy, u⟩
theorem Two.went {W w w' : World} {bd : Nat} {v : Value} {xs xs' ys : List Int} {u : Value} (h : Two W bd w xs u ys) (d : Dk.DQ W.heap.size w bd v xs) (a : Dk.Apart v u) (g : Went W.heap.size w bd v w' xs') : Two W bd w' xs' u ys := by
  obtain ⟨v', d', aw, f⟩ := g
  have p := Hid.out h
  exact ⟨⟨v', d', a.from f p.list⟩, Dk.owns_away p.list aw (fun k hk hs => hs.elim (fun e => p.ne (by rw [hk, e])) (fun e => a k e hk)), p.ne, p.wf, aw.below p.up d.at⟩
theorem Two.below {W w w' : World} {bd : Nat} {xs ys : List Int} {u : Value} (h : Two W bd w xs u ys) (b : Below w.heap.size w w') : Two W bd w' xs u ys := by
  have p := Hid.out h
  obtain ⟨v, d, a⟩ := p.row
  exact ⟨⟨v, d.up b, a⟩, Dk.owns_away (S := fun _ => False) p.list (Dk.Away.of_up b) (fun _ _ => id), p.ne, p.wf, Dk.up_call p.up b⟩
/-- The list is turned. -/
theorem Two.turn {W w w' : World} {bd : Nat} {xs ys ys' : List Int} {u u' : Value} (h : Two W bd w xs u ys) (a : Dk.Away (fun k => u.ownBlock = some k) w w') (l : w'.ownsRow W.heap.size 3 1 u' ys'.length (Dk.is ys')) (f : Dk.From w u u') (hw : ∀ y ∈ ys', Dk.i64 y) : Two W bd w' xs u' ys' := by
  have p := Hid.out h
  obtain ⟨v, d, ap⟩ := p.row
  have hbd : bd < w.heap.size := d.head.lt
  refine ⟨⟨v, d.away a (fun k hk e => hk.elim (fun e' => p.ne (by rw [e, e'])) (fun e' => ap k e' e)), (ap.symm.from f d.row).symm⟩, l, fun e => (f bd e).elim p.ne (fun h1 => absurd hbd (by omega)), hw, a.below p.up (fun k hk => (p.list.lt k hk).1)⟩
theorem Two.new {W w w' : World} {bd : Nat} {xs ys ys' : List Int} {u u' : Value} (h : Two W bd w xs u ys) (b : Below w.heap.size w w') (l : w'.ownsRow w.heap.size 3 1 u' ys'.length (Dk.is ys')) (hw : ∀ y ∈ ys', Dk.i64 y) : Two W bd w' xs u' ys' :=
  h.turn (Dk.Away.of_up b) (Dk.owns_base l (Hid.out h).up.size) (Dk.From.new l) hw
theorem Two.sli {W w : World} {bd : Nat} {xs ys : List Int} {u : Value} (h : Two W bd w xs u ys) : ∃ A C, u = .slice A ys.length C ∧ Dk.SlI w.heap.size w A ys.length C ys := Dk.owns_ints (Hid.out h).list (Hid.out h).wf

section
variable {W w : World} {bd : Nat} {xs ys : List Int} {u : Value}
theorem Push_two (h : Two W bd w xs u ys) (x : Int) (hx : xs.contains x = false) (hi : Dk.i64 x) (hl : xs.length ≤ 1000) :
    Calls Try.prog 8 #[.pointer (some ⟨bd, 0, none⟩), .int .i64 x] w fun e w' => e = .returned (.bool true) ∧ Two W bd w' (xs ++ [x]) u ys := by
  obtain ⟨v, d, a⟩ := (Hid.out h).row
  exact (Push_yes _ bd v xs x w d hx hi hl).mono fun e w' g => ⟨g.1, h.went d a g.2⟩
theorem Push_two_no (h : Two W bd w xs u ys) (x : Int) (hx : xs.contains x = true) :
    Calls Try.prog 8 #[.pointer (some ⟨bd, 0, none⟩), .int .i64 x] w fun e w' => e = .returned (.bool false) ∧ w' = w := by
  obtain ⟨v, d, a⟩ := (Hid.out h).row
  exact Push_no _ bd v xs x w d hx
theorem PushFront_two (h : Two W bd w xs u ys) (x : Int) (hx : xs.contains x = false) (hi : Dk.i64 x) (hl : xs.length ≤ 1000) :
    Calls Try.prog 9 #[.pointer (some ⟨bd, 0, none⟩), .int .i64 x] w fun e w' => e = .returned (.bool true) ∧ Two W bd w' (x :: xs) u ys := by
  obtain ⟨v, d, a⟩ := (Hid.out h).row
  exact (PushFront_yes _ bd v xs x w d hx hi hl).mono fun e w' g => ⟨g.1, h.went d a g.2⟩
theorem PushFront_two_no (h : Two W bd w xs u ys) (x : Int) (hx : xs.contains x = true) :
    Calls Try.prog 9 #[.pointer (some ⟨bd, 0, none⟩), .int .i64 x] w fun e w' => e = .returned (.bool false) ∧ w' = w := by
  obtain ⟨v, d, a⟩ := (Hid.out h).row
  exact PushFront_no _ bd v xs x w d hx
theorem Pop_two {x : Int} (h : Two W bd w (x :: xs) u ys) (hl : xs.length ≤ 900) :
    Calls Try.prog 10 #[.pointer (some ⟨bd, 0, none⟩)] w fun e w' => e = .returned (.tuple #[.int .i64 x, .bool true]) ∧ Two W bd w' xs u ys := by
  obtain ⟨v, d, a⟩ := (Hid.out h).row
  exact (Pop_yes _ bd v x xs w d hl).mono fun e w' g => ⟨g.1, h.went d a g.2⟩
theorem Pop_two_no (h : Two W bd w [] u ys) :
    Calls Try.prog 10 #[.pointer (some ⟨bd, 0, none⟩)] w fun e w' => e = .returned (.tuple #[.int .i64 0, .bool false]) ∧ w' = w := by
  obtain ⟨v, d, a⟩ := (Hid.out h).row
  exact Pop_no _ bd v w d
theorem PopBack_two {x : Int} (h : Two W bd w (xs ++ [x]) u ys) (hl : xs.length ≤ 900) :
    Calls Try.prog 11 #[.pointer (some ⟨bd, 0, none⟩)] w fun e w' => e = .returned (.tuple #[.int .i64 x, .bool true]) ∧ Two W bd w' xs u ys := by
  obtain ⟨v, d, a⟩ := (Hid.out h).row
  exact (PopBack_yes _ bd v x xs w d hl).mono fun e w' g => ⟨g.1, h.went d a g.2⟩
theorem PopBack_two_no (h : Two W bd w [] u ys) :
    Calls Try.prog 11 #[.pointer (some ⟨bd, 0, none⟩)] w fun e w' => e = .returned (.tuple #[.int .i64 0, .bool false]) ∧ w' = w := by
  obtain ⟨v, d, a⟩ := (Hid.out h).row
  exact PopBack_no _ bd v w d
theorem Drop_two (h : Two W bd w xs u ys) (x : Int) (k : Nat) (hl : xs.length ≤ 1000) (hk : k < xs.length) (hx : xs.getD k 0 = x) (hn : ∀ j, j < k → xs.getD j 0 ≠ x) :
    Calls Try.prog 13 #[.pointer (some ⟨bd, 0, none⟩), .int .i64 x] w fun e w' => e = .returned (.bool true) ∧ Two W bd w' (xs.eraseIdx k) u ys := by
  obtain ⟨v, d, a⟩ := (Hid.out h).row
  exact (Drop_yes _ bd v xs x k w d hl hk hx hn).mono fun e w' g => ⟨g.1, h.went d a g.2⟩
theorem Drop_two_no (h : Two W bd w xs u ys) (x : Int) (hx : ∀ j, j < xs.length → xs.getD j 0 ≠ x) :
    Calls Try.prog 13 #[.pointer (some ⟨bd, 0, none⟩), .int .i64 x] w fun e w' => e = .returned (.bool false) ∧ w' = w := by
  obtain ⟨v, d, a⟩ := (Hid.out h).row
  exact Drop_no _ bd v xs x w d hx
/-- The row in order, in a list of its own, beside which the other one lies on. -/
theorem All_two (h : Two W bd w xs u ys) (hl : xs.length ≤ 1000) :
    Calls Try.prog 16 #[.pointer (some ⟨bd, 0, none⟩)] w fun e w' => ∃ A C, e = .returned (.slice A xs.length C) ∧ Two W bd w' xs u ys ∧ Hid (Dk.SlI w'.heap.size w' A xs.length C xs) := by
  obtain ⟨v, d, a⟩ := (Hid.out h).row
  refine (All_any _ bd v xs w d hl).mono ?_
  rintro e w' ⟨v', rfl, ho, hu⟩
  obtain ⟨A, C, rfl, hS⟩ := Dk.owns_ints ho d.wf
  exact ⟨A, C, rfl, h.below hu, hS⟩
/-- The row in order, which then is the list. -/
theorem All_new (h : Two W bd w xs u ys) (hl : xs.length ≤ 1000) :
    Calls Try.prog 16 #[.pointer (some ⟨bd, 0, none⟩)] w fun e w' => ∃ A C, e = .returned (.slice A xs.length C) ∧ Two W bd w' xs (.slice A xs.length C) xs := by
  obtain ⟨v, d, a⟩ := (Hid.out h).row
  refine (All_any _ bd v xs w d hl).mono ?_
  rintro e w' ⟨v', rfl, ho, hu⟩
  obtain ⟨A, C, rfl, hS⟩ := Dk.owns_ints ho d.wf
  exact ⟨A, C, rfl, h.new hu ho d.wf⟩
theorem Two.out {W w : World} {bd : Nat} {xs ys : List Int} {u : Value} (h : Two W bd w xs u ys) : Below W.heap.size W w := (Hid.out h).up
/-- The list is what is told of the row. -/
theorem Ints_two {A A' : Option Addr} {C C' : Nat} (h : Two W bd w xs (.slice A' ys.length C') ys) (s : Dk.SlI w.heap.size w A ys.length C ys) :
    Calls Try.prog 15 #[.slice A ys.length C, .slice A' ys.length C'] w fun e w' => e = .returned (.bool true) ∧ Hid (Below W.heap.size W w') := by
  obtain ⟨A2, C2, e, hS⟩ := h.sli
  obtain ⟨rfl, rfl⟩ : A' = A2 ∧ C' = C2 := by simpa using e
  exact (Ints_same A A' ys.length C C' ys w s hS).mono fun e w' g => ⟨g.1, Dk.up_call h.out g.2⟩
end

end Go.Proofs.Ytgaionhlfnpdhaa
