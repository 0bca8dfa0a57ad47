/- Plain mathematics of layer 2: which instructions and programs may be. No program is spoken of here. -/
namespace Dk
set_option linter.unusedSimpArgs false
set_option linter.unusedVariables false
set_option linter.unnecessarySimpa false

/-- An instruction. -/
structure Ins where
  op : Int
  a : Int
  b : Int
  c : Int
  n : Nat

/-- A program. -/
structure Prg where
  funcs : List (List Ins)
  words : Int
  mutexes : Int
  conds : Int
  sems : List Int
  pipes : List Int
  blocks : Int
  prio : Int

def i64 (x : Int) : Prop := -9223372036854775808 ≤ x ∧ x ≤ 9223372036854775807

structure Ins.ok (i : Ins) : Prop where
  op : i64 i.op
  a : i64 i.a
  b : i64 i.b
  c : i64 i.c
  n : i.n < 18446744073709551616

/-- A number, as a word. -/
def u64 (x : Int) : Int := x % 18446744073709551616

/-- How many numbers a part may be. -/
def choices (p : Prg) (x : Int) : Int :=
  if x = 0 then 1 else if x = 1 then 8 else if x = 3 then 257 else if x = 4 then p.funcs.length else if x = 5 then p.mutexes
  else if x = 6 then p.conds else if x = 7 then p.sems.length else if x = 8 then p.pipes.length else 0

def mayB (p : Prg) (x v : Int) : Bool := (x == 2) || decide (v < max 0 (choices p x))

/-- What an instruction has, and whether there is one. -/
def form (op : Int) : (Int × Int × Int × Int) × Bool :=
  if op = 1 then ((1, 0, 0, 2), true)
  else if op = 2 ∨ op = 14 ∨ op = 15 ∨ op = 18 ∨ op = 19 ∨ op = 21 ∨ op = 33 ∨ op = 34 then ((1, 1, 0, 0), true)
  else if 3 ≤ op ∧ op ≤ 13 then ((1, 1, 1, 0), true)
  else if op = 16 then ((0, 0, 0, 3), true)
  else if op = 17 then ((1, 0, 0, 3), true)
  else if op = 20 then ((1, 1, 0, 4), true)
  else if op = 22 ∨ op = 23 ∨ op = 32 ∨ op = 37 ∨ op = 38 then ((1, 0, 0, 0), true)
  else if op = 24 then ((0, 0, 0, 0), true)
  else if op = 25 ∨ op = 26 then ((0, 0, 0, 5), true)
  else if op = 27 then ((0, 0, 5, 6), true)
  else if op = 28 ∨ op = 29 then ((0, 0, 0, 6), true)
  else if op = 30 ∨ op = 31 then ((0, 0, 0, 7), true)
  else if op = 35 ∨ op = 36 then ((1, 0, 0, 8), true)
  else ((0, 0, 0, 0), false)

def soundB (p : Prg) (i : Ins) : Bool :=
  (form i.op).2 && mayB p (form i.op).1.1 (u64 i.a) && mayB p (form i.op).1.2.1 (u64 i.b) && mayB p (form i.op).1.2.2.1 (u64 i.c) && mayB p (form i.op).1.2.2.2 i.n

def withinB (n l m : Int) : Bool := decide (l ≤ n) && decide (n ≤ m)
def allWithinB (xs : List Int) (l m : Int) : Bool := xs.all fun n => withinB n l m
def codeFitsB (fs : List (List Ins)) : Bool := withinB fs.length 1 8 && fs.all fun c => decide (c.length ≤ 256)
def objectsFitB (p : Prg) : Bool :=
  withinB p.words 0 64 && withinB p.mutexes 0 4 && withinB p.conds 0 4 && decide (p.sems.length ≤ 4) && allWithinB p.sems 0 1048576 &&
  decide (p.pipes.length ≤ 4) && allWithinB p.pipes 1 8 && withinB p.blocks 0 64 && withinB p.prio 0 7
def allSoundB (p : Prg) : Bool := p.funcs.all fun c => c.all fun i => soundB p i
def check (p : Prg) : Int := if (codeFitsB p.funcs && objectsFitB p) = false then 9 else if allSoundB p = false then 8 else 0
def classOf (op : Int) : Int := if withinB op 1 19 then 1 else if withinB op 20 32 then 2 else if withinB op 33 38 then 3 else 0
def seenB (op : Int) : Bool := withinB op 18 38

/- The document's own answer. -/
def hasL (k : Nat) : List UInt8 :=
  match k with
  | 1 => [65, 120] | 2 => [65, 66, 110] | 3 => [65, 66, 67, 110] | 4 => [65, 66, 67, 110] | 5 => [65, 66, 67, 110] | 6 => [65, 66, 67, 110]
  | 7 => [65, 66, 67, 110] | 8 => [65, 66, 67, 110] | 9 => [65, 66, 67, 110] | 10 => [65, 66, 67, 110] | 11 => [65, 66, 67, 110]
  | 12 => [65, 66, 67, 110] | 13 => [65, 66, 67, 110] | 14 => [65, 66, 110] | 15 => [65, 66, 110] | 16 => [99] | 17 => [65, 99]
  | 18 => [65, 66, 110] | 19 => [65, 66, 110] | 20 => [65, 66, 102] | 21 => [65, 66, 110] | 22 => [65, 110] | 23 => [65, 110] | 24 => [110]
  | 25 => [109] | 26 => [109] | 27 => [77, 107] | 28 => [107] | 29 => [107] | 30 => [115] | 31 => [115] | 32 => [65, 110]
  | 33 => [65, 66, 110] | 34 => [65, 66, 110] | 35 => [65, 112] | 36 => [65, 112] | 37 => [65, 110] | 38 => [65, 110]
  | _ => []
def has (op : Int) : List UInt8 := if op < 0 then [] else hasL op.toNat
def inB (s : List UInt8) (c : UInt8) : Bool := s.contains c
def fieldB (n : Int) (is : Bool) (below : Int) : Bool := if is then decide (0 ≤ n) && decide (n < below) else n == 0
def lastOf (s : List UInt8) : UInt8 := s.getD (s.length - 1) 0
def most (p : Prg) (c : UInt8) : Int :=
  if c = 99 then 257 else if c = 102 then p.funcs.length else if c = 109 then p.mutexes else if c = 107 then p.conds
  else if c = 115 then p.sems.length else if c = 112 then p.pipes.length else 0
/-- What is left behind the registers. -/
def rlast (p : Prg) (c : UInt8) (n : Nat) : Bool := if c = 120 then true else if c = 110 then n == 0 else decide (0 < most p c) && decide ((n : Int) < u64 (most p c))
def rsoundB (p : Prg) (i : Ins) : Bool :=
  let h := has i.op
  if h = [] then false
  else if fieldB i.a (inB h 65) 8 = false then false
  else if fieldB i.b (inB h 66) 8 = false then false
  else if (if inB h 77 then fieldB i.c true p.mutexes else fieldB i.c (inB h 67) 8) = false then false
  else rlast p (lastOf h) i.n

set_option maxRecDepth 100000 in
theorem has_out {op : Int} (h : op < 0 ∨ 39 ≤ op) : has op = [] := by
  unfold has
  by_cases h0 : op < 0
  · rw [if_pos h0]
  · rw [if_neg h0]
    have h1 : 39 ≤ op.toNat := by omega
    generalize op.toNat = k at h1
    unfold hasL
    split <;> first | omega | rfl

theorem may_none (p : Prg) {v : Int} (h : i64 v) : mayB p 0 (u64 v) = fieldB v false 8 := by
  unfold mayB choices fieldB u64
  unfold i64 at h
  rw [Bool.eq_iff_iff]
  simp
  omega
theorem may_reg (p : Prg) {v : Int} (h : i64 v) : mayB p 1 (u64 v) = fieldB v true 8 := by
  unfold mayB choices fieldB u64
  unfold i64 at h
  rw [Bool.eq_iff_iff]
  simp
  omega
theorem may_mutex (p : Prg) {v : Int} (h : i64 v) (hm : i64 p.mutexes) : mayB p 5 (u64 v) = fieldB v true p.mutexes := by
  unfold mayB choices fieldB u64
  unfold i64 at h hm
  rw [Bool.eq_iff_iff]
  simp
  omega
theorem may_zero (p : Prg) (n : Nat) : mayB p 0 n = (n == 0) := by
  unfold mayB choices
  rw [Bool.eq_iff_iff]
  simp
  omega
theorem may_any (p : Prg) (v : Int) : mayB p 2 v = true := by unfold mayB; rfl
theorem may_most (p : Prg) (x : Int) (c : UInt8) (n : Nat) (hx : (x == 2) = false) (hc : choices p x = most p c) (h1 : c ≠ 120) (h2 : c ≠ 110) (hm : i64 (most p c)) : mayB p x n = rlast p c n := by
  unfold mayB rlast
  rw [hx, hc, if_neg h1, if_neg h2, Bool.false_or, Bool.eq_iff_iff]
  unfold i64 at hm
  unfold u64
  simp
  omega

structure Prg.ok (p : Prg) : Prop where
  mutexes : i64 p.mutexes
  conds : i64 p.conds
  funcsL : (p.funcs.length : Int) ≤ 9223372036854775807
  semsL : (p.sems.length : Int) ≤ 9223372036854775807
  pipesL : (p.pipes.length : Int) ≤ 9223372036854775807

set_option maxRecDepth 100000 in
/-- Once the document's letters are known, the two answers are one. -/
theorem agree {p : Prg} {i : Ins} {L : List UInt8} {k fa fb fc fn : Int} (hk : i.op = k) (hh : has k = L) (hf : form k = ((fa, fb, fc, fn), true)) (hne : L ≠ [])
    (ha : mayB p fa (u64 i.a) = fieldB i.a (inB L 65) 8) (hb : mayB p fb (u64 i.b) = fieldB i.b (inB L 66) 8)
    (hc : mayB p fc (u64 i.c) = if inB L 77 then fieldB i.c true p.mutexes else fieldB i.c (inB L 67) 8)
    (hn : mayB p fn i.n = rlast p (lastOf L) i.n) : rsoundB p i = soundB p i := by
  unfold rsoundB soundB
  rw [hk, hh, hf]
  simp only [Bool.true_and]
  rw [ha, hb, hc, hn, if_neg hne]
  cases fieldB i.a (inB L 65) 8 <;> cases fieldB i.b (inB L 66) 8 <;> cases (if inB L 77 = true then fieldB i.c true p.mutexes else fieldB i.c (inB L 67) 8) <;> simp

set_option maxRecDepth 100000 in
theorem rsound_eq (p : Prg) (i : Ins) (hp : p.ok) (hi : i.ok) : rsoundB p i = soundB p i := by
  have na := may_none p hi.a
  have nb := may_none p hi.b
  have nc := may_none p hi.c
  have ra := may_reg p hi.a
  have rb := may_reg p hi.b
  have rc := may_reg p hi.c
  have mc := may_mutex p hi.c hp.mutexes
  have z := may_zero p i.n
  have any := may_any p i.n
  have mJ := may_most p 3 99 i.n (by decide) rfl (by decide) (by decide) (by unfold i64; simp [most])
  have mF := may_most p 4 102 i.n (by decide) rfl (by decide) (by decide) (by have := hp.funcsL; unfold i64; simp [most]; omega)
  have mM := may_most p 5 109 i.n (by decide) rfl (by decide) (by decide) hp.mutexes
  have mK := may_most p 6 107 i.n (by decide) rfl (by decide) (by decide) hp.conds
  have mS := may_most p 7 115 i.n (by decide) rfl (by decide) (by decide) (by have := hp.semsL; unfold i64; simp [most]; omega)
  have mP := may_most p 8 112 i.n (by decide) rfl (by decide) (by decide) (by have := hp.pipesL; unfold i64; simp [most]; omega)
  by_cases h : 1 ≤ i.op ∧ i.op ≤ 38
  · have hk : i.op = 1 ∨ i.op = 2 ∨ i.op = 3 ∨ i.op = 4 ∨ i.op = 5 ∨ i.op = 6 ∨ i.op = 7 ∨ i.op = 8 ∨ i.op = 9 ∨ i.op = 10 ∨ i.op = 11 ∨ i.op = 12 ∨ i.op = 13 ∨ i.op = 14 ∨ i.op = 15 ∨ i.op = 16 ∨ i.op = 17 ∨ i.op = 18 ∨ i.op = 19 ∨ i.op = 20 ∨ i.op = 21 ∨ i.op = 22 ∨ i.op = 23 ∨ i.op = 24 ∨ i.op = 25 ∨ i.op = 26 ∨ i.op = 27 ∨ i.op = 28 ∨ i.op = 29 ∨ i.op = 30 ∨ i.op = 31 ∨ i.op = 32 ∨ i.op = 33 ∨ i.op = 34 ∨ i.op = 35 ∨ i.op = 36 ∨ i.op = 37 ∨ i.op = 38 := by omega
    rcases hk with hk | hk | hk | hk | hk | hk | hk | hk | hk | hk | hk | hk | hk | hk | hk | hk | hk | hk | hk | hk | hk | hk | hk | hk | hk | hk | hk | hk | hk | hk | hk | hk | hk | hk | hk | hk | hk | hk
    · exact agree hk (L := hasL 1) rfl rfl (by decide) ra nb nc any
    · exact agree hk (L := hasL 2) rfl rfl (by decide) ra rb nc z
    · exact agree hk (L := hasL 3) rfl rfl (by decide) ra rb rc z
    · exact agree hk (L := hasL 4) rfl rfl (by decide) ra rb rc z
    · exact agree hk (L := hasL 5) rfl rfl (by decide) ra rb rc z
    · exact agree hk (L := hasL 6) rfl rfl (by decide) ra rb rc z
    · exact agree hk (L := hasL 7) rfl rfl (by decide) ra rb rc z
    · exact agree hk (L := hasL 8) rfl rfl (by decide) ra rb rc z
    · exact agree hk (L := hasL 9) rfl rfl (by decide) ra rb rc z
    · exact agree hk (L := hasL 10) rfl rfl (by decide) ra rb rc z
    · exact agree hk (L := hasL 11) rfl rfl (by decide) ra rb rc z
    · exact agree hk (L := hasL 12) rfl rfl (by decide) ra rb rc z
    · exact agree hk (L := hasL 13) rfl rfl (by decide) ra rb rc z
    · exact agree hk (L := hasL 14) rfl rfl (by decide) ra rb nc z
    · exact agree hk (L := hasL 15) rfl rfl (by decide) ra rb nc z
    · exact agree hk (L := hasL 16) rfl rfl (by decide) na nb nc mJ
    · exact agree hk (L := hasL 17) rfl rfl (by decide) ra nb nc mJ
    · exact agree hk (L := hasL 18) rfl rfl (by decide) ra rb nc z
    · exact agree hk (L := hasL 19) rfl rfl (by decide) ra rb nc z
    · exact agree hk (L := hasL 20) rfl rfl (by decide) ra rb nc mF
    · exact agree hk (L := hasL 21) rfl rfl (by decide) ra rb nc z
    · exact agree hk (L := hasL 22) rfl rfl (by decide) ra nb nc z
    · exact agree hk (L := hasL 23) rfl rfl (by decide) ra nb nc z
    · exact agree hk (L := hasL 24) rfl rfl (by decide) na nb nc z
    · exact agree hk (L := hasL 25) rfl rfl (by decide) na nb nc mM
    · exact agree hk (L := hasL 26) rfl rfl (by decide) na nb nc mM
    · exact agree hk (L := hasL 27) rfl rfl (by decide) na nb mc mK
    · exact agree hk (L := hasL 28) rfl rfl (by decide) na nb nc mK
    · exact agree hk (L := hasL 29) rfl rfl (by decide) na nb nc mK
    · exact agree hk (L := hasL 30) rfl rfl (by decide) na nb nc mS
    · exact agree hk (L := hasL 31) rfl rfl (by decide) na nb nc mS
    · exact agree hk (L := hasL 32) rfl rfl (by decide) ra nb nc z
    · exact agree hk (L := hasL 33) rfl rfl (by decide) ra rb nc z
    · exact agree hk (L := hasL 34) rfl rfl (by decide) ra rb nc z
    · exact agree hk (L := hasL 35) rfl rfl (by decide) ra nb nc mP
    · exact agree hk (L := hasL 36) rfl rfl (by decide) ra nb nc mP
    · exact agree hk (L := hasL 37) rfl rfl (by decide) ra nb nc z
    · exact agree hk (L := hasL 38) rfl rfl (by decide) ra nb nc z
  · have e1 : has i.op = [] := by
      by_cases h0 : i.op = 0
      · rw [h0]; rfl
      · exact has_out (by omega)
    have e2 : (form i.op).2 = false := by
      unfold form
      repeat rw [if_neg (by omega)]
    unfold rsoundB soundB
    rw [e1, e2]
    rfl

end Dk
