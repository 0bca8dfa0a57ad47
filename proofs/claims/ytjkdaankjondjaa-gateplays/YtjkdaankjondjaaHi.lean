/- Is it there, and does someone wait: what the gates ask first. -/
import Derived.Test.YtjkdaankjondjaaHh
namespace Go.Proofs.Ytjkdaankjondjaa
set_option linter.unusedSimpArgs false
set_option linter.unusedVariables false
set_option linter.unnecessarySimpa false
open Go.RowKit Go.Lib

theorem like_waits {S : Dk.St} {ms : List Mx} {cs : List Cx} {ss : List Sx} (l : Like S ms cs ss) (x : Int) : ((ms.any fun m => m.xs.contains x) || (cs.any fun c => (c.xs.map Prod.fst).contains x) || (ss.any fun s => s.xs.contains x)) = S.waits x := by
  unfold Dk.St.waits
  rw [← l.wait, ← l.conds, ← l.downs, List.any_map, List.any_map, List.any_map]
  have e : (cs.any fun c => (c.xs.map Prod.fst).contains x) = cs.any ((fun l => l.any fun p => p.1 == x) ∘ Cx.xs) := by
    congr 1
    funext c
    show _ = c.xs.any fun p => p.1 == x
    rw [Bool.eq_iff_iff, List.any_eq_true, List.contains_iff_mem, List.mem_map]
    constructor
    · rintro ⟨p, hp, e⟩
      exact ⟨p, hp, by simpa using e⟩
    · rintro ⟨p, hp, e⟩
      exact ⟨p, hp, by simpa using e⟩
  rw [e, Bool.or_assoc, Bool.or_assoc, Bool.or_comm (cs.any _)]
  rfl

section
variable {W w : World} {b k : Nat} {S : Dk.St} {vm vc vs : Value} {ms : List Mx} {cs : List Cx} {ss : List Sx} {us : List Dk.Thing}

theorem rowsM (h : Dk.Sep W w (us ++ gts b vm vc vs ms cs ss)) (l : Like S ms cs ss) (ok : Dk.Ok S k) : ∀ m ∈ ms, w.ownsRow 0 3 1 m.u m.xs.length (Dk.is m.xs) ∧ ∀ x ∈ m.xs, Dk.i64 x := fun m hm =>
  ⟨h.get (t := m.row) (by simp only [gts, List.mem_append, List.mem_cons, List.mem_map]; exact .inr (.inr (.inr (.inr (.inr (.inl ⟨m, hm, rfl⟩)))))), ok.waits _ (by rw [← l.wait]; exact List.mem_map_of_mem hm)⟩
theorem rowsC (h : Dk.Sep W w (us ++ gts b vm vc vs ms cs ss)) (l : Like S ms cs ss) (ok : Dk.Ok S k) : ∀ m ∈ cs, w.ownsRow 0 3 1 m.u m.xs.length (Dk.is (m.xs.map Prod.fst)) ∧ ∀ x ∈ m.xs.map Prod.fst, Dk.i64 x := fun m hm =>
  ⟨h.get (t := m.row) (by simp only [gts, List.mem_append, List.mem_cons, List.mem_map]; exact .inr (.inr (.inr (.inr (.inr (.inr (.inl ⟨m, hm, rfl⟩))))))), fun x hx => by
    obtain ⟨p, hp, rfl⟩ := List.mem_map.1 hx
    exact (ok.conds _ (by rw [← l.conds]; exact List.mem_map_of_mem hm) p hp).1⟩
theorem rowsS (h : Dk.Sep W w (us ++ gts b vm vc vs ms cs ss)) (l : Like S ms cs ss) (ok : Dk.Ok S k) : ∀ m ∈ ss, w.ownsRow 0 3 1 m.u m.xs.length (Dk.is m.xs) ∧ ∀ x ∈ m.xs, Dk.i64 x := fun m hm =>
  ⟨h.get (t := m.row) (by simp only [gts, List.mem_append, List.mem_cons, List.mem_map]; exact .inr (.inr (.inr (.inr (.inr (.inr (.inr (.inr ⟨m, hm, rfl⟩)))))))), ok.downsI _ (by rw [← l.downs]; exact List.mem_map_of_mem hm)⟩

set_option maxHeartbeats 1000000 in
theorem waits_any (h : Dk.Sep W w (us ++ gts b vm vc vs ms cs ss)) (l : Like S ms cs ss) (ok : Dk.Ok S k) (x : Int) :
    Calls Try.prog 33 #[.pointer (some ⟨b, 0, none⟩), .int .i64 x] w fun e w' => e = .returned (.bool (S.waits x)) ∧ Below w.heap.size w w' := by
  rw [← like_waits l x]
  obtain ⟨W1, e1⟩ : ∃ W1, W1 = w.alloc (.cells #[.int .i64 x] 3) := ⟨_, rfl⟩
  have u1 : Below w.heap.size w W1 := by rw [e1]; exact Dk.up_alloc (Below.refl _ _) _
  have b1 : Dk.Box W1 w.heap.size #[.int .i64 x] 3 := by rw [e1]; exact Dk.Box.new _ _ _
  have h1 := h.below u1
  have kx : ∀ y : Dk.Up W1, y.wd.cell? ⟨w.heap.size, 0, none⟩ = some (.int .i64 x) := fun y => (b1.up y.property).cell 0
  have kl : ∀ y : Dk.Up W1, w.heap.size < y.wd.heap.size := fun y => Nat.lt_of_lt_of_le b1.lt y.property.size
  obtain ⟨r1, er1⟩ : ∃ r1, (ms.any fun m => m.xs.contains x) = r1 := ⟨_, rfl⟩
  obtain ⟨r2, er2⟩ : ∃ r2, (cs.any fun c => (c.xs.map Prod.fst).contains x) = r2 := ⟨_, rfl⟩
  obtain ⟨r3, er3⟩ : ∃ r3, (ss.any fun s => s.xs.contains x) = r3 := ⟨_, rfl⟩
  have C1 : Hid (∀ y : Dk.Up W1, Calls Try.prog 43 #[vm, .func (.func 44) #[] #[.pointer (some ⟨w.heap.size, 0, none⟩)]] y.wd fun e w' => e = .returned (.bool r1) ∧ Below y.wd.heap.size y.wd w') := fun y => by
    rw [← er1]
    exact containsM W.heap.size _ ms x _ _ ((h1.below y.property).row (by simp [gts, hdM])) (rowsM (h1.below y.property) l ok) (kl y) (kx y)
  have C2 : Hid (∀ y : Dk.Up W1, Calls Try.prog 46 #[vc, .func (.func 47) #[] #[.pointer (some ⟨w.heap.size, 0, none⟩)]] y.wd fun e w' => e = .returned (.bool r2) ∧ Below y.wd.heap.size y.wd w') := fun y => by
    rw [← er2]
    exact containsC W.heap.size _ cs x _ _ ((h1.below y.property).row (by simp [gts, hdC])) (rowsC (h1.below y.property) l ok) (kl y) (kx y)
  have C3 : Hid (∀ y : Dk.Up W1, Calls Try.prog 48 #[vs, .func (.func 49) #[] #[.pointer (some ⟨w.heap.size, 0, none⟩)]] y.wd fun e w' => e = .returned (.bool r3) ∧ Below y.wd.heap.size y.wd w') := fun y => by
    rw [← er3]
    exact containsS W.heap.size _ ss x _ _ ((h1.below y.property).row (by simp [gts, hdS])) (rowsS (h1.below y.property) l ok) (kl y) (kx y)
  have hb : Hid (∀ y : Dk.Up W1, y.wd.cell? ⟨b, 0, none⟩ = some vm ∧ y.wd.cell? ⟨b, 1, none⟩ = some vc ∧ y.wd.cell? ⟨b, 2, none⟩ = some vs) := fun y => ⟨(headG (h1.below y.property)).cell 0, (headG (h1.below y.property)).cell 1, (headG (h1.below y.property)).cell 2⟩
  obtain ⟨A1, D1, ev1, _, _⟩ := shapeM h
  obtain ⟨A2, D2, ev2, _, _⟩ := shapeC h
  obtain ⟨A3, D3, ev3, _, _⟩ := shapeS h
  rw [er1, er2, er3]
  have HU : Hid _ := u1
  have HE : Hid (w.alloc (.cells #[.int .i64 x] 3) = W1) := e1.symm
  clear er1 er2 er3 h h1 kx kl b1 u1 e1 l ok
  generalize ms.length = L1 at *
  generalize cs.length = L2 at *
  generalize ss.length = L3 at *
  subst ev1 ev2 ev3
  have c0 := (hb.out ⟨W1, Below.refl _ _⟩).1
  have K1 := C1.out ⟨W1, Below.refl _ _⟩
  simp only [Dk.Up.wd] at c0 K1
  go_enter Try.func33, Try.ntmps33
  go_wp2_with (rw [HE.out]; clear HE)
  refine K1.mono ?_
  rintro e w2 ⟨rfl, u2⟩
  have U2 : Hid (Below W1.heap.size W1 w2) := u2
  have c1 : w2.cell? ⟨b, 1, none⟩ = _ := (hb.out ⟨w2, u2⟩).2.1
  have K2 := C2.out ⟨w2, u2⟩
  simp only [Dk.Up.wd] at K2
  clear K1 c0 u2 C1 C2
  cases r1
  · go_wp2_with fail
    refine K2.mono ?_
    rintro e w3 ⟨rfl, u3⟩
    have u3' : Below W1.heap.size W1 w3 := Dk.up_call U2.out u3
    have U3 : Hid (Below W1.heap.size W1 w3) := u3'
    have c2 : w3.cell? ⟨b, 2, none⟩ = _ := (hb.out ⟨w3, u3'⟩).2.2
    have K3 := C3.out ⟨w3, u3'⟩
    simp only [Dk.Up.wd] at K3
    clear K2 c1 u3 u3' C3 hb
    cases r2
    · go_wp2_with fail
      refine K3.mono ?_
      rintro e w4 ⟨rfl, u4⟩
      have U4 : Hid (Below w.heap.size w w4) := Dk.up_call HU.out (Dk.up_call U3.out u4)
      clear K3 c2 u4
      go_wp2_with fail
      go_ret
      exact ⟨rfl, U4.out⟩
    · go_wp2_with fail
      go_ret
      exact ⟨rfl, Dk.up_call HU.out U3.out⟩
  · go_wp2_with fail
    go_ret
    exact ⟨rfl, Dk.up_call HU.out U2.out⟩

theorem hasM_yes (h : Dk.Sep W w (us ++ gts b vm vc vs ms cs ss)) (n : Nat) (hn : n < ms.length) : Calls Try.prog 29 #[.pointer (some ⟨b, 0, none⟩), .int .i64 (n : Int)] w fun e w' => e = .returned (.bool true) ∧ w' = w := by
  have c0 : w.cell? ⟨b, 0, none⟩ = some vm := (headG h).cell 0
  obtain ⟨A, D, ev, _, _⟩ := shapeM h
  generalize ms.length = L at *
  subst ev
  have z1 : decide ((n : Int) < (L : Int)) = true := decide_eq_true (by omega)
  have z2 : decide (0 ≤ (n : Int)) = true := decide_eq_true (by omega)
  have z3 : decide ((n : Int) ≥ 0) = true := decide_eq_true (by omega)
  clear h
  go_enter Try.func29, Try.ntmps29
  go_wp2
  go_ret
  exact ⟨rfl, rfl⟩
theorem hasM_no (h : Dk.Sep W w (us ++ gts b vm vc vs ms cs ss)) (n : Int) (hn : n < 0 ∨ (ms.length : Int) ≤ n) : Calls Try.prog 29 #[.pointer (some ⟨b, 0, none⟩), .int .i64 n] w fun e w' => e = .returned (.bool false) ∧ w' = w := by
  have c0 : w.cell? ⟨b, 0, none⟩ = some vm := (headG h).cell 0
  obtain ⟨A, D, ev, _, _⟩ := shapeM h
  generalize ms.length = L at *
  subst ev
  clear h
  by_cases h0 : n < 0
  · have z2 : decide (0 ≤ n) = false := decide_eq_false (by omega)
    have z3 : decide (n ≥ 0) = false := decide_eq_false (by omega)
    clear hn
    go_enter Try.func29, Try.ntmps29
    go_wp2
    go_ret
    exact ⟨rfl, rfl⟩
  · have z1 : decide (n < (L : Int)) = false := decide_eq_false (by omega)
    have z2 : decide (0 ≤ n) = true := decide_eq_true (by omega)
    have z3 : decide (n ≥ 0) = true := decide_eq_true (by omega)
    clear hn
    go_enter Try.func29, Try.ntmps29
    go_wp2
    go_ret
    exact ⟨rfl, rfl⟩
theorem hasM_nil (n : Int) (w : World) : Calls Try.prog 29 #[.pointer none, .int .i64 n] w fun e w' => e = .returned (.bool false) ∧ w' = w := by
  go_enter Try.func29, Try.ntmps29
  go_wp2
  go_ret
  exact ⟨rfl, rfl⟩

theorem hasC_yes (h : Dk.Sep W w (us ++ gts b vm vc vs ms cs ss)) (n : Nat) (hn : n < cs.length) : Calls Try.prog 31 #[.pointer (some ⟨b, 0, none⟩), .int .i64 (n : Int)] w fun e w' => e = .returned (.bool true) ∧ w' = w := by
  have c0 : w.cell? ⟨b, 1, none⟩ = some vc := (headG h).cell 1
  obtain ⟨A, D, ev, _, _⟩ := shapeC h
  generalize cs.length = L at *
  subst ev
  have z1 : decide ((n : Int) < (L : Int)) = true := decide_eq_true (by omega)
  have z2 : decide (0 ≤ (n : Int)) = true := decide_eq_true (by omega)
  have z3 : decide ((n : Int) ≥ 0) = true := decide_eq_true (by omega)
  clear h
  go_enter Try.func31, Try.ntmps31
  go_wp2
  go_ret
  exact ⟨rfl, rfl⟩
theorem hasC_no (h : Dk.Sep W w (us ++ gts b vm vc vs ms cs ss)) (n : Int) (hn : n < 0 ∨ (cs.length : Int) ≤ n) : Calls Try.prog 31 #[.pointer (some ⟨b, 0, none⟩), .int .i64 n] w fun e w' => e = .returned (.bool false) ∧ w' = w := by
  have c0 : w.cell? ⟨b, 1, none⟩ = some vc := (headG h).cell 1
  obtain ⟨A, D, ev, _, _⟩ := shapeC h
  generalize cs.length = L at *
  subst ev
  clear h
  by_cases h0 : n < 0
  · have z2 : decide (0 ≤ n) = false := decide_eq_false (by omega)
    have z3 : decide (n ≥ 0) = false := decide_eq_false (by omega)
    clear hn
    go_enter Try.func31, Try.ntmps31
    go_wp2
    go_ret
    exact ⟨rfl, rfl⟩
  · have z1 : decide (n < (L : Int)) = false := decide_eq_false (by omega)
    have z2 : decide (0 ≤ n) = true := decide_eq_true (by omega)
    have z3 : decide (n ≥ 0) = true := decide_eq_true (by omega)
    clear hn
    go_enter Try.func31, Try.ntmps31
    go_wp2
    go_ret
    exact ⟨rfl, rfl⟩
theorem hasC_nil (n : Int) (w : World) : Calls Try.prog 31 #[.pointer none, .int .i64 n] w fun e w' => e = .returned (.bool false) ∧ w' = w := by
  go_enter Try.func31, Try.ntmps31
  go_wp2
  go_ret
  exact ⟨rfl, rfl⟩

theorem hasS_yes (h : Dk.Sep W w (us ++ gts b vm vc vs ms cs ss)) (n : Nat) (hn : n < ss.length) : Calls Try.prog 32 #[.pointer (some ⟨b, 0, none⟩), .int .i64 (n : Int)] w fun e w' => e = .returned (.bool true) ∧ w' = w := by
  have c0 : w.cell? ⟨b, 2, none⟩ = some vs := (headG h).cell 2
  obtain ⟨A, D, ev, _, _⟩ := shapeS h
  generalize ss.length = L at *
  subst ev
  have z1 : decide ((n : Int) < (L : Int)) = true := decide_eq_true (by omega)
  have z2 : decide (0 ≤ (n : Int)) = true := decide_eq_true (by omega)
  have z3 : decide ((n : Int) ≥ 0) = true := decide_eq_true (by omega)
  clear h
  go_enter Try.func32, Try.ntmps32
  go_wp2
  go_ret
  exact ⟨rfl, rfl⟩
theorem hasS_no (h : Dk.Sep W w (us ++ gts b vm vc vs ms cs ss)) (n : Int) (hn : n < 0 ∨ (ss.length : Int) ≤ n) : Calls Try.prog 32 #[.pointer (some ⟨b, 0, none⟩), .int .i64 n] w fun e w' => e = .returned (.bool false) ∧ w' = w := by
  have c0 : w.cell? ⟨b, 2, none⟩ = some vs := (headG h).cell 2
  obtain ⟨A, D, ev, _, _⟩ := shapeS h
  generalize ss.length = L at *
  subst ev
  clear h
  by_cases h0 : n < 0
  · have z2 : decide (0 ≤ n) = false := decide_eq_false (by omega)
    have z3 : decide (n ≥ 0) = false := decide_eq_false (by omega)
    clear hn
    go_enter Try.func32, Try.ntmps32
    go_wp2
    go_ret
    exact ⟨rfl, rfl⟩
  · have z1 : decide (n < (L : Int)) = false := decide_eq_false (by omega)
    have z2 : decide (0 ≤ n) = true := decide_eq_true (by omega)
    have z3 : decide (n ≥ 0) = true := decide_eq_true (by omega)
    clear hn
    go_enter Try.func32, Try.ntmps32
    go_wp2
    go_ret
    exact ⟨rfl, rfl⟩
theorem hasS_nil (n : Int) (w : World) : Calls Try.prog 32 #[.pointer none, .int .i64 n] w fun e w' => e = .returned (.bool false) ∧ w' = w := by
  go_enter Try.func32, Try.ntmps32
  go_wp2
  go_ret
  exact ⟨rfl, rfl⟩
end
end Go.Proofs.Ytjkdaankjondjaa
