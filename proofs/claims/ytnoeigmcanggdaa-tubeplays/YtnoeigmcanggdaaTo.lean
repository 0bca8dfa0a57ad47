/- The layer's small calls: who waits, whether there is room, a new pipe, and the first of a row. -/
import Derived.Shelf.Slices.Turned
import Derived.Shelf.SlicesQ.IndexFunc
import Derived.Test.YtnoeigmcanggdaaTd
import Derived.Test.YtnoeigmcanggdaaTl
import Derived.Test.YtnoeigmcanggdaaUp
import Derived.KernelRfl
namespace Go.Proofs
open Go.Shelf
def Try.lays108_ren : Go.Shelf.Ren := ⟨fun | 108 => 28 | n => n, fun | 28 => 26 | 3 => 3 | 0 => 0 | 4 => 4 | n => n, fun | n => n⟩
theorem Try.lays108 : Go.Proofs.Lays.n108 Try.prog Try.lays108_ren := {
  mixed := by kernel_rfl
  f108 := Try.func28.trans (congrArg some (by kernel_rfl))
  t0 := Try.underlying0
  a0 := Try.isAgg0
  z0 := Try.sizeOf0
  v0 := Try.zeroValue0
  t3 := Try.underlying3
  a3 := Try.isAgg3
  z3 := Try.sizeOf3
  v3 := Try.zeroValue3
  t4 := Try.underlying4
  a4 := Try.isAgg4
  z4 := Try.sizeOf4
  v4 := Try.zeroValue4
  t28 := Try.underlying26
  a28 := Try.isAgg26
  z28 := Try.sizeOf26
  v28 := Try.zeroValue26 }
def Try.lays107_ren : Go.Shelf.Ren := ⟨fun | 107 => 23 | 108 => 28 | n => n, fun | 28 => 26 | 3 => 3 | 4 => 4 | 0 => 0 | n => n, fun | n => n⟩
theorem Try.lays107 : Go.Proofs.Lays.n107 Try.prog Try.lays107_ren := {
  mixed := by kernel_rfl
  f107 := Try.func23.trans (congrArg some (by kernel_rfl))
  f108 := Try.func28.trans (congrArg some (by kernel_rfl))
  t0 := Try.underlying0
  a0 := Try.isAgg0
  z0 := Try.sizeOf0
  v0 := Try.zeroValue0
  t3 := Try.underlying3
  a3 := Try.isAgg3
  z3 := Try.sizeOf3
  v3 := Try.zeroValue3
  t4 := Try.underlying4
  a4 := Try.isAgg4
  z4 := Try.sizeOf4
  v4 := Try.zeroValue4
  t28 := Try.underlying26
  a28 := Try.isAgg26
  z28 := Try.sizeOf26
  v28 := Try.zeroValue26 }
def Try.l24_ren : Go.Shelf.Ren := ⟨fun | 8 => 24 | 6 => 29 | n => n, fun | 22 => 44 | 23 => 52 | 25 => 59 | 4 => 4 | 3 => 3 | 0 => 0 | n => n, fun | n => n⟩
theorem Try.l24 : Go.Proofs.SlLaysH0.n8 Try.prog Try.l24_ren := {
  mixed := by kernel_rfl
  f6 := ⟨Try.f29.name, by decide, Try.func29.trans (congrArg some (by kernel_rfl))⟩
  f8 := ⟨Try.f24.name, by decide, Try.func24.trans (congrArg some (by kernel_rfl))⟩
  t0 := Try.underlying0
  a0 := Try.isAgg0
  z0 := Try.sizeOf0
  v0 := Try.zeroValue0
  t3 := Try.underlying3
  a3 := Try.isAgg3
  z3 := Try.sizeOf3
  v3 := Try.zeroValue3
  t4 := Try.underlying4
  a4 := Try.isAgg4
  z4 := Try.sizeOf4
  v4 := Try.zeroValue4
  t22 := Try.underlying44
  a22 := Try.isAgg44
  z22 := Try.sizeOf44
  v22 := Try.zeroValue44
  t25 := Try.underlying59
  a25 := Try.isAgg59
  z25 := Try.sizeOf59
  v25 := Try.zeroValue59 }
end Go.Proofs

namespace Go.Proofs.Ytnoeigmcanggdaa
set_option linter.unusedSimpArgs false
set_option linter.unusedVariables false
set_option linter.unnecessarySimpa false
open Go.RowKit Go.Lib

theorem Contains_any (A : Option Addr) (L C : Nat) (xs : List Int) (x : Int) (w : World) (h : Dk.SlI w.heap.size w A L C xs) :
    Calls Try.prog 23 #[.slice A L C, .int .i64 x] w fun e w' => e = .returned (.bool (xs.contains x)) ∧ w' = w := by
  have hl := h.len
  have hc := h.cap
  have hm := h.max
  unfold maxLen at hm
  by_cases h0 : 0 < L
  · obtain ⟨b, o, rfl, hb, hcell⟩ := h.cells h0
    have c := Any.slices_Contains_int Try.lays107 b o L C xs x w (by omega) (by omega) (fun j hj => hcell j (by omega))
    rw [← hl, List.take_length] at c
    rw [← hl]
    exact c
  · obtain rfl : L = 0 := by omega
    obtain rfl : xs = [] := List.eq_nil_of_length_eq_zero hl
    exact Any.slices_Contains_int_empty Try.lays107 A C x w


def encP (p : Int × Nat) : List Value := [.int .i64 p.1, .int .u64 (p.2 : Nat)]

/-- The closure: is it theirs? -/
theorem theirs (x : Int) (b : Nat) (w : World) (hb : b < w.heap.size) (hcell : w.cell? ⟨b, 0, none⟩ = some (.int .i64 x)) :
    PredBelow Try.prog 22 #[.pointer (some ⟨b, 0, none⟩)] (fun p => .agg (encP p).toArray) (fun p => p.1 == x) w := fun W p hB => by
  have hc : W.cell? ⟨b, 0, none⟩ = some (.int .i64 x) := (hB.cell (p := ⟨b, 0, none⟩) hb).trans hcell
  have hbW : b < W.heap.size := Nat.lt_of_lt_of_le hb hB.size
  have hne : b ≠ W.heap.size := by omega
  show Calls Try.prog 22 #[.agg #[.int .i64 p.1, .int .u64 (p.2 : Nat)], .pointer (some ⟨b, 0, none⟩)] W _
  go_enter Try.func22, Try.ntmps22
  go_wp2
  all_goals (go_ret; exact ⟨by simp_all, hB.alloc hB.size _⟩)

theorem IndexFunc_none (fv : Value) (w : World) : Calls Try.prog 29 #[.slice none 0 0, fv] w fun e w' => e = .returned (.int .i64 (-1)) ∧ w' = w := by
  go_enter Try.func29, Try.ntmps29
  go_wp2
  go_loopw [8] (fun i w' => i = .int .i64 0 ∧ Hid (w' = w)) (fun i w' => 0)
  case atStart => exact ⟨rfl, rfl⟩
  case round =>
    obtain ⟨rfl, HW⟩ := hrel
    go_wp2
    go_ret
    exact ⟨rfl, HW.out⟩
theorem ContainsFunc_none (fv : Value) (w : World) : Calls Try.prog 24 #[.slice none 0 0, fv] w fun e w' => e = .returned (.bool false) ∧ w' = w := by
  go_enter Try.func24, Try.ntmps24
  go_wp2_with (go_at_call 29; refine (IndexFunc_none _ _).mono ?_; rintro e w' ⟨rfl, hw'⟩; subst w')
  go_ret
  exact ⟨rfl, rfl⟩
theorem ContainsFunc_any (B : Nat) (v : Value) (ps : List (Int × Nat)) (x : Int) (b : Nat) (w : World) (h : w.ownsRow B 52 2 v ps.length (Dk.prs ps)) (hb : b < w.heap.size) (hcell : w.cell? ⟨b, 0, none⟩ = some (.int .i64 x)) :
    Calls Try.prog 24 #[v, .func (.func 22) #[] #[.pointer (some ⟨b, 0, none⟩)]] w fun e w' => e = .returned (.bool (ps.any fun p => p.1 == x)) ∧ Below w.heap.size w w' := by
  obtain ⟨hl, ⟨rfl, h0⟩ | ⟨g, cap, cur, rfl, hgb, hg, hn, hm, hs, ht⟩⟩ := id h
  · obtain rfl : ps = [] := List.eq_nil_of_length_eq_zero h0
    refine (ContainsFunc_none _ w).mono ?_
    rintro e w' ⟨rfl, rfl⟩
    exact ⟨rfl, Below.refl _ _⟩
  · have eg : ∀ args w, (callFunc 22 args).run Try.prog w = .ok (.enter 22 args) w := enters_of Try.func22 (by kernel_rfl) rfl
    unfold maxLen at hm
    have hcells := h.cells (g := g) rfl
    have hcon := AnyQ.slices_ContainsFunc Try.l24 2 Try.isAgg52 Try.sizeOf52 encP (fun _ => rfl) (fun p => p.1 == x) 22 #[.pointer (some ⟨b, 0, none⟩)] eg g 0 ps.length cap ps w (theirs x b w hb hcell) (Nat.le_refl _) (by omega) (Array.getElem?_eq_some_iff.1 hg).1 (fun j hj i u hi => by
      have h1 := Dk.prs_get ps j hj
      have e0 : ps[j]! = ps.getD j (0, 0) := by simp [List.getD, hj]
      rw [e0] at hi
      generalize ps.getD j (0, 0) = y at hi h1
      match i, hi with
      | 0, hi =>
        simp [encP] at hi
        have := hcells (j * 2) _ h1.1
        rw [Addr.add_lit] at this
        rw [← hi, Nat.add_zero]
        exact this
      | 1, hi =>
        simp [encP] at hi
        have := hcells (j * 2 + 1) _ h1.2
        rw [Addr.add_lit] at this
        rw [← hi, Nat.add_assoc]
        exact this
      | i + 2, hi => simp [encP] at hi)
    rw [List.take_length] at hcon
    exact hcon

/-- Does someone wait? -/
def Dk.waits (ps : List (Int × Nat)) (gs : List Int) (x : Int) : Bool := gs.contains x || ps.any fun p => p.1 == x

set_option maxHeartbeats 1000000 in
theorem waits_any {W w : World} {bt : Nat} {room : Int} {ws : List Nat} {ps : List (Int × Nat)} {gs : List Int} {us : List Dk.Thing} (h : Dk.Tb W w bt room ws ps gs us) (x : Int) :
    Calls Try.prog 17 #[.pointer (some ⟨bt, 0, none⟩), .int .i64 x] w fun e w' => e = .returned (.bool (Dk.waits ps gs x)) ∧ Below w.heap.size w w' := by
  obtain ⟨v1, v2, v3, t, f⟩ := Hid.out h
  obtain ⟨W1, e1⟩ : ∃ W1, W1 = w.alloc (.cells #[.int .i64 x] 3) := ⟨_, rfl⟩
  have u1 : Below w.heap.size w W1 := by rw [e1]; exact Dk.up_alloc (Below.refl _ _) _
  have b1 : Dk.Box W1 w.heap.size #[.int .i64 x] 3 := by rw [e1]; exact Dk.Box.new _ _ _
  have t1 := t.below u1
  obtain ⟨A2, C2, ev2, _, _⟩ := Dk.owns_slice t.row2
  obtain ⟨A3, C3, ev3, s3⟩ := Dk.owns_ints t1.row3 f.gs
  have k2 : ∀ y : Dk.Up W1, y.wd.cell? ⟨bt, 2, none⟩ = some (.slice A2 ps.length C2) := fun y => by rw [← ev2]; exact (t1.below y.property).head.cell 2
  have k3 : ∀ y : Dk.Up W1, y.wd.cell? ⟨bt, 3, none⟩ = some (.slice A3 gs.length C3) := fun y => by rw [← ev3]; exact (t1.below y.property).head.cell 3
  have k0 : ∀ y : Dk.Up W1, y.wd.cell? ⟨w.heap.size, 0, none⟩ = some (.int .i64 x) := fun y => (b1.up y.property).cell 0
  have hne : Nonempty (Dk.Up W1) := ⟨⟨W1, Below.refl _ _⟩⟩
  obtain ⟨r1, er1⟩ : ∃ r1, gs.contains x = r1 := ⟨_, rfl⟩
  obtain ⟨r2, er2⟩ : ∃ r2, (ps.any fun p => p.1 == x) = r2 := ⟨_, rfl⟩
  have c1 : ∀ y : Dk.Up W1, Calls Try.prog 23 #[.slice A3 gs.length C3, .int .i64 x] y.wd fun e w' => e = .returned (.bool r1) ∧ w' = y.wd := fun y => by
    rw [← er1]
    exact Contains_any _ _ _ gs x _ ((s3.below y.property (Nat.le_refl _)).more y.property.size)
  have c2 : ∀ y : Dk.Up W1, Calls Try.prog 24 #[.slice A2 ps.length C2, .func (.func 22) #[] #[.pointer (some ⟨w.heap.size, 0, none⟩)]] y.wd fun e w' => e = .returned (.bool r2) ∧ Below y.wd.heap.size y.wd w' := fun y => by
    rw [← er2, ← ev2]
    exact ContainsFunc_any _ _ ps x w.heap.size _ (t1.below y.property).row2 (Nat.lt_of_lt_of_le b1.lt y.property.size) (k0 y)
  have ew : Dk.waits ps gs x = (r1 || r2) := by unfold Dk.waits; rw [er1, er2]
  rw [ew]
  have C1 : Hid _ := c1
  have C2' : Hid _ := c2
  have HU : Hid _ := u1
  have HE : Hid _ := e1
  clear c1 c2 ew er1 er2 s3 ev2 ev3 t t1 f b1 h u1 e1
  cases r1
  · go_enter Try.func17, Try.ntmps17
    go_wp2_with fail
    rw [← HE.out]
    refine Dk.wp_region_up_lit (by kernel_rfl) (by kernel_rfl) ?_
    repeat (go_big_quiet_step ((first | (go_at_call 23; exact Dk.calls_up_same _ (C1.out _)) | (go_at_call 24; exact Dk.calls_up _ (C2'.out _)))))
    refine wpQuiet_nil ?_
    intro _ hw'
    obtain ⟨y, hw''⟩ := hw'
    subst hw''
    go_wp2_with fail
    go_ret
    exact ⟨rfl, Dk.up_call HU.out y.property⟩
  · go_enter Try.func17, Try.ntmps17
    go_wp2_with fail
    rw [← HE.out]
    refine Dk.wp_region_up_lit (by kernel_rfl) (by kernel_rfl) ?_
    repeat (go_big_quiet_step ((first | (go_at_call 23; exact Dk.calls_up_same _ (C1.out _)) | (go_at_call 24; exact Dk.calls_up _ (C2'.out _)))))
    refine wpQuiet_nil ?_
    intro _ hw'
    obtain ⟨y, hw''⟩ := hw'
    subst hw''
    go_wp2_with fail
    go_ret
    exact ⟨rfl, Dk.up_call HU.out y.property⟩

/-- How many words there may be. -/
def Dk.most (room : Int) : Nat := if room < 1 then 1 else if 8 < room then 8 else room.toNat

theorem Dk.most_lt (room : Int) (n : Nat) : decide ((n : Int) < min (max room 1) 8) = decide (n < Dk.most room) := by
  unfold Dk.most
  congr 1
  apply propext
  split
  · omega
  · split <;> omega

set_option maxHeartbeats 1000000 in
theorem hasRoom_any {W w : World} {bt : Nat} {room : Int} {ws : List Nat} {ps : List (Int × Nat)} {gs : List Int} {us : List Dk.Thing} (h : Dk.Tb W w bt room ws ps gs us) :
    Calls Try.prog 21 #[.pointer (some ⟨bt, 0, none⟩)] w fun e w' => e = .returned (.bool (decide (ws.length < Dk.most room))) ∧ Below w.heap.size w w' := by
  obtain ⟨v1, v2, v3, t, f⟩ := Hid.out h
  obtain ⟨A1, C1, ev1, _, _⟩ := Dk.owns_slice t.row1
  have k1 : ∀ y : Dk.Up w, y.wd.cell? ⟨bt, 1, none⟩ = some (.slice A1 ws.length C1) := fun y => by rw [← ev1]; exact (t.below y.property).head.cell 1
  have k0 : ∀ y : Dk.Up w, y.wd.cell? ⟨bt, 0, none⟩ = some (.int .i64 room) := fun y => (t.below y.property).head.cell 0
  have hne : Nonempty (Dk.Up w) := ⟨⟨w, Below.refl _ _⟩⟩
  clear ev1 t f h
  generalize ws.length = n at k1
  go_enter Try.func21, Try.ntmps21
  go_wp2_with fail
  refine Dk.wp_region_up_lit (by kernel_rfl) (by kernel_rfl) ?_
  repeat (go_big_quiet_step (fail))
  refine wpQuiet_nil ?_
  intro _ hw'
  obtain ⟨y, hw''⟩ := hw'
  subst hw''
  go_wp2_with fail
  go_ret
  exact ⟨congrArg Ending.returned (congrArg Value.bool (Dk.most_lt room n)), y.property⟩

theorem New_any {W w : World} {us : List Dk.Thing} (h : Dk.Sep W w us) (room : Int) :
    Calls Try.prog 6 #[.int .i64 room] w fun e w' => e = .returned (.pointer (some ⟨w.heap.size, 0, none⟩)) ∧ Dk.Tb W w' w.heap.size room [] [] [] us := by
  have fin : Dk.Tb W (w.alloc (.cells #[.int .i64 room, .slice none 0 0, .slice none 0 0, .slice none 0 0] 46)) w.heap.size room [] [] [] us := by
    obtain ⟨W1, e1⟩ : ∃ W1, W1 = w.alloc (.cells #[.int .i64 room, .slice none 0 0, .slice none 0 0, .slice none 0 0] 46) := ⟨_, rfl⟩
    rw [← e1]
    have u1 : Below w.heap.size w W1 := by rw [e1]; exact Dk.up_alloc (Below.refl _ _) _
    have s0 := h.add (t := Dk.rowOf 3 1 (.slice none 0 0) 0 (Dk.is [])) (Below.refl _ _) (World.ownsRow_nil _ _ _ _) (fun k hk => by simp [Dk.rowOf, Value.ownBlock] at hk)
    have s1 := s0.add (t := Dk.rowOf 52 2 (.slice none 0 0) 0 (Dk.prs [])) (Below.refl _ _) (World.ownsRow_nil _ _ _ _) (fun k hk => by simp [Dk.rowOf, Value.ownBlock] at hk)
    have s2 := s1.add (t := Dk.rowOf 27 1 (.slice none 0 0) 0 (Dk.uw [])) (Below.refl _ _) (World.ownsRow_nil _ _ _ _) (fun k hk => by simp [Dk.rowOf, Value.ownBlock] at hk)
    exact ⟨_, _, _, s2.newBox e1, ⟨fun x hx => by simp at hx, fun x hx => by simp at hx, fun x hx => by simp at hx⟩⟩
  have HF : Hid _ := fin
  clear fin h
  go_enter Try.func6, Try.ntmps6
  go_wp2
  go_ret
  exact ⟨rfl, HF.out⟩

theorem take_words_no (b o : Nat) (C : Nat) (A : Option Addr) (w : World) (hc : w.cell? ⟨b, o, none⟩ = some (.slice A 0 C)) :
    Calls Try.prog 18 #[.pointer (some ⟨b, o, none⟩)] w fun e w' => e = .returned (.tuple #[.int .u64 0, .bool false]) ∧ w' = w := by
  go_enter Try.func18, Try.ntmps18
  go_wp2
  go_ret2
  exact ⟨rfl, rfl⟩
set_option maxHeartbeats 1000000 in
theorem take_words_yes (B b o : Nat) (cs : Array Value) (t : TypeId) (v : Value) (x : Int) (rest : List Value) (n : Nat) (w : World) (hbx : Dk.Box w b cs t) (hcs : cs[o]? = some v) (h : w.ownsRow B 27 1 v (n + 1) (.int .u64 x :: rest)) (h1 : ∀ u ∈ rest, u.oneCell' = true) (hne : v.ownBlock ≠ some b) :
    Calls Try.prog 18 #[.pointer (some ⟨b, o, none⟩)] w fun e w' => ∃ v', e = .returned (.tuple #[.int .u64 x, .bool true]) ∧ w'.ownsRow B 27 1 v' n rest ∧ Dk.Box w' b (cs.setIfInBounds o v') t ∧ v'.ownBlock = v.ownBlock ∧ Dk.Away (fun k => k = b ∨ v.ownBlock = some k) w w' := by
  have K := Delete_words B v [.int .u64 x] rest n w h rfl h1
  have fin : ∀ v' w', w'.ownsRow B 27 1 v' n rest → w.grownBy w' v.ownBlock → v'.ownBlock = v.ownBlock → ((w'.setCell ⟨b, o, none⟩ v').ownsRow B 27 1 v' n rest ∧ Dk.Box (w'.setCell ⟨b, o, none⟩ v') b (cs.setIfInBounds o v') t ∧ v'.ownBlock = v.ownBlock ∧ Dk.Away (fun k => k = b ∨ v.ownBlock = some k) w (w'.setCell ⟨b, o, none⟩ v')) ∧ (∃ A L C, v' = .slice A L C) ∧ w'.cell? ⟨b, o, none⟩ = some v ∧ w'.frozen? ⟨b, o, none⟩ = false := by
    intro v' w' ho hg hv
    have hb : Dk.Box w' b cs t := ⟨by rw [hg.block b hbx.lt (fun e => hne e.symm)]; exact hbx.heap⟩
    obtain ⟨A', C', e', _, _⟩ := Dk.owns_slice ho
    refine ⟨⟨?_, hb.set o v', hv, ?_⟩, ⟨A', _, C', e'⟩, by rw [hb.cell]; exact hcs, hb.frozen o⟩
    · exact Dk.owns_away ho ((Dk.Away.refl (fun k => k = b) w').set (.inl rfl) _ _) (fun k hk e => by rw [hv, e] at hk; exact hne hk)
    · exact (Dk.Away.of_grown hg (fun k hk => .inl (.inr hk))).set (.inl (.inl rfl)) _ _
  obtain ⟨_, ⟨_, h2⟩ | ⟨g, cap, cur, rfl, hb, hg, hn, hm, hs, ht⟩⟩ := id h
  · omega
  unfold maxLen at hm
  have c0 : w.cell? ⟨b, o, none⟩ = some (.slice (some ⟨g, 0, none⟩) (n + 1) cap) := by rw [hbx.cell]; exact hcs
  have c1 : w.cell? ⟨g, 0, none⟩ = some (.int .u64 x) := by
    have := h.cells (g := g) rfl 0 (.int .u64 x) rfl
    rw [Addr.add_lit] at this
    exact this
  have HF : Hid _ := fin
  clear fin h hbx hcs hne ht hs hg h1
  go_enter Try.func18, Try.ntmps18
  go_wp2_with fail
  refine K.mono ?_
  rintro e w' ⟨v', rfl, ho, hg, hv⟩
  obtain ⟨hfin, ⟨A', L', C', rfl⟩, cb, fb⟩ := HF.out v' w' ho hg hv
  have HW : Hid _ := hfin
  clear hfin ho hg hv HF c0 c1 K
  go_wp2_with fail
  go_ret2
  exact ⟨_, rfl, HW.out⟩

theorem take_ints_no (b o : Nat) (C : Nat) (A : Option Addr) (w : World) (hc : w.cell? ⟨b, o, none⟩ = some (.slice A 0 C)) :
    Calls Try.prog 20 #[.pointer (some ⟨b, o, none⟩)] w fun e w' => e = .returned (.tuple #[.int .i64 0, .bool false]) ∧ w' = w := by
  go_enter Try.func20, Try.ntmps20
  go_wp2
  go_ret2
  exact ⟨rfl, rfl⟩
set_option maxHeartbeats 1000000 in
theorem take_ints_yes (B b o : Nat) (cs : Array Value) (t : TypeId) (v : Value) (x : Int) (rest : List Value) (n : Nat) (w : World) (hbx : Dk.Box w b cs t) (hcs : cs[o]? = some v) (h : w.ownsRow B 3 1 v (n + 1) (.int .i64 x :: rest)) (h1 : ∀ u ∈ rest, u.oneCell' = true) (hne : v.ownBlock ≠ some b) :
    Calls Try.prog 20 #[.pointer (some ⟨b, o, none⟩)] w fun e w' => ∃ v', e = .returned (.tuple #[.int .i64 x, .bool true]) ∧ w'.ownsRow B 3 1 v' n rest ∧ Dk.Box w' b (cs.setIfInBounds o v') t ∧ v'.ownBlock = v.ownBlock ∧ Dk.Away (fun k => k = b ∨ v.ownBlock = some k) w w' := by
  have K := Delete_ints B v [.int .i64 x] rest n w h rfl h1
  have fin : ∀ v' w', w'.ownsRow B 3 1 v' n rest → w.grownBy w' v.ownBlock → v'.ownBlock = v.ownBlock → ((w'.setCell ⟨b, o, none⟩ v').ownsRow B 3 1 v' n rest ∧ Dk.Box (w'.setCell ⟨b, o, none⟩ v') b (cs.setIfInBounds o v') t ∧ v'.ownBlock = v.ownBlock ∧ Dk.Away (fun k => k = b ∨ v.ownBlock = some k) w (w'.setCell ⟨b, o, none⟩ v')) ∧ (∃ A L C, v' = .slice A L C) ∧ w'.cell? ⟨b, o, none⟩ = some v ∧ w'.frozen? ⟨b, o, none⟩ = false := by
    intro v' w' ho hg hv
    have hb : Dk.Box w' b cs t := ⟨by rw [hg.block b hbx.lt (fun e => hne e.symm)]; exact hbx.heap⟩
    obtain ⟨A', C', e', _, _⟩ := Dk.owns_slice ho
    refine ⟨⟨?_, hb.set o v', hv, ?_⟩, ⟨A', _, C', e'⟩, by rw [hb.cell]; exact hcs, hb.frozen o⟩
    · exact Dk.owns_away ho ((Dk.Away.refl (fun k => k = b) w').set (.inl rfl) _ _) (fun k hk e => by rw [hv, e] at hk; exact hne hk)
    · exact (Dk.Away.of_grown hg (fun k hk => .inl (.inr hk))).set (.inl (.inl rfl)) _ _
  obtain ⟨_, ⟨_, h2⟩ | ⟨g, cap, cur, rfl, hb, hg, hn, hm, hs, ht⟩⟩ := id h
  · omega
  unfold maxLen at hm
  have c0 : w.cell? ⟨b, o, none⟩ = some (.slice (some ⟨g, 0, none⟩) (n + 1) cap) := by rw [hbx.cell]; exact hcs
  have c1 : w.cell? ⟨g, 0, none⟩ = some (.int .i64 x) := by
    have := h.cells (g := g) rfl 0 (.int .i64 x) rfl
    rw [Addr.add_lit] at this
    exact this
  have HF : Hid _ := fin
  clear fin h hbx hcs hne ht hs hg h1
  go_enter Try.func20, Try.ntmps20
  go_wp2_with fail
  refine K.mono ?_
  rintro e w' ⟨v', rfl, ho, hg, hv⟩
  obtain ⟨hfin, ⟨A', L', C', rfl⟩, cb, fb⟩ := HF.out v' w' ho hg hv
  have HW : Hid _ := hfin
  clear hfin ho hg hv HF c0 c1 K
  go_wp2_with fail
  go_ret2
  exact ⟨_, rfl, HW.out⟩

end Go.Proofs.Ytnoeigmcanggdaa
