/- A clock behind a pointer, and the map of who waits: how they lie in memory, and the calls that look at them. -/
import Derived.Test.YtiaegeaogleepaaWl
import Derived.Test.YtiaegeaogleepaaDs
import Derived.Test.YtiaegeaogleepaaQl
import Derived.Maps.RangeWalk
import Derived.Maps.OwnSet
import Derived.Carry
import Derived.BigQuiet
namespace Go.Proofs.Ytiaegeaogleepaa
set_option linter.unusedSimpArgs false
set_option linter.unusedVariables false
set_option linter.unnecessarySimpa false
open Go.RowKit Go.Maps

theorem law3 : Keyed Try.prog 3 := int_keyed Try.underlying3
theorem zero3 (w : World) : (zeroValue 3).run Try.prog w = .ok (.int .i64 0) w := by kernel_rfl
/-- The last moment. -/
abbrev late : Int := 1099511627776

/-- A block is a map that tells who waits, of at most M entries. -/
def Told (w : World) (bm M : Nat) (L : List (Int × Int)) : Prop := ∃ (D : DataW Unit) (n : Nat), n ≤ M ∧ w.ownsMap Try.prog 3 (plainElem Try.prog 3) bm n D ∧ Dk.Tells D L
theorem Told.lt {w : World} {bm M : Nat} {L : List (Int × Int)} (h : Told w bm M L) : bm < w.heap.size := by
  obtain ⟨D, n, _, h, _⟩ := h
  exact h.lt
theorem Told.of_block {w w' : World} {bm M : Nat} {L : List (Int × Int)} (h : Told w bm M L) (e : w'.heap[bm]? = w.heap[bm]?) : Told w' bm M L := by
  obtain ⟨D, n, hn, ⟨es, clock, hb, r⟩, ht⟩ := h
  exact ⟨D, n, hn, ⟨es, clock, e.trans hb, r⟩, ht⟩

/-- A clock behind a pointer. -/
structure WH (B M : Nat) (w : World) (bd bm : Nat) (now : Int) (L : List (Int × Int)) : Prop where
  base : B ≤ bd
  baseM : B ≤ bm
  lo : 0 ≤ now
  hi : now ≤ 1099511627776
  head : Dk.Box w bd #[.int .i64 now, .map (some bm)] 43
  map : Told w bm M L
  wf : ∀ p ∈ L, Dk.i64 p.1 ∧ Dk.i64 p.2
/-- Its blocks. -/
def AtW (bd bm : Nat) (k : Nat) : Prop := k = bd ∨ k = bm
theorem WH.at {B M : Nat} {w : World} {bd bm : Nat} {now : Int} {L : List (Int × Int)} (h : WH B M w bd bm now L) : ∀ k, AtW bd bm k → B ≤ k := fun k hk => hk.elim (fun e => by rw [e]; exact h.base) (fun e => by rw [e]; exact h.baseM)
theorem WH.ne {B M : Nat} {w : World} {bd bm : Nat} {now : Int} {L : List (Int × Int)} (h : WH B M w bd bm now L) : bd ≠ bm := fun e => by
  obtain ⟨D, n, _, ⟨es, clock, hb, _⟩, _⟩ := h.map
  have := h.head.heap
  rw [e, hb] at this
  cases this
theorem WH.away {S : Nat → Prop} {B M : Nat} {w w' : World} {bd bm : Nat} {now : Int} {L : List (Int × Int)} (h : WH B M w bd bm now L) (a : Dk.Away S w w') (hd : ¬ S bd) (hm : ¬ S bm) : WH B M w' bd bm now L :=
  ⟨h.base, h.baseM, h.lo, h.hi, h.head.away a hd, h.map.of_block (a.block bm h.map.lt hm), h.wf⟩
theorem WH.up {B M : Nat} {w w' : World} {bd bm : Nat} {now : Int} {L : List (Int × Int)} (h : WH B M w bd bm now L) (u : Below w.heap.size w w') : WH B M w' bd bm now L := h.away (S := fun _ => False) (Dk.Away.of_up u) id id
theorem WH.more {B M M' : Nat} {w : World} {bd bm : Nat} {now : Int} {L : List (Int × Int)} (h : WH B M w bd bm now L) (hM : M ≤ M') : WH B M' w bd bm now L := by
  obtain ⟨D, n, hn, r⟩ := h.map
  exact ⟨h.base, h.baseM, h.lo, h.hi, h.head, ⟨D, n, by omega, r⟩, h.wf⟩
theorem wf_of {x : Int} (h : Dk.i64 x) : (Lit.int .i64 x).wf = true := by
  unfold Dk.i64 at h
  exact WalkArith.wf_i64 (by omega)

theorem New_any (w : World) : Calls Try.prog 6 #[] w fun e w' => e = .returned (.pointer (some ⟨w.heap.size + 1, 0, none⟩)) ∧ WH w.heap.size 0 w' (w.heap.size + 1) w.heap.size 0 [] ∧ Below w.heap.size w w' := by
  have hmm := @run_makeMap Try.prog
  obtain ⟨W1, e1⟩ : ∃ W1, W1 = w.alloc (.map #[] 0) := ⟨_, rfl⟩
  obtain ⟨W2, e2⟩ : ∃ W2, W2 = W1.alloc (.cells #[.int .i64 0, .map (some w.heap.size)] 43) := ⟨_, rfl⟩
  have hs : W1.heap.size = w.heap.size + 1 := by rw [e1, World.size_alloc]
  have u2 : Below w.heap.size w W2 := by rw [e2, e1]; exact Dk.up_alloc (Dk.up_alloc (Below.refl _ _) _) _
  have o1 : W1.ownsMap Try.prog 3 (plainElem (H := Unit) Try.prog 3) w.heap.size 0 (.map []) := by rw [e1]; exact World.ownsMap_made w Try.prog 3 _
  have o2 : W2.ownsMap Try.prog 3 (plainElem (H := Unit) Try.prog 3) w.heap.size 0 (.map []) := by rw [e2]; exact o1.alloc _
  have b2 : Dk.Box W2 (w.heap.size + 1) #[.int .i64 0, .map (some w.heap.size)] 43 := by rw [e2, ← hs]; exact Dk.Box.new W1 _ 43
  have hw : WH w.heap.size 0 W2 (w.heap.size + 1) w.heap.size 0 [] := ⟨by omega, Nat.le_refl _, by omega, by omega, b2, ⟨_, 0, Nat.le_refl _, o2, Dk.Tells.empty⟩, fun p hp => by cases hp⟩
  rw [e1] at e2
  have HW : Hid _ := hw
  have HU : Hid _ := u2
  have HE : Hid _ := e2
  clear hw u2 o1 o2 b2 hs e1 e2
  go_enter Try.func6, Try.ntmps6
  go_wp2
  go_ret
  rw [← HE.out]
  exact ⟨rfl, HW.out, HU.out⟩

section
variable {B M : Nat} {w : World} {bd bm : Nat} {now : Int} {L : List (Int × Int)}

theorem Now_nil (w : World) : Calls Try.prog 9 #[.pointer none] w fun e w' => e = .returned (.int .i64 0) ∧ w' = w := by
  go_enter Try.func9, Try.ntmps9
  go_wp2
  go_ret
  exact ⟨rfl, rfl⟩
theorem Now_any (h : WH B M w bd bm now L) : Calls Try.prog 9 #[.pointer (some ⟨bd, 0, none⟩)] w fun e w' => e = .returned (.int .i64 now) ∧ w' = w := by
  have c0 : w.cell? ⟨bd, 0, none⟩ = some (.int .i64 now) := h.head.cell 0
  clear h
  go_enter Try.func9, Try.ntmps9
  go_wp2
  go_ret
  exact ⟨rfl, rfl⟩
/-- So many moments from now. -/
theorem after_any (n : Int) (h : WH B M w bd bm now L) (h1 : 1 ≤ n) (h2 : n ≤ 1099511627776) : Calls Try.prog 14 #[.pointer (some ⟨bd, 0, none⟩), .int .i64 n] w fun e w' => e = .returned (.int .i64 (min (now + n) 1099511627776)) ∧ w' = w := by
  have c0 : w.cell? ⟨bd, 0, none⟩ = some (.int .i64 now) := h.head.cell 0
  have hlo := h.lo
  have hhi := h.hi
  clear h
  by_cases hle : now + n ≤ 1099511627776
  · go_enter Try.func14, Try.ntmps14
    go_wp2
    go_ret
    exact ⟨by rw [Int.min_eq_left hle]; rfl, rfl⟩
  · go_enter Try.func14, Try.ntmps14
    go_wp2
    go_ret
    exact ⟨by rw [Int.min_eq_right (by omega)]; rfl, rfl⟩

theorem Waiting_nil (x : Int) (w : World) : Calls Try.prog 12 #[.pointer none, .int .i64 x] w fun e w' => e = .returned (.tuple #[.int .i64 0, .bool false]) ∧ w' = w := by
  go_enter Try.func12, Try.ntmps12
  go_wp2
  go_ret2
  exact ⟨rfl, rfl⟩
/-- A look into the map. -/
theorem Told.look_yes (h : Told w bm M L) {x c : Int} (hi : Dk.i64 x) (hx : (x, c) ∈ L) : (Instr.lookup 41 (.map (some bm)) (.int .i64 x) true).run Try.prog w = .ok (.tuple #[.int .i64 c, .bool true]) w := by
  obtain ⟨D, n, _, ho, ht⟩ := h
  obtain ⟨v, ps, hr, hv⟩ := ho.look_ok law3 Try.underlying41 (zero3 w) (plainElem_int Try.underlying3 rfl) (keyOf_int_mk Try.underlying3 (wf_of hi))
  rw [ht.yes _ hx] at hv
  rw [ht.has hx] at hr
  obtain ⟨a, rfl, e, _⟩ := plainElem_int_inv Try.underlying3 hv
  simp at e
  rw [hr, e.1]
theorem Told.look_no (h : Told w bm M L) {x : Int} (hi : Dk.i64 x) (hx : x ∉ Dk.keysOf L) : (Instr.lookup 41 (.map (some bm)) (.int .i64 x) true).run Try.prog w = .ok (.tuple #[.int .i64 0, .bool false]) w := by
  obtain ⟨D, n, _, ho, ht⟩ := h
  obtain ⟨v, ps, hr, hv⟩ := ho.look_ok law3 Try.underlying41 (zero3 w) (plainElem_int Try.underlying3 rfl) (keyOf_int_mk Try.underlying3 (wf_of hi))
  rw [atKey_of_not_has (ht.no x hx)] at hv
  rw [ht.no x hx] at hr
  obtain ⟨a, rfl, e, _⟩ := plainElem_int_inv Try.underlying3 hv
  simp at e
  rw [hr, e.1]
theorem Waiting_yes (h : WH B M w bd bm now L) {x c : Int} (hi : Dk.i64 x) (hx : (x, c) ∈ L) : Calls Try.prog 12 #[.pointer (some ⟨bd, 0, none⟩), .int .i64 x] w fun e w' => e = .returned (.tuple #[.int .i64 c, .bool true]) ∧ w' = w := by
  have c1 : w.cell? ⟨bd, 1, none⟩ = some (.map (some bm)) := h.head.cell 1
  have hl := h.map.look_yes hi hx
  clear h hi hx
  go_enter Try.func12, Try.ntmps12
  go_wp2
  go_ret2
  exact ⟨rfl, rfl⟩
theorem Waiting_no (h : WH B M w bd bm now L) {x : Int} (hi : Dk.i64 x) (hx : x ∉ Dk.keysOf L) : Calls Try.prog 12 #[.pointer (some ⟨bd, 0, none⟩), .int .i64 x] w fun e w' => e = .returned (.tuple #[.int .i64 0, .bool false]) ∧ w' = w := by
  have c1 : w.cell? ⟨bd, 1, none⟩ = some (.map (some bm)) := h.head.cell 1
  have hl := h.map.look_no hi hx
  clear h hi hx
  go_enter Try.func12, Try.ntmps12
  go_wp2
  go_ret2
  exact ⟨rfl, rfl⟩
end

end Go.Proofs.Ytiaegeaogleepaa
