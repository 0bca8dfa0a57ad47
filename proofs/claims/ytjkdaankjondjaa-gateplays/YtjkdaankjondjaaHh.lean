/- Does someone wait? The library's ContainsFunc over each row of records. -/
import Derived.Shelf.SlicesQ.IndexFunc
import Derived.Test.YtjkdaankjondjaaHg
namespace Go.Proofs
open Go.Shelf
def Try.layM_ren : Go.Shelf.Ren := ⟨fun | 8 => 43 | 6 => 54 | n => n, fun | 22 => 59 | 23 => 76 | 25 => 88 | 4 => 4 | 3 => 3 | 0 => 0 | n => n, fun | n => n⟩
theorem Try.layM : Go.Proofs.SlLaysH0.n8 Try.prog Try.layM_ren := {
  mixed := by kernel_rfl
  f6 := ⟨Try.f54.name, by decide, Try.func54.trans (congrArg some (by kernel_rfl))⟩
  f8 := ⟨Try.f43.name, by decide, Try.func43.trans (congrArg some (by kernel_rfl))⟩
  t0 := Try.underlying0
  a0 := Try.isAgg0
  z0 := Try.sizeOf0
  v0 := Try.zeroValue0
  t3 := Try.underlying3
  a3 := Try.isAgg3
  z3 := Try.sizeOf3
  v3 := Try.zeroValue3
  t4 := Try.underlying4
  a4 := Try.isAgg4
  z4 := Try.sizeOf4
  v4 := Try.zeroValue4
  t22 := Try.underlying59
  a22 := Try.isAgg59
  z22 := Try.sizeOf59
  v22 := Try.zeroValue59
  t25 := Try.underlying88
  a25 := Try.isAgg88
  z25 := Try.sizeOf88
  v25 := Try.zeroValue88 }
def Try.layC_ren : Go.Shelf.Ren := ⟨fun | 8 => 46 | 6 => 56 | n => n, fun | 22 => 60 | 23 => 68 | 25 => 90 | 4 => 4 | 3 => 3 | 0 => 0 | n => n, fun | n => n⟩
theorem Try.layC : Go.Proofs.SlLaysH0.n8 Try.prog Try.layC_ren := {
  mixed := by kernel_rfl
  f6 := ⟨Try.f56.name, by decide, Try.func56.trans (congrArg some (by kernel_rfl))⟩
  f8 := ⟨Try.f46.name, by decide, Try.func46.trans (congrArg some (by kernel_rfl))⟩
  t0 := Try.underlying0
  a0 := Try.isAgg0
  z0 := Try.sizeOf0
  v0 := Try.zeroValue0
  t3 := Try.underlying3
  a3 := Try.isAgg3
  z3 := Try.sizeOf3
  v3 := Try.zeroValue3
  t4 := Try.underlying4
  a4 := Try.isAgg4
  z4 := Try.sizeOf4
  v4 := Try.zeroValue4
  t22 := Try.underlying60
  a22 := Try.isAgg60
  z22 := Try.sizeOf60
  v22 := Try.zeroValue60
  t25 := Try.underlying90
  a25 := Try.isAgg90
  z25 := Try.sizeOf90
  v25 := Try.zeroValue90 }
def Try.layS_ren : Go.Shelf.Ren := ⟨fun | 8 => 48 | 6 => 57 | n => n, fun | 22 => 61 | 23 => 70 | 25 => 92 | 4 => 4 | 3 => 3 | 0 => 0 | n => n, fun | n => n⟩
theorem Try.layS : Go.Proofs.SlLaysH0.n8 Try.prog Try.layS_ren := {
  mixed := by kernel_rfl
  f6 := ⟨Try.f57.name, by decide, Try.func57.trans (congrArg some (by kernel_rfl))⟩
  f8 := ⟨Try.f48.name, by decide, Try.func48.trans (congrArg some (by kernel_rfl))⟩
  t0 := Try.underlying0
  a0 := Try.isAgg0
  z0 := Try.sizeOf0
  v0 := Try.zeroValue0
  t3 := Try.underlying3
  a3 := Try.isAgg3
  z3 := Try.sizeOf3
  v3 := Try.zeroValue3
  t4 := Try.underlying4
  a4 := Try.isAgg4
  z4 := Try.sizeOf4
  v4 := Try.zeroValue4
  t22 := Try.underlying61
  a22 := Try.isAgg61
  z22 := Try.sizeOf61
  v22 := Try.zeroValue61
  t25 := Try.underlying92
  a25 := Try.isAgg92
  z25 := Try.sizeOf92
  v25 := Try.zeroValue92 }
end Go.Proofs

namespace Go.Proofs.Ytjkdaankjondjaa
set_option linter.unusedSimpArgs false
set_option linter.unusedVariables false
set_option linter.unnecessarySimpa false
open Go.RowKit Go.Lib

/-- A record with its row. -/
abbrev Mx.In (w : World) : Type := {m : Mx // w.ownsRow 0 3 1 m.u m.xs.length (Dk.is m.xs) ∧ ∀ x ∈ m.xs, Dk.i64 x}
theorem theirsM (x : Int) (b : Nat) (w : World) (hb : b < w.heap.size) (hcell : w.cell? ⟨b, 0, none⟩ = some (.int .i64 x)) :
    PredBelow Try.prog 44 #[.pointer (some ⟨b, 0, none⟩)] (fun z : Mx.In w => .agg z.1.cells.toArray) (fun z => z.1.xs.contains x) w := by
  rintro W ⟨⟨u, xs, ow, od⟩, hr, hi⟩ hB
  have hc : W.cell? ⟨b, 0, none⟩ = some (.int .i64 x) := (hB.cell (p := ⟨b, 0, none⟩) hb).trans hcell
  have hbW : b < W.heap.size := Nat.lt_of_lt_of_le hb hB.size
  obtain ⟨ys, ey⟩ : ∃ ys, xs = ys := ⟨_, rfl⟩
  have hr1 : w.ownsRow 0 3 1 u ys.length (Dk.is ys) := by rw [← ey]; simpa using hr
  have hi1 : ∀ x ∈ ys, Dk.i64 x := by rw [← ey]; exact hi
  obtain ⟨A, C, eu, hs⟩ := Dk.owns_ints hr1 hi1
  have eu : u = .slice A ys.length C := eu
  subst eu
  have hs' := (hs.below hB (Nat.le_refl _)).more hB.size
  obtain ⟨W1, e1⟩ : ∃ W1, W1 = W.alloc (.cells #[.slice A ys.length C, .int .i64 ow, .bool od] 76) := ⟨_, rfl⟩
  have u1 : Below W.heap.size W W1 := by rw [e1]; exact Dk.up_alloc (Below.refl _ _) _
  have b1 : Dk.Box W1 W.heap.size #[.slice A ys.length C, .int .i64 ow, .bool od] 76 := by rw [e1]; exact Dk.Box.new _ _ _
  have c1 : W1.cell? ⟨W.heap.size, 0, none⟩ = some (.slice A ys.length C) := b1.cell 0
  have c2 : W1.cell? ⟨b, 0, none⟩ = some (.int .i64 x) := (u1.cell (p := ⟨b, 0, none⟩) hbW).trans hc
  have K := has_any c1 ((hs'.below u1 (Nat.le_refl _)).more u1.size) x
  have HU : Hid _ := Dk.up_call hB u1
  have H1 : Hid (W.alloc (.cells #[.slice A ys.length C, .int .i64 ow, .bool od] 76) = W1) := e1.symm
  show Calls Try.prog 44 #[.agg #[.slice A ys.length C, .int .i64 ow, .bool od], .pointer (some ⟨b, 0, none⟩)] W fun e w' => e = .returned (.bool (xs.contains x)) ∧ _
  rw [ey]
  generalize ys.contains x = r at K ⊢
  clear hs hs' hr hi hr1 hi1 ey u1 b1 e1 c1 hcell hc
  go_enter Try.func44, Try.ntmps44
  go_wp2_with (rw [H1.out]; clear H1)
  refine K.mono ?_
  rintro e w' ⟨rfl, hw'⟩
  subst w'
  clear K
  go_wp2_with fail
  go_ret
  exact ⟨rfl, HU.out⟩
theorem noneM (fv : Value) (w : World) : Calls Try.prog 43 #[.slice none 0 0, fv] w fun e w' => e = .returned (.bool false) ∧ w' = w := by
  have K : Calls Try.prog 54 #[.slice none 0 0, fv] w fun e w' => e = .returned (.int .i64 (-1)) ∧ w' = w := by
    go_enter Try.func54, Try.ntmps54
    go_wp2
    go_loopw [8] (fun i w' => i = .int .i64 0 ∧ Hid (w' = w)) (fun i w' => 0)
    case atStart => exact ⟨rfl, rfl⟩
    case round =>
      obtain ⟨rfl, HW⟩ := hrel
      go_wp2
      go_ret
      exact ⟨rfl, HW.out⟩
  go_enter Try.func43, Try.ntmps43
  go_wp2_with fail
  refine K.mono ?_
  rintro e w' ⟨rfl, hw'⟩
  subst w'
  clear K
  go_wp2_with fail
  go_ret
  exact ⟨rfl, rfl⟩
theorem containsM (B : Nat) (v : Value) (ms : List Mx) (x : Int) (b : Nat) (w : World) (h : w.ownsRow B 76 3 v ms.length (ms.flatMap Mx.cells)) (hrs : ∀ m ∈ ms, w.ownsRow 0 3 1 m.u m.xs.length (Dk.is m.xs) ∧ ∀ x ∈ m.xs, Dk.i64 x) (hb : b < w.heap.size) (hcell : w.cell? ⟨b, 0, none⟩ = some (.int .i64 x)) :
    Calls Try.prog 43 #[v, .func (.func 44) #[] #[.pointer (some ⟨b, 0, none⟩)]] w fun e w' => e = .returned (.bool (ms.any fun m => m.xs.contains x)) ∧ Below w.heap.size w w' := by
  obtain ⟨hl, ⟨rfl, h0⟩ | ⟨g, cap, cur, rfl, hgb, hg, hn, hm, hs, ht⟩⟩ := id h
  · obtain rfl : ms = [] := List.eq_nil_of_length_eq_zero h0
    refine (noneM _ w).mono ?_
    rintro e w' ⟨rfl, rfl⟩
    exact ⟨rfl, Below.refl _ _⟩
  · have eg : ∀ args w, (callFunc 44 args).run Try.prog w = .ok (.enter 44 args) w := enters_of Try.func44 (by kernel_rfl) rfl
    unfold maxLen at hm
    have hcells := h.cells (g := g) rfl
    haveI : Inhabited (Mx.In w) := ⟨⟨⟨.slice none 0 0, [], 0, false⟩, World.ownsRow_nil _ _ _ _, fun x hx => absurd hx (by simp)⟩⟩
    obtain ⟨zs, hz⟩ := lift ms hrs
    have hzl : zs.length = ms.length := by rw [← hz, List.length_map]
    have hcon := AnyQ.slices_ContainsFunc (α := Mx.In w) Try.layM 3 Try.isAgg76 Try.sizeOf76 (fun z => z.1.cells) (fun _ => rfl) (fun z => z.1.xs.contains x) 44 #[.pointer (some ⟨b, 0, none⟩)] eg g 0 ms.length cap zs w (theirsM x b w hb hcell) (Nat.le_of_eq hzl.symm) (by omega) (Array.getElem?_eq_some_iff.1 hg).1 (fun j hj i u hi => by
      have e0 : ms[j]? = some zs[j]!.1 := by
        rw [← hz, List.getElem?_map, List.getElem?_eq_getElem hj]
        simp [getElem!_pos, hj]
      have hi2 : i < 3 := by
        have h2 : i < (zs[j]!.1.cells).length := Dk.some_lt hi
        rw [Mx.len] at h2
        exact h2
      have h1 := Dk.flat_get Mx.len ms j i _ e0 hi2
      rw [hi] at h1
      have := hcells (j * 3 + i) _ h1
      rw [Addr.add_lit] at this
      rw [Nat.add_assoc]
      exact this)
    rw [← hzl, List.take_length] at hcon
    have ea : (ms.any fun m => m.xs.contains x) = zs.any fun z => z.1.xs.contains x := by
      rw [← hz, List.any_map]
      rfl
    rw [ea, ← hzl]
    exact hcon
/-- A record with its row. -/
abbrev Cx.In (w : World) : Type := {m : Cx // w.ownsRow 0 3 1 m.u m.xs.length (Dk.is (m.xs.map Prod.fst)) ∧ ∀ x ∈ (m.xs.map Prod.fst), Dk.i64 x}
theorem theirsC (x : Int) (b : Nat) (w : World) (hb : b < w.heap.size) (hcell : w.cell? ⟨b, 0, none⟩ = some (.int .i64 x)) :
    PredBelow Try.prog 47 #[.pointer (some ⟨b, 0, none⟩)] (fun z : Cx.In w => .agg z.1.cells.toArray) (fun z => (z.1.xs.map Prod.fst).contains x) w := by
  rintro W ⟨⟨u, xs, bm⟩, hr, hi⟩ hB
  have hc : W.cell? ⟨b, 0, none⟩ = some (.int .i64 x) := (hB.cell (p := ⟨b, 0, none⟩) hb).trans hcell
  have hbW : b < W.heap.size := Nat.lt_of_lt_of_le hb hB.size
  obtain ⟨ys, ey⟩ : ∃ ys, (xs.map Prod.fst) = ys := ⟨_, rfl⟩
  have hr1 : w.ownsRow 0 3 1 u ys.length (Dk.is ys) := by rw [← ey]; simpa using hr
  have hi1 : ∀ x ∈ ys, Dk.i64 x := by rw [← ey]; exact hi
  obtain ⟨A, C, eu, hs⟩ := Dk.owns_ints hr1 hi1
  have eu : u = .slice A ys.length C := eu
  subst eu
  have hs' := (hs.below hB (Nat.le_refl _)).more hB.size
  obtain ⟨W1, e1⟩ : ∃ W1, W1 = W.alloc (.cells #[.slice A ys.length C, .map (some bm)] 68) := ⟨_, rfl⟩
  have u1 : Below W.heap.size W W1 := by rw [e1]; exact Dk.up_alloc (Below.refl _ _) _
  have b1 : Dk.Box W1 W.heap.size #[.slice A ys.length C, .map (some bm)] 68 := by rw [e1]; exact Dk.Box.new _ _ _
  have c1 : W1.cell? ⟨W.heap.size, 0, none⟩ = some (.slice A ys.length C) := b1.cell 0
  have c2 : W1.cell? ⟨b, 0, none⟩ = some (.int .i64 x) := (u1.cell (p := ⟨b, 0, none⟩) hbW).trans hc
  have K := has_any c1 ((hs'.below u1 (Nat.le_refl _)).more u1.size) x
  have HU : Hid _ := Dk.up_call hB u1
  have H1 : Hid (W.alloc (.cells #[.slice A ys.length C, .map (some bm)] 68) = W1) := e1.symm
  show Calls Try.prog 47 #[.agg #[.slice A ys.length C, .map (some bm)], .pointer (some ⟨b, 0, none⟩)] W fun e w' => e = .returned (.bool ((xs.map Prod.fst).contains x)) ∧ _
  rw [ey]
  generalize ys.contains x = r at K ⊢
  clear hs hs' hr hi hr1 hi1 ey u1 b1 e1 c1 hcell hc
  go_enter Try.func47, Try.ntmps47
  go_wp2_with (rw [H1.out]; clear H1)
  refine K.mono ?_
  rintro e w' ⟨rfl, hw'⟩
  subst w'
  clear K
  go_wp2_with fail
  go_ret
  exact ⟨rfl, HU.out⟩
theorem noneC (fv : Value) (w : World) : Calls Try.prog 46 #[.slice none 0 0, fv] w fun e w' => e = .returned (.bool false) ∧ w' = w := by
  have K : Calls Try.prog 56 #[.slice none 0 0, fv] w fun e w' => e = .returned (.int .i64 (-1)) ∧ w' = w := by
    go_enter Try.func56, Try.ntmps56
    go_wp2
    go_loopw [8] (fun i w' => i = .int .i64 0 ∧ Hid (w' = w)) (fun i w' => 0)
    case atStart => exact ⟨rfl, rfl⟩
    case round =>
      obtain ⟨rfl, HW⟩ := hrel
      go_wp2
      go_ret
      exact ⟨rfl, HW.out⟩
  go_enter Try.func46, Try.ntmps46
  go_wp2_with fail
  refine K.mono ?_
  rintro e w' ⟨rfl, hw'⟩
  subst w'
  clear K
  go_wp2_with fail
  go_ret
  exact ⟨rfl, rfl⟩
theorem containsC (B : Nat) (v : Value) (ms : List Cx) (x : Int) (b : Nat) (w : World) (h : w.ownsRow B 68 2 v ms.length (ms.flatMap Cx.cells)) (hrs : ∀ m ∈ ms, w.ownsRow 0 3 1 m.u m.xs.length (Dk.is (m.xs.map Prod.fst)) ∧ ∀ x ∈ (m.xs.map Prod.fst), Dk.i64 x) (hb : b < w.heap.size) (hcell : w.cell? ⟨b, 0, none⟩ = some (.int .i64 x)) :
    Calls Try.prog 46 #[v, .func (.func 47) #[] #[.pointer (some ⟨b, 0, none⟩)]] w fun e w' => e = .returned (.bool (ms.any fun m => (m.xs.map Prod.fst).contains x)) ∧ Below w.heap.size w w' := by
  obtain ⟨hl, ⟨rfl, h0⟩ | ⟨g, cap, cur, rfl, hgb, hg, hn, hm, hs, ht⟩⟩ := id h
  · obtain rfl : ms = [] := List.eq_nil_of_length_eq_zero h0
    refine (noneC _ w).mono ?_
    rintro e w' ⟨rfl, rfl⟩
    exact ⟨rfl, Below.refl _ _⟩
  · have eg : ∀ args w, (callFunc 47 args).run Try.prog w = .ok (.enter 47 args) w := enters_of Try.func47 (by kernel_rfl) rfl
    unfold maxLen at hm
    have hcells := h.cells (g := g) rfl
    haveI : Inhabited (Cx.In w) := ⟨⟨⟨.slice none 0 0, [], 0⟩, World.ownsRow_nil _ _ _ _, fun x hx => absurd hx (by simp)⟩⟩
    obtain ⟨zs, hz⟩ := lift ms hrs
    have hzl : zs.length = ms.length := by rw [← hz, List.length_map]
    have hcon := AnyQ.slices_ContainsFunc (α := Cx.In w) Try.layC 2 Try.isAgg68 Try.sizeOf68 (fun z => z.1.cells) (fun _ => rfl) (fun z => (z.1.xs.map Prod.fst).contains x) 47 #[.pointer (some ⟨b, 0, none⟩)] eg g 0 ms.length cap zs w (theirsC x b w hb hcell) (Nat.le_of_eq hzl.symm) (by omega) (Array.getElem?_eq_some_iff.1 hg).1 (fun j hj i u hi => by
      have e0 : ms[j]? = some zs[j]!.1 := by
        rw [← hz, List.getElem?_map, List.getElem?_eq_getElem hj]
        simp [getElem!_pos, hj]
      have hi2 : i < 2 := by
        have h2 : i < (zs[j]!.1.cells).length := Dk.some_lt hi
        rw [Cx.len] at h2
        exact h2
      have h1 := Dk.flat_get Cx.len ms j i _ e0 hi2
      rw [hi] at h1
      have := hcells (j * 2 + i) _ h1
      rw [Addr.add_lit] at this
      rw [Nat.add_assoc]
      exact this)
    rw [← hzl, List.take_length] at hcon
    have ea : (ms.any fun m => (m.xs.map Prod.fst).contains x) = zs.any fun z => (z.1.xs.map Prod.fst).contains x := by
      rw [← hz, List.any_map]
      rfl
    rw [ea, ← hzl]
    exact hcon
/-- A record with its row. -/
abbrev Sx.In (w : World) : Type := {m : Sx // w.ownsRow 0 3 1 m.u m.xs.length (Dk.is m.xs) ∧ ∀ x ∈ m.xs, Dk.i64 x}
theorem theirsS (x : Int) (b : Nat) (w : World) (hb : b < w.heap.size) (hcell : w.cell? ⟨b, 0, none⟩ = some (.int .i64 x)) :
    PredBelow Try.prog 49 #[.pointer (some ⟨b, 0, none⟩)] (fun z : Sx.In w => .agg z.1.cells.toArray) (fun z => z.1.xs.contains x) w := by
  rintro W ⟨⟨u, xs, cn⟩, hr, hi⟩ hB
  have hc : W.cell? ⟨b, 0, none⟩ = some (.int .i64 x) := (hB.cell (p := ⟨b, 0, none⟩) hb).trans hcell
  have hbW : b < W.heap.size := Nat.lt_of_lt_of_le hb hB.size
  obtain ⟨ys, ey⟩ : ∃ ys, xs = ys := ⟨_, rfl⟩
  have hr1 : w.ownsRow 0 3 1 u ys.length (Dk.is ys) := by rw [← ey]; simpa using hr
  have hi1 : ∀ x ∈ ys, Dk.i64 x := by rw [← ey]; exact hi
  obtain ⟨A, C, eu, hs⟩ := Dk.owns_ints hr1 hi1
  have eu : u = .slice A ys.length C := eu
  subst eu
  have hs' := (hs.below hB (Nat.le_refl _)).more hB.size
  obtain ⟨W1, e1⟩ : ∃ W1, W1 = W.alloc (.cells #[.slice A ys.length C, .int .i64 cn] 70) := ⟨_, rfl⟩
  have u1 : Below W.heap.size W W1 := by rw [e1]; exact Dk.up_alloc (Below.refl _ _) _
  have b1 : Dk.Box W1 W.heap.size #[.slice A ys.length C, .int .i64 cn] 70 := by rw [e1]; exact Dk.Box.new _ _ _
  have c1 : W1.cell? ⟨W.heap.size, 0, none⟩ = some (.slice A ys.length C) := b1.cell 0
  have c2 : W1.cell? ⟨b, 0, none⟩ = some (.int .i64 x) := (u1.cell (p := ⟨b, 0, none⟩) hbW).trans hc
  have K := has_any c1 ((hs'.below u1 (Nat.le_refl _)).more u1.size) x
  have HU : Hid _ := Dk.up_call hB u1
  have H1 : Hid (W.alloc (.cells #[.slice A ys.length C, .int .i64 cn] 70) = W1) := e1.symm
  show Calls Try.prog 49 #[.agg #[.slice A ys.length C, .int .i64 cn], .pointer (some ⟨b, 0, none⟩)] W fun e w' => e = .returned (.bool (xs.contains x)) ∧ _
  rw [ey]
  generalize ys.contains x = r at K ⊢
  clear hs hs' hr hi hr1 hi1 ey u1 b1 e1 c1 hcell hc
  go_enter Try.func49, Try.ntmps49
  go_wp2_with (rw [H1.out]; clear H1)
  refine K.mono ?_
  rintro e w' ⟨rfl, hw'⟩
  subst w'
  clear K
  go_wp2_with fail
  go_ret
  exact ⟨rfl, HU.out⟩
theorem noneS (fv : Value) (w : World) : Calls Try.prog 48 #[.slice none 0 0, fv] w fun e w' => e = .returned (.bool false) ∧ w' = w := by
  have K : Calls Try.prog 57 #[.slice none 0 0, fv] w fun e w' => e = .returned (.int .i64 (-1)) ∧ w' = w := by
    go_enter Try.func57, Try.ntmps57
    go_wp2
    go_loopw [8] (fun i w' => i = .int .i64 0 ∧ Hid (w' = w)) (fun i w' => 0)
    case atStart => exact ⟨rfl, rfl⟩
    case round =>
      obtain ⟨rfl, HW⟩ := hrel
      go_wp2
      go_ret
      exact ⟨rfl, HW.out⟩
  go_enter Try.func48, Try.ntmps48
  go_wp2_with fail
  refine K.mono ?_
  rintro e w' ⟨rfl, hw'⟩
  subst w'
  clear K
  go_wp2_with fail
  go_ret
  exact ⟨rfl, rfl⟩
theorem containsS (B : Nat) (v : Value) (ms : List Sx) (x : Int) (b : Nat) (w : World) (h : w.ownsRow B 70 2 v ms.length (ms.flatMap Sx.cells)) (hrs : ∀ m ∈ ms, w.ownsRow 0 3 1 m.u m.xs.length (Dk.is m.xs) ∧ ∀ x ∈ m.xs, Dk.i64 x) (hb : b < w.heap.size) (hcell : w.cell? ⟨b, 0, none⟩ = some (.int .i64 x)) :
    Calls Try.prog 48 #[v, .func (.func 49) #[] #[.pointer (some ⟨b, 0, none⟩)]] w fun e w' => e = .returned (.bool (ms.any fun m => m.xs.contains x)) ∧ Below w.heap.size w w' := by
  obtain ⟨hl, ⟨rfl, h0⟩ | ⟨g, cap, cur, rfl, hgb, hg, hn, hm, hs, ht⟩⟩ := id h
  · obtain rfl : ms = [] := List.eq_nil_of_length_eq_zero h0
    refine (noneS _ w).mono ?_
    rintro e w' ⟨rfl, rfl⟩
    exact ⟨rfl, Below.refl _ _⟩
  · have eg : ∀ args w, (callFunc 49 args).run Try.prog w = .ok (.enter 49 args) w := enters_of Try.func49 (by kernel_rfl) rfl
    unfold maxLen at hm
    have hcells := h.cells (g := g) rfl
    haveI : Inhabited (Sx.In w) := ⟨⟨⟨.slice none 0 0, [], 0⟩, World.ownsRow_nil _ _ _ _, fun x hx => absurd hx (by simp)⟩⟩
    obtain ⟨zs, hz⟩ := lift ms hrs
    have hzl : zs.length = ms.length := by rw [← hz, List.length_map]
    have hcon := AnyQ.slices_ContainsFunc (α := Sx.In w) Try.layS 2 Try.isAgg70 Try.sizeOf70 (fun z => z.1.cells) (fun _ => rfl) (fun z => z.1.xs.contains x) 49 #[.pointer (some ⟨b, 0, none⟩)] eg g 0 ms.length cap zs w (theirsS x b w hb hcell) (Nat.le_of_eq hzl.symm) (by omega) (Array.getElem?_eq_some_iff.1 hg).1 (fun j hj i u hi => by
      have e0 : ms[j]? = some zs[j]!.1 := by
        rw [← hz, List.getElem?_map, List.getElem?_eq_getElem hj]
        simp [getElem!_pos, hj]
      have hi2 : i < 2 := by
        have h2 : i < (zs[j]!.1.cells).length := Dk.some_lt hi
        rw [Sx.len] at h2
        exact h2
      have h1 := Dk.flat_get Sx.len ms j i _ e0 hi2
      rw [hi] at h1
      have := hcells (j * 2 + i) _ h1
      rw [Addr.add_lit] at this
      rw [Nat.add_assoc]
      exact this)
    rw [← hzl, List.take_length] at hcon
    have ea : (ms.any fun m => m.xs.contains x) = zs.any fun z => z.1.xs.contains x := by
      rw [← hz, List.any_map]
      rfl
    rw [ea, ← hzl]
    exact hcon
end Go.Proofs.Ytjkdaankjondjaa
