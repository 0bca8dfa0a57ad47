/- The library's calls on rows: their contracts laid at this program, and what they do with rows that are owned. -/
import Derived.Shelf.Slices.Turned
import Derived.Shelf.Slices.Delete
import Derived.Shelf.Spec.SlicesInsertGrow
import Derived.Test.YtgaionhlfnpdhaaChecked
import Derived.Test.YtgaionhlfnpdhaaDe
import Derived.KernelRfl
namespace Go.Proofs
open Go.Shelf
def Try.lays108_ren : Go.Shelf.Ren := ⟨fun | 108 => 22 | n => n, fun | 28 => 25 | 3 => 3 | 0 => 0 | 4 => 4 | n => n, fun | n => n⟩
theorem Try.lays108 : Go.Proofs.Lays.n108 Try.prog Try.lays108_ren := {
  mixed := by kernel_rfl
  f108 := Try.func22.trans (congrArg some (by kernel_rfl))
  t0 := Try.underlying0
  a0 := Try.isAgg0
  z0 := Try.sizeOf0
  v0 := Try.zeroValue0
  t3 := Try.underlying3
  a3 := Try.isAgg3
  z3 := Try.sizeOf3
  v3 := Try.zeroValue3
  t4 := Try.underlying4
  a4 := Try.isAgg4
  z4 := Try.sizeOf4
  v4 := Try.zeroValue4
  t28 := Try.underlying25
  a28 := Try.isAgg25
  z28 := Try.sizeOf25
  v28 := Try.zeroValue25 }
def Try.lays107_ren : Go.Shelf.Ren := ⟨fun | 107 => 23 | 108 => 22 | n => n, fun | 28 => 25 | 3 => 3 | 4 => 4 | 0 => 0 | n => n, fun | n => n⟩
theorem Try.lays107 : Go.Proofs.Lays.n107 Try.prog Try.lays107_ren := {
  mixed := by kernel_rfl
  f107 := Try.func23.trans (congrArg some (by kernel_rfl))
  f108 := Try.func22.trans (congrArg some (by kernel_rfl))
  t0 := Try.underlying0
  a0 := Try.isAgg0
  z0 := Try.sizeOf0
  v0 := Try.zeroValue0
  t3 := Try.underlying3
  a3 := Try.isAgg3
  z3 := Try.sizeOf3
  v3 := Try.zeroValue3
  t4 := Try.underlying4
  a4 := Try.isAgg4
  z4 := Try.sizeOf4
  v4 := Try.zeroValue4
  t28 := Try.underlying25
  a28 := Try.isAgg25
  z28 := Try.sizeOf25
  v28 := Try.zeroValue25 }
def Try.laysNm223_ren : Go.Shelf.Ren := ⟨fun | 23 => 26 | n => n, fun | 22 => 25 | 3 => 3 | 4 => 4 | 0 => 0 | n => n, fun | n => n⟩
theorem Try.laysNm223 : Go.Proofs.Lays2.n23 Try.prog Try.laysNm223_ren := {
  mixed := by kernel_rfl
  f23 := Try.func26.trans (congrArg some (by kernel_rfl))
  t0 := Try.underlying0
  a0 := Try.isAgg0
  z0 := Try.sizeOf0
  v0 := Try.zeroValue0
  t3 := Try.underlying3
  a3 := Try.isAgg3
  z3 := Try.sizeOf3
  v3 := Try.zeroValue3
  t4 := Try.underlying4
  a4 := Try.isAgg4
  z4 := Try.sizeOf4
  v4 := Try.zeroValue4
  t22 := Try.underlying25
  a22 := Try.isAgg25
  z22 := Try.sizeOf25
  v22 := Try.zeroValue25
  i3 := by kernel_rfl }
def Try.laysNm221_ren : Go.Shelf.Ren := ⟨fun | 21 => 19 | 27 => 24 | 28 => 25 | 35 => 27 | 39 => 28 | n => n, fun | 22 => 25 | 3 => 3 | 4 => 4 | 0 => 0 | n => n, fun | n => n⟩
theorem Try.laysNm221 : Go.Proofs.Lays2.n21 Try.prog Try.laysNm221_ren := {
  mixed := by kernel_rfl
  f21 := Try.func19.trans (congrArg some (by kernel_rfl))
  f27 := Try.func24.trans (congrArg some (by kernel_rfl))
  f28 := Try.func25.trans (congrArg some (by kernel_rfl))
  f35 := Try.func27.trans (congrArg some (by kernel_rfl))
  f39 := Try.func28.trans (congrArg some (by kernel_rfl))
  t0 := Try.underlying0
  a0 := Try.isAgg0
  z0 := Try.sizeOf0
  v0 := Try.zeroValue0
  t3 := Try.underlying3
  a3 := Try.isAgg3
  z3 := Try.sizeOf3
  v3 := Try.zeroValue3
  t4 := Try.underlying4
  a4 := Try.isAgg4
  z4 := Try.sizeOf4
  v4 := Try.zeroValue4
  t22 := Try.underlying25
  a22 := Try.isAgg25
  z22 := Try.sizeOf25
  v22 := Try.zeroValue25
  i3 := by kernel_rfl }
end Go.Proofs

namespace Go.Proofs.Ytgaionhlfnpdhaa
set_option linter.unusedSimpArgs false
set_option linter.unusedVariables false
set_option linter.unnecessarySimpa false
open Go.RowKit

theorem info3 : (Try.prog.info? 3).map (fun i => (i.zero, i.size, i.bytes)) = some (some (.int .i64 0), 1, 8) := by kernel_rfl

/-- Where a number is, as the library tells it. -/
theorem Index_any (A : Option Addr) (L C : Nat) (xs : List Int) (x : Int) (w : World) (h : Dk.SlI w.heap.size w A L C xs) :
    Calls Try.prog 22 #[.slice A L C, .int .i64 x] w fun e w' => e = .returned (.int .i64 (Lib.idxOf xs x)) ∧ w' = w := by
  have hl := h.len
  have hc := h.cap
  have hm := h.max
  unfold maxLen at hm
  by_cases h0 : 0 < L
  · obtain ⟨b, o, rfl, hb, hcell⟩ := h.cells h0
    have c := Any.slices_Index_int Try.lays108 b o L C xs x w (by omega) (by omega) (fun j hj => hcell j (by omega))
    rw [← hl, List.take_length] at c
    rw [← hl]
    exact c
  · obtain rfl : L = 0 := by omega
    obtain rfl : xs = [] := List.eq_nil_of_length_eq_zero hl
    exact Any.slices_Index_int_empty Try.lays108 A C x w
theorem Contains_any (A : Option Addr) (L C : Nat) (xs : List Int) (x : Int) (w : World) (h : Dk.SlI w.heap.size w A L C xs) :
    Calls Try.prog 23 #[.slice A L C, .int .i64 x] w fun e w' => e = .returned (.bool (xs.contains x)) ∧ w' = w := by
  have hl := h.len
  have hc := h.cap
  have hm := h.max
  unfold maxLen at hm
  by_cases h0 : 0 < L
  · obtain ⟨b, o, rfl, hb, hcell⟩ := h.cells h0
    have c := Any.slices_Contains_int Try.lays107 b o L C xs x w (by omega) (by omega) (fun j hj => hcell j (by omega))
    rw [← hl, List.take_length] at c
    rw [← hl]
    exact c
  · obtain rfl : L = 0 := by omega
    obtain rfl : xs = [] := List.eq_nil_of_length_eq_zero hl
    exact Any.slices_Contains_int_empty Try.lays107 A C x w

/-- One number goes. -/
theorem Delete_any (B : Nat) (v : Value) (xs : List Int) (k : Nat) (w : World) (h : w.ownsRow B 3 1 v xs.length (Dk.is xs)) (hk : k < xs.length) :
    Calls Try.prog 26 #[v, .int .i64 (k : Int), .int .i64 ((k : Int) + 1)] w fun e w' => ∃ v', e = .returned v' ∧ w'.ownsRow B 3 1 v' (xs.eraseIdx k).length (Dk.is (xs.eraseIdx k)) ∧ w.grownBy w' v.ownBlock ∧ Dk.From w v v' := by
  have hv : v ≠ .slice none 0 0 := by
    rintro rfl
    obtain ⟨_, ⟨_, h0⟩ | ⟨g, cap, cur, e, _⟩⟩ := h
    · omega
    · cases e
  obtain ⟨g, cap, rfl, hb, hg, hn, hm, _, hH⟩ := Lib.holds_of_ownsRow (enc := Value.int .i64) h hv
  have hm' := hm
  unfold maxLen at hm'
  have c := Any.slices_Delete_int Try.laysNm223 g 0 cap k (k + 1) xs w hH hn (by omega) (by omega) (by omega)
  refine Calls.mono c ?_
  rintro e w' ⟨rfl, q, rfl⟩
  have hel : (xs.eraseIdx k).length = xs.length - 1 := by rw [List.length_eraseIdx, if_pos hk]
  refine ⟨_, rfl, ?_, ?_, Dk.From.same _ rfl⟩
  · have hy : (xs.take k ++ xs.drop (k + 1) ++ List.replicate (k + 1 - k) 0).length = xs.length := by simp; omega
    have o := Lib.ownsRow_putRow (q := q) (k := xs.length - 1) h hy (by omega)
    rw [hel, show xs.length - (k + 1 - k) = xs.length - 1 by omega]
    have ht : (xs.take k ++ xs.drop (k + 1) ++ List.replicate (k + 1 - k) 0).take (xs.length - 1) = xs.eraseIdx k := by
      rw [List.eraseIdx_eq_take_drop_succ, List.take_append_of_le_length (by simp; omega), List.take_of_length_le (by simp; omega)]
    rw [ht] at o
    exact o
  · exact ⟨rfl, rfl, rfl, by simp [Sort.ahead], fun j hj hr => by
      simp [Sort.putRow, Sort.mapBlock, Sort.ahead, Array.getElem?_modify, Value.ownBlock] at hr ⊢
      exact fun e => absurd e.symm hr⟩

/-- One number comes ahead. -/
theorem Insert_any (B vb : Nat) (v : Value) (xs : List Int) (x : Int) (w : World) (h : w.ownsRow B 3 1 v xs.length (Dk.is xs)) (hB : B ≤ w.heap.size) (hx : Dk.Box w vb #[.int .i64 x] 3) (hne : v.ownBlock ≠ some vb) (hl : xs.length ≤ 100000) :
    Calls Try.prog 19 #[v, .int .i64 0, .slice (some ⟨vb, 0, none⟩) 1 1] w fun e w' => ∃ v', e = .returned v' ∧ w'.ownsRow B 3 1 v' (x :: xs).length (Dk.is (x :: xs)) ∧ w.grownBy w' v.ownBlock ∧ Dk.From w v v' := by
  have hvs : ∀ j u, [Value.int .i64 x][j]? = some u → w.cell? ⟨vb, 0 + j, none⟩ = some u := fun j u hj => by
    rw [hx.cell, Nat.zero_add]
    simpa using hj
  have h1v : ∀ u ∈ [Value.int .i64 x], u.oneCell' = true := fun u hu => by simp at hu; subst hu; rfl
  have h1c : ∀ u ∈ Dk.is xs, u.oneCell' = true := fun u hu => by
    obtain ⟨y, _, rfl⟩ := List.mem_map.1 hu
    rfl
  have hcl : (Dk.is xs).length = xs.length := by simp
  have grow : ∀ (old : Nat) (W : World), W = w.drew.alloc (.cells (([] ++ [Value.int .i64 x]).toArray ++ Builtin.zeroCells (Value.int .i64 0).cells (grownCap w (0 + 1) old 3 - (0 + 1))) 3) → W.ownsRow B 3 1 (.slice (some ⟨w.heap.size, 0, none⟩) (0 + 1) (grownCap w (0 + 1) old 3)) 1 [Value.int .i64 x] ∧ ∀ row, w.grownBy W row := by
    intro old W e
    subst e
    have hge := grownCap_ge w (0 + 1) old 3
    have hle := grownCap_le_maxLen w (0 + 1) old 3 (by unfold maxLen; omega)
    generalize grownCap w (0 + 1) old 3 = G at hge hle
    refine ⟨Dk.owns_box (Dk.Box.new w.drew _ 3) hB ?_ hle rfl (by omega) ?_, fun row => Dk.far_of_up (Dk.up_alloc (Dk.up_drew (Below.refl _ _)) _)⟩
    · simp [size_zeroCells, Value.cells]
      omega
    · intro j hj
      obtain rfl : j = 0 := by omega
      rw [Array.getElem?_append_left (by simp)]
      rfl
  obtain ⟨_, ⟨rfl, h0⟩ | ⟨g, cap, cur, rfl, hb, hg, hn, hm, hs, ht⟩⟩ := id h
  · obtain rfl : xs = [] := List.eq_nil_of_length_eq_zero h0
    have c := Any2.slices_Insert_int_end_grow Try.laysNm221 none 0 0 vb 0 1 1 [] [.int .i64 x] w (by omega) (by omega) (by omega) (by omega) rfl rfl (fun _ => rfl) (fun a e => by cases e) hvs h1v
    refine Calls.mono c ?_
    rintro e w' ⟨rfl, hw⟩
    obtain ⟨h1, h2⟩ := grow 0 w' hw
    exact ⟨_, rfl, h1, h2 _, fun k hk => .inr (by simp [Value.ownBlock] at hk; omega)⟩
  · have hbx : Dk.Box w g cur 3 := ⟨hg⟩
    have hgv : g ≠ vb := fun e => hne (by rw [← e]; rfl)
    have hm' := hm
    unfold maxLen at hm'
    rw [Nat.mul_one] at hs ht
    have hcs : ∀ j u, (Dk.is xs)[j]? = some u → w.cell? ⟨g, 0 + j, none⟩ = some u := fun j u hj => by
      rw [hbx.cell, Nat.zero_add]
      have hj' : j < xs.length := by
        have := (List.getElem?_eq_some_iff.1 hj).1
        rwa [hcl] at this
      rw [← ht, List.getElem?_take, if_pos hj', Array.getElem?_toList] at hj
      exact hj
    by_cases h0 : xs.length = 0
    · obtain rfl : xs = [] := List.eq_nil_of_length_eq_zero h0
      by_cases hc : 0 + 1 ≤ cap
      · have c := Any2.slices_Insert_int_end_room Try.laysNm221 g 0 0 cap vb 0 1 1 [.int .i64 x] w (by omega) hc (by omega) rfl
          (fun j hj => by rw [hbx.cell]; simp; omega) (fun j hj => hbx.frozen _) hvs h1v
        refine Calls.mono c ?_
        rintro e w' ⟨rfl, rfl⟩
        refine ⟨_, rfl, Dk.owns_box (Dk.Box.sets (w := w) [.int .i64 x] cur (0 + 0) w hbx) hb (by rw [Dk.putAt_size]; exact hs) hm rfl hc ?_, Dk.grown_sets (w' := w) _ _ _ (Dk.far_refl _ _), Dk.From.same _ rfl⟩
        intro j hj
        rw [Dk.putAt_get _ _ _ (by simp; omega), if_pos (by simp at hj ⊢; omega)]
        simp
      · have c := Any2.slices_Insert_int_end_grow Try.laysNm221 (some ⟨g, 0, none⟩) 0 cap vb 0 1 1 [] [.int .i64 x] w (by omega) (by omega) (by omega) (by omega) rfl rfl (fun _ => rfl) (fun a e j u hj => by simp at hj) hvs h1v
        refine Calls.mono c ?_
        rintro e w' ⟨rfl, hw⟩
        obtain ⟨h1, h2⟩ := grow cap w' hw
        exact ⟨_, rfl, h1, h2 _, fun k hk => .inr (by simp [Value.ownBlock] at hk; omega)⟩
    · by_cases hc : xs.length + 1 ≤ cap
      · have c := Any2.slices_Insert_int_shift Try.laysNm221 g 0 xs.length cap 0 vb 0 1 1 (Dk.is xs) [.int .i64 x] w (by omega) (by omega) hc (by omega) (Ne.symm hgv) hcl rfl hcs
          (fun j hj => by rw [hbx.cell]; simp; omega) (fun j hj => hbx.frozen _) hvs h1c h1v 3 3 1 cap (hx.shape) (by rw [hbx.shape, hs]) (by omega) (hx.frozen _) (hx.frozen _)
        refine Calls.mono c ?_
        rintro e w' ⟨rfl, rfl⟩
        have b1 := Dk.Box.sets (w := w) ((Dk.is xs).drop 0) cur (0 + (0 + 1)) w.drew hbx.drew
        have b2 := Dk.Box.sets (w := w) [.int .i64 x] _ (0 + 0) _ b1
        have hg1 : w.grownBy w.drew (some g) := Dk.far_of_up (Dk.up_drew (Below.refl _ _))
        refine ⟨_, rfl, Dk.owns_box b2 hb (by rw [Dk.putAt_size, Dk.putAt_size]; exact hs) hm (by simp) hc ?_, Dk.grown_sets (w' := w) _ _ _ (Dk.grown_sets (w' := w) _ _ _ hg1), Dk.From.same _ rfl⟩
        intro j hj
        have hd : ((Dk.is xs).drop 0).length = xs.length := by simp
        rw [Dk.putAt_get _ _ _ (by rw [Dk.putAt_size]; simp; omega)]
        cases j with
        | zero => rw [if_pos (by simp)]; rfl
        | succ j =>
          rw [if_neg (by simp), Dk.putAt_get _ _ _ (by rw [hd]; omega), if_pos (by rw [hd]; omega)]
          simp
      · have c := Any2.slices_Insert_int_grow Try.laysNm221 g 0 xs.length cap 0 vb 0 1 1 (Dk.is xs) [.int .i64 x] w (by omega) (by omega) hn (by omega) (by omega) hcl rfl hcs hvs h1c h1v
        refine Calls.mono c ?_
        rintro e w' ⟨rfl, rfl⟩
        have hge := grownCap_ge w (xs.length + 1) cap 3
        have hle := grownCap_le_maxLen w (xs.length + 1) cap 3 (by unfold maxLen; omega)
        generalize hG : grownCap w (xs.length + 1) cap 3 = G at hge hle
        obtain ⟨cs, ecs⟩ : ∃ cs, cs = ((Dk.is xs).take 0).toArray ++ Builtin.zeroCells (Value.int .i64 0).cells (xs.length + 1 - 0) ++ Builtin.zeroCells (Value.int .i64 0).cells (G - (xs.length + 1)) := ⟨_, rfl⟩
        have hsz : cs.size = G := by
          rw [ecs]
          simp [size_zeroCells, Value.cells]
          omega
        have e3 : grownCap w (xs.length + 1) cap (Try.laysNm221_ren.t 3) = G := hG
        rw [e3, ← ecs]
        have b0 : Dk.Box (w.alloc (.cells cs 3)) w.heap.size cs 3 := Dk.Box.new w cs 3
        have b1 := Dk.Box.sets (w := w) [.int .i64 x] _ 0 _ b0.drew
        have b2 := Dk.Box.sets (w := w) ((Dk.is xs).drop 0) _ (0 + 1) _ b1.drew
        have u0 : Below w.heap.size w (w.alloc (.cells cs 3)).drew := Dk.up_drew (Dk.up_alloc (Below.refl _ _) _)
        have u2 := Dk.up_sets (Nat.le_refl _) ((Dk.is xs).drop 0) (0 + 1) _ (Dk.up_drew (Dk.up_sets (Nat.le_refl _) [.int .i64 x] 0 _ u0))
        have hd : ((Dk.is xs).drop 0).length = xs.length := by simp
        refine ⟨_, rfl, Dk.owns_box b2 hB (by rw [Dk.putAt_size, Dk.putAt_size]; exact hsz) hle (by simp) hge ?_, Dk.far_of_up u2, fun k hk => .inr (by simp [Value.ownBlock] at hk; omega)⟩
        intro j hj
        rw [Dk.putAt_get _ _ _ (by rw [Dk.putAt_size, hd, hsz]; omega)]
        cases j with
        | zero => rw [if_neg (by simp), Dk.putAt_get _ _ _ (by rw [hsz]; simp; omega), if_pos (by simp)]; rfl
        | succ j =>
          rw [if_pos (by rw [hd]; simp at hj; omega)]
          simp

/-- What 'append' leaves, and where. -/
theorem append_from (B : Nat) (ty : TypeId) (v : Value) (xs : List Value) (n : Nat) (w : World) (hown : w.ownsRow B 3 1 v n xs) (a : Addr) (m c : Nat) (news : List Value) (hl : news.length = m) (hnews : ∀ j u, news[j]? = some u → w.cell? (a.add j) = some u) (h1 : ∀ u ∈ news, u.oneCell' = true)
    (h : n + m ≤ 100000) (hB : B ≤ w.heap.size) :
    ∃ v' w', (Builtin.append_ #[25, 25] ty #[v, .slice (some a) m c]).run Try.prog w = .ok v' w' ∧ w'.ownsRow B 3 1 v' (n + m) (xs ++ news) ∧ w.grownBy w' v.ownBlock ∧ Dk.From w v v' ∧ (v' = .slice none 0 0 ↔ v = .slice none 0 0 ∧ m = 0) := by
  obtain ⟨i0, hi0, hz0, hz1, hz2⟩ := info_parts info3
  have hl1 : news.length = m * i0.size := by rw [hz1, Nat.mul_one]; exact hl
  obtain ⟨v', w', hr, ho, hg, hi⟩ := run_append_own (P := Try.prog) w B 25 ty 3 i0 (.int .i64 0) 1 8 Try.underlying25 hi0 hz0 hz1 hz2 rfl (by decide) v n xs hown a m c news (by rw [Nat.mul_one]; exact hl) hnews h1 (by unfold maxLen; omega) (by omega) hB
  refine ⟨v', w', hr, ho, hg, ?_, hi⟩
  obtain ⟨hxl, ⟨rfl, rfl⟩ | ⟨g, cap, cur, rfl, hb, hgg, hn, hm, hs, ht⟩⟩ := id hown
  · by_cases hm : m = 0
    · rw [hi.2 ⟨rfl, hm⟩]
      exact Dk.From.refl _ _
    · have hr2 := run_append_nil (P := Try.prog) w 25 ty 3 i0 (.int .i64 0) Try.underlying25 hi0 hz0 a m c news hl1 hnews (by omega) (by omega) (by rw [hz2]; omega)
      rw [hr] at hr2
      injection hr2 with e1 e2
      subst e1
      exact fun k hk => .inr (by simp [Value.ownBlock] at hk; omega)
  · by_cases hroom : n + m ≤ cap
    · have hr2 := run_append_room (P := Try.prog) w 25 ty 3 i0 Try.underlying25 hi0 g n cap cur hgg a m c news hl1 hnews h1 hroom (by rw [hz1, hl, hs]; omega)
      rw [hr] at hr2
      injection hr2 with e1 e2
      subst e1
      exact Dk.From.same _ rfl
    · have holds : ∀ j u, xs[j]? = some u → w.cell? ((⟨g, 0, none⟩ : Addr).add j) = some u := hown.cells (g := g) rfl
      have hr2 := run_append_grow (P := Try.prog) w 25 ty 3 i0 (.int .i64 0) Try.underlying25 hi0 hz0 ⟨g, 0, none⟩ n cap xs (by rw [hz1]; exact hxl) holds a m c news hl1 hnews (by omega) (by omega) (growslice_fits (by omega) (by rw [hz2]; omega))
      rw [hr] at hr2
      injection hr2 with e1 e2
      subst e1
      exact fun k hk => .inr (by simp [Value.ownBlock] at hk; omega)
/-- One cell in a new block. -/
theorem one_new (w w' : World) (v : Value) (t : TypeId) (e : w' = w.alloc (.cells #[v] t)) : ∀ (j : Nat) (u : Value), [v][j]? = some u → w'.cell? ((⟨w.heap.size, 0, none⟩ : Addr).add j) = some u := by
  intro j u hj
  match j, hj with
  | 0, hj =>
    simp at hj
    subst hj
    subst e
    have := (Dk.Box.new w #[v] t).cell 0
    simpa [Addr.add] using this

end Go.Proofs.Ytgaionhlfnpdhaa
