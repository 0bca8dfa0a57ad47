/- The one at a place goes, by the library's slices.Delete at a row of requests. -/
import Derived.Test.YtpknboeobldbpaaChecked
import Derived.Test.YtpknboeobldbpaaQh
import Derived.Test.YtpknboeobldbpaaKl
import Derived.Deep.RegionLaw
import Derived.Shelf.RegionOpenPlain
import Derived.Lib.Walk
import Derived.Sort.WalkB12
import Derived.Lib.SliceRun
import Derived.Lib.AppendZeros
import Derived.KernelRfl
namespace Go.Proofs.Ytpknboeobldbpaa
set_option linter.unusedSimpArgs false
set_option linter.unusedVariables false
set_option linter.unnecessarySimpa false
open Go.RowKit Go.Lib

theorem run_clear_one {P : Program} (w : World) (t e ty : TypeId) (z : Value) (zs : List Value) (ht : P.underlying t = some (.slice e)) (hv : ∀ w, (zeroValue e).run P w = .ok z w) (hz : (Builtin.zeroCells z.cells 1).toList = zs) (h1 : ∀ u ∈ zs, u.oneCell' = true) (b o c : Nat)
    (hc : ∀ j, j < zs.length → (w.cell? ⟨b, o + j, none⟩).isSome = true) (hf : ∀ j, j < zs.length → w.frozen? ⟨b, o + j, none⟩ = false) :
    (Builtin.clear_ #[t] ty #[.slice (some ⟨b, o, none⟩) 1 c]).run P w = .ok (.tuple #[]) (w.setCells b o zs) := by
  have hst := run_storeCells_cells (P := P) b o zs 0 w (by simpa using hc) (by simpa using hf) h1
  simp only [Nat.add_zero] at hst
  simp [Builtin.clear_, run_underlying ht, hv, hz, hst]

/-- A row out of its block, of elements of any size. -/
theorem owns_box_k {w : World} {base b n cap s : Nat} {cur : Array Value} {t : TypeId} {vs : List Value} (h : Dk.Box w b cur t) (hb : base ≤ b) (hc : cur.size = cap * s) (hm : cap ≤ maxLen) (hn : vs.length = n * s) (hl : n ≤ cap) (hv : ∀ j, j < n * s → cur[j]? = vs[j]?) : w.ownsRow base t s (.slice (some ⟨b, 0, none⟩) n cap) n vs := by
  refine ⟨hn, .inr ⟨b, cap, cur, rfl, hb, h.heap, hl, hm, hc, ?_⟩⟩
  apply List.ext_getElem?
  intro j
  rw [List.getElem?_take]
  by_cases hj : j < n * s
  · rw [if_pos hj, Array.getElem?_toList]; exact hv j hj
  · rw [if_neg hj, List.getElem?_eq_none (by omega)]

theorem info27 : (Try.prog.info? 27).map (fun i => (i.zero, i.size, i.bytes)) = some (some (.int .u64 0), 1, 8) := by kernel_rfl
theorem info29 : (Try.prog.info? 29).map (fun i => (i.zero, i.size, i.bytes)) = some (some (.agg #[.int .i64 0, .int .i64 0, .bool false, .int .u64 0]), 4, 32) := by kernel_rfl

set_option maxHeartbeats 4000000 in
set_option maxRecDepth 1000000 in
theorem Delete_rqs (B : Nat) (v : Value) (xs : List Value) (n k : Nat) (w : World) (h : w.ownsRow B 29 4 v (n + 1) xs) (hk : k ≤ n) (h1 : ∀ u ∈ xs, u.oneCell' = true) :
    Calls Try.prog 16 #[v, .int .i64 (k : Int), .int .i64 ((k : Int) + 1)] w fun e w' => ∃ v', e = .returned v' ∧ w'.ownsRow B 29 4 v' n (xs.take (k * 4) ++ xs.drop ((k + 1) * 4)) ∧ w.grownBy w' v.ownBlock ∧ v'.ownBlock = v.ownBlock := by
  obtain ⟨hl, ⟨_, h2⟩ | ⟨g, cap, cur, rfl, hb, hg, hn, hm, hs, ht⟩⟩ := id h
  · omega
  obtain ⟨cs, ecs⟩ : ∃ cs, cs = xs.drop ((k + 1) * 4) := ⟨_, rfl⟩
  have hcl : cs.length = (n - k) * 4 := by rw [ecs, List.length_drop]; omega
  have hbx : Dk.Box w g cur 29 := ⟨hg⟩
  have hm' := hm
  unfold maxLen at hm'
  obtain ⟨i0, hi0, hz0, hz1, hz2⟩ := info_parts info29
  have hxs : ∀ j, j < (n + 1) * 4 → cur[j]? = xs[j]? := fun j hj => by
    rw [← ht, List.getElem?_take, if_pos hj, Array.getElem?_toList]
  have hcur : ∀ j u, cs[j]? = some u → cur[(k + 1) * 4 + j]? = some u := fun j u hj => by
    have hj' : j < cs.length := (List.getElem?_eq_some_iff.1 hj).1
    rw [hxs _ (by omega), ← hj, ecs, List.getElem?_drop]
  obtain ⟨A, hA, hsrc⟩ : ∃ A : Addr, (if cap = k + 1 then some (⟨g, 0, none⟩ : Addr) else some ⟨g, (k + 1) * 4, none⟩) = some A ∧ Hid (∀ t u, cs[t]? = some u → w.drew.cell? (A.add t) = some u) := by
    by_cases h : cap = k + 1
    · refine ⟨⟨g, 0, none⟩, by simp [h], fun t u hu => ?_⟩
      have := (List.getElem?_eq_some_iff.1 hu).1
      omega
    · refine ⟨⟨g, (k + 1) * 4, none⟩, by simp [h], fun t u hu => ?_⟩
      rw [Addr.add_lit, hbx.drew.cell]
      exact hcur t u hu
  have s1 : Hid (cs.length = (n - k) * 4) := hcl
  have s2 : Hid (∀ u ∈ cs, u.oneCell' = true) := fun u hu => h1 u (List.mem_of_mem_drop (ecs ▸ hu))
  have s3 : Hid (∀ t, t < cs.length → (w.drew.cell? ⟨g, 0 + k * 4 + t, none⟩).isSome = true ∧ w.drew.frozen? ⟨g, 0 + k * 4 + t, none⟩ = false) := by
    intro t ht
    refine ⟨?_, hbx.drew.frozen _⟩
    rw [hbx.drew.cell, Array.getElem?_eq_getElem (by omega)]
    rfl
  obtain ⟨W1, hW1⟩ : ∃ W1, W1 = w.drew.setCells g (0 + k * 4) cs := ⟨_, rfl⟩
  have b1 : Dk.Box W1 g (Dk.putAt cur (0 + k * 4) cs) 29 := by rw [hW1]; exact Dk.Box.sets (w := w) cs cur _ _ hbx.drew
  have g1 : w.grownBy W1 (some g) := by rw [hW1]; exact Dk.grown_sets (w' := w) _ _ _ (Dk.far_of_up (Dk.up_drew (Below.refl _ _)))
  have hclr : ∀ ty, (Builtin.clear_ #[26] ty #[.slice (some ⟨g, n * 4, none⟩) 1 (cap - n)]).run Try.prog W1 = .ok (.tuple #[]) (W1.setCells g (n * 4) [.int .i64 0, .int .i64 0, .bool false, .int .u64 0]) :=
    fun ty => run_clear_one W1 26 29 ty (.agg #[.int .i64 0, .int .i64 0, .bool false, .int .u64 0]) [.int .i64 0, .int .i64 0, .bool false, .int .u64 0] Try.underlying26 Try.zeroValue29 (by simp [Builtin.zeroCells, Value.cells] <;> rfl) (by intro u hu; simp only [List.mem_cons, List.not_mem_nil, or_false] at hu; rcases hu with rfl | rfl | rfl | rfl <;> rfl) g (n * 4) _ (fun j hj => by
      simp only [List.length_cons, List.length_nil] at hj
      rw [b1.cell, Array.getElem?_eq_getElem (by rw [Dk.putAt_size]; omega)]
      rfl) (fun j hj => b1.frozen _)
  have fin : (W1.setCells g (n * 4) [.int .i64 0, .int .i64 0, .bool false, .int .u64 0]).ownsRow B 29 4 (.slice (some ⟨g, 0, none⟩) n cap) n (xs.take (k * 4) ++ cs) ∧ w.grownBy (W1.setCells g (n * 4) [.int .i64 0, .int .i64 0, .bool false, .int .u64 0]) (some g) := by
    refine ⟨owns_box_k (Dk.Box.sets (w := w) _ _ _ _ b1) hb (by rw [Dk.putAt_size, Dk.putAt_size]; exact hs) hm (by rw [List.length_append, List.length_take]; omega) (by omega) ?_, Dk.grown_sets (w' := w) _ _ _ g1⟩
    intro j hj
    rw [Dk.putAt_get _ _ _ (by rw [Dk.putAt_size]; simp; omega), if_neg (by omega), Dk.putAt_get _ _ _ (by omega)]
    by_cases hjk : j < k * 4
    · rw [if_neg (by omega), List.getElem?_append_left (by rw [List.length_take]; omega), List.getElem?_take, if_pos hjk]
      exact hxs j (by omega)
    · rw [if_pos (by omega), List.getElem?_append_right (by rw [List.length_take]; omega), List.length_take]
      congr 1
      omega
  rw [← ecs]
  have HF : Hid _ := fin
  have hW : Hid (W1 = w.drew.setCells g (0 + k * 4) cs) := hW1
  have hkn : Hid (k + (n - k) = n) := by show _ = _; omega
  have hic : n + 1 ≤ cap := hn
  have hnc : n ≤ cap := by omega
  have mixed : Try.prog.follows Departure.mixedOrders = true := by kernel_rfl
  have hn1 : (k : Int) + 1 ≤ (n : Int) + 1 := by omega
  have hn2 : (k : Int) ≤ (k : Int) + 1 := by omega
  have hk0 : (0 : Int) ≤ (k : Int) + 1 := by omega
  have hkc : k ≤ cap := by omega
  clear fin hW1 b1 g1 hcur hbx ht hs hg hm hl h h1 hcl ecs hxs
  go_enter Try.func16, Try.ntmps16
  go_wp2_with fail
  go_region_law_o (refine step_append_room rfl (.tmp 22) (.tmp 25) 26 rfl 29 i0 4 Try.underlying26 hi0 hz1 g 0 k cap (by simp [Act.eval, Act.put]) A (n - k) (cap - (k + 1)) cs (by simp [Act.eval, Act.put]) s1.out hsrc.out s2.out (by omega) s3.out ?_; rw [← hW.out, hkn.out])
  go_wp2
  go_ret
  exact ⟨_, rfl, HF.out.1, HF.out.2, rfl⟩

end Go.Proofs.Ytpknboeobldbpaa
