/- A moment goes by. -/
import Derived.Test.YtiaegeaogleepaaWs
import Derived.Test.YtiaegeaogleepaaWo
import Derived.Lib.AppendZeros
namespace Go.Proofs.Ytiaegeaogleepaa
set_option linter.unusedSimpArgs false
set_option linter.unusedVariables false
set_option linter.unnecessarySimpa false
open Go.RowKit Go.Maps

section
variable {B M : Nat} {w : World} {bd bm : Nat} {now : Int} {L : List (Int × Int)}

set_option maxRecDepth 100000 in
set_option maxHeartbeats 1000000 in
theorem takeDue_any (h : WH B M w bd bm now L) (hM : M ≤ 10000) : Calls Try.prog 15 #[.pointer (some ⟨bd, 0, none⟩)] w fun e w' => ∃ v ss, e = .returned v ∧ w'.ownsRow w.heap.size 3 1 v ss.length (Dk.is ss) ∧ ss.length ≤ M ∧ ss.Perm (Dk.dueOf now L) ∧ WH B M w' bd bm now (Dk.leftOf now L) ∧ w.grownBy w' (some bm) := by
  obtain ⟨D, n, hn, hown, ht⟩ := h.map
  obtain ⟨i0, hi0, hz0, hz1, hz2⟩ := info_parts info3
  have hne := h.ne
  have hbl := hown.lt
  have hdl := h.head.lt
  have hsz := hown.size_le
  have c1 : w.cell? ⟨bd, 1, none⟩ = some (.map (some bm)) := h.head.cell 1
  have fin : ∀ w' D', w'.ownsMap Try.prog 3 (plainElem Try.prog 3) bm n D' → Dk.Tells D' (Dk.leftOf now L) → w.grownBy w' (some bm) → WH B M w' bd bm now (Dk.leftOf now L) := fun w' D' ho' ht' hg => ⟨h.base, h.baseM, h.lo, h.hi, h.head.far hg hne, ⟨D', n, hn, ho', ht'⟩, fun p hp => h.wf p (List.mem_filter.1 hp).1⟩
  have cells : ∀ w', w.grownBy w' (some bm) → w'.cell? ⟨bd, 0, none⟩ = some (.int .i64 now) ∧ w'.cell? ⟨bd, 1, none⟩ = some (.map (some bm)) := fun w' hg => ⟨(h.head.far hg hne).cell 0, (h.head.far hg hne).cell 1⟩
  have HF : Hid _ := fin
  have HC : Hid _ := cells
  have hnd := ht.nodup
  clear fin cells h
  go_enter Try.func15, Try.ntmps15
  go_wp2_with (first
    | (at_range; refine wpList_range_own _ rfl _ 41 rfl 3 3 law3 Try.underlying41 _ bm n _ rfl hown ?_; intro w0 hrg0 hg0 hs0)
    | fail)
  go_frame
  go_loopw [3] (fun v wr => ∃ (left : Lit → Bool) (cnt : Nat) (ss : List Int) (D' : DataW Unit) (A : Option Addr) (C : Nat), v = .slice A ss.length C ∧ wr.ranges Try.prog 3 (plainElem Try.prog 3) bm w.heap.size n D' left cnt ∧ ss.length + cnt ≤ M ∧
      wr.ownsRow w.heap.size 3 1 (.slice A ss.length C) ss.length (Dk.is ss) ∧ Hid (Dk.Tells D' (L.filter (Dk.stays now left))) ∧ Hid (Dk.Taken now L left ss) ∧ Hid (w.grownBy wr (some bm)))
    (fun _ wr => wr.rangeLeft bm w.heap.size)
  case atStart => exact ⟨_, _, [], D, none, 0, rfl, hrg0, by simp; omega, World.ownsRow_nil _ _ _ _, by rw [Dk.stays_start ht]; exact ht, Dk.Taken.start ht now, hg0.but _⟩
  case round =>
    obtain ⟨left, cnt, ss, D', A, C, rfl, hrg, hcs, hrow, HT, HK, HG⟩ := hrel
    clear hown hrg0 hg0 hs0 c1 ht
    go_wp2_with (first
      | (at_next; refine wpList_next_ranges_ii _ rfl _ rfl 3 3 .i64 .i64 law3 Try.underlying3 Try.underlying3 bm w.heap.size n _ _ _ rfl hrg ?_ ?_)
      | fail)
    · intro _ hl0
      have hw := HF.out wr D' hrg.owns (by rw [← Dk.stays_end hl0]; exact HT.out) HG.out
      have hp := HK.out.perm hnd hl0
      have HW : Hid _ := hw
      have HP : Hid _ := hp
      have HR : Hid _ := hrow
      clear hw hp hrow hrg
      go_wp2_with fail
      go_ret
      exact ⟨_, ss, rfl, HR.out, by omega, HP.out, HW.out, HG.out⟩
    · intro x c w1 cnt1 hwx hwc hlx hat hrg1 hlt hg1 hs1 hen
      have hL : (x, c) ∈ L := (List.mem_filter.1 (HT.out.of_at hat)).1
      have hrow1 := hrow.kept hg1 (Or.inr (row_ne_iter hrow hrg).symm)
      have hgw1 : w.grownBy w1 (some bm) := HG.out.andThen hg1 (fun j hj => by cases hj; exact Or.inl (Nat.le_refl _))
      obtain ⟨c0, c1⟩ := HC.out w1 hgw1
      have hB1 : w.heap.size ≤ w1.heap.size := hgw1.size
      by_cases hc : c ≤ now
      · have y1 : decide (c ≤ now) = true := by simpa using hc
        have HT2 : Hid (Dk.Tells (D'.del (.int .i64 x)) (L.filter (Dk.stays now (Dk.struck left x)))) := by rw [← Dk.stays_step hnd hL hc]; exact HT.out.del x
        have HK2 : Hid (Dk.Taken now L (Dk.struck left x) (ss ++ [x])) := HK.out.step hnd hlx hL hc
        obtain ⟨W, eW⟩ : ∃ W, W = w1.alloc (.cells #[.int .i64 x] 3) := ⟨_, rfl⟩
        have uW : Below w1.heap.size w1 W := by rw [eW]; exact Dk.up_alloc (Below.refl _ _) _
        have rowW : W.ownsRow w.heap.size 3 1 (.slice A ss.length C) ss.length (Dk.is ss) := by rw [eW]; exact hrow1.alloc _
        have rgW : W.ranges Try.prog 3 (plainElem Try.prog 3) bm w.heap.size n D' (fun z => left z && !z.sameKey (.int .i64 x)) cnt1 := by rw [eW]; exact hrg1.alloc _
        obtain ⟨v', w3, hr, ho3, hg3, hf3, _⟩ := append_from w.heap.size 25 (.slice A ss.length C) (Dk.is ss) ss.length W rowW ⟨w1.heap.size, 0, none⟩ 1 1 [.int .i64 x] rfl (one_new w1 W _ 3 eW) (fun u hu => by simp at hu; subst hu; rfl) (by omega) (by have := uW.size; omega)
        have hrg3 := rgW.kept hg3 (row_ne_low rowW hbl) (row_ne_iter rowW rgW)
        have hgw3 : w.grownBy w3 (some bm) := (Dk.far_up hgw1 uW).andThen hg3 (fun j hj => Or.inl (rowW.lt j hj).1)
        obtain ⟨d0, d1⟩ := HC.out w3 hgw3
        have HG3 : Hid (w.grownBy w3 (some bm)) := hgw3
        have HO3 : Hid (w3.ownsRow w.heap.size 3 1 v' (ss.length + 1) (Dk.is ss ++ [.int .i64 x])) := ho3
        have HR0 : Hid (wr.ranges Try.prog 3 (plainElem Try.prog 3) bm w.heap.size n D' left cnt) := hrg
        obtain ⟨A', C', rfl, _, _⟩ := Dk.owns_slice ho3
        rw [eW] at hr
        clear hs1 HT HK HG hgw1 hrow hL hat hlx hc hrg hgw3 ho3 hg3 hf3 rgW rowW uW hrow1 hrg1
        go_wp2_with (first
          | (at_delete; refine wpList_delete_ranges _ rfl _ _ 41 3 rfl 3 law3 Try.underlying41 _ bm w.heap.size n _ _ _ rfl hrg3 _ _ rfl (keyOf_int_mk Try.underlying3 hwx) ?_; intro w4 cnt4 hrg4 hle hturn; go_frame)
          | (at_builtin; refine Lib.wpList_append_run _ rfl _ _ _ _ rfl _ _ rfl rfl _ _ hr ?_))
        rw [strike_twice] at hrg4
        go_roundw
        case rel =>
          refine ⟨_, cnt4, ss ++ [x], _, A', C', by simp, hrg4, by simp; omega, ?_, HT2, HK2, HG3.out.andThen hturn.grown (fun j hj => by cases hj; exact Or.inr rfl)⟩
          have hr3 : w3.ownsRow w.heap.size 3 1 (.slice A' (ss.length + 1) C') (ss.length + 1) (Dk.is ss ++ [.int .i64 x]) := HO3.out
          have := hr3.kept hturn.grown (Or.inr (row_ne_low hr3 hbl).symm)
          simpa [Dk.is] using this
        case measure => rw [hrg4.left_eq, World.ranges.left_eq HR0.out]; omega
      · have y1 : decide (c ≤ now) = false := by simpa using hc
        have HT2 : Hid (Dk.Tells D' (L.filter (Dk.stays now (Dk.struck left x)))) := by rw [← Dk.stays_pass hnd hL (by omega)]; exact HT.out
        have HK2 : Hid (Dk.Taken now L (Dk.struck left x) ss) := HK.out.pass hnd hL (by omega)
        have HGW : Hid _ := hgw1
        have HR0 : Hid (wr.ranges Try.prog 3 (plainElem Try.prog 3) bm w.heap.size n D' left cnt) := hrg
        clear hs1 HT HK HG hgw1 hrow hL hat hlx hc hrg
        go_wp2_with fail
        go_roundw
        case rel => exact ⟨_, cnt1, ss, D', A, C, rfl, hrg1, by omega, hrow1, HT2, HK2, HGW⟩
        case measure => rw [hrg1.left_eq, World.ranges.left_eq HR0.out]; exact hlt

theorem Tick_nil (w : World) : Calls Try.prog 8 #[.pointer none] w fun e w' => e = .returned (.slice none 0 0) ∧ w' = w := by
  go_enter Try.func8, Try.ntmps8
  go_wp2
  go_ret
  exact ⟨rfl, rfl⟩
/-- The clock's hand is moved. -/
theorem WH.tick (h : WH B M w bd bm now L) {t : Int} (h0 : 0 ≤ t) (h1 : t ≤ 1099511627776) : WH B M (w.setCell ⟨bd, 0, none⟩ (.int .i64 t)) bd bm t L ∧ Dk.Away (AtW bd bm) w (w.setCell ⟨bd, 0, none⟩ (.int .i64 t)) :=
  ⟨⟨h.base, h.baseM, h0, h1, h.head.set 0 _, h.map.of_block (Below.heap_setCell w ⟨bd, 0, none⟩ _ bm (fun e => h.ne e.symm)), h.wf⟩, (Dk.Away.refl _ w).set (.inl (.inl rfl)) _ _⟩
set_option maxHeartbeats 1000000 in
/-- A moment goes by: those whose moment has come, rising; they wait no more. -/
theorem Tick_any (h : WH B M w bd bm now L) (hM : M ≤ 10000) : Calls Try.prog 8 #[.pointer (some ⟨bd, 0, none⟩)] w fun e w' => ∃ v ys, e = .returned v ∧ w'.ownsRow w.heap.size 3 1 v ys.length (Dk.is ys) ∧ Dk.Rising ys ∧ ys.Perm (Dk.dueOf (min (now + 1) 1099511627776) L) ∧
    WH B M w' bd bm (min (now + 1) 1099511627776) (Dk.leftOf (min (now + 1) 1099511627776) L) ∧ Dk.Away (AtW bd bm) w w' := by
  have K := after_any 1 h (by omega) (by omega)
  have ht : 0 ≤ min (now + 1) 1099511627776 := by have := h.lo; omega
  have c0 : w.cell? ⟨bd, 0, none⟩ = some (.int .i64 now) := h.head.cell 0
  have f0 : w.frozen? ⟨bd, 0, none⟩ = false := h.head.frozen 0
  have hT : min (now + 1) 1099511627776 ≤ 1099511627776 := by omega
  generalize min (now + 1) 1099511627776 = t at *
  obtain ⟨h1, a1⟩ := h.tick ht hT
  obtain ⟨W, eW⟩ : ∃ W, W = w.setCell ⟨bd, 0, none⟩ (.int .i64 t) := ⟨_, rfl⟩
  rw [← eW] at h1 a1
  have K2 := takeDue_any h1 hM
  have hsz : w.heap.size ≤ W.heap.size := a1.size
  have hbd : bd < W.heap.size := h1.head.lt
  have hbm : bm < W.heap.size := h1.map.lt
  have HE : Hid _ := eW
  have HA : Hid _ := a1
  clear h1 a1 h eW ht hT
  go_enter Try.func8, Try.ntmps8
  go_wp2_with (first | (go_at_call 14; refine K.mono ?_; rintro e w' ⟨rfl, hw'⟩; subst w'))
  rw [← HE.out]
  refine K2.mono ?_
  rintro e w2 ⟨v, ss, rfl, ho, hl, hp, hw, hg⟩
  have K3 := Sort_any _ v ss w2 ho (by omega)
  have HO : Hid (w2.ownsRow W.heap.size 3 1 v ss.length (Dk.is ss)) := ho
  have HP : Hid _ := hp
  have HW : Hid _ := hw
  have HG : Hid _ := hg
  obtain ⟨A, C, rfl, _, _⟩ := Dk.owns_slice ho
  clear ho hp hw hg c0 f0 K K2
  go_wp2_with fail
  refine K3.mono ?_
  rintro e w3 ⟨rfl, ho3, hg3⟩
  have HO3 : Hid (w3.ownsRow W.heap.size 3 1 (.slice A ss.length C) ss.length (Dk.is (ss.mergeSort fun x y => decide (x ≤ y)))) := ho3
  have HG3 : Hid _ := hg3
  clear ho3 hg3 K3
  go_wp2_with fail
  go_ret
  have hne : ∀ k, Value.ownBlock (.slice A ss.length C) = some k → W.heap.size ≤ k := fun k hk => (World.ownsRow.lt HO.out k hk).1
  have a3 : Dk.Away (fun k => Value.ownBlock (.slice A ss.length C) = some k) w2 w3 := Dk.Away.of_grown HG3.out (fun k hk => .inl hk)
  refine ⟨_, ss.mergeSort fun x y => decide (x ≤ y), rfl, ?_, Dk.rising_sort ss, (List.mergeSort_perm ss _).trans HP.out, HW.out.away a3 (fun e => by have := hne _ e; omega) (fun e => by have := hne _ e; omega), ?_⟩
  · have := Dk.owns_base HO3.out hsz
    simpa using this
  · refine (HA.out.trans (Dk.Away.of_grown (S := AtW bd bm) HG.out (fun k hk => .inl (.inr (Option.some.inj hk).symm))) (fun k hk => .inl hk)).trans a3 (fun k hk => .inr ?_)
    have := hne k hk
    omega
end

end Go.Proofs.Ytiaegeaogleepaa
