/- What the functions of layer 12 answer: how processors are shared out. -/
import Derived.Test.YtihikekhfbpnaaaFd
namespace Dk
set_option linter.unusedSimpArgs false
set_option linter.unusedVariables false
set_option linter.unnecessarySimpa false
open Go Go.RowKit
theorem sli_grown {w w' : World} {A : Option Addr} {L C bh : Nat} {xs : List Int} (h : SlI bh w A L C xs) (hb : bh ≤ w.heap.size) (g : w.grownBy w' (some bh)) : SlI bh w' A L C xs :=
  ⟨h.len, h.cap, h.max, h.wf, fun h0 => by
    obtain ⟨b, o, e, hlt, hc⟩ := h.cells h0
    refine ⟨b, o, e, hlt, fun k hk => ?_⟩
    obtain ⟨b', o', e', hc', _⟩ := sli_far h hb g k hk
    rw [e] at e'
    have := Option.some.inj e'
    simp only [Addr.mk.injEq] at this
    obtain ⟨rfl, rfl, _⟩ := this
    exact hc'⟩
theorem sli_box {w : World} {b L : Nat} {t : TypeId} {xs : List Int} (h : Box w b (cells xs) t) (hl : xs.length = L) (hm : L ≤ 1000) (hx : ∀ k, k < L → i64 (xs.getD k 0)) : SlI w.heap.size w (some ⟨b, 0, none⟩) L L xs :=
  ⟨hl, Nat.le_refl _, by unfold maxLen; omega, fun x hx' => by
    obtain ⟨k, hk, rfl⟩ := List.getElem_of_mem hx'
    have := hx k (by omega)
    simpa [List.getD, hk] using this, fun h0 => ⟨b, 0, rfl, h.lt, fun k hk => by rw [Nat.zero_add, h.cell]; exact cells_at (by omega)⟩⟩
theorem sli_up {w w' : World} {A : Option Addr} {L C : Nat} {xs : List Int} (h : SlI w.heap.size w A L C xs) (u : Below w.heap.size w w') : SlI w'.heap.size w' A L C xs := (h.below u (Nat.le_refl _)).more u.size
theorem made_zero (n : Nat) : madeCells #[.int .i64 0] n = cells (List.replicate n 0) := by
  apply Array.ext_getElem?
  intro i
  unfold cells
  by_cases hi : i < n
  · simp [madeCells, hi, Nat.mod_one]
  · rw [Array.getElem?_eq_none (by rw [size_madeCells]; omega), Array.getElem?_eq_none (by simp; omega)]
theorem prow_all {d p : List Int} {f : Nat} (q : Int) (hl : p.length = d.length) (hf : 0 < d.length → f < d.length) : RowOk d p f q (prow p f q d.length) := by
  by_cases h0 : 0 < d.length
  · exact prow_ok q hl (hf h0)
  · have e : d.length = 0 := by omega
    rw [e, prow_zero]
    exact ⟨fun t ht => absurd ht (by simp), fun t ht => absurd ht (by simp), fun j hj => absurd hj (by omega), fun t t' _ ht => absurd ht (by simp)⟩
theorem good_i64 {procs : Int} {d p has : List Int} {f : Nat} (h : Good procs d p has f) (hd : ∀ k, k < d.length → i64 (d.getD k 0)) (k : Nat) (hk : k < d.length) : i64 (has.getD k 0) := by
  have h1 := h.down.low k hk
  have h2 := h.down.top k hk
  have h3 := hd k hk
  unfold i64 at h3 ⊢
  by_cases h0 : 0 < has.getD k 0
  · have := h2 h0; omega
  · omega
end Dk
namespace Go.Proofs.Ytihikekhfbpnaaa
set_option linter.unusedSimpArgs false
set_option linter.unusedVariables false
set_option linter.unnecessarySimpa false
open Go.RowKit

theorem make_ints (L : Nat) (hL : L ≤ 1000) (w : World) : (Instr.makeSlice 22 (.int .i64 (L : Int)) (.int .i64 (L : Int))).run Try.prog w = .ok (.slice (some ⟨w.heap.size, 0, none⟩) L L) (w.alloc (.cells (Dk.cells (List.replicate L 0)) 3)) := by
  rw [← Dk.made_zero]
  exact run_make_row' 22 3 (.int .i64 0) 8 Try.underlying22 info3 rfl .i64 .i64 L (by omega) (by omega) w

theorem Fair_no (procs turn : Int) (hpr : Dk.i64 procs) (A1 A2 : Option Addr) (n C1 m C2 : Nat) (p : List Int) (w : World) (hp : Dk.SlI w.heap.size w A2 m C2 p) (hA : ¬ Dk.Ask procs n p) :
    Calls Try.prog 7 #[.int .i64 procs, .slice A1 n C1, .slice A2 m C2, .int .i64 turn] w fun e w' => e = .returned (.slice none 0 0) ∧ Below w.heap.size w w' := by
  have K : Calls Try.prog 11 #[.int .i64 procs, .slice A1 n C1, .slice A2 m C2] w fun e w' => e = .returned (.bool false) ∧ Below w.heap.size w w' :=
    (sound_any procs hpr A1 A2 n C1 m C2 p w hp).mono fun e w' g => ⟨g.1.elim (fun g => absurd g.2 hA) (fun g => g.1), g.2⟩
  clear hp hA
  go_enter Try.func7, Try.ntmps7
  go_wp2_with fail
  refine K.mono ?_
  rintro e w1 ⟨rfl, u1⟩
  go_wp2
  go_ret
  exact ⟨rfl, u1⟩

set_option maxHeartbeats 2000000 in
theorem Fair_yes (procs turn : Int) (htu : Dk.i64 turn) (A1 A2 : Option Addr) (n C1 m C2 : Nat) (d p : List Int) (w : World) (hd : Dk.SlI w.heap.size w A1 n C1 d) (hp : Dk.SlI w.heap.size w A2 m C2 p) (hA : Dk.Ask procs n p) :
    Calls Try.prog 7 #[.int .i64 procs, .slice A1 n C1, .slice A2 m C2, .int .i64 turn] w fun e w' => ∃ A C has, e = .returned (.slice A n C) ∧ Dk.Good procs d p has (Dk.turnOf turn n) ∧ Dk.SlI w'.heap.size w' A n C has ∧ Below w.heap.size w w' := by
  obtain ⟨a1, a2, a3, a4, a5⟩ := id hA
  have hpl := hp.len
  obtain rfl : m = n := by omega
  have hdl := hd.len
  have K : Calls Try.prog 11 #[.int .i64 procs, .slice A1 m C1, .slice A2 m C2] w fun e w' => e = .returned (.bool true) ∧ Below w.heap.size w w' :=
    (sound_any procs (by unfold Dk.i64; omega) A1 A2 m C1 m C2 p w hp).mono fun e w' g => ⟨g.1.elim (fun g => g.1) (fun g => absurd hA g.2), g.2⟩
  have hdx := fun k (hk : k < m) => Dk.sli_at hd k hk
  have HDX : Hid (∀ k, k < d.length → Dk.i64 (d.getD k 0)) := by rw [hdl]; exact hdx
  have hf0 : 0 < d.length → Dk.turnOf turn m < d.length := by rw [hdl]; exact fun h => Dk.turnOf_lt h
  obtain ⟨f, ef⟩ : ∃ f, Dk.turnOf turn m = f := ⟨_, rfl⟩
  have KA := fun q hq C xs w r (hr : r < w.heap.size) h => alike_any q hq turn htu A2 m C xs a2 r w hr h
  rw [ef] at hf0 KA ⊢
  clear ef hdx hA
  have HR : Hid (∀ q : Int, Dk.RowOk d p f q (Dk.prow p f q m)) := fun q => by
    have := Dk.prow_all (d := d) (p := p) (f := f) q (by omega) hf0
    rw [hdl] at this
    exact this
  have HKA : Hid _ := KA
  have HA5 : Hid _ := a5
  have HD : Hid _ := hd
  have HP : Hid _ := hp
  clear KA a5 hd hp hf0
  have hd1 := HD.out.cap
  have hd2 := HD.out.max
  have hp1 := HP.out.cap
  have hp2 := HP.out.max
  unfold maxLen at hd2 hp2
  go_enter Try.func7, Try.ntmps7
  go_wp2_with fail
  refine K.mono ?_
  rintro e w1 ⟨rfl, u1⟩
  obtain ⟨w2, e2⟩ : ∃ w2, w1.alloc (.cells (Dk.cells (List.replicate m 0)) 3) = w2 := ⟨_, rfl⟩
  have hmk := make_ints m (by omega) w1
  rw [e2] at hmk
  have HB2 : Hid (Dk.Box w2 w1.heap.size (Dk.cells (List.replicate m 0)) 3) := e2 ▸ Dk.Box.new _ _ _
  have HU2 : Hid (Below w.heap.size w w2) := e2 ▸ Dk.up_alloc u1 _
  have hz2 : w2.heap.size = w1.heap.size + 1 := by rw [← e2]; simp
  have HD2 : Hid (Dk.SlI w1.heap.size w2 A1 m C1 d) := e2 ▸ (((HD.out.below u1 (Nat.le_refl _)).more u1.size).below (Dk.up_alloc (Below.refl _ _) _) (Nat.le_refl _))
  have HP2 : Hid (Dk.SlI w1.heap.size w2 A2 m C2 p) := e2 ▸ (((HP.out.below u1 (Nat.le_refl _)).more u1.size).below (Dk.up_alloc (Below.refl _ _) _) (Nat.le_refl _))
  have hz1 := u1.size
  have HZ2 : Hid _ := hz2
  clear e2 K u1 hz2
  generalize w1.heap.size = bh at *
  go_wp2
  go_loopw [10, 11] (fun l q w' => ∃ (left q0 : Int) (hs : List Int), l = .int .i64 left ∧ q = .int .i64 q0 ∧ -1 ≤ q0 ∧ q0 ≤ 7 ∧ left ≤ 64 ∧ Hid (Dk.Box w' bh (Dk.cells hs) 3) ∧ Hid (Dk.Done procs d p hs f (q0 + 1) left) ∧ Hid (w2.grownBy w' (some bh))) (fun l q w' => (intOf q + 1).toNat)
  case atStart =>
    refine ⟨procs, 7, List.replicate m 0, rfl, rfl, by omega, by omega, a4, HB2.out, ?_, Dk.far_refl _ _⟩
    show Dk.Done _ _ _ _ _ _ _
    have := Dk.Done.begin (procs := procs) (d := d) (p := p) (f := f) a3 (fun j hj => (HA5.out j (by omega)).2)
    rw [hdl] at this
    exact this
  case round =>
    obtain ⟨left, q, hs, rfl, rfl, hq1, hq2, hl64, HB, HDn, HG⟩ := hrel
    by_cases hq : 0 ≤ q
    · have hbw := HB.out.lt
      have hsz := HG.out.size
      have KA := HKA.out q (by unfold Dk.i64; omega) C2 p wr bh hbw ((Dk.sli_grown HP2.out (by rw [HZ2.out]; omega) HG.out).more (by omega))
      generalize ew : wr = wa at *
      clear ew
      go_wp2_with fail
      refine KA.mono ?_
      rintro e w3 ⟨A3, C3, rfl, hK3, u3⟩
      have HLv := HDn.out.lev (HR.out q)
      have h3s := u3.size
      have KR := rounds_any procs left d p hs f q _ (HR.out q) bh w3 (HB.out.up u3) HLv hl64 A3 C3 hK3 A1 m C1 ((Dk.sli_grown HD2.out (by rw [HZ2.out]; omega) HG.out).below u3 (by omega)) a2 (Nat.le_trans (Dk.prow_len _ _ _ _) a2)
      have HG3 : Hid _ := Dk.far_up HG.out u3
      have hrl := Dk.prow_len p f q m
      have hk1 := hK3.1
      have hk2 := hK3.2.1
      unfold maxLen at hk2
      generalize Dk.prow p f q m = row at KR hrl hk1 ⊢
      clear KA hK3 u3 HLv
      go_wp2_with fail
      refine KR.mono ?_
      rintro e w4 ⟨hs', left', rfl, hB4, hD4, h64', hG4⟩
      have HB4 : Hid _ := hB4
      have HD4 : Hid (Dk.Done procs d p hs' f (q - 1 + 1) left') := by rw [Int.sub_add_cancel]; exact hD4
      have HG4 : Hid _ := Dk.far_trans HG3.out hG4
      clear hB4 hD4 hG4 KR
      go_wp2
      go_roundw
      case rel => exact ⟨left', q - 1, hs', rfl, by go_num, by omega, by omega, h64', HB4.out, HD4.out, HG4.out⟩
      case measure => simp [intOf]; omega
    · have eq : q = -1 := by omega
      have HGo : Hid (Dk.Good procs d p hs f) := by
        have := HDn.out
        rw [eq] at this
        exact this.good (fun j hj => (HA5.out j (by omega)).1)
      go_wp2
      go_ret
      refine ⟨_, _, rfl, hs, HGo.out, Dk.sli_box HB.out (by rw [HGo.out.down.len]; exact hdl) (by omega) (fun k hk => Dk.good_i64 HGo.out HDX.out k (by omega)), Dk.up_far HU2.out HG.out (by omega)⟩
end Go.Proofs.Ytihikekhfbpnaaa
