/- What the list of the used slots is, and lists that are the same. -/
import Derived.Test.YtlbbejndglpclaaSk
namespace Dk
set_option linter.unusedSimpArgs false
set_option linter.unusedVariables false
set_option linter.unnecessarySimpa false
open Go Go.RowKit

/-- Of the first slots those that are used. -/
def usl (st : St) (k : Nat) : List Int := ((List.range k).filter (us st)).map Int.ofNat
theorem usl_zero (st : St) : usl st 0 = [] := rfl
theorem usl_yes {st : St} {k : Nat} (h : us st k = true) : usl st (k + 1) = usl st k ++ [(k : Int)] := by
  unfold usl
  rw [List.range_succ, List.filter_append, List.map_append]
  simp [h]
theorem usl_no {st : St} {k : Nat} (h : us st k = false) : usl st (k + 1) = usl st k := by
  unfold usl
  rw [List.range_succ, List.filter_append, List.map_append]
  simp [h]
theorem usl_len (st : St) (k : Nat) : (usl st k).length ≤ k := by
  unfold usl
  rw [List.length_map]
  have := List.length_filter_le (us st) (List.range k)
  rw [List.length_range] at this
  exact this
theorem usl_mem {st : St} {k : Nat} {x : Int} (h : x ∈ usl st k) : ∃ j : Nat, x = j ∧ j < k ∧ us st j = true := by
  unfold usl at h
  obtain ⟨j, hj, rfl⟩ := List.mem_map.1 h
  rw [List.mem_filter, List.mem_range] at hj
  exact ⟨j, rfl, hj⟩

/-- A row that is owned, read as numbers. -/
theorem owns_ints {w : World} {base : Nat} {e : TypeId} {v : Value} {xs : List Int} (h : w.ownsRow base e 1 v xs.length (xs.map (Value.int .i64))) (hx : ∀ x ∈ xs, i64 x) (hm : xs.length ≤ maxLen) : ∃ A C, v = .slice A xs.length C ∧ SlI w.heap.size w A xs.length C xs := by
  obtain ⟨_, h | ⟨g, cap, cur, rfl, hb, hg, hc, hm, hs, ht⟩⟩ := h
  · obtain ⟨rfl, h0⟩ := h
    rw [h0]
    exact ⟨none, 0, rfl, h0, Nat.le_refl _, Nat.zero_le _, hx, fun h => absurd h (by omega)⟩
  · refine ⟨_, cap, rfl, rfl, hc, hm, hx, fun h0 => ⟨g, 0, rfl, (Array.getElem?_eq_some_iff.1 hg).1, fun k hk => ?_⟩⟩
    have hbx : Box w g cur e := ⟨hg⟩
    rw [hbx.cell, Nat.zero_add]
    have h1 : (cur.toList.take (xs.length * 1))[k]? = cur.toList[k]? := by rw [List.getElem?_take, if_pos (by omega)]
    rw [ht] at h1
    rw [← Array.getElem?_toList, ← h1]
    simp [List.getD, hk]

end Dk
namespace Go.Proofs.Ytlbbejndglpclaa
set_option linter.unusedSimpArgs false
set_option linter.unusedVariables false
set_option linter.unnecessarySimpa false
open Go.RowKit

theorem info3 : (Try.prog.info? 3).map (fun i => (i.zero, i.size, i.bytes)) = some (some (.int .i64 0), 1, 8) := by kernel_rfl
theorem info27 : (Try.prog.info? 27).map (fun i => (i.zero, i.size, i.bytes)) = some (some (.int .u64 0), 1, 8) := by kernel_rfl

theorem Used_nil (w : World) :
    Calls Try.prog 14 #[.pointer none] w fun e w' => e = .returned (.slice none 0 0) ∧ w' = w := by
  go_enter Try.func14, Try.ntmps14
  go_wp2
  go_ret
  exact ⟨rfl, rfl⟩

/-- One cell in a new block. -/
theorem one_new (w w' : World) (v : Value) (t : TypeId) (e : w' = w.alloc (.cells #[v] t)) : ∀ (j : Nat) (u : Value), [v][j]? = some u → w'.cell? ((⟨w.heap.size, 0, none⟩ : Addr).add j) = some u := by
  intro j u hj
  match j, hj with
  | 0, hj =>
    simp at hj
    subst hj
    subst e
    have := (Dk.Box.new w #[v] t).cell 0
    simpa [Addr.add] using this

set_option maxHeartbeats 1000000 in
theorem Used_any (bt bs M : Nat) (st : Dk.St) (w : World) (hT : Dk.Tab w bt bs M st) :
    Calls Try.prog 14 #[.pointer (some ⟨bt, 0, none⟩)] w fun e w' => ∃ A C, e = .returned (.slice A (Dk.usl st st.length).length C) ∧ Dk.SlI w'.heap.size w' A (Dk.usl st st.length).length C (Dk.usl st st.length) ∧ Below w.heap.size w w' := by
  have c0 : w.cell? ⟨bt, 0, none⟩ = some (.slice (some ⟨bs, 0, none⟩) st.length st.length) := hT.head.cell 0
  have hl := hT.small.1
  obtain ⟨i0, hi, hz0, hz1, hz2⟩ := info_parts info3
  go_enter Try.func14, Try.ntmps14
  go_wp2
  go_loopw [3, 13] (fun v i w' => ∃ k : Nat, k ≤ st.length ∧ i = .int .i64 k ∧ w'.ownsRow w.heap.size 3 1 v (Dk.usl st k).length ((Dk.usl st k).map (Value.int .i64)) ∧ Hid (Below w.heap.size w w')) (fun v i w' => st.length - (intOf i).toNat)
  case atStart => exact ⟨0, Nat.zero_le _, rfl, World.ownsRow_nil _ _ _ _, Below.refl _ _⟩
  case round =>
    obtain ⟨k, hk, rfl, hown, HB⟩ := hrel
    by_cases hlt : k < st.length
    · have hTr := hT.up HB.out
      have c1 : wr.cell? ⟨bs, k * 2, none⟩ = some (.int .u64 (Dk.tk st k : Nat)) := by rw [hTr.row.cell]; exact (Dk.sc_at st k hlt).1
      have c2 : wr.cell? ⟨bs, k * 2 + 1, none⟩ = some (.bool (Dk.us st k)) := by rw [hTr.row.cell]; exact (Dk.sc_at st k hlt).2
      have n1 := hTr.row.lt
      have hul := Dk.usl_len st k
      clear c0 hT hTr
      cases hu : Dk.us st k
      · rw [hu] at c2
        have HUF : Hid _ := hu
        clear hu
        go_wp2
        go_roundw
        case rel => exact ⟨k + 1, by omega, by go_num, by rw [Dk.usl_no HUF.out]; exact hown.alloc _, Dk.up_alloc HB.out _⟩
        case measure => simp [intOf]; omega
      · rw [hu] at c2
        have HUF : Hid _ := hu
        clear hu
        go_wp2_with (at_builtin; refine wpList_append_own _ rfl _ _ 36 rfl w.heap.size 3 i0 (.int .i64 0) 1 8 Try.underlying36 hi hz0 hz1 hz2 rfl (by decide) _ _ _ rfl ((hown.alloc _).alloc _) ⟨wr.heap.size + 1, 0, none⟩ 1 1 [.int .i64 (k : Int)] rfl rfl ?c1 ?c2 ?c3 ?c4 ?c5 ?_)
        case c1 =>
          have := one_new (wr.alloc (.cells #[.int .u64 (Dk.tk st k : Nat), .bool true] 50)) _ (.int .i64 (k : Int)) 3 rfl
          rw [World.size_alloc] at this
          exact this
        case c2 => intro u hu; simp at hu; subst hu; rfl
        case c3 => unfold maxLen; omega
        case c4 => omega
        case c5 => have := HB.out.size; simp; omega
        · intro v' w1 hown' hgrow _
          clear c1 c2
          go_wp2
          go_roundw
          case rel =>
            refine ⟨k + 1, by omega, by go_num, ?_, ?_⟩
            · rw [Dk.usl_yes HUF.out, List.length_append, List.map_append]
              exact hown'
            · exact HB.out.trans ((Dk.up_alloc (Dk.up_alloc (Below.refl _ _) _) _ : Below wr.heap.size wr _) |>.mono HB.out.size |>.grown hgrow (by have := HB.out.size; simp; omega) (fun q hq => (hown.lt q hq).1))
          case measure => simp [intOf]; omega
    · have hke : k = st.length := by omega
      clear c0
      go_wp2
      subst hke
      obtain ⟨A, C, rfl, hS⟩ := Dk.owns_ints hown (fun x hx => by obtain ⟨j, rfl, hj, _⟩ := Dk.usl_mem hx; unfold Dk.i64; omega) (by have := Dk.usl_len st st.length; unfold maxLen; omega)
      go_ret
      exact ⟨A, C, rfl, hS, HB.out⟩

set_option maxHeartbeats 1000000 in
theorem Ints_same (A A' : Option Addr) (L C C' : Nat) (xs : List Int) (w : World) (h : Dk.SlI w.heap.size w A L C xs) (h' : Dk.SlI w.heap.size w A' L C' xs) :
    Calls Try.prog 13 #[.slice A L C, .slice A' L C'] w fun e w' => e = .returned (.bool true) ∧ Below w.heap.size w w' := by
  have hcap := h.cap
  have hmax := h.max
  unfold maxLen at hmax
  go_enter Try.func13, Try.ntmps13
  go_wp2
  go_loopw [5] (fun i w' => ∃ k : Nat, k ≤ L ∧ i = .int .i64 k ∧ Hid (Below w.heap.size w w')) (fun i w' => L - (intOf i).toNat)
  case atStart => exact ⟨0, Nat.zero_le _, rfl, Below.refl _ _⟩
  case round =>
    obtain ⟨k, hk, rfl, HB⟩ := hrel
    by_cases hlt : k < L
    · obtain ⟨b, o, rfl, hb, hc⟩ := h.cells (by omega)
      obtain ⟨b', o', rfl, hb', hc'⟩ := h'.cells (by omega)
      have c1 : wr.cell? ⟨b, o + k, none⟩ = some (.int .i64 (xs.getD k 0)) := by rw [HB.out.cell (by show b < w.heap.size; exact hb)]; exact hc k hlt
      have c2 : wr.cell? ⟨b', o' + k, none⟩ = some (.int .i64 (xs.getD k 0)) := by rw [HB.out.cell (by show b' < w.heap.size; exact hb')]; exact hc' k hlt
      generalize xs.getD k 0 = v at c1 c2
      clear hc hc' h h'
      go_wp2
      go_quiet (fail)
      go_wp2
      go_roundw
      case rel => exact ⟨k + 1, by omega, by go_num, Dk.up_drewN HB.out nq⟩
      case measure => simp [intOf]; omega
    · go_wp2
      go_ret
      exact ⟨rfl, HB.out⟩

end Go.Proofs.Ytlbbejndglpclaa
