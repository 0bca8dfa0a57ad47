/- What a pipe tells: its words, who waits; and the fixed fact of the statements. -/
import Derived.Test.YtnoeigmcanggdaaTr
namespace Go.Proofs.Ytnoeigmcanggdaa
set_option linter.unusedSimpArgs false
set_option linter.unusedVariables false
set_option linter.unnecessarySimpa false
open Go.RowKit Go.Lib

theorem row_cell {B : Nat} {w : World} {A : Option Addr} {L C : Nat} {xs : List Nat} (h : Dk.Row 1 0 Dk.IsWord B w A L C xs) (h0 : 0 < L) : ∃ b o, A = some ⟨b, o, none⟩ ∧ b < B ∧ ∀ k, k < L → w.cell? ⟨b, o + k, none⟩ = some (.int .u64 ((xs.getD k 0 : Nat) : Nat)) := by
  obtain ⟨b, o, e, hb, hc⟩ := h.cells h0
  refine ⟨b, o, e, hb, fun k hk => ?_⟩
  obtain ⟨vs, h1, ⟨rfl, _⟩, h3⟩ := hc k hk
  have := h3 0 (by omega)
  rw [Nat.mul_one, Nat.add_zero] at this
  rw [this]
  rfl

set_option maxHeartbeats 1000000 in
theorem Words_same (A A' : Option Addr) (L C C' : Nat) (xs : List Nat) (w : World) (h : Dk.Row 1 0 Dk.IsWord w.heap.size w A L C xs) (h' : Dk.Row 1 0 Dk.IsWord w.heap.size w A' L C' xs) :
    Calls Try.prog 12 #[.slice A L C, .slice A' L C'] w fun e w' => e = .returned (.bool true) ∧ Below w.heap.size w w' := by
  have hcap := h.cap
  have hmax := h.max
  unfold maxLen at hmax
  go_enter Try.func12, Try.ntmps12
  go_wp2
  go_loopw [5] (fun i w' => ∃ k : Nat, k ≤ L ∧ i = .int .i64 k ∧ Hid (Below w.heap.size w w')) (fun i w' => L - (intOf i).toNat)
  case atStart => exact ⟨0, Nat.zero_le _, rfl, Below.refl _ _⟩
  case round =>
    obtain ⟨k, hk, rfl, HB⟩ := hrel
    by_cases hlt : k < L
    · obtain ⟨b, o, rfl, hb, hc⟩ := row_cell h (by omega)
      obtain ⟨b', o', rfl, hb', hc'⟩ := row_cell h' (by omega)
      have c1 : wr.cell? ⟨b, o + k, none⟩ = some (.int .u64 ((xs.getD k 0 : Nat) : Nat)) := by rw [HB.out.cell (by show b < w.heap.size; exact hb)]; exact hc k hlt
      have c2 : wr.cell? ⟨b', o' + k, none⟩ = some (.int .u64 ((xs.getD k 0 : Nat) : Nat)) := by rw [HB.out.cell (by show b' < w.heap.size; exact hb')]; exact hc' k hlt
      generalize xs.getD k 0 = v at c1 c2
      clear hc hc' h h'
      go_wp2
      go_quiet (fail)
      go_wp2
      go_roundw
      case rel => exact ⟨k + 1, by omega, by go_num, Dk.up_drewN HB.out nq⟩
      case measure => simp [intOf]; omega
    · go_wp2
      go_ret
      exact ⟨rfl, HB.out⟩

/-- A row of words that is owned. -/
theorem owns_words {w : World} {base : Nat} {v : Value} {xs : List Nat} (h : w.ownsRow base 27 1 v xs.length (Dk.uw xs)) (hx : ∀ x ∈ xs, x < 2 ^ 64) : ∃ A C, v = .slice A xs.length C ∧ Dk.Row 1 0 Dk.IsWord w.heap.size w A xs.length C xs := by
  obtain ⟨_, h | ⟨g, cap, cur, rfl, hb, hg, hc, hm, hs, ht⟩⟩ := id h
  · obtain ⟨rfl, h0⟩ := h
    rw [h0]
    exact ⟨none, 0, rfl, h0, Nat.le_refl _, Nat.zero_le _, fun h => absurd h (by omega)⟩
  · refine ⟨_, cap, rfl, rfl, hc, hm, fun h0 => ⟨g, 0, rfl, (Array.getElem?_eq_some_iff.1 hg).1, fun k hk => ⟨[.int .u64 ((xs.getD k 0 : Nat) : Nat)], rfl, ⟨rfl, ?_⟩, fun j hj => ?_⟩⟩⟩
    · have : xs.getD k 0 = xs[k] := by simp [List.getD, hk]
      rw [this]
      exact hx _ (List.getElem_mem _)
    · obtain rfl : j = 0 := by omega
      have q := h.cells (g := g) rfl k (.int .u64 ((xs.getD k 0 : Nat) : Nat)) (by simp [List.getD, hk])
      rw [Addr.add_lit] at q
      rw [Nat.mul_one, Nat.add_zero]
      exact q

/-- append of a list to nothing. -/
theorem copy_any {ty e : TypeId} {z : Value} {s bytes : Nat} (K : Dk.SlK Try.prog ty e z s bytes) (hn : ∀ w, (Builtin.append_ #[ty, ty] ty #[.slice none 0 0, .slice none 0 0]).run Try.prog w = .ok (.slice none 0 0) w) (B : Nat) (v : Value) (n : Nat) (xs : List Value) (w : World) (h : w.ownsRow B e s v n xs) (h1 : ∀ u ∈ xs, u.oneCell' = true) (hl : n ≤ 10000) :
    ∃ v' w', (Builtin.append_ #[ty, ty] ty #[.slice none 0 0, v]).run Try.prog w = .ok v' w' ∧ w'.ownsRow w.heap.size e s v' n xs ∧ Below w.heap.size w w' := by
  obtain ⟨hx, ⟨rfl, h0⟩ | ⟨g, cap, cur, rfl, hb, hg, hn, hm, hs, ht⟩⟩ := id h
  · subst h0
    obtain rfl : xs = [] := List.eq_nil_of_length_eq_zero (by simpa using hx)
    exact ⟨_, w, hn w, World.ownsRow_nil _ _ _ _, Below.refl _ _⟩
  · obtain ⟨v', w', hr, ho, hg, _, _⟩ := K.append w.heap.size ty (.slice none 0 0) [] 0 w (World.ownsRow_nil _ _ _ _) ⟨g, 0, none⟩ n cap xs hx (h.cells (g := g) rfl) h1 (by omega) (Nat.le_refl _)
    rw [Nat.zero_add, List.nil_append] at ho
    exact ⟨v', w', hr, ho, ⟨hg.os, hg.tape, hg.output, hg.size, fun k hk => hg.block k hk (by simp [Value.ownBlock])⟩⟩
theorem nils25 (w : World) : (Builtin.append_ #[25, 25] 25 #[.slice none 0 0, .slice none 0 0]).run Try.prog w = .ok (.slice none 0 0) w := by
  obtain ⟨i0, hi0, _, _, _⟩ := info_parts info27
  simp [Builtin.append_, run_underlying Try.underlying25, sizeOf, typeInfo, hi0, Builtin.lenOf, run_firstCells_none, go_sem]
theorem nils26 (w : World) : (Builtin.append_ #[26, 26] 26 #[.slice none 0 0, .slice none 0 0]).run Try.prog w = .ok (.slice none 0 0) w := by
  obtain ⟨i0, hi0, _, _, _⟩ := info_parts info3
  simp [Builtin.append_, run_underlying Try.underlying26, sizeOf, typeInfo, hi0, Builtin.lenOf, run_firstCells_none, go_sem]

theorem Words_nil (w : World) : Calls Try.prog 13 #[.pointer none] w fun e w' => e = .returned (.slice none 0 0) ∧ w' = w := by
  go_enter Try.func13, Try.ntmps13
  go_wp2
  go_ret
  exact ⟨rfl, rfl⟩
theorem Putters_nil (w : World) : Calls Try.prog 15 #[.pointer none] w fun e w' => e = .returned (.slice none 0 0) ∧ w' = w := by
  go_enter Try.func15, Try.ntmps15
  go_wp2
  go_ret
  exact ⟨rfl, rfl⟩
theorem Getters_nil (w : World) : Calls Try.prog 16 #[.pointer none] w fun e w' => e = .returned (.slice none 0 0) ∧ w' = w := by
  go_enter Try.func16, Try.ntmps16
  go_wp2
  go_ret
  exact ⟨rfl, rfl⟩

section
variable {W w : World} {bt : Nat} {room : Int} {ws : List Nat} {ps : List (Int × Nat)} {gs : List Int} {us : List Dk.Thing}

theorem Words_any (h : Dk.Tb W w bt room ws ps gs us) (hl : ws.length ≤ 1000) :
    Calls Try.prog 13 #[.pointer (some ⟨bt, 0, none⟩)] w fun e w' => ∃ A C, e = .returned (.slice A ws.length C) ∧ Dk.Tb W w' bt room ws ps gs us ∧ Hid (Below w.heap.size w w') ∧ Hid (Dk.Row 1 0 Dk.IsWord w'.heap.size w' A ws.length C ws) := by
  obtain ⟨v1, v2, v3, t, ft⟩ := Hid.out h
  obtain ⟨v', w', hr, ho, hu⟩ := copy_any K25 nils25 _ v1 _ _ w t.row1 (Dk.uw_one _) (by omega)
  obtain ⟨A, C, ev, hc, hm⟩ := Dk.owns_slice t.row1
  have c0 : w.cell? ⟨bt, 1, none⟩ = some v1 := t.head.cell 1
  have H' := h.below hu
  obtain ⟨A', C', ev', hR⟩ := owns_words ho ft.ws
  have HR : Hid (Dk.Row 1 0 Dk.IsWord w'.heap.size w' A' ws.length C' ws) := hR
  have HU : Hid (Below w.heap.size w w') := hu
  subst ev ev'
  clear hR ho hu h t ft
  go_enter Try.func13, Try.ntmps13
  go_wp2_with (at_builtin; refine Lib.wpList_append_run _ rfl _ _ _ _ rfl _ _ rfl rfl _ _ hr ?_)
  go_ret
  exact ⟨_, _, rfl, H', HU, HR⟩
theorem Getters_any (h : Dk.Tb W w bt room ws ps gs us) (hl : gs.length ≤ 1000) :
    Calls Try.prog 16 #[.pointer (some ⟨bt, 0, none⟩)] w fun e w' => ∃ A C, e = .returned (.slice A gs.length C) ∧ Dk.Tb W w' bt room ws ps gs us ∧ Hid (Below w.heap.size w w') ∧ Hid (Dk.SlI w'.heap.size w' A gs.length C gs) := by
  obtain ⟨v1, v2, v3, t, ft⟩ := Hid.out h
  obtain ⟨v', w', hr, ho, hu⟩ := copy_any K26 nils26 _ v3 _ _ w t.row3 (Dk.is_one _) (by omega)
  obtain ⟨A, C, ev, hc, hm⟩ := Dk.owns_slice t.row3
  have c0 : w.cell? ⟨bt, 3, none⟩ = some v3 := t.head.cell 3
  have H' := h.below hu
  obtain ⟨A', C', ev', hR⟩ := Dk.owns_ints ho ft.gs
  have HR : Hid (Dk.SlI w'.heap.size w' A' gs.length C' gs) := hR
  have HU : Hid (Below w.heap.size w w') := hu
  subst ev ev'
  clear hR ho hu h t ft
  go_enter Try.func16, Try.ntmps16
  go_wp2_with (at_builtin; refine Lib.wpList_append_run _ rfl _ _ _ _ rfl _ _ rfl rfl _ _ hr ?_)
  go_ret
  exact ⟨_, _, rfl, H', HU, HR⟩

theorem Sep.setRow {W w w' : World} {ts : List Dk.Thing} {b : Nat} {cs cs' : Array Value} {e : TypeId} (h : Dk.Sep W w (Dk.boxOf b cs e :: ts)) (ew : w' = w.setRow b cs') : Dk.Sep W w' (Dk.boxOf b cs' e :: ts) := by
  have hb : Dk.Box w b cs e := h.box (by simp)
  subst ew
  exact Dk.Sep.turn (us1 := []) (t' := Dk.boxOf b cs' e) h (Dk.Away.row (S := (Dk.boxOf b cs e).own) (Dk.Away.refl _ _) (.inl rfl) _) hb.row (fun k hk => .inl hk)
theorem take_next {α : Type} (xs : List α) (d : α) (k : Nat) (h : k < xs.length) : xs.take k ++ [xs.getD k d] = xs.take (k + 1) := by
  rw [List.take_add_one]
  simp [List.getD, h]
def took (ps : List (Int × Nat)) (k : Nat) : List Value := Dk.is ((ps.map Prod.fst).take k)
set_option maxHeartbeats 2000000 in
theorem Putters_any (h : Dk.Tb W w bt room ws ps gs us) (hl : ps.length ≤ 1000) :
    Calls Try.prog 15 #[.pointer (some ⟨bt, 0, none⟩)] w fun e w' => ∃ A C, e = .returned (.slice A ps.length C) ∧ Dk.Tb W w' bt room ws ps gs us ∧ Hid (Below w.heap.size w w') ∧ Hid (Dk.SlI w'.heap.size w' A ps.length C (ps.map Prod.fst)) := by
  obtain ⟨v1, v2, v3, t, ft⟩ := Hid.out h
  obtain ⟨A, C, ev, hc, hm⟩ := Dk.owns_slice t.row2
  unfold maxLen at hm
  have c0 : w.cell? ⟨bt, 2, none⟩ = some (.slice A ps.length C) := by rw [← ev]; exact t.head.cell 2
  have hps : ∀ x ∈ ps.map Prod.fst, Dk.i64 x := fun x hx => by
    obtain ⟨p, hp, rfl⟩ := List.mem_map.1 hx
    exact (ft.ps p hp).1
  -- all that lies in w, and a list of the call's own
  have s0 : Dk.Sep w w [Dk.rowOf 3 1 (.slice none 0 0) 0 (Dk.is [])] := (Dk.Sep.begin (Below.refl _ _)).add (Below.refl _ _) (World.ownsRow_nil _ _ _ _) (fun k hk => by simp [Dk.rowOf, Value.ownBlock] at hk)
  have HT : Hid (Dk.Tub W w bt room v1 v2 v3 ws ps gs us) := t
  have HE : Hid (v2 = .slice A ps.length C) := ev
  have HP : Hid _ := hps
  have HH : Hid (Dk.Tb W w bt room ws ps gs us) := h
  clear t h ev hps
  go_enter Try.func15, Try.ntmps15
  go_wp2_with fail
  go_loopw [3, 13] (fun v i w' => ∃ k : Nat, k ≤ ps.length ∧ i = .int .i64 k ∧ Dk.Sep w w' [Dk.rowOf 3 1 v k (took ps k)]) (fun v i w' => ps.length - (intOf i).toNat)
  case atStart => exact ⟨0, Nat.zero_le _, rfl, s0⟩
  case round =>
    obtain ⟨k, hk, rfl, hS⟩ := hrel
    clear s0 c0
    by_cases hlt : k < ps.length
    · obtain ⟨_, ⟨e0, h0⟩ | ⟨g, cap, cur, e0, _, hg, _⟩⟩ := id (Dk.Tub.row2 HT.out)
      · omega
      have e1 := HE.out.symm.trans e0
      injection e1 with eA
      subst eA
      have hgl : g < w.heap.size := (Array.getElem?_eq_some_iff.1 hg).1
      have hcs := (Dk.Tub.row2 HT.out).cells (g := g) (by rw [e0]; rfl)
      have hp := Dk.prs_get ps k hlt
      have c1 : wr.cell? ⟨g, k * 2, none⟩ = some (.int .i64 (ps.getD k (0, 0)).1) := by
        have q := hcs _ _ hp.1
        rw [Addr.add_lit, Nat.zero_add] at q
        rw [hS.out.cell (by exact hgl)]
        exact q
      have c2 : wr.cell? ⟨g, k * 2 + 1, none⟩ = some (.int .u64 ((ps.getD k (0, 0)).2 : Nat)) := by
        have q := hcs _ _ hp.2
        rw [Addr.add_lit, Nat.zero_add] at q
        rw [hS.out.cell (by exact hgl)]
        exact q
      have hx : (ps.map Prod.fst).getD k 0 = (ps.getD k (0, 0)).1 := by simp [List.getD, hlt]
      have hnext := take_next (ps.map Prod.fst) 0 k (by simpa using hlt)
      rw [hx] at hnext
      generalize (ps.getD k (0, 0)).1 = q at c1 hnext
      generalize (ps.getD k (0, 0)).2 = y at c2
      obtain ⟨W1, e1⟩ : ∃ W1, W1 = wr.alloc (.cells #[.int .i64 0, .int .u64 0] 52) := ⟨_, rfl⟩
      have s1 := hS.newBox e1
      have b1 : Dk.Box W1 wr.heap.size #[.int .i64 0, .int .u64 0] 52 := s1.box (by simp)
      obtain ⟨W2, e2⟩ : ∃ W2, W2 = W1.setRow wr.heap.size #[.int .i64 q, .int .u64 (y : Nat)] := ⟨_, rfl⟩
      have s2 := Sep.setRow s1 e2
      have b2 : W2.cell? ⟨wr.heap.size, 0, none⟩ = some (.int .i64 q) := (s2.box (b := wr.heap.size) (cs := #[.int .i64 q, .int .u64 (y : Nat)]) (t := 52) (by simp)).cell 0
      obtain ⟨v', w', hr, s3, _⟩ := Dk.Sep.append (us1 := [Dk.boxOf wr.heap.size #[.int .i64 q, .int .u64 (y : Nat)] 52]) (us2 := []) (x := .int .i64 q) K26 s2 rfl (by omega)
      have s4 : Dk.Sep w w' [Dk.rowOf 3 1 v' (k + 1) (took ps (k + 1))] := by
        rw [took, ← hnext, Dk.is, List.map_append]
        exact s3.sub (List.sublist_cons_self _ _)
      have H1 : Hid (wr.alloc (.cells #[.int .i64 0, .int .u64 0] 52) = W1) := e1.symm
      have H2 : Hid (W1.setRow wr.heap.size #[.int .i64 q, .int .u64 (y : Nat)] = W2) := e2.symm
      have HB : Hid (Dk.Box W1 wr.heap.size #[.int .i64 0, .int .u64 0] 52) := b1
      clear e1 e2 s1 s2 s3 b1 hS hnext hx hp hcs hg e0
      go_wp2_with (first | (rw [H1.out]; clear H1) | (refine wpList_store_row rfl 52 _ _ rfl wr.heap.size #[.int .i64 q, .int .u64 (y : Nat)] rfl rfl 52 _ HB.out.heap pair_size rfl (pair_cells _ _) ?_; rw [H2.out]; clear HB) | (at_builtin; refine Lib.wpList_append_run _ rfl _ _ _ _ rfl _ _ rfl rfl _ _ hr ?_))
      go_roundw
      case rel => exact ⟨_, _, _, ⟨k + 1, by omega, by go_num, s4⟩, rfl, rfl, rfl⟩
      case measure => simp [intOf]; omega
    · obtain rfl : k = ps.length := by omega
      have ho := hS.row (e := 3) (s := 1) (v := u3) (n := ps.length) (xs := took ps ps.length) (by simp)
      have hu := hS.out
      rw [took, List.take_of_length_le (by simp)] at ho
      have ho' : wr.ownsRow w.heap.size 3 1 u3 (ps.map Prod.fst).length (Dk.is (ps.map Prod.fst)) := by rw [List.length_map]; exact ho
      obtain ⟨A', C', ev', hR⟩ := Dk.owns_ints ho' HP.out
      rw [List.length_map] at ev' hR
      have HR : Hid (Dk.SlI wr.heap.size wr A' ps.length C' (ps.map Prod.fst)) := hR
      have HU : Hid (Below w.heap.size w wr) := hu
      have H' := HH.out.below hu
      subst ev'
      clear ho ho' hR hu hS
      go_wp2_with fail
      go_ret
      exact ⟨_, _, rfl, H', HU, HR⟩
end
end Go.Proofs.Ytnoeigmcanggdaa
