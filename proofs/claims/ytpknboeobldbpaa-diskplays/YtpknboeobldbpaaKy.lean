/- The walk of the statement on a disk against the document's own answer. -/
import Derived.Test.YtpknboeobldbpaaKx
import Derived.Deep.CutRange
namespace Go.Proofs.Ytpknboeobldbpaa
set_option linter.unusedSimpArgs false
set_option linter.unusedVariables false
set_option linter.unnecessarySimpa false
open Go.RowKit Go.Lib

theorem Dk.blocks_0 {n : Int} (h : n < 0) : Dk.blocks n = 0 := by unfold Dk.blocks; rw [if_pos h]
theorem Dk.blocks_64 {n : Int} (h : 64 < n) : Dk.blocks n = 64 := by unfold Dk.blocks; rw [if_neg (by omega), if_pos h]
theorem Dk.blocks_n {n : Int} (h : ¬ n < 0) (h8 : ¬ 64 < n) : (Dk.blocks n : Int) = n := by unfold Dk.blocks; rw [if_neg h, if_neg h8]; omega
/-- What Ask should answer, by those ahead. -/
def told (rs : List Dk.Rq) (who : Int) (j : Nat) : Int := if Dk.waits (rs.take j) who then 4 else 0
theorem told_0 (rs : List Dk.Rq) (who : Int) : told rs who 0 = 0 := rfl
theorem told_next (rs : List Dk.Rq) (who : Int) (j : Nat) (h : j < rs.length) : told rs who (j + 1) = if (rs.getD j Dk.Rq.zero).who = who then 4 else told rs who j := by
  unfold told Dk.waits
  rw [List.take_add_one, List.any_append, List.getElem?_eq_getElem h]
  simp only [Option.toList_some, List.any_cons, List.any_nil, Bool.or_false]
  have hg : rs.getD j Dk.Rq.zero = rs[j] := by simp [List.getD, h]
  rw [hg]
  by_cases e : rs[j].who = who
  · have e1 : (rs[j].who == who) = true := by simpa using e
    rw [e1, Bool.or_true, if_pos rfl, if_pos e]
  · have e1 : (rs[j].who == who) = false := by simpa using e
    rw [e1, Bool.or_false, if_neg e]
theorem told_all (rs : List Dk.Rq) (who : Int) : told rs who rs.length = if Dk.waits rs who then 4 else 0 := by
  unfold told
  rw [List.take_length]
section
variable {W w : World} {bd : Nat} {bs : List Nat} {rs : List Dk.Rq} {us : List Dk.Thing}
theorem Db.made (h : Dk.Db W w bd bs rs us) (n : Nat) (hn : n ≤ 1000) : ∃ w', (Instr.makeSlice 25 (.int .i64 (n : Int)) (.int .i64 (n : Int))).run Try.prog w = .ok (.slice (some ⟨w.heap.size, 0, none⟩) n n) w' ∧ Dk.Db W w' bd bs rs (Dk.rowOf 27 1 (.slice (some ⟨w.heap.size, 0, none⟩) n n) n (Dk.uw (List.replicate n 0)) :: us) := by
  obtain ⟨v1, v2, t, f⟩ := Hid.out h
  obtain ⟨w', hr, s, _⟩ := Sep.made t n hn
  refine ⟨w', hr, ⟨v1, v2, ?_, f⟩⟩
  exact Dk.Sep.perm s (List.perm_middle (l₁ := [Dk.boxOf bd #[v1, v2] 46, Dk.rowOf 27 1 v1 bs.length (Dk.uw bs), Dk.rowOf 29 4 v2 rs.length (Dk.rqs rs)])).symm
end

set_option maxRecDepth 100000 in
set_option maxHeartbeats 8000000 in
theorem DiskPlays_any (size : Int) (A : Option Addr) (L C : Nat) (xs : List Dk.DAct) (w : World) (hr : Dk.Row 6 Dk.DAct.zero Dk.IsDAct w.heap.size w A L C xs) :
    Calls Try.prog 3 #[.int .i64 size, .slice A L C] w fun e w' => e = .returned (.bool true) ∧ Below w.heap.size w w' := by
  have hcap := hr.cap
  have hmax := hr.max
  unfold maxLen at hmax
  have HR : Hid (Dk.Row 6 Dk.DAct.zero Dk.IsDAct w.heap.size w A L C xs) := hr
  clear hr
  obtain ⟨p, hp1, hp2⟩ : ∃ p : Int, (size < 0 → p = 0) ∧ (¬ size < 0 → p = size) := ⟨if size < 0 then 0 else size, fun h => if_pos h, fun h => if_neg h⟩
  obtain ⟨n, hn⟩ : ∃ n, Dk.blocks size = n := ⟨_, rfl⟩
  have hn64 : n ≤ 64 := hn ▸ Dk.blocks_le size
  have h8 : 64 < p → (n : Int) = 64 := fun h => by
    by_cases h1 : size < 0
    · have := hp1 h1; omega
    · have := hp2 h1; have := Dk.blocks_64 (n := size) (by omega); omega
  have h7 : ¬ 64 < p → (n : Int) = p := fun h => by
    by_cases h1 : size < 0
    · have := hp1 h1; have := Dk.blocks_0 h1; omega
    · have := hp2 h1; have := Dk.blocks_n h1 (by omega); omega
  have HP1 : Hid (size < 0 → p = 0) := hp1
  have HP2 : Hid (0 ≤ size → p = size) := fun h => hp2 (by omega)
  have H8 : Hid (64 < p → (n : Int) = 64) := h8
  have H7 : Hid (p ≤ 64 → (n : Int) = p) := fun h => h7 (by omega)
  have K0 := New_any (Dk.Sep.begin (Below.refl _ w)) size
  rw [hn] at K0
  clear hp1 hp2 h8 h7 hn
  go_enter Try.func3, Try.ntmps3
  go_wp2_with fail
  refine K0.mono ?_
  rintro e w1 ⟨rfl, h1⟩
  obtain ⟨bd, ebd⟩ : ∃ bd, w.heap.size + 1 = bd := ⟨_, rfl⟩
  rw [show (Value.pointer (some ⟨w.heap.size + 1, 0, none⟩)) = .pointer (some ⟨bd, 0, none⟩) by rw [ebd]]
  rw [ebd] at h1
  clear ebd K0
  go_upto_if 27 with fail
  go_cut [6] from 26 to 29 (fun v w' => v = .int .i64 p ∧ w' = w1)
  case first =>
    by_cases h : size < 0
    · go_wp2_with fail
      go_meet
      exact ⟨by rw [HP1.out h], rfl⟩
    · go_wp2_with fail
      go_meet
      exact ⟨by rw [HP2.out (by omega)], rfl⟩
  case rest =>
    obtain ⟨rfl, hw⟩ := hcut
    subst wc
    clear HP1 HP2
    go_upto_if 29 with fail
    go_cut [6] from 26 to 29 (fun v w' => v = .int .i64 (n : Int) ∧ w' = w1)
    case first =>
      by_cases h : 64 < p
      · go_wp2_with fail
        go_meet
        exact ⟨by rw [H8.out h], rfl⟩
      · go_wp2_with fail
        go_meet
        exact ⟨by rw [H7.out (by omega)], rfl⟩
    case rest =>
      obtain ⟨rfl, hw⟩ := hcut
      subst wc
      clear H8 H7
      obtain ⟨w2, hmk, h2⟩ := Db.made h1 n (by omega)
      obtain ⟨gb, egb⟩ : ∃ gb, w1.heap.size = gb := ⟨_, rfl⟩
      rw [egb] at hmk h2
      have t0 : Pl w (w2.alloc (.cells #[] 29)) bd n 0 (List.replicate n 0) [] (.slice (some ⟨gb, 0, none⟩) n n) (.slice (some ⟨w2.heap.size, 0, none⟩) 0 0) := by
        have s1 := Db.swap (Db.empty (e := 29) (s := 4) h2 rfl)
        refine ⟨?_, by simp, by simp⟩
        unfold R2
        rw [List.length_replicate]
        exact s1
      clear h1 h2 egb
      go_wp2_with fail
      go_loopw [8, 9] (fun v i w' => ∃ (k : Nat) (bs : List Nat) (rs : List Dk.Rq), k ≤ L ∧ k ≤ 80 ∧ i = .int .i64 k ∧ Pl w w' bd n k bs rs (.slice (some ⟨gb, 0, none⟩) n n) v) (fun v i w' => L - (intOf i).toNat)
      case atStart => exact ⟨0, _, _, Nat.zero_le _, Nat.zero_le _, rfl, t0⟩
      case round =>
        obtain ⟨k, bs, rs, hk, hk8, rfl, hP⟩ := hrel
        clear t0 hmk
        obtain ⟨t, hl, hbs⟩ := Hid.out hP
        clear hP
        have hu : Below w.heap.size w wr := t.out
        by_cases hlt : k < L
        · by_cases hlt8 : k < 80
          · obtain ⟨b, o, g, q, who, block, write, x, rfl, hb, c0, c1, c2, c3, c4, c5, hi, hok⟩ := act_cell HR.out hlt
            have hc : ∀ W', Below w.heap.size w W' → ∀ j v, w.cell? ⟨b, o + k * 6 + j, none⟩ = some v → W'.cell? ⟨b, o + k * 6 + j, none⟩ = some v := fun W' u j v h => by rw [u.cell (by exact hb)]; exact h
            have d0 : wr.cell? ⟨b, o + k * 6, none⟩ = some (.bool g) := hc wr hu 0 _ c0
            have y1 : decide ((k : Int) < (L : Int)) = true := by simp; omega
            have y2 : decide ((k : Int) < 80) = true := by simp; omega
            have hkL : (k : Int) < (L : Int) := by omega
            have HC : Hid (∀ W', Below w.heap.size w W' → ∀ j v, w.cell? ⟨b, o + k * 6 + j, none⟩ = some v → W'.cell? ⟨b, o + k * 6 + j, none⟩ = some v) := hc
            have HC1 : Hid (w.cell? ⟨b, o + k * 6 + 1, none⟩ = some (.int .i64 q)) := c1
            have d1 : wr.cell? ⟨b, o + k * 6 + 1, none⟩ = some (.int .i64 q) := hc wr hu 1 _ c1
            cases g with
            | true =>
              clear c0 c1 c2 c3 c4 c5 hok hc
              by_cases hrs : rs = []
              · subst hrs
                have K := Done_none t q
                obtain ⟨A8, C8, ev8, _, _⟩ := Dk.owns_slice (Db.row t (e := 29) (s := 4) (v := u8) (n := 0) (xs := Dk.rqs []) (by simp [R2]))
                subst ev8
                have hz : ∀ w, (Op.equalIn 10000 29 (.agg #[.int .i64 0, .int .i64 0, .bool false, .int .u64 0]) (.agg #[.int .i64 0, .int .i64 0, .bool false, .int .u64 0])).run Try.prog w = .ok true w := same_rq 9998 _ _ _ _
                clear t
                go_wp2_with fail
                refine K.mono ?_
                rintro e w2 ⟨rfl, h2⟩
                clear K
                obtain ⟨W3, eW3⟩ : ∃ W3, W3 = w2.alloc (.cells #[.int .i64 0, .int .i64 0, .bool false, .int .u64 0] 29) := ⟨_, rfl⟩
                have hW3 := Db.newBox h2 eW3
                have bW3 : Dk.Box W3 w2.heap.size #[.int .i64 0, .int .i64 0, .bool false, .int .u64 0] 29 := Db.box hW3 (by simp)
                obtain ⟨W4, eW4⟩ : ∃ W4, W4 = W3.setRow w2.heap.size #[.int .i64 0, .int .i64 0, .bool false, .int .u64 0] := ⟨_, rfl⟩
                have h4 := Db.setRow hW3 eW4
                have HW3 : Hid (w2.alloc (.cells #[.int .i64 0, .int .i64 0, .bool false, .int .u64 0] 29) = W3) := eW3.symm
                have HW4 : Hid (W3.setRow w2.heap.size #[.int .i64 0, .int .i64 0, .bool false, .int .u64 0] = W4) := eW4.symm
                have HBW3 : Hid (Dk.Box W3 w2.heap.size #[.int .i64 0, .int .i64 0, .bool false, .int .u64 0] 29) := bW3
                clear eW3 eW4 hW3 bW3
                have HH := h4
                have x0 : W4.cell? ⟨w2.heap.size, 0, none⟩ = some (.int .i64 0) := (Db.box HH (b := w2.heap.size) (cs := #[.int .i64 0, .int .i64 0, .bool false, .int .u64 0]) (e := 29) (by simp [R2])).cell 0
                have x1 : W4.cell? ⟨w2.heap.size, 1, none⟩ = some (.int .i64 0) := (Db.box HH (b := w2.heap.size) (cs := #[.int .i64 0, .int .i64 0, .bool false, .int .u64 0]) (e := 29) (by simp [R2])).cell 1
                have x2 : W4.cell? ⟨w2.heap.size, 2, none⟩ = some (.bool false) := (Db.box HH (b := w2.heap.size) (cs := #[.int .i64 0, .int .i64 0, .bool false, .int .u64 0]) (e := 29) (by simp [R2])).cell 2
                have x3 : W4.cell? ⟨w2.heap.size, 3, none⟩ = some (.int .u64 0) := (Db.box HH (b := w2.heap.size) (cs := #[.int .i64 0, .int .i64 0, .bool false, .int .u64 0]) (e := 29) (by simp [R2])).cell 3
                clear HH h2 d0 d1
                have h5 := Db.drop h4
                clear h4
                go_wp2_with (first | (rw [HW3.out]; clear HW3) | (refine wpList_store_row rfl 29 _ _ rfl w2.heap.size #[.int .i64 0, .int .i64 0, .bool false, .int .u64 0] rfl rfl 29 _ HBW3.out.heap rq_size rfl (rq_cells _ _ _ _) ?_; rw [HW4.out]; clear HBW3))
                go_roundw
                case rel => exact ⟨k + 1, bs, [], by omega, by omega, by go_num, ⟨h5, by simp, hbs⟩⟩
                case measure => simp [intOf]; omega
              · have hrl : 0 < rs.length := by
                  cases rs with
                  | nil => exact absurd rfl hrs
                  | cons r l => simp
                have ha := Dk.at_lt q hrl
                have tq := Dk.tmod_le q hrl
                have tneg := Dk.at_neg q hrl
                have tpos := Dk.at_pos q hrl
                obtain ⟨⟨r1, r2, r3, r4⟩, er⟩ : ∃ r, rs.getD (Dk.at_ q rs.length) Dk.Rq.zero = r := ⟨_, rfl⟩
                have hmem : (⟨r1, r2, r3, r4⟩ : Dk.Rq) ∈ rs := by rw [← er]; exact Dk.getD_mem _ _ _ ha
                have hrok := t.fit.reqs _ hmem
                have hbl := t.fit.there _ hmem
                have K1 := Done_any t q hi hrl (by omega) _ er
                obtain ⟨a, ea⟩ : ∃ a, Dk.at_ q rs.length = a := ⟨_, rfl⟩
                rw [ea] at ha tneg tpos er K1
                obtain ⟨bk, ebk⟩ : ∃ bk : Nat, r2 = bk := ⟨r2.toNat, (Int.toNat_of_nonneg hbl.1).symm⟩
                subst ebk
                have hbk : bk < bs.length := by have := hbl.2; simpa using this
                have hbn : bk < n := by omega
                have hr4 : r4 < 2 ^ 64 := hrok.2.2
                obtain ⟨m, em⟩ : ∃ m, q.tmod (rs.length : Int) = m := ⟨_, rfl⟩
                rw [em] at tq tneg tpos
                clear ea hmem hrok hbl hrs
                have HER : Hid (rs.getD a Dk.Rq.zero = ⟨r1, (bk : Int), r3, r4⟩) := er
                clear er
                cases r3 with
                | true =>
                  have K1' : Calls Try.prog 7 #[.pointer (some ⟨bd, 0, none⟩), .int .i64 q] wr fun e w' => e = .returned (.tuple #[.agg #[.int .i64 r1, .int .i64 (bk : Int), .bool true, .int .u64 (r4 : Nat)], .int .u64 0, .bool true]) ∧ Dk.Db w w' bd (bs.set bk r4) (rs.eraseIdx a) (R2 (.slice (some ⟨gb, 0, none⟩) n n) u8 bs rs) := K1
                  by_cases hm : m < 0
                  · have hma := tneg hm
                    have HMA : Hid (m + (rs.length : Int) = (a : Int)) := hma
                    clear tneg tpos K1 hma
                    have hsame : ∀ w, (Op.equalIn 10000 29 (.agg #[.int .i64 r1, .int .i64 (bk : Int), .bool true, .int .u64 (r4 : Nat)]) (.agg #[.int .i64 r1, .int .i64 (bk : Int), .bool true, .int .u64 (r4 : Nat)])).run Try.prog w = .ok true w := same_rq 9998 _ _ _ _
                    clear t
                    go_wp2_with fail
                    refine K1'.mono ?_
                    rintro e w2 ⟨rfl, h2⟩
                    clear K1' d1 d0
                    obtain ⟨W3, eW3⟩ : ∃ W3, W3 = w2.alloc (.cells #[.int .i64 0, .int .i64 0, .bool false, .int .u64 0] 29) := ⟨_, rfl⟩
                    have hW3 := Db.newBox h2 eW3
                    have bW3 : Dk.Box W3 w2.heap.size #[.int .i64 0, .int .i64 0, .bool false, .int .u64 0] 29 := Db.box hW3 (by simp)
                    obtain ⟨W4, eW4⟩ : ∃ W4, W4 = W3.setRow w2.heap.size #[.int .i64 r1, .int .i64 (bk : Int), .bool true, .int .u64 (r4 : Nat)] := ⟨_, rfl⟩
                    have h4 := Db.setRow hW3 eW4
                    have HW3 : Hid (w2.alloc (.cells #[.int .i64 0, .int .i64 0, .bool false, .int .u64 0] 29) = W3) := eW3.symm
                    have HW4 : Hid (W3.setRow w2.heap.size #[.int .i64 r1, .int .i64 (bk : Int), .bool true, .int .u64 (r4 : Nat)] = W4) := eW4.symm
                    have HBW3 : Hid (Dk.Box W3 w2.heap.size #[.int .i64 0, .int .i64 0, .bool false, .int .u64 0] 29) := bW3
                    clear eW3 eW4 hW3 bW3
                    have d1 : W4.cell? ⟨b, o + k * 6 + 1, none⟩ = some (.int .i64 q) := HC.out W4 h4.out 1 _ HC1.out
                    obtain ⟨g8, C8, ev8, hC8, hm8, _, hcs⟩ := req_at (Db.row h4 (e := 29) (s := 4) (v := u8) (n := rs.length) (xs := Dk.rqs rs) (by simp [R2])) ha
                    rw [HER.out] at hcs
                    subst ev8
                    unfold maxLen at hm8
                    have x0 : W4.cell? ⟨g8, a * 4, none⟩ = some (.int .i64 r1) := hcs 0 (by omega)
                    have x1 : W4.cell? ⟨g8, a * 4 + 1, none⟩ = some (.int .i64 (bk : Int)) := hcs 1 (by omega)
                    have x2 : W4.cell? ⟨g8, a * 4 + 2, none⟩ = some (.bool true) := hcs 2 (by omega)
                    have x3 : W4.cell? ⟨g8, a * 4 + 3, none⟩ = some (.int .u64 (r4 : Nat)) := hcs 3 (by omega)
                    obtain ⟨W5, eW5⟩ : ∃ W5, W5 = W4.alloc (.cells #[.int .i64 0, .int .i64 0, .bool false, .int .u64 0] 29) := ⟨_, rfl⟩
                    have hW5 := Db.newBox h4 eW5
                    have bW5 : Dk.Box W5 W4.heap.size #[.int .i64 0, .int .i64 0, .bool false, .int .u64 0] 29 := Db.box hW5 (by simp)
                    obtain ⟨W6, eW6⟩ : ∃ W6, W6 = W5.setRow W4.heap.size #[.int .i64 r1, .int .i64 (bk : Int), .bool true, .int .u64 (r4 : Nat)] := ⟨_, rfl⟩
                    have h6 := Db.setRow hW5 eW6
                    have HW5 : Hid (W4.alloc (.cells #[.int .i64 0, .int .i64 0, .bool false, .int .u64 0] 29) = W5) := eW5.symm
                    have HW6 : Hid (W5.setRow W4.heap.size #[.int .i64 r1, .int .i64 (bk : Int), .bool true, .int .u64 (r4 : Nat)] = W6) := eW6.symm
                    have HBW5 : Hid (Dk.Box W5 W4.heap.size #[.int .i64 0, .int .i64 0, .bool false, .int .u64 0] 29) := bW5
                    clear eW5 eW6 hW5 bW5
                    have h6d := h6.below (Dk.up_drew (Below.refl _ _))
                    obtain ⟨g9, C9', A2, A9, C9, w9, A14, C14, w14, ev, _, _, hA2, r9, r14, h14⟩ := Db.without (us1 := [Dk.boxOf W4.heap.size #[.int .i64 r1, .int .i64 (bk : Int), .bool true, .int .u64 (r4 : Nat)] 29, Dk.boxOf w2.heap.size #[.int .i64 r1, .int .i64 (bk : Int), .bool true, .int .u64 (r4 : Nat)] 29, Dk.rowOf 27 1 (.slice (some ⟨gb, 0, none⟩) n n) bs.length (Dk.uw bs)]) (us2 := []) h6d a ha (by omega)
                    cases ev
                    obtain ⟨gq, Cq, evq, _, _, cg, fg, hset⟩ := Db.word (us1 := [Dk.boxOf W4.heap.size #[.int .i64 r1, .int .i64 (bk : Int), .bool true, .int .u64 (r4 : Nat)] 29, Dk.boxOf w2.heap.size #[.int .i64 r1, .int .i64 (bk : Int), .bool true, .int .u64 (r4 : Nat)] 29]) (us2 := [Dk.rowOf 29 4 (.slice A14 (a + (rs.length - (a + 1))) C14) (rs.eraseIdx a).length (Dk.rqs (rs.eraseIdx a))]) h14 bk hbk
                    obtain ⟨egq, _⟩ : gq = gb ∧ Cq = n := by
                      injection evq with e1 e2 e3
                      injection e1 with e1
                      injection e1 with e1
                      exact ⟨e1.symm, e3.symm⟩
                    subst egq
                    clear evq
                    have HH := h14
                    have s0 : w14.cell? ⟨W4.heap.size, 0, none⟩ = some (.int .i64 r1) := (Db.box HH (b := W4.heap.size) (cs := #[.int .i64 r1, .int .i64 (bk : Int), .bool true, .int .u64 (r4 : Nat)]) (e := 29) (by simp [R2])).cell 0
                    have s1 : w14.cell? ⟨W4.heap.size, 1, none⟩ = some (.int .i64 (bk : Int)) := (Db.box HH (b := W4.heap.size) (cs := #[.int .i64 r1, .int .i64 (bk : Int), .bool true, .int .u64 (r4 : Nat)]) (e := 29) (by simp [R2])).cell 1
                    have s2 : w14.cell? ⟨W4.heap.size, 2, none⟩ = some (.bool true) := (Db.box HH (b := W4.heap.size) (cs := #[.int .i64 r1, .int .i64 (bk : Int), .bool true, .int .u64 (r4 : Nat)]) (e := 29) (by simp [R2])).cell 2
                    have s3 : w14.cell? ⟨W4.heap.size, 3, none⟩ = some (.int .u64 (r4 : Nat)) := (Db.box HH (b := W4.heap.size) (cs := #[.int .i64 r1, .int .i64 (bk : Int), .bool true, .int .u64 (r4 : Nat)]) (e := 29) (by simp [R2])).cell 3
                    have h15 := hset r4
                    clear HH
                    have HH := h15
                    have p0 : (w14.setCell ⟨gq, bk, none⟩ (.int .u64 (r4 : Nat))).cell? ⟨W4.heap.size, 0, none⟩ = some (.int .i64 r1) := (Db.box HH (b := W4.heap.size) (cs := #[.int .i64 r1, .int .i64 (bk : Int), .bool true, .int .u64 (r4 : Nat)]) (e := 29) (by simp [R2])).cell 0
                    have p1 : (w14.setCell ⟨gq, bk, none⟩ (.int .u64 (r4 : Nat))).cell? ⟨W4.heap.size, 1, none⟩ = some (.int .i64 (bk : Int)) := (Db.box HH (b := W4.heap.size) (cs := #[.int .i64 r1, .int .i64 (bk : Int), .bool true, .int .u64 (r4 : Nat)]) (e := 29) (by simp [R2])).cell 1
                    have p2 : (w14.setCell ⟨gq, bk, none⟩ (.int .u64 (r4 : Nat))).cell? ⟨W4.heap.size, 2, none⟩ = some (.bool true) := (Db.box HH (b := W4.heap.size) (cs := #[.int .i64 r1, .int .i64 (bk : Int), .bool true, .int .u64 (r4 : Nat)]) (e := 29) (by simp [R2])).cell 2
                    have p3 : (w14.setCell ⟨gq, bk, none⟩ (.int .u64 (r4 : Nat))).cell? ⟨W4.heap.size, 3, none⟩ = some (.int .u64 (r4 : Nat)) := (Db.box HH (b := W4.heap.size) (cs := #[.int .i64 r1, .int .i64 (bk : Int), .bool true, .int .u64 (r4 : Nat)]) (e := 29) (by simp [R2])).cell 3
                    have q0 : (w14.setCell ⟨gq, bk, none⟩ (.int .u64 (r4 : Nat))).cell? ⟨w2.heap.size, 0, none⟩ = some (.int .i64 r1) := (Db.box HH (b := w2.heap.size) (cs := #[.int .i64 r1, .int .i64 (bk : Int), .bool true, .int .u64 (r4 : Nat)]) (e := 29) (by simp [R2])).cell 0
                    have q1 : (w14.setCell ⟨gq, bk, none⟩ (.int .u64 (r4 : Nat))).cell? ⟨w2.heap.size, 1, none⟩ = some (.int .i64 (bk : Int)) := (Db.box HH (b := w2.heap.size) (cs := #[.int .i64 r1, .int .i64 (bk : Int), .bool true, .int .u64 (r4 : Nat)]) (e := 29) (by simp [R2])).cell 1
                    have q2 : (w14.setCell ⟨gq, bk, none⟩ (.int .u64 (r4 : Nat))).cell? ⟨w2.heap.size, 2, none⟩ = some (.bool true) := (Db.box HH (b := w2.heap.size) (cs := #[.int .i64 r1, .int .i64 (bk : Int), .bool true, .int .u64 (r4 : Nat)]) (e := 29) (by simp [R2])).cell 2
                    have q3 : (w14.setCell ⟨gq, bk, none⟩ (.int .u64 (r4 : Nat))).cell? ⟨w2.heap.size, 3, none⟩ = some (.int .u64 (r4 : Nat)) := (Db.box HH (b := w2.heap.size) (cs := #[.int .i64 r1, .int .i64 (bk : Int), .bool true, .int .u64 (r4 : Nat)]) (e := 29) (by simp [R2])).cell 3
                    have hfin : Dk.Db w (w14.setCell ⟨gq, bk, none⟩ (.int .u64 (r4 : Nat))) bd (bs.set bk r4) (rs.eraseIdx a) (R2 (.slice (some ⟨gq, 0, none⟩) n n) (.slice A14 (a + (rs.length - (a + 1))) C14) (bs.set bk r4) (rs.eraseIdx a)) := Db.drop (Db.drop h15)
                    have hbs' : (bs.set bk r4).length = n := by rw [List.length_set]; exact hbs
                    obtain ⟨W15, e15⟩ : ∃ W15, W15 = w14.setCell ⟨gq, bk, none⟩ (.int .u64 (r4 : Nat)) := ⟨_, rfl⟩
                    rw [← e15] at p0 p1 p2 p3 q0 q1 q2 q3 hfin
                    have H15 : Hid (w14.setCell ⟨gq, bk, none⟩ (.int .u64 (r4 : Nat)) = W15) := e15.symm
                    generalize bs.set bk r4 = bs' at *
                    clear h15 e15
                    have hel : (rs.eraseIdx a).length ≤ k + 1 := by rw [List.length_eraseIdx, if_pos ha]; omega
                    have HA : Hid ((if C8 = a + 1 then some (⟨g8, 0, none⟩ : Addr) else some ⟨g8, (a + 1) * 4, none⟩) = some A2) := hA2
                    have HR9 : Hid _ := r9
                    have HR14 : Hid _ := r14
                    have hbI : (bk : Int) < (n : Int) := by omega
                    have ml : -1000 ≤ m := by omega
                    have mu : m ≤ 1000 := by omega
                    clear HH h2 h4 h6 h6d h14 hset hcs hA2 r9 r14 HER
                    have zm : decide (m < 0) = true := decide_eq_true hm
                    have e80 := HMA.out
                    generalize hrl' : rs.length = nr at *
                    clear hrl'
                    have hn0 : ¬ nr = 0 := by omega
                    have hn1 : ((nr : Int) == 0) = false := by simp; omega
                    have hn2 : decide ((nr : Int) = 0) = false := by simp; omega
                    have hn3 : decide (nr = 0) = false := by simp; omega
                    have hn4 : (nr : Int) ≠ 0 := by omega
                    have haL : (a : Int) < (nr : Int) := by omega
                    go_wp2_with (first | (rw [HW3.out]; clear HW3) | (refine wpList_store_row rfl 29 _ _ rfl w2.heap.size #[.int .i64 r1, .int .i64 (bk : Int), .bool true, .int .u64 (r4 : Nat)] rfl rfl 29 _ HBW3.out.heap rq_size rfl (rq_cells _ _ _ _) ?_; rw [HW4.out]; clear HBW3) | (rw [HW5.out]; clear HW5) | (refine wpList_store_row rfl 29 _ _ rfl W4.heap.size #[.int .i64 r1, .int .i64 (bk : Int), .bool true, .int .u64 (r4 : Nat)] rfl rfl 29 _ HBW5.out.heap rq_size rfl (rq_cells _ _ _ _) ?_; rw [HW6.out]; clear HBW5))
                    refine Dk.wp_region_line (S := fun w' => True) [1, 2, 3, 5, 6, 7, 8] [0, 4, 9, 10] (by kernel_rfl) (by kernel_rfl) trivial ?_
                    refine Dk.held_step (v := .slice (some ⟨g8, 0, none⟩) nr C8) rfl rfl (fun w' _ => by go_simp) ?_
                    simp only [Act.put, List.setIfInBounds_toArray, List.set_cons_succ, List.set_cons_zero]
                    refine Dk.held_step (v := .int .i64 (a : Int)) rfl rfl (fun w' _ => by go_simp) ?_
                    simp only [Act.put, List.setIfInBounds_toArray, List.set_cons_succ, List.set_cons_zero]
                    refine Dk.held_step (v := .slice (some ⟨g8, 0, none⟩) a C8) rfl rfl (fun w' _ => by go_simp; intro hh; exact absurd hh (by omega)) ?_
                    simp only [Act.put, List.setIfInBounds_toArray, List.set_cons_succ, List.set_cons_zero]
                    refine Dk.held_step (v := .slice (some ⟨g8, 0, none⟩) nr C8) rfl rfl (fun w' _ => by go_simp) ?_
                    simp only [Act.put, List.setIfInBounds_toArray, List.set_cons_succ, List.set_cons_zero]
                    refine Dk.held_step (v := .int .i64 (a : Int)) rfl rfl (fun w' _ => by go_simp) ?_
                    simp only [Act.put, List.setIfInBounds_toArray, List.set_cons_succ, List.set_cons_zero]
                    refine Dk.held_step (v := .int .i64 ((a : Int) + 1)) rfl rfl (fun w' _ => by go_simp; rw [IntKind.wrap_i64]; omega) ?_
                    simp only [Act.put, List.setIfInBounds_toArray, List.set_cons_succ, List.set_cons_zero]
                    refine Dk.held_step (v := .slice (some A2) (nr - (a + 1)) (C8 - (a + 1))) rfl rfl (fun w' _ => by go_simp; rw [if_pos (by omega), HA.out]) ?_
                    simp only [Act.put, List.setIfInBounds_toArray, List.set_cons_succ, List.set_cons_zero]
                    obtain ⟨W7, e7⟩ : ∃ W7, W7 = W6.drew.alloc (.cells #[] 29) := ⟨_, rfl⟩
                    have r9 := HR9.out
                    rw [← e7, show W6.drew.heap.size = W6.heap.size from rfl] at r9
                    have r14 := HR14.out
                    refine Dk.line_step rfl rfl ?_
                    refine wp_run (v := .slice (some ⟨W6.heap.size, 0, none⟩) 0 0) (w' := W7) (by rw [e7]; go_simp) ⟨trivial, ?_⟩
                    simp only [Act.put, List.setIfInBounds_toArray, List.set_cons_succ, List.set_cons_zero]
                    refine Dk.line_step rfl rfl ?_
                    refine wp_run (v := .slice A9 a C9) (w' := w9) (by simp only [execOp, resolve, invoke, builtin]; simp [Act.eval, r9]) ⟨trivial, ?_⟩
                    simp only [Act.put, List.setIfInBounds_toArray, List.set_cons_succ, List.set_cons_zero]
                    refine Dk.line_step rfl rfl ?_
                    refine wp_run (v := .slice A14 (a + (nr - (a + 1))) C14) (w' := w14) (by simp only [execOp, resolve, invoke, builtin]; simp [Act.eval, r14]) ⟨trivial, ?_⟩
                    simp only [Act.put, List.setIfInBounds_toArray, List.set_cons_succ, List.set_cons_zero]
                    refine Dk.line_step rfl rfl ?_
                    refine wp_run (v := .slice A14 (a + (nr - (a + 1))) C14) (w' := w14) (by go_simp) ⟨trivial, ?_⟩
                    simp only [Act.put, List.setIfInBounds_toArray, List.set_cons_succ, List.set_cons_zero]
                    rename_i hK
                    refine hK _ _ ?_
                    clear hK e7 r9 r14 HR9 HR14 HA x0 x1 x2 x3 d1
                    go_wp2_with (rw [H15.out]; clear H15)
                    go_roundw
                    case rel => exact ⟨k + 1, bs', rs.eraseIdx a, by omega, by omega, by go_num, ⟨hfin, hel, hbs'⟩⟩
                    case measure => simp [intOf]; omega
                  · have hma := tpos hm
                    clear tneg tpos K1
                    have hsame : ∀ w, (Op.equalIn 10000 29 (.agg #[.int .i64 r1, .int .i64 (bk : Int), .bool true, .int .u64 (r4 : Nat)]) (.agg #[.int .i64 r1, .int .i64 (bk : Int), .bool true, .int .u64 (r4 : Nat)])).run Try.prog w = .ok true w := same_rq 9998 _ _ _ _
                    clear t
                    go_wp2_with fail
                    refine K1'.mono ?_
                    rintro e w2 ⟨rfl, h2⟩
                    clear K1' d1 d0
                    obtain ⟨W3, eW3⟩ : ∃ W3, W3 = w2.alloc (.cells #[.int .i64 0, .int .i64 0, .bool false, .int .u64 0] 29) := ⟨_, rfl⟩
                    have hW3 := Db.newBox h2 eW3
                    have bW3 : Dk.Box W3 w2.heap.size #[.int .i64 0, .int .i64 0, .bool false, .int .u64 0] 29 := Db.box hW3 (by simp)
                    obtain ⟨W4, eW4⟩ : ∃ W4, W4 = W3.setRow w2.heap.size #[.int .i64 r1, .int .i64 (bk : Int), .bool true, .int .u64 (r4 : Nat)] := ⟨_, rfl⟩
                    have h4 := Db.setRow hW3 eW4
                    have HW3 : Hid (w2.alloc (.cells #[.int .i64 0, .int .i64 0, .bool false, .int .u64 0] 29) = W3) := eW3.symm
                    have HW4 : Hid (W3.setRow w2.heap.size #[.int .i64 r1, .int .i64 (bk : Int), .bool true, .int .u64 (r4 : Nat)] = W4) := eW4.symm
                    have HBW3 : Hid (Dk.Box W3 w2.heap.size #[.int .i64 0, .int .i64 0, .bool false, .int .u64 0] 29) := bW3
                    clear eW3 eW4 hW3 bW3
                    have d1 : W4.cell? ⟨b, o + k * 6 + 1, none⟩ = some (.int .i64 q) := HC.out W4 h4.out 1 _ HC1.out
                    obtain ⟨g8, C8, ev8, hC8, hm8, _, hcs⟩ := req_at (Db.row h4 (e := 29) (s := 4) (v := u8) (n := rs.length) (xs := Dk.rqs rs) (by simp [R2])) ha
                    rw [HER.out] at hcs
                    subst ev8
                    unfold maxLen at hm8
                    have x0 : W4.cell? ⟨g8, a * 4, none⟩ = some (.int .i64 r1) := hcs 0 (by omega)
                    have x1 : W4.cell? ⟨g8, a * 4 + 1, none⟩ = some (.int .i64 (bk : Int)) := hcs 1 (by omega)
                    have x2 : W4.cell? ⟨g8, a * 4 + 2, none⟩ = some (.bool true) := hcs 2 (by omega)
                    have x3 : W4.cell? ⟨g8, a * 4 + 3, none⟩ = some (.int .u64 (r4 : Nat)) := hcs 3 (by omega)
                    obtain ⟨W5, eW5⟩ : ∃ W5, W5 = W4.alloc (.cells #[.int .i64 0, .int .i64 0, .bool false, .int .u64 0] 29) := ⟨_, rfl⟩
                    have hW5 := Db.newBox h4 eW5
                    have bW5 : Dk.Box W5 W4.heap.size #[.int .i64 0, .int .i64 0, .bool false, .int .u64 0] 29 := Db.box hW5 (by simp)
                    obtain ⟨W6, eW6⟩ : ∃ W6, W6 = W5.setRow W4.heap.size #[.int .i64 r1, .int .i64 (bk : Int), .bool true, .int .u64 (r4 : Nat)] := ⟨_, rfl⟩
                    have h6 := Db.setRow hW5 eW6
                    have HW5 : Hid (W4.alloc (.cells #[.int .i64 0, .int .i64 0, .bool false, .int .u64 0] 29) = W5) := eW5.symm
                    have HW6 : Hid (W5.setRow W4.heap.size #[.int .i64 r1, .int .i64 (bk : Int), .bool true, .int .u64 (r4 : Nat)] = W6) := eW6.symm
                    have HBW5 : Hid (Dk.Box W5 W4.heap.size #[.int .i64 0, .int .i64 0, .bool false, .int .u64 0] 29) := bW5
                    clear eW5 eW6 hW5 bW5
                    have h6d := h6.below (Dk.up_drew (Below.refl _ _))
                    obtain ⟨g9, C9', A2, A9, C9, w9, A14, C14, w14, ev, _, _, hA2, r9, r14, h14⟩ := Db.without (us1 := [Dk.boxOf W4.heap.size #[.int .i64 r1, .int .i64 (bk : Int), .bool true, .int .u64 (r4 : Nat)] 29, Dk.boxOf w2.heap.size #[.int .i64 r1, .int .i64 (bk : Int), .bool true, .int .u64 (r4 : Nat)] 29, Dk.rowOf 27 1 (.slice (some ⟨gb, 0, none⟩) n n) bs.length (Dk.uw bs)]) (us2 := []) h6d a ha (by omega)
                    cases ev
                    obtain ⟨gq, Cq, evq, _, _, cg, fg, hset⟩ := Db.word (us1 := [Dk.boxOf W4.heap.size #[.int .i64 r1, .int .i64 (bk : Int), .bool true, .int .u64 (r4 : Nat)] 29, Dk.boxOf w2.heap.size #[.int .i64 r1, .int .i64 (bk : Int), .bool true, .int .u64 (r4 : Nat)] 29]) (us2 := [Dk.rowOf 29 4 (.slice A14 (a + (rs.length - (a + 1))) C14) (rs.eraseIdx a).length (Dk.rqs (rs.eraseIdx a))]) h14 bk hbk
                    obtain ⟨egq, _⟩ : gq = gb ∧ Cq = n := by
                      injection evq with e1 e2 e3
                      injection e1 with e1
                      injection e1 with e1
                      exact ⟨e1.symm, e3.symm⟩
                    subst egq
                    clear evq
                    have HH := h14
                    have s0 : w14.cell? ⟨W4.heap.size, 0, none⟩ = some (.int .i64 r1) := (Db.box HH (b := W4.heap.size) (cs := #[.int .i64 r1, .int .i64 (bk : Int), .bool true, .int .u64 (r4 : Nat)]) (e := 29) (by simp [R2])).cell 0
                    have s1 : w14.cell? ⟨W4.heap.size, 1, none⟩ = some (.int .i64 (bk : Int)) := (Db.box HH (b := W4.heap.size) (cs := #[.int .i64 r1, .int .i64 (bk : Int), .bool true, .int .u64 (r4 : Nat)]) (e := 29) (by simp [R2])).cell 1
                    have s2 : w14.cell? ⟨W4.heap.size, 2, none⟩ = some (.bool true) := (Db.box HH (b := W4.heap.size) (cs := #[.int .i64 r1, .int .i64 (bk : Int), .bool true, .int .u64 (r4 : Nat)]) (e := 29) (by simp [R2])).cell 2
                    have s3 : w14.cell? ⟨W4.heap.size, 3, none⟩ = some (.int .u64 (r4 : Nat)) := (Db.box HH (b := W4.heap.size) (cs := #[.int .i64 r1, .int .i64 (bk : Int), .bool true, .int .u64 (r4 : Nat)]) (e := 29) (by simp [R2])).cell 3
                    have h15 := hset r4
                    clear HH
                    have HH := h15
                    have p0 : (w14.setCell ⟨gq, bk, none⟩ (.int .u64 (r4 : Nat))).cell? ⟨W4.heap.size, 0, none⟩ = some (.int .i64 r1) := (Db.box HH (b := W4.heap.size) (cs := #[.int .i64 r1, .int .i64 (bk : Int), .bool true, .int .u64 (r4 : Nat)]) (e := 29) (by simp [R2])).cell 0
                    have p1 : (w14.setCell ⟨gq, bk, none⟩ (.int .u64 (r4 : Nat))).cell? ⟨W4.heap.size, 1, none⟩ = some (.int .i64 (bk : Int)) := (Db.box HH (b := W4.heap.size) (cs := #[.int .i64 r1, .int .i64 (bk : Int), .bool true, .int .u64 (r4 : Nat)]) (e := 29) (by simp [R2])).cell 1
                    have p2 : (w14.setCell ⟨gq, bk, none⟩ (.int .u64 (r4 : Nat))).cell? ⟨W4.heap.size, 2, none⟩ = some (.bool true) := (Db.box HH (b := W4.heap.size) (cs := #[.int .i64 r1, .int .i64 (bk : Int), .bool true, .int .u64 (r4 : Nat)]) (e := 29) (by simp [R2])).cell 2
                    have p3 : (w14.setCell ⟨gq, bk, none⟩ (.int .u64 (r4 : Nat))).cell? ⟨W4.heap.size, 3, none⟩ = some (.int .u64 (r4 : Nat)) := (Db.box HH (b := W4.heap.size) (cs := #[.int .i64 r1, .int .i64 (bk : Int), .bool true, .int .u64 (r4 : Nat)]) (e := 29) (by simp [R2])).cell 3
                    have q0 : (w14.setCell ⟨gq, bk, none⟩ (.int .u64 (r4 : Nat))).cell? ⟨w2.heap.size, 0, none⟩ = some (.int .i64 r1) := (Db.box HH (b := w2.heap.size) (cs := #[.int .i64 r1, .int .i64 (bk : Int), .bool true, .int .u64 (r4 : Nat)]) (e := 29) (by simp [R2])).cell 0
                    have q1 : (w14.setCell ⟨gq, bk, none⟩ (.int .u64 (r4 : Nat))).cell? ⟨w2.heap.size, 1, none⟩ = some (.int .i64 (bk : Int)) := (Db.box HH (b := w2.heap.size) (cs := #[.int .i64 r1, .int .i64 (bk : Int), .bool true, .int .u64 (r4 : Nat)]) (e := 29) (by simp [R2])).cell 1
                    have q2 : (w14.setCell ⟨gq, bk, none⟩ (.int .u64 (r4 : Nat))).cell? ⟨w2.heap.size, 2, none⟩ = some (.bool true) := (Db.box HH (b := w2.heap.size) (cs := #[.int .i64 r1, .int .i64 (bk : Int), .bool true, .int .u64 (r4 : Nat)]) (e := 29) (by simp [R2])).cell 2
                    have q3 : (w14.setCell ⟨gq, bk, none⟩ (.int .u64 (r4 : Nat))).cell? ⟨w2.heap.size, 3, none⟩ = some (.int .u64 (r4 : Nat)) := (Db.box HH (b := w2.heap.size) (cs := #[.int .i64 r1, .int .i64 (bk : Int), .bool true, .int .u64 (r4 : Nat)]) (e := 29) (by simp [R2])).cell 3
                    have hfin : Dk.Db w (w14.setCell ⟨gq, bk, none⟩ (.int .u64 (r4 : Nat))) bd (bs.set bk r4) (rs.eraseIdx a) (R2 (.slice (some ⟨gq, 0, none⟩) n n) (.slice A14 (a + (rs.length - (a + 1))) C14) (bs.set bk r4) (rs.eraseIdx a)) := Db.drop (Db.drop h15)
                    have hbs' : (bs.set bk r4).length = n := by rw [List.length_set]; exact hbs
                    obtain ⟨W15, e15⟩ : ∃ W15, W15 = w14.setCell ⟨gq, bk, none⟩ (.int .u64 (r4 : Nat)) := ⟨_, rfl⟩
                    rw [← e15] at p0 p1 p2 p3 q0 q1 q2 q3 hfin
                    have H15 : Hid (w14.setCell ⟨gq, bk, none⟩ (.int .u64 (r4 : Nat)) = W15) := e15.symm
                    generalize bs.set bk r4 = bs' at *
                    clear h15 e15
                    have hel : (rs.eraseIdx a).length ≤ k + 1 := by rw [List.length_eraseIdx, if_pos ha]; omega
                    have HA : Hid ((if C8 = a + 1 then some (⟨g8, 0, none⟩ : Addr) else some ⟨g8, (a + 1) * 4, none⟩) = some A2) := hA2
                    have HR9 : Hid _ := r9
                    have HR14 : Hid _ := r14
                    have hbI : (bk : Int) < (n : Int) := by omega
                    have ml : -1000 ≤ m := by omega
                    have mu : m ≤ 1000 := by omega
                    clear HH h2 h4 h6 h6d h14 hset hcs hA2 r9 r14 HER
                    subst hma
                    have zm : decide ((a : Int) < 0) = false := decide_eq_false (by omega)
                    generalize hrl' : rs.length = nr at *
                    clear hrl'
                    have hn0 : ¬ nr = 0 := by omega
                    have hn1 : ((nr : Int) == 0) = false := by simp; omega
                    have hn2 : decide ((nr : Int) = 0) = false := by simp; omega
                    have hn3 : decide (nr = 0) = false := by simp; omega
                    have hn4 : (nr : Int) ≠ 0 := by omega
                    have haL : (a : Int) < (nr : Int) := by omega
                    go_wp2_with (first | (rw [HW3.out]; clear HW3) | (refine wpList_store_row rfl 29 _ _ rfl w2.heap.size #[.int .i64 r1, .int .i64 (bk : Int), .bool true, .int .u64 (r4 : Nat)] rfl rfl 29 _ HBW3.out.heap rq_size rfl (rq_cells _ _ _ _) ?_; rw [HW4.out]; clear HBW3) | (rw [HW5.out]; clear HW5) | (refine wpList_store_row rfl 29 _ _ rfl W4.heap.size #[.int .i64 r1, .int .i64 (bk : Int), .bool true, .int .u64 (r4 : Nat)] rfl rfl 29 _ HBW5.out.heap rq_size rfl (rq_cells _ _ _ _) ?_; rw [HW6.out]; clear HBW5))
                    refine Dk.wp_region_line (S := fun w' => True) [1, 2, 3, 5, 6, 7, 8] [0, 4, 9, 10] (by kernel_rfl) (by kernel_rfl) trivial ?_
                    refine Dk.held_step (v := .slice (some ⟨g8, 0, none⟩) nr C8) rfl rfl (fun w' _ => by go_simp) ?_
                    simp only [Act.put, List.setIfInBounds_toArray, List.set_cons_succ, List.set_cons_zero]
                    refine Dk.held_step (v := .int .i64 (a : Int)) rfl rfl (fun w' _ => by go_simp) ?_
                    simp only [Act.put, List.setIfInBounds_toArray, List.set_cons_succ, List.set_cons_zero]
                    refine Dk.held_step (v := .slice (some ⟨g8, 0, none⟩) a C8) rfl rfl (fun w' _ => by go_simp; intro hh; exact absurd hh (by omega)) ?_
                    simp only [Act.put, List.setIfInBounds_toArray, List.set_cons_succ, List.set_cons_zero]
                    refine Dk.held_step (v := .slice (some ⟨g8, 0, none⟩) nr C8) rfl rfl (fun w' _ => by go_simp) ?_
                    simp only [Act.put, List.setIfInBounds_toArray, List.set_cons_succ, List.set_cons_zero]
                    refine Dk.held_step (v := .int .i64 (a : Int)) rfl rfl (fun w' _ => by go_simp) ?_
                    simp only [Act.put, List.setIfInBounds_toArray, List.set_cons_succ, List.set_cons_zero]
                    refine Dk.held_step (v := .int .i64 ((a : Int) + 1)) rfl rfl (fun w' _ => by go_simp; rw [IntKind.wrap_i64]; omega) ?_
                    simp only [Act.put, List.setIfInBounds_toArray, List.set_cons_succ, List.set_cons_zero]
                    refine Dk.held_step (v := .slice (some A2) (nr - (a + 1)) (C8 - (a + 1))) rfl rfl (fun w' _ => by go_simp; rw [if_pos (by omega), HA.out]) ?_
                    simp only [Act.put, List.setIfInBounds_toArray, List.set_cons_succ, List.set_cons_zero]
                    obtain ⟨W7, e7⟩ : ∃ W7, W7 = W6.drew.alloc (.cells #[] 29) := ⟨_, rfl⟩
                    have r9 := HR9.out
                    rw [← e7, show W6.drew.heap.size = W6.heap.size from rfl] at r9
                    have r14 := HR14.out
                    refine Dk.line_step rfl rfl ?_
                    refine wp_run (v := .slice (some ⟨W6.heap.size, 0, none⟩) 0 0) (w' := W7) (by rw [e7]; go_simp) ⟨trivial, ?_⟩
                    simp only [Act.put, List.setIfInBounds_toArray, List.set_cons_succ, List.set_cons_zero]
                    refine Dk.line_step rfl rfl ?_
                    refine wp_run (v := .slice A9 a C9) (w' := w9) (by simp only [execOp, resolve, invoke, builtin]; simp [Act.eval, r9]) ⟨trivial, ?_⟩
                    simp only [Act.put, List.setIfInBounds_toArray, List.set_cons_succ, List.set_cons_zero]
                    refine Dk.line_step rfl rfl ?_
                    refine wp_run (v := .slice A14 (a + (nr - (a + 1))) C14) (w' := w14) (by simp only [execOp, resolve, invoke, builtin]; simp [Act.eval, r14]) ⟨trivial, ?_⟩
                    simp only [Act.put, List.setIfInBounds_toArray, List.set_cons_succ, List.set_cons_zero]
                    refine Dk.line_step rfl rfl ?_
                    refine wp_run (v := .slice A14 (a + (nr - (a + 1))) C14) (w' := w14) (by go_simp) ⟨trivial, ?_⟩
                    simp only [Act.put, List.setIfInBounds_toArray, List.set_cons_succ, List.set_cons_zero]
                    rename_i hK
                    refine hK _ _ ?_
                    clear hK e7 r9 r14 HR9 HR14 HA x0 x1 x2 x3 d1
                    go_wp2_with (rw [H15.out]; clear H15)
                    go_roundw
                    case rel => exact ⟨k + 1, bs', rs.eraseIdx a, by omega, by omega, by go_num, ⟨hfin, hel, hbs'⟩⟩
                    case measure => simp [intOf]; omega
                | false =>
                  have K1' : Calls Try.prog 7 #[.pointer (some ⟨bd, 0, none⟩), .int .i64 q] wr fun e w' => e = .returned (.tuple #[.agg #[.int .i64 r1, .int .i64 (bk : Int), .bool false, .int .u64 (r4 : Nat)], .int .u64 (bs.getD bk 0 : Nat), .bool true]) ∧ Dk.Db w w' bd bs (rs.eraseIdx a) (R2 (.slice (some ⟨gb, 0, none⟩) n n) u8 bs rs) := K1
                  by_cases hm : m < 0
                  · have hma := tneg hm
                    have HMA : Hid (m + (rs.length : Int) = (a : Int)) := hma
                    clear tneg tpos K1 hma
                    have hsame : ∀ w, (Op.equalIn 10000 29 (.agg #[.int .i64 r1, .int .i64 (bk : Int), .bool false, .int .u64 (r4 : Nat)]) (.agg #[.int .i64 r1, .int .i64 (bk : Int), .bool false, .int .u64 (r4 : Nat)])).run Try.prog w = .ok true w := same_rq 9998 _ _ _ _
                    clear t
                    go_wp2_with fail
                    refine K1'.mono ?_
                    rintro e w2 ⟨rfl, h2⟩
                    clear K1' d1 d0
                    obtain ⟨W3, eW3⟩ : ∃ W3, W3 = w2.alloc (.cells #[.int .i64 0, .int .i64 0, .bool false, .int .u64 0] 29) := ⟨_, rfl⟩
                    have hW3 := Db.newBox h2 eW3
                    have bW3 : Dk.Box W3 w2.heap.size #[.int .i64 0, .int .i64 0, .bool false, .int .u64 0] 29 := Db.box hW3 (by simp)
                    obtain ⟨W4, eW4⟩ : ∃ W4, W4 = W3.setRow w2.heap.size #[.int .i64 r1, .int .i64 (bk : Int), .bool false, .int .u64 (r4 : Nat)] := ⟨_, rfl⟩
                    have h4 := Db.setRow hW3 eW4
                    have HW3 : Hid (w2.alloc (.cells #[.int .i64 0, .int .i64 0, .bool false, .int .u64 0] 29) = W3) := eW3.symm
                    have HW4 : Hid (W3.setRow w2.heap.size #[.int .i64 r1, .int .i64 (bk : Int), .bool false, .int .u64 (r4 : Nat)] = W4) := eW4.symm
                    have HBW3 : Hid (Dk.Box W3 w2.heap.size #[.int .i64 0, .int .i64 0, .bool false, .int .u64 0] 29) := bW3
                    clear eW3 eW4 hW3 bW3
                    have d1 : W4.cell? ⟨b, o + k * 6 + 1, none⟩ = some (.int .i64 q) := HC.out W4 h4.out 1 _ HC1.out
                    obtain ⟨g8, C8, ev8, hC8, hm8, _, hcs⟩ := req_at (Db.row h4 (e := 29) (s := 4) (v := u8) (n := rs.length) (xs := Dk.rqs rs) (by simp [R2])) ha
                    rw [HER.out] at hcs
                    subst ev8
                    unfold maxLen at hm8
                    have x0 : W4.cell? ⟨g8, a * 4, none⟩ = some (.int .i64 r1) := hcs 0 (by omega)
                    have x1 : W4.cell? ⟨g8, a * 4 + 1, none⟩ = some (.int .i64 (bk : Int)) := hcs 1 (by omega)
                    have x2 : W4.cell? ⟨g8, a * 4 + 2, none⟩ = some (.bool false) := hcs 2 (by omega)
                    have x3 : W4.cell? ⟨g8, a * 4 + 3, none⟩ = some (.int .u64 (r4 : Nat)) := hcs 3 (by omega)
                    obtain ⟨W5, eW5⟩ : ∃ W5, W5 = W4.alloc (.cells #[.int .i64 0, .int .i64 0, .bool false, .int .u64 0] 29) := ⟨_, rfl⟩
                    have hW5 := Db.newBox h4 eW5
                    have bW5 : Dk.Box W5 W4.heap.size #[.int .i64 0, .int .i64 0, .bool false, .int .u64 0] 29 := Db.box hW5 (by simp)
                    obtain ⟨W6, eW6⟩ : ∃ W6, W6 = W5.setRow W4.heap.size #[.int .i64 r1, .int .i64 (bk : Int), .bool false, .int .u64 (r4 : Nat)] := ⟨_, rfl⟩
                    have h6 := Db.setRow hW5 eW6
                    have HW5 : Hid (W4.alloc (.cells #[.int .i64 0, .int .i64 0, .bool false, .int .u64 0] 29) = W5) := eW5.symm
                    have HW6 : Hid (W5.setRow W4.heap.size #[.int .i64 r1, .int .i64 (bk : Int), .bool false, .int .u64 (r4 : Nat)] = W6) := eW6.symm
                    have HBW5 : Hid (Dk.Box W5 W4.heap.size #[.int .i64 0, .int .i64 0, .bool false, .int .u64 0] 29) := bW5
                    clear eW5 eW6 hW5 bW5
                    have h6d := h6.below (Dk.up_drew (Below.refl _ _))
                    obtain ⟨g9, C9', A2, A9, C9, w9, A14, C14, w14, ev, _, _, hA2, r9, r14, h14⟩ := Db.without (us1 := [Dk.boxOf W4.heap.size #[.int .i64 r1, .int .i64 (bk : Int), .bool false, .int .u64 (r4 : Nat)] 29, Dk.boxOf w2.heap.size #[.int .i64 r1, .int .i64 (bk : Int), .bool false, .int .u64 (r4 : Nat)] 29, Dk.rowOf 27 1 (.slice (some ⟨gb, 0, none⟩) n n) bs.length (Dk.uw bs)]) (us2 := []) h6d a ha (by omega)
                    cases ev
                    obtain ⟨gq, Cq, evq, _, _, cg, fg, hset⟩ := Db.word (us1 := [Dk.boxOf W4.heap.size #[.int .i64 r1, .int .i64 (bk : Int), .bool false, .int .u64 (r4 : Nat)] 29, Dk.boxOf w2.heap.size #[.int .i64 r1, .int .i64 (bk : Int), .bool false, .int .u64 (r4 : Nat)] 29]) (us2 := [Dk.rowOf 29 4 (.slice A14 (a + (rs.length - (a + 1))) C14) (rs.eraseIdx a).length (Dk.rqs (rs.eraseIdx a))]) h14 bk hbk
                    obtain ⟨egq, _⟩ : gq = gb ∧ Cq = n := by
                      injection evq with e1 e2 e3
                      injection e1 with e1
                      injection e1 with e1
                      exact ⟨e1.symm, e3.symm⟩
                    subst egq
                    clear evq
                    have HH := h14
                    have s0 : w14.cell? ⟨W4.heap.size, 0, none⟩ = some (.int .i64 r1) := (Db.box HH (b := W4.heap.size) (cs := #[.int .i64 r1, .int .i64 (bk : Int), .bool false, .int .u64 (r4 : Nat)]) (e := 29) (by simp [R2])).cell 0
                    have s1 : w14.cell? ⟨W4.heap.size, 1, none⟩ = some (.int .i64 (bk : Int)) := (Db.box HH (b := W4.heap.size) (cs := #[.int .i64 r1, .int .i64 (bk : Int), .bool false, .int .u64 (r4 : Nat)]) (e := 29) (by simp [R2])).cell 1
                    have s2 : w14.cell? ⟨W4.heap.size, 2, none⟩ = some (.bool false) := (Db.box HH (b := W4.heap.size) (cs := #[.int .i64 r1, .int .i64 (bk : Int), .bool false, .int .u64 (r4 : Nat)]) (e := 29) (by simp [R2])).cell 2
                    have s3 : w14.cell? ⟨W4.heap.size, 3, none⟩ = some (.int .u64 (r4 : Nat)) := (Db.box HH (b := W4.heap.size) (cs := #[.int .i64 r1, .int .i64 (bk : Int), .bool false, .int .u64 (r4 : Nat)]) (e := 29) (by simp [R2])).cell 3
                    have q0 : w14.cell? ⟨w2.heap.size, 0, none⟩ = some (.int .i64 r1) := (Db.box HH (b := w2.heap.size) (cs := #[.int .i64 r1, .int .i64 (bk : Int), .bool false, .int .u64 (r4 : Nat)]) (e := 29) (by simp [R2])).cell 0
                    have q1 : w14.cell? ⟨w2.heap.size, 1, none⟩ = some (.int .i64 (bk : Int)) := (Db.box HH (b := w2.heap.size) (cs := #[.int .i64 r1, .int .i64 (bk : Int), .bool false, .int .u64 (r4 : Nat)]) (e := 29) (by simp [R2])).cell 1
                    have q2 : w14.cell? ⟨w2.heap.size, 2, none⟩ = some (.bool false) := (Db.box HH (b := w2.heap.size) (cs := #[.int .i64 r1, .int .i64 (bk : Int), .bool false, .int .u64 (r4 : Nat)]) (e := 29) (by simp [R2])).cell 2
                    have q3 : w14.cell? ⟨w2.heap.size, 3, none⟩ = some (.int .u64 (r4 : Nat)) := (Db.box HH (b := w2.heap.size) (cs := #[.int .i64 r1, .int .i64 (bk : Int), .bool false, .int .u64 (r4 : Nat)]) (e := 29) (by simp [R2])).cell 3
                    have hfin : Dk.Db w w14 bd bs (rs.eraseIdx a) (R2 (.slice (some ⟨gq, 0, none⟩) n n) (.slice A14 (a + (rs.length - (a + 1))) C14) bs (rs.eraseIdx a)) := Db.drop (Db.drop h14)
                    generalize bs.getD bk 0 = y at *
                    have hel : (rs.eraseIdx a).length ≤ k + 1 := by rw [List.length_eraseIdx, if_pos ha]; omega
                    have HA : Hid ((if C8 = a + 1 then some (⟨g8, 0, none⟩ : Addr) else some ⟨g8, (a + 1) * 4, none⟩) = some A2) := hA2
                    have HR9 : Hid _ := r9
                    have HR14 : Hid _ := r14
                    have hbI : (bk : Int) < (n : Int) := by omega
                    have ml : -1000 ≤ m := by omega
                    have mu : m ≤ 1000 := by omega
                    clear HH h2 h4 h6 h6d h14 hset hcs hA2 r9 r14 HER
                    have zm : decide (m < 0) = true := decide_eq_true hm
                    have e80 := HMA.out
                    generalize hrl' : rs.length = nr at *
                    clear hrl'
                    have hn0 : ¬ nr = 0 := by omega
                    have hn1 : ((nr : Int) == 0) = false := by simp; omega
                    have hn2 : decide ((nr : Int) = 0) = false := by simp; omega
                    have hn3 : decide (nr = 0) = false := by simp; omega
                    have hn4 : (nr : Int) ≠ 0 := by omega
                    have haL : (a : Int) < (nr : Int) := by omega
                    go_wp2_with (first | (rw [HW3.out]; clear HW3) | (refine wpList_store_row rfl 29 _ _ rfl w2.heap.size #[.int .i64 r1, .int .i64 (bk : Int), .bool false, .int .u64 (r4 : Nat)] rfl rfl 29 _ HBW3.out.heap rq_size rfl (rq_cells _ _ _ _) ?_; rw [HW4.out]; clear HBW3) | (rw [HW5.out]; clear HW5) | (refine wpList_store_row rfl 29 _ _ rfl W4.heap.size #[.int .i64 r1, .int .i64 (bk : Int), .bool false, .int .u64 (r4 : Nat)] rfl rfl 29 _ HBW5.out.heap rq_size rfl (rq_cells _ _ _ _) ?_; rw [HW6.out]; clear HBW5))
                    refine Dk.wp_region_line (S := fun w' => True) [1, 2, 3, 5, 6, 7, 8] [0, 4, 9, 10] (by kernel_rfl) (by kernel_rfl) trivial ?_
                    refine Dk.held_step (v := .slice (some ⟨g8, 0, none⟩) nr C8) rfl rfl (fun w' _ => by go_simp) ?_
                    simp only [Act.put, List.setIfInBounds_toArray, List.set_cons_succ, List.set_cons_zero]
                    refine Dk.held_step (v := .int .i64 (a : Int)) rfl rfl (fun w' _ => by go_simp) ?_
                    simp only [Act.put, List.setIfInBounds_toArray, List.set_cons_succ, List.set_cons_zero]
                    refine Dk.held_step (v := .slice (some ⟨g8, 0, none⟩) a C8) rfl rfl (fun w' _ => by go_simp; intro hh; exact absurd hh (by omega)) ?_
                    simp only [Act.put, List.setIfInBounds_toArray, List.set_cons_succ, List.set_cons_zero]
                    refine Dk.held_step (v := .slice (some ⟨g8, 0, none⟩) nr C8) rfl rfl (fun w' _ => by go_simp) ?_
                    simp only [Act.put, List.setIfInBounds_toArray, List.set_cons_succ, List.set_cons_zero]
                    refine Dk.held_step (v := .int .i64 (a : Int)) rfl rfl (fun w' _ => by go_simp) ?_
                    simp only [Act.put, List.setIfInBounds_toArray, List.set_cons_succ, List.set_cons_zero]
                    refine Dk.held_step (v := .int .i64 ((a : Int) + 1)) rfl rfl (fun w' _ => by go_simp; rw [IntKind.wrap_i64]; omega) ?_
                    simp only [Act.put, List.setIfInBounds_toArray, List.set_cons_succ, List.set_cons_zero]
                    refine Dk.held_step (v := .slice (some A2) (nr - (a + 1)) (C8 - (a + 1))) rfl rfl (fun w' _ => by go_simp; rw [if_pos (by omega), HA.out]) ?_
                    simp only [Act.put, List.setIfInBounds_toArray, List.set_cons_succ, List.set_cons_zero]
                    obtain ⟨W7, e7⟩ : ∃ W7, W7 = W6.drew.alloc (.cells #[] 29) := ⟨_, rfl⟩
                    have r9 := HR9.out
                    rw [← e7, show W6.drew.heap.size = W6.heap.size from rfl] at r9
                    have r14 := HR14.out
                    refine Dk.line_step rfl rfl ?_
                    refine wp_run (v := .slice (some ⟨W6.heap.size, 0, none⟩) 0 0) (w' := W7) (by rw [e7]; go_simp) ⟨trivial, ?_⟩
                    simp only [Act.put, List.setIfInBounds_toArray, List.set_cons_succ, List.set_cons_zero]
                    refine Dk.line_step rfl rfl ?_
                    refine wp_run (v := .slice A9 a C9) (w' := w9) (by simp only [execOp, resolve, invoke, builtin]; simp [Act.eval, r9]) ⟨trivial, ?_⟩
                    simp only [Act.put, List.setIfInBounds_toArray, List.set_cons_succ, List.set_cons_zero]
                    refine Dk.line_step rfl rfl ?_
                    refine wp_run (v := .slice A14 (a + (nr - (a + 1))) C14) (w' := w14) (by simp only [execOp, resolve, invoke, builtin]; simp [Act.eval, r14]) ⟨trivial, ?_⟩
                    simp only [Act.put, List.setIfInBounds_toArray, List.set_cons_succ, List.set_cons_zero]
                    refine Dk.line_step rfl rfl ?_
                    refine wp_run (v := .slice A14 (a + (nr - (a + 1))) C14) (w' := w14) (by go_simp) ⟨trivial, ?_⟩
                    simp only [Act.put, List.setIfInBounds_toArray, List.set_cons_succ, List.set_cons_zero]
                    rename_i hK
                    refine hK _ _ ?_
                    clear hK e7 r9 r14 HR9 HR14 HA x0 x1 x2 x3 d1
                    go_wp2_with fail
                    go_roundw
                    case rel => exact ⟨k + 1, bs, rs.eraseIdx a, by omega, by omega, by go_num, ⟨hfin, hel, hbs⟩⟩
                    case measure => simp [intOf]; omega
                  · have hma := tpos hm
                    clear tneg tpos K1
                    have hsame : ∀ w, (Op.equalIn 10000 29 (.agg #[.int .i64 r1, .int .i64 (bk : Int), .bool false, .int .u64 (r4 : Nat)]) (.agg #[.int .i64 r1, .int .i64 (bk : Int), .bool false, .int .u64 (r4 : Nat)])).run Try.prog w = .ok true w := same_rq 9998 _ _ _ _
                    clear t
                    go_wp2_with fail
                    refine K1'.mono ?_
                    rintro e w2 ⟨rfl, h2⟩
                    clear K1' d1 d0
                    obtain ⟨W3, eW3⟩ : ∃ W3, W3 = w2.alloc (.cells #[.int .i64 0, .int .i64 0, .bool false, .int .u64 0] 29) := ⟨_, rfl⟩
                    have hW3 := Db.newBox h2 eW3
                    have bW3 : Dk.Box W3 w2.heap.size #[.int .i64 0, .int .i64 0, .bool false, .int .u64 0] 29 := Db.box hW3 (by simp)
                    obtain ⟨W4, eW4⟩ : ∃ W4, W4 = W3.setRow w2.heap.size #[.int .i64 r1, .int .i64 (bk : Int), .bool false, .int .u64 (r4 : Nat)] := ⟨_, rfl⟩
                    have h4 := Db.setRow hW3 eW4
                    have HW3 : Hid (w2.alloc (.cells #[.int .i64 0, .int .i64 0, .bool false, .int .u64 0] 29) = W3) := eW3.symm
                    have HW4 : Hid (W3.setRow w2.heap.size #[.int .i64 r1, .int .i64 (bk : Int), .bool false, .int .u64 (r4 : Nat)] = W4) := eW4.symm
                    have HBW3 : Hid (Dk.Box W3 w2.heap.size #[.int .i64 0, .int .i64 0, .bool false, .int .u64 0] 29) := bW3
                    clear eW3 eW4 hW3 bW3
                    have d1 : W4.cell? ⟨b, o + k * 6 + 1, none⟩ = some (.int .i64 q) := HC.out W4 h4.out 1 _ HC1.out
                    obtain ⟨g8, C8, ev8, hC8, hm8, _, hcs⟩ := req_at (Db.row h4 (e := 29) (s := 4) (v := u8) (n := rs.length) (xs := Dk.rqs rs) (by simp [R2])) ha
                    rw [HER.out] at hcs
                    subst ev8
                    unfold maxLen at hm8
                    have x0 : W4.cell? ⟨g8, a * 4, none⟩ = some (.int .i64 r1) := hcs 0 (by omega)
                    have x1 : W4.cell? ⟨g8, a * 4 + 1, none⟩ = some (.int .i64 (bk : Int)) := hcs 1 (by omega)
                    have x2 : W4.cell? ⟨g8, a * 4 + 2, none⟩ = some (.bool false) := hcs 2 (by omega)
                    have x3 : W4.cell? ⟨g8, a * 4 + 3, none⟩ = some (.int .u64 (r4 : Nat)) := hcs 3 (by omega)
                    obtain ⟨W5, eW5⟩ : ∃ W5, W5 = W4.alloc (.cells #[.int .i64 0, .int .i64 0, .bool false, .int .u64 0] 29) := ⟨_, rfl⟩
                    have hW5 := Db.newBox h4 eW5
                    have bW5 : Dk.Box W5 W4.heap.size #[.int .i64 0, .int .i64 0, .bool false, .int .u64 0] 29 := Db.box hW5 (by simp)
                    obtain ⟨W6, eW6⟩ : ∃ W6, W6 = W5.setRow W4.heap.size #[.int .i64 r1, .int .i64 (bk : Int), .bool false, .int .u64 (r4 : Nat)] := ⟨_, rfl⟩
                    have h6 := Db.setRow hW5 eW6
                    have HW5 : Hid (W4.alloc (.cells #[.int .i64 0, .int .i64 0, .bool false, .int .u64 0] 29) = W5) := eW5.symm
                    have HW6 : Hid (W5.setRow W4.heap.size #[.int .i64 r1, .int .i64 (bk : Int), .bool false, .int .u64 (r4 : Nat)] = W6) := eW6.symm
                    have HBW5 : Hid (Dk.Box W5 W4.heap.size #[.int .i64 0, .int .i64 0, .bool false, .int .u64 0] 29) := bW5
                    clear eW5 eW6 hW5 bW5
                    have h6d := h6.below (Dk.up_drew (Below.refl _ _))
                    obtain ⟨g9, C9', A2, A9, C9, w9, A14, C14, w14, ev, _, _, hA2, r9, r14, h14⟩ := Db.without (us1 := [Dk.boxOf W4.heap.size #[.int .i64 r1, .int .i64 (bk : Int), .bool false, .int .u64 (r4 : Nat)] 29, Dk.boxOf w2.heap.size #[.int .i64 r1, .int .i64 (bk : Int), .bool false, .int .u64 (r4 : Nat)] 29, Dk.rowOf 27 1 (.slice (some ⟨gb, 0, none⟩) n n) bs.length (Dk.uw bs)]) (us2 := []) h6d a ha (by omega)
                    cases ev
                    obtain ⟨gq, Cq, evq, _, _, cg, fg, hset⟩ := Db.word (us1 := [Dk.boxOf W4.heap.size #[.int .i64 r1, .int .i64 (bk : Int), .bool false, .int .u64 (r4 : Nat)] 29, Dk.boxOf w2.heap.size #[.int .i64 r1, .int .i64 (bk : Int), .bool false, .int .u64 (r4 : Nat)] 29]) (us2 := [Dk.rowOf 29 4 (.slice A14 (a + (rs.length - (a + 1))) C14) (rs.eraseIdx a).length (Dk.rqs (rs.eraseIdx a))]) h14 bk hbk
                    obtain ⟨egq, _⟩ : gq = gb ∧ Cq = n := by
                      injection evq with e1 e2 e3
                      injection e1 with e1
                      injection e1 with e1
                      exact ⟨e1.symm, e3.symm⟩
                    subst egq
                    clear evq
                    have HH := h14
                    have s0 : w14.cell? ⟨W4.heap.size, 0, none⟩ = some (.int .i64 r1) := (Db.box HH (b := W4.heap.size) (cs := #[.int .i64 r1, .int .i64 (bk : Int), .bool false, .int .u64 (r4 : Nat)]) (e := 29) (by simp [R2])).cell 0
                    have s1 : w14.cell? ⟨W4.heap.size, 1, none⟩ = some (.int .i64 (bk : Int)) := (Db.box HH (b := W4.heap.size) (cs := #[.int .i64 r1, .int .i64 (bk : Int), .bool false, .int .u64 (r4 : Nat)]) (e := 29) (by simp [R2])).cell 1
                    have s2 : w14.cell? ⟨W4.heap.size, 2, none⟩ = some (.bool false) := (Db.box HH (b := W4.heap.size) (cs := #[.int .i64 r1, .int .i64 (bk : Int), .bool false, .int .u64 (r4 : Nat)]) (e := 29) (by simp [R2])).cell 2
                    have s3 : w14.cell? ⟨W4.heap.size, 3, none⟩ = some (.int .u64 (r4 : Nat)) := (Db.box HH (b := W4.heap.size) (cs := #[.int .i64 r1, .int .i64 (bk : Int), .bool false, .int .u64 (r4 : Nat)]) (e := 29) (by simp [R2])).cell 3
                    have q0 : w14.cell? ⟨w2.heap.size, 0, none⟩ = some (.int .i64 r1) := (Db.box HH (b := w2.heap.size) (cs := #[.int .i64 r1, .int .i64 (bk : Int), .bool false, .int .u64 (r4 : Nat)]) (e := 29) (by simp [R2])).cell 0
                    have q1 : w14.cell? ⟨w2.heap.size, 1, none⟩ = some (.int .i64 (bk : Int)) := (Db.box HH (b := w2.heap.size) (cs := #[.int .i64 r1, .int .i64 (bk : Int), .bool false, .int .u64 (r4 : Nat)]) (e := 29) (by simp [R2])).cell 1
                    have q2 : w14.cell? ⟨w2.heap.size, 2, none⟩ = some (.bool false) := (Db.box HH (b := w2.heap.size) (cs := #[.int .i64 r1, .int .i64 (bk : Int), .bool false, .int .u64 (r4 : Nat)]) (e := 29) (by simp [R2])).cell 2
                    have q3 : w14.cell? ⟨w2.heap.size, 3, none⟩ = some (.int .u64 (r4 : Nat)) := (Db.box HH (b := w2.heap.size) (cs := #[.int .i64 r1, .int .i64 (bk : Int), .bool false, .int .u64 (r4 : Nat)]) (e := 29) (by simp [R2])).cell 3
                    have hfin : Dk.Db w w14 bd bs (rs.eraseIdx a) (R2 (.slice (some ⟨gq, 0, none⟩) n n) (.slice A14 (a + (rs.length - (a + 1))) C14) bs (rs.eraseIdx a)) := Db.drop (Db.drop h14)
                    generalize bs.getD bk 0 = y at *
                    have hel : (rs.eraseIdx a).length ≤ k + 1 := by rw [List.length_eraseIdx, if_pos ha]; omega
                    have HA : Hid ((if C8 = a + 1 then some (⟨g8, 0, none⟩ : Addr) else some ⟨g8, (a + 1) * 4, none⟩) = some A2) := hA2
                    have HR9 : Hid _ := r9
                    have HR14 : Hid _ := r14
                    have hbI : (bk : Int) < (n : Int) := by omega
                    have ml : -1000 ≤ m := by omega
                    have mu : m ≤ 1000 := by omega
                    clear HH h2 h4 h6 h6d h14 hset hcs hA2 r9 r14 HER
                    subst hma
                    have zm : decide ((a : Int) < 0) = false := decide_eq_false (by omega)
                    generalize hrl' : rs.length = nr at *
                    clear hrl'
                    have hn0 : ¬ nr = 0 := by omega
                    have hn1 : ((nr : Int) == 0) = false := by simp; omega
                    have hn2 : decide ((nr : Int) = 0) = false := by simp; omega
                    have hn3 : decide (nr = 0) = false := by simp; omega
                    have hn4 : (nr : Int) ≠ 0 := by omega
                    have haL : (a : Int) < (nr : Int) := by omega
                    go_wp2_with (first | (rw [HW3.out]; clear HW3) | (refine wpList_store_row rfl 29 _ _ rfl w2.heap.size #[.int .i64 r1, .int .i64 (bk : Int), .bool false, .int .u64 (r4 : Nat)] rfl rfl 29 _ HBW3.out.heap rq_size rfl (rq_cells _ _ _ _) ?_; rw [HW4.out]; clear HBW3) | (rw [HW5.out]; clear HW5) | (refine wpList_store_row rfl 29 _ _ rfl W4.heap.size #[.int .i64 r1, .int .i64 (bk : Int), .bool false, .int .u64 (r4 : Nat)] rfl rfl 29 _ HBW5.out.heap rq_size rfl (rq_cells _ _ _ _) ?_; rw [HW6.out]; clear HBW5))
                    refine Dk.wp_region_line (S := fun w' => True) [1, 2, 3, 5, 6, 7, 8] [0, 4, 9, 10] (by kernel_rfl) (by kernel_rfl) trivial ?_
                    refine Dk.held_step (v := .slice (some ⟨g8, 0, none⟩) nr C8) rfl rfl (fun w' _ => by go_simp) ?_
                    simp only [Act.put, List.setIfInBounds_toArray, List.set_cons_succ, List.set_cons_zero]
                    refine Dk.held_step (v := .int .i64 (a : Int)) rfl rfl (fun w' _ => by go_simp) ?_
                    simp only [Act.put, List.setIfInBounds_toArray, List.set_cons_succ, List.set_cons_zero]
                    refine Dk.held_step (v := .slice (some ⟨g8, 0, none⟩) a C8) rfl rfl (fun w' _ => by go_simp; intro hh; exact absurd hh (by omega)) ?_
                    simp only [Act.put, List.setIfInBounds_toArray, List.set_cons_succ, List.set_cons_zero]
                    refine Dk.held_step (v := .slice (some ⟨g8, 0, none⟩) nr C8) rfl rfl (fun w' _ => by go_simp) ?_
                    simp only [Act.put, List.setIfInBounds_toArray, List.set_cons_succ, List.set_cons_zero]
                    refine Dk.held_step (v := .int .i64 (a : Int)) rfl rfl (fun w' _ => by go_simp) ?_
                    simp only [Act.put, List.setIfInBounds_toArray, List.set_cons_succ, List.set_cons_zero]
                    refine Dk.held_step (v := .int .i64 ((a : Int) + 1)) rfl rfl (fun w' _ => by go_simp; rw [IntKind.wrap_i64]; omega) ?_
                    simp only [Act.put, List.setIfInBounds_toArray, List.set_cons_succ, List.set_cons_zero]
                    refine Dk.held_step (v := .slice (some A2) (nr - (a + 1)) (C8 - (a + 1))) rfl rfl (fun w' _ => by go_simp; rw [if_pos (by omega), HA.out]) ?_
                    simp only [Act.put, List.setIfInBounds_toArray, List.set_cons_succ, List.set_cons_zero]
                    obtain ⟨W7, e7⟩ : ∃ W7, W7 = W6.drew.alloc (.cells #[] 29) := ⟨_, rfl⟩
                    have r9 := HR9.out
                    rw [← e7, show W6.drew.heap.size = W6.heap.size from rfl] at r9
                    have r14 := HR14.out
                    refine Dk.line_step rfl rfl ?_
                    refine wp_run (v := .slice (some ⟨W6.heap.size, 0, none⟩) 0 0) (w' := W7) (by rw [e7]; go_simp) ⟨trivial, ?_⟩
                    simp only [Act.put, List.setIfInBounds_toArray, List.set_cons_succ, List.set_cons_zero]
                    refine Dk.line_step rfl rfl ?_
                    refine wp_run (v := .slice A9 a C9) (w' := w9) (by simp only [execOp, resolve, invoke, builtin]; simp [Act.eval, r9]) ⟨trivial, ?_⟩
                    simp only [Act.put, List.setIfInBounds_toArray, List.set_cons_succ, List.set_cons_zero]
                    refine Dk.line_step rfl rfl ?_
                    refine wp_run (v := .slice A14 (a + (nr - (a + 1))) C14) (w' := w14) (by simp only [execOp, resolve, invoke, builtin]; simp [Act.eval, r14]) ⟨trivial, ?_⟩
                    simp only [Act.put, List.setIfInBounds_toArray, List.set_cons_succ, List.set_cons_zero]
                    refine Dk.line_step rfl rfl ?_
                    refine wp_run (v := .slice A14 (a + (nr - (a + 1))) C14) (w' := w14) (by go_simp) ⟨trivial, ?_⟩
                    simp only [Act.put, List.setIfInBounds_toArray, List.set_cons_succ, List.set_cons_zero]
                    rename_i hK
                    refine hK _ _ ?_
                    clear hK e7 r9 r14 HR9 HR14 HA x0 x1 x2 x3 d1
                    go_wp2_with fail
                    go_roundw
                    case rel => exact ⟨k + 1, bs, rs.eraseIdx a, by omega, by omega, by go_num, ⟨hfin, hel, hbs⟩⟩
                    case measure => simp [intOf]; omega
            | false =>
              generalize wr = wa at *
              have d2 : wa.cell? ⟨b, o + k * 6 + 2, none⟩ = some (.int .i64 who) := HC.out wa hu 2 _ c2
              have d3 : wa.cell? ⟨b, o + k * 6 + 2 + 1, none⟩ = some (.int .i64 block) := HC.out wa hu 3 _ c3
              have d4 : wa.cell? ⟨b, o + k * 6 + 2 + 2, none⟩ = some (.bool write) := HC.out wa hu 4 _ c4
              have d5 : wa.cell? ⟨b, o + k * 6 + 2 + 3, none⟩ = some (.int .u64 ((x : Nat) : Int)) := HC.out wa hu 5 _ c5
              clear c0 c1 c2 c3 c4 c5 hc hu
              obtain ⟨W3, eW3⟩ : ∃ W3, W3 = wa.alloc (.cells #[.int .i64 0, .int .i64 0, .bool false, .int .u64 0] 29) := ⟨_, rfl⟩
              have hW3 := Db.newBox t eW3
              have bW3 : Dk.Box W3 wa.heap.size #[.int .i64 0, .int .i64 0, .bool false, .int .u64 0] 29 := Db.box hW3 (by simp)
              obtain ⟨W4, eW4⟩ : ∃ W4, W4 = W3.setRow wa.heap.size #[.int .i64 who, .int .i64 block, .bool write, .int .u64 ((x : Nat) : Int)] := ⟨_, rfl⟩
              have h4 := Db.setRow hW3 eW4
              have HW3 : Hid (wa.alloc (.cells #[.int .i64 0, .int .i64 0, .bool false, .int .u64 0] 29) = W3) := eW3.symm
              have HW4 : Hid (W3.setRow wa.heap.size #[.int .i64 who, .int .i64 block, .bool write, .int .u64 ((x : Nat) : Int)] = W4) := eW4.symm
              have HBW3 : Hid (Dk.Box W3 wa.heap.size #[.int .i64 0, .int .i64 0, .bool false, .int .u64 0] 29) := bW3
              clear eW3 eW4 hW3 bW3
              have HT4 : Hid (Dk.Db w W4 bd bs rs (Dk.boxOf wa.heap.size #[.int .i64 who, .int .i64 block, .bool write, .int .u64 ((x : Nat) : Int)] 29 :: R2 (.slice (some ⟨gb, 0, none⟩) n n) u8 bs rs)) := h4
              obtain ⟨A8, C8, ev8, hC8, hm8⟩ := Dk.owns_slice (Db.row h4 (e := 29) (s := 4) (v := u8) (n := rs.length) (xs := Dk.rqs rs) (by simp [R2]))
              subst ev8
              unfold maxLen at hm8
              have HOK : Hid (Dk.Rq.ok ⟨who, block, write, x⟩) := hok
              clear h4 t hok
              go_wp2_with (first | (rw [HW3.out]; clear HW3) | (refine wpList_store_row rfl 29 _ _ rfl wa.heap.size #[.int .i64 who, .int .i64 block, .bool write, .int .u64 ((x : Nat) : Int)] rfl rfl 29 _ HBW3.out.heap rq_size rfl (rq_cells _ _ _ _) ?_; rw [HW4.out]; clear HBW3))
              go_loopw [17, 18] (fun v i w' => ∃ j : Nat, j ≤ rs.length ∧ i = .int .i64 j ∧ v = .int .i64 (told rs who j) ∧ Hid (Below W4.heap.size W4 w')) (fun v i w' => rs.length - (intOf i).toNat)
              case atStart => exact ⟨0, Nat.zero_le _, rfl, rfl, Below.refl _ _⟩
              case round =>
                obtain ⟨j, hj, rfl, hv, HB⟩ := hrel
                clear d0 d1 d2 d3 d4 d5
                have h5 := HT4.out.below HB.out
                by_cases hjl : j < rs.length
                · have hnx := told_next rs who j hjl
                  obtain ⟨g8, C8', ev8, _, _, _, hcs⟩ := req_at (Db.row h5 (e := 29) (s := 4) (v := .slice A8 rs.length C8) (n := rs.length) (xs := Dk.rqs rs) (by simp [R2])) hjl
                  cases ev8
                  have x0 : wr.cell? ⟨g8, j * 4, none⟩ = some (.int .i64 (rs.getD j Dk.Rq.zero).who) := hcs 0 (by omega)
                  have x1 : wr.cell? ⟨wa.heap.size, 0, none⟩ = some (.int .i64 who) := (Db.box h5 (b := wa.heap.size) (cs := #[.int .i64 who, .int .i64 block, .bool write, .int .u64 ((x : Nat) : Int)]) (e := 29) (by simp)).cell 0
                  generalize (rs.getD j Dk.Rq.zero).who = p at *
                  have HNX : Hid (told rs who (j + 1) = if p = who then 4 else told rs who j) := hnx
                  subst hv
                  have z1 : decide ((j : Int) < (rs.length : Int)) = true := by simp; omega
                  have hjL : (j : Int) < (rs.length : Int) := by omega
                  clear hcs h5 hnx
                  generalize rs.length = nr at *
                  by_cases hpw : p = who
                  · subst hpw
                    have HT : Hid (told rs p (j + 1) = 4) := HNX.out.trans (if_pos rfl)
                    go_wp2_with fail
                    go_quiet (fail)
                    go_wp2_with fail
                    go_roundw
                    case rel => exact ⟨j + 1, by omega, by go_num, by rw [HT.out], Dk.up_drewN HB.out _⟩
                    case measure => simp [intOf]; omega
                  · have HT : Hid (told rs who (j + 1) = told rs who j) := HNX.out.trans (if_neg hpw)
                    have z2 : decide (p = who) = false := decide_eq_false hpw
                    have z3 : (p == who) = false := by simpa using hpw
                    go_wp2_with fail
                    go_quiet (fail)
                    go_wp2_with fail
                    go_roundw
                    case rel => exact ⟨j + 1, by omega, by go_num, by rw [HT.out], Dk.up_drewN HB.out _⟩
                    case measure => simp [intOf]; omega
                · have ej : j = rs.length := by omega
                  rw [ej, told_all] at hv
                  have z1 : decide ((j : Int) < (rs.length : Int)) = false := by simp; omega
                  have x0 : wr.cell? ⟨wa.heap.size, 0, none⟩ = some (.int .i64 who) := (Db.box h5 (b := wa.heap.size) (cs := #[.int .i64 who, .int .i64 block, .bool write, .int .u64 ((x : Nat) : Int)]) (e := 29) (by simp)).cell 0
                  have x1 : wr.cell? ⟨wa.heap.size, 1, none⟩ = some (.int .i64 block) := (Db.box h5 (b := wa.heap.size) (cs := #[.int .i64 who, .int .i64 block, .bool write, .int .u64 ((x : Nat) : Int)]) (e := 29) (by simp)).cell 1
                  have x2 : wr.cell? ⟨wa.heap.size, 2, none⟩ = some (.bool write) := (Db.box h5 (b := wa.heap.size) (cs := #[.int .i64 who, .int .i64 block, .bool write, .int .u64 ((x : Nat) : Int)]) (e := 29) (by simp)).cell 2
                  have x3 : wr.cell? ⟨wa.heap.size, 3, none⟩ = some (.int .u64 ((x : Nat) : Int)) := (Db.box h5 (b := wa.heap.size) (cs := #[.int .i64 who, .int .i64 block, .bool write, .int .u64 ((x : Nat) : Int)]) (e := 29) (by simp)).cell 3
                  have hok := HOK.out
                  clear HT4 HB HOK HC HC1 ej
                  by_cases hb0 : block < 0
                  · have z2 : decide (block < 0) = true := by simpa using hb0
                    subst hv
                    have K := Ask_arg h5 who block write x (.inl (by omega))
                    clear h5
                    go_wp2_with fail
                    refine K.mono ?_
                    rintro e w6 ⟨rfl, h6⟩
                    have h7 := Db.drop h6
                    clear K h6
                    go_wp2_with fail
                    go_roundw
                    case rel => exact ⟨k + 1, bs, rs, by omega, by omega, by go_num, ⟨h7, by omega, hbs⟩⟩
                    case measure => simp [intOf]; omega
                  · have z2 : decide (block < 0) = false := by simpa using hb0
                    by_cases hb1 : (n : Int) ≤ block
                    · have z3 : decide ((n : Int) ≤ block) = true := by simpa using hb1
                      have z4 : decide (block ≥ (n : Int)) = true := by simpa using hb1
                      subst hv
                      have K := Ask_arg h5 who block write x (.inr (by omega))
                      clear h5
                      go_wp2_with fail
                      refine K.mono ?_
                      rintro e w6 ⟨rfl, h6⟩
                      have h7 := Db.drop h6
                      clear K h6
                      go_wp2_with fail
                      go_roundw
                      case rel => exact ⟨k + 1, bs, rs, by omega, by omega, by go_num, ⟨h7, by omega, hbs⟩⟩
                      case measure => simp [intOf]; omega
                    · obtain ⟨bk, ebk⟩ : ∃ bk : Nat, block = bk := ⟨block.toNat, (Int.toNat_of_nonneg (by omega)).symm⟩
                      subst ebk
                      have z3 : decide ((n : Int) ≤ (bk : Int)) = false := by simp; omega
                      have z4 : decide (n ≤ bk) = false := by simp; omega
                      have z5 : ¬ n ≤ bk := by omega
                      cases hwt : Dk.waits rs who with
                      | true =>
                        rw [hwt, if_pos rfl] at hv
                        subst hv
                        have K := Ask_busy h5 who bk write x (by omega) hwt
                        clear h5
                        go_wp2_with fail
                        refine K.mono ?_
                        rintro e w6 ⟨rfl, h6⟩
                        have h7 := Db.drop h6
                        clear K h6
                        go_wp2_with fail
                        go_roundw
                        case rel => exact ⟨k + 1, bs, rs, by omega, by omega, by go_num, ⟨h7, by omega, hbs⟩⟩
                        case measure => simp [intOf]; omega
                      | false =>
                        rw [hwt, if_neg (by simp)] at hv
                        subst hv
                        have K := Ask_ok h5 who bk write x (by omega) hwt hok (by omega)
                        clear h5
                        go_wp2_with fail
                        refine K.mono ?_
                        rintro e w6 ⟨rfl, h6⟩
                        have HH := h6
                        have t0 : w6.cell? ⟨wa.heap.size, 0, none⟩ = some (.int .i64 who) := (Db.box HH (b := wa.heap.size) (cs := #[.int .i64 who, .int .i64 (bk : Int), .bool write, .int .u64 ((x : Nat) : Int)]) (e := 29) (by simp [R2])).cell 0
                        have t1 : w6.cell? ⟨wa.heap.size, 1, none⟩ = some (.int .i64 (bk : Int)) := (Db.box HH (b := wa.heap.size) (cs := #[.int .i64 who, .int .i64 (bk : Int), .bool write, .int .u64 ((x : Nat) : Int)]) (e := 29) (by simp [R2])).cell 1
                        have t2 : w6.cell? ⟨wa.heap.size, 2, none⟩ = some (.bool write) := (Db.box HH (b := wa.heap.size) (cs := #[.int .i64 who, .int .i64 (bk : Int), .bool write, .int .u64 ((x : Nat) : Int)]) (e := 29) (by simp [R2])).cell 2
                        have t3 : w6.cell? ⟨wa.heap.size, 3, none⟩ = some (.int .u64 ((x : Nat) : Int)) := (Db.box HH (b := wa.heap.size) (cs := #[.int .i64 who, .int .i64 (bk : Int), .bool write, .int .u64 ((x : Nat) : Int)]) (e := 29) (by simp [R2])).cell 3
                        obtain ⟨A8, C8, v8, w8, ev8, r8, h8⟩ := Db.append (us1 := [Dk.boxOf wa.heap.size #[.int .i64 who, .int .i64 (bk : Int), .bool write, .int .u64 ((x : Nat) : Int)] 29, Dk.rowOf 27 1 (.slice (some ⟨gb, 0, none⟩) n n) bs.length (Dk.uw bs)]) (us2 := []) h6 ⟨who, (bk : Int), write, x⟩ (by omega)
                        cases ev8
                        have h9 : Dk.Db w w8 bd bs (rs ++ [⟨who, (bk : Int), write, x⟩]) (R2 (.slice (some ⟨gb, 0, none⟩) n n) v8 bs (rs ++ [⟨who, (bk : Int), write, x⟩])) := Db.drop h8
                        have hl9 : (rs ++ [(⟨who, (bk : Int), write, x⟩ : Dk.Rq)]).length ≤ k + 1 := by simp; omega
                        generalize rs ++ [(⟨who, (bk : Int), write, x⟩ : Dk.Rq)] = rs9 at *
                        clear K h6 h8 HH
                        go_wp2_with (at_builtin; refine Lib.wpList_append_run _ rfl _ _ _ _ rfl _ _ rfl rfl _ _ r8 ?_)
                        go_roundw
                        case rel => exact ⟨k + 1, bs, rs9, by omega, by omega, by go_num, ⟨h9, hl9, hbs⟩⟩
                        case measure => simp [intOf]; omega
          · have y2 : decide ((k : Int) < 80) = false := by simp; omega
            have y1 : decide ((k : Int) < (L : Int)) = true := by simp; omega
            generalize wr = wa at *
            have HT : Hid (Dk.Db w wa bd bs rs (R2 (.slice (some ⟨gb, 0, none⟩) n n) u8 bs rs)) := t
            obtain ⟨A8, C8, ev8, hC8, hm8⟩ := Dk.owns_slice (Db.row t (e := 29) (s := 4) (v := u8) (n := rs.length) (xs := Dk.rqs rs) (by simp [R2]))
            subst ev8
            clear t hu
            go_wp2_with fail
            go_loopw [19] (fun v w' => ∃ z : Int, v = .int .i64 z ∧ (z = -1 ∨ ∃ j : Nat, z = (j : Int) ∧ j ≤ n + 1) ∧ Hid (w' = wa)) (fun v w' => n + 2 - (intOf v + 1).toNat)
            case atStart => exact ⟨_, rfl, .inl rfl, rfl⟩
            case round =>
              obtain ⟨z, rfl, hz, HW⟩ := hrel
              have ew := HW.out
              subst ew
              clear HW
              rcases hz with rfl | ⟨j, rfl, hj⟩
              · generalize wr = wa at *
                have K : Calls Try.prog 9 #[.pointer (some ⟨bd, 0, none⟩), .int .i64 (-1)] wa fun e w' => e = .returned (.tuple #[.int .u64 0, .bool false]) ∧ w' = wa := Block_no HT.out (-1) (.inl (by decide))
                have z1 : decide ((-1 : Int) ≤ (n : Int)) = true := decide_eq_true (by omega)
                have z2 : (-1 : Int) ≤ (n : Int) := by omega
                go_wp2_with fail
                refine K.mono ?_
                rintro e w' ⟨rfl, hw'⟩
                subst w'
                clear K
                go_wp2_with fail
                go_roundw
                case rel => exact ⟨_, rfl, .inr ⟨0, rfl, by omega⟩, True.intro⟩
                case measure => first | (simp [intOf]; done) | (simp [intOf]; omega)
              · generalize wr = wa at *
                by_cases hj1 : j < n
                · have K : Calls Try.prog 9 #[.pointer (some ⟨bd, 0, none⟩), .int .i64 (j : Int)] wa fun e w' => e = .returned (.tuple #[.int .u64 (bs.getD j 0 : Nat), .bool true]) ∧ w' = wa := Block_yes HT.out j (by omega)
                  obtain ⟨gq, Cq, evq, _, _, cg, _, _⟩ := Db.word (us1 := []) (us2 := [Dk.rowOf 29 4 (.slice A8 rs.length C8) rs.length (Dk.rqs rs)]) HT.out j (by omega)
                  obtain ⟨egq, _⟩ : gq = gb ∧ Cq = n := by
                    injection evq with e1 e2 e3
                    injection e1 with e1
                    injection e1 with e1
                    exact ⟨e1.symm, e3.symm⟩
                  subst egq
                  clear evq
                  generalize bs.getD j 0 = y at *
                  have z1 : decide ((j : Int) ≤ (n : Int)) = true := by simp; omega
                  have z2 : decide ((j : Int) < (n : Int)) = true := by simp; omega
                  have z3 : decide (j ≤ n) = true := by simp; omega
                  have z4 : decide (j < n) = true := by simp; omega
                  have hjn : (j : Int) < (n : Int) := by omega
                  go_wp2_with fail
                  refine K.mono ?_
                  rintro e w' ⟨rfl, hw'⟩
                  subst w'
                  clear K
                  go_wp2_with fail
                  go_roundw
                  case rel => exact ⟨_, by go_num, .inr ⟨j + 1, rfl, by omega⟩, True.intro⟩
                  case measure => first | (simp [intOf]; done) | (simp [intOf]; omega)
                · by_cases hj2 : j < n + 1
                  · have ej : j = n := by omega
                    subst ej
                    have K : Calls Try.prog 9 #[.pointer (some ⟨bd, 0, none⟩), .int .i64 (j : Int)] wa fun e w' => e = .returned (.tuple #[.int .u64 0, .bool false]) ∧ w' = wa := Block_no HT.out (j : Int) (.inr (by omega))
                    go_wp2_with fail
                    refine K.mono ?_
                    rintro e w' ⟨rfl, hw'⟩
                    subst w'
                    clear K
                    go_wp2_with fail
                    go_roundw
                    case rel => exact ⟨_, by go_num, .inr ⟨j + 1, rfl, by omega⟩, True.intro⟩
                    case measure => first | (simp [intOf]; done) | (simp [intOf]; omega)
                  · have z1 : decide ((j : Int) ≤ (n : Int)) = false := by simp; omega
                    have z3 : decide (j ≤ n) = false := by simp; omega
                    have z4 : ¬ j ≤ n := by omega
                    have hrl : rs.length ≤ 1000 := by omega
                    go_wp2_with fail
                    refine (awake_any wa).mono ?_
                    rintro e w2 ⟨rfl, u2⟩
                    have h2 := HT.out.below u2
                    have KW := Wait_any h2 hrl
                    go_wp2_with fail
                    refine KW.mono ?_
                    rintro e w3 ⟨A3, C3, rfl, h3, _, HO⟩
                    have KS := same_any _ _ A3 A8 C3 C8 rs w3 HO.out (Db.row h3 (e := 29) (s := 4) (v := .slice A8 rs.length C8) (n := rs.length) (xs := Dk.rqs rs) (by simp [R2]))
                    have HU : Hid (Below w.heap.size w w3) := h3.out
                    clear KW h2 h3 HO
                    go_wp2_with fail
                    refine KS.mono ?_
                    rintro e w4 ⟨rfl, u4⟩
                    clear KS
                    go_wp2_with fail
                    go_ret
                    exact ⟨rfl, Dk.up_call HU.out u4⟩
        · have y1 : decide ((k : Int) < (L : Int)) = false := by simp; omega
          generalize wr = wa at *
          have HT : Hid (Dk.Db w wa bd bs rs (R2 (.slice (some ⟨gb, 0, none⟩) n n) u8 bs rs)) := t
          obtain ⟨A8, C8, ev8, hC8, hm8⟩ := Dk.owns_slice (Db.row t (e := 29) (s := 4) (v := u8) (n := rs.length) (xs := Dk.rqs rs) (by simp [R2]))
          subst ev8
          clear t hu
          go_wp2_with fail
          go_loopw [19] (fun v w' => ∃ z : Int, v = .int .i64 z ∧ (z = -1 ∨ ∃ j : Nat, z = (j : Int) ∧ j ≤ n + 1) ∧ Hid (w' = wa)) (fun v w' => n + 2 - (intOf v + 1).toNat)
          case atStart => exact ⟨_, rfl, .inl rfl, rfl⟩
          case round =>
            obtain ⟨z, rfl, hz, HW⟩ := hrel
            have ew := HW.out
            subst ew
            clear HW
            rcases hz with rfl | ⟨j, rfl, hj⟩
            · generalize wr = wa at *
              have K : Calls Try.prog 9 #[.pointer (some ⟨bd, 0, none⟩), .int .i64 (-1)] wa fun e w' => e = .returned (.tuple #[.int .u64 0, .bool false]) ∧ w' = wa := Block_no HT.out (-1) (.inl (by decide))
              have z1 : decide ((-1 : Int) ≤ (n : Int)) = true := decide_eq_true (by omega)
              have z2 : (-1 : Int) ≤ (n : Int) := by omega
              go_wp2_with fail
              refine K.mono ?_
              rintro e w' ⟨rfl, hw'⟩
              subst w'
              clear K
              go_wp2_with fail
              go_roundw
              case rel => exact ⟨_, rfl, .inr ⟨0, rfl, by omega⟩, True.intro⟩
              case measure => first | (simp [intOf]; done) | (simp [intOf]; omega)
            · generalize wr = wa at *
              by_cases hj1 : j < n
              · have K : Calls Try.prog 9 #[.pointer (some ⟨bd, 0, none⟩), .int .i64 (j : Int)] wa fun e w' => e = .returned (.tuple #[.int .u64 (bs.getD j 0 : Nat), .bool true]) ∧ w' = wa := Block_yes HT.out j (by omega)
                obtain ⟨gq, Cq, evq, _, _, cg, _, _⟩ := Db.word (us1 := []) (us2 := [Dk.rowOf 29 4 (.slice A8 rs.length C8) rs.length (Dk.rqs rs)]) HT.out j (by omega)
                obtain ⟨egq, _⟩ : gq = gb ∧ Cq = n := by
                  injection evq with e1 e2 e3
                  injection e1 with e1
                  injection e1 with e1
                  exact ⟨e1.symm, e3.symm⟩
                subst egq
                clear evq
                generalize bs.getD j 0 = y at *
                have z1 : decide ((j : Int) ≤ (n : Int)) = true := by simp; omega
                have z2 : decide ((j : Int) < (n : Int)) = true := by simp; omega
                have z3 : decide (j ≤ n) = true := by simp; omega
                have z4 : decide (j < n) = true := by simp; omega
                have hjn : (j : Int) < (n : Int) := by omega
                go_wp2_with fail
                refine K.mono ?_
                rintro e w' ⟨rfl, hw'⟩
                subst w'
                clear K
                go_wp2_with fail
                go_roundw
                case rel => exact ⟨_, by go_num, .inr ⟨j + 1, rfl, by omega⟩, True.intro⟩
                case measure => first | (simp [intOf]; done) | (simp [intOf]; omega)
              · by_cases hj2 : j < n + 1
                · have ej : j = n := by omega
                  subst ej
                  have K : Calls Try.prog 9 #[.pointer (some ⟨bd, 0, none⟩), .int .i64 (j : Int)] wa fun e w' => e = .returned (.tuple #[.int .u64 0, .bool false]) ∧ w' = wa := Block_no HT.out (j : Int) (.inr (by omega))
                  go_wp2_with fail
                  refine K.mono ?_
                  rintro e w' ⟨rfl, hw'⟩
                  subst w'
                  clear K
                  go_wp2_with fail
                  go_roundw
                  case rel => exact ⟨_, by go_num, .inr ⟨j + 1, rfl, by omega⟩, True.intro⟩
                  case measure => first | (simp [intOf]; done) | (simp [intOf]; omega)
                · have z1 : decide ((j : Int) ≤ (n : Int)) = false := by simp; omega
                  have z3 : decide (j ≤ n) = false := by simp; omega
                  have z4 : ¬ j ≤ n := by omega
                  have hrl : rs.length ≤ 1000 := by omega
                  go_wp2_with fail
                  refine (awake_any wa).mono ?_
                  rintro e w2 ⟨rfl, u2⟩
                  have h2 := HT.out.below u2
                  have KW := Wait_any h2 hrl
                  go_wp2_with fail
                  refine KW.mono ?_
                  rintro e w3 ⟨A3, C3, rfl, h3, _, HO⟩
                  have KS := same_any _ _ A3 A8 C3 C8 rs w3 HO.out (Db.row h3 (e := 29) (s := 4) (v := .slice A8 rs.length C8) (n := rs.length) (xs := Dk.rqs rs) (by simp [R2]))
                  have HU : Hid (Below w.heap.size w w3) := h3.out
                  clear KW h2 h3 HO
                  go_wp2_with fail
                  refine KS.mono ?_
                  rintro e w4 ⟨rfl, u4⟩
                  clear KS
                  go_wp2_with fail
                  go_ret
                  exact ⟨rfl, Dk.up_call HU.out u4⟩
end Go.Proofs.Ytpknboeobldbpaa
