/- The walk of the statement on a pipe against the document's own answer. -/
import Derived.Test.YtnoeigmcanggdaaTx
import Derived.Test.YtnoeigmcanggdaaTf
import Derived.Deep.CutRange
namespace Go.Proofs.Ytnoeigmcanggdaa
set_option linter.unusedSimpArgs false
set_option linter.unusedVariables false
set_option linter.unnecessarySimpa false
open Go.RowKit Go.Lib

/-- A pipe, and the document's own answer for it. -/
def Pl (W w : World) (bt : Nat) (room : Int) (k : Nat) (ws : List Nat) (ps : List (Int × Nat)) (gs : List Int) (va vb vc vd : Value) : Prop :=
  Hid (Dk.Tb W w bt room ws ps gs (R4 va vb vc vd ws (ps.map Prod.fst) gs (ps.map Prod.snd)) ∧ ws.length ≤ k ∧ ps.length ≤ k ∧ gs.length ≤ k)
theorem Pl.out {W w : World} {bt k : Nat} {room : Int} {ws : List Nat} {ps : List (Int × Nat)} {gs : List Int} {va vb vc vd : Value} (h : Pl W w bt room k ws ps gs va vb vc vd) : Below W.heap.size W w := (Hid.out h).1.out
theorem fit_fst {ws : List Nat} {ps : List (Int × Nat)} {gs : List Int} (f : Dk.Fit ws ps gs) : ∀ x ∈ ps.map Prod.fst, Dk.i64 x := fun x hx => by
  obtain ⟨p, hp, rfl⟩ := List.mem_map.1 hx
  exact (f.ps p hp).1
theorem fit_snd {ws : List Nat} {ps : List (Int × Nat)} {gs : List Int} (f : Dk.Fit ws ps gs) : ∀ x ∈ ps.map Prod.snd, x < 2 ^ 64 := fun x hx => by
  obtain ⟨p, hp, rfl⟩ := List.mem_map.1 hx
  exact (f.ps p hp).2
theorem most_1 {room : Int} (h : room < 1) : Dk.most room = 1 := by unfold Dk.most; rw [if_pos h]
theorem most_8 {room : Int} (h : 8 < room) : Dk.most room = 8 := by unfold Dk.most; rw [if_neg (by omega), if_pos h]
theorem most_r {room : Int} (h : ¬ room < 1) (h8 : ¬ 8 < room) : (Dk.most room : Int) = room := by unfold Dk.most; rw [if_neg h, if_neg h8]; omega

set_option maxRecDepth 100000 in
set_option maxHeartbeats 8000000 in
theorem TubePlays_any (room : Int) (A : Option Addr) (L C : Nat) (xs : List Dk.TAct) (w : World) (hr : Dk.Row 3 Dk.TAct.zero Dk.IsTAct w.heap.size w A L C xs) :
    Calls Try.prog 3 #[.int .i64 room, .slice A L C] w fun e w' => e = .returned (.bool true) ∧ Below w.heap.size w w' := by
  have hcap := hr.cap
  have hmax := hr.max
  unfold maxLen at hmax
  have HR : Hid (Dk.Row 3 Dk.TAct.zero Dk.IsTAct w.heap.size w A L C xs) := hr
  clear hr
  obtain ⟨p, hp1, hp2⟩ : ∃ p : Int, (room < 1 → p = 1) ∧ (¬ room < 1 → p = room) := ⟨if room < 1 then 1 else room, fun h => if_pos h, fun h => if_neg h⟩
  obtain ⟨mm, hmm⟩ : ∃ mm, Dk.most room = mm := ⟨_, rfl⟩
  have h8 : 8 < p → (mm : Int) = 8 := fun h => by
    by_cases h1 : room < 1
    · have := hp1 h1; omega
    · have := hp2 h1; have := most_8 (room := room) (by omega); omega
  have h7 : ¬ 8 < p → (mm : Int) = p := fun h => by
    by_cases h1 : room < 1
    · have := hp1 h1; have := most_1 h1; omega
    · have := hp2 h1; have := most_r h1 (by omega); omega
  have HP1 : Hid (room < 1 → p = 1) := hp1
  have HP2 : Hid (1 ≤ room → p = room) := fun h => hp2 (by omega)
  have H8 : Hid (8 < p → (mm : Int) = 8) := h8
  have H7 : Hid (p ≤ 8 → (mm : Int) = p) := fun h => h7 (by omega)
  have HM : Hid (Dk.most room = mm) := hmm
  clear hp1 hp2 h8 h7 hmm
  go_enter Try.func3, Try.ntmps3
  go_wp2_with fail
  refine (New_any (Dk.Sep.begin (Below.refl _ w)) room).mono ?_
  rintro e w1 ⟨rfl, h1⟩
  obtain ⟨bt, ebt⟩ : ∃ bt, w.heap.size = bt := ⟨_, rfl⟩
  rw [show (Value.pointer (some ⟨w.heap.size, 0, none⟩)) = .pointer (some ⟨bt, 0, none⟩) by rw [ebt]]
  rw [ebt] at h1
  clear ebt
  go_upto_if 33 with fail
  go_cut [6] from 29 to 35 (fun v w' => v = .int .i64 p ∧ w' = w1)
  case first =>
    by_cases h : room < 1
    · go_wp2_with fail
      go_meet
      exact ⟨by rw [HP1.out h], rfl⟩
    · go_wp2_with fail
      go_meet
      exact ⟨by rw [HP2.out (by omega)], rfl⟩
  case rest =>
    obtain ⟨rfl, hw⟩ := hcut
    subst wc
    clear HP1 HP2
    go_upto_if 35 with fail
    go_cut [6] from 29 to 35 (fun v w' => v = .int .i64 (mm : Int) ∧ w' = w1)
    case first =>
      by_cases h : 8 < p
      · go_wp2_with fail
        go_meet
        exact ⟨by rw [H8.out h], rfl⟩
      · go_wp2_with fail
        go_meet
        exact ⟨by rw [H7.out (by omega)], rfl⟩
    case rest =>
      obtain ⟨rfl, hw⟩ := hcut
      subst wc
      clear H8 H7
      have t0 : Pl w ((((w1.alloc (.cells #[] 27)).alloc (.cells #[] 3)).alloc (.cells #[] 3)).alloc (.cells #[] 27)) bt room 0 [] [] [] (.slice (some ⟨w1.heap.size, 0, none⟩) 0 0) (.slice (some ⟨w1.heap.size + 1, 0, none⟩) 0 0) (.slice (some ⟨w1.heap.size + 1 + 1, 0, none⟩) 0 0) (.slice (some ⟨w1.heap.size + 1 + 1 + 1, 0, none⟩) 0 0) := by
        have s1 := Tb.empty (e := 27) (s := 1) h1 rfl
        have s2 := Tb.empty (e := 3) (s := 1) s1 rfl
        have s3 := Tb.empty (e := 3) (s := 1) s2 rfl
        have s4 := Tb.empty (e := 27) (s := 1) s3 rfl
        simp only [World.size_alloc] at s2 s3 s4
        exact ⟨Tb.map s4 (fun ts s => s.perm ((List.reverse_perm _).symm.append_right ts)), by simp, by simp, by simp⟩
      clear h1
      go_wp2_with fail
      go_loopw [7, 8, 9, 10, 11] (fun va vb vc vd i w' => ∃ (k : Nat) (ws : List Nat) (ps : List (Int × Nat)) (gs : List Int), k ≤ L ∧ k ≤ 80 ∧ i = .int .i64 k ∧ Pl w w' bt room k ws ps gs va vb vc vd) (fun va vb vc vd i w' => L - (intOf i).toNat)
      case atStart => exact ⟨0, [], [], [], Nat.zero_le _, Nat.zero_le _, rfl, t0⟩
      case round =>
        obtain ⟨k, ws, ps, gs, hk, hk8, rfl, hP⟩ := hrel
        clear t0
        obtain ⟨t, hl1, hl2, hl3⟩ := Hid.out hP
        clear hP
        have hu : Below w.heap.size w wr := t.out
        by_cases hlt : k < L
        · by_cases hlt8 : k < 80
          · obtain ⟨b, o, g, who, x, rfl, hb, c0, c1, c2, hi, hx⟩ := act_cell HR.out hlt
            have d0 : ∀ q, (wr.drewN q).cell? ⟨b, o + k * 3, none⟩ = some (.bool g) := fun q => by rw [(Dk.up_drewN hu q).cell (by exact hb)]; exact c0
            have d1 : wr.cell? ⟨b, o + k * 3 + 1, none⟩ = some (.int .i64 who) := by rw [hu.cell (by exact hb)]; exact c1
            have d2 : wr.cell? ⟨b, o + k * 3 + 2, none⟩ = some (.int .u64 ((x : Nat) : Int)) := by rw [hu.cell (by exact hb)]; exact c2
            have y1 : decide ((k : Int) < (L : Int)) = true := by simp; omega
            have y2 : decide ((k : Int) < 80) = true := by simp; omega
            have hkL : (k : Int) < (L : Int) := by omega
            clear c0 c1 c2
            cases g with
            | true =>
              cases hr1 : (ps.map Prod.fst).contains who with
              | true =>
                obtain ⟨bl, ebl⟩ : ∃ bl, ps.map Prod.fst = bl := ⟨_, rfl⟩
                obtain ⟨dl, edl⟩ : ∃ dl, ps.map Prod.snd = dl := ⟨_, rfl⟩
                have fb := fit_fst t.fit
                have fc := t.fit.gs
                have hbl : bl.length = ps.length := by rw [← ebl, List.length_map]
                have hdl : dl.length = ps.length := by rw [← edl, List.length_map]
                rw [ebl, edl] at t
                rw [ebl] at fb hr1
                obtain ⟨Ab, Cb, evb, sb⟩ : ∃ A C, u8 = .slice A (bl.length) C ∧ Dk.SlI wr.heap.size wr A (bl.length) C (bl) := R4.ints t (v := u8) (xs := bl) (List.Mem.tail _ (List.Mem.head _)) fb
                subst evb
                obtain ⟨Ac, Cc, evc, sc⟩ : ∃ A C, u9 = .slice A (gs.length) C ∧ Dk.SlI wr.heap.size wr A (gs.length) C (gs) := R4.ints t (v := u9) (xs := gs) (List.Mem.tail _ (List.Mem.tail _ (List.Mem.head _))) fc
                subst evc
                have KB : ∀ q, Calls Try.prog 7 #[.slice Ab (bl.length) Cb, .int .i64 who] (wr.drewN q) fun e w' => e = .returned (.bool true) ∧ w' = wr.drewN q := fun q => by
                  rw [← hr1]
                  exact In_any _ _ _ _ who _ (sli_up sb (Dk.up_drewN (Below.refl _ _) q))
                have HB : Hid _ := KB
                have hw : Dk.waits ps gs who = true := by rw [waits_eq, ebl, hr1]; rfl
                have KT : ∀ q, Calls Try.prog 8 #[.pointer (some ⟨bt, 0, none⟩), .int .i64 who] (wr.drewN q) fun e w' => e = .returned (.tuple #[.int .u64 0, .bool false, .int .i64 0, .bool false]) ∧ Dk.Tb w w' bt room ws ps gs (R4 u7 (.slice Ab bl.length Cb) (.slice Ac gs.length Cc) u10 ws bl gs dl) := fun q => Get_waits (t.below (Dk.up_drewN (Below.refl _ _) q)) who hw
                have HT : Hid _ := KT
                have HEb : Hid (ps.map Prod.fst = bl) := ebl
                have HEd : Hid (ps.map Prod.snd = dl) := edl
                clear KT KB hw t sb sc fb fc hr1 ebl edl hbl hdl
                go_wp2_with fail
                go_quiet (fail)
                go_wp2_with fail
                refine (HB.out _).mono ?_
                rintro e w' ⟨rfl, hw'⟩
                subst w'
                clear HB
                go_wp2_with fail
                refine (HT.out _).mono ?_
                rintro e w2 ⟨rfl, t2⟩
                go_wp2_with fail
                go_roundw
                case rel => exact ⟨k + 1, ws, ps, gs, by omega, by omega, by go_num, ⟨by rw [HEb.out, HEd.out]; exact t2, by omega, by omega, by omega⟩⟩
                case measure => simp [intOf]; omega
              | false =>
                cases hr2 : gs.contains who with
                | true =>
                  obtain ⟨bl, ebl⟩ : ∃ bl, ps.map Prod.fst = bl := ⟨_, rfl⟩
                  obtain ⟨dl, edl⟩ : ∃ dl, ps.map Prod.snd = dl := ⟨_, rfl⟩
                  have fb := fit_fst t.fit
                  have fc := t.fit.gs
                  have hbl : bl.length = ps.length := by rw [← ebl, List.length_map]
                  have hdl : dl.length = ps.length := by rw [← edl, List.length_map]
                  rw [ebl, edl] at t
                  rw [ebl] at fb hr1
                  obtain ⟨Ab, Cb, evb, sb⟩ : ∃ A C, u8 = .slice A (bl.length) C ∧ Dk.SlI wr.heap.size wr A (bl.length) C (bl) := R4.ints t (v := u8) (xs := bl) (List.Mem.tail _ (List.Mem.head _)) fb
                  subst evb
                  obtain ⟨Ac, Cc, evc, sc⟩ : ∃ A C, u9 = .slice A (gs.length) C ∧ Dk.SlI wr.heap.size wr A (gs.length) C (gs) := R4.ints t (v := u9) (xs := gs) (List.Mem.tail _ (List.Mem.tail _ (List.Mem.head _))) fc
                  subst evc
                  have KB : ∀ q, Calls Try.prog 7 #[.slice Ab (bl.length) Cb, .int .i64 who] (wr.drewN q) fun e w' => e = .returned (.bool false) ∧ w' = wr.drewN q := fun q => by
                    rw [← hr1]
                    exact In_any _ _ _ _ who _ (sli_up sb (Dk.up_drewN (Below.refl _ _) q))
                  have HB : Hid _ := KB
                  have KC : ∀ q, Calls Try.prog 7 #[.slice Ac (gs.length) Cc, .int .i64 who] (wr.drewN q) fun e w' => e = .returned (.bool true) ∧ w' = wr.drewN q := fun q => by
                    rw [← hr2]
                    exact In_any _ _ _ _ who _ (sli_up sc (Dk.up_drewN (Below.refl _ _) q))
                  have HC : Hid _ := KC
                  have hw : Dk.waits ps gs who = true := by rw [waits_eq, ebl, hr1, hr2]; rfl
                  have KT : ∀ q, Calls Try.prog 8 #[.pointer (some ⟨bt, 0, none⟩), .int .i64 who] (wr.drewN q) fun e w' => e = .returned (.tuple #[.int .u64 0, .bool false, .int .i64 0, .bool false]) ∧ Dk.Tb w w' bt room ws ps gs (R4 u7 (.slice Ab bl.length Cb) (.slice Ac gs.length Cc) u10 ws bl gs dl) := fun q => Get_waits (t.below (Dk.up_drewN (Below.refl _ _) q)) who hw
                  have HT : Hid _ := KT
                  have HEb : Hid (ps.map Prod.fst = bl) := ebl
                  have HEd : Hid (ps.map Prod.snd = dl) := edl
                  clear KT KB KC hw t sb sc fb fc hr1 hr2 ebl edl hbl hdl
                  go_wp2_with fail
                  go_quiet (fail)
                  go_wp2_with fail
                  refine (HB.out _).mono ?_
                  rintro e w' ⟨rfl, hw'⟩
                  subst w'
                  clear HB
                  go_wp2_with fail
                  refine (HC.out _).mono ?_
                  rintro e w' ⟨rfl, hw'⟩
                  subst w'
                  clear HC
                  go_wp2_with fail
                  refine (HT.out _).mono ?_
                  rintro e w2 ⟨rfl, t2⟩
                  go_wp2_with fail
                  go_roundw
                  case rel => exact ⟨k + 1, ws, ps, gs, by omega, by omega, by go_num, ⟨by rw [HEb.out, HEd.out]; exact t2, by omega, by omega, by omega⟩⟩
                  case measure => simp [intOf]; omega
                | false =>
                  have hw : Dk.waits ps gs who = false := by rw [waits_eq, hr1, hr2]; rfl
                  cases ws with
                  | nil =>
                    obtain ⟨bl, ebl⟩ : ∃ bl, ps.map Prod.fst = bl := ⟨_, rfl⟩
                    obtain ⟨dl, edl⟩ : ∃ dl, ps.map Prod.snd = dl := ⟨_, rfl⟩
                    have fb := fit_fst t.fit
                    have fc := t.fit.gs
                    have hbl : bl.length = ps.length := by rw [← ebl, List.length_map]
                    have hdl : dl.length = ps.length := by rw [← edl, List.length_map]
                    rw [ebl, edl] at t
                    rw [ebl] at fb hr1
                    obtain ⟨Ab, Cb, evb, sb⟩ : ∃ A C, u8 = .slice A (bl.length) C ∧ Dk.SlI wr.heap.size wr A (bl.length) C (bl) := R4.ints t (v := u8) (xs := bl) (List.Mem.tail _ (List.Mem.head _)) fb
                    subst evb
                    obtain ⟨Ac, Cc, evc, sc⟩ : ∃ A C, u9 = .slice A (gs.length) C ∧ Dk.SlI wr.heap.size wr A (gs.length) C (gs) := R4.ints t (v := u9) (xs := gs) (List.Mem.tail _ (List.Mem.tail _ (List.Mem.head _))) fc
                    subst evc
                    obtain ⟨Aa, Ca, eva, _⟩ : ∃ A C, u7 = .slice A 0 C ∧ _ := R4.words t (v := u7) (xs := []) (List.Mem.head _) (fun x hx => absurd hx (by simp))
                    subst eva
                    have KB : ∀ q, Calls Try.prog 7 #[.slice Ab (bl.length) Cb, .int .i64 who] (wr.drewN q) fun e w' => e = .returned (.bool false) ∧ w' = wr.drewN q := fun q => by
                      rw [← hr1]
                      exact In_any _ _ _ _ who _ (sli_up sb (Dk.up_drewN (Below.refl _ _) q))
                    have HB : Hid _ := KB
                    have KC : ∀ q, Calls Try.prog 7 #[.slice Ac (gs.length) Cc, .int .i64 who] (wr.drewN q) fun e w' => e = .returned (.bool false) ∧ w' = wr.drewN q := fun q => by
                      rw [← hr2]
                      exact In_any _ _ _ _ who _ (sli_up sc (Dk.up_drewN (Below.refl _ _) q))
                    have HC : Hid _ := KC
                    have KT : ∀ q, Calls Try.prog 8 #[.pointer (some ⟨bt, 0, none⟩), .int .i64 who] (wr.drewN q) fun e w' => e = .returned (.tuple #[.int .u64 0, .bool false, .int .i64 0, .bool false]) ∧ Dk.Tb w w' bt room [] ps (gs ++ [who]) (R4 (.slice Aa 0 Ca) (.slice Ab bl.length Cb) (.slice Ac gs.length Cc) u10 [] bl gs dl) := fun q => Get_none (t.below (Dk.up_drewN (Below.refl _ _) q)) who hw hi (by omega)
                    have HT : Hid _ := KT
                    have HEb : Hid (ps.map Prod.fst = bl) := ebl
                    have HEd : Hid (ps.map Prod.snd = dl) := edl
                    clear KT KB KC hw t sb sc fb fc hr1 hr2 ebl edl hbl hdl
                    go_wp2_with fail
                    go_quiet (fail)
                    go_wp2_with fail
                    refine (HB.out _).mono ?_
                    rintro e w' ⟨rfl, hw'⟩
                    subst w'
                    clear HB
                    go_wp2_with fail
                    refine (HC.out _).mono ?_
                    rintro e w' ⟨rfl, hw'⟩
                    subst w'
                    clear HC
                    go_wp2_with fail
                    refine (HT.out _).mono ?_
                    rintro e w2 ⟨rfl, t2⟩
                    obtain ⟨v3, w3, r3, t3⟩ := R4.addC t2 who (by omega)
                    clear t2
                    go_wp2_with (at_builtin; first | (refine Lib.wpList_append_run _ rfl _ _ _ _ rfl _ _ rfl rfl _ _ r3 ?_))
                    go_roundw
                    case rel => exact ⟨k + 1, [], ps, gs ++ [who], by omega, by omega, by go_num, ⟨by rw [HEb.out, HEd.out]; exact t3, by simp, by omega, by simp; omega⟩⟩
                    case measure => simp [intOf]; omega
                  | cons y ws =>
                    cases ps with
                    | nil =>
                      have fc := t.fit.gs
                      change Dk.Tb w wr bt room (y :: ws) [] gs (R4 u7 u8 u9 u10 (y :: ws) [] gs []) at t
                      obtain ⟨Ab, Cb, evb, sb⟩ : ∃ A C, u8 = .slice A (0) C ∧ Dk.SlI wr.heap.size wr A (0) C ([]) := R4.ints t (v := u8) (xs := []) (List.Mem.tail _ (List.Mem.head _)) (fun x hx => absurd hx (by simp))
                      subst evb
                      obtain ⟨Ac, Cc, evc, sc⟩ : ∃ A C, u9 = .slice A (gs.length) C ∧ Dk.SlI wr.heap.size wr A (gs.length) C (gs) := R4.ints t (v := u9) (xs := gs) (List.Mem.tail _ (List.Mem.tail _ (List.Mem.head _))) fc
                      subst evc
                      change ([] : List Int).contains who = false at hr1
                      have KB : ∀ q, Calls Try.prog 7 #[.slice Ab (0) Cb, .int .i64 who] (wr.drewN q) fun e w' => e = .returned (.bool false) ∧ w' = wr.drewN q := fun q => by
                        rw [← hr1]
                        exact In_any _ _ _ _ who _ (sli_up sb (Dk.up_drewN (Below.refl _ _) q))
                      have HB : Hid _ := KB
                      have KC : ∀ q, Calls Try.prog 7 #[.slice Ac (gs.length) Cc, .int .i64 who] (wr.drewN q) fun e w' => e = .returned (.bool false) ∧ w' = wr.drewN q := fun q => by
                        rw [← hr2]
                        exact In_any _ _ _ _ who _ (sli_up sc (Dk.up_drewN (Below.refl _ _) q))
                      have HC : Hid _ := KC
                      have KT : ∀ q, Calls Try.prog 8 #[.pointer (some ⟨bt, 0, none⟩), .int .i64 who] (wr.drewN q) fun e w' => e = .returned (.tuple #[.int .u64 ((y : Nat) : Int), .bool true, .int .i64 0, .bool false]) ∧ Dk.Tb w w' bt room ws [] gs (R4 u7 (.slice Ab 0 Cb) (.slice Ac gs.length Cc) u10 (y :: ws) [] gs []) := fun q => Get_one (t.below (Dk.up_drewN (Below.refl _ _) q)) who hw
                      have HT : Hid _ := KT
                      simp only [List.length_cons] at hl1
                      clear KT KB KC hw t sb sc fc hr1 hr2
                      go_wp2_with fail
                      go_quiet (fail)
                      go_wp2_with fail
                      refine (HB.out _).mono ?_
                      rintro e w' ⟨rfl, hw'⟩
                      subst w'
                      clear HB
                      go_wp2_with fail
                      refine (HC.out _).mono ?_
                      rintro e w' ⟨rfl, hw'⟩
                      subst w'
                      clear HC
                      go_wp2_with fail
                      refine (HT.out _).mono ?_
                      rintro e w2 ⟨rfl, t2⟩
                      obtain ⟨ga, Ca, A3, v3, w3, rfl, hc3, hm3, c3, hA3, r3, t3⟩ := R4.tailA t2 (by omega)
                      unfold maxLen at hm3
                      have n1 : (1 : Int) ≤ (ws.length : Int) + 1 := by omega
                      have z1 : decide ((0 : Int) < (ws.length : Int) + 1) = true := decide_eq_true (by omega)
                      clear t2
                      go_wp2_with (at_builtin; first | (refine Lib.wpList_append_run _ rfl _ _ _ _ rfl _ _ rfl rfl _ _ r3 ?_))
                      go_roundw
                      case rel => exact ⟨k + 1, ws, [], gs, by omega, by omega, by go_num, ⟨t3, by omega, by simp, by omega⟩⟩
                      case measure => simp [intOf]; omega
                    | cons pq ps =>
                      obtain ⟨q, z⟩ := pq
                      have fc := t.fit.gs
                      have fb := fit_fst t.fit
                      obtain ⟨bl, ebl⟩ : ∃ bl, ps.map Prod.fst = bl := ⟨_, rfl⟩
                      obtain ⟨dl, edl⟩ : ∃ dl, ps.map Prod.snd = dl := ⟨_, rfl⟩
                      have hbl : bl.length = ps.length := by rw [← ebl, List.length_map]
                      have hdl : dl.length = ps.length := by rw [← edl, List.length_map]
                      rw [List.map_cons, List.map_cons, ebl, edl] at t
                      rw [List.map_cons, ebl] at fb hr1
                      change Dk.Tb w wr bt room (y :: ws) ((q, z) :: ps) gs (R4 u7 u8 u9 u10 (y :: ws) (q :: bl) gs (z :: dl)) at t
                      change (q :: bl).contains who = false at hr1
                      change ∀ x ∈ q :: bl, Dk.i64 x at fb
                      obtain ⟨gb, Cb0, evb0, hcb, hmb, _⟩ := R4.head t (v := u8) (x := .int .i64 q) (xs := Dk.is bl) (n := bl.length) (List.Mem.tail _ (List.Mem.head _))
                      subst evb0
                      obtain ⟨Ab, Cb, evb, sb⟩ : ∃ A C, (Value.slice (some ⟨gb, 0, none⟩) (bl.length + 1) Cb0) = .slice A (bl.length + 1) C ∧ Dk.SlI wr.heap.size wr A (bl.length + 1) C (q :: bl) := R4.ints t (xs := q :: bl) (List.Mem.tail _ (List.Mem.head _)) fb
                      injection evb with eb1 _ eb3
                      subst eb1
                      subst eb3
                      obtain ⟨Ac, Cc, evc, sc⟩ : ∃ A C, u9 = .slice A (gs.length) C ∧ Dk.SlI wr.heap.size wr A (gs.length) C (gs) := R4.ints t (v := u9) (xs := gs) (List.Mem.tail _ (List.Mem.tail _ (List.Mem.head _))) fc
                      subst evc
                      have KB : ∀ q, Calls Try.prog 7 #[.slice (some ⟨gb, 0, none⟩) (bl.length + 1) Cb0, .int .i64 who] (wr.drewN q) fun e w' => e = .returned (.bool false) ∧ w' = wr.drewN q := fun q => by
                        rw [← hr1]
                        exact In_any _ _ _ _ who _ (sli_up sb (Dk.up_drewN (Below.refl _ _) q))
                      have HB : Hid _ := KB
                      have KC : ∀ q, Calls Try.prog 7 #[.slice Ac (gs.length) Cc, .int .i64 who] (wr.drewN q) fun e w' => e = .returned (.bool false) ∧ w' = wr.drewN q := fun q => by
                        rw [← hr2]
                        exact In_any _ _ _ _ who _ (sli_up sc (Dk.up_drewN (Below.refl _ _) q))
                      have HC : Hid _ := KC
                      have KT : ∀ q', Calls Try.prog 8 #[.pointer (some ⟨bt, 0, none⟩), .int .i64 who] (wr.drewN q') fun e w' => e = .returned (.tuple #[.int .u64 ((y : Nat) : Int), .bool true, .int .i64 q, .bool true]) ∧ Dk.Tb w w' bt room (ws ++ [z]) ps gs (R4 u7 (.slice (some ⟨gb, 0, none⟩) (bl.length + 1) Cb0) (.slice Ac gs.length Cc) u10 (y :: ws) (q :: bl) gs (z :: dl)) := fun q' => Get_more (t.below (Dk.up_drewN (Below.refl _ _) q')) who hw (by simp only [List.length_cons] at hl1; omega)
                      have HT : Hid _ := KT
                      have HEb : Hid (ps.map Prod.fst = bl) := ebl
                      have HEd : Hid (ps.map Prod.snd = dl) := edl
                      have hbk : bl.length ≤ k := by simp only [List.length_cons] at hl2; omega
                      have hdk : dl.length ≤ k := by simp only [List.length_cons] at hl2; omega
                      simp only [List.length_cons] at hl1 hl2
                      clear KT KB KC hw t sb sc fb fc hr1 hr2 ebl edl hbl hdl hcb
                      go_wp2_with fail
                      go_quiet (fail)
                      go_wp2_with fail
                      refine (HB.out _).mono ?_
                      rintro e w' ⟨rfl, hw'⟩
                      subst w'
                      clear HB
                      go_wp2_with fail
                      refine (HC.out _).mono ?_
                      rintro e w' ⟨rfl, hw'⟩
                      subst w'
                      clear HC
                      go_wp2_with fail
                      refine (HT.out _).mono ?_
                      rintro e w2 ⟨rfl, t2⟩
                      obtain ⟨ga, Ca, A3, v3, w3, rfl, hc3, hm3, c3, hA3, r3, t3⟩ := R4.tailA t2 (by omega)
                      obtain ⟨gb', Cb', evb, _, _, cb⟩ := R4.head t3 (x := .int .i64 q) (xs := Dk.is bl) (n := bl.length) (List.Mem.tail _ (List.Mem.head _))
                      injection evb with eb1 _ eb3
                      injection eb1 with eb1
                      injection eb1 with eb1
                      subst eb1
                      subst eb3
                      obtain ⟨gd, Cd, rfl, hcd, hmd, cd⟩ := R4.head t3 (v := u10) (x := .int .u64 ((z : Nat) : Int)) (xs := Dk.uw dl) (n := dl.length) (List.Mem.tail _ (List.Mem.tail _ (List.Mem.tail _ (List.Mem.head _))))
                      obtain ⟨v4, w4, r4, t4⟩ := R4.addA t3 z (by omega)
                      have KD := R4.dropB t4 (by omega)
                      unfold maxLen at hm3 hmb hmd
                      have n1 : (1 : Int) ≤ (ws.length : Int) + 1 := by omega
                      have z1 : decide ((0 : Int) < (ws.length : Int) + 1) = true := decide_eq_true (by omega)
                      have z2 : decide ((0 : Int) < (bl.length : Int) + 1) = true := decide_eq_true (by omega)
                      clear t2 t3 t4
                      go_wp2_with (at_builtin; first | (refine Lib.wpList_append_run _ rfl _ _ _ _ rfl _ _ rfl rfl _ _ r3 ?_) | (refine Lib.wpList_append_run _ rfl _ _ _ _ rfl _ _ rfl rfl _ _ r4 ?_))
                      refine KD.mono ?_
                      rintro e w5 ⟨v5, rfl, t5⟩
                      obtain ⟨gd', Cd', A6, v6, w6, evd, hc6, hm6, c6, hA6, r6, t6⟩ := R4.tailD t5 (by omega)
                      injection evd with ed1 _ ed3
                      injection ed1 with ed1
                      injection ed1 with ed1
                      subst ed1
                      subst ed3
                      have n2 : (1 : Int) ≤ (dl.length : Int) + 1 := by omega
                      clear t5 KD r3 r4 c3 hA3 cb cd c6
                      go_wp2_with (at_builtin; first | (refine Lib.wpList_append_run _ rfl _ _ _ _ rfl _ _ rfl rfl _ _ r6 ?_))
                      go_roundw
                      case rel => exact ⟨k + 1, ws ++ [z], ps, gs, by omega, by omega, by go_num, ⟨by rw [HEb.out, HEd.out]; exact t6, by simp; omega, by omega, by omega⟩⟩
                      case measure => simp [intOf]; omega
            | false =>
              cases hr1 : (ps.map Prod.fst).contains who with
              | true =>
                obtain ⟨bl, ebl⟩ : ∃ bl, ps.map Prod.fst = bl := ⟨_, rfl⟩
                obtain ⟨dl, edl⟩ : ∃ dl, ps.map Prod.snd = dl := ⟨_, rfl⟩
                have fb := fit_fst t.fit
                have fc := t.fit.gs
                have hbl : bl.length = ps.length := by rw [← ebl, List.length_map]
                have hdl : dl.length = ps.length := by rw [← edl, List.length_map]
                rw [ebl, edl] at t
                rw [ebl] at fb hr1
                obtain ⟨Ab, Cb, evb, sb⟩ : ∃ A C, u8 = .slice A (bl.length) C ∧ Dk.SlI wr.heap.size wr A (bl.length) C (bl) := R4.ints t (v := u8) (xs := bl) (List.Mem.tail _ (List.Mem.head _)) fb
                subst evb
                obtain ⟨Ac, Cc, evc, sc⟩ : ∃ A C, u9 = .slice A (gs.length) C ∧ Dk.SlI wr.heap.size wr A (gs.length) C (gs) := R4.ints t (v := u9) (xs := gs) (List.Mem.tail _ (List.Mem.tail _ (List.Mem.head _))) fc
                subst evc
                have KB : ∀ q, Calls Try.prog 7 #[.slice Ab (bl.length) Cb, .int .i64 who] (wr.drewN q) fun e w' => e = .returned (.bool true) ∧ w' = wr.drewN q := fun q => by
                  rw [← hr1]
                  exact In_any _ _ _ _ who _ (sli_up sb (Dk.up_drewN (Below.refl _ _) q))
                have HB : Hid _ := KB
                have hw : Dk.waits ps gs who = true := by rw [waits_eq, ebl, hr1]; rfl
                have KT : ∀ q, Calls Try.prog 10 #[.pointer (some ⟨bt, 0, none⟩), .int .i64 who, .int .u64 ((x : Nat) : Int)] (wr.drewN q) fun e w' => e = .returned (.tuple #[.bool false, .int .i64 0, .bool false]) ∧ Dk.Tb w w' bt room ws ps gs (R4 u7 (.slice Ab bl.length Cb) (.slice Ac gs.length Cc) u10 ws bl gs dl) := fun q => Put_waits (t.below (Dk.up_drewN (Below.refl _ _) q)) who x hw
                have HT : Hid _ := KT
                have HEb : Hid (ps.map Prod.fst = bl) := ebl
                have HEd : Hid (ps.map Prod.snd = dl) := edl
                clear KT KB hw t sb sc fb fc hr1 ebl edl hbl hdl
                go_wp2_with fail
                go_quiet (fail)
                go_wp2_with fail
                refine (HB.out _).mono ?_
                rintro e w' ⟨rfl, hw'⟩
                subst w'
                clear HB
                go_wp2_with fail
                refine (HT.out _).mono ?_
                rintro e w2 ⟨rfl, t2⟩
                go_wp2_with fail
                go_roundw
                case rel => exact ⟨k + 1, ws, ps, gs, by omega, by omega, by go_num, ⟨by rw [HEb.out, HEd.out]; exact t2, by omega, by omega, by omega⟩⟩
                case measure => simp [intOf]; omega
              | false =>
                cases hr2 : gs.contains who with
                | true =>
                  obtain ⟨bl, ebl⟩ : ∃ bl, ps.map Prod.fst = bl := ⟨_, rfl⟩
                  obtain ⟨dl, edl⟩ : ∃ dl, ps.map Prod.snd = dl := ⟨_, rfl⟩
                  have fb := fit_fst t.fit
                  have fc := t.fit.gs
                  have hbl : bl.length = ps.length := by rw [← ebl, List.length_map]
                  have hdl : dl.length = ps.length := by rw [← edl, List.length_map]
                  rw [ebl, edl] at t
                  rw [ebl] at fb hr1
                  obtain ⟨Ab, Cb, evb, sb⟩ : ∃ A C, u8 = .slice A (bl.length) C ∧ Dk.SlI wr.heap.size wr A (bl.length) C (bl) := R4.ints t (v := u8) (xs := bl) (List.Mem.tail _ (List.Mem.head _)) fb
                  subst evb
                  obtain ⟨Ac, Cc, evc, sc⟩ : ∃ A C, u9 = .slice A (gs.length) C ∧ Dk.SlI wr.heap.size wr A (gs.length) C (gs) := R4.ints t (v := u9) (xs := gs) (List.Mem.tail _ (List.Mem.tail _ (List.Mem.head _))) fc
                  subst evc
                  have KB : ∀ q, Calls Try.prog 7 #[.slice Ab (bl.length) Cb, .int .i64 who] (wr.drewN q) fun e w' => e = .returned (.bool false) ∧ w' = wr.drewN q := fun q => by
                    rw [← hr1]
                    exact In_any _ _ _ _ who _ (sli_up sb (Dk.up_drewN (Below.refl _ _) q))
                  have HB : Hid _ := KB
                  have KC : ∀ q, Calls Try.prog 7 #[.slice Ac (gs.length) Cc, .int .i64 who] (wr.drewN q) fun e w' => e = .returned (.bool true) ∧ w' = wr.drewN q := fun q => by
                    rw [← hr2]
                    exact In_any _ _ _ _ who _ (sli_up sc (Dk.up_drewN (Below.refl _ _) q))
                  have HC : Hid _ := KC
                  have hw : Dk.waits ps gs who = true := by rw [waits_eq, ebl, hr1, hr2]; rfl
                  have KT : ∀ q, Calls Try.prog 10 #[.pointer (some ⟨bt, 0, none⟩), .int .i64 who, .int .u64 ((x : Nat) : Int)] (wr.drewN q) fun e w' => e = .returned (.tuple #[.bool false, .int .i64 0, .bool false]) ∧ Dk.Tb w w' bt room ws ps gs (R4 u7 (.slice Ab bl.length Cb) (.slice Ac gs.length Cc) u10 ws bl gs dl) := fun q => Put_waits (t.below (Dk.up_drewN (Below.refl _ _) q)) who x hw
                  have HT : Hid _ := KT
                  have HEb : Hid (ps.map Prod.fst = bl) := ebl
                  have HEd : Hid (ps.map Prod.snd = dl) := edl
                  clear KT KB KC hw t sb sc fb fc hr1 hr2 ebl edl hbl hdl
                  go_wp2_with fail
                  go_quiet (fail)
                  go_wp2_with fail
                  refine (HB.out _).mono ?_
                  rintro e w' ⟨rfl, hw'⟩
                  subst w'
                  clear HB
                  go_wp2_with fail
                  refine (HC.out _).mono ?_
                  rintro e w' ⟨rfl, hw'⟩
                  subst w'
                  clear HC
                  go_wp2_with fail
                  refine (HT.out _).mono ?_
                  rintro e w2 ⟨rfl, t2⟩
                  go_wp2_with fail
                  go_roundw
                  case rel => exact ⟨k + 1, ws, ps, gs, by omega, by omega, by go_num, ⟨by rw [HEb.out, HEd.out]; exact t2, by omega, by omega, by omega⟩⟩
                  case measure => simp [intOf]; omega
                | false =>
                  have hw : Dk.waits ps gs who = false := by rw [waits_eq, hr1, hr2]; rfl
                  cases gs with
                  | cons gg gs =>
                    obtain ⟨bl, ebl⟩ : ∃ bl, ps.map Prod.fst = bl := ⟨_, rfl⟩
                    obtain ⟨dl, edl⟩ : ∃ dl, ps.map Prod.snd = dl := ⟨_, rfl⟩
                    have fb := fit_fst t.fit
                    have fc := t.fit.gs
                    have hbl : bl.length = ps.length := by rw [← ebl, List.length_map]
                    have hdl : dl.length = ps.length := by rw [← edl, List.length_map]
                    rw [ebl, edl] at t
                    rw [ebl] at fb hr1
                    obtain ⟨Ab, Cb, evb, sb⟩ : ∃ A C, u8 = .slice A (bl.length) C ∧ Dk.SlI wr.heap.size wr A (bl.length) C (bl) := R4.ints t (v := u8) (xs := bl) (List.Mem.tail _ (List.Mem.head _)) fb
                    subst evb
                    obtain ⟨gc, Cc0, evc0, hcc, hmc, _⟩ := R4.head t (v := u9) (x := .int .i64 gg) (xs := Dk.is gs) (n := gs.length) (List.Mem.tail _ (List.Mem.tail _ (List.Mem.head _)))
                    subst evc0
                    obtain ⟨Ac, Cc, evc, sc⟩ : ∃ A C, (Value.slice (some ⟨gc, 0, none⟩) (gs.length + 1) Cc0) = .slice A (gs.length + 1) C ∧ Dk.SlI wr.heap.size wr A (gs.length + 1) C (gg :: gs) := R4.ints t (xs := gg :: gs) (List.Mem.tail _ (List.Mem.tail _ (List.Mem.head _))) fc
                    injection evc with ec1 _ ec3
                    subst ec1
                    subst ec3
                    have KB : ∀ q, Calls Try.prog 7 #[.slice Ab (bl.length) Cb, .int .i64 who] (wr.drewN q) fun e w' => e = .returned (.bool false) ∧ w' = wr.drewN q := fun q => by
                      rw [← hr1]
                      exact In_any _ _ _ _ who _ (sli_up sb (Dk.up_drewN (Below.refl _ _) q))
                    have HB : Hid _ := KB
                    have KC : ∀ q, Calls Try.prog 7 #[.slice (some ⟨gc, 0, none⟩) (gs.length + 1) Cc0, .int .i64 who] (wr.drewN q) fun e w' => e = .returned (.bool false) ∧ w' = wr.drewN q := fun q => by
                      rw [← hr2]
                      exact In_any _ _ _ _ who _ (sli_up sc (Dk.up_drewN (Below.refl _ _) q))
                    have HC : Hid _ := KC
                    have KT : ∀ q, Calls Try.prog 10 #[.pointer (some ⟨bt, 0, none⟩), .int .i64 who, .int .u64 ((x : Nat) : Int)] (wr.drewN q) fun e w' => e = .returned (.tuple #[.bool true, .int .i64 gg, .bool true]) ∧ Dk.Tb w w' bt room ws ps gs (R4 u7 (.slice Ab bl.length Cb) (.slice (some ⟨gc, 0, none⟩) (gs.length + 1) Cc0) u10 ws bl (gg :: gs) dl) := fun q => Put_given (t.below (Dk.up_drewN (Below.refl _ _) q)) who x hw
                    have HT : Hid _ := KT
                    have HEb : Hid (ps.map Prod.fst = bl) := ebl
                    have HEd : Hid (ps.map Prod.snd = dl) := edl
                    simp only [List.length_cons] at hl3
                    clear KT KB KC hw t sb sc fb fc hr1 hr2 ebl edl hbl hdl hcc
                    go_wp2_with fail
                    go_quiet (fail)
                    go_wp2_with fail
                    refine (HB.out _).mono ?_
                    rintro e w' ⟨rfl, hw'⟩
                    subst w'
                    clear HB
                    go_wp2_with fail
                    refine (HC.out _).mono ?_
                    rintro e w' ⟨rfl, hw'⟩
                    subst w'
                    clear HC
                    go_wp2_with fail
                    refine (HT.out _).mono ?_
                    rintro e w2 ⟨rfl, t2⟩
                    obtain ⟨gc', Cc', evc, _, _, cc⟩ := R4.head t2 (x := .int .i64 gg) (xs := Dk.is gs) (n := gs.length) (List.Mem.tail _ (List.Mem.tail _ (List.Mem.head _)))
                    injection evc with ec1 _ ec3
                    injection ec1 with ec1
                    injection ec1 with ec1
                    subst ec1
                    subst ec3
                    have KD : ∀ q, _ := fun q => R4.dropC (t2.below (Dk.up_drewN (Below.refl _ _) q)) (by omega)
                    have HD : Hid _ := KD
                    unfold maxLen at hmc
                    have z1 : decide ((0 : Int) < (gs.length : Int) + 1) = true := decide_eq_true (by omega)
                    clear t2 KD
                    go_wp2_with fail
                    go_quiet (fail)
                    go_wp2_with fail
                    refine (HD.out _).mono ?_
                    rintro e w5 ⟨v5, rfl, t5⟩
                    clear HD cc
                    go_wp2_with fail
                    go_roundw
                    case rel => exact ⟨k + 1, ws, ps, gs, by omega, by omega, by go_num, ⟨by rw [HEb.out, HEd.out]; exact t5, by omega, by omega, by omega⟩⟩
                    case measure => simp [intOf]; omega
                  | nil =>
                    by_cases hrm : ws.length < mm
                    · have zr : decide ((ws.length : Int) < (mm : Int)) = true := by simp; omega
                      have zr' : decide (ws.length < mm) = true := by simp; omega
                      obtain ⟨bl, ebl⟩ : ∃ bl, ps.map Prod.fst = bl := ⟨_, rfl⟩
                      obtain ⟨dl, edl⟩ : ∃ dl, ps.map Prod.snd = dl := ⟨_, rfl⟩
                      have fb := fit_fst t.fit
                      have fc := t.fit.gs
                      have hbl : bl.length = ps.length := by rw [← ebl, List.length_map]
                      have hdl : dl.length = ps.length := by rw [← edl, List.length_map]
                      rw [ebl, edl] at t
                      rw [ebl] at fb hr1
                      obtain ⟨Ab, Cb, evb, sb⟩ : ∃ A C, u8 = .slice A (bl.length) C ∧ Dk.SlI wr.heap.size wr A (bl.length) C (bl) := R4.ints t (v := u8) (xs := bl) (List.Mem.tail _ (List.Mem.head _)) fb
                      subst evb
                      obtain ⟨Ac, Cc, evc, sc⟩ : ∃ A C, u9 = .slice A (0) C ∧ Dk.SlI wr.heap.size wr A (0) C ([]) := R4.ints t (v := u9) (xs := []) (List.Mem.tail _ (List.Mem.tail _ (List.Mem.head _))) (fun x hx => absurd hx (by simp))
                      subst evc
                      obtain ⟨Aa, Ca, eva, _, _⟩ := Dk.owns_slice (Tb.row t (e := 27) (s := 1) (v := u7) (n := ws.length) (xs := Dk.uw ws) (List.Mem.head _))
                      subst eva
                      have KB : ∀ q, Calls Try.prog 7 #[.slice Ab (bl.length) Cb, .int .i64 who] (wr.drewN q) fun e w' => e = .returned (.bool false) ∧ w' = wr.drewN q := fun q => by
                        rw [← hr1]
                        exact In_any _ _ _ _ who _ (sli_up sb (Dk.up_drewN (Below.refl _ _) q))
                      have HB : Hid _ := KB
                      have KC : ∀ q, Calls Try.prog 7 #[.slice Ac (0) Cc, .int .i64 who] (wr.drewN q) fun e w' => e = .returned (.bool false) ∧ w' = wr.drewN q := fun q => by
                        rw [← hr2]
                        exact In_any _ _ _ _ who _ (sli_up sc (Dk.up_drewN (Below.refl _ _) q))
                      have HC : Hid _ := KC
                      have KT : ∀ q, Calls Try.prog 10 #[.pointer (some ⟨bt, 0, none⟩), .int .i64 who, .int .u64 ((x : Nat) : Int)] (wr.drewN q) fun e w' => e = .returned (.tuple #[.bool true, .int .i64 0, .bool false]) ∧ Dk.Tb w w' bt room (ws ++ [x]) ps [] (R4 (.slice Aa ws.length Ca) (.slice Ab bl.length Cb) (.slice Ac 0 Cc) u10 ws bl [] dl) := fun q => Put_room (t.below (Dk.up_drewN (Below.refl _ _) q)) who x hw hx (by rw [HM.out]; exact hrm) (by omega)
                      have HT : Hid _ := KT
                      have HEb : Hid (ps.map Prod.fst = bl) := ebl
                      have HEd : Hid (ps.map Prod.snd = dl) := edl
                      have hbk : bl.length ≤ k := by omega
                      have hdk : dl.length ≤ k := by omega
                      clear KT KB KC hw t sb sc fb fc hr1 hr2 ebl edl hbl hdl hrm
                      go_wp2_with fail
                      go_quiet (fail)
                      go_wp2_with fail
                      refine (HB.out _).mono ?_
                      rintro e w' ⟨rfl, hw'⟩
                      subst w'
                      clear HB
                      go_wp2_with fail
                      refine (HC.out _).mono ?_
                      rintro e w' ⟨rfl, hw'⟩
                      subst w'
                      clear HC
                      go_wp2_with fail
                      refine (HT.out _).mono ?_
                      rintro e w2 ⟨rfl, t2⟩
                      obtain ⟨v3, w3, r3, t3⟩ := R4.addA t2 x (by omega)
                      clear t2
                      go_wp2_with (at_builtin; first | (refine Lib.wpList_append_run _ rfl _ _ _ _ rfl _ _ rfl rfl _ _ r3 ?_))
                      go_roundw
                      case rel => exact ⟨k + 1, ws ++ [x], ps, [], by omega, by omega, by go_num, ⟨by rw [HEb.out, HEd.out]; exact t3, by simp; omega, by omega, by simp⟩⟩
                      case measure => simp [intOf]; omega
                    · have zr : decide ((ws.length : Int) < (mm : Int)) = false := by simp; omega
                      have zr' : decide (ws.length < mm) = false := by simp; omega
                      obtain ⟨bl, ebl⟩ : ∃ bl, ps.map Prod.fst = bl := ⟨_, rfl⟩
                      obtain ⟨dl, edl⟩ : ∃ dl, ps.map Prod.snd = dl := ⟨_, rfl⟩
                      have fb := fit_fst t.fit
                      have fc := t.fit.gs
                      have hbl : bl.length = ps.length := by rw [← ebl, List.length_map]
                      have hdl : dl.length = ps.length := by rw [← edl, List.length_map]
                      rw [ebl, edl] at t
                      rw [ebl] at fb hr1
                      obtain ⟨Ab, Cb, evb, sb⟩ : ∃ A C, u8 = .slice A (bl.length) C ∧ Dk.SlI wr.heap.size wr A (bl.length) C (bl) := R4.ints t (v := u8) (xs := bl) (List.Mem.tail _ (List.Mem.head _)) fb
                      subst evb
                      obtain ⟨Ac, Cc, evc, sc⟩ : ∃ A C, u9 = .slice A (0) C ∧ Dk.SlI wr.heap.size wr A (0) C ([]) := R4.ints t (v := u9) (xs := []) (List.Mem.tail _ (List.Mem.tail _ (List.Mem.head _))) (fun x hx => absurd hx (by simp))
                      subst evc
                      obtain ⟨Aa, Ca, eva, _, _⟩ := Dk.owns_slice (Tb.row t (e := 27) (s := 1) (v := u7) (n := ws.length) (xs := Dk.uw ws) (List.Mem.head _))
                      subst eva
                      have KB : ∀ q, Calls Try.prog 7 #[.slice Ab (bl.length) Cb, .int .i64 who] (wr.drewN q) fun e w' => e = .returned (.bool false) ∧ w' = wr.drewN q := fun q => by
                        rw [← hr1]
                        exact In_any _ _ _ _ who _ (sli_up sb (Dk.up_drewN (Below.refl _ _) q))
                      have HB : Hid _ := KB
                      have KC : ∀ q, Calls Try.prog 7 #[.slice Ac (0) Cc, .int .i64 who] (wr.drewN q) fun e w' => e = .returned (.bool false) ∧ w' = wr.drewN q := fun q => by
                        rw [← hr2]
                        exact In_any _ _ _ _ who _ (sli_up sc (Dk.up_drewN (Below.refl _ _) q))
                      have HC : Hid _ := KC
                      have KT : ∀ q, Calls Try.prog 10 #[.pointer (some ⟨bt, 0, none⟩), .int .i64 who, .int .u64 ((x : Nat) : Int)] (wr.drewN q) fun e w' => e = .returned (.tuple #[.bool false, .int .i64 0, .bool false]) ∧ Dk.Tb w w' bt room ws (ps ++ [(who, x)]) [] (R4 (.slice Aa ws.length Ca) (.slice Ab bl.length Cb) (.slice Ac 0 Cc) u10 ws bl [] dl) := fun q => Put_full (t.below (Dk.up_drewN (Below.refl _ _) q)) who x hw hi hx (by rw [HM.out]; exact hrm) (by omega)
                      have HT : Hid _ := KT
                      have HEb : Hid (ps.map Prod.fst = bl) := ebl
                      have HEd : Hid (ps.map Prod.snd = dl) := edl
                      have hbk : bl.length ≤ k := by omega
                      have hdk : dl.length ≤ k := by omega
                      clear KT KB KC hw t sb sc fb fc hr1 hr2 ebl edl hbl hdl hrm
                      go_wp2_with fail
                      go_quiet (fail)
                      go_wp2_with fail
                      refine (HB.out _).mono ?_
                      rintro e w' ⟨rfl, hw'⟩
                      subst w'
                      clear HB
                      go_wp2_with fail
                      refine (HC.out _).mono ?_
                      rintro e w' ⟨rfl, hw'⟩
                      subst w'
                      clear HC
                      go_wp2_with fail
                      refine (HT.out _).mono ?_
                      rintro e w2 ⟨rfl, t2⟩
                      obtain ⟨v3, w3, r3, t3⟩ := R4.addB t2 who (by omega)
                      obtain ⟨v4, w4, r4, t4⟩ := R4.addD t3 x (by omega)
                      clear t2 t3
                      go_wp2_with (at_builtin; first | (refine Lib.wpList_append_run _ rfl _ _ _ _ rfl _ _ rfl rfl _ _ r3 ?_) | (refine Lib.wpList_append_run _ rfl _ _ _ _ rfl _ _ rfl rfl _ _ r4 ?_))
                      go_roundw
                      case rel => exact ⟨k + 1, ws, ps ++ [(who, x)], [], by omega, by omega, by go_num, ⟨by rw [List.map_append, List.map_append, HEb.out, HEd.out]; exact t4, by omega, by simp; omega, by simp⟩⟩
                      case measure => simp [intOf]; omega
          · have y1 : decide ((k : Int) < (L : Int)) = true := by simp; omega
            have y2 : decide ((k : Int) < 80) = false := by simp; omega
            obtain ⟨bl, ebl⟩ : ∃ bl, ps.map Prod.fst = bl := ⟨_, rfl⟩
            obtain ⟨dl, edl⟩ : ∃ dl, ps.map Prod.snd = dl := ⟨_, rfl⟩
            have fb := fit_fst t.fit
            have fc := t.fit.gs
            have fa := t.fit.ws
            have hbl : bl.length = ps.length := by rw [← ebl, List.length_map]
            rw [ebl, edl] at t
            rw [ebl] at fb
            have FB : Hid _ := fb
            have FC : Hid _ := fc
            have FA : Hid _ := fa
            obtain ⟨Aa, Ca, eva, _, _⟩ := Dk.owns_slice (Tb.row t (e := 27) (s := 1) (v := u7) (n := ws.length) (xs := Dk.uw ws) (List.Mem.head _))
            subst eva
            obtain ⟨Ab, Cb, evb, _, _⟩ := Dk.owns_slice (Tb.row t (e := 3) (s := 1) (v := u8) (n := bl.length) (xs := Dk.is bl) (List.Mem.tail _ (List.Mem.head _)))
            subst evb
            obtain ⟨Ac, Cc, evc, _, _⟩ := Dk.owns_slice (Tb.row t (e := 3) (s := 1) (v := u9) (n := gs.length) (xs := Dk.is gs) (List.Mem.tail _ (List.Mem.tail _ (List.Mem.head _))))
            subst evc
            have HBL : Hid (bl.length = ps.length) := hbl
            have HEB : Hid (ps.map Prod.fst = bl) := ebl
            clear fb fc fa hbl ebl edl
            go_wp2_with fail
            refine (awake_any wr).mono ?_
            rintro e w2 ⟨rfl, u2⟩
            have t2 := t.below u2
            clear t u2 hu
            have K3 := Words_any t2 (by omega)
            go_wp2_with fail
            refine K3.mono ?_
            rintro e w3 ⟨A3, C3, rfl, t3, _, R3⟩
            obtain ⟨A', C', ev, s3⟩ := R4.words t3 (v := .slice Aa ws.length Ca) (xs := ws) (List.Mem.head _) FA.out
            injection ev with e1 _ e3
            subst e1
            subst e3
            have K4 := Words_same _ _ _ _ _ _ _ R3.out s3
            clear K3 t2 R3 s3
            go_wp2_with fail
            refine K4.mono ?_
            rintro e w4 ⟨rfl, u4⟩
            have t4 := t3.below u4
            clear K4 t3 u4
            have K5 := Putters_any t4 (by omega)
            go_wp2_with fail
            refine K5.mono ?_
            rintro e w5 ⟨A5, C5, rfl, t5, _, R5⟩
            obtain ⟨A', C', ev, s5⟩ := R4.ints t5 (v := .slice Ab bl.length Cb) (xs := bl) (List.Mem.tail _ (List.Mem.head _)) FB.out
            injection ev with e1 _ e3
            subst e1
            subst e3
            have K6 : Calls Try.prog 14 #[.slice A5 ps.length C5, .slice Ab bl.length Cb] w5 fun e w' => e = .returned (.bool true) ∧ Below w5.heap.size w5 w' := by
              rw [HBL.out] at s5 ⊢
              refine Ints_same A5 Ab ps.length C5 Cb bl w5 ?_ s5
              rw [← HEB.out]
              exact R5.out
            clear K5 t4 R5 s5
            go_wp2_with fail
            refine K6.mono ?_
            rintro e w6 ⟨rfl, u6⟩
            have t6 := t5.below u6
            clear K6 t5 u6
            have K7 := Getters_any t6 (by omega)
            go_wp2_with fail
            refine K7.mono ?_
            rintro e w7 ⟨A7, C7, rfl, t7, _, R7⟩
            obtain ⟨A', C', ev, s7⟩ := R4.ints t7 (v := .slice Ac gs.length Cc) (xs := gs) (List.Mem.tail _ (List.Mem.tail _ (List.Mem.head _))) FC.out
            injection ev with e1 _ e3
            subst e1
            subst e3
            have K8 := Ints_same _ _ _ _ _ _ _ R7.out s7
            have HU : Hid (Below w.heap.size w w7) := t7.out
            clear K7 t6 t7 R7 s7
            go_wp2_with fail
            refine K8.mono ?_
            rintro e w8 ⟨rfl, u8⟩
            go_wp2_with fail
            go_ret
            exact ⟨rfl, Dk.up_call HU.out u8⟩
        · have y1 : decide ((k : Int) < (L : Int)) = false := by simp; omega
          obtain ⟨bl, ebl⟩ : ∃ bl, ps.map Prod.fst = bl := ⟨_, rfl⟩
          obtain ⟨dl, edl⟩ : ∃ dl, ps.map Prod.snd = dl := ⟨_, rfl⟩
          have fb := fit_fst t.fit
          have fc := t.fit.gs
          have fa := t.fit.ws
          have hbl : bl.length = ps.length := by rw [← ebl, List.length_map]
          rw [ebl, edl] at t
          rw [ebl] at fb
          have FB : Hid _ := fb
          have FC : Hid _ := fc
          have FA : Hid _ := fa
          obtain ⟨Aa, Ca, eva, _, _⟩ := Dk.owns_slice (Tb.row t (e := 27) (s := 1) (v := u7) (n := ws.length) (xs := Dk.uw ws) (List.Mem.head _))
          subst eva
          obtain ⟨Ab, Cb, evb, _, _⟩ := Dk.owns_slice (Tb.row t (e := 3) (s := 1) (v := u8) (n := bl.length) (xs := Dk.is bl) (List.Mem.tail _ (List.Mem.head _)))
          subst evb
          obtain ⟨Ac, Cc, evc, _, _⟩ := Dk.owns_slice (Tb.row t (e := 3) (s := 1) (v := u9) (n := gs.length) (xs := Dk.is gs) (List.Mem.tail _ (List.Mem.tail _ (List.Mem.head _))))
          subst evc
          have HBL : Hid (bl.length = ps.length) := hbl
          have HEB : Hid (ps.map Prod.fst = bl) := ebl
          clear fb fc fa hbl ebl edl
          go_wp2_with fail
          refine (awake_any wr).mono ?_
          rintro e w2 ⟨rfl, u2⟩
          have t2 := t.below u2
          clear t u2 hu
          have K3 := Words_any t2 (by omega)
          go_wp2_with fail
          refine K3.mono ?_
          rintro e w3 ⟨A3, C3, rfl, t3, _, R3⟩
          obtain ⟨A', C', ev, s3⟩ := R4.words t3 (v := .slice Aa ws.length Ca) (xs := ws) (List.Mem.head _) FA.out
          injection ev with e1 _ e3
          subst e1
          subst e3
          have K4 := Words_same _ _ _ _ _ _ _ R3.out s3
          clear K3 t2 R3 s3
          go_wp2_with fail
          refine K4.mono ?_
          rintro e w4 ⟨rfl, u4⟩
          have t4 := t3.below u4
          clear K4 t3 u4
          have K5 := Putters_any t4 (by omega)
          go_wp2_with fail
          refine K5.mono ?_
          rintro e w5 ⟨A5, C5, rfl, t5, _, R5⟩
          obtain ⟨A', C', ev, s5⟩ := R4.ints t5 (v := .slice Ab bl.length Cb) (xs := bl) (List.Mem.tail _ (List.Mem.head _)) FB.out
          injection ev with e1 _ e3
          subst e1
          subst e3
          have K6 : Calls Try.prog 14 #[.slice A5 ps.length C5, .slice Ab bl.length Cb] w5 fun e w' => e = .returned (.bool true) ∧ Below w5.heap.size w5 w' := by
            rw [HBL.out] at s5 ⊢
            refine Ints_same A5 Ab ps.length C5 Cb bl w5 ?_ s5
            rw [← HEB.out]
            exact R5.out
          clear K5 t4 R5 s5
          go_wp2_with fail
          refine K6.mono ?_
          rintro e w6 ⟨rfl, u6⟩
          have t6 := t5.below u6
          clear K6 t5 u6
          have K7 := Getters_any t6 (by omega)
          go_wp2_with fail
          refine K7.mono ?_
          rintro e w7 ⟨A7, C7, rfl, t7, _, R7⟩
          obtain ⟨A', C', ev, s7⟩ := R4.ints t7 (v := .slice Ac gs.length Cc) (xs := gs) (List.Mem.tail _ (List.Mem.tail _ (List.Mem.head _))) FC.out
          injection ev with e1 _ e3
          subst e1
          subst e3
          have K8 := Ints_same _ _ _ _ _ _ _ R7.out s7
          have HU : Hid (Below w.heap.size w w7) := t7.out
          clear K7 t6 t7 R7 s7
          go_wp2_with fail
          refine K8.mono ?_
          rintro e w8 ⟨rfl, u8⟩
          go_wp2_with fail
          go_ret
          exact ⟨rfl, Dk.up_call HU.out u8⟩
end Go.Proofs.Ytnoeigmcanggdaa
