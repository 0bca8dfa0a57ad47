/- Layer 15: a thread that may run by a vessel's events, or runs in it, may do so by what is left of it, just as often. -/
import Derived.Test.YthpphicgkkhbfaaZg
import Derived.Deep.CutRange
namespace Dk
set_option linter.unusedSimpArgs false
set_option linter.unusedVariables false
set_option linter.unnecessarySimpa false
open Go Go.RowKit
/-- It lets this thread run, or holds it within a section. -/
def hit (q : Int) (e : Ev) : Bool := (e.runs && e.t == q) || (e.within && e.t == q)
theorem hit_kept {q : Int} {e : Ev} (h : hit q e = true) : e.kept = true := by
  unfold hit at h
  unfold Ev.kept
  cases h1 : e.runs <;> cases h2 : e.within <;> simp_all
theorem hits_keepL (q : Int) (es : List Ev) : (keepL es).filter (hit q) = es.filter (hit q) := by
  unfold keepL
  rw [List.filter_filter]
  congr 1
  funext e
  cases h : hit q e with
  | true => simp [hit_kept h]
  | false => simp
set_option maxRecDepth 100000 in
theorem hits_takenV {m t q : Int} (hq : 0 ≤ q) : ((takenV m t).filter (hit q)).length = if runsV m t && t == q then 1 else 0 := by
  unfold takenV ownV
  cases hh : holdsV m with
  | true =>
    have hm : 0 < m := by
      unfold holdsV at hh
      simp at hh
      omega
    have hw : (tellV true (runsV m t) m t).within = true := by simp [Ev.within, tellV, hm]
    have hr : (tellV true (runsV m t) m t).runs = false := by simp [Ev.runs, tellV]; omega
    rw [if_pos (by simp)]
    cases hrv : runsV m t with
    | true =>
      rw [hrv] at hw hr
      have e : hit q (tellV true true m t) = (t == q) := by
        unfold hit
        rw [hw, hr]
        simp [tellV]
      cases htq : t == q <;> simp [List.filter_cons, e, htq]
    | false =>
      rw [hrv] at hw hr
      have e : hit q (tellV true false m t) = false := by
        unfold hit
        rw [hw, hr]
        simp [tellV]
        omega
      simp [List.filter_cons, e]
  | false =>
    cases hrv : runsV m t with
    | true =>
      have ht : 0 ≤ t := by
        unfold runsV at hrv
        simp at hrv
        omega
      rw [if_pos (by simp)]
      have e : hit q (tellV false true m t) = (t == q) := by
        simp [hit, Ev.runs, Ev.within, tellV, ht]
      cases htq : t == q <;> simp [List.filter_cons, e, htq]
    | false => simp
theorem hits_stripV {m t q : Int} (hq : 0 ≤ q) (es : List Ev) : cn (hit q) (stripV m t es) (stripV m t es).length = (if runsV m t && t == q then 1 else 0) + cn (hit q) es es.length := by
  rw [cn_all, cn_all]
  unfold stripV
  rw [List.filter_append, List.length_append, hits_keepL, hits_takenV hq]
end Dk
namespace Go.Proofs.Ythpphicgkkhbfaa
set_option linter.unusedSimpArgs false
set_option linter.unusedVariables false
set_option linter.unnecessarySimpa false
open Go.RowKit Go.Lib
set_option maxRecDepth 100000 in
set_option maxHeartbeats 8000000 in
theorem VesselKeeps_any {m t : Int} {A : Option Addr} {L C : Nat} {es : List Dk.Ev} {slot : Nat} {w : World} (hm : Dk.i64 m) (ht : Dk.i64 t) (hE : Dk.SlE w.heap.size w A L C es) (hsl : slot < 256) (hL : L + 1 ≤ 5864062014805) :
    Calls Try.prog 6 #[Dk.vv m t A L C, .int .u8 (slot : Nat)] w fun e w' => e = .returned (.bool true) ∧ Below w.heap.size w w' := by
  have hlen := hE.len
  have hcap := hE.cap
  have hmax := hE.max
  unfold maxLen at hmax
  obtain ⟨q, eq⟩ : ∃ q, slot % 8 = q := ⟨_, rfl⟩
  have hq8 : q < 8 := by omega
  have hz7 : ((slot : Int) % 8) = (q : Int) := by omega
  have hz6 : ((slot : Int).tmod 8) = (q : Int) := by rw [Int.tmod_eq_emod_of_nonneg (by omega)]; exact hz7
  clear eq hz7
  have hl1 := Dk.stripV_len m t es
  have HO : Hid _ := Dk.stripV_ok hm ht hE.wf
  have HK : Hid _ := Dk.stripV_kept (m := m) (t := t) (es := es)
  have HC : Hid _ := Dk.hits_stripV (m := m) (t := t) (q := (q : Int)) (by omega) es
  have KS : Hid (∀ w', Below w.heap.size w w' → _) := fun w' u => Strip_any (w := w') hm ht (hE.up u) hL
  have HE : Hid (∀ w', Below w.heap.size w w' → Dk.SlE w'.heap.size w' A L C es) := fun w' u => hE.up u
  have HL : Hid (es.length = L) := hlen
  obtain ⟨W1, e1⟩ : ∃ W, W = w.alloc (.cells #[.int .i64 m, .int .i64 t, .slice A L C] 24) := ⟨_, rfl⟩
  have s1 := (Dk.Sep.begin (Below.refl w.heap.size w)).newBox e1
  have HU : Hid _ := s1.out
  have b1 := s1.box (List.mem_cons_self ..)
  have FC : Hid (∀ w', Below W1.heap.size W1 w' → w'.cell? ⟨w.heap.size, 0, none⟩ = some (.int .i64 m) ∧ w'.cell? ⟨w.heap.size, 1, none⟩ = some (.int .i64 t) ∧ w'.cell? ⟨w.heap.size, 2, none⟩ = some (.slice A L C)) := fun w' u =>
    ⟨(b1.up u).cell 0, (b1.up u).cell 1, (b1.up u).cell 2⟩
  obtain ⟨c0, c1, c2⟩ := FC.out _ (Below.refl _ _)
  have H1 : Hid (w.alloc (.cells #[.int .i64 m, .int .i64 t, .slice A L C] 24) = W1) := e1.symm
  have KR := VRuns_any m t A L C W1
  generalize Dk.stripV m t es = l at *
  generalize Dk.runsV m t = r at *
  obtain ⟨x, hx⟩ : ∃ x, (if r = true then t else 0) = x := ⟨_, rfl⟩
  rw [hx] at KR
  have HX : Hid _ := hx
  clear hx
  obtain ⟨b0, hb0⟩ : ∃ b : Nat, (if (r && t == (q : Int)) = true then 1 else 0) = b := ⟨_, rfl⟩
  have hb1 : b0 ≤ 1 := by rw [← hb0]; split <;> omega
  rw [hb0] at HC
  have HB0 : Hid _ := hb0
  clear e1 b1 s1 hb0 hE
  go_enter Try.func6, Try.ntmps6
  go_wp2_with (rw [H1.out]; clear H1)
  refine KR.mono ?_
  rintro e w2 ⟨rfl, v2⟩
  clear KR c0 c1 c2
  have hqi : (q : Int) < 8 := by omega
  go_upto_region 4 with fail
  obtain ⟨y, hy⟩ : ∃ y : Bool, (r && t == (q : Int)) = y := ⟨_, rfl⟩
  have HY0 : Hid _ := hy
  rw [hy] at HB0
  clear hy
  go_cut [30] from 25 to 30 (fun v w' => v = .bool y ∧ w' = w2)
  case first =>
    have hy := HY0.out
    clear HO HK HC KS HE FC HB0 HY0
    cases r with
    | false =>
      have hy : false = y := hy
      subst hy
      go_wp2_with fail
      go_meet
      exact ⟨rfl, rfl⟩
    | true =>
      have hx : t = x := HX.out
      subst hx
      clear HX
      by_cases htq : t = (q : Int)
      · subst htq
        have hy : true = y := by simpa using hy
        subst hy
        go_wp2_with fail
        go_meet
        exact ⟨rfl, rfl⟩
      · have hne : (t == (q : Int)) = false := by simpa using htq
        rw [hne] at hy
        have hy : false = y := hy
        subst hy
        go_wp2_with fail
        go_meet
        exact ⟨rfl, rfl⟩
  case rest =>
  obtain ⟨rfl, hw⟩ := hcut
  subst wc
  go_upto_if 30 with fail
  go_cut [6] from 31 to 32 (fun v6 w' => v6 = .int .i64 (b0 : Int) ∧ w' = w2)
  case first =>
    have hb0 := HB0.out
    clear HO HK HC KS HE FC HB0 HY0
    cases y with
    | false =>
      have hb0 : 0 = b0 := hb0
      subst hb0
      go_wp2_with fail
      go_meet
      exact ⟨rfl, rfl⟩
    | true =>
      have hb0 : 1 = b0 := hb0
      subst hb0
      go_wp2_with fail
      go_meet
      exact ⟨rfl, rfl⟩
  case rest =>
    obtain ⟨rfl, hw⟩ := hcut
    subst wc
    clear HX HB0 HY0
    go_wp2_with fail
    go_loopw [6, 9] (fun v i w' => ∃ k : Nat, k ≤ L ∧ v = .int .i64 ((b0 + Dk.cn (Dk.hit q) es k : Nat) : Int) ∧ i = .int .i64 k ∧ Hid (Below w2.heap.size w2 w')) (fun v i w' => L - (intOf i).toNat)
    case atStart => exact ⟨0, Nat.zero_le _, rfl, rfl, Below.refl _ _⟩
    case round =>
      obtain ⟨k, hk, rfl, rfl, HB⟩ := hrel
      obtain ⟨g3', g4', g3⟩ := FC.out _ (Dk.up_call v2 HB.out)
      by_cases hlt : k < L
      · obtain ⟨b, o, rfl, hbb, _, g0, g1, g2⟩ := (HE.out _ (Dk.up_call HU.out (Dk.up_call v2 HB.out))).at hlt
        have hkl : k < es.length := by rw [HL.out]; exact hlt
        have hle := Dk.cn_le (Dk.hit q) es k
        have FD : Hid (∀ w', Below wr.heap.size wr w' → w'.cell? ⟨b, o + k * 3, none⟩ = some (.int .i64 (es.getD k Dk.Ev.zero).k) ∧ w'.cell? ⟨b, o + k * 3 + 1, none⟩ = some (.int .i64 (es.getD k Dk.Ev.zero).t) ∧ w'.cell? ⟨b, o + k * 3 + 2, none⟩ = some (.int .i64 (es.getD k Dk.Ev.zero).m) ∧ w'.cell? ⟨w.heap.size, 2, none⟩ = some (.slice (some ⟨b, o, none⟩) L C)) := fun w' u =>
          ⟨(u.cell (by exact hbb)).trans g0, (u.cell (by exact hbb)).trans g1, (u.cell (by exact hbb)).trans g2, (FC.out _ (Dk.up_call (Dk.up_call v2 HB.out) u)).2.2⟩
        have HY : Hid (Dk.hit (q : Int) (es.getD k Dk.Ev.zero) = true → Dk.cn (Dk.hit q) es (k + 1) = Dk.cn (Dk.hit q) es k + 1) := fun h => Dk.cn_yes hkl h
        have HN : Hid (Dk.hit (q : Int) (es.getD k Dk.Ev.zero) = false → Dk.cn (Dk.hit q) es (k + 1) = Dk.cn (Dk.hit q) es k) := fun h => Dk.cn_no hkl h
        clear g3' g4'
        generalize Dk.cn (Dk.hit q) es k = n at *
        generalize es.getD k Dk.Ev.zero = x at g0 g1 g2 HY HN FD
        have KRx := refRuns_any x wr
        have hhit : Dk.hit (q : Int) x = ((x.runs && x.t == (q : Int)) || (x.within && x.t == (q : Int))) := rfl
        have hrw : x.runs = true → x.within = false := fun h => by
          simp [Dk.Ev.runs] at h
          simp [Dk.Ev.within]
          omega
        cases hr : x.runs with
        | true =>
          have hw := hrw hr
          rw [hr] at KRx hhit
          rw [hw] at hhit
          by_cases htq : x.t = (q : Int)
          · have HQ : Hid _ := HY.out (by rw [hhit, htq]; simp)
            obtain ⟨xk, xt, xm⟩ := x
            have htq : xt = (q : Int) := htq
            subst htq
            have hm0 : ¬ (0 : Int) < xm := of_decide_eq_false hw
            have KRx : Calls Try.prog 15 #[.agg #[.int .i64 xk, .int .i64 (q : Int), .int .i64 xm]] wr fun x w' => x = .returned (.tuple #[.int .i64 (q : Int), .bool true]) ∧ Below wr.heap.size wr w' := KRx
            clear HY HN hhit hrw hr hw
            go_wp2_with fail
            refine KRx.mono ?_
            rintro e wn ⟨rfl, vn⟩
            have HBn : Hid _ := Dk.up_call HB.out vn
            obtain ⟨f0, f1, f2, f3⟩ := FD.out _ vn
            clear vn KRx g0 g1 g2 g3 FD
            go_wp2_with fail
            go_roundw
            case rel => exact ⟨k + 1, by omega, by rw [HQ.out]; first | done | go_num, by go_num, HBn.out⟩
            case measure => simp [intOf]; omega
          · have hne : (x.t == (q : Int)) = false := by simpa using htq
            have HQ : Hid _ := HN.out (by rw [hhit, hne]; simp)
            obtain ⟨xk, xt, xm⟩ := x
            have hne : (xt == (q : Int)) = false := hne
            have hm0 : ¬ (0 : Int) < xm := of_decide_eq_false hw
            have KRx : Calls Try.prog 15 #[.agg #[.int .i64 xk, .int .i64 xt, .int .i64 xm]] wr fun x w' => x = .returned (.tuple #[.int .i64 xt, .bool true]) ∧ Below wr.heap.size wr w' := KRx
            clear HY HN hhit hrw hr hw htq
            go_wp2_with fail
            refine KRx.mono ?_
            rintro e wn ⟨rfl, vn⟩
            have HBn : Hid _ := Dk.up_call HB.out vn
            obtain ⟨f0, f1, f2, f3⟩ := FD.out _ vn
            clear vn KRx g0 g1 g2 g3 FD
            go_wp2_with fail
            go_roundw
            case rel => exact ⟨k + 1, by omega, by rw [HQ.out]; first | done | go_num, by go_num, HBn.out⟩
            case measure => simp [intOf]; omega
        | false =>
          cases hw : x.within with
          | true =>
            rw [hr] at KRx hhit
            rw [hw] at hhit
            by_cases htq : x.t = (q : Int)
            · have HQ : Hid _ := HY.out (by rw [hhit, htq]; simp)
              obtain ⟨xk, xt, xm⟩ := x
              have htq : xt = (q : Int) := htq
              subst htq
              have hm0 : (0 : Int) < xm := of_decide_eq_true hw
              have hm1 : ¬ xm ≤ 0 := by omega
              have KRx : Calls Try.prog 15 #[.agg #[.int .i64 xk, .int .i64 (q : Int), .int .i64 xm]] wr fun x w' => x = .returned (.tuple #[.int .i64 0, .bool false]) ∧ Below wr.heap.size wr w' := KRx
              clear HY HN hhit hrw hr hw
              go_wp2_with fail
              refine KRx.mono ?_
              rintro e wn ⟨rfl, vn⟩
              have HBn : Hid _ := Dk.up_call HB.out vn
              obtain ⟨f0, f1, f2, f3⟩ := FD.out _ vn
              clear vn KRx g0 g1 g2 g3 FD
              go_wp2_with fail
              go_roundw
              case rel => exact ⟨k + 1, by omega, by rw [HQ.out]; first | done | go_num, by go_num, HBn.out⟩
              case measure => simp [intOf]; omega
            · have hne : (x.t == (q : Int)) = false := by simpa using htq
              have HQ : Hid _ := HN.out (by rw [hhit, hne]; simp)
              obtain ⟨xk, xt, xm⟩ := x
              have hne : (xt == (q : Int)) = false := hne
              have hm0 : (0 : Int) < xm := of_decide_eq_true hw
              have hm1 : ¬ xm ≤ 0 := by omega
              have KRx : Calls Try.prog 15 #[.agg #[.int .i64 xk, .int .i64 xt, .int .i64 xm]] wr fun x w' => x = .returned (.tuple #[.int .i64 0, .bool false]) ∧ Below wr.heap.size wr w' := KRx
              clear HY HN hhit hrw hr hw htq
              go_wp2_with fail
              refine KRx.mono ?_
              rintro e wn ⟨rfl, vn⟩
              have HBn : Hid _ := Dk.up_call HB.out vn
              obtain ⟨f0, f1, f2, f3⟩ := FD.out _ vn
              clear vn KRx g0 g1 g2 g3 FD
              go_wp2_with fail
              go_roundw
              case rel => exact ⟨k + 1, by omega, by rw [HQ.out]; first | done | go_num, by go_num, HBn.out⟩
              case measure => simp [intOf]; omega
          | false =>
            rw [hr] at KRx hhit
            rw [hw] at hhit
            have HQ : Hid _ := HN.out (by rw [hhit]; simp)
            obtain ⟨xk, xt, xm⟩ := x
            have hm0 : ¬ (0 : Int) < xm := of_decide_eq_false hw
            have KRx : Calls Try.prog 15 #[.agg #[.int .i64 xk, .int .i64 xt, .int .i64 xm]] wr fun x w' => x = .returned (.tuple #[.int .i64 0, .bool false]) ∧ Below wr.heap.size wr w' := KRx
            clear HY HN hhit hrw hr hw
            go_wp2_with fail
            refine KRx.mono ?_
            rintro e wn ⟨rfl, vn⟩
            have HBn : Hid _ := Dk.up_call HB.out vn
            obtain ⟨f0, f1, f2, f3⟩ := FD.out _ vn
            clear vn KRx g0 g1 g2 g3 FD
            go_wp2_with fail
            go_roundw
            case rel => exact ⟨k + 1, by omega, by rw [HQ.out]; first | done | go_num, by go_num, HBn.out⟩
            case measure => simp [intOf]; omega
      · obtain rfl : k = L := by omega
        have hbt : b0 + Dk.cn (Dk.hit q) es k = Dk.cn (Dk.hit q) l l.length := by rw [HC.out, HL.out]
        rw [hbt]
        obtain ⟨T, hT⟩ : ∃ T, Dk.cn (Dk.hit q) l l.length = T := ⟨_, rfl⟩
        rw [hT]
        have HT : Hid _ := hT
        have K3 := KS.out _ (Dk.up_call HU.out (Dk.up_call v2 HB.out))
        have U2 : Hid _ := Dk.up_call HU.out (Dk.up_call v2 HB.out)
        clear HC hbt hT KS HE FC v2 HB HU
        go_wp2_with fail
        refine K3.mono ?_
        rintro e w3 ⟨B3, D3, rfl, s3⟩
        have HS3 : Hid _ := s3
        have U3 : Hid _ := Dk.up_call U2.out s3.out
        have FE : Hid (∀ w', Below w3.heap.size w3 w' → Dk.SlE w'.heap.size w' B3 l.length D3 l) := fun w' u => by
          obtain ⟨_, _, ev, q3⟩ := (Dk.Sep.below HS3.out u).asEvs (e := 36) (v := .slice B3 l.length D3) (n := l.length) (xs := l) (by simp) rfl HO.out
          cases ev
          exact q3
        have hcap3 := (FE.out _ (Below.refl _ _)).cap
        clear K3 s3 HS3 U2 g3 g3' g4'
        go_wp2_with fail
        go_loopw [12, 14] (fun v i w' => ∃ k' : Nat, k' ≤ l.length ∧ v = .int .i64 (Dk.cn (Dk.hit q) l k' : Int) ∧ i = .int .i64 k' ∧ Hid (Below w3.heap.size w3 w')) (fun v i w' => l.length - (intOf i).toNat)
        case atStart => exact ⟨0, Nat.zero_le _, rfl, rfl, Below.refl _ _⟩
        case round =>
          obtain ⟨k', hk', rfl, rfl, HB⟩ := hrel
          by_cases hlt : k' < l.length
          · obtain ⟨b, o, rfl, hbb, _, g0, g1, g2⟩ := (FE.out _ HB.out).at hlt
            have hle := Dk.cn_le (Dk.hit q) l k'
            have FD : Hid (∀ w', Below wr.heap.size wr w' → w'.cell? ⟨b, o + k' * 3, none⟩ = some (.int .i64 (l.getD k' Dk.Ev.zero).k) ∧ w'.cell? ⟨b, o + k' * 3 + 1, none⟩ = some (.int .i64 (l.getD k' Dk.Ev.zero).t) ∧ w'.cell? ⟨b, o + k' * 3 + 2, none⟩ = some (.int .i64 (l.getD k' Dk.Ev.zero).m) ∧ True) := fun w' u =>
              ⟨(u.cell (by exact hbb)).trans g0, (u.cell (by exact hbb)).trans g1, (u.cell (by exact hbb)).trans g2, True.intro⟩
            have HY : Hid (Dk.hit (q : Int) (l.getD k' Dk.Ev.zero) = true → Dk.cn (Dk.hit q) l (k' + 1) = Dk.cn (Dk.hit q) l k' + 1) := fun h => Dk.cn_yes hlt h
            have HN : Hid (Dk.hit (q : Int) (l.getD k' Dk.Ev.zero) = false → Dk.cn (Dk.hit q) l (k' + 1) = Dk.cn (Dk.hit q) l k') := fun h => Dk.cn_no hlt h
            have hkept := HK.out (l.getD k' Dk.Ev.zero) (by simp [List.getD, hlt])
            have g3 := True.intro
            generalize Dk.cn (Dk.hit q) l k' = n at *
            generalize l.getD k' Dk.Ev.zero = x at g0 g1 g2 HY HN FD hkept
            have KRx := refRuns_any x wr
            have hhit : Dk.hit (q : Int) x = ((x.runs && x.t == (q : Int)) || (x.within && x.t == (q : Int))) := rfl
            have hrw : x.runs = true → x.within = false := fun h => by
              simp [Dk.Ev.runs] at h
              simp [Dk.Ev.within]
              omega
            cases hr : x.runs with
            | true =>
              have hw := hrw hr
              rw [hr] at KRx hhit
              rw [hw] at hhit
              by_cases htq : x.t = (q : Int)
              · have HQ : Hid _ := HY.out (by rw [hhit, htq]; simp)
                obtain ⟨xk, xt, xm⟩ := x
                have htq : xt = (q : Int) := htq
                subst htq
                have hm0 : ¬ (0 : Int) < xm := of_decide_eq_false hw
                have KRx : Calls Try.prog 15 #[.agg #[.int .i64 xk, .int .i64 (q : Int), .int .i64 xm]] wr fun x w' => x = .returned (.tuple #[.int .i64 (q : Int), .bool true]) ∧ Below wr.heap.size wr w' := KRx
                clear HY HN hhit hrw hr hw
                go_wp2_with fail
                refine KRx.mono ?_
                rintro e wn ⟨rfl, vn⟩
                have HBn : Hid _ := Dk.up_call HB.out vn
                obtain ⟨f0, f1, f2, f3⟩ := FD.out _ vn
                clear vn KRx g0 g1 g2 g3 FD
                go_wp2_with fail
                go_roundw
                case rel => exact ⟨k' + 1, by omega, by rw [HQ.out]; first | done | go_num, by go_num, HBn.out⟩
                case measure => simp [intOf]; omega
              · have hne : (x.t == (q : Int)) = false := by simpa using htq
                have HQ : Hid _ := HN.out (by rw [hhit, hne]; simp)
                obtain ⟨xk, xt, xm⟩ := x
                have hne : (xt == (q : Int)) = false := hne
                have hm0 : ¬ (0 : Int) < xm := of_decide_eq_false hw
                have KRx : Calls Try.prog 15 #[.agg #[.int .i64 xk, .int .i64 xt, .int .i64 xm]] wr fun x w' => x = .returned (.tuple #[.int .i64 xt, .bool true]) ∧ Below wr.heap.size wr w' := KRx
                clear HY HN hhit hrw hr hw htq
                go_wp2_with fail
                refine KRx.mono ?_
                rintro e wn ⟨rfl, vn⟩
                have HBn : Hid _ := Dk.up_call HB.out vn
                obtain ⟨f0, f1, f2, f3⟩ := FD.out _ vn
                clear vn KRx g0 g1 g2 g3 FD
                go_wp2_with fail
                go_roundw
                case rel => exact ⟨k' + 1, by omega, by rw [HQ.out]; first | done | go_num, by go_num, HBn.out⟩
                case measure => simp [intOf]; omega
            | false =>
              cases hw : x.within with
              | true =>
                rw [hr] at KRx hhit
                rw [hw] at hhit
                by_cases htq : x.t = (q : Int)
                · have HQ : Hid _ := HY.out (by rw [hhit, htq]; simp)
                  obtain ⟨xk, xt, xm⟩ := x
                  have htq : xt = (q : Int) := htq
                  subst htq
                  have hm0 : (0 : Int) < xm := of_decide_eq_true hw
                  have hm1 : ¬ xm ≤ 0 := by omega
                  have KRx : Calls Try.prog 15 #[.agg #[.int .i64 xk, .int .i64 (q : Int), .int .i64 xm]] wr fun x w' => x = .returned (.tuple #[.int .i64 0, .bool false]) ∧ Below wr.heap.size wr w' := KRx
                  clear HY HN hhit hrw hr hw
                  go_wp2_with fail
                  refine KRx.mono ?_
                  rintro e wn ⟨rfl, vn⟩
                  have HBn : Hid _ := Dk.up_call HB.out vn
                  obtain ⟨f0, f1, f2, f3⟩ := FD.out _ vn
                  clear vn KRx g0 g1 g2 g3 FD
                  go_wp2_with fail
                  go_roundw
                  case rel => exact ⟨k' + 1, by omega, by rw [HQ.out]; first | done | go_num, by go_num, HBn.out⟩
                  case measure => simp [intOf]; omega
                · have hne : (x.t == (q : Int)) = false := by simpa using htq
                  have HQ : Hid _ := HN.out (by rw [hhit, hne]; simp)
                  obtain ⟨xk, xt, xm⟩ := x
                  have hne : (xt == (q : Int)) = false := hne
                  have hm0 : (0 : Int) < xm := of_decide_eq_true hw
                  have hm1 : ¬ xm ≤ 0 := by omega
                  have KRx : Calls Try.prog 15 #[.agg #[.int .i64 xk, .int .i64 xt, .int .i64 xm]] wr fun x w' => x = .returned (.tuple #[.int .i64 0, .bool false]) ∧ Below wr.heap.size wr w' := KRx
                  clear HY HN hhit hrw hr hw htq
                  go_wp2_with fail
                  refine KRx.mono ?_
                  rintro e wn ⟨rfl, vn⟩
                  have HBn : Hid _ := Dk.up_call HB.out vn
                  obtain ⟨f0, f1, f2, f3⟩ := FD.out _ vn
                  clear vn KRx g0 g1 g2 g3 FD
                  go_wp2_with fail
                  go_roundw
                  case rel => exact ⟨k' + 1, by omega, by rw [HQ.out]; first | done | go_num, by go_num, HBn.out⟩
                  case measure => simp [intOf]; omega
              | false =>
                exfalso
                unfold Dk.Ev.kept at hkept
                rw [hr, hw] at hkept
                cases hkept
          · obtain hkl : k' = l.length := by omega
            have ek : Dk.cn (Dk.hit q) l k' = T := by rw [hkl]; exact HT.out
            rw [ek]
            clear ek
            go_wp2_with fail
            refine (awake_any _).mono ?_
            rintro e w5 ⟨rfl, v5⟩
            have U5 : Hid _ := Dk.up_call U3.out (Dk.up_call HB.out v5)
            clear v5
            go_wp2_with fail
            go_ret
            exact ⟨rfl, U5.out⟩
end Go.Proofs.Ythpphicgkkhbfaa
