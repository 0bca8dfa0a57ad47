/- Layer 14: what is told of events, one by one; those that count again; events and more. -/
import Derived.Test.YtogddcbggenjmaaEb
namespace Dk
open Go Go.RowKit
/-- A function value that tells of an event: its thread, where p says yes. -/
structure Tells (P : Program) (fn : Nat) (p : Ev → Bool) : Prop where
  call : ∀ (args : Array Value) (w : World), (callFunc fn args).run P w = .ok (.enter fn args) w
  says : ∀ (e : Ev) (w : World), Calls P fn #[e.v] w fun x w' => x = .returned (.tuple #[.int .i64 (if p e then e.t else 0), .bool (p e)]) ∧ Below w.heap.size w w'
end Dk
namespace Go.Proofs.Ytogddcbggenjmaa
set_option linter.unusedSimpArgs false
set_option linter.unusedVariables false
set_option linter.unnecessarySimpa false
open Go.RowKit Go.Lib
set_option maxRecDepth 100000 in
theorem call_runs (args : Array Value) (w : World) : (callFunc 8 args).run Try.prog w = .ok (.enter 8 args) w := by kernel_rfl
set_option maxRecDepth 100000 in
theorem call_has (args : Array Value) (w : World) : (callFunc 18 args).run Try.prog w = .ok (.enter 18 args) w := by kernel_rfl
set_option maxRecDepth 100000 in
theorem call_sec (args : Array Value) (w : World) : (callFunc 17 args).run Try.prog w = .ok (.enter 17 args) w := by kernel_rfl
theorem tells_runs : Dk.Tells Try.prog 8 Dk.Ev.runs := ⟨call_runs, Runs_any⟩
theorem tells_has : Dk.Tells Try.prog 18 Dk.Ev.has := ⟨call_has, threadOf_any⟩

section
variable {w : World}
set_option maxRecDepth 100000 in
set_option maxHeartbeats 1000000 in
theorem tell_any {fn : Nat} {p : Dk.Ev → Bool} (T : Dk.Tells Try.prog fn p) {A : Option Addr} {L C : Nat} {es : List Dk.Ev} (hE : Dk.SlE w.heap.size w A L C es) (hL : L ≤ 5864062014805) :
    Calls Try.prog 19 #[.slice A L C, .func (.func fn) #[] #[]] w fun e w' => ∃ v, e = .returned v ∧ Dk.Sep w w' [Dk.rowOf 3 1 v (Dk.tellL p es).length (Dk.is (Dk.tellL p es))] := by
  have hfn := T.call
  have HK : Hid (∀ (e : Dk.Ev) (w : World), Calls Try.prog fn #[e.v] w fun x w' => x = .returned (.tuple #[.int .i64 (if p e then e.t else 0), .bool (p e)]) ∧ Below w.heap.size w w') := T.says
  have hlen := hE.len
  have hcap := hE.cap
  have HH : Hid (Dk.SlE w.heap.size w A L C es) := hE
  have HL : Hid (es.length = L) := hlen
  have s0 := (Dk.Sep.begin (Below.refl w.heap.size w)).nilRow 3 1
  clear hE hlen T
  go_enter Try.func19, Try.ntmps19
  go_wp2_with fail
  go_loopw [5, 12] (fun v i w' => ∃ k : Nat, k ≤ L ∧ i = .int .i64 k ∧ Dk.Sep w w' [Dk.rowOf 3 1 v (Dk.tellL p (es.take k)).length (Dk.is (Dk.tellL p (es.take k)))]) (fun v i w' => L - (intOf i).toNat)
  case atStart => exact ⟨0, Nat.zero_le _, rfl, s0⟩
  case round =>
    clear s0
    obtain ⟨k, hk, rfl, hS⟩ := hrel
    have hb := hS.out
    by_cases hlt : k < L
    · obtain ⟨b, o, rfl, hbb, _, k0, k1, k2⟩ := HH.out.at hlt
      have hkl : k < es.length := by rw [HL.out]; exact hlt
      have hn : (Dk.tellL p (es.take k)).length ≤ k := Nat.le_trans (Dk.tellL_len _ _) (by rw [List.length_take]; omega)
      have HY : Hid (p (es.getD k Dk.Ev.zero) = true → Dk.tellL p (es.take (k + 1)) = Dk.tellL p (es.take k) ++ [(es.getD k Dk.Ev.zero).t]) := Dk.tellL_yes hkl
      have HN : Hid (p (es.getD k Dk.Ev.zero) = false → Dk.tellL p (es.take (k + 1)) = Dk.tellL p (es.take k)) := Dk.tellL_no hkl
      have KT := fun w => HK.out (es.getD k Dk.Ev.zero) w
      generalize es.getD k Dk.Ev.zero = x at k0 k1 k2 HY HN KT
      obtain ⟨xk, xt, xm⟩ := x
      have c0 : wr.cell? ⟨b, o + k * 3, none⟩ = some (.int .i64 xk) := by rw [hb.cell (by exact hbb)]; exact k0
      have c1 : wr.cell? ⟨b, o + k * 3 + 1, none⟩ = some (.int .i64 xt) := by rw [hb.cell (by exact hbb)]; exact k1
      have c2 : wr.cell? ⟨b, o + k * 3 + 2, none⟩ = some (.int .i64 xm) := by rw [hb.cell (by exact hbb)]; exact k2
      obtain ⟨W1, e1⟩ : ∃ W1, W1 = wr.alloc (.cells #[.int .i64 xk, .int .i64 xt, .int .i64 xm] 25) := ⟨_, rfl⟩
      have u1 : Below wr.heap.size wr W1 := by rw [e1]; exact Dk.up_alloc (Below.refl _ _) _
      have b1 : Dk.Box W1 wr.heap.size #[.int .i64 xk, .int .i64 xt, .int .i64 xm] 25 := by rw [e1]; exact Dk.Box.new _ _ _
      have d0 : W1.cell? ⟨wr.heap.size, 0, none⟩ = some (.int .i64 xk) := b1.cell 0
      have d1 : W1.cell? ⟨wr.heap.size, 1, none⟩ = some (.int .i64 xt) := b1.cell 1
      have d2 : W1.cell? ⟨wr.heap.size, 2, none⟩ = some (.int .i64 xm) := b1.cell 2
      have HE : Hid (wr.alloc (.cells #[.int .i64 xk, .int .i64 xt, .int .i64 xm] 25) = W1) := e1.symm
      have S1 := hS.below u1
      clear e1 u1 b1 hb hS k0 k1 k2
      cases hp : p ⟨xk, xt, xm⟩ with
      | true =>
        rw [hp] at KT
        have HQ := HY.out hp
        have HQ : Hid _ := HQ
        clear HY HN hp
        go_wp2_with (rw [HE.out]; clear HE)
        refine (KT _).mono ?_
        rintro e w2 ⟨rfl, v2⟩
        have S2 := S1.below v2
        obtain ⟨v', w3, hrun, S3⟩ := S2.appendI (us1 := []) (x := xt) KI (by unfold maxLen; omega) (by omega)
        clear S1 S2 v2 KT c0 c1 c2 d0 d1 d2
        go_wp2_with (at_builtin; refine Lib.wpList_append_run _ rfl _ _ _ _ rfl _ _ rfl rfl _ _ hrun ?_)
        go_roundw
        case rel => exact ⟨k + 1, by omega, by go_num, by rw [HQ.out, List.length_append]; exact S3⟩
        case measure => simp [intOf]; omega
      | false =>
        rw [hp] at KT
        have HQ := HN.out hp
        have HQ : Hid _ := HQ
        clear HY HN hp
        go_wp2_with (rw [HE.out]; clear HE)
        refine (KT _).mono ?_
        rintro e w2 ⟨rfl, v2⟩
        have S2 := S1.below v2
        clear S1 v2 KT c0 c1 c2 d0 d1 d2
        go_wp2_with fail
        go_roundw
        case rel => exact ⟨k + 1, by omega, by go_num, by rw [HQ.out]; exact S2⟩
        case measure => simp [intOf]; omega
    · obtain rfl : k = L := by omega
      rw [List.take_of_length_le (by rw [HL.out]; omega)] at hS
      have HS : Hid _ := hS
      clear hS
      go_wp2
      go_ret
      exact ⟨_, rfl, HS.out⟩
set_option maxRecDepth 100000 in
theorem Threads_any {A : Option Addr} {L C : Nat} {es : List Dk.Ev} (hE : Dk.SlE w.heap.size w A L C es) (hL : L ≤ 5864062014805) :
    Calls Try.prog 11 #[.slice A L C] w fun e w' => ∃ v, e = .returned v ∧ Dk.Sep w w' [Dk.rowOf 3 1 v (Dk.tellL Dk.Ev.has es).length (Dk.is (Dk.tellL Dk.Ev.has es))] := by
  have K := tell_any tells_has hE hL
  clear hE
  generalize Dk.tellL Dk.Ev.has es = l at *
  go_enter Try.func11, Try.ntmps11
  go_wp2_with fail
  refine K.mono ?_
  rintro e w' ⟨v, rfl, hS⟩
  have HS : Hid _ := hS
  clear hS
  go_wp2
  go_ret
  exact ⟨_, rfl, HS.out⟩
set_option maxRecDepth 100000 in
theorem Ready_any {A : Option Addr} {L C : Nat} {es : List Dk.Ev} (hE : Dk.SlE w.heap.size w A L C es) (hL : L ≤ 5864062014805) :
    Calls Try.prog 12 #[.slice A L C] w fun e w' => ∃ v, e = .returned v ∧ Dk.Sep w w' [Dk.rowOf 3 1 v (Dk.tellL Dk.Ev.runs es).length (Dk.is (Dk.tellL Dk.Ev.runs es))] := by
  have K := tell_any tells_runs hE hL
  clear hE
  generalize Dk.tellL Dk.Ev.runs es = l at *
  go_enter Try.func12, Try.ntmps12
  go_wp2_with fail
  refine K.mono ?_
  rintro e w' ⟨v, rfl, hS⟩
  have HS : Hid _ := hS
  clear hS
  go_wp2
  go_ret
  exact ⟨_, rfl, HS.out⟩

set_option maxRecDepth 100000 in
set_option maxHeartbeats 1000000 in
theorem Keep_any {A : Option Addr} {L C : Nat} {es : List Dk.Ev} (hE : Dk.SlE w.heap.size w A L C es) (hL : L ≤ 5864062014805) :
    Calls Try.prog 14 #[.slice A L C] w fun e w' => ∃ v, e = .returned v ∧ Dk.Sep w w' [Dk.rowOf 25 3 v (Dk.keepL es).length (Dk.evs (Dk.keepL es))] := by
  have hlen := hE.len
  have hcap := hE.cap
  have HH : Hid (Dk.SlE w.heap.size w A L C es) := hE
  have HL : Hid (es.length = L) := hlen
  have s0 := (Dk.Sep.begin (Below.refl w.heap.size w)).nilRow 25 3
  clear hE hlen
  go_enter Try.func14, Try.ntmps14
  go_wp2_with fail
  go_loopw [3, 10] (fun v i w' => ∃ k : Nat, k ≤ L ∧ i = .int .i64 k ∧ Dk.Sep w w' [Dk.rowOf 25 3 v (Dk.keepL (es.take k)).length (Dk.evs (Dk.keepL (es.take k)))]) (fun v i w' => L - (intOf i).toNat)
  case atStart => exact ⟨0, Nat.zero_le _, rfl, s0⟩
  case round =>
    clear s0
    obtain ⟨k, hk, rfl, hS⟩ := hrel
    have hb := hS.out
    by_cases hlt : k < L
    · obtain ⟨b, o, rfl, hbb, _, k0, k1, k2⟩ := HH.out.at hlt
      have hkl : k < es.length := by rw [HL.out]; exact hlt
      have hn : (Dk.keepL (es.take k)).length ≤ k := Nat.le_trans (Dk.keepL_len _) (by rw [List.length_take]; omega)
      have HY : Hid ((es.getD k Dk.Ev.zero).kept = true → Dk.keepL (es.take (k + 1)) = Dk.keepL (es.take k) ++ [es.getD k Dk.Ev.zero]) := Dk.keepL_yes hkl
      have HN : Hid ((es.getD k Dk.Ev.zero).kept = false → Dk.keepL (es.take (k + 1)) = Dk.keepL (es.take k)) := Dk.keepL_no hkl
      generalize es.getD k Dk.Ev.zero = x at k0 k1 k2 HY HN
      have KR := fun w => Runs_any x w
      have KS := fun w => inSection_any x w
      have hkept : x.kept = (x.runs || x.within) := rfl
      generalize (if x.runs then x.t else 0) = tv at KR
      generalize x.runs = xr at KR hkept
      generalize x.within = xs at KS hkept
      obtain ⟨xk, xt, xm⟩ := x
      have c0 : wr.cell? ⟨b, o + k * 3, none⟩ = some (.int .i64 xk) := by rw [hb.cell (by exact hbb)]; exact k0
      have c1 : wr.cell? ⟨b, o + k * 3 + 1, none⟩ = some (.int .i64 xt) := by rw [hb.cell (by exact hbb)]; exact k1
      have c2 : wr.cell? ⟨b, o + k * 3 + 2, none⟩ = some (.int .i64 xm) := by rw [hb.cell (by exact hbb)]; exact k2
      obtain ⟨W1, e1⟩ : ∃ W1, W1 = wr.alloc (.cells #[.int .i64 xk, .int .i64 xt, .int .i64 xm] 25) := ⟨_, rfl⟩
      have S1 := hS.newBox e1
      have HE : Hid (wr.alloc (.cells #[.int .i64 xk, .int .i64 xt, .int .i64 xm] 25) = W1) := e1.symm
      have FB : Hid (∀ w2 ts, Dk.Sep w w2 (Dk.boxOf wr.heap.size #[.int .i64 xk, .int .i64 xt, .int .i64 xm] 25 :: ts) → w2.cell? ⟨wr.heap.size, 0, none⟩ = some (.int .i64 xk) ∧ w2.cell? ⟨wr.heap.size, 1, none⟩ = some (.int .i64 xt) ∧ w2.cell? ⟨wr.heap.size, 2, none⟩ = some (.int .i64 xm)) := fun w2 ts h => ⟨(h.box (List.mem_cons_self ..)).cell 0, (h.box (List.mem_cons_self ..)).cell 1, (h.box (List.mem_cons_self ..)).cell 2⟩
      obtain ⟨d0, d1, d2⟩ := FB.out _ _ S1
      clear e1 hb hS k0 k1 k2
      cases xr with
      | true =>
        have HQ : Hid _ := HY.out hkept
        clear HY HN hkept KS
        go_wp2_with (rw [HE.out]; clear HE)
        refine (KR _).mono ?_
        rintro e w2 ⟨rfl, v2⟩
        have S2 := S1.below v2
        obtain ⟨f0, f1, f2⟩ := FB.out _ _ S2
        obtain ⟨v', w3, hrun, S3⟩ := Dk.Sep.appendE (us1 := [_]) (x := ⟨xk, xt, xm⟩) KE S2 (by unfold maxLen; omega) (by omega)
        have S4 := S3.sub (List.sublist_cons_self _ _)
        clear S1 S2 S3 v2 KR c0 c1 c2 d0 d1 d2 FB
        go_wp2_with (at_builtin; refine Lib.wpList_append_run _ rfl _ _ _ _ rfl _ _ rfl rfl _ _ hrun ?_)
        go_roundw
        case rel => exact ⟨k + 1, by omega, by go_num, by rw [HQ.out, List.length_append]; exact S4⟩
        case measure => simp [intOf]; omega
      | false =>
        cases xs with
        | true =>
          have HQ : Hid _ := HY.out hkept
          clear HY HN hkept
          go_wp2_with (rw [HE.out]; clear HE)
          refine (KR _).mono ?_
          rintro e w2 ⟨rfl, v2⟩
          have S2 := S1.below v2
          obtain ⟨f0, f1, f2⟩ := FB.out _ _ S2
          clear S1 v2 KR c0 c1 c2 d0 d1 d2
          go_wp2_with fail
          refine (KS _).mono ?_
          rintro e w3 ⟨rfl, v3⟩
          have S3 := S2.below v3
          obtain ⟨g0, g1, g2⟩ := FB.out _ _ S3
          obtain ⟨v', w4, hrun, S4⟩ := Dk.Sep.appendE (us1 := [_]) (x := ⟨xk, xt, xm⟩) KE S3 (by unfold maxLen; omega) (by omega)
          have S5 := S4.sub (List.sublist_cons_self _ _)
          clear S2 S3 S4 v3 KS f0 f1 f2 FB
          go_wp2_with (at_builtin; refine Lib.wpList_append_run _ rfl _ _ _ _ rfl _ _ rfl rfl _ _ hrun ?_)
          go_roundw
          case rel => exact ⟨k + 1, by omega, by go_num, by rw [HQ.out, List.length_append]; exact S5⟩
          case measure => simp [intOf]; omega
        | false =>
          have HQ : Hid _ := HN.out hkept
          clear HY HN hkept
          go_wp2_with (rw [HE.out]; clear HE)
          refine (KR _).mono ?_
          rintro e w2 ⟨rfl, v2⟩
          have S2 := S1.below v2
          obtain ⟨f0, f1, f2⟩ := FB.out _ _ S2
          clear S1 v2 KR c0 c1 c2 d0 d1 d2 FB
          go_wp2_with fail
          refine (KS _).mono ?_
          rintro e w3 ⟨rfl, v3⟩
          have S3 := (S2.below v3).sub (List.sublist_cons_self _ _)
          clear S2 v3 KS f0 f1 f2
          go_wp2_with fail
          go_roundw
          case rel => exact ⟨k + 1, by omega, by go_num, by rw [HQ.out]; exact S3⟩
          case measure => simp [intOf]; omega
    · obtain rfl : k = L := by omega
      rw [List.take_of_length_le (by rw [HL.out]; omega)] at hS
      have HS : Hid _ := hS
      clear hS
      go_wp2
      go_ret
      exact ⟨_, rfl, HS.out⟩
end
end Go.Proofs.Ytogddcbggenjmaa
