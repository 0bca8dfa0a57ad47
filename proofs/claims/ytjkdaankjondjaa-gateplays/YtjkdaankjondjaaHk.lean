/- What the gates' calls do, a way each. -/
import Derived.Test.YtjkdaankjondjaaHj
import Derived.Test.YtjkdaankjondjaaGh
namespace Go.Proofs.Ytjkdaankjondjaa
set_option linter.unusedSimpArgs false
set_option linter.unusedVariables false
set_option linter.unnecessarySimpa false
open Go.RowKit Go.Lib

section
variable {W w : World} {b k : Nat} {S : Dk.St} {vm vc vs : Value} {ms : List Mx} {cs : List Cx} {ss : List Sx} {us : List Dk.Thing}

set_option maxHeartbeats 1000000 in
theorem Lock_arg (h : Dk.Sep W w (us ++ gts b vm vc vs ms cs ss)) (who n : Int) (hn : n < 0 ∨ (ms.length : Int) ≤ n) :
    Calls Try.prog 17 #[.pointer (some ⟨b, 0, none⟩), .int .i64 who, .int .i64 n] w fun e w' => e = .returned (.tuple #[.bool false, .int .i64 1]) ∧ w' = w := by
  go_enter Try.func17, Try.ntmps17
  have K := hasM_no h n hn
  go_wp2_with fail
  refine K.mono ?_
  rintro e w' ⟨rfl, hw'⟩
  subst w'
  clear K
  clear h
  go_wp2_with fail
  go_ret2
  exact ⟨rfl, rfl⟩

set_option maxHeartbeats 1000000 in
theorem Lock_busy (h : Dk.Sep W w (us ++ gts b vm vc vs ms cs ss)) (l : Like S ms cs ss) (ok : Dk.Ok S k) (who : Int) (n : Nat) (hn : n < ms.length) (hw : S.waits who = true) :
    Calls Try.prog 17 #[.pointer (some ⟨b, 0, none⟩), .int .i64 who, .int .i64 (n : Int)] w fun e w' => e = .returned (.tuple #[.bool false, .int .i64 4]) ∧ Below w.heap.size w w' := by
  go_enter Try.func17, Try.ntmps17
  have K := hasM_yes h n hn
  go_wp2_with fail
  refine K.mono ?_
  rintro e w' ⟨rfl, hw'⟩
  subst w'
  clear K
  have K := waits_any h l ok who
  rw [hw] at K
  clear hw
  go_wp2_with fail
  refine K.mono ?_
  rintro e w1 ⟨rfl, u1⟩
  have HU : Hid _ := u1
  clear K u1 h l ok
  go_wp2_with fail
  go_ret2
  exact ⟨rfl, HU.out⟩

set_option maxHeartbeats 1000000 in
theorem Lock_mine (h : Dk.Sep W w (us ++ gts b vm vc vs ms cs ss)) (l : Like S ms cs ss) (ok : Dk.Ok S k) (who : Int) (n : Nat) (hn : n < ms.length) (hw : S.waits who = false) {m : Mx} (hm : ms[n]? = some m) (ho : (m.owned && decide (m.owner = who)) = true) :
    Calls Try.prog 17 #[.pointer (some ⟨b, 0, none⟩), .int .i64 who, .int .i64 (n : Int)] w fun e w' => e = .returned (.tuple #[.bool false, .int .i64 4]) ∧ Dk.Sep W w' (us ++ gts b vm vc vs ms cs ss) := by
  obtain ⟨g, C, ev, hC, hmx⟩ := someM h hn
  unfold maxLen at hmx
  subst ev
  go_enter Try.func17, Try.ntmps17
  have K := hasM_yes h n hn
  go_wp2_with fail
  refine K.mono ?_
  rintro e w' ⟨rfl, hw'⟩
  subst w'
  clear K
  have K := waits_any h l ok who
  rw [hw] at K
  go_wp2_with fail
  refine K.mono ?_
  rintro e w1 ⟨rfl, u1⟩
  have h1 := h.below u1
  clear K h u1
  have K := isOf_any (cellM h1 hm).2.1 (cellM h1 hm).2.2 who
  rw [ho] at K
  have hni : (n : Int) < (ms.length : Int) := by omega
  have c0 : w1.cell? ⟨b, 0, none⟩ = some (.slice (some ⟨g, 0, none⟩) ms.length C) := (headG h1).cell 0
  go_wp2_with fail
  refine K.mono ?_
  rintro e w' ⟨rfl, hw'⟩
  subst w'
  clear K
  clear ho hm c0
  go_wp2_with fail
  go_ret2
  exact ⟨rfl, h1⟩

set_option maxHeartbeats 1000000 in
theorem Lock_wait (h : Dk.Sep W w (us ++ gts b vm vc vs ms cs ss)) (l : Like S ms cs ss) (ok : Dk.Ok S k) (who : Int) (n : Nat) (hn : n < ms.length) (hw : S.waits who = false) {m : Mx} (hm : ms[n]? = some m) (ho : (m.owned && decide (m.owner = who)) = false) (hh : m.owned = true) (hl : m.xs.length ≤ 1000) :
    Calls Try.prog 17 #[.pointer (some ⟨b, 0, none⟩), .int .i64 who, .int .i64 (n : Int)] w fun e w' => e = .returned (.tuple #[.bool false, .int .i64 0]) ∧ ∃ u', Dk.Sep W w' (us ++ gts b vm vc vs (ms.set n ⟨u', m.xs ++ [who], m.owner, m.owned⟩) cs ss) := by
  obtain ⟨g, C, ev, hC, hmx⟩ := someM h hn
  unfold maxLen at hmx
  subst ev
  go_enter Try.func17, Try.ntmps17
  have K := hasM_yes h n hn
  go_wp2_with fail
  refine K.mono ?_
  rintro e w' ⟨rfl, hw'⟩
  subst w'
  clear K
  have K := waits_any h l ok who
  rw [hw] at K
  go_wp2_with fail
  refine K.mono ?_
  rintro e w1 ⟨rfl, u1⟩
  have h1 := h.below u1
  clear K h u1
  have K := isOf_any (cellM h1 hm).2.1 (cellM h1 hm).2.2 who
  rw [ho] at K
  have hni : (n : Int) < (ms.length : Int) := by omega
  have c0 : w1.cell? ⟨b, 0, none⟩ = some (.slice (some ⟨g, 0, none⟩) ms.length C) := (headG h1).cell 0
  go_wp2_with fail
  refine K.mono ?_
  rintro e w' ⟨rfl, hw'⟩
  subst w'
  clear K
  have K := mlock_held h1 hm hh who hl
  clear ho h1
  go_wp2_with fail
  refine K.mono ?_
  rintro e w2 ⟨rfl, u', h2⟩
  clear K c0
  go_wp2_with fail
  go_ret2
  exact ⟨rfl, u', h2⟩

set_option maxHeartbeats 1000000 in
theorem Lock_yes (h : Dk.Sep W w (us ++ gts b vm vc vs ms cs ss)) (l : Like S ms cs ss) (ok : Dk.Ok S k) (who : Int) (n : Nat) (hn : n < ms.length) (hw : S.waits who = false) {m : Mx} (hm : ms[n]? = some m) (hh : m.owned = false) (h0 : m.owner = 0) :
    Calls Try.prog 17 #[.pointer (some ⟨b, 0, none⟩), .int .i64 who, .int .i64 (n : Int)] w fun e w' => e = .returned (.tuple #[.bool true, .int .i64 0]) ∧ Dk.Sep W w' (us ++ gts b vm vc vs (ms.set n ⟨m.u, m.xs, who, true⟩) cs ss) := by
  obtain ⟨g, C, ev, hC, hmx⟩ := someM h hn
  unfold maxLen at hmx
  subst ev
  have ho : (m.owned && decide (m.owner = who)) = false := by rw [hh]; rfl
  go_enter Try.func17, Try.ntmps17
  have K := hasM_yes h n hn
  go_wp2_with fail
  refine K.mono ?_
  rintro e w' ⟨rfl, hw'⟩
  subst w'
  clear K
  have K := waits_any h l ok who
  rw [hw] at K
  go_wp2_with fail
  refine K.mono ?_
  rintro e w1 ⟨rfl, u1⟩
  have h1 := h.below u1
  clear K h u1
  have K := isOf_any (cellM h1 hm).2.1 (cellM h1 hm).2.2 who
  rw [ho] at K
  have hni : (n : Int) < (ms.length : Int) := by omega
  have c0 : w1.cell? ⟨b, 0, none⟩ = some (.slice (some ⟨g, 0, none⟩) ms.length C) := (headG h1).cell 0
  go_wp2_with fail
  refine K.mono ?_
  rintro e w' ⟨rfl, hw'⟩
  subst w'
  clear K
  have K := mlock_free h1 hm hh h0 who
  clear ho h1
  go_wp2_with fail
  refine K.mono ?_
  rintro e w2 ⟨rfl, h2⟩
  clear K c0
  go_wp2_with fail
  go_ret2
  exact ⟨rfl, h2⟩

set_option maxHeartbeats 1000000 in
theorem Unlock_arg (h : Dk.Sep W w (us ++ gts b vm vc vs ms cs ss)) (who n ch : Int) (hn : n < 0 ∨ (ms.length : Int) ≤ n) :
    Calls Try.prog 18 #[.pointer (some ⟨b, 0, none⟩), .int .i64 who, .int .i64 n, .int .i64 ch] w fun e w' => e = .returned (.tuple #[.int .i64 0, .bool false, .int .i64 1]) ∧ w' = w := by
  go_enter Try.func18, Try.ntmps18
  have K := hasM_no h n hn
  go_wp2_with fail
  refine K.mono ?_
  rintro e w' ⟨rfl, hw'⟩
  subst w'
  clear K
  clear h
  go_wp2_with fail
  go_ret3
  exact ⟨rfl, rfl⟩

set_option maxHeartbeats 1000000 in
theorem Unlock_owner (h : Dk.Sep W w (us ++ gts b vm vc vs ms cs ss)) (who : Int) (n : Nat) (ch : Int) (hn : n < ms.length) {m : Mx} (hm : ms[n]? = some m) (ho : (m.owned && decide (m.owner = who)) = false) :
    Calls Try.prog 18 #[.pointer (some ⟨b, 0, none⟩), .int .i64 who, .int .i64 (n : Int), .int .i64 ch] w fun e w' => e = .returned (.tuple #[.int .i64 0, .bool false, .int .i64 5]) ∧ w' = w := by
  obtain ⟨g, C, ev, hC, hmx⟩ := someM h hn
  unfold maxLen at hmx
  subst ev
  go_enter Try.func18, Try.ntmps18
  have K := hasM_yes h n hn
  go_wp2_with fail
  refine K.mono ?_
  rintro e w' ⟨rfl, hw'⟩
  subst w'
  clear K
  have K := isOf_any (cellM h hm).2.1 (cellM h hm).2.2 who
  rw [ho] at K
  have hni : (n : Int) < (ms.length : Int) := by omega
  have c0 : w.cell? ⟨b, 0, none⟩ = some (.slice (some ⟨g, 0, none⟩) ms.length C) := (headG h).cell 0
  go_wp2_with fail
  refine K.mono ?_
  rintro e w' ⟨rfl, hw'⟩
  subst w'
  clear K
  clear h ho hm
  go_wp2_with fail
  go_ret3
  exact ⟨rfl, rfl⟩

set_option maxHeartbeats 1000000 in
theorem Unlock_none (h : Dk.Sep W w (us ++ gts b vm vc vs ms cs ss)) (who : Int) (n : Nat) (ch : Int) (hn : n < ms.length) {m : Mx} (hm : ms[n]? = some m) (ho : (m.owned && decide (m.owner = who)) = true) (hh : m.owned = true) (h0 : m.xs = []) :
    Calls Try.prog 18 #[.pointer (some ⟨b, 0, none⟩), .int .i64 who, .int .i64 (n : Int), .int .i64 ch] w fun e w' => e = .returned (.tuple #[.int .i64 0, .bool false, .int .i64 0]) ∧ Dk.Sep W w' (us ++ gts b vm vc vs (ms.set n ⟨m.u, m.xs, 0, false⟩) cs ss) := by
  obtain ⟨g, C, ev, hC, hmx⟩ := someM h hn
  unfold maxLen at hmx
  subst ev
  go_enter Try.func18, Try.ntmps18
  have K := hasM_yes h n hn
  go_wp2_with fail
  refine K.mono ?_
  rintro e w' ⟨rfl, hw'⟩
  subst w'
  clear K
  have K := isOf_any (cellM h hm).2.1 (cellM h hm).2.2 who
  rw [ho] at K
  have hni : (n : Int) < (ms.length : Int) := by omega
  have c0 : w.cell? ⟨b, 0, none⟩ = some (.slice (some ⟨g, 0, none⟩) ms.length C) := (headG h).cell 0
  go_wp2_with fail
  refine K.mono ?_
  rintro e w' ⟨rfl, hw'⟩
  subst w'
  clear K
  have K := munlock_none h hm hh h0 ch
  clear h ho
  go_wp2_with fail
  refine K.mono ?_
  rintro e w2 ⟨rfl, h2⟩
  clear K c0
  go_wp2_with fail
  go_ret3
  exact ⟨rfl, h2⟩

set_option maxHeartbeats 1000000 in
theorem Unlock_some (h : Dk.Sep W w (us ++ gts b vm vc vs ms cs ss)) (who : Int) (n : Nat) (ch : Int) (hn : n < ms.length) {m : Mx} (hm : ms[n]? = some m) (ho : (m.owned && decide (m.owner = who)) = true) (hh : m.owned = true) (hi : Dk.i64 ch) (h0 : 0 < m.xs.length) (hl : m.xs.length ≤ 1000) (a : Nat) (ea : Dk.at_ ch m.xs.length = a) :
    Calls Try.prog 18 #[.pointer (some ⟨b, 0, none⟩), .int .i64 who, .int .i64 (n : Int), .int .i64 ch] w fun e w' => e = .returned (.tuple #[.int .i64 (m.xs.getD a 0), .bool true, .int .i64 0]) ∧ ∃ u', Dk.Sep W w' (us ++ gts b vm vc vs (ms.set n ⟨u', m.xs.eraseIdx a, m.xs.getD a 0, true⟩) cs ss) := by
  obtain ⟨x, ex⟩ : ∃ x, m.xs.getD a 0 = x := ⟨_, rfl⟩
  rw [ex]
  obtain ⟨g, C, ev, hC, hmx⟩ := someM h hn
  unfold maxLen at hmx
  subst ev
  go_enter Try.func18, Try.ntmps18
  have K := hasM_yes h n hn
  go_wp2_with fail
  refine K.mono ?_
  rintro e w' ⟨rfl, hw'⟩
  subst w'
  clear K
  have K := isOf_any (cellM h hm).2.1 (cellM h hm).2.2 who
  rw [ho] at K
  have hni : (n : Int) < (ms.length : Int) := by omega
  have c0 : w.cell? ⟨b, 0, none⟩ = some (.slice (some ⟨g, 0, none⟩) ms.length C) := (headG h).cell 0
  go_wp2_with fail
  refine K.mono ?_
  rintro e w' ⟨rfl, hw'⟩
  subst w'
  clear K
  have K := munlock_some h hm hh ch hi h0 hl a ea
  rw [ex] at K
  clear h ho ex
  go_wp2_with fail
  refine K.mono ?_
  rintro e w2 ⟨rfl, u', h2⟩
  clear K c0
  go_wp2_with fail
  go_ret3
  exact ⟨rfl, u', h2⟩

set_option maxHeartbeats 1000000 in
theorem Down_arg (h : Dk.Sep W w (us ++ gts b vm vc vs ms cs ss)) (who n : Int) (hn : n < 0 ∨ (ss.length : Int) ≤ n) :
    Calls Try.prog 22 #[.pointer (some ⟨b, 0, none⟩), .int .i64 who, .int .i64 n] w fun e w' => e = .returned (.tuple #[.bool false, .int .i64 1]) ∧ w' = w := by
  go_enter Try.func22, Try.ntmps22
  have K := hasS_no h n hn
  go_wp2_with fail
  refine K.mono ?_
  rintro e w' ⟨rfl, hw'⟩
  subst w'
  clear K
  clear h
  go_wp2_with fail
  go_ret2
  exact ⟨rfl, rfl⟩

set_option maxHeartbeats 1000000 in
theorem Down_busy (h : Dk.Sep W w (us ++ gts b vm vc vs ms cs ss)) (l : Like S ms cs ss) (ok : Dk.Ok S k) (who : Int) (n : Nat) (hn : n < ss.length) (hw : S.waits who = true) :
    Calls Try.prog 22 #[.pointer (some ⟨b, 0, none⟩), .int .i64 who, .int .i64 (n : Int)] w fun e w' => e = .returned (.tuple #[.bool false, .int .i64 4]) ∧ Below w.heap.size w w' := by
  go_enter Try.func22, Try.ntmps22
  have K := hasS_yes h n hn
  go_wp2_with fail
  refine K.mono ?_
  rintro e w' ⟨rfl, hw'⟩
  subst w'
  clear K
  have K := waits_any h l ok who
  rw [hw] at K
  clear hw
  go_wp2_with fail
  refine K.mono ?_
  rintro e w1 ⟨rfl, u1⟩
  have HU : Hid _ := u1
  clear K u1 h l ok
  go_wp2_with fail
  go_ret2
  exact ⟨rfl, HU.out⟩

set_option maxHeartbeats 1000000 in
theorem Down_yes (h : Dk.Sep W w (us ++ gts b vm vc vs ms cs ss)) (l : Like S ms cs ss) (ok : Dk.Ok S k) (who : Int) (n : Nat) (hn : n < ss.length) (hw : S.waits who = false) {s : Sx} (hs : ss[n]? = some s) (hc : 0 < s.count ∧ s.count ≤ 1048576) :
    Calls Try.prog 22 #[.pointer (some ⟨b, 0, none⟩), .int .i64 who, .int .i64 (n : Int)] w fun e w' => e = .returned (.tuple #[.bool true, .int .i64 0]) ∧ Dk.Sep W w' (us ++ gts b vm vc vs ms cs (ss.set n ⟨s.u, s.xs, s.count - 1⟩)) := by
  obtain ⟨g, C, ev, hC, hmx⟩ := someS h hn
  unfold maxLen at hmx
  subst ev
  go_enter Try.func22, Try.ntmps22
  have K := hasS_yes h n hn
  go_wp2_with fail
  refine K.mono ?_
  rintro e w' ⟨rfl, hw'⟩
  subst w'
  clear K
  have K := waits_any h l ok who
  rw [hw] at K
  go_wp2_with fail
  refine K.mono ?_
  rintro e w1 ⟨rfl, u1⟩
  have h1 := h.below u1
  clear K h u1
  have hni : (n : Int) < (ss.length : Int) := by omega
  have c0 : w1.cell? ⟨b, 2, none⟩ = some (.slice (some ⟨g, 0, none⟩) ss.length C) := (headG h1).cell 2
  have K := mdown_less h1 hs hc who
  clear h1
  go_wp2_with fail
  refine K.mono ?_
  rintro e w2 ⟨rfl, h2⟩
  clear K c0
  go_wp2_with fail
  go_ret2
  exact ⟨rfl, h2⟩

set_option maxHeartbeats 1000000 in
theorem Down_wait (h : Dk.Sep W w (us ++ gts b vm vc vs ms cs ss)) (l : Like S ms cs ss) (ok : Dk.Ok S k) (who : Int) (n : Nat) (hn : n < ss.length) (hw : S.waits who = false) {s : Sx} (hs : ss[n]? = some s) (hc : s.count = 0) (hl : s.xs.length ≤ 1000) :
    Calls Try.prog 22 #[.pointer (some ⟨b, 0, none⟩), .int .i64 who, .int .i64 (n : Int)] w fun e w' => e = .returned (.tuple #[.bool false, .int .i64 0]) ∧ ∃ u', Dk.Sep W w' (us ++ gts b vm vc vs ms cs (ss.set n ⟨u', s.xs ++ [who], s.count⟩)) := by
  obtain ⟨g, C, ev, hC, hmx⟩ := someS h hn
  unfold maxLen at hmx
  subst ev
  go_enter Try.func22, Try.ntmps22
  have K := hasS_yes h n hn
  go_wp2_with fail
  refine K.mono ?_
  rintro e w' ⟨rfl, hw'⟩
  subst w'
  clear K
  have K := waits_any h l ok who
  rw [hw] at K
  go_wp2_with fail
  refine K.mono ?_
  rintro e w1 ⟨rfl, u1⟩
  have h1 := h.below u1
  clear K h u1
  have hni : (n : Int) < (ss.length : Int) := by omega
  have c0 : w1.cell? ⟨b, 2, none⟩ = some (.slice (some ⟨g, 0, none⟩) ss.length C) := (headG h1).cell 2
  have K := mdown_join h1 hs hc who hl
  clear h1
  go_wp2_with fail
  refine K.mono ?_
  rintro e w2 ⟨rfl, u', h2⟩
  clear K c0
  go_wp2_with fail
  go_ret2
  exact ⟨rfl, u', h2⟩

set_option maxHeartbeats 1000000 in
theorem Up_arg (h : Dk.Sep W w (us ++ gts b vm vc vs ms cs ss)) (n ch : Int) (hn : n < 0 ∨ (ss.length : Int) ≤ n) :
    Calls Try.prog 21 #[.pointer (some ⟨b, 0, none⟩), .int .i64 n, .int .i64 ch] w fun e w' => e = .returned (.tuple #[.int .i64 0, .bool false, .int .i64 1]) ∧ w' = w := by
  go_enter Try.func21, Try.ntmps21
  have K := hasS_no h n hn
  go_wp2_with fail
  refine K.mono ?_
  rintro e w' ⟨rfl, hw'⟩
  subst w'
  clear K
  clear h
  go_wp2_with fail
  go_ret3
  exact ⟨rfl, rfl⟩

set_option maxHeartbeats 1000000 in
theorem Up_some (h : Dk.Sep W w (us ++ gts b vm vc vs ms cs ss)) (n : Nat) (ch : Int) (hn : n < ss.length) {s : Sx} (hs : ss[n]? = some s) (hi : Dk.i64 ch) (h0 : 0 < s.xs.length) (hl : s.xs.length ≤ 1000) (a : Nat) (ea : Dk.at_ ch s.xs.length = a) :
    Calls Try.prog 21 #[.pointer (some ⟨b, 0, none⟩), .int .i64 (n : Int), .int .i64 ch] w fun e w' => e = .returned (.tuple #[.int .i64 (s.xs.getD a 0), .bool true, .int .i64 0]) ∧ ∃ u', Dk.Sep W w' (us ++ gts b vm vc vs ms cs (ss.set n ⟨u', s.xs.eraseIdx a, s.count⟩)) := by
  obtain ⟨x, ex⟩ : ∃ x, s.xs.getD a 0 = x := ⟨_, rfl⟩
  rw [ex]
  obtain ⟨g, C, ev, hC, hmx⟩ := someS h hn
  unfold maxLen at hmx
  subst ev
  go_enter Try.func21, Try.ntmps21
  have K := hasS_yes h n hn
  go_wp2_with fail
  refine K.mono ?_
  rintro e w' ⟨rfl, hw'⟩
  subst w'
  clear K
  have hni : (n : Int) < (ss.length : Int) := by omega
  have c0 : w.cell? ⟨b, 2, none⟩ = some (.slice (some ⟨g, 0, none⟩) ss.length C) := (headG h).cell 2
  have K := mup_take h hs ch hi h0 hl a ea
  rw [ex] at K
  clear h ex
  go_wp2_with fail
  refine K.mono ?_
  rintro e w2 ⟨rfl, u', h2⟩
  clear K c0
  go_wp2_with fail
  go_ret3
  exact ⟨rfl, u', h2⟩

set_option maxHeartbeats 1000000 in
theorem Up_full (h : Dk.Sep W w (us ++ gts b vm vc vs ms cs ss)) (n : Nat) (ch : Int) (hn : n < ss.length) {s : Sx} (hs : ss[n]? = some s) (h0 : s.xs = []) (hc : s.count = 1048576) :
    Calls Try.prog 21 #[.pointer (some ⟨b, 0, none⟩), .int .i64 (n : Int), .int .i64 ch] w fun e w' => e = .returned (.tuple #[.int .i64 0, .bool false, .int .i64 2]) ∧ w' = w := by
  obtain ⟨g, C, ev, hC, hmx⟩ := someS h hn
  unfold maxLen at hmx
  subst ev
  go_enter Try.func21, Try.ntmps21
  have K := hasS_yes h n hn
  go_wp2_with fail
  refine K.mono ?_
  rintro e w' ⟨rfl, hw'⟩
  subst w'
  clear K
  have hni : (n : Int) < (ss.length : Int) := by omega
  have c0 : w.cell? ⟨b, 2, none⟩ = some (.slice (some ⟨g, 0, none⟩) ss.length C) := (headG h).cell 2
  have K := mup_full h hs ch h0 hc
  clear h
  go_wp2_with fail
  refine K.mono ?_
  rintro e w2 ⟨rfl, hw2⟩
  subst w2
  clear K c0
  go_wp2_with fail
  go_ret3
  exact ⟨rfl, rfl⟩

set_option maxHeartbeats 1000000 in
theorem Up_more (h : Dk.Sep W w (us ++ gts b vm vc vs ms cs ss)) (n : Nat) (ch : Int) (hn : n < ss.length) {s : Sx} (hs : ss[n]? = some s) (h0 : s.xs = []) (hc : 0 ≤ s.count ∧ s.count < 1048576) :
    Calls Try.prog 21 #[.pointer (some ⟨b, 0, none⟩), .int .i64 (n : Int), .int .i64 ch] w fun e w' => e = .returned (.tuple #[.int .i64 0, .bool false, .int .i64 0]) ∧ Dk.Sep W w' (us ++ gts b vm vc vs ms cs (ss.set n ⟨s.u, s.xs, s.count + 1⟩)) := by
  obtain ⟨g, C, ev, hC, hmx⟩ := someS h hn
  unfold maxLen at hmx
  subst ev
  go_enter Try.func21, Try.ntmps21
  have K := hasS_yes h n hn
  go_wp2_with fail
  refine K.mono ?_
  rintro e w' ⟨rfl, hw'⟩
  subst w'
  clear K
  have hni : (n : Int) < (ss.length : Int) := by omega
  have c0 : w.cell? ⟨b, 2, none⟩ = some (.slice (some ⟨g, 0, none⟩) ss.length C) := (headG h).cell 2
  have K := mup_more h hs ch h0 hc
  clear h
  go_wp2_with fail
  refine K.mono ?_
  rintro e w2 ⟨rfl, h2⟩
  clear K c0
  go_wp2_with fail
  go_ret3
  exact ⟨rfl, h2⟩

set_option maxHeartbeats 1000000 in
theorem Wait_argC (h : Dk.Sep W w (us ++ gts b vm vc vs ms cs ss)) (who c n ch : Int) (hn : c < 0 ∨ (cs.length : Int) ≤ c) :
    Calls Try.prog 19 #[.pointer (some ⟨b, 0, none⟩), .int .i64 who, .int .i64 c, .int .i64 n, .int .i64 ch] w fun e w' => e = .returned (.tuple #[.int .i64 0, .bool false, .int .i64 1]) ∧ w' = w := by
  go_enter Try.func19, Try.ntmps19
  have K := hasC_no h c hn
  go_wp2_with fail
  refine K.mono ?_
  rintro e w' ⟨rfl, hw'⟩
  subst w'
  clear K
  clear h
  go_wp2_with fail
  go_ret3
  exact ⟨rfl, rfl⟩

set_option maxHeartbeats 1000000 in
theorem Wait_argM (h : Dk.Sep W w (us ++ gts b vm vc vs ms cs ss)) (who : Int) (c : Nat) (n ch : Int) (hc : c < cs.length) (hn : n < 0 ∨ (ms.length : Int) ≤ n) :
    Calls Try.prog 19 #[.pointer (some ⟨b, 0, none⟩), .int .i64 who, .int .i64 (c : Int), .int .i64 n, .int .i64 ch] w fun e w' => e = .returned (.tuple #[.int .i64 0, .bool false, .int .i64 1]) ∧ w' = w := by
  go_enter Try.func19, Try.ntmps19
  have K := hasC_yes h c hc
  go_wp2_with fail
  refine K.mono ?_
  rintro e w' ⟨rfl, hw'⟩
  subst w'
  clear K
  have K := hasM_no h n hn
  go_wp2_with fail
  refine K.mono ?_
  rintro e w' ⟨rfl, hw'⟩
  subst w'
  clear K
  clear h
  go_wp2_with fail
  go_ret3
  exact ⟨rfl, rfl⟩

set_option maxHeartbeats 1000000 in
theorem Wait_busy (h : Dk.Sep W w (us ++ gts b vm vc vs ms cs ss)) (l : Like S ms cs ss) (ok : Dk.Ok S k) (who : Int) (c n : Nat) (ch : Int) (hc : c < cs.length) (hn : n < ms.length) (hw : S.waits who = true) :
    Calls Try.prog 19 #[.pointer (some ⟨b, 0, none⟩), .int .i64 who, .int .i64 (c : Int), .int .i64 (n : Int), .int .i64 ch] w fun e w' => e = .returned (.tuple #[.int .i64 0, .bool false, .int .i64 4]) ∧ Below w.heap.size w w' := by
  go_enter Try.func19, Try.ntmps19
  have K := hasC_yes h c hc
  go_wp2_with fail
  refine K.mono ?_
  rintro e w' ⟨rfl, hw'⟩
  subst w'
  clear K
  have K := hasM_yes h n hn
  go_wp2_with fail
  refine K.mono ?_
  rintro e w' ⟨rfl, hw'⟩
  subst w'
  clear K
  have K := waits_any h l ok who
  rw [hw] at K
  clear hw
  go_wp2_with fail
  refine K.mono ?_
  rintro e w1 ⟨rfl, u1⟩
  have HU : Hid _ := u1
  clear K u1 h l ok
  go_wp2_with fail
  go_ret3
  exact ⟨rfl, HU.out⟩

set_option maxHeartbeats 1000000 in
theorem Wait_owner (h : Dk.Sep W w (us ++ gts b vm vc vs ms cs ss)) (l : Like S ms cs ss) (ok : Dk.Ok S k) (who : Int) (c n : Nat) (ch : Int) (hc : c < cs.length) (hn : n < ms.length) (hw : S.waits who = false) {m : Mx} (hm : ms[n]? = some m) (ho : (m.owned && decide (m.owner = who)) = false) :
    Calls Try.prog 19 #[.pointer (some ⟨b, 0, none⟩), .int .i64 who, .int .i64 (c : Int), .int .i64 (n : Int), .int .i64 ch] w fun e w' => e = .returned (.tuple #[.int .i64 0, .bool false, .int .i64 5]) ∧ Dk.Sep W w' (us ++ gts b vm vc vs ms cs ss) := by
  go_enter Try.func19, Try.ntmps19
  have K := hasC_yes h c hc
  go_wp2_with fail
  refine K.mono ?_
  rintro e w' ⟨rfl, hw'⟩
  subst w'
  clear K
  have K := hasM_yes h n hn
  go_wp2_with fail
  refine K.mono ?_
  rintro e w' ⟨rfl, hw'⟩
  subst w'
  clear K
  have K := waits_any h l ok who
  rw [hw] at K
  go_wp2_with fail
  refine K.mono ?_
  rintro e w1 ⟨rfl, u1⟩
  have h1 := h.below u1
  clear K h u1
  have K := Unlock_owner h1 who n ch hn hm ho
  go_wp2_with fail
  refine K.mono ?_
  rintro e w2 ⟨rfl, hw2⟩
  subst w2
  clear K
  go_wp2_with fail
  go_ret3
  exact ⟨rfl, h1⟩

set_option maxHeartbeats 1000000 in
theorem Wait_none (h : Dk.Sep W w (us ++ gts b vm vc vs ms cs ss)) (l : Like S ms cs ss) (ok : Dk.Ok S k) (who : Int) (c n : Nat) (ch : Int) (hc : c < cs.length) (hn : n < ms.length) (hw : S.waits who = false) {m : Mx} (hm : ms[n]? = some m) {cx : Cx} (hcc : cs[c]? = some cx) (hlc : cx.xs.length ≤ 1000) (hiw : Dk.i64 who) (hin : Dk.i64 n) (hx : who ∉ cx.xs.map Prod.fst) (ho : (m.owned && decide (m.owner = who)) = true) (hh : m.owned = true) (h0 : m.xs = []) :
    Calls Try.prog 19 #[.pointer (some ⟨b, 0, none⟩), .int .i64 who, .int .i64 (c : Int), .int .i64 (n : Int), .int .i64 ch] w fun e w' => e = .returned (.tuple #[.int .i64 0, .bool false, .int .i64 0]) ∧ ∃ u', Dk.Sep W w' (us ++ gts b vm vc vs (ms.set n ⟨m.u, m.xs, 0, false⟩) (cs.set c ⟨u', cx.xs ++ [(who, (n : Int))], cx.bm⟩) ss) := by
  go_enter Try.func19, Try.ntmps19
  have K := hasC_yes h c hc
  go_wp2_with fail
  refine K.mono ?_
  rintro e w' ⟨rfl, hw'⟩
  subst w'
  clear K
  have K := hasM_yes h n hn
  go_wp2_with fail
  refine K.mono ?_
  rintro e w' ⟨rfl, hw'⟩
  subst w'
  clear K
  have K := waits_any h l ok who
  rw [hw] at K
  go_wp2_with fail
  refine K.mono ?_
  rintro e w1 ⟨rfl, u1⟩
  have h1 := h.below u1
  clear K h u1
  have K := Unlock_none h1 who n ch hn hm ho hh h0
  clear h1 ho hm
  go_wp2_with fail
  refine K.mono ?_
  rintro e w2 ⟨rfl, h2⟩
  obtain ⟨g, C, ev, hC, hmx⟩ := someC h2 hc
  unfold maxLen at hmx
  subst ev
  have hci : (c : Int) < (cs.length : Int) := by omega
  have c0 : w2.cell? ⟨b, 1, none⟩ = some (.slice (some ⟨g, 0, none⟩) cs.length C) := (headG h2).cell 1
  have K2 := mwait h2 hcc who n hlc hiw hin hx
  clear K h2
  go_wp2_with fail
  refine K2.mono ?_
  rintro e w3 ⟨rfl, u3, h3⟩
  clear K2 c0
  go_wp2_with fail
  go_ret3
  exact ⟨rfl, u3, h3⟩

set_option maxHeartbeats 1000000 in
theorem Wait_some (h : Dk.Sep W w (us ++ gts b vm vc vs ms cs ss)) (l : Like S ms cs ss) (ok : Dk.Ok S k) (who : Int) (c n : Nat) (ch : Int) (hc : c < cs.length) (hn : n < ms.length) (hw : S.waits who = false) {m : Mx} (hm : ms[n]? = some m) {cx : Cx} (hcc : cs[c]? = some cx) (hlc : cx.xs.length ≤ 1000) (hiw : Dk.i64 who) (hin : Dk.i64 n) (hx : who ∉ cx.xs.map Prod.fst) (ho : (m.owned && decide (m.owner = who)) = true) (hh : m.owned = true) (hi : Dk.i64 ch) (h0 : 0 < m.xs.length) (hl : m.xs.length ≤ 1000) (a : Nat) (ea : Dk.at_ ch m.xs.length = a) :
    Calls Try.prog 19 #[.pointer (some ⟨b, 0, none⟩), .int .i64 who, .int .i64 (c : Int), .int .i64 (n : Int), .int .i64 ch] w fun e w' => e = .returned (.tuple #[.int .i64 (m.xs.getD a 0), .bool true, .int .i64 0]) ∧ ∃ u u', Dk.Sep W w' (us ++ gts b vm vc vs (ms.set n ⟨u, m.xs.eraseIdx a, m.xs.getD a 0, true⟩) (cs.set c ⟨u', cx.xs ++ [(who, (n : Int))], cx.bm⟩) ss) := by
  obtain ⟨x, ex⟩ : ∃ x, m.xs.getD a 0 = x := ⟨_, rfl⟩
  rw [ex]
  go_enter Try.func19, Try.ntmps19
  have K := hasC_yes h c hc
  go_wp2_with fail
  refine K.mono ?_
  rintro e w' ⟨rfl, hw'⟩
  subst w'
  clear K
  have K := hasM_yes h n hn
  go_wp2_with fail
  refine K.mono ?_
  rintro e w' ⟨rfl, hw'⟩
  subst w'
  clear K
  have K := waits_any h l ok who
  rw [hw] at K
  go_wp2_with fail
  refine K.mono ?_
  rintro e w1 ⟨rfl, u1⟩
  have h1 := h.below u1
  clear K h u1
  have K := Unlock_some h1 who n ch hn hm ho hh hi h0 hl a ea
  rw [ex] at K
  clear h1 ho hm ex
  go_wp2_with fail
  refine K.mono ?_
  rintro e w2 ⟨rfl, u', h2⟩
  obtain ⟨g, C, ev, hC, hmx⟩ := someC h2 hc
  unfold maxLen at hmx
  subst ev
  have hci : (c : Int) < (cs.length : Int) := by omega
  have c0 : w2.cell? ⟨b, 1, none⟩ = some (.slice (some ⟨g, 0, none⟩) cs.length C) := (headG h2).cell 1
  have K2 := mwait h2 hcc who n hlc hiw hin hx
  clear K h2
  go_wp2_with fail
  refine K2.mono ?_
  rintro e w3 ⟨rfl, u3, h3⟩
  clear K2 c0
  go_wp2_with fail
  go_ret3
  exact ⟨rfl, u', u3, h3⟩

set_option maxHeartbeats 1000000 in
theorem Owner_no (h : Dk.Sep W w (us ++ gts b vm vc vs ms cs ss)) (n : Int) (hn : n < 0 ∨ (ms.length : Int) ≤ n) :
    Calls Try.prog 11 #[.pointer (some ⟨b, 0, none⟩), .int .i64 n] w fun e w' => e = .returned (.tuple #[.int .i64 0, .bool false]) ∧ w' = w := by
  go_enter Try.func11, Try.ntmps11
  have K := hasM_no h n hn
  go_wp2_with fail
  refine K.mono ?_
  rintro e w' ⟨rfl, hw'⟩
  subst w'
  clear K
  clear h
  go_wp2_with fail
  go_ret2
  exact ⟨rfl, rfl⟩

set_option maxHeartbeats 1000000 in
theorem Owner_yes (h : Dk.Sep W w (us ++ gts b vm vc vs ms cs ss)) (n : Nat) (hn : n < ms.length) {m : Mx} (hm : ms[n]? = some m) :
    Calls Try.prog 11 #[.pointer (some ⟨b, 0, none⟩), .int .i64 (n : Int)] w fun e w' => e = .returned (.tuple #[.int .i64 m.owner, .bool m.owned]) ∧ Below w.heap.size w w' := by
  obtain ⟨g, C, ev, hC, hmx⟩ := someM h hn
  unfold maxLen at hmx
  subst ev
  go_enter Try.func11, Try.ntmps11
  have K := hasM_yes h n hn
  go_wp2_with fail
  refine K.mono ?_
  rintro e w' ⟨rfl, hw'⟩
  subst w'
  clear K
  have hni : (n : Int) < (ms.length : Int) := by omega
  have c0 : ∀ y : Dk.Up w, y.wd.cell? ⟨b, 0, none⟩ = some (.slice (some ⟨g, 0, none⟩) ms.length C) := fun y => (headG (h.below y.property)).cell 0
  have c1 : ∀ y : Dk.Up w, y.wd.cell? ⟨g, n * 3 + 1, none⟩ = some (.int .i64 m.owner) := fun y => (cellM (h.below y.property) hm).2.1
  have c2 : ∀ y : Dk.Up w, y.wd.cell? ⟨g, n * 3 + 2, none⟩ = some (.bool m.owned) := fun y => (cellM (h.below y.property) hm).2.2
  have hne : Nonempty (Dk.Up w) := ⟨⟨w, Below.refl _ _⟩⟩
  clear h hm
  go_wp2_with fail
  refine Dk.wp_region_up_lit (by kernel_rfl) (by kernel_rfl) ?_
  repeat (go_big_quiet_step (fail))
  refine wpQuiet_nil ?_
  intro _ hw'
  obtain ⟨y, hw''⟩ := hw'
  subst hw''
  have HU : Hid _ := y.property
  clear c0 c1 c2 hne
  go_wp2_with fail
  go_ret2
  exact ⟨rfl, HU.out⟩

set_option maxHeartbeats 1000000 in
theorem Count_no (h : Dk.Sep W w (us ++ gts b vm vc vs ms cs ss)) (n : Int) (hn : n < 0 ∨ (ss.length : Int) ≤ n) :
    Calls Try.prog 14 #[.pointer (some ⟨b, 0, none⟩), .int .i64 n] w fun e w' => e = .returned (.int .i64 0) ∧ w' = w := by
  go_enter Try.func14, Try.ntmps14
  have K := hasS_no h n hn
  go_wp2_with fail
  refine K.mono ?_
  rintro e w' ⟨rfl, hw'⟩
  subst w'
  clear K
  clear h
  go_wp2_with fail
  go_ret
  exact ⟨rfl, rfl⟩

set_option maxHeartbeats 1000000 in
theorem Count_yes (h : Dk.Sep W w (us ++ gts b vm vc vs ms cs ss)) (n : Nat) (hn : n < ss.length) {s : Sx} (hs : ss[n]? = some s) :
    Calls Try.prog 14 #[.pointer (some ⟨b, 0, none⟩), .int .i64 (n : Int)] w fun e w' => e = .returned (.int .i64 s.count) ∧ w' = w := by
  obtain ⟨g, C, ev, hC, hmx⟩ := someS h hn
  unfold maxLen at hmx
  subst ev
  go_enter Try.func14, Try.ntmps14
  have K := hasS_yes h n hn
  go_wp2_with fail
  refine K.mono ?_
  rintro e w' ⟨rfl, hw'⟩
  subst w'
  clear K
  have hni : (n : Int) < (ss.length : Int) := by omega
  have c0 : w.cell? ⟨b, 2, none⟩ = some (.slice (some ⟨g, 0, none⟩) ss.length C) := (headG h).cell 2
  have c1 := (cellS h hs).2
  clear h hs
  go_wp2_with fail
  go_ret
  exact ⟨rfl, rfl⟩

set_option maxHeartbeats 1000000 in
theorem Waiters1_no (h : Dk.Sep W w (us ++ gts b vm vc vs ms cs ss)) (n : Int) (hn : n < 0 ∨ (ms.length : Int) ≤ n) :
    Calls Try.prog 13 #[.pointer (some ⟨b, 0, none⟩), .int .i64 1, .int .i64 n] w fun e w' => e = .returned (.slice none 0 0) ∧ w' = w := by
  go_enter Try.func13, Try.ntmps13
  have K := hasM_no h n hn
  go_wp2_with fail
  refine K.mono ?_
  rintro e w' ⟨rfl, hw'⟩
  subst w'
  clear K
  clear h
  go_wp2_with fail
  go_ret
  exact ⟨rfl, rfl⟩

set_option maxHeartbeats 1000000 in
theorem Waiters1_yes (h : Dk.Sep W w (us ++ gts b vm vc vs ms cs ss)) (n : Nat) (hn : n < ms.length) {m : Mx} (hm : ms[n]? = some m) (hl : m.xs.length ≤ 1000) :
    Calls Try.prog 13 #[.pointer (some ⟨b, 0, none⟩), .int .i64 1, .int .i64 (n : Int)] w fun e w' => ∃ A Ca, e = .returned (.slice A m.xs.length Ca) ∧ Hid (Below w.heap.size w w') ∧ Hid (w'.ownsRow w.heap.size 3 1 (.slice A m.xs.length Ca) m.xs.length (Dk.is m.xs)) := by
  obtain ⟨g, C, ev, hC, hmx⟩ := someM h hn
  unfold maxLen at hmx
  subst ev
  go_enter Try.func13, Try.ntmps13
  have K := hasM_yes h n hn
  go_wp2_with fail
  refine K.mono ?_
  rintro e w' ⟨rfl, hw'⟩
  subst w'
  clear K
  have hni : (n : Int) < (ms.length : Int) := by omega
  have c0 : w.cell? ⟨b, 0, none⟩ = some (.slice (some ⟨g, 0, none⟩) ms.length C) := (headG h).cell 0
  have c1 := (cellM h hm).1
  have hr := (focusM h hm).row (e := 3) (s := 1) (v := m.u) (n := m.xs.length) (xs := Dk.is m.xs) (by simp [Mx.row])
  have K := all_any c1 hr hl
  clear h hm hr c1
  go_wp2_with fail
  refine K.mono ?_
  rintro e w2 ⟨A, Ca, rfl, u2, r2⟩
  clear K c0
  go_wp2_with fail
  go_ret
  exact ⟨_, _, rfl, u2, r2⟩

set_option maxHeartbeats 1000000 in
theorem Waiters2_no (h : Dk.Sep W w (us ++ gts b vm vc vs ms cs ss)) (n : Int) (hn : n < 0 ∨ (cs.length : Int) ≤ n) :
    Calls Try.prog 13 #[.pointer (some ⟨b, 0, none⟩), .int .i64 2, .int .i64 n] w fun e w' => e = .returned (.slice none 0 0) ∧ w' = w := by
  go_enter Try.func13, Try.ntmps13
  have K := hasC_no h n hn
  go_wp2_with fail
  refine K.mono ?_
  rintro e w' ⟨rfl, hw'⟩
  subst w'
  clear K
  clear h
  go_wp2_with fail
  go_ret
  exact ⟨rfl, rfl⟩

set_option maxHeartbeats 1000000 in
theorem Waiters2_yes (h : Dk.Sep W w (us ++ gts b vm vc vs ms cs ss)) (n : Nat) (hn : n < cs.length) {c : Cx} (hm : cs[n]? = some c) (hl : c.xs.length ≤ 1000) :
    Calls Try.prog 13 #[.pointer (some ⟨b, 0, none⟩), .int .i64 2, .int .i64 (n : Int)] w fun e w' => ∃ A Ca, e = .returned (.slice A c.xs.length Ca) ∧ Hid (Below w.heap.size w w') ∧ Hid (w'.ownsRow w.heap.size 3 1 (.slice A c.xs.length Ca) c.xs.length (Dk.is (c.xs.map Prod.fst))) := by
  obtain ⟨g, C, ev, hC, hmx⟩ := someC h hn
  unfold maxLen at hmx
  subst ev
  go_enter Try.func13, Try.ntmps13
  have K := hasC_yes h n hn
  go_wp2_with fail
  refine K.mono ?_
  rintro e w' ⟨rfl, hw'⟩
  subst w'
  clear K
  have hni : (n : Int) < (cs.length : Int) := by omega
  have c0 : w.cell? ⟨b, 1, none⟩ = some (.slice (some ⟨g, 0, none⟩) cs.length C) := (headG h).cell 1
  have c1 := (cellC h hm).1
  have hr := (focusC h hm).row (e := 3) (s := 1) (v := c.u) (n := c.xs.length) (xs := Dk.is (c.xs.map Prod.fst)) (by simp [Cx.row])
  have K := all_any (xs := c.xs.map Prod.fst) c1 (by rw [List.length_map]; exact hr) (by rw [List.length_map]; exact hl)
  rw [List.length_map] at K
  clear h hm hr c1
  go_wp2_with fail
  refine K.mono ?_
  rintro e w2 ⟨A, Ca, rfl, u2, r2⟩
  clear K c0
  go_wp2_with fail
  go_ret
  exact ⟨_, _, rfl, u2, r2⟩

set_option maxHeartbeats 1000000 in
theorem Waiters3_no (h : Dk.Sep W w (us ++ gts b vm vc vs ms cs ss)) (n : Int) (hn : n < 0 ∨ (ss.length : Int) ≤ n) :
    Calls Try.prog 13 #[.pointer (some ⟨b, 0, none⟩), .int .i64 3, .int .i64 n] w fun e w' => e = .returned (.slice none 0 0) ∧ w' = w := by
  go_enter Try.func13, Try.ntmps13
  have K := hasS_no h n hn
  go_wp2_with fail
  refine K.mono ?_
  rintro e w' ⟨rfl, hw'⟩
  subst w'
  clear K
  clear h
  go_wp2_with fail
  go_ret
  exact ⟨rfl, rfl⟩

set_option maxHeartbeats 1000000 in
theorem Waiters3_yes (h : Dk.Sep W w (us ++ gts b vm vc vs ms cs ss)) (n : Nat) (hn : n < ss.length) {s : Sx} (hm : ss[n]? = some s) (hl : s.xs.length ≤ 1000) :
    Calls Try.prog 13 #[.pointer (some ⟨b, 0, none⟩), .int .i64 3, .int .i64 (n : Int)] w fun e w' => ∃ A Ca, e = .returned (.slice A s.xs.length Ca) ∧ Hid (Below w.heap.size w w') ∧ Hid (w'.ownsRow w.heap.size 3 1 (.slice A s.xs.length Ca) s.xs.length (Dk.is s.xs)) := by
  obtain ⟨g, C, ev, hC, hmx⟩ := someS h hn
  unfold maxLen at hmx
  subst ev
  go_enter Try.func13, Try.ntmps13
  have K := hasS_yes h n hn
  go_wp2_with fail
  refine K.mono ?_
  rintro e w' ⟨rfl, hw'⟩
  subst w'
  clear K
  have hni : (n : Int) < (ss.length : Int) := by omega
  have c0 : w.cell? ⟨b, 2, none⟩ = some (.slice (some ⟨g, 0, none⟩) ss.length C) := (headG h).cell 2
  have c1 := (cellS h hm).1
  have hr := (focusS h hm).row (e := 3) (s := 1) (v := s.u) (n := s.xs.length) (xs := Dk.is s.xs) (by simp [Sx.row])
  have K := all_any c1 hr hl
  clear h hm hr c1
  go_wp2_with fail
  refine K.mono ?_
  rintro e w2 ⟨A, Ca, rfl, u2, r2⟩
  clear K c0
  go_wp2_with fail
  go_ret
  exact ⟨_, _, rfl, u2, r2⟩

set_option maxHeartbeats 1000000 in
theorem Signal_arg (h : Dk.Sep W w (us ++ gts b vm vc vs ms cs ss)) (c ch : Int) (all : Bool) (hn : c < 0 ∨ (cs.length : Int) ≤ c) :
    Calls Try.prog 20 #[.pointer (some ⟨b, 0, none⟩), .int .i64 c, .int .i64 ch, .bool all] w fun e w' => e = .returned (.tuple #[.slice none 0 0, .int .i64 1]) ∧ w' = w := by
  go_enter Try.func20, Try.ntmps20
  have K := hasC_no h c hn
  go_wp2_with fail
  refine K.mono ?_
  rintro e w' ⟨rfl, hw'⟩
  subst w'
  clear K
  clear h
  go_wp2_with fail
  go_ret2
  exact ⟨rfl, rfl⟩

end
end Go.Proofs.Ytjkdaankjondjaa
