/- The gates do what they must. -/
import Derived.Test.YtjkdaankjondjaaHm
namespace Go.Proofs.Ytjkdaankjondjaa
set_option linter.unusedSimpArgs false
set_option linter.unusedVariables false
set_option linter.unnecessarySimpa false
open Go.RowKit Go.Lib

section
variable {W w : World} {b k n : Nat} {S : Dk.St} {ms : List Mx} {cs : List Cx} {ss : List Sx} {us ts : List Dk.Thing} {who : Int} {m : Mx}
theorem mine_yes (eh : S.held.getD n false = m.owned) (e1 : m.owned = true → m.owner = S.owner.getD n 0) (h1 : S.held.getD n false = true) (h2 : S.owner.getD n 0 = who) : (m.owned && decide (m.owner = who)) = true := by
  rw [eh] at h1
  rw [h1, e1 h1, h2]
  simp
theorem mine_no (eh : S.held.getD n false = m.owned) (e1 : m.owned = true → m.owner = S.owner.getD n 0) (h : ¬ (S.held.getD n false = true ∧ S.owner.getD n 0 = who)) : (m.owned && decide (m.owner = who)) = false := by
  rw [eh] at h
  cases hm : m.owned with
  | false => rfl
  | true =>
    rw [e1 hm]
    have : ¬ S.owner.getD n 0 = who := fun e => h ⟨hm, e⟩
    rw [decide_eq_false this]
    rfl
theorem mine_other (h : S.held.getD n false = false ∨ S.owner.getD n 0 ≠ who) : ¬ (S.held.getD n false = true ∧ S.owner.getD n 0 = who) := fun ⟨h1, h2⟩ => by
  rcases h with h | h
  · rw [h] at h1; cases h1
  · exact h h2
theorem waitLen (ok : Dk.Ok S k) (hk : k ≤ 300) (hn : n < S.owner.length) (ew : S.wait.getD n [] = m.xs) : m.xs.length ≤ 1000 := by
  have := ok.waitLen (Dk.getD_mem S.wait [] n (by rw [ok.wait]; exact hn))
  rw [ew] at this
  omega
theorem condLen {c : Cx} (ok : Dk.Ok S k) (hk : k ≤ 300) (hn : n < S.conds.length) (ew : S.conds.getD n [] = c.xs) : c.xs.length ≤ 1000 := by
  have := ok.condLen (Dk.getD_mem S.conds [] n hn)
  rw [ew] at this
  omega
theorem downLen {s : Sx} (ok : Dk.Ok S k) (hk : k ≤ 300) (hn : n < S.count.length) (ew : S.downs.getD n [] = s.xs) : s.xs.length ≤ 1000 := by
  have := ok.downLen (Dk.getD_mem S.downs [] n (by rw [ok.downs]; exact hn))
  rw [ew] at this
  omega
theorem not_in {c : Cx} (hw : S.waits who = false) (hn : n < S.conds.length) (ew : S.conds.getD n [] = c.xs) : who ∉ c.xs.map Prod.fst := fun hx => by
  have h0 := Dk.not_waits hw
  have h1 := Dk.cts_get Prod.fst who S.conds n
  rw [ew] at h1
  have h2 := List.count_pos_iff.2 hx
  unfold Dk.St.cnt at h0
  omega
end

theorem gateI : GateI G0 := {
  lock_arg := by
    rintro W w b k S us ts ⟨vm, vc, vs, ms, cs, ss, rfl, l⟩ h ok hk who n hn
    refine (Lock_arg h who n (by rw [l.len]; exact hn)).mono ?_
    rintro e w' ⟨rfl, rfl⟩
    exact ⟨rfl, _, ⟨_, _, _, _, _, _, rfl, l⟩, h⟩
  lock_busy := by
    rintro W w b k S us ts ⟨vm, vc, vs, ms, cs, ss, rfl, l⟩ h ok hk who n hn hb
    have hnm : n < ms.length := by rw [l.len]; exact hn
    cases hw : S.waits who with
    | true =>
      refine (Lock_busy h l ok who n hnm hw).mono ?_
      rintro e w' ⟨rfl, u⟩
      exact ⟨rfl, _, ⟨_, _, _, _, _, _, rfl, l⟩, h.below u⟩
    | false =>
      rcases hb with hb | ⟨hb1, hb2⟩
      · rw [hw] at hb; cases hb
      obtain ⟨m, hm, ew, eh, e1, e2⟩ := l.atM hn
      refine (Lock_mine h l ok who n hnm hw hm (mine_yes eh e1 hb1 hb2)).mono ?_
      rintro e w' ⟨rfl, h'⟩
      exact ⟨rfl, _, ⟨_, _, _, _, _, _, rfl, l⟩, h'⟩
  lock_wait := by
    rintro W w b k S us ts ⟨vm, vc, vs, ms, cs, ss, rfl, l⟩ h ok hk who n hn hi hw hno hh
    have hnm : n < ms.length := by rw [l.len]; exact hn
    obtain ⟨m, hm, ew, eh, e1, e2⟩ := l.atM hn
    refine (Lock_wait h l ok who n hnm hw hm (mine_no eh e1 hno) (by rw [← eh]; exact hh) (waitLen ok hk hn ew)).mono ?_
    rintro e w' ⟨rfl, u', h'⟩
    exact ⟨rfl, _, ⟨_, _, _, _, _, _, rfl, l.addWait ok hm (by rw [← eh]; exact hh) who hw u'⟩, h'⟩
  lock_yes := by
    rintro W w b k S us ts ⟨vm, vc, vs, ms, cs, ss, rfl, l⟩ h ok hk who n hn hi hw hno hh
    have hnm : n < ms.length := by rw [l.len]; exact hn
    obtain ⟨m, hm, ew, eh, e1, e2⟩ := l.atM hn
    have ho : m.owned = false := by rw [← eh]; exact hh
    refine (Lock_yes h l ok who n hnm hw hm ho (e2 ho)).mono ?_
    rintro e w' ⟨rfl, h'⟩
    exact ⟨rfl, _, ⟨_, _, _, _, _, _, rfl, l.yes hm who⟩, h'⟩
  unlock_arg := by
    rintro W w b k S us ts ⟨vm, vc, vs, ms, cs, ss, rfl, l⟩ h ok hk who n ch hn
    refine (Unlock_arg h who n ch (by rw [l.len]; exact hn)).mono ?_
    rintro e w' ⟨rfl, rfl⟩
    exact ⟨rfl, _, ⟨_, _, _, _, _, _, rfl, l⟩, h⟩
  unlock_owner := by
    rintro W w b k S us ts ⟨vm, vc, vs, ms, cs, ss, rfl, l⟩ h ok hk who n ch hn ho
    have hnm : n < ms.length := by rw [l.len]; exact hn
    obtain ⟨m, hm, ew, eh, e1, e2⟩ := l.atM hn
    refine (Unlock_owner h who n ch hnm hm (mine_no eh e1 (mine_other ho))).mono ?_
    rintro e w' ⟨rfl, rfl⟩
    exact ⟨rfl, _, ⟨_, _, _, _, _, _, rfl, l⟩, h⟩
  unlock_ok := by
    rintro W w b k S us ts ⟨vm, vc, vs, ms, cs, ss, rfl, l⟩ h ok hk who n ch hn hi hh hw
    have hnm : n < ms.length := by rw [l.len]; exact hn
    obtain ⟨m, hm, ew, eh, e1, e2⟩ := l.atM hn
    have ho : m.owned = true := by rw [← eh]; exact hh
    by_cases h0 : m.xs.length = 0
    · obtain ⟨eo, l'⟩ := l.openNone ok hm (List.eq_nil_of_length_eq_zero h0) ch
      refine (Unlock_none h who n ch hnm hm (mine_yes eh e1 hh hw) ho (List.eq_nil_of_length_eq_zero h0)).mono ?_
      rintro e w' ⟨rfl, h'⟩
      exact ⟨by rw [eo], _, ⟨_, _, _, _, _, _, rfl, l'⟩, h'⟩
    · refine (Unlock_some h who n ch hnm hm (mine_yes eh e1 hh hw) ho hi (by omega) (waitLen ok hk hn ew) _ rfl).mono ?_
      rintro e w' ⟨rfl, u', h'⟩
      obtain ⟨eo, l'⟩ := l.openSome ok hm ho (by omega) ch _ rfl u'
      exact ⟨by rw [eo], _, ⟨_, _, _, _, _, _, rfl, l'⟩, h'⟩
  wait_arg := by
    rintro W w b k S us ts ⟨vm, vc, vs, ms, cs, ss, rfl, l⟩ h ok hk who c n ch hn
    by_cases hc : c < 0 ∨ (S.conds.length : Int) ≤ c
    · refine (Wait_argC h who c n ch (by rw [l.lenC]; exact hc)).mono ?_
      rintro e w' ⟨rfl, rfl⟩
      exact ⟨rfl, _, ⟨_, _, _, _, _, _, rfl, l⟩, h⟩
    · obtain ⟨c', rfl⟩ : ∃ c' : Nat, c = c' := ⟨c.toNat, by omega⟩
      refine (Wait_argM h who c' n ch (by rw [l.lenC]; omega) (by rw [l.len]; exact hn.resolve_left hc)).mono ?_
      rintro e w' ⟨rfl, rfl⟩
      exact ⟨rfl, _, ⟨_, _, _, _, _, _, rfl, l⟩, h⟩
  wait_busy := by
    rintro W w b k S us ts ⟨vm, vc, vs, ms, cs, ss, rfl, l⟩ h ok hk who c n ch hc hn hw
    refine (Wait_busy h l ok who c n ch (by rw [l.lenC]; exact hc) (by rw [l.len]; exact hn) hw).mono ?_
    rintro e w' ⟨rfl, u⟩
    exact ⟨rfl, _, ⟨_, _, _, _, _, _, rfl, l⟩, h.below u⟩
  wait_owner := by
    rintro W w b k S us ts ⟨vm, vc, vs, ms, cs, ss, rfl, l⟩ h ok hk who c n ch hc hn hw ho
    obtain ⟨m, hm, ew, eh, e1, e2⟩ := l.atM hn
    refine (Wait_owner h l ok who c n ch (by rw [l.lenC]; exact hc) (by rw [l.len]; exact hn) hw hm (mine_no eh e1 (mine_other ho))).mono ?_
    rintro e w' ⟨rfl, h'⟩
    exact ⟨rfl, _, ⟨_, _, _, _, _, _, rfl, l⟩, h'⟩
  wait_ok := by
    rintro W w b k S us ts ⟨vm, vc, vs, ms, cs, ss, rfl, l⟩ h ok hk who c n ch hc hn hiw hi hw hh how
    have hnm : n < ms.length := by rw [l.len]; exact hn
    have hcm : c < cs.length := by rw [l.lenC]; exact hc
    obtain ⟨m, hm, ew, eh, e1, e2⟩ := l.atM hn
    obtain ⟨cx, hcc, ec⟩ := l.atC hc
    have ho : m.owned = true := by rw [← eh]; exact hh
    have hin : Dk.i64 (n : Int) := by have := ok.most.1; unfold Dk.i64; omega
    have hlw : ∀ {S' : Dk.St}, (∀ x, S'.cnt x ≤ S.cnt x) → S'.waits who = false := fun hcn => by
      rw [Dk.St.waits_cnt, decide_eq_false_iff_not]
      have := hcn who
      have := Dk.not_waits hw
      omega
    have ho' := l.fair.open ok n hn ch
    have ecd := Dk.open_conds S n ch
    by_cases h0 : m.xs.length = 0
    · refine (Wait_none h l ok who c n ch hcm hnm hw hm hcc (condLen ok hk hc ec) hiw hin (not_in hw hc ec) (mine_yes eh e1 hh how) ho (List.eq_nil_of_length_eq_zero h0)).mono ?_
      rintro e w' ⟨rfl, u', h'⟩
      obtain ⟨eo, l'⟩ := l.openNone ok hm (List.eq_nil_of_length_eq_zero h0) ch
      have l2 := l'.addConds hcc (who, (n : Int)) (hlw ho'.2) u'
      rw [ecd] at l2
      exact ⟨by rw [eo], _, ⟨_, _, _, _, _, _, rfl, l2⟩, h'⟩
    · refine (Wait_some h l ok who c n ch hcm hnm hw hm hcc (condLen ok hk hc ec) hiw hin (not_in hw hc ec) (mine_yes eh e1 hh how) ho hi (by omega) (waitLen ok hk hn ew) _ rfl).mono ?_
      rintro e w' ⟨rfl, u, u', h'⟩
      obtain ⟨eo, l'⟩ := l.openSome ok hm ho (by omega) ch _ rfl u
      have l2 := l'.addConds hcc (who, (n : Int)) (hlw ho'.2) u'
      rw [ecd] at l2
      exact ⟨by rw [eo], _, ⟨_, _, _, _, _, _, rfl, l2⟩, h'⟩
  signal_arg := by
    rintro W w b k S us ts ⟨vm, vc, vs, ms, cs, ss, rfl, l⟩ h ok hk c ch all hc
    refine (Signal_arg h c ch all (by rw [l.lenC]; exact hc)).mono ?_
    rintro e w' ⟨rfl, rfl⟩
    exact ⟨⟨none, 0, rfl⟩, _, ⟨_, _, _, _, _, _, rfl, l⟩, h⟩
  signal_ok := by
    rintro W w b k S us ts ⟨vm, vc, vs, ms, cs, ss, rfl, l⟩ h ok hk c ch all hc hi
    refine (Signal_ok h l ok hk c (by rw [l.lenC]; exact hc) ch hi all).mono ?_
    rintro e w' ⟨A, Ca, ms', cs', rfl, l', h'⟩
    exact ⟨A, Ca, rfl, _, ⟨_, _, _, _, _, _, rfl, l'⟩, h'⟩
  down_arg := by
    rintro W w b k S us ts ⟨vm, vc, vs, ms, cs, ss, rfl, l⟩ h ok hk who n hn
    refine (Down_arg h who n (by rw [l.lenS]; exact hn)).mono ?_
    rintro e w' ⟨rfl, rfl⟩
    exact ⟨rfl, _, ⟨_, _, _, _, _, _, rfl, l⟩, h⟩
  down_busy := by
    rintro W w b k S us ts ⟨vm, vc, vs, ms, cs, ss, rfl, l⟩ h ok hk who n hn hw
    refine (Down_busy h l ok who n (by rw [l.lenS]; exact hn) hw).mono ?_
    rintro e w' ⟨rfl, u⟩
    exact ⟨rfl, _, ⟨_, _, _, _, _, _, rfl, l⟩, h.below u⟩
  down_yes := by
    rintro W w b k S us ts ⟨vm, vc, vs, ms, cs, ss, rfl, l⟩ h ok hk who n hn hw hp
    obtain ⟨s, hs, ew, ec⟩ := l.atS hn
    have hc := ok.count _ (Dk.getD_mem S.count 0 n hn)
    have hx : s.xs = [] := by rw [← ew]; exact l.fair.some_ n (by rw [ok.downs]; exact hn) hp
    rw [ec] at hp hc ⊢
    refine (Down_yes h l ok who n (by rw [l.lenS]; exact hn) hw hs ⟨hp, hc.2⟩).mono ?_
    rintro e w' ⟨rfl, h'⟩
    exact ⟨rfl, _, ⟨_, _, _, _, _, _, rfl, l.setCount hs _ (.inl hx)⟩, h'⟩
  down_wait := by
    rintro W w b k S us ts ⟨vm, vc, vs, ms, cs, ss, rfl, l⟩ h ok hk who n hn hi hw hp
    obtain ⟨s, hs, ew, ec⟩ := l.atS hn
    have hc := ok.count _ (Dk.getD_mem S.count 0 n hn)
    rw [ec] at hp hc
    refine (Down_wait h l ok who n (by rw [l.lenS]; exact hn) hw hs (by omega) (downLen ok hk hn ew)).mono ?_
    rintro e w' ⟨rfl, u', h'⟩
    exact ⟨rfl, _, ⟨_, _, _, _, _, _, rfl, l.addDowns ok hs who hw hp u'⟩, h'⟩
  up_arg := by
    rintro W w b k S us ts ⟨vm, vc, vs, ms, cs, ss, rfl, l⟩ h ok hk n ch hn
    refine (Up_arg h n ch (by rw [l.lenS]; exact hn)).mono ?_
    rintro e w' ⟨rfl, rfl⟩
    exact ⟨rfl, _, ⟨_, _, _, _, _, _, rfl, l⟩, h⟩
  up_some := by
    rintro W w b k S us ts ⟨vm, vc, vs, ms, cs, ss, rfl, l⟩ h ok hk n ch hn hi h0
    obtain ⟨s, hs, ew, ec⟩ := l.atS hn
    rw [ew] at h0
    refine (Up_some h n ch (by rw [l.lenS]; exact hn) hs hi h0 (downLen ok hk hn ew) _ rfl).mono ?_
    rintro e w' ⟨rfl, u', h'⟩
    have l' := l.takeDowns ok hs (Dk.at_ ch s.xs.length) u'
    exact ⟨by rw [ew], _, ⟨_, _, _, _, _, _, rfl, by rw [ew] at l' ⊢; exact l'⟩, h'⟩
  up_full := by
    rintro W w b k S us ts ⟨vm, vc, vs, ms, cs, ss, rfl, l⟩ h ok hk n ch hn h0 hc
    obtain ⟨s, hs, ew, ec⟩ := l.atS hn
    rw [ew] at h0
    rw [ec] at hc
    refine (Up_full h n ch (by rw [l.lenS]; exact hn) hs (List.eq_nil_of_length_eq_zero h0) hc).mono ?_
    rintro e w' ⟨rfl, rfl⟩
    exact ⟨rfl, _, ⟨_, _, _, _, _, _, rfl, l⟩, h⟩
  up_more := by
    rintro W w b k S us ts ⟨vm, vc, vs, ms, cs, ss, rfl, l⟩ h ok hk n ch hn h0 hc
    obtain ⟨s, hs, ew, ec⟩ := l.atS hn
    have hcc := ok.count _ (Dk.getD_mem S.count 0 n hn)
    rw [ew] at h0
    rw [ec] at hc hcc ⊢
    refine (Up_more h n ch (by rw [l.lenS]; exact hn) hs (List.eq_nil_of_length_eq_zero h0) ⟨hcc.1, by omega⟩).mono ?_
    rintro e w' ⟨rfl, h'⟩
    exact ⟨rfl, _, ⟨_, _, _, _, _, _, rfl, l.setCount hs _ (.inl (List.eq_nil_of_length_eq_zero h0))⟩, h'⟩ }
end Go.Proofs.Ytjkdaankjondjaa
