/- The walks of a plain instruction, with what it throws caught. -/
import Derived.Test.YtmkeniobnjpohaaFf
import Derived.Deep.OwnRows
import Derived.Test.YtmkeniobnjpohaaQh
import Derived.Test.YtmkeniobnjpohaaUp
namespace Go.Proofs.Ytmkeniobnjpohaa
set_option linter.unusedSimpArgs false
set_option linter.unusedVariables false
set_option linter.unnecessarySimpa false
open Go.RowKit

theorem askCode_bad (i : Dk.Ins) (w : World) (hi : i.ok) (hc : Dk.codeB i = false) : Calls Try.prog 35 #[Dk.iv i] w fun e w' => Thrown 68 70 e ∧ Below w.heap.size w w' := by
  cases h : Dk.withinB i.op 1 19
  · exact askCode_class i w h
  · refine (askCode_any i w hi h).mono fun e w' ⟨he, hb⟩ => ⟨he.2 ?_, hb⟩
    unfold Dk.codeB at hc
    rw [h] at hc
    exact hc
theorem askCode_good (i : Dk.Ins) (w : World) (hi : i.ok) (hc : Dk.codeB i = true) : Calls Try.prog 35 #[Dk.iv i] w fun e w' => e = .returned (.tuple #[]) ∧ Below w.heap.size w w' := by
  unfold Dk.codeB at hc
  rw [Bool.and_eq_true] at hc
  exact (askCode_any i w hi hc.1).mono fun e w' ⟨he, hb⟩ => ⟨he.1 hc.2, hb⟩

/-- The boxes of a plain instruction's walk. -/
theorem five (f : Dk.Frm) (i : Dk.Ins) (w X : World) (e : ((((w.alloc (.cells #[.int .i64 f.fn, .int .i64 f.pc, .int .u64 (f.r 0 : Nat), .int .u64 (f.r 1 : Nat), .int .u64 (f.r 2 : Nat), .int .u64 (f.r 3 : Nat), .int .u64 (f.r 4 : Nat), .int .u64 (f.r 5 : Nat), .int .u64 (f.r 6 : Nat), .int .u64 (f.r 7 : Nat)] 29)).alloc (.cells #[.int .i64 i.op, .int .i64 i.a, .int .i64 i.b, .int .i64 i.c, .int .u64 (i.n : Nat)] 31)).alloc (.cells #[.int .i64 0, .int .i64 0, .int .u64 0, .int .u64 0, .int .u64 0, .int .u64 0, .int .u64 0, .int .u64 0, .int .u64 0, .int .u64 0] 29)).alloc (.cells #[.slice none 0 0] 40)).alloc (.cells #[.int .i64 0] 41) = X) :
    Dk.Box X w.heap.size (Dk.fc f) 29 ∧ Dk.Box X (w.heap.size + 1) (Dk.ic i) 31 ∧ Dk.Box X (w.heap.size + 1 + 1) (Dk.fc Dk.Frm.zero) 29 ∧ Dk.Box X (w.heap.size + 1 + 1 + 1) #[.slice none 0 0] 40 ∧ Dk.Box X (w.heap.size + 1 + 1 + 1 + 1) #[.int .i64 0] 41 ∧
      Below w.heap.size w X ∧ X.heap.size = w.heap.size + 1 + 1 + 1 + 1 + 1 := by
  obtain ⟨Y, eY⟩ : ∃ Y, ((w.alloc (.cells #[.int .i64 f.fn, .int .i64 f.pc, .int .u64 (f.r 0 : Nat), .int .u64 (f.r 1 : Nat), .int .u64 (f.r 2 : Nat), .int .u64 (f.r 3 : Nat), .int .u64 (f.r 4 : Nat), .int .u64 (f.r 5 : Nat), .int .u64 (f.r 6 : Nat), .int .u64 (f.r 7 : Nat)] 29)).alloc (.cells #[.int .i64 i.op, .int .i64 i.a, .int .i64 i.b, .int .i64 i.c, .int .u64 (i.n : Nat)] 31)).alloc (.cells #[.int .i64 0, .int .i64 0, .int .u64 0, .int .u64 0, .int .u64 0, .int .u64 0, .int .u64 0, .int .u64 0, .int .u64 0, .int .u64 0] 29) = Y := ⟨_, rfl⟩
  obtain ⟨b1, b2, b3, u, z⟩ := Dk.three _ _ _ _ _ _ _ _ eY
  rw [eY] at e
  subst e
  refine ⟨(b1.old _).old _, (b2.old _).old _, (b3.old _).old _, ?_, ?_, Dk.up_alloc (Dk.up_alloc u _) _, by simp [z]⟩
  · have := (Dk.Box.new Y #[.slice none 0 0] 40).old (.cells #[.int .i64 0] 41)
    rw [z] at this
    exact this
  · have := Dk.Box.new (Y.alloc (.cells #[.slice none 0 0] 40)) #[.int .i64 0] 41
    simp only [World.size_alloc, z] at this
    exact this

set_option maxRecDepth 100000 in
set_option maxHeartbeats 1000000 in
theorem Plain_code (f : Dk.Frm) (i : Dk.Ins) (A : Option Addr) (L C : Nat) (w : World) (hi : i.ok) (hc : Dk.codeB i = false) :
    Calls Try.prog 12 #[Dk.fv f, Dk.iv i, .slice A L C] w fun e w' => e = .returned (.tuple #[Dk.fv Dk.Frm.zero, .slice none 0 0, .int .i64 8]) ∧ Below w.heap.size w w' := by
  have hmf : ∀ (fn : Fn) (first cap : Array Value) (w : World), (Instr.makeFunc fn first cap).run Try.prog w = .ok (.func fn first cap) w := fun _ _ _ _ => rfl
  obtain ⟨X, e0⟩ : ∃ X, ((((w.alloc (.cells #[.int .i64 f.fn, .int .i64 f.pc, .int .u64 (f.r 0 : Nat), .int .u64 (f.r 1 : Nat), .int .u64 (f.r 2 : Nat), .int .u64 (f.r 3 : Nat), .int .u64 (f.r 4 : Nat), .int .u64 (f.r 5 : Nat), .int .u64 (f.r 6 : Nat), .int .u64 (f.r 7 : Nat)] 29)).alloc (.cells #[.int .i64 i.op, .int .i64 i.a, .int .i64 i.b, .int .i64 i.c, .int .u64 (i.n : Nat)] 31)).alloc (.cells #[.int .i64 0, .int .i64 0, .int .u64 0, .int .u64 0, .int .u64 0, .int .u64 0, .int .u64 0, .int .u64 0, .int .u64 0, .int .u64 0] 29)).alloc (.cells #[.slice none 0 0] 40)).alloc (.cells #[.int .i64 0] 41) = X := ⟨_, rfl⟩
  obtain ⟨b1, b2, b3, b4, b5, u0, z0⟩ := five f i w X e0
  have c2 := b2.cell
  go_enter_defers Try.func12, Try.ntmps12
  go_wp2_with fail
  try rw [e0]
  clear e0
  refine (askCode_bad i _ hi hc).mono ?_
  rintro e w1 ⟨⟨t, v, ht, rfl⟩, hb⟩
  refine leaves_cons (f := 33) (args := #[.pointer (some ⟨w.heap.size + 1 + 1, 0, none⟩), .pointer (some ⟨w.heap.size + 1 + 1 + 1, 0, none⟩), .pointer (some ⟨w.heap.size + 1 + 1 + 1 + 1, 0, none⟩)]) (by simp) (by simp [go_sem]) ?_
  refine (catch_any t v (w.heap.size + 1 + 1) 8 w1 _ _ _ (b3.up hb) (b4.up hb) (b5.up hb) rfl (fun w => errorOf_code t v w ht)).mono ?_
  rintro e u' w2 ⟨rfl, rfl, z6, z7, z8, zu⟩
  have c6 := z6.cell
  have c7 : w2.cell? ⟨w.heap.size + 1 + 1 + 1, 0, none⟩ = some (.slice none 0 0) := z7.cell 0
  have c8 : w2.cell? ⟨w.heap.size + 1 + 1 + 1 + 1, 0, none⟩ = some (.int .i64 8) := z8.cell 0
  simp [Leaves, settle, results, Try.results12, go_sem, c6, c7, c8]
  exact (Dk.up_call u0 hb).trans (zu.mono (by omega))

theorem make_words (L : Nat) (hL : L ≤ 1000) (w : World) : (Instr.makeSlice 40 (.int .i64 (L : Int)) (.int .i64 (L : Int))).run Try.prog w = .ok (.slice (some ⟨w.heap.size, 0, none⟩) L L) (w.alloc (.cells (madeCells #[.int .u64 0] L) 26)) :=
  run_make_row' 40 26 (.int .u64 0) 8 Try.underlying40 (by kernel_rfl) rfl .i64 .i64 L (by omega) (by omega) w
theorem word_size : (Try.prog.info? 26).map (·.size) = some 1 := by kernel_rfl
theorem splice_all {α : Type} (L cs : List α) (h : cs.length = L.length) : splice L 0 cs = cs := by
  unfold splice
  rw [Nat.zero_add, List.drop_of_length_le (by omega)]
  simp

/-- The worlds ahead of what is done: the boxes, and a copy of the words. -/
theorem copied (f : Dk.Frm) (i : Dk.Ins) (w X w1 X2 : World) (A : Option Addr) (L C : Nat) (m : List Nat) (hr : Dk.Row 1 0 Dk.IsWord w.heap.size w A L C m) (hL : L ≤ 1000)
    (b1 : Dk.Box X w.heap.size (Dk.fc f) 29) (b2 : Dk.Box X (w.heap.size + 1) (Dk.ic i) 31) (b3 : Dk.Box X (w.heap.size + 1 + 1) (Dk.fc Dk.Frm.zero) 29) (b4 : Dk.Box X (w.heap.size + 1 + 1 + 1) #[.slice none 0 0] 40) (b5 : Dk.Box X (w.heap.size + 1 + 1 + 1 + 1) #[.int .i64 0] 41)
    (u0 : Below w.heap.size w X) (hb : Below X.heap.size X w1) (e2 : (w1.alloc (.cells (madeCells #[.int .u64 0] L) 26)).setCell ⟨w.heap.size + 1 + 1 + 1, 0, none⟩ (.slice (some ⟨w1.heap.size, 0, none⟩) L L) = X2) :
    Dk.Box X2 w.heap.size (Dk.fc f) 29 ∧ Dk.Box X2 (w.heap.size + 1) (Dk.ic i) 31 ∧ Dk.Box X2 (w.heap.size + 1 + 1) (Dk.fc Dk.Frm.zero) 29 ∧ Dk.Box X2 (w.heap.size + 1 + 1 + 1) #[.slice (some ⟨w1.heap.size, 0, none⟩) L L] 40 ∧ Dk.Box X2 (w.heap.size + 1 + 1 + 1 + 1) #[.int .i64 0] 41 ∧
      Dk.Box X2 w1.heap.size (madeCells #[.int .u64 0] L) 26 ∧ Below w.heap.size w X2 ∧ w.heap.size + 1 + 1 + 1 + 1 < w1.heap.size := by
  have hlt := (b5.up hb).lt
  subst e2
  refine ⟨(((b1.up hb).old _).set_other (by omega) _ _), (((b2.up hb).old _).set_other (by omega) _ _), (((b3.up hb).old _).set_other (by omega) _ _), ?_, (((b5.up hb).old _).set_other (by omega) _ _), ((Dk.Box.new w1 _ _).set_other (by omega) _ _), ?_, hlt⟩
  · exact ((b4.up hb).old (.cells (madeCells #[.int .u64 0] L) 26)).set 0 (.slice (some ⟨w1.heap.size, 0, none⟩) L L)
  · exact Dk.up_set (Dk.up_alloc (Dk.up_call u0 hb) _) (by omega) _

/-- The cells that go over. -/
theorem row_src {w X2 : World} {A : Option Addr} {L C : Nat} {m : List Nat} (hr : Dk.Row 1 0 Dk.IsWord w.heap.size w A L C m) (u : Below w.heap.size w X2) :
    0 < (Dk.wc m).toList.length → ∃ ad, A = some ad ∧ ∀ j v, (Dk.wc m).toList[j]? = some v → X2.cell? (ad.add j) = some v := by
  intro h0
  have hl := hr.len
  have hpos : 0 < L := by simp [Dk.wc] at h0; omega
  obtain ⟨b, o, rfl, hb, hc⟩ := hr.cells hpos
  refine ⟨_, rfl, fun j v hj => ?_⟩
  have hjL : j < L := by
    have := (List.getElem?_eq_some_iff.1 hj).1
    simp [Dk.wc] at this
    omega
  obtain ⟨vs, hv1, ⟨rfl, _⟩, hv3⟩ := hc j hjL
  have := hv3 0 (by omega)
  rw [Nat.mul_one, Nat.add_zero] at this
  have e : (⟨b, o, none⟩ : Addr).add j = ⟨b, o + j, none⟩ := by simp [Addr.add]
  rw [e, u.cell (by show b < w.heap.size; exact hb), this]
  have hjm : j < m.length := by omega
  simp [Dk.wc, hjm] at hj
  simp [List.getD, hjm, hj]

theorem upcell {X : World} {b : Nat} {cs : Array Value} {t : TypeId} (h : Dk.Box X b cs t) : ∀ (x : Dk.Up X) o, x.wd.cell? ⟨b, o, none⟩ = cs[o]? := fun x o => (h.up x.property).cell o

set_option maxRecDepth 100000 in
set_option maxHeartbeats 1000000 in
theorem Plain_fault (f : Dk.Frm) (i : Dk.Ins) (A : Option Addr) (L C : Nat) (m : List Nat) (w : World) (hi : i.ok) (hc : Dk.codeB i = true) (hx : Dk.faultB f i L = true) (hr : Dk.Row 1 0 Dk.IsWord w.heap.size w A L C m) (hL : L ≤ 1000) :
    Calls Try.prog 12 #[Dk.fv f, Dk.iv i, .slice A L C] w fun e w' => e = .returned (.tuple #[Dk.fv Dk.Frm.zero, .slice none 0 0, .int .i64 6]) ∧ Below w.heap.size w w' := by
  have hmf : ∀ (fn : Fn) (first cap : Array Value) (w : World), (Instr.makeFunc fn first cap).run Try.prog w = .ok (.func fn first cap) w := fun _ _ _ _ => rfl
  obtain ⟨X, e0⟩ : ∃ X, ((((w.alloc (.cells #[.int .i64 f.fn, .int .i64 f.pc, .int .u64 (f.r 0 : Nat), .int .u64 (f.r 1 : Nat), .int .u64 (f.r 2 : Nat), .int .u64 (f.r 3 : Nat), .int .u64 (f.r 4 : Nat), .int .u64 (f.r 5 : Nat), .int .u64 (f.r 6 : Nat), .int .u64 (f.r 7 : Nat)] 29)).alloc (.cells #[.int .i64 i.op, .int .i64 i.a, .int .i64 i.b, .int .i64 i.c, .int .u64 (i.n : Nat)] 31)).alloc (.cells #[.int .i64 0, .int .i64 0, .int .u64 0, .int .u64 0, .int .u64 0, .int .u64 0, .int .u64 0, .int .u64 0, .int .u64 0, .int .u64 0] 29)).alloc (.cells #[.slice none 0 0] 40)).alloc (.cells #[.int .i64 0] 41) = X := ⟨_, rfl⟩
  obtain ⟨b1, b2, b3, b4, b5, u0, z0⟩ := five f i w X e0
  have c2 := b2.cell
  have hmk := make_words L hL
  have hlen := hr.len
  go_enter_defers Try.func12, Try.ntmps12
  go_wp2_with fail
  try rw [e0]
  clear e0 c2
  refine (askCode_good i _ hi hc).mono ?_
  rintro e w1 ⟨rfl, hb⟩
  obtain ⟨X2, e2⟩ : ∃ X2, (w1.alloc (.cells (madeCells #[.int .u64 0] L) 26)).setCell ⟨w.heap.size + 1 + 1 + 1, 0, none⟩ (.slice (some ⟨w1.heap.size, 0, none⟩) L L) = X2 := ⟨_, rfl⟩
  obtain ⟨d1, d2, d3, d4, d5, dw, u2, hlt⟩ := copied f i w X w1 X2 A L C m hr hL b1 b2 b3 b4 b5 u0 hb e2
  have q1 : (w1.alloc (.cells (madeCells #[.int .u64 0] L) 26)).cell? ⟨w.heap.size + 1 + 1 + 1, 0, none⟩ = some (.slice none 0 0) := ((b4.up hb).old _).cell 0
  have q2 := ((b4.up hb).old (.cells (madeCells #[.int .u64 0] L) 26)).frozen 0
  have q4 : X2.cell? ⟨w.heap.size + 1 + 1 + 1, 0, none⟩ = some (.slice (some ⟨w1.heap.size, 0, none⟩) L L) := d4.cell 0
  have hsrc := row_src hr u2
  have hcs : (Dk.wc m).toList.length = L := by simp [Dk.wc, hlen]
  have hcur : (madeCells #[.int .u64 0] L).toList.length = L := by simp [size_madeCells]
  have hone : ∀ v ∈ (Dk.wc m).toList, v.oneCell' = true := by simp [Dk.wc, Value.oneCell']
  obtain ⟨cs, ecs⟩ : ∃ cs, cs = (Dk.wc m).toList := ⟨_, rfl⟩
  obtain ⟨cur, ecur⟩ : ∃ cur, cur = (madeCells #[.int .u64 0] L).toList := ⟨_, rfl⟩
  rw [← ecs] at hsrc hcs hone
  rw [← ecur] at hcur
  have hdw : X2.heap[w1.heap.size]? = some (.cells cur.toArray 26 (0, 0)) := by rw [ecur]; simpa using dw.heap
  have ECS : Hid _ := ecs
  have ECU : Hid _ := ecur
  have HDW : Hid _ := hdw
  have HSR : Hid _ := hsrc
  have HCS : Hid _ := hcs
  have HCU : Hid _ := hcur
  have HON : Hid _ := hone
  have HLT : Hid _ := hlt
  clear ecs ecur hdw hsrc hcs hcur hone dw b1 b2 b3 b4 b5 hlen z0 hlt
  go_wp2_with (first | (rw [e2]; clear e2) | (refine wpList_copy_splice rfl _ _ 40 40 rfl 26 Try.underlying40 word_size _ _ _ _ _ _ rfl rfl w1.heap.size 0 cur 26 HDW.out cs (by rw [HCS.out]; exact (Nat.min_self L).symm) (fun h => ⟨rfl, HSR.out h⟩) (by rw [HCS.out, HCU.out]; omega) HON.out w1.heap.size X2 (Below.refl _ _) (Nat.le_refl _) ?_; intro X3 HG hb3))
  simp only [Act.put, List.setIfInBounds_toArray, List.set_cons_succ, List.set_cons_zero]
  have g1 := d1.below hb3 (by have := HLT.out; omega)
  have g2 := d2.below hb3 (by have := HLT.out; omega)
  have g3 := d3.below hb3 (by have := HLT.out; omega)
  have g4 := d4.below hb3 (by have := HLT.out; omega)
  have g5 := d5.below hb3 (by have := HLT.out; omega)
  have gw : Dk.Box X3 w1.heap.size (Dk.wc m) 26 := ⟨by
    have := HG.out
    rw [splice_all _ _ (by rw [HCS.out, HCU.out])] at this
    rw [this, ECS.out]⟩
  have u3 : Below w.heap.size w X3 := u2.trans (hb3.mono (by have := HLT.out; omega))
  obtain ⟨y, hdo⟩ := do_bad f i (some ⟨w1.heap.size, 0, none⟩) L L hc hx (by unfold maxLen; omega)
  have hdo' : Hid _ := hdo
  refine Dk.wp_region_panics (C := fun w' => ∃ x : Dk.Up X3, w' = x.wd) (E := fun w' => ∃ x : Dk.Up X3, w' = x.wd) [0, 1, 2, 4] [6, 7, 8] 3 [{ v := .iface 66 (.int .u64 (y : Nat)), recovered := false }] (by kernel_rfl) (by kernel_rfl) ⟨⟨_, Dk.up_drew (Below.refl _ _)⟩, rfl⟩ ?_ ?_
  · rintro a' w' ⟨hd, hk⟩ ⟨x, rfl⟩
    have k6 := hk 6 (by simp)
    have k7 := hk 7 (by simp)
    have k8 := hk 8 (by simp)
    simp only [List.getElem?_toArray, List.getElem?_cons_succ, List.getElem?_cons_zero] at k6 k7 k8
    show Leaves _ _ _ _ _ _ _
    rw [hd]
    refine leaves_cons (f := 33) (args := #[.pointer (some ⟨w.heap.size + 1 + 1, 0, none⟩), .pointer (some ⟨w.heap.size + 1 + 1 + 1, 0, none⟩), .pointer (some ⟨w.heap.size + 1 + 1 + 1 + 1, 0, none⟩)]) (by simp) (by simp [go_sem]) ?_
    have ux : Below X3.heap.size X3 x.wd := x.property
    refine (catch_any 66 _ (w.heap.size + 1 + 1) 6 x.wd _ _ _ (g3.up ux) (g4.up ux) (g5.up ux) rfl (fun w => errorOf_word _ w)).mono ?_
    rintro e u' w2 ⟨rfl, rfl, z6, z7, z8, zu⟩
    have c6 := z6.cell
    have c7 : w2.cell? ⟨w.heap.size + 1 + 1 + 1, 0, none⟩ = some (.slice none 0 0) := z7.cell 0
    have c8 : w2.cell? ⟨w.heap.size + 1 + 1 + 1 + 1, 0, none⟩ = some (.int .i64 6) := z8.cell 0
    simp [Leaves, settle, results, Try.results12, go_sem, c6, c7, c8, k6, k7, k8]
    exact (Dk.up_call u3 ux).trans (zu.mono (by omega))
  dsimp only [List.filterMap, List.getElem?_cons_zero, List.getElem?_cons_succ]
  have p1 := upcell g1
  have p2 := upcell g2
  have p4 : ∀ (x : Dk.Up X3), x.wd.cell? ⟨w.heap.size + 1 + 1 + 1, 0, none⟩ = some (.slice (some ⟨w1.heap.size, 0, none⟩) L L) := fun x => upcell g4 x 0
  have hne : Nonempty (Dk.Up X3) := ⟨⟨X3, Below.refl _ _⟩⟩
  repeat (go_big_quiet_step (fail))
  refine wpQuiet_nil ?_
  refine ⟨_, rfl, rfl, ?_, rfl, fun k hk => ?_⟩
  · rintro _ ⟨x, rfl⟩
    refine ⟨36, #[Dk.fv f, Dk.iv i, .slice (some ⟨w1.heap.size, 0, none⟩) L L], ?_, (hdo'.out _).mono fun e w' ⟨he, hb⟩ => ⟨he, ⟨_, Dk.up_call x.property hb⟩, rfl⟩⟩
    go_simp
  · simp only [List.mem_cons, List.not_mem_nil, or_false] at hk
    rcases hk with rfl | rfl | rfl <;> rfl

end Go.Proofs.Ytmkeniobnjpohaa
