/- A number goes to its place in a list: the region that makes it. -/
import Derived.Test.YtiaegeaogleepaaWq
import Derived.Test.YtiaegeaogleepaaQh
namespace Dk
set_option linter.unusedSimpArgs false
set_option linter.unusedVariables false
set_option linter.unnecessarySimpa false
open Go Go.RowKit
section
variable {P : Go.Program} {ops : Array Oper} {md : Region.Mode} {S : World → Prop}
def heldsB (md : Region.Mode) (ops : Array Oper) : List Nat → Array Bool → Bool
  | [], _ => true
  | i :: is, listed => (Region.ready md ops listed).contains i && Region.free md ops listed i && heldsB md ops is (listed.setIfInBounds i true)
def marked (is : List Nat) (listed : Array Bool) : Array Bool := is.foldl (fun l i => l.setIfInBounds i true) listed
/-- What only reads is taken first; then what there is goes on. -/
theorem held_then {Q : Exit → Act → World → Prop} (hs : Region.noSelect ops = true) (hQ : ∀ c a w, ¬ Q (.panic c) a w) (w : World) (hS : S w) (fuel : Nat) (K : Act → Prop) : ∀ (is : List Nat) (listed : Array Bool) (a : Act), heldsB md ops is listed = true →
    heldWalk P ops S K is a → (∀ a', K a' → wpAnyH P md ops Q S fuel (marked is listed) a' w) → wpAnyH P md ops Q S (fuel + is.length) listed a w
  | [], listed, a, hB, h, hK => hK a h
  | i :: is, listed, a, hB, h, hK => by
    simp only [heldsB, Bool.and_eq_true] at hB
    obtain ⟨o, v, ho, hy, hW⟩ := h
    exact wpAnyH_take (fuel := fuel + is.length) ho hs hB.1.2 hB.1.1 (fun c a w h => absurd h (hQ _ _ _)) hy hS (held_then hs hQ w hS fuel K is _ _ hB.2 hW hK)
theorem held_val {K : Act → Prop} {L : List Oper} {i : Nat} {is : List Nat} {a : Act} {o : Oper} {v : Value} (d : Option Tmp) (hd : o.dst = d) (ho : L[i]? = some o) (hg : o.guard = none) (hy : ∀ w, S w → (execOp a.eval o).run P w = .ok (.value v) w)
    (h : heldWalk P L.toArray S K is (a.put d v)) : heldWalk P L.toArray S K (i :: is) a := by
  subst hd
  exact held_step ho hg hy h
theorem eval_put (a : Act) (d k : Nat) (v : Value) (h : d < a.tmps.size) : (a.put (some d) v).eval (.tmp k) = if d = k then v else a.eval (.tmp k) := by
  by_cases e : d = k
  · subst e; simp [Act.put, Act.eval, h]
  · rw [if_neg e]; simp [Act.put, Act.eval, Array.getElem?_setIfInBounds_ne e]
theorem size_put (a : Act) (d : Nat) (v : Value) : (a.put (some d) v).tmps.size = a.tmps.size := by simp [Act.put]
theorem put2 (a : Act) (x y : Nat) (v u : Value) (h : x ≠ y) : (a.put (some x) v).put (some y) u = (a.put (some y) u).put (some x) v := Act.put_comm a v u (fun d hd e => h (by rw [Option.some.inj hd, ← Option.some.inj e]))
theorem op_value {L : List Oper} {Q : Exit → Act → World → Prop} {j : Nat} {K : Act → World → Prop} {a : Act} {w w' : World} {o : Oper} {v : Value} (d : Option Tmp) (ho : L[j]? = some o) (hd : o.dst = d) (hg : o.guard = none) (hr : (execOp a.eval o).run P w = .ok (.value v) w') (hK : K (a.put d v) w') : wpOp P L.toArray Q j K a w := by
  subst hd
  have hw : Region.wanted o (yielded L.toArray a.tmps) = true := by simp [Region.wanted, hg]
  have ho' : L.toArray[j]? = some o := by simpa using ho
  unfold wpOp
  simp only [ho', hw, if_true]
  refine .inl ?_
  unfold Oper.wp
  rw [hr]
  exact hK
end
end Dk

namespace Go.Proofs.Ytiaegeaogleepaa
set_option linter.unusedSimpArgs false
set_option linter.unusedVariables false
set_option linter.unnecessarySimpa false
open Go.RowKit

abbrev ops21 : List Oper := [{ dst := some 86, op := Op.buildSlice 25 0 #[], type := 25, pos := "law.go:43", after := #[], guard := none }, { dst := some 87, op := Op.move (Operand.tmp 9), type := 25, pos := "law.go:43", after := #[], guard := none }, { dst := some 88, op := Op.move (Operand.tmp 13), type := 3, pos := "law.go:43", after := #[], guard := none }, { dst := some 89, op := Op.slice 25 (Operand.tmp 87) none (some (Operand.tmp 88)) none, type := 25, pos := "law.go:43", after := #[{ on := 1, ground := Ground.data }, { on := 2, ground := Ground.data }], guard := none }, { dst := some 90, op := Op.call { callee := Callee.builtin Builtin.append, args := #[Operand.tmp 86, Operand.tmp 89], argTypes := #[25, 25] }, type := 25, pos := "law.go:43", after := #[{ on := 0, ground := Ground.data }, { on := 3, ground := Ground.data }], guard := none }, { dst := some 91, op := Op.move (Operand.tmp 4), type := 25, pos := "law.go:43", after := #[], guard := none }, { dst := some 92, op := Op.move (Operand.tmp 12), type := 3, pos := "law.go:43", after := #[], guard := none }, { dst := some 93, op := Op.indexAddr 25 (Operand.tmp 91) (Operand.tmp 92), type := 0, pos := "law.go:43", after := #[{ on := 5, ground := Ground.data }, { on := 6, ground := Ground.data }], guard := none }, { dst := some 94, op := Op.load 3 (Operand.tmp 93), type := 3, pos := "law.go:43", after := #[{ on := 7, ground := Ground.data }], guard := none }, { dst := some 95, op := Op.buildSlice 25 1 #[(0, Operand.tmp 94)], type := 25, pos := "law.go:43", after := #[{ on := 8, ground := Ground.data }], guard := none }, { dst := some 96, op := Op.call { callee := Callee.builtin Builtin.append, args := #[Operand.tmp 90, Operand.tmp 95], argTypes := #[25, 25] }, type := 25, pos := "law.go:43", after := #[{ on := 4, ground := Ground.data }, { on := 9, ground := Ground.data }, { on := 4, ground := Ground.chain }], guard := none }, { dst := some 97, op := Op.move (Operand.tmp 9), type := 25, pos := "law.go:43", after := #[], guard := none }, { dst := some 98, op := Op.move (Operand.tmp 13), type := 3, pos := "law.go:43", after := #[], guard := none }, { dst := some 99, op := Op.slice 25 (Operand.tmp 97) (some (Operand.tmp 98)) none none, type := 25, pos := "law.go:43", after := #[{ on := 11, ground := Ground.data }, { on := 12, ground := Ground.data }], guard := none }, { dst := some 100, op := Op.call { callee := Callee.builtin Builtin.append, args := #[Operand.tmp 96, Operand.tmp 99], argTypes := #[25, 25] }, type := 25, pos := "law.go:43", after := #[{ on := 10, ground := Ground.data }, { on := 13, ground := Ground.data }, { on := 10, ground := Ground.chain }], guard := none }, { dst := some 9, op := Op.assign (Operand.tmp 100), type := 25, pos := "law.go:43", after := #[{ on := 14, ground := Ground.data }, { on := 14, ground := Ground.chain }, { on := 0, ground := Ground.phase }, { on := 1, ground := Ground.phase }, { on := 2, ground := Ground.phase }, { on := 3, ground := Ground.phase }, { on := 4, ground := Ground.phase }, { on := 5, ground := Ground.phase }, { on := 6, ground := Ground.phase }, { on := 7, ground := Ground.phase }, { on := 8, ground := Ground.phase }, { on := 9, ground := Ground.phase }, { on := 10, ground := Ground.phase }, { on := 11, ground := Ground.phase }, { on := 12, ground := Ground.phase }, { on := 13, ground := Ground.phase }, { on := 14, ground := Ground.phase }], guard := none }]

section
variable {ρ : Operand → Value} {w w' : World}
theorem run21_0 : (execOp ρ (ops21[0])).run Try.prog w = .ok (.value (.slice (some ⟨w.heap.size, 0, none⟩) 0 0)) (w.alloc (.cells #[] 3)) := by
  simp [execOp, go_sem]
theorem run21_1 {v : Value} (h : ρ (.tmp 9) = v) : (execOp ρ (ops21[1])).run Try.prog w = .ok (.value v) w := by simp [execOp, h, go_sem]
theorem run21_2 {v : Value} (h : ρ (.tmp 13) = v) : (execOp ρ (ops21[2])).run Try.prog w = .ok (.value v) w := by simp [execOp, h, go_sem]
theorem run21_3 {g n C p : Nat} (h1 : ρ (.tmp 87) = .slice (some ⟨g, 0, none⟩) n C) (h2 : ρ (.tmp 88) = .int .i64 (p : Int)) (hp : p ≤ C) : (execOp ρ (ops21[3])).run Try.prog w = .ok (.value (.slice (some ⟨g, 0, none⟩) p C)) w := by
  simp [execOp, h1, h2, go_sem, hp]
theorem run21_4 {x y v : Value} (h1 : ρ (.tmp 86) = x) (h2 : ρ (.tmp 89) = y) (hr : (Builtin.append_ #[25, 25] 25 #[x, y]).run Try.prog w = .ok v w') : (execOp ρ (ops21[4])).run Try.prog w = .ok (.value v) w' := by
  simp [execOp, resolve, invoke, builtin, h1, h2, hr, Result.andThen]
theorem run21_5 {v : Value} (h : ρ (.tmp 4) = v) : (execOp ρ (ops21[5])).run Try.prog w = .ok (.value v) w := by simp [execOp, h, go_sem]
theorem run21_6 {v : Value} (h : ρ (.tmp 12) = v) : (execOp ρ (ops21[6])).run Try.prog w = .ok (.value v) w := by simp [execOp, h, go_sem]
theorem run21_7 {b o n C k : Nat} (h1 : ρ (.tmp 91) = .slice (some ⟨b, o, none⟩) n C) (h2 : ρ (.tmp 92) = .int .i64 (k : Int)) (hk : k < n) : (execOp ρ (ops21[7])).run Try.prog w = .ok (.value (.pointer (some ⟨b, o + k, none⟩))) w := by
  simp [execOp, h1, h2, go_sem, hk]
theorem run21_8 {b o : Nat} {y : Int} (h1 : ρ (.tmp 93) = .pointer (some ⟨b, o, none⟩)) (hc : w.cell? ⟨b, o, none⟩ = some (.int .i64 y)) : (execOp ρ (ops21[8])).run Try.prog w = .ok (.value (.int .i64 y)) w := by
  simp [execOp, h1, go_sem, hc]
theorem run21_9 {y : Int} (h1 : ρ (.tmp 94) = .int .i64 y) : (execOp ρ (ops21[9])).run Try.prog w = .ok (.value (.slice (some ⟨w.heap.size, 0, none⟩) 1 1)) (w.alloc (.cells #[.int .i64 y] 3)) := by
  simp [execOp, h1, go_sem]
theorem run21_10 {x y v : Value} (h1 : ρ (.tmp 90) = x) (h2 : ρ (.tmp 95) = y) (hr : (Builtin.append_ #[25, 25] 25 #[x, y]).run Try.prog w = .ok v w') : (execOp ρ (ops21[10])).run Try.prog w = .ok (.value v) w' := by
  simp [execOp, resolve, invoke, builtin, h1, h2, hr, Result.andThen]
theorem run21_11 {v : Value} (h : ρ (.tmp 9) = v) : (execOp ρ (ops21[11])).run Try.prog w = .ok (.value v) w := by simp [execOp, h, go_sem]
theorem run21_12 {v : Value} (h : ρ (.tmp 13) = v) : (execOp ρ (ops21[12])).run Try.prog w = .ok (.value v) w := by simp [execOp, h, go_sem]
theorem run21_13 {g n C p : Nat} (h1 : ρ (.tmp 97) = .slice (some ⟨g, 0, none⟩) n C) (h2 : ρ (.tmp 98) = .int .i64 (p : Int)) (hp : p ≤ n) (hn : n ≤ C) : (execOp ρ (ops21[13])).run Try.prog w = .ok (.value (.slice (if C = p then some ⟨g, 0, none⟩ else some ⟨g, p, none⟩) (n - p) (C - p))) w := by
  have hnp : ¬ n < p := by omega
  simp [execOp, h1, h2, go_sem, hnp, hp]
theorem run21_14 {x y v : Value} (h1 : ρ (.tmp 96) = x) (h2 : ρ (.tmp 99) = y) (hr : (Builtin.append_ #[25, 25] 25 #[x, y]).run Try.prog w = .ok v w') : (execOp ρ (ops21[14])).run Try.prog w = .ok (.value v) w' := by
  simp [execOp, resolve, invoke, builtin, h1, h2, hr, Result.andThen]
theorem run21_15 {v : Value} (h : ρ (.tmp 100) = v) : (execOp ρ (ops21[15])).run Try.prog w = .ok (.value v) w := by simp [execOp, h, go_sem]
end

theorem not_nil {w : World} {base n : Nat} {e : TypeId} {v : Value} {xs : List Value} (h : w.ownsRow base e 1 v n xs) (hv : v ≠ .slice none 0 0) : ∃ g C, v = .slice (some ⟨g, 0, none⟩) n C := by
  obtain ⟨_, ⟨e0, _⟩ | ⟨g, cap, cur, e0, _⟩⟩ := h
  · exact absurd e0 hv
  · exact ⟨g, cap, e0⟩

theorem tail21 {Q : Exit → Act → World → Prop} (a2 : Act) (w V : World) (listed : Array Bool) (r10 : Region.ready .any ops21.toArray listed = [10]) (r14 : Region.ready .any ops21.toArray (listed.setIfInBounds 10 true) = [14]) (r15 : Region.ready .any ops21.toArray ((listed.setIfInBounds 10 true).setIfInBounds 14 true) = [15])
    (rend : Region.ready .any ops21.toArray (((listed.setIfInBounds 10 true).setIfInBounds 14 true).setIfInBounds 15 true) = []) (dl : List Int) (p : Nat) (y : Int) (C bx : Nat) (v90 : Value) (A2 : Addr) (hp : p ≤ dl.length) (hl : dl.length ≤ 1000)
    (e90 : a2.eval (.tmp 90) = v90) (e95 : a2.eval (.tmp 95) = .slice (some ⟨bx, 0, none⟩) 1 1) (e99 : a2.eval (.tmp 99) = .slice (some A2) (dl.length - p) (C - p)) (hsz : 101 ≤ a2.tmps.size)
    (o90 : V.ownsRow w.heap.size 3 1 v90 p ((Dk.is dl).take p)) (n90 : v90 ≠ .slice none 0 0) (bxV : Dk.Box V bx #[.int .i64 y] 3) (uV : Below w.heap.size w V)
    (src : ∀ w', Below w.heap.size w w' → ∀ t u, ((Dk.is dl).drop p)[t]? = some u → w'.cell? (A2.add t) = some u)
    (h : ∀ (v96 : Value) (g' C' : Nat) (V' : World), V'.ownsRow w.heap.size 3 1 (.slice (some ⟨g', 0, none⟩) (dl.length + 1) C') (dl.length + 1) (Dk.is (Dk.insAt dl p y)) → Below w.heap.size w V' →
      Q .normal (((a2.put (some 96) v96).put (some 100) (.slice (some ⟨g', 0, none⟩) (dl.length + 1) C')).put (some 9) (.slice (some ⟨g', 0, none⟩) (dl.length + 1) C')) V') :
    wpAnyH Try.prog .any ops21.toArray Q (Below w.heap.size w) 3 listed a2 V := by
  have h1c : ∀ u ∈ Dk.is dl, u.oneCell' = true := fun u hu => by
    obtain ⟨z, _, rfl⟩ := List.mem_map.1 hu
    rfl
  obtain ⟨v96, w10, r1, o96, g96, f96, n96⟩ := append_from w.heap.size 25 v90 _ p V o90 ⟨bx, 0, none⟩ 1 1 [.int .i64 y] rfl (fun j u hj => by
    rw [Addr.add_lit, Nat.zero_add, bxV.cell]
    match j, hj with
    | 0, hj => simpa using hj) (fun u hu => by simp at hu; subst hu; rfl) (by omega) uV.size
  have u10 : Below w.heap.size w w10 := uV.grown g96 uV.size (fun j hj => (o90.lt j hj).1)
  have hv96 : v96 ≠ .slice none 0 0 := fun e => n90 (n96.1 e).1
  obtain ⟨v100, w14, r2, o100, g100, f100, n100⟩ := append_from w.heap.size 25 v96 _ (p + 1) w10 o96 A2 (dl.length - p) (C - p) ((Dk.is dl).drop p) (by simp) (src w10 u10) (fun u hu => h1c u (List.mem_of_mem_drop hu)) (by omega) u10.size
  have u14 : Below w.heap.size w w14 := u10.grown g100 u10.size (fun j hj => (o96.lt j hj).1)
  have hv100 : v100 ≠ .slice none 0 0 := fun e => hv96 (n100.1 e).1
  rw [show p + 1 + (dl.length - p) = dl.length + 1 by omega] at o100
  obtain ⟨g', C', rfl⟩ := not_nil o100 hv100
  have o100' : w14.ownsRow w.heap.size 3 1 (.slice (some ⟨g', 0, none⟩) (dl.length + 1) C') (dl.length + 1) (Dk.is (Dk.insAt dl p y)) := by
    have e : Dk.is (Dk.insAt dl p y) = (Dk.is dl).take p ++ [.int .i64 y] ++ (Dk.is dl).drop p := by
      simp [Dk.is, Dk.insAt, List.map_take, List.map_drop]
    rw [e]
    exact o100
  refine wpAnyH_all (rs := [10]) r10 (by simp) fun i hi => ?_
  obtain rfl : i = 10 := by simpa using hi
  refine Dk.op_value (o := ops21[10]) (some 96) rfl rfl rfl (run21_10 e90 e95 r1) ?_
  refine ⟨u10, ?_⟩
  refine wpAnyH_all (rs := [14]) r14 (by simp) fun i hi => ?_
  obtain rfl : i = 14 := by simpa using hi
  refine Dk.op_value (o := ops21[14]) (some 100) rfl rfl rfl (run21_14 (by rw [Dk.eval_put _ _ _ _ (by omega), if_pos rfl]) (by rw [Dk.eval_put _ _ _ _ (by omega), if_neg (by decide)]; exact e99) r2) ?_
  refine ⟨u14, ?_⟩
  refine wpAnyH_all (rs := [15]) r15 (by simp) fun i hi => ?_
  obtain rfl : i = 15 := by simpa using hi
  refine Dk.op_value (o := ops21[15]) (some 9) rfl rfl rfl (run21_15 (by rw [Dk.eval_put _ _ _ _ (by rw [Dk.size_put]; omega), if_pos rfl])) ?_
  exact ⟨u14, rend, h v96 g' C' w14 o100' u14⟩

/-- The frame behind the reads. -/
abbrev held21 (a : Act) (g n C p bw ow n2 C2 k : Nat) (y : Int) (A2 : Option Addr) : Act :=
  (((((((((a.put (some 87) (.slice (some ⟨g, 0, none⟩) n C)).put (some 88) (.int .i64 (p : Int))).put (some 89) (.slice (some ⟨g, 0, none⟩) p C)).put (some 91) (.slice (some ⟨bw, ow, none⟩) n2 C2)).put (some 92) (.int .i64 (k : Int))).put (some 93) (.pointer (some ⟨bw, ow + k, none⟩))).put (some 94) (.int .i64 y)).put (some 97) (.slice (some ⟨g, 0, none⟩) n C)).put (some 98) (.int .i64 (p : Int))).put (some 99) (.slice A2 (n - p) (C - p))

set_option maxHeartbeats 1000000 in
theorem region21 {Q : Exit → Act → World → Prop} (a : Act) (w : World) (B g C p bw ow n2 C2 k : Nat) (dl : List Int) (y : Int) (h9 : a.eval (.tmp 9) = .slice (some ⟨g, 0, none⟩) dl.length C) (h13 : a.eval (.tmp 13) = .int .i64 (p : Int)) (h4 : a.eval (.tmp 4) = .slice (some ⟨bw, ow, none⟩) n2 C2) (h12 : a.eval (.tmp 12) = .int .i64 (k : Int)) (hsz : 101 ≤ a.tmps.size)
    (row : w.ownsRow B 3 1 (.slice (some ⟨g, 0, none⟩) dl.length C) dl.length (Dk.is dl)) (hp : p ≤ dl.length) (hl : dl.length ≤ 1000) (hk : k < n2) (hbw : bw < w.heap.size) (hc : w.cell? ⟨bw, ow + k, none⟩ = some (.int .i64 y))
    (h : ∀ (v86 v90 v95 v96 : Value) (g' C' : Nat) (V : World), V.ownsRow w.heap.size 3 1 (.slice (some ⟨g', 0, none⟩) (dl.length + 1) C') (dl.length + 1) (Dk.is (Dk.insAt dl p y)) → Below w.heap.size w V →
      Q .normal ((((((held21 a g dl.length C p bw ow n2 C2 k y (if C = p then some ⟨g, 0, none⟩ else some ⟨g, p, none⟩)).put (some 86) v86).put (some 90) v90).put (some 95) v95).put (some 96) v96).put (some 100) (.slice (some ⟨g', 0, none⟩) (dl.length + 1) C') |>.put (some 9) (.slice (some ⟨g', 0, none⟩) (dl.length + 1) C')) V) :
    (Code.region 21 ops21.toArray true).wp Try.prog Q a w := by
  have hcap : dl.length ≤ C := by
    obtain ⟨_, ⟨e0, _⟩ | ⟨g', cap, cur, e0, _, _, h1, _⟩⟩ := row
    · cases e0
    · cases e0; exact h1
  have hgl : g < w.heap.size := (row.lt g rfl).2
  have hcells : ∀ j u, (Dk.is dl)[j]? = some u → w.cell? ((⟨g, 0, none⟩ : Addr).add j) = some u := row.cells (g := g) rfl
  have keep : ∀ w', Below w.heap.size w w' → ∀ j u, (Dk.is dl)[j]? = some u → w'.cell? ((⟨g, 0, none⟩ : Addr).add j) = some u := fun w' u j x hj => by
    rw [u.cell (by rw [Addr.add_lit]; exact hgl)]
    exact hcells j x hj
  have h1c : ∀ u ∈ Dk.is dl, u.oneCell' = true := fun u hu => by
    obtain ⟨z, _, rfl⟩ := List.mem_map.1 hu
    rfl
  obtain ⟨A2, hA2, hs2⟩ : ∃ A2 : Addr, (if C = p then some (⟨g, 0, none⟩ : Addr) else some ⟨g, p, none⟩) = some A2 ∧ (∀ w', Below w.heap.size w w' → ∀ t u, ((Dk.is dl).drop p)[t]? = some u → w'.cell? (A2.add t) = some u) := by
    by_cases hcp : C = p
    · refine ⟨⟨g, 0, none⟩, by simp [hcp], fun w' _ t u hu => ?_⟩
      rw [List.getElem?_drop, List.getElem?_eq_none (by simp; omega)] at hu
      cases hu
    · refine ⟨⟨g, p, none⟩, by simp [hcp], fun w' uw t u hu => ?_⟩
      rw [List.getElem?_drop] at hu
      have := keep w' uw (p + t) u hu
      rw [Addr.add_lit] at this ⊢
      rw [Nat.zero_add] at this
      exact this
  have hu0 : Below w.heap.size w w.drew := Dk.up_drew (Below.refl _ _)
  refine wp_region_noPanic (wp_region_held (S := Below w.heap.size w) (by kernel_rfl) ?_)
  show wpAnyH _ _ _ _ _ 16 _ a w.drew
  refine Dk.held_then (md := .any) (by kernel_rfl) (fun c a w h => h) w.drew hu0 6 (fun a' => a' = held21 a g dl.length C p bw ow n2 C2 k y (if C = p then some ⟨g, 0, none⟩ else some ⟨g, p, none⟩)) [1, 2, 3, 5, 6, 7, 8, 11, 12, 13] _ a (by kernel_rfl) ?_ ?_
  · have hlt : ∀ d, d < 101 → d < a.tmps.size := fun d hd => by omega
    refine Dk.held_val (o := ops21[1]) (some 87) rfl rfl rfl (fun w' hw => run21_1 h9) ?_
    refine Dk.held_val (o := ops21[2]) (some 88) rfl rfl rfl (fun w' hw => run21_2 (v := .int .i64 (p : Int)) (by rw [Dk.eval_put _ _ _ _ (hlt _ (by decide)), if_neg (by decide)]; exact h13)) ?_
    refine Dk.held_val (o := ops21[3]) (some 89) rfl rfl rfl (fun w' hw => run21_3 (g := g) (n := dl.length) (C := C) (p := p) (by simp [Dk.size_put, hlt, Dk.eval_put]) (by simp [Dk.size_put, hlt, Dk.eval_put]) (by omega)) ?_
    refine Dk.held_val (o := ops21[5]) (some 91) rfl rfl rfl (fun w' hw => run21_5 (by simp [Dk.size_put, hlt, Dk.eval_put]; exact h4)) ?_
    refine Dk.held_val (o := ops21[6]) (some 92) rfl rfl rfl (fun w' hw => run21_6 (by simp [Dk.size_put, hlt, Dk.eval_put]; exact h12)) ?_
    refine Dk.held_val (o := ops21[7]) (some 93) rfl rfl rfl (fun w' hw => run21_7 (b := bw) (o := ow) (n := n2) (C := C2) (k := k) (by simp [Dk.size_put, hlt, Dk.eval_put]) (by simp [Dk.size_put, hlt, Dk.eval_put]) hk) ?_
    refine Dk.held_val (o := ops21[8]) (some 94) rfl rfl rfl (fun w' hw => run21_8 (b := bw) (o := ow + k) (y := y) (by simp [Dk.size_put, hlt, Dk.eval_put]) (by rw [hw.cell (by show bw < w.heap.size; exact hbw)]; exact hc)) ?_
    refine Dk.held_val (o := ops21[11]) (some 97) rfl rfl rfl (fun w' hw => run21_11 (by simp [Dk.size_put, hlt, Dk.eval_put]; exact h9)) ?_
    refine Dk.held_val (o := ops21[12]) (some 98) rfl rfl rfl (fun w' hw => run21_12 (by simp [Dk.size_put, hlt, Dk.eval_put]; exact h13)) ?_
    refine Dk.held_val (o := ops21[13]) (some 99) rfl rfl rfl (fun w' hw => run21_13 (g := g) (n := dl.length) (C := C) (p := p) (by simp [Dk.size_put, hlt, Dk.eval_put]) (by simp [Dk.size_put, hlt, Dk.eval_put]) hp hcap) ?_
    exact rfl
  · intro a1 ea1
    have s1 : a1.tmps.size = a.tmps.size := by rw [ea1]; simp only [Dk.size_put]
    have hlt : ∀ d, d < 101 → d < a.tmps.size := fun d hd => by omega
    have v89 : a1.eval (.tmp 89) = .slice (some ⟨g, 0, none⟩) p C := by rw [ea1]; simp [Dk.size_put, hlt, Dk.eval_put]
    have v94 : a1.eval (.tmp 94) = .int .i64 y := by rw [ea1]; simp [Dk.size_put, hlt, Dk.eval_put]
    have v99 : a1.eval (.tmp 99) = .slice (some A2) (dl.length - p) (C - p) := by rw [ea1, hA2]; simp [Dk.size_put, hlt, Dk.eval_put]
    rw [← ea1] at h
    clear ea1 h9 h13 h4 h12
    have lts : ∀ d, d < 101 → d < a1.tmps.size := fun d hd => by omega
    -- the first list
    have app : ∀ (V : World) (b : Nat), Below w.heap.size w V → V.ownsRow w.heap.size 3 1 (.slice (some ⟨b, 0, none⟩) 0 0) 0 [] → ∃ v90 w', (Builtin.append_ #[25, 25] 25 #[.slice (some ⟨b, 0, none⟩) 0 0, .slice (some ⟨g, 0, none⟩) p C]).run Try.prog V = .ok v90 w' ∧ w'.ownsRow w.heap.size 3 1 v90 p ((Dk.is dl).take p) ∧ v90 ≠ .slice none 0 0 ∧ V.grownBy w' (some b) ∧ Below w.heap.size w w' := by
      intro V b uV o1
      obtain ⟨v9, w9, r9, o9, g9, f9, n9⟩ := append_from w.heap.size 25 _ [] 0 V o1 ⟨g, 0, none⟩ p C ((Dk.is dl).take p) (by simp; omega) (fun j u hj => by
        rw [List.getElem?_take] at hj
        split at hj
        · exact keep V uV j u hj
        · cases hj) (fun u hu => h1c u (List.mem_of_mem_take hu)) (by omega) uV.size
      rw [Nat.zero_add, List.nil_append] at o9
      exact ⟨v9, w9, r9, o9, fun e => by simpa using n9.1 e, g9, uV.grown g9 uV.size (fun j hj => (o1.lt j hj).1)⟩
    refine wpAnyH_all (rs := [0, 9]) (by kernel_rfl) (by simp) fun i hi => ?_
    rcases (by simpa using hi : i = 0 ∨ i = 9) with rfl | rfl
    · refine Dk.op_value (o := ops21[0]) (some 86) rfl rfl rfl run21_0 ?_
      obtain ⟨w1, e1⟩ : ∃ w1, w1 = w.drew.alloc (.cells #[] 3) := ⟨_, rfl⟩
      have u1 : Below w.heap.size w w1 := by rw [e1]; exact Dk.up_alloc hu0 _
      have o1 : w1.ownsRow w.heap.size 3 1 (.slice (some ⟨w.heap.size, 0, none⟩) 0 0) 0 [] := by rw [e1]; exact World.ownsRow_lit w.drew #[] 0 (Nat.le_refl _) (Nat.zero_le _) rfl
      show Below w.heap.size w (w.drew.alloc (.cells #[] 3)) ∧ wpAnyH _ _ _ _ _ 5 _ (a1.put (some 86) (.slice (some ⟨w.heap.size, 0, none⟩) 0 0)) (w.drew.alloc (.cells #[] 3))
      rw [← e1]
      refine ⟨u1, ?_⟩
      refine wpAnyH_all (rs := [4, 9]) (by kernel_rfl) (by simp) fun i hi => ?_
      rcases (by simpa using hi : i = 4 ∨ i = 9) with rfl | rfl
      · obtain ⟨v90, w4, r4, o4, n4, g4, u4⟩ := app w1 w.heap.size u1 o1
        refine Dk.op_value (o := ops21[4]) (some 90) rfl rfl rfl (run21_4 (by rw [Dk.eval_put _ _ _ _ (lts _ (by decide)), if_pos rfl]) (by rw [Dk.eval_put _ _ _ _ (lts _ (by decide)), if_neg (by decide)]; exact v89) r4) ?_
        refine ⟨u4, ?_⟩
        refine wpAnyH_all (rs := [9]) (by kernel_rfl) (by simp) fun i hi => ?_
        obtain rfl : i = 9 := by simpa using hi
        refine Dk.op_value (o := ops21[9]) (some 95) rfl rfl rfl (run21_9 (by simp [Dk.size_put, lts, Dk.eval_put]; exact v94)) ?_
        refine ⟨Dk.up_alloc u4 _, ?_⟩
        refine tail21 _ w _ _ (by kernel_rfl) (by kernel_rfl) (by kernel_rfl) (by kernel_rfl) dl p y C w4.heap.size v90 A2 hp hl (by simp [Dk.size_put, lts, Dk.eval_put]) (by simp [Dk.size_put, lts, Dk.eval_put]) (by simp [Dk.size_put, lts, Dk.eval_put]; exact v99) (by simp only [Dk.size_put]; omega) (o4.alloc _) n4 (Dk.Box.new _ _ _) (Dk.up_alloc u4 _) hs2 ?_
        intro v96 g' C' V' hV uV
        exact h _ v90 _ v96 g' C' V' hV uV
      · refine Dk.op_value (o := ops21[9]) (some 95) rfl rfl rfl (run21_9 (by simp [Dk.size_put, lts, Dk.eval_put]; exact v94)) ?_
        refine ⟨Dk.up_alloc u1 _, ?_⟩
        refine wpAnyH_all (rs := [4]) (by kernel_rfl) (by simp) fun i hi => ?_
        obtain rfl : i = 4 := by simpa using hi
        have b9 : Dk.Box (w1.alloc (.cells #[.int .i64 y] 3)) w1.heap.size #[.int .i64 y] 3 := Dk.Box.new _ _ _
        have hne : w1.heap.size ≠ w.heap.size := by have := (o1.lt w.heap.size rfl).2; omega
        obtain ⟨v90, w4, r4, o4, n4, g4, u4⟩ := app (w1.alloc (.cells #[.int .i64 y] 3)) w.heap.size (Dk.up_alloc u1 _) (o1.alloc _)
        refine Dk.op_value (o := ops21[4]) (some 90) rfl rfl rfl (run21_4 (by simp [Dk.size_put, lts, Dk.eval_put]) (by simp [Dk.size_put, lts, Dk.eval_put]; exact v89) r4) ?_
        refine ⟨u4, ?_⟩
        refine tail21 _ w _ _ (by kernel_rfl) (by kernel_rfl) (by kernel_rfl) (by kernel_rfl) dl p y C w1.heap.size v90 A2 hp hl (by simp [Dk.size_put, lts, Dk.eval_put]) (by simp [Dk.size_put, lts, Dk.eval_put]) (by simp [Dk.size_put, lts, Dk.eval_put]; exact v99) (by simp only [Dk.size_put]; omega) o4 n4 (b9.far g4 hne) u4 hs2 ?_
        intro v96 g' C' V' hV uV
        rw [Dk.put2 _ 95 90 _ _ (by decide)]
        exact h _ v90 _ v96 g' C' V' hV uV
    · refine Dk.op_value (o := ops21[9]) (some 95) rfl rfl rfl (run21_9 v94) ?_
      obtain ⟨w9, e9⟩ : ∃ w9, w9 = w.drew.alloc (.cells #[.int .i64 y] 3) := ⟨_, rfl⟩
      have u9 : Below w.heap.size w w9 := by rw [e9]; exact Dk.up_alloc hu0 _
      have b9 : Dk.Box w9 w.heap.size #[.int .i64 y] 3 := by rw [e9]; exact Dk.Box.new w.drew _ _
      show Below w.heap.size w (w.drew.alloc (.cells #[.int .i64 y] 3)) ∧ wpAnyH _ _ _ _ _ 5 _ (a1.put (some 95) (.slice (some ⟨w.heap.size, 0, none⟩) 1 1)) (w.drew.alloc (.cells #[.int .i64 y] 3))
      rw [← e9]
      refine ⟨u9, ?_⟩
      refine wpAnyH_all (rs := [0]) (by kernel_rfl) (by simp) fun i hi => ?_
      obtain rfl : i = 0 := by simpa using hi
      refine Dk.op_value (o := ops21[0]) (some 86) rfl rfl rfl run21_0 ?_
      refine ⟨Dk.up_alloc u9 _, ?_⟩
      refine wpAnyH_all (rs := [4]) (by kernel_rfl) (by simp) fun i hi => ?_
      obtain rfl : i = 4 := by simpa using hi
      have o1 : (w9.alloc (.cells #[] 3)).ownsRow w.heap.size 3 1 (.slice (some ⟨w9.heap.size, 0, none⟩) 0 0) 0 [] := World.ownsRow_lit w9 #[] 0 u9.size (Nat.zero_le _) rfl
      have hne : w.heap.size ≠ w9.heap.size := by have := b9.lt; omega
      obtain ⟨v90, w4, r4, o4, n4, g4, u4⟩ := app (w9.alloc (.cells #[] 3)) w9.heap.size (Dk.up_alloc u9 _) o1
      refine Dk.op_value (o := ops21[4]) (some 90) rfl rfl rfl (run21_4 (by simp [Dk.size_put, lts, Dk.eval_put]) (by simp [Dk.size_put, lts, Dk.eval_put]; exact v89) r4) ?_
      refine ⟨u4, ?_⟩
      refine tail21 _ w _ _ (by kernel_rfl) (by kernel_rfl) (by kernel_rfl) (by kernel_rfl) dl p y C w.heap.size v90 A2 hp hl (by simp [Dk.size_put, lts, Dk.eval_put]) (by simp [Dk.size_put, lts, Dk.eval_put]) (by simp [Dk.size_put, lts, Dk.eval_put]; exact v99) (by simp only [Dk.size_put]; omega) o4 n4 ((b9.old _).far g4 hne) u4 hs2 ?_
      intro v96 g' C' V' hV uV
      rw [Dk.put2 a1 95 86 _ _ (by decide), Dk.put2 _ 95 90 _ _ (by decide)]
      exact h _ v90 _ v96 g' C' V' hV uV

end Go.Proofs.Ytiaegeaogleepaa
