/- Regions that draw their order and append to several lists of the call's own, an element each. Of any program of the model. -/
import Derived.Test.YtihikekhfbpnaaaQy
import Derived.Test.YtihikekhfbpnaaaQk
import Derived.Test.YtihikekhfbpnaaaTh
namespace Dk
set_option linter.unusedSimpArgs false
set_option linter.unusedVariables false
set_option linter.unnecessarySimpa false
open Go Go.RowKit

theorem invY {P : Go.Program} {md : Region.Mode} {ops : Array Oper} {Q : Exit → Act → World → Prop} {S : World → Prop} {Z : List Nat} {js : List Nat} {I : Nat → Array Bool → Act → World → Prop} (h0 : ∀ l a w, I 0 l a w → linesB md ops js l = true ∧ lineY P ops Q S Z js a w)
    (hs : ∀ k l a w, I (k + 1) l a w → Region.ready md ops l ≠ [] ∧ ∀ i ∈ Region.ready md ops l, wpOp P ops Q i (fun a' w' => (i ∉ Z → S w') ∧ I k (l.setIfInBounds i true) a' w') a w) : ∀ k l a w, I k l a w → wpAnyY P md ops Q S Z (js.length + k) l a w
  | 0, l, a, w, h => lineY_any js l a w (h0 l a w h).1 (h0 l a w h).2
  | k + 1, l, a, w, h => ⟨fun e => absurd e (hs k l a w h).1, fun i hi => wpOp_mono (fun a' w' h' => ⟨h'.1, invY h0 hs k _ a' w' h'.2⟩) ((hs k l a w h).2 i hi)⟩

/-- What is appended to a list within a region: the operations that make it and append it, their slots, the list as it was, the element. -/
structure Chain where
  ib : Nat
  ia : Nat
  sb : Nat
  sa : Nat
  v : Value
  n : Nat
  xs : List Value
  x : Value

/-- What has been taken, by how far each is (0, 1, 2). -/
def took : List (Nat × Nat) → List Nat → Array Bool → Array Bool
  | c :: cs, s :: ss, l =>
    let l1 := took cs ss l
    let l2 := if 1 ≤ s then l1.setIfInBounds c.1 true else l1
    if 2 ≤ s then l2.setIfInBounds c.2 true else l2
  | _, _, l => l
def hows : Nat → List (List Nat)
  | 0 => [[]]
  | n + 1 => (hows n).flatMap fun ss => [0 :: ss, 1 :: ss, 2 :: ss]
theorem hows_mem : ∀ (ss : List Nat), (∀ s ∈ ss, s ≤ 2) → ss ∈ hows ss.length
  | [], _ => by simp [hows]
  | s :: ss, h => by
    have h1 := h s (by simp)
    have h2 := hows_mem ss (fun x hx => h x (by simp [hx]))
    simp only [hows, List.length_cons, List.mem_flatMap]
    refine ⟨ss, h2, ?_⟩
    have : s = 0 ∨ s = 1 ∨ s = 2 := by omega
    rcases this with rfl | rfl | rfl <;> simp
/-- No list is appended to ahead of those before it. -/
def lined : List Nat → Bool
  | [] => true
  | s :: ss => lined ss && (s == 2 || ss.all fun x => !(x == 2))
theorem lined_zero : ∀ n, lined (List.replicate n 0) = true
  | 0 => rfl
  | n + 1 => by
    rw [List.replicate_succ, lined, lined_zero n]
    simp
def stepOk (ids : List (Nat × Nat)) (base : Array Bool) (ss : List Nat) (i : Nat) : Bool :=
  (List.range ids.length).any fun j => ((ss.getD j 9 == 0 && (ids.getD j (0, 0)).1 == i) || (ss.getD j 9 == 1 && (ids.getD j (0, 0)).2 == i)) && (took ids ss base).setIfInBounds i true == took ids (ss.set j (ss.getD j 9 + 1)) base && lined (ss.set j (ss.getD j 9 + 1))
def chainsB (md : Region.Mode) (ops : Array Oper) (ids : List (Nat × Nat)) (base : Array Bool) : Bool :=
  (hows ids.length).all fun ss => !lined ss || ss.sum == 2 * ids.length || (!(Region.ready md ops (took ids ss base)).isEmpty && (Region.ready md ops (took ids ss base)).all (stepOk ids base ss))
theorem sum_two : ∀ (ss : List Nat), (∀ s ∈ ss, s ≤ 2) → ss.sum = 2 * ss.length → ∀ s ∈ ss, s = 2
  | [], _, _ => by simp
  | s :: ss, h, e => by
    have h1 := h s (by simp)
    have h3 : ss.sum ≤ 2 * ss.length := by
      have : ∀ (l : List Nat), (∀ s ∈ l, s ≤ 2) → l.sum ≤ 2 * l.length := fun l => by
        induction l with
        | nil => simp
        | cons a l ih => intro hl; have := hl a (by simp); have := ih (fun x hx => hl x (by simp [hx])); simp only [List.sum_cons, List.length_cons]; omega
      exact this ss (fun x hx => h x (by simp [hx]))
    simp only [List.sum_cons, List.length_cons] at e
    have h4 := sum_two ss (fun x hx => h x (by simp [hx])) (by omega)
    intro x hx
    rcases List.mem_cons.1 hx with rfl | hx
    · omega
    · exact h4 x hx
theorem sum_bump : ∀ (ss : List Nat) (j : Nat) (hj : j < ss.length) (d : Nat), (ss.set j (ss.getD j d + 1)).sum = ss.sum + 1
  | s :: ss, 0, _, d => by simp; omega
  | s :: ss, j + 1, hj, d => by
    have := sum_bump ss j (by simpa using hj) d
    simp only [List.set_cons_succ, List.sum_cons, List.getD_cons_succ]
    omega

/-- How one list and its element lie. -/
def OneC (e : TypeId) (c : Chain) (s : Nat) (a : Act) (t : List Thing) : Prop :=
  (s = 0 ∧ t = [rowOf e 1 c.v c.n c.xs]) ∨
  (s = 1 ∧ ∃ g, a.eval (.tmp c.sb) = .slice (some ⟨g, 0, none⟩) 1 1 ∧ t = [rowOf e 1 c.v c.n c.xs, boxOf g #[c.x] e]) ∨
  (s = 2 ∧ ∃ v, a.eval (.tmp c.sa) = v ∧ v ≠ .slice none 0 0 ∧ t = [rowOf e 1 v (c.n + 1) (c.xs ++ [c.x])])
/-- A frame that is as it was but for some slots. -/
structure SameBut (slots : List Nat) (a0 a : Act) : Prop where
  size : a.tmps.size = a0.tmps.size
  defers : a.defers = a0.defers
  eval : ∀ k, k ∉ slots → a.eval (.tmp k) = a0.eval (.tmp k)
theorem SameBut.put {slots : List Nat} {a0 a : Act} (h : SameBut slots a0 a) {d : Nat} (hd : d ∈ slots) (hl : d < a0.tmps.size) (v : Value) : SameBut slots a0 (a.put (some d) v) :=
  ⟨by rw [size_put]; exact h.size, h.defers, fun k hk => by
    have hne : d ≠ k := fun e => hk (e ▸ hd)
    rw [eval_put _ _ _ _ (by rw [h.size]; exact hl), if_neg hne]
    exact h.eval k hk⟩
theorem act_ext {a b : Act} (h1 : a.tmps.size = b.tmps.size) (h2 : a.defers = b.defers) (h : ∀ k, k < a.tmps.size → a.eval (.tmp k) = b.eval (.tmp k)) : a = b := by
  obtain ⟨ta, da⟩ := a
  obtain ⟨tb, db⟩ := b
  simp only at h1 h2
  subst h2
  congr 1
  refine Array.ext h1 fun k hk hk' => ?_
  have := h k hk
  simpa [Act.eval, hk, hk'] using this

/-- What the operations of one list do. -/
structure ChainOps (P : Go.Program) (L : List Oper) (t e : TypeId) (slots : List Nat) (a0 : Act) (c : Chain) : Prop where
  make : ∃ o, L[c.ib]? = some o ∧ o.dst = some c.sb ∧ o.guard = none ∧ ∀ a w, SameBut slots a0 a → (execOp a.eval o).run P w = .ok (.value (.slice (some ⟨w.heap.size, 0, none⟩) 1 1)) (w.alloc (.cells #[c.x] e))
  app : ∃ o, L[c.ia]? = some o ∧ o.dst = some c.sa ∧ o.guard = none ∧ ∀ a w w' y v', SameBut slots a0 a → a.eval (.tmp c.sb) = y → (Builtin.append_ #[t, t] t #[c.v, y]).run P w = .ok v' w' → (execOp a.eval o).run P w = .ok (.value v') w'
  one : c.x.oneCell' = true
  few : c.n ≤ 10000

section
variable {P : Go.Program} {W w w' : World} {us us1 us2 : List Thing}
/-- An element that lies in a box is appended. -/
theorem Sep.appendBox {ty e : TypeId} {z : Value} {bytes n g : Nat} {v x : Value} {xs : List Value} (K : SlK P ty e z 1 bytes) (h : Sep W w (us1 ++ ([rowOf e 1 v n xs, boxOf g #[x] e] ++ us2))) (hx : x.oneCell' = true) (hl : n ≤ 10000) :
    ∃ v' w', (Builtin.append_ #[ty, ty] ty #[v, .slice (some ⟨g, 0, none⟩) 1 1]).run P w = .ok v' w' ∧ Sep W w' (us1 ++ ([rowOf e 1 v' (n + 1) (xs ++ [x])] ++ us2)) ∧ v' ≠ .slice none 0 0 := by
  have hr := h.row (e := e) (s := 1) (v := v) (n := n) (xs := xs) (by simp)
  have hbx : Box w g #[x] e := h.box (by simp)
  obtain ⟨v', w', hrun, ho, hg, hf, hnil⟩ := K.append W.heap.size ty v xs n w hr ⟨g, 0, none⟩ 1 1 [x] rfl (fun j u hj => by
    rw [Addr.add_lit, Nat.zero_add, hbx.cell]
    match j, hj with
    | 0, hj => simpa using hj) (fun u hu => by simp at hu; rw [hu]; exact hx) (by omega) h.out.size
  have h1 : Sep W w (us1 ++ rowOf e 1 v n xs :: us2) := h.sub (by
    refine List.Sublist.append_left ?_ us1
    exact (List.sublist_cons_self _ _).cons_cons _)
  exact ⟨v', w', hrun, h1.turn (Away.of_grown hg (fun k hk => .inl hk)) (owns_base ho (Nat.zero_le _)) (fun k hk => hf k hk), fun e0 => by simpa using hnil.1 e0⟩
theorem flat_at {α : Type} (tss : List (List α)) (j : Nat) (hj : j < tss.length) (t : List α) (us : List α) : (tss.set j t).flatten ++ us = (tss.take j).flatten ++ (t ++ ((tss.drop (j + 1)).flatten ++ us)) := by
  rw [List.set_eq_take_append_cons_drop, if_pos hj]
  simp [List.append_assoc]
theorem flat_self {α : Type} (tss : List (List α)) (j : Nat) (hj : j < tss.length) (us : List α) : tss.flatten ++ us = (tss.take j).flatten ++ (tss[j] ++ ((tss.drop (j + 1)).flatten ++ us)) := by
  rw [← flat_at tss j hj, List.set_getElem_self]

theorem flat_one {e : TypeId} : ∀ cs : List Chain, (cs.map fun c => [rowOf e 1 c.v c.n c.xs]).flatten = cs.map (fun c => rowOf e 1 c.v c.n c.xs)
  | [] => rfl
  | c :: cs => by rw [List.map_cons, List.flatten_cons, flat_one cs]; rfl
/-- How far all are. -/
def StC (e : TypeId) (cs : List Chain) (slots : List Nat) (a0 : Act) (W : World) (us : List Thing) (ss : List Nat) (a : Act) (w : World) : Prop :=
  SameBut slots a0 a ∧ ∃ tss : List (List Thing), tss.length = cs.length ∧ (∀ j (h : j < cs.length) (h' : j < tss.length), OneC e cs[j] (ss.getD j 9) a tss[j]) ∧ Sep W w (tss.flatten ++ us)

variable {L : List Oper} {Q : Exit → Act → World → Prop} {S : World → Prop} {Z : List Nat} {js : List Nat}
/-- Lists of the call's own are appended to, in whatever order. -/
theorem chains {ty e : TypeId} {z : Value} {bytes : Nat} (K : SlK P ty e z 1 bytes) (cs : List Chain) (a0 : Act) (base : Array Bool)
    (slots : List Nat) (hsl : slots = cs.map (·.sb) ++ cs.map (·.sa)) (hnd : slots.Nodup) (hlt : ∀ d ∈ slots, d < a0.tmps.size)
    (hops : ∀ c ∈ cs, ChainOps P L ty e slots a0 c) (hchk : chainsB .any L.toArray (cs.map fun c => (c.ib, c.ia)) base = true)
    (hZ : ∀ w, Below W.heap.size W w → S w) (hend : linesB .any L.toArray js (took (cs.map fun c => (c.ib, c.ia)) (List.replicate cs.length 2) base) = true)
    (hbase : took (cs.map fun c => (c.ib, c.ia)) (List.replicate cs.length 0) base = base)
    (h : ∀ a w, StC e cs slots a0 W us (List.replicate cs.length 2) a w → lineY P L.toArray Q S Z js a w) (w : World) (hw : Sep W w (cs.map (fun c => rowOf e 1 c.v c.n c.xs) ++ us)) :
    wpAnyY P .any L.toArray Q S Z (js.length + 2 * cs.length) base a0 w := by
  have idl : (cs.map fun c => (c.ib, c.ia)).length = cs.length := by simp
  refine invY (I := fun k l a w => ∃ ss : List Nat, lined ss = true ∧ ss.length = cs.length ∧ (∀ s ∈ ss, s ≤ 2) ∧ l = took (cs.map fun c => (c.ib, c.ia)) ss base ∧ k + ss.sum = 2 * cs.length ∧ StC e cs slots a0 W us ss a w) ?_ ?_ _ _ _ _ ?_
  · rintro l a w ⟨ss, hln, hl, h2, rfl, hk, hst⟩
    have e2 : ss = List.replicate cs.length 2 := List.eq_replicate_iff.2 ⟨hl, sum_two ss h2 (by omega)⟩
    subst e2
    exact ⟨hend, h a w hst⟩
  · rintro k l a w ⟨ss, hln, hl, h2, rfl, hk, hsame, tss, htl, hone, hsep⟩
    have hm := hows_mem ss h2
    rw [hl, ← idl] at hm
    have hb := List.all_eq_true.1 hchk ss hm
    have hne : (ss.sum == 2 * (cs.map fun c => (c.ib, c.ia)).length) = false := by simp; omega
    rw [hne, hln, Bool.not_true, Bool.or_false, Bool.false_or, Bool.and_eq_true] at hb
    refine ⟨fun e0 => by rw [e0] at hb; simp at hb, fun i hi => ?_⟩
    have hi' := List.all_eq_true.1 hb.2 i hi
    obtain ⟨j, hj, hj'⟩ := List.any_eq_true.1 hi'
    rw [List.mem_range, idl] at hj
    simp only [Bool.and_eq_true, Bool.or_eq_true, beq_iff_eq] at hj'
    obtain ⟨⟨hij, hset⟩, hln'⟩ := hj'
    rw [hset]
    have hcj : cs[j] ∈ cs := List.getElem_mem _
    obtain ⟨c, ec⟩ : ∃ c, cs[j] = c := ⟨_, rfl⟩
    have hid : ((cs.map fun c => (c.ib, c.ia)).getD j (0, 0)) = (c.ib, c.ia) := by simp [List.getD, hj, ec]
    rw [hid] at hij
    rw [ec] at hcj
    have hO := hops c hcj
    have hjt : j < tss.length := by omega
    have h1 := hone j hj hjt
    rw [ec] at h1
    have hsb : c.sb ∈ slots := by rw [hsl]; exact List.mem_append_left _ (List.mem_map_of_mem hcj)
    have hsa : c.sa ∈ slots := by rw [hsl]; exact List.mem_append_right _ (List.mem_map_of_mem hcj)
    have hss : ∀ s ∈ ss.set j (ss.getD j 9 + 1), s ≤ 2 := fun s hs => by
      rcases List.mem_or_eq_of_mem_set hs with h' | h'
      · exact h2 s h'
      · rcases hij with ⟨h3, _⟩ | ⟨h3, _⟩ <;> omega
    have hsum := sum_bump ss j (by omega) 9
    have hget : ∀ q, q ≠ j → (ss.set j (ss.getD j 9 + 1)).getD q 9 = ss.getD q 9 := fun q hq => by
      simp only [List.getD]; rw [List.getElem?_set_ne (Ne.symm hq)]
    have hgetj : (ss.set j (ss.getD j 9 + 1)).getD j 9 = ss.getD j 9 + 1 := by simp [List.getD, hl, hj]
    -- the others stay
    have stay : ∀ (d : Nat) (v : Value) (t' : List Thing), (d = c.sb ∨ d = c.sa) → OneC e c (ss.getD j 9 + 1) (a.put (some d) v) t' →
        ∀ q (hq : q < cs.length) (hq' : q < (tss.set j t').length), OneC e cs[q] ((ss.set j (ss.getD j 9 + 1)).getD q 9) (a.put (some d) v) (tss.set j t')[q] := by
      intro d v t' hd hnew q hq hq'
      by_cases eq : q = j
      · subst eq
        rw [hgetj, ec, List.getElem_set_self]
        exact hnew
      · rw [hget q eq, List.getElem_set_ne (Ne.symm eq)]
        have hold := hone q hq (by omega)
        have hdl : d < a.tmps.size := by rw [hsame.size]; rcases hd with rfl | rfl <;> exact hlt _ (by assumption)
        have nb : d ≠ cs[q].sb := by
          rw [hsl] at hnd
          have hn := List.nodup_append.1 hnd
          have hp := List.pairwise_iff_getElem.1 hn.1
          rcases hd with rfl | rfl
          · intro e0
            rcases Nat.lt_or_gt_of_ne eq with h' | h'
            · exact hp q j (by simpa using hq) (by simpa using hj) h' (by simp [ec, e0])
            · exact hp j q (by simpa using hj) (by simpa using hq) h' (by simp [ec, e0])
          · intro e0
            exact hn.2.2 cs[q].sb (List.mem_map_of_mem (List.getElem_mem _)) c.sa (List.mem_map_of_mem hcj) e0.symm
        have na : d ≠ cs[q].sa := by
          rw [hsl] at hnd
          have hn := List.nodup_append.1 hnd
          have hp := List.pairwise_iff_getElem.1 hn.2.1
          rcases hd with rfl | rfl
          · intro e0
            exact hn.2.2 c.sb (List.mem_map_of_mem hcj) cs[q].sa (List.mem_map_of_mem (List.getElem_mem _)) e0
          · intro e0
            rcases Nat.lt_or_gt_of_ne eq with h' | h'
            · exact hp q j (by simpa using hq) (by simpa using hj) h' (by simp [ec, e0])
            · exact hp j q (by simpa using hj) (by simpa using hq) h' (by simp [ec, e0])
        unfold OneC at hold ⊢
        rw [eval_put _ _ _ _ hdl, if_neg nb, eval_put _ _ _ _ hdl, if_neg na]
        exact hold
    rw [flat_self tss j hjt us] at hsep
    rcases hij with ⟨hs0, rfl⟩ | ⟨hs1, rfl⟩
    · obtain ⟨o, ho, hdst, hg, hrun⟩ := hO.make
      have ht : tss[j] = [rowOf e 1 c.v c.n c.xs] := by
        rcases h1 with ⟨_, h1⟩ | ⟨h1, _⟩ | ⟨h1, _⟩
        · exact h1
        · omega
        · omega
      rw [ht] at hsep
      obtain ⟨w', ew⟩ : ∃ w', w' = w.alloc (.cells #[c.x] e) := ⟨_, rfl⟩
      have hb' := hsep.newBox ew
      have hp := hb'.perm (us := (tss.take j).flatten ++ ([rowOf e 1 c.v c.n c.xs, boxOf w.heap.size #[c.x] e] ++ ((tss.drop (j + 1)).flatten ++ us))) (by
        refine (List.perm_middle (l₁ := (tss.take j).flatten)).symm.trans (List.Perm.append_left _ ?_)
        exact List.Perm.swap _ _ _)
      rw [← flat_at tss j hjt] at hp
      have hr := hrun a w hsame
      rw [← ew] at hr
      refine op_value (v := .slice (some ⟨w.heap.size, 0, none⟩) 1 1) (w' := w') (some c.sb) ho hdst hg hr ⟨fun _ => hZ _ hp.out, ss.set j (ss.getD j 9 + 1), hln', by simpa using hl, hss, rfl, by omega, hsame.put hsb (hlt _ hsb) _, _, by simpa using htl, stay c.sb _ _ (.inl rfl) ?_, hp⟩
      refine .inr (.inl ⟨by omega, w.heap.size, ?_, rfl⟩)
      rw [eval_put _ _ _ _ (by rw [hsame.size]; exact hlt _ hsb), if_pos rfl]
    · obtain ⟨o, ho, hdst, hg, hrun⟩ := hO.app
      obtain ⟨g, hy, ht⟩ : ∃ g, a.eval (.tmp c.sb) = .slice (some ⟨g, 0, none⟩) 1 1 ∧ tss[j] = [rowOf e 1 c.v c.n c.xs, boxOf g #[c.x] e] := by
        rcases h1 with ⟨h1, _⟩ | ⟨_, g, h1, h3⟩ | ⟨h1, _⟩
        · omega
        · exact ⟨g, h1, h3⟩
        · omega
      rw [ht] at hsep
      obtain ⟨v', w', hr, hp, hv⟩ := Sep.appendBox K hsep hO.one hO.few
      rw [← flat_at tss j hjt] at hp
      refine op_value (v := v') (w' := w') (some c.sa) ho hdst hg (hrun a w w' _ v' hsame hy hr) ⟨fun _ => hZ _ hp.out, ss.set j (ss.getD j 9 + 1), hln', by simpa using hl, hss, rfl, by omega, hsame.put hsa (hlt _ hsa) _, _, by simpa using htl, stay c.sa _ _ (.inr rfl) ?_, hp⟩
      refine .inr (.inr ⟨by omega, v', ?_, hv, rfl⟩)
      rw [eval_put _ _ _ _ (by rw [hsame.size]; exact hlt _ hsa), if_pos rfl]
  · refine ⟨List.replicate cs.length 0, lined_zero _, by simp, fun s hs => by rw [List.eq_of_mem_replicate hs]; omega, hbase.symm, by simp, ⟨rfl, rfl, fun _ _ => rfl⟩, (cs.map fun c => [rowOf e 1 c.v c.n c.xs]), by simp, fun j hj hj' => .inl ⟨by simp [List.getD, hj], by simp⟩, ?_⟩
    rw [flat_one]
    exact hw
end
end Dk
