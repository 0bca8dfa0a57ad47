/- Things that a call owns, apart from one another: rows of any element type, boxes, whatever a layer lays; and how a world that holds some goes on. Of any program of the model. -/
import Derived.Test.YthpphicgkkhbfaaDe
import Derived.Lib.AppendZeros
namespace Dk
set_option linter.unusedSimpArgs false
set_option linter.unusedVariables false
set_option linter.unnecessarySimpa false
open Go Go.RowKit

/-- A slice type of a program: its element type, zero value, cells and bytes of an element. -/
structure SlK (P : Go.Program) (t e : TypeId) (z : Value) (s bytes : Nat) : Prop where
  und : P.underlying t = some (.slice e)
  info : (P.info? e).map (fun i => (i.zero, i.size, i.bytes)) = some (some z, s, bytes)
  cells : z.cells.size = s
  pos : 0 < s
  le : bytes ≤ 1000
set_option maxRecDepth 100000 in
/-- What 'append' leaves, and where. -/
theorem SlK.append {P : Go.Program} {t e : TypeId} {z : Value} {s bytes : Nat} (K : SlK P t e z s bytes) (B : Nat) (ty : TypeId) (v : Value) (xs : List Value) (n : Nat) (w : World) (hown : w.ownsRow B e s v n xs) (a : Addr) (m c : Nat) (news : List Value) (hl : news.length = m * s) (hnews : ∀ j u, news[j]? = some u → w.cell? (a.add j) = some u) (h1 : ∀ u ∈ news, u.oneCell' = true)
    (h : n + m ≤ 100000) (hB : B ≤ w.heap.size) :
    ∃ v' w', (Builtin.append_ #[t, t] ty #[v, .slice (some a) m c]).run P w = .ok v' w' ∧ w'.ownsRow B e s v' (n + m) (xs ++ news) ∧ w.grownBy w' v.ownBlock ∧ From w v v' ∧ (v' = .slice none 0 0 ↔ v = .slice none 0 0 ∧ m = 0) := by
  obtain ⟨i0, hi0, hz0, hz1, hz2⟩ := info_parts K.info
  have hle := K.le
  have hb2 : (n + m) * bytes ≤ 100000 * 1000 := Nat.mul_le_mul h hle
  have hb3 : m * bytes ≤ 100000 * 1000 := Nat.mul_le_mul (by omega) hle
  have hl1 : news.length = m * i0.size := by rw [hz1]; exact hl
  obtain ⟨v', w', hr, ho, hg, hi⟩ := run_append_own (P := P) w B t ty e i0 z s bytes K.und hi0 hz0 hz1 hz2 K.cells K.pos v n xs hown a m c news hl hnews h1 (by unfold maxLen; omega) (by omega) hB
  refine ⟨v', w', hr, ho, hg, ?_, hi⟩
  obtain ⟨hxl, ⟨rfl, rfl⟩ | ⟨g, cap, cur, rfl, hb, hgg, hn, hm, hs, ht⟩⟩ := id hown
  · by_cases hm : m = 0
    · rw [hi.2 ⟨rfl, hm⟩]
      exact From.refl _ _
    · have hr2 := run_append_nil (P := P) w t ty e i0 z K.und hi0 hz0 a m c news hl1 hnews (by omega) (by omega) (by rw [hz2]; omega)
      rw [hr] at hr2
      injection hr2 with e1 e2
      subst e1
      exact fun k hk => .inr (by simp [Value.ownBlock] at hk; omega)
  · by_cases hroom : n + m ≤ cap
    · have hr2 := run_append_room (P := P) w t ty e i0 K.und hi0 g n cap cur hgg a m c news hl1 hnews h1 hroom (by
        rw [hz1, hl, hs, ← Nat.add_mul]
        exact Nat.mul_le_mul_right _ hroom)
      rw [hr] at hr2
      injection hr2 with e1 e2
      subst e1
      exact From.same _ rfl
    · have holds : ∀ j u, xs[j]? = some u → w.cell? ((⟨g, 0, none⟩ : Addr).add j) = some u := hown.cells (g := g) rfl
      have hr2 := run_append_grow (P := P) w t ty e i0 z K.und hi0 hz0 ⟨g, 0, none⟩ n cap xs (by rw [hz1]; exact hxl) holds a m c news hl1 hnews (by omega) (by omega) (growslice_fits (by omega) (by rw [hz2]; omega))
      rw [hr] at hr2
      injection hr2 with e1 e2
      subst e1
      exact fun k hk => .inr (by simp [Value.ownBlock] at hk; omega)
/-- A row that is not nil has its block. -/
theorem owns_some {w : World} {base n s : Nat} {e : TypeId} {v : Value} {xs : List Value} (h : w.ownsRow base e s v n xs) (hv : v ≠ .slice none 0 0) : ∃ g C, v = .slice (some ⟨g, 0, none⟩) n C := by
  obtain ⟨_, ⟨e0, _⟩ | ⟨g, cap, cur, e0, _⟩⟩ := h
  · exact absurd e0 hv
  · exact ⟨g, cap, e0⟩

/-- Something that lies in blocks of its own: what it says hangs on them alone. -/
structure Thing where
  own : Nat → Prop
  holds : World → Prop
  local_ : ∀ w w', holds w → (∀ k, own k → w'.heap[k]? = w.heap[k]?) → holds w'
  lt : ∀ w, holds w → ∀ k, own k → k < w.heap.size
theorem row_local {w w' : World} {e : TypeId} {s n : Nat} {v : Value} {xs : List Value} (h : w.ownsRow 0 e s v n xs) (hk : ∀ k, v.ownBlock = some k → w'.heap[k]? = w.heap[k]?) : w'.ownsRow 0 e s v n xs := by
  obtain ⟨hl, h0 | ⟨g, cap, cur, rfl, hb, hg, hr⟩⟩ := h
  · exact ⟨hl, .inl h0⟩
  · exact ⟨hl, .inr ⟨g, cap, cur, rfl, hb, (hk g rfl).trans hg, hr⟩⟩
/-- A row. -/
def rowOf (e : TypeId) (s : Nat) (v : Value) (n : Nat) (xs : List Value) : Thing := {
  own := fun k => v.ownBlock = some k
  holds := fun w => w.ownsRow 0 e s v n xs
  local_ := fun w w' h hk => row_local h hk
  lt := fun w h k hk => (World.ownsRow.lt h k hk).2 }
/-- A box. -/
def boxOf (b : Nat) (cs : Array Value) (t : TypeId) : Thing := {
  own := fun k => k = b
  holds := fun w => Box w b cs t
  local_ := fun w w' h hk => ⟨(hk b rfl).trans h.heap⟩
  lt := fun w h k hk => hk ▸ h.lt }

/-- Things of a call's own, apart from one another; all that lay before the call is as it was. -/
structure Sepd (W w : World) (ts : List Thing) : Prop where
  all : ∀ t ∈ ts, t.holds w ∧ ∀ k, t.own k → W.heap.size ≤ k
  apart : ts.Pairwise (fun s t => ∀ k, s.own k → ¬ t.own k)
  up : Below W.heap.size W w
def Sep (W w : World) (ts : List Thing) : Prop := Hid (Sepd W w ts)

section
variable {W w w' : World} {t t' : Thing} {ts ts' us us1 us2 : List Thing}
theorem Sep.out (h : Sep W w ts) : Below W.heap.size W w := (Hid.out h).up
theorem Sep.begin (u : Below W.heap.size W w) : Sep W w [] := ⟨fun t ht => absurd ht (by simp), List.Pairwise.nil, u⟩
theorem Sep.get (h : Sep W w ts) (ht : t ∈ ts) : t.holds w := ((Hid.out h).all t ht).1
theorem Sep.base (h : Sep W w ts) (ht : t ∈ ts) : ∀ k, t.own k → W.heap.size ≤ k := ((Hid.out h).all t ht).2
theorem Sep.perm (h : Sep W w ts) (p : ts.Perm us) : Sep W w us := by
  have q := Hid.out h
  exact ⟨fun x hx => q.all x (p.mem_iff.2 hx), (p.pairwise_iff (fun {x y} hxy k hy hx => hxy k hx hy)).1 q.apart, q.up⟩
theorem Sep.sub (h : Sep W w ts) (s : us.Sublist ts) : Sep W w us := by
  have q := Hid.out h
  exact ⟨fun x hx => q.all x (s.mem hx), q.apart.sublist s, q.up⟩
/-- New blocks alone. -/
theorem Sep.below (h : Sep W w ts) (b : Below w.heap.size w w') : Sep W w' ts := by
  have q := Hid.out h
  exact ⟨fun x hx => ⟨x.local_ w w' (q.all x hx).1 (fun k hk => b.block k (x.lt w (q.all x hx).1 k hk)), (q.all x hx).2⟩, q.apart, Dk.up_call q.up b⟩
set_option maxRecDepth 100000 in
/-- One thing is turned, into some that lie in its blocks or in new ones. -/
theorem Sep.turns (h : Sep W w (us1 ++ t :: us2)) (a : Away t.own w w') (hh : ∀ x ∈ ts', x.holds w') (hn : ∀ x ∈ ts', ∀ k, x.own k → t.own k ∨ w.heap.size ≤ k) (hp : ts'.Pairwise (fun s t => ∀ k, s.own k → ¬ t.own k)) : Sep W w' (us1 ++ (ts' ++ us2)) := by
  have q := Hid.out (h.perm List.perm_middle)
  have hap := List.pairwise_cons.1 q.apart
  have ht := q.all t (List.mem_cons_self ..)
  have key : Sep W w' (ts' ++ (us1 ++ us2)) := by
    refine ⟨fun x hx => ?_, List.pairwise_append.2 ⟨hp, hap.2, fun x hx y hy k hk hyk => ?_⟩, a.below q.up ht.2⟩
    · rcases List.mem_append.1 hx with hx | hx
      · refine ⟨hh x hx, fun k hk => (hn x hx k hk).elim (ht.2 k) (fun h1 => Nat.le_trans q.up.size h1)⟩
      · have hx' := q.all x (List.mem_cons_of_mem _ hx)
        exact ⟨x.local_ w w' hx'.1 (fun k hk => a.block k (x.lt w hx'.1 k hk) (fun ho => hap.1 x hx k ho hk)), hx'.2⟩
    · have hy' := q.all y (List.mem_cons_of_mem _ hy)
      exact (hn x hx k hk).elim (fun ho => hap.1 y hy k ho hyk) (fun h1 => absurd (y.lt w hy'.1 k hyk) (by omega))
  refine key.perm ?_
  rw [← List.append_assoc, ← List.append_assoc]
  exact (List.perm_append_comm).append_right us2
theorem Sep.turn (h : Sep W w (us1 ++ t :: us2)) (a : Away t.own w w') (hh : t'.holds w') (hn : ∀ k, t'.own k → t.own k ∨ w.heap.size ≤ k) : Sep W w' (us1 ++ t' :: us2) :=
  Sep.turns (ts' := [t']) h a (fun x hx => by rw [List.mem_singleton] at hx; rw [hx]; exact hh) (fun x hx => by rw [List.mem_singleton] at hx; rw [hx]; exact hn) (List.pairwise_singleton _ _)
set_option maxRecDepth 100000 in
/-- A new thing. -/
theorem Sep.add (h : Sep W w ts) (b : Below w.heap.size w w') (hh : t.holds w') (hn : ∀ k, t.own k → w.heap.size ≤ k) : Sep W w' (t :: ts) := by
  have q := Hid.out (h.below b)
  have q0 := Hid.out h
  refine ⟨fun x hx => ?_, List.pairwise_cons.2 ⟨fun x hx k hk hxk => absurd (x.lt w (q0.all x hx).1 k hxk) (by have := hn k hk; omega), q.apart⟩, q.up⟩
  rcases List.mem_cons.1 hx with e | hx
  · rw [e]
    exact ⟨hh, fun k hk => Nat.le_trans q0.up.size (hn k hk)⟩
  · exact q.all x hx
/-- A new thing in an old one's place. -/
theorem Sep.fresh (h : Sep W w (us1 ++ t :: us2)) (b : Below w.heap.size w w') (hh : t'.holds w') (hn : ∀ k, t'.own k → w.heap.size ≤ k) : Sep W w' (us1 ++ t' :: us2) := h.turn (Away.of_up b) hh (fun k hk => .inr (hn k hk))
theorem Sep.row {e : TypeId} {s n : Nat} {v : Value} {xs : List Value} (h : Sep W w ts) (ht : rowOf e s v n xs ∈ ts) : w.ownsRow W.heap.size e s v n xs := by
  have := h.get ht
  have hb := h.base ht
  obtain ⟨hl, h0 | ⟨g, cap, cur, rfl, _, hr⟩⟩ := this
  · exact ⟨hl, .inl h0⟩
  · exact ⟨hl, .inr ⟨g, cap, cur, rfl, hb g rfl, hr⟩⟩
theorem Sep.box {b : Nat} {cs : Array Value} {t : TypeId} (h : Sep W w ts) (ht : boxOf b cs t ∈ ts) : Box w b cs t := h.get ht
/-- A list that is typed out empty. -/
theorem Sep.empty {e : TypeId} {s : Nat} (h : Sep W w ts) (ew : w' = w.alloc (.cells #[] e)) : Sep W w' (rowOf e s (.slice (some ⟨w.heap.size, 0, none⟩) 0 0) 0 [] :: ts) := by
  subst ew
  exact h.add (Dk.up_alloc (Below.refl _ _) _) (World.ownsRow_lit w #[] 0 (Nat.zero_le _) (Nat.zero_le _) (by simp)) (fun k hk => by simp [rowOf, Value.ownBlock] at hk; omega)
/-- A box that is laid. -/
theorem Sep.newBox {cs : Array Value} {e : TypeId} (h : Sep W w ts) (ew : w' = w.alloc (.cells cs e)) : Sep W w' (boxOf w.heap.size cs e :: ts) := by
  subst ew
  exact h.add (Dk.up_alloc (Below.refl _ _) _) (Box.new w cs e) (fun k hk => by simp [boxOf] at hk; omega)
/-- A cell of a box is written. -/
theorem Sep.setBox {b o : Nat} {cs : Array Value} {e : TypeId} (h : Sep W w (us1 ++ boxOf b cs e :: us2)) (v : Value) : Sep W (w.setCell ⟨b, o, none⟩ v) (us1 ++ boxOf b (cs.setIfInBounds o v) e :: us2) :=
  h.turn ((Away.refl (boxOf b cs e).own w).set (.inl rfl) _ _) ((h.box (b := b) (cs := cs) (t := e) (by simp)).set o v) (fun k hk => .inl hk)
set_option maxRecDepth 100000 in
/-- One element of one cell is appended. -/
theorem Sep.append {P : Go.Program} {ty e : TypeId} {z : Value} {bytes n : Nat} {v x : Value} {xs : List Value} (K : SlK P ty e z 1 bytes) (h : Sep W w (us1 ++ rowOf e 1 v n xs :: us2)) (hx : x.oneCell' = true) (hl : n ≤ 10000) :
    ∃ v' w', (Builtin.append_ #[ty, ty] ty #[v, .slice (some ⟨w.heap.size, 0, none⟩) 1 1]).run P (w.alloc (.cells #[x] e)) = .ok v' w' ∧ Sep W w' (us1 ++ rowOf e 1 v' (n + 1) (xs ++ [x]) :: us2) ∧ v' ≠ .slice none 0 0 := by
  obtain ⟨V, eV⟩ : ∃ V, V = w.alloc (.cells #[x] e) := ⟨_, rfl⟩
  have uV : Below w.heap.size w V := by rw [eV]; exact Dk.up_alloc (Below.refl _ _) _
  have hV := h.below uV
  have hr := hV.row (e := e) (s := 1) (v := v) (n := n) (xs := xs) (by simp)
  have hbx : Box V w.heap.size #[x] e := by rw [eV]; exact Box.new w _ _
  obtain ⟨v', w', hrun, ho, hg, hf, hnil⟩ := K.append W.heap.size ty v xs n V hr ⟨w.heap.size, 0, none⟩ 1 1 [x] rfl (fun j u hj => by
    rw [Addr.add_lit, Nat.zero_add, hbx.cell]
    match j, hj with
    | 0, hj => simpa using hj) (fun u hu => by simp at hu; rw [hu]; exact hx) (by omega) hV.out.size
  rw [← eV]
  exact ⟨v', w', hrun, hV.turn (Away.of_grown hg (fun k hk => .inl hk)) (owns_base ho (Nat.zero_le _)) (fun k hk => hf k hk), fun e0 => by simpa using hnil.1 e0⟩
end
end Dk
