/- The gates in memory: one row of mutexes, one of conditions, one of semaphores, and what lies behind each. -/
import Derived.Test.YtjkdaankjondjaaHf
namespace Go.Proofs.Ytjkdaankjondjaa
set_option linter.unusedSimpArgs false
set_option linter.unusedVariables false
set_option linter.unnecessarySimpa false
open Go.RowKit

structure Mx where
  u : Value
  xs : List Int
  owner : Int
  owned : Bool
structure Cx where
  u : Value
  xs : List (Int × Int)
  bm : Nat
structure Sx where
  u : Value
  xs : List Int
  count : Int
def Mx.cells (m : Mx) : List Value := [m.u, .int .i64 m.owner, .bool m.owned]
def Cx.cells (c : Cx) : List Value := [c.u, .map (some c.bm)]
def Sx.cells (s : Sx) : List Value := [s.u, .int .i64 s.count]
theorem Mx.len (m : Mx) : m.cells.length = 3 := rfl
theorem Cx.len (c : Cx) : c.cells.length = 2 := rfl
theorem Sx.len (s : Sx) : s.cells.length = 2 := rfl
def Mx.row (m : Mx) : Dk.Thing := Dk.rowOf 3 1 m.u m.xs.length (Dk.is m.xs)
def Cx.row (c : Cx) : Dk.Thing := Dk.rowOf 3 1 c.u c.xs.length (Dk.is (c.xs.map Prod.fst))
def Cx.mp (c : Cx) : Dk.Thing := mapOf c.bm c.xs
def Sx.row (s : Sx) : Dk.Thing := Dk.rowOf 3 1 s.u s.xs.length (Dk.is s.xs)
/-- The row of mutexes, of conditions, of semaphores. -/
def hdM (v : Value) (ms : List Mx) : Dk.Thing := Dk.rowOf 76 3 v ms.length (ms.flatMap Mx.cells)
def hdC (v : Value) (cs : List Cx) : Dk.Thing := Dk.rowOf 68 2 v cs.length (cs.flatMap Cx.cells)
def hdS (v : Value) (ss : List Sx) : Dk.Thing := Dk.rowOf 70 2 v ss.length (ss.flatMap Sx.cells)
def bxG (b : Nat) (vm vc vs : Value) : Dk.Thing := Dk.boxOf b #[vm, vc, vs] 63
def gts (b : Nat) (vm vc vs : Value) (ms : List Mx) (cs : List Cx) (ss : List Sx) : List Dk.Thing :=
  bxG b vm vc vs :: hdM vm ms :: hdC vc cs :: hdS vs ss :: (ms.map Mx.row ++ (cs.map Cx.row ++ (cs.map Cx.mp ++ ss.map Sx.row)))
/-- They are in a state. -/
structure Like (S : Dk.St) (ms : List Mx) (cs : List Cx) (ss : List Sx) : Prop where
  len : ms.length = S.owner.length
  held : ms.map Mx.owned = S.held
  wait : ms.map Mx.xs = S.wait
  own : ∀ (i : Nat) m, ms[i]? = some m → m.owner = if m.owned then S.owner.getD i 0 else 0
  conds : cs.map Cx.xs = S.conds
  count : ss.map Sx.count = S.count
  downs : ss.map Sx.xs = S.downs
  fair : Dk.Fair S
def G0 (b : Nat) (S : Dk.St) (ts : List Dk.Thing) : Prop := ∃ vm vc vs ms cs ss, ts = gts b vm vc vs ms cs ss ∧ Like S ms cs ss

theorem perm1 {α : Type} (us : List α) (B M C S r : α) (x : List α) : (us ++ (B :: M :: C :: S :: (r :: x))).Perm (M :: r :: (us ++ (B :: C :: S :: x))) := by
  refine List.Perm.trans (l₂ := us ++ (M :: r :: B :: C :: S :: x)) (List.Perm.append_left us ?_) (List.perm_middle.trans (List.perm_middle.cons M))
  exact (List.Perm.swap _ _ _).trans ((List.perm_middle (l₁ := [B, C, S])).cons M)
def restM (us : List Dk.Thing) (b : Nat) (vm vc vs : Value) (ms : List Mx) (cs : List Cx) (ss : List Sx) (i : Nat) : List Dk.Thing :=
  us ++ (bxG b vm vc vs :: hdC vc cs :: hdS vs ss :: ((ms.eraseIdx i).map Mx.row ++ (cs.map Cx.row ++ (cs.map Cx.mp ++ ss.map Sx.row))))
def restC (us : List Dk.Thing) (b : Nat) (vm vc vs : Value) (ms : List Mx) (cs : List Cx) (ss : List Sx) (i : Nat) : List Dk.Thing :=
  us ++ (bxG b vm vc vs :: hdM vm ms :: hdS vs ss :: (ms.map Mx.row ++ ((cs.eraseIdx i).map Cx.row ++ ((cs.eraseIdx i).map Cx.mp ++ ss.map Sx.row))))
def restS (us : List Dk.Thing) (b : Nat) (vm vc vs : Value) (ms : List Mx) (cs : List Cx) (ss : List Sx) (i : Nat) : List Dk.Thing :=
  us ++ (bxG b vm vc vs :: hdM vm ms :: hdC vc cs :: (ms.map Mx.row ++ (cs.map Cx.row ++ (cs.map Cx.mp ++ (ss.eraseIdx i).map Sx.row))))

section
variable {W w : World} {b i : Nat} {vm vc vs : Value} {ms : List Mx} {cs : List Cx} {ss : List Sx} {us : List Dk.Thing} {m m' : Mx} {c c' : Cx} {s s' : Sx}
theorem permM (h : ms[i]? = some m) : (us ++ gts b vm vc vs ms cs ss).Perm (hdM vm ms :: m.row :: restM us b vm vc vs ms cs ss i) := by
  have p := ((Dk.perm_at ms i m h).map Mx.row).append_right (cs.map Cx.row ++ (cs.map Cx.mp ++ ss.map Sx.row))
  exact (List.Perm.append_left us ((((p.cons _).cons _).cons _).cons _)).trans (perm1 us _ _ _ _ _ _)
theorem permC (h : cs[i]? = some c) : (us ++ gts b vm vc vs ms cs ss).Perm (hdC vc cs :: c.row :: c.mp :: restC us b vm vc vs ms cs ss i) := by
  have p1 := ((Dk.perm_at cs i c h).map Cx.row).append (((Dk.perm_at cs i c h).map Cx.mp).append_right (ss.map Sx.row))
  rw [List.map_cons, List.map_cons] at p1
  have p2 : (c.row :: (cs.eraseIdx i).map Cx.row ++ (c.mp :: (cs.eraseIdx i).map Cx.mp ++ ss.map Sx.row)).Perm (c.row :: c.mp :: ((cs.eraseIdx i).map Cx.row ++ ((cs.eraseIdx i).map Cx.mp ++ ss.map Sx.row))) := List.perm_middle.cons _
  have p3 : (ms.map Mx.row ++ (cs.map Cx.row ++ (cs.map Cx.mp ++ ss.map Sx.row))).Perm (c.row :: c.mp :: (ms.map Mx.row ++ ((cs.eraseIdx i).map Cx.row ++ ((cs.eraseIdx i).map Cx.mp ++ ss.map Sx.row)))) :=
    (List.Perm.append_left _ (p1.trans p2)).trans (List.perm_middle.trans (List.perm_middle.cons _))
  have p4 : (us ++ gts b vm vc vs ms cs ss).Perm (us ++ (bxG b vm vc vs :: hdC vc cs :: hdM vm ms :: hdS vs ss :: (c.row :: c.mp :: (ms.map Mx.row ++ ((cs.eraseIdx i).map Cx.row ++ ((cs.eraseIdx i).map Cx.mp ++ ss.map Sx.row)))))) :=
    List.Perm.append_left us ((List.Perm.swap _ _ _).trans (((p3.cons _).cons _).cons _) |>.cons _)
  refine p4.trans ((perm1 us _ _ _ _ _ _).trans ?_)
  refine List.Perm.cons _ (List.Perm.cons _ ?_)
  refine (List.Perm.append_left us (List.perm_middle (l₁ := [bxG b vm vc vs, hdM vm ms, hdS vs ss]))).trans ?_
  exact List.perm_middle
theorem permS (h : ss[i]? = some s) : (us ++ gts b vm vc vs ms cs ss).Perm (hdS vs ss :: s.row :: restS us b vm vc vs ms cs ss i) := by
  have p1 := List.Perm.append_left (ms.map Mx.row) (List.Perm.append_left (cs.map Cx.row) (List.Perm.append_left (cs.map Cx.mp) ((Dk.perm_at ss i s h).map Sx.row)))
  have p2 : (ms.map Mx.row ++ (cs.map Cx.row ++ (cs.map Cx.mp ++ (s.row :: (ss.eraseIdx i).map Sx.row)))).Perm (s.row :: (ms.map Mx.row ++ (cs.map Cx.row ++ (cs.map Cx.mp ++ (ss.eraseIdx i).map Sx.row)))) :=
    (List.Perm.append_left _ ((List.Perm.append_left _ List.perm_middle).trans List.perm_middle)).trans List.perm_middle
  have p4 : (us ++ gts b vm vc vs ms cs ss).Perm (us ++ (bxG b vm vc vs :: hdS vs ss :: hdM vm ms :: hdC vc cs :: (s.row :: (ms.map Mx.row ++ (cs.map Cx.row ++ (cs.map Cx.mp ++ (ss.eraseIdx i).map Sx.row)))))) := by
    refine List.Perm.append_left us (List.Perm.cons _ ?_)
    refine List.Perm.trans ?_ (List.Perm.cons _ (List.Perm.cons _ (List.Perm.cons _ (p1.trans p2))))
    exact List.perm_middle (l₁ := [hdM vm ms, hdC vc cs])
  exact p4.trans (perm1 us _ _ _ _ _ _)
theorem focusM (h : Dk.Sep W w (us ++ gts b vm vc vs ms cs ss)) (hm : ms[i]? = some m) : Dk.Sep W w (hdM vm ms :: m.row :: restM us b vm vc vs ms cs ss i) := h.perm (permM hm)
theorem focusC (h : Dk.Sep W w (us ++ gts b vm vc vs ms cs ss)) (hc : cs[i]? = some c) : Dk.Sep W w (hdC vc cs :: c.row :: c.mp :: restC us b vm vc vs ms cs ss i) := h.perm (permC hc)
theorem focusS (h : Dk.Sep W w (us ++ gts b vm vc vs ms cs ss)) (hs : ss[i]? = some s) : Dk.Sep W w (hdS vs ss :: s.row :: restS us b vm vc vs ms cs ss i) := h.perm (permS hs)
theorem backM (hi : i < ms.length) (h : Dk.Sep W w (hdM vm (ms.set i m') :: m'.row :: restM us b vm vc vs ms cs ss i)) : Dk.Sep W w (us ++ gts b vm vc vs (ms.set i m') cs ss) := by
  refine h.perm (List.Perm.symm ?_)
  have := permM (us := us) (b := b) (vm := vm) (vc := vc) (vs := vs) (cs := cs) (ss := ss) (ms := ms.set i m') (i := i) (m := m') (List.getElem?_set_self hi)
  unfold restM at this ⊢
  rw [List.eraseIdx_set_eq] at this
  exact this
theorem backC (hi : i < cs.length) (h : Dk.Sep W w (hdC vc (cs.set i c') :: c'.row :: c'.mp :: restC us b vm vc vs ms cs ss i)) : Dk.Sep W w (us ++ gts b vm vc vs ms (cs.set i c') ss) := by
  refine h.perm (List.Perm.symm ?_)
  have := permC (us := us) (b := b) (vm := vm) (vc := vc) (vs := vs) (ms := ms) (ss := ss) (cs := cs.set i c') (i := i) (c := c') (List.getElem?_set_self hi)
  unfold restC at this ⊢
  rw [List.eraseIdx_set_eq] at this
  exact this
theorem backS (hi : i < ss.length) (h : Dk.Sep W w (hdS vs (ss.set i s') :: s'.row :: restS us b vm vc vs ms cs ss i)) : Dk.Sep W w (us ++ gts b vm vc vs ms cs (ss.set i s')) := by
  refine h.perm (List.Perm.symm ?_)
  have := permS (us := us) (b := b) (vm := vm) (vc := vc) (vs := vs) (ms := ms) (cs := cs) (ss := ss.set i s') (i := i) (s := s') (List.getElem?_set_self hi)
  unfold restS at this ⊢
  rw [List.eraseIdx_set_eq] at this
  exact this
/-- The rows of records, where a record is there. -/
theorem shapeM (h : Dk.Sep W w (us ++ gts b vm vc vs ms cs ss)) : ∃ A C, vm = .slice A ms.length C ∧ ms.length ≤ C ∧ C ≤ maxLen := Dk.owns_slice (h.row (e := 76) (s := 3) (v := vm) (n := ms.length) (xs := ms.flatMap Mx.cells) (by simp [gts, hdM]))
theorem shapeC (h : Dk.Sep W w (us ++ gts b vm vc vs ms cs ss)) : ∃ A C, vc = .slice A cs.length C ∧ cs.length ≤ C ∧ C ≤ maxLen := Dk.owns_slice (h.row (e := 68) (s := 2) (v := vc) (n := cs.length) (xs := cs.flatMap Cx.cells) (by simp [gts, hdC]))
theorem shapeS (h : Dk.Sep W w (us ++ gts b vm vc vs ms cs ss)) : ∃ A C, vs = .slice A ss.length C ∧ ss.length ≤ C ∧ C ≤ maxLen := Dk.owns_slice (h.row (e := 70) (s := 2) (v := vs) (n := ss.length) (xs := ss.flatMap Sx.cells) (by simp [gts, hdS]))
theorem headG (h : Dk.Sep W w (us ++ gts b vm vc vs ms cs ss)) : Dk.Box w b #[vm, vc, vs] 63 := h.box (by simp [gts, bxG])
theorem someM (h : Dk.Sep W w (us ++ gts b vm vc vs ms cs ss)) (hi : i < ms.length) : ∃ g C, vm = .slice (some ⟨g, 0, none⟩) ms.length C ∧ ms.length ≤ C ∧ C ≤ maxLen := by
  obtain ⟨g, C, x, e1, e2, e3, _⟩ := Dk.row_cellq (k := i * 3) (h.row (e := 76) (s := 3) (v := vm) (n := ms.length) (xs := ms.flatMap Mx.cells) (by simp [gts, hdM])) (by omega)
  exact ⟨g, C, e1, e2, e3⟩
theorem someC (h : Dk.Sep W w (us ++ gts b vm vc vs ms cs ss)) (hi : i < cs.length) : ∃ g C, vc = .slice (some ⟨g, 0, none⟩) cs.length C ∧ cs.length ≤ C ∧ C ≤ maxLen := by
  obtain ⟨g, C, x, e1, e2, e3, _⟩ := Dk.row_cellq (k := i * 2) (h.row (e := 68) (s := 2) (v := vc) (n := cs.length) (xs := cs.flatMap Cx.cells) (by simp [gts, hdC])) (by omega)
  exact ⟨g, C, e1, e2, e3⟩
theorem someS (h : Dk.Sep W w (us ++ gts b vm vc vs ms cs ss)) (hi : i < ss.length) : ∃ g C, vs = .slice (some ⟨g, 0, none⟩) ss.length C ∧ ss.length ≤ C ∧ C ≤ maxLen := by
  obtain ⟨g, C, x, e1, e2, e3, _⟩ := Dk.row_cellq (k := i * 2) (h.row (e := 70) (s := 2) (v := vs) (n := ss.length) (xs := ss.flatMap Sx.cells) (by simp [gts, hdS])) (by omega)
  exact ⟨g, C, e1, e2, e3⟩
end
theorem lift {α : Type} {p : α → Prop} : ∀ (l : List α), (∀ a ∈ l, p a) → ∃ zs : List {a // p a}, zs.map Subtype.val = l
  | [], _ => ⟨[], rfl⟩
  | a :: r, h => by
    obtain ⟨zs, hz⟩ := lift r (fun x hx => h x (List.mem_cons_of_mem _ hx))
    exact ⟨⟨a, h a (List.mem_cons_self ..)⟩ :: zs, by rw [List.map_cons, hz]⟩
end Go.Proofs.Ytjkdaankjondjaa
