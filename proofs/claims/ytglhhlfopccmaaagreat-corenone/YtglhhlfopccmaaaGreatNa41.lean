import Derived.Test.YtglhhlfopccmaaaGreatNa40
set_option linter.unusedSimpArgs false
set_option linter.unusedVariables false
set_option linter.unnecessarySimpa false
set_option maxHeartbeats 8000000
set_option maxRecDepth 100000
namespace Dk
open Go
def lastR (h : Nat) (l : List Rec) : Option Rec := (l.filter fun r => r.thread == h).getLast?
theorem lastR_snoc (h : Nat) (l : List Rec) (r : Rec) : lastR h (l ++ [r]) = if r.thread = h then some r else lastR h l := by
 unfold lastR
 rw [List.filter_append]
 by_cases e : r.thread = h
 ·rw [if_pos e, List.filter_cons_of_pos (by simpa using e), List.filter_nil, List.getLast?_concat]
 ·rw [if_neg e, List.filter_cons_of_neg (by simpa using e), List.filter_nil, List.append_nil]
def GoodR (l : List Rec) : Prop := ∀ pre s post, l = pre ++ s :: post → ∀ r, lastR s.thread pre = some r → r.fin = false → s.fin = true ∧ s.op = r.op ∧ s.x = 0 ∧ s.result = 0
theorem GoodR.snoc {l : List Rec} (h : GoodR l) {s : Rec} (hs : ∀ r, lastR s.thread l = some r → r.fin = false → s.fin = true ∧ s.op = r.op ∧ s.x = 0 ∧ s.result = 0) : GoodR (l ++ [s]) := fun pre t post e => by
 rcases List.eq_nil_or_concat post with rfl | ⟨post, u, rfl⟩
 ·obtain ⟨rfl, e2⟩ := List.append_inj' e rfl
  obtain rfl : s = t := by simpa using e2
  exact hs
 ·have e' : l ++ [s] = (pre ++ t :: post) ++ [u] := by simpa using e
  obtain ⟨e1, -⟩ := List.append_inj' e' rfl
  exact h pre t post e1
theorem hd_inj {st : StS} {n m : Nat} (hn : n < 16) (hm : m < 16) (e : hd st n = hd st m) : n = m := by
 have h1 := hd_mod (st := st) (k := n) (by omega)
 have h2 := hd_mod (st := st) (k := m) (by omega)
 rw [e] at h1
 omega
structure Seen (but : Nat → Prop) (q : Sp) : Prop where
 good : GoodR q.recs
 last : ∀ h r, lastR h q.recs = some r → r.fin = false → ∃ n, n < 16 ∧ ¬ but n ∧ us q.st n = true ∧ q.hnd n = h ∧ (q.thr n).why ≠ 0 ∧ (q.thr n).why ≠ 9 ∧ (q.thr n).ins.op = r.op
theorem Seen.mono {b b' : Nat → Prop} {q : Sp} (h : Seen b q) (hb : ∀ n, b' n → b n) : Seen b' q := ⟨h.good, fun x r e f => by
 obtain ⟨n, h1, h2, h3⟩ := h.last x r e f
 exact ⟨n, h1, fun e => h2 (hb n e), h3⟩⟩
theorem Seen.end_ {b : Nat → Prop} {q : Sp} (h : Seen b q) : Seen (fun _ => False) q := h.mono fun _ => False.elim
section
variable {b : Nat → Prop} {q : Sp}
theorem Seen.turn {q' : Sp} (h : Seen b q) (hr : q'.recs = q.recs) (hk : ∀ n, n < 16 → ¬ b n → us q.st n = true → (q.thr n).why ≠ 0 → (q.thr n).why ≠ 9 → us q'.st n = true ∧ hd q'.st n = hd q.st n ∧ (q'.thr n).why ≠ 0 ∧ (q'.thr n).why ≠ 9 ∧ (q'.thr n).ins.op = (q.thr n).ins.op) : Seen b q' := ⟨by rw [hr]; exact h.good, fun x r e f => by
 rw [hr] at e
 obtain ⟨m, h1, h2, h3, h4, h5, h6, h7⟩ := h.last x r e f
 obtain ⟨k1, k2, k3, k4, k5⟩ := hk m h1 h2 h3 h5 h6
 refine ⟨m, h1, h2, k1, ?_, k3, k4, k5.trans h7⟩
 unfold Sp.hnd at h4 ⊢
 rw [if_pos h3] at h4
 rw [if_pos k1, k2, h4]⟩
theorem Seen.setT (h : Seen b q) (n : Nat) (t : Thr) (ht : ¬ b n → (q.thr n).why ≠ 0 → (q.thr n).why ≠ 9 → t.why ≠ 0 ∧ t.why ≠ 9 ∧ t.ins.op = (q.thr n).ins.op) : Seen b (q.setT n t) := h.turn rfl fun m hm hb hu h0 h9 => by
 refine ⟨hu, rfl, ?_⟩
 unfold Sp.setT
 dsimp only
 by_cases e : m = n
 ·subst e
  rw [upd_same]
  exact ht hb h0 h9
 ·rw [upd_ne _ _ e]
  exact ⟨h0, h9, rfl⟩
theorem Seen.free (h : Seen b q) (h16 : q.st.length = 16) (n : Nat) (hn : n < 16) (hb : b n ∨ (q.thr n).why = 0 ∨ (q.thr n).why = 9) : Seen b (q.free n) := h.turn rfl fun m hm hbm hu h0 h9 => by
 have hne : m ≠ n := fun e => by
  subst e
  rcases hb with hb | hb | hb
  ·exact hbm hb
  ·exact h0 hb
  ·exact h9 hb
 refine ⟨?_, ?_, h0, h9, rfl⟩
 ·show us (freed q.st (q.hnd n)) m = true
  unfold freed
  split
  ·exact hu
  ·rename_i k e
   obtain ⟨e1, e2, e3, e4⟩ := find_some e
   rw [us_put _ _ _ _ _ e3]
   have hk : k = n := by
    unfold Sp.hnd at e2
    by_cases hun : us q.st n = true
    ·rw [if_pos hun] at e2
     exact hd_inj (by omega) hn e2
    ·rw [if_neg hun] at e2
     unfold hd at e2
     omega
   rw [if_neg (by omega)]
   exact hu
 ·show hd (freed q.st (q.hnd n)) m = hd q.st m
  unfold hd
  rw [freed_tk]
theorem Seen.wake1 (h : Seen (fun _ => False) q) (p : Int × Nat) (hp : InR p.1) : Seen (fun _ => False) (q.wake1 p) := by
 obtain ⟨x, v⟩ := p
 have hx : x.toNat < 16 := by unfold InR at hp; dsimp only at hp; omega
 dsimp only at hp
 have key : ∀ m, m < 16 → us q.st m = true → q.hnd m = q.hnd x.toNat → m = x.toNat := fun m hm hu e => by
  unfold Sp.hnd at e
  rw [if_pos hu] at e
  split at e
  ·exact hd_inj hm hx e
  ·unfold hd at e; omega
 refine ⟨h.good.snoc fun s e f => ?_, fun y s e f => ?_⟩
 ·obtain ⟨m, h1, h2, h3, h4, h5, h6, h7⟩ := h.last _ s e f
  obtain rfl := key m h1 h3 h4
  exact ⟨rfl, h7, rfl, rfl⟩
 ·rw [show (q.wake1 (x, v)).recs = q.recs ++ [⟨q.hnd x.toNat, (q.thr x.toNat).ins.op, 0, v, 0, true⟩] from rfl, lastR_snoc] at e
  split at e
  ·obtain rfl := Option.some.inj e
   cases f
  ·rename_i ne
   obtain ⟨m, h1, h2, h3, h4, h5⟩ := h.last y s e f
   refine ⟨m, h1, id, h3, h4, ?_⟩
   have hne : m ≠ x.toNat := fun e => ne (by rw [← h4, e])
   show (upd q.thr x.toNat _ m).why ≠ 0 ∧ (upd q.thr x.toNat _ m).why ≠ 9 ∧ (upd q.thr x.toNat _ m).ins.op = s.op
   rw [upd_ne _ _ hne]
   exact h5
end
theorem Seen.wake : ∀ (l : List (Int × Nat)) {q : Sp} (h : Seen (fun _ => False) q) (hl : ∀ p ∈ l, InR p.1), Seen (fun _ => False) (q.wake l)
 | [], q, h, _ => h
 | p :: l, q, h, hl => Seen.wake l (h.wake1 p (hl p (List.mem_cons_self ..))) (fun x hx => hl x (List.mem_cons_of_mem _ hx))
section
variable {q : Sp} {n : Nat}
theorem Seen.fin (h : Seen (· = n) q) (hn : n < 16) (h16 : q.st.length = 16) (hj : InR (q.thr n).joiner) (v : Nat) : Seen (fun _ => False) (q.fin n v).1 := by
 unfold Sp.fin
 split
 ·exact (h.free h16 n hn (.inl rfl)).end_
 split
 ·exact Seen.wake _ (h.free h16 n hn (.inl rfl)).end_ (fun p hp => by rw [List.mem_singleton] at hp; rw [hp]; exact hj)
 ·exact (h.setT n _ fun hb => absurd rfl hb).end_
end
section
variable {q : Sp} {n : Nat}
theorem Seen.done (h : Seen (fun _ => False) q) (W : q.Well) (k : Int) : Seen (fun _ => False) (q.done k).1 := by
 unfold Sp.done
 split
 ·exact h
 ·rename_i hl
  refine Seen.wake _ (h.turn (q' := { q with blocks := _, asked := _ }) rfl fun m _ _ hu h0 h9 => ⟨hu, rfl, h0, h9, rfl⟩) fun p hp => ?_
  rw [List.mem_singleton] at hp
  rw [hp]
  exact in_at (p := fun r : Rq => InR r.who) W.ain zero_inR _
end
open Go Go.RowKit
theorem fresh_eq (p : Prg) : Sp.fresh p = ({ Sp.blank p with tubes := p.pipes.map fun r => ⟨r, [], [], []⟩, st := taken (Dk.blank 16) } : Sp).setT 0 (Thr.new 0 0) := rfl
theorem fresh_life {p : Prg} (F : Fits p) : Life 0 (Sp.fresh p) := by
 rw [fresh_eq]
 refine Life.setT (q := { Sp.blank p with tubes := p.pipes.map fun r => ⟨r, [], [], []⟩, st := taken (Dk.blank 16) }) ?_ 0 (ThrOk.new 0 (by unfold i64; omega) 0 (by omega))
 refine ⟨fun m => ⟨⟨0, by omega, rfl⟩, zero_inR, ⟨⟨by show _ ≤ (0 : Int); omega, by show (0 : Int) ≤ _; omega⟩, ⟨by show _ ≤ (0 : Int); omega, by show (0 : Int) ≤ _; omega⟩, fun k => by show (0 : Nat) < _; omega⟩, by show (0 : Nat) < _; omega⟩, fun t ht => ?_, fun r hr => absurd hr (by simp [Sp.blank]), by simp [Sp.blank], fun x hx => absurd hx (by simp [Sp.blank, keysOf]), by simp [Sp.blank], fun x hx => ?_, fun x hx => ?_⟩
 ·obtain ⟨r, _, rfl⟩ := List.mem_map.1 ht
  exact ⟨⟨by simp, by simp, by simp⟩, fun x hx => absurd hx (by simp), fun x hx => absurd hx (by simp), fun x hx => absurd hx (by simp)⟩
 ·rw [(List.mem_replicate.1 hx).2]; omega
 ·rw [(List.mem_replicate.1 hx).2]; omega
theorem fresh_born {p : Prg} (F : Fits p) (hc : ∀ c ∈ p.funcs, ∀ i ∈ c, i.ok) : Born (Sp.fresh p) := by
 refine ⟨fun c h => ⟨by have := F.cl c h; omega, fun i hi => insFit F (start_len p F) (by rw [fresh_eq]; simp [Sp.setT]) (hc c h i hi) (F.snd c h i hi)⟩, ?_, ?_, ?_⟩
 ·rw [fresh_eq]
  have := F.wd
  simp [Sp.setT, Sp.blank]
  omega
 ·rw [fresh_eq]
  have := Go.Proofs.YtglhhlfopccmaaaGreat.Dk.blocks_le p.blocks
  simp [Sp.setT, Sp.blank]
  omega
 ·rfl
end Dk
namespace Go.Proofs.YtglhhlfopccmaaaGreat
open Go.RowKit Go.Lib
section
variable {W w w' : World} {us : List Dk.Thing}
theorem NewC_yes {B : Nat} (h : Dk.Sep W w us) (s : Dk.Sh) (p : Dk.Prg) (hp : Dk.PrgAt B w s p) (hB : B ≤ w.heap.size) (hk : Dk.check p = 0) :
  Calls Tryz.prog 12 #[Dk.pv s p] w fun e w' => ∃ L : Dk.Loc, e = .returned (.tuple #[.pointer (some ⟨L.b, 0, none⟩), .int .i64 0]) ∧ Lives W w' L (Dk.Sp.fresh p) (Dk.Sp.fresh p) 0 1 0 us := by
 have F := Dk.fits_check hk
 refine (NewC_t s p w hp hB hk ⟨F.fl, F.cl, F.wd.1, F.wd.2, F.pp⟩).mono ?_
 rintro e w' ⟨L, rfl, hC⟩
 exact ⟨L, rfl, Cor.rebase h hC, Dk.fresh_life F, Dk.Dims.refl _, by simp [Dk.fresh_eq, Dk.Sp.setT, Dk.Sp.blank]⟩
theorem born_of {B : Nat} {s : Dk.Sh} {p : Dk.Prg} (hp : Dk.PrgAt B w s p) (hk : Dk.check p = 0) : Dk.Born (Dk.Sp.fresh p) := Dk.fresh_born (Dk.fits_check hk) hp.funcs.oks
end
end Go.Proofs.YtglhhlfopccmaaaGreat
namespace Dk
open Go Go.RowKit
theorem SlN.of_box {B : Nat} {w : World} {b : Nat} {xs : List Ins} {t : TypeId} (h : Box w b (xs.flatMap Ins.cells).toArray t) (hb : b < B) (hl : xs.length ≤ 1000) (ok : ∀ x ∈ xs, x.ok) : SlN B w (some ⟨b, 0, none⟩) xs.length xs.length xs := by
 refine ⟨rfl, Nat.le_refl _, by unfold maxLen; omega, ok, fun _ => ⟨b, 0, rfl, hb, fun k hk => ?_⟩⟩
 have hx : xs[k]? = some xs[k] := List.getElem?_eq_getElem hk
 have key : ∀ r, r < 5 → w.cell? ⟨b, 0 + k * 5 + r, none⟩ = (xs[k]).cells[r]? := fun r hr => by
  rw [Nat.zero_add, h.cell, List.getElem?_toArray]
  exact flat_get Ins.len xs k r _ hx hr
 rw [List.getD_eq_getElem?_getD, hx]
 exact ⟨key 0 (by omega), key 1 (by omega), key 2 (by omega), key 3 (by omega), key 4 (by omega)⟩
theorem SlI.of_box {B : Nat} {w : World} {b : Nat} {xs : List Int} {t : TypeId} (h : Box w b (is xs).toArray t) (hb : b < B) (hl : xs.length ≤ 1000) (ok : ∀ x ∈ xs, i64 x) : SlI B w (some ⟨b, 0, none⟩) xs.length xs.length xs := by
 refine ⟨rfl, Nat.le_refl _, by unfold maxLen; omega, ok, fun _ => ⟨b, 0, rfl, hb, fun k hk => ?_⟩⟩
 rw [Nat.zero_add, h.cell, List.getElem?_toArray, List.getD_eq_getElem?_getD, List.getElem?_eq_getElem hk]
 simp [is, hk]
end Dk
namespace Go.Proofs.YtglhhlfopccmaaaGreat
open Go.RowKit Go.Lib
def twoP (a b : List Dk.Ins) : Dk.Prg := ⟨[a, b], 4, 1, 1, [0], [1], 2, 0⟩
section
variable {W w w' : World} {us : List Dk.Thing}
theorem two_any {B : Nat} {A1 A2 : Option Addr} {L1 C1 L2 C2 : Nat} {a b : List Dk.Ins} (w : World) (hB : B ≤ w.heap.size) (h1 : Dk.SlN B w A1 L1 C1 a) (h2 : Dk.SlN B w A2 L2 C2 b) :
  Calls Tryz.prog 52 #[.slice A1 L1 C1, .slice A2 L2 C2] w fun e w' => ∃ s : Dk.Sh, e = .returned (Dk.pv s (twoP a b)) ∧ Dk.PrgAt w'.heap.size w' s (twoP a b) ∧ Below w.heap.size w w' := by
 obtain ⟨W1, e1⟩ : ∃ W1, W1 = w.alloc (.cells #[.slice none 0 0, .int .i64 0, .int .i64 0, .int .i64 0, .slice none 0 0, .slice none 0 0, .int .i64 0, .int .i64 0] 25) := ⟨_, rfl⟩
 obtain ⟨W2, e2⟩ : ∃ W2, W2 = W1.alloc (.cells #[.slice A1 L1 C1, .slice A2 L2 C2] 123) := ⟨_, rfl⟩
 obtain ⟨W3, e3⟩ : ∃ W3, W3 = W2.alloc (.cells #[.int .i64 0] 3) := ⟨_, rfl⟩
 obtain ⟨W4, e4⟩ : ∃ W4, W4 = W3.alloc (.cells #[.int .i64 1] 3) := ⟨_, rfl⟩
 have s4 := ((((Dk.Sep.begin (Below.refl w.heap.size w)).newBox e1).newBox e2).newBox e3).newBox e4
 have z1 : W1.heap.size = w.heap.size + 1 := by rw [e1]; simp
 have z2 : W2.heap.size = w.heap.size + 1 + 1 := by rw [e2]; simp [z1]
 have z3 : W3.heap.size = w.heap.size + 1 + 1 + 1 := by rw [e3]; simp [z2]
 have z4 : W4.heap.size = w.heap.size + 1 + 1 + 1 + 1 := by rw [e4]; simp [z3]
 have H1 : Hid _ := e1.symm
 have H2 : Hid _ := e2.symm
 have H3 : Hid _ := e3.symm
 have H4 : Hid _ := e4.symm
 rw [z1, z2, z3] at s4
 have HS : Hid (Dk.Sep w W4 _) := s4
 have HZ : Hid (W4.heap.size = w.heap.size + 1 + 1 + 1 + 1) := z4
 have b0 : Dk.Box W4 w.heap.size #[.slice none 0 0, .int .i64 0, .int .i64 0, .int .i64 0, .slice none 0 0, .slice none 0 0, .int .i64 0, .int .i64 0] 25 := s4.box (by simp)
 have HB : Hid _ := b0
 obtain ⟨PC, ePC⟩ : ∃ PC : Array Value, PC = #[.slice (some ⟨w.heap.size + 1, 0, none⟩) 2 2, .int .i64 4, .int .i64 1, .int .i64 1, .slice (some ⟨w.heap.size + 1 + 1, 0, none⟩) 1 1, .slice (some ⟨w.heap.size + 1 + 1 + 1, 0, none⟩) 1 1, .int .i64 2, .int .i64 0] := ⟨_, rfl⟩
 have s9 : Dk.Sep w (W4.setRow w.heap.size PC) ([Dk.boxOf (w.heap.size + 1 + 1 + 1) #[.int .i64 1] 3, Dk.boxOf (w.heap.size + 1 + 1) #[.int .i64 0] 3, Dk.boxOf (w.heap.size + 1) #[.slice A1 L1 C1, .slice A2 L2 C2] 123] ++ Dk.boxOf w.heap.size PC 25 :: []) :=
  Dk.Sep.turn (us1 := [_, _, _]) (us2 := []) s4 (Dk.Away.rowK (S := (Dk.boxOf w.heap.size #[.slice none 0 0, .int .i64 0, .int .i64 0, .int .i64 0, .slice none 0 0, .slice none 0 0, .int .i64 0, .int .i64 0] 25).own) (Dk.Away.refl _ _) (.inl rfl) _) b0.row (fun k hk => .inl hk)
 have hz9 : (W4.setRow w.heap.size PC).heap.size = w.heap.size + 1 + 1 + 1 + 1 := by rw [← z4]; simp [World.setRow]
 have u9 := s9.out
 have bx0 := s9.box (b := w.heap.size) (cs := PC) (t := 25) (by simp)
 have bx1 := s9.box (b := w.heap.size + 1) (cs := #[.slice A1 L1 C1, .slice A2 L2 C2]) (t := 123) (by simp)
 have bx2 := s9.box (b := w.heap.size + 1 + 1) (cs := #[.int .i64 0]) (t := 3) (by simp)
 have bx3 := s9.box (b := w.heap.size + 1 + 1 + 1) (cs := #[.int .i64 1]) (t := 3) (by simp)
 have fin : Dk.PrgAt (W4.setRow w.heap.size PC).heap.size (W4.setRow w.heap.size PC) ⟨some ⟨w.heap.size + 1, 0, none⟩, 2, 2, some ⟨w.heap.size + 1 + 1, 0, none⟩, 1, 1, some ⟨w.heap.size + 1 + 1 + 1, 0, none⟩, 1, 1⟩ (twoP a b) := by
  have g1 := (h1.below u9 hB).more (B' := (W4.setRow w.heap.size PC).heap.size) (by omega)
  have g2 := (h2.below u9 hB).more (B' := (W4.setRow w.heap.size PC).heap.size) (by omega)
  have q2 := Dk.SlI.of_box (B := (W4.setRow w.heap.size PC).heap.size) (xs := [0]) bx2 (by omega) (by simp) (by simp [Dk.i64])
  have q3 := Dk.SlI.of_box (B := (W4.setRow w.heap.size PC).heap.size) (xs := [1]) bx3 (by omega) (by simp) (by simp [Dk.i64])
  refine ⟨⟨rfl, Nat.le_refl _, by unfold maxLen; show 2 ≤ _; omega, fun _ => ⟨w.heap.size + 1, 0, rfl, by omega, fun k hk => ?_⟩⟩, q2, q3, by unfold Dk.i64; simp [twoP], by unfold Dk.i64; simp [twoP], by unfold Dk.i64; simp [twoP], by unfold Dk.i64; simp [twoP], by unfold Dk.i64; simp [twoP]⟩
  have hk' : k = 0 ∨ k = 1 := by have : k < 2 := hk; omega
  rcases hk' with rfl | rfl
  ·exact ⟨A1, L1, C1, by rw [bx1.cell]; rfl, g1⟩
  ·exact ⟨A2, L2, C2, by rw [bx1.cell]; rfl, g2⟩
 have FIN : Hid (Dk.PrgAt (W4.setRow w.heap.size PC).heap.size (W4.setRow w.heap.size PC) ⟨some ⟨w.heap.size + 1, 0, none⟩, 2, 2, some ⟨w.heap.size + 1 + 1, 0, none⟩, 1, 1, some ⟨w.heap.size + 1 + 1 + 1, 0, none⟩, 1, 1⟩ (twoP a b)) := fin
 have HU9 : Hid (Below w.heap.size w (W4.setRow w.heap.size PC)) := u9
 have d9 := bx0.cell
 have hall : PC.all (·.oneCell') = true := by rw [ePC]; simp [Value.oneCell']
 have hsz : (Tryz.prog.info? 25).map (·.size) = some PC.size := by rw [ePC]; exact sizePrg
 have hold : (#[.slice none 0 0, .int .i64 0, .int .i64 0, .int .i64 0, .slice none 0 0, .slice none 0 0, .int .i64 0, .int .i64 0] : Array Value).size = PC.size := by rw [ePC]; rfl
 have EP : Hid _ := ePC
 have HA : Hid (PC.all (·.oneCell') = true) := hall
 have HSZ : Hid ((Tryz.prog.info? 25).map (·.size) = some PC.size) := hsz
 have HOL : Hid ((#[.slice none 0 0, .int .i64 0, .int .i64 0, .int .i64 0, .slice none 0 0, .slice none 0 0, .int .i64 0, .int .i64 0] : Array Value).size = PC.size) := hold
 clear hall hsz hold
 generalize hWX : W4.setRow w.heap.size PC = WX at *
 have HWX : Hid (W4.setRow w.heap.size PC = WX) := hWX
 clear e1 e2 e3 e4 z4 s4 b0 s9 hz9 u9 bx0 bx1 bx2 bx3 fin h1 h2 hB hWX ePC
 go_enter Tryz.func52, Tryz.ntmps52
 go_wp2_with (first | (rw [H1.out]; clear H1) | (rw [H2.out]; clear H2) | (rw [H3.out]; clear H3) | (rw [H4.out]; clear H4) | (refine wpList_store_row rfl 25 _ _ rfl w.heap.size PC rfl (by rw [EP.out]; rfl) 25 _ HB.out.heap HSZ.out HOL.out HA.out ?_; rw [HWX.out]))
 have dd := d9
 rw [EP.out] at dd
 exact bodyPost_ret (v := .agg #[.slice (some ⟨w.heap.size + 1, 0, none⟩) 2 2, .int .i64 4, .int .i64 1, .int .i64 1, .slice (some ⟨w.heap.size + 1 + 1, 0, none⟩) 1 1, .slice (some ⟨w.heap.size + 1 + 1 + 1, 0, none⟩) 1 1, .int .i64 2, .int .i64 0]) (by simp [results, Tryz.results52, go_sem, dd]) rfl ⟨⟨some ⟨w.heap.size + 1, 0, none⟩, 2, 2, some ⟨w.heap.size + 1 + 1, 0, none⟩, 1, 1, some ⟨w.heap.size + 1 + 1 + 1, 0, none⟩, 1, 1⟩, rfl, FIN.out, HU9.out⟩
end
theorem copy_big {ty e : TypeId} {z : Value} {s bytes : Nat} (K : Dk.SlK Tryz.prog ty e z s bytes) (hn : ∀ w, (Builtin.append_ #[ty, ty] ty #[.slice none 0 0, .slice none 0 0]).run Tryz.prog w = .ok (.slice none 0 0) w) (B : Nat) (v : Value) (n : Nat) (xs : List Value) (w : World) (h : w.ownsRow B e s v n xs) (h1 : ∀ u ∈ xs, u.oneCell' = true) (hl : n ≤ 90000) :
  ∃ v' w', (Builtin.append_ #[ty, ty] ty #[.slice none 0 0, v]).run Tryz.prog w = .ok v' w' ∧ w'.ownsRow w.heap.size e s v' n xs ∧ Below w.heap.size w w' := by
 obtain ⟨hx, ⟨rfl, h0⟩ | ⟨g, cap, cur, rfl, hb, hg, hn, hm, hs, ht⟩⟩ := id h
 ·subst h0
  obtain rfl : xs = [] := List.eq_nil_of_length_eq_zero (by simpa using hx)
  exact ⟨_, w, hn w, World.ownsRow_nil _ _ _ _, Below.refl _ _⟩
 ·obtain ⟨v', w', hr, ho, hg, _, _⟩ := K.append w.heap.size ty (.slice none 0 0) [] 0 w (World.ownsRow_nil _ _ _ _) ⟨g, 0, none⟩ n cap xs hx (h.cells (g := g) rfl) h1 (by omega) (Nat.le_refl _)
  rw [Nat.zero_add, List.nil_append] at ho
  exact ⟨v', w', hr, ho, ⟨hg.os, hg.tape, hg.output, hg.size, fun k hk => hg.block k hk (by simp [Value.ownBlock])⟩⟩
theorem nilsRec (w : World) : (Builtin.append_ #[49, 49] 49 #[.slice none 0 0, .slice none 0 0]).run Tryz.prog w = .ok (.slice none 0 0) w := by
 obtain ⟨i0, hi0, _, _, _⟩ := info_parts infoRec
 simp [Builtin.append_, run_underlying Tryz.underlying49, sizeOf, typeInfo, hi0, Builtin.lenOf, run_firstCells_none, go_sem]
section
variable {W w w' : World} {L : Dk.Loc} {q : Dk.Sp} {k n : Nat} {us us' us1 us2 : List Dk.Thing} {t : Dk.Thing}
theorem Records_nil (w : World) : Calls Tryz.prog 25 #[.pointer none] w fun e w' => e = .returned (.slice none 0 0) ∧ w' = w := by
 go_enter Tryz.func25, Tryz.ntmps25
 go_wp2
 go_ret
 exact ⟨rfl, rfl⟩
theorem Memory_nil (w : World) : Calls Tryz.prog 27 #[.pointer none] w fun e w' => e = .returned (.slice none 0 0) ∧ w' = w := by
 go_enter Tryz.func27, Tryz.ntmps27
 go_wp2
 go_ret
 exact ⟨rfl, rfl⟩
theorem Records_any (h : Cor W w L q k us) (hl : q.recs.length ≤ 90000) :
  Calls Tryz.prog 25 #[.pointer (some ⟨L.b, 0, none⟩)] w fun e w' => ∃ A C, e = .returned (.slice A q.recs.length C) ∧ Cor W w' L q k (Dk.rowOf 74 6 (.slice A q.recs.length C) q.recs.length (q.recs.flatMap Dk.Rec.cells) :: us) := by
 obtain ⟨vm, vr, hb, hm, hr⟩ := h.head
 have c334 : w.cell? ⟨L.b, 334, none⟩ = some vr := by rw [hb.cell, List.getElem?_toArray]; exact Dk.body_tail L q.thr vm vr (j := 4)
 obtain ⟨v', w', hrun, ho, hu⟩ := copy_big KRec nilsRec W.heap.size vr _ _ w hr (Dk.flat_all rec_one _) hl
 obtain ⟨A, C, ev, _, _⟩ := Dk.owns_slice hr
 obtain ⟨A', C', ev', _, _⟩ := Dk.owns_slice ho
 subst ev ev'
 have h2 := h.addRow hu ho
 generalize q.recs.length = n at *
 generalize q.recs.flatMap Dk.Rec.cells = xs at *
 clear hb hm hr h ho hu hl
 go_enter Tryz.func25, Tryz.ntmps25
 go_wp2_with (at_builtin; refine Lib.wpList_append_run _ rfl _ _ _ _ rfl _ _ rfl rfl _ _ hrun ?_)
 go_ret
 exact ⟨A', C', rfl, h2⟩
end
def tcells (hnd : Nat) (t : Dk.Thr) : Array Value := #[.int .u64 (hnd : Nat), .int .i64 t.why, .int .i64 t.f.fn, .int .i64 t.f.pc, .int .u64 (t.f.r 0 : Nat), .int .u64 (t.f.r 1 : Nat), .int .u64 (t.f.r 2 : Nat), .int .u64 (t.f.r 3 : Nat), .int .u64 (t.f.r 4 : Nat), .int .u64 (t.f.r 5 : Nat), .int .u64 (t.f.r 6 : Nat), .int .u64 (t.f.r 7 : Nat), .int .u64 (t.value : Nat)]
def tzero : Array Value := #[.int .u64 0, .int .i64 0, .int .i64 0, .int .i64 0, .int .u64 0, .int .u64 0, .int .u64 0, .int .u64 0, .int .u64 0, .int .u64 0, .int .u64 0, .int .u64 0, .int .u64 0]
theorem sizeThread : (Tryz.prog.info? 41).map (·.size) = some 13 := by kernel_rfl
theorem tcells_all (h : Nat) (t : Dk.Thr) : (tcells h t).all (·.oneCell') = true := by simp [tcells, Value.oneCell']
theorem tzero_all : tzero.all (·.oneCell') = true := by simp [tzero, Value.oneCell']
section
variable {W w w' : World} {L : Dk.Loc} {q : Dk.Sp} {k n : Nat} {us us' us1 us2 : List Dk.Thing} {t : Dk.Thing}
theorem look_any (h : Cor W w L q k us) (hn : n < 16) (hnd : Nat) :
  Calls Tryz.prog 58 #[.pointer (some ⟨L.b, 10 + n * 20, none⟩), .int .u64 (hnd : Nat)] w fun e w' => e = .returned (.agg (tcells hnd (q.thr n))) ∧ Cor W w' L q k us := by
 obtain ⟨W1, e1⟩ : ∃ W1, W1 = w.alloc (.cells tzero 41) := ⟨_, rfl⟩
 have h1 := (h.newBox e1).below (Dk.up_drew (Below.refl _ _))
 have b1 : Dk.Box W1.drew w.heap.size tzero 41 := h1.box (by simp)
 have c : ∀ j, j < 20 → W1.drew.cell? ⟨L.b, 10 + n * 20 + j, none⟩ = (q.thr n).cells[j]? := fun j hj => h1.cellAt hn j hj
 have HS : Hid (Dk.Box W1.drew w.heap.size tzero 41 ∧ ∀ j, j < 20 → W1.drew.cell? ⟨L.b, 10 + n * 20 + j, none⟩ = (q.thr n).cells[j]?) := ⟨b1, c⟩
 have h2 := (h1.setRow (cs' := tcells hnd (q.thr n)) rfl).drop
 have hlt : w.heap.size ≠ L.b := by have := h.lt; omega
 have d0 := (b1.row (cs' := tcells hnd (q.thr n))).cell
 have H1 : Hid (w.alloc (.cells #[.int .u64 0, .int .i64 0, .int .i64 0, .int .i64 0, .int .u64 0, .int .u64 0, .int .u64 0, .int .u64 0, .int .u64 0, .int .u64 0, .int .u64 0, .int .u64 0, .int .u64 0] 41) = W1) := e1.symm
 have H2 : Hid (Cor W (W1.drew.setRow w.heap.size (tcells hnd (q.thr n))) L q k us) := h2
 have D0 : Hid _ := d0
 clear h h1 e1 b1 c h2 d0
 generalize et : q.thr n = th at *
 have ET : Hid _ := et
 clear et
 go_enter Tryz.func58, Tryz.ntmps58
 go_wp2_with (rw [H1.out]; clear H1)
 refine Dk.wp_region_line (S := fun w' => ∀ j, j < 20 → w'.cell? ⟨L.b, 10 + n * 20 + j, none⟩ = th.cells[j]?) [0, 1, 2, 3, 4, 5, 6, 7, 8, 9, 10, 11, 12, 13, 14, 15, 16, 17, 18, 19, 20, 21, 22, 23, 24] [25] (by kernel_rfl) (by kernel_rfl) HS.out.2 ?_
 refine Dk.held_step (v := .int .u64 (hnd : Nat)) rfl rfl (fun w' hw' => by go_simp) ?_
 simp only [Act.put, zA, zB, zC]
 refine Dk.held_step (v := .pointer (some ⟨L.b, 10 + n * 20, none⟩)) rfl rfl (fun w' hw' => by go_simp) ?_
 simp only [Act.put, zA, zB, zC]
 refine Dk.held_step (v := .pointer (some ⟨L.b, 10 + n * 20, none⟩)) rfl rfl (fun w' hw' => by go_simp) ?_
 simp only [Act.put, zA, zB, zC]
 refine Dk.held_step (v := .pointer (some ⟨L.b, 10 + n * 20 + 10, none⟩)) rfl rfl (fun w' hw' => by go_simp) ?_
 simp only [Act.put, zA, zB, zC]
 refine Dk.held_step (v := .int .i64 th.why) rfl rfl (fun w' hw' => by have c : w'.cell? ⟨L.b, 10 + n * 20 + 10, none⟩ = some (.int .i64 th.why) := hw' 10 (by omega); clear hw'; go_simp) ?_
 simp only [Act.put, zA, zB, zC]
 refine Dk.held_step (v := .pointer (some ⟨L.b, 10 + n * 20, none⟩)) rfl rfl (fun w' hw' => by go_simp) ?_
 simp only [Act.put, zA, zB, zC]
 refine Dk.held_step (v := .pointer (some ⟨L.b, 10 + n * 20, none⟩)) rfl rfl (fun w' hw' => by go_simp) ?_
 simp only [Act.put, zA, zB, zC]
 refine Dk.held_step (v := .pointer (some ⟨L.b, 10 + n * 20, none⟩)) rfl rfl (fun w' hw' => by go_simp) ?_
 simp only [Act.put, zA, zB, zC]
 refine Dk.held_step (v := .pointer (some ⟨L.b, 10 + n * 20, none⟩)) rfl rfl (fun w' hw' => by go_simp) ?_
 simp only [Act.put, zA, zB, zC]
 refine Dk.held_step (v := .int .i64 th.f.fn) rfl rfl (fun w' hw' => by have c : w'.cell? ⟨L.b, 10 + n * 20, none⟩ = some (.int .i64 th.f.fn) := hw' 0 (by omega); clear hw'; go_simp) ?_
 simp only [Act.put, zA, zB, zC]
 refine Dk.held_step (v := .pointer (some ⟨L.b, 10 + n * 20, none⟩)) rfl rfl (fun w' hw' => by go_simp) ?_
 simp only [Act.put, zA, zB, zC]
 refine Dk.held_step (v := .pointer (some ⟨L.b, 10 + n * 20, none⟩)) rfl rfl (fun w' hw' => by go_simp) ?_
 simp only [Act.put, zA, zB, zC]
 refine Dk.held_step (v := .pointer (some ⟨L.b, 10 + n * 20, none⟩)) rfl rfl (fun w' hw' => by go_simp) ?_
 simp only [Act.put, zA, zB, zC]
 refine Dk.held_step (v := .pointer (some ⟨L.b, 10 + n * 20 + 1, none⟩)) rfl rfl (fun w' hw' => by go_simp) ?_
 simp only [Act.put, zA, zB, zC]
 refine Dk.held_step (v := .int .i64 th.f.pc) rfl rfl (fun w' hw' => by have c : w'.cell? ⟨L.b, 10 + n * 20 + 1, none⟩ = some (.int .i64 th.f.pc) := hw' 1 (by omega); clear hw'; go_simp) ?_
 simp only [Act.put, zA, zB, zC]
 refine Dk.held_step (v := .pointer (some ⟨L.b, 10 + n * 20, none⟩)) rfl rfl (fun w' hw' => by go_simp) ?_
 simp only [Act.put, zA, zB, zC]
 refine Dk.held_step (v := .pointer (some ⟨L.b, 10 + n * 20, none⟩)) rfl rfl (fun w' hw' => by go_simp) ?_
 simp only [Act.put, zA, zB, zC]
 refine Dk.held_step (v := .pointer (some ⟨L.b, 10 + n * 20, none⟩)) rfl rfl (fun w' hw' => by go_simp) ?_
 simp only [Act.put, zA, zB, zC]
 refine Dk.held_step (v := .pointer (some ⟨L.b, 10 + n * 20 + 2, none⟩)) rfl rfl (fun w' hw' => by go_simp) ?_
 simp only [Act.put, zA, zB, zC]
 refine Dk.held_step (v := .agg #[.int .u64 (th.f.r 0 : Nat), .int .u64 (th.f.r 1 : Nat), .int .u64 (th.f.r 2 : Nat), .int .u64 (th.f.r 3 : Nat), .int .u64 (th.f.r 4 : Nat), .int .u64 (th.f.r 5 : Nat), .int .u64 (th.f.r 6 : Nat), .int .u64 (th.f.r 7 : Nat)]) rfl rfl (fun w' hw' => by have c0 : w'.cell? ⟨L.b, 10 + n * 20 + 2, none⟩ = some (.int .u64 (th.f.r 0 : Nat)) := hw' 2 (by omega); have c1 : w'.cell? ⟨L.b, 10 + n * 20 + 2 + 1, none⟩ = some (.int .u64 (th.f.r 1 : Nat)) := hw' 3 (by omega); have c2 : w'.cell? ⟨L.b, 10 + n * 20 + 2 + 2, none⟩ = some (.int .u64 (th.f.r 2 : Nat)) := hw' 4 (by omega); have c3 : w'.cell? ⟨L.b, 10 + n * 20 + 2 + 3, none⟩ = some (.int .u64 (th.f.r 3 : Nat)) := hw' 5 (by omega); have c4 : w'.cell? ⟨L.b, 10 + n * 20 + 2 + 4, none⟩ = some (.int .u64 (th.f.r 4 : Nat)) := hw' 6 (by omega); have c5 : w'.cell? ⟨L.b, 10 + n * 20 + 2 + 5, none⟩ = some (.int .u64 (th.f.r 5 : Nat)) := hw' 7 (by omega); have c6 : w'.cell? ⟨L.b, 10 + n * 20 + 2 + 6, none⟩ = some (.int .u64 (th.f.r 6 : Nat)) := hw' 8 (by omega); have c7 : w'.cell? ⟨L.b, 10 + n * 20 + 2 + 7, none⟩ = some (.int .u64 (th.f.r 7 : Nat)) := hw' 9 (by omega); clear hw'; go_simp) ?_
 simp only [Act.put, zA, zB, zC]
 refine Dk.held_step (v := .pointer (some ⟨L.b, 10 + n * 20, none⟩)) rfl rfl (fun w' hw' => by go_simp) ?_
 simp only [Act.put, zA, zB, zC]
 refine Dk.held_step (v := .pointer (some ⟨L.b, 10 + n * 20, none⟩)) rfl rfl (fun w' hw' => by go_simp) ?_
 simp only [Act.put, zA, zB, zC]
 refine Dk.held_step (v := .pointer (some ⟨L.b, 10 + n * 20 + 16, none⟩)) rfl rfl (fun w' hw' => by go_simp) ?_
 simp only [Act.put, zA, zB, zC]
 refine Dk.held_step (v := .int .u64 (th.value : Nat)) rfl rfl (fun w' hw' => by have c : w'.cell? ⟨L.b, 10 + n * 20 + 16, none⟩ = some (.int .u64 (th.value : Nat)) := hw' 16 (by omega); clear hw'; go_simp) ?_
 simp only [Act.put, zA, zB, zC]
 refine Dk.held_step (v := .agg (tcells hnd th)) rfl rfl (fun w' hw' => by unfold tcells; go_simp) ?_
 simp only [Act.put, zA, zB, zC]
 refine Dk.line_step rfl rfl ?_
 refine wp_store_row 41 _ _ rfl w.heap.size (tcells hnd th) rfl rfl 41 _ HS.out.1.heap sizeThread rfl (tcells_all _ _) ⟨?_, ?_⟩
 ·intro j hj
  have := H2.out.cellAt hn j hj
  rw [ET.out] at this
  exact this
 show NoPanic _ Exit.normal _ _
 refine NoPanic.normal ?_
 simp only [Act.put, zA, zB, zC]
 rename_i hK
 refine hK _ _ ?_
 clear hK
 go_wp2_with fail
 have d0 := D0.out
 have h2 := H2.out
 clear D0 H2
 generalize W1.drew.setRow w.heap.size (tcells hnd th) = WX at *
 unfold tcells at d0
 exact bodyPost_ret (v := .agg (tcells hnd th)) (by simp [results, Tryz.results58, go_sem, d0, tcells]) rfl ⟨rfl, h2⟩
end
section
variable {W w w' : World} {L : Dk.Loc} {q : Dk.Sp} {k n : Nat} {us us' us1 us2 : List Dk.Thing} {t : Dk.Thing}
theorem Look_nil (j : Int) (w : World) : Calls Tryz.prog 17 #[.pointer none, .int .i64 j] w fun e w' => e = .returned (.tuple #[.agg tzero, .bool false]) ∧ Below w.heap.size w w' := by
 obtain ⟨W1, e1⟩ : ∃ W1, W1 = w.alloc (.cells #[.int .u64 0, .int .i64 0, .int .i64 0, .int .i64 0, .int .u64 0, .int .u64 0, .int .u64 0, .int .u64 0, .int .u64 0, .int .u64 0, .int .u64 0, .int .u64 0, .int .u64 0] 41) := ⟨_, rfl⟩
 have u1 : Below w.heap.size w W1 := by rw [e1]; exact Dk.up_alloc (Below.refl _ _) _
 have b1 : Dk.Box W1 w.heap.size tzero 41 := by rw [e1]; exact Dk.Box.new _ _ _
 have HB : Hid _ := b1
 have H1 : Hid _ := e1.symm
 have HU : Hid (Below w.heap.size w W1) := u1
 clear e1 u1 b1
 go_enter Tryz.func17, Tryz.ntmps17
 go_wp2_with (first | (rw [H1.out]; clear H1) | (go_at_call 57; refine (thread_nil _ _).mono ?_; rintro e w' ⟨rfl, ew⟩; subst w') | (refine wpList_store_row rfl 41 _ _ rfl w.heap.size tzero rfl rfl 41 _ HB.out.heap sizeThread rfl tzero_all ?_))
 have d0 := (HB.out.row (cs' := tzero)).cell
 have hu := up_rowK HU.out (Nat.le_refl _) tzero
 generalize W1.setRow w.heap.size tzero = WX at *
 unfold tzero at d0
 exact bodyPost_ret (v := .tuple #[.agg tzero, .bool false]) (by simp [results, Tryz.results17, go_sem, d0, tzero]) rfl ⟨rfl, hu⟩
theorem Look_yes (h : Cor W w L q k us) (hk : k ≤ 100000) (hn : n < 16) (hu : Dk.us q.st n = true) : Calls Tryz.prog 17 #[.pointer (some ⟨L.b, 0, none⟩), .int .i64 (n : Int)] w fun e w' => e = .returned (.tuple #[.agg (tcells (q.hnd n) (q.thr n)), .bool true]) ∧ Cor W w' L q k us := by
 obtain ⟨W1, e1⟩ : ∃ W1, W1 = w.alloc (.cells #[.int .u64 0, .int .i64 0, .int .i64 0, .int .i64 0, .int .u64 0, .int .u64 0, .int .u64 0, .int .u64 0, .int .u64 0, .int .u64 0, .int .u64 0, .int .u64 0, .int .u64 0] 41) := ⟨_, rfl⟩
 have h1 := h.newBox e1
 have K1 := thread_yes h1 hk n hn hu
 have K2 := handle_any h1 hk n
 have K3 := look_any h1 hn (q.hnd n)
 have H1 : Hid _ := e1.symm
 clear e1 h h1 hu
 generalize q.hnd n = hd at *
 generalize q.thr n = th at *
 go_enter Tryz.func17, Tryz.ntmps17
 go_wp2_with (first | (rw [H1.out]; clear H1) | (go_at_call 57; refine K1.mono ?_; rintro e w' ⟨rfl, ew⟩; subst w') | (go_at_call 59; refine K2.mono ?_; rintro e w' ⟨rfl, ew⟩; subst w'))
 refine K3.mono ?_
 rintro e w2 ⟨rfl, h2⟩
 have b2 : Dk.Box w2 w.heap.size tzero 41 := h2.box (by simp [tzero])
 have h3 := (h2.setRow (cs' := tcells hd th) rfl).drop
 have d0 := (b2.row (cs' := tcells hd th)).cell
 have HB : Hid _ := b2
 clear K1 K2 K3 b2 h2
 go_wp2_with (refine wpList_store_row rfl 41 _ _ rfl w.heap.size (tcells hd th) rfl rfl 41 _ HB.out.heap sizeThread rfl (tcells_all _ _) ?_)
 generalize w2.setRow w.heap.size (tcells hd th) = WX at *
 unfold tcells at d0
 exact bodyPost_ret (v := .tuple #[.agg (tcells hd th), .bool true]) (by simp [results, Tryz.results17, go_sem, d0, tcells]) rfl ⟨rfl, h3⟩
end
section
variable {W w w' : World} {L : Dk.Loc} {q : Dk.Sp} {k n : Nat} {us us' us1 us2 : List Dk.Thing} {t : Dk.Thing}
theorem Ready_nil (w : World) : Calls Tryz.prog 22 #[.pointer none] w fun e w' => e = .returned (.slice none 0 0) ∧ w' = w := by
 go_enter Tryz.func22, Tryz.ntmps22
 go_wp2
 go_ret
 exact ⟨rfl, rfl⟩
end
end Go.Proofs.YtglhhlfopccmaaaGreat
namespace Dk
open Go Go.RowKit
def awA : List Ins := [⟨20, 1, 0, 0, 1⟩, ⟨21, 2, 1, 0, 0⟩, ⟨38, 2, 0, 0, 0⟩]
def awB : List Ins := [⟨1, 3, 0, 0, 9⟩, ⟨23, 3, 0, 0, 0⟩]
def awP : Prg := Go.Proofs.YtglhhlfopccmaaaGreat.twoP awA awB
def aw0 : Sp := Sp.fresh awP
def aw1 : Sp := (aw0.run 0 0).1
def aw2 : Sp := (aw1.run 0 0).1
def aw3 : Sp := (aw2.run 1 0).1
def aw4 : Sp := (aw3.run 1 0).1
theorem aw_check : check awP = 0 := by decide +kernel
theorem aw_r1 : (aw0.run 0 0).2.1.woken = [1] := by decide +kernel
theorem aw_r2 : (aw1.run 0 0).2.1.stopped = true := by decide +kernel
theorem aw_r4 : (aw3.run 1 0).2.1.ended = true ∧ (aw3.run 1 0).2.1.woken = [0] := by decide +kernel
theorem aw_end : us aw4.st 0 = true ∧ (aw4.thr 0).f.r 2 = 9 ∧ (aw4.thr 0).why = 0 ∧ aw4.recs.length = 4 := by decide +kernel
theorem aw_rec : (aw4.recs.flatMap Rec.cells)[21]? = some (.int .u64 9) ∧ (aw4.recs.flatMap Rec.cells)[23]? = some (.bool true) := ⟨by kernel_rfl, by kernel_rfl⟩
theorem awA_ok : ∀ i ∈ awA, i.ok := by
 intro i hi
 simp [awA] at hi
 rcases hi with rfl | rfl | rfl <;> exact ⟨by unfold i64; decide, by unfold i64; decide, by unfold i64; decide, by unfold i64; decide, by decide⟩
theorem awB_ok : ∀ i ∈ awB, i.ok := by
 intro i hi
 simp [awB] at hi
 rcases hi with rfl | rfl <;> exact ⟨by unfold i64; decide, by unfold i64; decide, by unfold i64; decide, by unfold i64; decide, by decide⟩
end Dk
namespace Go.Proofs.YtglhhlfopccmaaaGreat
open Go.RowKit Go.Lib
theorem lit_one (w w' : World) (x : Int) (hx : Dk.i64 x) (e : w' = w.alloc (.cells #[.int .i64 x] 3)) : Dk.SlI w'.heap.size w' (some ⟨w.heap.size, 0, none⟩) 1 1 [x] := by
 have b6 : Dk.Box w' w.heap.size #[.int .i64 x] 3 := by rw [e]; exact Dk.Box.new _ _ _
 exact ⟨rfl, Nat.le_refl _, by unfold maxLen; omega, fun y hy => by simp at hy; rw [hy]; exact hx, fun _ => ⟨_, 0, rfl, b6.lt, fun k hk => by
  obtain rfl : k = 0 := by omega
  exact b6.cell 0⟩⟩
theorem i64_of (x : Int) (h : -1000000 ≤ x ∧ x ≤ 1000000) : Dk.i64 x := by unfold Dk.i64; omega
section
variable {W w w' : World} {L : Dk.Loc} {q q0 : Dk.Sp} {k N R : Nat} {us us' : List Dk.Thing}
theorem Lives.with (h : Lives W w L q0 q N k R us) (c : Cor W w L q k us → Cor W w' L q k us') : Lives W w' L q0 q N k R us' := ⟨c h.cor, h.life, h.dims, h.recs⟩
theorem awake_any (w : World) : Calls Tryz.prog 14 #[] w fun e w' => e = .returned (.bool true) ∧ Below w.heap.size w w' := by
 obtain ⟨W1, e1⟩ : ∃ W1, W1 = w.alloc (.cells #[.int .i64 20, .int .i64 1, .int .i64 0, .int .i64 0, .int .u64 1, .int .i64 21, .int .i64 2, .int .i64 1, .int .i64 0, .int .u64 0, .int .i64 38, .int .i64 2, .int .i64 0, .int .i64 0, .int .u64 0] 112) := ⟨_, rfl⟩
 obtain ⟨W2, e2⟩ : ∃ W2, W2 = W1.alloc (.cells #[.int .i64 1, .int .i64 3, .int .i64 0, .int .i64 0, .int .u64 9, .int .i64 23, .int .i64 3, .int .i64 0, .int .i64 0, .int .u64 0] 112) := ⟨_, rfl⟩
 have s2 := ((Dk.Sep.begin (Below.refl w.heap.size w)).newBox e1).newBox e2
 have z1 : W1.heap.size = w.heap.size + 1 := by rw [e1]; simp
 have z2 : W2.heap.size = w.heap.size + 1 + 1 := by rw [e2]; simp [z1]
 rw [z1] at s2
 have bA : Dk.Box W2 w.heap.size (Dk.awA.flatMap Dk.Ins.cells).toArray 112 := s2.box (b := w.heap.size) (by simp [Dk.awA, Dk.Ins.cells])
 have bB : Dk.Box W2 (w.heap.size + 1) (Dk.awB.flatMap Dk.Ins.cells).toArray 112 := s2.box (b := w.heap.size + 1) (by simp [Dk.awB, Dk.Ins.cells])
 have K2 := two_any (B := W2.heap.size) W2 (Nat.le_refl _) (Dk.SlN.of_box bA (by omega) (by decide) Dk.awA_ok) (Dk.SlN.of_box bB (by omega) (by decide) Dk.awB_ok)
 have K2' : Calls Tryz.prog 52 #[.slice (some ⟨w.heap.size, 0, none⟩) 3 3, .slice (some ⟨w.heap.size + 1, 0, none⟩) 2 2] W2 fun e w' => ∃ s : Dk.Sh, e = .returned (Dk.pv s Dk.awP) ∧ Dk.PrgAt w'.heap.size w' s Dk.awP ∧ Below W2.heap.size W2 w' := K2
 have HU : Hid (Below w.heap.size w W2) := s2.out
 have H1 : Hid _ := e1.symm
 have H2 : Hid _ := e2.symm
 clear e1 e2 s2 z2 bA bB K2
 go_enter Tryz.func14, Tryz.ntmps14
 go_wp2_with (first | (rw [H1.out]; clear H1) | (rw [H2.out]; clear H2))
 refine K2'.mono ?_
 rintro e w3 ⟨s, rfl, hp, u3⟩
 have s3 : Dk.Sep w w3 [] := Dk.Sep.begin (Dk.up_call HU.out u3)
 have K3 := NewC_yes s3 s Dk.awP hp (Nat.le_refl _) Dk.aw_check
 have HBN : Hid (Dk.Born Dk.aw0) := born_of hp Dk.aw_check
 clear K2' u3 s3 hp z1
 go_wp2_with fail
 refine K3.mono ?_
 rintro e w4 ⟨L, rfl, h4⟩
 have K := run_lives h4 HBN.out (by omega) (by omega) (by omega) 0 (ch := 0) (i64_of _ (by omega))
 have K' : Calls Tryz.prog 28 #[.pointer (some ⟨L.b, 0, none⟩), .int .i64 0, .int .i64 0] w4 fun e w' => ∃ A C, e = .returned (.tuple #[eff A (Dk.aw0.run 0 0).2.1.woken.length C (Dk.aw0.run 0 0).2.1.stopped (Dk.aw0.run 0 0).2.1.ended (Dk.aw0.run 0 0).2.1.yielded, .int .i64 (Dk.aw0.run 0 0).2.2]) ∧ Lives w w' L Dk.aw0 Dk.aw1 1 2 17 (Dk.rowOf 3 1 (.slice A (Dk.aw0.run 0 0).2.1.woken.length C) (Dk.aw0.run 0 0).2.1.woken.length (Dk.is (Dk.aw0.run 0 0).2.1.woken) :: []) := K
 clear K h4
 rw [Dk.aw_r1] at K'
 generalize (Dk.aw0.run 0 0).2.1.stopped = s1 at K'
 generalize (Dk.aw0.run 0 0).2.1.ended = n1 at K'
 generalize (Dk.aw0.run 0 0).2.1.yielded = y1 at K'
 generalize (Dk.aw0.run 0 0).2.2 = r1 at K'
 go_wp2_with fail
 refine K'.mono ?_
 rintro e w5 ⟨A1, C1, rfl, h5⟩
 clear K' K3
 obtain ⟨x5, e5⟩ : ∃ x5, x5 = w5.alloc (.cells #[.slice A1 1 C1, .bool s1, .bool n1, .bool y1] 68) := ⟨_, rfl⟩
 have g5 := h5.with (fun c => c.newBox e5)
 have H5 : Hid (w5.alloc _ = x5) := e5.symm
 generalize hb5 : w5.heap.size = b5 at *
 clear h5 e5
 have K := run_lives g5 HBN.out (by omega) (by omega) (by omega) 0 (ch := 0) (i64_of _ (by omega))
 have K' : Calls Tryz.prog 28 #[.pointer (some ⟨L.b, 0, none⟩), .int .i64 0, .int .i64 0] x5 fun e w' => ∃ A C, e = .returned (.tuple #[eff A (Dk.aw1.run 0 0).2.1.woken.length C (Dk.aw1.run 0 0).2.1.stopped (Dk.aw1.run 0 0).2.1.ended (Dk.aw1.run 0 0).2.1.yielded, .int .i64 (Dk.aw1.run 0 0).2.2]) ∧ Lives w w' L Dk.aw0 Dk.aw2 2 3 34 (Dk.rowOf 3 1 (.slice A (Dk.aw1.run 0 0).2.1.woken.length C) (Dk.aw1.run 0 0).2.1.woken.length (Dk.is (Dk.aw1.run 0 0).2.1.woken) :: Dk.boxOf b5 #[.slice A1 1 C1, .bool s1, .bool n1, .bool y1] 68 :: Dk.rowOf 3 1 (.slice A1 1 C1) 1 (Dk.is [1]) :: []) := K
 clear K g5
 rw [Dk.aw_r2] at K'
 generalize (Dk.aw1.run 0 0).2.1.woken = l2 at K'
 generalize (Dk.aw1.run 0 0).2.1.ended = n2 at K'
 generalize (Dk.aw1.run 0 0).2.1.yielded = y2 at K'
 generalize (Dk.aw1.run 0 0).2.2 = r2 at K'
 go_wp2_with (rw [H5.out]; clear H5)
 refine K'.mono ?_
 rintro e w6 ⟨A2, C2, rfl, h6⟩
 clear K'
 obtain ⟨x6, e6⟩ : ∃ x6, x6 = w6.alloc (.cells #[.slice A2 l2.length C2, .bool true, .bool n2, .bool y2] 68) := ⟨_, rfl⟩
 have g6 := h6.with (fun c => c.newBox e6)
 have H6 : Hid (w6.alloc _ = x6) := e6.symm
 generalize hb6 : w6.heap.size = b6 at *
 clear h6 e6
 have K := run_lives g6 HBN.out (by omega) (by omega) (by omega) 1 (ch := 0) (i64_of _ (by omega))
 have K' : Calls Tryz.prog 28 #[.pointer (some ⟨L.b, 0, none⟩), .int .i64 1, .int .i64 0] x6 fun e w' => ∃ A C, e = .returned (.tuple #[eff A (Dk.aw2.run 1 0).2.1.woken.length C (Dk.aw2.run 1 0).2.1.stopped (Dk.aw2.run 1 0).2.1.ended (Dk.aw2.run 1 0).2.1.yielded, .int .i64 (Dk.aw2.run 1 0).2.2]) ∧ Lives w w' L Dk.aw0 Dk.aw3 3 4 51 (Dk.rowOf 3 1 (.slice A (Dk.aw2.run 1 0).2.1.woken.length C) (Dk.aw2.run 1 0).2.1.woken.length (Dk.is (Dk.aw2.run 1 0).2.1.woken) :: Dk.boxOf b6 #[.slice A2 l2.length C2, .bool true, .bool n2, .bool y2] 68 :: Dk.rowOf 3 1 (.slice A2 l2.length C2) l2.length (Dk.is l2) :: Dk.boxOf b5 #[.slice A1 1 C1, .bool s1, .bool n1, .bool y1] 68 :: Dk.rowOf 3 1 (.slice A1 1 C1) 1 (Dk.is [1]) :: []) := K
 clear K g6
 generalize (Dk.aw2.run 1 0).2.1.woken = l3 at K'
 generalize (Dk.aw2.run 1 0).2.1.stopped = s3 at K'
 generalize (Dk.aw2.run 1 0).2.1.ended = n3 at K'
 generalize (Dk.aw2.run 1 0).2.1.yielded = y3 at K'
 generalize (Dk.aw2.run 1 0).2.2 = r3 at K'
 go_wp2_with (rw [H6.out]; clear H6)
 refine K'.mono ?_
 rintro e w7 ⟨A3, C3, rfl, h7⟩
 have g7 := h7.with (fun c => c.drop)
 clear K' h7
 have K := run_lives g7 HBN.out (by omega) (by omega) (by omega) 1 (ch := 0) (i64_of _ (by omega))
 have K' : Calls Tryz.prog 28 #[.pointer (some ⟨L.b, 0, none⟩), .int .i64 1, .int .i64 0] w7 fun e w' => ∃ A C, e = .returned (.tuple #[eff A (Dk.aw3.run 1 0).2.1.woken.length C (Dk.aw3.run 1 0).2.1.stopped (Dk.aw3.run 1 0).2.1.ended (Dk.aw3.run 1 0).2.1.yielded, .int .i64 (Dk.aw3.run 1 0).2.2]) ∧ Lives w w' L Dk.aw0 Dk.aw4 4 5 68 (Dk.rowOf 3 1 (.slice A (Dk.aw3.run 1 0).2.1.woken.length C) (Dk.aw3.run 1 0).2.1.woken.length (Dk.is (Dk.aw3.run 1 0).2.1.woken) :: Dk.boxOf b6 #[.slice A2 l2.length C2, .bool true, .bool n2, .bool y2] 68 :: Dk.rowOf 3 1 (.slice A2 l2.length C2) l2.length (Dk.is l2) :: Dk.boxOf b5 #[.slice A1 1 C1, .bool s1, .bool n1, .bool y1] 68 :: Dk.rowOf 3 1 (.slice A1 1 C1) 1 (Dk.is [1]) :: []) := K
 clear K g7
 rw [Dk.aw_r4.1, Dk.aw_r4.2] at K'
 generalize (Dk.aw3.run 1 0).2.1.stopped = s4 at K'
 generalize (Dk.aw3.run 1 0).2.1.yielded = y4 at K'
 generalize (Dk.aw3.run 1 0).2.2 = r4 at K'
 go_wp2_with fail
 refine K'.mono ?_
 rintro e w8 ⟨A4, C4, rfl, h8⟩
 clear K'
 obtain ⟨x8, e8⟩ : ∃ x8, x8 = w8.alloc (.cells #[.slice A4 1 C4, .bool s4, .bool true, .bool y4] 68) := ⟨_, rfl⟩
 have g8 := h8.with (fun c => c.newBox e8)
 have H8 : Hid (w8.alloc _ = x8) := e8.symm
 generalize hb8 : w8.heap.size = b8 at *
 clear h8 e8
 obtain ⟨a1, a2, a3, a4⟩ := Dk.aw_end
 have KL := Look_yes (n := 0) g8.cor (by omega) (by omega) a1
 unfold tcells at KL
 generalize Dk.aw4.thr 0 = t at KL a2 a3
 generalize Dk.aw4.hnd 0 = hnd at KL
 rw [a2, a3] at KL
 clear a1 a2 a3
 go_wp2_with (rw [H8.out]; clear H8)
 refine KL.mono ?_
 rintro e w9 ⟨rfl, h9⟩
 clear KL g8
 obtain ⟨x9, e9⟩ : ∃ x9, x9 = w9.alloc (.cells #[.int .u64 (hnd : Nat), .int .i64 0, .int .i64 t.f.fn, .int .i64 t.f.pc, .int .u64 (t.f.r 0 : Nat), .int .u64 (t.f.r 1 : Nat), .int .u64 9, .int .u64 (t.f.r 3 : Nat), .int .u64 (t.f.r 4 : Nat), .int .u64 (t.f.r 5 : Nat), .int .u64 (t.f.r 6 : Nat), .int .u64 (t.f.r 7 : Nat), .int .u64 (t.value : Nat)] 41) := ⟨_, rfl⟩
 have g9 := h9.newBox e9
 have H9 : Hid (w9.alloc _ = x9) := e9.symm
 generalize hb9 : w9.heap.size = b9 at *
 clear h9 e9
 have KR := Records_any g9 (by rw [a4]; omega)
 rw [a4] at KR
 obtain ⟨c1, c2⟩ := Dk.aw_rec
 generalize Dk.aw4.recs.flatMap Dk.Rec.cells = xs at KR c1 c2
 clear g9 a4
 go_wp2_with (rw [H9.out]; clear H9)
 refine KR.mono ?_
 rintro e w10 ⟨A10, C10, rfl, h10⟩
 clear KR
 have u10 := h10.out
 have r10 := h10.row (e := 74) (s := 6) (v := .slice A10 4 C10) (m := 4) (xs := xs) (by simp)
 obtain ⟨g, rfl, hx⟩ : ∃ g, A10 = some ⟨g, 0, none⟩ ∧ ∀ j u, xs[j]? = some u → w10.cell? ⟨g, j, none⟩ = some u := by
  obtain ⟨_, ⟨e0, h0⟩ | ⟨g, cap, cur, e0, hg⟩⟩ := id r10
  ·cases h0
  ·injection e0 with e1 e2 e3
   subst e1
   refine ⟨g, rfl, fun j u hj => ?_⟩
   have := r10.cells (g := g) rfl j u hj
   rw [Addr.add_lit, Nat.zero_add] at this
   exact this
 have c21 := hx 21 _ c1
 have c23 := hx 23 _ c2
 have facts : ∀ w', Below w10.heap.size w10 w' → (∀ o, w'.cell? ⟨b5, o, none⟩ = (#[.slice A1 1 C1, .bool s1, .bool n1, .bool y1] : Array Value)[o]?) ∧ (∀ o, w'.cell? ⟨b6, o, none⟩ = (#[.slice A2 l2.length C2, .bool true, .bool n2, .bool y2] : Array Value)[o]?) ∧ (∀ o, w'.cell? ⟨b8, o, none⟩ = (#[.slice A4 1 C4, .bool s4, .bool true, .bool y4] : Array Value)[o]?) ∧ (∀ o, w'.cell? ⟨b9, o, none⟩ = (#[.int .u64 (hnd : Nat), .int .i64 0, .int .i64 t.f.fn, .int .i64 t.f.pc, .int .u64 (t.f.r 0 : Nat), .int .u64 (t.f.r 1 : Nat), .int .u64 9, .int .u64 (t.f.r 3 : Nat), .int .u64 (t.f.r 4 : Nat), .int .u64 (t.f.r 5 : Nat), .int .u64 (t.f.r 6 : Nat), .int .u64 (t.f.r 7 : Nat), .int .u64 (t.value : Nat)] : Array Value)[o]?) ∧ w'.cell? ⟨g, 21, none⟩ = some (.int .u64 9) ∧ w'.cell? ⟨g, 23, none⟩ = some (.bool true) := fun w' u => by
  have h' := h10.below u
  have hg : g < w10.heap.size := (World.ownsRow.lt r10 g rfl).2
  exact ⟨(h'.box (a := b5) (cs := #[.slice A1 1 C1, .bool s1, .bool n1, .bool y1]) (e := 68) (by simp)).cell, (h'.box (a := b6) (cs := #[.slice A2 l2.length C2, .bool true, .bool n2, .bool y2]) (e := 68) (by simp)).cell, (h'.box (a := b8) (cs := #[.slice A4 1 C4, .bool s4, .bool true, .bool y4]) (e := 68) (by simp)).cell, (h'.box (a := b9) (cs := #[.int .u64 (hnd : Nat), .int .i64 0, .int .i64 t.f.fn, .int .i64 t.f.pc, .int .u64 (t.f.r 0 : Nat), .int .u64 (t.f.r 1 : Nat), .int .u64 9, .int .u64 (t.f.r 3 : Nat), .int .u64 (t.f.r 4 : Nat), .int .u64 (t.f.r 5 : Nat), .int .u64 (t.f.r 6 : Nat), .int .u64 (t.f.r 7 : Nat), .int .u64 (t.value : Nat)]) (e := 41) (by simp)).cell, by rw [u.cell hg]; exact c21, by rw [u.cell hg]; exact c23⟩
 have o5 := h10.row (e := 3) (s := 1) (v := .slice A1 1 C1) (m := 1) (xs := Dk.is [1]) (by simp)
 have o8 := h10.row (e := 3) (s := 1) (v := .slice A4 1 C4) (m := 1) (xs := Dk.is [0]) (by simp)
 have HF : Hid _ := facts
 have HU10 : Hid (Below w.heap.size w w10) := u10
 have i1 := (Dk.owns_ints (xs := [1]) o5 (by simp [Dk.i64]))
 have i0 := (Dk.owns_ints (xs := [0]) o8 (by simp [Dk.i64]))
 obtain ⟨A5, C5, ev5, q5⟩ := i1
 obtain ⟨A8, C8, ev8, q8⟩ := i0
 injection ev5 with ea eb ec
 subst ea ec
 injection ev8 with ea2 eb2 ec2
 subst ea2 ec2
 have q5' : Dk.SlI w10.heap.size w10 A1 1 C1 [1] := q5
 have q8' : Dk.SlI w10.heap.size w10 A4 1 C4 [0] := q8
 clear h10 u10 r10 hx c1 c2 o5 o8 q5 q8 eb eb2 c21 c23 facts
 obtain ⟨w11, e11⟩ : ∃ w11, w11 = w10.alloc (.cells #[.int .i64 1] 3) := ⟨_, rfl⟩
 have u11 : Below w10.heap.size w10 w11 := by rw [e11]; exact Dk.up_alloc (Below.refl _ _) _
 have K11 := Ints_same A1 (some ⟨w10.heap.size, 0, none⟩) 1 C1 1 [1] w11 ((q5'.below u11 (Nat.le_refl _)).more u11.size) (lit_one w10 w11 1 (i64_of _ (by omega)) e11)
 have H11 : Hid _ := e11.symm
 have HU11 : Hid (Below w10.heap.size w10 w11) := u11
 have HQ8 : Hid (Dk.SlI w10.heap.size w10 A4 1 C4 [0]) := q8'
 obtain ⟨f5, f6, f8, f9, f21, f23⟩ := HF.out w10 (Below.refl _ _)
 clear q5' q8' u11
 clear e11
 go_wp2_with (rw [H11.out]; clear H11)
 refine K11.mono ?_
 rintro e w12 ⟨rfl, u12⟩
 have u12' := Dk.up_call HU11.out u12
 have HU12 : Hid (Below w10.heap.size w10 w12) := u12'
 obtain ⟨w13, e13⟩ : ∃ w13, w13 = w12.alloc (.cells #[.int .i64 0] 3) := ⟨_, rfl⟩
 have u13 : Below w12.heap.size w12 w13 := by rw [e13]; exact Dk.up_alloc (Below.refl _ _) _
 have u13' := Dk.up_call u12' u13
 have K13 := Ints_same A4 (some ⟨w12.heap.size, 0, none⟩) 1 C4 1 [0] w13 ((HQ8.out.below u13' (Nat.le_refl _)).more u13'.size) (lit_one w12 w13 0 (i64_of _ (by omega)) e13)
 have H13 : Hid _ := e13.symm
 have HU13 : Hid (Below w10.heap.size w10 w13) := u13'
 clear f5 f6 f8 f9 f21 f23 K11
 obtain ⟨f5, f6, f8, f9, f21, f23⟩ := HF.out w12 u12'
 clear e13 u12 u12' u13 u13'
 go_wp2_with (rw [H13.out]; clear H13)
 refine K13.mono ?_
 rintro e w14 ⟨rfl, u14⟩
 have u14' := Dk.up_call HU13.out u14
 have u15 := Dk.up_call HU10.out u14'
 clear f5 f6 f8 f9 f21 f23 K13
 obtain ⟨f5, f6, f8, f9, f21, f23⟩ := HF.out w14 u14'
 have HU15 : Hid (Below w.heap.size w w14) := u15
 clear u14 u14' u15
 go_wp2_with fail
 go_ret
 exact ⟨rfl, HU15.out⟩
end
section
variable {W w w' : World}
theorem ClassC_nil (j : Int) (w : World) : Calls Tryz.prog 19 #[.pointer none, .int .i64 j] w fun e w' => e = .returned (.int .i64 0) ∧ w' = w := by
 go_enter Tryz.func19, Tryz.ntmps19
 go_wp2_with (first | (go_at_call 57; refine (thread_nil _ _).mono ?_; rintro e w' ⟨rfl, ew⟩; subst w'))
 go_ret
 exact ⟨rfl, rfl⟩
theorem Sep.rewrite {W w : World} {us1 us2 : List Dk.Thing} {b : Nat} {cs : Array Value} {e : TypeId} (h : Dk.Sep W w (us1 ++ Dk.boxOf b cs e :: us2)) (cs' : Array Value) : Dk.Sep W (w.setRow b cs') (us1 ++ Dk.boxOf b cs' e :: us2) :=
 Dk.Sep.turn h (Dk.Away.rowK (S := (Dk.boxOf b cs e).own) (Dk.Away.refl _ _) (.inl rfl) _) ((h.box (b := b) (cs := cs) (t := e) (by simp)).row) (fun k hk => .inl hk)
theorem same_yes {A A' : Option Addr} {L C C' : Nat} {xs : List Int} (s e y : Bool) (w : World) (h : Dk.SlI w.heap.size w A L C xs) (h' : Dk.SlI w.heap.size w A' L C' xs) :
  Calls Tryz.prog 31 #[.agg #[.slice A L C, .bool s, .bool e, .bool y], .agg #[.slice A' L C', .bool s, .bool e, .bool y]] w fun r w' => r = .returned (.bool true) ∧ Below w.heap.size w w' := by
 obtain ⟨W1, e1⟩ : ∃ W1, W1 = w.alloc (.cells #[.slice A L C, .bool s, .bool e, .bool y] 68) := ⟨_, rfl⟩
 obtain ⟨W2, e2⟩ : ∃ W2, W2 = W1.alloc (.cells #[.slice A' L C', .bool s, .bool e, .bool y] 76) := ⟨_, rfl⟩
 have s2 := ((Dk.Sep.begin (Below.refl w.heap.size w)).newBox e1).newBox e2
 have z1 : W1.heap.size = w.heap.size + 1 := by rw [e1]; simp
 rw [z1] at s2
 have u2 := s2.out
 have K := Ints_same A A' L C C' xs W2 ((h.below u2 (Nat.le_refl _)).more u2.size) ((h'.below u2 (Nat.le_refl _)).more u2.size)
 have b1 := (s2.box (b := w.heap.size) (cs := #[.slice A L C, .bool s, .bool e, .bool y]) (t := 68) (by simp)).cell
 have b2 := (s2.box (b := w.heap.size + 1) (cs := #[.slice A' L C', .bool s, .bool e, .bool y]) (t := 76) (by simp)).cell
 have H1 : Hid _ := e1.symm
 have H2 : Hid _ := e2.symm
 have HS : Hid (Dk.Sep w W2 _) := s2
 clear e1 e2 s2 u2 h h'
 go_enter Tryz.func31, Tryz.ntmps31
 go_wp2_with (first | (rw [H1.out]; clear H1) | (rw [H2.out]; clear H2))
 refine K.mono ?_
 rintro r w3 ⟨rfl, u3⟩
 have s3 := Dk.Sep.below HS.out u3
 have c1 := (s3.box (b := w.heap.size) (cs := #[.slice A L C, .bool s, .bool e, .bool y]) (t := 68) (by simp)).cell
 have c2 := (s3.box (b := w.heap.size + 1) (cs := #[.slice A' L C', .bool s, .bool e, .bool y]) (t := 76) (by simp)).cell
 have u := s3.out
 have HU : Hid (Below w.heap.size w w3) := u
 clear b1 b2 K s3 u u3
 go_wp2_with fail
 go_ret
 exact ⟨rfl, HU.out⟩
theorem nilI (B : Nat) (w : World) : Dk.SlI B w none 0 0 [] := ⟨rfl, Nat.le_refl _, Nat.zero_le _, by simp, fun h => absurd h (by omega)⟩
theorem CoreNone_any (n k : Int) (w : World) : Calls Tryz.prog 6 #[.int .i64 n, .int .i64 k] w fun e w' => e = .returned (.bool true) ∧ Below w.heap.size w w' := by
 go_enter Tryz.func6, Tryz.ntmps6
 go_wp2_with fail
 refine (RunC_nil n k w).mono ?_
 rintro e w1 ⟨rfl, u1⟩
 have s1 : Dk.Sep w w1 [] := Dk.Sep.begin u1
 clear u1
 obtain ⟨x1, e1⟩ : ∃ x1, x1 = w1.alloc (.cells #[.slice none 0 0, .bool false, .bool false, .bool false] 68) := ⟨_, rfl⟩
 have s1' := s1.newBox e1
 have b1 : Dk.Box x1 w1.heap.size #[.slice none 0 0, .bool false, .bool false, .bool false] 68 := s1'.box (by simp)
 have t1 := Sep.rewrite (us1 := []) s1' #[.slice none 0 0, .bool false, .bool false, .bool false]
 have HB : Hid (Dk.Box x1 w1.heap.size #[.slice none 0 0, .bool false, .bool false, .bool false] 68) := b1
 have HX : Hid (w1.alloc _ = x1) := e1.symm
 generalize hy1 : x1.setRow w1.heap.size #[.slice none 0 0, .bool false, .bool false, .bool false] = y1 at *
 have HY : Hid (x1.setRow w1.heap.size #[.slice none 0 0, .bool false, .bool false, .bool false] = y1) := hy1
 have HT : Hid (Dk.Sep w y1 _) := t1
 clear s1 e1 s1' b1 t1 hy1
 go_wp2_with (first | (rw [HX.out]; clear HX) | (refine wpList_store_row rfl 68 _ _ rfl w1.heap.size #[.slice none 0 0, .bool false, .bool false, .bool false] rfl rfl 68 _ HB.out.heap sizeEff rfl (eff_all _ _ _ _ _ _) ?_; rw [HY.out]))
 refine (DoneC_nil k y1).mono ?_
 rintro e w2 ⟨rfl, u2⟩
 have s2 : Dk.Sep w w2 _ := HT.out.below u2
 clear u2 HB HY HT
 obtain ⟨x2, e2⟩ : ∃ x2, x2 = w2.alloc (.cells #[.slice none 0 0, .bool false, .bool false, .bool false] 68) := ⟨_, rfl⟩
 have s2' := s2.newBox e2
 have b2 : Dk.Box x2 w2.heap.size #[.slice none 0 0, .bool false, .bool false, .bool false] 68 := s2'.box (by simp)
 have t2 := Sep.rewrite (us1 := []) s2' #[.slice none 0 0, .bool false, .bool false, .bool false]
 have HB : Hid (Dk.Box x2 w2.heap.size #[.slice none 0 0, .bool false, .bool false, .bool false] 68) := b2
 have HX : Hid (w2.alloc _ = x2) := e2.symm
 generalize hy2 : x2.setRow w2.heap.size #[.slice none 0 0, .bool false, .bool false, .bool false] = y2 at *
 have HY : Hid (x2.setRow w2.heap.size #[.slice none 0 0, .bool false, .bool false, .bool false] = y2) := hy2
 have HT : Hid (Dk.Sep w y2 _) := t2
 clear s2 e2 s2' b2 t2 hy2
 go_wp2_with (first | (rw [HX.out]; clear HX) | (refine wpList_store_row rfl 68 _ _ rfl w2.heap.size #[.slice none 0 0, .bool false, .bool false, .bool false] rfl rfl 68 _ HB.out.heap sizeEff rfl (eff_all _ _ _ _ _ _) ?_; rw [HY.out]))
 refine (TickC_nil y2).mono ?_
 rintro e w3 ⟨rfl, u3⟩
 have s3 : Dk.Sep w w3 _ := HT.out.below u3
 clear u3 HB HY HT
 obtain ⟨x3, e3⟩ : ∃ x3, x3 = w3.alloc (.cells #[.slice none 0 0, .bool false, .bool false, .bool false] 68) := ⟨_, rfl⟩
 have s3' := s3.newBox e3
 have b3 : Dk.Box x3 w3.heap.size #[.slice none 0 0, .bool false, .bool false, .bool false] 68 := s3'.box (by simp)
 have t3 := Sep.rewrite (us1 := []) s3' #[.slice none 0 0, .bool false, .bool false, .bool false]
 have HB : Hid (Dk.Box x3 w3.heap.size #[.slice none 0 0, .bool false, .bool false, .bool false] 68) := b3
 have HX : Hid (w3.alloc _ = x3) := e3.symm
 generalize hy3 : x3.setRow w3.heap.size #[.slice none 0 0, .bool false, .bool false, .bool false] = y3 at *
 have HY : Hid (x3.setRow w3.heap.size #[.slice none 0 0, .bool false, .bool false, .bool false] = y3) := hy3
 have HT : Hid (Dk.Sep w y3 _) := t3
 clear s3 e3 s3' b3 t3 hy3
 go_wp2_with (first | (rw [HX.out]; clear HX) | (refine wpList_store_row rfl 68 _ _ rfl w3.heap.size #[.slice none 0 0, .bool false, .bool false, .bool false] rfl rfl 68 _ HB.out.heap sizeEff rfl (eff_all _ _ _ _ _ _) ?_; rw [HY.out]))
 refine (Look_nil n y3).mono ?_
 rintro e w4 ⟨rfl, u4⟩
 have s4 : Dk.Sep w w4 _ := HT.out.below u4
 clear u4 HB HY HT
 unfold tzero
 obtain ⟨x4, e4⟩ : ∃ x4, x4 = w4.alloc (.cells #[.int .u64 0, .int .i64 0, .int .i64 0, .int .i64 0, .int .u64 0, .int .u64 0, .int .u64 0, .int .u64 0, .int .u64 0, .int .u64 0, .int .u64 0, .int .u64 0, .int .u64 0] 41) := ⟨_, rfl⟩
 have s4' := s4.newBox e4
 have b4 : Dk.Box x4 w4.heap.size #[.int .u64 0, .int .i64 0, .int .i64 0, .int .i64 0, .int .u64 0, .int .u64 0, .int .u64 0, .int .u64 0, .int .u64 0, .int .u64 0, .int .u64 0, .int .u64 0, .int .u64 0] 41 := s4'.box (by simp)
 have t4 := Sep.rewrite (us1 := []) s4' #[.int .u64 0, .int .i64 0, .int .i64 0, .int .i64 0, .int .u64 0, .int .u64 0, .int .u64 0, .int .u64 0, .int .u64 0, .int .u64 0, .int .u64 0, .int .u64 0, .int .u64 0]
 have HB : Hid (Dk.Box x4 w4.heap.size #[.int .u64 0, .int .i64 0, .int .i64 0, .int .i64 0, .int .u64 0, .int .u64 0, .int .u64 0, .int .u64 0, .int .u64 0, .int .u64 0, .int .u64 0, .int .u64 0, .int .u64 0] 41) := b4
 have HX : Hid (w4.alloc _ = x4) := e4.symm
 generalize hy4 : x4.setRow w4.heap.size #[.int .u64 0, .int .i64 0, .int .i64 0, .int .i64 0, .int .u64 0, .int .u64 0, .int .u64 0, .int .u64 0, .int .u64 0, .int .u64 0, .int .u64 0, .int .u64 0, .int .u64 0] = y4 at *
 have HY : Hid (x4.setRow w4.heap.size #[.int .u64 0, .int .i64 0, .int .i64 0, .int .i64 0, .int .u64 0, .int .u64 0, .int .u64 0, .int .u64 0, .int .u64 0, .int .u64 0, .int .u64 0, .int .u64 0, .int .u64 0] = y4) := hy4
 have HT : Hid (Dk.Sep w y4 _) := t4
 clear s4 e4 s4' b4 t4 hy4
 go_wp2_with (first | (rw [HX.out]; clear HX) | (refine wpList_store_row rfl 41 _ _ rfl w4.heap.size #[.int .u64 0, .int .i64 0, .int .i64 0, .int .i64 0, .int .u64 0, .int .u64 0, .int .u64 0, .int .u64 0, .int .u64 0, .int .u64 0, .int .u64 0, .int .u64 0, .int .u64 0] rfl rfl 41 _ HB.out.heap sizeThread rfl tzero_all ?_; rw [HY.out]))
 refine (awake_any y4).mono ?_
 rintro e w5 ⟨rfl, u5⟩
 have s5 : Dk.Sep w w5 _ := HT.out.below u5
 have c3 := (s5.box (b := w3.heap.size) (cs := #[.slice none 0 0, .bool false, .bool false, .bool false]) (t := 68) (by simp)).cell
 have HS : Hid (Dk.Sep w w5 _) := s5
 clear u5 HB HY HT s5
 go_wp2_with fail
 refine (same_yes false false false w5 (nilI _ _) (nilI _ _)).mono ?_
 rintro e w6 ⟨rfl, u6⟩
 have s6 := HS.out.below u6
 have HU : Hid (Below w.heap.size w w6) := s6.out
 clear c3 s6 u6
 go_wp2_with fail
 refine (ClassC_nil n w6).mono ?_
 rintro e w7 ⟨rfl, ew⟩
 subst w7
 go_wp2_with fail
 refine (Ready_nil w6).mono ?_
 rintro e w7 ⟨rfl, ew⟩
 subst w7
 go_wp2_with fail
 refine (Records_nil w6).mono ?_
 rintro e w7 ⟨rfl, ew⟩
 subst w7
 go_wp2_with fail
 refine (Memory_nil w6).mono ?_
 rintro e w7 ⟨rfl, ew⟩
 subst w7
 go_wp2_with fail
 go_ret
 exact ⟨rfl, HU.out⟩
end
end Go.Proofs.YtglhhlfopccmaaaGreat
