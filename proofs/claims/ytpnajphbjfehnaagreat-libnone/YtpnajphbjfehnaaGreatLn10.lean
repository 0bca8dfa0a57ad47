import Derived.Test.YtpnajphbjfehnaaGreatLn09
set_option linter.unusedSimpArgs false
set_option linter.unusedVariables false
set_option linter.unnecessarySimpa false
set_option maxHeartbeats 8000000
set_option maxRecDepth 100000
namespace Go.Proofs.YtpnajphbjfehnaaGreat
open Go.RowKit
theorem zu {s:Dk.Sh} {p:Dk.Prg} (hs:Lens s p):Dk.objectsFitB p=(Dk.withinB p.words 0 64 && Dk.withinB p.mutexes 0 4 && Dk.withinB p.conds 0 4 && decide (s.sL≤4) && Dk.allWithinB p.sems 0 1048576 && decide (s.pL≤4) && Dk.allWithinB p.pipes 1 8 && Dk.withinB p.blocks 0 64 && Dk.withinB p.prio 0 7):=by
 unfold Dk.objectsFitB
 rw [hs.es,hs.ep]
theorem zj1 (B:Nat) (s:Dk.Sh) (p:Dk.Prg) (w:World) (h:Dk.PrgAt B w s p) (hB:B≤w.heap.size)  (h0:Dk.withinB p.words 0 64=false) :
  Calls Tryz.prog 75 #[Dk.pv s p] w fun e w'=>e=.returned (.bool (Dk.objectsFitB p))∧Below w.heap.size w w':=by
 have HS:Hid (Dk.objectsFitB p=false):=by show _=false;rw [zu (zam h),h0];simp
 go_enter Tryz.func75,Tryz.ntmps75
 go_wp2_with fail
 refine (zd _ _ _ _).mono ?_
 rintro e w' ⟨rfl,rfl⟩
 go_wp2_with fail
 go_ret
 exact ⟨zl HS.out.symm,Dk.zb (Below.refl _ _) _⟩
theorem zj2 (B:Nat) (s:Dk.Sh) (p:Dk.Prg) (w:World) (h:Dk.PrgAt B w s p) (hB:B≤w.heap.size) (h0:Dk.withinB p.words 0 64=true) (h1:Dk.withinB p.mutexes 0 4=false) :
  Calls Tryz.prog 75 #[Dk.pv s p] w fun e w'=>e=.returned (.bool (Dk.objectsFitB p))∧Below w.heap.size w w':=by
 have HS:Hid (Dk.objectsFitB p=false):=by show _=false;rw [zu (zam h),h0,h1];simp
 go_enter Tryz.func75,Tryz.ntmps75
 go_wp2_with fail
 refine (zd _ _ _ _).mono ?_
 rintro e w' ⟨rfl,rfl⟩
 go_wp2_with fail
 refine (zd _ _ _ _).mono ?_
 rintro e w' ⟨rfl,rfl⟩
 go_wp2_with fail
 go_ret
 exact ⟨zl HS.out.symm,Dk.zb (Below.refl _ _) _⟩
theorem zj3 (B:Nat) (s:Dk.Sh) (p:Dk.Prg) (w:World) (h:Dk.PrgAt B w s p) (hB:B≤w.heap.size) (h0:Dk.withinB p.words 0 64=true) (h1:Dk.withinB p.mutexes 0 4=true) (h2:Dk.withinB p.conds 0 4=false) :
  Calls Tryz.prog 75 #[Dk.pv s p] w fun e w'=>e=.returned (.bool (Dk.objectsFitB p))∧Below w.heap.size w w':=by
 have HS:Hid (Dk.objectsFitB p=false):=by show _=false;rw [zu (zam h),h0,h1,h2];simp
 go_enter Tryz.func75,Tryz.ntmps75
 go_wp2_with fail
 refine (zd _ _ _ _).mono ?_
 rintro e w' ⟨rfl,rfl⟩
 go_wp2_with fail
 refine (zd _ _ _ _).mono ?_
 rintro e w' ⟨rfl,rfl⟩
 go_wp2_with fail
 refine (zd _ _ _ _).mono ?_
 rintro e w' ⟨rfl,rfl⟩
 go_wp2_with fail
 go_ret
 exact ⟨zl HS.out.symm,Dk.zb (Below.refl _ _) _⟩
theorem zj4 (B:Nat) (s:Dk.Sh) (p:Dk.Prg) (w:World) (h:Dk.PrgAt B w s p) (hB:B≤w.heap.size) (h0:Dk.withinB p.words 0 64=true) (h1:Dk.withinB p.mutexes 0 4=true) (h2:Dk.withinB p.conds 0 4=true) (h3:4 < s.sL) :
  Calls Tryz.prog 75 #[Dk.pv s p] w fun e w'=>e=.returned (.bool (Dk.objectsFitB p))∧Below w.heap.size w w':=by
 have HS:Hid (Dk.objectsFitB p=false):=by show _=false;rw [zu (zam h),h0,h1,h2,decide_eq_false (Nat.not_le_of_lt h3)];simp
 go_enter Tryz.func75,Tryz.ntmps75
 go_wp2_with fail
 refine (zd _ _ _ _).mono ?_
 rintro e w' ⟨rfl,rfl⟩
 go_wp2_with fail
 refine (zd _ _ _ _).mono ?_
 rintro e w' ⟨rfl,rfl⟩
 go_wp2_with fail
 refine (zd _ _ _ _).mono ?_
 rintro e w' ⟨rfl,rfl⟩
 go_wp2_with fail
 go_ret
 exact ⟨zl HS.out.symm,Dk.zb (Below.refl _ _) _⟩
theorem zj5 (B:Nat) (s:Dk.Sh) (p:Dk.Prg) (w:World) (h:Dk.PrgAt B w s p) (hB:B≤w.heap.size) (h0:Dk.withinB p.words 0 64=true) (h1:Dk.withinB p.mutexes 0 4=true) (h2:Dk.withinB p.conds 0 4=true) (h3:s.sL≤4) (h4:Dk.allWithinB p.sems 0 1048576=false) :
  Calls Tryz.prog 75 #[Dk.pv s p] w fun e w'=>e=.returned (.bool (Dk.objectsFitB p))∧Below w.heap.size w w':=by
 have HS:Hid (Dk.objectsFitB p=false):=by show _=false;rw [zu (zam h),h0,h1,h2,decide_eq_true h3,h4];simp
 go_enter Tryz.func75,Tryz.ntmps75
 go_wp2_with fail
 refine (zd _ _ _ _).mono ?_
 rintro e w' ⟨rfl,rfl⟩
 go_wp2_with fail
 refine (zd _ _ _ _).mono ?_
 rintro e w' ⟨rfl,rfl⟩
 go_wp2_with fail
 refine (zd _ _ _ _).mono ?_
 rintro e w' ⟨rfl,rfl⟩
 go_wp2_with fail
 refine (zn B _ _ _ p.sems _ _ _ (h.sems.below (Dk.zb (Below.refl _ _) _) hB)).mono ?_
 rintro e w' ⟨rfl,rfl⟩
 go_wp2_with fail
 go_ret
 exact ⟨zl HS.out.symm,Dk.zb (Below.refl _ _) _⟩
theorem zj6 (B:Nat) (s:Dk.Sh) (p:Dk.Prg) (w:World) (h:Dk.PrgAt B w s p) (hB:B≤w.heap.size) (h0:Dk.withinB p.words 0 64=true) (h1:Dk.withinB p.mutexes 0 4=true) (h2:Dk.withinB p.conds 0 4=true) (h3:s.sL≤4) (h4:Dk.allWithinB p.sems 0 1048576=true) (h5:4 < s.pL) :
  Calls Tryz.prog 75 #[Dk.pv s p] w fun e w'=>e=.returned (.bool (Dk.objectsFitB p))∧Below w.heap.size w w':=by
 have HS:Hid (Dk.objectsFitB p=false):=by show _=false;rw [zu (zam h),h0,h1,h2,decide_eq_true h3,h4,decide_eq_false (Nat.not_le_of_lt h5)];simp
 go_enter Tryz.func75,Tryz.ntmps75
 go_wp2_with fail
 refine (zd _ _ _ _).mono ?_
 rintro e w' ⟨rfl,rfl⟩
 go_wp2_with fail
 refine (zd _ _ _ _).mono ?_
 rintro e w' ⟨rfl,rfl⟩
 go_wp2_with fail
 refine (zd _ _ _ _).mono ?_
 rintro e w' ⟨rfl,rfl⟩
 go_wp2_with fail
 refine (zn B _ _ _ p.sems _ _ _ (h.sems.below (Dk.zb (Below.refl _ _) _) hB)).mono ?_
 rintro e w' ⟨rfl,rfl⟩
 go_wp2_with fail
 go_ret
 exact ⟨zl HS.out.symm,Dk.zb (Below.refl _ _) _⟩
theorem zj7 (B:Nat) (s:Dk.Sh) (p:Dk.Prg) (w:World) (h:Dk.PrgAt B w s p) (hB:B≤w.heap.size) (h0:Dk.withinB p.words 0 64=true) (h1:Dk.withinB p.mutexes 0 4=true) (h2:Dk.withinB p.conds 0 4=true) (h3:s.sL≤4) (h4:Dk.allWithinB p.sems 0 1048576=true) (h5:s.pL≤4) (h6:Dk.allWithinB p.pipes 1 8=false) :
  Calls Tryz.prog 75 #[Dk.pv s p] w fun e w'=>e=.returned (.bool (Dk.objectsFitB p))∧Below w.heap.size w w':=by
 have HS:Hid (Dk.objectsFitB p=false):=by show _=false;rw [zu (zam h),h0,h1,h2,decide_eq_true h3,h4,decide_eq_true h5,h6];simp
 go_enter Tryz.func75,Tryz.ntmps75
 go_wp2_with fail
 refine (zd _ _ _ _).mono ?_
 rintro e w' ⟨rfl,rfl⟩
 go_wp2_with fail
 refine (zd _ _ _ _).mono ?_
 rintro e w' ⟨rfl,rfl⟩
 go_wp2_with fail
 refine (zd _ _ _ _).mono ?_
 rintro e w' ⟨rfl,rfl⟩
 go_wp2_with fail
 refine (zn B _ _ _ p.sems _ _ _ (h.sems.below (Dk.zb (Below.refl _ _) _) hB)).mono ?_
 rintro e w' ⟨rfl,rfl⟩
 go_wp2_with fail
 refine (zn B _ _ _ p.pipes _ _ _ (h.pipes.below (Dk.zb (Below.refl _ _) _) hB)).mono ?_
 rintro e w' ⟨rfl,rfl⟩
 go_wp2_with fail
 go_ret
 exact ⟨zl HS.out.symm,Dk.zb (Below.refl _ _) _⟩
theorem zj8 (B:Nat) (s:Dk.Sh) (p:Dk.Prg) (w:World) (h:Dk.PrgAt B w s p) (hB:B≤w.heap.size) (h0:Dk.withinB p.words 0 64=true) (h1:Dk.withinB p.mutexes 0 4=true) (h2:Dk.withinB p.conds 0 4=true) (h3:s.sL≤4) (h4:Dk.allWithinB p.sems 0 1048576=true) (h5:s.pL≤4) (h6:Dk.allWithinB p.pipes 1 8=true) (h7:Dk.withinB p.blocks 0 64=false) :
  Calls Tryz.prog 75 #[Dk.pv s p] w fun e w'=>e=.returned (.bool (Dk.objectsFitB p))∧Below w.heap.size w w':=by
 have HS:Hid (Dk.objectsFitB p=false):=by show _=false;rw [zu (zam h),h0,h1,h2,decide_eq_true h3,h4,decide_eq_true h5,h6,h7];simp
 go_enter Tryz.func75,Tryz.ntmps75
 go_wp2_with fail
 refine (zd _ _ _ _).mono ?_
 rintro e w' ⟨rfl,rfl⟩
 go_wp2_with fail
 refine (zd _ _ _ _).mono ?_
 rintro e w' ⟨rfl,rfl⟩
 go_wp2_with fail
 refine (zd _ _ _ _).mono ?_
 rintro e w' ⟨rfl,rfl⟩
 go_wp2_with fail
 refine (zn B _ _ _ p.sems _ _ _ (h.sems.below (Dk.zb (Below.refl _ _) _) hB)).mono ?_
 rintro e w' ⟨rfl,rfl⟩
 go_wp2_with fail
 refine (zn B _ _ _ p.pipes _ _ _ (h.pipes.below (Dk.zb (Below.refl _ _) _) hB)).mono ?_
 rintro e w' ⟨rfl,rfl⟩
 go_wp2_with fail
 refine (zd _ _ _ _).mono ?_
 rintro e w' ⟨rfl,rfl⟩
 go_wp2_with fail
 go_ret
 exact ⟨zl HS.out.symm,Dk.zb (Below.refl _ _) _⟩
theorem zj9 (B:Nat) (s:Dk.Sh) (p:Dk.Prg) (w:World) (h:Dk.PrgAt B w s p) (hB:B≤w.heap.size) (h0:Dk.withinB p.words 0 64=true) (h1:Dk.withinB p.mutexes 0 4=true) (h2:Dk.withinB p.conds 0 4=true) (h3:s.sL≤4) (h4:Dk.allWithinB p.sems 0 1048576=true) (h5:s.pL≤4) (h6:Dk.allWithinB p.pipes 1 8=true) (h7:Dk.withinB p.blocks 0 64=true) (h8:Dk.withinB p.prio 0 7=false) :
  Calls Tryz.prog 75 #[Dk.pv s p] w fun e w'=>e=.returned (.bool (Dk.objectsFitB p))∧Below w.heap.size w w':=by
 have HS:Hid (Dk.objectsFitB p=false):=by show _=false;rw [zu (zam h),h0,h1,h2,decide_eq_true h3,h4,decide_eq_true h5,h6,h7,h8];simp
 go_enter Tryz.func75,Tryz.ntmps75
 go_wp2_with fail
 refine (zd _ _ _ _).mono ?_
 rintro e w' ⟨rfl,rfl⟩
 go_wp2_with fail
 refine (zd _ _ _ _).mono ?_
 rintro e w' ⟨rfl,rfl⟩
 go_wp2_with fail
 refine (zd _ _ _ _).mono ?_
 rintro e w' ⟨rfl,rfl⟩
 go_wp2_with fail
 refine (zn B _ _ _ p.sems _ _ _ (h.sems.below (Dk.zb (Below.refl _ _) _) hB)).mono ?_
 rintro e w' ⟨rfl,rfl⟩
 go_wp2_with fail
 refine (zn B _ _ _ p.pipes _ _ _ (h.pipes.below (Dk.zb (Below.refl _ _) _) hB)).mono ?_
 rintro e w' ⟨rfl,rfl⟩
 go_wp2_with fail
 refine (zd _ _ _ _).mono ?_
 rintro e w' ⟨rfl,rfl⟩
 go_wp2_with fail
 refine (zd _ _ _ _).mono ?_
 rintro e w' ⟨rfl,rfl⟩
 go_wp2_with fail
 go_ret
 exact ⟨zl HS.out.symm,Dk.zb (Below.refl _ _) _⟩
theorem zka (B:Nat) (s:Dk.Sh) (p:Dk.Prg) (w:World) (h:Dk.PrgAt B w s p) (hB:B≤w.heap.size) (h0:Dk.withinB p.words 0 64=true) (h1:Dk.withinB p.mutexes 0 4=true) (h2:Dk.withinB p.conds 0 4=true) (h3:s.sL≤4) (h4:Dk.allWithinB p.sems 0 1048576=true) (h5:s.pL≤4) (h6:Dk.allWithinB p.pipes 1 8=true) (h7:Dk.withinB p.blocks 0 64=true) (h8:Dk.withinB p.prio 0 7=true) :
  Calls Tryz.prog 75 #[Dk.pv s p] w fun e w'=>e=.returned (.bool (Dk.objectsFitB p))∧Below w.heap.size w w':=by
 have HS:Hid (Dk.objectsFitB p=true):=by show _=true;rw [zu (zam h),h0,h1,h2,decide_eq_true h3,h4,decide_eq_true h5,h6,h7,h8];simp
 go_enter Tryz.func75,Tryz.ntmps75
 go_wp2_with fail
 refine (zd _ _ _ _).mono ?_
 rintro e w' ⟨rfl,rfl⟩
 go_wp2_with fail
 refine (zd _ _ _ _).mono ?_
 rintro e w' ⟨rfl,rfl⟩
 go_wp2_with fail
 refine (zd _ _ _ _).mono ?_
 rintro e w' ⟨rfl,rfl⟩
 go_wp2_with fail
 refine (zn B _ _ _ p.sems _ _ _ (h.sems.below (Dk.zb (Below.refl _ _) _) hB)).mono ?_
 rintro e w' ⟨rfl,rfl⟩
 go_wp2_with fail
 refine (zn B _ _ _ p.pipes _ _ _ (h.pipes.below (Dk.zb (Below.refl _ _) _) hB)).mono ?_
 rintro e w' ⟨rfl,rfl⟩
 go_wp2_with fail
 refine (zd _ _ _ _).mono ?_
 rintro e w' ⟨rfl,rfl⟩
 go_wp2_with fail
 refine (zd _ _ _ _).mono ?_
 rintro e w' ⟨rfl,rfl⟩
 go_wp2_with fail
 go_ret
 exact ⟨zl HS.out.symm,Dk.zb (Below.refl _ _) _⟩
theorem zau (B:Nat) (s:Dk.Sh) (p:Dk.Prg) (w:World) (h:Dk.PrgAt B w s p) (hB:B≤w.heap.size) :
  Calls Tryz.prog 75 #[Dk.pv s p] w fun e w'=>e=.returned (.bool (Dk.objectsFitB p))∧Below w.heap.size w w':=by
 cases h0:Dk.withinB p.words 0 64
 ·exact zj1 B s p w h hB h0
 cases h1:Dk.withinB p.mutexes 0 4
 ·exact zj2 B s p w h hB h0 h1
 cases h2:Dk.withinB p.conds 0 4
 ·exact zj3 B s p w h hB h0 h1 h2
 by_cases h3':s.sL≤4
 case neg=>exact zj4 B s p w h hB h0 h1 h2 (by omega)
 have h3:=h3'
 cases h4:Dk.allWithinB p.sems 0 1048576
 ·exact zj5 B s p w h hB h0 h1 h2 h3 h4
 by_cases h5':s.pL≤4
 case neg=>exact zj6 B s p w h hB h0 h1 h2 h3 h4 (by omega)
 have h5:=h5'
 cases h6:Dk.allWithinB p.pipes 1 8
 ·exact zj7 B s p w h hB h0 h1 h2 h3 h4 h5 h6
 cases h7:Dk.withinB p.blocks 0 64
 ·exact zj8 B s p w h hB h0 h1 h2 h3 h4 h5 h6 h7
 cases h8:Dk.withinB p.prio 0 7
 ·exact zj9 B s p w h hB h0 h1 h2 h3 h4 h5 h6 h7 h8
 exact zka B s p w h hB h0 h1 h2 h3 h4 h5 h6 h7 h8
theorem check_a (B:Nat) (s:Dk.Sh) (p:Dk.Prg) (w:World) (h:Dk.PrgAt B w s p) (hB:B≤w.heap.size) (h1:Dk.codeFitsB p.funcs=false) :
  Calls Tryz.prog 35 #[Dk.pv s p] w fun e w'=>e=.returned (.int .i64 (Dk.check p))∧Below w.heap.size w w':=by
 have HS:Hid (Dk.check p=9):=by show _=9;unfold Dk.check;rw [h1];rfl
 go_enter Tryz.func35,Tryz.ntmps35
 go_wp2_with fail
 refine (zap B _ _ _ p.funcs _ (h.funcs.below (Dk.zb (Below.refl _ _) _) hB)).mono ?_
 rintro e w' ⟨rfl,rfl⟩
 go_wp2_with fail
 go_ret
 exact ⟨zep HS.out.symm,Dk.zb (Below.refl _ _) _⟩
theorem check_b (B:Nat) (s:Dk.Sh) (p:Dk.Prg) (w:World) (h:Dk.PrgAt B w s p) (hB:B≤w.heap.size) (h1:Dk.codeFitsB p.funcs=true) (h2:Dk.objectsFitB p=false) :
  Calls Tryz.prog 35 #[Dk.pv s p] w fun e w'=>e=.returned (.int .i64 (Dk.check p))∧Below w.heap.size w w':=by
 have HS:Hid (Dk.check p=9):=by show _=9;unfold Dk.check;rw [h1,h2];rfl
 go_enter Tryz.func35,Tryz.ntmps35
 go_wp2_with fail
 refine (zap B _ _ _ p.funcs _ (h.funcs.below (Dk.zb (Below.refl _ _) _) hB)).mono ?_
 rintro e w' ⟨rfl,rfl⟩
 go_wp2_with fail
 refine (zau B s p _ (h.below (Dk.zb (Below.refl _ _) _) hB) (by simp;omega)).mono ?_
 rintro e w2 ⟨rfl,hb2⟩
 have hbox:=Dk.zbg hb2
 go_wp2_with fail
 go_ret
 exact ⟨zep HS.out.symm,Dk.zg (Dk.zb (Below.refl _ _) _) hb2⟩
theorem check_c (B:Nat) (s:Dk.Sh) (p:Dk.Prg) (w:World) (h:Dk.PrgAt B w s p) (hB:B≤w.heap.size) (h1:Dk.codeFitsB p.funcs=true) (h2:Dk.objectsFitB p=true) (h3:Dk.allSoundB p=false) :
  Calls Tryz.prog 35 #[Dk.pv s p] w fun e w'=>e=.returned (.int .i64 (Dk.check p))∧Below w.heap.size w w':=by
 have HS:Hid (Dk.check p=8):=by show _=8;unfold Dk.check;rw [h1,h2,h3];rfl
 go_enter Tryz.func35,Tryz.ntmps35
 go_wp2_with fail
 refine (zap B _ _ _ p.funcs _ (h.funcs.below (Dk.zb (Below.refl _ _) _) hB)).mono ?_
 rintro e w' ⟨rfl,rfl⟩
 go_wp2_with fail
 refine (zau B s p _ (h.below (Dk.zb (Below.refl _ _) _) hB) (by simp;omega)).mono ?_
 rintro e w2 ⟨rfl,hb2⟩
 have hbox:=Dk.zbg hb2
 go_wp2_with fail
 refine (zcf B s p _ (h.below (Dk.zg (Dk.zb (Below.refl _ _) _) hb2) hB) (by have:=hb2.size;simp at this;omega)).mono ?_
 rintro e w3 ⟨rfl,hb3⟩
 go_wp2_with fail
 go_ret
 exact ⟨zep HS.out.symm,Dk.zg (Dk.zg (Dk.zb (Below.refl _ _) _) hb2) hb3⟩
theorem check_d (B:Nat) (s:Dk.Sh) (p:Dk.Prg) (w:World) (h:Dk.PrgAt B w s p) (hB:B≤w.heap.size) (h1:Dk.codeFitsB p.funcs=true) (h2:Dk.objectsFitB p=true) (h3:Dk.allSoundB p=true) :
  Calls Tryz.prog 35 #[Dk.pv s p] w fun e w'=>e=.returned (.int .i64 (Dk.check p))∧Below w.heap.size w w':=by
 have HS:Hid (Dk.check p=0):=by show _=0;unfold Dk.check;rw [h1,h2,h3];rfl
 go_enter Tryz.func35,Tryz.ntmps35
 go_wp2_with fail
 refine (zap B _ _ _ p.funcs _ (h.funcs.below (Dk.zb (Below.refl _ _) _) hB)).mono ?_
 rintro e w' ⟨rfl,rfl⟩
 go_wp2_with fail
 refine (zau B s p _ (h.below (Dk.zb (Below.refl _ _) _) hB) (by simp;omega)).mono ?_
 rintro e w2 ⟨rfl,hb2⟩
 have hbox:=Dk.zbg hb2
 go_wp2_with fail
 refine (zcf B s p _ (h.below (Dk.zg (Dk.zb (Below.refl _ _) _) hb2) hB) (by have:=hb2.size;simp at this;omega)).mono ?_
 rintro e w3 ⟨rfl,hb3⟩
 go_wp2_with fail
 go_ret
 exact ⟨zep HS.out.symm,Dk.zg (Dk.zg (Dk.zb (Below.refl _ _) _) hb2) hb3⟩
theorem zid (B:Nat) (s:Dk.Sh) (p:Dk.Prg) (w:World) (h:Dk.PrgAt B w s p) (hB:B≤w.heap.size) :
  Calls Tryz.prog 35 #[Dk.pv s p] w fun e w'=>e=.returned (.int .i64 (Dk.check p))∧Below w.heap.size w w':=by
 cases h1:Dk.codeFitsB p.funcs
 ·exact check_a B s p w h hB h1
 cases h2:Dk.objectsFitB p
 ·exact check_b B s p w h hB h1 h2
 cases h3:Dk.allSoundB p
 ·exact check_c B s p w h hB h1 h2 h3
 ·exact check_d B s p w h hB h1 h2 h3
end Go.Proofs.YtpnajphbjfehnaaGreat
