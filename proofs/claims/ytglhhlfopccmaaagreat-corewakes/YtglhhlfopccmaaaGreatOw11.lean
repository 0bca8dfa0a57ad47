import Derived.Test.YtglhhlfopccmaaaGreatOw10
set_option linter.unusedSimpArgs false
set_option linter.unusedVariables false
set_option linter.unnecessarySimpa false
set_option maxHeartbeats 8000000
set_option maxRecDepth 100000
namespace Go.Proofs.YtglhhlfopccmaaaGreat
open Go.RowKit
theorem zjc {p:Dk.Prg} (hp:p.ok) (x:Int):Dk.i64 (Dk.choices p x):=by
 obtain ⟨h1,h2,h3,h4,h5⟩:=hp
 unfold Dk.i64 at *
 unfold Dk.choices
 repeat' split
 all_goals omega
structure Lens (s:Dk.Sh) (p:Dk.Prg):Prop where
 ef:p.funcs.length=s.fL
 es:p.sems.length=s.sL
 ep:p.pipes.length=s.pL
theorem zbq {B:Nat} {w:World} {s:Dk.Sh} {p:Dk.Prg} (h:Dk.PrgAt B w s p):Lens s p:=⟨h.funcs.len,h.sems.len,h.pipes.len⟩
theorem za8 (s:Dk.Sh) (p:Dk.Prg) (x v:Int) (w:World) (hs:Lens s p) (hp:p.ok) :
  Calls Tryz.prog 136 #[.int .i64 x,Dk.pv s p,.int .u64 v] w fun e w'=>e=.returned (.bool (Dk.mayB p x v))∧Below w.heap.size w w':=
 zo2 s p x v w hs.ef hs.es hs.ep (zjc hp x)
theorem zcs (p:Dk.Prg) (i:Dk.Ins):Dk.soundB p i=((Dk.form i.op).2 && Dk.mayB p (Dk.form i.op).1.1 (IntKind.u64.wrap i.a) && Dk.mayB p (Dk.form i.op).1.2.1 (IntKind.u64.wrap i.b) && Dk.mayB p (Dk.form i.op).1.2.2.1 (IntKind.u64.wrap i.c) && Dk.mayB p (Dk.form i.op).1.2.2.2 i.n):=by
 unfold Dk.soundB
 rw [zgz,zgz,zgz]
theorem sound_0 (s:Dk.Sh) (p:Dk.Prg) (i:Dk.Ins) (w:World) (hs:Lens s p) (hp:p.ok)  (h0:(Dk.form i.op).2=false) :
  Calls Tryz.prog 106 #[Dk.pv s p,Dk.iv i] w fun e w'=>e=.returned (.bool (Dk.soundB p i))∧Below w.heap.size w w':=by
 have HS:Hid (Dk.soundB p i=false):=by show _=false;rw [zcs,h0];rfl
 go_enter Tryz.func106,Tryz.ntmps106
 go_wp2_with fail
 refine (zbj _ _).mono ?_
 rintro e w1 ⟨rfl,hb1⟩
 obtain ⟨hc1,hf1,hz1⟩:=Dk.bcell hb1
 simp only [World.size_alloc] at hz1
 have hn0:w.heap.size < w1.heap.size:=by omega
 have hn1:w.heap.size+1 < w1.heap.size:=by omega
 clear hz1
 go_wp2_with fail
 go_ret
 exact ⟨zaa HS.out.symm,Dk.zb (Dk.zi (Dk.zb (Dk.zb (Below.refl _ _) _) _) hb1) _⟩
theorem sound_1 (s:Dk.Sh) (p:Dk.Prg) (i:Dk.Ins) (w:World) (hs:Lens s p) (hp:p.ok) (h0:(Dk.form i.op).2=true) (h1:Dk.mayB p (Dk.form i.op).1.1 (IntKind.u64.wrap i.a)=false) :
  Calls Tryz.prog 106 #[Dk.pv s p,Dk.iv i] w fun e w'=>e=.returned (.bool (Dk.soundB p i))∧Below w.heap.size w w':=by
 have HS:Hid (Dk.soundB p i=false):=by show _=false;rw [zcs,h0,h1];rfl
 go_enter Tryz.func106,Tryz.ntmps106
 go_wp2_with fail
 refine (zbj _ _).mono ?_
 rintro e w1 ⟨rfl,hb1⟩
 obtain ⟨hc1,hf1,hz1⟩:=Dk.bcell hb1
 simp only [World.size_alloc] at hz1
 have hn0:w.heap.size < w1.heap.size:=by omega
 have hn1:w.heap.size+1 < w1.heap.size:=by omega
 clear hz1
 go_wp2_with fail
 refine (za8 s p _ _ _ hs hp).mono ?_
 rintro e w2 ⟨rfl,hb2⟩
 obtain ⟨hc2,hf2,hz2⟩:=Dk.bcell hb2
 simp only [World.size_alloc] at hz2
 have n20:w.heap.size < w2.heap.size:=by omega
 have n21:w.heap.size+1 < w2.heap.size:=by omega
 have n22:w1.heap.size < w2.heap.size:=by omega
 clear hz2
 go_wp2_with fail
 go_ret
 exact ⟨zaa HS.out.symm,Dk.zi (Dk.zb (Dk.zi (Dk.zb (Dk.zb (Below.refl _ _) _) _) hb1) _) hb2⟩
theorem sound_2 (s:Dk.Sh) (p:Dk.Prg) (i:Dk.Ins) (w:World) (hs:Lens s p) (hp:p.ok) (h0:(Dk.form i.op).2=true) (h1:Dk.mayB p (Dk.form i.op).1.1 (IntKind.u64.wrap i.a)=true) (h2:Dk.mayB p (Dk.form i.op).1.2.1 (IntKind.u64.wrap i.b)=false) :
  Calls Tryz.prog 106 #[Dk.pv s p,Dk.iv i] w fun e w'=>e=.returned (.bool (Dk.soundB p i))∧Below w.heap.size w w':=by
 have HS:Hid (Dk.soundB p i=false):=by show _=false;rw [zcs,h0,h1,h2];rfl
 go_enter Tryz.func106,Tryz.ntmps106
 go_wp2_with fail
 refine (zbj _ _).mono ?_
 rintro e w1 ⟨rfl,hb1⟩
 obtain ⟨hc1,hf1,hz1⟩:=Dk.bcell hb1
 simp only [World.size_alloc] at hz1
 have hn0:w.heap.size < w1.heap.size:=by omega
 have hn1:w.heap.size+1 < w1.heap.size:=by omega
 clear hz1
 go_wp2_with fail
 refine (za8 s p _ _ _ hs hp).mono ?_
 rintro e w2 ⟨rfl,hb2⟩
 obtain ⟨hc2,hf2,hz2⟩:=Dk.bcell hb2
 simp only [World.size_alloc] at hz2
 have n20:w.heap.size < w2.heap.size:=by omega
 have n21:w.heap.size+1 < w2.heap.size:=by omega
 have n22:w1.heap.size < w2.heap.size:=by omega
 clear hz2
 go_wp2_with fail
 refine (za8 s p _ _ _ hs hp).mono ?_
 rintro e w3 ⟨rfl,hb3⟩
 obtain ⟨hc3,hf3,hz3⟩:=Dk.bcell hb3
 have n30:w.heap.size < w3.heap.size:=by omega
 have n31:w.heap.size+1 < w3.heap.size:=by omega
 have n32:w1.heap.size < w3.heap.size:=by omega
 clear hz3
 go_wp2_with fail
 go_ret
 exact ⟨zaa HS.out.symm,Dk.zi (Dk.zi (Dk.zb (Dk.zi (Dk.zb (Dk.zb (Below.refl _ _) _) _) hb1) _) hb2) hb3⟩
theorem sound_3 (s:Dk.Sh) (p:Dk.Prg) (i:Dk.Ins) (w:World) (hs:Lens s p) (hp:p.ok) (h0:(Dk.form i.op).2=true) (h1:Dk.mayB p (Dk.form i.op).1.1 (IntKind.u64.wrap i.a)=true) (h2:Dk.mayB p (Dk.form i.op).1.2.1 (IntKind.u64.wrap i.b)=true) (h3:Dk.mayB p (Dk.form i.op).1.2.2.1 (IntKind.u64.wrap i.c)=false) :
  Calls Tryz.prog 106 #[Dk.pv s p,Dk.iv i] w fun e w'=>e=.returned (.bool (Dk.soundB p i))∧Below w.heap.size w w':=by
 have HS:Hid (Dk.soundB p i=false):=by show _=false;rw [zcs,h0,h1,h2,h3];rfl
 go_enter Tryz.func106,Tryz.ntmps106
 go_wp2_with fail
 refine (zbj _ _).mono ?_
 rintro e w1 ⟨rfl,hb1⟩
 obtain ⟨hc1,hf1,hz1⟩:=Dk.bcell hb1
 simp only [World.size_alloc] at hz1
 have hn0:w.heap.size < w1.heap.size:=by omega
 have hn1:w.heap.size+1 < w1.heap.size:=by omega
 clear hz1
 go_wp2_with fail
 refine (za8 s p _ _ _ hs hp).mono ?_
 rintro e w2 ⟨rfl,hb2⟩
 obtain ⟨hc2,hf2,hz2⟩:=Dk.bcell hb2
 simp only [World.size_alloc] at hz2
 have n20:w.heap.size < w2.heap.size:=by omega
 have n21:w.heap.size+1 < w2.heap.size:=by omega
 have n22:w1.heap.size < w2.heap.size:=by omega
 clear hz2
 go_wp2_with fail
 refine (za8 s p _ _ _ hs hp).mono ?_
 rintro e w3 ⟨rfl,hb3⟩
 obtain ⟨hc3,hf3,hz3⟩:=Dk.bcell hb3
 have n30:w.heap.size < w3.heap.size:=by omega
 have n31:w.heap.size+1 < w3.heap.size:=by omega
 have n32:w1.heap.size < w3.heap.size:=by omega
 clear hz3
 go_wp2_with fail
 refine (za8 s p _ _ _ hs hp).mono ?_
 rintro e w4 ⟨rfl,hb4⟩
 obtain ⟨hc4,hf4,hz4⟩:=Dk.bcell hb4
 have n40:w.heap.size < w4.heap.size:=by omega
 have n41:w.heap.size+1 < w4.heap.size:=by omega
 have n42:w1.heap.size < w4.heap.size:=by omega
 clear hz4
 go_wp2_with fail
 go_ret
 exact ⟨zaa HS.out.symm,Dk.zi (Dk.zi (Dk.zi (Dk.zb (Dk.zi (Dk.zb (Dk.zb (Below.refl _ _) _) _) hb1) _) hb2) hb3) hb4⟩
theorem sound_4 (s:Dk.Sh) (p:Dk.Prg) (i:Dk.Ins) (w:World) (hs:Lens s p) (hp:p.ok) (h0:(Dk.form i.op).2=true) (h1:Dk.mayB p (Dk.form i.op).1.1 (IntKind.u64.wrap i.a)=true) (h2:Dk.mayB p (Dk.form i.op).1.2.1 (IntKind.u64.wrap i.b)=true) (h3:Dk.mayB p (Dk.form i.op).1.2.2.1 (IntKind.u64.wrap i.c)=true) (h4:Dk.mayB p (Dk.form i.op).1.2.2.2 i.n=false) :
  Calls Tryz.prog 106 #[Dk.pv s p,Dk.iv i] w fun e w'=>e=.returned (.bool (Dk.soundB p i))∧Below w.heap.size w w':=by
 have HS:Hid (Dk.soundB p i=false):=by show _=false;rw [zcs,h0,h1,h2,h3,h4,Bool.and_false]
 go_enter Tryz.func106,Tryz.ntmps106
 go_wp2_with fail
 refine (zbj _ _).mono ?_
 rintro e w1 ⟨rfl,hb1⟩
 obtain ⟨hc1,hf1,hz1⟩:=Dk.bcell hb1
 simp only [World.size_alloc] at hz1
 have hn0:w.heap.size < w1.heap.size:=by omega
 have hn1:w.heap.size+1 < w1.heap.size:=by omega
 clear hz1
 go_wp2_with fail
 refine (za8 s p _ _ _ hs hp).mono ?_
 rintro e w2 ⟨rfl,hb2⟩
 obtain ⟨hc2,hf2,hz2⟩:=Dk.bcell hb2
 simp only [World.size_alloc] at hz2
 have n20:w.heap.size < w2.heap.size:=by omega
 have n21:w.heap.size+1 < w2.heap.size:=by omega
 have n22:w1.heap.size < w2.heap.size:=by omega
 clear hz2
 go_wp2_with fail
 refine (za8 s p _ _ _ hs hp).mono ?_
 rintro e w3 ⟨rfl,hb3⟩
 obtain ⟨hc3,hf3,hz3⟩:=Dk.bcell hb3
 have n30:w.heap.size < w3.heap.size:=by omega
 have n31:w.heap.size+1 < w3.heap.size:=by omega
 have n32:w1.heap.size < w3.heap.size:=by omega
 clear hz3
 go_wp2_with fail
 refine (za8 s p _ _ _ hs hp).mono ?_
 rintro e w4 ⟨rfl,hb4⟩
 obtain ⟨hc4,hf4,hz4⟩:=Dk.bcell hb4
 have n40:w.heap.size < w4.heap.size:=by omega
 have n41:w.heap.size+1 < w4.heap.size:=by omega
 have n42:w1.heap.size < w4.heap.size:=by omega
 clear hz4
 go_wp2_with fail
 refine (za8 s p _ _ _ hs hp).mono ?_
 rintro e w5 ⟨rfl,hb5⟩
 obtain ⟨hc5,hf5,hz5⟩:=Dk.bcell hb5
 have n50:w.heap.size < w5.heap.size:=by omega
 have n51:w.heap.size+1 < w5.heap.size:=by omega
 have n52:w1.heap.size < w5.heap.size:=by omega
 clear hz5
 go_wp2_with fail
 go_ret
 exact ⟨zaa HS.out.symm,Dk.zi (Dk.zi (Dk.zi (Dk.zi (Dk.zb (Dk.zi (Dk.zb (Dk.zb (Below.refl _ _) _) _) hb1) _) hb2) hb3) hb4) hb5⟩
theorem sound_5 (s:Dk.Sh) (p:Dk.Prg) (i:Dk.Ins) (w:World) (hs:Lens s p) (hp:p.ok) (h0:(Dk.form i.op).2=true) (h1:Dk.mayB p (Dk.form i.op).1.1 (IntKind.u64.wrap i.a)=true) (h2:Dk.mayB p (Dk.form i.op).1.2.1 (IntKind.u64.wrap i.b)=true) (h3:Dk.mayB p (Dk.form i.op).1.2.2.1 (IntKind.u64.wrap i.c)=true) (h4:Dk.mayB p (Dk.form i.op).1.2.2.2 i.n=true) :
  Calls Tryz.prog 106 #[Dk.pv s p,Dk.iv i] w fun e w'=>e=.returned (.bool (Dk.soundB p i))∧Below w.heap.size w w':=by
 have HS:Hid (Dk.soundB p i=true):=by show _=true;rw [zcs,h0,h1,h2,h3,h4];rfl
 go_enter Tryz.func106,Tryz.ntmps106
 go_wp2_with fail
 refine (zbj _ _).mono ?_
 rintro e w1 ⟨rfl,hb1⟩
 obtain ⟨hc1,hf1,hz1⟩:=Dk.bcell hb1
 simp only [World.size_alloc] at hz1
 have hn0:w.heap.size < w1.heap.size:=by omega
 have hn1:w.heap.size+1 < w1.heap.size:=by omega
 clear hz1
 go_wp2_with fail
 refine (za8 s p _ _ _ hs hp).mono ?_
 rintro e w2 ⟨rfl,hb2⟩
 obtain ⟨hc2,hf2,hz2⟩:=Dk.bcell hb2
 simp only [World.size_alloc] at hz2
 have n20:w.heap.size < w2.heap.size:=by omega
 have n21:w.heap.size+1 < w2.heap.size:=by omega
 have n22:w1.heap.size < w2.heap.size:=by omega
 clear hz2
 go_wp2_with fail
 refine (za8 s p _ _ _ hs hp).mono ?_
 rintro e w3 ⟨rfl,hb3⟩
 obtain ⟨hc3,hf3,hz3⟩:=Dk.bcell hb3
 have n30:w.heap.size < w3.heap.size:=by omega
 have n31:w.heap.size+1 < w3.heap.size:=by omega
 have n32:w1.heap.size < w3.heap.size:=by omega
 clear hz3
 go_wp2_with fail
 refine (za8 s p _ _ _ hs hp).mono ?_
 rintro e w4 ⟨rfl,hb4⟩
 obtain ⟨hc4,hf4,hz4⟩:=Dk.bcell hb4
 have n40:w.heap.size < w4.heap.size:=by omega
 have n41:w.heap.size+1 < w4.heap.size:=by omega
 have n42:w1.heap.size < w4.heap.size:=by omega
 clear hz4
 go_wp2_with fail
 refine (za8 s p _ _ _ hs hp).mono ?_
 rintro e w5 ⟨rfl,hb5⟩
 obtain ⟨hc5,hf5,hz5⟩:=Dk.bcell hb5
 have n50:w.heap.size < w5.heap.size:=by omega
 have n51:w.heap.size+1 < w5.heap.size:=by omega
 have n52:w1.heap.size < w5.heap.size:=by omega
 clear hz5
 go_wp2_with fail
 go_ret
 exact ⟨zaa HS.out.symm,Dk.zi (Dk.zi (Dk.zi (Dk.zi (Dk.zb (Dk.zi (Dk.zb (Dk.zb (Below.refl _ _) _) _) hb1) _) hb2) hb3) hb4) hb5⟩
theorem zh1 (s:Dk.Sh) (p:Dk.Prg) (i:Dk.Ins) (w:World) (hs:Lens s p) (hp:p.ok) :
  Calls Tryz.prog 106 #[Dk.pv s p,Dk.iv i] w fun e w'=>e=.returned (.bool (Dk.soundB p i))∧Below w.heap.size w w':=by
 cases h0:(Dk.form i.op).2
 ·exact sound_0 s p i w hs hp h0
 cases h1:Dk.mayB p (Dk.form i.op).1.1 (IntKind.u64.wrap i.a)
 ·exact sound_1 s p i w hs hp h0 h1
 cases h2:Dk.mayB p (Dk.form i.op).1.2.1 (IntKind.u64.wrap i.b)
 ·exact sound_2 s p i w hs hp h0 h1 h2
 cases h3:Dk.mayB p (Dk.form i.op).1.2.2.1 (IntKind.u64.wrap i.c)
 ·exact sound_3 s p i w hs hp h0 h1 h2 h3
 cases h4:Dk.mayB p (Dk.form i.op).1.2.2.2 i.n
 ·exact sound_4 s p i w hs hp h0 h1 h2 h3 h4
 ·exact sound_5 s p i w hs hp h0 h1 h2 h3 h4
theorem zd6 (B:Nat) (s:Dk.Sh) (p:Dk.Prg) (w:World) (h:Dk.PrgAt B w s p) (hB:B≤w.heap.size) :
  Calls Tryz.prog 75 #[Dk.pv s p] w fun e w'=>e=.returned (.bool (Dk.allSoundB p))∧Below w.heap.size w w':=by
 have hmax:=h.funcs.max
 have hcap:=h.funcs.cap
 unfold maxLen at hmax
 have HL:Hid (p.funcs.length=s.fL):=h.funcs.len
 have hs:=zbq h
 have hp:=h.ok
 obtain ⟨sfA,sfL,sfC,sA,sL,sC,pA,pL,pC⟩:=s
 simp only at hmax hcap HL
 go_enter Tryz.func75,Tryz.ntmps75
 go_wp2
 go_loopw [10] (fun i w'=>∃ k:Nat,k≤sfL∧i=.int .i64 k∧Hid ((p.funcs.take k).all (fun c=>c.all fun i=>Dk.soundB p i)=true)∧Hid (Below (w.alloc (.cells #[.slice sfA sfL sfC,.int .i64 p.words,.int .i64 p.mutexes,.int .i64 p.conds,.slice sA sL sC,.slice pA pL pC,.int .i64 p.blocks,.int .i64 p.prio] 25)).heap.size (w.alloc (.cells #[.slice sfA sfL sfC,.int .i64 p.words,.int .i64 p.mutexes,.int .i64 p.conds,.slice sA sL sC,.slice pA pL pC,.int .i64 p.blocks,.int .i64 p.prio] 25)) w')) (fun i w'=>sfL - (intOf i).toNat)
 case atStart=>exact ⟨0,Nat.zero_le _,rfl,by show (p.funcs.take 0).all _=true;simp,Below.refl _ _⟩
 case round=>
  obtain ⟨k,hk,rfl,HA,HB⟩:=hrel
  by_cases hlt:k < sfL
  ·obtain ⟨b,o,rfl,hbB,hc⟩:=h.funcs.cells (by show 0 < sfL;omega)
   obtain ⟨A',L',C',hcell0,hn⟩:=hc k hlt
   have hcell:wr.cell? ⟨b,o+k,none⟩=some (.slice A' L' C'):=by
    rw [HB.out.cell (by simp;omega),(Dk.zb (Below.refl w.heap.size w) _).cell (by show b < w.heap.size;omega)];exact hcell0
   have hbox:=Dk.zcn HB.out
   clear hc hcell0
   have hmax':=hn.max
   have hcap':=hn.cap
   unfold maxLen at hmax'
   have HN:Hid ((p.funcs.getD k []).length=L'):=hn.len
   go_wp2
   clear hcell hbox
   go_loopw [16] (fun i w'=>∃ j:Nat,j≤L'∧i=.int .i64 j∧Hid (((p.funcs.getD k []).take j).all (fun i=>Dk.soundB p i)=true)∧Hid (Below (w.alloc (.cells #[.slice (some ⟨b,o,none⟩) sfL sfC,.int .i64 p.words,.int .i64 p.mutexes,.int .i64 p.conds,.slice sA sL sC,.slice pA pL pC,.int .i64 p.blocks,.int .i64 p.prio] 25)).heap.size (w.alloc (.cells #[.slice (some ⟨b,o,none⟩) sfL sfC,.int .i64 p.words,.int .i64 p.mutexes,.int .i64 p.conds,.slice sA sL sC,.slice pA pL pC,.int .i64 p.blocks,.int .i64 p.prio] 25)) w')) (fun i w'=>L' - (intOf i).toNat)
   case atStart=>exact ⟨0,Nat.zero_le _,rfl,by show (List.take 0 _).all _=true;simp,HB⟩
   case round=>
    obtain ⟨j,hj,rfl,HA2,HB2⟩:=hrel
    by_cases hlt2:j < L'
    ·obtain ⟨b',o',rfl,hbB',hc⟩:=hn.cells (by omega)
     have hx:=hc j hlt2
     generalize hg:(p.funcs.getD k []).getD j Dk.Ins.zero=x at hx
     have HG:Hid ((p.funcs.getD k []).getD j Dk.Ins.zero=x):=hg
     clear hg hc
     have up:∀ q,wr.cell? ⟨b',q,none⟩=w.cell? ⟨b',q,none⟩:=fun q=>by
      rw [HB2.out.cell (by simp;omega),(Dk.zb (Below.refl w.heap.size w) _).cell (by show b' < w.heap.size;omega)]
     have x0:=(up _).trans hx.1
     have x1:=(up _).trans hx.2.1
     have x2:=(up _).trans hx.2.2.1
     have x3:=(up _).trans hx.2.2.2.1
     have x4:=(up _).trans hx.2.2.2.2
     have hbox:=Dk.zcn HB2.out
     have hz:=HB2.out.size
     simp only [World.size_alloc] at hz
     have hz':w.heap.size < wr.heap.size:=by omega
     clear hx up hz
     cases hsd:Dk.soundB p x
     ·have HSD:Hid (Dk.soundB p x=false):=hsd
      go_wp2_with fail
      refine (zh1 _ p x _ hs hp).mono ?_
      rintro e w3 ⟨rfl,hb3⟩
      rw [HSD.out]
      go_wp2_with fail
      go_ret
      exact ⟨zaa (zkk p.funcs _ [] k (by rw [HL.out];exact hlt) (zkk _ _ Dk.Ins.zero j (by rw [HN.out];exact hlt2) (by rw [HG.out];exact HSD.out))).symm,Dk.zi (Dk.zb (Dk.zi (Dk.zb (Below.refl _ _) _) HB2.out) _) hb3⟩
     ·have HSD:Hid (Dk.soundB p x=true):=hsd
      go_wp2_with fail
      refine (zh1 _ p x _ hs hp).mono ?_
      rintro e w3 ⟨rfl,hb3⟩
      rw [HSD.out]
      go_wp2_with fail
      go_roundw
      case rel=>
       refine ⟨j+1,by omega,by go_num,?_,Dk.zi (Dk.zb HB2.out _) hb3⟩
       show List.all _ _=true
       rw [zbi _ _ Dk.Ins.zero j (by rw [HN.out];exact hlt2),HA2.out,HG.out,HSD.out]
       rfl
      case measure=>simp [intOf];omega
    ·go_wp2
     go_roundw
     case rel=>
      refine ⟨k+1,by omega,by go_num,?_,HB2⟩
      show List.all _ _=true
      have:=HA2.out
      rw [List.take_of_length_le (by rw [HN.out];omega)] at this
      rw [zbi _ _ [] k (by rw [HL.out];exact hlt),HA.out,this]
      rfl
     case measure=>simp [intOf];omega
  ·go_wp2
   go_ret
   refine ⟨zaa ?_,Dk.zi (Dk.zb (Below.refl _ _) _) HB.out⟩
   have:=HA.out
   rw [List.take_of_length_le (by rw [HL.out];omega)] at this
   exact this.symm
theorem zau {s:Dk.Sh} {p:Dk.Prg} (hs:Lens s p):Dk.objectsFitB p=(Dk.withinB p.words 0 64 && Dk.withinB p.mutexes 0 4 && Dk.withinB p.conds 0 4 && decide (s.sL≤4) && Dk.allWithinB p.sems 0 1048576 && decide (s.pL≤4) && Dk.allWithinB p.pipes 1 8 && Dk.withinB p.blocks 0 64 && Dk.withinB p.prio 0 7):=by
 unfold Dk.objectsFitB
 rw [hs.es,hs.ep]
theorem zo3 (B:Nat) (s:Dk.Sh) (p:Dk.Prg) (w:World) (h:Dk.PrgAt B w s p) (hB:B≤w.heap.size)  (h0:Dk.withinB p.words 0 64=false) :
  Calls Tryz.prog 74 #[Dk.pv s p] w fun e w'=>e=.returned (.bool (Dk.objectsFitB p))∧Below w.heap.size w w':=by
 have HS:Hid (Dk.objectsFitB p=false):=by show _=false;rw [zau (zbq h),h0];simp
 go_enter Tryz.func74,Tryz.ntmps74
 go_wp2_with fail
 refine (zg _ _ _ _).mono ?_
 rintro e w' ⟨rfl,rfl⟩
 go_wp2_with fail
 go_ret
 exact ⟨zaa HS.out.symm,Dk.zb (Below.refl _ _) _⟩
theorem zo4 (B:Nat) (s:Dk.Sh) (p:Dk.Prg) (w:World) (h:Dk.PrgAt B w s p) (hB:B≤w.heap.size) (h0:Dk.withinB p.words 0 64=true) (h1:Dk.withinB p.mutexes 0 4=false) :
  Calls Tryz.prog 74 #[Dk.pv s p] w fun e w'=>e=.returned (.bool (Dk.objectsFitB p))∧Below w.heap.size w w':=by
 have HS:Hid (Dk.objectsFitB p=false):=by show _=false;rw [zau (zbq h),h0,h1];simp
 go_enter Tryz.func74,Tryz.ntmps74
 go_wp2_with fail
 refine (zg _ _ _ _).mono ?_
 rintro e w' ⟨rfl,rfl⟩
 go_wp2_with fail
 refine (zg _ _ _ _).mono ?_
 rintro e w' ⟨rfl,rfl⟩
 go_wp2_with fail
 go_ret
 exact ⟨zaa HS.out.symm,Dk.zb (Below.refl _ _) _⟩
theorem zo5 (B:Nat) (s:Dk.Sh) (p:Dk.Prg) (w:World) (h:Dk.PrgAt B w s p) (hB:B≤w.heap.size) (h0:Dk.withinB p.words 0 64=true) (h1:Dk.withinB p.mutexes 0 4=true) (h2:Dk.withinB p.conds 0 4=false) :
  Calls Tryz.prog 74 #[Dk.pv s p] w fun e w'=>e=.returned (.bool (Dk.objectsFitB p))∧Below w.heap.size w w':=by
 have HS:Hid (Dk.objectsFitB p=false):=by show _=false;rw [zau (zbq h),h0,h1,h2];simp
 go_enter Tryz.func74,Tryz.ntmps74
 go_wp2_with fail
 refine (zg _ _ _ _).mono ?_
 rintro e w' ⟨rfl,rfl⟩
 go_wp2_with fail
 refine (zg _ _ _ _).mono ?_
 rintro e w' ⟨rfl,rfl⟩
 go_wp2_with fail
 refine (zg _ _ _ _).mono ?_
 rintro e w' ⟨rfl,rfl⟩
 go_wp2_with fail
 go_ret
 exact ⟨zaa HS.out.symm,Dk.zb (Below.refl _ _) _⟩
theorem zo6 (B:Nat) (s:Dk.Sh) (p:Dk.Prg) (w:World) (h:Dk.PrgAt B w s p) (hB:B≤w.heap.size) (h0:Dk.withinB p.words 0 64=true) (h1:Dk.withinB p.mutexes 0 4=true) (h2:Dk.withinB p.conds 0 4=true) (h3:4 < s.sL) :
  Calls Tryz.prog 74 #[Dk.pv s p] w fun e w'=>e=.returned (.bool (Dk.objectsFitB p))∧Below w.heap.size w w':=by
 have HS:Hid (Dk.objectsFitB p=false):=by show _=false;rw [zau (zbq h),h0,h1,h2,decide_eq_false (Nat.not_le_of_lt h3)];simp
 go_enter Tryz.func74,Tryz.ntmps74
 go_wp2_with fail
 refine (zg _ _ _ _).mono ?_
 rintro e w' ⟨rfl,rfl⟩
 go_wp2_with fail
 refine (zg _ _ _ _).mono ?_
 rintro e w' ⟨rfl,rfl⟩
 go_wp2_with fail
 refine (zg _ _ _ _).mono ?_
 rintro e w' ⟨rfl,rfl⟩
 go_wp2_with fail
 go_ret
 exact ⟨zaa HS.out.symm,Dk.zb (Below.refl _ _) _⟩
theorem zo7 (B:Nat) (s:Dk.Sh) (p:Dk.Prg) (w:World) (h:Dk.PrgAt B w s p) (hB:B≤w.heap.size) (h0:Dk.withinB p.words 0 64=true) (h1:Dk.withinB p.mutexes 0 4=true) (h2:Dk.withinB p.conds 0 4=true) (h3:s.sL≤4) (h4:Dk.allWithinB p.sems 0 1048576=false) :
  Calls Tryz.prog 74 #[Dk.pv s p] w fun e w'=>e=.returned (.bool (Dk.objectsFitB p))∧Below w.heap.size w w':=by
 have HS:Hid (Dk.objectsFitB p=false):=by show _=false;rw [zau (zbq h),h0,h1,h2,decide_eq_true h3,h4];simp
 go_enter Tryz.func74,Tryz.ntmps74
 go_wp2_with fail
 refine (zg _ _ _ _).mono ?_
 rintro e w' ⟨rfl,rfl⟩
 go_wp2_with fail
 refine (zg _ _ _ _).mono ?_
 rintro e w' ⟨rfl,rfl⟩
 go_wp2_with fail
 refine (zg _ _ _ _).mono ?_
 rintro e w' ⟨rfl,rfl⟩
 go_wp2_with fail
 refine (zab B _ _ _ p.sems _ _ _ (h.sems.below (Dk.zb (Below.refl _ _) _) hB)).mono ?_
 rintro e w' ⟨rfl,rfl⟩
 go_wp2_with fail
 go_ret
 exact ⟨zaa HS.out.symm,Dk.zb (Below.refl _ _) _⟩
theorem zo8 (B:Nat) (s:Dk.Sh) (p:Dk.Prg) (w:World) (h:Dk.PrgAt B w s p) (hB:B≤w.heap.size) (h0:Dk.withinB p.words 0 64=true) (h1:Dk.withinB p.mutexes 0 4=true) (h2:Dk.withinB p.conds 0 4=true) (h3:s.sL≤4) (h4:Dk.allWithinB p.sems 0 1048576=true) (h5:4 < s.pL) :
  Calls Tryz.prog 74 #[Dk.pv s p] w fun e w'=>e=.returned (.bool (Dk.objectsFitB p))∧Below w.heap.size w w':=by
 have HS:Hid (Dk.objectsFitB p=false):=by show _=false;rw [zau (zbq h),h0,h1,h2,decide_eq_true h3,h4,decide_eq_false (Nat.not_le_of_lt h5)];simp
 go_enter Tryz.func74,Tryz.ntmps74
 go_wp2_with fail
 refine (zg _ _ _ _).mono ?_
 rintro e w' ⟨rfl,rfl⟩
 go_wp2_with fail
 refine (zg _ _ _ _).mono ?_
 rintro e w' ⟨rfl,rfl⟩
 go_wp2_with fail
 refine (zg _ _ _ _).mono ?_
 rintro e w' ⟨rfl,rfl⟩
 go_wp2_with fail
 refine (zab B _ _ _ p.sems _ _ _ (h.sems.below (Dk.zb (Below.refl _ _) _) hB)).mono ?_
 rintro e w' ⟨rfl,rfl⟩
 go_wp2_with fail
 go_ret
 exact ⟨zaa HS.out.symm,Dk.zb (Below.refl _ _) _⟩
theorem zo9 (B:Nat) (s:Dk.Sh) (p:Dk.Prg) (w:World) (h:Dk.PrgAt B w s p) (hB:B≤w.heap.size) (h0:Dk.withinB p.words 0 64=true) (h1:Dk.withinB p.mutexes 0 4=true) (h2:Dk.withinB p.conds 0 4=true) (h3:s.sL≤4) (h4:Dk.allWithinB p.sems 0 1048576=true) (h5:s.pL≤4) (h6:Dk.allWithinB p.pipes 1 8=false) :
  Calls Tryz.prog 74 #[Dk.pv s p] w fun e w'=>e=.returned (.bool (Dk.objectsFitB p))∧Below w.heap.size w w':=by
 have HS:Hid (Dk.objectsFitB p=false):=by show _=false;rw [zau (zbq h),h0,h1,h2,decide_eq_true h3,h4,decide_eq_true h5,h6];simp
 go_enter Tryz.func74,Tryz.ntmps74
 go_wp2_with fail
 refine (zg _ _ _ _).mono ?_
 rintro e w' ⟨rfl,rfl⟩
 go_wp2_with fail
 refine (zg _ _ _ _).mono ?_
 rintro e w' ⟨rfl,rfl⟩
 go_wp2_with fail
 refine (zg _ _ _ _).mono ?_
 rintro e w' ⟨rfl,rfl⟩
 go_wp2_with fail
 refine (zab B _ _ _ p.sems _ _ _ (h.sems.below (Dk.zb (Below.refl _ _) _) hB)).mono ?_
 rintro e w' ⟨rfl,rfl⟩
 go_wp2_with fail
 refine (zab B _ _ _ p.pipes _ _ _ (h.pipes.below (Dk.zb (Below.refl _ _) _) hB)).mono ?_
 rintro e w' ⟨rfl,rfl⟩
 go_wp2_with fail
 go_ret
 exact ⟨zaa HS.out.symm,Dk.zb (Below.refl _ _) _⟩
theorem zpa (B:Nat) (s:Dk.Sh) (p:Dk.Prg) (w:World) (h:Dk.PrgAt B w s p) (hB:B≤w.heap.size) (h0:Dk.withinB p.words 0 64=true) (h1:Dk.withinB p.mutexes 0 4=true) (h2:Dk.withinB p.conds 0 4=true) (h3:s.sL≤4) (h4:Dk.allWithinB p.sems 0 1048576=true) (h5:s.pL≤4) (h6:Dk.allWithinB p.pipes 1 8=true) (h7:Dk.withinB p.blocks 0 64=false) :
  Calls Tryz.prog 74 #[Dk.pv s p] w fun e w'=>e=.returned (.bool (Dk.objectsFitB p))∧Below w.heap.size w w':=by
 have HS:Hid (Dk.objectsFitB p=false):=by show _=false;rw [zau (zbq h),h0,h1,h2,decide_eq_true h3,h4,decide_eq_true h5,h6,h7];simp
 go_enter Tryz.func74,Tryz.ntmps74
 go_wp2_with fail
 refine (zg _ _ _ _).mono ?_
 rintro e w' ⟨rfl,rfl⟩
 go_wp2_with fail
 refine (zg _ _ _ _).mono ?_
 rintro e w' ⟨rfl,rfl⟩
 go_wp2_with fail
 refine (zg _ _ _ _).mono ?_
 rintro e w' ⟨rfl,rfl⟩
 go_wp2_with fail
 refine (zab B _ _ _ p.sems _ _ _ (h.sems.below (Dk.zb (Below.refl _ _) _) hB)).mono ?_
 rintro e w' ⟨rfl,rfl⟩
 go_wp2_with fail
 refine (zab B _ _ _ p.pipes _ _ _ (h.pipes.below (Dk.zb (Below.refl _ _) _) hB)).mono ?_
 rintro e w' ⟨rfl,rfl⟩
 go_wp2_with fail
 refine (zg _ _ _ _).mono ?_
 rintro e w' ⟨rfl,rfl⟩
 go_wp2_with fail
 go_ret
 exact ⟨zaa HS.out.symm,Dk.zb (Below.refl _ _) _⟩
theorem zpb (B:Nat) (s:Dk.Sh) (p:Dk.Prg) (w:World) (h:Dk.PrgAt B w s p) (hB:B≤w.heap.size) (h0:Dk.withinB p.words 0 64=true) (h1:Dk.withinB p.mutexes 0 4=true) (h2:Dk.withinB p.conds 0 4=true) (h3:s.sL≤4) (h4:Dk.allWithinB p.sems 0 1048576=true) (h5:s.pL≤4) (h6:Dk.allWithinB p.pipes 1 8=true) (h7:Dk.withinB p.blocks 0 64=true) (h8:Dk.withinB p.prio 0 7=false) :
  Calls Tryz.prog 74 #[Dk.pv s p] w fun e w'=>e=.returned (.bool (Dk.objectsFitB p))∧Below w.heap.size w w':=by
 have HS:Hid (Dk.objectsFitB p=false):=by show _=false;rw [zau (zbq h),h0,h1,h2,decide_eq_true h3,h4,decide_eq_true h5,h6,h7,h8];simp
 go_enter Tryz.func74,Tryz.ntmps74
 go_wp2_with fail
 refine (zg _ _ _ _).mono ?_
 rintro e w' ⟨rfl,rfl⟩
 go_wp2_with fail
 refine (zg _ _ _ _).mono ?_
 rintro e w' ⟨rfl,rfl⟩
 go_wp2_with fail
 refine (zg _ _ _ _).mono ?_
 rintro e w' ⟨rfl,rfl⟩
 go_wp2_with fail
 refine (zab B _ _ _ p.sems _ _ _ (h.sems.below (Dk.zb (Below.refl _ _) _) hB)).mono ?_
 rintro e w' ⟨rfl,rfl⟩
 go_wp2_with fail
 refine (zab B _ _ _ p.pipes _ _ _ (h.pipes.below (Dk.zb (Below.refl _ _) _) hB)).mono ?_
 rintro e w' ⟨rfl,rfl⟩
 go_wp2_with fail
 refine (zg _ _ _ _).mono ?_
 rintro e w' ⟨rfl,rfl⟩
 go_wp2_with fail
 refine (zg _ _ _ _).mono ?_
 rintro e w' ⟨rfl,rfl⟩
 go_wp2_with fail
 go_ret
 exact ⟨zaa HS.out.symm,Dk.zb (Below.refl _ _) _⟩
theorem zpc (B:Nat) (s:Dk.Sh) (p:Dk.Prg) (w:World) (h:Dk.PrgAt B w s p) (hB:B≤w.heap.size) (h0:Dk.withinB p.words 0 64=true) (h1:Dk.withinB p.mutexes 0 4=true) (h2:Dk.withinB p.conds 0 4=true) (h3:s.sL≤4) (h4:Dk.allWithinB p.sems 0 1048576=true) (h5:s.pL≤4) (h6:Dk.allWithinB p.pipes 1 8=true) (h7:Dk.withinB p.blocks 0 64=true) (h8:Dk.withinB p.prio 0 7=true) :
  Calls Tryz.prog 74 #[Dk.pv s p] w fun e w'=>e=.returned (.bool (Dk.objectsFitB p))∧Below w.heap.size w w':=by
 have HS:Hid (Dk.objectsFitB p=true):=by show _=true;rw [zau (zbq h),h0,h1,h2,decide_eq_true h3,h4,decide_eq_true h5,h6,h7,h8];simp
 go_enter Tryz.func74,Tryz.ntmps74
 go_wp2_with fail
 refine (zg _ _ _ _).mono ?_
 rintro e w' ⟨rfl,rfl⟩
 go_wp2_with fail
 refine (zg _ _ _ _).mono ?_
 rintro e w' ⟨rfl,rfl⟩
 go_wp2_with fail
 refine (zg _ _ _ _).mono ?_
 rintro e w' ⟨rfl,rfl⟩
 go_wp2_with fail
 refine (zab B _ _ _ p.sems _ _ _ (h.sems.below (Dk.zb (Below.refl _ _) _) hB)).mono ?_
 rintro e w' ⟨rfl,rfl⟩
 go_wp2_with fail
 refine (zab B _ _ _ p.pipes _ _ _ (h.pipes.below (Dk.zb (Below.refl _ _) _) hB)).mono ?_
 rintro e w' ⟨rfl,rfl⟩
 go_wp2_with fail
 refine (zg _ _ _ _).mono ?_
 rintro e w' ⟨rfl,rfl⟩
 go_wp2_with fail
 refine (zg _ _ _ _).mono ?_
 rintro e w' ⟨rfl,rfl⟩
 go_wp2_with fail
 go_ret
 exact ⟨zaa HS.out.symm,Dk.zb (Below.refl _ _) _⟩
theorem zb1 (B:Nat) (s:Dk.Sh) (p:Dk.Prg) (w:World) (h:Dk.PrgAt B w s p) (hB:B≤w.heap.size) :
  Calls Tryz.prog 74 #[Dk.pv s p] w fun e w'=>e=.returned (.bool (Dk.objectsFitB p))∧Below w.heap.size w w':=by
 cases h0:Dk.withinB p.words 0 64
 ·exact zo3 B s p w h hB h0
 cases h1:Dk.withinB p.mutexes 0 4
 ·exact zo4 B s p w h hB h0 h1
 cases h2:Dk.withinB p.conds 0 4
 ·exact zo5 B s p w h hB h0 h1 h2
 by_cases h3':s.sL≤4
 case neg=>exact zo6 B s p w h hB h0 h1 h2 (by omega)
 have h3:=h3'
 cases h4:Dk.allWithinB p.sems 0 1048576
 ·exact zo7 B s p w h hB h0 h1 h2 h3 h4
 by_cases h5':s.pL≤4
 case neg=>exact zo8 B s p w h hB h0 h1 h2 h3 h4 (by omega)
 have h5:=h5'
 cases h6:Dk.allWithinB p.pipes 1 8
 ·exact zo9 B s p w h hB h0 h1 h2 h3 h4 h5 h6
 cases h7:Dk.withinB p.blocks 0 64
 ·exact zpa B s p w h hB h0 h1 h2 h3 h4 h5 h6 h7
 cases h8:Dk.withinB p.prio 0 7
 ·exact zpb B s p w h hB h0 h1 h2 h3 h4 h5 h6 h7 h8
 exact zpc B s p w h hB h0 h1 h2 h3 h4 h5 h6 h7 h8
theorem check_a (B:Nat) (s:Dk.Sh) (p:Dk.Prg) (w:World) (h:Dk.PrgAt B w s p) (hB:B≤w.heap.size) (h1:Dk.codeFitsB p.funcs=false) :
  Calls Tryz.prog 43 #[Dk.pv s p] w fun e w'=>e=.returned (.int .i64 (Dk.check p))∧Below w.heap.size w w':=by
 have HS:Hid (Dk.check p=9):=by show _=9;unfold Dk.check;rw [h1];rfl
 go_enter Tryz.func43,Tryz.ntmps43
 go_wp2_with fail
 refine (zbt B _ _ _ p.funcs _ (h.funcs.below (Dk.zb (Below.refl _ _) _) hB)).mono ?_
 rintro e w' ⟨rfl,rfl⟩
 go_wp2_with fail
 go_ret
 exact ⟨zhj HS.out.symm,Dk.zb (Below.refl _ _) _⟩
theorem check_b (B:Nat) (s:Dk.Sh) (p:Dk.Prg) (w:World) (h:Dk.PrgAt B w s p) (hB:B≤w.heap.size) (h1:Dk.codeFitsB p.funcs=true) (h2:Dk.objectsFitB p=false) :
  Calls Tryz.prog 43 #[Dk.pv s p] w fun e w'=>e=.returned (.int .i64 (Dk.check p))∧Below w.heap.size w w':=by
 have HS:Hid (Dk.check p=9):=by show _=9;unfold Dk.check;rw [h1,h2];rfl
 go_enter Tryz.func43,Tryz.ntmps43
 go_wp2_with fail
 refine (zbt B _ _ _ p.funcs _ (h.funcs.below (Dk.zb (Below.refl _ _) _) hB)).mono ?_
 rintro e w' ⟨rfl,rfl⟩
 go_wp2_with fail
 refine (zb1 B s p _ (h.below (Dk.zb (Below.refl _ _) _) hB) (by simp;omega)).mono ?_
 rintro e w2 ⟨rfl,hb2⟩
 have hbox:=Dk.zcn hb2
 go_wp2_with fail
 go_ret
 exact ⟨zhj HS.out.symm,Dk.zi (Dk.zb (Below.refl _ _) _) hb2⟩
theorem check_c (B:Nat) (s:Dk.Sh) (p:Dk.Prg) (w:World) (h:Dk.PrgAt B w s p) (hB:B≤w.heap.size) (h1:Dk.codeFitsB p.funcs=true) (h2:Dk.objectsFitB p=true) (h3:Dk.allSoundB p=false) :
  Calls Tryz.prog 43 #[Dk.pv s p] w fun e w'=>e=.returned (.int .i64 (Dk.check p))∧Below w.heap.size w w':=by
 have HS:Hid (Dk.check p=8):=by show _=8;unfold Dk.check;rw [h1,h2,h3];rfl
 go_enter Tryz.func43,Tryz.ntmps43
 go_wp2_with fail
 refine (zbt B _ _ _ p.funcs _ (h.funcs.below (Dk.zb (Below.refl _ _) _) hB)).mono ?_
 rintro e w' ⟨rfl,rfl⟩
 go_wp2_with fail
 refine (zb1 B s p _ (h.below (Dk.zb (Below.refl _ _) _) hB) (by simp;omega)).mono ?_
 rintro e w2 ⟨rfl,hb2⟩
 have hbox:=Dk.zcn hb2
 go_wp2_with fail
 refine (zd6 B s p _ (h.below (Dk.zi (Dk.zb (Below.refl _ _) _) hb2) hB) (by have:=hb2.size;simp at this;omega)).mono ?_
 rintro e w3 ⟨rfl,hb3⟩
 go_wp2_with fail
 go_ret
 exact ⟨zhj HS.out.symm,Dk.zi (Dk.zi (Dk.zb (Below.refl _ _) _) hb2) hb3⟩
theorem check_d (B:Nat) (s:Dk.Sh) (p:Dk.Prg) (w:World) (h:Dk.PrgAt B w s p) (hB:B≤w.heap.size) (h1:Dk.codeFitsB p.funcs=true) (h2:Dk.objectsFitB p=true) (h3:Dk.allSoundB p=true) :
  Calls Tryz.prog 43 #[Dk.pv s p] w fun e w'=>e=.returned (.int .i64 (Dk.check p))∧Below w.heap.size w w':=by
 have HS:Hid (Dk.check p=0):=by show _=0;unfold Dk.check;rw [h1,h2,h3];rfl
 go_enter Tryz.func43,Tryz.ntmps43
 go_wp2_with fail
 refine (zbt B _ _ _ p.funcs _ (h.funcs.below (Dk.zb (Below.refl _ _) _) hB)).mono ?_
 rintro e w' ⟨rfl,rfl⟩
 go_wp2_with fail
 refine (zb1 B s p _ (h.below (Dk.zb (Below.refl _ _) _) hB) (by simp;omega)).mono ?_
 rintro e w2 ⟨rfl,hb2⟩
 have hbox:=Dk.zcn hb2
 go_wp2_with fail
 refine (zd6 B s p _ (h.below (Dk.zi (Dk.zb (Below.refl _ _) _) hb2) hB) (by have:=hb2.size;simp at this;omega)).mono ?_
 rintro e w3 ⟨rfl,hb3⟩
 go_wp2_with fail
 go_ret
 exact ⟨zhj HS.out.symm,Dk.zi (Dk.zi (Dk.zb (Below.refl _ _) _) hb2) hb3⟩
theorem zhw (B:Nat) (s:Dk.Sh) (p:Dk.Prg) (w:World) (h:Dk.PrgAt B w s p) (hB:B≤w.heap.size) :
  Calls Tryz.prog 43 #[Dk.pv s p] w fun e w'=>e=.returned (.int .i64 (Dk.check p))∧Below w.heap.size w w':=by
 cases h1:Dk.codeFitsB p.funcs
 ·exact check_a B s p w h hB h1
 cases h2:Dk.objectsFitB p
 ·exact check_b B s p w h hB h1 h2
 cases h3:Dk.allSoundB p
 ·exact check_c B s p w h hB h1 h2 h3
 ·exact check_d B s p w h hB h1 h2 h3
end Go.Proofs.YtglhhlfopccmaaaGreat
