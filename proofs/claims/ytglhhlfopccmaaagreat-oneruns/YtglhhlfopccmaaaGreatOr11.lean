import Derived.Test.YtglhhlfopccmaaaGreatOr10
set_option linter.unusedSimpArgs false
set_option linter.unusedVariables false
set_option linter.unnecessarySimpa false
set_option maxHeartbeats 8000000
set_option maxRecDepth 100000
namespace Go.Proofs.YtglhhlfopccmaaaGreat
open Go.RowKit
theorem zig {p:Dk.Prg} (hp:p.ok) (x:Int):Dk.i64 (Dk.choices p x):=by
 obtain ⟨h1,h2,h3,h4,h5⟩:=hp
 unfold Dk.i64 at *
 unfold Dk.choices
 repeat' split
 all_goals omega
structure Lens (s:Dk.Sh) (p:Dk.Prg):Prop where
 ef:p.funcs.length=s.fL
 es:p.sems.length=s.sL
 ep:p.pipes.length=s.pL
theorem zbf {B:Nat} {w:World} {s:Dk.Sh} {p:Dk.Prg} (h:Dk.PrgAt B w s p):Lens s p:=⟨h.funcs.len,h.sems.len,h.pipes.len⟩
theorem za2 (s:Dk.Sh) (p:Dk.Prg) (x v:Int) (w:World) (hs:Lens s p) (hp:p.ok) :
  Calls Tryz.prog 136 #[.int .i64 x,Dk.pv s p,.int .u64 v] w fun e w'=>e=.returned (.bool (Dk.mayB p x v))∧Below w.heap.size w w':=
 znu s p x v w hs.ef hs.es hs.ep (zig hp x)
theorem zch (p:Dk.Prg) (i:Dk.Ins):Dk.soundB p i=((Dk.form i.op).2 && Dk.mayB p (Dk.form i.op).1.1 (IntKind.u64.wrap i.a) && Dk.mayB p (Dk.form i.op).1.2.1 (IntKind.u64.wrap i.b) && Dk.mayB p (Dk.form i.op).1.2.2.1 (IntKind.u64.wrap i.c) && Dk.mayB p (Dk.form i.op).1.2.2.2 i.n):=by
 unfold Dk.soundB
 rw [zf3,zf3,zf3]
theorem sound_0 (s:Dk.Sh) (p:Dk.Prg) (i:Dk.Ins) (w:World) (hs:Lens s p) (hp:p.ok)  (h0:(Dk.form i.op).2=false) :
  Calls Tryz.prog 106 #[Dk.pv s p,Dk.iv i] w fun e w'=>e=.returned (.bool (Dk.soundB p i))∧Below w.heap.size w w':=by
 have HS:Hid (Dk.soundB p i=false):=by show _=false;rw [zch,h0];rfl
 go_enter Tryz.func106,Tryz.ntmps106
 go_wp2_with fail
 refine (zbb _ _).mono ?_
 rintro e w1 ⟨rfl,hb1⟩
 obtain ⟨hc1,hf1,hz1⟩:=Dk.bcell hb1
 simp only [World.size_alloc] at hz1
 have hn0:w.heap.size < w1.heap.size:=by omega
 have hn1:w.heap.size+1 < w1.heap.size:=by omega
 clear hz1
 go_wp2_with fail
 go_ret
 exact ⟨zw HS.out.symm,Dk.zb (Dk.zk (Dk.zb (Dk.zb (Below.refl _ _) _) _) hb1) _⟩
theorem sound_1 (s:Dk.Sh) (p:Dk.Prg) (i:Dk.Ins) (w:World) (hs:Lens s p) (hp:p.ok) (h0:(Dk.form i.op).2=true) (h1:Dk.mayB p (Dk.form i.op).1.1 (IntKind.u64.wrap i.a)=false) :
  Calls Tryz.prog 106 #[Dk.pv s p,Dk.iv i] w fun e w'=>e=.returned (.bool (Dk.soundB p i))∧Below w.heap.size w w':=by
 have HS:Hid (Dk.soundB p i=false):=by show _=false;rw [zch,h0,h1];rfl
 go_enter Tryz.func106,Tryz.ntmps106
 go_wp2_with fail
 refine (zbb _ _).mono ?_
 rintro e w1 ⟨rfl,hb1⟩
 obtain ⟨hc1,hf1,hz1⟩:=Dk.bcell hb1
 simp only [World.size_alloc] at hz1
 have hn0:w.heap.size < w1.heap.size:=by omega
 have hn1:w.heap.size+1 < w1.heap.size:=by omega
 clear hz1
 go_wp2_with fail
 refine (za2 s p _ _ _ hs hp).mono ?_
 rintro e w2 ⟨rfl,hb2⟩
 obtain ⟨hc2,hf2,hz2⟩:=Dk.bcell hb2
 simp only [World.size_alloc] at hz2
 have n20:w.heap.size < w2.heap.size:=by omega
 have n21:w.heap.size+1 < w2.heap.size:=by omega
 have n22:w1.heap.size < w2.heap.size:=by omega
 clear hz2
 go_wp2_with fail
 go_ret
 exact ⟨zw HS.out.symm,Dk.zk (Dk.zb (Dk.zk (Dk.zb (Dk.zb (Below.refl _ _) _) _) hb1) _) hb2⟩
theorem sound_2 (s:Dk.Sh) (p:Dk.Prg) (i:Dk.Ins) (w:World) (hs:Lens s p) (hp:p.ok) (h0:(Dk.form i.op).2=true) (h1:Dk.mayB p (Dk.form i.op).1.1 (IntKind.u64.wrap i.a)=true) (h2:Dk.mayB p (Dk.form i.op).1.2.1 (IntKind.u64.wrap i.b)=false) :
  Calls Tryz.prog 106 #[Dk.pv s p,Dk.iv i] w fun e w'=>e=.returned (.bool (Dk.soundB p i))∧Below w.heap.size w w':=by
 have HS:Hid (Dk.soundB p i=false):=by show _=false;rw [zch,h0,h1,h2];rfl
 go_enter Tryz.func106,Tryz.ntmps106
 go_wp2_with fail
 refine (zbb _ _).mono ?_
 rintro e w1 ⟨rfl,hb1⟩
 obtain ⟨hc1,hf1,hz1⟩:=Dk.bcell hb1
 simp only [World.size_alloc] at hz1
 have hn0:w.heap.size < w1.heap.size:=by omega
 have hn1:w.heap.size+1 < w1.heap.size:=by omega
 clear hz1
 go_wp2_with fail
 refine (za2 s p _ _ _ hs hp).mono ?_
 rintro e w2 ⟨rfl,hb2⟩
 obtain ⟨hc2,hf2,hz2⟩:=Dk.bcell hb2
 simp only [World.size_alloc] at hz2
 have n20:w.heap.size < w2.heap.size:=by omega
 have n21:w.heap.size+1 < w2.heap.size:=by omega
 have n22:w1.heap.size < w2.heap.size:=by omega
 clear hz2
 go_wp2_with fail
 refine (za2 s p _ _ _ hs hp).mono ?_
 rintro e w3 ⟨rfl,hb3⟩
 obtain ⟨hc3,hf3,hz3⟩:=Dk.bcell hb3
 have n30:w.heap.size < w3.heap.size:=by omega
 have n31:w.heap.size+1 < w3.heap.size:=by omega
 have n32:w1.heap.size < w3.heap.size:=by omega
 clear hz3
 go_wp2_with fail
 go_ret
 exact ⟨zw HS.out.symm,Dk.zk (Dk.zk (Dk.zb (Dk.zk (Dk.zb (Dk.zb (Below.refl _ _) _) _) hb1) _) hb2) hb3⟩
theorem sound_3 (s:Dk.Sh) (p:Dk.Prg) (i:Dk.Ins) (w:World) (hs:Lens s p) (hp:p.ok) (h0:(Dk.form i.op).2=true) (h1:Dk.mayB p (Dk.form i.op).1.1 (IntKind.u64.wrap i.a)=true) (h2:Dk.mayB p (Dk.form i.op).1.2.1 (IntKind.u64.wrap i.b)=true) (h3:Dk.mayB p (Dk.form i.op).1.2.2.1 (IntKind.u64.wrap i.c)=false) :
  Calls Tryz.prog 106 #[Dk.pv s p,Dk.iv i] w fun e w'=>e=.returned (.bool (Dk.soundB p i))∧Below w.heap.size w w':=by
 have HS:Hid (Dk.soundB p i=false):=by show _=false;rw [zch,h0,h1,h2,h3];rfl
 go_enter Tryz.func106,Tryz.ntmps106
 go_wp2_with fail
 refine (zbb _ _).mono ?_
 rintro e w1 ⟨rfl,hb1⟩
 obtain ⟨hc1,hf1,hz1⟩:=Dk.bcell hb1
 simp only [World.size_alloc] at hz1
 have hn0:w.heap.size < w1.heap.size:=by omega
 have hn1:w.heap.size+1 < w1.heap.size:=by omega
 clear hz1
 go_wp2_with fail
 refine (za2 s p _ _ _ hs hp).mono ?_
 rintro e w2 ⟨rfl,hb2⟩
 obtain ⟨hc2,hf2,hz2⟩:=Dk.bcell hb2
 simp only [World.size_alloc] at hz2
 have n20:w.heap.size < w2.heap.size:=by omega
 have n21:w.heap.size+1 < w2.heap.size:=by omega
 have n22:w1.heap.size < w2.heap.size:=by omega
 clear hz2
 go_wp2_with fail
 refine (za2 s p _ _ _ hs hp).mono ?_
 rintro e w3 ⟨rfl,hb3⟩
 obtain ⟨hc3,hf3,hz3⟩:=Dk.bcell hb3
 have n30:w.heap.size < w3.heap.size:=by omega
 have n31:w.heap.size+1 < w3.heap.size:=by omega
 have n32:w1.heap.size < w3.heap.size:=by omega
 clear hz3
 go_wp2_with fail
 refine (za2 s p _ _ _ hs hp).mono ?_
 rintro e w4 ⟨rfl,hb4⟩
 obtain ⟨hc4,hf4,hz4⟩:=Dk.bcell hb4
 have n40:w.heap.size < w4.heap.size:=by omega
 have n41:w.heap.size+1 < w4.heap.size:=by omega
 have n42:w1.heap.size < w4.heap.size:=by omega
 clear hz4
 go_wp2_with fail
 go_ret
 exact ⟨zw HS.out.symm,Dk.zk (Dk.zk (Dk.zk (Dk.zb (Dk.zk (Dk.zb (Dk.zb (Below.refl _ _) _) _) hb1) _) hb2) hb3) hb4⟩
theorem sound_4 (s:Dk.Sh) (p:Dk.Prg) (i:Dk.Ins) (w:World) (hs:Lens s p) (hp:p.ok) (h0:(Dk.form i.op).2=true) (h1:Dk.mayB p (Dk.form i.op).1.1 (IntKind.u64.wrap i.a)=true) (h2:Dk.mayB p (Dk.form i.op).1.2.1 (IntKind.u64.wrap i.b)=true) (h3:Dk.mayB p (Dk.form i.op).1.2.2.1 (IntKind.u64.wrap i.c)=true) (h4:Dk.mayB p (Dk.form i.op).1.2.2.2 i.n=false) :
  Calls Tryz.prog 106 #[Dk.pv s p,Dk.iv i] w fun e w'=>e=.returned (.bool (Dk.soundB p i))∧Below w.heap.size w w':=by
 have HS:Hid (Dk.soundB p i=false):=by show _=false;rw [zch,h0,h1,h2,h3,h4,Bool.and_false]
 go_enter Tryz.func106,Tryz.ntmps106
 go_wp2_with fail
 refine (zbb _ _).mono ?_
 rintro e w1 ⟨rfl,hb1⟩
 obtain ⟨hc1,hf1,hz1⟩:=Dk.bcell hb1
 simp only [World.size_alloc] at hz1
 have hn0:w.heap.size < w1.heap.size:=by omega
 have hn1:w.heap.size+1 < w1.heap.size:=by omega
 clear hz1
 go_wp2_with fail
 refine (za2 s p _ _ _ hs hp).mono ?_
 rintro e w2 ⟨rfl,hb2⟩
 obtain ⟨hc2,hf2,hz2⟩:=Dk.bcell hb2
 simp only [World.size_alloc] at hz2
 have n20:w.heap.size < w2.heap.size:=by omega
 have n21:w.heap.size+1 < w2.heap.size:=by omega
 have n22:w1.heap.size < w2.heap.size:=by omega
 clear hz2
 go_wp2_with fail
 refine (za2 s p _ _ _ hs hp).mono ?_
 rintro e w3 ⟨rfl,hb3⟩
 obtain ⟨hc3,hf3,hz3⟩:=Dk.bcell hb3
 have n30:w.heap.size < w3.heap.size:=by omega
 have n31:w.heap.size+1 < w3.heap.size:=by omega
 have n32:w1.heap.size < w3.heap.size:=by omega
 clear hz3
 go_wp2_with fail
 refine (za2 s p _ _ _ hs hp).mono ?_
 rintro e w4 ⟨rfl,hb4⟩
 obtain ⟨hc4,hf4,hz4⟩:=Dk.bcell hb4
 have n40:w.heap.size < w4.heap.size:=by omega
 have n41:w.heap.size+1 < w4.heap.size:=by omega
 have n42:w1.heap.size < w4.heap.size:=by omega
 clear hz4
 go_wp2_with fail
 refine (za2 s p _ _ _ hs hp).mono ?_
 rintro e w5 ⟨rfl,hb5⟩
 obtain ⟨hc5,hf5,hz5⟩:=Dk.bcell hb5
 have n50:w.heap.size < w5.heap.size:=by omega
 have n51:w.heap.size+1 < w5.heap.size:=by omega
 have n52:w1.heap.size < w5.heap.size:=by omega
 clear hz5
 go_wp2_with fail
 go_ret
 exact ⟨zw HS.out.symm,Dk.zk (Dk.zk (Dk.zk (Dk.zk (Dk.zb (Dk.zk (Dk.zb (Dk.zb (Below.refl _ _) _) _) hb1) _) hb2) hb3) hb4) hb5⟩
theorem sound_5 (s:Dk.Sh) (p:Dk.Prg) (i:Dk.Ins) (w:World) (hs:Lens s p) (hp:p.ok) (h0:(Dk.form i.op).2=true) (h1:Dk.mayB p (Dk.form i.op).1.1 (IntKind.u64.wrap i.a)=true) (h2:Dk.mayB p (Dk.form i.op).1.2.1 (IntKind.u64.wrap i.b)=true) (h3:Dk.mayB p (Dk.form i.op).1.2.2.1 (IntKind.u64.wrap i.c)=true) (h4:Dk.mayB p (Dk.form i.op).1.2.2.2 i.n=true) :
  Calls Tryz.prog 106 #[Dk.pv s p,Dk.iv i] w fun e w'=>e=.returned (.bool (Dk.soundB p i))∧Below w.heap.size w w':=by
 have HS:Hid (Dk.soundB p i=true):=by show _=true;rw [zch,h0,h1,h2,h3,h4];rfl
 go_enter Tryz.func106,Tryz.ntmps106
 go_wp2_with fail
 refine (zbb _ _).mono ?_
 rintro e w1 ⟨rfl,hb1⟩
 obtain ⟨hc1,hf1,hz1⟩:=Dk.bcell hb1
 simp only [World.size_alloc] at hz1
 have hn0:w.heap.size < w1.heap.size:=by omega
 have hn1:w.heap.size+1 < w1.heap.size:=by omega
 clear hz1
 go_wp2_with fail
 refine (za2 s p _ _ _ hs hp).mono ?_
 rintro e w2 ⟨rfl,hb2⟩
 obtain ⟨hc2,hf2,hz2⟩:=Dk.bcell hb2
 simp only [World.size_alloc] at hz2
 have n20:w.heap.size < w2.heap.size:=by omega
 have n21:w.heap.size+1 < w2.heap.size:=by omega
 have n22:w1.heap.size < w2.heap.size:=by omega
 clear hz2
 go_wp2_with fail
 refine (za2 s p _ _ _ hs hp).mono ?_
 rintro e w3 ⟨rfl,hb3⟩
 obtain ⟨hc3,hf3,hz3⟩:=Dk.bcell hb3
 have n30:w.heap.size < w3.heap.size:=by omega
 have n31:w.heap.size+1 < w3.heap.size:=by omega
 have n32:w1.heap.size < w3.heap.size:=by omega
 clear hz3
 go_wp2_with fail
 refine (za2 s p _ _ _ hs hp).mono ?_
 rintro e w4 ⟨rfl,hb4⟩
 obtain ⟨hc4,hf4,hz4⟩:=Dk.bcell hb4
 have n40:w.heap.size < w4.heap.size:=by omega
 have n41:w.heap.size+1 < w4.heap.size:=by omega
 have n42:w1.heap.size < w4.heap.size:=by omega
 clear hz4
 go_wp2_with fail
 refine (za2 s p _ _ _ hs hp).mono ?_
 rintro e w5 ⟨rfl,hb5⟩
 obtain ⟨hc5,hf5,hz5⟩:=Dk.bcell hb5
 have n50:w.heap.size < w5.heap.size:=by omega
 have n51:w.heap.size+1 < w5.heap.size:=by omega
 have n52:w1.heap.size < w5.heap.size:=by omega
 clear hz5
 go_wp2_with fail
 go_ret
 exact ⟨zw HS.out.symm,Dk.zk (Dk.zk (Dk.zk (Dk.zk (Dk.zb (Dk.zk (Dk.zb (Dk.zb (Below.refl _ _) _) _) hb1) _) hb2) hb3) hb4) hb5⟩
theorem zg1 (s:Dk.Sh) (p:Dk.Prg) (i:Dk.Ins) (w:World) (hs:Lens s p) (hp:p.ok) :
  Calls Tryz.prog 106 #[Dk.pv s p,Dk.iv i] w fun e w'=>e=.returned (.bool (Dk.soundB p i))∧Below w.heap.size w w':=by
 cases h0:(Dk.form i.op).2
 ·exact sound_0 s p i w hs hp h0
 cases h1:Dk.mayB p (Dk.form i.op).1.1 (IntKind.u64.wrap i.a)
 ·exact sound_1 s p i w hs hp h0 h1
 cases h2:Dk.mayB p (Dk.form i.op).1.2.1 (IntKind.u64.wrap i.b)
 ·exact sound_2 s p i w hs hp h0 h1 h2
 cases h3:Dk.mayB p (Dk.form i.op).1.2.2.1 (IntKind.u64.wrap i.c)
 ·exact sound_3 s p i w hs hp h0 h1 h2 h3
 cases h4:Dk.mayB p (Dk.form i.op).1.2.2.2 i.n
 ·exact sound_4 s p i w hs hp h0 h1 h2 h3 h4
 ·exact sound_5 s p i w hs hp h0 h1 h2 h3 h4
theorem zdq (B:Nat) (s:Dk.Sh) (p:Dk.Prg) (w:World) (h:Dk.PrgAt B w s p) (hB:B≤w.heap.size) :
  Calls Tryz.prog 75 #[Dk.pv s p] w fun e w'=>e=.returned (.bool (Dk.allSoundB p))∧Below w.heap.size w w':=by
 have hmax:=h.funcs.max
 have hcap:=h.funcs.cap
 unfold maxLen at hmax
 have HL:Hid (p.funcs.length=s.fL):=h.funcs.len
 have hs:=zbf h
 have hp:=h.ok
 obtain ⟨sfA,sfL,sfC,sA,sL,sC,pA,pL,pC⟩:=s
 simp only at hmax hcap HL
 go_enter Tryz.func75,Tryz.ntmps75
 go_wp2
 go_loopw [10] (fun i w'=>∃ k:Nat,k≤sfL∧i=.int .i64 k∧Hid ((p.funcs.take k).all (fun c=>c.all fun i=>Dk.soundB p i)=true)∧Hid (Below (w.alloc (.cells #[.slice sfA sfL sfC,.int .i64 p.words,.int .i64 p.mutexes,.int .i64 p.conds,.slice sA sL sC,.slice pA pL pC,.int .i64 p.blocks,.int .i64 p.prio] 25)).heap.size (w.alloc (.cells #[.slice sfA sfL sfC,.int .i64 p.words,.int .i64 p.mutexes,.int .i64 p.conds,.slice sA sL sC,.slice pA pL pC,.int .i64 p.blocks,.int .i64 p.prio] 25)) w')) (fun i w'=>sfL - (intOf i).toNat)
 case atStart=>exact ⟨0,Nat.zero_le _,rfl,by show (p.funcs.take 0).all _=true;simp,Below.refl _ _⟩
 case round=>
  obtain ⟨k,hk,rfl,HA,HB⟩:=hrel
  by_cases hlt:k < sfL
  ·obtain ⟨b,o,rfl,hbB,hc⟩:=h.funcs.cells (by show 0 < sfL;omega)
   obtain ⟨A',L',C',hcell0,hn⟩:=hc k hlt
   have hcell:wr.cell? ⟨b,o+k,none⟩=some (.slice A' L' C'):=by
    rw [HB.out.cell (by simp;omega),(Dk.zb (Below.refl w.heap.size w) _).cell (by show b < w.heap.size;omega)];exact hcell0
   have hbox:=Dk.zcc HB.out
   clear hc hcell0
   have hmax':=hn.max
   have hcap':=hn.cap
   unfold maxLen at hmax'
   have HN:Hid ((p.funcs.getD k []).length=L'):=hn.len
   go_wp2
   clear hcell hbox
   go_loopw [16] (fun i w'=>∃ j:Nat,j≤L'∧i=.int .i64 j∧Hid (((p.funcs.getD k []).take j).all (fun i=>Dk.soundB p i)=true)∧Hid (Below (w.alloc (.cells #[.slice (some ⟨b,o,none⟩) sfL sfC,.int .i64 p.words,.int .i64 p.mutexes,.int .i64 p.conds,.slice sA sL sC,.slice pA pL pC,.int .i64 p.blocks,.int .i64 p.prio] 25)).heap.size (w.alloc (.cells #[.slice (some ⟨b,o,none⟩) sfL sfC,.int .i64 p.words,.int .i64 p.mutexes,.int .i64 p.conds,.slice sA sL sC,.slice pA pL pC,.int .i64 p.blocks,.int .i64 p.prio] 25)) w')) (fun i w'=>L' - (intOf i).toNat)
   case atStart=>exact ⟨0,Nat.zero_le _,rfl,by show (List.take 0 _).all _=true;simp,HB⟩
   case round=>
    obtain ⟨j,hj,rfl,HA2,HB2⟩:=hrel
    by_cases hlt2:j < L'
    ·obtain ⟨b',o',rfl,hbB',hc⟩:=hn.cells (by omega)
     have hx:=hc j hlt2
     generalize hg:(p.funcs.getD k []).getD j Dk.Ins.zero=x at hx
     have HG:Hid ((p.funcs.getD k []).getD j Dk.Ins.zero=x):=hg
     clear hg hc
     have up:∀ q,wr.cell? ⟨b',q,none⟩=w.cell? ⟨b',q,none⟩:=fun q=>by
      rw [HB2.out.cell (by simp;omega),(Dk.zb (Below.refl w.heap.size w) _).cell (by show b' < w.heap.size;omega)]
     have x0:=(up _).trans hx.1
     have x1:=(up _).trans hx.2.1
     have x2:=(up _).trans hx.2.2.1
     have x3:=(up _).trans hx.2.2.2.1
     have x4:=(up _).trans hx.2.2.2.2
     have hbox:=Dk.zcc HB2.out
     have hz:=HB2.out.size
     simp only [World.size_alloc] at hz
     have hz':w.heap.size < wr.heap.size:=by omega
     clear hx up hz
     cases hsd:Dk.soundB p x
     ·have HSD:Hid (Dk.soundB p x=false):=hsd
      go_wp2_with fail
      refine (zg1 _ p x _ hs hp).mono ?_
      rintro e w3 ⟨rfl,hb3⟩
      rw [HSD.out]
      go_wp2_with fail
      go_ret
      exact ⟨zw (zjj p.funcs _ [] k (by rw [HL.out];exact hlt) (zjj _ _ Dk.Ins.zero j (by rw [HN.out];exact hlt2) (by rw [HG.out];exact HSD.out))).symm,Dk.zk (Dk.zb (Dk.zk (Dk.zb (Below.refl _ _) _) HB2.out) _) hb3⟩
     ·have HSD:Hid (Dk.soundB p x=true):=hsd
      go_wp2_with fail
      refine (zg1 _ p x _ hs hp).mono ?_
      rintro e w3 ⟨rfl,hb3⟩
      rw [HSD.out]
      go_wp2_with fail
      go_roundw
      case rel=>
       refine ⟨j+1,by omega,by go_num,?_,Dk.zk (Dk.zb HB2.out _) hb3⟩
       show List.all _ _=true
       rw [zba _ _ Dk.Ins.zero j (by rw [HN.out];exact hlt2),HA2.out,HG.out,HSD.out]
       rfl
      case measure=>simp [intOf];omega
    ·go_wp2
     go_roundw
     case rel=>
      refine ⟨k+1,by omega,by go_num,?_,HB2⟩
      show List.all _ _=true
      have:=HA2.out
      rw [List.take_of_length_le (by rw [HN.out];omega)] at this
      rw [zba _ _ [] k (by rw [HL.out];exact hlt),HA.out,this]
      rfl
     case measure=>simp [intOf];omega
  ·go_wp2
   go_ret
   refine ⟨zw ?_,Dk.zk (Dk.zb (Below.refl _ _) _) HB.out⟩
   have:=HA.out
   rw [List.take_of_length_le (by rw [HL.out];omega)] at this
   exact this.symm
theorem zaq {s:Dk.Sh} {p:Dk.Prg} (hs:Lens s p):Dk.objectsFitB p=(Dk.withinB p.words 0 64 && Dk.withinB p.mutexes 0 4 && Dk.withinB p.conds 0 4 && decide (s.sL≤4) && Dk.allWithinB p.sems 0 1048576 && decide (s.pL≤4) && Dk.allWithinB p.pipes 1 8 && Dk.withinB p.blocks 0 64 && Dk.withinB p.prio 0 7):=by
 unfold Dk.objectsFitB
 rw [hs.es,hs.ep]
theorem znv (B:Nat) (s:Dk.Sh) (p:Dk.Prg) (w:World) (h:Dk.PrgAt B w s p) (hB:B≤w.heap.size)  (h0:Dk.withinB p.words 0 64=false) :
  Calls Tryz.prog 74 #[Dk.pv s p] w fun e w'=>e=.returned (.bool (Dk.objectsFitB p))∧Below w.heap.size w w':=by
 have HS:Hid (Dk.objectsFitB p=false):=by show _=false;rw [zaq (zbf h),h0];simp
 go_enter Tryz.func74,Tryz.ntmps74
 go_wp2_with fail
 refine (zf _ _ _ _).mono ?_
 rintro e w' ⟨rfl,rfl⟩
 go_wp2_with fail
 go_ret
 exact ⟨zw HS.out.symm,Dk.zb (Below.refl _ _) _⟩
theorem znw (B:Nat) (s:Dk.Sh) (p:Dk.Prg) (w:World) (h:Dk.PrgAt B w s p) (hB:B≤w.heap.size) (h0:Dk.withinB p.words 0 64=true) (h1:Dk.withinB p.mutexes 0 4=false) :
  Calls Tryz.prog 74 #[Dk.pv s p] w fun e w'=>e=.returned (.bool (Dk.objectsFitB p))∧Below w.heap.size w w':=by
 have HS:Hid (Dk.objectsFitB p=false):=by show _=false;rw [zaq (zbf h),h0,h1];simp
 go_enter Tryz.func74,Tryz.ntmps74
 go_wp2_with fail
 refine (zf _ _ _ _).mono ?_
 rintro e w' ⟨rfl,rfl⟩
 go_wp2_with fail
 refine (zf _ _ _ _).mono ?_
 rintro e w' ⟨rfl,rfl⟩
 go_wp2_with fail
 go_ret
 exact ⟨zw HS.out.symm,Dk.zb (Below.refl _ _) _⟩
theorem znx (B:Nat) (s:Dk.Sh) (p:Dk.Prg) (w:World) (h:Dk.PrgAt B w s p) (hB:B≤w.heap.size) (h0:Dk.withinB p.words 0 64=true) (h1:Dk.withinB p.mutexes 0 4=true) (h2:Dk.withinB p.conds 0 4=false) :
  Calls Tryz.prog 74 #[Dk.pv s p] w fun e w'=>e=.returned (.bool (Dk.objectsFitB p))∧Below w.heap.size w w':=by
 have HS:Hid (Dk.objectsFitB p=false):=by show _=false;rw [zaq (zbf h),h0,h1,h2];simp
 go_enter Tryz.func74,Tryz.ntmps74
 go_wp2_with fail
 refine (zf _ _ _ _).mono ?_
 rintro e w' ⟨rfl,rfl⟩
 go_wp2_with fail
 refine (zf _ _ _ _).mono ?_
 rintro e w' ⟨rfl,rfl⟩
 go_wp2_with fail
 refine (zf _ _ _ _).mono ?_
 rintro e w' ⟨rfl,rfl⟩
 go_wp2_with fail
 go_ret
 exact ⟨zw HS.out.symm,Dk.zb (Below.refl _ _) _⟩
theorem zny (B:Nat) (s:Dk.Sh) (p:Dk.Prg) (w:World) (h:Dk.PrgAt B w s p) (hB:B≤w.heap.size) (h0:Dk.withinB p.words 0 64=true) (h1:Dk.withinB p.mutexes 0 4=true) (h2:Dk.withinB p.conds 0 4=true) (h3:4 < s.sL) :
  Calls Tryz.prog 74 #[Dk.pv s p] w fun e w'=>e=.returned (.bool (Dk.objectsFitB p))∧Below w.heap.size w w':=by
 have HS:Hid (Dk.objectsFitB p=false):=by show _=false;rw [zaq (zbf h),h0,h1,h2,decide_eq_false (Nat.not_le_of_lt h3)];simp
 go_enter Tryz.func74,Tryz.ntmps74
 go_wp2_with fail
 refine (zf _ _ _ _).mono ?_
 rintro e w' ⟨rfl,rfl⟩
 go_wp2_with fail
 refine (zf _ _ _ _).mono ?_
 rintro e w' ⟨rfl,rfl⟩
 go_wp2_with fail
 refine (zf _ _ _ _).mono ?_
 rintro e w' ⟨rfl,rfl⟩
 go_wp2_with fail
 go_ret
 exact ⟨zw HS.out.symm,Dk.zb (Below.refl _ _) _⟩
theorem znz (B:Nat) (s:Dk.Sh) (p:Dk.Prg) (w:World) (h:Dk.PrgAt B w s p) (hB:B≤w.heap.size) (h0:Dk.withinB p.words 0 64=true) (h1:Dk.withinB p.mutexes 0 4=true) (h2:Dk.withinB p.conds 0 4=true) (h3:s.sL≤4) (h4:Dk.allWithinB p.sems 0 1048576=false) :
  Calls Tryz.prog 74 #[Dk.pv s p] w fun e w'=>e=.returned (.bool (Dk.objectsFitB p))∧Below w.heap.size w w':=by
 have HS:Hid (Dk.objectsFitB p=false):=by show _=false;rw [zaq (zbf h),h0,h1,h2,decide_eq_true h3,h4];simp
 go_enter Tryz.func74,Tryz.ntmps74
 go_wp2_with fail
 refine (zf _ _ _ _).mono ?_
 rintro e w' ⟨rfl,rfl⟩
 go_wp2_with fail
 refine (zf _ _ _ _).mono ?_
 rintro e w' ⟨rfl,rfl⟩
 go_wp2_with fail
 refine (zf _ _ _ _).mono ?_
 rintro e w' ⟨rfl,rfl⟩
 go_wp2_with fail
 refine (zx B _ _ _ p.sems _ _ _ (h.sems.below (Dk.zb (Below.refl _ _) _) hB)).mono ?_
 rintro e w' ⟨rfl,rfl⟩
 go_wp2_with fail
 go_ret
 exact ⟨zw HS.out.symm,Dk.zb (Below.refl _ _) _⟩
theorem zn0 (B:Nat) (s:Dk.Sh) (p:Dk.Prg) (w:World) (h:Dk.PrgAt B w s p) (hB:B≤w.heap.size) (h0:Dk.withinB p.words 0 64=true) (h1:Dk.withinB p.mutexes 0 4=true) (h2:Dk.withinB p.conds 0 4=true) (h3:s.sL≤4) (h4:Dk.allWithinB p.sems 0 1048576=true) (h5:4 < s.pL) :
  Calls Tryz.prog 74 #[Dk.pv s p] w fun e w'=>e=.returned (.bool (Dk.objectsFitB p))∧Below w.heap.size w w':=by
 have HS:Hid (Dk.objectsFitB p=false):=by show _=false;rw [zaq (zbf h),h0,h1,h2,decide_eq_true h3,h4,decide_eq_false (Nat.not_le_of_lt h5)];simp
 go_enter Tryz.func74,Tryz.ntmps74
 go_wp2_with fail
 refine (zf _ _ _ _).mono ?_
 rintro e w' ⟨rfl,rfl⟩
 go_wp2_with fail
 refine (zf _ _ _ _).mono ?_
 rintro e w' ⟨rfl,rfl⟩
 go_wp2_with fail
 refine (zf _ _ _ _).mono ?_
 rintro e w' ⟨rfl,rfl⟩
 go_wp2_with fail
 refine (zx B _ _ _ p.sems _ _ _ (h.sems.below (Dk.zb (Below.refl _ _) _) hB)).mono ?_
 rintro e w' ⟨rfl,rfl⟩
 go_wp2_with fail
 go_ret
 exact ⟨zw HS.out.symm,Dk.zb (Below.refl _ _) _⟩
theorem zn1 (B:Nat) (s:Dk.Sh) (p:Dk.Prg) (w:World) (h:Dk.PrgAt B w s p) (hB:B≤w.heap.size) (h0:Dk.withinB p.words 0 64=true) (h1:Dk.withinB p.mutexes 0 4=true) (h2:Dk.withinB p.conds 0 4=true) (h3:s.sL≤4) (h4:Dk.allWithinB p.sems 0 1048576=true) (h5:s.pL≤4) (h6:Dk.allWithinB p.pipes 1 8=false) :
  Calls Tryz.prog 74 #[Dk.pv s p] w fun e w'=>e=.returned (.bool (Dk.objectsFitB p))∧Below w.heap.size w w':=by
 have HS:Hid (Dk.objectsFitB p=false):=by show _=false;rw [zaq (zbf h),h0,h1,h2,decide_eq_true h3,h4,decide_eq_true h5,h6];simp
 go_enter Tryz.func74,Tryz.ntmps74
 go_wp2_with fail
 refine (zf _ _ _ _).mono ?_
 rintro e w' ⟨rfl,rfl⟩
 go_wp2_with fail
 refine (zf _ _ _ _).mono ?_
 rintro e w' ⟨rfl,rfl⟩
 go_wp2_with fail
 refine (zf _ _ _ _).mono ?_
 rintro e w' ⟨rfl,rfl⟩
 go_wp2_with fail
 refine (zx B _ _ _ p.sems _ _ _ (h.sems.below (Dk.zb (Below.refl _ _) _) hB)).mono ?_
 rintro e w' ⟨rfl,rfl⟩
 go_wp2_with fail
 refine (zx B _ _ _ p.pipes _ _ _ (h.pipes.below (Dk.zb (Below.refl _ _) _) hB)).mono ?_
 rintro e w' ⟨rfl,rfl⟩
 go_wp2_with fail
 go_ret
 exact ⟨zw HS.out.symm,Dk.zb (Below.refl _ _) _⟩
theorem zn2 (B:Nat) (s:Dk.Sh) (p:Dk.Prg) (w:World) (h:Dk.PrgAt B w s p) (hB:B≤w.heap.size) (h0:Dk.withinB p.words 0 64=true) (h1:Dk.withinB p.mutexes 0 4=true) (h2:Dk.withinB p.conds 0 4=true) (h3:s.sL≤4) (h4:Dk.allWithinB p.sems 0 1048576=true) (h5:s.pL≤4) (h6:Dk.allWithinB p.pipes 1 8=true) (h7:Dk.withinB p.blocks 0 64=false) :
  Calls Tryz.prog 74 #[Dk.pv s p] w fun e w'=>e=.returned (.bool (Dk.objectsFitB p))∧Below w.heap.size w w':=by
 have HS:Hid (Dk.objectsFitB p=false):=by show _=false;rw [zaq (zbf h),h0,h1,h2,decide_eq_true h3,h4,decide_eq_true h5,h6,h7];simp
 go_enter Tryz.func74,Tryz.ntmps74
 go_wp2_with fail
 refine (zf _ _ _ _).mono ?_
 rintro e w' ⟨rfl,rfl⟩
 go_wp2_with fail
 refine (zf _ _ _ _).mono ?_
 rintro e w' ⟨rfl,rfl⟩
 go_wp2_with fail
 refine (zf _ _ _ _).mono ?_
 rintro e w' ⟨rfl,rfl⟩
 go_wp2_with fail
 refine (zx B _ _ _ p.sems _ _ _ (h.sems.below (Dk.zb (Below.refl _ _) _) hB)).mono ?_
 rintro e w' ⟨rfl,rfl⟩
 go_wp2_with fail
 refine (zx B _ _ _ p.pipes _ _ _ (h.pipes.below (Dk.zb (Below.refl _ _) _) hB)).mono ?_
 rintro e w' ⟨rfl,rfl⟩
 go_wp2_with fail
 refine (zf _ _ _ _).mono ?_
 rintro e w' ⟨rfl,rfl⟩
 go_wp2_with fail
 go_ret
 exact ⟨zw HS.out.symm,Dk.zb (Below.refl _ _) _⟩
theorem zn3 (B:Nat) (s:Dk.Sh) (p:Dk.Prg) (w:World) (h:Dk.PrgAt B w s p) (hB:B≤w.heap.size) (h0:Dk.withinB p.words 0 64=true) (h1:Dk.withinB p.mutexes 0 4=true) (h2:Dk.withinB p.conds 0 4=true) (h3:s.sL≤4) (h4:Dk.allWithinB p.sems 0 1048576=true) (h5:s.pL≤4) (h6:Dk.allWithinB p.pipes 1 8=true) (h7:Dk.withinB p.blocks 0 64=true) (h8:Dk.withinB p.prio 0 7=false) :
  Calls Tryz.prog 74 #[Dk.pv s p] w fun e w'=>e=.returned (.bool (Dk.objectsFitB p))∧Below w.heap.size w w':=by
 have HS:Hid (Dk.objectsFitB p=false):=by show _=false;rw [zaq (zbf h),h0,h1,h2,decide_eq_true h3,h4,decide_eq_true h5,h6,h7,h8];simp
 go_enter Tryz.func74,Tryz.ntmps74
 go_wp2_with fail
 refine (zf _ _ _ _).mono ?_
 rintro e w' ⟨rfl,rfl⟩
 go_wp2_with fail
 refine (zf _ _ _ _).mono ?_
 rintro e w' ⟨rfl,rfl⟩
 go_wp2_with fail
 refine (zf _ _ _ _).mono ?_
 rintro e w' ⟨rfl,rfl⟩
 go_wp2_with fail
 refine (zx B _ _ _ p.sems _ _ _ (h.sems.below (Dk.zb (Below.refl _ _) _) hB)).mono ?_
 rintro e w' ⟨rfl,rfl⟩
 go_wp2_with fail
 refine (zx B _ _ _ p.pipes _ _ _ (h.pipes.below (Dk.zb (Below.refl _ _) _) hB)).mono ?_
 rintro e w' ⟨rfl,rfl⟩
 go_wp2_with fail
 refine (zf _ _ _ _).mono ?_
 rintro e w' ⟨rfl,rfl⟩
 go_wp2_with fail
 refine (zf _ _ _ _).mono ?_
 rintro e w' ⟨rfl,rfl⟩
 go_wp2_with fail
 go_ret
 exact ⟨zw HS.out.symm,Dk.zb (Below.refl _ _) _⟩
theorem zn4 (B:Nat) (s:Dk.Sh) (p:Dk.Prg) (w:World) (h:Dk.PrgAt B w s p) (hB:B≤w.heap.size) (h0:Dk.withinB p.words 0 64=true) (h1:Dk.withinB p.mutexes 0 4=true) (h2:Dk.withinB p.conds 0 4=true) (h3:s.sL≤4) (h4:Dk.allWithinB p.sems 0 1048576=true) (h5:s.pL≤4) (h6:Dk.allWithinB p.pipes 1 8=true) (h7:Dk.withinB p.blocks 0 64=true) (h8:Dk.withinB p.prio 0 7=true) :
  Calls Tryz.prog 74 #[Dk.pv s p] w fun e w'=>e=.returned (.bool (Dk.objectsFitB p))∧Below w.heap.size w w':=by
 have HS:Hid (Dk.objectsFitB p=true):=by show _=true;rw [zaq (zbf h),h0,h1,h2,decide_eq_true h3,h4,decide_eq_true h5,h6,h7,h8];simp
 go_enter Tryz.func74,Tryz.ntmps74
 go_wp2_with fail
 refine (zf _ _ _ _).mono ?_
 rintro e w' ⟨rfl,rfl⟩
 go_wp2_with fail
 refine (zf _ _ _ _).mono ?_
 rintro e w' ⟨rfl,rfl⟩
 go_wp2_with fail
 refine (zf _ _ _ _).mono ?_
 rintro e w' ⟨rfl,rfl⟩
 go_wp2_with fail
 refine (zx B _ _ _ p.sems _ _ _ (h.sems.below (Dk.zb (Below.refl _ _) _) hB)).mono ?_
 rintro e w' ⟨rfl,rfl⟩
 go_wp2_with fail
 refine (zx B _ _ _ p.pipes _ _ _ (h.pipes.below (Dk.zb (Below.refl _ _) _) hB)).mono ?_
 rintro e w' ⟨rfl,rfl⟩
 go_wp2_with fail
 refine (zf _ _ _ _).mono ?_
 rintro e w' ⟨rfl,rfl⟩
 go_wp2_with fail
 refine (zf _ _ _ _).mono ?_
 rintro e w' ⟨rfl,rfl⟩
 go_wp2_with fail
 go_ret
 exact ⟨zw HS.out.symm,Dk.zb (Below.refl _ _) _⟩
theorem zbo (B:Nat) (s:Dk.Sh) (p:Dk.Prg) (w:World) (h:Dk.PrgAt B w s p) (hB:B≤w.heap.size) :
  Calls Tryz.prog 74 #[Dk.pv s p] w fun e w'=>e=.returned (.bool (Dk.objectsFitB p))∧Below w.heap.size w w':=by
 cases h0:Dk.withinB p.words 0 64
 ·exact znv B s p w h hB h0
 cases h1:Dk.withinB p.mutexes 0 4
 ·exact znw B s p w h hB h0 h1
 cases h2:Dk.withinB p.conds 0 4
 ·exact znx B s p w h hB h0 h1 h2
 by_cases h3':s.sL≤4
 case neg=>exact zny B s p w h hB h0 h1 h2 (by omega)
 have h3:=h3'
 cases h4:Dk.allWithinB p.sems 0 1048576
 ·exact znz B s p w h hB h0 h1 h2 h3 h4
 by_cases h5':s.pL≤4
 case neg=>exact zn0 B s p w h hB h0 h1 h2 h3 h4 (by omega)
 have h5:=h5'
 cases h6:Dk.allWithinB p.pipes 1 8
 ·exact zn1 B s p w h hB h0 h1 h2 h3 h4 h5 h6
 cases h7:Dk.withinB p.blocks 0 64
 ·exact zn2 B s p w h hB h0 h1 h2 h3 h4 h5 h6 h7
 cases h8:Dk.withinB p.prio 0 7
 ·exact zn3 B s p w h hB h0 h1 h2 h3 h4 h5 h6 h7 h8
 exact zn4 B s p w h hB h0 h1 h2 h3 h4 h5 h6 h7 h8
theorem check_a (B:Nat) (s:Dk.Sh) (p:Dk.Prg) (w:World) (h:Dk.PrgAt B w s p) (hB:B≤w.heap.size) (h1:Dk.codeFitsB p.funcs=false) :
  Calls Tryz.prog 43 #[Dk.pv s p] w fun e w'=>e=.returned (.int .i64 (Dk.check p))∧Below w.heap.size w w':=by
 have HS:Hid (Dk.check p=9):=by show _=9;unfold Dk.check;rw [h1];rfl
 go_enter Tryz.func43,Tryz.ntmps43
 go_wp2_with fail
 refine (zbi B _ _ _ p.funcs _ (h.funcs.below (Dk.zb (Below.refl _ _) _) hB)).mono ?_
 rintro e w' ⟨rfl,rfl⟩
 go_wp2_with fail
 go_ret
 exact ⟨zgm HS.out.symm,Dk.zb (Below.refl _ _) _⟩
theorem check_b (B:Nat) (s:Dk.Sh) (p:Dk.Prg) (w:World) (h:Dk.PrgAt B w s p) (hB:B≤w.heap.size) (h1:Dk.codeFitsB p.funcs=true) (h2:Dk.objectsFitB p=false) :
  Calls Tryz.prog 43 #[Dk.pv s p] w fun e w'=>e=.returned (.int .i64 (Dk.check p))∧Below w.heap.size w w':=by
 have HS:Hid (Dk.check p=9):=by show _=9;unfold Dk.check;rw [h1,h2];rfl
 go_enter Tryz.func43,Tryz.ntmps43
 go_wp2_with fail
 refine (zbi B _ _ _ p.funcs _ (h.funcs.below (Dk.zb (Below.refl _ _) _) hB)).mono ?_
 rintro e w' ⟨rfl,rfl⟩
 go_wp2_with fail
 refine (zbo B s p _ (h.below (Dk.zb (Below.refl _ _) _) hB) (by simp;omega)).mono ?_
 rintro e w2 ⟨rfl,hb2⟩
 have hbox:=Dk.zcc hb2
 go_wp2_with fail
 go_ret
 exact ⟨zgm HS.out.symm,Dk.zk (Dk.zb (Below.refl _ _) _) hb2⟩
theorem check_c (B:Nat) (s:Dk.Sh) (p:Dk.Prg) (w:World) (h:Dk.PrgAt B w s p) (hB:B≤w.heap.size) (h1:Dk.codeFitsB p.funcs=true) (h2:Dk.objectsFitB p=true) (h3:Dk.allSoundB p=false) :
  Calls Tryz.prog 43 #[Dk.pv s p] w fun e w'=>e=.returned (.int .i64 (Dk.check p))∧Below w.heap.size w w':=by
 have HS:Hid (Dk.check p=8):=by show _=8;unfold Dk.check;rw [h1,h2,h3];rfl
 go_enter Tryz.func43,Tryz.ntmps43
 go_wp2_with fail
 refine (zbi B _ _ _ p.funcs _ (h.funcs.below (Dk.zb (Below.refl _ _) _) hB)).mono ?_
 rintro e w' ⟨rfl,rfl⟩
 go_wp2_with fail
 refine (zbo B s p _ (h.below (Dk.zb (Below.refl _ _) _) hB) (by simp;omega)).mono ?_
 rintro e w2 ⟨rfl,hb2⟩
 have hbox:=Dk.zcc hb2
 go_wp2_with fail
 refine (zdq B s p _ (h.below (Dk.zk (Dk.zb (Below.refl _ _) _) hb2) hB) (by have:=hb2.size;simp at this;omega)).mono ?_
 rintro e w3 ⟨rfl,hb3⟩
 go_wp2_with fail
 go_ret
 exact ⟨zgm HS.out.symm,Dk.zk (Dk.zk (Dk.zb (Below.refl _ _) _) hb2) hb3⟩
theorem check_d (B:Nat) (s:Dk.Sh) (p:Dk.Prg) (w:World) (h:Dk.PrgAt B w s p) (hB:B≤w.heap.size) (h1:Dk.codeFitsB p.funcs=true) (h2:Dk.objectsFitB p=true) (h3:Dk.allSoundB p=true) :
  Calls Tryz.prog 43 #[Dk.pv s p] w fun e w'=>e=.returned (.int .i64 (Dk.check p))∧Below w.heap.size w w':=by
 have HS:Hid (Dk.check p=0):=by show _=0;unfold Dk.check;rw [h1,h2,h3];rfl
 go_enter Tryz.func43,Tryz.ntmps43
 go_wp2_with fail
 refine (zbi B _ _ _ p.funcs _ (h.funcs.below (Dk.zb (Below.refl _ _) _) hB)).mono ?_
 rintro e w' ⟨rfl,rfl⟩
 go_wp2_with fail
 refine (zbo B s p _ (h.below (Dk.zb (Below.refl _ _) _) hB) (by simp;omega)).mono ?_
 rintro e w2 ⟨rfl,hb2⟩
 have hbox:=Dk.zcc hb2
 go_wp2_with fail
 refine (zdq B s p _ (h.below (Dk.zk (Dk.zb (Below.refl _ _) _) hb2) hB) (by have:=hb2.size;simp at this;omega)).mono ?_
 rintro e w3 ⟨rfl,hb3⟩
 go_wp2_with fail
 go_ret
 exact ⟨zgm HS.out.symm,Dk.zk (Dk.zk (Dk.zb (Below.refl _ _) _) hb2) hb3⟩
theorem zgw (B:Nat) (s:Dk.Sh) (p:Dk.Prg) (w:World) (h:Dk.PrgAt B w s p) (hB:B≤w.heap.size) :
  Calls Tryz.prog 43 #[Dk.pv s p] w fun e w'=>e=.returned (.int .i64 (Dk.check p))∧Below w.heap.size w w':=by
 cases h1:Dk.codeFitsB p.funcs
 ·exact check_a B s p w h hB h1
 cases h2:Dk.objectsFitB p
 ·exact check_b B s p w h hB h1 h2
 cases h3:Dk.allSoundB p
 ·exact check_c B s p w h hB h1 h2 h3
 ·exact check_d B s p w h hB h1 h2 h3
end Go.Proofs.YtglhhlfopccmaaaGreat
