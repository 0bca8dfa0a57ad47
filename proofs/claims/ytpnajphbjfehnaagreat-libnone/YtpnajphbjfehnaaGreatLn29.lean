import Derived.Test.YtpnajphbjfehnaaGreatLn28
import Derived.ChangeKeysEq
set_option linter.unusedSimpArgs false
set_option linter.unusedVariables false
set_option linter.unnecessarySimpa false
set_option maxHeartbeats 8000000
set_option maxRecDepth 100000
namespace Dk
open Go Go.RowKit
theorem Sep.asEvs {W w:World} {ts:List Thing} {e:TypeId} {v:Value} {n:Nat} {xs:List Ev} (h:Sep W w ts) (ht:rowOf e 3 v n (evs xs) ∈ ts) (hn:xs.length=n) (hx:∀ x ∈ xs,x.ok):∃ A C,v=.slice A n C∧SlE w.heap.size w A n C xs:=zg6 (h.row ht) hn hx
theorem Sep.lit {W w w':World} {us:List Thing} {e:TypeId} {s n:Nat} {cs:Array Value} {xs:List Value} (h:Sep W w us) (ew:w'=w.alloc (.cells cs e)) (hcs:cs.toList=xs) (hn:cs.size=n*s) (hm:n≤1000):Sep W w' (rowOf e s (.slice (some ⟨w.heap.size,0,none⟩) n n) n xs::us):=by
 subst ew hcs
 refine h.add (Dk.zb (Below.refl _ _) _) ?_ (fun k hk=>by simp [rowOf,Value.ownBlock] at hk;omega)
 exact World.ownsRow_lit w cs n (Nat.zero_le _) (by unfold maxLen;omega) hn
theorem zgw {es:List Ev} (h:∀ e ∈ es,e.ok):∀ e ∈ keepL es,e.ok:=fun e he=>h e ((List.mem_filter.1 he).1)
def holdsV (m:Int):Bool:=m == 2 || m == 4 || m == 7
def runsV (m t:Int):Bool:=(m == 5 || m == 6 || m == 7) && decide (0≤t)
def tellV (h r:Bool) (m t:Int):Ev:=⟨4,if r then t else -1,if h then m else 0⟩
def ownV (h r:Bool) (m t:Int):List Ev:=if h || r then [tellV h r m t] else []
def takenV (m t:Int):List Ev:=ownV (holdsV m) (runsV m t) m t
def stripV (m t:Int) (es:List Ev):List Ev:=takenV m t++keepL es
abbrev vv (m t:Int) (A:Option Addr) (L C:Nat):Value:=.agg #[.int .i64 m,.int .i64 t,.slice A L C]
theorem ownV_len (h r:Bool) (m t:Int):(ownV h r m t).length≤1:=by unfold ownV;split <;> simp
theorem zdv (m t:Int):(takenV m t).length≤1:=ownV_len _ _ _ _
theorem zh9 (m t:Int) (es:List Ev):(stripV m t es).length≤es.length+1:=by
 unfold stripV
 rw [List.length_append]
 have:=zdv m t
 have:=zc2 es
 omega
theorem tellV_ok {h r:Bool} {m t:Int} (hm:i64 m) (ht:i64 t):(tellV h r m t).ok:=by
 unfold tellV Ev.ok i64 at *
 cases h <;> cases r <;> simp <;> omega
theorem zfe {m t:Int} (hm:i64 m) (ht:i64 t):∀ e ∈ takenV m t,e.ok:=by
 intro e he
 unfold takenV ownV at he
 split at he
 ·obtain rfl:=List.mem_singleton.1 he
  exact tellV_ok hm ht
 ·cases he
theorem zfb {m t:Int} {es:List Ev} (hm:i64 m) (ht:i64 t) (h:∀ e ∈ es,e.ok):∀ e ∈ stripV m t es,e.ok:=by
 intro e he
 rcases List.mem_append.1 he with he | he
 ·exact zfe hm ht e he
 ·exact zgw h e he
theorem modes (m:Int):m=2∨m=4∨m=5∨m=6∨m=7∨((m == 2)=false∧(m == 4)=false∧(m == 5)=false∧(m == 6)=false∧(m == 7)=false):=by
 by_cases h2:m=2
 ·exact .inl h2
 by_cases h4:m=4
 ·exact .inr (.inl h4)
 by_cases h5:m=5
 ·exact .inr (.inr (.inl h5))
 by_cases h6:m=6
 ·exact .inr (.inr (.inr (.inl h6)))
 by_cases h7:m=7
 ·exact .inr (.inr (.inr (.inr (.inl h7))))
 exact .inr (.inr (.inr (.inr (.inr (by simp [h2,h4,h5,h6,h7])))))
end Dk
namespace Go.Proofs.YtpnajphbjfehnaaGreat
open Go.RowKit Go.Lib
theorem zah (a b:Int) (A:Option Addr) (L C:Nat):(#[.int .i64 a,.int .i64 b,.slice A L C]:Array Value).all (·.oneCell')=true:=by simp [Value.oneCell']
theorem zz:(Tryz.prog.info? 55).map (·.size)=some 3:=by kernel_rfl
theorem zhg (m t:Int) (A:Option Addr) (L C:Nat) (w:World):Calls Tryz.prog 127 #[Dk.vv m t A L C] w fun x w'=>x=.returned (.bool (Dk.holdsV m))∧Below w.heap.size w w':=by
 go_enter Tryz.func127,Tryz.ntmps127
 rcases Dk.modes m with rfl | rfl | rfl | rfl | rfl | ⟨h2,h4,h5,h6,h7⟩
 all_goals (go_wp2;go_ret;refine ⟨?_,Dk.zb (Below.refl _ _) _⟩;first | rfl | simp [Dk.holdsV, *])
theorem ziu (m t:Int) (A:Option Addr) (L C:Nat) (w:World):Calls Tryz.prog 126 #[Dk.vv m t A L C] w fun x w'=>x=.returned (.tuple #[.int .i64 (if Dk.runsV m t then t else 0),.bool (Dk.runsV m t)])∧Below w.heap.size w w':=by
 obtain ⟨x,hx⟩:∃ x,(if Dk.runsV m t=true then t else 0)=x:=⟨_,rfl⟩
 obtain ⟨y,hy⟩:∃ x,Dk.runsV m t=x:=⟨_,rfl⟩
 rw [hx,hy]
 have HX:Hid _:=hx
 have HY:Hid _:=hy
 clear hx hy
 go_enter Tryz.func126,Tryz.ntmps126
 by_cases ht:0≤t
 all_goals rcases Dk.modes m with rfl | rfl | rfl | rfl | rfl | ⟨h2,h4,h5,h6,h7⟩
 all_goals (go_wp2;go_ret2;refine ⟨?_,Dk.zb (Below.refl _ _) _⟩;rw [← HX.out,← HY.out];simp [Dk.runsV, *] <;> omega)
theorem zil {A:Option Addr} {L C:Nat} {es:List Dk.Ev} {w:World} (hE:Dk.SlE w.heap.size w A L C es) (hL:L≤5864062014805) :
  Calls Tryz.prog 60 #[.slice A L C] w fun e w'=>∃ B D,e=.returned (Dk.vv 1 (-1) B L D)∧Dk.Sep w w' [Dk.rowOf 59 3 (.slice B L D) L (Dk.evs es)]:=by
 obtain ⟨W1,e1⟩:∃ W,W=w.alloc (.cells #[.int .i64 0,.int .i64 0,.slice none 0 0] 55):=⟨_,rfl⟩
 have s1:=(Dk.Sep.begin (Below.refl w.heap.size w)).newBox e1
 have E1:=hE.up s1.out
 have K:=za5 (A':=none) (L':=0) (C':=0) (es':=[]) E1 (Dk.SlE.none_ rfl (Nat.zero_le _)) (by omega)
 rw [List.append_nil,Nat.add_zero] at K
 have H1:Hid (w.alloc (.cells #[.int .i64 0,.int .i64 0,.slice none 0 0] 55)=W1):=e1.symm
 clear e1 E1 hE
 go_enter Tryz.func60,Tryz.ntmps60
 go_wp2_with (rw [H1.out];clear H1)
 refine K.mono ?_
 rintro e w2 ⟨B,D,rfl,s2⟩
 have s3:=s1.onto s2
 obtain ⟨cs,hcs⟩:∃ cs:Array Value,cs=#[.int .i64 1,.int .i64 (-1),.slice B L D]:=⟨_,rfl⟩
 have b2:Dk.Box w2 w.heap.size #[.int .i64 0,.int .i64 0,.slice none 0 0] 55:=s3.box (by simp)
 have HB2:Hid _:=b2
 have s4:=Dk.Sep.setRow (us1:=[_]) s3 #[.int .i64 1,.int .i64 (-1),.slice B L D]
 obtain ⟨W4,e4⟩:∃ W,W=w2.setRow w.heap.size #[.int .i64 1,.int .i64 (-1),.slice B L D]:=⟨_,rfl⟩
 rw [← e4] at s4
 have b4:Dk.Box W4 w.heap.size #[.int .i64 1,.int .i64 (-1),.slice B L D] 55:=s4.box (by simp)
 have c0:W4.cell? ⟨w.heap.size,0,none⟩=some (.int .i64 1):=b4.cell 0
 have c1:W4.cell? ⟨w.heap.size,1,none⟩=some (.int .i64 (-1)):=b4.cell 1
 have c2:W4.cell? ⟨w.heap.size,2,none⟩=some (.slice B L D):=b4.cell 2
 have HB4:Hid _:=b4
 have HS:Hid (Dk.Sep w W4 [Dk.rowOf 59 3 (.slice B L D) L (Dk.evs es)]):=s4.sub (by simp)
 have H4:Hid (w2.setRow w.heap.size #[.int .i64 1,.int .i64 (-1),.slice B L D]=W4):=e4.symm
 clear hcs cs b2 s3 s4 e4 b4 s1 s2 K
 go_wp2_with (refine wpList_store_row rfl 55 _ _ rfl w.heap.size #[.int .i64 1,.int .i64 (-1),.slice B L D] rfl rfl 55 _ HB2.out.heap zz rfl (zah _ _ _ _ _) ?_;rw [H4.out];clear HB2 H4)
 (try simp only [Exit.inBlock,Exit.then])
 refine bodyPost_ret (results_cell_row rfl _ _ w.heap.size 55 #[.int .i64 1,.int .i64 (-1),.slice B L D] (0,0) _ rfl HB4.out.heap Tryz.underlying55 rfl zz) rfl ?_
 exact ⟨_,_,rfl,HS.out⟩
theorem zkn (m t:Int) (A:Option Addr) (L C:Nat) (w:World) :
  Calls Tryz.prog 100 #[Dk.vv m t A L C] w fun e w'=>∃ v,e=.returned v∧Dk.Sep w w' [Dk.rowOf 59 3 v (Dk.takenV m t).length (Dk.evs (Dk.takenV m t))]:=by
 have KR:=fun w=>ziu m t A L C w
 have KH:=fun w=>zhg m t A L C w
 unfold Dk.takenV
 generalize Dk.runsV m t=r at *
 generalize Dk.holdsV m=h at *
 obtain ⟨W1,e1⟩:∃ W,W=w.alloc (.cells #[.int .i64 m,.int .i64 t,.slice A L C] 55):=⟨_,rfl⟩
 have s1:=(Dk.Sep.begin (Below.refl w.heap.size w)).newBox e1
 have b1:=s1.box (List.mem_cons_self ..)
 have d0:W1.cell? ⟨w.heap.size,0,none⟩=some (.int .i64 m):=b1.cell 0
 have d1:W1.cell? ⟨w.heap.size,1,none⟩=some (.int .i64 t):=b1.cell 1
 have d2:W1.cell? ⟨w.heap.size,2,none⟩=some (.slice A L C):=b1.cell 2
 have H1:Hid (w.alloc (.cells #[.int .i64 m,.int .i64 t,.slice A L C] 55)=W1):=e1.symm
 clear e1
 cases r with
 | false=>
  cases h with
  | false=>
   rw [show Dk.ownV false false m t=[] from rfl]
   have KR:∀ w,Calls Tryz.prog 126 #[Dk.vv m t A L C] w fun x w'=>x=.returned (.tuple #[.int .i64 0,.bool false])∧Below w.heap.size w w':=KR
   go_enter Tryz.func100,Tryz.ntmps100
   go_wp2_with (rw [H1.out];clear H1)
   refine (KR _).mono ?_
   rintro e w2 ⟨rfl,v2⟩
   have s2:=s1.below v2
   have b2:=s2.box (List.mem_cons_self ..)
   have c0:w2.cell? ⟨w.heap.size,0,none⟩=some (.int .i64 m):=b2.cell 0
   have c1:w2.cell? ⟨w.heap.size,1,none⟩=some (.int .i64 t):=b2.cell 1
   have c2:w2.cell? ⟨w.heap.size,2,none⟩=some (.slice A L C):=b2.cell 2
   clear s1 b1 d0 d1 d2 v2 b2 KR
   go_wp2_with fail
   refine (KH _).mono ?_
   rintro e w3 ⟨rfl,v3⟩
   have s3:=s2.below v3
   clear s2 v3 KH c0 c1 c2
   have HS:Hid _:=(s3.nilRow 59 3).sub (us:=[_]) ((List.nil_sublist _).cons_cons _)
   clear s3
   go_wp2
   go_ret
   exact ⟨_,rfl,HS.out⟩
  | true=>
   rw [show Dk.ownV true false m t=[⟨4,-1,m⟩] from rfl]
   have KR:∀ w,Calls Tryz.prog 126 #[Dk.vv m t A L C] w fun x w'=>x=.returned (.tuple #[.int .i64 0,.bool false])∧Below w.heap.size w w':=KR
   go_enter Tryz.func100,Tryz.ntmps100
   go_wp2_with (rw [H1.out];clear H1)
   refine (KR _).mono ?_
   rintro e w2 ⟨rfl,v2⟩
   have s2:=s1.below v2
   have b2:=s2.box (List.mem_cons_self ..)
   have c0:w2.cell? ⟨w.heap.size,0,none⟩=some (.int .i64 m):=b2.cell 0
   have c1:w2.cell? ⟨w.heap.size,1,none⟩=some (.int .i64 t):=b2.cell 1
   have c2:w2.cell? ⟨w.heap.size,2,none⟩=some (.slice A L C):=b2.cell 2
   clear s1 b1 d0 d1 d2 v2 b2 KR
   go_wp2_with fail
   refine (KH _).mono ?_
   rintro e w3 ⟨rfl,v3⟩
   have s3:=s2.below v3
   clear s2 v3 KH c0 c1 c2
   have b3:=s3.box (List.mem_cons_self ..)
   have f0:w3.cell? ⟨w.heap.size,0,none⟩=some (.int .i64 m):=b3.cell 0
   have hw3:w.heap.size < w3.heap.size:=b3.lt
   clear b3
   obtain ⟨W4,e4⟩:∃ W,W=w3.alloc (.cells #[.int .i64 4,.int .i64 (-1),.int .i64 0] 59):=⟨_,rfl⟩
   have s4:=s3.newBox e4
   have q4:w.heap.size≠w3.heap.size:=by omega
   have H4:Hid (w3.alloc (.cells #[.int .i64 4,.int .i64 (-1),.int .i64 0] 59)=W4):=e4.symm
   have b4:=s4.box (List.mem_cons_self ..)
   have fz4:W4.frozen? ⟨w3.heap.size,2,none⟩=false:=b4.frozen 2
   have fc4:W4.cell? ⟨w3.heap.size,2,none⟩=some (.int .i64 0):=b4.cell 2
   have g4:W4.cell? ⟨w.heap.size,0,none⟩=some (.int .i64 m):=(s4.box (b:=w.heap.size) (cs:=#[.int .i64 m,.int .i64 t,.slice A L C]) (t:=55) (by simp)).cell 0
   have s5:=Dk.Sep.setBox (us1:=[]) (o:=2) s4 (.int .i64 m)
   have s5:Dk.Sep w (W4.setCell ⟨w3.heap.size,2,none⟩ (.int .i64 m)) [Dk.boxOf w3.heap.size #[.int .i64 4,.int .i64 (-1),.int .i64 m] 59,Dk.boxOf w.heap.size #[.int .i64 m,.int .i64 t,.slice A L C] 55]:=s5
   obtain ⟨W5,e5⟩:∃ W,W=W4.setCell ⟨w3.heap.size,2,none⟩ (.int .i64 m):=⟨_,rfl⟩
   rw [← e5] at s5
   have H5:Hid (W4.setCell ⟨w3.heap.size,2,none⟩ (.int .i64 m)=W5):=e5.symm
   have b5:=s5.box (List.mem_cons_self ..)
   have k0:W5.cell? ⟨w3.heap.size,0,none⟩=some (.int .i64 4):=b5.cell 0
   have k1:W5.cell? ⟨w3.heap.size,1,none⟩=some (.int .i64 (-1)):=b5.cell 1
   have k2:W5.cell? ⟨w3.heap.size,2,none⟩=some (.int .i64 m):=b5.cell 2
   obtain ⟨W6,e6⟩:∃ W,W=W5.alloc (.cells #[.int .i64 4,.int .i64 (-1),.int .i64 m] 59):=⟨_,rfl⟩
   have s6:=Dk.Sep.lit (n:=1) (s:=3) (xs:=Dk.evs [⟨4,-1,m⟩]) s5 e6 rfl rfl (by decide)
   have HS:Hid _:=s6.sub (us:=[_]) ((List.nil_sublist _).cons_cons _)
   have H6:Hid (W5.alloc (.cells #[.int .i64 4,.int .i64 (-1),.int .i64 m] 59)=W6):=e6.symm
   clear s3 s4 e4 s5 e5 s6 e6 b4 b5
   go_wp2_with (first | (rw [H4.out];clear H4) | (rw [H5.out];clear H5) | (rw [H6.out];clear H6))
   go_ret
   exact ⟨_,rfl,HS.out⟩
 | true=>
  cases h with
  | false=>
   rw [show Dk.ownV false true m t=[⟨4,t,0⟩] from rfl]
   have KR:∀ w,Calls Tryz.prog 126 #[Dk.vv m t A L C] w fun x w'=>x=.returned (.tuple #[.int .i64 t,.bool true])∧Below w.heap.size w w':=KR
   go_enter Tryz.func100,Tryz.ntmps100
   go_wp2_with (rw [H1.out];clear H1)
   refine (KR _).mono ?_
   rintro e w2 ⟨rfl,v2⟩
   have s2:=s1.below v2
   have b2:=s2.box (List.mem_cons_self ..)
   have c0:w2.cell? ⟨w.heap.size,0,none⟩=some (.int .i64 m):=b2.cell 0
   have c1:w2.cell? ⟨w.heap.size,1,none⟩=some (.int .i64 t):=b2.cell 1
   have c2:w2.cell? ⟨w.heap.size,2,none⟩=some (.slice A L C):=b2.cell 2
   clear s1 b1 d0 d1 d2 v2 b2 KR
   go_wp2_with fail
   refine (KH _).mono ?_
   rintro e w3 ⟨rfl,v3⟩
   have s3:=s2.below v3
   clear s2 v3 KH c0 c1 c2
   obtain ⟨W4,e4⟩:∃ W,W=w3.alloc (.cells #[.int .i64 4,.int .i64 (-1),.int .i64 0] 59):=⟨_,rfl⟩
   have s4:=s3.newBox e4
   have H4:Hid (w3.alloc (.cells #[.int .i64 4,.int .i64 (-1),.int .i64 0] 59)=W4):=e4.symm
   have b4:=s4.box (List.mem_cons_self ..)
   have fz4:W4.frozen? ⟨w3.heap.size,1,none⟩=false:=b4.frozen 1
   have fc4:W4.cell? ⟨w3.heap.size,1,none⟩=some (.int .i64 (-1)):=b4.cell 1
   have s5:=Dk.Sep.setBox (us1:=[]) (o:=1) s4 (.int .i64 t)
   have s5:Dk.Sep w (W4.setCell ⟨w3.heap.size,1,none⟩ (.int .i64 t)) [Dk.boxOf w3.heap.size #[.int .i64 4,.int .i64 t,.int .i64 0] 59,Dk.boxOf w.heap.size #[.int .i64 m,.int .i64 t,.slice A L C] 55]:=s5
   obtain ⟨W5,e5⟩:∃ W,W=W4.setCell ⟨w3.heap.size,1,none⟩ (.int .i64 t):=⟨_,rfl⟩
   rw [← e5] at s5
   have H5:Hid (W4.setCell ⟨w3.heap.size,1,none⟩ (.int .i64 t)=W5):=e5.symm
   have b5:=s5.box (List.mem_cons_self ..)
   have k0:W5.cell? ⟨w3.heap.size,0,none⟩=some (.int .i64 4):=b5.cell 0
   have k1:W5.cell? ⟨w3.heap.size,1,none⟩=some (.int .i64 t):=b5.cell 1
   have k2:W5.cell? ⟨w3.heap.size,2,none⟩=some (.int .i64 0):=b5.cell 2
   obtain ⟨W6,e6⟩:∃ W,W=W5.alloc (.cells #[.int .i64 4,.int .i64 t,.int .i64 0] 59):=⟨_,rfl⟩
   have s6:=Dk.Sep.lit (n:=1) (s:=3) (xs:=Dk.evs [⟨4,t,0⟩]) s5 e6 rfl rfl (by decide)
   have HS:Hid _:=s6.sub (us:=[_]) ((List.nil_sublist _).cons_cons _)
   have H6:Hid (W5.alloc (.cells #[.int .i64 4,.int .i64 t,.int .i64 0] 59)=W6):=e6.symm
   clear s3 s4 e4 s5 e5 s6 e6 b4 b5
   go_wp2_with (first | (rw [H4.out];clear H4) | (rw [H5.out];clear H5) | (rw [H6.out];clear H6))
   go_ret
   exact ⟨_,rfl,HS.out⟩
  | true=>
   rw [show Dk.ownV true true m t=[⟨4,t,m⟩] from rfl]
   have KR:∀ w,Calls Tryz.prog 126 #[Dk.vv m t A L C] w fun x w'=>x=.returned (.tuple #[.int .i64 t,.bool true])∧Below w.heap.size w w':=KR
   go_enter Tryz.func100,Tryz.ntmps100
   go_wp2_with (rw [H1.out];clear H1)
   refine (KR _).mono ?_
   rintro e w2 ⟨rfl,v2⟩
   have s2:=s1.below v2
   have b2:=s2.box (List.mem_cons_self ..)
   have c0:w2.cell? ⟨w.heap.size,0,none⟩=some (.int .i64 m):=b2.cell 0
   have c1:w2.cell? ⟨w.heap.size,1,none⟩=some (.int .i64 t):=b2.cell 1
   have c2:w2.cell? ⟨w.heap.size,2,none⟩=some (.slice A L C):=b2.cell 2
   clear s1 b1 d0 d1 d2 v2 b2 KR
   go_wp2_with fail
   refine (KH _).mono ?_
   rintro e w3 ⟨rfl,v3⟩
   have s3:=s2.below v3
   clear s2 v3 KH c0 c1 c2
   have b3:=s3.box (List.mem_cons_self ..)
   have f0:w3.cell? ⟨w.heap.size,0,none⟩=some (.int .i64 m):=b3.cell 0
   have hw3:w.heap.size < w3.heap.size:=b3.lt
   clear b3
   obtain ⟨W4,e4⟩:∃ W,W=w3.alloc (.cells #[.int .i64 4,.int .i64 (-1),.int .i64 0] 59):=⟨_,rfl⟩
   have s4:=s3.newBox e4
   have q4:w.heap.size≠w3.heap.size:=by omega
   have H4:Hid (w3.alloc (.cells #[.int .i64 4,.int .i64 (-1),.int .i64 0] 59)=W4):=e4.symm
   have b4:=s4.box (List.mem_cons_self ..)
   have fz4:W4.frozen? ⟨w3.heap.size,1,none⟩=false:=b4.frozen 1
   have fc4:W4.cell? ⟨w3.heap.size,1,none⟩=some (.int .i64 (-1)):=b4.cell 1
   have g4:W4.cell? ⟨w.heap.size,0,none⟩=some (.int .i64 m):=(s4.box (b:=w.heap.size) (cs:=#[.int .i64 m,.int .i64 t,.slice A L C]) (t:=55) (by simp)).cell 0
   have s5:=Dk.Sep.setBox (us1:=[]) (o:=1) s4 (.int .i64 t)
   have s5:Dk.Sep w (W4.setCell ⟨w3.heap.size,1,none⟩ (.int .i64 t)) [Dk.boxOf w3.heap.size #[.int .i64 4,.int .i64 t,.int .i64 0] 59,Dk.boxOf w.heap.size #[.int .i64 m,.int .i64 t,.slice A L C] 55]:=s5
   obtain ⟨W5,e5⟩:∃ W,W=W4.setCell ⟨w3.heap.size,1,none⟩ (.int .i64 t):=⟨_,rfl⟩
   rw [← e5] at s5
   have H5:Hid (W4.setCell ⟨w3.heap.size,1,none⟩ (.int .i64 t)=W5):=e5.symm
   have b5:=s5.box (List.mem_cons_self ..)
   have fz5:W5.frozen? ⟨w3.heap.size,2,none⟩=false:=b5.frozen 2
   have fc5:W5.cell? ⟨w3.heap.size,2,none⟩=some (.int .i64 0):=b5.cell 2
   have g5:W5.cell? ⟨w.heap.size,0,none⟩=some (.int .i64 m):=(s5.box (b:=w.heap.size) (cs:=#[.int .i64 m,.int .i64 t,.slice A L C]) (t:=55) (by simp)).cell 0
   have s6:=Dk.Sep.setBox (us1:=[]) (o:=2) s5 (.int .i64 m)
   have s6:Dk.Sep w (W5.setCell ⟨w3.heap.size,2,none⟩ (.int .i64 m)) [Dk.boxOf w3.heap.size #[.int .i64 4,.int .i64 t,.int .i64 m] 59,Dk.boxOf w.heap.size #[.int .i64 m,.int .i64 t,.slice A L C] 55]:=s6
   obtain ⟨W6,e6⟩:∃ W,W=W5.setCell ⟨w3.heap.size,2,none⟩ (.int .i64 m):=⟨_,rfl⟩
   rw [← e6] at s6
   have H6:Hid (W5.setCell ⟨w3.heap.size,2,none⟩ (.int .i64 m)=W6):=e6.symm
   have b6:=s6.box (List.mem_cons_self ..)
   have k0:W6.cell? ⟨w3.heap.size,0,none⟩=some (.int .i64 4):=b6.cell 0
   have k1:W6.cell? ⟨w3.heap.size,1,none⟩=some (.int .i64 t):=b6.cell 1
   have k2:W6.cell? ⟨w3.heap.size,2,none⟩=some (.int .i64 m):=b6.cell 2
   obtain ⟨W7,e7⟩:∃ W,W=W6.alloc (.cells #[.int .i64 4,.int .i64 t,.int .i64 m] 59):=⟨_,rfl⟩
   have s7:=Dk.Sep.lit (n:=1) (s:=3) (xs:=Dk.evs [⟨4,t,m⟩]) s6 e7 rfl rfl (by decide)
   have HS:Hid _:=s7.sub (us:=[_]) ((List.nil_sublist _).cons_cons _)
   have H7:Hid (W6.alloc (.cells #[.int .i64 4,.int .i64 t,.int .i64 m] 59)=W7):=e7.symm
   clear s3 s4 e4 s5 e5 s6 e6 s7 e7 b4 b5 b6
   go_wp2_with (first | (rw [H4.out];clear H4) | (rw [H5.out];clear H5) | (rw [H6.out];clear H6) | (rw [H7.out];clear H7))
   go_ret
   exact ⟨_,rfl,HS.out⟩
theorem zit {m t:Int} {A:Option Addr} {L C:Nat} {es:List Dk.Ev} {w:World} (hm:Dk.i64 m) (ht:Dk.i64 t) (hE:Dk.SlE w.heap.size w A L C es) (hL:L+1≤5864062014805) :
  Calls Tryz.prog 62 #[Dk.vv m t A L C] w fun e w'=>∃ B D,e=.returned (.slice B (Dk.stripV m t es).length D)∧Dk.Sep w w' [Dk.rowOf 59 3 (.slice B (Dk.stripV m t es).length D) (Dk.stripV m t es).length (Dk.evs (Dk.stripV m t es))]:=by
 have KT:=fun w=>zkn m t A L C w
 have HTok:Hid _:=Dk.zfe hm ht
 have HKok:Hid _:=Dk.zgw hE.wf
 have hlen:=hE.len
 have hTl:=Dk.zdv m t
 have hKl:=Dk.zc2 es
 unfold Dk.stripV
 generalize Dk.takenV m t=ts at *
 obtain ⟨W1,e1⟩:∃ W,W=w.alloc (.cells #[.int .i64 m,.int .i64 t,.slice A L C] 55):=⟨_,rfl⟩
 have s1:=(Dk.Sep.begin (Below.refl w.heap.size w)).newBox e1
 have HE:Hid _:=hE.up s1.out
 have HU:Hid _:=s1.out
 have b1:=s1.box (List.mem_cons_self ..)
 have FC:Hid (∀ w',Below W1.heap.size W1 w'→w'.cell? ⟨w.heap.size,0,none⟩=some (.int .i64 m)∧w'.cell? ⟨w.heap.size,1,none⟩=some (.int .i64 t)∧w'.cell? ⟨w.heap.size,2,none⟩=some (.slice A L C)):=fun w' u=>
  ⟨(b1.up u).cell 0,(b1.up u).cell 1,(b1.up u).cell 2⟩
 have H1:Hid (w.alloc (.cells #[.int .i64 m,.int .i64 t,.slice A L C] 55)=W1):=e1.symm
 clear hE e1 b1 s1
 go_enter Tryz.func62,Tryz.ntmps62
 go_wp2_with (rw [H1.out];clear H1)
 refine Dk.zq (S:=fun w'=>Below W1.heap.size W1 w') [(true,0),(true,2),(true,3),(false,1),(false,4),(false,5),(true,6)] (by kernel_rfl) (by kernel_rfl) (by kernel_rfl) rfl (Dk.zm (Below.refl W1.heap.size W1)) ?_
 refine Dk.zj (v:=.agg #[.int .i64 m,.int .i64 t,.slice A L C]) rfl rfl (fun w' hw'=>by obtain ⟨q0,q1,q2⟩:=FC.out w' hw';go_simp) ?_
 simp only [zD]
 refine Dk.zj rfl rfl (fun w' hw'=>by go_simp;rfl) ?_
 simp only [zD]
 refine Dk.zj (v:=.slice A L C) rfl rfl (fun w' hw'=>by obtain ⟨q0,q1,q2⟩:=FC.out w' hw';go_simp) ?_
 simp only [zD]
 refine Dk.zad (f:=100) (args:=#[Dk.vv m t A L C]) rfl rfl (by go_simp) ?_
 refine (KT _).mono ?_
 rintro e w2 ⟨v,rfl,s2⟩
 have u2:=Dk.zg (Dk.zm (Below.refl W1.heap.size W1)) s2.out
 refine ⟨_,rfl,u2,?_⟩
 simp only [zD]
 have K3:=Keep_any (HE.out.up u2) (by omega)
 refine Dk.zad (f:=101) (args:=#[.slice A L C]) rfl rfl (by go_simp) ?_
 refine K3.mono ?_
 rintro e w3 ⟨v',rfl,s3⟩
 have u3:=Dk.zg u2 s3.out
 refine ⟨_,rfl,u3,?_⟩
 simp only [zD]
 obtain ⟨A2,C2,rfl,q2⟩:=(s2.below s3.out).asEvs (e:=59) (v:=v) (n:=ts.length) (xs:=ts) (List.mem_cons_self ..) rfl HTok.out
 obtain ⟨A3,C3,rfl,q3⟩:=s3.asEvs (e:=59) (v:=v') (n:=(Dk.keepL es).length) (xs:=Dk.keepL es) (List.mem_cons_self ..) rfl HKok.out
 have K4:=za5 q2 q3 (by omega)
 refine Dk.zad (f:=61) (args:=#[.slice A2 ts.length C2,.slice A3 (Dk.keepL es).length C3]) rfl rfl (by go_simp) ?_
 refine K4.mono ?_
 rintro e w4 ⟨B,D,rfl,s4⟩
 have u4:=Dk.zg u3 s4.out
 refine ⟨_,rfl,u4,?_⟩
 have HS:Hid _:=(Dk.Sep.begin (Dk.zg (Dk.zg HU.out u3) (Below.refl _ _))).onto s4
 rw [← List.length_append] at HS
 clear K3 K4 q2 q3 s2 s3 s4 u2 u3 u4 KT
 simp only [zD]
 refine Dk.zj rfl rfl (fun w' hw'=>by go_simp;rfl) ?_
 simp only [zD]
 rw [← List.length_append]
 show NoPanic _ Exit.normal _ _
 refine NoPanic.normal ?_
 go_wp2
 go_ret
 exact ⟨_,_,rfl,HS.out⟩
theorem Told_any {m t:Int} {A A':Option Addr} {L L' C C':Nat} {es es':List Dk.Ev} {w:World} (hm:Dk.i64 m) (ht:Dk.i64 t) (hE:Dk.SlE w.heap.size w A L C es) (hE':Dk.SlE w.heap.size w A' L' C' es') (hL:L+1+L'≤5864062014805) :
  Calls Tryz.prog 63 #[Dk.vv m t A L C,.slice A' L' C'] w fun e w'=>∃ B D,e=.returned (Dk.vv 1 (-1) B ((Dk.stripV m t es).length+L') D)∧Dk.Sep w w' [Dk.rowOf 59 3 (.slice B ((Dk.stripV m t es).length+L') D) ((Dk.stripV m t es).length+L') (Dk.evs (Dk.stripV m t es++es'))]:=by
 have hlen:=hE.len
 have hlen':=hE'.len
 have hSl:=Dk.zh9 m t es
 have HO:Hid _:=Dk.zfb hm ht hE.wf
 have HO':Hid _:=hE'.wf
 obtain ⟨W1,e1⟩:∃ W,W=w.alloc (.cells #[.int .i64 m,.int .i64 t,.slice A L C] 55):=⟨_,rfl⟩
 have s1:=(Dk.Sep.begin (Below.refl w.heap.size w)).newBox e1
 obtain ⟨W2,e2⟩:∃ W,W=W1.alloc (.cells #[.int .i64 0,.int .i64 0,.slice none 0 0] 55):=⟨_,rfl⟩
 have s2:=s1.newBox e2
 have b2:=s2.box (b:=w.heap.size) (cs:=#[.int .i64 m,.int .i64 t,.slice A L C]) (t:=55) (by simp)
 have c0:W2.cell? ⟨w.heap.size,0,none⟩=some (.int .i64 m):=b2.cell 0
 have c1:W2.cell? ⟨w.heap.size,1,none⟩=some (.int .i64 t):=b2.cell 1
 have c2:W2.cell? ⟨w.heap.size,2,none⟩=some (.slice A L C):=b2.cell 2
 have hwW:w.heap.size < W1.heap.size:=(s1.box (List.mem_cons_self ..)).lt
 have K1:=zit hm ht (hE.up s2.out) (by omega)
 have HE':Hid _:=hE'.up s2.out
 generalize Dk.stripV m t es=l at *
 have H1:Hid (w.alloc (.cells #[.int .i64 m,.int .i64 t,.slice A L C] 55)=W1):=e1.symm
 have H2:Hid (W1.alloc (.cells #[.int .i64 0,.int .i64 0,.slice none 0 0] 55)=W2):=e2.symm
 clear e1 e2 b2 hE hE' s1
 go_enter Tryz.func63,Tryz.ntmps63
 go_wp2_with (first | (rw [H1.out];clear H1) | (rw [H2.out];clear H2))
 refine K1.mono ?_
 rintro e w3 ⟨B3,D3,rfl,s3⟩
 obtain ⟨_,_,ev,q3⟩:=s3.asEvs (List.mem_cons_self ..) rfl HO.out
 cases ev
 have K2:=za5 q3 (HE'.out.up s3.out) (by omega)
 have S3:=s2.onto s3
 clear K1 q3 s3 s2 c0 c1 c2
 go_wp2_with fail
 refine K2.mono ?_
 rintro e w4 ⟨B4,D4,rfl,s4⟩
 obtain ⟨_,_,ev,q4⟩:=s4.asEvs (List.mem_cons_self ..) (by rw [List.length_append,hlen']) (fun e he=>(List.mem_append.1 he).elim (HO.out e) (HO'.out e))
 cases ev
 have K3:=zil q4 (by omega)
 have S4:=S3.below s4.out
 clear K2 q4 s4 S3
 go_wp2_with fail
 refine K3.mono ?_
 rintro e w5 ⟨B,D,rfl,s5⟩
 have s3:=S4.onto s5
 have b2:Dk.Box w5 W1.heap.size #[.int .i64 0,.int .i64 0,.slice none 0 0] 55:=s3.box (by simp)
 have HB2:Hid _:=b2
 have s6:=Dk.Sep.setRow (us1:=[_,_]) s3 #[.int .i64 1,.int .i64 (-1),.slice B (l.length+L') D]
 obtain ⟨W6,e6⟩:∃ W,W=w5.setRow W1.heap.size #[.int .i64 1,.int .i64 (-1),.slice B (l.length+L') D]:=⟨_,rfl⟩
 rw [← e6] at s6
 have b6:Dk.Box W6 W1.heap.size #[.int .i64 1,.int .i64 (-1),.slice B (l.length+L') D] 55:=s6.box (by simp)
 have HB6:Hid _:=b6
 have HS:Hid (Dk.Sep w W6 [Dk.rowOf 59 3 (.slice B (l.length+L') D) (l.length+L') (Dk.evs (l++es'))]):=s6.sub ((List.nil_sublist _).cons_cons _)
 have H6:Hid (w5.setRow W1.heap.size #[.int .i64 1,.int .i64 (-1),.slice B (l.length+L') D]=W6):=e6.symm
 clear b2 s3 s6 e6 b6 S4 s5 K3
 go_wp2_with (refine wpList_store_row rfl 55 _ _ rfl W1.heap.size #[.int .i64 1,.int .i64 (-1),.slice B (l.length+L') D] rfl rfl 55 _ HB2.out.heap zz rfl (zah _ _ _ _ _) ?_;rw [H6.out];clear HB2 H6)
 (try simp only [Exit.inBlock,Exit.then])
 refine bodyPost_ret (results_cell_row rfl _ _ W1.heap.size 55 #[.int .i64 1,.int .i64 (-1),.slice B (l.length+L') D] (0,0) _ rfl HB6.out.heap Tryz.underlying55 rfl zz) rfl ?_
 exact ⟨_,_,rfl,HS.out⟩
end Go.Proofs.YtpnajphbjfehnaaGreat
namespace Dk
def inRows (rs:List (List Int)) (p:Int):Bool:=decide (0≤p) && decide (p < rs.length)
def canAdd (rs:List (List Int)) (p t:Int):Bool:=inRows rs p && !rs.flatten.contains t
def addTo (rs:List (List Int)) (p t:Int):List (List Int):=if canAdd rs p t=true then rs.set p.toNat (rs.getD p.toNat []++[t]) else rs
def firstR (rs:List (List Int)):Nat:=rs.findIdx fun r=>!r.isEmpty
def pickAt (rs:List (List Int)) (p:Int):Option (Nat × Nat):=
 if inRows rs p=true then
  if (rs.getD p.toNat []).isEmpty=false then some (p.toNat,0)
  else if firstR rs < rs.length then some (firstR rs,(rs.getD (firstR rs) []).length - 1) else none
 else none
def pickT (rs:List (List Int)) (p:Int):Int:=match pickAt rs p with
 | some (k,j)=>(rs.getD k []).getD j 0
 | none=>0
def pickR (rs:List (List Int)) (p:Int):List (List Int):=match pickAt rs p with
 | some (k,j)=>rs.set k ((rs.getD k []).eraseIdx j)
 | none=>rs
def pickB (rs:List (List Int)) (p:Int):Bool:=(pickAt rs p).isSome
def whereK (rs:List (List Int)) (t:Int):Nat:=rs.findIdx fun r=>r.contains t
def whereT (rs:List (List Int)) (t:Int):Int:=if whereK rs t < rs.length then (whereK rs t:Nat) else 0
def rowL (rs:List (List Int)) (p:Int):List Int:=if inRows rs p=true then rs.getD p.toNat [] else []
def emptyR (rs:List (List Int)):Bool:=rs.all fun r=>r.isEmpty
theorem zey {α:Type} (rs:List (List α)) (k:Nat) (hk:k < rs.length) (r:List α):(rs.set k r).flatten=(rs.take k).flatten++(r++(rs.drop (k+1)).flatten):=by
 rw [List.set_eq_take_append_cons_drop,if_pos hk]
 simp [List.append_assoc]
theorem zcy {α:Type} (rs:List (List α)) (k:Nat) (hk:k < rs.length):rs.flatten=(rs.take k).flatten++(rs.getD k []++(rs.drop (k+1)).flatten):=by
 have e:rs.getD k []=rs[k]:=by simp [List.getD,hk]
 rw [e,← zey rs k hk,List.set_getElem_self]
theorem za0 (rs:List (List Int)) (k:Nat) (hk:k < rs.length) (r:List Int):((rs.set k r).flatten++rs.getD k []).Perm (rs.flatten++r):=by
 refine List.perm_iff_count.2 fun x=>?_
 have h1:=zcy rs k hk
 have h2:=zey rs k hk r
 rw [List.count_append,List.count_append,h2]
 have h3:rs.flatten.count x=((rs.take k).flatten++(rs.getD k []++(rs.drop (k+1)).flatten)).count x:=by rw [← h1]
 rw [h3]
 simp only [List.count_append]
 omega
structure Few (N:Nat) (rs:List (List Int)):Prop where
 rows:rs.length≤64
 len:rs.flatten.length≤N
 nodup:rs.flatten.Nodup
 wf:∀ x ∈ rs.flatten,-9223372036854775808≤x∧x≤9223372036854775807
theorem Few.mono {N M:Nat} {rs:List (List Int)} (h:Few N rs) (hN:N≤M):Few M rs:=⟨h.rows,Nat.le_trans h.len hN,h.nodup,h.wf⟩
theorem Few.blank (n:Nat) (hn:n≤64):Few 0 (List.replicate n []):=by
 have e:(List.replicate n ([]:List Int)).flatten=[]:=by
  induction n with
  | zero=>rfl
  | succ n ih=>rw [List.replicate_succ,List.flatten_cons,ih (by omega)];rfl
 exact ⟨by simpa using hn,by rw [e];exact Nat.le_refl _,by rw [e];exact List.nodup_nil,fun x hx=>by rw [e] at hx;simp at hx⟩
theorem zw {rs:List (List Int)} {p:Int}:inRows rs p=true ↔ 0≤p∧p < rs.length:=by simp [inRows]
theorem zdk {rs:List (List Int)} {p t:Int} (h:canAdd rs p t=true):(addTo rs p t).flatten.Perm (t::rs.flatten):=by
 unfold addTo
 rw [if_pos h]
 unfold canAdd at h
 simp only [Bool.and_eq_true] at h
 have hp:=zw.1 h.1
 have h1:=za0 rs p.toNat (by omega) (rs.getD p.toNat []++[t])
 refine List.perm_iff_count.2 fun x=>?_
 have h2:=h1.count_eq x
 simp only [List.count_append,List.count_cons,List.count_nil] at h2 ⊢
 omega
theorem zix (rs:List (List Int)) (p t:Int):(addTo rs p t).length=rs.length:=by
 unfold addTo
 split
 ·exact List.length_set
 ·rfl
theorem Few.add {N:Nat} {rs:List (List Int)} {p t:Int} (h:Few N rs) (ht:-9223372036854775808≤t∧t≤9223372036854775807):Few (N+1) (addTo rs p t):=by
 by_cases hc:canAdd rs p t=true
 ·have hp:=zdk hc
  have hn:t ∉ rs.flatten:=by
   unfold canAdd at hc
   simp only [Bool.and_eq_true,Bool.not_eq_true'] at hc
   intro hm
   have:=hc.2
   rw [List.contains_iff_mem.2 hm] at this
   cases this
  refine ⟨by rw [zix];exact h.rows,by rw [hp.length_eq,List.length_cons];have:=h.len;omega,hp.nodup_iff.2 (List.nodup_cons.2 ⟨hn,h.nodup⟩),fun x hx=>?_⟩
  rcases List.mem_cons.1 (hp.mem_iff.1 hx) with rfl | hx
  ·exact ht
  ·exact h.wf x hx
 ·unfold addTo
  rw [if_neg hc]
  exact h.mono (by omega)
theorem zch:∀ (l:List Int) (j:Nat),j < l.length→∀ x,l.count x=((l.getD j 0)::l.eraseIdx j).count x
 | [],j,h,_=>absurd h (by simp)
 | y::l,0,_,x=>rfl
 | y::l,j+1,h,x=>by
  have:=zch l j (by simpa using h) x
  simp only [List.getD_cons_succ,List.eraseIdx_cons_succ,List.count_cons] at this ⊢
  omega
theorem zcx {rs:List (List Int)} (h:firstR rs < rs.length):(rs.getD (firstR rs) []).isEmpty=false:=by
 unfold firstR at h ⊢
 have:=List.findIdx_getElem (xs:=rs) (p:=fun r=>!r.isEmpty) (w:=h)
 have e:rs.getD (rs.findIdx fun r=>!r.isEmpty) []=rs[rs.findIdx fun r=>!r.isEmpty]:=by rw [List.getD,List.getElem?_eq_getElem h];rfl
 rw [e]
 simpa using this
theorem zkd {rs:List (List Int)} {p:Int} {k j:Nat} (h:pickAt rs p=some (k,j)):k < rs.length∧j < (rs.getD k []).length:=by
 unfold pickAt at h
 split at h
 ·rename_i h0
  have h0:=zw.1 h0
  split at h
  ·rename_i h1
   obtain ⟨rfl,rfl⟩:=Prod.mk.inj (Option.some.inj h)
   refine ⟨by omega,?_⟩
   cases hr:rs.getD p.toNat [] with
   | nil=>rw [hr] at h1;simp at h1
   | cons=>simp
  ·split at h
   ·rename_i h2
    obtain ⟨rfl,rfl⟩:=Prod.mk.inj (Option.some.inj h)
    refine ⟨h2,?_⟩
    have:=zcx h2
    cases hr:rs.getD (firstR rs) [] with
    | nil=>rw [hr] at this;simp at this
    | cons=>simp
   ·cases h
 ·cases h
theorem ze5 {rs:List (List Int)} {p:Int} (h:pickB rs p=true):(pickT rs p::(pickR rs p).flatten).Perm rs.flatten:=by
 unfold pickB at h
 cases e:pickAt rs p with
 | none=>rw [e] at h;cases h
 | some kj=>
  obtain ⟨k,j⟩:=kj
  obtain ⟨hk,hj⟩:=zkd e
  unfold pickT pickR
  rw [e]
  dsimp only
  have h1:=za0 rs k hk ((rs.getD k []).eraseIdx j)
  refine List.perm_iff_count.2 fun x=>?_
  have h2:=h1.count_eq x
  have h3:=zch (rs.getD k []) j hj x
  simp only [List.count_append,List.count_cons] at h2 h3 ⊢
  omega
theorem zke (rs:List (List Int)) (p:Int):(pickR rs p).length=rs.length:=by
 unfold pickR
 split
 ·exact List.length_set
 ·rfl
theorem Few.pick {N:Nat} {rs:List (List Int)} (h:Few N rs) (p:Int):Few N (pickR rs p):=by
 by_cases hb:pickB rs p=true
 ·have hp:=ze5 hb
  have hn:=hp.nodup_iff.2 h.nodup
  refine ⟨by rw [zke];exact h.rows,?_,(List.nodup_cons.1 hn).2,fun x hx=>h.wf x (hp.mem_iff.1 (List.mem_cons_of_mem _ hx))⟩
  have h1:=hp.length_eq
  have h2:=h.len
  rw [List.length_cons] at h1
  omega
 ·have e:pickAt rs p=none:=by
   unfold pickB at hb
   cases h':pickAt rs p with
   | none=>rfl
   | some x=>rw [h'] at hb;simp at hb
  unfold pickR
  rw [e]
  exact h
open Go Go.RowKit Go.Deep Go.ChangeShapes Go.WideShapes
structure Act4 where
 what:Int
 n:Int
 handle:Nat
def Act4.zero:Act4:=⟨0,0,0⟩
open Go Go.RowKit
instance (x:Int):Decidable (i64 x):=by unfold i64;infer_instance
def nRows (p:Int):Nat:=(max 0 (min p 64)).toNat
theorem zeq {B:Nat} {w:World} {A:Option Addr} {L C:Nat} {xs:List Int} (h:SlI B w A L C xs) (k:Nat) (hk:k < L):∃ b o,A=some ⟨b,o,none⟩∧∀ w',Below B w w'→w'.cell? ⟨b,o+k,none⟩=some (.int .i64 (xs.getD k 0)):=by
 obtain ⟨b,o,e,hlt,hc⟩:=h.cells (by omega)
 exact ⟨b,o,e,fun w' u=>by rw [u.cell (by show b < B;exact hlt)];exact hc k hk⟩
def cells (xs:List Int):Array Value:=(xs.map (Value.int .i64)).toArray
theorem Sep.ints {W w:World} {ts:List Thing} {e:TypeId} {A:Option Addr} {n C:Nat} {xs:List Int} (h:Sep W w ts) (ht:rowOf e 1 (.slice A n C) n (is xs) ∈ ts) (hn:xs.length=n) (hx:∀ x ∈ xs,i64 x):SlI w.heap.size w A n C xs:=by
 have r:=h.row ht
 subst hn
 obtain ⟨A',C',ev,q⟩:=za2 r hx
 injection ev with q1 _ q2
 subst q1
 subst q2
 exact q
end Dk
namespace Go.Proofs.YtpnajphbjfehnaaGreat
open Go.RowKit
structure RowsI (R0:Nat→List (List Int)→List Dk.Thing→Prop):Prop where
 new:∀ {W w:World} {us:List Dk.Thing},Dk.Sep W w us→∀ p:Int,Dk.i64 p→Calls Tryz.prog 43 #[.int .i64 p] w fun e w'=>∃ b ts,e=.returned (.pointer (some ⟨b,0,none⟩))∧R0 b (List.replicate (Dk.nRows p) []) ts∧Dk.Sep W w' (us++ts)
 add:∀ {W w:World} {b N:Nat} {rs:List (List Int)} {us ts:List Dk.Thing},R0 b rs ts→Dk.Sep W w (us++ts)→Dk.Few N rs→N≤200→∀ p t:Int,Dk.i64 p→Dk.i64 t→Calls Tryz.prog 143 #[.pointer (some ⟨b,0,none⟩),.int .i64 p,.int .i64 t] w fun e w'=>e=.returned (.bool (Dk.canAdd rs p t))∧∃ ts',R0 b (Dk.addTo rs p t) ts'∧Dk.Sep W w' (us++ts')
 pick:∀ {W w:World} {b N:Nat} {rs:List (List Int)} {us ts:List Dk.Thing},R0 b rs ts→Dk.Sep W w (us++ts)→Dk.Few N rs→N≤200→∀ p:Int,Dk.i64 p→Calls Tryz.prog 124 #[.pointer (some ⟨b,0,none⟩),.int .i64 p] w fun e w'=>e=.returned (.tuple #[.int .i64 (Dk.pickT rs p),.bool (Dk.pickB rs p)])∧∃ ts',R0 b (Dk.pickR rs p) ts'∧Dk.Sep W w' (us++ts')
 where_:∀ {W w:World} {b N:Nat} {rs:List (List Int)} {us ts:List Dk.Thing},R0 b rs ts→Dk.Sep W w (us++ts)→Dk.Few N rs→N≤200→∀ t:Int,Dk.i64 t→Calls Tryz.prog 177 #[.pointer (some ⟨b,0,none⟩),.int .i64 t] w fun e w'=>∃ k:Int,e=.returned (.tuple #[.int .i64 k,.bool (decide (Dk.whereK rs t < rs.length))])∧(Dk.whereK rs t < rs.length→k=(Dk.whereK rs t:Nat))∧Dk.i64 k∧∃ ts',R0 b rs ts'∧Dk.Sep W w' (us++ts')
 empty:∀ {W w:World} {b N:Nat} {rs:List (List Int)} {us ts:List Dk.Thing},R0 b rs ts→Dk.Sep W w (us++ts)→Dk.Few N rs→N≤200→Calls Tryz.prog 125 #[.pointer (some ⟨b,0,none⟩)] w fun e w'=>e=.returned (.bool (Dk.emptyR rs))∧∃ ts',R0 b rs ts'∧Dk.Sep W w' (us++ts')
 row:∀ {W w:World} {b N:Nat} {rs:List (List Int)} {us ts:List Dk.Thing},R0 b rs ts→Dk.Sep W w (us++ts)→Dk.Few N rs→N≤200→∀ p:Int,Dk.i64 p→Calls Tryz.prog 29 #[.pointer (some ⟨b,0,none⟩),.int .i64 p] w fun e w'=>∃ A C,e=.returned (.slice A (Dk.rowL rs p).length C)∧∃ ts',R0 b rs ts'∧Dk.Sep W w' (Dk.rowOf 3 1 (.slice A (Dk.rowL rs p).length C) (Dk.rowL rs p).length (Dk.is (Dk.rowL rs p))::(us++ts'))
 add_nil:∀ (w:World) (p t:Int),Calls Tryz.prog 143 #[.pointer none,.int .i64 p,.int .i64 t] w fun e w'=>e=.returned (.bool false)∧Below w.heap.size w w'
 pick_nil:∀ (w:World) (p:Int),Calls Tryz.prog 124 #[.pointer none,.int .i64 p] w fun e w'=>e=.returned (.tuple #[.int .i64 0,.bool false])∧Below w.heap.size w w'
 where_nil:∀ (w:World) (t:Int),Calls Tryz.prog 177 #[.pointer none,.int .i64 t] w fun e w'=>(∃ k:Int,e=.returned (.tuple #[.int .i64 k,.bool false]))∧Below w.heap.size w w'
 empty_nil:∀ (w:World),Calls Tryz.prog 125 #[.pointer none] w fun e w'=>e=.returned (.bool true)∧Below w.heap.size w w'
 row_nil:∀ (w:World) (p:Int),Calls Tryz.prog 29 #[.pointer none,.int .i64 p] w fun e w'=>(∃ A C,e=.returned (.slice A 0 C))∧Below w.heap.size w w'
end Go.Proofs.YtpnajphbjfehnaaGreat
