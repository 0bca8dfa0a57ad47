import Derived.Test.YtpnajphbjfehnaaGreatLn32
set_option linter.unusedSimpArgs false
set_option linter.unusedVariables false
set_option linter.unnecessarySimpa false
set_option maxHeartbeats 8000000
set_option maxRecDepth 100000
namespace Dk
open Go Go.RowKit
structure Dd where
 cm:Bool
 t:Int
 e:Efx
def Dd.none:Dd:=⟨false,0,⟨[],false,false,false⟩⟩
abbrev Dd.v (d:Dd) (A:Option Addr) (C:Nat):Value:=didv d.cm d.t A C d.e
section
variable {σ : Type}
def Ls.runT (x:Ls σ) (k:Nat) (t:Int) (e:Efx):Ls σ:=if e.st=true then x.setV k ⟨1,-1,[⟨2,t,0⟩]⟩ else if e.en=true then x.setV k ⟨3,-1,[]⟩ else x
def Ls.run (F:SpF σ) (x:Ls σ) (k:Nat) (c:Int):Ls σ × Dd:=
 if F.cls x.s (x.at k).t=2 then (x.setV k ⟨6,(x.at k).t,[]⟩,Dd.none)
 else ((Ls.runT { x with s:=F.run x.s (x.at k).t c } k (x.at k).t (F.eff x.s (x.at k).t c)).tell (unbl (F.eff x.s (x.at k).t c).woken),⟨true,(x.at k).t,F.eff x.s (x.at k).t c⟩)
def Ls.insT (x:Ls σ) (k:Nat) (t:Int) (e:Efx):Ls σ:=if e.ye=true then (x.come k [t]).end_ k ⟨3,-1,[]⟩ else if e.st=true then x.end_ k ⟨3,-1,[]⟩ else if e.en=true then x.end_ k ⟨3,-1,[]⟩ else x.end_ k ⟨5,t,[]⟩
def Ls.inside (F:SpF σ) (x:Ls σ) (k:Nat) (c:Int):Ls σ × Dd:=
 (Ls.insT (Ls.come { x with s:=F.run x.s (x.at k).t c } k (F.eff x.s (x.at k).t c).woken) k (x.at k).t (F.eff x.s (x.at k).t c),⟨true,(x.at k).t,F.eff x.s (x.at k).t c⟩)
theorem zci {k t:Int} (h0:0≤k∧k≤100) (ht:i64 t):(⟨k,t,0⟩:Ev).ok:=⟨by unfold i64;dsimp only;omega,ht,by unfold i64;dsimp only;omega⟩
theorem zfa {x:Ls σ} (h:x.small) (k:Nat) (v:Vw) (hv:v.es.length≤1000000):(x.setV k v).small:=⟨h.1,fun y hy=>by
 rcases List.mem_or_eq_of_mem_set hy with hy | rfl
 ·exact h.2 y hy
 ·exact hv⟩
variable {S0 : Nat → σ → List Thing → Prop} {W w w' : World} {b : Nat} {l : Lb σ} {us : List Thing}
theorem LB.nilRow (h:LB S0 W w b l us) (e:TypeId) (s:Nat):LB S0 W w b l (rowOf e s (.slice Option.none 0 0) 0 []::us):=h.onto ((Sep.begin (Below.refl w.heap.size w)).nilRow e s)
theorem LB.litE {e:Ev} {ty:TypeId} (h:LB S0 W w b l us) (he:e.ok) (ew:w'=w.alloc (.cells #[.int .i64 e.k,.int .i64 e.t,.int .i64 e.m] ty)):LB S0 W w' b l (evT (some ⟨w.heap.size,0,Option.none⟩) 1 1 [e]::us):=
 (h.onto (Sep.lit (n:=1) (s:=3) (xs:=evs [e]) (Sep.begin (Below.refl w.heap.size w)) ew rfl rfl (by decide))).toEv rfl (fun x hx=>by
  rw [List.mem_singleton] at hx
  subst hx
  exact he)
end
end Dk
namespace Go.Proofs.YtpnajphbjfehnaaGreat
open Go.RowKit Go.Lib
section
variable {σ : Type} {F : Dk.SpF σ} {S0 : Nat → σ → List Dk.Thing → Prop} {W w w' : World} {b : Nat} {l : Dk.Lb σ} {us : List Dk.Thing}
theorem zc9 (l:Dk.Lb σ) (k:Nat) (m t:Int) (A:Option Addr) (L C:Nat) (es:List Dk.Ev):Dk.Lb.st { l with vs:=l.vs.set k ⟨m,t,A,L,C,es⟩ }=l.st.setV k ⟨m,t,es⟩:=Dk.Lb.zda l k _
theorem run_l (I:SpaceI F S0) (h:Dk.LB S0 W w b l us) (hok:F.ok l.s) (hok1:F.ok l.s→True) {k:Nat} (hk:k < l.vs.length) {c:Int} (hc:Dk.i64 c) (hs:l.st.small):Calls Tryz.prog 94 #[.pointer (some ⟨b,0,none⟩),.int .i64 (k:Int),.int .i64 c] w fun e w'=>∃ A C,e=.returned ((l.st.run F k c).2.v A C)∧∃ l':Dk.Lb σ,l'.st=(l.st.run F k c).1∧Dk.LB S0 W w' b l' (Dk.rowOf 3 1 (.slice A (l.st.run F k c).2.e.woken.length C) (l.st.run F k c).2.e.woken.length (Dk.is (l.st.run F k c).2.e.woken)::us):=by
 obtain ⟨W1,e1⟩:∃ W,W=w.alloc (.cells #[.bool false,.int .i64 0,.slice none 0 0,.bool false,.bool false,.bool false] 45):=⟨_,rfl⟩
 have h1:=h.newBox e1
 have c0:W1.cell? ⟨b,0,none⟩=some (.pointer (some ⟨l.sp,0,none⟩)):=h1.box.cell 0
 have c2:W1.cell? ⟨b,2,none⟩=some (.slice (some ⟨l.vb,0,none⟩) l.vs.length l.vC):=h1.box.cell 2
 obtain ⟨q0,q1,q2⟩:=h1.vcell hk
 have hti:=(h.wf hk).2
 have HF:Hid _:=I.few l.s hok
 have i1:(k:Int) < (l.vs.length:Int):=by omega
 have hsl:l.st.s=l.s:=rfl
 unfold Dk.Ls.run
 rw [l.zaw,hsl]
 have e0:(l.vs.getD k Dk.Ve.zero).st.t=(l.vs.getD k Dk.Ve.zero).t:=rfl
 rw [e0]
 generalize (l.vs.getD k Dk.Ve.zero).t=t at *
 clear e0 hsl q0 q2
 obtain ⟨ts,hS,s1,back⟩:=h1.spOut
 have KQ:=I.class_ hS s1 hok t hti
 have HB:Hid _:=back
 have H1:Hid _:=e1.symm
 have HK:Hid _:=hk
 have HO:Hid _:=hok
 have HSM:Hid _:=hs
 have HTI:Hid _:=hti
 have HC:Hid _:=hc
 clear e1 h h1 hS s1 back hk hok hs hti hc hok1
 by_cases hcl:F.cls l.s t=2
 ·rw [if_pos hcl]
  rw [hcl] at KQ
  clear hcl
  go_enter Tryz.func94,Tryz.ntmps94
  go_wp2_with (rw [H1.out];clear H1)
  refine KQ.mono ?_
  rintro e w2 ⟨rfl,sts',hS',s2⟩
  have h2:Dk.LB S0 W w2 b { l with s:=l.s,sts:=sts' } (Dk.boxOf w.heap.size #[.bool false,.int .i64 0,.slice none 0 0,.bool false,.bool false,.bool false] 45::us):=HB.out w2 l.s sts' [] hS' s2
  have hd:=h2.below (Dk.zm (Below.refl w2.heap.size w2))
  have c2:w2.drew.cell? ⟨b,2,none⟩=some (.slice (some ⟨l.vb,0,none⟩) l.vs.length l.vC):=hd.box.cell 2
  have HC2:Hid _:=c2
  have HD:Hid _:=hd
  clear KQ HB hS' s2 h2 hd c2 q1 c0
  go_wp2_with fail
  refine Dk.zq (S:=fun w'=>w'.cell? ⟨b,2,none⟩=some (.slice (some ⟨l.vb,0,none⟩) l.vs.length l.vC)) [(true,0),(true,1),(true,2),(true,3),(true,4),(true,5),(false,6),(true,7),(false,8)] (by kernel_rfl) (by kernel_rfl) (by kernel_rfl) rfl HC2.out ?_
  iterate 6 (refine Dk.zj rfl rfl (fun w' hw'=>by go_simp;try rfl) ?_;simp only [zD])
  refine Dk.zad (f:=122) (args:=#[.int .i64 6,.int .i64 t]) rfl rfl (by go_simp) ?_
  refine (zas 6 t _).mono ?_
  rintro e w3 ⟨rfl,u3⟩
  have h3:=(Dk.LB.below HD.out u3).nilEv
  have c3:w3.cell? ⟨b,2,none⟩=some (.slice (some ⟨l.vb,0,none⟩) l.vs.length l.vC):=h3.box.cell 2
  have ht2:=h3.there HK.out
  have h4:=h3.setV (m:=6) (t:=t) HK.out (by unfold Dk.i64;omega) HTI.out
  have d3:(w3.setCells l.vb (k*3) [.int .i64 6,.int .i64 t,.slice none 0 0]).cell? ⟨b,2,none⟩=some (.slice (some ⟨l.vb,0,none⟩) (l.vs.set k ⟨6,t,none,0,0,[]⟩).length l.vC):=h4.box.cell 2
  rw [List.length_set] at d3
  refine ⟨_,rfl,c3,?_⟩
  simp only [zD]
  refine Dk.zj (v:=.pointer (some ⟨l.vb,k*3,none⟩)) rfl rfl (fun w' hw'=>by go_simp) ?_
  simp only [zD]
  refine Dk.zaq rfl rfl ?_
  refine wp_store_mid 55 _ _ rfl l.vb (k*3) #[.int .i64 6,.int .i64 t,.slice none 0 0] rfl rfl ht2 zz (zah _ _ _ _ _) ?_
  refine ⟨d3,?_⟩
  simp only [zD]
  show NoPanic _ Exit.normal _ _
  refine NoPanic.normal ?_
  obtain ⟨W5,e5⟩:∃ W,W=w3.setCells l.vb (k*3) [.int .i64 6,.int .i64 t,.slice none 0 0]:=⟨_,rfl⟩
  rw [← e5] at h4 ⊢
  have bz:Dk.Box W5 w.heap.size #[.bool false,.int .i64 0,.slice none 0 0,.bool false,.bool false,.bool false] 45:=h4.get (t:=Dk.boxOf _ _ _) (by simp)
  have h6:=Dk.LB.setRow (us1:=[]) h4 #[.bool false,.int .i64 0,.slice none 0 0,.bool false,.bool false,.bool false]
  obtain ⟨W6,e6⟩:∃ W,W=W5.setRow w.heap.size #[.bool false,.int .i64 0,.slice none 0 0,.bool false,.bool false,.bool false]:=⟨_,rfl⟩
  rw [← e6] at h6
  have bZ:Dk.Box W6 w.heap.size #[.bool false,.int .i64 0,.slice none 0 0,.bool false,.bool false,.bool false] 45:=h6.get (t:=Dk.boxOf _ _ _) (by simp)
  have HL:Hid (∃ l':Dk.Lb σ,l'.st=l.st.setV k ⟨6,t,[]⟩∧Dk.LB S0 W W6 b l' (Dk.rowOf 3 1 (.slice none 0 0) 0 []::us)):=⟨_,zc9 { l with s:=l.s,sts:=sts' } k _ _ _ _ _ _,h6.drop.nilRow _ _⟩
  have HBz:Hid _:=bz
  have HBZ:Hid _:=bZ
  have HZ:Hid _:=e6.symm
  clear h3 ht2 h4 d3 c3 HD HC2 HK u3 bz h6 e6 bZ e5
  go_wp2_with (refine wpList_store_row rfl 45 _ _ rfl w.heap.size #[.bool false,.int .i64 0,.slice none 0 0,.bool false,.bool false,.bool false] rfl rfl 45 _ HBz.out.heap zc rfl (zh _ _ _ _ _ _ _ _) ?_;rw [HZ.out];clear HBz HZ)
  (try simp only [Exit.inBlock,Exit.then])
  refine bodyPost_ret (results_cell_row rfl _ _ w.heap.size 45 #[.bool false,.int .i64 0,.slice none 0 0,.bool false,.bool false,.bool false] (0,0) _ rfl HBZ.out.heap Tryz.underlying45 rfl zc) rfl ?_
  exact ⟨none,0,rfl,HL.out⟩
 ·rw [if_neg hcl]
  have g2:(F.cls l.s t == 2)=false:=by simpa using hcl
  clear hcl
  have HW:Hid _:=HF.out.2 t c
  generalize hcq:F.cls l.s t=cq at *
  clear hcq
  generalize hE:F.eff l.s t c=E at *
  generalize hq:F.run l.s t c=q at *
  obtain ⟨X,hX⟩:∃ X,Dk.Ls.runT { l.st with s:=q } k t E=X:=⟨_,rfl⟩
  rw [hX]
  have HX0:Hid _:=hX
  have HEE:Hid _:=hE
  have HQQ:Hid _:=hq
  clear hE hq hX
  go_enter Tryz.func94,Tryz.ntmps94
  go_wp2_with (rw [H1.out];clear H1)
  refine KQ.mono ?_
  rintro e w1 ⟨rfl,sts',hS',s2⟩
  have h2:Dk.LB S0 W w1 b { l with s:=l.s,sts:=sts' } (Dk.boxOf w.heap.size #[.bool false,.int .i64 0,.slice none 0 0,.bool false,.bool false,.bool false] 45::us):=HB.out w1 l.s sts' [] hS' s2
  have KC:=zd3 I h2 HO.out HTI.out HC.out
  have HV:Hid ((Dk.Lb.st { l with s:=l.s,sts:=sts' })=l.st):=rfl
  have HZS:Hid (l.st.small):=HSM.out
  dsimp only at KC
  rw [HEE.out,HQQ.out] at KC
  clear HEE HQQ
  clear KQ HB hS' s2 h2 q1 c0
  go_wp2_with fail
  refine KC.mono ?_
  rintro e w2 ⟨A,C,rfl,l2,hl2,h2⟩
  rw [HV.out] at hl2
  have hk2:k < l2.vs.length:=by
   rw [← l2.zab,hl2,show (({ l.st with s:=q }:Dk.Ls σ)).vs.length=l.st.vs.length from rfl,l.zab]
   exact HK.out
  obtain ⟨W3,e3⟩:∃ W,W=w2.alloc (.cells #[.bool false,.int .i64 0,.slice none 0 0,.bool false,.bool false,.bool false] 45):=⟨_,rfl⟩
  have h3:=h2.newBox e3
  have b3:Dk.Box W3 w2.heap.size #[.bool false,.int .i64 0,.slice none 0 0,.bool false,.bool false,.bool false] 45:=h3.get (t:=Dk.boxOf _ _ _) (by simp)
  have h4:=Dk.LB.setRow (us1:=[]) h3 #[.bool true,.int .i64 t,.slice A E.woken.length C,.bool E.st,.bool E.en,.bool E.ye]
  obtain ⟨W4,e4⟩:∃ W,W=W3.setRow w2.heap.size #[.bool true,.int .i64 t,.slice A E.woken.length C,.bool E.st,.bool E.en,.bool E.ye]:=⟨_,rfl⟩
  rw [← e4] at h4
  have b4:Dk.Box W4 w2.heap.size #[.bool true,.int .i64 t,.slice A E.woken.length C,.bool E.st,.bool E.en,.bool E.ye] 45:=h4.get (t:=Dk.boxOf _ _ _) (by simp)
  have d3:W4.cell? ⟨w2.heap.size,3,none⟩=some (.bool E.st):=b4.cell 3
  have d4:W4.cell? ⟨w2.heap.size,4,none⟩=some (.bool E.en):=b4.cell 4
  have c2:W4.cell? ⟨b,2,none⟩=some (.slice (some ⟨l2.vb,0,none⟩) l2.vs.length l2.vC):=h4.box.cell 2
  have i2:(k:Int) < (l2.vs.length:Int):=by omega
  have HB3:Hid _:=b3
  have H3:Hid _:=e3.symm
  have H4:Hid _:=e4.symm
  have HK2:Hid _:=hk2
  have HL2:Hid _:=hl2
  have hn2:=h4.n64
  have HS2:Hid (l2.st.small):=by rw [hl2];exact HZS.out
  have HH4:Hid (Dk.LB S0 W W4 b l2 (Dk.boxOf w2.heap.size #[.bool true,.int .i64 t,.slice A E.woken.length C,.bool E.st,.bool E.en,.bool E.ye] 45::Dk.rowOf 3 1 (.slice A E.woken.length C) E.woken.length (Dk.is E.woken)::Dk.boxOf w.heap.size #[.bool false,.int .i64 0,.slice none 0 0,.bool false,.bool false,.bool false] 45::us)):=h4
  clear e3 e4 b3 b4 h2 h3 h4 hl2 KC HV HK hk2 i1 HSM HZS HF HO
  cases hst:E.st with
  | true=>
   rw [hst] at d3
   have et:Dk.Ls.runT { l.st with s:=q } k t E=({ l.st with s:=q }:Dk.Ls σ).setV k ⟨1,-1,[⟨2,t,0⟩]⟩:=by unfold Dk.Ls.runT;rw [if_pos hst]
   have HX1:Hid _:=et.symm.trans HX0.out
   have hd:=Dk.LB.below HH4.out (Dk.zm (Below.refl W4.heap.size W4))
   have HC2:Hid (W4.drew.cell? ⟨b,2,none⟩=some (.slice (some ⟨l2.vb,0,none⟩) l2.vs.length l2.vC)):=hd.box.cell 2
   have HD:Hid _:=hd
   have HST:Hid _:=hst
   clear hd et HH4 hst
   go_wp2_with (first | (rw [H3.out];clear H3) | (refine wpList_store_row rfl 45 _ _ rfl w2.heap.size #[.bool true,.int .i64 t,.slice A E.woken.length C,.bool E.st,.bool E.en,.bool E.ye] rfl rfl 45 _ HB3.out.heap zc rfl (zh _ _ _ _ _ _ _ _) ?_;rw [H4.out];clear HB3 H4))
   refine Dk.zq (S:=fun w'=>w'.cell? ⟨b,2,none⟩=some (.slice (some ⟨l2.vb,0,none⟩) l2.vs.length l2.vC)) [(true,0),(true,1),(true,2),(true,3),(true,4),(true,5),(true,6),(false,7),(false,8),(true,9),(false,10)] (by kernel_rfl) (by kernel_rfl) (by kernel_rfl) rfl HC2.out ?_
   iterate 6 (refine Dk.zj rfl rfl (fun w' hw'=>by go_simp;try rfl) ?_;simp only [zD])
   refine Dk.zj (v:=.agg #[.int .i64 2,.int .i64 t,.int .i64 0]) rfl rfl (fun w' hw'=>by go_simp;try rfl) ?_
   simp only [zD]
   obtain ⟨V5,e5⟩:∃ W,W=W4.drew.alloc (.cells #[.int .i64 2,.int .i64 t,.int .i64 0] 59):=⟨_,rfl⟩
   have h5:=Dk.LB.litE (e:=⟨2,t,0⟩) HD.out (Dk.zci (by omega) HTI.out) e5
   have c5:V5.cell? ⟨b,2,none⟩=some (.slice (some ⟨l2.vb,0,none⟩) l2.vs.length l2.vC):=h5.box.cell 2
   refine Dk.zgb (v:=.slice (some ⟨W4.drew.heap.size,0,none⟩) 1 1) (w':=V5) rfl rfl (by rw [e5];go_simp;try rfl) c5 ?_
   simp only [zD]
   have KN:=zil (h5.get (List.mem_cons_self ..)).1 (by omega)
   refine Dk.zad (f:=60) (args:=#[.slice (some ⟨W4.drew.heap.size,0,none⟩) 1 1]) rfl rfl (by go_simp) ?_
   refine KN.mono ?_
   rintro e w6 ⟨B6,D6,rfl,s6⟩
   have h6:=(h5.onto s6).toEv rfl (fun x hx=>by rw [List.mem_singleton] at hx;subst hx;exact (Dk.zci (by omega) HTI.out))
   have c6:w6.cell? ⟨b,2,none⟩=some (.slice (some ⟨l2.vb,0,none⟩) l2.vs.length l2.vC):=h6.box.cell 2
   have ht6:=h6.there HK2.out
   have h7:=h6.setV (m:=1) (t:=-1) HK2.out (by unfold Dk.i64;omega) (by unfold Dk.i64;omega)
   have d6:(w6.setCells l2.vb (k*3) [.int .i64 1,.int .i64 (-1),.slice B6 1 D6]).cell? ⟨b,2,none⟩=some (.slice (some ⟨l2.vb,0,none⟩) (l2.vs.set k ⟨1,-1,B6,1,D6,[⟨2,t,0⟩]⟩).length l2.vC):=h7.box.cell 2
   rw [List.length_set] at d6
   refine ⟨_,rfl,c6,?_⟩
   simp only [zD]
   refine Dk.zj (v:=.pointer (some ⟨l2.vb,k*3,none⟩)) rfl rfl (fun w' hw'=>by go_simp) ?_
   simp only [zD]
   refine Dk.zaq rfl rfl ?_
   refine wp_store_mid 55 _ _ rfl l2.vb (k*3) #[.int .i64 1,.int .i64 (-1),.slice B6 1 D6] rfl rfl ht6 zz (zah _ _ _ _ _) ?_
   refine ⟨d6,?_⟩
   simp only [zD]
   show NoPanic _ Exit.normal _ _
   refine NoPanic.normal ?_
   obtain ⟨V7,e7⟩:∃ W,W=w6.setCells l2.vb (k*3) [.int .i64 1,.int .i64 (-1),.slice B6 1 D6]:=⟨_,rfl⟩
   rw [← e7] at h7 ⊢
   have hx:=h7.drop
   have HE:Hid ((Dk.Lb.st { l2 with vs:=l2.vs.set k ⟨1,-1,B6,1,D6,[⟨2,t,0⟩]⟩ })=X):=by rw [zc9,HL2.out];exact HX1.out
   have HS:Hid (Dk.Ls.small (Dk.Lb.st { l2 with vs:=l2.vs.set k ⟨1,-1,B6,1,D6,[⟨2,t,0⟩]⟩ })):=by rw [zc9];exact Dk.zfa HS2.out _ _ (by simp)
   clear h5 c5 e5 KN s6 h6 c6 ht6 h7 d6 e7 HD HC2 HL2 HS2 HK2 d3 d4 c2
   have bd0:Dk.Box V7 w2.heap.size #[.bool true,.int .i64 t,.slice A E.woken.length C,.bool E.st,.bool E.en,.bool E.ye] 45:=hx.get (t:=Dk.boxOf _ _ _) (by simp)
   have y2:V7.cell? ⟨w2.heap.size,2,none⟩=some (.slice A E.woken.length C):=bd0.cell 2
   have KU:=zba (hx.ints (A:=A) (C:=C) (n:=E.woken.length) (xs:=E.woken) (e:=3) (by simp) rfl (Dk.Few16.i64 HW.out)) (by have:=HW.out.1;omega)
   have HX:Hid _:=hx
   clear bd0 hx
   go_wp2_with fail
   refine KU.mono ?_
   rintro e w7 ⟨v7,rfl,s7⟩
   obtain ⟨A7,C7,rfl,_,_⟩:=Dk.zf (s7.row (e:=59) (s:=3) (List.mem_cons_self ..))
   have h7:=(Dk.LB.onto HX.out s7).toEv rfl (fun e he=>by
    unfold Dk.unbl at he
    obtain ⟨x,hx,rfl⟩:=List.mem_map.1 he
    have:=HW.out.2 x hx
    exact Dk.zci (by omega) (by unfold Dk.i64;omega))
   have KT:=zgj h7 (List.mem_cons_self ..) HS.out (by rw [Dk.zbj];have:=HW.out.1;omega)
   clear KU HX s7 h7 y2 HS
   go_wp2_with fail
   refine KT.mono ?_
   rintro e w8 ⟨rfl,l8,hl8,h8⟩
   rw [HE.out] at hl8
   have H8:Hid _:=hl8
   have h9:=h8.drop
   clear KT hl8 h8 HE
   have bz:Dk.Box w8 w.heap.size #[.bool false,.int .i64 0,.slice none 0 0,.bool false,.bool false,.bool false] 45:=h9.get (t:=Dk.boxOf _ _ _) (by simp)
   have bd:Dk.Box w8 w2.heap.size #[.bool true,.int .i64 t,.slice A E.woken.length C,.bool E.st,.bool E.en,.bool E.ye] 45:=h9.get (t:=Dk.boxOf _ _ _) (by simp)
   have z0:w8.cell? ⟨w2.heap.size,0,none⟩=some (.bool true):=bd.cell 0
   have z1:w8.cell? ⟨w2.heap.size,1,none⟩=some (.int .i64 t):=bd.cell 1
   have z2:w8.cell? ⟨w2.heap.size,2,none⟩=some (.slice A E.woken.length C):=bd.cell 2
   have z3:w8.cell? ⟨w2.heap.size,3,none⟩=some (.bool E.st):=bd.cell 3
   have z4:w8.cell? ⟨w2.heap.size,4,none⟩=some (.bool E.en):=bd.cell 4
   have z5:w8.cell? ⟨w2.heap.size,5,none⟩=some (.bool E.ye):=bd.cell 5
   have hz:=Dk.LB.setRow (us1:=[_,_]) h9 #[.bool true,.int .i64 t,.slice A E.woken.length C,.bool E.st,.bool E.en,.bool E.ye]
   obtain ⟨WZ,eZ⟩:∃ W,W=w8.setRow w.heap.size #[.bool true,.int .i64 t,.slice A E.woken.length C,.bool E.st,.bool E.en,.bool E.ye]:=⟨_,rfl⟩
   rw [← eZ] at hz
   have bZ:Dk.Box WZ w.heap.size #[.bool true,.int .i64 t,.slice A E.woken.length C,.bool E.st,.bool E.en,.bool E.ye] 45:=hz.get (t:=Dk.boxOf _ _ _) (by simp)
   have HL:Hid (Dk.LB S0 W WZ b _ (Dk.rowOf 3 1 (.slice A E.woken.length C) E.woken.length (Dk.is E.woken)::us)):=hz.sub ((((List.Sublist.refl us).cons _).cons_cons _).cons _)
   have HBz:Hid _:=bz
   have HBZ:Hid _:=bZ
   have HZ:Hid _:=eZ.symm
   clear bz bd hz eZ bZ h9
   go_wp2_with (refine wpList_store_row rfl 45 _ _ rfl w.heap.size #[.bool true,.int .i64 t,.slice A E.woken.length C,.bool E.st,.bool E.en,.bool E.ye] rfl rfl 45 _ HBz.out.heap zc rfl (zh _ _ _ _ _ _ _ _) ?_;rw [HZ.out];clear HBz HZ)
   (try simp only [Exit.inBlock,Exit.then])
   refine bodyPost_ret (results_cell_row rfl _ _ w.heap.size 45 #[.bool true,.int .i64 t,.slice A E.woken.length C,.bool E.st,.bool E.en,.bool E.ye] (0,0) _ rfl HBZ.out.heap Tryz.underlying45 rfl zc) rfl ?_
   exact ⟨A,C,rfl,_,H8.out,HL.out⟩
  | false=>
   rw [hst] at d3
   cases hen:E.en with
   | true=>
    rw [hen] at d4
    have et:Dk.Ls.runT { l.st with s:=q } k t E=({ l.st with s:=q }:Dk.Ls σ).setV k ⟨3,-1,[]⟩:=by unfold Dk.Ls.runT;rw [if_neg (by rw [hst];decide),if_pos hen]
    have HX1:Hid _:=et.symm.trans HX0.out
    have hd:=Dk.LB.below HH4.out (Dk.zm (Below.refl W4.heap.size W4))
    have HC2:Hid (W4.drew.cell? ⟨b,2,none⟩=some (.slice (some ⟨l2.vb,0,none⟩) l2.vs.length l2.vC)):=hd.box.cell 2
    have HD:Hid _:=hd
    have HST:Hid _:=hst
    have HEN:Hid _:=hen
    clear hd et HH4 hst hen
    go_wp2_with (first | (rw [H3.out];clear H3) | (refine wpList_store_row rfl 45 _ _ rfl w2.heap.size #[.bool true,.int .i64 t,.slice A E.woken.length C,.bool E.st,.bool E.en,.bool E.ye] rfl rfl 45 _ HB3.out.heap zc rfl (zh _ _ _ _ _ _ _ _) ?_;rw [H4.out];clear HB3 H4))
    refine Dk.zq (S:=fun w'=>w'.cell? ⟨b,2,none⟩=some (.slice (some ⟨l2.vb,0,none⟩) l2.vs.length l2.vC)) [(true,0),(true,1),(true,2),(true,3),(true,4),(false,5),(true,6),(false,7)] (by kernel_rfl) (by kernel_rfl) (by kernel_rfl) rfl HC2.out ?_
    iterate 5 (refine Dk.zj rfl rfl (fun w' hw'=>by go_simp;try rfl) ?_;simp only [zD])
    refine Dk.zad (f:=122) (args:=#[.int .i64 3,.int .i64 (-1)]) rfl rfl (by go_simp) ?_
    refine (zas 3 (-1) _).mono ?_
    rintro e w6 ⟨rfl,u6⟩
    have h6:=(Dk.LB.below HD.out u6).nilEv
    have c6:w6.cell? ⟨b,2,none⟩=some (.slice (some ⟨l2.vb,0,none⟩) l2.vs.length l2.vC):=h6.box.cell 2
    have ht6:=h6.there HK2.out
    have h7:=h6.setV (m:=3) (t:=-1) HK2.out (by unfold Dk.i64;omega) (by unfold Dk.i64;omega)
    have d6:(w6.setCells l2.vb (k*3) [.int .i64 3,.int .i64 (-1),.slice none 0 0]).cell? ⟨b,2,none⟩=some (.slice (some ⟨l2.vb,0,none⟩) (l2.vs.set k ⟨3,-1,none,0,0,[]⟩).length l2.vC):=h7.box.cell 2
    rw [List.length_set] at d6
    refine ⟨_,rfl,c6,?_⟩
    simp only [zD]
    refine Dk.zj (v:=.pointer (some ⟨l2.vb,k*3,none⟩)) rfl rfl (fun w' hw'=>by go_simp) ?_
    simp only [zD]
    refine Dk.zaq rfl rfl ?_
    refine wp_store_mid 55 _ _ rfl l2.vb (k*3) #[.int .i64 3,.int .i64 (-1),.slice none 0 0] rfl rfl ht6 zz (zah _ _ _ _ _) ?_
    refine ⟨d6,?_⟩
    simp only [zD]
    show NoPanic _ Exit.normal _ _
    refine NoPanic.normal ?_
    obtain ⟨V7,e7⟩:∃ W,W=w6.setCells l2.vb (k*3) [.int .i64 3,.int .i64 (-1),.slice none 0 0]:=⟨_,rfl⟩
    rw [← e7] at h7 ⊢
    have hx:=h7.sub (List.Sublist.refl _)
    have HE:Hid ((Dk.Lb.st { l2 with vs:=l2.vs.set k ⟨3,-1,none,0,0,[]⟩ })=X):=by rw [zc9,HL2.out];exact HX1.out
    have HS:Hid (Dk.Ls.small (Dk.Lb.st { l2 with vs:=l2.vs.set k ⟨3,-1,none,0,0,[]⟩ })):=by rw [zc9];exact Dk.zfa HS2.out _ _ (by simp)
    clear u6 h6 c6 ht6 h7 d6 e7 HD HC2 HL2 HS2 HK2 d3 d4 c2
    have bd0:Dk.Box V7 w2.heap.size #[.bool true,.int .i64 t,.slice A E.woken.length C,.bool E.st,.bool E.en,.bool E.ye] 45:=hx.get (t:=Dk.boxOf _ _ _) (by simp)
    have y2:V7.cell? ⟨w2.heap.size,2,none⟩=some (.slice A E.woken.length C):=bd0.cell 2
    have KU:=zba (hx.ints (A:=A) (C:=C) (n:=E.woken.length) (xs:=E.woken) (e:=3) (by simp) rfl (Dk.Few16.i64 HW.out)) (by have:=HW.out.1;omega)
    have HX:Hid _:=hx
    clear bd0 hx
    go_wp2_with fail
    refine KU.mono ?_
    rintro e w7 ⟨v7,rfl,s7⟩
    obtain ⟨A7,C7,rfl,_,_⟩:=Dk.zf (s7.row (e:=59) (s:=3) (List.mem_cons_self ..))
    have h7:=(Dk.LB.onto HX.out s7).toEv rfl (fun e he=>by
     unfold Dk.unbl at he
     obtain ⟨x,hx,rfl⟩:=List.mem_map.1 he
     have:=HW.out.2 x hx
     exact Dk.zci (by omega) (by unfold Dk.i64;omega))
    have KT:=zgj h7 (List.mem_cons_self ..) HS.out (by rw [Dk.zbj];have:=HW.out.1;omega)
    clear KU HX s7 h7 y2 HS
    go_wp2_with fail
    refine KT.mono ?_
    rintro e w8 ⟨rfl,l8,hl8,h8⟩
    rw [HE.out] at hl8
    have H8:Hid _:=hl8
    have h9:=h8.drop
    clear KT hl8 h8 HE
    have bz:Dk.Box w8 w.heap.size #[.bool false,.int .i64 0,.slice none 0 0,.bool false,.bool false,.bool false] 45:=h9.get (t:=Dk.boxOf _ _ _) (by simp)
    have bd:Dk.Box w8 w2.heap.size #[.bool true,.int .i64 t,.slice A E.woken.length C,.bool E.st,.bool E.en,.bool E.ye] 45:=h9.get (t:=Dk.boxOf _ _ _) (by simp)
    have z0:w8.cell? ⟨w2.heap.size,0,none⟩=some (.bool true):=bd.cell 0
    have z1:w8.cell? ⟨w2.heap.size,1,none⟩=some (.int .i64 t):=bd.cell 1
    have z2:w8.cell? ⟨w2.heap.size,2,none⟩=some (.slice A E.woken.length C):=bd.cell 2
    have z3:w8.cell? ⟨w2.heap.size,3,none⟩=some (.bool E.st):=bd.cell 3
    have z4:w8.cell? ⟨w2.heap.size,4,none⟩=some (.bool E.en):=bd.cell 4
    have z5:w8.cell? ⟨w2.heap.size,5,none⟩=some (.bool E.ye):=bd.cell 5
    have hz:=Dk.LB.setRow (us1:=[_,_]) h9 #[.bool true,.int .i64 t,.slice A E.woken.length C,.bool E.st,.bool E.en,.bool E.ye]
    obtain ⟨WZ,eZ⟩:∃ W,W=w8.setRow w.heap.size #[.bool true,.int .i64 t,.slice A E.woken.length C,.bool E.st,.bool E.en,.bool E.ye]:=⟨_,rfl⟩
    rw [← eZ] at hz
    have bZ:Dk.Box WZ w.heap.size #[.bool true,.int .i64 t,.slice A E.woken.length C,.bool E.st,.bool E.en,.bool E.ye] 45:=hz.get (t:=Dk.boxOf _ _ _) (by simp)
    have HL:Hid (Dk.LB S0 W WZ b _ (Dk.rowOf 3 1 (.slice A E.woken.length C) E.woken.length (Dk.is E.woken)::us)):=hz.sub ((((List.Sublist.refl us).cons _).cons_cons _).cons _)
    have HBz:Hid _:=bz
    have HBZ:Hid _:=bZ
    have HZ:Hid _:=eZ.symm
    clear bz bd hz eZ bZ h9
    go_wp2_with (refine wpList_store_row rfl 45 _ _ rfl w.heap.size #[.bool true,.int .i64 t,.slice A E.woken.length C,.bool E.st,.bool E.en,.bool E.ye] rfl rfl 45 _ HBz.out.heap zc rfl (zh _ _ _ _ _ _ _ _) ?_;rw [HZ.out];clear HBz HZ)
    (try simp only [Exit.inBlock,Exit.then])
    refine bodyPost_ret (results_cell_row rfl _ _ w.heap.size 45 #[.bool true,.int .i64 t,.slice A E.woken.length C,.bool E.st,.bool E.en,.bool E.ye] (0,0) _ rfl HBZ.out.heap Tryz.underlying45 rfl zc) rfl ?_
    exact ⟨A,C,rfl,_,H8.out,HL.out⟩
   | false=>
    rw [hen] at d4
    have et:Dk.Ls.runT { l.st with s:=q } k t E=({ l.st with s:=q }:Dk.Ls σ):=by unfold Dk.Ls.runT;rw [if_neg (by rw [hst];decide),if_neg (by rw [hen];decide)]
    have HX1:Hid _:=et.symm.trans HX0.out
    have hx:=Dk.LB.sub HH4.out (List.Sublist.refl _)
    have HE:Hid (l2.st=X):=HL2.out.trans HX1.out
    have HS:Hid (l2.st.small):=HS2.out
    have HST:Hid _:=hst
    have HEN:Hid _:=hen
    clear et HH4 hst hen HL2 HS2 HK2 c2
    have bd1:Dk.Box W4 w2.heap.size #[.bool true,.int .i64 t,.slice A E.woken.length C,.bool E.st,.bool E.en,.bool E.ye] 45:=hx.get (t:=Dk.boxOf _ _ _) (by simp)
    have y2:W4.cell? ⟨w2.heap.size,2,none⟩=some (.slice A E.woken.length C):=bd1.cell 2
    have KU:=zba (hx.ints (A:=A) (C:=C) (n:=E.woken.length) (xs:=E.woken) (e:=3) (by simp) rfl (Dk.Few16.i64 HW.out)) (by have:=HW.out.1;omega)
    have HX:Hid _:=hx
    clear bd1 hx
    go_wp2_with (first | (rw [H3.out];clear H3) | (refine wpList_store_row rfl 45 _ _ rfl w2.heap.size #[.bool true,.int .i64 t,.slice A E.woken.length C,.bool E.st,.bool E.en,.bool E.ye] rfl rfl 45 _ HB3.out.heap zc rfl (zh _ _ _ _ _ _ _ _) ?_;rw [H4.out];clear HB3 H4))
    refine KU.mono ?_
    rintro e w7 ⟨v7,rfl,s7⟩
    obtain ⟨A7,C7,rfl,_,_⟩:=Dk.zf (s7.row (e:=59) (s:=3) (List.mem_cons_self ..))
    have h7:=(Dk.LB.onto HX.out s7).toEv rfl (fun e he=>by
     unfold Dk.unbl at he
     obtain ⟨x,hx,rfl⟩:=List.mem_map.1 he
     have:=HW.out.2 x hx
     exact Dk.zci (by omega) (by unfold Dk.i64;omega))
    have KT:=zgj h7 (List.mem_cons_self ..) HS.out (by rw [Dk.zbj];have:=HW.out.1;omega)
    clear KU HX s7 h7 y2 HS d3 d4
    go_wp2_with fail
    refine KT.mono ?_
    rintro e w8 ⟨rfl,l8,hl8,h8⟩
    rw [HE.out] at hl8
    have H8:Hid _:=hl8
    have h9:=h8.drop
    clear KT hl8 h8 HE
    have bz:Dk.Box w8 w.heap.size #[.bool false,.int .i64 0,.slice none 0 0,.bool false,.bool false,.bool false] 45:=h9.get (t:=Dk.boxOf _ _ _) (by simp)
    have bd:Dk.Box w8 w2.heap.size #[.bool true,.int .i64 t,.slice A E.woken.length C,.bool E.st,.bool E.en,.bool E.ye] 45:=h9.get (t:=Dk.boxOf _ _ _) (by simp)
    have z0:w8.cell? ⟨w2.heap.size,0,none⟩=some (.bool true):=bd.cell 0
    have z1:w8.cell? ⟨w2.heap.size,1,none⟩=some (.int .i64 t):=bd.cell 1
    have z2:w8.cell? ⟨w2.heap.size,2,none⟩=some (.slice A E.woken.length C):=bd.cell 2
    have z3:w8.cell? ⟨w2.heap.size,3,none⟩=some (.bool E.st):=bd.cell 3
    have z4:w8.cell? ⟨w2.heap.size,4,none⟩=some (.bool E.en):=bd.cell 4
    have z5:w8.cell? ⟨w2.heap.size,5,none⟩=some (.bool E.ye):=bd.cell 5
    have hz:=Dk.LB.setRow (us1:=[_,_]) h9 #[.bool true,.int .i64 t,.slice A E.woken.length C,.bool E.st,.bool E.en,.bool E.ye]
    obtain ⟨WZ,eZ⟩:∃ W,W=w8.setRow w.heap.size #[.bool true,.int .i64 t,.slice A E.woken.length C,.bool E.st,.bool E.en,.bool E.ye]:=⟨_,rfl⟩
    rw [← eZ] at hz
    have bZ:Dk.Box WZ w.heap.size #[.bool true,.int .i64 t,.slice A E.woken.length C,.bool E.st,.bool E.en,.bool E.ye] 45:=hz.get (t:=Dk.boxOf _ _ _) (by simp)
    have HL:Hid (Dk.LB S0 W WZ b _ (Dk.rowOf 3 1 (.slice A E.woken.length C) E.woken.length (Dk.is E.woken)::us)):=hz.sub ((((List.Sublist.refl us).cons _).cons_cons _).cons _)
    have HBz:Hid _:=bz
    have HBZ:Hid _:=bZ
    have HZ:Hid _:=eZ.symm
    clear bz bd hz eZ bZ h9
    go_wp2_with (refine wpList_store_row rfl 45 _ _ rfl w.heap.size #[.bool true,.int .i64 t,.slice A E.woken.length C,.bool E.st,.bool E.en,.bool E.ye] rfl rfl 45 _ HBz.out.heap zc rfl (zh _ _ _ _ _ _ _ _) ?_;rw [HZ.out];clear HBz HZ)
    (try simp only [Exit.inBlock,Exit.then])
    refine bodyPost_ret (results_cell_row rfl _ _ w.heap.size 45 #[.bool true,.int .i64 t,.slice A E.woken.length C,.bool E.st,.bool E.en,.bool E.ye] (0,0) _ rfl HBZ.out.heap Tryz.underlying45 rfl zc) rfl ?_
    exact ⟨A,C,rfl,_,H8.out,HL.out⟩
end
section
variable {σ : Type} {F : Dk.SpF σ} {S0 : Nat → σ → List Dk.Thing → Prop} {W w w' : World} {b : Nat} {l : Dk.Lb σ} {us : List Dk.Thing}
theorem inside_l (I:SpaceI F S0) (h:Dk.LB S0 W w b l us) (hok:F.ok l.s) {k:Nat} (hk:k < l.vs.length) {c:Int} (hc:Dk.i64 c) (ht16:0≤(l.vs.getD k Dk.Ve.zero).t∧(l.vs.getD k Dk.Ve.zero).t < 16):Calls Tryz.prog 95 #[.pointer (some ⟨b,0,none⟩),.int .i64 (k:Int),.int .i64 c] w fun e w'=>∃ A C,e=.returned ((l.st.inside F k c).2.v A C)∧∃ l':Dk.Lb σ,l'.st=(l.st.inside F k c).1∧Dk.LB S0 W w' b l' (Dk.rowOf 3 1 (.slice A (l.st.inside F k c).2.e.woken.length C) (l.st.inside F k c).2.e.woken.length (Dk.is (l.st.inside F k c).2.e.woken)::us):=by
 obtain ⟨W1,e1⟩:∃ W,W=w.alloc (.cells #[.bool false,.int .i64 0,.slice none 0 0,.bool false,.bool false,.bool false] 45):=⟨_,rfl⟩
 have h1:=h.newBox e1
 have c2:W1.cell? ⟨b,2,none⟩=some (.slice (some ⟨l.vb,0,none⟩) l.vs.length l.vC):=h1.box.cell 2
 obtain ⟨q0,q1,q2⟩:=h1.vcell hk
 have hti:=(h.wf hk).2
 have HW:Hid _:=(I.few l.s hok).2 (l.vs.getD k Dk.Ve.zero).t c
 have i1:(k:Int) < (l.vs.length:Int):=by omega
 have hn64:=h.n64
 have hsl:l.st.s=l.s:=rfl
 unfold Dk.Ls.inside
 rw [l.zaw,hsl]
 have e0:(l.vs.getD k Dk.Ve.zero).st.t=(l.vs.getD k Dk.Ve.zero).t:=rfl
 rw [e0]
 generalize (l.vs.getD k Dk.Ve.zero).t=t at *
 have KC:=zd3 I h1 hok hti hc
 have H1:Hid _:=e1.symm
 have HK:Hid _:=hk
 have HTI:Hid _:=hti
 have HT16:Hid _:=ht16
 clear e0 hsl q0 q2 e1 h h1 hk hok hti hc ht16
 generalize hE:F.eff l.s t c=E at *
 generalize hq:F.run l.s t c=q at *
 obtain ⟨Y,hY⟩:∃ X,Dk.Ls.insT (Dk.Ls.come { l.st with s:=q } k E.woken) k t E=X:=⟨_,rfl⟩
 rw [hY]
 have HY0:Hid _:=hY
 clear hE hq hY
 go_enter Tryz.func95,Tryz.ntmps95
 go_wp2_with (rw [H1.out];clear H1)
 refine KC.mono ?_
 rintro e w2 ⟨A,C,rfl,l2,hl2,h2⟩
 have hk2:k < l2.vs.length:=by
  rw [← l2.zab,hl2,show (({ l.st with s:=q }:Dk.Ls σ)).vs.length=l.st.vs.length from rfl,l.zab]
  exact HK.out
 obtain ⟨W3,e3⟩:∃ W,W=w2.alloc (.cells #[.bool false,.int .i64 0,.slice none 0 0,.bool false,.bool false,.bool false] 45):=⟨_,rfl⟩
 have h3:=h2.newBox e3
 have b3:Dk.Box W3 w2.heap.size #[.bool false,.int .i64 0,.slice none 0 0,.bool false,.bool false,.bool false] 45:=h3.get (t:=Dk.boxOf _ _ _) (by simp)
 have h4:=Dk.LB.setRow (us1:=[]) h3 #[.bool true,.int .i64 t,.slice A E.woken.length C,.bool E.st,.bool E.en,.bool E.ye]
 obtain ⟨W4,e4⟩:∃ W,W=W3.setRow w2.heap.size #[.bool true,.int .i64 t,.slice A E.woken.length C,.bool E.st,.bool E.en,.bool E.ye]:=⟨_,rfl⟩
 rw [← e4] at h4
 have b4:Dk.Box W4 w2.heap.size #[.bool true,.int .i64 t,.slice A E.woken.length C,.bool E.st,.bool E.en,.bool E.ye] 45:=h4.get (t:=Dk.boxOf _ _ _) (by simp)
 have d2:W4.cell? ⟨w2.heap.size,2,none⟩=some (.slice A E.woken.length C):=b4.cell 2
 have KM:=zdl h4 (A:=A) (n:=E.woken.length) (C:=C) (k:=k) (ts:=E.woken) (by omega) (by simp) rfl HW.out.2
 have HB3:Hid _:=b3
 have H3:Hid _:=e3.symm
 have H4:Hid _:=e4.symm
 have HK2:Hid _:=hk2
 have HL2:Hid _:=hl2
 clear e3 e4 b3 b4 h2 h3 h4 hl2 KC HK hk2 q1 c2 HW
 go_wp2_with (first | (rw [H3.out];clear H3) | (refine wpList_store_row rfl 45 _ _ rfl w2.heap.size #[.bool true,.int .i64 t,.slice A E.woken.length C,.bool E.st,.bool E.en,.bool E.ye] rfl rfl 45 _ HB3.out.heap zc rfl (zh _ _ _ _ _ _ _ _) ?_;rw [H4.out];clear HB3 H4))
 refine KM.mono ?_
 rintro e w5 ⟨rfl,l3,hl3,h5⟩
 have hk3:k < l3.vs.length:=by
  rw [← l3.zab,hl3,show (l2.st.come k E.woken).vs.length=l2.st.vs.length from rfl,l2.zab]
  exact HK2.out
 rw [HL2.out] at hl3
 have b5:Dk.Box w5 w2.heap.size #[.bool true,.int .i64 t,.slice A E.woken.length C,.bool E.st,.bool E.en,.bool E.ye] 45:=h5.get (t:=Dk.boxOf _ _ _) (by simp)
 have d3:w5.cell? ⟨w2.heap.size,3,none⟩=some (.bool E.st):=b5.cell 3
 have d4:w5.cell? ⟨w2.heap.size,4,none⟩=some (.bool E.en):=b5.cell 4
 have d5:w5.cell? ⟨w2.heap.size,5,none⟩=some (.bool E.ye):=b5.cell 5
 have HL3:Hid _:=hl3
 have HK3:Hid _:=hk3
 clear KM HL2 HK2 hl3 hk3 b5 d2
 cases hye:E.ye with
 | true=>
  rw [hye] at d5
  have hy:(Dk.Ls.come (Dk.Ls.come { l.st with s:=q } k E.woken) k [t]).end_ k ⟨3,-1,[]⟩=Y:=by rw [← HY0.out];unfold Dk.Ls.insT;rw [if_pos hye]
  have HYE:Hid _:=hye
  obtain ⟨W6,e6⟩:∃ W,W=w5.alloc (.cells #[.int .i64 t] 3):=⟨_,rfl⟩
  have h6:=h5.lit1 e6
  have KM2:=zdl h6 (k:=k) (ts:=[t]) (by omega) (List.mem_cons_self ..) rfl (fun x hx=>by rw [List.mem_singleton] at hx;subst hx;exact HT16.out)
  have H6:Hid _:=e6.symm
  have HYY:Hid _:=hy
  clear h5 h6 e6 hy hye
  go_wp2_with (first | (rw [H6.out];clear H6))
  refine KM2.mono ?_
  rintro e w7 ⟨rfl,l7,hl7,h7⟩
  have hk6:k < l7.vs.length:=by
   rw [← l7.zab,hl7,show (l3.st.come k [t]).vs.length=l3.st.vs.length from rfl,l3.zab]
   exact HK3.out
  have h7':=h7.drop
  have HY:Hid (l7.st.end_ k ⟨3,-1,[]⟩=Y):=by rw [hl7,HL3.out];exact HYY.out
  clear KM2 hl7 h7 HL3 HK3 HYY HY0 d3 d4 d5
  have HH6:Hid _:=h7'
  have HK6:Hid _:=hk6
  clear h7' hk6
  go_wp2_with fail
  refine (zas 3 (-1) _).mono ?_
  rintro e w8 ⟨rfl,u8⟩
  have KE6:=zd7 (m:=3) (t:=(-1)) (Dk.LB.nilEv (Dk.LB.below HH6.out u8)) HK6.out (by unfold Dk.i64;omega) (by unfold Dk.i64;omega)
  clear u8 HH6 HK6
  go_wp2_with fail
  refine KE6.mono ?_
  rintro e w9 ⟨rfl,l9,hl9,h9⟩
  have H9:Hid (l9.st=Y):=hl9.trans HY.out
  clear KE6 hl9 HY
  have bz:Dk.Box w9 w.heap.size #[.bool false,.int .i64 0,.slice none 0 0,.bool false,.bool false,.bool false] 45:=h9.get (t:=Dk.boxOf _ _ _) (by simp)
  have bd:Dk.Box w9 w2.heap.size #[.bool true,.int .i64 t,.slice A E.woken.length C,.bool E.st,.bool E.en,.bool E.ye] 45:=h9.get (t:=Dk.boxOf _ _ _) (by simp)
  have z0:w9.cell? ⟨w2.heap.size,0,none⟩=some (.bool true):=bd.cell 0
  have z1:w9.cell? ⟨w2.heap.size,1,none⟩=some (.int .i64 t):=bd.cell 1
  have z2:w9.cell? ⟨w2.heap.size,2,none⟩=some (.slice A E.woken.length C):=bd.cell 2
  have z3:w9.cell? ⟨w2.heap.size,3,none⟩=some (.bool E.st):=bd.cell 3
  have z4:w9.cell? ⟨w2.heap.size,4,none⟩=some (.bool E.en):=bd.cell 4
  have z5:w9.cell? ⟨w2.heap.size,5,none⟩=some (.bool E.ye):=bd.cell 5
  have hz:=Dk.LB.setRow (us1:=[_,_]) h9 #[.bool true,.int .i64 t,.slice A E.woken.length C,.bool E.st,.bool E.en,.bool E.ye]
  obtain ⟨WZ,eZ⟩:∃ W,W=w9.setRow w.heap.size #[.bool true,.int .i64 t,.slice A E.woken.length C,.bool E.st,.bool E.en,.bool E.ye]:=⟨_,rfl⟩
  rw [← eZ] at hz
  have bZ:Dk.Box WZ w.heap.size #[.bool true,.int .i64 t,.slice A E.woken.length C,.bool E.st,.bool E.en,.bool E.ye] 45:=hz.get (t:=Dk.boxOf _ _ _) (by simp)
  have HL:Hid (Dk.LB S0 W WZ b _ (Dk.rowOf 3 1 (.slice A E.woken.length C) E.woken.length (Dk.is E.woken)::us)):=hz.sub ((((List.Sublist.refl us).cons _).cons_cons _).cons _)
  have HBz:Hid _:=bz
  have HBZ:Hid _:=bZ
  have HZ:Hid _:=eZ.symm
  clear bz bd hz eZ bZ h9
  go_wp2_with (refine wpList_store_row rfl 45 _ _ rfl w.heap.size #[.bool true,.int .i64 t,.slice A E.woken.length C,.bool E.st,.bool E.en,.bool E.ye] rfl rfl 45 _ HBz.out.heap zc rfl (zh _ _ _ _ _ _ _ _) ?_;rw [HZ.out];clear HBz HZ)
  (try simp only [Exit.inBlock,Exit.then])
  refine bodyPost_ret (results_cell_row rfl _ _ w.heap.size 45 #[.bool true,.int .i64 t,.slice A E.woken.length C,.bool E.st,.bool E.en,.bool E.ye] (0,0) _ rfl HBZ.out.heap Tryz.underlying45 rfl zc) rfl ?_
  exact ⟨A,C,rfl,_,H9.out,HL.out⟩
 | false=>
  rw [hye] at d5
  cases hst:E.st with
  | true=>
   rw [hst] at d3
   have hy:(Dk.Ls.come { l.st with s:=q } k E.woken).end_ k ⟨3,-1,[]⟩=Y:=by rw [← HY0.out];unfold Dk.Ls.insT;rw [if_neg (by rw [hye];decide),if_pos hst]
   have HYE:Hid _:=hye
   have HST:Hid _:=hst
   have hk6:k < l3.vs.length:=HK3.out
   have HY:Hid (l3.st.end_ k ⟨3,-1,[]⟩=Y):=by rw [HL3.out];exact hy
   clear hy hye hst HL3 HK3 HY0
   have HH6:Hid _:=h5
   have HK6:Hid _:=hk6
   clear h5 hk6
   go_wp2_with fail
   refine (zas 3 (-1) _).mono ?_
   rintro e w8 ⟨rfl,u8⟩
   have KE6:=zd7 (m:=3) (t:=(-1)) (Dk.LB.nilEv (Dk.LB.below HH6.out u8)) HK6.out (by unfold Dk.i64;omega) (by unfold Dk.i64;omega)
   clear u8 HH6 HK6
   go_wp2_with fail
   refine KE6.mono ?_
   rintro e w9 ⟨rfl,l9,hl9,h9⟩
   have H9:Hid (l9.st=Y):=hl9.trans HY.out
   clear KE6 hl9 HY
   have bz:Dk.Box w9 w.heap.size #[.bool false,.int .i64 0,.slice none 0 0,.bool false,.bool false,.bool false] 45:=h9.get (t:=Dk.boxOf _ _ _) (by simp)
   have bd:Dk.Box w9 w2.heap.size #[.bool true,.int .i64 t,.slice A E.woken.length C,.bool E.st,.bool E.en,.bool E.ye] 45:=h9.get (t:=Dk.boxOf _ _ _) (by simp)
   have z0:w9.cell? ⟨w2.heap.size,0,none⟩=some (.bool true):=bd.cell 0
   have z1:w9.cell? ⟨w2.heap.size,1,none⟩=some (.int .i64 t):=bd.cell 1
   have z2:w9.cell? ⟨w2.heap.size,2,none⟩=some (.slice A E.woken.length C):=bd.cell 2
   have z3:w9.cell? ⟨w2.heap.size,3,none⟩=some (.bool E.st):=bd.cell 3
   have z4:w9.cell? ⟨w2.heap.size,4,none⟩=some (.bool E.en):=bd.cell 4
   have z5:w9.cell? ⟨w2.heap.size,5,none⟩=some (.bool E.ye):=bd.cell 5
   have hz:=Dk.LB.setRow (us1:=[_,_]) h9 #[.bool true,.int .i64 t,.slice A E.woken.length C,.bool E.st,.bool E.en,.bool E.ye]
   obtain ⟨WZ,eZ⟩:∃ W,W=w9.setRow w.heap.size #[.bool true,.int .i64 t,.slice A E.woken.length C,.bool E.st,.bool E.en,.bool E.ye]:=⟨_,rfl⟩
   rw [← eZ] at hz
   have bZ:Dk.Box WZ w.heap.size #[.bool true,.int .i64 t,.slice A E.woken.length C,.bool E.st,.bool E.en,.bool E.ye] 45:=hz.get (t:=Dk.boxOf _ _ _) (by simp)
   have HL:Hid (Dk.LB S0 W WZ b _ (Dk.rowOf 3 1 (.slice A E.woken.length C) E.woken.length (Dk.is E.woken)::us)):=hz.sub ((((List.Sublist.refl us).cons _).cons_cons _).cons _)
   have HBz:Hid _:=bz
   have HBZ:Hid _:=bZ
   have HZ:Hid _:=eZ.symm
   clear bz bd hz eZ bZ h9
   go_wp2_with (refine wpList_store_row rfl 45 _ _ rfl w.heap.size #[.bool true,.int .i64 t,.slice A E.woken.length C,.bool E.st,.bool E.en,.bool E.ye] rfl rfl 45 _ HBz.out.heap zc rfl (zh _ _ _ _ _ _ _ _) ?_;rw [HZ.out];clear HBz HZ)
   (try simp only [Exit.inBlock,Exit.then])
   refine bodyPost_ret (results_cell_row rfl _ _ w.heap.size 45 #[.bool true,.int .i64 t,.slice A E.woken.length C,.bool E.st,.bool E.en,.bool E.ye] (0,0) _ rfl HBZ.out.heap Tryz.underlying45 rfl zc) rfl ?_
   exact ⟨A,C,rfl,_,H9.out,HL.out⟩
  | false=>
   rw [hst] at d3
   cases hen:E.en with
   | true=>
    rw [hen] at d4
    have hy:(Dk.Ls.come { l.st with s:=q } k E.woken).end_ k ⟨3,-1,[]⟩=Y:=by rw [← HY0.out];unfold Dk.Ls.insT;rw [if_neg (by rw [hye];decide),if_neg (by rw [hst];decide),if_pos hen]
    have HYE:Hid _:=hye
    have HST:Hid _:=hst
    have HEN:Hid _:=hen
    have hk6:k < l3.vs.length:=HK3.out
    have HY:Hid (l3.st.end_ k ⟨3,-1,[]⟩=Y):=by rw [HL3.out];exact hy
    clear hy hye hst hen HL3 HK3 HY0
    have HH6:Hid _:=h5
    have HK6:Hid _:=hk6
    clear h5 hk6
    go_wp2_with fail
    refine (zas 3 (-1) _).mono ?_
    rintro e w8 ⟨rfl,u8⟩
    have KE6:=zd7 (m:=3) (t:=(-1)) (Dk.LB.nilEv (Dk.LB.below HH6.out u8)) HK6.out (by unfold Dk.i64;omega) (by unfold Dk.i64;omega)
    clear u8 HH6 HK6
    go_wp2_with fail
    refine KE6.mono ?_
    rintro e w9 ⟨rfl,l9,hl9,h9⟩
    have H9:Hid (l9.st=Y):=hl9.trans HY.out
    clear KE6 hl9 HY
    have bz:Dk.Box w9 w.heap.size #[.bool false,.int .i64 0,.slice none 0 0,.bool false,.bool false,.bool false] 45:=h9.get (t:=Dk.boxOf _ _ _) (by simp)
    have bd:Dk.Box w9 w2.heap.size #[.bool true,.int .i64 t,.slice A E.woken.length C,.bool E.st,.bool E.en,.bool E.ye] 45:=h9.get (t:=Dk.boxOf _ _ _) (by simp)
    have z0:w9.cell? ⟨w2.heap.size,0,none⟩=some (.bool true):=bd.cell 0
    have z1:w9.cell? ⟨w2.heap.size,1,none⟩=some (.int .i64 t):=bd.cell 1
    have z2:w9.cell? ⟨w2.heap.size,2,none⟩=some (.slice A E.woken.length C):=bd.cell 2
    have z3:w9.cell? ⟨w2.heap.size,3,none⟩=some (.bool E.st):=bd.cell 3
    have z4:w9.cell? ⟨w2.heap.size,4,none⟩=some (.bool E.en):=bd.cell 4
    have z5:w9.cell? ⟨w2.heap.size,5,none⟩=some (.bool E.ye):=bd.cell 5
    have hz:=Dk.LB.setRow (us1:=[_,_]) h9 #[.bool true,.int .i64 t,.slice A E.woken.length C,.bool E.st,.bool E.en,.bool E.ye]
    obtain ⟨WZ,eZ⟩:∃ W,W=w9.setRow w.heap.size #[.bool true,.int .i64 t,.slice A E.woken.length C,.bool E.st,.bool E.en,.bool E.ye]:=⟨_,rfl⟩
    rw [← eZ] at hz
    have bZ:Dk.Box WZ w.heap.size #[.bool true,.int .i64 t,.slice A E.woken.length C,.bool E.st,.bool E.en,.bool E.ye] 45:=hz.get (t:=Dk.boxOf _ _ _) (by simp)
    have HL:Hid (Dk.LB S0 W WZ b _ (Dk.rowOf 3 1 (.slice A E.woken.length C) E.woken.length (Dk.is E.woken)::us)):=hz.sub ((((List.Sublist.refl us).cons _).cons_cons _).cons _)
    have HBz:Hid _:=bz
    have HBZ:Hid _:=bZ
    have HZ:Hid _:=eZ.symm
    clear bz bd hz eZ bZ h9
    go_wp2_with (refine wpList_store_row rfl 45 _ _ rfl w.heap.size #[.bool true,.int .i64 t,.slice A E.woken.length C,.bool E.st,.bool E.en,.bool E.ye] rfl rfl 45 _ HBz.out.heap zc rfl (zh _ _ _ _ _ _ _ _) ?_;rw [HZ.out];clear HBz HZ)
    (try simp only [Exit.inBlock,Exit.then])
    refine bodyPost_ret (results_cell_row rfl _ _ w.heap.size 45 #[.bool true,.int .i64 t,.slice A E.woken.length C,.bool E.st,.bool E.en,.bool E.ye] (0,0) _ rfl HBZ.out.heap Tryz.underlying45 rfl zc) rfl ?_
    exact ⟨A,C,rfl,_,H9.out,HL.out⟩
   | false=>
    rw [hen] at d4
    have hy:(Dk.Ls.come { l.st with s:=q } k E.woken).end_ k ⟨5,t,[]⟩=Y:=by rw [← HY0.out];unfold Dk.Ls.insT;rw [if_neg (by rw [hye];decide),if_neg (by rw [hst];decide),if_neg (by rw [hen];decide)]
    have HYE:Hid _:=hye
    have HST:Hid _:=hst
    have HEN:Hid _:=hen
    have hk6:k < l3.vs.length:=HK3.out
    have HY:Hid (l3.st.end_ k ⟨5,t,[]⟩=Y):=by rw [HL3.out];exact hy
    clear hy hye hst hen HL3 HK3 HY0
    have HH6:Hid _:=h5
    have HK6:Hid _:=hk6
    clear h5 hk6
    go_wp2_with fail
    refine (zas 5 t _).mono ?_
    rintro e w8 ⟨rfl,u8⟩
    have KE6:=zd7 (m:=5) (t:=t) (Dk.LB.nilEv (Dk.LB.below HH6.out u8)) HK6.out (by unfold Dk.i64;omega) (HTI.out)
    clear u8 HH6 HK6
    go_wp2_with fail
    refine KE6.mono ?_
    rintro e w9 ⟨rfl,l9,hl9,h9⟩
    have H9:Hid (l9.st=Y):=hl9.trans HY.out
    clear KE6 hl9 HY
    have bz:Dk.Box w9 w.heap.size #[.bool false,.int .i64 0,.slice none 0 0,.bool false,.bool false,.bool false] 45:=h9.get (t:=Dk.boxOf _ _ _) (by simp)
    have bd:Dk.Box w9 w2.heap.size #[.bool true,.int .i64 t,.slice A E.woken.length C,.bool E.st,.bool E.en,.bool E.ye] 45:=h9.get (t:=Dk.boxOf _ _ _) (by simp)
    have z0:w9.cell? ⟨w2.heap.size,0,none⟩=some (.bool true):=bd.cell 0
    have z1:w9.cell? ⟨w2.heap.size,1,none⟩=some (.int .i64 t):=bd.cell 1
    have z2:w9.cell? ⟨w2.heap.size,2,none⟩=some (.slice A E.woken.length C):=bd.cell 2
    have z3:w9.cell? ⟨w2.heap.size,3,none⟩=some (.bool E.st):=bd.cell 3
    have z4:w9.cell? ⟨w2.heap.size,4,none⟩=some (.bool E.en):=bd.cell 4
    have z5:w9.cell? ⟨w2.heap.size,5,none⟩=some (.bool E.ye):=bd.cell 5
    have hz:=Dk.LB.setRow (us1:=[_,_]) h9 #[.bool true,.int .i64 t,.slice A E.woken.length C,.bool E.st,.bool E.en,.bool E.ye]
    obtain ⟨WZ,eZ⟩:∃ W,W=w9.setRow w.heap.size #[.bool true,.int .i64 t,.slice A E.woken.length C,.bool E.st,.bool E.en,.bool E.ye]:=⟨_,rfl⟩
    rw [← eZ] at hz
    have bZ:Dk.Box WZ w.heap.size #[.bool true,.int .i64 t,.slice A E.woken.length C,.bool E.st,.bool E.en,.bool E.ye] 45:=hz.get (t:=Dk.boxOf _ _ _) (by simp)
    have HL:Hid (Dk.LB S0 W WZ b _ (Dk.rowOf 3 1 (.slice A E.woken.length C) E.woken.length (Dk.is E.woken)::us)):=hz.sub ((((List.Sublist.refl us).cons _).cons_cons _).cons _)
    have HBz:Hid _:=bz
    have HBZ:Hid _:=bZ
    have HZ:Hid _:=eZ.symm
    clear bz bd hz eZ bZ h9
    go_wp2_with (refine wpList_store_row rfl 45 _ _ rfl w.heap.size #[.bool true,.int .i64 t,.slice A E.woken.length C,.bool E.st,.bool E.en,.bool E.ye] rfl rfl 45 _ HBz.out.heap zc rfl (zh _ _ _ _ _ _ _ _) ?_;rw [HZ.out];clear HBz HZ)
    (try simp only [Exit.inBlock,Exit.then])
    refine bodyPost_ret (results_cell_row rfl _ _ w.heap.size 45 #[.bool true,.int .i64 t,.slice A E.woken.length C,.bool E.st,.bool E.en,.bool E.ye] (0,0) _ rfl HBZ.out.heap Tryz.underlying45 rfl zc) rfl ?_
    exact ⟨A,C,rfl,_,H9.out,HL.out⟩
end
end Go.Proofs.YtpnajphbjfehnaaGreat
