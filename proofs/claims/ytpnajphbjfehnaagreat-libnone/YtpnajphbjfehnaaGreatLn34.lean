import Derived.Test.YtpnajphbjfehnaaGreatLn33
set_option linter.unusedSimpArgs false
set_option linter.unusedVariables false
set_option linter.unnecessarySimpa false
set_option maxHeartbeats 8000000
set_option maxRecDepth 100000
namespace Dk
section
variable {σ : Type}
def Ls.upT (x:Ls σ) (k:Nat) (t:Int) (e:Efx):Ls σ:=if e.st=true then x else if e.en=true then x else x.come k [t]
def cutAt (es:List Ev):Ev:=es.getD (es.findIdx Ev.within) Ev.zero
def cutOff (es:List Ev):List Ev:=es.take (es.findIdx Ev.within)++es.drop (es.findIdx Ev.within+1)
def Ls.upcall (F:SpF σ) (x:Ls σ) (k:Nat) (c:Int):Ls σ × Dd:=
 if firstI (x.at k).es=-1 then (x.zax k 2,Dd.none)
 else if (cutAt (x.at k).es).m=7 then
  (Ls.upT (Ls.come { x.end_ k ⟨1,-1,cutOff (x.at k).es⟩ with s:=F.run x.s (cutAt (x.at k).es).t c } k (F.eff x.s (cutAt (x.at k).es).t c).woken) k (cutAt (x.at k).es).t (F.eff x.s (cutAt (x.at k).es).t c),⟨true,(cutAt (x.at k).es).t,F.eff x.s (cutAt (x.at k).es).t c⟩)
 else (x.end_ k ⟨1,-1,cutOff (x.at k).es⟩,Dd.none)
theorem zaz {es:List Ev} (h:firstI es≠-1):es.findIdx Ev.within < es.length∧firstI es=(es.findIdx Ev.within:Nat):=by
 unfold firstI at *
 split at h
 ·rename_i hl
  exact ⟨hl,if_pos hl⟩
 ·exact absurd rfl h
theorem zjf {es:List Ev} (h:firstI es≠-1):cutAt es ∈ es:=by
 have:=(zaz h).1
 have e:cutAt es=es[es.findIdx Ev.within]:=by unfold cutAt;simp [List.getD,this]
 rw [e]
 exact List.getElem_mem _
theorem zdn {es:List Ev} {e:Ev} (h:e ∈ cutOff es):e ∈ es:=(List.mem_append.1 h).elim List.mem_of_mem_take List.mem_of_mem_drop
theorem zdm {es:List Ev} (h:firstI es≠-1):(cutOff es).length=es.length - 1:=by
 have:=(zaz h).1
 unfold cutOff
 rw [List.length_append,List.length_take,List.length_drop]
 omega
end
end Dk
namespace Go.Proofs.YtpnajphbjfehnaaGreat
open Go.RowKit Go.Lib
section
variable {σ : Type} {F : Dk.SpF σ} {S0 : Nat → σ → List Dk.Thing → Prop} {W w w' : World} {b : Nat} {l : Dk.Lb σ} {us : List Dk.Thing}
theorem zkt (h:Dk.LB S0 W w b l us) {k:Nat} (hk:k < l.vs.length) {c:Int} (hs:l.st.small) (hf:Dk.firstI (l.vs.getD k Dk.Ve.zero).es=-1):Calls Tryz.prog 93 #[.pointer (some ⟨b,0,none⟩),.int .i64 (k:Int),.int .i64 c] w fun e w'=>∃ A C,e=.returned ((l.st.upcall F k c).2.v A C)∧∃ l':Dk.Lb σ,l'.st=(l.st.upcall F k c).1∧Dk.LB S0 W w' b l' (Dk.rowOf 3 1 (.slice A (l.st.upcall F k c).2.e.woken.length C) (l.st.upcall F k c).2.e.woken.length (Dk.is (l.st.upcall F k c).2.e.woken)::us):=by
 have hu:l.st.upcall F k c=(l.st.zax k 2,Dk.Dd.none):=by unfold Dk.Ls.upcall;rw [l.zaw];exact if_pos hf
 rw [hu]
 obtain ⟨W1,e1⟩:∃ W,W=w.alloc (.cells #[.bool false,.int .i64 0,.slice none 0 0,.bool false,.bool false,.bool false] 45):=⟨_,rfl⟩
 have h1:=h.newBox e1
 have c2:W1.cell? ⟨b,2,none⟩=some (.slice (some ⟨l.vb,0,none⟩) l.vs.length l.vC):=h1.box.cell 2
 obtain ⟨q0,q1,q2⟩:=h1.vcell hk
 have hev:=h1.ev hk
 have hlen:=hev.len
 have hsml:=zcs hs hk
 have i1:(k:Int) < (l.vs.length:Int):=by omega
 have hn64:=h.n64
 have KW:=ziw hev (by omega) hf
 have HH:Hid _:=h1
 have HK:Hid _:=hk
 have H1:Hid _:=e1.symm
 generalize l.vs.getD k Dk.Ve.zero=v at *
 clear q0 q1 e1 h h1 hk hs hf hu hsml hlen hev
 go_enter Tryz.func93,Tryz.ntmps93
 go_wp2_with (rw [H1.out];clear H1)
 refine KW.mono ?_
 rintro e w2 ⟨B,D,rfl,s2⟩
 have h2:=Dk.LB.onto HH.out s2
 obtain ⟨W3,e3⟩:∃ W,W=w2.alloc (.cells #[.int .i64 0,.int .i64 0,.int .i64 0] 59):=⟨_,rfl⟩
 have h3:=h2.newBox e3
 have b3:Dk.Box W3 w2.heap.size #[.int .i64 0,.int .i64 0,.int .i64 0] 59:=h3.get (t:=Dk.boxOf _ _ _) (by simp)
 have h4:=Dk.LB.setRow (us1:=[]) h3 #[.int .i64 0,.int .i64 0,.int .i64 0]
 obtain ⟨W4,e4⟩:∃ W,W=W3.setRow w2.heap.size #[.int .i64 0,.int .i64 0,.int .i64 0]:=⟨_,rfl⟩
 rw [← e4] at h4
 have b4:Dk.Box W4 w2.heap.size #[.int .i64 0,.int .i64 0,.int .i64 0] 59:=h4.get (t:=Dk.boxOf _ _ _) (by simp)
 have HB3:Hid _:=b3
 have H3:Hid _:=e3.symm
 have H4:Hid _:=e4.symm
 clear e3 e4 b3 h2 h3
 have KB:=zft h4 HK.out (m:=2) (by unfold Dk.i64;omega)
 clear HH HK h4 b4 KW s2
 go_wp2_with (first | (rw [H3.out];clear H3) | (refine wpList_store_row rfl 59 _ _ rfl w2.heap.size #[.int .i64 0,.int .i64 0,.int .i64 0] rfl rfl 59 _ HB3.out.heap zbu rfl (za6 _ _ _) ?_;rw [H4.out];clear HB3 H4))
 refine KB.mono ?_
 rintro e w5 ⟨rfl,l5,hl5,h5⟩
 have H5:Hid _:=hl5
 clear KB hl5 c2 q2
 have bz:Dk.Box w5 w.heap.size #[.bool false,.int .i64 0,.slice none 0 0,.bool false,.bool false,.bool false] 45:=h5.get (t:=Dk.boxOf _ _ _) (by simp)
 have hz:=Dk.LB.setRow (us1:=[_,_]) h5 #[.bool false,.int .i64 0,.slice none 0 0,.bool false,.bool false,.bool false]
 obtain ⟨WZ,eZ⟩:∃ W,W=w5.setRow w.heap.size #[.bool false,.int .i64 0,.slice none 0 0,.bool false,.bool false,.bool false]:=⟨_,rfl⟩
 rw [← eZ] at hz
 have bZ:Dk.Box WZ w.heap.size #[.bool false,.int .i64 0,.slice none 0 0,.bool false,.bool false,.bool false] 45:=hz.get (t:=Dk.boxOf _ _ _) (by simp)
 have HL:Hid (Dk.LB S0 W WZ b _ (Dk.rowOf 3 1 (.slice none 0 0) 0 []::us)):=(hz.sub ((((List.Sublist.refl us).cons _).cons _).cons _)).nilRow _ _
 have HBz:Hid _:=bz
 have HBZ:Hid _:=bZ
 have HZ:Hid _:=eZ.symm
 clear bz hz eZ bZ h5
 go_wp2_with (refine wpList_store_row rfl 45 _ _ rfl w.heap.size #[.bool false,.int .i64 0,.slice none 0 0,.bool false,.bool false,.bool false] rfl rfl 45 _ HBz.out.heap zc rfl (zh _ _ _ _ _ _ _ _) ?_;rw [HZ.out];clear HBz HZ)
 (try simp only [Exit.inBlock,Exit.then])
 refine bodyPost_ret (results_cell_row rfl _ _ w.heap.size 45 #[.bool false,.int .i64 0,.slice none 0 0,.bool false,.bool false,.bool false] (0,0) _ rfl HBZ.out.heap Tryz.underlying45 rfl zc) rfl ?_
 exact ⟨none,0,rfl,_,H5.out,HL.out⟩
theorem zia (h:Dk.LB S0 W w b l us) {k:Nat} (hk:k < l.vs.length) {c:Int} (hs:l.st.small) (hf:Dk.firstI (l.vs.getD k Dk.Ve.zero).es≠-1) (h7:(Dk.cutAt (l.vs.getD k Dk.Ve.zero).es).m≠7):Calls Tryz.prog 93 #[.pointer (some ⟨b,0,none⟩),.int .i64 (k:Int),.int .i64 c] w fun e w'=>∃ A C,e=.returned ((l.st.upcall F k c).2.v A C)∧∃ l':Dk.Lb σ,l'.st=(l.st.upcall F k c).1∧Dk.LB S0 W w' b l' (Dk.rowOf 3 1 (.slice A (l.st.upcall F k c).2.e.woken.length C) (l.st.upcall F k c).2.e.woken.length (Dk.is (l.st.upcall F k c).2.e.woken)::us):=by
 have hu:l.st.upcall F k c=(l.st.end_ k ⟨1,-1,Dk.cutOff (l.vs.getD k Dk.Ve.zero).es⟩,Dk.Dd.none):=by unfold Dk.Ls.upcall;rw [l.zaw];exact (if_neg hf).trans (if_neg h7)
 rw [hu]
 obtain ⟨W1,e1⟩:∃ W,W=w.alloc (.cells #[.bool false,.int .i64 0,.slice none 0 0,.bool false,.bool false,.bool false] 45):=⟨_,rfl⟩
 have h1:=h.newBox e1
 have c2:W1.cell? ⟨b,2,none⟩=some (.slice (some ⟨l.vb,0,none⟩) l.vs.length l.vC):=h1.box.cell 2
 obtain ⟨q0,q1,q2⟩:=h1.vcell hk
 have hev:=h1.ev hk
 have hlen:=hev.len
 have hsml:=zcs hs hk
 have i1:(k:Int) < (l.vs.length:Int):=by omega
 have hn64:=h.n64
 obtain ⟨b0,o0,hA,-⟩:=hev.cells (by have:=(Dk.zaz hf).1;omega)
 have hfl:=Dk.zaz hf
 have hlt:(l.vs.getD k Dk.Ve.zero).es.findIdx Dk.Ev.within < (l.vs.getD k Dk.Ve.zero).L:=by omega
 have hcl:=Dk.zdm hf
 have HWF:Hid _:=hev.wf
 rw [hA] at hev q2
 have KW:=zdj hev (by omega) hlt hfl.2
 have HH:Hid _:=h1
 have HK:Hid _:=hk
 have H1:Hid _:=e1.symm
 generalize l.vs.getD k Dk.Ve.zero=v at *
 rw [show v.es.getD (v.es.findIdx Dk.Ev.within) Dk.Ev.zero=Dk.cutAt v.es from rfl,show v.es.take (v.es.findIdx Dk.Ev.within)++v.es.drop (v.es.findIdx Dk.Ev.within+1)=Dk.cutOff v.es from rfl] at KW
 have HOK:Hid (∀ e ∈ Dk.cutOff v.es,e.ok):=fun e he=>HWF.out e (Dk.zdn he)
 have HLN:Hid ((Dk.cutOff v.es).length=v.L - 1):=by rw [hcl,hlen];exact rfl
 have h1000:v.L - 1≤1000000:=by omega
 generalize Dk.cutAt v.es=cut at *
 generalize Dk.cutOff v.es=off at *
 generalize hvl:v.L - 1=vl at *
 obtain ⟨xk,xt,xm⟩:=cut
 dsimp only at h7
 have g7:(xm != 7)=true:=by simpa using h7
 clear q0 q1 e1 h h1 hk hs hf hu hsml hev hA hfl hlt hcl HWF
 go_enter Tryz.func93,Tryz.ntmps93
 go_wp2_with (rw [H1.out];clear H1)
 refine KW.mono ?_
 rintro e w2 ⟨B,D,rfl,s2⟩
 have h2:=Dk.LB.onto HH.out s2
 obtain ⟨W3,e3⟩:∃ W,W=w2.alloc (.cells #[.int .i64 0,.int .i64 0,.int .i64 0] 59):=⟨_,rfl⟩
 have h3:=h2.newBox e3
 have b3:Dk.Box W3 w2.heap.size #[.int .i64 0,.int .i64 0,.int .i64 0] 59:=h3.get (t:=Dk.boxOf _ _ _) (by simp)
 have h4:=Dk.LB.setRow (us1:=[]) h3 #[.int .i64 xk,.int .i64 xt,.int .i64 xm]
 obtain ⟨W4,e4⟩:∃ W,W=W3.setRow w2.heap.size #[.int .i64 xk,.int .i64 xt,.int .i64 xm]:=⟨_,rfl⟩
 rw [← e4] at h4
 have b4:Dk.Box W4 w2.heap.size #[.int .i64 xk,.int .i64 xt,.int .i64 xm] 59:=h4.get (t:=Dk.boxOf _ _ _) (by simp)
 have HB3:Hid _:=b3
 have H3:Hid _:=e3.symm
 have H4:Hid _:=e4.symm
 clear e3 e4 b3 h2 h3
 have h5:=(h4.swap).toEv HLN.out HOK.out
 have KN:=zil (h5.get (List.mem_cons_self ..)).1 (by omega)
 have HH4:Hid _:=h5
 clear HH h4 b4 KW s2 h5
 go_wp2_with (first | (rw [H3.out];clear H3) | (refine wpList_store_row rfl 59 _ _ rfl w2.heap.size #[.int .i64 xk,.int .i64 xt,.int .i64 xm] rfl rfl 59 _ HB3.out.heap zbu rfl (za6 _ _ _) ?_;rw [H4.out];clear HB3 H4))
 refine KN.mono ?_
 rintro e w5 ⟨B5,D5,rfl,s5⟩
 have h5:=(Dk.LB.onto HH4.out s5).toEv HLN.out HOK.out
 have KE:=zd7 (m:=1) (t:=-1) h5 HK.out (by unfold Dk.i64;omega) (by unfold Dk.i64;omega)
 clear KN HH4 s5 h5 HOK HLN
 go_wp2_with fail
 refine KE.mono ?_
 rintro e w6 ⟨rfl,l6,hl6,h6⟩
 have b6:Dk.Box w6 w2.heap.size #[.int .i64 xk,.int .i64 xt,.int .i64 xm] 59:=h6.get (t:=Dk.boxOf _ _ _) (by simp)
 have d2:w6.cell? ⟨w2.heap.size,2,none⟩=some (.int .i64 xm):=b6.cell 2
 have H6:Hid _:=hl6
 clear KE hl6 c2 q2 b6 HK
 have bz:Dk.Box w6 w.heap.size #[.bool false,.int .i64 0,.slice none 0 0,.bool false,.bool false,.bool false] 45:=h6.get (t:=Dk.boxOf _ _ _) (by simp)
 have hz:=Dk.LB.setRow (us1:=[_,_]) h6 #[.bool false,.int .i64 0,.slice none 0 0,.bool false,.bool false,.bool false]
 obtain ⟨WZ,eZ⟩:∃ W,W=w6.setRow w.heap.size #[.bool false,.int .i64 0,.slice none 0 0,.bool false,.bool false,.bool false]:=⟨_,rfl⟩
 rw [← eZ] at hz
 have bZ:Dk.Box WZ w.heap.size #[.bool false,.int .i64 0,.slice none 0 0,.bool false,.bool false,.bool false] 45:=hz.get (t:=Dk.boxOf _ _ _) (by simp)
 have HL:Hid (Dk.LB S0 W WZ b _ (Dk.rowOf 3 1 (.slice none 0 0) 0 []::us)):=(hz.sub ((((List.Sublist.refl us).cons _).cons _).cons _)).nilRow _ _
 have HBz:Hid _:=bz
 have HBZ:Hid _:=bZ
 have HZ:Hid _:=eZ.symm
 clear bz hz eZ bZ h6
 go_wp2_with (refine wpList_store_row rfl 45 _ _ rfl w.heap.size #[.bool false,.int .i64 0,.slice none 0 0,.bool false,.bool false,.bool false] rfl rfl 45 _ HBz.out.heap zc rfl (zh _ _ _ _ _ _ _ _) ?_;rw [HZ.out];clear HBz HZ)
 (try simp only [Exit.inBlock,Exit.then])
 refine bodyPost_ret (results_cell_row rfl _ _ w.heap.size 45 #[.bool false,.int .i64 0,.slice none 0 0,.bool false,.bool false,.bool false] (0,0) _ rfl HBZ.out.heap Tryz.underlying45 rfl zc) rfl ?_
 exact ⟨none,0,rfl,_,H6.out,HL.out⟩
theorem zks (I:SpaceI F S0) (h:Dk.LB S0 W w b l us) {k:Nat} (hk:k < l.vs.length) {c:Int} (hs:l.st.small) (hok:F.ok l.s) (hc:Dk.i64 c) (ht16:0≤(Dk.cutAt (l.vs.getD k Dk.Ve.zero).es).t∧(Dk.cutAt (l.vs.getD k Dk.Ve.zero).es).t < 16) (hf:Dk.firstI (l.vs.getD k Dk.Ve.zero).es≠-1) (h7:(Dk.cutAt (l.vs.getD k Dk.Ve.zero).es).m=7):Calls Tryz.prog 93 #[.pointer (some ⟨b,0,none⟩),.int .i64 (k:Int),.int .i64 c] w fun e w'=>∃ A C,e=.returned ((l.st.upcall F k c).2.v A C)∧∃ l':Dk.Lb σ,l'.st=(l.st.upcall F k c).1∧Dk.LB S0 W w' b l' (Dk.rowOf 3 1 (.slice A (l.st.upcall F k c).2.e.woken.length C) (l.st.upcall F k c).2.e.woken.length (Dk.is (l.st.upcall F k c).2.e.woken)::us):=by
 have hu:l.st.upcall F k c=(Dk.Ls.upT (Dk.Ls.come { l.st.end_ k ⟨1,-1,Dk.cutOff (l.vs.getD k Dk.Ve.zero).es⟩ with s:=F.run l.s (Dk.cutAt (l.vs.getD k Dk.Ve.zero).es).t c } k (F.eff l.s (Dk.cutAt (l.vs.getD k Dk.Ve.zero).es).t c).woken) k (Dk.cutAt (l.vs.getD k Dk.Ve.zero).es).t (F.eff l.s (Dk.cutAt (l.vs.getD k Dk.Ve.zero).es).t c),⟨true,(Dk.cutAt (l.vs.getD k Dk.Ve.zero).es).t,F.eff l.s (Dk.cutAt (l.vs.getD k Dk.Ve.zero).es).t c⟩):=by unfold Dk.Ls.upcall;rw [l.zaw];exact (if_neg hf).trans (if_pos h7)
 rw [hu]
 obtain ⟨W1,e1⟩:∃ W,W=w.alloc (.cells #[.bool false,.int .i64 0,.slice none 0 0,.bool false,.bool false,.bool false] 45):=⟨_,rfl⟩
 have h1:=h.newBox e1
 have c2:W1.cell? ⟨b,2,none⟩=some (.slice (some ⟨l.vb,0,none⟩) l.vs.length l.vC):=h1.box.cell 2
 obtain ⟨q0,q1,q2⟩:=h1.vcell hk
 have hev:=h1.ev hk
 have hlen:=hev.len
 have hsml:=zcs hs hk
 have i1:(k:Int) < (l.vs.length:Int):=by omega
 have hn64:=h.n64
 obtain ⟨b0,o0,hA,-⟩:=hev.cells (by have:=(Dk.zaz hf).1;omega)
 have hfl:=Dk.zaz hf
 have hlt:(l.vs.getD k Dk.Ve.zero).es.findIdx Dk.Ev.within < (l.vs.getD k Dk.Ve.zero).L:=by omega
 have hcl:=Dk.zdm hf
 have HWF:Hid _:=hev.wf
 rw [hA] at hev q2
 have KW:=zdj hev (by omega) hlt hfl.2
 have HH:Hid _:=h1
 have HK:Hid _:=hk
 have H1:Hid _:=e1.symm
 generalize l.vs.getD k Dk.Ve.zero=v at *
 rw [show v.es.getD (v.es.findIdx Dk.Ev.within) Dk.Ev.zero=Dk.cutAt v.es from rfl,show v.es.take (v.es.findIdx Dk.Ev.within)++v.es.drop (v.es.findIdx Dk.Ev.within+1)=Dk.cutOff v.es from rfl] at KW
 have HOK:Hid (∀ e ∈ Dk.cutOff v.es,e.ok):=fun e he=>HWF.out e (Dk.zdn he)
 have HLN:Hid ((Dk.cutOff v.es).length=v.L - 1):=by rw [hcl,hlen];exact rfl
 have h1000:v.L - 1≤1000000:=by omega
 generalize Dk.cutAt v.es=cut at *
 generalize Dk.cutOff v.es=off at *
 generalize hvl:v.L - 1=vl at *
 obtain ⟨xk,t,xm⟩:=cut
 dsimp only at h7 ht16 ⊢
 subst h7
 have HW:Hid _:=(I.few l.s hok).2 t c
 generalize hE:F.eff l.s t c=E at *
 generalize hq:F.run l.s t c=q at *
 obtain ⟨Y,hY⟩:∃ X,Dk.Ls.upT (Dk.Ls.come { l.st.end_ k ⟨1,-1,off⟩ with s:=q } k E.woken) k t E=X:=⟨_,rfl⟩
 rw [hY]
 have HY0:Hid _:=hY
 have HEE:Hid _:=hE
 have HQQ:Hid _:=hq
 have HOS:Hid _:=hok
 have HC:Hid _:=hc
 have HT16:Hid _:=ht16
 clear hE hq hY hok hc ht16
 clear q0 q1 e1 h h1 hk hs hf hu hsml hev hA hfl hlt hcl HWF
 go_enter Tryz.func93,Tryz.ntmps93
 go_wp2_with (rw [H1.out];clear H1)
 refine KW.mono ?_
 rintro e w2 ⟨B,D,rfl,s2⟩
 have h2:=Dk.LB.onto HH.out s2
 obtain ⟨W3,e3⟩:∃ W,W=w2.alloc (.cells #[.int .i64 0,.int .i64 0,.int .i64 0] 59):=⟨_,rfl⟩
 have h3:=h2.newBox e3
 have b3:Dk.Box W3 w2.heap.size #[.int .i64 0,.int .i64 0,.int .i64 0] 59:=h3.get (t:=Dk.boxOf _ _ _) (by simp)
 have h4:=Dk.LB.setRow (us1:=[]) h3 #[.int .i64 xk,.int .i64 t,.int .i64 7]
 obtain ⟨W4,e4⟩:∃ W,W=W3.setRow w2.heap.size #[.int .i64 xk,.int .i64 t,.int .i64 7]:=⟨_,rfl⟩
 rw [← e4] at h4
 have b4:Dk.Box W4 w2.heap.size #[.int .i64 xk,.int .i64 t,.int .i64 7] 59:=h4.get (t:=Dk.boxOf _ _ _) (by simp)
 have HB3:Hid _:=b3
 have H3:Hid _:=e3.symm
 have H4:Hid _:=e4.symm
 clear e3 e4 b3 h2 h3
 have h5:=(h4.swap).toEv HLN.out HOK.out
 have KN:=zil (h5.get (List.mem_cons_self ..)).1 (by omega)
 have HH4:Hid _:=h5
 clear HH h4 b4 KW s2 h5
 go_wp2_with (first | (rw [H3.out];clear H3) | (refine wpList_store_row rfl 59 _ _ rfl w2.heap.size #[.int .i64 xk,.int .i64 t,.int .i64 7] rfl rfl 59 _ HB3.out.heap zbu rfl (za6 _ _ _) ?_;rw [H4.out];clear HB3 H4))
 refine KN.mono ?_
 rintro e w5 ⟨B5,D5,rfl,s5⟩
 have h5:=(Dk.LB.onto HH4.out s5).toEv HLN.out HOK.out
 have KE:=zd7 (m:=1) (t:=-1) h5 HK.out (by unfold Dk.i64;omega) (by unfold Dk.i64;omega)
 clear KN HH4 s5 h5 HOK HLN
 go_wp2_with fail
 refine KE.mono ?_
 rintro e w6 ⟨rfl,l6,hl6,h6⟩
 have b6:Dk.Box w6 w2.heap.size #[.int .i64 xk,.int .i64 t,.int .i64 7] 59:=h6.get (t:=Dk.boxOf _ _ _) (by simp)
 have d2:w6.cell? ⟨w2.heap.size,2,none⟩=some (.int .i64 7):=b6.cell 2
 have d1:w6.cell? ⟨w2.heap.size,1,none⟩=some (.int .i64 t):=b6.cell 1
 have hs6:l6.s=l.s:=congrArg Dk.Ls.s hl6
 have KC:=zd3 I h6 (by rw [hs6];exact HOS.out) (t:=t) (c:=c) (by have:=HT16.out;unfold Dk.i64;omega) HC.out
 rw [hs6,HEE.out,HQQ.out,hl6] at KC
 clear KE hl6 c2 q2 b6 HOS HC h6 HEE HQQ hs6
 go_wp2_with fail
 refine KC.mono ?_
 rintro e w7 ⟨A,C,rfl,l7,hl7,h7⟩
 have hk7:k < l7.vs.length:=by
  rw [← l7.zab,hl7]
  show k < ((l.st.end_ k _).vs).length
  unfold Dk.Ls.end_
  rw [List.length_set,l.zab]
  exact HK.out
 obtain ⟨W3,e3⟩:∃ W,W=w7.alloc (.cells #[.bool false,.int .i64 0,.slice none 0 0,.bool false,.bool false,.bool false] 45):=⟨_,rfl⟩
 have h3:=h7.newBox e3
 have b3:Dk.Box W3 w7.heap.size #[.bool false,.int .i64 0,.slice none 0 0,.bool false,.bool false,.bool false] 45:=h3.get (t:=Dk.boxOf _ _ _) (by simp)
 have h4:=Dk.LB.setRow (us1:=[]) h3 #[.bool true,.int .i64 t,.slice A E.woken.length C,.bool E.st,.bool E.en,.bool E.ye]
 obtain ⟨W4,e4⟩:∃ W,W=W3.setRow w7.heap.size #[.bool true,.int .i64 t,.slice A E.woken.length C,.bool E.st,.bool E.en,.bool E.ye]:=⟨_,rfl⟩
 rw [← e4] at h4
 have b4:Dk.Box W4 w7.heap.size #[.bool true,.int .i64 t,.slice A E.woken.length C,.bool E.st,.bool E.en,.bool E.ye] 45:=h4.get (t:=Dk.boxOf _ _ _) (by simp)
 have d2:W4.cell? ⟨w7.heap.size,2,none⟩=some (.slice A E.woken.length C):=b4.cell 2
 have KM:=zdl h4 (A:=A) (n:=E.woken.length) (C:=C) (k:=k) (ts:=E.woken) (by omega) (by simp) rfl HW.out.2
 have HB3:Hid _:=b3
 have H3:Hid _:=e3.symm
 have H4:Hid _:=e4.symm
 have HL7:Hid _:=hl7
 clear e3 e4 b3 b4 h3 h4 h7 hl7 KC HK HW
 go_wp2_with (first | (rw [H3.out];clear H3) | (refine wpList_store_row rfl 45 _ _ rfl w7.heap.size #[.bool true,.int .i64 t,.slice A E.woken.length C,.bool E.st,.bool E.en,.bool E.ye] rfl rfl 45 _ HB3.out.heap zc rfl (zh _ _ _ _ _ _ _ _) ?_;rw [H4.out];clear HB3 H4))
 refine KM.mono ?_
 rintro e w8 ⟨rfl,l8,hl8,h8⟩
 rw [HL7.out] at hl8
 have b8:Dk.Box w8 w7.heap.size #[.bool true,.int .i64 t,.slice A E.woken.length C,.bool E.st,.bool E.en,.bool E.ye] 45:=h8.get (t:=Dk.boxOf _ _ _) (by simp)
 have b9:Dk.Box w8 w2.heap.size #[.int .i64 xk,.int .i64 t,.int .i64 7] 59:=h8.get (t:=Dk.boxOf _ _ _) (by simp)
 have d3:w8.cell? ⟨w7.heap.size,3,none⟩=some (.bool E.st):=b8.cell 3
 have d4:w8.cell? ⟨w7.heap.size,4,none⟩=some (.bool E.en):=b8.cell 4
 have d5:w8.cell? ⟨w2.heap.size,1,none⟩=some (.int .i64 t):=b9.cell 1
 have HL8:Hid _:=hl8
 clear KM HL7 hl8 b8 b9 d1 d2
 cases hst:E.st with
 | true=>
  rw [hst] at d3
  have H9:Hid (l8.st=Y):=by rw [HL8.out,← HY0.out];unfold Dk.Ls.upT;rw [if_pos hst];exact rfl
  have HST:Hid _:=hst
  clear hst HL8 HY0
  go_upto_region 12 with fail
  clear d3 d4 d5
  have bz:Dk.Box w8 w.heap.size #[.bool false,.int .i64 0,.slice none 0 0,.bool false,.bool false,.bool false] 45:=h8.get (t:=Dk.boxOf _ _ _) (by simp)
  have bd:Dk.Box w8 w7.heap.size #[.bool true,.int .i64 t,.slice A E.woken.length C,.bool E.st,.bool E.en,.bool E.ye] 45:=h8.get (t:=Dk.boxOf _ _ _) (by simp)
  have z0:w8.cell? ⟨w7.heap.size,0,none⟩=some (.bool true):=bd.cell 0
  have z1:w8.cell? ⟨w7.heap.size,1,none⟩=some (.int .i64 t):=bd.cell 1
  have z2:w8.cell? ⟨w7.heap.size,2,none⟩=some (.slice A E.woken.length C):=bd.cell 2
  have z3:w8.cell? ⟨w7.heap.size,3,none⟩=some (.bool E.st):=bd.cell 3
  have z4:w8.cell? ⟨w7.heap.size,4,none⟩=some (.bool E.en):=bd.cell 4
  have z5:w8.cell? ⟨w7.heap.size,5,none⟩=some (.bool E.ye):=bd.cell 5
  have hz:=Dk.LB.setRow (us1:=[_,_,_,_]) h8 #[.bool true,.int .i64 t,.slice A E.woken.length C,.bool E.st,.bool E.en,.bool E.ye]
  obtain ⟨WZ,eZ⟩:∃ W,W=w8.setRow w.heap.size #[.bool true,.int .i64 t,.slice A E.woken.length C,.bool E.st,.bool E.en,.bool E.ye]:=⟨_,rfl⟩
  rw [← eZ] at hz
  have bZ:Dk.Box WZ w.heap.size #[.bool true,.int .i64 t,.slice A E.woken.length C,.bool E.st,.bool E.en,.bool E.ye] 45:=hz.get (t:=Dk.boxOf _ _ _) (by simp)
  have HL:Hid (Dk.LB S0 W WZ b _ (Dk.rowOf 3 1 (.slice A E.woken.length C) E.woken.length (Dk.is E.woken)::us)):=hz.sub ((((((List.Sublist.refl us).cons _).cons _).cons _).cons_cons _).cons _)
  have HBz:Hid _:=bz
  have HBZ:Hid _:=bZ
  have HZ:Hid _:=eZ.symm
  clear bz bd hz eZ bZ h8
  go_wp2_with (refine wpList_store_row rfl 45 _ _ rfl w.heap.size #[.bool true,.int .i64 t,.slice A E.woken.length C,.bool E.st,.bool E.en,.bool E.ye] rfl rfl 45 _ HBz.out.heap zc rfl (zh _ _ _ _ _ _ _ _) ?_;rw [HZ.out];clear HBz HZ)
  (try simp only [Exit.inBlock,Exit.then])
  refine bodyPost_ret (results_cell_row rfl _ _ w.heap.size 45 #[.bool true,.int .i64 t,.slice A E.woken.length C,.bool E.st,.bool E.en,.bool E.ye] (0,0) _ rfl HBZ.out.heap Tryz.underlying45 rfl zc) rfl ?_
  exact ⟨A,C,rfl,_,H9.out,HL.out⟩
 | false=>
  rw [hst] at d3
  cases hen:E.en with
  | true=>
   rw [hen] at d4
   have H9:Hid (l8.st=Y):=by rw [HL8.out,← HY0.out];unfold Dk.Ls.upT;rw [if_neg (by rw [hst];decide),if_pos hen];exact rfl
   have HST:Hid _:=hst
   have HEN:Hid _:=hen
   clear hst hen HL8 HY0
   go_upto_region 12 with fail
   clear d3 d4 d5
   have bz:Dk.Box w8 w.heap.size #[.bool false,.int .i64 0,.slice none 0 0,.bool false,.bool false,.bool false] 45:=h8.get (t:=Dk.boxOf _ _ _) (by simp)
   have bd:Dk.Box w8 w7.heap.size #[.bool true,.int .i64 t,.slice A E.woken.length C,.bool E.st,.bool E.en,.bool E.ye] 45:=h8.get (t:=Dk.boxOf _ _ _) (by simp)
   have z0:w8.cell? ⟨w7.heap.size,0,none⟩=some (.bool true):=bd.cell 0
   have z1:w8.cell? ⟨w7.heap.size,1,none⟩=some (.int .i64 t):=bd.cell 1
   have z2:w8.cell? ⟨w7.heap.size,2,none⟩=some (.slice A E.woken.length C):=bd.cell 2
   have z3:w8.cell? ⟨w7.heap.size,3,none⟩=some (.bool E.st):=bd.cell 3
   have z4:w8.cell? ⟨w7.heap.size,4,none⟩=some (.bool E.en):=bd.cell 4
   have z5:w8.cell? ⟨w7.heap.size,5,none⟩=some (.bool E.ye):=bd.cell 5
   have hz:=Dk.LB.setRow (us1:=[_,_,_,_]) h8 #[.bool true,.int .i64 t,.slice A E.woken.length C,.bool E.st,.bool E.en,.bool E.ye]
   obtain ⟨WZ,eZ⟩:∃ W,W=w8.setRow w.heap.size #[.bool true,.int .i64 t,.slice A E.woken.length C,.bool E.st,.bool E.en,.bool E.ye]:=⟨_,rfl⟩
   rw [← eZ] at hz
   have bZ:Dk.Box WZ w.heap.size #[.bool true,.int .i64 t,.slice A E.woken.length C,.bool E.st,.bool E.en,.bool E.ye] 45:=hz.get (t:=Dk.boxOf _ _ _) (by simp)
   have HL:Hid (Dk.LB S0 W WZ b _ (Dk.rowOf 3 1 (.slice A E.woken.length C) E.woken.length (Dk.is E.woken)::us)):=hz.sub ((((((List.Sublist.refl us).cons _).cons _).cons _).cons_cons _).cons _)
   have HBz:Hid _:=bz
   have HBZ:Hid _:=bZ
   have HZ:Hid _:=eZ.symm
   clear bz bd hz eZ bZ h8
   go_wp2_with (refine wpList_store_row rfl 45 _ _ rfl w.heap.size #[.bool true,.int .i64 t,.slice A E.woken.length C,.bool E.st,.bool E.en,.bool E.ye] rfl rfl 45 _ HBz.out.heap zc rfl (zh _ _ _ _ _ _ _ _) ?_;rw [HZ.out];clear HBz HZ)
   (try simp only [Exit.inBlock,Exit.then])
   refine bodyPost_ret (results_cell_row rfl _ _ w.heap.size 45 #[.bool true,.int .i64 t,.slice A E.woken.length C,.bool E.st,.bool E.en,.bool E.ye] (0,0) _ rfl HBZ.out.heap Tryz.underlying45 rfl zc) rfl ?_
   exact ⟨A,C,rfl,_,H9.out,HL.out⟩
  | false=>
   rw [hen] at d4
   have HY1:Hid (l8.st.come k [t]=Y):=by rw [HL8.out,← HY0.out];unfold Dk.Ls.upT;rw [if_neg (by rw [hst];decide),if_neg (by rw [hen];decide)];exact rfl
   have HST:Hid _:=hst
   have HEN:Hid _:=hen
   obtain ⟨W6,e6⟩:∃ W,W=w8.alloc (.cells #[.int .i64 t] 3):=⟨_,rfl⟩
   have h6:=h8.lit1 e6
   have KM2:=zdl h6 (k:=k) (ts:=[t]) (by omega) (List.mem_cons_self ..) rfl (fun x hx=>by rw [List.mem_singleton] at hx;subst hx;exact HT16.out)
   have H6:Hid _:=e6.symm
   clear h6 h8 e6 hst hen HL8 HY0
   go_wp2_with (first | (rw [H6.out];clear H6))
   refine KM2.mono ?_
   rintro e w9 ⟨rfl,l9,hl9,h9⟩
   have h9':=h9.drop
   have H9:Hid (l9.st=Y):=hl9.trans HY1.out
   clear KM2 hl9 h9 HY1 d3 d4 d5
   have bz:Dk.Box w9 w.heap.size #[.bool false,.int .i64 0,.slice none 0 0,.bool false,.bool false,.bool false] 45:=h9'.get (t:=Dk.boxOf _ _ _) (by simp)
   have bd:Dk.Box w9 w7.heap.size #[.bool true,.int .i64 t,.slice A E.woken.length C,.bool E.st,.bool E.en,.bool E.ye] 45:=h9'.get (t:=Dk.boxOf _ _ _) (by simp)
   have z0:w9.cell? ⟨w7.heap.size,0,none⟩=some (.bool true):=bd.cell 0
   have z1:w9.cell? ⟨w7.heap.size,1,none⟩=some (.int .i64 t):=bd.cell 1
   have z2:w9.cell? ⟨w7.heap.size,2,none⟩=some (.slice A E.woken.length C):=bd.cell 2
   have z3:w9.cell? ⟨w7.heap.size,3,none⟩=some (.bool E.st):=bd.cell 3
   have z4:w9.cell? ⟨w7.heap.size,4,none⟩=some (.bool E.en):=bd.cell 4
   have z5:w9.cell? ⟨w7.heap.size,5,none⟩=some (.bool E.ye):=bd.cell 5
   have hz:=Dk.LB.setRow (us1:=[_,_,_,_]) h9' #[.bool true,.int .i64 t,.slice A E.woken.length C,.bool E.st,.bool E.en,.bool E.ye]
   obtain ⟨WZ,eZ⟩:∃ W,W=w9.setRow w.heap.size #[.bool true,.int .i64 t,.slice A E.woken.length C,.bool E.st,.bool E.en,.bool E.ye]:=⟨_,rfl⟩
   rw [← eZ] at hz
   have bZ:Dk.Box WZ w.heap.size #[.bool true,.int .i64 t,.slice A E.woken.length C,.bool E.st,.bool E.en,.bool E.ye] 45:=hz.get (t:=Dk.boxOf _ _ _) (by simp)
   have HL:Hid (Dk.LB S0 W WZ b _ (Dk.rowOf 3 1 (.slice A E.woken.length C) E.woken.length (Dk.is E.woken)::us)):=hz.sub ((((((List.Sublist.refl us).cons _).cons _).cons _).cons_cons _).cons _)
   have HBz:Hid _:=bz
   have HBZ:Hid _:=bZ
   have HZ:Hid _:=eZ.symm
   clear bz bd hz eZ bZ h9'
   go_wp2_with (refine wpList_store_row rfl 45 _ _ rfl w.heap.size #[.bool true,.int .i64 t,.slice A E.woken.length C,.bool E.st,.bool E.en,.bool E.ye] rfl rfl 45 _ HBz.out.heap zc rfl (zh _ _ _ _ _ _ _ _) ?_;rw [HZ.out];clear HBz HZ)
   (try simp only [Exit.inBlock,Exit.then])
   refine bodyPost_ret (results_cell_row rfl _ _ w.heap.size 45 #[.bool true,.int .i64 t,.slice A E.woken.length C,.bool E.st,.bool E.en,.bool E.ye] (0,0) _ rfl HBZ.out.heap Tryz.underlying45 rfl zc) rfl ?_
   exact ⟨A,C,rfl,_,H9.out,HL.out⟩
end
end Go.Proofs.YtpnajphbjfehnaaGreat
namespace Dk
section
variable {σ : Type}
def Ls.step (F:SpF σ) (x:Ls σ) (k:Nat) (c:Int):Ls σ × Dd:=
 if (x.at k).m=1 then x.upcall F k c
 else if (x.at k).m=5 then x.run F k c
 else if (x.at k).m=7 then x.inside F k c
 else if (x.at k).m=2 then (x.handle k,Dd.none)
 else if (x.at k).m=3 then (x.zax k 4,Dd.none)
 else if (x.at k).m=4 then (x.pick k,Dd.none)
 else if (x.at k).m=6 then (x.zax k 7,Dd.none)
 else if (x.at k).m=8 then (x.rest k,Dd.none)
 else (x,Dd.none)
def thr (t:Int):Prop:=0≤t∧t < 16
def Ev.good (e:Ev):Prop:=(e.runs=true→thr e.t)∧(e.m=7→thr e.t)
def Vw.good (v:Vw):Prop:=(∀ e ∈ v.es,e.good)∧(v.m=5∨v.m=6∨v.m=7→thr v.t)
def Ls.fine (x:Ls σ):Prop:=x.small∧∀ v ∈ x.vs,v.good
theorem zf2 {l:Lb σ} (h:l.st.fine) {k:Nat} (hk:k < l.vs.length):(l.vs.getD k Ve.zero).st.good:=by
 have e:l.vs.getD k Ve.zero=l.vs[k]:=by simp [List.getD,hk]
 exact h.2 _ (List.mem_map.2 ⟨_,by rw [e];exact List.getElem_mem hk,rfl⟩)
end
end Dk
namespace Go.Proofs.YtpnajphbjfehnaaGreat
open Go.RowKit Go.Lib
section
variable {σ : Type} {F : Dk.SpF σ} {S0 : Nat → σ → List Dk.Thing → Prop} {W w w' : World} {b : Nat} {l : Dk.Lb σ} {us : List Dk.Thing}
theorem upcall_l (I:SpaceI F S0) (h:Dk.LB S0 W w b l us) (hok:F.ok l.s) {k:Nat} (hk:k < l.vs.length) {c:Int} (hc:Dk.i64 c) (hf:l.st.fine):Calls Tryz.prog 93 #[.pointer (some ⟨b,0,none⟩),.int .i64 (k:Int),.int .i64 c] w fun e w'=>∃ A C,e=.returned ((l.st.upcall F k c).2.v A C)∧∃ l':Dk.Lb σ,l'.st=(l.st.upcall F k c).1∧Dk.LB S0 W w' b l' (Dk.rowOf 3 1 (.slice A (l.st.upcall F k c).2.e.woken.length C) (l.st.upcall F k c).2.e.woken.length (Dk.is (l.st.upcall F k c).2.e.woken)::us):=by
 have hg:=Dk.zf2 hf hk
 by_cases h1:Dk.firstI (l.vs.getD k Dk.Ve.zero).es=-1
 ·exact zkt h hk hf.1 h1
 by_cases h7:(Dk.cutAt (l.vs.getD k Dk.Ve.zero).es).m=7
 ·exact zks I h hk hf.1 hok hc ((hg.1 _ (Dk.zjf h1)).2 h7) h1 h7
 ·exact zia h hk hf.1 h1 h7
theorem step_l (I:SpaceI F S0) (h:Dk.LB S0 W w b l us) (hok:F.ok l.s) {k:Nat} (hk:k < l.vs.length) {c:Int} (hc:Dk.i64 c) (hf:l.st.fine):Calls Tryz.prog 58 #[.pointer (some ⟨b,0,none⟩),.int .i64 (k:Int),.int .i64 c] w fun e w'=>∃ A C,e=.returned ((l.st.step F k c).2.v A C)∧∃ l':Dk.Lb σ,l'.st=(l.st.step F k c).1∧Dk.LB S0 W w' b l' (Dk.rowOf 3 1 (.slice A (l.st.step F k c).2.e.woken.length C) (l.st.step F k c).2.e.woken.length (Dk.is (l.st.step F k c).2.e.woken)::us):=by
 obtain ⟨W1,e1⟩:∃ W,W=w.alloc (.cells #[.bool false,.int .i64 0,.slice none 0 0,.bool false,.bool false,.bool false] 45):=⟨_,rfl⟩
 have h1:=h.newBox e1
 have c2:W1.cell? ⟨b,2,none⟩=some (.slice (some ⟨l.vb,0,none⟩) l.vs.length l.vC):=h1.box.cell 2
 obtain ⟨q0,q1,q2⟩:=h1.vcell hk
 have i1:(k:Int) < (l.vs.length:Int):=by omega
 have hsl:l.st.s=l.s:=rfl
 have HH:Hid _:=h1
 have H1:Hid _:=e1.symm
 have HHZ:Hid (Dk.LB S0 W W1 b l (Dk.boxOf w.heap.size #[.bool false,.int .i64 0,.slice none 0 0,.bool false,.bool false,.bool false] 45::us)):=h1
 clear e1
 by_cases hm1:(l.vs.getD k Dk.Ve.zero).m=1
 ·have hu:l.st.step F k c=l.st.upcall F k c:=by unfold Dk.Ls.step;rw [l.zaw];exact if_pos hm1
  have KK:=upcall_l I h1 hok hk hc hf
  rw [hu]
  rw [hm1] at q0
  obtain ⟨X,hX⟩:∃ X,l.st.upcall F k c=X:=⟨_,rfl⟩
  rw [hX] at KK ⊢
  obtain ⟨Y,d⟩:=X
  dsimp only at KK ⊢
  clear hX hu hm1  h h1 hok hk hc hf HH HHZ q1 q2
  go_enter Tryz.func58,Tryz.ntmps58
  go_wp2_with (rw [H1.out];clear H1)
  refine KK.mono ?_
  rintro e w2 ⟨A,C,rfl,l2,hl2,h2⟩
  have bz:Dk.Box w2 w.heap.size #[.bool false,.int .i64 0,.slice none 0 0,.bool false,.bool false,.bool false] 45:=h2.get (t:=Dk.boxOf _ _ _) (by simp)
  have hz:=Dk.LB.setRow (us1:=[_]) h2 #[.bool d.cm,.int .i64 d.t,.slice A d.e.woken.length C,.bool d.e.st,.bool d.e.en,.bool d.e.ye]
  obtain ⟨WZ,eZ⟩:∃ W,W=w2.setRow w.heap.size #[.bool d.cm,.int .i64 d.t,.slice A d.e.woken.length C,.bool d.e.st,.bool d.e.en,.bool d.e.ye]:=⟨_,rfl⟩
  rw [← eZ] at hz
  have bZ:Dk.Box WZ w.heap.size #[.bool d.cm,.int .i64 d.t,.slice A d.e.woken.length C,.bool d.e.st,.bool d.e.en,.bool d.e.ye] 45:=hz.get (t:=Dk.boxOf _ _ _) (by simp)
  have HL:Hid (∃ l':Dk.Lb σ,l'.st=Y∧Dk.LB S0 W WZ b l' (Dk.rowOf 3 1 (.slice A d.e.woken.length C) d.e.woken.length (Dk.is d.e.woken)::us)):=⟨l2,hl2,hz.sub (((List.Sublist.refl us).cons _).cons_cons _)⟩
  have HBz:Hid _:=bz
  have HBZ:Hid _:=bZ
  have HZ:Hid _:=eZ.symm
  clear bz hz eZ bZ h2 hl2 KK q0 c2
  go_wp2_with (refine wpList_store_row rfl 45 _ _ rfl w.heap.size #[.bool d.cm,.int .i64 d.t,.slice A d.e.woken.length C,.bool d.e.st,.bool d.e.en,.bool d.e.ye] rfl rfl 45 _ HBz.out.heap zc rfl (zh _ _ _ _ _ _ _ _) ?_;rw [HZ.out];clear HBz HZ)
  (try simp only [Exit.inBlock,Exit.then])
  refine bodyPost_ret (results_cell_row rfl _ _ w.heap.size 45 #[.bool d.cm,.int .i64 d.t,.slice A d.e.woken.length C,.bool d.e.st,.bool d.e.en,.bool d.e.ye] (0,0) _ rfl HBZ.out.heap Tryz.underlying45 rfl zc) rfl ?_
  exact ⟨A,C,rfl,HL.out⟩
 by_cases hm5:(l.vs.getD k Dk.Ve.zero).m=5
 ·have hu:l.st.step F k c=l.st.run F k c:=by unfold Dk.Ls.step;rw [l.zaw];exact (if_neg hm1).trans (if_pos hm5)
  have KK:=run_l I h1 hok (fun _=>trivial) hk hc hf.1
  rw [hu]
  rw [hm5] at q0
  obtain ⟨X,hX⟩:∃ X,l.st.run F k c=X:=⟨_,rfl⟩
  rw [hX] at KK ⊢
  obtain ⟨Y,d⟩:=X
  dsimp only at KK ⊢
  clear hX hu hm5 hm1 h h1 hok hk hc hf HH HHZ q1 q2
  go_enter Tryz.func58,Tryz.ntmps58
  go_wp2_with (rw [H1.out];clear H1)
  refine KK.mono ?_
  rintro e w2 ⟨A,C,rfl,l2,hl2,h2⟩
  have bz:Dk.Box w2 w.heap.size #[.bool false,.int .i64 0,.slice none 0 0,.bool false,.bool false,.bool false] 45:=h2.get (t:=Dk.boxOf _ _ _) (by simp)
  have hz:=Dk.LB.setRow (us1:=[_]) h2 #[.bool d.cm,.int .i64 d.t,.slice A d.e.woken.length C,.bool d.e.st,.bool d.e.en,.bool d.e.ye]
  obtain ⟨WZ,eZ⟩:∃ W,W=w2.setRow w.heap.size #[.bool d.cm,.int .i64 d.t,.slice A d.e.woken.length C,.bool d.e.st,.bool d.e.en,.bool d.e.ye]:=⟨_,rfl⟩
  rw [← eZ] at hz
  have bZ:Dk.Box WZ w.heap.size #[.bool d.cm,.int .i64 d.t,.slice A d.e.woken.length C,.bool d.e.st,.bool d.e.en,.bool d.e.ye] 45:=hz.get (t:=Dk.boxOf _ _ _) (by simp)
  have HL:Hid (∃ l':Dk.Lb σ,l'.st=Y∧Dk.LB S0 W WZ b l' (Dk.rowOf 3 1 (.slice A d.e.woken.length C) d.e.woken.length (Dk.is d.e.woken)::us)):=⟨l2,hl2,hz.sub (((List.Sublist.refl us).cons _).cons_cons _)⟩
  have HBz:Hid _:=bz
  have HBZ:Hid _:=bZ
  have HZ:Hid _:=eZ.symm
  clear bz hz eZ bZ h2 hl2 KK q0 c2
  go_wp2_with (refine wpList_store_row rfl 45 _ _ rfl w.heap.size #[.bool d.cm,.int .i64 d.t,.slice A d.e.woken.length C,.bool d.e.st,.bool d.e.en,.bool d.e.ye] rfl rfl 45 _ HBz.out.heap zc rfl (zh _ _ _ _ _ _ _ _) ?_;rw [HZ.out];clear HBz HZ)
  (try simp only [Exit.inBlock,Exit.then])
  refine bodyPost_ret (results_cell_row rfl _ _ w.heap.size 45 #[.bool d.cm,.int .i64 d.t,.slice A d.e.woken.length C,.bool d.e.st,.bool d.e.en,.bool d.e.ye] (0,0) _ rfl HBZ.out.heap Tryz.underlying45 rfl zc) rfl ?_
  exact ⟨A,C,rfl,HL.out⟩
 by_cases hm7:(l.vs.getD k Dk.Ve.zero).m=7
 ·have hu:l.st.step F k c=l.st.inside F k c:=by unfold Dk.Ls.step;rw [l.zaw];exact (if_neg hm1).trans ((if_neg hm5).trans (if_pos hm7))
  have KK:=inside_l I h1 hok hk hc ((Dk.zf2 hf hk).2 (.inr (.inr hm7)))
  rw [hu]
  rw [hm7] at q0
  obtain ⟨X,hX⟩:∃ X,l.st.inside F k c=X:=⟨_,rfl⟩
  rw [hX] at KK ⊢
  obtain ⟨Y,d⟩:=X
  dsimp only at KK ⊢
  clear hX hu hm7 hm1 hm5 h h1 hok hk hc hf HH HHZ q1 q2
  go_enter Tryz.func58,Tryz.ntmps58
  go_wp2_with (rw [H1.out];clear H1)
  refine KK.mono ?_
  rintro e w2 ⟨A,C,rfl,l2,hl2,h2⟩
  have bz:Dk.Box w2 w.heap.size #[.bool false,.int .i64 0,.slice none 0 0,.bool false,.bool false,.bool false] 45:=h2.get (t:=Dk.boxOf _ _ _) (by simp)
  have hz:=Dk.LB.setRow (us1:=[_]) h2 #[.bool d.cm,.int .i64 d.t,.slice A d.e.woken.length C,.bool d.e.st,.bool d.e.en,.bool d.e.ye]
  obtain ⟨WZ,eZ⟩:∃ W,W=w2.setRow w.heap.size #[.bool d.cm,.int .i64 d.t,.slice A d.e.woken.length C,.bool d.e.st,.bool d.e.en,.bool d.e.ye]:=⟨_,rfl⟩
  rw [← eZ] at hz
  have bZ:Dk.Box WZ w.heap.size #[.bool d.cm,.int .i64 d.t,.slice A d.e.woken.length C,.bool d.e.st,.bool d.e.en,.bool d.e.ye] 45:=hz.get (t:=Dk.boxOf _ _ _) (by simp)
  have HL:Hid (∃ l':Dk.Lb σ,l'.st=Y∧Dk.LB S0 W WZ b l' (Dk.rowOf 3 1 (.slice A d.e.woken.length C) d.e.woken.length (Dk.is d.e.woken)::us)):=⟨l2,hl2,hz.sub (((List.Sublist.refl us).cons _).cons_cons _)⟩
  have HBz:Hid _:=bz
  have HBZ:Hid _:=bZ
  have HZ:Hid _:=eZ.symm
  clear bz hz eZ bZ h2 hl2 KK q0 c2
  go_wp2_with (refine wpList_store_row rfl 45 _ _ rfl w.heap.size #[.bool d.cm,.int .i64 d.t,.slice A d.e.woken.length C,.bool d.e.st,.bool d.e.en,.bool d.e.ye] rfl rfl 45 _ HBz.out.heap zc rfl (zh _ _ _ _ _ _ _ _) ?_;rw [HZ.out];clear HBz HZ)
  (try simp only [Exit.inBlock,Exit.then])
  refine bodyPost_ret (results_cell_row rfl _ _ w.heap.size 45 #[.bool d.cm,.int .i64 d.t,.slice A d.e.woken.length C,.bool d.e.st,.bool d.e.en,.bool d.e.ye] (0,0) _ rfl HBZ.out.heap Tryz.underlying45 rfl zc) rfl ?_
  exact ⟨A,C,rfl,HL.out⟩
 by_cases hm2:(l.vs.getD k Dk.Ve.zero).m=2
 ·have hu:l.st.step F k c=(l.st.handle k,Dk.Dd.none):=by unfold Dk.Ls.step;rw [l.zaw];exact (if_neg hm1).trans ((if_neg hm5).trans ((if_neg hm7).trans (if_pos hm2)))
  have KK:=handle_l h1 hk (fun e he=>((Dk.zf2 hf hk).1 e he).1)
  rw [hu]
  rw [hm2] at q0
  dsimp only
  obtain ⟨X,hX⟩:∃ X,l.st.handle k=X:=⟨_,rfl⟩
  rw [hX] at KK ⊢
  clear hX hu hm2 hm1 hm5 hm7 h h1 hok hk hc hf HH HHZ q1 q2
  go_enter Tryz.func58,Tryz.ntmps58
  go_wp2_with (rw [H1.out];clear H1)
  refine KK.mono ?_
  rintro e w5 ⟨rfl,l5,hl5,h5⟩
  have H5:Hid (l5.st=X):=hl5
  clear KK hl5 q0 c2
  have bz:Dk.Box w5 w.heap.size #[.bool false,.int .i64 0,.slice none 0 0,.bool false,.bool false,.bool false] 45:=h5.get (t:=Dk.boxOf _ _ _) (by simp)
  have hz:=Dk.LB.setRow (us1:=[]) h5 #[.bool false,.int .i64 0,.slice none 0 0,.bool false,.bool false,.bool false]
  obtain ⟨WZ,eZ⟩:∃ W,W=w5.setRow w.heap.size #[.bool false,.int .i64 0,.slice none 0 0,.bool false,.bool false,.bool false]:=⟨_,rfl⟩
  rw [← eZ] at hz
  have bZ:Dk.Box WZ w.heap.size #[.bool false,.int .i64 0,.slice none 0 0,.bool false,.bool false,.bool false] 45:=hz.get (t:=Dk.boxOf _ _ _) (by simp)
  have HL:Hid (Dk.LB S0 W WZ b _ (Dk.rowOf 3 1 (.slice none 0 0) 0 []::us)):=(hz.sub ((List.Sublist.refl us).cons _)).nilRow _ _
  have HBz:Hid _:=bz
  have HBZ:Hid _:=bZ
  have HZ:Hid _:=eZ.symm
  clear bz hz eZ bZ h5
  go_wp2_with (refine wpList_store_row rfl 45 _ _ rfl w.heap.size #[.bool false,.int .i64 0,.slice none 0 0,.bool false,.bool false,.bool false] rfl rfl 45 _ HBz.out.heap zc rfl (zh _ _ _ _ _ _ _ _) ?_;rw [HZ.out];clear HBz HZ)
  (try simp only [Exit.inBlock,Exit.then])
  refine bodyPost_ret (results_cell_row rfl _ _ w.heap.size 45 #[.bool false,.int .i64 0,.slice none 0 0,.bool false,.bool false,.bool false] (0,0) _ rfl HBZ.out.heap Tryz.underlying45 rfl zc) rfl ?_
  exact ⟨none,0,rfl,_,H5.out,HL.out⟩
 by_cases hm3:(l.vs.getD k Dk.Ve.zero).m=3
 ·have hu:l.st.step F k c=(l.st.zax k 4,Dk.Dd.none):=by unfold Dk.Ls.step;rw [l.zaw];exact (if_neg hm1).trans ((if_neg hm5).trans ((if_neg hm7).trans ((if_neg hm2).trans (if_pos hm3))))
  have KK:=zft h1 hk (m:=4) (by unfold Dk.i64;omega)
  rw [hu]
  rw [hm3] at q0
  dsimp only
  obtain ⟨X,hX⟩:∃ X,l.st.zax k 4=X:=⟨_,rfl⟩
  rw [hX] at KK ⊢
  clear hX hu hm3 hm1 hm5 hm7 hm2 h h1 hok hk hc hf HH HHZ q1 q2
  go_enter Tryz.func58,Tryz.ntmps58
  go_wp2_with (rw [H1.out];clear H1)
  refine KK.mono ?_
  rintro e w5 ⟨rfl,l5,hl5,h5⟩
  have H5:Hid (l5.st=X):=hl5
  clear KK hl5 q0 c2
  have bz:Dk.Box w5 w.heap.size #[.bool false,.int .i64 0,.slice none 0 0,.bool false,.bool false,.bool false] 45:=h5.get (t:=Dk.boxOf _ _ _) (by simp)
  have hz:=Dk.LB.setRow (us1:=[]) h5 #[.bool false,.int .i64 0,.slice none 0 0,.bool false,.bool false,.bool false]
  obtain ⟨WZ,eZ⟩:∃ W,W=w5.setRow w.heap.size #[.bool false,.int .i64 0,.slice none 0 0,.bool false,.bool false,.bool false]:=⟨_,rfl⟩
  rw [← eZ] at hz
  have bZ:Dk.Box WZ w.heap.size #[.bool false,.int .i64 0,.slice none 0 0,.bool false,.bool false,.bool false] 45:=hz.get (t:=Dk.boxOf _ _ _) (by simp)
  have HL:Hid (Dk.LB S0 W WZ b _ (Dk.rowOf 3 1 (.slice none 0 0) 0 []::us)):=(hz.sub ((List.Sublist.refl us).cons _)).nilRow _ _
  have HBz:Hid _:=bz
  have HBZ:Hid _:=bZ
  have HZ:Hid _:=eZ.symm
  clear bz hz eZ bZ h5
  go_wp2_with (refine wpList_store_row rfl 45 _ _ rfl w.heap.size #[.bool false,.int .i64 0,.slice none 0 0,.bool false,.bool false,.bool false] rfl rfl 45 _ HBz.out.heap zc rfl (zh _ _ _ _ _ _ _ _) ?_;rw [HZ.out];clear HBz HZ)
  (try simp only [Exit.inBlock,Exit.then])
  refine bodyPost_ret (results_cell_row rfl _ _ w.heap.size 45 #[.bool false,.int .i64 0,.slice none 0 0,.bool false,.bool false,.bool false] (0,0) _ rfl HBZ.out.heap Tryz.underlying45 rfl zc) rfl ?_
  exact ⟨none,0,rfl,_,H5.out,HL.out⟩
 by_cases hm4:(l.vs.getD k Dk.Ve.zero).m=4
 ·have hu:l.st.step F k c=(l.st.pick k,Dk.Dd.none):=by unfold Dk.Ls.step;rw [l.zaw];exact (if_neg hm1).trans ((if_neg hm5).trans ((if_neg hm7).trans ((if_neg hm2).trans ((if_neg hm3).trans (if_pos hm4)))))
  have KK:=pick_l h1 hk
  rw [hu]
  rw [hm4] at q0
  dsimp only
  obtain ⟨X,hX⟩:∃ X,l.st.pick k=X:=⟨_,rfl⟩
  rw [hX] at KK ⊢
  clear hX hu hm4 hm1 hm5 hm7 hm2 hm3 h h1 hok hk hc hf HH HHZ q1 q2
  go_enter Tryz.func58,Tryz.ntmps58
  go_wp2_with (rw [H1.out];clear H1)
  refine KK.mono ?_
  rintro e w5 ⟨rfl,l5,hl5,h5⟩
  have H5:Hid (l5.st=X):=hl5
  clear KK hl5 q0 c2
  have bz:Dk.Box w5 w.heap.size #[.bool false,.int .i64 0,.slice none 0 0,.bool false,.bool false,.bool false] 45:=h5.get (t:=Dk.boxOf _ _ _) (by simp)
  have hz:=Dk.LB.setRow (us1:=[]) h5 #[.bool false,.int .i64 0,.slice none 0 0,.bool false,.bool false,.bool false]
  obtain ⟨WZ,eZ⟩:∃ W,W=w5.setRow w.heap.size #[.bool false,.int .i64 0,.slice none 0 0,.bool false,.bool false,.bool false]:=⟨_,rfl⟩
  rw [← eZ] at hz
  have bZ:Dk.Box WZ w.heap.size #[.bool false,.int .i64 0,.slice none 0 0,.bool false,.bool false,.bool false] 45:=hz.get (t:=Dk.boxOf _ _ _) (by simp)
  have HL:Hid (Dk.LB S0 W WZ b _ (Dk.rowOf 3 1 (.slice none 0 0) 0 []::us)):=(hz.sub ((List.Sublist.refl us).cons _)).nilRow _ _
  have HBz:Hid _:=bz
  have HBZ:Hid _:=bZ
  have HZ:Hid _:=eZ.symm
  clear bz hz eZ bZ h5
  go_wp2_with (refine wpList_store_row rfl 45 _ _ rfl w.heap.size #[.bool false,.int .i64 0,.slice none 0 0,.bool false,.bool false,.bool false] rfl rfl 45 _ HBz.out.heap zc rfl (zh _ _ _ _ _ _ _ _) ?_;rw [HZ.out];clear HBz HZ)
  (try simp only [Exit.inBlock,Exit.then])
  refine bodyPost_ret (results_cell_row rfl _ _ w.heap.size 45 #[.bool false,.int .i64 0,.slice none 0 0,.bool false,.bool false,.bool false] (0,0) _ rfl HBZ.out.heap Tryz.underlying45 rfl zc) rfl ?_
  exact ⟨none,0,rfl,_,H5.out,HL.out⟩
 by_cases hm6:(l.vs.getD k Dk.Ve.zero).m=6
 ·have hu:l.st.step F k c=(l.st.zax k 7,Dk.Dd.none):=by unfold Dk.Ls.step;rw [l.zaw];exact (if_neg hm1).trans ((if_neg hm5).trans ((if_neg hm7).trans ((if_neg hm2).trans ((if_neg hm3).trans ((if_neg hm4).trans (if_pos hm6))))))
  have KK:=zft h1 hk (m:=7) (by unfold Dk.i64;omega)
  rw [hu]
  rw [hm6] at q0
  dsimp only
  obtain ⟨X,hX⟩:∃ X,l.st.zax k 7=X:=⟨_,rfl⟩
  rw [hX] at KK ⊢
  clear hX hu hm6 hm1 hm5 hm7 hm2 hm3 hm4 h h1 hok hk hc hf HH HHZ q1 q2
  go_enter Tryz.func58,Tryz.ntmps58
  go_wp2_with (rw [H1.out];clear H1)
  refine KK.mono ?_
  rintro e w5 ⟨rfl,l5,hl5,h5⟩
  have H5:Hid (l5.st=X):=hl5
  clear KK hl5 q0 c2
  have bz:Dk.Box w5 w.heap.size #[.bool false,.int .i64 0,.slice none 0 0,.bool false,.bool false,.bool false] 45:=h5.get (t:=Dk.boxOf _ _ _) (by simp)
  have hz:=Dk.LB.setRow (us1:=[]) h5 #[.bool false,.int .i64 0,.slice none 0 0,.bool false,.bool false,.bool false]
  obtain ⟨WZ,eZ⟩:∃ W,W=w5.setRow w.heap.size #[.bool false,.int .i64 0,.slice none 0 0,.bool false,.bool false,.bool false]:=⟨_,rfl⟩
  rw [← eZ] at hz
  have bZ:Dk.Box WZ w.heap.size #[.bool false,.int .i64 0,.slice none 0 0,.bool false,.bool false,.bool false] 45:=hz.get (t:=Dk.boxOf _ _ _) (by simp)
  have HL:Hid (Dk.LB S0 W WZ b _ (Dk.rowOf 3 1 (.slice none 0 0) 0 []::us)):=(hz.sub ((List.Sublist.refl us).cons _)).nilRow _ _
  have HBz:Hid _:=bz
  have HBZ:Hid _:=bZ
  have HZ:Hid _:=eZ.symm
  clear bz hz eZ bZ h5
  go_wp2_with (refine wpList_store_row rfl 45 _ _ rfl w.heap.size #[.bool false,.int .i64 0,.slice none 0 0,.bool false,.bool false,.bool false] rfl rfl 45 _ HBz.out.heap zc rfl (zh _ _ _ _ _ _ _ _) ?_;rw [HZ.out];clear HBz HZ)
  (try simp only [Exit.inBlock,Exit.then])
  refine bodyPost_ret (results_cell_row rfl _ _ w.heap.size 45 #[.bool false,.int .i64 0,.slice none 0 0,.bool false,.bool false,.bool false] (0,0) _ rfl HBZ.out.heap Tryz.underlying45 rfl zc) rfl ?_
  exact ⟨none,0,rfl,_,H5.out,HL.out⟩
 by_cases hm8:(l.vs.getD k Dk.Ve.zero).m=8
 ·have hu:l.st.step F k c=(l.st.rest k,Dk.Dd.none):=by unfold Dk.Ls.step;rw [l.zaw];exact (if_neg hm1).trans ((if_neg hm5).trans ((if_neg hm7).trans ((if_neg hm2).trans ((if_neg hm3).trans ((if_neg hm4).trans ((if_neg hm6).trans (if_pos hm8)))))))
  have KK:=rest_l h1 hk
  rw [hu]
  rw [hm8] at q0
  dsimp only
  obtain ⟨X,hX⟩:∃ X,l.st.rest k=X:=⟨_,rfl⟩
  rw [hX] at KK ⊢
  clear hX hu hm8 hm1 hm5 hm7 hm2 hm3 hm4 hm6 h h1 hok hk hc hf HH HHZ q1 q2
  go_enter Tryz.func58,Tryz.ntmps58
  go_wp2_with (rw [H1.out];clear H1)
  refine KK.mono ?_
  rintro e w5 ⟨rfl,l5,hl5,h5⟩
  have H5:Hid (l5.st=X):=hl5
  clear KK hl5 q0 c2
  have bz:Dk.Box w5 w.heap.size #[.bool false,.int .i64 0,.slice none 0 0,.bool false,.bool false,.bool false] 45:=h5.get (t:=Dk.boxOf _ _ _) (by simp)
  have hz:=Dk.LB.setRow (us1:=[]) h5 #[.bool false,.int .i64 0,.slice none 0 0,.bool false,.bool false,.bool false]
  obtain ⟨WZ,eZ⟩:∃ W,W=w5.setRow w.heap.size #[.bool false,.int .i64 0,.slice none 0 0,.bool false,.bool false,.bool false]:=⟨_,rfl⟩
  rw [← eZ] at hz
  have bZ:Dk.Box WZ w.heap.size #[.bool false,.int .i64 0,.slice none 0 0,.bool false,.bool false,.bool false] 45:=hz.get (t:=Dk.boxOf _ _ _) (by simp)
  have HL:Hid (Dk.LB S0 W WZ b _ (Dk.rowOf 3 1 (.slice none 0 0) 0 []::us)):=(hz.sub ((List.Sublist.refl us).cons _)).nilRow _ _
  have HBz:Hid _:=bz
  have HBZ:Hid _:=bZ
  have HZ:Hid _:=eZ.symm
  clear bz hz eZ bZ h5
  go_wp2_with (refine wpList_store_row rfl 45 _ _ rfl w.heap.size #[.bool false,.int .i64 0,.slice none 0 0,.bool false,.bool false,.bool false] rfl rfl 45 _ HBz.out.heap zc rfl (zh _ _ _ _ _ _ _ _) ?_;rw [HZ.out];clear HBz HZ)
  (try simp only [Exit.inBlock,Exit.then])
  refine bodyPost_ret (results_cell_row rfl _ _ w.heap.size 45 #[.bool false,.int .i64 0,.slice none 0 0,.bool false,.bool false,.bool false] (0,0) _ rfl HBZ.out.heap Tryz.underlying45 rfl zc) rfl ?_
  exact ⟨none,0,rfl,_,H5.out,HL.out⟩
 have hu:l.st.step F k c=(l.st,Dk.Dd.none):=by unfold Dk.Ls.step;rw [l.zaw];exact (if_neg hm1).trans ((if_neg hm5).trans ((if_neg hm7).trans ((if_neg hm2).trans ((if_neg hm3).trans ((if_neg hm4).trans ((if_neg hm6).trans ((if_neg hm8).trans (rfl))))))))
 rw [hu]
 dsimp only
 generalize (l.vs.getD k Dk.Ve.zero).m=m at *
 have g1:(m == 1)=false:=by simpa using hm1
 have g5:(m == 5)=false:=by simpa using hm5
 have g7:(m == 7)=false:=by simpa using hm7
 have g2:(m == 2)=false:=by simpa using hm2
 have g3:(m == 3)=false:=by simpa using hm3
 have g4:(m == 4)=false:=by simpa using hm4
 have g6:(m == 6)=false:=by simpa using hm6
 have g8:(m == 8)=false:=by simpa using hm8
 clear hu hm1 hm5 hm7 hm2 hm3 hm4 hm6 hm8 h h1 hok hk hc hf q1 q2
 have h5:=Dk.LB.sub HHZ.out (List.Sublist.refl _)
 clear HH HHZ
 have bz:Dk.Box W1 w.heap.size #[.bool false,.int .i64 0,.slice none 0 0,.bool false,.bool false,.bool false] 45:=h5.get (t:=Dk.boxOf _ _ _) (by simp)
 have hz:=Dk.LB.setRow (us1:=[]) h5 #[.bool false,.int .i64 0,.slice none 0 0,.bool false,.bool false,.bool false]
 obtain ⟨WZ,eZ⟩:∃ W,W=W1.setRow w.heap.size #[.bool false,.int .i64 0,.slice none 0 0,.bool false,.bool false,.bool false]:=⟨_,rfl⟩
 rw [← eZ] at hz
 have bZ:Dk.Box WZ w.heap.size #[.bool false,.int .i64 0,.slice none 0 0,.bool false,.bool false,.bool false] 45:=hz.get (t:=Dk.boxOf _ _ _) (by simp)
 have HL:Hid (Dk.LB S0 W WZ b _ (Dk.rowOf 3 1 (.slice none 0 0) 0 []::us)):=(hz.sub ((List.Sublist.refl us).cons _)).nilRow _ _
 have HBz:Hid _:=bz
 have HBZ:Hid _:=bZ
 have HZ:Hid _:=eZ.symm
 clear bz hz eZ bZ h5
 go_enter Tryz.func58,Tryz.ntmps58
 go_wp2_with (first | (rw [H1.out];clear H1) | (refine wpList_store_row rfl 45 _ _ rfl w.heap.size #[.bool false,.int .i64 0,.slice none 0 0,.bool false,.bool false,.bool false] rfl rfl 45 _ HBz.out.heap zc rfl (zh _ _ _ _ _ _ _ _) ?_;rw [HZ.out];clear HBz HZ))
 (try simp only [Exit.inBlock,Exit.then])
 refine bodyPost_ret (results_cell_row rfl _ _ w.heap.size 45 #[.bool false,.int .i64 0,.slice none 0 0,.bool false,.bool false,.bool false] (0,0) _ rfl HBZ.out.heap Tryz.underlying45 rfl zc) rfl ?_
 exact ⟨none,0,rfl,_,rfl,HL.out⟩
end
end Go.Proofs.YtpnajphbjfehnaaGreat
