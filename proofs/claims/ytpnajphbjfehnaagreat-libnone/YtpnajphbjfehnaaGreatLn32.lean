import Derived.Test.YtpnajphbjfehnaaGreatLn31
set_option linter.unusedSimpArgs false
set_option linter.unusedVariables false
set_option linter.unnecessarySimpa false
set_option maxHeartbeats 8000000
set_option maxRecDepth 100000
namespace Go.Proofs.YtpnajphbjfehnaaGreat
open Go.RowKit Go.Lib
section
variable {σ : Type} {F : Dk.SpF σ} {S0 : Nat → σ → List Dk.Thing → Prop} {W w w' : World} {b : Nat} {l : Dk.Lb σ} {us : List Dk.Thing}
theorem zba {A:Option Addr} {n C:Nat} {ts:List Int} (hT:Dk.SlI w.heap.size w A n C ts) (hn:n≤1000000):Calls Tryz.prog 44 #[.slice A n C] w fun e w'=>∃ v,e=.returned v∧Dk.Sep w w' [Dk.rowOf 59 3 v (Dk.unbl ts).length (Dk.evs (Dk.unbl ts))]:=by
 have hlen:=hT.len
 have hcap:=hT.cap
 have hmax:=hT.max
 unfold maxLen at hmax
 have HT:Hid _:=hT
 have s0:=(Dk.Sep.begin (Below.refl w.heap.size w)).nilRow 59 3
 clear hT
 go_enter Tryz.func44,Tryz.ntmps44
 go_wp2_with fail
 go_loopw [3,8] (fun v i w'=>∃ k:Nat,k≤n∧i=.int .i64 k∧Dk.Sep w w' [Dk.rowOf 59 3 v (Dk.unbl (ts.take k)).length (Dk.evs (Dk.unbl (ts.take k)))]) (fun v i w'=>n - (RowKit.intOf i).toNat)
 case atStart=>exact ⟨0,Nat.zero_le _,rfl,s0⟩
 case round=>
  clear s0
  obtain ⟨k,hk,rfl,hS⟩:=hrel
  by_cases hlt:k < n
  ·obtain ⟨g,o,rfl,hc⟩:=Dk.zeq HT.out k hlt
   have ck:=hc _ hS.out
   have es:=Dk.zkr ts k (by omega)
   generalize ts.getD k 0=x at *
   have hl:(Dk.unbl (ts.take k)).length=k:=by rw [Dk.zbj,List.length_take];omega
   rw [hl] at hS
   obtain ⟨v',w2,hr,hS2⟩:=Dk.Sep.appendE (us1:=[]) (x:=⟨3,x,0⟩) KE hS (by unfold maxLen;omega) (by omega)
   rw [← es] at hS2
   have hl2:(Dk.unbl (ts.take (k+1))).length=k+1:=by rw [Dk.zbj,List.length_take];omega
   have hS3:Dk.Sep w w2 [Dk.rowOf 59 3 v' (Dk.unbl (ts.take (k+1))).length (Dk.evs (Dk.unbl (ts.take (k+1))))]:=by rw [hl2];exact hS2
   obtain ⟨W1,e1⟩:∃ W,W=wr.alloc (.cells #[.int .i64 3,.int .i64 x,.int .i64 0] 59):=⟨_,rfl⟩
   have H1:Hid _:=e1.symm
   rw [← e1] at hr
   have HZ:Hid _:=hS3
   clear hc es hS hS2 hS3 e1 hl hl2
   go_wp2_with (first | (rw [H1.out];clear H1) | (at_builtin;refine Lib.wpList_append_run _ rfl _ _ _ _ rfl _ _ rfl rfl _ _ hr ?_))
   go_roundw
   case rel=>exact ⟨k+1,by omega,by go_num,HZ.out⟩
   case measure=>simp [RowKit.intOf];omega
  ·obtain rfl:k=n:=by omega
   rw [List.take_of_length_le (by omega)] at hS
   have HZ:Hid _:=hS
   clear hS
   go_wp2_with fail
   go_ret
   exact ⟨_,rfl,HZ.out⟩
def procsI (x:Dk.Ls σ):List Int:=x.procs.map fun (k:Nat)=>(k:Int)
def procsTo (x:Dk.Ls σ) (j:Nat):List Int:=((List.range j).filter fun k=>(x.at k).m != 0).map fun (k:Nat)=>(k:Int)
theorem ze7 (x:Dk.Ls σ) (j:Nat):procsTo x (j+1)=procsTo x j++(if (x.at j).m != 0 then [(j:Int)] else []):=by
 unfold procsTo
 rw [List.range_succ,List.filter_append,List.map_append]
 congr 1
 simp only [List.filter_cons,List.filter_nil]
 split <;> rfl
theorem zgc (x:Dk.Ls σ) (j:Nat):(procsTo x j).length≤j:=by
 unfold procsTo
 rw [List.length_map]
 exact Nat.le_trans (List.length_filter_le _ _) (by rw [List.length_range];exact Nat.le_refl _)
theorem has_nat {x:Dk.Ls σ} {k:Nat} (hk:k < x.vs.length):x.has (k:Int)=((x.at k).m != 0):=by
 unfold Dk.Ls.has Dk.Ls.isP
 simp [hk]
theorem zip (h:Dk.LB S0 W w b l us):Calls Tryz.prog 25 #[.pointer (some ⟨b,0,none⟩)] w fun e w'=>∃ A C,e=.returned (.slice A (procsI l.st).length C)∧Dk.Sep w w' [Dk.rowOf 3 1 (.slice A (procsI l.st).length C) (procsI l.st).length (Dk.is (procsI l.st))]:=by
 have c2:∀ w',Below w.heap.size w w'→w'.cell? ⟨b,2,none⟩=some (.slice (some ⟨l.vb,0,none⟩) l.vs.length l.vC):=fun w' u=>(h.box.up u).cell 2
 have K:∀ w',Below w.heap.size w w'→∀ k:Nat,k < l.vs.length→Calls Tryz.prog 57 #[.pointer (some ⟨b,0,none⟩),.int .i64 (k:Int)] w' fun e w2=>e=.returned (.bool ((l.st.at k).m != 0))∧w2=w':=fun w' u k hk=>by
  have:=zbx (h.below u) (k:Int)
  rw [has_nat (by rw [l.zab];exact hk)] at this
  exact this
 have s0:=(Dk.Sep.begin (Below.refl w.heap.size w)).nilRow 3 1
 have hn:=h.n64
 obtain ⟨hc1,hc2⟩:=h.vC
 unfold maxLen at hc2
 have el:procsI l.st=procsTo l.st l.vs.length:=by unfold procsI procsTo Dk.Ls.procs;rw [l.zab]
 rw [el]
 generalize l.vs.length=n at *
 have HC:Hid _:=c2
 have HK:Hid _:=K
 have cc:=c2 w (Below.refl _ _)
 clear c2 K h el
 go_enter Tryz.func25,Tryz.ntmps25
 go_wp2_with fail
 go_loopw [3,12] (fun v i w'=>∃ k:Nat,k≤n∧i=.int .i64 k∧Dk.Sep w w' [Dk.rowOf 3 1 v (procsTo l.st k).length (Dk.is (procsTo l.st k))]) (fun v i w'=>n - (RowKit.intOf i).toNat)
 case atStart=>exact ⟨0,Nat.zero_le _,rfl,s0⟩
 case round=>
  clear s0 cc
  obtain ⟨k,hk,rfl,hS⟩:=hrel
  by_cases hlt:k < n
  ·have KH:=HK.out wr hS.out k hlt
   have es:=ze7 l.st k
   have hl:=zgc l.st k
   have hn':n≤64:=hn
   cases hm:((l.st.at k).m != 0) with
   | true=>
    rw [hm] at KH es
    rw [if_pos rfl] at es
    obtain ⟨v',w2,hr,hS2⟩:=Dk.Sep.appendI (us1:=[]) (x:=(k:Int)) KI hS (by unfold maxLen;omega) (by omega)
    rw [← es] at hS2
    have hl2:(procsTo l.st (k+1)).length=(procsTo l.st k).length+1:=by rw [es,List.length_append];rfl
    rw [← hl2] at hS2
    obtain ⟨W1,e1⟩:∃ W,W=wr.alloc (.cells #[.int .i64 (k:Int)] 3):=⟨_,rfl⟩
    have H1:Hid _:=e1.symm
    rw [← e1] at hr
    have HZ:Hid _:=hS2
    clear es hS hS2 e1 hl hl2 hm
    go_wp2_with (first | (go_at_call 57;refine KH.mono ?_;rintro e w' ⟨rfl,hw'⟩;subst w') | (rw [H1.out];clear H1) | (at_builtin;refine Lib.wpList_append_run _ rfl _ _ _ _ rfl _ _ rfl rfl _ _ hr ?_))
    go_roundw
    case rel=>exact ⟨k+1,by omega,by go_num,HZ.out⟩
    case measure=>simp [RowKit.intOf];omega
   | false=>
    rw [hm] at KH es
    rw [if_neg (by decide),List.append_nil] at es
    rw [← es] at hS
    have HZ:Hid _:=hS
    clear es hS hl hm
    go_wp2_with (first | (go_at_call 57;refine KH.mono ?_;rintro e w' ⟨rfl,hw'⟩;subst w'))
    go_roundw
    case rel=>exact ⟨k+1,by omega,by go_num,HZ.out⟩
    case measure=>simp [RowKit.intOf];omega
  ·obtain rfl:k=n:=by omega
   obtain ⟨A,C,rfl,_,_⟩:=Dk.zf (hS.row (e:=3) (s:=1) (List.mem_cons_self ..))
   have HZ:Hid _:=hS
   clear hS
   go_wp2_with fail
   go_ret
   exact ⟨_,_,rfl,HZ.out⟩
end
section
variable {σ : Type} {F : Dk.SpF σ} {S0 : Nat → σ → List Dk.Thing → Prop} {W w w' : World} {b : Nat} {l : Dk.Lb σ} {us : List Dk.Thing}
theorem zg7 {x:Dk.Ls σ} {k:Nat} (h:k ∈ x.procs):k < x.vs.length:=by
 have:=(List.mem_filter.1 h).1
 simpa using this
theorem zcs {l:Dk.Lb σ} (h:l.st.small) {k:Nat} (hk:k < l.vs.length):(l.vs.getD k Dk.Ve.zero).es.length≤1000000:=by
 have e:l.vs.getD k Dk.Ve.zero=l.vs[k]:=by simp [List.getD,hk]
 exact h.2 (l.vs.getD k Dk.Ve.zero).st (List.mem_map.2 ⟨_,by rw [e];exact List.getElem_mem hk,rfl⟩)
theorem Tell_nil (v:Value) (w:World):Calls Tryz.prog 19 #[.pointer none,v] w fun e w'=>e=.returned (.tuple #[])∧w'=w:=by
 go_enter Tryz.func19,Tryz.ntmps19
 go_wp2_with fail
 exact bodyPost_ret (results_none rfl _ _ _) rfl ⟨rfl,rfl⟩
theorem zgj (h:Dk.LB S0 W w b l us) {A:Option Addr} {L C:Nat} {es:List Dk.Ev} (hE:Dk.evT A L C es ∈ us) (hs:l.st.small) (hsm:es.length≤1000000):Calls Tryz.prog 19 #[.pointer (some ⟨b,0,none⟩),.slice A L C] w fun e w'=>e=.returned (.tuple #[])∧∃ l':Dk.Lb σ,l'.st=l.st.tell es∧Dk.LB S0 W w' b l' us:=by
 have hS:=(h.get hE).1
 have hl:=hS.len
 by_cases h0:L=0
 ·subst h0
  obtain rfl:es=[]:=List.eq_nil_of_length_eq_zero hl
  have HL:Hid (∃ l':Dk.Lb σ,l'.st=l.st.tell []∧Dk.LB S0 W w b l' us):=⟨l,by unfold Dk.Ls.tell;rw [if_pos rfl],h⟩
  clear h hE hS hl hs
  go_enter Tryz.func19,Tryz.ntmps19
  go_wp2_with fail
  exact bodyPost_ret (results_none rfl _ _ _) rfl ⟨rfl,HL.out⟩
 have hne:es≠[]:=fun e=>h0 (by rw [← hl,e];rfl)
 have g1:(((L:Nat):Int) == 0)=false:=by simp;omega
 have K1:=zip h
 cases hp:l.st.procs with
 | nil=>
  have eI:procsI l.st=[]:=by unfold procsI;rw [hp];rfl
  rw [eI] at K1
  have et:l.st.tell es={ l.st with ws:=l.st.ws++es }:=by unfold Dk.Ls.tell;rw [if_neg hne,hp]
  have HH:Hid _:=h
  have HE:Hid _:=hE
  have HS:Hid _:=hs
  clear h hE hS hs eI hp
  go_enter Tryz.func19,Tryz.ntmps19
  go_wp2_with fail
  refine K1.mono ?_
  rintro e w2 ⟨A2,C2,rfl,s2⟩
  have h2:=Dk.LB.below HH.out s2.out
  have hw:=h2.wt
  have hwl:=hw.len
  have hsm1:l.ws.length≤1000000:=HS.out.1
  have K2:=za5 hw (h2.get HE.out).1 (by omega)
  have c3:w2.cell? ⟨b,3,none⟩=some (.slice l.wA l.wL l.wC):=h2.box.cell 3
  have HW:Hid (∀ e ∈ l.ws++es,e.ok):=fun e he=>(List.mem_append.1 he).elim (hw.wf e) ((h2.get HE.out).1.wf e)
  have HH2:Hid _:=h2
  have HE2:Hid _:=HE.out
  have HZ:Hid _:=et
  clear K1 HH HE HS s2 h2 hw et
  go_wp2_with fail
  refine K2.mono ?_
  rintro e w3 ⟨B,D,rfl,s3⟩
  have h3:=(Dk.LB.onto HH2.out s3).toEv (by rw [List.length_append,hwl,hl]) HW.out
  have c3':=h3.box.frozen 3
  have c3'':w3.cell? ⟨b,3,none⟩=some (.slice l.wA l.wL l.wC):=h3.box.cell 3
  have h4:=h3.setW
  have HL:Hid (∃ l':Dk.Lb σ,l'.st=l.st.tell es∧Dk.LB S0 W (w3.setCell ⟨b,3,none⟩ (.slice B (l.wL+L) D)) b l' us):=⟨_,by rw [HZ.out];rfl,h4⟩
  clear K2 HH2 s3 h3 h4 HW HE2 HZ c3
  go_wp2_with fail
  exact bodyPost_ret (results_none rfl _ _ _) rfl ⟨rfl,HL.out⟩
 | cons k r=>
  have eI:procsI l.st=(k:Int)::r.map fun (k:Nat)=>(k:Int):=by unfold procsI;rw [hp];rfl
  have et:l.st.tell es=l.st.setV k ⟨1,-1,Dk.stripV (l.st.at k).m (l.st.at k).t (l.st.at k).es++es⟩:=by unfold Dk.Ls.tell;rw [if_neg hne,hp]
  have hkm:k ∈ l.st.procs:=by rw [hp];exact List.mem_cons_self ..
  have hk:k < l.vs.length:=by rw [← l.zab];exact zg7 hkm
  have hix:∀ x ∈ procsI l.st,Dk.i64 x:=fun x hx=>by
   unfold procsI at hx
   obtain ⟨j,hj,rfl⟩:=List.mem_map.1 hx
   have h1:=zg7 hj
   rw [l.zab] at h1
   have h2:=h.n64
   unfold Dk.i64
   omega
  rw [eI] at K1 hix
  rw [l.zaw] at et
  have hn:=h.n64
  generalize hrr:(r.map fun (k:Nat)=>(k:Int))=rr at *
  have hrl:((k:Int)::rr).length=rr.length+1:=List.length_cons
  rw [hrl] at K1
  have HH:Hid _:=h
  have HE:Hid _:=hE
  have HS:Hid _:=zcs hs hk
  have HI:Hid _:=hix
  have HK:Hid _:=hk
  have HZ:Hid _:=et
  have i1:(k:Int) < (l.vs.length:Int):=by omega
  clear h hE hS hs eI hp hix hk hkm et hrr
  have g2:((((rr.length+1:Nat):Int)) == 0)=false:=by simp;omega
  go_enter Tryz.func19,Tryz.ntmps19
  go_wp2_with fail
  refine K1.mono ?_
  rintro e w2 ⟨A2,C2,rfl,s2⟩
  have h2:=Dk.LB.onto HH.out s2
  have hI:=h2.ints (List.mem_cons_self ..) hrl HI.out
  obtain ⟨g,o,rfl,hc⟩:=Dk.zeq hI 0 (by omega)
  have cj:w2.cell? ⟨g,o,none⟩=some (.int .i64 (k:Int)):=hc w2 (Below.refl _ _)
  have hd:=h2.below (Dk.zm (Below.refl w2.heap.size w2))
  have c2:w2.drew.cell? ⟨b,2,none⟩=some (.slice (some ⟨l.vb,0,none⟩) l.vs.length l.vC):=hd.box.cell 2
  have HV:Hid _:=hd.vcell HK.out
  have hwf:=hd.wf HK.out
  have hev:=hd.ev HK.out
  have hvl:=hev.len
  have HS':=HS.out
  have K2:=Told_any hwf.1 hwf.2 hev (hd.get (List.mem_cons_of_mem _ HE.out)).1 (by omega)
  have HO:Hid (∀ e ∈ Dk.stripV (l.vs.getD k Dk.Ve.zero).m (l.vs.getD k Dk.Ve.zero).t (l.vs.getD k Dk.Ve.zero).es++es,e.ok):=fun e he=>(List.mem_append.1 he).elim (Dk.zfb hwf.1 hwf.2 hev.wf e) ((hd.get (List.mem_cons_of_mem _ HE.out)).1.wf e)
  have HH2:Hid _:=hd
  have HC:Hid _:=c2
  have e0:(l.vs.getD k Dk.Ve.zero).st.es=(l.vs.getD k Dk.Ve.zero).es:=rfl
  have e1:(l.vs.getD k Dk.Ve.zero).st.m=(l.vs.getD k Dk.Ve.zero).m:=rfl
  have e2:(l.vs.getD k Dk.Ve.zero).st.t=(l.vs.getD k Dk.Ve.zero).t:=rfl
  rw [e0,e1,e2] at HZ
  have HK2:Hid (k < l.vs.length):=HK.out
  clear e0 e1 e2
  generalize l.vs.getD k Dk.Ve.zero=v at K2 HO HV HZ hvl HS' hwf hev
  generalize Dk.stripV v.m v.t v.es=sv at K2 HO HZ
  clear K1 HH HE HS HI s2 h2 hI hc hd c2 hwf hev HK
  go_wp2_with fail
  refine Dk.zq (S:=fun w'=>w'.cell? ⟨b,2,none⟩=some (.slice (some ⟨l.vb,0,none⟩) l.vs.length l.vC)) [(true,0),(true,1),(true,2),(true,3),(true,4),(true,5),(true,6),(true,7),(true,8),(true,9),(true,10),(true,12),(false,11),(false,13),(true,14),(false,15)] (by kernel_rfl) (by kernel_rfl) (by kernel_rfl) rfl HC.out ?_
  iterate 10 (refine Dk.zj rfl rfl (fun w' hw'=>by go_simp;try rfl) ?_;simp only [zD])
  refine Dk.zj (v:=.pointer (some ⟨l.vb,k*3,none⟩)) rfl rfl (fun w' hw'=>by go_simp) ?_
  simp only [zD]
  refine Dk.zj rfl rfl (fun w' hw'=>by go_simp;try rfl) ?_
  simp only [zD]
  obtain ⟨q0,q1,q2⟩:=HV.out
  refine Dk.zgb (v:=Dk.vv v.m v.t v.A v.L v.C) (w':=w2.drew) rfl rfl (by go_simp) HC.out ?_
  simp only [zD]
  refine Dk.zad (f:=63) (args:=#[Dk.vv v.m v.t v.A v.L v.C,.slice A L C]) rfl rfl (by go_simp) ?_
  refine K2.mono ?_
  rintro e w3 ⟨B,D,rfl,s3⟩
  have h3:=(Dk.LB.onto HH2.out s3).toEv (by rw [List.length_append,hl]) HO.out
  have c3:w3.cell? ⟨b,2,none⟩=some (.slice (some ⟨l.vb,0,none⟩) l.vs.length l.vC):=h3.box.cell 2
  have ht2:=h3.there HK2.out
  have h4:=h3.setV (m:=1) (t:=-1) HK2.out (by unfold Dk.i64;omega) (by unfold Dk.i64;omega)
  have d3:(w3.setCells l.vb (k*3) [.int .i64 1,.int .i64 (-1),.slice B (sv.length+L) D]).cell? ⟨b,2,none⟩=some (.slice (some ⟨l.vb,0,none⟩) (l.vs.set k ⟨1,-1,B,sv.length+L,D,sv++es⟩).length l.vC):=h4.box.cell 2
  rw [List.length_set] at d3
  have HL:Hid (∃ l':Dk.Lb σ,l'.st=l.st.tell es∧Dk.LB S0 W (w3.setCells l.vb (k*3) [.int .i64 1,.int .i64 (-1),.slice B (sv.length+L) D]) b l' us):=⟨_,by rw [HZ.out];exact Dk.Lb.zda l k _,h4.drop⟩
  refine ⟨_,rfl,c3,?_⟩
  simp only [zD]
  refine Dk.zj (v:=.pointer (some ⟨l.vb,k*3,none⟩)) rfl rfl (fun w' hw'=>by go_simp) ?_
  simp only [zD]
  refine Dk.zaq rfl rfl ?_
  refine wp_store_mid 55 _ _ rfl l.vb (k*3) #[.int .i64 1,.int .i64 (-1),.slice B (sv.length+L) D] rfl rfl ht2 zz (zah _ _ _ _ _) ?_
  refine ⟨?_,?_⟩
  ·exact d3
  simp only [zD]
  show NoPanic _ Exit.normal _ _
  refine NoPanic.normal ?_
  go_end0
  exact ⟨rfl,HL.out⟩
end
end Go.Proofs.YtpnajphbjfehnaaGreat
namespace Dk
open Go Go.RowKit
section
variable {σ : Type}
def Ls.pick (x:Ls σ) (k:Nat):Ls σ:={ x with lk:=false,rows:=pickR x.rows k,vs:=x.vs.set k (if pickB x.rows k=true then ⟨5,pickT x.rows k,[]⟩ else ⟨8,-1,[]⟩) }
def Ls.rest (x:Ls σ) (k:Nat):Ls σ:=if emptyR x.rows=true then x else x.setV k ⟨3,-1,[]⟩
def Ls.drop1 (x:Ls σ) (k:Nat):Ls σ:=x.setV k { x.at k with es:=(x.at k).es.tail }
def Ls.handle (x:Ls σ) (k:Nat):Ls σ:=match (x.at k).es with
 | []=>x.end_ k ⟨3,-1,[]⟩
 | e::_=>if e.runs=true then (x.drop1 k).come k [e.t] else x.drop1 k
theorem pick_rng {rs:List (List Int)} {p:Int} (h:∀ x ∈ rs.flatten,0≤x∧x < 16):(∀ x ∈ (pickR rs p).flatten,0≤x∧x < 16)∧(pickB rs p=true→0≤pickT rs p∧pickT rs p < 16):=by
 cases hb:pickB rs p with
 | true=>
  have hp:=ze5 hb
  exact ⟨fun x hx=>h x (hp.mem_iff.1 (List.mem_cons_of_mem _ hx)),fun _=>h _ (hp.mem_iff.1 (List.mem_cons_self ..))⟩
 | false=>
  have e:pickR rs p=rs:=by
   unfold pickB at hb
   unfold pickR
   cases hq:pickAt rs p with
   | none=>rfl
   | some q=>rw [hq] at hb;cases hb
  rw [e]
  exact ⟨h,fun e=>by cases e⟩
variable {S0 : Nat → σ → List Thing → Prop} {W w w' : World} {b : Nat} {l : Lb σ} {us : List Thing}
theorem LB.lit1 {x:Int} {e:TypeId} (h:LB S0 W w b l us) (ew:w'=w.alloc (.cells #[.int .i64 x] e)):LB S0 W w' b l (rowOf e 1 (.slice (some ⟨w.heap.size,0,none⟩) 1 1) 1 (is [x])::us):=
 h.onto (Sep.lit (n:=1) (s:=1) (Sep.begin (Below.refl w.heap.size w)) ew rfl rfl (by decide))
end
end Dk
namespace Go.Proofs.YtpnajphbjfehnaaGreat
open Go.RowKit Go.Lib
theorem zbu:(Tryz.prog.info? 59).map (·.size)=some 3:=by kernel_rfl
section
variable {σ : Type} {F : Dk.SpF σ} {S0 : Nat → σ → List Dk.Thing → Prop} {W w w' : World} {b : Nat} {l : Dk.Lb σ} {us : List Dk.Thing}
theorem pick_l (h:Dk.LB S0 W w b l us) {k:Nat} (hk:k < l.vs.length):Calls Tryz.prog 98 #[.pointer (some ⟨b,0,none⟩),.int .i64 (k:Int)] w fun e w'=>e=.returned (.tuple #[])∧∃ l':Dk.Lb σ,l'.st=l.st.pick k∧Dk.LB S0 W w' b l' us:=by
 have hn:=h.n64
 have c1:w.cell? ⟨b,1,none⟩=some (.pointer (some ⟨l.rb,0,none⟩)):=h.box.cell 1
 obtain ⟨us',hR,hF,hg,s1,back⟩:=h.rowsOut
 have K:=rowsR.pick hR s1 hF (by omega) (k:Int) (by unfold Dk.i64;omega)
 have hP:=Dk.pick_rng (p:=(k:Int)) hg
 have hF':=hF.pick (k:Int)
 have et:l.st.pick k={ l.st with lk:=false,rows:=Dk.pickR l.rows k,vs:=l.st.vs.set k (if Dk.pickB l.rows k=true then ⟨5,Dk.pickT l.rows k,[]⟩ else ⟨8,-1,[]⟩) }:=rfl
 rw [et]
 have HB:Hid _:=back
 have HP:Hid _:=hP
 have HF:Hid _:=hF'
 generalize Dk.pickR l.rows k=R at *
 generalize Dk.pickT l.rows k=T at *
 have HK:Hid _:=hk
 clear h hR hF hg s1 back hP hF' et hk
 cases hb:Dk.pickB l.rows (k:Int) with
 | true=>
  rw [hb] at K HP
  rw [if_pos rfl]
  go_enter Tryz.func98,Tryz.ntmps98
  go_wp2_with fail
  refine K.mono ?_
  rintro e w2 ⟨rfl,rts',hR',s2⟩
  have h2:=HB.out w2 R rts' hR' HF.out HP.out.1 s2
  have ht:=HP.out.2 trivial
  have HH:Hid (Dk.LB S0 W w2 b { l with rows:=R,rts:=rts' } us):=h2
  have hT:Dk.i64 T:=by unfold Dk.i64;omega
  have HT:Hid _:=hT
  clear K HB HP HF hR' s2 h2 hb ht hT
  go_wp2_with fail
  refine (zas 5 T w2).mono ?_
  rintro e w3 ⟨rfl,u3⟩
  have K2:=zd7 (m:=5) (t:=T) (Dk.LB.nilEv (Dk.LB.below HH.out u3)) HK.out (by unfold Dk.i64;omega) HT.out
  clear u3 HH HT HK
  go_wp2_with fail
  refine K2.mono ?_
  rintro e w4 ⟨rfl,l',hl',h4⟩
  have HL:Hid _:=And.intro hl' h4
  clear K2 hl' h4
  go_wp2_with fail
  go_end0
  exact ⟨rfl,l',HL.out.1,HL.out.2⟩
 | false=>
  rw [hb] at K
  rw [if_neg (by decide)]
  go_enter Tryz.func98,Tryz.ntmps98
  go_wp2_with fail
  refine K.mono ?_
  rintro e w2 ⟨rfl,rts',hR',s2⟩
  have h2:=HB.out w2 R rts' hR' HF.out HP.out.1 s2
  have HH:Hid (Dk.LB S0 W w2 b { l with rows:=R,rts:=rts' } us):=h2
  clear K HB HP HF hR' s2 h2 hb
  go_wp2_with fail
  refine (zas 8 (-1) w2).mono ?_
  rintro e w3 ⟨rfl,u3⟩
  have K2:=zd7 (m:=8) (t:=-1) (Dk.LB.nilEv (Dk.LB.below HH.out u3)) HK.out (by unfold Dk.i64;omega) (by unfold Dk.i64;omega)
  clear u3 HH HK
  go_wp2_with fail
  refine K2.mono ?_
  rintro e w4 ⟨rfl,l',hl',h4⟩
  have HL:Hid _:=And.intro hl' h4
  clear K2 hl' h4
  go_wp2_with fail
  go_end0
  exact ⟨rfl,l',HL.out.1,HL.out.2⟩
theorem rest_l (h:Dk.LB S0 W w b l us) {k:Nat} (hk:k < l.vs.length):Calls Tryz.prog 99 #[.pointer (some ⟨b,0,none⟩),.int .i64 (k:Int)] w fun e w'=>e=.returned (.tuple #[])∧∃ l':Dk.Lb σ,l'.st=l.st.rest k∧Dk.LB S0 W w' b l' us:=by
 have hn:=h.n64
 have c1:w.cell? ⟨b,1,none⟩=some (.pointer (some ⟨l.rb,0,none⟩)):=h.box.cell 1
 obtain ⟨us',hR,hF,hg,s1,back⟩:=h.rowsOut
 have K:=rowsR.empty hR s1 hF (by omega)
 have et:l.st.rest k=if Dk.emptyR l.rows=true then l.st else l.st.setV k ⟨3,-1,[]⟩:=rfl
 rw [et]
 have HB:Hid (∀ w' rts',Dk.R0 l.rb l.rows rts'→Dk.Sep W w' (us'++rts')→Dk.LB S0 W w' b { l with rows:=l.rows,rts:=rts' } us):=fun w' rts' q1 q2=>back w' l.rows rts' q1 hF hg q2
 have HK:Hid _:=hk
 have i1:(k:Int) < (l.vs.length:Int):=by omega
 clear h hR hF hg s1 back et hk
 cases hb:Dk.emptyR l.rows with
 | true=>
  rw [hb] at K
  rw [if_pos rfl]
  go_enter Tryz.func99,Tryz.ntmps99
  go_wp2_with fail
  refine K.mono ?_
  rintro e w2 ⟨rfl,rts',hR',s2⟩
  have HL:Hid (∃ l':Dk.Lb σ,l'.st=l.st∧Dk.LB S0 W w2 b l' us):=⟨{ l with rows:=l.rows,rts:=rts' },rfl,HB.out w2 rts' hR' s2⟩
  clear K HB hR' s2 hb
  go_wp2_with fail
  go_end0
  exact ⟨rfl,HL.out⟩
 | false=>
  rw [hb] at K
  rw [if_neg (by decide)]
  go_enter Tryz.func99,Tryz.ntmps99
  go_wp2_with fail
  refine K.mono ?_
  rintro e w2 ⟨rfl,rts',hR',s2⟩
  have h2:=HB.out w2 rts' hR' s2
  have hd:=h2.below (Dk.zm (Below.refl w2.heap.size w2))
  have c2:w2.drew.cell? ⟨b,2,none⟩=some (.slice (some ⟨l.vb,0,none⟩) l.vs.length l.vC):=hd.box.cell 2
  have HH:Hid (Dk.LB S0 W w2.drew b { l with rows:=l.rows,rts:=rts' } us):=hd
  have HC:Hid _:=c2
  clear K HB hR' s2 h2 hb c2 hd
  go_wp2_with fail
  refine Dk.zq (S:=fun w'=>w'.cell? ⟨b,2,none⟩=some (.slice (some ⟨l.vb,0,none⟩) l.vs.length l.vC)) [(true,0),(true,1),(true,2),(true,3),(true,4),(false,5),(true,6),(false,7)] (by kernel_rfl) (by kernel_rfl) (by kernel_rfl) rfl HC.out ?_
  iterate 5 (refine Dk.zj rfl rfl (fun w' hw'=>by go_simp;try rfl) ?_;simp only [zD])
  refine Dk.zad (f:=122) (args:=#[.int .i64 3,.int .i64 (-1)]) rfl rfl (by go_simp) ?_
  refine (zas 3 (-1) _).mono ?_
  rintro e w3 ⟨rfl,u3⟩
  have h3:=(Dk.LB.below HH.out u3).nilEv
  have c3:w3.cell? ⟨b,2,none⟩=some (.slice (some ⟨l.vb,0,none⟩) l.vs.length l.vC):=h3.box.cell 2
  have ht2:=h3.there HK.out
  have h4:=h3.setV (m:=3) (t:=-1) HK.out (by unfold Dk.i64;omega) (by unfold Dk.i64;omega)
  have d3:(w3.setCells l.vb (k*3) [.int .i64 3,.int .i64 (-1),.slice none 0 0]).cell? ⟨b,2,none⟩=some (.slice (some ⟨l.vb,0,none⟩) (l.vs.set k ⟨3,-1,none,0,0,[]⟩).length l.vC):=h4.box.cell 2
  rw [List.length_set] at d3
  have HL:Hid (∃ l':Dk.Lb σ,l'.st=l.st.setV k ⟨3,-1,[]⟩∧Dk.LB S0 W (w3.setCells l.vb (k*3) [.int .i64 3,.int .i64 (-1),.slice none 0 0]) b l' us):=⟨_,Dk.Lb.zda l k _,h4⟩
  refine ⟨_,rfl,c3,?_⟩
  simp only [zD]
  refine Dk.zj (v:=.pointer (some ⟨l.vb,k*3,none⟩)) rfl rfl (fun w' hw'=>by go_simp) ?_
  simp only [zD]
  refine Dk.zaq rfl rfl ?_
  refine wp_store_mid 55 _ _ rfl l.vb (k*3) #[.int .i64 3,.int .i64 (-1),.slice none 0 0] rfl rfl ht2 zz (zah _ _ _ _ _) ?_
  refine ⟨d3,?_⟩
  simp only [zD]
  show NoPanic _ Exit.normal _ _
  refine NoPanic.normal ?_
  clear h3 ht2 h4 d3 c3 HH HC HK u3
  go_end0
  exact ⟨rfl,HL.out⟩
theorem handle_l (h:Dk.LB S0 W w b l us) {k:Nat} (hk:k < l.vs.length) (hg:∀ e ∈ (l.vs.getD k Dk.Ve.zero).es,e.runs=true→0≤e.t∧e.t < 16):Calls Tryz.prog 96 #[.pointer (some ⟨b,0,none⟩),.int .i64 (k:Int)] w fun e w'=>e=.returned (.tuple #[])∧∃ l':Dk.Lb σ,l'.st=l.st.handle k∧Dk.LB S0 W w' b l' us:=by
 have c2:w.cell? ⟨b,2,none⟩=some (.slice (some ⟨l.vb,0,none⟩) l.vs.length l.vC):=h.box.cell 2
 obtain ⟨q0,q1,q2⟩:=h.vcell hk
 have hev:=h.ev hk
 have hn:=h.n64
 have i1:(k:Int) < (l.vs.length:Int):=by omega
 have et:l.st.handle k=match (l.vs.getD k Dk.Ve.zero).es with
  | []=>l.st.end_ k ⟨3,-1,[]⟩
  | e::_=>if e.runs=true then (l.st.drop1 k).come k [e.t] else l.st.drop1 k:=by unfold Dk.Ls.handle;rw [l.zaw];rfl
 rw [et]
 cases he:(l.vs.getD k Dk.Ve.zero).es with
 | nil=>
  dsimp only
  have hl:=hev.len
  rw [he] at hl
  rw [← hl] at q2
  have HH:Hid _:=h
  have HK:Hid _:=hk
  clear h hev et he hl hg hk
  go_enter Tryz.func96,Tryz.ntmps96
  go_wp2_with fail
  refine (zas 3 (-1) w).mono ?_
  rintro e w3 ⟨rfl,u3⟩
  have K2:=zd7 (m:=3) (t:=-1) (Dk.LB.nilEv (Dk.LB.below HH.out u3)) HK.out (by unfold Dk.i64;omega) (by unfold Dk.i64;omega)
  clear u3 HH HK
  go_wp2_with fail
  refine K2.mono ?_
  rintro e w4 ⟨rfl,l',hl',h4⟩
  have HL:Hid _:=And.intro hl' h4
  clear K2 hl' h4 q0 q1 q2 c2
  go_wp2_with fail
  exact bodyPost_ret (results_none rfl _ _ _) rfl ⟨rfl,l',HL.out.1,HL.out.2⟩
 | cons e r=>
  dsimp only
  have hge:=hg e (by rw [he];exact List.mem_cons_self ..)
  have hl:=hev.len
  rw [he] at hl
  have hcap:=hev.cap
  have hmx:=hev.max
  unfold maxLen at hmx
  obtain ⟨L,hL⟩:∃ L,(l.vs.getD k Dk.Ve.zero).L=L+1:=⟨r.length,by rw [← hl];rfl⟩
  obtain ⟨C,hC⟩:∃ C,(l.vs.getD k Dk.Ve.zero).C=C+1:=⟨(l.vs.getD k Dk.Ve.zero).C - 1,by omega⟩
  obtain ⟨g,o,hA,hgb,-,k0,k1,k2⟩:=hev.at (k:=0) (by omega)
  rw [he] at k0 k1 k2
  simp only [List.getD_cons_zero,Nat.zero_mul,Nat.add_zero] at k0 k1 k2
  obtain ⟨W1,e1⟩:∃ W,W=w.alloc (.cells #[.int .i64 0,.int .i64 0,.int .i64 0] 59):=⟨_,rfl⟩
  have h1:=h.newBox e1
  have b1:Dk.Box W1 w.heap.size #[.int .i64 0,.int .i64 0,.int .i64 0] 59:=h1.get (t:=Dk.boxOf _ _ _) (by simp)
  have h2:=Dk.LB.setRow (us1:=[]) h1 e.cells.toArray
  obtain ⟨W2,e2⟩:∃ W,W=W1.setRow w.heap.size e.cells.toArray:=⟨_,rfl⟩
  rw [← e2] at h2
  have h2c:W2.cell? ⟨b,2,none⟩=some (.slice (some ⟨l.vb,0,none⟩) l.vs.length l.vC):=h2.box.cell 2
  obtain ⟨p0,p1,p2⟩:=h2.vcell hk
  have f2:=h2.vbox.frozen (k*3+2)
  cases C with
  | zero=>
   have h3:=h2.setE (o':=o) hk hA hL hC (.inr ⟨by omega,rfl⟩)
   rw [hA,hL,hC] at q2 p2
   obtain ⟨W3,e3⟩:∃ W,W=W2.setCell ⟨l.vb,k*3+2,none⟩ (.slice (some ⟨g,o,none⟩) L 0):=⟨_,rfl⟩
   rw [← e3] at h3
   have b3:Dk.Box W3 w.heap.size e.cells.toArray 59:=h3.get (t:=Dk.boxOf _ _ _) (by simp)
   have d0:W3.cell? ⟨w.heap.size,0,none⟩=some (.int .i64 e.k):=b3.cell 0
   have d1:W3.cell? ⟨w.heap.size,1,none⟩=some (.int .i64 e.t):=b3.cell 1
   have d2:W3.cell? ⟨w.heap.size,2,none⟩=some (.int .i64 e.m):=b3.cell 2
   have es:Dk.Lb.st { l with vs:=l.vs.set k { l.vs.getD k Dk.Ve.zero with A:=some ⟨g,o,none⟩,L:=L,C:=0,es:=(l.vs.getD k Dk.Ve.zero).es.tail } }=l.st.drop1 k:=by
    rw [Dk.Lb.zda]
    unfold Dk.Ls.drop1
    rw [l.zaw]
    rfl
   have HB1:Hid _:=b1
   have H1:Hid _:=e1.symm
   have H2:Hid (W1.setRow w.heap.size #[.int .i64 e.k,.int .i64 e.t,.int .i64 e.m]=W2):=e2.symm
   have H3:Hid _:=e3.symm
   have HH:Hid _:=h3.drop
   have HE:Hid _:=es
   have KR:=fun w=>zdz e w
   have HG:Hid _:=hge
   have hn':k < 64:=by omega
   have hc':0+1≤9223372036854775807:=by omega
   clear h h1 h2 h3 e1 e2 e3 b1 b3 es hev et he hl hg hge
   obtain ⟨xk,xt,xm⟩:=e
   dsimp only at *
   generalize hr:Dk.Ev.runs ⟨xk,xt,xm⟩=rb at *
   clear hr
   go_enter Tryz.func96,Tryz.ntmps96
   go_wp2_with (first | (rw [H1.out];clear H1) | (refine wpList_store_row rfl 59 _ _ rfl w.heap.size #[.int .i64 xk,.int .i64 xt,.int .i64 xm] rfl rfl 59 _ HB1.out.heap zbu rfl (za6 _ _ _) ?_;rw [H2.out];clear H2 HB1) | (rw [H3.out];clear H3))
   refine (KR W3).mono ?_
   rintro e w4 ⟨rfl,u4⟩
   have h4:=Dk.LB.below HH.out u4
   cases rb with
   | true=>
    simp only [if_pos]
    have hge:=HG.out rfl
    obtain ⟨W5,e5⟩:∃ W,W=w4.alloc (.cells #[.int .i64 xt] 3):=⟨_,rfl⟩
    have h5:=h4.lit1 e5
    have K2:=zdl h5 (k:=k) (ts:=[xt]) hn' (List.mem_cons_self ..) rfl (fun t ht=>by rw [List.mem_singleton] at ht;subst ht;exact hge)
    have H5:Hid _:=e5.symm
    clear KR h4 h5 e5 hge HH u4 d0 d1 d2 q0 q1 q2 p0 p1 p2 c2 h2c k0 k1 k2
    go_wp2_with (first | (rw [H5.out];clear H5))
    refine K2.mono ?_
    rintro e w6 ⟨rfl,l',hl',h6⟩
    have HL:Hid (∃ l':Dk.Lb σ,l'.st=(l.st.drop1 k).come k [xt]∧Dk.LB S0 W w6 b l' us):=⟨l',by rw [hl',HE.out],h6.drop⟩
    clear K2 hl' h6 HE
    go_wp2_with fail
    go_end0
    exact ⟨rfl,HL.out⟩
   | false=>
    simp only [Bool.false_eq_true,if_false]
    have HL:Hid (∃ l':Dk.Lb σ,l'.st=l.st.drop1 k∧Dk.LB S0 W w4 b l' us):=⟨_,HE.out,h4⟩
    clear KR h4 HH u4 d0 d1 d2 q0 q1 q2 p0 p1 p2 c2 h2c k0 k1 k2
    go_wp2_with fail
    go_end0
    exact ⟨rfl,HL.out⟩
  | succ C=>
   have h3:=h2.setE (o':=o+3) hk hA hL hC (.inl rfl)
   rw [hA,hL,hC] at q2 p2
   obtain ⟨W3,e3⟩:∃ W,W=W2.setCell ⟨l.vb,k*3+2,none⟩ (.slice (some ⟨g,o+3,none⟩) L (C+1)):=⟨_,rfl⟩
   rw [← e3] at h3
   have b3:Dk.Box W3 w.heap.size e.cells.toArray 59:=h3.get (t:=Dk.boxOf _ _ _) (by simp)
   have d0:W3.cell? ⟨w.heap.size,0,none⟩=some (.int .i64 e.k):=b3.cell 0
   have d1:W3.cell? ⟨w.heap.size,1,none⟩=some (.int .i64 e.t):=b3.cell 1
   have d2:W3.cell? ⟨w.heap.size,2,none⟩=some (.int .i64 e.m):=b3.cell 2
   have es:Dk.Lb.st { l with vs:=l.vs.set k { l.vs.getD k Dk.Ve.zero with A:=some ⟨g,o+3,none⟩,L:=L,C:=(C+1),es:=(l.vs.getD k Dk.Ve.zero).es.tail } }=l.st.drop1 k:=by
    rw [Dk.Lb.zda]
    unfold Dk.Ls.drop1
    rw [l.zaw]
    rfl
   have HB1:Hid _:=b1
   have H1:Hid _:=e1.symm
   have H2:Hid (W1.setRow w.heap.size #[.int .i64 e.k,.int .i64 e.t,.int .i64 e.m]=W2):=e2.symm
   have H3:Hid _:=e3.symm
   have HH:Hid _:=h3.drop
   have HE:Hid _:=es
   have KR:=fun w=>zdz e w
   have HG:Hid _:=hge
   have hn':k < 64:=by omega
   have hc':(C+1)+1≤9223372036854775807:=by omega
   clear h h1 h2 h3 e1 e2 e3 b1 b3 es hev et he hl hg hge
   obtain ⟨xk,xt,xm⟩:=e
   dsimp only at *
   generalize hr:Dk.Ev.runs ⟨xk,xt,xm⟩=rb at *
   clear hr
   go_enter Tryz.func96,Tryz.ntmps96
   go_wp2_with (first | (rw [H1.out];clear H1) | (refine wpList_store_row rfl 59 _ _ rfl w.heap.size #[.int .i64 xk,.int .i64 xt,.int .i64 xm] rfl rfl 59 _ HB1.out.heap zbu rfl (za6 _ _ _) ?_;rw [H2.out];clear H2 HB1) | (rw [H3.out];clear H3))
   refine (KR W3).mono ?_
   rintro e w4 ⟨rfl,u4⟩
   have h4:=Dk.LB.below HH.out u4
   cases rb with
   | true=>
    simp only [if_pos]
    have hge:=HG.out rfl
    obtain ⟨W5,e5⟩:∃ W,W=w4.alloc (.cells #[.int .i64 xt] 3):=⟨_,rfl⟩
    have h5:=h4.lit1 e5
    have K2:=zdl h5 (k:=k) (ts:=[xt]) hn' (List.mem_cons_self ..) rfl (fun t ht=>by rw [List.mem_singleton] at ht;subst ht;exact hge)
    have H5:Hid _:=e5.symm
    clear KR h4 h5 e5 hge HH u4 d0 d1 d2 q0 q1 q2 p0 p1 p2 c2 h2c k0 k1 k2
    go_wp2_with (first | (rw [H5.out];clear H5))
    refine K2.mono ?_
    rintro e w6 ⟨rfl,l',hl',h6⟩
    have HL:Hid (∃ l':Dk.Lb σ,l'.st=(l.st.drop1 k).come k [xt]∧Dk.LB S0 W w6 b l' us):=⟨l',by rw [hl',HE.out],h6.drop⟩
    clear K2 hl' h6 HE
    go_wp2_with fail
    go_end0
    exact ⟨rfl,HL.out⟩
   | false=>
    simp only [Bool.false_eq_true,if_false]
    have HL:Hid (∃ l':Dk.Lb σ,l'.st=l.st.drop1 k∧Dk.LB S0 W w4 b l' us):=⟨_,HE.out,h4⟩
    clear KR h4 HH u4 d0 d1 d2 q0 q1 q2 p0 p1 p2 c2 h2c k0 k1 k2
    go_wp2_with fail
    go_end0
    exact ⟨rfl,HL.out⟩
end
end Go.Proofs.YtpnajphbjfehnaaGreat
