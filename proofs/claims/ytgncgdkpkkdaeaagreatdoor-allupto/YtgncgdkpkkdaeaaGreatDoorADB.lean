import Derived.Test.YtgncgdkpkkdaeaaGreatDoorADA
import Derived.StillTailTactics
set_option maxRecDepth 20000
set_option maxHeartbeats 4000000
namespace Go.Proofs.YtgncgdkpkkdaeaaGreatDoor
open Go.RowKit bu Go.Maps Go.Shelf
variable {aX:ByteArray} {e:Ending} {ke:List LE} {bY:Nat} {d:SD} {lv':Value} {w w' w1:World}
def VK(B bS g n cap:Nat)(G:List GS)(text:ByteArray)(ls:List LE)(work a an:Nat)(put:ByteArray)(w w':World):Prop:=
 aM (λk=>k=bS) w w'/\∃(aX:ByteArray) (lv':Value) (ke:List LE) (bY:Nat) (sF:List Nat),
  aX.data.toList=text.data.toList.take a++put.data.toList++text.data.toList.drop an/\bZ w' B bS g n cap aX lv' ke bY/\dZ G [0] (aF aX.data.toList) (ke.map LE.pr) sF /\
  work<=bY/\bY<=work+(1+put.data.toList.count 10+fE (ls.map LE.st) (ke.map LE.st) ((text.data.toList.drop an).count 10))/\bY<=work+3001
section
variable {w:World} {N B bX bS g n cap:Nat} {G:List GS} {text:ByteArray} {lv:Value} {ls:List LE} {work:Nat} {sE:List Nat}
theorem vR(h:bZ w B bS g n cap text lv ls work):Calls Tryz.prog 56 #[.pointer (some ⟨bS,0,none⟩)] w λe w'=>e=.returned (.string text)/\w'=w:=by have c1:w.cell? ⟨bS,1,none⟩=some (.string text):=ai h.sh rfl;go_enter Tryz.func56,Tryz.ntmps56;go_wp2_with fail;go_ret;exact ⟨rfl,rfl⟩
def RO(B bS g n cap:Nat)(G:List GS)(text:ByteArray)(ls:List LE)(work:Nat)(i:Int)(put:ByteArray)(w:World)(e:Ending)(w':World):Prop:=
 (¬(0<=i/\i<=text.size)/\e=.returned (.int .i64 8)/\w'=w)∨((0<=i/\i<=text.size)/\3000<text.size+put.size/\e=.returned (.int .i64 1)/\w'=w) ∨
  ∃a:Nat,i=a/\a<=text.size/\text.size+put.size<=3000/\e=.returned (.int .i64 0)/\VK B bS g n cap G text ls work a a put w w'
theorem FA(i:Int)(put:ByteArray)(eM:yq G)(lY:0<G.length)(hT:lC w)(h0:1 < N)(hG:∀w',Below N w w'->cd w' g n cap G)(hN:N<=B)(hM:Mx w)(BZ:0 < N)
  (h:bZ w B bS g n cap text lv ls work) (hx:w.heap[bX]?=some (.cells #[.pointer (some ⟨bS,0,none⟩)] 46 (0,0))) (hr:dZ G [0] (aF text.data.toList) (ls.map LE.pr) sE) (ub:work<=1000000000000000000):
  Calls Tryz.prog 41 #[.pointer (some ⟨bX,0,none⟩),.int .i64 i,.string put] w (RO B bS g n cap G text ls work i put w):=by
 have c0:=aA hx;have HC:=aa (uI bX bS w hx);have QA:=aa (vR h);have hz:=h.size;have J7:=aa (λ(a:Nat) (ha:a<=text.size) (hz:text.size+put.size<=3000)=>th N B bS g n cap G text lv ls work a 0 put sE w eM lY hT h0 hG hN hM BZ h hr ub (by omega) (by omega))
 have wz:IntKind.i64.wrap (3000 - (text.size:Int))=3000 - (text.size:Int):=by rw[IntKind.wrap_i64];omega
 clear h hx hr hT hG hM;by_cases h1:0<=i
 ·have g1:decide (i<0)=false:=bV (by omega);by_cases h2:i<=text.size
  ·have g2:decide ((text.size:Int)<i)=false:=bV (by omega);by_cases h3:text.size+put.size<=3000
   ·have g3:decide (3000 - (text.size:Int)<(put.size:Int))=false:=bV (by omega);obtain ⟨a,rfl⟩:∃a:Nat,i=a:=⟨i.toNat,by omega⟩;have HRQ:=aa (J7.out a (by omega) h3);go_enter Tryz.func41,Tryz.ntmps41;go_wp2_with fail;refine HC.out.mono ?_;rintro e w1 ⟨rfl,e1⟩;subst w1;go_wp2_with fail;refine QA.out.mono ?_
    rintro e w1 ⟨rfl,e1⟩;subst w1;go_wp2_with fail;refine HRQ.out.mono ?_;rintro e w1 ⟨rfl,BJ⟩;have HE:=aa BJ;clear BJ;go_wp2_with fail;go_ret;exact .inr (.inr ⟨a,rfl,by omega,h3,rfl,HE.out⟩)
   ·have g3:decide (3000 - (text.size:Int)<(put.size:Int))=true:=cF (by omega);clear J7;go_enter Tryz.func41,Tryz.ntmps41;go_wp2_with fail;refine HC.out.mono ?_;rintro e w1 ⟨rfl,e1⟩;subst w1;go_wp2_with fail;refine QA.out.mono ?_;rintro e w1 ⟨rfl,e1⟩;subst w1;go_wp2_with fail;go_ret;exact .inr (.inl ⟨⟨h1,h2⟩,by omega,rfl,rfl⟩)
  ·have g2:decide ((text.size:Int)<i)=true:=cF (by omega);clear J7;go_enter Tryz.func41,Tryz.ntmps41;go_wp2_with fail;refine HC.out.mono ?_;rintro e w1 ⟨rfl,e1⟩;subst w1;go_wp2_with fail;refine QA.out.mono ?_;rintro e w1 ⟨rfl,e1⟩;subst w1;go_wp2_with fail;go_ret;exact .inl ⟨λh=>by omega,rfl,rfl⟩
 ·have g1:decide (i<0)=true:=cF (by omega);clear J7;go_enter Tryz.func41,Tryz.ntmps41;go_wp2_with fail;refine HC.out.mono ?_;rintro e w1 ⟨rfl,e1⟩;subst w1;go_wp2_with fail;refine QA.out.mono ?_;rintro e w1 ⟨rfl,e1⟩;subst w1;go_wp2_with fail;go_ret;exact .inl ⟨λh=>by omega,rfl,rfl⟩
def RP(B bS g n cap:Nat)(G:List GS)(text:ByteArray)(ls:List LE)(work:Nat)(i m:Int)(w:World)(e:Ending)(w':World):Prop:=
 (¬(0<=m/\0<=i/\i<=text.size/\m<=text.size - i)/\e=.returned (.int .i64 8)/\w'=w) ∨
  ∃a k:Nat,i=a/\m=k/\a+k<=text.size/\e=.returned (.int .i64 0)/\VK B bS g n cap G text ls work a (a+k) ⟨#[]⟩ w w'
theorem FB(i m:Int)(eM:yq G)(lY:0<G.length)(hT:lC w)(h0:1 < N)(hG:∀w',Below N w w'->cd w' g n cap G)(hN:N<=B)(hM:Mx w)(BZ:0 < N)
  (h:bZ w B bS g n cap text lv ls work) (hx:w.heap[bX]?=some (.cells #[.pointer (some ⟨bS,0,none⟩)] 46 (0,0))) (hr:dZ G [0] (aF text.data.toList) (ls.map LE.pr) sE) (ub:work<=1000000000000000000):
  Calls Tryz.prog 42 #[.pointer (some ⟨bX,0,none⟩),.int .i64 i,.int .i64 m] w (RP B bS g n cap G text ls work i m w):=by
 have c0:=aA hx;have HC:=aa (uI bX bS w hx);have QA:=aa (vR h);have hz:=h.size;have J7:=aa (λ(a k:Nat) (ha:a+k<=text.size)=>th N B bS g n cap G text lv ls work a k ⟨#[]⟩ sE w eM lY hT h0 hG hN hM BZ h hr ub ha (by show text.size+0<=3000+k;omega));clear h hx hr hT hG hM;by_cases h0:0<=m
 ·have g0:decide (m<0)=false:=bV (by omega);by_cases h1:0<=i
  ·have g1:decide (i<0)=false:=bV (by omega);by_cases h2:i<=text.size
   ·have g2:decide ((text.size:Int)<i)=false:=bV (by omega);have wz:IntKind.i64.wrap ((text.size:Int) - i)=(text.size:Int) - i:=by rw[IntKind.wrap_i64];omega
    by_cases h3:m<=text.size - i
    ·have g3:decide ((text.size:Int) - i<m)=false:=bV (by omega);obtain ⟨a,rfl⟩:∃a:Nat,i=a:=⟨i.toNat,by omega⟩;obtain ⟨k,rfl⟩:∃k:Nat,m=k:=⟨m.toNat,by omega⟩;have HRQ:=aa (J7.out a k (by omega));go_enter Tryz.func42,Tryz.ntmps42;go_wp2_with fail;refine HC.out.mono ?_;rintro e w1 ⟨rfl,e1⟩;subst w1;go_wp2_with fail
     refine QA.out.mono ?_;rintro e w1 ⟨rfl,e1⟩;subst w1;go_wp2_with fail;refine HRQ.out.mono ?_;rintro e w1 ⟨rfl,BJ⟩;have HE:=aa BJ;clear BJ;go_wp2_with fail;go_ret;exact .inr ⟨a,k,rfl,rfl,by omega,rfl,HE.out⟩
    ·have g3:decide ((text.size:Int) - i<m)=true:=cF (by omega);clear J7;go_enter Tryz.func42,Tryz.ntmps42;go_wp2_with fail;refine HC.out.mono ?_;rintro e w1 ⟨rfl,e1⟩;subst w1;go_wp2_with fail;refine QA.out.mono ?_;rintro e w1 ⟨rfl,e1⟩;subst w1;go_wp2_with fail;go_ret;exact .inl ⟨λh=>by omega,rfl,rfl⟩
   ·have g2:decide ((text.size:Int)<i)=true:=cF (by omega);clear J7;go_enter Tryz.func42,Tryz.ntmps42;go_wp2_with fail;refine HC.out.mono ?_;rintro e w1 ⟨rfl,e1⟩;subst w1;go_wp2_with fail;refine QA.out.mono ?_;rintro e w1 ⟨rfl,e1⟩;subst w1;go_wp2_with fail;go_ret;exact .inl ⟨λh=>by omega,rfl,rfl⟩
  ·have g1:decide (i<0)=true:=cF (by omega);clear J7;go_enter Tryz.func42,Tryz.ntmps42;go_wp2_with fail;refine HC.out.mono ?_;rintro e w1 ⟨rfl,e1⟩;subst w1;go_wp2_with fail;refine QA.out.mono ?_;rintro e w1 ⟨rfl,e1⟩;subst w1;go_wp2_with fail;go_ret;exact .inl ⟨λh=>by omega,rfl,rfl⟩
 ·have g0:decide (m<0)=true:=cF (by omega);clear J7;go_enter Tryz.func42,Tryz.ntmps42;go_wp2_with fail;refine HC.out.mono ?_;rintro e w1 ⟨rfl,e1⟩;subst w1;go_wp2_with fail;refine QA.out.mono ?_;rintro e w1 ⟨rfl,e1⟩;subst w1;go_wp2_with fail;go_ret;exact .inl ⟨λh=>by omega,rfl,rfl⟩
end
structure CW(w:World)(d:SD)(aX:ByteArray)(lv':Value)(ke:List LE)(bY:Nat):Prop where
 cell:w.heap[d.bD]?=some (.cells #[.pointer (some ⟨d.bX,0,none⟩),.pointer (some ⟨d.P,0,none⟩),.string d.text,d.vo,d.vs,.int .i64 d.work] 89 (0,0))
 tx:w.heap[d.bX]?=some (.cells #[.pointer (some ⟨d.bS,0,none⟩)] 46 (0,0))
 sheet:bZ w d.B d.bS d.g d.n d.cap aX lv' ke bY
 old:qp w d.vo d.es
 few:d.es.length<=3001
 runs:∃st,dZ d.G [0] (aF aX.data.toList) (ke.map LE.pr) st
 ib:∀w',Below d.N w w'->cd w' d.g d.n d.cap d.G
 rg:∀w',Below d.N w w'->RG w' d.Br d.P d.gr d.nr d.cr d.ss
 hN:d.N<=w.heap.size
 hD:d.N<=d.bD
 same:yu d.G d.ss
 ok:yq d.G
 pos:0<d.G.length
theorem CW.below(h:CW w d aX lv' ke bY)(hb:Below w.heap.size w w'):CW w' d aX lv' ke bY:=by
 have key:∀(t:TypeId) (k:Nat) c,w.heap[k]?=some (.cells c t (0,0))->w'.heap[k]?=some (.cells c t (0,0)):=λt k c hh=>(hb.block k (ae hh)).trans hh
 exact ⟨key _ _ _ h.cell,key _ _ _ h.tx,h.sheet.below hb,h.old.below hb,h.few,h.runs,λw2 hb2=>h.ib w2 ((hb.mono h.hN).trans hb2),λw2 hb2=>h.rg w2 ((hb.mono h.hN).trans hb2),bJ h.hN hb.size,h.hD,h.same,h.ok,h.pos⟩
def px(w:World)(d:SD)(aX:ByteArray)(lv':Value)(ke:List LE)(bY:Nat)(e:Ending)(w':World):Prop:=
 e=.returned (.bool true)/\aM (λk=>k=d.bD) w w'/\∃(vo vs:Value) (es:List RE),cP w' { d with text:=aX,lv:=lv',vo:=vo,vs:=vs,ls:=ke,es:=es,work:=bY }/\∀k,vs.ownBlock=some k->w.heap.size<=k
theorem vS(w:World)(d:SD)(aX:ByteArray)(lv':Value)(ke:List LE)(bY:Nat)(put:ByteArray)(b:Nat)(h:CW w d aX lv' ke bY)(hB:d.B<=w.heap.size)(hb1:b<=d.es.length)(hb2:b<=ke.length)(hpz:put.size<=1000000000)
  (ub:bY<=2000000000000000000) (QB:d.work<=bY) (FC:bY<=d.work+(1+put.data.toList.count 10+fE (d.es.map RE.st) (ke.map LE.st) b)):
  Calls Tryz.prog 66 #[.pointer (some ⟨d.bD,0,none⟩),.string aX,.string put,.int .i64 b] w (px w d aX lv' ke bY):=by
 have c1:w.cell? ⟨d.bD,1,none⟩=some (.pointer (some ⟨d.P,0,none⟩)):=ai h.cell rfl;have HST:=aa (oB d.Br d.P d.gr d.nr d.cr d.ss d.G aX w (h.rg w (Below.refl _ _)) h.same h.ok h.pos h.sheet.size);have HP:=aa h;clear h;go_enter Tryz.func66,Tryz.ntmps66;go_wp2_with fail;refine HST.out.mono ?_
 rintro e w1 ⟨vo,vs,es,st3,rfl,M2,hs3,L1,hr3,VL⟩;have h1:=HP.out.below VL;obtain ⟨oo,oc,LZ⟩:=aC M2;obtain ⟨so,sc,zK⟩:=aC hs3;subst LZ;subst zK;obtain ⟨po,pc,hpo⟩:=aC h1.old.row;obtain ⟨ps,TW⟩:∃ps,ps=d.vs:=⟨_,rfl⟩;have hag:ke.map LE.pr=es.map λe=>(e.st,e.bh):=by obtain ⟨_,hr⟩:=h1.runs;exact (hr.dz hr3).1
 have Zx:ke.map LE.st=es.map RE.st:=by have:=congrArg (List.map (·.1)) hag;rw[List.map_map,List.map_map]at this;exact this
 have hlen:ke.length=es.length:=by have:=congrArg List.length hag;simpa using this
 have cE:∀e∈es,e.st.length<=8:=λe he=>by have hg:Good d.G [0]:=⟨⟨by simp,by simp⟩,λx hx=>by rw[List.mem_singleton.1 hx];exact h1.pos⟩;exact (hr3.good h1.ok hg (e.st,e.bh) (List.mem_map.2 ⟨e,he,rfl⟩)).1.2
 have hel:es.length<=3001:=by have h2:=hr3.length;rw[fy,aT]at h2;have h3:=List.count_le_length (a:=(10:UInt8)) (l:=aX.data.toList);rw[aj]at h3;have:=h1.sheet.size;omega
 have rS:qp w1 (.slice oo es.length oc) es:=⟨dB M2 (Nat.zero_le _),λe he=>⟨(L1 e he).1,cE e he⟩⟩;rw[Zx]at FC;rw[hlen]at hb2;obtain ⟨mn,TX⟩:∃mn,mn=1+put.data.toList.count 10+fE (d.es.map RE.st) (es.map RE.st) b:=⟨_,rfl⟩;rw[<-TX]at FC
 have VI:mn<=1000010000:=by have h2:=CV (d.es.map RE.st) (es.map RE.st) b;have h3:=List.count_le_length (a:=(10:UInt8)) (l:=put.data.toList);rw[aj]at h3;omega
 have HMO:=aa (λW' (hb:Below w1.heap.size w1 W')=>NK W' d.vo (.slice oo es.length oc) d.es es put b (h1.old.below hb) (rS.below hb) hb1 hb2 (by have:=h1.few;omega) (by omega) hpz);rw[<-TX]at HMO;obtain ⟨ne,hne⟩:∃ne,ne=es.length:=⟨_,rfl⟩;obtain ⟨nd,hnd⟩:∃nd,nd=d.es.length:=⟨_,rfl⟩;have JK:=aa (pg h1.sheet h1.tx)
 have z0:w1.cell? ⟨d.bD,0,none⟩=some (.pointer (some ⟨d.bX,0,none⟩)):=ai h1.cell rfl;have z3:w1.cell? ⟨d.bD,3,none⟩=some (.slice po nd pc):=by rw[hnd,<-hpo];exact ai h1.cell rfl
 have z5:w1.cell? ⟨d.bD,5,none⟩=some (.int .i64 d.work):=ai h1.cell rfl;have q1:decide ((d.work:Int)<=(bY:Int))=true:=cF (by omega);have q2:decide ((bY:Int)<=(d.work:Int)+(mn:Int))=true:=cF (by omega);have ww:IntKind.i64.wrap ((d.work:Int)+(mn:Int))=(d.work:Int)+(mn:Int):=by rw[IntKind.wrap_i64];omega
 have TY:=aa (And.intro M2 (And.intro hs3 (And.intro L1 hr3)));have gD:=aa h1;have Zy:=aa VL;rw[hpo,<-hne,<-hnd]at HMO;rw[<-hne];have Rw:=aa hne;clear M2 hs3 L1 hr3 h1 VL hag Zx hlen cE rS TX VI hne hnd hpo HST c1 FC;go_wp2_with fail;refine JK.out.mono ?_;rintro e w2 ⟨rfl,e2⟩;subst w2;clear JK;go_wp2_with fail
 go_region_held3 (λw'=>w'.cell? ⟨d.bD,5,none⟩=some (.int .i64 d.work)/\w'.cell? ⟨d.bD,3,none⟩=some (.slice po nd pc))
  (first
   | with_reducible exact k5
   | with_reducible exact k3
   | go_keep)
  (first|(go_at_call 89;refine (HMO.out _ (Below.refl _ _).drew).mono ?_;clear HMO;rintro e W2 ⟨rfl,qq⟩;have k5:=ax (w:=w1.drew) z5 qq;have k3:=ax (w:=w1.drew) z3 qq;have cW:=aa qq;clear qq))
 all_goals
  have zW:Below w1.heap.size w1 W2:=⟨cW.out.os,cW.out.tape,cW.out.output,cW.out.size,cW.out.block⟩;have h2:=gD.out.below zW;have L3:=h2.cell;have y2:W2.cell? ⟨d.bD,2,none⟩=some (.string d.text):=ai L3 rfl;have y2f:W2.frozen? ⟨d.bD,2,none⟩=false:=by simp[World.frozen?,L3]
  obtain ⟨W3,hW3⟩:∃W3,W2.setCell ⟨d.bD,2,none⟩ (.string aX)=W3:=⟨_,rfl⟩;have sU:W3.heap[d.bD]?=some (.cells #[.pointer (some ⟨d.bX,0,none⟩),.pointer (some ⟨d.P,0,none⟩),.string aX,d.vo,d.vs,.int .i64 d.work] 89 (0,0)):=by rw[<-hW3];simpa using ah W2 d.bD 2 (.string aX) L3
  have o3:aM (λk=>k=d.bD) W2 W3:=by rw[<-hW3];exact aM.setCell (Y:=λk=>k=d.bD) (p:=⟨d.bD,2,none⟩) rfl L3 (by decide) _
  have y3:W3.cell? ⟨d.bD,3,none⟩=some d.vo:=ai sU rfl;have y3f:W3.frozen? ⟨d.bD,3,none⟩=false:=by simp[World.frozen?,sU]
  obtain ⟨W4,QC⟩:∃W4,W3.setCell ⟨d.bD,3,none⟩ (.slice oo ne oc)=W4:=⟨_,rfl⟩;have yz:W4.heap[d.bD]?=some (.cells #[.pointer (some ⟨d.bX,0,none⟩),.pointer (some ⟨d.P,0,none⟩),.string aX,.slice oo ne oc,d.vs,.int .i64 d.work] 89 (0,0)):=by rw[<-QC];simpa using ah W3 d.bD 3 (.slice oo ne oc) sU
  have o4:aM (λk=>k=d.bD) W2 W4:=o3.trans (by rw[<-QC];exact aM.setCell (Y:=λk=>k=d.bD) (p:=⟨d.bD,3,none⟩) rfl sU (by decide) _);have y4:W4.cell? ⟨d.bD,4,none⟩=some d.vs:=ai yz rfl;have y4f:W4.frozen? ⟨d.bD,4,none⟩=false:=by simp[World.frozen?,yz]
  obtain ⟨W5,Zk⟩:∃W5,W4.setCell ⟨d.bD,4,none⟩ (.slice so ne sc)=W5:=⟨_,rfl⟩;have M3:W5.heap[d.bD]?=some (.cells #[.pointer (some ⟨d.bX,0,none⟩),.pointer (some ⟨d.P,0,none⟩),.string aX,.slice oo ne oc,.slice so ne sc,.int .i64 d.work] 89 (0,0)):=by rw[<-Zk];simpa using ah W4 d.bD 4 (.slice so ne sc) yz
  have o5:aM (λk=>k=d.bD) W2 W5:=o4.trans (by rw[<-Zk];exact aM.setCell (Y:=λk=>k=d.bD) (p:=⟨d.bD,4,none⟩) rfl yz (by decide) _);have y5:W5.cell? ⟨d.bD,5,none⟩=some (.int .i64 d.work):=ai M3 rfl;have y5f:W5.frozen? ⟨d.bD,5,none⟩=false:=by simp[World.frozen?,M3]
  obtain ⟨W6,hW6⟩:∃W6,W5.setCell ⟨d.bD,5,none⟩ (.int .i64 bY)=W6:=⟨_,rfl⟩;have Vb:W6.heap[d.bD]?=some (.cells #[.pointer (some ⟨d.bX,0,none⟩),.pointer (some ⟨d.P,0,none⟩),.string aX,.slice oo ne oc,.slice so ne sc,.int .i64 bY] 89 (0,0)):=by rw[<-hW6];simpa using ah W5 d.bD 5 (.int .i64 bY) M3
  have o6:aM (λk=>k=d.bD) W2 W6:=o5.trans (by rw[<-hW6];exact aM.setCell (Y:=λk=>k=d.bD) (p:=⟨d.bD,5,none⟩) rfl M3 (by decide) _)
  have aq:=aa (show px w d aX lv' ke bY (.returned (.bool true)) W6 from by
   have abU:Below w.heap.size w W2:=Zy.out.trans (zW.mono Zy.out.size);have ow6:aM (λk=>k=d.bD) w W6:=(aM.ay abU).trans o6;obtain ⟨M2,hs3,L1,hr3⟩:=TY.out;have hNE:=Rw.out
   have Zz:∀w',Below d.N W6 w'->Below d.N W2 w':=λw' hb=>⟨hb.os.trans o6.os,hb.tape.trans o6.tape,hb.output.trans o6.output,bJ o6.size hb.size,λk hk=>(hb.block k hk).trans (o6.keep k ⟨dw hk h2.hN,by have:=h2.hD;show ¬k=d.bD;omega⟩)⟩
   have rk:∀{e:TypeId} {size:Nat} {v:Value} {m:Nat} {xs:List Value},w1.ownsRow w.heap.size e size v m xs->e≠89->W6.ownsRow d.B e size v m xs:=λhrow he=>pZ (bq (dB hrow hB) λk c hh=>(zW.block k (ae hh)).trans hh) o6 L3 he
   refine ⟨rfl,ow6,.slice oo ne oc,.slice so ne sc,es,⟨Vb,gU o6 L3 h2.tx (by decide),h2.sheet.Va o6 L3,?_,?_,λe he=>⟨((L1 e he).1.below zW).keep λc fz hh=>gU o6 L3 hh (by decide),rk (L1 e he).2.1 (by decide),(L1 e he).2.2⟩,h2.runs,⟨st3,hr3⟩,λw' hb=>h2.ib w' (Zz w' hb),λw' hb=>h2.rg w' (Zz w' hb),bJ h2.hN o6.size,h2.same,h2.ok,h2.pos⟩,λk hk=>(ar hs3 (by rw[hNE]at hk;exact hk)).1⟩
   ·show W6.ownsRow _ _ _ _ es.length _;rw[hNE];exact rk M2 (by decide)
   ·show W6.ownsRow _ _ _ _ es.length _;rw[hNE];exact rk hs3 (by decide))
  clear zW h2 L3 sU yz M3 Vb o3 o4 o5 o6 z0 z3 z5 HP gD TY;go_wp2_with fail;go_ret;exact aq.out
theorem IB{P:Program}{id:Nat}{Q:Exit->Act->World->Prop}{a:Act}{l:List Oper}(n:Nat)(hm:P.follows .mixedOrders=true)(hB:Region.lexTailB .any l.toArray n=true)
  (h:wpStill P l.toArray w.drew (λa'=>wpList P l.toArray Q (l.drop n) a' w.drew) (l.take n) a):(Code.region id l.toArray true).wp P Q a w:=wp_region_still_tail n hm hB h
structure dN(w:World)(d:SD):Prop where
 is:cP w d
 tab:lC w
 mx:Mx w
 h0:1 < d.N
 hM:0 < d.N
 hN:d.N<=d.B
 hD:d.B<=d.bD
 hX:d.B<=d.bX
theorem dN.below(h:dN w d)(hb:Below w.heap.size w w'):dN w' d:=⟨h.is.below hb,h.tab.below hb,h.mx.below hb,h.h0,h.hM,h.hN,h.hD,h.hX⟩
def cC(w:World)(d:SD)(e:Ending)(w':World):Prop:=
 e=.returned (.bool true)/\Below d.B w w'/\aM (λk=>k=d.bS∨k=d.bD) w w'/\∃d':SD,dN w' d'/\(d'.B=d.B/\d'.bD=d.bD/\d'.work<=d.work+3001)/\d'.bS=d.bS/\(d'.vs=d.vs∨∀k,d'.vs.ownBlock=some k->w.heap.size<=k)
theorem cP.lt(h:cP w d):d.B<=w.heap.size:=by have:=ae h.sheet.sh;have:=h.sheet.base;omega
theorem cC.still(h:dN w d)(hb:Below w.heap.size w w'):cC w d (.returned (.bool true)) w':=
 ⟨rfl,hb.mono h.is.lt,aM.ay hb,d,h.below hb,⟨rfl,rfl,Nat.le_add_right _ _⟩,rfl,.inl rfl⟩
theorem cP.sts(h:cP w d):d.ls.map LE.st=d.es.map RE.st:=by have:=congrArg (List.map (·.1)) h.agree;rw[List.map_map,List.map_map]at this;exact this
theorem dN.edited(h:dN w d){a an:Nat}{put:ByteArray}(he:VK d.B d.bS d.g d.n d.cap d.G d.text d.ls d.work a an put w w1):
  ∃(aX:ByteArray) (lv':Value) (ke:List LE) (bY:Nat),aX.data.toList=d.text.data.toList.take a++put.data.toList++d.text.data.toList.drop an/\CW w1 d aX lv' ke bY/\d.B<=w1.heap.size /\
   (d.text.data.toList.drop an).count 10<=d.es.length/\(d.text.data.toList.drop an).count 10<=ke.length/\d.work<=bY/\bY<=d.work+3001 /\
   bY<=d.work+(1+put.data.toList.count 10+fE (d.es.map RE.st) (ke.map LE.st) ((d.text.data.toList.drop an).count 10))/\aM (λk=>k=d.bS) w w1:=by
 obtain ⟨o,aX,lv',ke,bY,sF,ht,hs,hr,h1,h2,h3⟩:=he;have hi:=h.is;have hS:=hi.sheet.sh;have rq:∀w',Below d.N w1 w'->Below d.N w w':=λw' hb=>⟨hb.os.trans o.os,hb.tape.trans o.tape,hb.output.trans o.output,bJ o.size hb.size,λk hk=>(hb.block k hk).trans (o.keep k ⟨by have:=hi.hN;omega,by have:=h.hN;have:=hi.sheet.base;show ¬k=d.bS;omega⟩)⟩
 have key:∀(t:TypeId) (k:Nat) c fz,t≠134->w.heap[k]?=some (.cells c t fz)->w1.heap[k]?=some (.cells c t fz):=λt k c fz ht hh=>gU o hS hh ht
 have cE:∀e∈d.es,e.st.length<=8:=λe he=>by obtain ⟨_,JD⟩:=hi.Rc;have hg:Good d.G [0]:=⟨⟨by simp,by simp⟩,λx hx=>by rw[List.mem_singleton.1 hx];exact hi.pos⟩;exact (JD.good hi.ok hg (e.st,e.bh) (List.mem_map.2 ⟨e,he,rfl⟩)).1.2
 have hl:=hi.len;have hl2:=hr.length;rw[fy,aT,ht,List.count_append,List.count_append]at hl2;have iF:d.ls.length=1+d.text.data.toList.count 10:=by obtain ⟨_,JD⟩:=hi.runs;have:=JD.length;rw[fy,aT]at this;exact this
 have hcd:(d.text.data.toList.drop an).count 10<=d.text.data.toList.count 10:=by
  conv=>rhs;rw[<-List.take_append_drop an d.text.data.toList,List.count_append]
  omega
 refine ⟨aX,lv',ke,bY,ht,⟨key _ _ _ _ (by decide) hi.cell,key _ _ _ _ (by decide) hi.tx,hs,⟨bq (dB hi.pX (Nat.zero_le _)) (λk c=>key _ k c _ (by decide)),λe he=>⟨(hi.each e he).1.keep λc fz=>key _ _ c fz (by decide),cE e he⟩⟩,by omega,⟨sF,hr⟩,λw' hb=>hi.ib w' (rq w' hb),λw' hb=>hi.rg w' (rq w' hb),bJ hi.hN o.size,bJ h.hN h.hD,hi.same,hi.ok,hi.pos⟩,bJ hi.lt o.size,by omega,by omega,h1,h3,?_,o⟩
 rw[<-hi.sts];exact h2
theorem dN.behind{w2:World}(h:dN w d)(o:aM (λk=>k=d.bS) w w1)(hp:px w1 d aX lv' ke bY e w2)(hw:bY<=d.work+3001):e=.returned (.bool true)/\cC w d (.returned (.bool true)) w2:=by
 obtain ⟨rfl,o2,vo,vs,es,hs,hv⟩:=hp;have hB:=h.is.sheet.base
 have hb:Below d.B w w2:=⟨o2.os.trans o.os,o2.tape.trans o.tape,o2.output.trans o.output,bJ o.size o2.size,λk hk=>by
  have eY:k<w.heap.size:=by have:=h.is.lt;omega
  exact (o2.keep k ⟨dw eY o.size,by have:=h.hD;show ¬k=d.bD;omega⟩).trans (o.keep k ⟨eY,by show ¬k=d.bS;omega⟩)⟩
 refine ⟨rfl,rfl,hb,(o.sub λk _ e=>.inl e).trans (o2.sub λk _ e=>.inr e),_,⟨hs,h.tab.keep (hb.block _ (by have:=h.h0;have:=h.hN;omega)),?_,h.h0,h.hM,h.hN,h.hD,h.hX⟩,⟨rfl,rfl,hw⟩,rfl,.inr λk hk=>bJ o.size (hv k hk)⟩;obtain ⟨m,hm⟩:=h.mx;exact ⟨m,(World.cell?_of_block (hb.block 0 (by have:=h.hM;have:=h.hN;omega))).trans hm⟩
theorem vT(w:World)(d:SD)(i:Int)(put:ByteArray)(h:dN w d)(ub:d.work<=1000000000000000000)(hpz:put.size<=1000000000000000000):
  Calls Tryz.prog 38 #[.pointer (some ⟨d.bD,0,none⟩),.int .i64 i,.string put] w (cC w d):=by
 have c0:w.cell? ⟨d.bD,0,none⟩=some (.pointer (some ⟨d.bX,0,none⟩)):=ai h.is.cell rfl;have c2:w.cell? ⟨d.bD,2,none⟩=some (.string d.text):=ai h.is.cell rfl;obtain ⟨sE,ZA⟩:=h.is.runs;have kE:=aa (FA i put h.is.ok h.is.pos h.tab h.h0 h.is.ib h.hN h.mx h.hM h.is.sheet h.is.tx ZA ub);have HS:=aa h;have hz:=h.is.sheet.size
 have wz:IntKind.i64.wrap ((d.text.size:Int)+(put.size:Int))=(d.text.size:Int)+(put.size:Int):=by rw[IntKind.wrap_i64];omega
 clear h ZA;go_enter Tryz.func38,Tryz.ntmps38;go_wp2_with fail;refine kE.out.mono ?_;rintro e w1 (⟨hi,rfl,e1⟩|⟨hi,hl,rfl,e1⟩|⟨a,rfl,ha,hl,rfl,he⟩)
 ·subst w1;have jm:=aa (dp 8 w);have uv:=aa (jX w d HS.out.is);by_cases h1:i<0
  ·have g1:decide (i<0)=true:=cF h1;go_wp2_with fail;refine jm.out.mono ?_;rintro e w1 ⟨rfl,e1⟩;subst w1;clear jm;go_wp2_with fail;refine uv.out.mono ?_;rintro e w2 ⟨rfl,hb2⟩;have aq:=aa (cC.still HS.out hb2);clear uv hb2;go_wp2_with fail;go_ret;exact aq.out
  ·have g1:decide (i<0)=false:=bV h1;have g2:decide ((d.text.size:Int)<i)=true:=cF (by omega);go_wp2_with fail;refine jm.out.mono ?_;rintro e w1 ⟨rfl,e1⟩;subst w1;clear jm;go_wp2_with fail;refine uv.out.mono ?_;rintro e w2 ⟨rfl,hb2⟩;have aq:=aa (cC.still HS.out hb2);clear uv hb2;go_wp2_with fail;go_ret;exact aq.out
 ·subst w1;have jm:=aa (dp 1 w);have uv:=aa (jX w d HS.out.is);have g1:decide (i<0)=false:=bV (by omega);have g2:decide ((d.text.size:Int)<i)=false:=bV (by omega);have g3:decide (3000<(d.text.size:Int)+(put.size:Int))=true:=cF (by omega);go_wp2_with fail;refine jm.out.mono ?_;rintro e w1 ⟨rfl,e1⟩;subst w1;clear jm;go_wp2_with fail
  refine uv.out.mono ?_;rintro e w2 ⟨rfl,hb2⟩;have aq:=aa (cC.still HS.out hb2);clear uv hb2;go_wp2_with fail;go_ret;exact aq.out
 ·have g1:decide ((a:Int)<0)=false:=bV (by omega);have g2:decide ((d.text.size:Int)<(a:Int))=false:=bV (by omega);have g3:decide (3000<(d.text.size:Int)+(put.size:Int))=false:=bV (by omega);obtain ⟨aX,lv',ke,bY,jo,rB,ZB,hb1,hb2,QB,hmx,FC,ho⟩:=HS.out.edited he;have z2:w1.cell? ⟨d.bD,2,none⟩=some (.string d.text):=ai rB.cell rfl
  obtain ⟨b,hb⟩:∃b,b=(d.text.data.toList.drop a).count 10:=⟨_,rfl⟩;rw[<-hb]at hb1 hb2 FC
  have abV:d.text.extract 0 a++put++d.text.extract a d.text.size=aX:=WideShapes.bytes_inj (by rw[jo];rw[ByteArray.data_append,ByteArray.data_append,Array.toList_append,Array.toList_append,aQ,aQ,List.take_of_length_le (l:=d.text.data.toList.drop a) (by rw[List.length_drop,aj];omega)];simp)
  have HED:=aa (λW (hb:Below w1.heap.size w1 W)=>vS W d aX lv' ke bY put b (rB.below hb) (bJ ZB hb.size) hb1 hb2 (by omega) (by omega) QB FC)
  have py:=aa (λW=>show Calls Tryz.prog 67 #[.string (d.text.extract a d.text.size)] W (λe w'=>e=.returned (.int .i64 b)/\w'=W) from by
   have h:=CT (d.text.extract a d.text.size) W (by have h1:=congrArg List.length (aQ d.text a d.text.size);rw[aj,List.length_take,List.length_drop,aj]at h1;omega);rw[aQ,List.take_of_length_le (by rw[List.length_drop,aj];omega),<-hb]at h;exact h)
  have HO:=aa ho;have HMX:=aa hmx;have jm:=aa (λW=>dp 0 W);clear he jo rB ZB hb1 hb2 QB FC hmx ho hb kE c0 c2;go_wp2_with fail;have hmx:Tryz.prog.follows .mixedOrders=true:=by kernel_rfl
  have hc1:¬9223372036854775807<a+put.size:=by omega
  have hc2:¬9223372036854775807<a+put.size+(d.text.size - a):=by omega
  refine IB 24 hmx (by kernel_rfl) ?_;simp only[List.take_succ_cons,List.take_zero,List.drop_succ_cons,List.drop_zero]
  repeat still_step
  still_call (py.out _)
  refine wpStill_nil ?_;go_wp2_with fail;refine (HED.out _ (Below.refl _ _).drew).mono ?_;rintro e w4 hp;obtain ⟨rfl,hst⟩:=HS.out.behind (HO.out.trans (aM.ay (Below.refl _ _).drew)) hp HMX.out;have HST:=aa hst;clear hst hp;go_wp2_with fail;refine (jm.out _).mono ?_;rintro e w5 ⟨rfl,e5⟩;subst w5;go_wp2_with fail;go_ret;exact HST.out
theorem vU(w:World)(d:SD)(i m:Int)(h:dN w d)(ub:d.work<=1000000000000000000):
  Calls Tryz.prog 39 #[.pointer (some ⟨d.bD,0,none⟩),.int .i64 i,.int .i64 m] w (cC w d):=by
 have c0:w.cell? ⟨d.bD,0,none⟩=some (.pointer (some ⟨d.bX,0,none⟩)):=ai h.is.cell rfl;have c2:w.cell? ⟨d.bD,2,none⟩=some (.string d.text):=ai h.is.cell rfl;obtain ⟨sE,ZA⟩:=h.is.runs;have kE:=aa (FB i m h.is.ok h.is.pos h.tab h.h0 h.is.ib h.hN h.mx h.hM h.is.sheet h.is.tx ZA ub);have HS:=aa h;have hz:=h.is.sheet.size;clear h ZA
 go_enter Tryz.func39,Tryz.ntmps39;go_wp2_with fail;refine kE.out.mono ?_;rintro e w1 (⟨hi,rfl,e1⟩|⟨a,k,rfl,rfl,L4,rfl,he⟩)
 ·subst w1;have jm:=aa (dp 8 w);have uv:=aa (jX w d HS.out.is);by_cases h0:m<0
  ·have g0:decide (m<0)=true:=cF h0;go_wp2_with fail;refine jm.out.mono ?_;rintro e w1 ⟨rfl,e1⟩;subst w1;clear jm;go_wp2_with fail;refine uv.out.mono ?_;rintro e w2 ⟨rfl,hb2⟩;have aq:=aa (cC.still HS.out hb2);clear uv hb2;go_wp2_with fail;go_ret;exact aq.out
  ·have g0:decide (m<0)=false:=bV h0;by_cases h1:i<0
   ·have g1:decide (i<0)=true:=cF h1;go_wp2_with fail;refine jm.out.mono ?_;rintro e w1 ⟨rfl,e1⟩;subst w1;clear jm;go_wp2_with fail;refine uv.out.mono ?_;rintro e w2 ⟨rfl,hb2⟩;have aq:=aa (cC.still HS.out hb2);clear uv hb2;go_wp2_with fail;go_ret;exact aq.out
   ·have g1:decide (i<0)=false:=bV h1;by_cases h2:(d.text.size:Int)<i
    ·have g2:decide ((d.text.size:Int)<i)=true:=cF h2;go_wp2_with fail;refine jm.out.mono ?_;rintro e w1 ⟨rfl,e1⟩;subst w1;clear jm;go_wp2_with fail;refine uv.out.mono ?_;rintro e w2 ⟨rfl,hb2⟩;have aq:=aa (cC.still HS.out hb2);clear uv hb2;go_wp2_with fail;go_ret;exact aq.out
    ·have g2:decide ((d.text.size:Int)<i)=false:=bV h2;have wz:IntKind.i64.wrap ((d.text.size:Int) - i)=(d.text.size:Int) - i:=by rw[IntKind.wrap_i64];omega
     have g3:decide ((d.text.size:Int) - i<m)=true:=cF (by omega);go_wp2_with fail;refine jm.out.mono ?_;rintro e w1 ⟨rfl,e1⟩;subst w1;clear jm;go_wp2_with fail;refine uv.out.mono ?_;rintro e w2 ⟨rfl,hb2⟩;have aq:=aa (cC.still HS.out hb2);clear uv hb2;go_wp2_with fail;go_ret;exact aq.out
 ·have g0:decide ((k:Int)<0)=false:=bV (by omega);have g1:decide ((a:Int)<0)=false:=bV (by omega);have g2:decide ((d.text.size:Int)<(a:Int))=false:=bV (by omega);have wz:IntKind.i64.wrap ((d.text.size:Int) - (a:Int))=(d.text.size:Int) - (a:Int):=by rw[IntKind.wrap_i64];omega
  have g3:decide ((d.text.size:Int) - (a:Int)<(k:Int))=false:=bV (by omega);obtain ⟨an,Vz⟩:∃an,an=a+k:=⟨_,rfl⟩;rw[<-Vz]at he;have wa:IntKind.i64.wrap ((a:Int)+(k:Int))=(an:Int):=by rw[IntKind.wrap_i64];omega
  have abN:an<=d.text.size:=by omega
  obtain ⟨aX,lv',ke,bY,jo,rB,ZB,hb1,hb2,QB,hmx,FC,ho⟩:=HS.out.edited he;have z2:w1.cell? ⟨d.bD,2,none⟩=some (.string d.text):=ai rB.cell rfl;obtain ⟨b,hb⟩:∃b,b=(d.text.data.toList.drop an).count 10:=⟨_,rfl⟩;rw[<-hb]at hb1 hb2 FC
  have abV:d.text.extract 0 a++d.text.extract an d.text.size=aX:=WideShapes.bytes_inj (by rw[jo,ByteArray.data_append,Array.toList_append,aQ,aQ,List.take_of_length_le (l:=d.text.data.toList.drop an) (by rw[List.length_drop,aj];omega)];simp)
  have HED:=aa (λW (hb:Below w1.heap.size w1 W)=>vS W d aX lv' ke bY ⟨#[]⟩ b (rB.below hb) (bJ ZB hb.size) hb1 hb2 (by decide) (by omega) QB FC)
  have py:=aa (λW=>show Calls Tryz.prog 67 #[.string (d.text.extract an d.text.size)] W (λe w'=>e=.returned (.int .i64 b)/\w'=W) from by
   have h:=CT (d.text.extract an d.text.size) W (by have h1:=congrArg List.length (aQ d.text an d.text.size);rw[aj,List.length_take,List.length_drop,aj]at h1;omega);rw[aQ,List.take_of_length_le (by rw[List.length_drop,aj];omega),<-hb]at h;exact h)
  have HO:=aa ho;have HMX:=aa hmx;have jm:=aa (λW=>dp 0 W);clear he jo rB ZB hb1 hb2 QB FC hmx ho hb kE c0 c2 Vz;go_wp2_with fail;have hmx:Tryz.prog.follows .mixedOrders=true:=by kernel_rfl
  have hc1:¬9223372036854775807<a+(d.text.size - an):=by omega
  refine IB 25 hmx (by kernel_rfl) ?_;simp only[List.take_succ_cons,List.take_zero,List.drop_succ_cons,List.drop_zero]
  repeat still_step
  still_call (py.out _)
  refine wpStill_nil ?_;go_wp2_with fail;refine (HED.out _ (Below.refl _ _).drew).mono ?_;rintro e w4 hp;obtain ⟨rfl,hst⟩:=HS.out.behind (HO.out.trans (aM.ay (Below.refl _ _).drew)) hp HMX.out;have HST:=aa hst;clear hst hp;go_wp2_with fail;refine (jm.out _).mono ?_;rintro e w5 ⟨rfl,e5⟩;subst w5;go_wp2_with fail;go_ret;exact HST.out
theorem cC.from{W0:World}(h:cC W0 d e w')(hb:Below w.heap.size w W0)(hl:d.B<=w.heap.size):cC w d e w':=by obtain ⟨h1,h2,h3,d',h4,h5,h6,h7⟩:=h;exact ⟨h1,(hb.mono hl).trans h2,(aM.ay hb).trans h3,d',h4,h5,h6,h7.imp id λh k hk=>bJ hb.size (h k hk)⟩
theorem NL(w:World)(d:SD)(kd k a b:Int)(tx more:ByteArray)(h:dN w d)(ub:d.work<=1000000000000000000)(VA:tx.size<=1000000000000000000):
  Calls Tryz.prog 14 #[.pointer (some ⟨d.bD,0,none⟩),.agg #[.int .i64 kd,.int .i64 k,.int .i64 a,.int .i64 b,.string tx,.string more]] w (cC w d):=by
 obtain ⟨W0,hW0⟩:∃W0,w.alloc (.cells #[.int .i64 kd,.int .i64 k,.int .i64 a,.int .i64 b,.string tx,.string more] 33)=W0:=⟨_,rfl⟩;have hb0:Below w.heap.size w W0:=by rw[<-hW0];exact cq _ _
 have h0:=h.below hb0;have hc:=ag w (.cells #[.int .i64 kd,.int .i64 k,.int .i64 a,.int .i64 b,.string tx,.string more] 33);rw[hW0]at hc;have z0:W0.cell? ⟨w.heap.size,0,none⟩=some (.int .i64 kd):=ai hc rfl;have z2:W0.cell? ⟨w.heap.size,2,none⟩=some (.int .i64 a):=ai hc rfl;have z3:W0.cell? ⟨w.heap.size,3,none⟩=some (.int .i64 b):=ai hc rfl
 have z4:W0.cell? ⟨w.heap.size,4,none⟩=some (.string tx):=ai hc rfl;have HI:=aa (vT W0 d a tx h0 ub VA);have HRM:=aa (vU W0 d a b h0 ub);have L0:=aa (kL W0 d a h0.is);have RQ:=aa (jN W0 d a h0.is);have HWF:=aa (yy W0 d false h0.is);have HWT:=aa (yy W0 d true h0.is)
 have HF:=aa (λe w' (hp:cC W0 d e w')=>hp.from hb0 h.is.lt);have HST:=aa (λw' (hb:Below W0.heap.size W0 w')=>(cC.still h0 hb).from hb0 h.is.lt);clear h h0 hb0 hc;go_enter Tryz.func14,Tryz.ntmps14;go_wp2_with fail
 ·refine HI.out.mono ?_;rintro e w2 hp;have aq:=aa (HF.out e w2 hp);obtain ⟨rfl,-⟩:=hp;go_wp2_with fail;go_ret;exact aq.out
 ·refine HRM.out.mono ?_;rintro e w2 hp;have aq:=aa (HF.out e w2 hp);obtain ⟨rfl,-⟩:=hp;go_wp2_with fail;go_ret;exact aq.out
 ·refine L0.out.mono ?_;rintro e w2 ⟨hb2,v,bh,rfl,-⟩;have aq:=aa (HST.out w2 hb2);clear hb2;go_wp2_with fail;go_ret;exact aq.out
 ·refine RQ.out.mono ?_;rintro e w2 ⟨hb2,v,dx,rfl,-⟩;have aq:=aa (HST.out w2 hb2);clear hb2;go_wp2_with fail;go_ret;exact aq.out
 ·refine HWF.out.mono ?_;rintro e w2 ⟨rfl,hb2⟩;have aq:=aa (HST.out w2 hb2);clear hb2;go_wp2_with fail;go_ret;exact aq.out
 ·refine HWT.out.mono ?_;rintro e w2 ⟨rfl,hb2⟩;have aq:=aa (HST.out w2 hb2);clear hb2;go_wp2_with fail;go_ret;exact aq.out
 ·have aq:=aa (HST.out W0 (Below.refl _ _));go_ret;exact aq.out
def RR(w:World)(sb of:Nat):Prop:=∃(kd k a b:Int) (tx more:ByteArray),(tx.size<=reachBytes/\more.size<=reachBytes/\(Lit.int .i64 k).wf=true/\(Lit.int .i64 a).wf=true)/\w.cell? ⟨sb,of,none⟩=some (.int .i64 kd)/\w.cell? ⟨sb,of+1,none⟩=some (.int .i64 k)/\w.cell? ⟨sb,of+2,none⟩=some (.int .i64 a)/\w.cell? ⟨sb,of+3,none⟩=some (.int .i64 b)/\w.cell? ⟨sb,of+4,none⟩=some (.string tx)/\w.cell? ⟨sb,of+5,none⟩=some (.string more)
def Cv(w:World)(v:Value)(n:Nat):Prop:=n<=100000000000000/\∃(ao:Option Addr) (c:Nat),v=.slice ao n c/\∀j,j<n->∃sb of,ao=some ⟨sb,of,none⟩/\RR w sb (of+j*6)
theorem RR.below{sb of:Nat}(h:RR w sb of)(hb:Below w.heap.size w w'):RR w' sb of:=by obtain ⟨kd,k,a,b,tx,more,h0,h1,h2,h3,h4,h5,h6⟩:=h;exact ⟨kd,k,a,b,tx,more,h0,ax h1 hb,ax h2 hb,ax h3 hb,ax h4 hb,ax h5 hb,ax h6 hb⟩
end Go.Proofs.YtgncgdkpkkdaeaaGreatDoor
