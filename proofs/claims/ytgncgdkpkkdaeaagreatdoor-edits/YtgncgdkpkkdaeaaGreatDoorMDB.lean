import Derived.Test.YtgncgdkpkkdaeaaGreatDoorMDA
import Derived.Test.YtgncgdkpkkdaeaaGreatDoorM8
import Derived.StillTailTactics
namespace Go.Proofs.YtgncgdkpkkdaeaaGreatDoor
open Go.RowKit aO Go.Maps Go.Shelf
variable {aW:ByteArray} {e:Ending} {jI:List LE} {bN:Nat} {d:SD} {lv':Value} {w w' w1:World}
def UQ(B bS g n cap:Nat)(G:List GS)(text:ByteArray)(ls:List LE)(work a an:Nat)(put:ByteArray)(w w':World):Prop:=
 aK (λk=>k=bS) w w'/\∃(aW:ByteArray) (lv':Value) (jI:List LE) (bN:Nat) (sF:List Nat),
  aW.data.toList=text.data.toList.take a++put.data.toList++text.data.toList.drop an/\bQ w' B bS g n cap aW lv' jI bN/\dz G [0] (aB aW.data.toList) (jI.map LE.pr) sF /\
  work<=bN/\bN<=work+(1+put.data.toList.count 10+eX (ls.map LE.st) (jI.map LE.st) ((text.data.toList.drop an).count 10))/\bN<=work+3001
section
variable {w:World} {N B bX bS g n cap:Nat} {G:List GS} {text:ByteArray} {lv:Value} {ls:List LE} {work:Nat} {sE:List Nat}
theorem uS(h:bQ w B bS g n cap text lv ls work):Calls Tryz.prog 56 #[.pointer (some ⟨bS,0,none⟩)] w λe w'=>e=.returned (.string text)/\w'=w:=by have c1:w.cell? ⟨bS,1,none⟩=some (.string text):=ag h.sh rfl;go_enter Tryz.func56,Tryz.ntmps56;go_wp2_with fail;go_ret;exact ⟨rfl,rfl⟩
def QM(B bS g n cap:Nat)(G:List GS)(text:ByteArray)(ls:List LE)(work:Nat)(i:Int)(put:ByteArray)(w:World)(e:Ending)(w':World):Prop:=
 (¬(0<=i/\i<=text.size)/\e=.returned (.int .i64 8)/\w'=w)∨((0<=i/\i<=text.size)/\3000<text.size+put.size/\e=.returned (.int .i64 1)/\w'=w) ∨
  ∃a:Nat,i=a/\a<=text.size/\text.size+put.size<=3000/\e=.returned (.int .i64 0)/\UQ B bS g n cap G text ls work a a put w w'
set_option maxRecDepth 20000 in
set_option maxHeartbeats 1000000 in
theorem EH(i:Int)(put:ByteArray)(dZ:xD G)(qA:0<G.length)(hT:kK w)(h0:1 < N)(hG:∀w',Below N w w'->bR w' g n cap G)(hN:N<=B)(hM:Mx w)(A8:0 < N)
  (h:bQ w B bS g n cap text lv ls work) (hx:w.heap[bX]?=some (.cells #[.pointer (some ⟨bS,0,none⟩)] 46 (0,0))) (hr:dz G [0] (aB text.data.toList) (ls.map LE.pr) sE) (uP:work<=1000000000000000000):
  Calls Tryz.prog 41 #[.pointer (some ⟨bX,0,none⟩),.int .i64 i,.string put] w (QM B bS g n cap G text ls work i put w):=by
 have c0:=ay hx;have HC:=aa (tU bX bS w hx);have PL:=aa (uS h);have hz:=h.size;have Ji:=aa (λ(a:Nat) (ha:a<=text.size) (hz:text.size+put.size<=3000)=>rX N B bS g n cap G text lv ls work a 0 put sE w dZ qA hT h0 hG hN hM A8 h hr uP (by omega) (by omega))
 have wz:IntKind.i64.wrap (3000 - (text.size:Int))=3000 - (text.size:Int):=by rw[IntKind.wrap_i64];omega
 clear h hx hr hT hG hM;by_cases h1:0<=i
 ·have g1:decide (i<0)=false:=decide_eq_false (by omega);by_cases h2:i<=text.size
  ·have g2:decide ((text.size:Int)<i)=false:=decide_eq_false (by omega);by_cases h3:text.size+put.size<=3000
   ·have g3:decide (3000 - (text.size:Int)<(put.size:Int))=false:=decide_eq_false (by omega);obtain ⟨a,rfl⟩:∃a:Nat,i=a:=⟨i.toNat,by omega⟩;have HRQ:=aa (Ji.out a (by omega) h3);go_enter Tryz.func41,Tryz.ntmps41;go_wp2_with fail;refine HC.out.mono ?_;rintro e w1 ⟨rfl,e1⟩;subst w1;go_wp2_with fail;refine PL.out.mono ?_
    rintro e w1 ⟨rfl,e1⟩;subst w1;go_wp2_with fail;refine HRQ.out.mono ?_;rintro e w1 ⟨rfl,AJ⟩;have HE:=aa AJ;clear AJ;go_wp2_with fail;go_ret;exact .inr (.inr ⟨a,rfl,by omega,h3,rfl,HE.out⟩)
   ·have g3:decide (3000 - (text.size:Int)<(put.size:Int))=true:=decide_eq_true (by omega);clear Ji;go_enter Tryz.func41,Tryz.ntmps41;go_wp2_with fail;refine HC.out.mono ?_;rintro e w1 ⟨rfl,e1⟩;subst w1;go_wp2_with fail;refine PL.out.mono ?_;rintro e w1 ⟨rfl,e1⟩;subst w1;go_wp2_with fail;go_ret;exact .inr (.inl ⟨⟨h1,h2⟩,by omega,rfl,rfl⟩)
  ·have g2:decide ((text.size:Int)<i)=true:=decide_eq_true (by omega);clear Ji;go_enter Tryz.func41,Tryz.ntmps41;go_wp2_with fail;refine HC.out.mono ?_;rintro e w1 ⟨rfl,e1⟩;subst w1;go_wp2_with fail;refine PL.out.mono ?_;rintro e w1 ⟨rfl,e1⟩;subst w1;go_wp2_with fail;go_ret;exact .inl ⟨λh=>by omega,rfl,rfl⟩
 ·have g1:decide (i<0)=true:=decide_eq_true (by omega);clear Ji;go_enter Tryz.func41,Tryz.ntmps41;go_wp2_with fail;refine HC.out.mono ?_;rintro e w1 ⟨rfl,e1⟩;subst w1;go_wp2_with fail;refine PL.out.mono ?_;rintro e w1 ⟨rfl,e1⟩;subst w1;go_wp2_with fail;go_ret;exact .inl ⟨λh=>by omega,rfl,rfl⟩
def QN(B bS g n cap:Nat)(G:List GS)(text:ByteArray)(ls:List LE)(work:Nat)(i m:Int)(w:World)(e:Ending)(w':World):Prop:=
 (¬(0<=m/\0<=i/\i<=text.size/\m<=text.size - i)/\e=.returned (.int .i64 8)/\w'=w) ∨
  ∃a k:Nat,i=a/\m=k/\a+k<=text.size/\e=.returned (.int .i64 0)/\UQ B bS g n cap G text ls work a (a+k) ⟨#[]⟩ w w'
set_option maxRecDepth 20000 in
set_option maxHeartbeats 1000000 in
theorem EI(i m:Int)(dZ:xD G)(qA:0<G.length)(hT:kK w)(h0:1 < N)(hG:∀w',Below N w w'->bR w' g n cap G)(hN:N<=B)(hM:Mx w)(A8:0 < N)
  (h:bQ w B bS g n cap text lv ls work) (hx:w.heap[bX]?=some (.cells #[.pointer (some ⟨bS,0,none⟩)] 46 (0,0))) (hr:dz G [0] (aB text.data.toList) (ls.map LE.pr) sE) (uP:work<=1000000000000000000):
  Calls Tryz.prog 42 #[.pointer (some ⟨bX,0,none⟩),.int .i64 i,.int .i64 m] w (QN B bS g n cap G text ls work i m w):=by
 have c0:=ay hx;have HC:=aa (tU bX bS w hx);have PL:=aa (uS h);have hz:=h.size;have Ji:=aa (λ(a k:Nat) (ha:a+k<=text.size)=>rX N B bS g n cap G text lv ls work a k ⟨#[]⟩ sE w dZ qA hT h0 hG hN hM A8 h hr uP ha (by show text.size+0<=3000+k;omega));clear h hx hr hT hG hM;by_cases h0:0<=m
 ·have g0:decide (m<0)=false:=decide_eq_false (by omega);by_cases h1:0<=i
  ·have g1:decide (i<0)=false:=decide_eq_false (by omega);by_cases h2:i<=text.size
   ·have g2:decide ((text.size:Int)<i)=false:=decide_eq_false (by omega);have wz:IntKind.i64.wrap ((text.size:Int) - i)=(text.size:Int) - i:=by rw[IntKind.wrap_i64];omega
    by_cases h3:m<=text.size - i
    ·have g3:decide ((text.size:Int) - i<m)=false:=decide_eq_false (by omega);obtain ⟨a,rfl⟩:∃a:Nat,i=a:=⟨i.toNat,by omega⟩;obtain ⟨k,rfl⟩:∃k:Nat,m=k:=⟨m.toNat,by omega⟩;have HRQ:=aa (Ji.out a k (by omega));go_enter Tryz.func42,Tryz.ntmps42;go_wp2_with fail;refine HC.out.mono ?_;rintro e w1 ⟨rfl,e1⟩;subst w1;go_wp2_with fail
     refine PL.out.mono ?_;rintro e w1 ⟨rfl,e1⟩;subst w1;go_wp2_with fail;refine HRQ.out.mono ?_;rintro e w1 ⟨rfl,AJ⟩;have HE:=aa AJ;clear AJ;go_wp2_with fail;go_ret;exact .inr ⟨a,k,rfl,rfl,by omega,rfl,HE.out⟩
    ·have g3:decide ((text.size:Int) - i<m)=true:=decide_eq_true (by omega);clear Ji;go_enter Tryz.func42,Tryz.ntmps42;go_wp2_with fail;refine HC.out.mono ?_;rintro e w1 ⟨rfl,e1⟩;subst w1;go_wp2_with fail;refine PL.out.mono ?_;rintro e w1 ⟨rfl,e1⟩;subst w1;go_wp2_with fail;go_ret;exact .inl ⟨λh=>by omega,rfl,rfl⟩
   ·have g2:decide ((text.size:Int)<i)=true:=decide_eq_true (by omega);clear Ji;go_enter Tryz.func42,Tryz.ntmps42;go_wp2_with fail;refine HC.out.mono ?_;rintro e w1 ⟨rfl,e1⟩;subst w1;go_wp2_with fail;refine PL.out.mono ?_;rintro e w1 ⟨rfl,e1⟩;subst w1;go_wp2_with fail;go_ret;exact .inl ⟨λh=>by omega,rfl,rfl⟩
  ·have g1:decide (i<0)=true:=decide_eq_true (by omega);clear Ji;go_enter Tryz.func42,Tryz.ntmps42;go_wp2_with fail;refine HC.out.mono ?_;rintro e w1 ⟨rfl,e1⟩;subst w1;go_wp2_with fail;refine PL.out.mono ?_;rintro e w1 ⟨rfl,e1⟩;subst w1;go_wp2_with fail;go_ret;exact .inl ⟨λh=>by omega,rfl,rfl⟩
 ·have g0:decide (m<0)=true:=decide_eq_true (by omega);clear Ji;go_enter Tryz.func42,Tryz.ntmps42;go_wp2_with fail;refine HC.out.mono ?_;rintro e w1 ⟨rfl,e1⟩;subst w1;go_wp2_with fail;refine PL.out.mono ?_;rintro e w1 ⟨rfl,e1⟩;subst w1;go_wp2_with fail;go_ret;exact .inl ⟨λh=>by omega,rfl,rfl⟩
end
structure B6(w:World)(d:SD)(aW:ByteArray)(lv':Value)(jI:List LE)(bN:Nat):Prop where
 cell:w.heap[d.bD]?=some (.cells #[.pointer (some ⟨d.bX,0,none⟩),.pointer (some ⟨d.P,0,none⟩),.string d.text,d.vo,d.vs,.int .i64 d.work] 89 (0,0))
 tx:w.heap[d.bX]?=some (.cells #[.pointer (some ⟨d.bS,0,none⟩)] 46 (0,0))
 sheet:bQ w d.B d.bS d.g d.n d.cap aW lv' jI bN
 old:pJ w d.vo d.es
 few:d.es.length<=3001
 runs:∃st,dz d.G [0] (aB aW.data.toList) (jI.map LE.pr) st
 gD:∀w',Below d.N w w'->bR w' d.g d.n d.cap d.G
 rg:∀w',Below d.N w w'->RG w' d.Br d.P d.gr d.nr d.cr d.ss
 hN:d.N<=w.heap.size
 hD:d.N<=d.bD
 same:xF d.G d.ss
 ok:xD d.G
 pos:0<d.G.length
theorem B6.below(h:B6 w d aW lv' jI bN)(hb:Below w.heap.size w w'):B6 w' d aW lv' jI bN:=by
 have key:∀(t:TypeId) (k:Nat) c,w.heap[k]?=some (.cells c t (0,0))->w'.heap[k]?=some (.cells c t (0,0)):=λt k c hh=>(hb.block k (ae hh)).trans hh
 exact ⟨key _ _ _ h.cell,key _ _ _ h.tx,h.sheet.below hb,h.old.below hb,h.few,h.runs,λw2 hb2=>h.gD w2 ((hb.mono h.hN).trans hb2),λw2 hb2=>h.rg w2 ((hb.mono h.hN).trans hb2),Nat.le_trans h.hN hb.size,h.hD,h.same,h.ok,h.pos⟩
def oC(w:World)(d:SD)(aW:ByteArray)(lv':Value)(jI:List LE)(bN:Nat)(e:Ending)(w':World):Prop:=
 e=.returned (.bool true)/\aK (λk=>k=d.bD) w w'/\∃(vo vs:Value) (es:List RE),cF w' { d with text:=aW,lv:=lv',vo:=vo,vs:=vs,ls:=jI,es:=es,work:=bN }/\∀k,vs.ownBlock=some k->w.heap.size<=k
set_option maxRecDepth 20000 in
set_option maxHeartbeats 4000000 in
theorem uT(w:World)(d:SD)(aW:ByteArray)(lv':Value)(jI:List LE)(bN:Nat)(put:ByteArray)(b:Nat)(h:B6 w d aW lv' jI bN)(hB:d.B<=w.heap.size)(hb1:b<=d.es.length)(hb2:b<=jI.length)(hpz:put.size<=1000000000)
  (uP:bN<=2000000000000000000) (PM:d.work<=bN) (EJ:bN<=d.work+(1+put.data.toList.count 10+eX (d.es.map RE.st) (jI.map LE.st) b)):
  Calls Tryz.prog 66 #[.pointer (some ⟨d.bD,0,none⟩),.string aW,.string put,.int .i64 b] w (oC w d aW lv' jI bN):=by
 have c1:w.cell? ⟨d.bD,1,none⟩=some (.pointer (some ⟨d.P,0,none⟩)):=ag h.cell rfl;have HST:=aa (nG d.Br d.P d.gr d.nr d.cr d.ss d.G aW w (h.rg w (Below.refl _ _)) h.same h.ok h.pos h.sheet.size);have HP:=aa h;clear h;go_enter Tryz.func66,Tryz.ntmps66;go_wp2_with fail;refine HST.out.mono ?_
 rintro e w1 ⟨vo,vs,es,st3,rfl,Mf,hs3,Lb,hr3,UR⟩;have h1:=HP.out.below UR;obtain ⟨oo,oc,La⟩:=aC Mf;obtain ⟨so,sc,yQ⟩:=aC hs3;subst La;subst yQ;obtain ⟨po,pc,hpo⟩:=aC h1.old.row;obtain ⟨ps,S7⟩:∃ps,ps=d.vs:=⟨_,rfl⟩;have hag:jI.map LE.pr=es.map λe=>(e.st,e.bc):=by obtain ⟨_,hr⟩:=h1.runs;exact (hr.cX hr3).1
 have YN:jI.map LE.st=es.map RE.st:=by have:=congrArg (List.map (·.1)) hag;rw[List.map_map,List.map_map]at this;exact this
 have hlen:jI.length=es.length:=by have:=congrArg List.length hag;simpa using this
 have cq:∀e∈es,e.st.length<=8:=λe he=>by have hg:Good d.G [0]:=⟨⟨by simp,by simp⟩,λx hx=>by rw[List.mem_singleton.1 hx];exact h1.pos⟩;exact (hr3.good h1.ok hg (e.st,e.bc) (List.mem_map.2 ⟨e,he,rfl⟩)).1.2
 have hel:es.length<=3001:=by have h2:=hr3.length;rw[List.length_map,aS]at h2;have h3:=List.count_le_length (a:=(10:UInt8)) (l:=aW.data.toList);rw[ah]at h3;have:=h1.sheet.size;omega
 have qV:pJ w1 (.slice oo es.length oc) es:=⟨dn Mf (Nat.zero_le _),λe he=>⟨(Lb e he).1,cq e he⟩⟩;rw[YN]at EJ;rw[hlen]at hb2;obtain ⟨mn,S8⟩:∃mn,mn=1+put.data.toList.count 10+eX (d.es.map RE.st) (es.map RE.st) b:=⟨_,rfl⟩;rw[<-S8]at EJ
 have hmz:mn<=1000010000:=by have h2:=B5 (d.es.map RE.st) (es.map RE.st) b;have h3:=List.count_le_length (a:=(10:UInt8)) (l:=put.data.toList);rw[ah]at h3;omega
 have HMO:=aa (λW' (hb:Below w1.heap.size w1 W')=>MP W' d.vo (.slice oo es.length oc) d.es es put b (h1.old.below hb) (qV.below hb) hb1 hb2 (by have:=h1.few;omega) (by omega) hpz);rw[<-S8]at HMO;obtain ⟨ne,hne⟩:∃ne,ne=es.length:=⟨_,rfl⟩;obtain ⟨nd,hnd⟩:∃nd,nd=d.es.length:=⟨_,rfl⟩;have IZ:=aa (ox h1.sheet h1.tx)
 have z0:w1.cell? ⟨d.bD,0,none⟩=some (.pointer (some ⟨d.bX,0,none⟩)):=ag h1.cell rfl;have z3:w1.cell? ⟨d.bD,3,none⟩=some (.slice po nd pc):=by rw[hnd,<-hpo];exact ag h1.cell rfl
 have z5:w1.cell? ⟨d.bD,5,none⟩=some (.int .i64 d.work):=ag h1.cell rfl;have q1:decide ((d.work:Int)<=(bN:Int))=true:=decide_eq_true (by omega);have q2:decide ((bN:Int)<=(d.work:Int)+(mn:Int))=true:=decide_eq_true (by omega);have ww:IntKind.i64.wrap ((d.work:Int)+(mn:Int))=(d.work:Int)+(mn:Int):=by rw[IntKind.wrap_i64];omega
 have S9:=aa (And.intro Mf (And.intro hs3 (And.intro Lb hr3)));have gH:=aa h1;have YO:=aa UR;rw[hpo,<-hne,<-hnd]at HMO;rw[<-hne];have QA:=aa hne;clear Mf hs3 Lb hr3 h1 UR hag YN hlen cq qV S8 hmz hne hnd hpo HST c1 EJ;go_wp2_with fail;refine IZ.out.mono ?_;rintro e w2 ⟨rfl,e2⟩;subst w2;clear IZ;go_wp2_with fail
 go_region_held3 (λw'=>w'.cell? ⟨d.bD,5,none⟩=some (.int .i64 d.work)/\w'.cell? ⟨d.bD,3,none⟩=some (.slice po nd pc))
  (first
   | with_reducible exact k5
   | with_reducible exact k3
   | go_keep)
  (first|(go_at_call 89;refine (HMO.out _ (Below.refl _ _).drew).mono ?_;clear HMO;rintro e W2 ⟨rfl,pK⟩;have k5:=ax (w:=w1.drew) z5 pK;have k3:=ax (w:=w1.drew) z3 pK;have cL:=aa pK;clear pK))
 all_goals
  have zb:Below w1.heap.size w1 W2:=⟨cL.out.os,cL.out.tape,cL.out.output,cL.out.size,cL.out.block⟩;have h2:=gH.out.below zb;have DN:=h2.cell;have y2:W2.cell? ⟨d.bD,2,none⟩=some (.string d.text):=ag DN rfl;have y2f:W2.frozen? ⟨d.bD,2,none⟩=false:=by simp[World.frozen?,DN]
  obtain ⟨W3,hW3⟩:∃W3,W2.setCell ⟨d.bD,2,none⟩ (.string aW)=W3:=⟨_,rfl⟩;have rP:W3.heap[d.bD]?=some (.cells #[.pointer (some ⟨d.bX,0,none⟩),.pointer (some ⟨d.P,0,none⟩),.string aW,d.vo,d.vs,.int .i64 d.work] 89 (0,0)):=by rw[<-hW3];simpa using heap_setCell_same W2 d.bD 2 (.string aW) DN
  have o3:aK (λk=>k=d.bD) W2 W3:=by rw[<-hW3];exact aK.setCell (Y:=λk=>k=d.bD) (p:=⟨d.bD,2,none⟩) rfl DN (by decide) _
  have y3:W3.cell? ⟨d.bD,3,none⟩=some d.vo:=ag rP rfl;have y3f:W3.frozen? ⟨d.bD,3,none⟩=false:=by simp[World.frozen?,rP]
  obtain ⟨W4,PN⟩:∃W4,W3.setCell ⟨d.bD,3,none⟩ (.slice oo ne oc)=W4:=⟨_,rfl⟩;have xJ:W4.heap[d.bD]?=some (.cells #[.pointer (some ⟨d.bX,0,none⟩),.pointer (some ⟨d.P,0,none⟩),.string aW,.slice oo ne oc,d.vs,.int .i64 d.work] 89 (0,0)):=by rw[<-PN];simpa using heap_setCell_same W3 d.bD 3 (.slice oo ne oc) rP
  have o4:aK (λk=>k=d.bD) W2 W4:=o3.trans (by rw[<-PN];exact aK.setCell (Y:=λk=>k=d.bD) (p:=⟨d.bD,3,none⟩) rfl rP (by decide) _);have y4:W4.cell? ⟨d.bD,4,none⟩=some d.vs:=ag xJ rfl;have y4f:W4.frozen? ⟨d.bD,4,none⟩=false:=by simp[World.frozen?,xJ]
  obtain ⟨W5,Yz⟩:∃W5,W4.setCell ⟨d.bD,4,none⟩ (.slice so ne sc)=W5:=⟨_,rfl⟩;have Mg:W5.heap[d.bD]?=some (.cells #[.pointer (some ⟨d.bX,0,none⟩),.pointer (some ⟨d.P,0,none⟩),.string aW,.slice oo ne oc,.slice so ne sc,.int .i64 d.work] 89 (0,0)):=by rw[<-Yz];simpa using heap_setCell_same W4 d.bD 4 (.slice so ne sc) xJ
  have o5:aK (λk=>k=d.bD) W2 W5:=o4.trans (by rw[<-Yz];exact aK.setCell (Y:=λk=>k=d.bD) (p:=⟨d.bD,4,none⟩) rfl xJ (by decide) _);have y5:W5.cell? ⟨d.bD,5,none⟩=some (.int .i64 d.work):=ag Mg rfl;have y5f:W5.frozen? ⟨d.bD,5,none⟩=false:=by simp[World.frozen?,Mg]
  obtain ⟨W6,hW6⟩:∃W6,W5.setCell ⟨d.bD,5,none⟩ (.int .i64 bN)=W6:=⟨_,rfl⟩;have Uj:W6.heap[d.bD]?=some (.cells #[.pointer (some ⟨d.bX,0,none⟩),.pointer (some ⟨d.P,0,none⟩),.string aW,.slice oo ne oc,.slice so ne sc,.int .i64 bN] 89 (0,0)):=by rw[<-hW6];simpa using heap_setCell_same W5 d.bD 5 (.int .i64 bN) Mg
  have o6:aK (λk=>k=d.bD) W2 W6:=o5.trans (by rw[<-hW6];exact aK.setCell (Y:=λk=>k=d.bD) (p:=⟨d.bD,5,none⟩) rfl Mg (by decide) _)
  have ai:=aa (show oC w d aW lv' jI bN (.returned (.bool true)) W6 from by
   have Jj:Below w.heap.size w W2:=YO.out.trans (zb.mono YO.out.size);have ow6:aK (λk=>k=d.bD) w W6:=(aK.au Jj).trans o6;obtain ⟨Mf,hs3,Lb,hr3⟩:=S9.out;have hNE:=QA.out
   have YP:∀w',Below d.N W6 w'->Below d.N W2 w':=λw' hb=>⟨hb.os.trans o6.os,hb.tape.trans o6.tape,hb.output.trans o6.output,Nat.le_trans o6.size hb.size,λk hk=>(hb.block k hk).trans (o6.keep k ⟨Nat.lt_of_lt_of_le hk h2.hN,by have:=h2.hD;show ¬k=d.bD;omega⟩)⟩
   have rk:∀{e:TypeId} {size:Nat} {v:Value} {m:Nat} {xs:List Value},w1.ownsRow w.heap.size e size v m xs->e≠89->W6.ownsRow d.B e size v m xs:=λhrow he=>pA (bm (dn hrow hB) λk c hh=>(zb.block k (ae hh)).trans hh) o6 DN he
   refine ⟨rfl,ow6,.slice oo ne oc,.slice so ne sc,es,⟨Uj,gu o6 DN h2.tx (by decide),h2.sheet.Ui o6 DN,?_,?_,λe he=>⟨((Lb e he).1.below zb).keep λc fz hh=>gu o6 DN hh (by decide),rk (Lb e he).2.1 (by decide),(Lb e he).2.2⟩,h2.runs,⟨st3,hr3⟩,λw' hb=>h2.gD w' (YP w' hb),λw' hb=>h2.rg w' (YP w' hb),Nat.le_trans h2.hN o6.size,h2.same,h2.ok,h2.pos⟩,λk hk=>(aj hs3 (by rw[hNE]at hk;exact hk)).1⟩
   ·show W6.ownsRow _ _ _ _ es.length _;rw[hNE];exact rk Mf (by decide)
   ·show W6.ownsRow _ _ _ _ es.length _;rw[hNE];exact rk hs3 (by decide))
  clear zb h2 DN rP xJ Mg Uj o3 o4 o5 o6 z0 z3 z5 HP gH S9;go_wp2_with fail;go_ret;exact ai.out
theorem G7{P:Program}{id:Nat}{Q:Exit->Act->World->Prop}{a:Act}{l:List Oper}(n:Nat)(hm:P.follows .mixedOrders=true)(hB:Region.lexTailB .any l.toArray n=true)
  (h:wpStill P l.toArray w.drew (λa'=>wpList P l.toArray Q (l.drop n) a' w.drew) (l.take n) a):(Code.region id l.toArray true).wp P Q a w:=wp_region_still_tail n hm hB h
structure dg(w:World)(d:SD):Prop where
 is:cF w d
 tab:kK w
 mx:Mx w
 h0:1 < d.N
 hM:0 < d.N
 hN:d.N<=d.B
 hD:d.B<=d.bD
 hX:d.B<=d.bX
theorem dg.below(h:dg w d)(hb:Below w.heap.size w w'):dg w' d:=⟨h.is.below hb,h.tab.below hb,h.mx.below hb,h.h0,h.hM,h.hN,h.hD,h.hX⟩
def bO(w:World)(d:SD)(e:Ending)(w':World):Prop:=
 e=.returned (.bool true)/\Below d.B w w'/\aK (λk=>k=d.bS∨k=d.bD) w w'/\∃d':SD,dg w' d'/\(d'.B=d.B/\d'.bD=d.bD/\d'.work<=d.work+3001)/\d'.bS=d.bS/\(d'.vs=d.vs∨∀k,d'.vs.ownBlock=some k->w.heap.size<=k)
theorem cF.lt(h:cF w d):d.B<=w.heap.size:=by have:=ae h.sheet.sh;have:=h.sheet.base;omega
theorem bO.still(h:dg w d)(hb:Below w.heap.size w w'):bO w d (.returned (.bool true)) w':=
 ⟨rfl,hb.mono h.is.lt,aK.au hb,d,h.below hb,⟨rfl,rfl,Nat.le_add_right _ _⟩,rfl,.inl rfl⟩
theorem cF.sts(h:cF w d):d.ls.map LE.st=d.es.map RE.st:=by have:=congrArg (List.map (·.1)) h.agree;rw[List.map_map,List.map_map]at this;exact this
theorem dg.edited(h:dg w d){a an:Nat}{put:ByteArray}(he:UQ d.B d.bS d.g d.n d.cap d.G d.text d.ls d.work a an put w w1):
  ∃(aW:ByteArray) (lv':Value) (jI:List LE) (bN:Nat),aW.data.toList=d.text.data.toList.take a++put.data.toList++d.text.data.toList.drop an/\B6 w1 d aW lv' jI bN/\d.B<=w1.heap.size /\
   (d.text.data.toList.drop an).count 10<=d.es.length/\(d.text.data.toList.drop an).count 10<=jI.length/\d.work<=bN/\bN<=d.work+3001 /\
   bN<=d.work+(1+put.data.toList.count 10+eX (d.es.map RE.st) (jI.map LE.st) ((d.text.data.toList.drop an).count 10))/\aK (λk=>k=d.bS) w w1:=by
 obtain ⟨o,aW,lv',jI,bN,sF,ht,hs,hr,h1,h2,h3⟩:=he;have hi:=h.is;have hS:=hi.sheet.sh;have qw:∀w',Below d.N w1 w'->Below d.N w w':=λw' hb=>⟨hb.os.trans o.os,hb.tape.trans o.tape,hb.output.trans o.output,Nat.le_trans o.size hb.size,λk hk=>(hb.block k hk).trans (o.keep k ⟨by have:=hi.hN;omega,by have:=h.hN;have:=hi.sheet.base;show ¬k=d.bS;omega⟩)⟩
 have key:∀(t:TypeId) (k:Nat) c fz,t≠134->w.heap[k]?=some (.cells c t fz)->w1.heap[k]?=some (.cells c t fz):=λt k c fz ht hh=>gu o hS hh ht
 have cq:∀e∈d.es,e.st.length<=8:=λe he=>by obtain ⟨_,IR⟩:=hi.Qk;have hg:Good d.G [0]:=⟨⟨by simp,by simp⟩,λx hx=>by rw[List.mem_singleton.1 hx];exact hi.pos⟩;exact (IR.good hi.ok hg (e.st,e.bc) (List.mem_map.2 ⟨e,he,rfl⟩)).1.2
 have hl:=hi.len;have hl2:=hr.length;rw[List.length_map,aS,ht,List.count_append,List.count_append]at hl2;have ie:d.ls.length=1+d.text.data.toList.count 10:=by obtain ⟨_,IR⟩:=hi.runs;have:=IR.length;rw[List.length_map,aS]at this;exact this
 have hcd:(d.text.data.toList.drop an).count 10<=d.text.data.toList.count 10:=by
  conv=>rhs;rw[<-List.take_append_drop an d.text.data.toList,List.count_append]
  omega
 refine ⟨aW,lv',jI,bN,ht,⟨key _ _ _ _ (by decide) hi.cell,key _ _ _ _ (by decide) hi.tx,hs,⟨bm (dn hi.py (Nat.zero_le _)) (λk c=>key _ k c _ (by decide)),λe he=>⟨(hi.each e he).1.keep λc fz=>key _ _ c fz (by decide),cq e he⟩⟩,by omega,⟨sF,hr⟩,λw' hb=>hi.gD w' (qw w' hb),λw' hb=>hi.rg w' (qw w' hb),Nat.le_trans hi.hN o.size,Nat.le_trans h.hN h.hD,hi.same,hi.ok,hi.pos⟩,Nat.le_trans hi.lt o.size,by omega,by omega,h1,h3,?_,o⟩
 rw[<-hi.sts];exact h2
theorem dg.behind{w2:World}(h:dg w d)(o:aK (λk=>k=d.bS) w w1)(hp:oC w1 d aW lv' jI bN e w2)(hw:bN<=d.work+3001):e=.returned (.bool true)/\bO w d (.returned (.bool true)) w2:=by
 obtain ⟨rfl,o2,vo,vs,es,hs,hv⟩:=hp;have hB:=h.is.sheet.base
 have hb:Below d.B w w2:=⟨o2.os.trans o.os,o2.tape.trans o.tape,o2.output.trans o.output,Nat.le_trans o.size o2.size,λk hk=>by
  have eJ:k<w.heap.size:=by have:=h.is.lt;omega
  exact (o2.keep k ⟨Nat.lt_of_lt_of_le eJ o.size,by have:=h.hD;show ¬k=d.bD;omega⟩).trans (o.keep k ⟨eJ,by show ¬k=d.bS;omega⟩)⟩
 refine ⟨rfl,rfl,hb,(o.sub λk _ e=>.inl e).trans (o2.sub λk _ e=>.inr e),_,⟨hs,h.tab.keep (hb.block _ (by have:=h.h0;have:=h.hN;omega)),?_,h.h0,h.hM,h.hN,h.hD,h.hX⟩,⟨rfl,rfl,hw⟩,rfl,.inr λk hk=>Nat.le_trans o.size (hv k hk)⟩;obtain ⟨m,hm⟩:=h.mx;exact ⟨m,(World.cell?_of_block (hb.block 0 (by have:=h.hM;have:=h.hN;omega))).trans hm⟩
set_option maxRecDepth 20000 in
set_option maxHeartbeats 4000000 in
theorem uU(w:World)(d:SD)(i:Int)(put:ByteArray)(h:dg w d)(uP:d.work<=1000000000000000000)(hpz:put.size<=1000000000000000000):
  Calls Tryz.prog 38 #[.pointer (some ⟨d.bD,0,none⟩),.int .i64 i,.string put] w (bO w d):=by
 have c0:w.cell? ⟨d.bD,0,none⟩=some (.pointer (some ⟨d.bX,0,none⟩)):=ag h.is.cell rfl;have c2:w.cell? ⟨d.bD,2,none⟩=some (.string d.text):=ag h.is.cell rfl;obtain ⟨sE,YQ⟩:=h.is.runs;have j0:=aa (EH i put h.is.ok h.is.pos h.tab h.h0 h.is.gD h.hN h.mx h.hM h.is.sheet h.is.tx YQ uP);have HS:=aa h;have hz:=h.is.sheet.size
 have wz:IntKind.i64.wrap ((d.text.size:Int)+(put.size:Int))=(d.text.size:Int)+(put.size:Int):=by rw[IntKind.wrap_i64];omega
 clear h YQ;go_enter Tryz.func38,Tryz.ntmps38;go_wp2_with fail;refine j0.out.mono ?_;rintro e w1 (⟨hi,rfl,e1⟩|⟨hi,hl,rfl,e1⟩|⟨a,rfl,ha,hl,rfl,he⟩)
 ·subst w1;have iT:=aa (dc 8 w);have tG:=aa (jF w d HS.out.is);by_cases h1:i<0
  ·have g1:decide (i<0)=true:=decide_eq_true h1;go_wp2_with fail;refine iT.out.mono ?_;rintro e w1 ⟨rfl,e1⟩;subst w1;clear iT;go_wp2_with fail;refine tG.out.mono ?_;rintro e w2 ⟨rfl,hb2⟩;have ai:=aa (bO.still HS.out hb2);clear tG hb2;go_wp2_with fail;go_ret;exact ai.out
  ·have g1:decide (i<0)=false:=decide_eq_false h1;have g2:decide ((d.text.size:Int)<i)=true:=decide_eq_true (by omega);go_wp2_with fail;refine iT.out.mono ?_;rintro e w1 ⟨rfl,e1⟩;subst w1;clear iT;go_wp2_with fail;refine tG.out.mono ?_;rintro e w2 ⟨rfl,hb2⟩;have ai:=aa (bO.still HS.out hb2);clear tG hb2;go_wp2_with fail;go_ret;exact ai.out
 ·subst w1;have iT:=aa (dc 1 w);have tG:=aa (jF w d HS.out.is);have g1:decide (i<0)=false:=decide_eq_false (by omega);have g2:decide ((d.text.size:Int)<i)=false:=decide_eq_false (by omega);have g3:decide (3000<(d.text.size:Int)+(put.size:Int))=true:=decide_eq_true (by omega);go_wp2_with fail;refine iT.out.mono ?_;rintro e w1 ⟨rfl,e1⟩;subst w1;clear iT;go_wp2_with fail
  refine tG.out.mono ?_;rintro e w2 ⟨rfl,hb2⟩;have ai:=aa (bO.still HS.out hb2);clear tG hb2;go_wp2_with fail;go_ret;exact ai.out
 ·have g1:decide ((a:Int)<0)=false:=decide_eq_false (by omega);have g2:decide ((d.text.size:Int)<(a:Int))=false:=decide_eq_false (by omega);have g3:decide (3000<(d.text.size:Int)+(put.size:Int))=false:=decide_eq_false (by omega);obtain ⟨aW,lv',jI,bN,ib,qC,YR,hb1,hb2,PM,hmx,EJ,ho⟩:=HS.out.edited he;have z2:w1.cell? ⟨d.bD,2,none⟩=some (.string d.text):=ag qC.cell rfl
  obtain ⟨b,hb⟩:∃b,b=(d.text.data.toList.drop a).count 10:=⟨_,rfl⟩;rw[<-hb]at hb1 hb2 EJ
  have abn:d.text.extract 0 a++put++d.text.extract a d.text.size=aW:=WideShapes.bytes_inj (by rw[ib];rw[ByteArray.data_append,ByteArray.data_append,Array.toList_append,Array.toList_append,aQ,aQ,List.take_of_length_le (l:=d.text.data.toList.drop a) (by rw[List.length_drop,ah];omega)];simp)
  have HED:=aa (λW (hb:Below w1.heap.size w1 W)=>uT W d aW lv' jI bN put b (qC.below hb) (Nat.le_trans YR hb.size) hb1 hb2 (by omega) (by omega) PM EJ)
  have oD:=aa (λW=>show Calls Tryz.prog 67 #[.string (d.text.extract a d.text.size)] W (λe w'=>e=.returned (.int .i64 b)/\w'=W) from by
   have h:=B3 (d.text.extract a d.text.size) W (by have h1:=congrArg List.length (aQ d.text a d.text.size);rw[ah,List.length_take,List.length_drop,ah]at h1;omega);rw[aQ,List.take_of_length_le (by rw[List.length_drop,ah];omega),<-hb]at h;exact h)
  have HO:=aa ho;have HMX:=aa hmx;have iT:=aa (λW=>dc 0 W);clear he ib qC YR hb1 hb2 PM EJ hmx ho hb j0 c0 c2;go_wp2_with fail;have hmx:Tryz.prog.follows .mixedOrders=true:=by kernel_rfl
  have hc1:¬9223372036854775807<a+put.size:=by omega
  have hc2:¬9223372036854775807<a+put.size+(d.text.size - a):=by omega
  refine G7 24 hmx (by kernel_rfl) ?_;simp only[List.take_succ_cons,List.take_zero,List.drop_succ_cons,List.drop_zero]
  repeat still_step
  still_call (oD.out _)
  refine wpStill_nil ?_;go_wp2_with fail;refine (HED.out _ (Below.refl _ _).drew).mono ?_;rintro e w4 hp;obtain ⟨rfl,hst⟩:=HS.out.behind (HO.out.trans (aK.au (Below.refl _ _).drew)) hp HMX.out;have HST:=aa hst;clear hst hp;go_wp2_with fail;refine (iT.out _).mono ?_;rintro e w5 ⟨rfl,e5⟩;subst w5;go_wp2_with fail;go_ret;exact HST.out
set_option maxRecDepth 20000 in
set_option maxHeartbeats 4000000 in
theorem uV(w:World)(d:SD)(i m:Int)(h:dg w d)(uP:d.work<=1000000000000000000):
  Calls Tryz.prog 39 #[.pointer (some ⟨d.bD,0,none⟩),.int .i64 i,.int .i64 m] w (bO w d):=by
 have c0:w.cell? ⟨d.bD,0,none⟩=some (.pointer (some ⟨d.bX,0,none⟩)):=ag h.is.cell rfl;have c2:w.cell? ⟨d.bD,2,none⟩=some (.string d.text):=ag h.is.cell rfl;obtain ⟨sE,YQ⟩:=h.is.runs;have j0:=aa (EI i m h.is.ok h.is.pos h.tab h.h0 h.is.gD h.hN h.mx h.hM h.is.sheet h.is.tx YQ uP);have HS:=aa h;have hz:=h.is.sheet.size;clear h YQ
 go_enter Tryz.func39,Tryz.ntmps39;go_wp2_with fail;refine j0.out.mono ?_;rintro e w1 (⟨hi,rfl,e1⟩|⟨a,k,rfl,rfl,Lc,rfl,he⟩)
 ·subst w1;have iT:=aa (dc 8 w);have tG:=aa (jF w d HS.out.is);by_cases h0:m<0
  ·have g0:decide (m<0)=true:=decide_eq_true h0;go_wp2_with fail;refine iT.out.mono ?_;rintro e w1 ⟨rfl,e1⟩;subst w1;clear iT;go_wp2_with fail;refine tG.out.mono ?_;rintro e w2 ⟨rfl,hb2⟩;have ai:=aa (bO.still HS.out hb2);clear tG hb2;go_wp2_with fail;go_ret;exact ai.out
  ·have g0:decide (m<0)=false:=decide_eq_false h0;by_cases h1:i<0
   ·have g1:decide (i<0)=true:=decide_eq_true h1;go_wp2_with fail;refine iT.out.mono ?_;rintro e w1 ⟨rfl,e1⟩;subst w1;clear iT;go_wp2_with fail;refine tG.out.mono ?_;rintro e w2 ⟨rfl,hb2⟩;have ai:=aa (bO.still HS.out hb2);clear tG hb2;go_wp2_with fail;go_ret;exact ai.out
   ·have g1:decide (i<0)=false:=decide_eq_false h1;by_cases h2:(d.text.size:Int)<i
    ·have g2:decide ((d.text.size:Int)<i)=true:=decide_eq_true h2;go_wp2_with fail;refine iT.out.mono ?_;rintro e w1 ⟨rfl,e1⟩;subst w1;clear iT;go_wp2_with fail;refine tG.out.mono ?_;rintro e w2 ⟨rfl,hb2⟩;have ai:=aa (bO.still HS.out hb2);clear tG hb2;go_wp2_with fail;go_ret;exact ai.out
    ·have g2:decide ((d.text.size:Int)<i)=false:=decide_eq_false h2;have wz:IntKind.i64.wrap ((d.text.size:Int) - i)=(d.text.size:Int) - i:=by rw[IntKind.wrap_i64];omega
     have g3:decide ((d.text.size:Int) - i<m)=true:=decide_eq_true (by omega);go_wp2_with fail;refine iT.out.mono ?_;rintro e w1 ⟨rfl,e1⟩;subst w1;clear iT;go_wp2_with fail;refine tG.out.mono ?_;rintro e w2 ⟨rfl,hb2⟩;have ai:=aa (bO.still HS.out hb2);clear tG hb2;go_wp2_with fail;go_ret;exact ai.out
 ·have g0:decide ((k:Int)<0)=false:=decide_eq_false (by omega);have g1:decide ((a:Int)<0)=false:=decide_eq_false (by omega);have g2:decide ((d.text.size:Int)<(a:Int))=false:=decide_eq_false (by omega);have wz:IntKind.i64.wrap ((d.text.size:Int) - (a:Int))=(d.text.size:Int) - (a:Int):=by rw[IntKind.wrap_i64];omega
  have g3:decide ((d.text.size:Int) - (a:Int)<(k:Int))=false:=decide_eq_false (by omega);obtain ⟨an,UG⟩:∃an,an=a+k:=⟨_,rfl⟩;rw[<-UG]at he;have wa:IntKind.i64.wrap ((a:Int)+(k:Int))=(an:Int):=by rw[IntKind.wrap_i64];omega
  have abf:an<=d.text.size:=by omega
  obtain ⟨aW,lv',jI,bN,ib,qC,YR,hb1,hb2,PM,hmx,EJ,ho⟩:=HS.out.edited he;have z2:w1.cell? ⟨d.bD,2,none⟩=some (.string d.text):=ag qC.cell rfl;obtain ⟨b,hb⟩:∃b,b=(d.text.data.toList.drop an).count 10:=⟨_,rfl⟩;rw[<-hb]at hb1 hb2 EJ
  have abn:d.text.extract 0 a++d.text.extract an d.text.size=aW:=WideShapes.bytes_inj (by rw[ib,ByteArray.data_append,Array.toList_append,aQ,aQ,List.take_of_length_le (l:=d.text.data.toList.drop an) (by rw[List.length_drop,ah];omega)];simp)
  have HED:=aa (λW (hb:Below w1.heap.size w1 W)=>uT W d aW lv' jI bN ⟨#[]⟩ b (qC.below hb) (Nat.le_trans YR hb.size) hb1 hb2 (by decide) (by omega) PM EJ)
  have oD:=aa (λW=>show Calls Tryz.prog 67 #[.string (d.text.extract an d.text.size)] W (λe w'=>e=.returned (.int .i64 b)/\w'=W) from by
   have h:=B3 (d.text.extract an d.text.size) W (by have h1:=congrArg List.length (aQ d.text an d.text.size);rw[ah,List.length_take,List.length_drop,ah]at h1;omega);rw[aQ,List.take_of_length_le (by rw[List.length_drop,ah];omega),<-hb]at h;exact h)
  have HO:=aa ho;have HMX:=aa hmx;have iT:=aa (λW=>dc 0 W);clear he ib qC YR hb1 hb2 PM EJ hmx ho hb j0 c0 c2 UG;go_wp2_with fail;have hmx:Tryz.prog.follows .mixedOrders=true:=by kernel_rfl
  have hc1:¬9223372036854775807<a+(d.text.size - an):=by omega
  refine G7 25 hmx (by kernel_rfl) ?_;simp only[List.take_succ_cons,List.take_zero,List.drop_succ_cons,List.drop_zero]
  repeat still_step
  still_call (oD.out _)
  refine wpStill_nil ?_;go_wp2_with fail;refine (HED.out _ (Below.refl _ _).drew).mono ?_;rintro e w4 hp;obtain ⟨rfl,hst⟩:=HS.out.behind (HO.out.trans (aK.au (Below.refl _ _).drew)) hp HMX.out;have HST:=aa hst;clear hst hp;go_wp2_with fail;refine (iT.out _).mono ?_;rintro e w5 ⟨rfl,e5⟩;subst w5;go_wp2_with fail;go_ret;exact HST.out
theorem bO.from{W0:World}(h:bO W0 d e w')(hb:Below w.heap.size w W0)(hl:d.B<=w.heap.size):bO w d e w':=by obtain ⟨h1,h2,h3,d',h4,h5,h6,h7⟩:=h;exact ⟨h1,(hb.mono hl).trans h2,(aK.au hb).trans h3,d',h4,h5,h6,h7.imp id λh k hk=>Nat.le_trans hb.size (h k hk)⟩
set_option maxRecDepth 20000 in
set_option maxHeartbeats 4000000 in
theorem MQ(w:World)(d:SD)(kd k a b:Int)(tx more:ByteArray)(h:dg w d)(uP:d.work<=1000000000000000000)(Yx:tx.size<=1000000000000000000):
  Calls Tryz.prog 14 #[.pointer (some ⟨d.bD,0,none⟩),.agg #[.int .i64 kd,.int .i64 k,.int .i64 a,.int .i64 b,.string tx,.string more]] w (bO w d):=by
 obtain ⟨W0,hW0⟩:∃W0,w.alloc (.cells #[.int .i64 kd,.int .i64 k,.int .i64 a,.int .i64 b,.string tx,.string more] 33)=W0:=⟨_,rfl⟩;have hb0:Below w.heap.size w W0:=by rw[<-hW0];exact (Below.refl _ _).alloc (Nat.le_refl _) _
 have h0:=h.below hb0;have hc:=af w (.cells #[.int .i64 kd,.int .i64 k,.int .i64 a,.int .i64 b,.string tx,.string more] 33);rw[hW0]at hc;have z0:W0.cell? ⟨w.heap.size,0,none⟩=some (.int .i64 kd):=ag hc rfl;have z2:W0.cell? ⟨w.heap.size,2,none⟩=some (.int .i64 a):=ag hc rfl;have z3:W0.cell? ⟨w.heap.size,3,none⟩=some (.int .i64 b):=ag hc rfl
 have z4:W0.cell? ⟨w.heap.size,4,none⟩=some (.string tx):=ag hc rfl;have HI:=aa (uU W0 d a tx h0 uP Yx);have HRM:=aa (uV W0 d a b h0 uP);have Qn:=aa (pz W0 d a h0.is);have WT:=aa (nI W0 d a h0.is);have HWF:=aa (mI W0 d false h0.is);have HWT:=aa (mI W0 d true h0.is)
 have HF:=aa (λe w' (hp:bO W0 d e w')=>hp.from hb0 h.is.lt);have HST:=aa (λw' (hb:Below W0.heap.size W0 w')=>(bO.still h0 hb).from hb0 h.is.lt);clear h h0 hb0 hc;go_enter Tryz.func14,Tryz.ntmps14;go_wp2_with fail
 ·refine HI.out.mono ?_;rintro e w2 hp;have ai:=aa (HF.out e w2 hp);obtain ⟨rfl,-⟩:=hp;go_wp2_with fail;go_ret;exact ai.out
 ·refine HRM.out.mono ?_;rintro e w2 hp;have ai:=aa (HF.out e w2 hp);obtain ⟨rfl,-⟩:=hp;go_wp2_with fail;go_ret;exact ai.out
 ·refine Qn.out.mono ?_;rintro e w2 ⟨hb2,v,bc,rfl,-⟩;have ai:=aa (HST.out w2 hb2);clear hb2;go_wp2_with fail;go_ret;exact ai.out
 ·refine WT.out.mono ?_;rintro e w2 ⟨hb2,v,dp,rfl,-⟩;have ai:=aa (HST.out w2 hb2);clear hb2;go_wp2_with fail;go_ret;exact ai.out
 ·refine HWF.out.mono ?_;rintro e w2 ⟨rfl,hb2⟩;have ai:=aa (HST.out w2 hb2);clear hb2;go_wp2_with fail;go_ret;exact ai.out
 ·refine HWT.out.mono ?_;rintro e w2 ⟨rfl,hb2⟩;have ai:=aa (HST.out w2 hb2);clear hb2;go_wp2_with fail;go_ret;exact ai.out
 ·have ai:=aa (HST.out W0 (Below.refl _ _));go_ret;exact ai.out
end Go.Proofs.YtgncgdkpkkdaeaaGreatDoor
