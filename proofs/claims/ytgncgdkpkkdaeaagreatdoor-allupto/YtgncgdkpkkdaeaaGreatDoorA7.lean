import Derived.Test.YtgncgdkpkkdaeaaGreatDoorA6
set_option maxRecDepth 20000
set_option maxHeartbeats 4000000
namespace Go.Proofs.YtgncgdkpkkdaeaaGreatDoor
open Go.RowKit bu Go.Maps Go.Shelf
variable {c0:Array Value} {text:ByteArray} {ls:List LE} {B bD bS cap g n work:Nat} {f0:Nat×Nat} {lv:Value} {w w':World}
def MX(w:World)(e:Ending)(w':World):Prop:=e=.returned (.bool true)/\Below w.heap.size w w'
theorem yy(w:World)(d:SD)(each:Bool)(h:cP w d):Calls Tryz.prog 13 #[.pointer (some ⟨d.bD,0,none⟩),.bool each] w (MX w):=by
 have c0:w.cell? ⟨d.bD,0,none⟩=some (.pointer (some ⟨d.bX,0,none⟩)):=ai h.cell rfl;have c2:w.cell? ⟨d.bD,2,none⟩=some (.string d.text):=ai h.cell rfl;have HR:=aa (EX h.sheet h.tx);have HL:=aa (λw' (hb:Below w.heap.size w w')=>B4 (h.below hb).sheet (h.below hb).tx);obtain ⟨so,sc,LZ⟩:=aC h.pX;obtain ⟨iF,hl2,yn⟩:=h.len;have HS:=aa h
 obtain ⟨nl,fO⟩:∃nl,nl=d.es.length:=⟨_,rfl⟩;rw[iF,<-fO]at hl2 yn HL;have c3:w.cell? ⟨d.bD,3,none⟩=some (.slice so nl sc):=by rw[fO,<-LZ];exact ai h.cell rfl
 clear h iF fO LZ;go_enter Tryz.func13,Tryz.ntmps13;go_wp2_with fail;refine HR.out.mono ?_;rintro e w1 ⟨rfl,h1⟩;subst h1;clear HR;go_wp2_with fail
 go_region_held3 (λw'=>w'.cell? ⟨d.bD,0,none⟩=some (.pointer (some ⟨d.bX,0,none⟩))/\w'.cell? ⟨d.bD,2,none⟩=some (.string d.text)/\w'.cell? ⟨d.bD,3,none⟩=some (.slice so nl sc))
  (go_keep)
  (first|(go_at_call 23;refine (HL.out _ (Below.refl _ _).drew).mono ?_;clear HL;rintro e w2 ⟨rfl,h2⟩;subst h2))
 all_goals
  clear c0 c2;obtain ⟨W0,hW0⟩:∃W0,W0=w1.drew:=⟨_,rfl⟩;have hb0:Below w1.heap.size w1 W0:=by rw[hW0];exact (Below.refl _ _).drew
  rw[<-hW0];clear hW0;go_wp2_with fail;go_loopg [6] nl (λk' vi W=>MT w1 nl k' vi W)
  case atStart=>exact ⟨0,rfl,by omega,hb0⟩
  case round=>
   obtain ⟨j,rfl,hjk,hbr⟩:=hrel;have k3:=ax c3 hbr;have aq:=aa (show MX w1 (.returned (.bool true)) wr from ⟨rfl,hbr⟩);by_cases hlt:j<nl
   ·have e1:decide ((j:Int)<(nl:Int))=true:=cF (by omega);have hwr:IntKind.i64.wrap ((j:Int)+1)=(j:Int)+1:=by rw[IntKind.wrap_i64];omega
    cases each with
    | false=>
     clear hbr;go_wp2_with fail;go_ret;exact aq.out
    | true=>
     have L0:=aa (kL wr d (j:Int) (HS.out.below hbr));have rr:=aa hbr;clear hbr aq;go_wp2_with fail;refine L0.out.mono ?_;rintro e w2 ⟨hb2,v,bh,rfl,-⟩;have cW:=aa (rr.out.trans (hb2.mono rr.out.size));have HST:=aa (jN w2 d (j:Int) (HS.out.below cW.out));clear L0 rr hb2;go_wp2_with fail;refine HST.out.mono ?_;rintro e w3 ⟨hb3,v3,dx,rfl,-⟩
     have fV:=aa (cW.out.trans (hb3.mono cW.out.size));clear HST cW hb3;go_wp2_with fail;go_roundg (nl - (j+1))
     case measure=>omega
     case rel=>exact ⟨j+1,by simp,by omega,fV.out⟩
   ·have e1:decide ((j:Int)<(nl:Int))=false:=bV (by omega);clear hbr;go_wp2_with fail;go_ret;exact aq.out
structure BD where
 bB:Nat
 P:Nat
 g:Nat
 n:Nat
 cap:Nat
 Pr:Nat
 gr:Nat
 nr:Nat
 cr:Nat
 Br:Nat
 N:Nat
 ss:List cH
 G:List GS
structure iy(w:World)(b:BD):Prop where
 cell:w.heap[b.bB]?=some (.cells #[.pointer (some ⟨b.P,0,none⟩),.pointer (some ⟨b.Pr,0,none⟩)] 86 (0,0))
 top:w.heap[b.P]?=some (.cells #[.slice (some ⟨b.g,0,none⟩) b.n b.cap] 38 (0,0))
 ib:∀w',Below b.N w w'->cd w' b.g b.n b.cap b.G
 rg:∀w',Below b.N w w'->RG w' b.Br b.Pr b.gr b.nr b.cr b.ss
 hN:b.N<=w.heap.size
 same:yu b.G b.ss
 ok:yq b.G
 pos:0<b.G.length
theorem iy.below{b:BD}(h:iy w b)(hb:Below w.heap.size w w'):iy w' b:=by
 have key:∀(t:TypeId) (k:Nat) c,w.heap[k]?=some (.cells c t (0,0))->w'.heap[k]?=some (.cells c t (0,0)):=λt k c hh=>(hb.block k (ae hh)).trans hh
 exact ⟨key _ _ _ h.cell,key _ _ _ h.top,λw2 hb2=>h.ib w2 ((hb.mono h.hN).trans hb2),λw2 hb2=>h.rg w2 ((hb.mono h.hN).trans hb2),bJ h.hN hb.size,h.same,h.ok,h.pos⟩
def pq(s:ByteArray)(w:World)(e:Ending)(w':World):Prop:=Below w.heap.size w w'/\(e=.returned (.tuple #[.pointer none,.bool true])/\(∃ec a,ec≠0/\dD s.data.toList ec a [])∨∃b:BD,e=.returned (.tuple #[.pointer (some ⟨b.bB,0,none⟩),.bool true])/\iy w' b/\w.heap.size<=b.N/\b.N<=b.bB)
theorem uW(s:ByteArray)(w:World)(hm:Mx w)(hz:s.size<=maxLen):Calls Tryz.prog 11 #[.string s] w (pq s w):=by
 have HP:=aa (zT s w hm);clear hm;go_enter Tryz.func11,Tryz.ntmps11;go_wp2_with fail;refine HP.out.mono ?_;rintro e w1 ⟨hb1,⟨ec,a,TF,rfl,zU⟩|⟨P,B,ao,n,cap,ls,ss,rfl,zU,hB,hM,hP⟩⟩
 ·have HR:=aa (sS s w1 hz);have bM:=aa hb1;clear hb1 HP;go_wp2_with fail;refine HR.out.mono ?_;rintro e w2 ⟨hb2,⟨ec',a',U9,rfl,zV⟩|⟨P',B',sv',JF,rfl,zV,-⟩⟩
  ·obtain ⟨rfl,rfl,-⟩:=zU.dz zV;have aq:=aa (show pq s w (.returned (.tuple #[.pointer none,.bool true])) w2 from ⟨bM.out.trans (hb2.mono bM.out.size),.inl ⟨rfl,_,_,TF,zU⟩⟩);have HN:=aa (dp ec w2);clear hb2 zU zV TF U9 bM HR;go_wp2_with fail;refine HN.out.mono ?_;rintro e w3 ⟨rfl,rfl⟩;clear HN;go_wp2_with fail
   exact bodyPost_ret (v:=.tuple #[.pointer none,.bool true]) (by simp[results,Tryz.results11,go_sem, *]) rfl aq.out
  ·exact absurd (zU.dz zV).1 TF
 ·have HR:=aa (sS s w1 hz);have bM:=aa hb1;have JI:=aa zU;have HMD:=aa hM;have MZ:=aa hP;clear hb1 HP hB hM hP zU;go_wp2_with fail;refine HR.out.mono ?_;rintro e w2 ⟨hb2,⟨ec',a',U9,rfl,zV⟩|⟨P',B',sv',JF,rfl,zV,hB',hG',YU⟩⟩
  ·exact absurd (JI.out.dz zV).1.symm U9
  ·have aq:=aa (show pq s w (.returned (.tuple #[.pointer (some ⟨w2.heap.size,0,none⟩),.bool true])) (w2.alloc (.cells #[.pointer (some ⟨P,0,none⟩),.pointer (some ⟨P',0,none⟩)] 86)) from by
    obtain ⟨g,G,rfl,lY,hgr,eM,hlg⟩:=JJ HMD.out JI.out;obtain ⟨dC,tT,hsp⟩:=Rb JI.out zV hlg;obtain ⟨pW,cap',rfl,hao⟩:=hG'.form;obtain ⟨g',rfl⟩:=hao hsp;have zW:Below w.heap.size w w2:=bM.out.trans (hb2.mono bM.out.size)
    have hb3:Below w2.heap.size w2 (w2.alloc (.cells #[.pointer (some ⟨P,0,none⟩),.pointer (some ⟨P',0,none⟩)] 86)):=cq _ _
    refine ⟨zW.alloc zW.size _,.inr ⟨⟨w2.heap.size,P,g,n,cap,P',g',JF.length,cap',B',w2.heap.size,JF,G⟩,rfl,⟨ag _ _,(hb3.block _ (by have:=ae MZ.out;have:=hb2.size;show P<_;omega)).trans ((hb2.block _ (ae MZ.out)).trans MZ.out),λw' hb=>?_,λw' hb=>?_,by simp,dC,eM,lY⟩,zW.size,bc _⟩⟩
    ·exact hgr w' (hb2.trans ((hb3.trans hb).mono hb2.size))
    ·exact RG.below ⟨hG',YU,tT⟩ (hb3.trans hb))
   have HN:=aa (dp 0 w2);clear hb2 JI zV bM HR HMD MZ hG' YU;go_wp2_with fail;refine HN.out.mono ?_;rintro e w3 ⟨rfl,rfl⟩;clear HN;go_wp2_with fail;exact bodyPost_ret (v:=.tuple #[.pointer (some ⟨w3.heap.size,0,none⟩),.bool true]) (by simp[results,Tryz.results11,go_sem, *]) rfl aq.out
theorem gU{t0:TypeId}(ho:aM (λk=>k=bD) w w')(hD:w.heap[bD]?=some (.cells c0 t0 f0)){k:Nat}{c:Array Value}{t:TypeId}{fz:Nat×Nat}(hk:w.heap[k]?=some (.cells c t fz))(ht:t≠t0):w'.heap[k]?=some (.cells c t fz):=by
 refine ho.same hk λe=>ht ?_
 have e':k=bD:=e;rw[e',hD]at hk;simp only[fA,Obj.cells.injEq]at hk;exact hk.2.1.symm
theorem bZ.Va(h:bZ w B bS g n cap text lv ls work)(ho:aM (λk=>k=bD) w w')(hD:w.heap[bD]?=some (.cells c0 89 f0)):bZ w' B bS g n cap text lv ls work:=
 ⟨gU ho hD h.sh (by decide),h.fU.off ho (λk hk=>by rw[hk];exact h.fU.other hD (λc=>⟨by simp,by simp⟩)),h.base,h.size⟩
theorem bZ.below(h:bZ w B bS g n cap text lv ls work)(hb:Below w.heap.size w w'):bZ w' B bS g n cap text lv ls work:=
 ⟨(hb.block _ (ae h.sh)).trans h.sh,h.fU.below hb,h.base,h.size⟩
theorem pZ{e:TypeId}{size:Nat}{v:Value}{xs:List Value}(h:w.ownsRow B e size v n xs)(ho:aM (λk=>k=bD) w w')(hD:w.heap[bD]?=some (.cells c0 89 f0))(he:e≠89):w'.ownsRow B e size v n xs:=bq h λ_ _ hk=>gU ho hD hk he
def jC(w:World)(b:BD)(text:ByteArray)(e:Ending)(w':World):Prop:=
 Below w.heap.size w w'/\(e=.returned (.tuple #[.pointer none,.bool true])/\3000<text.size∨∃d:SD,e=.returned (.tuple #[.pointer (some ⟨d.bD,0,none⟩),.bool true])/\cP w' d/\d.N=b.N/\d.text=text/\w.heap.size<=d.B/\d.B<=d.bD/\d.B<=d.bX/\d.G=b.G/\d.work<=3001)
theorem Cm(w:World)(b:BD)(text:ByteArray)(h:iy w b)(hT:lC w)(hM:Mx w)(h0:1 < b.N)(BZ:0 < b.N):
  Calls Tryz.prog 12 #[.pointer (some ⟨b.bB,0,none⟩),.string text] w (jC w b text):=by
 have c0:w.cell? ⟨b.bB,0,none⟩=some (.pointer (some ⟨b.P,0,none⟩)):=ai h.cell rfl;have hgr:=h.ib w (Below.refl _ _);have hn:0<b.n:=by rw[hgr.len];exact h.pos
 have Qt:=aa (My b.N b.P b.g b.n b.cap b.G text w h.top hn h.ok h.pos hT h0 h.ib h.hN hM BZ);have HS:=aa h;clear h hT hM hgr;go_enter Tryz.func12,Tryz.ntmps12;go_wp2_with fail;refine Qt.out.mono ?_;rintro e w1 ⟨hb1,⟨hz,rfl⟩|⟨hz,bX,bS,lv,ls,st,rfl,hx1,hbX,hs1,hr1⟩⟩
 ·have g1:decide ((3000:Int)<(text.size:Int))=true:=cF (by omega);have aq:=aa (show jC w b text (.returned (.tuple #[.pointer none,.bool true])) w1 from ⟨hb1,.inl ⟨rfl,by omega⟩⟩);have HN:=aa (dp 1 w1);clear hb1 Qt c0;go_wp2_with fail;refine HN.out.mono ?_;rintro e w2 ⟨rfl,h2⟩;subst h2;clear HN;go_wp2_with fail;go_ret2;exact aq.out
 ·have g1:decide ((3000:Int)<(text.size:Int))=false:=bV (by omega);have c1:w1.cell? ⟨b.bB,1,none⟩=some (.pointer (some ⟨b.Pr,0,none⟩)):=ai (HS.out.below hb1).cell rfl;have HN:=aa (dp 0 w1);have HX:=aa (And.intro hx1 (And.intro hs1 hr1));have bM:=aa hb1;clear hb1 hx1 hs1 hr1 Qt c0;go_wp2_with fail;refine HN.out.mono ?_;rintro e w2 ⟨rfl,h2⟩;subst h2
  clear HN;obtain ⟨bD,M0⟩:∃bD,bD=w2.heap.size:=⟨_,rfl⟩;obtain ⟨wa,xH⟩:∃wa,w2.alloc (.cells #[.pointer (some ⟨bX,0,none⟩),.pointer (some ⟨b.Pr,0,none⟩),.string text,.slice none 0 0,.slice none 0 0,.int .i64 0] 89)=wa:=⟨_,rfl⟩;have jr:Below w2.heap.size w2 wa:=by rw[<-xH];exact cq _ _
  have hDa:wa.heap[bD]?=some (.cells #[.pointer (some ⟨bX,0,none⟩),.pointer (some ⟨b.Pr,0,none⟩),.string text,.slice none 0 0,.slice none 0 0,.int .i64 0] 89 (0,0)):=by rw[<-xH];exact aD _ _ _ M0
  have Rh:Below w.heap.size w wa:=bM.out.trans (jr.mono bM.out.size);have c1a:wa.cell? ⟨b.bB,1,none⟩=some (.pointer (some ⟨b.Pr,0,none⟩)):=ai (HS.out.below Rh).cell rfl;have HST:=aa (oB b.Br b.Pr b.gr b.nr b.cr b.ss b.G text wa (HS.out.rg wa (Rh.mono HS.out.hN)) HS.out.same HS.out.ok HS.out.pos hz);have xC:=aa jr;have Ri:=aa Rh;have YV:=aa hDa
  clear jr Rh hDa;go_wp2_with fail;rw[<-M0];refine HST.out.mono ?_;rintro e w3 ⟨vo,vs,es,st3,rfl,M2,hs3,L1,hr3,hb3⟩;obtain ⟨oo,oc,LZ⟩:=aC M2;obtain ⟨so,sc,zK⟩:=aC hs3;subst LZ;subst zK;obtain ⟨nl,fO⟩:∃nl,nl=es.length:=⟨_,rfl⟩;rw[<-fO]at M2 hs3 ⊢;have tS:=aa fO;clear fO;have sU:=(hb3.block _ (ae YV.out)).trans YV.out
  have z3:w3.cell? ⟨bD,3,none⟩=some (.slice none 0 0):=ai sU rfl;have z3f:w3.frozen? ⟨bD,3,none⟩=false:=by simp[World.frozen?,sU]
  obtain ⟨w4,hw4⟩:∃w4,w3.setCell ⟨bD,3,none⟩ (.slice oo nl oc)=w4:=⟨_,rfl⟩;have yz:w4.heap[bD]?=some (.cells #[.pointer (some ⟨bX,0,none⟩),.pointer (some ⟨b.Pr,0,none⟩),.string text,.slice oo nl oc,.slice none 0 0,.int .i64 0] 89 (0,0)):=by rw[<-hw4];simpa using ah w3 bD 3 (.slice oo nl oc) sU
  have o4:aM (λk=>k=bD) w3 w4:=by rw[<-hw4];exact aM.setCell (Y:=λk=>k=bD) (p:=⟨bD,3,none⟩) rfl sU (by decide) _
  have z4:w4.cell? ⟨bD,4,none⟩=some (.slice none 0 0):=ai yz rfl;have z4f:w4.frozen? ⟨bD,4,none⟩=false:=by simp[World.frozen?,yz]
  obtain ⟨w5,Fc⟩:∃w5,w4.setCell ⟨bD,4,none⟩ (.slice so nl sc)=w5:=⟨_,rfl⟩;have M3:w5.heap[bD]?=some (.cells #[.pointer (some ⟨bX,0,none⟩),.pointer (some ⟨b.Pr,0,none⟩),.string text,.slice oo nl oc,.slice so nl sc,.int .i64 0] 89 (0,0)):=by rw[<-Fc];simpa using ah w4 bD 4 (.slice so nl sc) yz
  have o5:aM (λk=>k=bD) w3 w5:=o4.trans (by rw[<-Fc];exact aM.setCell (Y:=λk=>k=bD) (p:=⟨bD,4,none⟩) rfl yz (by decide) _);have z5:w5.cell? ⟨bD,5,none⟩=some (.int .i64 0):=ai M3 rfl;have z5f:w5.frozen? ⟨bD,5,none⟩=false:=by simp[World.frozen?,M3]
  obtain ⟨w6,Ib⟩:∃w6,w5.setCell ⟨bD,5,none⟩ (.int .i64 nl)=w6:=⟨_,rfl⟩;have Vb:w6.heap[bD]?=some (.cells #[.pointer (some ⟨bX,0,none⟩),.pointer (some ⟨b.Pr,0,none⟩),.string text,.slice oo nl oc,.slice so nl sc,.int .i64 nl] 89 (0,0)):=by rw[<-Ib];simpa using ah w5 bD 5 (.int .i64 nl) M3
  have o6:aM (λk=>k=bD) w3 w6:=o5.trans (by rw[<-Ib];exact aM.setCell (Y:=λk=>k=bD) (p:=⟨bD,5,none⟩) rfl M3 (by decide) _);have z63:w6.cell? ⟨bD,3,none⟩=some (.slice oo nl oc):=ai Vb rfl;have z65:w6.cell? ⟨bD,5,none⟩=some (.int .i64 nl):=ai Vb rfl;have Rj:Below w2.heap.size w2 w3:=xC.out.trans (hb3.mono xC.out.size)
  have Qn:ls.length=nl:=by have h:=congrArg List.length (HX.out.2.2.dz hr3).1;simp only[fy]at h;rw[h,tS.out]
  have Rk:=HX.out.2.1.below Rj;rw[Qn]at Rk;have Vc:=(Rj.block _ (ae HX.out.1)).trans HX.out.1;have JK:=aa (pg (Rk.Va o5 sU) (gU o5 sU Vc (by decide)))
  have aq:=aa (λm=>show jC w b text (.returned (.tuple #[.pointer (some ⟨bD,0,none⟩),.bool true])) (w6.drewN m) from by
   have abH:w.heap.size<=bD:=by rw[M0];exact bM.out.size
   have oZ:Below w.heap.size w w3:=bM.out.trans (Rj.mono bM.out.size);have Rl:Below w.heap.size w w6:=⟨o6.os.trans oZ.os,o6.tape.trans oZ.tape,o6.output.trans oZ.output,bJ oZ.size o6.size,λk hk=>(o6.keep k ⟨dw hk oZ.size,by omega⟩).trans (oZ.block k hk)⟩
   have YS:nl<=3001:=by have h1:=hr3.length;rw[fy,aT]at h1;have h2:=List.count_le_length (a:=(10:UInt8)) (l:=text.data.toList);rw[aj]at h2;have h3:=tS.out;omega
   refine ⟨Below.drewN' Rl m,.inr ⟨⟨bD,bX,bS,b.g,b.n,b.cap,b.Pr,b.gr,b.nr,b.cr,b.Br,w.heap.size,b.N,text,lv,.slice oo nl oc,.slice so nl sc,ls,es,nl,b.ss,b.G⟩,rfl,cP.drew ?_ m,rfl,rfl,bc _,abH,hbX,rfl,YS⟩⟩
   refine ⟨Vb,gU o6 sU Vc (by decide),Rk.Va o6 sU,?_,?_,λe he=>⟨(L1 e he).1.keep λc fz hh=>gU o6 sU hh (by decide),?_,(L1 e he).2.2⟩,⟨st,HX.out.2.2⟩,⟨st3,hr3⟩,λw' hb=>HS.out.ib w' ((Rl.mono HS.out.hN).trans hb),λw' hb=>HS.out.rg w' ((Rl.mono HS.out.hN).trans hb),bJ HS.out.hN Rl.size,HS.out.same,HS.out.ok,HS.out.pos⟩
   ·have h:=pZ (dB M2 Ri.out.size) o6 sU (by decide);show w6.ownsRow _ _ _ _ es.length _;rw[<-tS.out];exact h
   ·have h:=pZ (dB hs3 Ri.out.size) o6 sU (by decide);show w6.ownsRow _ _ _ _ es.length _;rw[<-tS.out];exact h
   ·exact pZ (dB (L1 e he).2.1 Ri.out.size) o6 sU (by decide))
  clear sU yz M3 Vb o4 o5 o6 Rj Qn Rk Vc M2 hs3 L1 hr3 hb3 HX HST YV xC Ri bM M0 c1 c1a xH;go_wp2_with fail;refine JK.out.mono ?_;rintro e w7 ⟨rfl,h7⟩;subst h7;clear JK;go_wp2_with fail;go_quiet (fail);go_wp2_with fail;go_ret2;exact aq.out _
theorem lC.below(h:lC w)(hb:Below w.heap.size w w'):lC w':=h.keep (hb.block _ (fh (h 0 (by decide))))
end Go.Proofs.YtgncgdkpkkdaeaaGreatDoor
