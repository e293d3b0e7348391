import Derived.Test.YtgncgdkpkkdaeaaGreatDoorM6
namespace Go.Proofs.YtgncgdkpkkdaeaaGreatDoor
open Go.RowKit aQ Go.Maps Go.Shelf
variable {c0:Array Value} {text:ByteArray} {ls:List LE} {B bD bS cap g n work:Nat} {f0:Nat×Nat} {lv:Value} {w w':World}
def KQ(w:World)(e:Ending)(w':World):Prop:=e=.returned (.bool true)/\Below w.heap.size w w'
set_option maxRecDepth 20000 in
set_option maxHeartbeats 4000000 in
theorem lV(w:World)(d:SD)(each:Bool)(h:cG w d):Calls Tryz.prog 13 #[.pointer (some ⟨d.bD,0,none⟩),.bool each] w (KQ w):=by
 have c0:w.cell? ⟨d.bD,0,none⟩=some (.pointer (some ⟨d.bX,0,none⟩)):=ah h.cell rfl;have c2:w.cell? ⟨d.bD,2,none⟩=some (.string d.text):=ah h.cell rfl;have HR:=aa (C3 h.sheet h.tx);have HL:=aa (λw' (hb:Below w.heap.size w w')=>zO (h.below hb).sheet (h.below hb).tx);obtain ⟨so,sc,JS⟩:=aI h.pO;obtain ⟨gM,hl2,vX⟩:=h.len;have HS:=aa h
 obtain ⟨nl,eT⟩:∃nl,nl=d.es.length:=⟨_,rfl⟩;rw[gM,<-eT]at hl2 vX HL;have c3:w.cell? ⟨d.bD,3,none⟩=some (.slice so nl sc):=by rw[eT,<-JS];exact ah h.cell rfl
 clear h gM eT JS;go_enter Tryz.func13,Tryz.ntmps13;go_wp2_with fail;refine HR.out.mono ?_;rintro e w1 ⟨rfl,h1⟩;subst h1;clear HR;go_wp2_with fail
 go_region_held3 (λw'=>w'.cell? ⟨d.bD,0,none⟩=some (.pointer (some ⟨d.bX,0,none⟩))/\w'.cell? ⟨d.bD,2,none⟩=some (.string d.text)/\w'.cell? ⟨d.bD,3,none⟩=some (.slice so nl sc))
  (go_keep)
  (first|(go_at_call 23;refine (HL.out _ (Below.refl _ _).drew).mono ?_;clear HL;rintro e w2 ⟨rfl,h2⟩;subst h2))
 all_goals
  clear c0 c2;obtain ⟨W0,hW0⟩:∃W0,W0=w1.drew:=⟨_,rfl⟩;have hb0:Below w1.heap.size w1 W0:=by rw[hW0];exact (Below.refl _ _).drew
  rw[<-hW0];clear hW0;go_wp2_with fail;go_loopg [6] nl (λk' vi W=>KL w1 nl k' vi W)
  case atStart=>exact ⟨0,rfl,by omega,hb0⟩
  case round=>
   obtain ⟨j,rfl,hjk,hbr⟩:=hrel;have k3:=ax c3 hbr;have ai:=aa (show KQ w1 (.returned (.bool true)) wr from ⟨rfl,hbr⟩);by_cases hlt:j<nl
   ·have e1:decide ((j:Int)<(nl:Int))=true:=decide_eq_true (by omega);have hwr:IntKind.i64.wrap ((j:Int)+1)=(j:Int)+1:=by rw[IntKind.wrap_i64];omega
    cases each with
    | false=>
     clear hbr;go_wp2_with fail;go_ret;exact ai.out
    | true=>
     have OS:=aa (ou wr d (j:Int) (HS.out.below hbr));have pR:=aa hbr;clear hbr ai;go_wp2_with fail;refine OS.out.mono ?_;rintro e w2 ⟨hb2,v,ba,rfl,-⟩;have cM:=aa (pR.out.trans (hb2.mono pR.out.size));have HST:=aa (mP w2 d (j:Int) (HS.out.below cM.out));clear OS pR hb2;go_wp2_with fail;refine HST.out.mono ?_;rintro e w3 ⟨hb3,v3,cZ,rfl,-⟩
     have eY:=aa (cM.out.trans (hb3.mono cM.out.size));clear HST cM hb3;go_wp2_with fail;go_roundg (nl - (j+1))
     case measure=>omega
     case rel=>exact ⟨j+1,by simp,by omega,eY.out⟩
   ·have e1:decide ((j:Int)<(nl:Int))=false:=decide_eq_false (by omega);clear hbr;go_wp2_with fail;go_ret;exact ai.out
structure BD where
 bB:Nat
 P:Nat
 g:Nat
 n:Nat
 cap:Nat
 Pr:Nat
 gr:Nat
 nr:Nat
 cr:Nat
 Br:Nat
 N:Nat
 ss:List bZ
 G:List GS
structure sT(w:World)(b:BD):Prop where
 cell:w.heap[b.bB]?=some (.cells #[.pointer (some ⟨b.P,0,none⟩),.pointer (some ⟨b.Pr,0,none⟩)] 86 (0,0))
 top:w.heap[b.P]?=some (.cells #[.slice (some ⟨b.g,0,none⟩) b.n b.cap] 38 (0,0))
 gN:∀w',Below b.N w w'->cP w' b.g b.n b.cap b.G
 rg:∀w',Below b.N w w'->RG w' b.Br b.Pr b.gr b.nr b.cr b.ss
 hN:b.N<=w.heap.size
 same:wu b.G b.ss
 ok:vY b.G
 pos:0<b.G.length
theorem sT.below{b:BD}(h:sT w b)(hb:Below w.heap.size w w'):sT w' b:=by
 have key:∀(t:TypeId) (k:Nat) c,w.heap[k]?=some (.cells c t (0,0))->w'.heap[k]?=some (.cells c t (0,0)):=λt k c hh=>(hb.block k (ae hh)).trans hh
 exact ⟨key _ _ _ h.cell,key _ _ _ h.top,λw2 hb2=>h.gN w2 ((hb.mono h.hN).trans hb2),λw2 hb2=>h.rg w2 ((hb.mono h.hN).trans hb2),Nat.le_trans h.hN hb.size,h.same,h.ok,h.pos⟩
def nB(s:ByteArray)(w:World)(e:Ending)(w':World):Prop:=Below w.heap.size w w'/\(e=.returned (.tuple #[.pointer none,.bool true])/\(∃ec a,ec≠0/\dM s.data.toList ec a [])∨∃b:BD,e=.returned (.tuple #[.pointer (some ⟨b.bB,0,none⟩),.bool true])/\sT w' b/\w.heap.size<=b.N/\b.N<=b.bB)
set_option maxRecDepth 20000 in
set_option maxHeartbeats 2000000 in
theorem kJ(s:ByteArray)(w:World)(hm:Mx w)(hz:s.size<=maxLen):Calls Tryz.prog 11 #[.string s] w (nB s w):=by
 have HP:=aa (xT s w hm);clear hm;go_enter Tryz.func11,Tryz.ntmps11;go_wp2_with fail;refine HP.out.mono ?_;rintro e w1 ⟨hb1,⟨ec,a,UZ,rfl,z7⟩|⟨P,B,ao,n,cap,ls,ss,rfl,z7,hB,hM,hP⟩⟩
 ·have HR:=aa (qC s w1 hz);have br:=aa hb1;clear hb1 HP;go_wp2_with fail;refine HR.out.mono ?_;rintro e w2 ⟨hb2,⟨ec',a',SB,rfl,xU⟩|⟨P',B',sv',GW,rfl,xU,-⟩⟩
  ·obtain ⟨rfl,rfl,-⟩:=z7.cS xU;have ai:=aa (show nB s w (.returned (.tuple #[.pointer none,.bool true])) w2 from ⟨br.out.trans (hb2.mono br.out.size),.inl ⟨rfl,_,_,UZ,z7⟩⟩);have HN:=aa (cT ec w2);clear hb2 z7 xU UZ SB br HR;go_wp2_with fail;refine HN.out.mono ?_;rintro e w3 ⟨rfl,rfl⟩;clear HN;go_wp2_with fail
   exact bodyPost_ret (v:=.tuple #[.pointer none,.bool true]) (by simp[results,Tryz.results11,go_sem, *]) rfl ai.out
  ·exact absurd (z7.cS xU).1 UZ
 ·have HR:=aa (qC s w1 hz);have br:=aa hb1;have GZ:=aa z7;have HMD:=aa hM;have KR:=aa hP;clear hb1 HP hB hM hP z7;go_wp2_with fail;refine HR.out.mono ?_;rintro e w2 ⟨hb2,⟨ec',a',SB,rfl,xU⟩|⟨P',B',sv',GW,rfl,xU,hB',hG',Wc⟩⟩
  ·exact absurd (GZ.out.cS xU).1.symm SB
  ·have ai:=aa (show nB s w (.returned (.tuple #[.pointer (some ⟨w2.heap.size,0,none⟩),.bool true])) (w2.alloc (.cells #[.pointer (some ⟨P,0,none⟩),.pointer (some ⟨P',0,none⟩)] 86)) from by
    obtain ⟨g,G,rfl,pJ,hgr,eA,hlg⟩:=G0 HMD.out GZ.out;obtain ⟨dc,vp,hsp⟩:=OO GZ.out xU hlg;obtain ⟨pE,cap',rfl,hao⟩:=hG'.form;obtain ⟨g',rfl⟩:=hao hsp;have xV:Below w.heap.size w w2:=br.out.trans (hb2.mono br.out.size)
    have hb3:Below w2.heap.size w2 (w2.alloc (.cells #[.pointer (some ⟨P,0,none⟩),.pointer (some ⟨P',0,none⟩)] 86)):=(Below.refl _ _).alloc (Nat.le_refl _) _
    refine ⟨xV.alloc xV.size _,.inr ⟨⟨w2.heap.size,P,g,n,cap,P',g',GW.length,cap',B',w2.heap.size,GW,G⟩,rfl,⟨af _ _,(hb3.block _ (by have:=ae KR.out;have:=hb2.size;show P<_;omega)).trans ((hb2.block _ (ae KR.out)).trans KR.out),λw' hb=>?_,λw' hb=>?_,by simp,dc,eA,pJ⟩,xV.size,Nat.le_refl _⟩⟩
    ·exact hgr w' (hb2.trans ((hb3.trans hb).mono hb2.size))
    ·exact RG.below ⟨hG',Wc,vp⟩ (hb3.trans hb))
   have HN:=aa (cT 0 w2);clear hb2 GZ xU br HR HMD KR hG' Wc;go_wp2_with fail;refine HN.out.mono ?_;rintro e w3 ⟨rfl,rfl⟩;clear HN;go_wp2_with fail;exact bodyPost_ret (v:=.tuple #[.pointer (some ⟨w3.heap.size,0,none⟩),.bool true]) (by simp[results,Tryz.results11,go_sem, *]) rfl ai.out
theorem fW{t0:TypeId}(ho:aN (λk=>k=bD) w w')(hD:w.heap[bD]?=some (.cells c0 t0 f0)){k:Nat}{c:Array Value}{t:TypeId}{fz:Nat×Nat}(hk:w.heap[k]?=some (.cells c t fz))(ht:t≠t0):w'.heap[k]?=some (.cells c t fz):=by
 refine ho.same hk λe=>ht ?_
 have e':k=bD:=e;rw[e',hD]at hk;simp only[Option.some.injEq,Obj.cells.injEq]at hk;exact hk.2.1.symm
theorem bK.SC(h:bK w B bS g n cap text lv ls work)(ho:aN (λk=>k=bD) w w')(hD:w.heap[bD]?=some (.cells c0 89 f0)):bK w' B bS g n cap text lv ls work:=
 ⟨fW ho hD h.sh (by decide),h.eQ.off ho (λk hk=>by rw[hk];exact h.eQ.other hD (λc=>⟨by simp,by simp⟩)),h.base,h.size⟩
theorem bK.below(h:bK w B bS g n cap text lv ls work)(hb:Below w.heap.size w w'):bK w' B bS g n cap text lv ls work:=
 ⟨(hb.block _ (ae h.sh)).trans h.sh,h.eQ.below hb,h.base,h.size⟩
theorem ow{e:TypeId}{size:Nat}{v:Value}{xs:List Value}(h:w.ownsRow B e size v n xs)(ho:aN (λk=>k=bD) w w')(hD:w.heap[bD]?=some (.cells c0 89 f0))(he:e≠89):w'.ownsRow B e size v n xs:=cj h λ_ _ hk=>fW ho hD hk he
def kK(w:World)(b:BD)(text:ByteArray)(e:Ending)(w':World):Prop:=
 Below w.heap.size w w'/\(e=.returned (.tuple #[.pointer none,.bool true])/\3000<text.size∨∃d:SD,e=.returned (.tuple #[.pointer (some ⟨d.bD,0,none⟩),.bool true])/\cG w' d/\d.N=b.N/\d.text=text/\w.heap.size<=d.B/\d.B<=d.bD/\d.B<=d.bX/\d.G=b.G/\d.work<=3001)
set_option maxRecDepth 20000 in
set_option maxHeartbeats 4000000 in
theorem qG(w:World)(b:BD)(text:ByteArray)(h:sT w b)(hT:kB w)(hM:Mx w)(h0:1 < b.N)(zM:0 < b.N):
  Calls Tryz.prog 12 #[.pointer (some ⟨b.bB,0,none⟩),.string text] w (kK w b text):=by
 have c0:w.cell? ⟨b.bB,0,none⟩=some (.pointer (some ⟨b.P,0,none⟩)):=ah h.cell rfl;have hgr:=h.gN w (Below.refl _ _);have hn:0<b.n:=by rw[hgr.len];exact h.pos
 have SE:=aa (Kl b.N b.P b.g b.n b.cap b.G text w h.top hn h.ok h.pos hT h0 h.gN h.hN hM zM);have HS:=aa h;clear h hT hM hgr;go_enter Tryz.func12,Tryz.ntmps12;go_wp2_with fail;refine SE.out.mono ?_;rintro e w1 ⟨hb1,⟨hz,rfl⟩|⟨hz,bX,bS,lv,ls,st,rfl,hx1,hbX,hs1,hr1⟩⟩
 ·have g1:decide ((3000:Int)<(text.size:Int))=true:=decide_eq_true (by omega);have ai:=aa (show kK w b text (.returned (.tuple #[.pointer none,.bool true])) w1 from ⟨hb1,.inl ⟨rfl,by omega⟩⟩);have HN:=aa (cT 1 w1);clear hb1 SE c0;go_wp2_with fail;refine HN.out.mono ?_;rintro e w2 ⟨rfl,h2⟩;subst h2;clear HN;go_wp2_with fail;go_ret2;exact ai.out
 ·have g1:decide ((3000:Int)<(text.size:Int))=false:=decide_eq_false (by omega);have c1:w1.cell? ⟨b.bB,1,none⟩=some (.pointer (some ⟨b.Pr,0,none⟩)):=ah (HS.out.below hb1).cell rfl;have HN:=aa (cT 0 w1);have HX:=aa (And.intro hx1 (And.intro hs1 hr1));have br:=aa hb1;clear hb1 hx1 hs1 hr1 SE c0;go_wp2_with fail;refine HN.out.mono ?_;rintro e w2 ⟨rfl,h2⟩;subst h2
  clear HN;obtain ⟨bD,Df⟩:∃bD,bD=w2.heap.size:=⟨_,rfl⟩;obtain ⟨wa,hwa⟩:∃wa,w2.alloc (.cells #[.pointer (some ⟨bX,0,none⟩),.pointer (some ⟨b.Pr,0,none⟩),.string text,.slice none 0 0,.slice none 0 0,.int .i64 0] 89)=wa:=⟨_,rfl⟩;have hba:Below w2.heap.size w2 wa:=by rw[<-hwa];exact (Below.refl _ _).alloc (Nat.le_refl _) _
  have hDa:wa.heap[bD]?=some (.cells #[.pointer (some ⟨bX,0,none⟩),.pointer (some ⟨b.Pr,0,none⟩),.string text,.slice none 0 0,.slice none 0 0,.int .i64 0] 89 (0,0)):=by rw[<-hwa];exact az _ _ _ Df
  have OT:Below w.heap.size w wa:=br.out.trans (hba.mono br.out.size);have c1a:wa.cell? ⟨b.bB,1,none⟩=some (.pointer (some ⟨b.Pr,0,none⟩)):=ah (HS.out.below OT).cell rfl;have HST:=aa (mN b.Br b.Pr b.gr b.nr b.cr b.ss b.G text wa (HS.out.rg wa (OT.mono HS.out.hN)) HS.out.same HS.out.ok HS.out.pos hz);have u7:=aa hba;have OU:=aa OT;have Wd:=aa hDa
  clear hba OT hDa;go_wp2_with fail;rw[<-Df];refine HST.out.mono ?_;rintro e w3 ⟨vo,vs,es,st3,rfl,KS,hs3,JT,hr3,hb3⟩;obtain ⟨oo,oc,JS⟩:=aI KS;obtain ⟨so,sc,xK⟩:=aI hs3;subst JS;subst xK;obtain ⟨nl,eT⟩:∃nl,nl=es.length:=⟨_,rfl⟩;rw[<-eT]at KS hs3 ⊢;have rE:=aa eT;clear eT;have qH:=(hb3.block _ (ae Wd.out)).trans Wd.out
  have z3:w3.cell? ⟨bD,3,none⟩=some (.slice none 0 0):=ah qH rfl;have z3f:w3.frozen? ⟨bD,3,none⟩=false:=by simp[World.frozen?,qH]
  obtain ⟨w4,hw4⟩:∃w4,w3.setCell ⟨bD,3,none⟩ (.slice oo nl oc)=w4:=⟨_,rfl⟩;have wE:w4.heap[bD]?=some (.cells #[.pointer (some ⟨bX,0,none⟩),.pointer (some ⟨b.Pr,0,none⟩),.string text,.slice oo nl oc,.slice none 0 0,.int .i64 0] 89 (0,0)):=by rw[<-hw4];simpa using heap_setCell_same w3 bD 3 (.slice oo nl oc) qH
  have o4:aN (λk=>k=bD) w3 w4:=by rw[<-hw4];exact aN.setCell (Y:=λk=>k=bD) (p:=⟨bD,3,none⟩) rfl qH (by decide) _
  have z4:w4.cell? ⟨bD,4,none⟩=some (.slice none 0 0):=ah wE rfl;have z4f:w4.frozen? ⟨bD,4,none⟩=false:=by simp[World.frozen?,wE]
  obtain ⟨w5,Dg⟩:∃w5,w4.setCell ⟨bD,4,none⟩ (.slice so nl sc)=w5:=⟨_,rfl⟩;have KT:w5.heap[bD]?=some (.cells #[.pointer (some ⟨bX,0,none⟩),.pointer (some ⟨b.Pr,0,none⟩),.string text,.slice oo nl oc,.slice so nl sc,.int .i64 0] 89 (0,0)):=by rw[<-Dg];simpa using heap_setCell_same w4 bD 4 (.slice so nl sc) wE
  have o5:aN (λk=>k=bD) w3 w5:=o4.trans (by rw[<-Dg];exact aN.setCell (Y:=λk=>k=bD) (p:=⟨bD,4,none⟩) rfl wE (by decide) _);have z5:w5.cell? ⟨bD,5,none⟩=some (.int .i64 0):=ah KT rfl;have z5f:w5.frozen? ⟨bD,5,none⟩=false:=by simp[World.frozen?,KT]
  obtain ⟨w6,Fm⟩:∃w6,w5.setCell ⟨bD,5,none⟩ (.int .i64 nl)=w6:=⟨_,rfl⟩;have SF:w6.heap[bD]?=some (.cells #[.pointer (some ⟨bX,0,none⟩),.pointer (some ⟨b.Pr,0,none⟩),.string text,.slice oo nl oc,.slice so nl sc,.int .i64 nl] 89 (0,0)):=by rw[<-Fm];simpa using heap_setCell_same w5 bD 5 (.int .i64 nl) KT
  have o6:aN (λk=>k=bD) w3 w6:=o5.trans (by rw[<-Fm];exact aN.setCell (Y:=λk=>k=bD) (p:=⟨bD,5,none⟩) rfl KT (by decide) _);have z63:w6.cell? ⟨bD,3,none⟩=some (.slice oo nl oc):=ah SF rfl;have z65:w6.cell? ⟨bD,5,none⟩=some (.int .i64 nl):=ah SF rfl;have OV:Below w2.heap.size w2 w3:=u7.out.trans (hb3.mono u7.out.size)
  have NY:ls.length=nl:=by have h:=congrArg List.length (HX.out.2.2.cS hr3).1;simp only[List.length_map]at h;rw[h,rE.out]
  have OW:=HX.out.2.1.below OV;rw[NY]at OW;have SG:=(OV.block _ (ae HX.out.1)).trans HX.out.1;have G1:=aa (nz (OW.SC o5 qH) (fW o5 qH SG (by decide)))
  have ai:=aa (λm=>show kK w b text (.returned (.tuple #[.pointer (some ⟨bD,0,none⟩),.bool true])) (w6.drewN m) from by
   have aah:w.heap.size<=bD:=by rw[Df];exact br.out.size
   have ny:Below w.heap.size w w3:=br.out.trans (OV.mono br.out.size);have OX:Below w.heap.size w w6:=⟨o6.os.trans ny.os,o6.tape.trans ny.tape,o6.output.trans ny.output,Nat.le_trans ny.size o6.size,λk hk=>(o6.keep k ⟨Nat.lt_of_lt_of_le hk ny.size,by omega⟩).trans (ny.block k hk)⟩
   have Wa:nl<=3001:=by have h1:=hr3.length;rw[List.length_map,aR]at h1;have h2:=List.count_le_length (a:=(10:UInt8)) (l:=text.data.toList);rw[ag]at h2;have h3:=rE.out;omega
   refine ⟨Below.drewN' OX m,.inr ⟨⟨bD,bX,bS,b.g,b.n,b.cap,b.Pr,b.gr,b.nr,b.cr,b.Br,w.heap.size,b.N,text,lv,.slice oo nl oc,.slice so nl sc,ls,es,nl,b.ss,b.G⟩,rfl,cG.drew ?_ m,rfl,rfl,Nat.le_refl _,aah,hbX,rfl,Wa⟩⟩
   refine ⟨SF,fW o6 qH SG (by decide),OW.SC o6 qH,?_,?_,λe he=>⟨(JT e he).1.keep λc fz hh=>fW o6 qH hh (by decide),?_,(JT e he).2.2⟩,⟨st,HX.out.2.2⟩,⟨st3,hr3⟩,λw' hb=>HS.out.gN w' ((OX.mono HS.out.hN).trans hb),λw' hb=>HS.out.rg w' ((OX.mono HS.out.hN).trans hb),Nat.le_trans HS.out.hN OX.size,HS.out.same,HS.out.ok,HS.out.pos⟩
   ·have h:=ow (cY KS OU.out.size) o6 qH (by decide);show w6.ownsRow _ _ _ _ es.length _;rw[<-rE.out];exact h
   ·have h:=ow (cY hs3 OU.out.size) o6 qH (by decide);show w6.ownsRow _ _ _ _ es.length _;rw[<-rE.out];exact h
   ·exact ow (cY (JT e he).2.1 OU.out.size) o6 qH (by decide))
  clear qH wE KT SF o4 o5 o6 OV NY OW SG KS hs3 JT hr3 hb3 HX HST Wd u7 OU br Df c1 c1a hwa;go_wp2_with fail;refine G1.out.mono ?_;rintro e w7 ⟨rfl,h7⟩;subst h7;clear G1;go_wp2_with fail;go_quiet (fail);go_wp2_with fail;go_ret2;exact ai.out _
end Go.Proofs.YtgncgdkpkkdaeaaGreatDoor
