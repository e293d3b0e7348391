import Derived.Test.YtgncgdkpkkdaeaaGreatDoorM6
namespace Go.Proofs.YtgncgdkpkkdaeaaGreatDoor
open Go.RowKit aO Go.Maps Go.Shelf
variable {c0:Array Value} {text:ByteArray} {ls:List LE} {B bD bS cap g n work:Nat} {f0:Nat×Nat} {lv:Value} {w w':World}
def Md(w:World)(e:Ending)(w':World):Prop:=e=.returned (.bool true)/\Below w.heap.size w w'
set_option maxRecDepth 20000 in
set_option maxHeartbeats 4000000 in
theorem mI(w:World)(d:SD)(each:Bool)(h:cF w d):Calls Tryz.prog 13 #[.pointer (some ⟨d.bD,0,none⟩),.bool each] w (Md w):=by
 have c0:w.cell? ⟨d.bD,0,none⟩=some (.pointer (some ⟨d.bX,0,none⟩)):=ag h.cell rfl;have c2:w.cell? ⟨d.bD,2,none⟩=some (.string d.text):=ag h.cell rfl;have HR:=aa (Ec h.sheet h.tx);have HL:=aa (λw' (hb:Below w.heap.size w w')=>Ba (h.below hb).sheet (h.below hb).tx);obtain ⟨so,sc,La⟩:=aC h.py;obtain ⟨ie,hl2,xC⟩:=h.len;have HS:=aa h
 obtain ⟨nl,fq⟩:∃nl,nl=d.es.length:=⟨_,rfl⟩;rw[ie,<-fq]at hl2 xC HL;have c3:w.cell? ⟨d.bD,3,none⟩=some (.slice so nl sc):=by rw[fq,<-La];exact ag h.cell rfl
 clear h ie fq La;go_enter Tryz.func13,Tryz.ntmps13;go_wp2_with fail;refine HR.out.mono ?_;rintro e w1 ⟨rfl,h1⟩;subst h1;clear HR;go_wp2_with fail
 go_region_held3 (λw'=>w'.cell? ⟨d.bD,0,none⟩=some (.pointer (some ⟨d.bX,0,none⟩))/\w'.cell? ⟨d.bD,2,none⟩=some (.string d.text)/\w'.cell? ⟨d.bD,3,none⟩=some (.slice so nl sc))
  (go_keep)
  (first|(go_at_call 23;refine (HL.out _ (Below.refl _ _).drew).mono ?_;clear HL;rintro e w2 ⟨rfl,h2⟩;subst h2))
 all_goals
  clear c0 c2;obtain ⟨W0,hW0⟩:∃W0,W0=w1.drew:=⟨_,rfl⟩;have hb0:Below w1.heap.size w1 W0:=by rw[hW0];exact (Below.refl _ _).drew
  rw[<-hW0];clear hW0;go_wp2_with fail;go_loopg [6] nl (λk' vi W=>L8 w1 nl k' vi W)
  case atStart=>exact ⟨0,rfl,by omega,hb0⟩
  case round=>
   obtain ⟨j,rfl,hjk,hbr⟩:=hrel;have k3:=ax c3 hbr;have ai:=aa (show Md w1 (.returned (.bool true)) wr from ⟨rfl,hbr⟩);by_cases hlt:j<nl
   ·have e1:decide ((j:Int)<(nl:Int))=true:=decide_eq_true (by omega);have hwr:IntKind.i64.wrap ((j:Int)+1)=(j:Int)+1:=by rw[IntKind.wrap_i64];omega
    cases each with
    | false=>
     clear hbr;go_wp2_with fail;go_ret;exact ai.out
    | true=>
     have Qn:=aa (pz wr d (j:Int) (HS.out.below hbr));have qH:=aa hbr;clear hbr ai;go_wp2_with fail;refine Qn.out.mono ?_;rintro e w2 ⟨hb2,v,bc,rfl,-⟩;have cL:=aa (qH.out.trans (hb2.mono qH.out.size));have HST:=aa (nI w2 d (j:Int) (HS.out.below cL.out));clear Qn qH hb2;go_wp2_with fail;refine HST.out.mono ?_;rintro e w3 ⟨hb3,v3,dp,rfl,-⟩
     have fB:=aa (cL.out.trans (hb3.mono cL.out.size));clear HST cL hb3;go_wp2_with fail;go_roundg (nl - (j+1))
     case measure=>omega
     case rel=>exact ⟨j+1,by simp,by omega,fB.out⟩
   ·have e1:decide ((j:Int)<(nl:Int))=false:=decide_eq_false (by omega);clear hbr;go_wp2_with fail;go_ret;exact ai.out
structure BD where
 bB:Nat
 P:Nat
 g:Nat
 n:Nat
 cap:Nat
 Pr:Nat
 gr:Nat
 nr:Nat
 cr:Nat
 Br:Nat
 N:Nat
 ss:List cd
 G:List GS
structure gS(w:World)(b:BD):Prop where
 cell:w.heap[b.bB]?=some (.cells #[.pointer (some ⟨b.P,0,none⟩),.pointer (some ⟨b.Pr,0,none⟩)] 86 (0,0))
 top:w.heap[b.P]?=some (.cells #[.slice (some ⟨b.g,0,none⟩) b.n b.cap] 38 (0,0))
 gD:∀w',Below b.N w w'->bR w' b.g b.n b.cap b.G
 rg:∀w',Below b.N w w'->RG w' b.Br b.Pr b.gr b.nr b.cr b.ss
 hN:b.N<=w.heap.size
 same:xF b.G b.ss
 ok:xD b.G
 pos:0<b.G.length
theorem gS.below{b:BD}(h:gS w b)(hb:Below w.heap.size w w'):gS w' b:=by
 have key:∀(t:TypeId) (k:Nat) c,w.heap[k]?=some (.cells c t (0,0))->w'.heap[k]?=some (.cells c t (0,0)):=λt k c hh=>(hb.block k (ae hh)).trans hh
 exact ⟨key _ _ _ h.cell,key _ _ _ h.top,λw2 hb2=>h.gD w2 ((hb.mono h.hN).trans hb2),λw2 hb2=>h.rg w2 ((hb.mono h.hN).trans hb2),Nat.le_trans h.hN hb.size,h.same,h.ok,h.pos⟩
def oA(s:ByteArray)(w:World)(e:Ending)(w':World):Prop:=Below w.heap.size w w'/\(e=.returned (.tuple #[.pointer none,.bool true])/\(∃ec a,ec≠0/\dt s.data.toList ec a [])∨∃b:BD,e=.returned (.tuple #[.pointer (some ⟨b.bB,0,none⟩),.bool true])/\gS w' b/\w.heap.size<=b.N/\b.N<=b.bB)
set_option maxRecDepth 20000 in
set_option maxHeartbeats 2000000 in
theorem iw(s:ByteArray)(w:World)(hm:Mx w)(hz:s.size<=maxLen):Calls Tryz.prog 11 #[.string s] w (oA s w):=by
 have HP:=aa (y9 s w hm);clear hm;go_enter Tryz.func11,Tryz.ntmps11;go_wp2_with fail;refine HP.out.mono ?_;rintro e w1 ⟨hb1,⟨ec,a,WG,rfl,Bp⟩|⟨P,B,ao,n,cap,ls,ss,rfl,Bp,hB,hM,hP⟩⟩
 ·have HR:=aa (rM s w1 hz);have bA:=aa hb1;clear hb1 HP;go_wp2_with fail;refine HR.out.mono ?_;rintro e w2 ⟨hb2,⟨ec',a',Uh,rfl,za⟩|⟨P',B',sv',IV,rfl,za,-⟩⟩
  ·obtain ⟨rfl,rfl,-⟩:=Bp.cX za;have ai:=aa (show oA s w (.returned (.tuple #[.pointer none,.bool true])) w2 from ⟨bA.out.trans (hb2.mono bA.out.size),.inl ⟨rfl,_,_,WG,Bp⟩⟩);have HN:=aa (dc ec w2);clear hb2 Bp za WG Uh bA HR;go_wp2_with fail;refine HN.out.mono ?_;rintro e w3 ⟨rfl,rfl⟩;clear HN;go_wp2_with fail
   exact bodyPost_ret (v:=.tuple #[.pointer none,.bool true]) (by simp[results,Tryz.results11,go_sem, *]) rfl ai.out
  ·exact absurd (Bp.cX za).1 WG
 ·have HR:=aa (rM s w1 hz);have bA:=aa hb1;have IX:=aa Bp;have HMD:=aa hM;have Me:=aa hP;clear hb1 HP hB hM hP Bp;go_wp2_with fail;refine HR.out.mono ?_;rintro e w2 ⟨hb2,⟨ec',a',Uh,rfl,za⟩|⟨P',B',sv',IV,rfl,za,hB',hG',Ya⟩⟩
  ·exact absurd (IX.out.cX za).1.symm Uh
  ·have ai:=aa (show oA s w (.returned (.tuple #[.pointer (some ⟨w2.heap.size,0,none⟩),.bool true])) (w2.alloc (.cells #[.pointer (some ⟨P,0,none⟩),.pointer (some ⟨P',0,none⟩)] 86)) from by
    obtain ⟨g,G,rfl,qA,hgr,dZ,hlg⟩:=IY HMD.out IX.out;obtain ⟨dr,sS,hsp⟩:=Qj IX.out za hlg;obtain ⟨px,cap',rfl,hao⟩:=hG'.form;obtain ⟨g',rfl⟩:=hao hsp;have zb:Below w.heap.size w w2:=bA.out.trans (hb2.mono bA.out.size)
    have hb3:Below w2.heap.size w2 (w2.alloc (.cells #[.pointer (some ⟨P,0,none⟩),.pointer (some ⟨P',0,none⟩)] 86)):=(Below.refl _ _).alloc (Nat.le_refl _) _
    refine ⟨zb.alloc zb.size _,.inr ⟨⟨w2.heap.size,P,g,n,cap,P',g',IV.length,cap',B',w2.heap.size,IV,G⟩,rfl,⟨af _ _,(hb3.block _ (by have:=ae Me.out;have:=hb2.size;show P<_;omega)).trans ((hb2.block _ (ae Me.out)).trans Me.out),λw' hb=>?_,λw' hb=>?_,by simp,dr,dZ,qA⟩,zb.size,Nat.le_refl _⟩⟩
    ·exact hgr w' (hb2.trans ((hb3.trans hb).mono hb2.size))
    ·exact RG.below ⟨hG',Ya,sS⟩ (hb3.trans hb))
   have HN:=aa (dc 0 w2);clear hb2 IX za bA HR HMD Me hG' Ya;go_wp2_with fail;refine HN.out.mono ?_;rintro e w3 ⟨rfl,rfl⟩;clear HN;go_wp2_with fail;exact bodyPost_ret (v:=.tuple #[.pointer (some ⟨w3.heap.size,0,none⟩),.bool true]) (by simp[results,Tryz.results11,go_sem, *]) rfl ai.out
theorem gu{t0:TypeId}(ho:aK (λk=>k=bD) w w')(hD:w.heap[bD]?=some (.cells c0 t0 f0)){k:Nat}{c:Array Value}{t:TypeId}{fz:Nat×Nat}(hk:w.heap[k]?=some (.cells c t fz))(ht:t≠t0):w'.heap[k]?=some (.cells c t fz):=by
 refine ho.same hk λe=>ht ?_
 have e':k=bD:=e;rw[e',hD]at hk;simp only[Option.some.injEq,Obj.cells.injEq]at hk;exact hk.2.1.symm
theorem bQ.Ui(h:bQ w B bS g n cap text lv ls work)(ho:aK (λk=>k=bD) w w')(hD:w.heap[bD]?=some (.cells c0 89 f0)):bQ w' B bS g n cap text lv ls work:=
 ⟨gu ho hD h.sh (by decide),h.eT.off ho (λk hk=>by rw[hk];exact h.eT.other hD (λc=>⟨by simp,by simp⟩)),h.base,h.size⟩
theorem bQ.below(h:bQ w B bS g n cap text lv ls work)(hb:Below w.heap.size w w'):bQ w' B bS g n cap text lv ls work:=
 ⟨(hb.block _ (ae h.sh)).trans h.sh,h.eT.below hb,h.base,h.size⟩
theorem pA{e:TypeId}{size:Nat}{v:Value}{xs:List Value}(h:w.ownsRow B e size v n xs)(ho:aK (λk=>k=bD) w w')(hD:w.heap[bD]?=some (.cells c0 89 f0))(he:e≠89):w'.ownsRow B e size v n xs:=bm h λ_ _ hk=>gu ho hD hk he
def jf(w:World)(b:BD)(text:ByteArray)(e:Ending)(w':World):Prop:=
 Below w.heap.size w w'/\(e=.returned (.tuple #[.pointer none,.bool true])/\3000<text.size∨∃d:SD,e=.returned (.tuple #[.pointer (some ⟨d.bD,0,none⟩),.bool true])/\cF w' d/\d.N=b.N/\d.text=text/\w.heap.size<=d.B/\d.B<=d.bD/\d.B<=d.bX/\d.G=b.G/\d.work<=3001)
set_option maxRecDepth 20000 in
set_option maxHeartbeats 4000000 in
theorem lr(w:World)(b:BD)(text:ByteArray)(h:gS w b)(hT:kK w)(hM:Mx w)(h0:1 < b.N)(A8:0 < b.N):
  Calls Tryz.prog 12 #[.pointer (some ⟨b.bB,0,none⟩),.string text] w (jf w b text):=by
 have c0:w.cell? ⟨b.bB,0,none⟩=some (.pointer (some ⟨b.P,0,none⟩)):=ag h.cell rfl;have hgr:=h.gD w (Below.refl _ _);have hn:0<b.n:=by rw[hgr.len];exact h.pos
 have PC:=aa (LK b.N b.P b.g b.n b.cap b.G text w h.top hn h.ok h.pos hT h0 h.gD h.hN hM A8);have HS:=aa h;clear h hT hM hgr;go_enter Tryz.func12,Tryz.ntmps12;go_wp2_with fail;refine PC.out.mono ?_;rintro e w1 ⟨hb1,⟨hz,rfl⟩|⟨hz,bX,bS,lv,ls,st,rfl,hx1,hbX,hs1,hr1⟩⟩
 ·have g1:decide ((3000:Int)<(text.size:Int))=true:=decide_eq_true (by omega);have ai:=aa (show jf w b text (.returned (.tuple #[.pointer none,.bool true])) w1 from ⟨hb1,.inl ⟨rfl,by omega⟩⟩);have HN:=aa (dc 1 w1);clear hb1 PC c0;go_wp2_with fail;refine HN.out.mono ?_;rintro e w2 ⟨rfl,h2⟩;subst h2;clear HN;go_wp2_with fail;go_ret2;exact ai.out
 ·have g1:decide ((3000:Int)<(text.size:Int))=false:=decide_eq_false (by omega);have c1:w1.cell? ⟨b.bB,1,none⟩=some (.pointer (some ⟨b.Pr,0,none⟩)):=ag (HS.out.below hb1).cell rfl;have HN:=aa (dc 0 w1);have HX:=aa (And.intro hx1 (And.intro hs1 hr1));have bA:=aa hb1;clear hb1 hx1 hs1 hr1 PC c0;go_wp2_with fail;refine HN.out.mono ?_;rintro e w2 ⟨rfl,h2⟩;subst h2
  clear HN;obtain ⟨bD,Eo⟩:∃bD,bD=w2.heap.size:=⟨_,rfl⟩;obtain ⟨wa,ze⟩:∃wa,w2.alloc (.cells #[.pointer (some ⟨bX,0,none⟩),.pointer (some ⟨b.Pr,0,none⟩),.string text,.slice none 0 0,.slice none 0 0,.int .i64 0] 89)=wa:=⟨_,rfl⟩;have iW:Below w2.heap.size w2 wa:=by rw[<-ze];exact (Below.refl _ _).alloc (Nat.le_refl _) _
  have hDa:wa.heap[bD]?=some (.cells #[.pointer (some ⟨bX,0,none⟩),.pointer (some ⟨b.Pr,0,none⟩),.string text,.slice none 0 0,.slice none 0 0,.int .i64 0] 89 (0,0)):=by rw[<-ze];exact aA _ _ _ Eo
  have Qo:Below w.heap.size w wa:=bA.out.trans (iW.mono bA.out.size);have c1a:wa.cell? ⟨b.bB,1,none⟩=some (.pointer (some ⟨b.Pr,0,none⟩)):=ag (HS.out.below Qo).cell rfl;have HST:=aa (nG b.Br b.Pr b.gr b.nr b.cr b.ss b.G text wa (HS.out.rg wa (Qo.mono HS.out.hN)) HS.out.same HS.out.ok HS.out.pos hz);have wQ:=aa iW;have Qp:=aa Qo;have Yb:=aa hDa
  clear iW Qo hDa;go_wp2_with fail;rw[<-Eo];refine HST.out.mono ?_;rintro e w3 ⟨vo,vs,es,st3,rfl,Mf,hs3,Lb,hr3,hb3⟩;obtain ⟨oo,oc,La⟩:=aC Mf;obtain ⟨so,sc,yQ⟩:=aC hs3;subst La;subst yQ;obtain ⟨nl,fq⟩:∃nl,nl=es.length:=⟨_,rfl⟩;rw[<-fq]at Mf hs3 ⊢;have sR:=aa fq;clear fq;have rP:=(hb3.block _ (ae Yb.out)).trans Yb.out
  have z3:w3.cell? ⟨bD,3,none⟩=some (.slice none 0 0):=ag rP rfl;have z3f:w3.frozen? ⟨bD,3,none⟩=false:=by simp[World.frozen?,rP]
  obtain ⟨w4,hw4⟩:∃w4,w3.setCell ⟨bD,3,none⟩ (.slice oo nl oc)=w4:=⟨_,rfl⟩;have xJ:w4.heap[bD]?=some (.cells #[.pointer (some ⟨bX,0,none⟩),.pointer (some ⟨b.Pr,0,none⟩),.string text,.slice oo nl oc,.slice none 0 0,.int .i64 0] 89 (0,0)):=by rw[<-hw4];simpa using heap_setCell_same w3 bD 3 (.slice oo nl oc) rP
  have o4:aK (λk=>k=bD) w3 w4:=by rw[<-hw4];exact aK.setCell (Y:=λk=>k=bD) (p:=⟨bD,3,none⟩) rfl rP (by decide) _
  have z4:w4.cell? ⟨bD,4,none⟩=some (.slice none 0 0):=ag xJ rfl;have z4f:w4.frozen? ⟨bD,4,none⟩=false:=by simp[World.frozen?,xJ]
  obtain ⟨w5,Ep⟩:∃w5,w4.setCell ⟨bD,4,none⟩ (.slice so nl sc)=w5:=⟨_,rfl⟩;have Mg:w5.heap[bD]?=some (.cells #[.pointer (some ⟨bX,0,none⟩),.pointer (some ⟨b.Pr,0,none⟩),.string text,.slice oo nl oc,.slice so nl sc,.int .i64 0] 89 (0,0)):=by rw[<-Ep];simpa using heap_setCell_same w4 bD 4 (.slice so nl sc) xJ
  have o5:aK (λk=>k=bD) w3 w5:=o4.trans (by rw[<-Ep];exact aK.setCell (Y:=λk=>k=bD) (p:=⟨bD,4,none⟩) rfl xJ (by decide) _);have z5:w5.cell? ⟨bD,5,none⟩=some (.int .i64 0):=ag Mg rfl;have z5f:w5.frozen? ⟨bD,5,none⟩=false:=by simp[World.frozen?,Mg]
  obtain ⟨w6,GH⟩:∃w6,w5.setCell ⟨bD,5,none⟩ (.int .i64 nl)=w6:=⟨_,rfl⟩;have Uj:w6.heap[bD]?=some (.cells #[.pointer (some ⟨bX,0,none⟩),.pointer (some ⟨b.Pr,0,none⟩),.string text,.slice oo nl oc,.slice so nl sc,.int .i64 nl] 89 (0,0)):=by rw[<-GH];simpa using heap_setCell_same w5 bD 5 (.int .i64 nl) Mg
  have o6:aK (λk=>k=bD) w3 w6:=o5.trans (by rw[<-GH];exact aK.setCell (Y:=λk=>k=bD) (p:=⟨bD,5,none⟩) rfl Mg (by decide) _);have z63:w6.cell? ⟨bD,3,none⟩=some (.slice oo nl oc):=ag Uj rfl;have z65:w6.cell? ⟨bD,5,none⟩=some (.int .i64 nl):=ag Uj rfl;have Qq:Below w2.heap.size w2 w3:=wQ.out.trans (hb3.mono wQ.out.size)
  have Pu:ls.length=nl:=by have h:=congrArg List.length (HX.out.2.2.cX hr3).1;simp only[List.length_map]at h;rw[h,sR.out]
  have Qr:=HX.out.2.1.below Qq;rw[Pu]at Qr;have Uk:=(Qq.block _ (ae HX.out.1)).trans HX.out.1;have IZ:=aa (ox (Qr.Ui o5 rP) (gu o5 rP Uk (by decide)))
  have ai:=aa (λm=>show jf w b text (.returned (.tuple #[.pointer (some ⟨bD,0,none⟩),.bool true])) (w6.drewN m) from by
   have aa9:w.heap.size<=bD:=by rw[Eo];exact bA.out.size
   have ow:Below w.heap.size w w3:=bA.out.trans (Qq.mono bA.out.size);have Qs:Below w.heap.size w w6:=⟨o6.os.trans ow.os,o6.tape.trans ow.tape,o6.output.trans ow.output,Nat.le_trans ow.size o6.size,λk hk=>(o6.keep k ⟨Nat.lt_of_lt_of_le hk ow.size,by omega⟩).trans (ow.block k hk)⟩
   have X8:nl<=3001:=by have h1:=hr3.length;rw[List.length_map,aS]at h1;have h2:=List.count_le_length (a:=(10:UInt8)) (l:=text.data.toList);rw[ah]at h2;have h3:=sR.out;omega
   refine ⟨Below.drewN' Qs m,.inr ⟨⟨bD,bX,bS,b.g,b.n,b.cap,b.Pr,b.gr,b.nr,b.cr,b.Br,w.heap.size,b.N,text,lv,.slice oo nl oc,.slice so nl sc,ls,es,nl,b.ss,b.G⟩,rfl,cF.drew ?_ m,rfl,rfl,Nat.le_refl _,aa9,hbX,rfl,X8⟩⟩
   refine ⟨Uj,gu o6 rP Uk (by decide),Qr.Ui o6 rP,?_,?_,λe he=>⟨(Lb e he).1.keep λc fz hh=>gu o6 rP hh (by decide),?_,(Lb e he).2.2⟩,⟨st,HX.out.2.2⟩,⟨st3,hr3⟩,λw' hb=>HS.out.gD w' ((Qs.mono HS.out.hN).trans hb),λw' hb=>HS.out.rg w' ((Qs.mono HS.out.hN).trans hb),Nat.le_trans HS.out.hN Qs.size,HS.out.same,HS.out.ok,HS.out.pos⟩
   ·have h:=pA (dn Mf Qp.out.size) o6 rP (by decide);show w6.ownsRow _ _ _ _ es.length _;rw[<-sR.out];exact h
   ·have h:=pA (dn hs3 Qp.out.size) o6 rP (by decide);show w6.ownsRow _ _ _ _ es.length _;rw[<-sR.out];exact h
   ·exact pA (dn (Lb e he).2.1 Qp.out.size) o6 rP (by decide))
  clear rP xJ Mg Uj o4 o5 o6 Qq Pu Qr Uk Mf hs3 Lb hr3 hb3 HX HST Yb wQ Qp bA Eo c1 c1a ze;go_wp2_with fail;refine IZ.out.mono ?_;rintro e w7 ⟨rfl,h7⟩;subst h7;clear IZ;go_wp2_with fail;go_quiet (fail);go_wp2_with fail;go_ret2;exact ai.out _
end Go.Proofs.YtgncgdkpkkdaeaaGreatDoor
