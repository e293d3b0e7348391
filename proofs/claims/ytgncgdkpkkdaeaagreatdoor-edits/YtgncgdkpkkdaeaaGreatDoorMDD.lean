import Derived.Test.YtgncgdkpkkdaeaaGreatDoorMDB
namespace Go.Proofs.YtgncgdkpkkdaeaaGreatDoor
open Go.RowKit aO Go.Maps Go.Shelf
def QO(w:World)(sb of:Nat):Prop:=∃(kd k a b:Int) (tx more:ByteArray),(tx.size<=reachBytes/\more.size<=reachBytes/\(Lit.int .i64 k).wf=true/\(Lit.int .i64 a).wf=true)/\w.cell? ⟨sb,of,none⟩=some (.int .i64 kd)/\w.cell? ⟨sb,of+1,none⟩=some (.int .i64 k)/\w.cell? ⟨sb,of+2,none⟩=some (.int .i64 a)/\w.cell? ⟨sb,of+3,none⟩=some (.int .i64 b)/\w.cell? ⟨sb,of+4,none⟩=some (.string tx)/\w.cell? ⟨sb,of+5,none⟩=some (.string more)
def B8(w:World)(v:Value)(n:Nat):Prop:=n<=100000000000000/\∃(ao:Option Addr) (c:Nat),v=.slice ao n c/\∀j,j<n->∃sb of,ao=some ⟨sb,of,none⟩/\QO w sb (of+j*6)
theorem QO.below{w w':World}{sb of:Nat}(h:QO w sb of)(hb:Below w.heap.size w w'):QO w' sb of:=by obtain ⟨kd,k,a,b,tx,more,h0,h1,h2,h3,h4,h5,h6⟩:=h;exact ⟨kd,k,a,b,tx,more,h0,ax h1 hb,ax h2 hb,ax h3 hb,ax h4 hb,ax h5 hb,ax h6 hb⟩
def EK(w:World)(n B bD:Nat)(k:Nat)(vo vi:Value)(wr:World):Prop:=
 ∃(j:Nat) (d:SD),vi=.int .i64 j/\vo=.bool true/\j+k=n/\dg wr d/\d.B=B/\d.bD=bD/\d.work<=3001+j*3001/\Below w.heap.size w wr
set_option maxRecDepth 20000 in
set_option maxHeartbeats 4000000 in
theorem EL(s text:ByteArray)(v:Value)(n:Nat)(w:World)(hT:kK w)(hm:Mx w)(hz:s.size<=maxLen)(hv:B8 w v n):Calls Tryz.prog 4 #[.string s,.string text,v] w λe w'=>e=.returned (.bool true)/\Below w.heap.size w w':=by
 have t0:1 < w.heap.size:=dw (hT 0 (by decide));have m0:0 < w.heap.size:=by obtain ⟨m,h⟩:=hm;exact dw h
 obtain ⟨hn,K9,fk,rfl,YS⟩:=hv;have abo:=aa YS;have HL:=aa (iw s w hm hz);have HK:=aa (And.intro hT hm);clear hT hm YS;go_enter Tryz.func4,Tryz.ntmps4;go_wp2_with fail;refine HL.out.mono ?_;rintro e w1 ⟨hb1,⟨rfl,-⟩|⟨b,rfl,hB,hN,YH⟩⟩
 ·have ai:=aa hb1;clear hb1 HL;go_wp2_with fail;go_ret;exact ⟨rfl,ai.out⟩
 ·have HO:=aa (lr w1 b text hB (HK.out.1.below hb1) (HK.out.2.below hb1) (Nat.lt_of_lt_of_le t0 hN) (Nat.lt_of_lt_of_le m0 hN));have bA:=aa hb1;have HBN:=aa (And.intro hB.hN hN);clear hb1 hB HL;go_wp2_with fail;refine HO.out.mono ?_;rintro e w2 ⟨hb2,⟨rfl,-⟩|⟨d,rfl,hS,Ta,hdt,UT,UU,YT,-,hdw⟩⟩
  ·have ai:=aa (bA.out.trans (hb2.mono bA.out.size));clear hb2 HO;go_wp2_with fail;go_ret;exact ⟨rfl,ai.out⟩
  ·have Jj:=bA.out.trans (hb2.mono bA.out.size);have dZ:dg w2 d:=⟨hS,HK.out.1.below Jj,HK.out.2.below Jj,by rw[Ta];exact Nat.lt_of_lt_of_le t0 hN,by rw[Ta];exact Nat.lt_of_lt_of_le m0 hN,by rw[Ta];exact Nat.le_trans HBN.out.1 UT,UU,YT⟩;have hwB:w.heap.size<=d.B:=Nat.le_trans bA.out.size UT
   have Pz:=aa (show EK w n d.B d.bD n (.bool true) (.int .i64 0) w2 from ⟨0,d,rfl,rfl,by omega,dZ,rfl,rfl,by omega,Jj⟩);clear hb2 hS HO dZ Jj Ta hdt UT UU YT;have HWB:=aa hwB;obtain ⟨bD,Eo⟩:∃bD,bD=d.bD:=⟨_,rfl⟩;obtain ⟨B0,Ld⟩:∃B0,B0=d.B:=⟨_,rfl⟩;rw[<-Eo,<-Ld]at Pz;rw[<-Ld]at HWB;rw[<-Eo];clear hwB Eo Ld hdw;go_wp2_with fail
   go_loopg [8,10] n (λk vo vi wr=>EK w n B0 bD k vo vi wr)
   case atStart=>exact Pz.out
   case round=>
    obtain ⟨j,d2,rfl,rfl,hjk,QP,dW,DN,hw2,hbr⟩:=hrel;by_cases hlt:j<n
    ·have g1:decide ((j:Int)<(n:Int))=true:=decide_eq_true (by omega);have hwr:IntKind.i64.wrap ((j:Int)+1)=(j:Int)+1:=by rw[IntKind.wrap_i64];omega
     obtain ⟨sb,of,hao,hop⟩:=abo.out j hlt;subst hao;obtain ⟨kd,k,a,b',tx,more,h0,y0,y1,y2,y3,y4,y5⟩:=hop.below hbr;have rO:=aa (MQ wr d2 kd k a b' tx more QP (by omega) (Nat.le_trans h0.1 (by decide)));rw[DN]at rO
     have eM:=aa (λe w' (hp:bO wr d2 e w')=>show EK w n B0 bD (n - (j+1)) (.bool true) (.int .i64 ((j:Int)+1)) w' from by
      obtain ⟨_,hb,_,d3,h1,⟨h2,h3,h4⟩,_⟩:=hp;have hl:w.heap.size<=d2.B:=by rw[dW];exact HWB.out
      refine ⟨j+1,d3,by simp,rfl,by omega,h1,by rw[h2,dW],by rw[h3,DN],by omega,hbr.trans (hb.mono hl)⟩)
     clear QP hbr hop hw2;go_wp2_with fail;refine rO.out.mono ?_;rintro e w4 hp;have HST:=aa (eM.out e w4 hp);obtain ⟨rfl,-⟩:=hp;clear eM rO;go_wp2_with fail;go_roundg (n - (j+1))
     case measure=>omega
     case rel=>exact HST.out
    ·have g1:decide ((j:Int)<(n:Int))=false:=decide_eq_false (by omega);have HW:=aa (mI wr d2 true QP.is);rw[DN]at HW;have qH:=aa hbr;clear QP hbr hw2;go_wp2_with fail;refine HW.out.mono ?_;rintro e w3 ⟨rfl,hb3⟩;have ai:=aa (qH.out.trans (hb3.mono qH.out.size));clear hb3 HW qH;go_wp2_with fail;go_ret;exact ⟨rfl,ai.out⟩
end Go.Proofs.YtgncgdkpkkdaeaaGreatDoor
