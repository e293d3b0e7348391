import Derived.Test.YtgncgdkpkkdaeaaGreatDoorMTA
import Derived.Test.YtgncgdkpkkdaeaaGreatDoorMD
import Derived.Maps.AppendAt
namespace Go.Proofs.YtgncgdkpkkdaeaaGreatDoor.Ref
open Go.RowKit aO
variable {bad:Bool} {S:ByteArray} {on:List Bool} {xs:List Value} {A B X a1 at_ n nb size:Nat} {K:Nat->Prop} {r:Re} {e:TypeId} {sv v:Value} {w w':World}
def Ie(kind:Nat)(rs:List Re)(r:Re):Prop:=
 (kind=38/\r=bu rs)∨(kind=124/\∃r0 rs',rs=r0::rs'/\r=rs'.foldl Re.alt r0)∨(kind=42/\∃q,rs=[q]/\r=.star q)∨(kind=43/\∃q,rs=[q]/\r=.plus q)∨(kind=63/\∃q,rs=[q]/\r=.eU q)
inductive cP(w:World)(K:Nat->Prop):Value->Re->Prop where
 | cY {p A:Nat} {on:List Bool} {c:eC}:K p->K A->gz w p 99 (.slice (some ⟨A,0,none⟩) 256 256) (.slice none 0 0)->RT w A on->Lz on c->cP w K (.pointer (some ⟨p,0,none⟩)) (.cY c)
 | many {p kind:Nat} {sv:Value} {vs:List Value} {rs:List Re} {r:Re}:K p->gz w p kind (.slice none 0 0) sv->w.ownsRow 0 199 1 sv vs.length vs->(∀k,sv.ownBlock=some k->K k)->vs.length=rs.length ->
   (∀(i:Nat) (v:Value) (q:Re),vs[i]?=some v->rs[i]?=some q->cP w K v q)->Ie kind rs r->cP w K (.pointer (some ⟨p,0,none⟩)) r
theorem dJ(h:w.ownsRow B e size sv n xs)(hk:∀k,sv.ownBlock=some k->w'.heap[k]?=w.heap[k]?):w'.ownsRow B e size sv n xs:=by
 obtain ⟨h1,h2⟩:=h;refine ⟨h1,?_⟩;rcases h2 with h2|⟨g,cap,cur,hv,hg,hh,r⟩
 ·exact .inl h2
 ·exact .inr ⟨g,cap,cur,hv,hg,by rw[hk g (by rw[hv];rfl)];exact hh,r⟩
theorem cP.keep(h:cP w K v r)(hk:∀k,K k->w'.heap[k]?=w.heap[k]?):cP w' K v r:=by
 induction h with
 | cY h1 h2 h3 h4 h5=>exact .cY h1 h2 ((hk _ h1).trans h3) ⟨(hk _ h2).trans h4.1,h4.2⟩ h5
 | many h1 h2 h3 h4 h5 _ h7 ih=>exact .many h1 ((hk _ h1).trans h2) (dJ h3 λk e=>hk k (h4 k e)) h4 h5 ih h7
theorem cP.mono{K':Nat->Prop}(h:cP w K v r)(hk:∀k,K k->K' k):cP w K' v r:=by
 induction h with
 | cY h1 h2 h3 h4 h5=>exact .cY (hk _ h1) (hk _ h2) h3 h4 h5
 | many h1 h2 h3 h4 h5 _ h7 ih=>exact .many (hk _ h1) h2 h3 (λk e=>hk k (h4 k e)) h5 ih h7
theorem cP.ptr(h:cP w K v r):∃p,v=.pointer (some ⟨p,0,none⟩)/\K p:=by
 cases h with
 | cY h1=>exact ⟨_,rfl,h1⟩
 | many h1=>exact ⟨_,rfl,h1⟩
theorem cJ(h:w.ownsRow B e size sv n xs){k:Nat}(hk:sv.ownBlock=some k):B<=k/\k<w.heap.size:=by
 rcases h.2 with ⟨rfl,_⟩|⟨g,cap,cur,rfl,hg,hh,_⟩
 ·cases hk
 ·cases hk;exact ⟨hg,ae hh⟩
theorem cP.bound(h:cP w K v r):cP w (λk=>K k/\k<w.heap.size) v r:=by
 induction h with
 | cY h1 h2 h3 h4 h5=>exact .cY ⟨h1,ae h3⟩ ⟨h2,ae h4.1⟩ h3 h4 h5
 | many h1 h2 h3 h4 h5 _ h7 ih=>exact .many ⟨h1,ae h2⟩ h2 h3 (λk e=>⟨h4 k e,(cJ h3 e).2⟩) h5 ih h7
theorem cP.ap(h:cP w (λk=>B<=k) v r)(hX:X<B)(hap:Ap X w w'):cP w' (λk=>B<=k) v r:=
 (h.bound.keep (λk hk=>hap.keep k hk.2 (by have:=hk.1;omega))).mono (λ_ hk=>hk.1)
def ej(P:List UInt8->Option (Re×List UInt8)->Prop)(X:Nat)(S:ByteArray)(at_:Nat)(w:World)(e:Ending)(w':World):Prop:=
 ∃(v:Value) (a1:Nat) (bad:Bool),e=.returned v/\Ap X w w'/\aZ w' X S a1 bad/\(∃p,v=.pointer (some ⟨p,0,none⟩)) /\
  ((bad=false/\a1<=S.size/\∃r,P (rest S at_) (some (r,rest S a1))/\cP w' (λk=>w.heap.size<=k) v r)∨(bad=true/\a1+at_<=2*S.size+1/\P (rest S at_) none))
def Ig(n:Nat):Prop:=∀(X:Nat) (S:ByteArray) (at_:Nat) (w:World),aZ w X S at_ false->S.size<=60->at_<=S.size->S.size - at_<n ->
 Calls Tryz.prog 103 #[.pointer (some ⟨X,0,none⟩)] w (ej bh X S at_ w)
theorem Cs.tree{wr:World}{c:eC}(h:Cs X S w A nb wr a1 bad on)(hc:Lz on c):cP wr (λk=>w.heap.size<=k) (.pointer (some ⟨nb,0,none⟩)) (.cY c):=
 .cY h.iE h.hA h.node h.Ia hc
theorem RV(h:∀m,m<256->on[m]?=some true):Lz on .any:=λb=>h _ b.toNat_lt
theorem RX(b:UInt8):Lz (cA.set b.toNat true) (.range b b):=λd=>by
 have hb:b.toNat<256:=b.toNat_lt;have hd:d.toNat<256:=d.toNat_lt;rw[List.getElem?_set];by_cases h:b.toNat=d.toNat
 ·rw[if_pos h,if_pos (by unfold cA;rw[List.length_replicate];exact hb)];simp[eC.has,h]
 ·rw[if_neg h,mq hd];simp only[eC.has,Option.some.injEq];rcases Nat.lt_or_ge d.toNat b.toNat with h1|h1
  ·have:decide (b.toNat<=d.toNat)=false:=by simp;omega
   rw[this];rfl
  ·have:decide (d.toNat<=b.toNat)=false:=by simp;omega
   rw[this,Bool.and_false]
def RY(X:Nat)(S:ByteArray)(w:World)(A nb:Nat)(a1:Nat)(k:Nat)(vc:Value)(wr:World):Prop:=
 ∃(on:List Bool) (j:Nat),vc=.int .i64 j/\j+k=256/\Cs X S w A nb wr a1 false on/\∀m,m<j->on[m]?=some true
theorem OI{j m:Nat}(hl:on.length=256)(hj:j<256)(h:∀m,m<j->on[m]?=some true)(hm:m<j+1):(on.set j true)[m]?=some true:=by
 rw[List.getElem?_set];by_cases TH:j=m
 ·rw[if_pos TH,if_pos (by omega)]
 ·rw[if_neg TH];exact h m (by omega)
theorem tN.parts{e:Ending}(h:tN X S at_ w e w'):∃(b:UInt8) (a1:Nat) (bad:Bool),e=.returned (.int .u8 b.toNat)/\Ap X w w'/\aZ w' X S a1 bad/\a1<=S.size/\((bad=false/\dC (rest S at_)=some (b,rest S a1))∨(bad=true/\dC (rest S at_)=none)):=by
 obtain ⟨hap,b,a1,he,ha,⟨h1,_,h3⟩|⟨h1,h3⟩⟩:=h
 ·exact ⟨b,a1,false,he,hap,h3,ha,.inl ⟨rfl,h1⟩⟩
 ·exact ⟨b,a1,true,he,hap,h3,ha,.inr ⟨rfl,h1⟩⟩
theorem Kl{w1 w4:World}{b:UInt8}(hlt:at_<S.size)(hap:Ap X w w1)(hcs:Cs X S w1 A nb w4 a1 bad cA)(ha1:a1<=S.size)
  (hA:aT (rest S at_) ((dC (rest S at_)).map λp=>(Re.cY (eC.range p.1 p.1),p.2))) (ho:(bad=false/\dC (rest S at_)=some (b,rest S a1))∨(bad=true/\dC (rest S at_)=none)):
  ej aT X S at_ w (.returned (.pointer (some ⟨nb,0,none⟩))) (w4.setCell ⟨A,b.toNat,none⟩ (.bool true)):=by
 have h1:=hcs.put b.toNat true;refine ⟨_,a1,bad,rfl,hap.trans h1.ap,h1.scan,⟨nb,rfl⟩,?_⟩;rcases ho with ⟨rfl,h⟩|⟨rfl,h⟩
 ·rw[h]at hA;exact .inl ⟨rfl,ha1,_,hA,(h1.tree (RX b)).mono (λk hk=>Nat.le_trans hap.size hk)⟩
 ·rw[h]at hA;exact .inr ⟨rfl,by omega,hA⟩
set_option maxRecDepth 20000 in
set_option maxHeartbeats 4000000 in
theorem uA(n:Nat)(hC:Ig n)(X:Nat)(S:ByteArray)(at_:Nat)(w:World)(h:aZ w X S at_ false)(oI:S.size<=60)(hlt:at_<S.size)(hn:S.size - at_<=n):
  Calls Tryz.prog 183 #[.pointer (some ⟨X,0,none⟩)] w (ej aT X S at_ w):=by
 obtain ⟨c0,c1,c2,f1,f2⟩:=h.cells;have H0:=aa h;have hr:=br hlt;have TD:at_<=60:=by omega
 obtain ⟨a0,ha0⟩:∃a0,a0=at_+1:=⟨_,rfl⟩;have yB:a0<=S.size:=by omega
 have acP:a0<=60:=by omega
 rw[<-ha0]at hr;have HA0:=aa ha0;have HN:=aa hn;have HC:=aa hC;have HM:=aa (show ∀W,aZ W X S at_ false->aZ (W.setCell ⟨X,1,none⟩ (.int .i64 ((at_:Int)+1))) X S a0 false from λW hW=>by rw[ha0];exact hW.move (at_+1));clear h ha0 hn hC;by_cases DU:S[at_]=40
 ·have q40:(((S[at_]).toNat:Int)==40)=true:=by rw[DU];rfl
  rw[DU]at hr;have HR:=aa hr;clear hr DU;go_enter Tryz.func183,Tryz.ntmps183;go_wp2_with fail;go_quiet (fail)
  rename Nat=>oZ
  have H1:=aa (H0.out.drewN oZ);have P6:=aa ((Ap.refl X w).drewN oZ);have HX:=aa H0.out.lt;clear c0 c1 c2 f1 f2 H0;obtain ⟨c0,c1,c2,f1,f2⟩:=H1.out.cells;generalize w.drewN oZ=w1 at *;go_wp2_with fail;have H2:=aa (HM.out w1 H1.out);have qi:=aa (P6.out.setCell (p:=⟨X,1,none⟩) rfl (.int .i64 ((at_:Int)+1)));clear c0 c1 c2 f1 f2 H1 P6 HM
  generalize w1.setCell ⟨X,1,none⟩ (.int .i64 ((at_:Int)+1))=w2 at *;refine (HC.out X S a0 w2 H2.out oI yB (by have:=HN.out;have:=HA0.out;omega)).mono ?_;rintro e w3 ⟨v,a1,bad,rfl,hap,hsc,⟨p,rfl⟩,⟨rfl,ha1,r,hP,hN⟩|⟨rfl,hb,hP⟩⟩
  ·have H3:=aa hsc;have OJ:=aa (qi.out.trans hap);have HT:=aa (hN.mono (K':=λk=>w.heap.size<=k) (λk hk=>Nat.le_trans qi.out.size hk));have HP:=aa hP;clear hsc hap hN hP H2 qi;go_wp2_with fail;refine (kG 41 X S a1 false w3 H3.out).mono ?_;rintro e w4 ⟨rfl,n4,rfl⟩;have H4:=aa (H3.out.drewN n4);have OL:=aa ((Ap.refl X w3).drewN n4);clear H3
   generalize w3.drewN n4=w4 at *;obtain ⟨c0,c1,c2,f1,f2⟩:=H4.out.cells;have aaC:a1<=60:=by omega
   by_cases XH:(rest S a1).head?=some 41
   ·have OM:((rest S a1).head? == some 41)=true:=by rw[XH];rfl
    rw[OM];obtain ⟨iD,hr2⟩:=mY XH;have lF:=aa hr2;clear OM XH hr2;go_wp2_with fail;go_ret;have aaF:=OL.out.setCell (p:=⟨X,1,none⟩) rfl (.int .i64 ((a1:Int)+1));exact ⟨_,a1+1,false,rfl,OJ.out.trans aaF,H4.out.move (a1+1),⟨p,rfl⟩,.inl ⟨rfl,by omega,r,by rw[HR.out];exact .paren (by rw[<-lF.out];exact HP.out),HT.out.ap HX.out aaF⟩⟩
   ·have OM:((rest S a1).head? == some 41)=false:=by rw[beq_eq_false_iff_ne];exact XH
    rw[OM];have H41:=aa XH;clear OM XH;go_wp2_with fail;go_ret;exact ⟨_,a1+1,true,rfl,OJ.out.trans ((OL.out.setCell (p:=⟨X,2,none⟩) rfl (.bool true)).setCell (p:=⟨X,1,none⟩) rfl (.int .i64 ((a1:Int)+1))),(H4.out.sD true).move (a1+1),⟨p,rfl⟩,.inr ⟨rfl,by omega,by rw[HR.out];exact .fu HP.out H41.out⟩⟩
  ·have H3:=aa hsc;have OJ:=aa (qi.out.trans hap);have HP:=aa hP;clear hsc hap hP H2 qi;go_wp2_with fail;refine (kG 41 X S a1 true w3 H3.out).mono ?_;rintro e w4 ⟨rfl,n4,rfl⟩;have H4:=aa (H3.out.drewN n4);have OL:=aa (OJ.out.drewN n4);clear H3 OJ;generalize w3.drewN n4=w4 at *;obtain ⟨c0,c1,c2,f1,f2⟩:=H4.out.cells;have acp:a1<=200:=by omega
   have HB:=aa hb;clear hb;obtain ⟨bd,Kb⟩:∃bd,((rest S a1).head? == some 41)=bd:=⟨_,rfl⟩;rw[Kb];clear Kb;cases bd
   ·go_wp2_with fail;go_ret;exact ⟨_,a1+1,true,rfl,(OL.out.setCell (p:=⟨X,2,none⟩) rfl (.bool true)).setCell (p:=⟨X,1,none⟩) rfl (.int .i64 ((a1:Int)+1)),(H4.out.sD true).move (a1+1),⟨p,rfl⟩,.inr ⟨rfl,by have:=HB.out;have:=HA0.out;omega,by rw[HR.out];exact .fH HP.out⟩⟩
   ·go_wp2_with fail;go_ret;exact ⟨_,a1+1,true,rfl,OL.out.setCell (p:=⟨X,1,none⟩) rfl (.int .i64 ((a1:Int)+1)),H4.out.move (a1+1),⟨p,rfl⟩,.inr ⟨rfl,by have:=HB.out;have:=HA0.out;omega,by rw[HR.out];exact .fH HP.out⟩⟩
 ·have q40:(((S[at_]).toNat:Int)==40)=false:=by rw[beq_eq_false_iff_ne];intro h;exact DU (UInt8.toNat_inj.1 (by simp;omega))
  by_cases V9:S[at_]=91
  ·have q91:(((S[at_]).toNat:Int)==91)=true:=by rw[V9];rfl
   rw[V9]at hr;have HR:=aa hr;clear hr DU V9;go_enter Tryz.func183,Tryz.ntmps183;go_wp2_with fail;go_quiet (fail)
   rename Nat=>oZ
   have H1:=aa (H0.out.drewN oZ);have P6:=aa ((Ap.refl X w).drewN oZ);clear c0 c1 c2 f1 f2 H0;obtain ⟨c0,c1,c2,f1,f2⟩:=H1.out.cells;generalize w.drewN oZ=w1 at *;go_wp2_with fail;have H2:=aa (HM.out w1 H1.out);have qi:=aa (P6.out.setCell (p:=⟨X,1,none⟩) rfl (.int .i64 ((at_:Int)+1)));clear c0 c1 c2 f1 f2 H1 P6 HM
   generalize w1.setCell ⟨X,1,none⟩ (.int .i64 ((at_:Int)+1))=w2 at *;refine (qL X S a0 w2 H2.out oI yB).mono ?_;rintro e w3 ⟨A,nb,a1,bad,on,rfl,ha1,hcs,⟨rfl,c,hT,hP⟩|⟨rfl,hP⟩⟩
   ·have ai:=aa (show ej aT X S at_ w (.returned (.pointer (some ⟨nb,0,none⟩))) w3 from ⟨_,a1,false,rfl,qi.out.trans hcs.ap,hcs.scan,⟨nb,rfl⟩,.inl ⟨rfl,ha1,.cY c,by rw[HR.out];exact aT.cY (o:=some (c,rest S a1)) hP,(hcs.tree hT).mono (λk hk=>Nat.le_trans qi.out.size hk)⟩⟩);clear hcs hT hP H2 qi;go_wp2_with fail;go_ret;exact ai.out
   ·have ai:=aa (show ej aT X S at_ w (.returned (.pointer (some ⟨nb,0,none⟩))) w3 from ⟨_,a1,true,rfl,qi.out.trans hcs.ap,hcs.scan,⟨nb,rfl⟩,.inr ⟨rfl,by omega,by rw[HR.out];exact aT.cY (o:=none) hP⟩⟩);clear hcs hP H2 qi;go_wp2_with fail;go_ret;exact ai.out
  ·have q91:(((S[at_]).toNat:Int)==91)=false:=by rw[beq_eq_false_iff_ne];intro h;exact V9 (UInt8.toNat_inj.1 (by simp;omega))
   by_cases XI:S[at_]=46
   ·have q46:(((S[at_]).toNat:Int)==46)=true:=by rw[XI];rfl
    rw[XI]at hr;have HR:=aa hr;clear hr DU V9 XI;go_enter Tryz.func183,Tryz.ntmps183;go_wp2_with fail;go_quiet (fail)
    rename Nat=>oZ
    have H1:=aa (H0.out.drewN oZ);have P6:=aa ((Ap.refl X w).drewN oZ);clear c0 c1 c2 f1 f2 H0;obtain ⟨c0,c1,c2,f1,f2⟩:=H1.out.cells;generalize w.drewN oZ=w1 at *;have hmk:=oT (w1.setCell ⟨X,1,none⟩ (.int .i64 ((at_:Int)+1)));have hsz:(w1.setCell ⟨X,1,none⟩ (.int .i64 ((at_:Int)+1))).heap.size=w1.heap.size:=by simp[World.setCell]
    rw[hsz]at hmk;have OO:=aa (Cs.start (HM.out w1 H1.out));have qi:=aa (P6.out.setCell (p:=⟨X,1,none⟩) rfl (.int .i64 ((at_:Int)+1)));go_wp2_with fail;obtain ⟨nb,iE⟩:∃nb,nb=w1.heap.size+1:=⟨_,rfl⟩;obtain ⟨A,hA⟩:∃A,A=w1.heap.size:=⟨_,rfl⟩;rw[<-iE,<-hA];have F5:=aa OO.out;rw[hsz,<-iE,<-hA]at F5;clear OO hmk iE hA hsz c0 c1 c2 f1 f2 H1 HM P6
    generalize w1.setCell ⟨X,1,none⟩ (.int .i64 ((at_:Int)+1))=w2 at *;generalize (w2.alloc (.cells (bools cA) 4)).alloc (.cells #[.int .u8 99,.slice (some ⟨A,0,none⟩) 256 256,.slice none 0 0] 267)=w3 at *;go_loopg [6] 256 (λk vc wr=>RY X S w2 A nb a0 k vc wr)
    case atStart=>exact ⟨cA,0,rfl,rfl,F5.out,λm hm=>by omega⟩
    case round=>
     obtain ⟨on,j,rfl,hj,hcs,TG⟩:=hrel;have vA:=aa hcs;have RZ:=aa TG;obtain ⟨c0,c1,c2,f1,f2,c3⟩:=vA.out.cells;clear hcs TG
     cases gk with
     | zero=>
      obtain rfl:j=256:=by omega
      have ai:=aa (show ej aT X S at_ w (.returned (.pointer (some ⟨nb,0,none⟩))) wr from ⟨_,a0,false,rfl,qi.out.trans vA.out.ap,vA.out.scan,⟨nb,rfl⟩,.inl ⟨rfl,yB,.cY .any,by rw[HR.out];exact .dot,(vA.out.tree (RV RZ.out)).mono (λk hk=>Nat.le_trans qi.out.size hk)⟩⟩);go_wp2_with fail;go_ret;exact ai.out
     | succ k=>
      have ed:j<256:=by omega
      have XG:decide ((j:Int)<256)=true:=by simp;omega
      obtain ⟨b2,hb2⟩:∃b2,on[j]?=some b2:=⟨_,List.getElem?_eq_getElem (by rw[vA.out.Ia.2];exact ed)⟩;obtain ⟨o1,o2⟩:=vA.out.bit hb2;clear hb2;go_wp2_with fail;go_roundg k
      case measure=>omega
      case rel=>exact ⟨on.set j true,j+1,rfl,by omega,vA.out.put j true,λm hm=>OI vA.out.Ia.2 ed RZ.out hm⟩
   ·have q46:(((S[at_]).toNat:Int)==46)=false:=by rw[beq_eq_false_iff_ne];intro h;exact XI (UInt8.toNat_inj.1 (by simp;omega))
    have HA:=aa (aT.one (s:=rest S at_) (by rw[hr];simpa using DU) (by rw[hr];simpa using XI) (by rw[hr];simpa using V9));clear hr DU V9 XI;go_enter Tryz.func183,Tryz.ntmps183;go_wp2_with fail;go_quiet (fail)
    rename Nat=>oZ
    have H1:=aa (H0.out.drewN oZ);have P6:=aa ((Ap.refl X w).drewN oZ);clear c0 c1 c2 f1 f2 H0;generalize w.drewN oZ=w1 at *;have hmk:=oT w1;have OO:=aa (Cs.start H1.out);go_wp2_with fail;obtain ⟨nb,iE⟩:∃nb,nb=w1.heap.size+1:=⟨_,rfl⟩;obtain ⟨A,hA⟩:∃A,A=w1.heap.size:=⟨_,rfl⟩;rw[<-iE,<-hA];have F5:=aa OO.out;rw[<-iE,<-hA]at F5
    clear OO hmk iE hA H1 HM;generalize (w1.alloc (.cells (bools cA) 4)).alloc (.cells #[.int .u8 99,.slice (some ⟨A,0,none⟩) 256 256,.slice none 0 0] 267)=w3 at *;obtain ⟨c0,c1,c2,f1,f2,c3⟩:=F5.out.cells;have hle:at_<=S.size:=by omega
    go_region_with (go_at_call 202;refine (kn X S at_ _ (by exact F5.out.scan) oI hle).mono ?_;rintro e w4 iB;obtain ⟨b,a1,bad,rfl,hap,hsc,ha1,ho⟩:=iB.parts;have rK:=aa (F5.out.drew.step hap hsc);have HO:=aa ho;clear hap hsc ho iB c0 c1 c2 f1 f2 c3;obtain ⟨c0,c1,c2,f1,f2,c3⟩:=rK.out.cells;obtain ⟨o1,o2⟩:=rK.out.bit (mq b.toNat_lt);have acQ:b.toNat<256:=b.toNat_lt;have ai:=aa (Kl hlt P6.out rK.out ha1 HA.out HO.out))
    all_goals
     go_wp2_with fail;go_ret;exact ai.out
end Go.Proofs.YtgncgdkpkkdaeaaGreatDoor.Ref
namespace Go.Proofs.YtgncgdkpkkdaeaaGreatDoor.Ref
open Go.RowKit aO
variable {S:ByteArray} {rs:List Re} {s s0:List UInt8} {vs:List Value} {X a1 kind nb:Nat} {r:Re} {sv v':Value} {W w w3 wr:World}
structure Ct(X:Nat)(S:ByteArray)(w:World)(nb kind:Nat)(wr:World)(a1:Nat)(bad:Bool)(sv:Value)(vs:List Value)(rs:List Re):Prop where
 ap:Ap X w wr
 scan:aZ wr X S a1 bad
 hX:X<w.heap.size
 iE:w.heap.size<=nb
 node:gz wr nb kind (.slice none 0 0) sv
 row:wr.ownsRow (nb+1) 199 1 sv vs.length vs
 len:vs.length=rs.length
 kids:∃K:Nat->Prop,(∀k,K k->nb<k/\k<wr.heap.size/\sv.ownBlock≠some k)/\∀(i:Nat) (v:Value) (q:Re),vs[i]?=some v->rs[i]?=some q->cP wr K v q
section
variable {X:Nat} {S:ByteArray} {w:World} {nb kind:Nat} {wr:World} {a1:Nat} {bad:Bool} {sv:Value} {vs:List Value} {rs:List Re}
theorem Ct.step(h:Ct X S w nb kind wr a1 bad sv vs rs){wr':World}{a2:Nat}{OE:Bool}(hap:Ap X wr wr')(hs:aZ wr' X S a2 OE):Ct X S w nb kind wr' a2 OE sv vs rs:=by
 have hx:=h.hX;have hn:=h.iE;obtain ⟨K,hK,hk⟩:=h.kids;refine ⟨h.ap.trans hap,hs,hx,hn,(hap.keep nb (ae h.node) (by omega)).trans h.node,dJ h.row (λk e=>?_),h.len,K,λk e=>⟨(hK k e).1,Nat.lt_of_lt_of_le (hK k e).2.1 hap.size,(hK k e).2.2⟩,λi v q h1 h2=>(hk i v q h1 h2).keep (λk e=>?_)⟩
 ·have:=cJ h.row e;exact hap.keep k this.2 (by omega)
 ·exact hap.keep k (hK k e).2.1 (by have:=(hK k e).1;omega)
theorem Ct.cells(h:Ct X S w nb kind wr a1 bad sv vs rs):wr.cell? ⟨X,0,none⟩=some (.string S)/\wr.cell? ⟨X,1,none⟩=some (.int .i64 a1)/\wr.cell? ⟨X,2,none⟩=some (.bool bad)/\wr.frozen? ⟨X,1,none⟩=false/\wr.frozen? ⟨X,2,none⟩=false /\
  wr.cell? ⟨nb,2,none⟩=some sv/\wr.frozen? ⟨nb,2,none⟩=false:=by
 obtain ⟨h1,h2,h3,h4,h5⟩:=h.scan.cells;have hn:=h.node;unfold gz at hn;exact ⟨h1,h2,h3,h4,h5,by simp[World.cell?,hn],by simp[World.frozen?,hn]⟩
theorem Ct.tree(h:Ct X S w nb kind wr a1 bad sv vs rs)(hp:Ie kind rs r):cP wr (λk=>w.heap.size<=k) (.pointer (some ⟨nb,0,none⟩)) r:=by
 obtain ⟨K,hK,hk⟩:=h.kids;have hn:=h.iE;refine .many (vs:=vs) (rs:=rs) hn h.node ⟨h.row.1,?_⟩ (λk e=>?_) h.len (λi v q h1 h2=>(hk i v q h1 h2).mono (λk e=>?_)) hp
 ·rcases h.row.2 with h2|⟨g,cap,cur,hv,hg,r⟩
  ·exact .inl h2
  ·exact .inr ⟨g,cap,cur,hv,Nat.zero_le _,r⟩
 ·have:=cJ h.row e;omega
 ·have:=(hK k e).1;omega
theorem Ct.push(h:Ct X S w nb kind wr a1 bad sv vs rs){v:Value}{q:Re}{B:Nat}(hB:nb<B)(hv:cP wr (λk=>B<=k) v q)(oq:∀k,sv.ownBlock=some k->k<B)(hW:Below wr.heap.size wr W)
  (hown:w3.ownsRow (nb+1) 199 1 v' (vs.length+1) (vs++[v])) (hg:W.grownBy w3 sv.ownBlock) (hloc:v'.ownBlock=sv.ownBlock∨v'.ownBlock=some W.heap.size):
  Ct X S w nb kind (w3.setCell ⟨nb,2,none⟩ v') a1 bad v' (vs++[v]) (rs++[q])/\w3.heap[nb]?=some (.cells #[.int .u8 kind,.slice none 0 0,sv] 267 (0,0)):=by
 have hx:=h.hX;have hn:=h.iE;obtain ⟨K,hK,hk⟩:=h.kids;have hrow:∀k,sv.ownBlock=some k->nb+1<=k/\k<wr.heap.size:=λk e=>cJ h.row e
 have Wa:=ae h.node
 have dr:∀k,k<wr.heap.size->sv.ownBlock≠some k->w3.heap[k]?=wr.heap[k]?:=λk h1 h2=>
  (hg.block k (Nat.lt_of_lt_of_le h1 hW.size) (λe=>h2 e.symm)).trans (hW.block k h1)
 have dE:∀k,k≠nb->(w3.setCell ⟨nb,2,none⟩ v').heap[k]?=w3.heap[k]?:=λk e=>Below.heap_setCell _ _ _ _ e
 have sH:w3.heap[nb]?=some (.cells #[.int .u8 kind,.slice none 0 0,sv] 267 (0,0)):=(dr nb Wa (λe=>by have:=hrow nb e;omega)).trans h.node;have hXl:X<wr.heap.size:=h.scan.lt;have hw4:(w3.setCell ⟨nb,2,none⟩ v').heap.size=w3.heap.size:=by simp[World.setCell]
 have h34:wr.heap.size<=w3.heap.size:=Nat.le_trans hW.size hg.size;refine ⟨⟨⟨?_,?_,?_,?_,?_⟩,?_,hx,hn,?_,?_,by simp[h.len],λk=>K k∨(B<=k/\k<wr.heap.size),?_,?_⟩,sH⟩
 ·exact hg.os.trans (hW.os.trans h.ap.os)
 ·exact hg.tape.trans (hW.tape.trans h.ap.tape)
 ·exact hg.output.trans (hW.output.trans h.ap.output)
 ·rw[hw4];exact Nat.le_trans h.ap.size h34
 ·intro k eJ hk2;rw[dE k (by omega),dr k (Nat.lt_of_lt_of_le eJ h.ap.size) (λe=>by have:=hrow k e;omega)];exact h.ap.keep k eJ hk2
 ·show (w3.setCell ⟨nb,2,none⟩ v').heap[X]?=_;rw[dE X (by omega),dr X hXl (λe=>by have:=hrow X e;omega)];exact h.scan
 ·exact heap_setCell_same w3 nb 2 _ sH
 ·have:(vs++[v]).length=vs.length+1:=by simp
  rw[this];exact dJ hown (λk e=>dE k (by have:=cJ hown e;omega))
 ·rintro k (e|⟨e1,e2⟩)
  ·obtain ⟨k1,k2,k3⟩:=hK k e;refine ⟨k1,by rw[hw4];omega,λe'=>?_⟩;rcases hloc with hl|hl
   ·exact k3 (hl▸e')
   ·rw[hl]at e';have:=Option.some.inj e';have:=hW.size;omega
  ·refine ⟨by omega,by rw[hw4];omega,λe'=>?_⟩;rcases hloc with hl|hl
   ·have:=oq k (hl▸e');omega
   ·rw[hl]at e';have:=Option.some.inj e';have:=hW.size;omega
 ·have key:∀k,(K k∨(B<=k/\k<wr.heap.size))->(w3.setCell ⟨nb,2,none⟩ v').heap[k]?=wr.heap[k]?:=by
   rintro k (e|⟨e1,e2⟩)
   ·obtain ⟨k1,k2,k3⟩:=hK k e;rw[dE k (by omega)];exact dr k k2 k3
   ·rw[dE k (by omega)];exact dr k e2 (λe'=>by have:=oq k e';omega)
  intro i v0 q0 h1 h2;rcases Nat.lt_or_ge i vs.length with hi|hi
  ·rw[List.getElem?_append_left hi]at h1;rw[List.getElem?_append_left (by have:=h.len;omega)]at h2;exact ((hk i v0 q0 h1 h2).mono (λk e=>Or.inl e)).keep key
  ·rw[List.getElem?_append_right hi]at h1;rw[List.getElem?_append_right (by have:=h.len;omega)]at h2
   have h0:i - vs.length=0:=by
    rcases Nat.eq_zero_or_pos (i - vs.length) with h0|h0
    ·exact h0
    ·rw[List.getElem?_eq_none (by simp;omega)]at h1;cases h1
   have I0:i - rs.length=0:=by have:=h.len;omega
   rw[h0]at h1;rw[I0]at h2;simp only[List.getElem?_cons_zero,Option.some.injEq]at h1 h2;subst h1 h2;exact (hv.bound.mono (λk e=>Or.inr e)).keep key
theorem Ct.Ih(h:Ct X S w nb kind wr a1 bad sv vs rs)(hW:Below wr.heap.size wr W)(hg:W.grownBy w3 sv.ownBlock):
  Ap X w (w3.setCell ⟨nb,2,none⟩ v')/\aZ (w3.setCell ⟨nb,2,none⟩ v') X S a1 bad/\w3.heap[nb]?=some (.cells #[.int .u8 kind,.slice none 0 0,sv] 267 (0,0)):=by
 have hx:=h.hX;have hn:=h.iE;have hrow:∀k,sv.ownBlock=some k->nb+1<=k/\k<wr.heap.size:=λk e=>cJ h.row e
 have Wa:=ae h.node
 have dr:∀k,k<wr.heap.size->sv.ownBlock≠some k->w3.heap[k]?=wr.heap[k]?:=λk h1 h2=>
  (hg.block k (Nat.lt_of_lt_of_le h1 hW.size) (λe=>h2 e.symm)).trans (hW.block k h1)
 have dE:∀k,k≠nb->(w3.setCell ⟨nb,2,none⟩ v').heap[k]?=w3.heap[k]?:=λk e=>Below.heap_setCell _ _ _ _ e
 have hXl:X<wr.heap.size:=h.scan.lt;have hw4:(w3.setCell ⟨nb,2,none⟩ v').heap.size=w3.heap.size:=by simp[World.setCell]
 refine ⟨⟨hg.os.trans (hW.os.trans h.ap.os),hg.tape.trans (hW.tape.trans h.ap.tape),hg.output.trans (hW.output.trans h.ap.output),?_,?_⟩,?_,(dr nb Wa (λe=>by have:=hrow nb e;omega)).trans h.node⟩
 ·rw[hw4];exact Nat.le_trans h.ap.size (Nat.le_trans hW.size hg.size)
 ·intro k eJ hk2;rw[dE k (by omega),dr k (Nat.lt_of_lt_of_le eJ h.ap.size) (λe=>by have:=hrow k e;omega)];exact h.ap.keep k eJ hk2
 ·show (w3.setCell ⟨nb,2,none⟩ v').heap[X]?=_;rw[dE X (by omega),dr X hXl (λe=>by have:=hrow X e;omega)];exact h.scan
end
theorem Ct.start{bad:Bool}(h:aZ w X S a1 bad)(kind:Nat):Ct X S w w.heap.size kind (w.alloc (.cells #[.int .u8 kind,.slice none 0 0,.slice none 0 0] 267)) a1 bad (.slice none 0 0) [] []:=
 ⟨(Ap.refl _ _).alloc _,h.alloc _,h.lt,Nat.le_refl _,af _ _,⟨rfl,.inl ⟨rfl,rfl⟩⟩,rfl,λ_=>False,λ_ e=>e.elim,λi v q h1=>by simp at h1⟩
theorem Ct.drewN{bad:Bool}(h:Ct X S w nb kind wr a1 bad sv vs rs)(n:Nat):Ct X S w nb kind (wr.drewN n) a1 bad sv vs rs:=h.step ((Ap.refl _ _).drewN n) (h.scan.drewN n)
theorem Ct.move{bad:Bool}(h:Ct X S w nb kind wr a1 bad sv vs rs)(m:Nat):Ct X S w nb kind (wr.setCell ⟨X,1,none⟩ (.int .i64 m)) m bad sv vs rs:=h.step ((Ap.refl X wr).setCell (p:=⟨X,1,none⟩) rfl _) (h.scan.move m)
def ek(s0:List UInt8)(rs:List Re)(s:List UInt8):Prop:=∀o,cU s o->cU s0 (o.map λp=>(rs++p.1,p.2))
theorem ek.start(s:List UInt8):ek s [] s:=λo h=>by cases o<;>exact h
theorem ek.more{s':List UInt8}(h:ek s0 rs s)(hn:¬atEnd s)(hp:cT s (some (r,s'))):ek s0 (rs++[r]) s':=λo ho=>by
 cases o with
 | none=>exact h none (.jh hn hp ho)
 | some p=>
  have:=h (some (r::p.1,p.2)) (.more hn hp ho);simpa using this
theorem ek.bad(h:ek s0 rs s)(hn:¬atEnd s)(hp:cT s none):cU s0 none:=h none (.bad hn hp)
theorem ek.stop(h:ek s0 rs s)(hn:atEnd s):cU s0 (some (rs,s)):=by have:=h (some ([],s)) (.stop hn);simpa using this
def nM(s:List UInt8)(o:Option (Re×List UInt8)):Prop:=∃o',cU s o'/\o=o'.map λp=>(bu p.1,p.2)
def R1(X:Nat)(S:ByteArray)(w:World)(nb:Nat)(at_:Nat)(k:Nat)(wr:World):Prop:=
 (∃(sv:Value) (vs:List Value) (rs:List Re) (a1:Nat),Ct X S w nb 38 wr a1 false sv vs rs/\vs.length<=a1/\a1<=S.size/\at_<=a1/\k=1+(S.size - a1)/\ek (rest S at_) rs (rest S a1))∨∃a1,k=0/\Ap X w wr/\aZ wr X S a1 true/\a1+at_<=2*S.size+1/\cU (rest S at_) none
end Go.Proofs.YtgncgdkpkkdaeaaGreatDoor.Ref
namespace Go.Proofs.YtgncgdkpkkdaeaaGreatDoor.Ref
open Go.RowKit aO
variable {S:ByteArray} {rs:List Re} {vs:List Value} {B X a1 at_ nb:Nat} {sv:Value} {w wr:World}
theorem C8{a:Nat}(ha:a<=S.size):(a=S.size/\atEnd (rest S a))∨(∃h:a<S.size,S[a]=124/\atEnd (rest S a))∨(∃h:a<S.size,S[a]=41/\atEnd (rest S a))∨(∃h:a<S.size,S[a]≠124/\S[a]≠41/\¬atEnd (rest S a)):=by
 rcases Nat.lt_or_ge a S.size with h|h
 ·have hr:=br h;by_cases h1:S[a]=124
  ·exact .inr (.inl ⟨h,h1,by rw[hr,h1];exact .inr (.inl rfl)⟩)
  ·by_cases h2:S[a]=41
   ·exact .inr (.inr (.inl ⟨h,h2,by rw[hr,h2];exact .inr (.inr rfl)⟩))
   ·refine .inr (.inr (.inr ⟨h,h1,h2,?_⟩));rw[hr];rintro (h3|h3|h3)
    ·cases h3
    ·simp at h3;exact h1 h3
    ·simp at h3;exact h2 h3
 ·exact .inl ⟨by omega,by rw[dv h];exact .inl rfl⟩
theorem mr:(Tryz.prog.info? 199).map (λi=>(i.zero,i.size,i.bytes))=some (some (.pointer none),1,8):=by kernel_rfl
theorem eu{e:TypeId}{size:Nat}{n:Nat}{xs:List Value}(h:w.ownsRow B e size sv n xs)(o:Obj):(w.alloc o).ownsRow B e size sv n xs:=
 dJ h (λ_ hk=>Below.heap_alloc _ _ _ (cJ h hk).2)
theorem qm(p:Nat):∀u∈[Value.pointer (some ⟨p,0,none⟩)],u.oneCell'=true:=by intro u hu;rw[List.mem_singleton.1 hu];rfl
theorem my(S:ByteArray)(a:Nat):(rest S a).length=S.size - a:=by unfold rest;rw[List.length_drop];rfl
theorem Km{w4:World}{a2:Nat}{p:Nat}{r q:Re}(LC:Ct X S w nb 38 w4 a2 false sv vs rs)(hni:cP w4 (λk=>B<=k) (.pointer (some ⟨p,0,none⟩)) r)(hB:B<=w4.heap.size)(kind:Nat)(hp:Ie kind [r] q):
  ∃w6,((w4.alloc (.cells #[.pointer (some ⟨p,0,none⟩)] 199)).alloc (.cells #[.int .u8 kind,.slice none 0 0,.slice (some ⟨w4.heap.size,0,none⟩) 1 1] 267)).drew=w6/\Ct X S w nb 38 w6 a2 false sv vs rs/\cP w6 (λk=>B<=k) (.pointer (some ⟨w4.heap.size+1,0,none⟩)) q:=by
 have hap:Ap X w4 ((w4.alloc (.cells #[.pointer (some ⟨p,0,none⟩)] 199)).alloc (.cells #[.int .u8 kind,.slice none 0 0,.slice (some ⟨w4.heap.size,0,none⟩) 1 1] 267)):=((Ap.refl X w4).alloc _).alloc _
 have Qi:∀k,k<w4.heap.size->((w4.alloc (.cells #[.pointer (some ⟨p,0,none⟩)] 199)).alloc (.cells #[.int .u8 kind,.slice none 0 0,.slice (some ⟨w4.heap.size,0,none⟩) 1 1] 267)).heap[k]?=w4.heap[k]?:=λk hk=>(Below.heap_alloc _ _ _ (by simp;omega)).trans (Below.heap_alloc _ _ _ hk)
 refine ⟨_,rfl,LC.step ⟨hap.os,hap.tape,hap.output,hap.size,hap.keep⟩ ((LC.scan.alloc _).alloc _),?_⟩;refine .many (kind:=kind) (sv:=.slice (some ⟨w4.heap.size,0,none⟩) 1 1) (vs:=[.pointer (some ⟨p,0,none⟩)]) (rs:=[r]) (by omega) ?_ ⟨rfl,.inr ⟨w4.heap.size,1,#[.pointer (some ⟨p,0,none⟩)],rfl,Nat.zero_le _,?_,Nat.le_refl _,by unfold maxLen;omega,rfl,rfl⟩⟩ ?_ rfl ?_ hp
 ·have:=af (w4.alloc (.cells #[.pointer (some ⟨p,0,none⟩)] 199)) (.cells #[.int .u8 kind,.slice none 0 0,.slice (some ⟨w4.heap.size,0,none⟩) 1 1] 267);have hsz:(w4.alloc (.cells #[.pointer (some ⟨p,0,none⟩)] 199)).heap.size=w4.heap.size+1:=by simp
  rw[hsz]at this;exact this
 ·exact heap_alloc_old (af w4 _)
 ·intro k hk;cases hk;exact hB
 ·intro i v0 q0 h1 h2;rcases i with _|i
  ·simp only[List.getElem?_cons_zero,Option.some.injEq]at h1 h2;subst h1 h2;refine cP.mono (hni.bound.keep (λk hk=>?_)) (λ_ hk=>hk.1);exact Qi k hk.2
  ·simp at h1
theorem R2(LC:Ct X S w nb 38 wr a1 false sv vs rs)(ha1:a1<=S.size)(DI:ek (rest S at_) rs (rest S a1))(hend:atEnd (rest S a1))(n:Nat):
  ej nM X S at_ w (.returned (.pointer (some ⟨nb,0,none⟩))) (wr.drewN n):=
 ⟨_,a1,false,rfl,LC.ap.drewN n,LC.scan.drewN n,⟨nb,rfl⟩,.inl ⟨rfl,ha1,bu rs,⟨_,DI.stop hend,rfl⟩,(LC.drewN n).tree (.inl ⟨rfl,rfl⟩)⟩⟩
theorem C9(hap:Ap X w wr)(hsc:aZ wr X S a1 true)(hb:a1+at_<=2*S.size+1)(hp:cU (rest S at_) none)(n:Nat):
  ej nM X S at_ w (.returned (.pointer (some ⟨nb,0,none⟩))) (wr.drewN n):=
 ⟨_,a1,true,rfl,hap.drewN n,hsc.drewN n,⟨nb,rfl⟩,.inr ⟨rfl,hb,⟨_,hp,rfl⟩⟩⟩
set_option maxRecDepth 20000 in
set_option maxHeartbeats 4000000 in
theorem R3(n:Nat)(hC:Ig n)(X:Nat)(S:ByteArray)(at_:Nat)(w:World)(h:aZ w X S at_ false)(oI:S.size<=60)(hle:at_<=S.size)(hn:S.size - at_<=n):
  Calls Tryz.prog 143 #[.pointer (some ⟨X,0,none⟩)] w (ej nM X S at_ w):=by
 have HC:=aa hC;have HN:=aa hn;have H0:=aa (Ct.start h 38);clear h hC hn;go_enter Tryz.func143,Tryz.ntmps143;go_wp2_with fail;obtain ⟨nb,iE⟩:∃nb,nb=w.heap.size:=⟨_,rfl⟩;have H1:=aa H0.out;rw[<-iE]at H1 ⊢;clear H0 iE;generalize w.alloc (.cells #[.int .u8 38,.slice none 0 0,.slice none 0 0] 267)=w1 at *
 go_loopg [4] (1+(S.size - at_)) (λk _ wr=>R1 X S w nb at_ k wr)
 case atStart=>exact .inl ⟨_,[],[],at_,H1.out,Nat.zero_le _,hle,Nat.le_refl _,rfl,ek.start _⟩
 case round=>
  rcases hrel with ⟨sv,vs,rs,a1,LC,yQ,ha1,acq,hk,DI⟩|⟨a1,hk,hap,hsc,hb,hp⟩
  ·have uC:=aa LC;have D2:=aa DI;have HK:=aa hk;obtain ⟨c0,c1,c2,f1,f2,c3,f3⟩:=uC.out.cells;clear LC DI hk;rcases C8 ha1 with ⟨he,hend⟩|⟨hlt,hb,hend⟩|⟨hlt,hb,hend⟩|⟨hlt,hb1,hb2,hend⟩
   case inr.inr.inr=>
    have hg:decide ((a1:Int)<(S.size:Int))=true:=by simp;omega
    have q1:(((S[a1]).toNat:Int) != 124)=true:=by rw[bne_iff_ne];intro h;exact hb1 (UInt8.toNat_inj.1 (by simp;omega))
    have q2:(((S[a1]).toNat:Int) != 41)=true:=by rw[bne_iff_ne];intro h;exact hb2 (UInt8.toNat_inj.1 (by simp;omega))
    have HE:=aa hend;clear hend hb1 hb2;go_wp2_with fail;go_quiet (fail)
    rename Nat=>oZ
    have F6:=aa (uC.out.drewN oZ);clear uC c0 c1 c2 f1 f2 c3 f3;generalize wr.drewN oZ=w2 at *;go_wp2_with fail;refine (uA n HC.out X S a1 w2 F6.out.scan oI hlt (by have:=HN.out;omega)).mono ?_;rintro e w3 ⟨v,a2,bad,rfl,hap,hsc,⟨p,rfl⟩,⟨rfl,ha2,r,hP,hN⟩|⟨rfl,hb,hP⟩⟩
    ·have jy:=aa (F6.out.step hap hsc);have HP:=aa hP;have Wb:=aa hN;have UI:=aa (show w2.heap.size<=w3.heap.size from hap.size);clear hP hN hap hsc;obtain ⟨c0,c1,c2,f1,f2,c3,f3⟩:=jy.out.cells;have Ic:=aa (show a1<a2 by have h1:=(aT.size HP.out _ _ rfl).1;rw[my,my]at h1;omega)
     have uQ:=aa (ae F6.out.node);have HSV:=aa (λk e=>(cJ F6.out.row (k:=k) e).2)
     have hsg:(∃h:a2<S.size,S[a2]=42∨S[a2]=43∨S[a2]=63)∨((rest S a2).head?≠some 42/\(rest S a2).head?≠some 43/\(rest S a2).head?≠some 63):=by
      rcases Nat.lt_or_ge a2 S.size with h|h
      ·by_cases hs:S[a2]=42∨S[a2]=43∨S[a2]=63
       ·exact .inl ⟨h,hs⟩
       ·refine .inr ?_;rw[br h];simp only[not_or]at hs;simpa using hs
      ·refine .inr ?_;rw[dv h];simp
     rcases hsg with ⟨iD,hS⟩|hpl
     ·have hg2:decide ((a2:Int)<(S.size:Int))=true:=by simp;omega
      have acr:∃sg:UInt8,S[a2]=sg/\∃q:Re,(sg=42/\q=.star r∨sg=43/\q=.plus r∨sg=63/\q=.eU r):=by
       rcases hS with h|h|h
       ·exact ⟨_,h,_,.inl ⟨rfl,rfl⟩⟩
       ·exact ⟨_,h,_,.inr (.inl ⟨rfl,rfl⟩)⟩
       ·exact ⟨_,h,_,.inr (.inr ⟨rfl,rfl⟩)⟩
      obtain ⟨sg,hSs,q,hsq⟩:=acr
      have Me:=aa (show ∀s',rest S a2=sg::s'->cT (rest S a1) (some (q,s')) from λs' h=>by
       have hp:=HP.out;rw[h]at hp;rcases hsq with ⟨rfl,rfl⟩|⟨rfl,rfl⟩|⟨rfl,rfl⟩
       ·exact .star hp
       ·exact .plus hp
       ·exact .eU hp)
      have Jh:=aa (show ∀sg':Nat,sg'=sg.toNat->sg'=42/\q=.star r∨sg'=43/\q=.plus r∨sg'=63/\q=.eU r from λsg' h=>by
       subst h;rcases hsq with ⟨rfl,h⟩|⟨rfl,h⟩|⟨rfl,h⟩
       ·exact .inl ⟨rfl,h⟩
       ·exact .inr (.inl ⟨rfl,h⟩)
       ·exact .inr (.inr ⟨rfl,h⟩))
      have Py:=aa hSs;clear hsq hSs;rcases hS with hS|hS|hS
      all_goals
       first|have k1:(((S[a2]).toNat:Int)==42)=true:=by rw[hS];rfl|have k1:(((S[a2]).toNat:Int)==42)=false:=by rw[hS];rfl
       first|have k2:(((S[a2]).toNat:Int)==43)=true:=by rw[hS];rfl|have k2:(((S[a2]).toNat:Int)==43)=false:=by rw[hS];rfl
       first|have k3:(((S[a2]).toNat:Int)==63)=true:=by rw[hS];rfl|have k3:(((S[a2]).toNat:Int)==63)=false:=by rw[hS];rfl
       clear hS;go_wp2_with fail;go_quiet (fail)
       rename Nat=>D1
       have tB:=aa (jy.out.drewN D1);have Wc:=aa (Wb.out.keep (w':=w3.drewN D1) (λ_ _=>rfl));have aaG:=aa (show w2.heap.size<=(w3.drewN D1).heap.size from UI.out);clear jy Wb c0 c1 c2 f1 f2 c3 f3;generalize w3.drewN D1=w4 at *;obtain ⟨c0,c1,c2,f1,f2,c3,f3⟩:=tB.out.cells;have e0:=ar c0 (.cells #[.pointer (some ⟨p,0,none⟩)] 199)
       have e1:=ar c1 (.cells #[.pointer (some ⟨p,0,none⟩)] 199)
       have hst:=λk hk=>Km tB.out Wc.out aaG.out k (q:=q) (by
        rcases Jh.out k hk with ⟨h,h2⟩|⟨h,h2⟩|⟨h,h2⟩
        ·exact .inr (.inr (.inl ⟨h,r,rfl,h2⟩))
        ·exact .inr (.inr (.inr (.inl ⟨h,r,rfl,h2⟩)))
        ·exact .inr (.inr (.inr (.inr ⟨h,r,rfl,h2⟩))))
       obtain ⟨w6,GH,aaH,aaI⟩:=hst S[a2].toNat (congrArg UInt8.toNat Py.out);have HW6:=aa GH;have R4:=aa aaH;have Wd:=aa aaI;clear aaH aaI hst GH;go_wp2_with fail;go_region;obtain ⟨pp,hpp⟩:∃pp,pp=w4.heap.size+1:=⟨_,rfl⟩;rw[<-hpp]at Wd ⊢;clear hpp e0 e1 c0 c1 c2 f1 f2 c3 f3;rw[HW6.out];obtain ⟨c0,c1,c2,f1,f2,c3,f3⟩:=R4.out.cells
       obtain ⟨a3,LA⟩:∃a3,a3=a2+1:=⟨_,rfl⟩;have lF:=aa (show rest S a2=sg::rest S a3 by rw[LA,br iD,Py.out]);have BM:=aa LA;have We:=aa (show Ct X S w nb 38 (w6.setCell ⟨X,1,none⟩ (.int .i64 ((a2:Int)+1))) a3 false sv vs rs by rw[LA];exact R4.out.move (a2+1))
       have acs:=aa (Wd.out.ap (by have:=F6.out.hX;have:=F6.out.ap.size;omega:X<w2.heap.size) ((Ap.refl X w6).setCell (p:=⟨X,1,none⟩) rfl (.int .i64 ((a2:Int)+1))));have PI:(w6.setCell ⟨X,1,none⟩ (.int .i64 ((a2:Int)+1))).heap.size=w6.heap.size:=by simp[World.setCell]
       have mz:=aa (by have:=aD (w6.setCell ⟨X,1,none⟩ (.int .i64 ((a2:Int)+1))) #[.pointer (some ⟨pp,0,none⟩)] 199;rw[PI]at this;exact this:∀j u,[Value.pointer (some ⟨pp,0,none⟩)][j]?=some u->((w6.setCell ⟨X,1,none⟩ (.int .i64 ((a2:Int)+1))).alloc (.cells #[.pointer (some ⟨pp,0,none⟩)] 199)).cell? ((⟨w6.heap.size,0,none⟩:Addr).add j)=some u)
       have mA:=aa (show nb+1<=((w6.setCell ⟨X,1,none⟩ (.int .i64 ((a2:Int)+1))).alloc (.cells #[.pointer (some ⟨pp,0,none⟩)] 199)).heap.size by have:=ae R4.out.node;simp[World.setCell];omega);have TI:a2<=60:=by omega
       have c3':(w6.setCell ⟨X,1,none⟩ (.int .i64 ((a2:Int)+1))).cell? ⟨nb,2,none⟩=some sv:=We.out.cells.2.2.2.2.2.1;have adE:=ar c3' (.cells #[.pointer (some ⟨pp,0,none⟩)] 199);clear LA PI R4 Wd;obtain ⟨i0,hi,hz0,hz1,hz3⟩:=info_parts mr
       go_wp2_with (at_builtin;go_loud (refine wpList_append_own_at _ rfl (.tmp 127) (.tmp 129) 265 rfl (nb+1) 199 i0 (.pointer none) 1 8 Tryz.underlying265 hi hz0 hz1 hz3 rfl (by decide) sv vs.length vs (by rfl) (by exact eu We.out.row _) ⟨w6.heap.size,0,none⟩ 1 1 [.pointer (some ⟨pp,0,none⟩)] (by rfl) (by rfl) (by exact mz.out) (qm pp) (by unfold maxLen;omega) (by omega) (by exact mA.out) ?_;intro v' w5 hown sQ _ hloc;obtain ⟨gg,cap,rfl⟩:=az hown (by omega);obtain ⟨TJ,hq⟩:=We.out.push uQ.out acs.out HSV.out ((Below.refl _ _).alloc (Nat.le_refl _) _) hown sQ hloc;have Wf:=aa TJ;clear TJ;have d2:w5.cell? ⟨nb,2,none⟩=some sv:=(by simp[World.cell?,hq]);have df:w5.frozen? ⟨nb,2,none⟩=false:=(by simp[World.frozen?,hq]);clear hown sQ hloc hq))
       go_roundg (1+(S.size - a3))
       case measure=>have:=HK.out;have:=BM.out;have:=Ic.out;omega
       case rel=>exact .inl ⟨_,_,_,a3,Wf.out,by have:=Ic.out;have:=BM.out;simp only[List.length_append,List.length_cons,List.length_nil];omega,by have:=BM.out;omega,by have:=BM.out;have:=Ic.out;omega,rfl,D2.out.more HE.out (Me.out _ lF.out)⟩
     ·obtain ⟨aaJ,aaK,aaL⟩:=hpl;have H42:=aa aaJ;have H43:=aa aaK;have H63:=aa aaL;clear aaJ aaK aaL;by_cases iD:a2<S.size
      case' pos=>
       have hg2:decide ((a2:Int)<(S.size:Int))=true:=by simp;omega
       have kk:∀c:UInt8,(rest S a2).head?≠some c->(((S[a2]).toNat:Int)==(c.toNat:Int))=false:=λc h=>by rw[beq_eq_false_iff_ne];intro e;rw[br iD]at h;exact h (by simpa using UInt8.toNat_inj.1 (by omega))
       have k1:(((S[a2]).toNat:Int)==42)=false:=kk 42 H42.out;have k2:(((S[a2]).toNat:Int)==43)=false:=kk 43 H43.out;have k3:(((S[a2]).toNat:Int)==63)=false:=kk 63 H63.out;clear kk
      case' neg=>
       have hg2:decide (a2<S.size)=false:=by simp;omega
      all_goals
       go_wp2_with fail;go_quiet (fail)
       rename Nat=>D1
       have tB:=aa (jy.out.drewN D1);have Wc:=aa (Wb.out.keep (w':=w3.drewN D1) (λ_ _=>rfl));have aaG:=aa (show w2.heap.size<=(w3.drewN D1).heap.size from UI.out);clear jy Wb c0 c1 c2 f1 f2 c3 f3;generalize w3.drewN D1=w4 at *;obtain ⟨c0,c1,c2,f1,f2,c3,f3⟩:=tB.out.cells;have mz:=aa (aD w4 #[.pointer (some ⟨p,0,none⟩)] 199)
       have mA:=aa (show nb+1<=(w4.alloc (.cells #[.pointer (some ⟨p,0,none⟩)] 199)).heap.size by have:=ae tB.out.node;simp;omega);obtain ⟨i0,hi,hz0,hz1,hz3⟩:=info_parts mr
       go_wp2_with (at_builtin;go_loud (refine wpList_append_own_at _ rfl (.tmp 127) (.tmp 129) 265 rfl (nb+1) 199 i0 (.pointer none) 1 8 Tryz.underlying265 hi hz0 hz1 hz3 rfl (by decide) sv vs.length vs (by rfl) (by exact eu tB.out.row _) ⟨w4.heap.size,0,none⟩ 1 1 [.pointer (some ⟨p,0,none⟩)] (by rfl) (by rfl) (by exact mz.out) (qm p) (by unfold maxLen;omega) (by omega) (by exact mA.out) ?_;intro v' w5 hown sQ _ hloc;obtain ⟨gg,cap,rfl⟩:=az hown (by omega);obtain ⟨TJ,hq⟩:=tB.out.push uQ.out Wc.out HSV.out ((Below.refl _ _).alloc (Nat.le_refl _) _) hown sQ hloc;have Wf:=aa TJ;clear TJ;have d2:w5.cell? ⟨nb,2,none⟩=some sv:=(by simp[World.cell?,hq]);have df:w5.frozen? ⟨nb,2,none⟩=false:=(by simp[World.frozen?,hq]);clear hown sQ hloc hq))
       go_roundg (1+(S.size - a2))
       case measure=>have:=HK.out;have:=Ic.out;omega
       case rel=>exact .inl ⟨_,_,_,a2,Wf.out,by have:=Ic.out;simp only[List.length_append,List.length_cons,List.length_nil];omega,ha2,by have:=Ic.out;omega,rfl,D2.out.more HE.out (.plain HP.out H42.out H43.out H63.out)⟩
    ·have jy:=aa (F6.out.step hap hsc);have Kk:=aa (D2.out.bad HE.out (.bad hP));have HB:=aa (show a2+at_<=2*S.size+1 by omega);clear hP hap hsc hb;obtain ⟨c0,c1,c2,f1,f2,c3,f3⟩:=jy.out.cells;go_wp2_with fail;go_quiet (fail)
     rename Nat=>D1
     have tB:=aa (jy.out.drewN D1);clear jy c0 c1 c2 f1 f2 c3 f3;generalize w3.drewN D1=w4 at *;obtain ⟨c0,c1,c2,f1,f2,c3,f3⟩:=tB.out.cells;have mz:=aa (aD w4 #[.pointer (some ⟨p,0,none⟩)] 199);have mA:=aa (show nb+1<=(w4.alloc (.cells #[.pointer (some ⟨p,0,none⟩)] 199)).heap.size by have:=ae tB.out.node;simp;omega)
     obtain ⟨i0,hi,hz0,hz1,hz3⟩:=info_parts mr
     go_wp2_with (at_builtin;go_loud (refine wpList_append_own_at _ rfl (.tmp 127) (.tmp 129) 265 rfl (nb+1) 199 i0 (.pointer none) 1 8 Tryz.underlying265 hi hz0 hz1 hz3 rfl (by decide) sv vs.length vs (by rfl) (by exact eu tB.out.row _) ⟨w4.heap.size,0,none⟩ 1 1 [.pointer (some ⟨p,0,none⟩)] (by rfl) (by rfl) (by exact mz.out) (qm p) (by unfold maxLen;omega) (by omega) (by exact mA.out) ?_;intro v' w5 hown sQ _ hloc;obtain ⟨gg,cap,rfl⟩:=az hown (by omega);obtain ⟨pG,S7,hq⟩:=tB.out.Ih (v':=.slice (some ⟨gg,0,none⟩) (vs.length+1) cap) ((Below.refl _ _).alloc (Nat.le_refl _) _) sQ;have rS:=aa pG;have Wh:=aa S7;clear pG S7;have d2:w5.cell? ⟨nb,2,none⟩=some sv:=(by simp[World.cell?,hq]);have df:w5.frozen? ⟨nb,2,none⟩=false:=(by simp[World.frozen?,hq]);clear hown sQ hloc hq))
     go_roundg 0
     case measure=>have:=HK.out;omega
     case rel=>exact .inr ⟨a2,rfl,rS.out,Wh.out,HB.out,Kk.out⟩
   case' inl=>
    have hg:decide (a1<S.size)=false:=by simp;omega
   case' inr.inl=>
    have hg:decide ((a1:Int)<(S.size:Int))=true:=by simp;omega
    have q1:(((S[a1]).toNat:Int) != 124)=false:=by rw[hb];rfl
    clear hb
   case' inr.inr.inl=>
    have hg:decide ((a1:Int)<(S.size:Int))=true:=by simp;omega
    have q1:(((S[a1]).toNat:Int) != 124)=true:=by rw[hb];rfl
    have q2:(((S[a1]).toNat:Int) != 41)=false:=by rw[hb];rfl
    clear hb
   all_goals
    have ai:=aa (R2 uC.out ha1 D2.out hend);clear hend;go_wp2_with fail;go_quiet (fail)
    rename Nat=>oZ
    go_wp2_with fail;go_ret;exact ai.out oZ
  ·have ai:=aa (C9 (nb:=nb) hap hsc hb hp);obtain ⟨c0,c1,c2,f1,f2⟩:=hsc.cells;clear hap hsc hp hb hk;go_wp2_with fail;go_quiet (fail)
   rename Nat=>oZ
   go_wp2_with fail;go_ret;exact ai.out oZ
end Go.Proofs.YtgncgdkpkkdaeaaGreatDoor.Ref
namespace Go.Proofs.YtgncgdkpkkdaeaaGreatDoor.Ref
open Go.RowKit aO
variable {rs:List Re} {s s' s0:List UInt8}
def F7(s0:List UInt8)(rs:List Re)(s:List UInt8):Prop:=∃r0 rs',rs=r0::rs'/\∀o,gZ (rs'.foldl Re.alt r0) s o->bh s0 o
def F8(s0:List UInt8)(rs:List Re)(s:List UInt8):Prop:=(rs=[]/\s0=s)∨F7 s0 rs (124::s)
theorem F8.next{qs:List Re}(h:F8 s0 rs s)(hc:cU s (some (qs,s'))):F7 s0 (rs++[bu qs]) s':=by
 rcases h with ⟨rfl,rfl⟩|⟨r0,rs',rfl,h3⟩
 ·exact ⟨bu qs,[],rfl,λo ho=>.one hc ho⟩
 ·refine ⟨r0,rs'++[bu qs],rfl,λo ho=>h3 o (.more hc ?_)⟩;rw[List.foldl_append]at ho;exact ho
theorem F8.bad(h:F8 s0 rs s)(hc:cU s none):bh s0 none:=by
 rcases h with ⟨rfl,rfl⟩|⟨r0,rs',rfl,h3⟩
 ·exact .bad hc
 ·exact h3 none (.bad hc)
theorem F7.more(h:F7 s0 rs (124::s)):F8 s0 rs s:=.inr h
theorem F7.stop(h:F7 s0 rs s)(hn:s.head?≠some 124):∃r,Ie 124 rs r/\bh s0 (some (r,s)):=by obtain ⟨r0,rs',h1,h3⟩:=h;exact ⟨_,.inr (.inl ⟨rfl,r0,rs',h1,rfl⟩),h3 _ (.stop hn)⟩
theorem Kn{r:Re}(h:nM s (some (r,s'))):∃rs,cU s (some (rs,s'))/\r=bu rs:=by
 obtain ⟨o,h1,h2⟩:=h
 cases o with
 | none=>cases h2
 | some p=>simp only[Option.map_some,Option.some.injEq,Prod.mk.injEq]at h2;exact ⟨p.1,by rw[h2.2];exact h1,h2.1⟩
theorem Ko(h:nM s none):cU s none:=by
 obtain ⟨o,h1,h2⟩:=h
 cases o with
 | none=>exact h1
 | some p=>cases h2
def R5(X:Nat)(S:ByteArray)(w:World)(nb:Nat)(at_:Nat)(k:Nat)(wr:World):Prop:=
 ∃(sv:Value) (vs:List Value) (rs:List Re) (a1:Nat),Ct X S w nb 124 wr a1 false sv vs rs/\vs.length<=a1/\a1<=S.size/\at_<=a1/\k=S.size - a1/\F8 (rest S at_) rs (rest S a1)
set_option maxRecDepth 20000 in
set_option maxHeartbeats 4000000 in
theorem R6(n:Nat)(hC:Ig n)(X:Nat)(S:ByteArray)(at_:Nat)(w:World)(h:aZ w X S at_ false)(oI:S.size<=60)(hle:at_<=S.size)(hn:S.size - at_<=n):
  Calls Tryz.prog 103 #[.pointer (some ⟨X,0,none⟩)] w (ej bh X S at_ w):=by
 have HC:=aa hC;have HN:=aa hn;have H0:=aa (Ct.start h 124);clear h hC hn;go_enter Tryz.func103,Tryz.ntmps103;go_wp2_with fail;obtain ⟨nb,iE⟩:∃nb,nb=w.heap.size:=⟨_,rfl⟩;have H1:=aa H0.out;rw[<-iE]at H1 ⊢;clear H0 iE;generalize w.alloc (.cells #[.int .u8 124,.slice none 0 0,.slice none 0 0] 267)=w1 at *
 go_loopg [4] (S.size - at_) (λk _ wr=>R5 X S w nb at_ k wr)
 case atStart=>exact ⟨_,[],[],at_,H1.out,Nat.zero_le _,hle,Nat.le_refl _,rfl,.inl ⟨rfl,rfl⟩⟩
 case round=>
  obtain ⟨sv,vs,rs,a1,LC,yQ,ha1,acq,hk,DI⟩:=hrel;have uC:=aa LC;have D2:=aa DI;have HK:=aa hk;clear LC DI hk;go_wp2_with fail;refine (R3 n HC.out X S a1 wr uC.out.scan oI ha1 (by have:=HN.out;omega)).mono ?_;rintro e w3 ⟨v,a2,bad,rfl,hap,hsc,⟨p,rfl⟩,⟨rfl,ha2,r,hP,hN⟩|⟨rfl,hb,hP⟩⟩
  ·obtain ⟨qs,hc,rfl⟩:=Kn hP;have HT:=aa (D2.out.next hc);have Ic:=aa (show a1<=a2 by have h1:=cU.size hc _ _ rfl;rw[my,my]at h1;omega)
   have jy:=aa (uC.out.step hap hsc);have Wb:=aa hN;have uQ:=aa (ae uC.out.node);have HSV:=aa (λk e=>(cJ uC.out.row (k:=k) e).2);clear hP hN hap hsc hc D2;obtain ⟨c0,c1,c2,f1,f2,c3,f3⟩:=jy.out.cells;have mz:=aa (aD w3 #[.pointer (some ⟨p,0,none⟩)] 199)
   have mA:=aa (show nb+1<=(w3.alloc (.cells #[.pointer (some ⟨p,0,none⟩)] 199)).heap.size by have:=ae jy.out.node;simp;omega);obtain ⟨i0,hi,hz0,hz1,hz3⟩:=info_parts mr
   go_wp2_with (at_builtin;go_loud (refine wpList_append_own_at _ rfl (.tmp 14) (.tmp 16) 265 rfl (nb+1) 199 i0 (.pointer none) 1 8 Tryz.underlying265 hi hz0 hz1 hz3 rfl (by decide) sv vs.length vs (by rfl) (by exact eu jy.out.row _) ⟨w3.heap.size,0,none⟩ 1 1 [.pointer (some ⟨p,0,none⟩)] (by rfl) (by rfl) (by exact mz.out) (qm p) (by unfold maxLen;omega) (by omega) (by exact mA.out) ?_;intro v' w5 hown sQ _ hloc;obtain ⟨gg,cap,rfl⟩:=az hown (by omega);obtain ⟨TJ,hq⟩:=jy.out.push uQ.out Wb.out HSV.out ((Below.refl _ _).alloc (Nat.le_refl _) _) hown sQ hloc;have Wf:=aa TJ;clear TJ;have d2:w5.cell? ⟨nb,2,none⟩=some sv:=(by simp[World.cell?,hq]);have df:w5.frozen? ⟨nb,2,none⟩=false:=(by simp[World.frozen?,hq]);clear hown sQ hloc hq))
   clear d2 df c0 c1 c2 f1 f2 c3 f3 mz mA jy Wb;generalize w5.setCell ⟨nb,2,none⟩ (.slice (some ⟨gg,0,none⟩) (vs.length+1) cap)=w6 at *;refine (kG 124 X S a2 false w6 Wf.out.scan).mono ?_;rintro e w7 ⟨rfl,n7,rfl⟩;have OP:=aa (Wf.out.drewN n7);clear Wf;generalize w6.drewN n7=w7 at *;obtain ⟨c0,c1,c2,f1,f2,c3,f3⟩:=OP.out.cells
   by_cases Kq:(rest S a2).head?=some 124
   ·have hv:((rest S a2).head? == some 124)=true:=by rw[Kq];rfl
    rw[hv];obtain ⟨iD,hr2⟩:=mY Kq;have HS:=aa (show F8 (rest S at_) (rs++[bu qs]) (rest S (a2+1)) from F7.more (by rw[<-hr2];exact HT.out));have TI:a2<=60:=by omega
    clear hv Kq hr2;go_wp2_with fail;go_roundg (S.size - (a2+1))
    case measure=>have:=HK.out;have:=Ic.out;omega
    case rel=>exact ⟨_,_,_,a2+1,OP.out.move (a2+1),by have:=Ic.out;simp only[List.length_append,List.length_cons,List.length_nil];omega,by omega,by have:=Ic.out;omega,rfl,HS.out⟩
   ·have hv:((rest S a2).head? == some 124)=false:=by rw[beq_eq_false_iff_ne];exact Kq
    rw[hv];obtain ⟨r,I2,pG⟩:=HT.out.stop Kq;have ai:=aa (show ej bh X S at_ w (.returned (.pointer (some ⟨nb,0,none⟩))) w7 from ⟨_,a2,false,rfl,OP.out.ap,OP.out.scan,⟨nb,rfl⟩,.inl ⟨rfl,ha2,r,pG,OP.out.tree I2⟩⟩);clear hv Kq I2 pG;go_wp2_with fail;go_ret;exact ai.out
  ·have jy:=aa (uC.out.step hap hsc);have Kk:=aa (D2.out.bad (Ko hP));have HB:=aa (show a2+at_<=2*S.size+1 by omega);clear hP hap hsc hb;obtain ⟨c0,c1,c2,f1,f2,c3,f3⟩:=jy.out.cells;have mz:=aa (aD w3 #[.pointer (some ⟨p,0,none⟩)] 199)
   have mA:=aa (show nb+1<=(w3.alloc (.cells #[.pointer (some ⟨p,0,none⟩)] 199)).heap.size by have:=ae jy.out.node;simp;omega);obtain ⟨i0,hi,hz0,hz1,hz3⟩:=info_parts mr
   go_wp2_with (at_builtin;go_loud (refine wpList_append_own_at _ rfl (.tmp 14) (.tmp 16) 265 rfl (nb+1) 199 i0 (.pointer none) 1 8 Tryz.underlying265 hi hz0 hz1 hz3 rfl (by decide) sv vs.length vs (by rfl) (by exact eu jy.out.row _) ⟨w3.heap.size,0,none⟩ 1 1 [.pointer (some ⟨p,0,none⟩)] (by rfl) (by rfl) (by exact mz.out) (qm p) (by unfold maxLen;omega) (by omega) (by exact mA.out) ?_;intro v' w5 hown sQ _ hloc;obtain ⟨gg,cap,rfl⟩:=az hown (by omega);obtain ⟨pG,S7,hq⟩:=jy.out.Ih (v':=.slice (some ⟨gg,0,none⟩) (vs.length+1) cap) ((Below.refl _ _).alloc (Nat.le_refl _) _) sQ;have rS:=aa pG;have Wh:=aa S7;clear pG S7;have d2:w5.cell? ⟨nb,2,none⟩=some sv:=(by simp[World.cell?,hq]);have df:w5.frozen? ⟨nb,2,none⟩=false:=(by simp[World.frozen?,hq]);clear hown sQ hloc hq))
   clear d2 df c0 c1 c2 f1 f2 c3 f3 mz mA jy;generalize w5.setCell ⟨nb,2,none⟩ (.slice (some ⟨gg,0,none⟩) (vs.length+1) cap)=w6 at *;refine (kG 124 X S a2 true w6 Wh.out).mono ?_;rintro e w7 ⟨rfl,n7,rfl⟩;have aaM:=aa (Wh.out.drewN n7);have acu:=aa (rS.out.drewN n7);clear Wh rS;generalize w6.drewN n7=w7 at *;obtain ⟨c0,c1,c2,f1,f2⟩:=aaM.out.cells
   obtain ⟨bd,Kb⟩:∃bd,((rest S a2).head? == some 124)=bd:=⟨_,rfl⟩;rw[Kb];have ai:=aa (show ej bh X S at_ w (.returned (.pointer (some ⟨nb,0,none⟩))) w7 from ⟨_,a2,true,rfl,acu.out,aaM.out,⟨nb,rfl⟩,.inr ⟨rfl,HB.out,Kk.out⟩⟩);cases bd
   all_goals
    clear Kb;go_wp2_with fail;go_ret;exact ai.out
theorem R7(n:Nat):Ig n:=by
 induction n with
 | zero=>intro X S at_ w _ _ _ h;omega
 | succ n ih=>intro X S at_ w h oI hle hn;exact R6 n ih X S at_ w h oI hle (by omega)
end Go.Proofs.YtgncgdkpkkdaeaaGreatDoor.Ref
