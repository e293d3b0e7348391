import Derived.Test.YtgncgdkpkkdaeaaGreatDoorATA
import Derived.Test.YtgncgdkpkkdaeaaGreatDoorAD
set_option maxRecDepth 20000
set_option maxHeartbeats 4000000
namespace Go.Proofs.YtgncgdkpkkdaeaaGreatDoor.Ref
open Go.RowKit bu
variable {S:ByteArray} {on:List Bool} {rs:List Re} {s s' s0:List UInt8} {vs xs:List Value} {A B X a1 a2 at_ kind n nb size:Nat} {K:Nat->Prop} {q r:Re} {e:TypeId} {sv v v':Value} {W w w' w3 w4 wr:World}
def I8(kind:Nat)(rs:List Re)(r:Re):Prop:=
 (kind=38/\r=cG rs)∨(kind=124/\∃r0 rs',rs=r0::rs'/\r=rs'.foldl Re.alt r0)∨(kind=42/\∃q,rs=[q]/\r=.star q)∨(kind=43/\∃q,rs=[q]/\r=.plus q)∨(kind=63/\∃q,rs=[q]/\r=.fB q)
inductive dv(w:World)(K:Nat->Prop):Value->Re->Prop where
 | dr {p A:Nat} {on:List Bool} {c:eO}:K p->K A->gX w p 99 (.slice (some ⟨A,0,none⟩) 256 256) (.slice none 0 0)->SR w A on->PC on c->dv w K (.pointer (some ⟨p,0,none⟩)) (.dr c)
 | many {p kind:Nat} {sv:Value} {vs:List Value} {rs:List Re} {r:Re}:K p->gX w p kind (.slice none 0 0) sv->w.ownsRow 0 199 1 sv vs.length vs->(∀k,sv.ownBlock=some k->K k)->vs.length=rs.length ->
   (∀(i:Nat) (v:Value) (q:Re),vs[i]?=some v->rs[i]?=some q->dv w K v q)->I8 kind rs r->dv w K (.pointer (some ⟨p,0,none⟩)) r
theorem dU(h:w.ownsRow B e size sv n xs)(hk:∀k,sv.ownBlock=some k->w'.heap[k]?=w.heap[k]?):w'.ownsRow B e size sv n xs:=by
 obtain ⟨h1,h2⟩:=h;refine ⟨h1,?_⟩;rcases h2 with h2|⟨g,cap,cur,hv,hg,hh,r⟩
 ·exact .inl h2
 ·exact .inr ⟨g,cap,cur,hv,hg,by rw[hk g (by rw[hv];rfl)];exact hh,r⟩
theorem dv.keep(h:dv w K v r)(hk:∀k,K k->w'.heap[k]?=w.heap[k]?):dv w' K v r:=by
 induction h with
 | dr h1 h2 h3 h4 h5=>exact .dr h1 h2 ((hk _ h1).trans h3) ⟨(hk _ h2).trans h4.1,h4.2⟩ h5
 | many h1 h2 h3 h4 h5 _ h7 ih=>exact .many h1 ((hk _ h1).trans h2) (dU h3 λk e=>hk k (h4 k e)) h4 h5 ih h7
theorem dv.mono{K':Nat->Prop}(h:dv w K v r)(hk:∀k,K k->K' k):dv w K' v r:=by
 induction h with
 | dr h1 h2 h3 h4 h5=>exact .dr (hk _ h1) (hk _ h2) h3 h4 h5
 | many h1 h2 h3 h4 h5 _ h7 ih=>exact .many (hk _ h1) h2 h3 (λk e=>hk k (h4 k e)) h5 ih h7
theorem cT(h:w.ownsRow B e size sv n xs){k:Nat}(hk:sv.ownBlock=some k):B<=k/\k<w.heap.size:=by
 rcases h.2 with ⟨rfl,_⟩|⟨g,cap,cur,rfl,hg,hh,_⟩
 ·cases hk
 ·cases hk;exact ⟨hg,ae hh⟩
theorem dv.bound(h:dv w K v r):dv w (λk=>K k/\k<w.heap.size) v r:=by
 induction h with
 | dr h1 h2 h3 h4 h5=>exact .dr ⟨h1,ae h3⟩ ⟨h2,ae h4.1⟩ h3 h4 h5
 | many h1 h2 h3 h4 h5 _ h7 ih=>exact .many ⟨h1,ae h2⟩ h2 h3 (λk e=>⟨h4 k e,(cT h3 e).2⟩) h5 ih h7
theorem dv.ap(h:dv w (λk=>B<=k) v r)(hX:X<B)(hap:Ap X w w'):dv w' (λk=>B<=k) v r:=
 (h.bound.keep (λk hk=>hap.keep k hk.2 (by have:=hk.1;omega))).mono (λ_ hk=>hk.1)
def eC(P:List UInt8->Option (Re×List UInt8)->Prop)(X:Nat)(S:ByteArray)(at_:Nat)(w:World)(e:Ending)(w':World):Prop:=
 ∃(v:Value) (a1:Nat) (bad:Bool),e=.returned v/\Ap X w w'/\ba w' X S a1 bad/\(∃p,v=.pointer (some ⟨p,0,none⟩)) /\
  ((bad=false/\a1<=S.size/\∃r,P (rest S at_) (some (r,rest S a1))/\dv w' (λk=>w.heap.size<=k) v r)∨(bad=true/\a1+at_<=2*S.size+1/\P (rest S at_) none))
def I9(n:Nat):Prop:=∀(X:Nat) (S:ByteArray) (at_:Nat) (w:World),ba w X S at_ false->S.size<=60->at_<=S.size->S.size - at_<n ->
 Calls Tryz.prog 103 #[.pointer (some ⟨X,0,none⟩)] w (eC bH X S at_ w)
theorem Cs.tree{bad:Bool}{c:eO}(h:Cs X S w A nb wr a1 bad on)(hc:PC on c):dv wr (λk=>w.heap.size<=k) (.pointer (some ⟨nb,0,none⟩)) (.dr c):=
 .dr h.iX h.hA h.node h.I5 hc
theorem SU(h:∀m,m<256->on[m]?=some true):PC on .any:=λb=>h _ b.toNat_lt
theorem SV(b:UInt8):PC (cK.set b.toNat true) (.range b b):=λd=>by
 have hb:b.toNat<256:=b.toNat_lt;have hd:d.toNat<256:=d.toNat_lt;rw[List.getElem?_set];by_cases h:b.toNat=d.toNat
 ·rw[if_pos h,if_pos (by unfold cK;rw[List.length_replicate];exact hb)];simp[eO.has,h]
 ·rw[if_neg h,ng hd];simp only[eO.has,fA];rcases ed d.toNat b.toNat with h1|h1
  ·have:decide (b.toNat<=d.toNat)=false:=by simp;omega
   rw[this];rfl
  ·have:decide (d.toNat<=b.toNat)=false:=by simp;omega
   rw[this,Bool.and_false]
def SX(X:Nat)(S:ByteArray)(w:World)(A nb:Nat)(a1:Nat)(k:Nat)(vc:Value)(wr:World):Prop:=
 ∃(on:List Bool) (j:Nat),vc=.int .i64 j/\j+k=256/\Cs X S w A nb wr a1 false on/\∀m,m<j->on[m]?=some true
theorem PG{j m:Nat}(hl:on.length=256)(hj:j<256)(h:∀m,m<j->on[m]?=some true)(hm:m<j+1):(on.set j true)[m]?=some true:=by
 rw[List.getElem?_set];by_cases UA:j=m
 ·rw[if_pos UA,if_pos (by omega)]
 ·rw[if_neg UA];exact h m (by omega)
theorem uC.parts{e:Ending}(h:uC X S at_ w e w'):∃(b:UInt8) (a1:Nat) (bad:Bool),e=.returned (.int .u8 b.toNat)/\Ap X w w'/\ba w' X S a1 bad/\a1<=S.size/\((bad=false/\dK (rest S at_)=some (b,rest S a1))∨(bad=true/\dK (rest S at_)=none)):=by
 obtain ⟨hap,b,a1,he,ha,⟨h1,_,h3⟩|⟨h1,h3⟩⟩:=h
 ·exact ⟨b,a1,false,he,hap,h3,ha,.inl ⟨rfl,h1⟩⟩
 ·exact ⟨b,a1,true,he,hap,h3,ha,.inr ⟨rfl,h1⟩⟩
theorem K9{w1:World}{bad:Bool}{b:UInt8}(hlt:at_<S.size)(hap:Ap X w w1)(hcs:Cs X S w1 A nb w4 a1 bad cK)(ha1:a1<=S.size)
  (hA:aV (rest S at_) ((dK (rest S at_)).map λp=>(Re.dr (eO.range p.1 p.1),p.2))) (ho:(bad=false/\dK (rest S at_)=some (b,rest S a1))∨(bad=true/\dK (rest S at_)=none)):
  eC aV X S at_ w (.returned (.pointer (some ⟨nb,0,none⟩))) (w4.setCell ⟨A,b.toNat,none⟩ (.bool true)):=by
 have h1:=hcs.put b.toNat true;refine ⟨_,a1,bad,rfl,hap.trans h1.ap,h1.scan,⟨nb,rfl⟩,?_⟩;rcases ho with ⟨rfl,h⟩|⟨rfl,h⟩
 ·rw[h]at hA;exact .inl ⟨rfl,ha1,_,hA,(h1.tree (SV b)).mono (λk hk=>bJ hap.size hk)⟩
 ·rw[h]at hA;exact .inr ⟨rfl,by omega,hA⟩
theorem vA(n:Nat)(hC:I9 n)(X:Nat)(S:ByteArray)(at_:Nat)(w:World)(h:ba w X S at_ false)(pD:S.size<=60)(hlt:at_<S.size)(hn:S.size - at_<=n):
  Calls Tryz.prog 183 #[.pointer (some ⟨X,0,none⟩)] w (eC aV X S at_ w):=by
 obtain ⟨c0,c1,c2,f1,f2⟩:=h.cells;have H0:=aa h;have hr:=bE hlt;have Uw:at_<=60:=by omega
 obtain ⟨a0,ha0⟩:∃a0,a0=at_+1:=⟨_,rfl⟩;have zv:a0<=S.size:=by omega
 have adj:a0<=60:=by omega
 rw[<-ha0]at hr;have HA0:=aa ha0;have HN:=aa hn;have HC:=aa hC;have HM:=aa (show ∀W,ba W X S at_ false->ba (W.setCell ⟨X,1,none⟩ (.int .i64 ((at_:Int)+1))) X S a0 false from λW hW=>by rw[ha0];exact hW.move (at_+1));clear h ha0 hn hC;by_cases EG:S[at_]=40
 ·have q40:(((S[at_]).toNat:Int)==40)=true:=by rw[EG];rfl
  rw[EG]at hr;have HR:=aa hr;clear hr EG;go_enter Tryz.func183,Tryz.ntmps183;go_wp2_with fail;go_quiet (fail)
  rename Nat=>pQ
  have H1:=aa (H0.out.drewN pQ);have QS:=aa ((Ap.refl X w).drewN pQ);have HX:=aa H0.out.lt;clear c0 c1 c2 f1 f2 H0;obtain ⟨c0,c1,c2,f1,f2⟩:=H1.out.cells;generalize w.drewN pQ=w1 at *;go_wp2_with fail;have H2:=aa (HM.out w1 H1.out);have qW:=aa (QS.out.setCell (p:=⟨X,1,none⟩) rfl (.int .i64 ((at_:Int)+1)));clear c0 c1 c2 f1 f2 H1 QS HM
  generalize w1.setCell ⟨X,1,none⟩ (.int .i64 ((at_:Int)+1))=w2 at *;refine (HC.out X S a0 w2 H2.out pD zv (by have:=HN.out;have:=HA0.out;omega)).mono ?_;rintro e w3 ⟨v,a1,bad,rfl,hap,hsc,⟨p,rfl⟩,⟨rfl,ha1,r,hP,hN⟩|⟨rfl,hb,hP⟩⟩
  ·have H3:=aa hsc;have PH:=aa (qW.out.trans hap);have HT:=aa (hN.mono (K':=λk=>w.heap.size<=k) (λk hk=>bJ qW.out.size hk));have HP:=aa hP;clear hsc hap hN hP H2 qW;go_wp2_with fail;refine (lr 41 X S a1 false w3 H3.out).mono ?_;rintro e w4 ⟨rfl,n4,rfl⟩;have H4:=aa (H3.out.drewN n4);have PI:=aa ((Ap.refl X w3).drewN n4);clear H3
   generalize w3.drewN n4=w4 at *;obtain ⟨c0,c1,c2,f1,f2⟩:=H4.out.cells;have aa8:a1<=60:=by omega
   by_cases Yt:(rest S a1).head?=some 41
   ·have PJ:((rest S a1).head? == some 41)=true:=by rw[Yt];rfl
    rw[PJ];obtain ⟨iW,hr2⟩:=nU Yt;have mA:=aa hr2;clear PJ Yt hr2;go_wp2_with fail;go_ret;have abb:=PI.out.setCell (p:=⟨X,1,none⟩) rfl (.int .i64 ((a1:Int)+1));exact ⟨_,a1+1,false,rfl,PH.out.trans abb,H4.out.move (a1+1),⟨p,rfl⟩,.inl ⟨rfl,by omega,r,by rw[HR.out];exact .paren (by rw[<-mA.out];exact HP.out),HT.out.ap HX.out abb⟩⟩
   ·have PJ:((rest S a1).head? == some 41)=false:=by rw[er];exact Yt
    rw[PJ];have H41:=aa Yt;clear PJ Yt;go_wp2_with fail;go_ret;exact ⟨_,a1+1,true,rfl,PH.out.trans ((PI.out.setCell (p:=⟨X,2,none⟩) rfl (.bool true)).setCell (p:=⟨X,1,none⟩) rfl (.int .i64 ((a1:Int)+1))),(H4.out.tH true).move (a1+1),⟨p,rfl⟩,.inr ⟨rfl,by omega,by rw[HR.out];exact .fR HP.out H41.out⟩⟩
  ·have H3:=aa hsc;have PH:=aa (qW.out.trans hap);have HP:=aa hP;clear hsc hap hP H2 qW;go_wp2_with fail;refine (lr 41 X S a1 true w3 H3.out).mono ?_;rintro e w4 ⟨rfl,n4,rfl⟩;have H4:=aa (H3.out.drewN n4);have PI:=aa (PH.out.drewN n4);clear H3 PH;generalize w3.drewN n4=w4 at *;obtain ⟨c0,c1,c2,f1,f2⟩:=H4.out.cells;have acT:a1<=200:=by omega
   have HB:=aa hb;clear hb;obtain ⟨bd,K0⟩:∃bd,((rest S a1).head? == some 41)=bd:=⟨_,rfl⟩;rw[K0];clear K0;cases bd
   ·go_wp2_with fail;go_ret;exact ⟨_,a1+1,true,rfl,(PI.out.setCell (p:=⟨X,2,none⟩) rfl (.bool true)).setCell (p:=⟨X,1,none⟩) rfl (.int .i64 ((a1:Int)+1)),(H4.out.tH true).move (a1+1),⟨p,rfl⟩,.inr ⟨rfl,by have:=HB.out;have:=HA0.out;omega,by rw[HR.out];exact .gl HP.out⟩⟩
   ·go_wp2_with fail;go_ret;exact ⟨_,a1+1,true,rfl,PI.out.setCell (p:=⟨X,1,none⟩) rfl (.int .i64 ((a1:Int)+1)),H4.out.move (a1+1),⟨p,rfl⟩,.inr ⟨rfl,by have:=HB.out;have:=HA0.out;omega,by rw[HR.out];exact .gl HP.out⟩⟩
 ·have q40:(((S[at_]).toNat:Int)==40)=false:=by rw[er];intro h;exact EG (UInt8.toNat_inj.1 (by simp;omega))
  by_cases Xc:S[at_]=91
  ·have q91:(((S[at_]).toNat:Int)==91)=true:=by rw[Xc];rfl
   rw[Xc]at hr;have HR:=aa hr;clear hr EG Xc;go_enter Tryz.func183,Tryz.ntmps183;go_wp2_with fail;go_quiet (fail)
   rename Nat=>pQ
   have H1:=aa (H0.out.drewN pQ);have QS:=aa ((Ap.refl X w).drewN pQ);clear c0 c1 c2 f1 f2 H0;obtain ⟨c0,c1,c2,f1,f2⟩:=H1.out.cells;generalize w.drewN pQ=w1 at *;go_wp2_with fail;have H2:=aa (HM.out w1 H1.out);have qW:=aa (QS.out.setCell (p:=⟨X,1,none⟩) rfl (.int .i64 ((at_:Int)+1)));clear c0 c1 c2 f1 f2 H1 QS HM
   generalize w1.setCell ⟨X,1,none⟩ (.int .i64 ((at_:Int)+1))=w2 at *;refine (rJ X S a0 w2 H2.out pD zv).mono ?_;rintro e w3 ⟨A,nb,a1,bad,on,rfl,ha1,hcs,⟨rfl,c,hT,hP⟩|⟨rfl,hP⟩⟩
   ·have aq:=aa (show eC aV X S at_ w (.returned (.pointer (some ⟨nb,0,none⟩))) w3 from ⟨_,a1,false,rfl,qW.out.trans hcs.ap,hcs.scan,⟨nb,rfl⟩,.inl ⟨rfl,ha1,.dr c,by rw[HR.out];exact aV.dr (o:=some (c,rest S a1)) hP,(hcs.tree hT).mono (λk hk=>bJ qW.out.size hk)⟩⟩);clear hcs hT hP H2 qW;go_wp2_with fail;go_ret;exact aq.out
   ·have aq:=aa (show eC aV X S at_ w (.returned (.pointer (some ⟨nb,0,none⟩))) w3 from ⟨_,a1,true,rfl,qW.out.trans hcs.ap,hcs.scan,⟨nb,rfl⟩,.inr ⟨rfl,by omega,by rw[HR.out];exact aV.dr (o:=none) hP⟩⟩);clear hcs hP H2 qW;go_wp2_with fail;go_ret;exact aq.out
  ·have q91:(((S[at_]).toNat:Int)==91)=false:=by rw[er];intro h;exact Xc (UInt8.toNat_inj.1 (by simp;omega))
   by_cases Yu:S[at_]=46
   ·have q46:(((S[at_]).toNat:Int)==46)=true:=by rw[Yu];rfl
    rw[Yu]at hr;have HR:=aa hr;clear hr EG Xc Yu;go_enter Tryz.func183,Tryz.ntmps183;go_wp2_with fail;go_quiet (fail)
    rename Nat=>pQ
    have H1:=aa (H0.out.drewN pQ);have QS:=aa ((Ap.refl X w).drewN pQ);clear c0 c1 c2 f1 f2 H0;obtain ⟨c0,c1,c2,f1,f2⟩:=H1.out.cells;generalize w.drewN pQ=w1 at *;have hmk:=pJ (w1.setCell ⟨X,1,none⟩ (.int .i64 ((at_:Int)+1)));have hsz:(w1.setCell ⟨X,1,none⟩ (.int .i64 ((at_:Int)+1))).heap.size=w1.heap.size:=by simp[World.setCell]
    rw[hsz]at hmk;have PK:=aa (Cs.start (HM.out w1 H1.out));have qW:=aa (QS.out.setCell (p:=⟨X,1,none⟩) rfl (.int .i64 ((at_:Int)+1)));go_wp2_with fail;obtain ⟨nb,iX⟩:∃nb,nb=w1.heap.size+1:=⟨_,rfl⟩;obtain ⟨A,hA⟩:∃A,A=w1.heap.size:=⟨_,rfl⟩;rw[<-iX,<-hA];have GY:=aa PK.out;rw[hsz,<-iX,<-hA]at GY;clear PK hmk iX hA hsz c0 c1 c2 f1 f2 H1 HM QS
    generalize w1.setCell ⟨X,1,none⟩ (.int .i64 ((at_:Int)+1))=w2 at *;generalize (w2.alloc (.cells (bools cK) 4)).alloc (.cells #[.int .u8 99,.slice (some ⟨A,0,none⟩) 256 256,.slice none 0 0] 267)=w3 at *;go_loopg [6] 256 (λk vc wr=>SX X S w2 A nb a0 k vc wr)
    case atStart=>exact ⟨cK,0,rfl,rfl,GY.out,λm hm=>by omega⟩
    case round=>
     obtain ⟨on,j,rfl,hj,hcs,Uz⟩:=hrel;have wI:=aa hcs;have SY:=aa Uz;obtain ⟨c0,c1,c2,f1,f2,c3⟩:=wI.out.cells;clear hcs Uz
     cases gk with
     | zero=>
      obtain rfl:j=256:=by omega
      have aq:=aa (show eC aV X S at_ w (.returned (.pointer (some ⟨nb,0,none⟩))) wr from ⟨_,a0,false,rfl,qW.out.trans wI.out.ap,wI.out.scan,⟨nb,rfl⟩,.inl ⟨rfl,zv,.dr .any,by rw[HR.out];exact .dot,(wI.out.tree (SU SY.out)).mono (λk hk=>bJ qW.out.size hk)⟩⟩);go_wp2_with fail;go_ret;exact aq.out
     | succ k=>
      have ez:j<256:=by omega
      have Ys:decide ((j:Int)<256)=true:=by simp;omega
      obtain ⟨b2,hb2⟩:∃b2,on[j]?=some b2:=⟨_,cB (by rw[wI.out.I5.2];exact ez)⟩;obtain ⟨o1,o2⟩:=wI.out.bit hb2;clear hb2;go_wp2_with fail;go_roundg k
      case measure=>omega
      case rel=>exact ⟨on.set j true,j+1,rfl,by omega,wI.out.put j true,λm hm=>PG wI.out.I5.2 ez SY.out hm⟩
   ·have q46:(((S[at_]).toNat:Int)==46)=false:=by rw[er];intro h;exact Yu (UInt8.toNat_inj.1 (by simp;omega))
    have HA:=aa (aV.one (s:=rest S at_) (by rw[hr];simpa using EG) (by rw[hr];simpa using Yu) (by rw[hr];simpa using Xc));clear hr EG Xc Yu;go_enter Tryz.func183,Tryz.ntmps183;go_wp2_with fail;go_quiet (fail)
    rename Nat=>pQ
    have H1:=aa (H0.out.drewN pQ);have QS:=aa ((Ap.refl X w).drewN pQ);clear c0 c1 c2 f1 f2 H0;generalize w.drewN pQ=w1 at *;have hmk:=pJ w1;have PK:=aa (Cs.start H1.out);go_wp2_with fail;obtain ⟨nb,iX⟩:∃nb,nb=w1.heap.size+1:=⟨_,rfl⟩;obtain ⟨A,hA⟩:∃A,A=w1.heap.size:=⟨_,rfl⟩;rw[<-iX,<-hA];have GY:=aa PK.out;rw[<-iX,<-hA]at GY
    clear PK hmk iX hA H1 HM;generalize (w1.alloc (.cells (bools cK) 4)).alloc (.cells #[.int .u8 99,.slice (some ⟨A,0,none⟩) 256 256,.slice none 0 0] 267)=w3 at *;obtain ⟨c0,c1,c2,f1,f2,c3⟩:=GY.out.cells;have hle:at_<=S.size:=by omega
    go_region_with (go_at_call 202;refine (kS X S at_ _ (by exact GY.out.scan) pD hle).mono ?_;rintro e w4 iU;obtain ⟨b,a1,bad,rfl,hap,hsc,ha1,ho⟩:=iU.parts;have sQ:=aa (GY.out.drew.step hap hsc);have HO:=aa ho;clear hap hsc ho iU c0 c1 c2 f1 f2 c3;obtain ⟨c0,c1,c2,f1,f2,c3⟩:=sQ.out.cells;obtain ⟨o1,o2⟩:=sQ.out.bit (ng b.toNat_lt);have adk:b.toNat<256:=b.toNat_lt;have aq:=aa (K9 hlt QS.out sQ.out ha1 HA.out HO.out))
    all_goals
     go_wp2_with fail;go_ret;exact aq.out
structure Ct(X:Nat)(S:ByteArray)(w:World)(nb kind:Nat)(wr:World)(a1:Nat)(bad:Bool)(sv:Value)(vs:List Value)(rs:List Re):Prop where
 ap:Ap X w wr
 scan:ba wr X S a1 bad
 hX:X<w.heap.size
 iX:w.heap.size<=nb
 node:gX wr nb kind (.slice none 0 0) sv
 row:wr.ownsRow (nb+1) 199 1 sv vs.length vs
 len:vs.length=rs.length
 kids:∃K:Nat->Prop,(∀k,K k->nb<k/\k<wr.heap.size/\sv.ownBlock≠some k)/\∀(i:Nat) (v:Value) (q:Re),vs[i]?=some v->rs[i]?=some q->dv wr K v q
section
variable {X:Nat} {S:ByteArray} {w:World} {nb kind:Nat} {wr:World} {a1:Nat} {bad:Bool} {sv:Value} {vs:List Value} {rs:List Re}
theorem Ct.step(h:Ct X S w nb kind wr a1 bad sv vs rs){wr':World}{PA:Bool}(hap:Ap X wr wr')(hs:ba wr' X S a2 PA):Ct X S w nb kind wr' a2 PA sv vs rs:=by
 have hx:=h.hX;have hn:=h.iX;obtain ⟨K,hK,hk⟩:=h.kids;refine ⟨h.ap.trans hap,hs,hx,hn,(hap.keep nb (ae h.node) (by omega)).trans h.node,dU h.row (λk e=>?_),h.len,K,λk e=>⟨(hK k e).1,dw (hK k e).2.1 hap.size,(hK k e).2.2⟩,λi v q h1 h2=>(hk i v q h1 h2).keep (λk e=>?_)⟩
 ·have:=cT h.row e;exact hap.keep k this.2 (by omega)
 ·exact hap.keep k (hK k e).2.1 (by have:=(hK k e).1;omega)
theorem Ct.cells(h:Ct X S w nb kind wr a1 bad sv vs rs):wr.cell? ⟨X,0,none⟩=some (.string S)/\wr.cell? ⟨X,1,none⟩=some (.int .i64 a1)/\wr.cell? ⟨X,2,none⟩=some (.bool bad)/\wr.frozen? ⟨X,1,none⟩=false/\wr.frozen? ⟨X,2,none⟩=false /\
  wr.cell? ⟨nb,2,none⟩=some sv/\wr.frozen? ⟨nb,2,none⟩=false:=by
 obtain ⟨h1,h2,h3,h4,h5⟩:=h.scan.cells;have hn:=h.node;unfold gX at hn;exact ⟨h1,h2,h3,h4,h5,by simp[World.cell?,hn],by simp[World.frozen?,hn]⟩
theorem Ct.tree(h:Ct X S w nb kind wr a1 bad sv vs rs)(hp:I8 kind rs r):dv wr (λk=>w.heap.size<=k) (.pointer (some ⟨nb,0,none⟩)) r:=by
 obtain ⟨K,hK,hk⟩:=h.kids;have hn:=h.iX;refine .many (vs:=vs) (rs:=rs) hn h.node ⟨h.row.1,?_⟩ (λk e=>?_) h.len (λi v q h1 h2=>(hk i v q h1 h2).mono (λk e=>?_)) hp
 ·rcases h.row.2 with h2|⟨g,cap,cur,hv,hg,r⟩
  ·exact .inl h2
  ·exact .inr ⟨g,cap,cur,hv,Nat.zero_le _,r⟩
 ·have:=cT h.row e;omega
 ·have:=(hK k e).1;omega
theorem Ct.push(h:Ct X S w nb kind wr a1 bad sv vs rs)(hB:nb<B)(hv:dv wr (λk=>B<=k) v q)(oX:∀k,sv.ownBlock=some k->k<B)(hW:Below wr.heap.size wr W)
  (hown:w3.ownsRow (nb+1) 199 1 v' (vs.length+1) (vs++[v])) (hg:W.grownBy w3 sv.ownBlock) (hloc:v'.ownBlock=sv.ownBlock∨v'.ownBlock=some W.heap.size):
  Ct X S w nb kind (w3.setCell ⟨nb,2,none⟩ v') a1 bad v' (vs++[v]) (rs++[q])/\w3.heap[nb]?=some (.cells #[.int .u8 kind,.slice none 0 0,sv] 267 (0,0)):=by
 have hx:=h.hX;have hn:=h.iX;obtain ⟨K,hK,hk⟩:=h.kids;have hrow:∀k,sv.ownBlock=some k->nb+1<=k/\k<wr.heap.size:=λk e=>cT h.row e
 have Xd:=ae h.node
 have dC:∀k,k<wr.heap.size->sv.ownBlock≠some k->w3.heap[k]?=wr.heap[k]?:=λk h1 h2=>
  (hg.block k (dw h1 hW.size) (λe=>h2 e.symm)).trans (hW.block k h1)
 have dO:∀k,k≠nb->(w3.setCell ⟨nb,2,none⟩ v').heap[k]?=w3.heap[k]?:=λk e=>eV _ _ _ _ e
 have tI:w3.heap[nb]?=some (.cells #[.int .u8 kind,.slice none 0 0,sv] 267 (0,0)):=(dC nb Xd (λe=>by have:=hrow nb e;omega)).trans h.node;have hXl:X<wr.heap.size:=h.scan.lt;have hw4:(w3.setCell ⟨nb,2,none⟩ v').heap.size=w3.heap.size:=by simp[World.setCell]
 have h34:wr.heap.size<=w3.heap.size:=bJ hW.size hg.size;refine ⟨⟨⟨?_,?_,?_,?_,?_⟩,?_,hx,hn,?_,?_,by simp[h.len],λk=>K k∨(B<=k/\k<wr.heap.size),?_,?_⟩,tI⟩
 ·exact hg.os.trans (hW.os.trans h.ap.os)
 ·exact hg.tape.trans (hW.tape.trans h.ap.tape)
 ·exact hg.output.trans (hW.output.trans h.ap.output)
 ·rw[hw4];exact bJ h.ap.size h34
 ·intro k eY hk2;rw[dO k (by omega),dC k (dw eY h.ap.size) (λe=>by have:=hrow k e;omega)];exact h.ap.keep k eY hk2
 ·show (w3.setCell ⟨nb,2,none⟩ v').heap[X]?=_;rw[dO X (by omega),dC X hXl (λe=>by have:=hrow X e;omega)];exact h.scan
 ·exact ah w3 nb 2 _ tI
 ·have:(vs++[v]).length=vs.length+1:=by simp
  rw[this];exact dU hown (λk e=>dO k (by have:=cT hown e;omega))
 ·rintro k (e|⟨e1,e2⟩)
  ·obtain ⟨k1,k2,k3⟩:=hK k e;refine ⟨k1,by rw[hw4];omega,λe'=>?_⟩;rcases hloc with hl|hl
   ·exact k3 (hl▸e')
   ·rw[hl]at e';have:=Option.some.inj e';have:=hW.size;omega
  ·refine ⟨by omega,by rw[hw4];omega,λe'=>?_⟩;rcases hloc with hl|hl
   ·have:=oX k (hl▸e');omega
   ·rw[hl]at e';have:=Option.some.inj e';have:=hW.size;omega
 ·have key:∀k,(K k∨(B<=k/\k<wr.heap.size))->(w3.setCell ⟨nb,2,none⟩ v').heap[k]?=wr.heap[k]?:=by
   rintro k (e|⟨e1,e2⟩)
   ·obtain ⟨k1,k2,k3⟩:=hK k e;rw[dO k (by omega)];exact dC k k2 k3
   ·rw[dO k (by omega)];exact dC k e2 (λe'=>by have:=oX k e';omega)
  intro i v0 q0 h1 h2;rcases ed i vs.length with hi|hi
  ·rw[nz hi]at h1;rw[nz (by have:=h.len;omega)]at h2;exact ((hk i v0 q0 h1 h2).mono (λk e=>Or.inl e)).keep key
  ·rw[pS hi]at h1;rw[pS (by have:=h.len;omega)]at h2
   have h0:i - vs.length=0:=by
    rcases Nat.eq_zero_or_pos (i - vs.length) with h0|h0
    ·exact h0
    ·rw[List.getElem?_eq_none (by simp;omega)]at h1;cases h1
   have JL:i - rs.length=0:=by have:=h.len;omega
   rw[h0]at h1;rw[JL]at h2;simp only[List.getElem?_cons_zero,fA]at h1 h2;subst h1 h2;exact (hv.bound.mono (λk e=>Or.inr e)).keep key
theorem Ct.Ja(h:Ct X S w nb kind wr a1 bad sv vs rs)(hW:Below wr.heap.size wr W)(hg:W.grownBy w3 sv.ownBlock):
  Ap X w (w3.setCell ⟨nb,2,none⟩ v')/\ba (w3.setCell ⟨nb,2,none⟩ v') X S a1 bad/\w3.heap[nb]?=some (.cells #[.int .u8 kind,.slice none 0 0,sv] 267 (0,0)):=by
 have hx:=h.hX;have hn:=h.iX;have hrow:∀k,sv.ownBlock=some k->nb+1<=k/\k<wr.heap.size:=λk e=>cT h.row e
 have Xd:=ae h.node
 have dC:∀k,k<wr.heap.size->sv.ownBlock≠some k->w3.heap[k]?=wr.heap[k]?:=λk h1 h2=>
  (hg.block k (dw h1 hW.size) (λe=>h2 e.symm)).trans (hW.block k h1)
 have dO:∀k,k≠nb->(w3.setCell ⟨nb,2,none⟩ v').heap[k]?=w3.heap[k]?:=λk e=>eV _ _ _ _ e
 have hXl:X<wr.heap.size:=h.scan.lt;have hw4:(w3.setCell ⟨nb,2,none⟩ v').heap.size=w3.heap.size:=by simp[World.setCell]
 refine ⟨⟨hg.os.trans (hW.os.trans h.ap.os),hg.tape.trans (hW.tape.trans h.ap.tape),hg.output.trans (hW.output.trans h.ap.output),?_,?_⟩,?_,(dC nb Xd (λe=>by have:=hrow nb e;omega)).trans h.node⟩
 ·rw[hw4];exact bJ h.ap.size (bJ hW.size hg.size)
 ·intro k eY hk2;rw[dO k (by omega),dC k (dw eY h.ap.size) (λe=>by have:=hrow k e;omega)];exact h.ap.keep k eY hk2
 ·show (w3.setCell ⟨nb,2,none⟩ v').heap[X]?=_;rw[dO X (by omega),dC X hXl (λe=>by have:=hrow X e;omega)];exact h.scan
end
theorem Ct.start{bad:Bool}(h:ba w X S a1 bad)(kind:Nat):Ct X S w w.heap.size kind (w.alloc (.cells #[.int .u8 kind,.slice none 0 0,.slice none 0 0] 267)) a1 bad (.slice none 0 0) [] []:=
 ⟨(Ap.refl _ _).alloc _,h.alloc _,h.lt,bc _,ag _ _,⟨rfl,.inl ⟨rfl,rfl⟩⟩,rfl,λ_=>False,λ_ e=>e.elim,λi v q h1=>by simp at h1⟩
theorem Ct.drewN{bad:Bool}(h:Ct X S w nb kind wr a1 bad sv vs rs)(n:Nat):Ct X S w nb kind (wr.drewN n) a1 bad sv vs rs:=h.step ((Ap.refl _ _).drewN n) (h.scan.drewN n)
theorem Ct.move{bad:Bool}(h:Ct X S w nb kind wr a1 bad sv vs rs)(m:Nat):Ct X S w nb kind (wr.setCell ⟨X,1,none⟩ (.int .i64 m)) m bad sv vs rs:=h.step ((Ap.refl X wr).setCell (p:=⟨X,1,none⟩) rfl _) (h.scan.move m)
def eD(s0:List UInt8)(rs:List Re)(s:List UInt8):Prop:=∀o,dL s o->dL s0 (o.map λp=>(rs++p.1,p.2))
theorem eD.start(s:List UInt8):eD s [] s:=λo h=>by cases o<;>exact h
theorem eD.more(h:eD s0 rs s)(hn:¬atEnd s)(hp:dt s (some (r,s'))):eD s0 (rs++[r]) s':=λo ho=>by
 cases o with
 | none=>exact h none (.jE hn hp ho)
 | some p=>
  have:=h (some (r::p.1,p.2)) (.more hn hp ho);simpa using this
theorem eD.bad(h:eD s0 rs s)(hn:¬atEnd s)(hp:dt s none):dL s0 none:=h none (.bad hn hp)
theorem eD.stop(h:eD s0 rs s)(hn:atEnd s):dL s0 (some (rs,s)):=by have:=h (some ([],s)) (.stop hn);simpa using this
def oD(s:List UInt8)(o:Option (Re×List UInt8)):Prop:=∃o',dL s o'/\o=o'.map λp=>(cG p.1,p.2)
def SZ(X:Nat)(S:ByteArray)(w:World)(nb:Nat)(at_:Nat)(k:Nat)(wr:World):Prop:=
 (∃(sv:Value) (vs:List Value) (rs:List Re) (a1:Nat),Ct X S w nb 38 wr a1 false sv vs rs/\vs.length<=a1/\a1<=S.size/\at_<=a1/\k=1+(S.size - a1)/\eD (rest S at_) rs (rest S a1))∨∃a1,k=0/\Ap X w wr/\ba wr X S a1 true/\a1+at_<=2*S.size+1/\dL (rest S at_) none
theorem DY{a:Nat}(ha:a<=S.size):(a=S.size/\atEnd (rest S a))∨(∃h:a<S.size,S[a]=124/\atEnd (rest S a))∨(∃h:a<S.size,S[a]=41/\atEnd (rest S a))∨(∃h:a<S.size,S[a]≠124/\S[a]≠41/\¬atEnd (rest S a)):=by
 rcases ed a S.size with h|h
 ·have hr:=bE h;by_cases h1:S[a]=124
  ·exact .inr (.inl ⟨h,h1,by rw[hr,h1];exact .inr (.inl rfl)⟩)
  ·by_cases h2:S[a]=41
   ·exact .inr (.inr (.inl ⟨h,h2,by rw[hr,h2];exact .inr (.inr rfl)⟩))
   ·refine .inr (.inr (.inr ⟨h,h1,h2,?_⟩));rw[hr];rintro (h3|h3|h3)
    ·cases h3
    ·simp at h3;exact h1 h3
    ·simp at h3;exact h2 h3
 ·exact .inl ⟨by omega,by rw[dF h];exact .inl rfl⟩
theorem nh:(Tryz.prog.info? 199).map (λi=>(i.zero,i.size,i.bytes))=some (some (.pointer none),1,8):=by kernel_rfl
theorem eI(h:w.ownsRow B e size sv n xs)(o:Obj):(w.alloc o).ownsRow B e size sv n xs:=
 dU h (λ_ hk=>Below.heap_alloc _ _ _ (cT h hk).2)
theorem qX(p:Nat):∀u∈[Value.pointer (some ⟨p,0,none⟩)],u.oneCell'=true:=by intro u hu;rw[List.mem_singleton.1 hu];rfl
theorem ni(S:ByteArray)(a:Nat):(rest S a).length=S.size - a:=by unfold rest;rw[List.length_drop];rfl
theorem La{p:Nat}(Mp:Ct X S w nb 38 w4 a2 false sv vs rs)(hni:dv w4 (λk=>B<=k) (.pointer (some ⟨p,0,none⟩)) r)(hB:B<=w4.heap.size)(kind:Nat)(hp:I8 kind [r] q):
  ∃w6,((w4.alloc (.cells #[.pointer (some ⟨p,0,none⟩)] 199)).alloc (.cells #[.int .u8 kind,.slice none 0 0,.slice (some ⟨w4.heap.size,0,none⟩) 1 1] 267)).drew=w6/\Ct X S w nb 38 w6 a2 false sv vs rs/\dv w6 (λk=>B<=k) (.pointer (some ⟨w4.heap.size+1,0,none⟩)) q:=by
 have hap:Ap X w4 ((w4.alloc (.cells #[.pointer (some ⟨p,0,none⟩)] 199)).alloc (.cells #[.int .u8 kind,.slice none 0 0,.slice (some ⟨w4.heap.size,0,none⟩) 1 1] 267)):=((Ap.refl X w4).alloc _).alloc _
 have Ra:∀k,k<w4.heap.size->((w4.alloc (.cells #[.pointer (some ⟨p,0,none⟩)] 199)).alloc (.cells #[.int .u8 kind,.slice none 0 0,.slice (some ⟨w4.heap.size,0,none⟩) 1 1] 267)).heap[k]?=w4.heap[k]?:=λk hk=>(Below.heap_alloc _ _ _ (by simp;omega)).trans (Below.heap_alloc _ _ _ hk)
 refine ⟨_,rfl,Mp.step ⟨hap.os,hap.tape,hap.output,hap.size,hap.keep⟩ ((Mp.scan.alloc _).alloc _),?_⟩;refine .many (kind:=kind) (sv:=.slice (some ⟨w4.heap.size,0,none⟩) 1 1) (vs:=[.pointer (some ⟨p,0,none⟩)]) (rs:=[r]) (by omega) ?_ ⟨rfl,.inr ⟨w4.heap.size,1,#[.pointer (some ⟨p,0,none⟩)],rfl,Nat.zero_le _,?_,bc _,by unfold maxLen;omega,rfl,rfl⟩⟩ ?_ rfl ?_ hp
 ·have:=ag (w4.alloc (.cells #[.pointer (some ⟨p,0,none⟩)] 199)) (.cells #[.int .u8 kind,.slice none 0 0,.slice (some ⟨w4.heap.size,0,none⟩) 1 1] 267);have hsz:(w4.alloc (.cells #[.pointer (some ⟨p,0,none⟩)] 199)).heap.size=w4.heap.size+1:=by simp
  rw[hsz]at this;exact this
 ·exact af (ag w4 _)
 ·intro k hk;cases hk;exact hB
 ·intro i v0 q0 h1 h2;rcases i with _|i
  ·simp only[List.getElem?_cons_zero,fA]at h1 h2;subst h1 h2;refine dv.mono (hni.bound.keep (λk hk=>?_)) (λ_ hk=>hk.1);exact Ra k hk.2
  ·simp at h1
theorem S0(Mp:Ct X S w nb 38 wr a1 false sv vs rs)(ha1:a1<=S.size)(Ey:eD (rest S at_) rs (rest S a1))(hend:atEnd (rest S a1))(n:Nat):
  eC oD X S at_ w (.returned (.pointer (some ⟨nb,0,none⟩))) (wr.drewN n):=
 ⟨_,a1,false,rfl,Mp.ap.drewN n,Mp.scan.drewN n,⟨nb,rfl⟩,.inl ⟨rfl,ha1,cG rs,⟨_,Ey.stop hend,rfl⟩,(Mp.drewN n).tree (.inl ⟨rfl,rfl⟩)⟩⟩
theorem DZ(hap:Ap X w wr)(hsc:ba wr X S a1 true)(hb:a1+at_<=2*S.size+1)(hp:dL (rest S at_) none)(n:Nat):
  eC oD X S at_ w (.returned (.pointer (some ⟨nb,0,none⟩))) (wr.drewN n):=
 ⟨_,a1,true,rfl,hap.drewN n,hsc.drewN n,⟨nb,rfl⟩,.inr ⟨rfl,hb,⟨_,hp,rfl⟩⟩⟩
theorem S1(n:Nat)(hC:I9 n)(X:Nat)(S:ByteArray)(at_:Nat)(w:World)(h:ba w X S at_ false)(pD:S.size<=60)(hle:at_<=S.size)(hn:S.size - at_<=n):
  Calls Tryz.prog 143 #[.pointer (some ⟨X,0,none⟩)] w (eC oD X S at_ w):=by
 have HC:=aa hC;have HN:=aa hn;have H0:=aa (Ct.start h 38);clear h hC hn;go_enter Tryz.func143,Tryz.ntmps143;go_wp2_with fail;obtain ⟨nb,iX⟩:∃nb,nb=w.heap.size:=⟨_,rfl⟩;have H1:=aa H0.out;rw[<-iX]at H1 ⊢;clear H0 iX;generalize w.alloc (.cells #[.int .u8 38,.slice none 0 0,.slice none 0 0] 267)=w1 at *
 go_loopg [4] (1+(S.size - at_)) (λk _ wr=>SZ X S w nb at_ k wr)
 case atStart=>exact .inl ⟨_,[],[],at_,H1.out,Nat.zero_le _,hle,bc _,rfl,eD.start _⟩
 case round=>
  rcases hrel with ⟨sv,vs,rs,a1,Mp,zK,ha1,acU,hk,Ey⟩|⟨a1,hk,hap,hsc,hb,hp⟩
  ·have vC:=aa Mp;have EN:=aa Ey;have HK:=aa hk;obtain ⟨c0,c1,c2,f1,f2,c3,f3⟩:=vC.out.cells;clear Mp Ey hk;rcases DY ha1 with ⟨he,hend⟩|⟨hlt,hb,hend⟩|⟨hlt,hb,hend⟩|⟨hlt,hb1,hb2,hend⟩
   case inr.inr.inr=>
    have hg:decide ((a1:Int)<(S.size:Int))=true:=by simp;omega
    have q1:(((S[a1]).toNat:Int) != 124)=true:=by rw[bne_iff_ne];intro h;exact hb1 (UInt8.toNat_inj.1 (by simp;omega))
    have q2:(((S[a1]).toNat:Int) != 41)=true:=by rw[bne_iff_ne];intro h;exact hb2 (UInt8.toNat_inj.1 (by simp;omega))
    have HE:=aa hend;clear hend hb1 hb2;go_wp2_with fail;go_quiet (fail)
    rename Nat=>pQ
    have GZ:=aa (vC.out.drewN pQ);clear vC c0 c1 c2 f1 f2 c3 f3;generalize wr.drewN pQ=w2 at *;go_wp2_with fail;refine (vA n HC.out X S a1 w2 GZ.out.scan pD hlt (by have:=HN.out;omega)).mono ?_;rintro e w3 ⟨v,a2,bad,rfl,hap,hsc,⟨p,rfl⟩,⟨rfl,ha2,r,hP,hN⟩|⟨rfl,hb,hP⟩⟩
    ·have jR:=aa (GZ.out.step hap hsc);have HP:=aa hP;have Xe:=aa hN;have VC:=aa (show w2.heap.size<=w3.heap.size from hap.size);clear hP hN hap hsc;obtain ⟨c0,c1,c2,f1,f2,c3,f3⟩:=jR.out.cells;have I7:=aa (show a1<a2 by have h1:=(aV.size HP.out _ _ rfl).1;rw[ni,ni]at h1;omega)
     have vP:=aa (ae GZ.out.node);have HSV:=aa (λk e=>(cT GZ.out.row (k:=k) e).2)
     have hsg:(∃h:a2<S.size,S[a2]=42∨S[a2]=43∨S[a2]=63)∨((rest S a2).head?≠some 42/\(rest S a2).head?≠some 43/\(rest S a2).head?≠some 63):=by
      rcases ed a2 S.size with h|h
      ·by_cases hs:S[a2]=42∨S[a2]=43∨S[a2]=63
       ·exact .inl ⟨h,hs⟩
       ·refine .inr ?_;rw[bE h];simp only[not_or]at hs;simpa using hs
      ·refine .inr ?_;rw[dF h];simp
     rcases hsg with ⟨iW,hS⟩|hpl
     ·have hg2:decide ((a2:Int)<(S.size:Int))=true:=by simp;omega
      have acV:∃sg:UInt8,S[a2]=sg/\∃q:Re,(sg=42/\q=.star r∨sg=43/\q=.plus r∨sg=63/\q=.fB r):=by
       rcases hS with h|h|h
       ·exact ⟨_,h,_,.inl ⟨rfl,rfl⟩⟩
       ·exact ⟨_,h,_,.inr (.inl ⟨rfl,rfl⟩)⟩
       ·exact ⟨_,h,_,.inr (.inr ⟨rfl,rfl⟩)⟩
      obtain ⟨sg,hSs,q,hsq⟩:=acV
      have MZ:=aa (show ∀s',rest S a2=sg::s'->dt (rest S a1) (some (q,s')) from λs' h=>by
       have hp:=HP.out;rw[h]at hp;rcases hsq with ⟨rfl,rfl⟩|⟨rfl,rfl⟩|⟨rfl,rfl⟩
       ·exact .star hp
       ·exact .plus hp
       ·exact .fB hp)
      have J6:=aa (show ∀sg':Nat,sg'=sg.toNat->sg'=42/\q=.star r∨sg'=43/\q=.plus r∨sg'=63/\q=.fB r from λsg' h=>by
       subst h;rcases hsq with ⟨rfl,h⟩|⟨rfl,h⟩|⟨rfl,h⟩
       ·exact .inl ⟨rfl,h⟩
       ·exact .inr (.inl ⟨rfl,h⟩)
       ·exact .inr (.inr ⟨rfl,h⟩))
      have Qr:=aa hSs;clear hsq hSs;rcases hS with hS|hS|hS
      all_goals
       first|have k1:(((S[a2]).toNat:Int)==42)=true:=by rw[hS];rfl|have k1:(((S[a2]).toNat:Int)==42)=false:=by rw[hS];rfl
       first|have k2:(((S[a2]).toNat:Int)==43)=true:=by rw[hS];rfl|have k2:(((S[a2]).toNat:Int)==43)=false:=by rw[hS];rfl
       first|have k3:(((S[a2]).toNat:Int)==63)=true:=by rw[hS];rfl|have k3:(((S[a2]).toNat:Int)==63)=false:=by rw[hS];rfl
       clear hS;go_wp2_with fail;go_quiet (fail)
       rename Nat=>EM
       have ul:=aa (jR.out.drewN EM);have Xf:=aa (Xe.out.keep (w':=w3.drewN EM) (λ_ _=>rfl));have abd:=aa (show w2.heap.size<=(w3.drewN EM).heap.size from VC.out);clear jR Xe c0 c1 c2 f1 f2 c3 f3;generalize w3.drewN EM=w4 at *;obtain ⟨c0,c1,c2,f1,f2,c3,f3⟩:=ul.out.cells;have e0:=aw c0 (.cells #[.pointer (some ⟨p,0,none⟩)] 199)
       have e1:=aw c1 (.cells #[.pointer (some ⟨p,0,none⟩)] 199)
       have hst:=λk hk=>La ul.out Xf.out abd.out k (q:=q) (by
        rcases J6.out k hk with ⟨h,h2⟩|⟨h,h2⟩|⟨h,h2⟩
        ·exact .inr (.inr (.inl ⟨h,r,rfl,h2⟩))
        ·exact .inr (.inr (.inr (.inl ⟨h,r,rfl,h2⟩)))
        ·exact .inr (.inr (.inr (.inr ⟨h,r,rfl,h2⟩))))
       obtain ⟨w6,Ib,abe,abf⟩:=hst S[a2].toNat (congrArg UInt8.toNat Qr.out);have HW6:=aa Ib;have S2:=aa abe;have Xg:=aa abf;clear abe abf hst Ib;go_wp2_with fail;go_region;obtain ⟨pp,hpp⟩:∃pp,pp=w4.heap.size+1:=⟨_,rfl⟩;rw[<-hpp]at Xg ⊢;clear hpp e0 e1 c0 c1 c2 f1 f2 c3 f3;rw[HW6.out];obtain ⟨c0,c1,c2,f1,f2,c3,f3⟩:=S2.out.cells
       obtain ⟨a3,Mo⟩:∃a3,a3=a2+1:=⟨_,rfl⟩;have mA:=aa (show rest S a2=sg::rest S a3 by rw[Mo,bE iW,Qr.out]);have CH:=aa Mo;have Xh:=aa (show Ct X S w nb 38 (w6.setCell ⟨X,1,none⟩ (.int .i64 ((a2:Int)+1))) a3 false sv vs rs by rw[Mo];exact S2.out.move (a2+1))
       have acW:=aa (Xg.out.ap (by have:=GZ.out.hX;have:=GZ.out.ap.size;omega:X<w2.heap.size) ((Ap.refl X w6).setCell (p:=⟨X,1,none⟩) rfl (.int .i64 ((a2:Int)+1))));have Qy:(w6.setCell ⟨X,1,none⟩ (.int .i64 ((a2:Int)+1))).heap.size=w6.heap.size:=by simp[World.setCell]
       have nj:=aa (by have:=aG (w6.setCell ⟨X,1,none⟩ (.int .i64 ((a2:Int)+1))) #[.pointer (some ⟨pp,0,none⟩)] 199;rw[Qy]at this;exact this:∀j u,[Value.pointer (some ⟨pp,0,none⟩)][j]?=some u->((w6.setCell ⟨X,1,none⟩ (.int .i64 ((a2:Int)+1))).alloc (.cells #[.pointer (some ⟨pp,0,none⟩)] 199)).cell? ((⟨w6.heap.size,0,none⟩:Addr).add j)=some u)
       have nk:=aa (show nb+1<=((w6.setCell ⟨X,1,none⟩ (.int .i64 ((a2:Int)+1))).alloc (.cells #[.pointer (some ⟨pp,0,none⟩)] 199)).heap.size by have:=ae S2.out.node;simp[World.setCell];omega);have UB:a2<=60:=by omega
       have c3':(w6.setCell ⟨X,1,none⟩ (.int .i64 ((a2:Int)+1))).cell? ⟨nb,2,none⟩=some sv:=Xh.out.cells.2.2.2.2.2.1;have ad4:=aw c3' (.cells #[.pointer (some ⟨pp,0,none⟩)] 199);clear Mo Qy S2 Xg;obtain ⟨i0,hi,hz0,hz1,hz3⟩:=info_parts nh
       go_wp2_with (at_builtin;go_loud (refine wpList_append_own_at _ rfl (.tmp 127) (.tmp 129) 265 rfl (nb+1) 199 i0 (.pointer none) 1 8 Tryz.underlying265 hi hz0 hz1 hz3 rfl (by decide) sv vs.length vs (by rfl) (by exact eI Xh.out.row _) ⟨w6.heap.size,0,none⟩ 1 1 [.pointer (some ⟨pp,0,none⟩)] (by rfl) (by rfl) (by exact nj.out) (qX pp) (by unfold maxLen;omega) (by omega) (by exact nk.out) ?_;intro v' w5 hown tR _ hloc;obtain ⟨gg,cap,rfl⟩:=aB hown (by omega);obtain ⟨UC,hq⟩:=Xh.out.push vP.out acW.out HSV.out (cq _ _) hown tR hloc;have Xi:=aa UC;clear UC;have d2:w5.cell? ⟨nb,2,none⟩=some sv:=(by simp[World.cell?,hq]);have df:w5.frozen? ⟨nb,2,none⟩=false:=(by simp[World.frozen?,hq]);clear hown tR hloc hq))
       go_roundg (1+(S.size - a3))
       case measure=>have:=HK.out;have:=CH.out;have:=I7.out;omega
       case rel=>exact .inl ⟨_,_,_,a3,Xi.out,by have:=I7.out;have:=CH.out;simp only[dG,fe,List.length_nil];omega,by have:=CH.out;omega,by have:=CH.out;have:=I7.out;omega,rfl,EN.out.more HE.out (MZ.out _ mA.out)⟩
     ·obtain ⟨abg,abh,abj⟩:=hpl;have H42:=aa abg;have H43:=aa abh;have H63:=aa abj;clear abg abh abj;by_cases iW:a2<S.size
      case' pos=>
       have hg2:decide ((a2:Int)<(S.size:Int))=true:=by simp;omega
       have kk:∀c:UInt8,(rest S a2).head?≠some c->(((S[a2]).toNat:Int)==(c.toNat:Int))=false:=λc h=>by rw[er];intro e;rw[bE iW]at h;exact h (by simpa using UInt8.toNat_inj.1 (by omega))
       have k1:(((S[a2]).toNat:Int)==42)=false:=kk 42 H42.out;have k2:(((S[a2]).toNat:Int)==43)=false:=kk 43 H43.out;have k3:(((S[a2]).toNat:Int)==63)=false:=kk 63 H63.out;clear kk
      case' neg=>
       have hg2:decide (a2<S.size)=false:=by simp;omega
      all_goals
       go_wp2_with fail;go_quiet (fail)
       rename Nat=>EM
       have ul:=aa (jR.out.drewN EM);have Xf:=aa (Xe.out.keep (w':=w3.drewN EM) (λ_ _=>rfl));have abd:=aa (show w2.heap.size<=(w3.drewN EM).heap.size from VC.out);clear jR Xe c0 c1 c2 f1 f2 c3 f3;generalize w3.drewN EM=w4 at *;obtain ⟨c0,c1,c2,f1,f2,c3,f3⟩:=ul.out.cells;have nj:=aa (aG w4 #[.pointer (some ⟨p,0,none⟩)] 199)
       have nk:=aa (show nb+1<=(w4.alloc (.cells #[.pointer (some ⟨p,0,none⟩)] 199)).heap.size by have:=ae ul.out.node;simp;omega);obtain ⟨i0,hi,hz0,hz1,hz3⟩:=info_parts nh
       go_wp2_with (at_builtin;go_loud (refine wpList_append_own_at _ rfl (.tmp 127) (.tmp 129) 265 rfl (nb+1) 199 i0 (.pointer none) 1 8 Tryz.underlying265 hi hz0 hz1 hz3 rfl (by decide) sv vs.length vs (by rfl) (by exact eI ul.out.row _) ⟨w4.heap.size,0,none⟩ 1 1 [.pointer (some ⟨p,0,none⟩)] (by rfl) (by rfl) (by exact nj.out) (qX p) (by unfold maxLen;omega) (by omega) (by exact nk.out) ?_;intro v' w5 hown tR _ hloc;obtain ⟨gg,cap,rfl⟩:=aB hown (by omega);obtain ⟨UC,hq⟩:=ul.out.push vP.out Xf.out HSV.out (cq _ _) hown tR hloc;have Xi:=aa UC;clear UC;have d2:w5.cell? ⟨nb,2,none⟩=some sv:=(by simp[World.cell?,hq]);have df:w5.frozen? ⟨nb,2,none⟩=false:=(by simp[World.frozen?,hq]);clear hown tR hloc hq))
       go_roundg (1+(S.size - a2))
       case measure=>have:=HK.out;have:=I7.out;omega
       case rel=>exact .inl ⟨_,_,_,a2,Xi.out,by have:=I7.out;simp only[dG,fe,List.length_nil];omega,ha2,by have:=I7.out;omega,rfl,EN.out.more HE.out (.plain HP.out H42.out H43.out H63.out)⟩
    ·have jR:=aa (GZ.out.step hap hsc);have K8:=aa (EN.out.bad HE.out (.bad hP));have HB:=aa (show a2+at_<=2*S.size+1 by omega);clear hP hap hsc hb;obtain ⟨c0,c1,c2,f1,f2,c3,f3⟩:=jR.out.cells;go_wp2_with fail;go_quiet (fail)
     rename Nat=>EM
     have ul:=aa (jR.out.drewN EM);clear jR c0 c1 c2 f1 f2 c3 f3;generalize w3.drewN EM=w4 at *;obtain ⟨c0,c1,c2,f1,f2,c3,f3⟩:=ul.out.cells;have nj:=aa (aG w4 #[.pointer (some ⟨p,0,none⟩)] 199);have nk:=aa (show nb+1<=(w4.alloc (.cells #[.pointer (some ⟨p,0,none⟩)] 199)).heap.size by have:=ae ul.out.node;simp;omega)
     obtain ⟨i0,hi,hz0,hz1,hz3⟩:=info_parts nh
     go_wp2_with (at_builtin;go_loud (refine wpList_append_own_at _ rfl (.tmp 127) (.tmp 129) 265 rfl (nb+1) 199 i0 (.pointer none) 1 8 Tryz.underlying265 hi hz0 hz1 hz3 rfl (by decide) sv vs.length vs (by rfl) (by exact eI ul.out.row _) ⟨w4.heap.size,0,none⟩ 1 1 [.pointer (some ⟨p,0,none⟩)] (by rfl) (by rfl) (by exact nj.out) (qX p) (by unfold maxLen;omega) (by omega) (by exact nk.out) ?_;intro v' w5 hown tR _ hloc;obtain ⟨gg,cap,rfl⟩:=aB hown (by omega);obtain ⟨qi,TW,hq⟩:=ul.out.Ja (v':=.slice (some ⟨gg,0,none⟩) (vs.length+1) cap) (cq _ _) tR;have sX:=aa qi;have Xj:=aa TW;clear qi TW;have d2:w5.cell? ⟨nb,2,none⟩=some sv:=(by simp[World.cell?,hq]);have df:w5.frozen? ⟨nb,2,none⟩=false:=(by simp[World.frozen?,hq]);clear hown tR hloc hq))
     go_roundg 0
     case measure=>have:=HK.out;omega
     case rel=>exact .inr ⟨a2,rfl,sX.out,Xj.out,HB.out,K8.out⟩
   case' inl=>
    have hg:decide (a1<S.size)=false:=by simp;omega
   case' inr.inl=>
    have hg:decide ((a1:Int)<(S.size:Int))=true:=by simp;omega
    have q1:(((S[a1]).toNat:Int) != 124)=false:=by rw[hb];rfl
    clear hb
   case' inr.inr.inl=>
    have hg:decide ((a1:Int)<(S.size:Int))=true:=by simp;omega
    have q1:(((S[a1]).toNat:Int) != 124)=true:=by rw[hb];rfl
    have q2:(((S[a1]).toNat:Int) != 41)=false:=by rw[hb];rfl
    clear hb
   all_goals
    have aq:=aa (S0 vC.out ha1 EN.out hend);clear hend;go_wp2_with fail;go_quiet (fail)
    rename Nat=>pQ
    go_wp2_with fail;go_ret;exact aq.out pQ
  ·have aq:=aa (DZ (nb:=nb) hap hsc hb hp);obtain ⟨c0,c1,c2,f1,f2⟩:=hsc.cells;clear hap hsc hp hb hk;go_wp2_with fail;go_quiet (fail)
   rename Nat=>pQ
   go_wp2_with fail;go_ret;exact aq.out pQ
def G0(s0:List UInt8)(rs:List Re)(s:List UInt8):Prop:=∃r0 rs',rs=r0::rs'/\∀o,iD (rs'.foldl Re.alt r0) s o->bH s0 o
def G1(s0:List UInt8)(rs:List Re)(s:List UInt8):Prop:=(rs=[]/\s0=s)∨G0 s0 rs (124::s)
theorem G1.next{qs:List Re}(h:G1 s0 rs s)(hc:dL s (some (qs,s'))):G0 s0 (rs++[cG qs]) s':=by
 rcases h with ⟨rfl,rfl⟩|⟨r0,rs',rfl,h3⟩
 ·exact ⟨cG qs,[],rfl,λo ho=>.one hc ho⟩
 ·refine ⟨r0,rs'++[cG qs],rfl,λo ho=>h3 o (.more hc ?_)⟩;rw[List.foldl_append]at ho;exact ho
theorem G1.bad(h:G1 s0 rs s)(hc:dL s none):bH s0 none:=by
 rcases h with ⟨rfl,rfl⟩|⟨r0,rs',rfl,h3⟩
 ·exact .bad hc
 ·exact h3 none (.bad hc)
theorem G0.more(h:G0 s0 rs (124::s)):G1 s0 rs s:=.inr h
theorem G0.stop(h:G0 s0 rs s)(hn:s.head?≠some 124):∃r,I8 124 rs r/\bH s0 (some (r,s)):=by obtain ⟨r0,rs',h1,h3⟩:=h;exact ⟨_,.inr (.inl ⟨rfl,r0,rs',h1,rfl⟩),h3 _ (.stop hn)⟩
theorem Lb(h:oD s (some (r,s'))):∃rs,dL s (some (rs,s'))/\r=cG rs:=by
 obtain ⟨o,h1,h2⟩:=h
 cases o with
 | none=>cases h2
 | some p=>simp only[Option.map_some,fA,Prod.mk.injEq]at h2;exact ⟨p.1,by rw[h2.2];exact h1,h2.1⟩
theorem Lc(h:oD s none):dL s none:=by
 obtain ⟨o,h1,h2⟩:=h
 cases o with
 | none=>exact h1
 | some p=>cases h2
def S3(X:Nat)(S:ByteArray)(w:World)(nb:Nat)(at_:Nat)(k:Nat)(wr:World):Prop:=
 ∃(sv:Value) (vs:List Value) (rs:List Re) (a1:Nat),Ct X S w nb 124 wr a1 false sv vs rs/\vs.length<=a1/\a1<=S.size/\at_<=a1/\k=S.size - a1/\G1 (rest S at_) rs (rest S a1)
theorem S4(n:Nat)(hC:I9 n)(X:Nat)(S:ByteArray)(at_:Nat)(w:World)(h:ba w X S at_ false)(pD:S.size<=60)(hle:at_<=S.size)(hn:S.size - at_<=n):
  Calls Tryz.prog 103 #[.pointer (some ⟨X,0,none⟩)] w (eC bH X S at_ w):=by
 have HC:=aa hC;have HN:=aa hn;have H0:=aa (Ct.start h 124);clear h hC hn;go_enter Tryz.func103,Tryz.ntmps103;go_wp2_with fail;obtain ⟨nb,iX⟩:∃nb,nb=w.heap.size:=⟨_,rfl⟩;have H1:=aa H0.out;rw[<-iX]at H1 ⊢;clear H0 iX;generalize w.alloc (.cells #[.int .u8 124,.slice none 0 0,.slice none 0 0] 267)=w1 at *
 go_loopg [4] (S.size - at_) (λk _ wr=>S3 X S w nb at_ k wr)
 case atStart=>exact ⟨_,[],[],at_,H1.out,Nat.zero_le _,hle,bc _,rfl,.inl ⟨rfl,rfl⟩⟩
 case round=>
  obtain ⟨sv,vs,rs,a1,Mp,zK,ha1,acU,hk,Ey⟩:=hrel;have vC:=aa Mp;have EN:=aa Ey;have HK:=aa hk;clear Mp Ey hk;go_wp2_with fail;refine (S1 n HC.out X S a1 wr vC.out.scan pD ha1 (by have:=HN.out;omega)).mono ?_;rintro e w3 ⟨v,a2,bad,rfl,hap,hsc,⟨p,rfl⟩,⟨rfl,ha2,r,hP,hN⟩|⟨rfl,hb,hP⟩⟩
  ·obtain ⟨qs,hc,rfl⟩:=Lb hP;have HT:=aa (EN.out.next hc);have I7:=aa (show a1<=a2 by have h1:=dL.size hc _ _ rfl;rw[ni,ni]at h1;omega)
   have jR:=aa (vC.out.step hap hsc);have Xe:=aa hN;have vP:=aa (ae vC.out.node);have HSV:=aa (λk e=>(cT vC.out.row (k:=k) e).2);clear hP hN hap hsc hc EN;obtain ⟨c0,c1,c2,f1,f2,c3,f3⟩:=jR.out.cells;have nj:=aa (aG w3 #[.pointer (some ⟨p,0,none⟩)] 199)
   have nk:=aa (show nb+1<=(w3.alloc (.cells #[.pointer (some ⟨p,0,none⟩)] 199)).heap.size by have:=ae jR.out.node;simp;omega);obtain ⟨i0,hi,hz0,hz1,hz3⟩:=info_parts nh
   go_wp2_with (at_builtin;go_loud (refine wpList_append_own_at _ rfl (.tmp 14) (.tmp 16) 265 rfl (nb+1) 199 i0 (.pointer none) 1 8 Tryz.underlying265 hi hz0 hz1 hz3 rfl (by decide) sv vs.length vs (by rfl) (by exact eI jR.out.row _) ⟨w3.heap.size,0,none⟩ 1 1 [.pointer (some ⟨p,0,none⟩)] (by rfl) (by rfl) (by exact nj.out) (qX p) (by unfold maxLen;omega) (by omega) (by exact nk.out) ?_;intro v' w5 hown tR _ hloc;obtain ⟨gg,cap,rfl⟩:=aB hown (by omega);obtain ⟨UC,hq⟩:=jR.out.push vP.out Xe.out HSV.out (cq _ _) hown tR hloc;have Xi:=aa UC;clear UC;have d2:w5.cell? ⟨nb,2,none⟩=some sv:=(by simp[World.cell?,hq]);have df:w5.frozen? ⟨nb,2,none⟩=false:=(by simp[World.frozen?,hq]);clear hown tR hloc hq))
   clear d2 df c0 c1 c2 f1 f2 c3 f3 nj nk jR Xe;generalize w5.setCell ⟨nb,2,none⟩ (.slice (some ⟨gg,0,none⟩) (vs.length+1) cap)=w6 at *;refine (lr 124 X S a2 false w6 Xi.out.scan).mono ?_;rintro e w7 ⟨rfl,n7,rfl⟩;have PL:=aa (Xi.out.drewN n7);clear Xi;generalize w6.drewN n7=w7 at *;obtain ⟨c0,c1,c2,f1,f2,c3,f3⟩:=PL.out.cells
   by_cases Ld:(rest S a2).head?=some 124
   ·have hv:((rest S a2).head? == some 124)=true:=by rw[Ld];rfl
    rw[hv];obtain ⟨iW,hr2⟩:=nU Ld;have HS:=aa (show G1 (rest S at_) (rs++[cG qs]) (rest S (a2+1)) from G0.more (by rw[<-hr2];exact HT.out));have UB:a2<=60:=by omega
    clear hv Ld hr2;go_wp2_with fail;go_roundg (S.size - (a2+1))
    case measure=>have:=HK.out;have:=I7.out;omega
    case rel=>exact ⟨_,_,_,a2+1,PL.out.move (a2+1),by have:=I7.out;simp only[dG,fe,List.length_nil];omega,by omega,by have:=I7.out;omega,rfl,HS.out⟩
   ·have hv:((rest S a2).head? == some 124)=false:=by rw[er];exact Ld
    rw[hv];obtain ⟨r,JR,qi⟩:=HT.out.stop Ld;have aq:=aa (show eC bH X S at_ w (.returned (.pointer (some ⟨nb,0,none⟩))) w7 from ⟨_,a2,false,rfl,PL.out.ap,PL.out.scan,⟨nb,rfl⟩,.inl ⟨rfl,ha2,r,qi,PL.out.tree JR⟩⟩);clear hv Ld JR qi;go_wp2_with fail;go_ret;exact aq.out
  ·have jR:=aa (vC.out.step hap hsc);have K8:=aa (EN.out.bad (Lc hP));have HB:=aa (show a2+at_<=2*S.size+1 by omega);clear hP hap hsc hb;obtain ⟨c0,c1,c2,f1,f2,c3,f3⟩:=jR.out.cells;have nj:=aa (aG w3 #[.pointer (some ⟨p,0,none⟩)] 199)
   have nk:=aa (show nb+1<=(w3.alloc (.cells #[.pointer (some ⟨p,0,none⟩)] 199)).heap.size by have:=ae jR.out.node;simp;omega);obtain ⟨i0,hi,hz0,hz1,hz3⟩:=info_parts nh
   go_wp2_with (at_builtin;go_loud (refine wpList_append_own_at _ rfl (.tmp 14) (.tmp 16) 265 rfl (nb+1) 199 i0 (.pointer none) 1 8 Tryz.underlying265 hi hz0 hz1 hz3 rfl (by decide) sv vs.length vs (by rfl) (by exact eI jR.out.row _) ⟨w3.heap.size,0,none⟩ 1 1 [.pointer (some ⟨p,0,none⟩)] (by rfl) (by rfl) (by exact nj.out) (qX p) (by unfold maxLen;omega) (by omega) (by exact nk.out) ?_;intro v' w5 hown tR _ hloc;obtain ⟨gg,cap,rfl⟩:=aB hown (by omega);obtain ⟨qi,TW,hq⟩:=jR.out.Ja (v':=.slice (some ⟨gg,0,none⟩) (vs.length+1) cap) (cq _ _) tR;have sX:=aa qi;have Xj:=aa TW;clear qi TW;have d2:w5.cell? ⟨nb,2,none⟩=some sv:=(by simp[World.cell?,hq]);have df:w5.frozen? ⟨nb,2,none⟩=false:=(by simp[World.frozen?,hq]);clear hown tR hloc hq))
   clear d2 df c0 c1 c2 f1 f2 c3 f3 nj nk jR;generalize w5.setCell ⟨nb,2,none⟩ (.slice (some ⟨gg,0,none⟩) (vs.length+1) cap)=w6 at *;refine (lr 124 X S a2 true w6 Xj.out).mono ?_;rintro e w7 ⟨rfl,n7,rfl⟩;have abk:=aa (Xj.out.drewN n7);have acX:=aa (sX.out.drewN n7);clear Xj sX;generalize w6.drewN n7=w7 at *;obtain ⟨c0,c1,c2,f1,f2⟩:=abk.out.cells
   obtain ⟨bd,K0⟩:∃bd,((rest S a2).head? == some 124)=bd:=⟨_,rfl⟩;rw[K0];have aq:=aa (show eC bH X S at_ w (.returned (.pointer (some ⟨nb,0,none⟩))) w7 from ⟨_,a2,true,rfl,acX.out,abk.out,⟨nb,rfl⟩,.inr ⟨rfl,HB.out,K8.out⟩⟩);cases bd
   all_goals
    clear K0;go_wp2_with fail;go_ret;exact aq.out
theorem S5(n:Nat):I9 n:=by
 induction n with
 | zero=>intro X S at_ w _ _ _ h;omega
 | succ n ih=>intro X S at_ w h pD hle hn;exact S4 n ih X S at_ w h pD hle (by omega)
end Go.Proofs.YtgncgdkpkkdaeaaGreatDoor.Ref
