import Derived.Test.YtgncgdkpkkdaeaaGreatDoorMTA
import Derived.Test.YtgncgdkpkkdaeaaGreatDoorMD
import Derived.Maps.AppendAt
namespace Go.Proofs.YtgncgdkpkkdaeaaGreatDoor.Ref
open Go.RowKit aQ
variable {bad:Bool} {S:ByteArray} {on:List Bool} {xs:List Value} {A B X a1 at_ n nb size:Nat} {K:Nat->Prop} {r:Re} {e:TypeId} {sv v:Value} {w w':World}
def Gi(kind:Nat)(rs:List Re)(r:Re):Prop:=
 (kind=38/\r=bn rs)∨(kind=124/\∃r0 rs',rs=r0::rs'/\r=rs'.foldl Re.alt r0)∨(kind=42/\∃q,rs=[q]/\r=.star q)∨(kind=43/\∃q,rs=[q]/\r=.plus q)∨(kind=63/\∃q,rs=[q]/\r=.eG q)
inductive cI(w:World)(K:Nat->Prop):Value->Re->Prop where
 | cV {p A:Nat} {on:List Bool} {c:ej}:K p->K A->fZ w p 99 (.slice (some ⟨A,0,none⟩) 256 256) (.slice none 0 0)->Qd w A on->Kc on c->cI w K (.pointer (some ⟨p,0,none⟩)) (.cV c)
 | many {p kind:Nat} {sv:Value} {vs:List Value} {rs:List Re} {r:Re}:K p->fZ w p kind (.slice none 0 0) sv->w.ownsRow 0 199 1 sv vs.length vs->(∀k,sv.ownBlock=some k->K k)->vs.length=rs.length ->
   (∀(i:Nat) (v:Value) (q:Re),vs[i]?=some v->rs[i]?=some q->cI w K v q)->Gi kind rs r->cI w K (.pointer (some ⟨p,0,none⟩)) r
theorem dz(h:w.ownsRow B e size sv n xs)(hk:∀k,sv.ownBlock=some k->w'.heap[k]?=w.heap[k]?):w'.ownsRow B e size sv n xs:=by
 obtain ⟨h1,h2⟩:=h;refine ⟨h1,?_⟩;rcases h2 with h2|⟨g,cap,cur,hv,hg,hh,r⟩
 ·exact .inl h2
 ·exact .inr ⟨g,cap,cur,hv,hg,by rw[hk g (by rw[hv];rfl)];exact hh,r⟩
theorem cI.keep(h:cI w K v r)(hk:∀k,K k->w'.heap[k]?=w.heap[k]?):cI w' K v r:=by
 induction h with
 | cV h1 h2 h3 h4 h5=>exact .cV h1 h2 ((hk _ h1).trans h3) ⟨(hk _ h2).trans h4.1,h4.2⟩ h5
 | many h1 h2 h3 h4 h5 _ h7 ih=>exact .many h1 ((hk _ h1).trans h2) (dz h3 λk e=>hk k (h4 k e)) h4 h5 ih h7
theorem cI.mono{K':Nat->Prop}(h:cI w K v r)(hk:∀k,K k->K' k):cI w K' v r:=by
 induction h with
 | cV h1 h2 h3 h4 h5=>exact .cV (hk _ h1) (hk _ h2) h3 h4 h5
 | many h1 h2 h3 h4 h5 _ h7 ih=>exact .many (hk _ h1) h2 h3 (λk e=>hk k (h4 k e)) h5 ih h7
theorem cI.ptr(h:cI w K v r):∃p,v=.pointer (some ⟨p,0,none⟩)/\K p:=by
 cases h with
 | cV h1=>exact ⟨_,rfl,h1⟩
 | many h1=>exact ⟨_,rfl,h1⟩
theorem cD(h:w.ownsRow B e size sv n xs){k:Nat}(hk:sv.ownBlock=some k):B<=k/\k<w.heap.size:=by
 rcases h.2 with ⟨rfl,_⟩|⟨g,cap,cur,rfl,hg,hh,_⟩
 ·cases hk
 ·cases hk;exact ⟨hg,ae hh⟩
theorem cI.bound(h:cI w K v r):cI w (λk=>K k/\k<w.heap.size) v r:=by
 induction h with
 | cV h1 h2 h3 h4 h5=>exact .cV ⟨h1,ae h3⟩ ⟨h2,ae h4.1⟩ h3 h4 h5
 | many h1 h2 h3 h4 h5 _ h7 ih=>exact .many ⟨h1,ae h2⟩ h2 h3 (λk e=>⟨h4 k e,(cD h3 e).2⟩) h5 ih h7
theorem cI.ap(h:cI w (λk=>B<=k) v r)(hX:X<B)(hap:Ap X w w'):cI w' (λk=>B<=k) v r:=
 (h.bound.keep (λk hk=>hap.keep k hk.2 (by have:=hk.1;omega))).mono (λ_ hk=>hk.1)
def dU(P:List UInt8->Option (Re×List UInt8)->Prop)(X:Nat)(S:ByteArray)(at_:Nat)(w:World)(e:Ending)(w':World):Prop:=
 ∃(v:Value) (a1:Nat) (bad:Bool),e=.returned v/\Ap X w w'/\aY w' X S a1 bad/\(∃p,v=.pointer (some ⟨p,0,none⟩)) /\
  ((bad=false/\a1<=S.size/\∃r,P (rest S at_) (some (r,rest S a1))/\cI w' (λk=>w.heap.size<=k) v r)∨(bad=true/\a1+at_<=2*S.size+1/\P (rest S at_) none))
def Gj(n:Nat):Prop:=∀(X:Nat) (S:ByteArray) (at_:Nat) (w:World),aY w X S at_ false->S.size<=60->at_<=S.size->S.size - at_<n ->
 Calls Tryz.prog 103 #[.pointer (some ⟨X,0,none⟩)] w (dU bc X S at_ w)
theorem Cs.tree{wr:World}{c:ej}(h:Cs X S w A nb wr a1 bad on)(hc:Kc on c):cI wr (λk=>w.heap.size<=k) (.pointer (some ⟨nb,0,none⟩)) (.cV c):=
 .cV h.kg h.hA h.node h.Gf hc
theorem Qf(h:∀m,m<256->on[m]?=some true):Kc on .any:=λb=>h _ b.toNat_lt
theorem Qg(b:UInt8):Kc (ck.set b.toNat true) (.range b b):=λd=>by
 have hb:b.toNat<256:=b.toNat_lt;have hd:d.toNat<256:=d.toNat_lt;rw[List.getElem?_set];by_cases h:b.toNat=d.toNat
 ·rw[if_pos h,if_pos (by unfold ck;rw[List.length_replicate];exact hb)];simp[ej.has,h]
 ·rw[if_neg h,lG hd];simp only[ej.has,Option.some.injEq];rcases Nat.lt_or_ge d.toNat b.toNat with h1|h1
  ·have:decide (b.toNat<=d.toNat)=false:=by simp;omega
   rw[this];rfl
  ·have:decide (d.toNat<=b.toNat)=false:=by simp;omega
   rw[this,Bool.and_false]
def Qh(X:Nat)(S:ByteArray)(w:World)(A nb:Nat)(a1:Nat)(k:Nat)(vc:Value)(wr:World):Prop:=
 ∃(on:List Bool) (j:Nat),vc=.int .i64 j/\j+k=256/\Cs X S w A nb wr a1 false on/\∀m,m<j->on[m]?=some true
theorem Nc{j m:Nat}(hl:on.length=256)(hj:j<256)(h:∀m,m<j->on[m]?=some true)(hm:m<j+1):(on.set j true)[m]?=some true:=by
 rw[List.getElem?_set];by_cases RZ:j=m
 ·rw[if_pos RZ,if_pos (by omega)]
 ·rw[if_neg RZ];exact h m (by omega)
theorem sq.parts{e:Ending}(h:sq X S at_ w e w'):∃(b:UInt8) (a1:Nat) (bad:Bool),e=.returned (.int .u8 b.toNat)/\Ap X w w'/\aY w' X S a1 bad/\a1<=S.size/\((bad=false/\dv (rest S at_)=some (b,rest S a1))∨(bad=true/\dv (rest S at_)=none)):=by
 obtain ⟨hap,b,a1,he,ha,⟨h1,_,h3⟩|⟨h1,h3⟩⟩:=h
 ·exact ⟨b,a1,false,he,hap,h3,ha,.inl ⟨rfl,h1⟩⟩
 ·exact ⟨b,a1,true,he,hap,h3,ha,.inr ⟨rfl,h1⟩⟩
theorem I6{w1 w4:World}{b:UInt8}(hlt:at_<S.size)(hap:Ap X w w1)(hcs:Cs X S w1 A nb w4 a1 bad ck)(ha1:a1<=S.size)
  (hA:aT (rest S at_) ((dv (rest S at_)).map λp=>(Re.cV (ej.range p.1 p.1),p.2))) (ho:(bad=false/\dv (rest S at_)=some (b,rest S a1))∨(bad=true/\dv (rest S at_)=none)):
  dU aT X S at_ w (.returned (.pointer (some ⟨nb,0,none⟩))) (w4.setCell ⟨A,b.toNat,none⟩ (.bool true)):=by
 have h1:=hcs.put b.toNat true;refine ⟨_,a1,bad,rfl,hap.trans h1.ap,h1.scan,⟨nb,rfl⟩,?_⟩;rcases ho with ⟨rfl,h⟩|⟨rfl,h⟩
 ·rw[h]at hA;exact .inl ⟨rfl,ha1,_,hA,(h1.tree (Qg b)).mono (λk hk=>Nat.le_trans hap.size hk)⟩
 ·rw[h]at hA;exact .inr ⟨rfl,by omega,hA⟩
set_option maxRecDepth 20000 in
set_option maxHeartbeats 4000000 in
theorem tz(n:Nat)(hC:Gj n)(X:Nat)(S:ByteArray)(at_:Nat)(w:World)(h:aY w X S at_ false)(nM:S.size<=60)(hlt:at_<S.size)(hn:S.size - at_<=n):
  Calls Tryz.prog 183 #[.pointer (some ⟨X,0,none⟩)] w (dU aT X S at_ w):=by
 obtain ⟨c0,c1,c2,f1,f2⟩:=h.cells;have H0:=aa h;have hr:=bm hlt;have RU:at_<=60:=by omega
 obtain ⟨a0,ha0⟩:∃a0,a0=at_+1:=⟨_,rfl⟩;have xu:a0<=S.size:=by omega
 have abJ:a0<=60:=by omega
 rw[<-ha0]at hr;have YL:=aa ha0;have HN:=aa hn;have HC:=aa hC;have HM:=aa (show ∀W,aY W X S at_ false->aY (W.setCell ⟨X,1,none⟩ (.int .i64 ((at_:Int)+1))) X S a0 false from λW hW=>by rw[ha0];exact hW.move (at_+1));clear h ha0 hn hC;by_cases CM:S[at_]=40
 ·have q40:(((S[at_]).toNat:Int)==40)=true:=by rw[CM];rfl
  rw[CM]at hr;have HR:=aa hr;clear hr CM;go_enter Tryz.func183,Tryz.ntmps183;go_wp2_with fail;go_quiet (fail)
  rename Nat=>og
  have H1:=aa (H0.out.drewN og);have Oy:=aa ((Ap.refl X w).drewN og);have HX:=aa H0.out.lt;clear c0 c1 c2 f1 f2 H0;obtain ⟨c0,c1,c2,f1,f2⟩:=H1.out.cells;generalize w.drewN og=w1 at *;go_wp2_with fail;have H2:=aa (HM.out w1 H1.out);have px:=aa (Oy.out.setCell (p:=⟨X,1,none⟩) rfl (.int .i64 ((at_:Int)+1)));clear c0 c1 c2 f1 f2 H1 Oy HM
  generalize w1.setCell ⟨X,1,none⟩ (.int .i64 ((at_:Int)+1))=w2 at *;refine (HC.out X S a0 w2 H2.out nM xu (by have:=HN.out;have:=YL.out;omega)).mono ?_;rintro e w3 ⟨v,a1,bad,rfl,hap,hsc,⟨p,rfl⟩,⟨rfl,ha1,r,hP,hN⟩|⟨rfl,hb,hP⟩⟩
  ·have H3:=aa hsc;have Nf:=aa (px.out.trans hap);have HT:=aa (hN.mono (K':=λk=>w.heap.size<=k) (λk hk=>Nat.le_trans px.out.size hk));have HP:=aa hP;clear hsc hap hN hP H2 px;go_wp2_with fail;refine (j5 41 X S a1 false w3 H3.out).mono ?_;rintro e w4 ⟨rfl,n4,rfl⟩;have H4:=aa (H3.out.drewN n4);have Ng:=aa ((Ap.refl X w3).drewN n4);clear H3
   generalize w3.drewN n4=w4 at *;obtain ⟨c0,c1,c2,f1,f2⟩:=H4.out.cells;have YN:a1<=60:=by omega
   by_cases VJ:(rest S a1).head?=some 41
   ·have Nh:((rest S a1).head? == some 41)=true:=by rw[VJ];rfl
    rw[Nh];obtain ⟨nD,hr2⟩:=mm VJ;have kR:=aa hr2;clear Nh VJ hr2;go_wp2_with fail;go_ret;have YR:=Ng.out.setCell (p:=⟨X,1,none⟩) rfl (.int .i64 ((a1:Int)+1));exact ⟨_,a1+1,false,rfl,Nf.out.trans YR,H4.out.move (a1+1),⟨p,rfl⟩,.inl ⟨rfl,by omega,r,by rw[HR.out];exact .paren (by rw[<-kR.out];exact HP.out),HT.out.ap HX.out YR⟩⟩
   ·have Nh:((rest S a1).head? == some 41)=false:=by rw[beq_eq_false_iff_ne];exact VJ
    rw[Nh];have H41:=aa VJ;clear Nh VJ;go_wp2_with fail;go_ret;exact ⟨_,a1+1,true,rfl,Nf.out.trans ((Ng.out.setCell (p:=⟨X,2,none⟩) rfl (.bool true)).setCell (p:=⟨X,1,none⟩) rfl (.int .i64 ((a1:Int)+1))),(H4.out.q9 true).move (a1+1),⟨p,rfl⟩,.inr ⟨rfl,by omega,by rw[HR.out];exact .eV HP.out H41.out⟩⟩
  ·have H3:=aa hsc;have Nf:=aa (px.out.trans hap);have HP:=aa hP;clear hsc hap hP H2 px;go_wp2_with fail;refine (j5 41 X S a1 true w3 H3.out).mono ?_;rintro e w4 ⟨rfl,n4,rfl⟩;have H4:=aa (H3.out.drewN n4);have Ng:=aa (Nf.out.drewN n4);clear H3 Nf;generalize w3.drewN n4=w4 at *;obtain ⟨c0,c1,c2,f1,f2⟩:=H4.out.cells;have abl:a1<=200:=by omega
   have HB:=aa hb;clear hb;obtain ⟨bd,IY⟩:∃bd,((rest S a1).head? == some 41)=bd:=⟨_,rfl⟩;rw[IY];clear IY;cases bd
   ·go_wp2_with fail;go_ret;exact ⟨_,a1+1,true,rfl,(Ng.out.setCell (p:=⟨X,2,none⟩) rfl (.bool true)).setCell (p:=⟨X,1,none⟩) rfl (.int .i64 ((a1:Int)+1)),(H4.out.q9 true).move (a1+1),⟨p,rfl⟩,.inr ⟨rfl,by have:=HB.out;have:=YL.out;omega,by rw[HR.out];exact .ft HP.out⟩⟩
   ·go_wp2_with fail;go_ret;exact ⟨_,a1+1,true,rfl,Ng.out.setCell (p:=⟨X,1,none⟩) rfl (.int .i64 ((a1:Int)+1)),H4.out.move (a1+1),⟨p,rfl⟩,.inr ⟨rfl,by have:=HB.out;have:=YL.out;omega,by rw[HR.out];exact .ft HP.out⟩⟩
 ·have q40:(((S[at_]).toNat:Int)==40)=false:=by rw[beq_eq_false_iff_ne];intro h;exact CM (UInt8.toNat_inj.1 (by simp;omega))
  by_cases Ur:S[at_]=91
  ·have q91:(((S[at_]).toNat:Int)==91)=true:=by rw[Ur];rfl
   rw[Ur]at hr;have HR:=aa hr;clear hr CM Ur;go_enter Tryz.func183,Tryz.ntmps183;go_wp2_with fail;go_quiet (fail)
   rename Nat=>og
   have H1:=aa (H0.out.drewN og);have Oy:=aa ((Ap.refl X w).drewN og);clear c0 c1 c2 f1 f2 H0;obtain ⟨c0,c1,c2,f1,f2⟩:=H1.out.cells;generalize w.drewN og=w1 at *;go_wp2_with fail;have H2:=aa (HM.out w1 H1.out);have px:=aa (Oy.out.setCell (p:=⟨X,1,none⟩) rfl (.int .i64 ((at_:Int)+1)));clear c0 c1 c2 f1 f2 H1 Oy HM
   generalize w1.setCell ⟨X,1,none⟩ (.int .i64 ((at_:Int)+1))=w2 at *;refine (pU X S a0 w2 H2.out nM xu).mono ?_;rintro e w3 ⟨A,nb,a1,bad,on,rfl,ha1,hcs,⟨rfl,c,hT,hP⟩|⟨rfl,hP⟩⟩
   ·have ai:=aa (show dU aT X S at_ w (.returned (.pointer (some ⟨nb,0,none⟩))) w3 from ⟨_,a1,false,rfl,px.out.trans hcs.ap,hcs.scan,⟨nb,rfl⟩,.inl ⟨rfl,ha1,.cV c,by rw[HR.out];exact aT.cV (o:=some (c,rest S a1)) hP,(hcs.tree hT).mono (λk hk=>Nat.le_trans px.out.size hk)⟩⟩);clear hcs hT hP H2 px;go_wp2_with fail;go_ret;exact ai.out
   ·have ai:=aa (show dU aT X S at_ w (.returned (.pointer (some ⟨nb,0,none⟩))) w3 from ⟨_,a1,true,rfl,px.out.trans hcs.ap,hcs.scan,⟨nb,rfl⟩,.inr ⟨rfl,by omega,by rw[HR.out];exact aT.cV (o:=none) hP⟩⟩);clear hcs hP H2 px;go_wp2_with fail;go_ret;exact ai.out
  ·have q91:(((S[at_]).toNat:Int)==91)=false:=by rw[beq_eq_false_iff_ne];intro h;exact Ur (UInt8.toNat_inj.1 (by simp;omega))
   by_cases VK:S[at_]=46
   ·have q46:(((S[at_]).toNat:Int)==46)=true:=by rw[VK];rfl
    rw[VK]at hr;have HR:=aa hr;clear hr CM Ur VK;go_enter Tryz.func183,Tryz.ntmps183;go_wp2_with fail;go_quiet (fail)
    rename Nat=>og
    have H1:=aa (H0.out.drewN og);have Oy:=aa ((Ap.refl X w).drewN og);clear c0 c1 c2 f1 f2 H0;obtain ⟨c0,c1,c2,f1,f2⟩:=H1.out.cells;generalize w.drewN og=w1 at *;have hmk:=nV (w1.setCell ⟨X,1,none⟩ (.int .i64 ((at_:Int)+1)));have hsz:(w1.setCell ⟨X,1,none⟩ (.int .i64 ((at_:Int)+1))).heap.size=w1.heap.size:=by simp[World.setCell]
    rw[hsz]at hmk;have Ni:=aa (Cs.start (HM.out w1 H1.out));have px:=aa (Oy.out.setCell (p:=⟨X,1,none⟩) rfl (.int .i64 ((at_:Int)+1)));go_wp2_with fail;obtain ⟨nb,kg⟩:∃nb,nb=w1.heap.size+1:=⟨_,rfl⟩;obtain ⟨A,hA⟩:∃A,A=w1.heap.size:=⟨_,rfl⟩;rw[<-kg,<-hA];have EJ:=aa Ni.out;rw[hsz,<-kg,<-hA]at EJ;clear Ni hmk kg hA hsz c0 c1 c2 f1 f2 H1 HM Oy
    generalize w1.setCell ⟨X,1,none⟩ (.int .i64 ((at_:Int)+1))=w2 at *;generalize (w2.alloc (.cells (bools ck) 4)).alloc (.cells #[.int .u8 99,.slice (some ⟨A,0,none⟩) 256 256,.slice none 0 0] 267)=w3 at *;go_loopg [6] 256 (λk vc wr=>Qh X S w2 A nb a0 k vc wr)
    case atStart=>exact ⟨ck,0,rfl,rfl,EJ.out,λm hm=>by omega⟩
    case round=>
     obtain ⟨on,j,rfl,hj,hcs,RY⟩:=hrel;have uh:=aa hcs;have Qi:=aa RY;obtain ⟨c0,c1,c2,f1,f2,c3⟩:=uh.out.cells;clear hcs RY
     cases gk with
     | zero=>
      obtain rfl:j=256:=by omega
      have ai:=aa (show dU aT X S at_ w (.returned (.pointer (some ⟨nb,0,none⟩))) wr from ⟨_,a0,false,rfl,px.out.trans uh.out.ap,uh.out.scan,⟨nb,rfl⟩,.inl ⟨rfl,xu,.cV .any,by rw[HR.out];exact .dot,(uh.out.tree (Qf Qi.out)).mono (λk hk=>Nat.le_trans px.out.size hk)⟩⟩);go_wp2_with fail;go_ret;exact ai.out
     | succ k=>
      have dQ:j<256:=by omega
      have VI:decide ((j:Int)<256)=true:=by simp;omega
      obtain ⟨b2,hb2⟩:∃b2,on[j]?=some b2:=⟨_,List.getElem?_eq_getElem (by rw[uh.out.Gf.2];exact dQ)⟩;obtain ⟨o1,o2⟩:=uh.out.bit hb2;clear hb2;go_wp2_with fail;go_roundg k
      case measure=>omega
      case rel=>exact ⟨on.set j true,j+1,rfl,by omega,uh.out.put j true,λm hm=>Nc uh.out.Gf.2 dQ Qi.out hm⟩
   ·have q46:(((S[at_]).toNat:Int)==46)=false:=by rw[beq_eq_false_iff_ne];intro h;exact VK (UInt8.toNat_inj.1 (by simp;omega))
    have HA:=aa (aT.one (s:=rest S at_) (by rw[hr];simpa using CM) (by rw[hr];simpa using VK) (by rw[hr];simpa using Ur));clear hr CM Ur VK;go_enter Tryz.func183,Tryz.ntmps183;go_wp2_with fail;go_quiet (fail)
    rename Nat=>og
    have H1:=aa (H0.out.drewN og);have Oy:=aa ((Ap.refl X w).drewN og);clear c0 c1 c2 f1 f2 H0;generalize w.drewN og=w1 at *;have hmk:=nV w1;have Ni:=aa (Cs.start H1.out);go_wp2_with fail;obtain ⟨nb,kg⟩:∃nb,nb=w1.heap.size+1:=⟨_,rfl⟩;obtain ⟨A,hA⟩:∃A,A=w1.heap.size:=⟨_,rfl⟩;rw[<-kg,<-hA];have EJ:=aa Ni.out;rw[<-kg,<-hA]at EJ
    clear Ni hmk kg hA H1 HM;generalize (w1.alloc (.cells (bools ck) 4)).alloc (.cells #[.int .u8 99,.slice (some ⟨A,0,none⟩) 256 256,.slice none 0 0] 267)=w3 at *;obtain ⟨c0,c1,c2,f1,f2,c3⟩:=EJ.out.cells;have hle:at_<=S.size:=by omega
    go_region_with (go_at_call 202;refine (jP X S at_ _ (by exact EJ.out.scan) nM hle).mono ?_;rintro e w4 ic;obtain ⟨b,a1,bad,rfl,hap,hsc,ha1,ho⟩:=ic.parts;have qA:=aa (EJ.out.drew.step hap hsc);have HO:=aa ho;clear hap hsc ho ic c0 c1 c2 f1 f2 c3;obtain ⟨c0,c1,c2,f1,f2,c3⟩:=qA.out.cells;obtain ⟨o1,o2⟩:=qA.out.bit (lG b.toNat_lt);have abK:b.toNat<256:=b.toNat_lt;have ai:=aa (I6 hlt Oy.out qA.out ha1 HA.out HO.out))
    all_goals
     go_wp2_with fail;go_ret;exact ai.out
end Go.Proofs.YtgncgdkpkkdaeaaGreatDoor.Ref
namespace Go.Proofs.YtgncgdkpkkdaeaaGreatDoor.Ref
open Go.RowKit aQ
variable {S:ByteArray} {rs:List Re} {s s0:List UInt8} {vs:List Value} {X a1 kind nb:Nat} {r:Re} {sv v':Value} {W w w3 wr:World}
structure Ct(X:Nat)(S:ByteArray)(w:World)(nb kind:Nat)(wr:World)(a1:Nat)(bad:Bool)(sv:Value)(vs:List Value)(rs:List Re):Prop where
 ap:Ap X w wr
 scan:aY wr X S a1 bad
 hX:X<w.heap.size
 kg:w.heap.size<=nb
 node:fZ wr nb kind (.slice none 0 0) sv
 row:wr.ownsRow (nb+1) 199 1 sv vs.length vs
 len:vs.length=rs.length
 kids:∃K:Nat->Prop,(∀k,K k->nb<k/\k<wr.heap.size/\sv.ownBlock≠some k)/\∀(i:Nat) (v:Value) (q:Re),vs[i]?=some v->rs[i]?=some q->cI wr K v q
section
variable {X:Nat} {S:ByteArray} {w:World} {nb kind:Nat} {wr:World} {a1:Nat} {bad:Bool} {sv:Value} {vs:List Value} {rs:List Re}
theorem Ct.step(h:Ct X S w nb kind wr a1 bad sv vs rs){wr':World}{a2:Nat}{M8:Bool}(hap:Ap X wr wr')(hs:aY wr' X S a2 M8):Ct X S w nb kind wr' a2 M8 sv vs rs:=by
 have hx:=h.hX;have hn:=h.kg;obtain ⟨K,hK,hk⟩:=h.kids;refine ⟨h.ap.trans hap,hs,hx,hn,(hap.keep nb (ae h.node) (by omega)).trans h.node,dz h.row (λk e=>?_),h.len,K,λk e=>⟨(hK k e).1,Nat.lt_of_lt_of_le (hK k e).2.1 hap.size,(hK k e).2.2⟩,λi v q h1 h2=>(hk i v q h1 h2).keep (λk e=>?_)⟩
 ·have:=cD h.row e;exact hap.keep k this.2 (by omega)
 ·exact hap.keep k (hK k e).2.1 (by have:=(hK k e).1;omega)
theorem Ct.cells(h:Ct X S w nb kind wr a1 bad sv vs rs):wr.cell? ⟨X,0,none⟩=some (.string S)/\wr.cell? ⟨X,1,none⟩=some (.int .i64 a1)/\wr.cell? ⟨X,2,none⟩=some (.bool bad)/\wr.frozen? ⟨X,1,none⟩=false/\wr.frozen? ⟨X,2,none⟩=false /\
  wr.cell? ⟨nb,2,none⟩=some sv/\wr.frozen? ⟨nb,2,none⟩=false:=by
 obtain ⟨h1,h2,h3,h4,h5⟩:=h.scan.cells;have hn:=h.node;unfold fZ at hn;exact ⟨h1,h2,h3,h4,h5,by simp[World.cell?,hn],by simp[World.frozen?,hn]⟩
theorem Ct.tree(h:Ct X S w nb kind wr a1 bad sv vs rs)(hp:Gi kind rs r):cI wr (λk=>w.heap.size<=k) (.pointer (some ⟨nb,0,none⟩)) r:=by
 obtain ⟨K,hK,hk⟩:=h.kids;have hn:=h.kg;refine .many (vs:=vs) (rs:=rs) hn h.node ⟨h.row.1,?_⟩ (λk e=>?_) h.len (λi v q h1 h2=>(hk i v q h1 h2).mono (λk e=>?_)) hp
 ·rcases h.row.2 with h2|⟨g,cap,cur,hv,hg,r⟩
  ·exact .inl h2
  ·exact .inr ⟨g,cap,cur,hv,Nat.zero_le _,r⟩
 ·have:=cD h.row e;omega
 ·have:=(hK k e).1;omega
theorem Ct.push(h:Ct X S w nb kind wr a1 bad sv vs rs){v:Value}{q:Re}{B:Nat}(hB:nb<B)(hv:cI wr (λk=>B<=k) v q)(rB:∀k,sv.ownBlock=some k->k<B)(hW:Below wr.heap.size wr W)
  (hown:w3.ownsRow (nb+1) 199 1 v' (vs.length+1) (vs++[v])) (hg:W.grownBy w3 sv.ownBlock) (hloc:v'.ownBlock=sv.ownBlock∨v'.ownBlock=some W.heap.size):
  Ct X S w nb kind (w3.setCell ⟨nb,2,none⟩ v') a1 bad v' (vs++[v]) (rs++[q])/\w3.heap[nb]?=some (.cells #[.int .u8 kind,.slice none 0 0,sv] 267 (0,0)):=by
 have hx:=h.hX;have hn:=h.kg;obtain ⟨K,hK,hk⟩:=h.kids;have hrow:∀k,sv.ownBlock=some k->nb+1<=k/\k<wr.heap.size:=λk e=>cD h.row e
 have Us:=ae h.node
 have dc:∀k,k<wr.heap.size->sv.ownBlock≠some k->w3.heap[k]?=wr.heap[k]?:=λk h1 h2=>
  (hg.block k (Nat.lt_of_lt_of_le h1 hW.size) (λe=>h2 e.symm)).trans (hW.block k h1)
 have dS:∀k,k≠nb->(w3.setCell ⟨nb,2,none⟩ v').heap[k]?=w3.heap[k]?:=λk e=>Below.heap_setCell _ _ _ _ e
 have ri:w3.heap[nb]?=some (.cells #[.int .u8 kind,.slice none 0 0,sv] 267 (0,0)):=(dc nb Us (λe=>by have:=hrow nb e;omega)).trans h.node;have hXl:X<wr.heap.size:=h.scan.lt;have hw4:(w3.setCell ⟨nb,2,none⟩ v').heap.size=w3.heap.size:=by simp[World.setCell]
 have h34:wr.heap.size<=w3.heap.size:=Nat.le_trans hW.size hg.size;refine ⟨⟨⟨?_,?_,?_,?_,?_⟩,?_,hx,hn,?_,?_,by simp[h.len],λk=>K k∨(B<=k/\k<wr.heap.size),?_,?_⟩,ri⟩
 ·exact hg.os.trans (hW.os.trans h.ap.os)
 ·exact hg.tape.trans (hW.tape.trans h.ap.tape)
 ·exact hg.output.trans (hW.output.trans h.ap.output)
 ·rw[hw4];exact Nat.le_trans h.ap.size h34
 ·intro k ey hk2;rw[dS k (by omega),dc k (Nat.lt_of_lt_of_le ey h.ap.size) (λe=>by have:=hrow k e;omega)];exact h.ap.keep k ey hk2
 ·show (w3.setCell ⟨nb,2,none⟩ v').heap[X]?=_;rw[dS X (by omega),dc X hXl (λe=>by have:=hrow X e;omega)];exact h.scan
 ·exact heap_setCell_same w3 nb 2 _ ri
 ·have:(vs++[v]).length=vs.length+1:=by simp
  rw[this];exact dz hown (λk e=>dS k (by have:=cD hown e;omega))
 ·rintro k (e|⟨e1,e2⟩)
  ·obtain ⟨k1,k2,k3⟩:=hK k e;refine ⟨k1,by rw[hw4];omega,λe'=>?_⟩;rcases hloc with hl|hl
   ·exact k3 (hl▸e')
   ·rw[hl]at e';have:=Option.some.inj e';have:=hW.size;omega
  ·refine ⟨by omega,by rw[hw4];omega,λe'=>?_⟩;rcases hloc with hl|hl
   ·have:=rB k (hl▸e');omega
   ·rw[hl]at e';have:=Option.some.inj e';have:=hW.size;omega
 ·have key:∀k,(K k∨(B<=k/\k<wr.heap.size))->(w3.setCell ⟨nb,2,none⟩ v').heap[k]?=wr.heap[k]?:=by
   rintro k (e|⟨e1,e2⟩)
   ·obtain ⟨k1,k2,k3⟩:=hK k e;rw[dS k (by omega)];exact dc k k2 k3
   ·rw[dS k (by omega)];exact dc k e2 (λe'=>by have:=rB k e';omega)
  intro i v0 q0 h1 h2;rcases Nat.lt_or_ge i vs.length with hi|hi
  ·rw[List.getElem?_append_left hi]at h1;rw[List.getElem?_append_left (by have:=h.len;omega)]at h2;exact ((hk i v0 q0 h1 h2).mono (λk e=>Or.inl e)).keep key
  ·rw[List.getElem?_append_right hi]at h1;rw[List.getElem?_append_right (by have:=h.len;omega)]at h2
   have h0:i - vs.length=0:=by
    rcases Nat.eq_zero_or_pos (i - vs.length) with h0|h0
    ·exact h0
    ·rw[List.getElem?_eq_none (by simp;omega)]at h1;cases h1
   have G3:i - rs.length=0:=by have:=h.len;omega
   rw[h0]at h1;rw[G3]at h2;simp only[List.getElem?_cons_zero,Option.some.injEq]at h1 h2;subst h1 h2;exact (hv.bound.mono (λk e=>Or.inr e)).keep key
theorem Ct.Gl(h:Ct X S w nb kind wr a1 bad sv vs rs)(hW:Below wr.heap.size wr W)(hg:W.grownBy w3 sv.ownBlock):
  Ap X w (w3.setCell ⟨nb,2,none⟩ v')/\aY (w3.setCell ⟨nb,2,none⟩ v') X S a1 bad/\w3.heap[nb]?=some (.cells #[.int .u8 kind,.slice none 0 0,sv] 267 (0,0)):=by
 have hx:=h.hX;have hn:=h.kg;have hrow:∀k,sv.ownBlock=some k->nb+1<=k/\k<wr.heap.size:=λk e=>cD h.row e
 have Us:=ae h.node
 have dc:∀k,k<wr.heap.size->sv.ownBlock≠some k->w3.heap[k]?=wr.heap[k]?:=λk h1 h2=>
  (hg.block k (Nat.lt_of_lt_of_le h1 hW.size) (λe=>h2 e.symm)).trans (hW.block k h1)
 have dS:∀k,k≠nb->(w3.setCell ⟨nb,2,none⟩ v').heap[k]?=w3.heap[k]?:=λk e=>Below.heap_setCell _ _ _ _ e
 have hXl:X<wr.heap.size:=h.scan.lt;have hw4:(w3.setCell ⟨nb,2,none⟩ v').heap.size=w3.heap.size:=by simp[World.setCell]
 refine ⟨⟨hg.os.trans (hW.os.trans h.ap.os),hg.tape.trans (hW.tape.trans h.ap.tape),hg.output.trans (hW.output.trans h.ap.output),?_,?_⟩,?_,(dc nb Us (λe=>by have:=hrow nb e;omega)).trans h.node⟩
 ·rw[hw4];exact Nat.le_trans h.ap.size (Nat.le_trans hW.size hg.size)
 ·intro k ey hk2;rw[dS k (by omega),dc k (Nat.lt_of_lt_of_le ey h.ap.size) (λe=>by have:=hrow k e;omega)];exact h.ap.keep k ey hk2
 ·show (w3.setCell ⟨nb,2,none⟩ v').heap[X]?=_;rw[dS X (by omega),dc X hXl (λe=>by have:=hrow X e;omega)];exact h.scan
end
theorem Ct.start{bad:Bool}(h:aY w X S a1 bad)(kind:Nat):Ct X S w w.heap.size kind (w.alloc (.cells #[.int .u8 kind,.slice none 0 0,.slice none 0 0] 267)) a1 bad (.slice none 0 0) [] []:=
 ⟨(Ap.refl _ _).alloc _,h.alloc _,h.lt,Nat.le_refl _,af _ _,⟨rfl,.inl ⟨rfl,rfl⟩⟩,rfl,λ_=>False,λ_ e=>e.elim,λi v q h1=>by simp at h1⟩
theorem Ct.drewN{bad:Bool}(h:Ct X S w nb kind wr a1 bad sv vs rs)(n:Nat):Ct X S w nb kind (wr.drewN n) a1 bad sv vs rs:=h.step ((Ap.refl _ _).drewN n) (h.scan.drewN n)
theorem Ct.move{bad:Bool}(h:Ct X S w nb kind wr a1 bad sv vs rs)(m:Nat):Ct X S w nb kind (wr.setCell ⟨X,1,none⟩ (.int .i64 m)) m bad sv vs rs:=h.step ((Ap.refl X wr).setCell (p:=⟨X,1,none⟩) rfl _) (h.scan.move m)
def dV(s0:List UInt8)(rs:List Re)(s:List UInt8):Prop:=∀o,cL s o->cL s0 (o.map λp=>(rs++p.1,p.2))
theorem dV.start(s:List UInt8):dV s [] s:=λo h=>by cases o<;>exact h
theorem dV.more{s':List UInt8}(h:dV s0 rs s)(hn:¬atEnd s)(hp:cU s (some (r,s'))):dV s0 (rs++[r]) s':=λo ho=>by
 cases o with
 | none=>exact h none (.iL hn hp ho)
 | some p=>
  have:=h (some (r::p.1,p.2)) (.more hn hp ho);simpa using this
theorem dV.bad(h:dV s0 rs s)(hn:¬atEnd s)(hp:cU s none):cL s0 none:=h none (.bad hn hp)
theorem dV.stop(h:dV s0 rs s)(hn:atEnd s):cL s0 (some (rs,s)):=by have:=h (some ([],s)) (.stop hn);simpa using this
def mR(s:List UInt8)(o:Option (Re×List UInt8)):Prop:=∃o',cL s o'/\o=o'.map λp=>(bn p.1,p.2)
def Qj(X:Nat)(S:ByteArray)(w:World)(nb:Nat)(at_:Nat)(k:Nat)(wr:World):Prop:=
 (∃(sv:Value) (vs:List Value) (rs:List Re) (a1:Nat),Ct X S w nb 38 wr a1 false sv vs rs/\vs.length<=a1/\a1<=S.size/\at_<=a1/\k=1+(S.size - a1)/\dV (rest S at_) rs (rest S a1))∨∃a1,k=0/\Ap X w wr/\aY wr X S a1 true/\a1+at_<=2*S.size+1/\cL (rest S at_) none
end Go.Proofs.YtgncgdkpkkdaeaaGreatDoor.Ref
namespace Go.Proofs.YtgncgdkpkkdaeaaGreatDoor.Ref
open Go.RowKit aQ
variable {S:ByteArray} {rs:List Re} {vs:List Value} {B X a1 at_ nb:Nat} {sv:Value} {w wr:World}
theorem BX{a:Nat}(ha:a<=S.size):(a=S.size/\atEnd (rest S a))∨(∃h:a<S.size,S[a]=124/\atEnd (rest S a))∨(∃h:a<S.size,S[a]=41/\atEnd (rest S a))∨(∃h:a<S.size,S[a]≠124/\S[a]≠41/\¬atEnd (rest S a)):=by
 rcases Nat.lt_or_ge a S.size with h|h
 ·have hr:=bm h;by_cases h1:S[a]=124
  ·exact .inr (.inl ⟨h,h1,by rw[hr,h1];exact .inr (.inl rfl)⟩)
  ·by_cases h2:S[a]=41
   ·exact .inr (.inr (.inl ⟨h,h2,by rw[hr,h2];exact .inr (.inr rfl)⟩))
   ·refine .inr (.inr (.inr ⟨h,h1,h2,?_⟩));rw[hr];rintro (h3|h3|h3)
    ·cases h3
    ·simp at h3;exact h1 h3
    ·simp at h3;exact h2 h3
 ·exact .inl ⟨by omega,by rw[dg h];exact .inl rfl⟩
theorem lH:(Tryz.prog.info? 199).map (λi=>(i.zero,i.size,i.bytes))=some (some (.pointer none),1,8):=by kernel_rfl
theorem dZ{e:TypeId}{size:Nat}{n:Nat}{xs:List Value}(h:w.ownsRow B e size sv n xs)(o:Obj):(w.alloc o).ownsRow B e size sv n xs:=
 dz h (λ_ hk=>Below.heap_alloc _ _ _ (cD h hk).2)
theorem py(p:Nat):∀u∈[Value.pointer (some ⟨p,0,none⟩)],u.oneCell'=true:=by intro u hu;rw[List.mem_singleton.1 hu];rfl
theorem lI(S:ByteArray)(a:Nat):(rest S a).length=S.size - a:=by unfold rest;rw[List.length_drop];rfl
theorem I7{w4:World}{a2:Nat}{p:Nat}{r q:Re}(Ke:Ct X S w nb 38 w4 a2 false sv vs rs)(hni:cI w4 (λk=>B<=k) (.pointer (some ⟨p,0,none⟩)) r)(hB:B<=w4.heap.size)(kind:Nat)(hp:Gi kind [r] q):
  ∃w6,((w4.alloc (.cells #[.pointer (some ⟨p,0,none⟩)] 199)).alloc (.cells #[.int .u8 kind,.slice none 0 0,.slice (some ⟨w4.heap.size,0,none⟩) 1 1] 267)).drew=w6/\Ct X S w nb 38 w6 a2 false sv vs rs/\cI w6 (λk=>B<=k) (.pointer (some ⟨w4.heap.size+1,0,none⟩)) q:=by
 have hap:Ap X w4 ((w4.alloc (.cells #[.pointer (some ⟨p,0,none⟩)] 199)).alloc (.cells #[.int .u8 kind,.slice none 0 0,.slice (some ⟨w4.heap.size,0,none⟩) 1 1] 267)):=((Ap.refl X w4).alloc _).alloc _
 have OM:∀k,k<w4.heap.size->((w4.alloc (.cells #[.pointer (some ⟨p,0,none⟩)] 199)).alloc (.cells #[.int .u8 kind,.slice none 0 0,.slice (some ⟨w4.heap.size,0,none⟩) 1 1] 267)).heap[k]?=w4.heap[k]?:=λk hk=>(Below.heap_alloc _ _ _ (by simp;omega)).trans (Below.heap_alloc _ _ _ hk)
 refine ⟨_,rfl,Ke.step ⟨hap.os,hap.tape,hap.output,hap.size,hap.keep⟩ ((Ke.scan.alloc _).alloc _),?_⟩;refine .many (kind:=kind) (sv:=.slice (some ⟨w4.heap.size,0,none⟩) 1 1) (vs:=[.pointer (some ⟨p,0,none⟩)]) (rs:=[r]) (by omega) ?_ ⟨rfl,.inr ⟨w4.heap.size,1,#[.pointer (some ⟨p,0,none⟩)],rfl,Nat.zero_le _,?_,Nat.le_refl _,by unfold maxLen;omega,rfl,rfl⟩⟩ ?_ rfl ?_ hp
 ·have:=af (w4.alloc (.cells #[.pointer (some ⟨p,0,none⟩)] 199)) (.cells #[.int .u8 kind,.slice none 0 0,.slice (some ⟨w4.heap.size,0,none⟩) 1 1] 267);have hsz:(w4.alloc (.cells #[.pointer (some ⟨p,0,none⟩)] 199)).heap.size=w4.heap.size+1:=by simp
  rw[hsz]at this;exact this
 ·exact heap_alloc_old (af w4 _)
 ·intro k hk;cases hk;exact hB
 ·intro i v0 q0 h1 h2;rcases i with _|i
  ·simp only[List.getElem?_cons_zero,Option.some.injEq]at h1 h2;subst h1 h2;refine cI.mono (hni.bound.keep (λk hk=>?_)) (λ_ hk=>hk.1);exact OM k hk.2
  ·simp at h1
theorem Qk(Ke:Ct X S w nb 38 wr a1 false sv vs rs)(ha1:a1<=S.size)(CC:dV (rest S at_) rs (rest S a1))(hend:atEnd (rest S a1))(n:Nat):
  dU mR X S at_ w (.returned (.pointer (some ⟨nb,0,none⟩))) (wr.drewN n):=
 ⟨_,a1,false,rfl,Ke.ap.drewN n,Ke.scan.drewN n,⟨nb,rfl⟩,.inl ⟨rfl,ha1,bn rs,⟨_,CC.stop hend,rfl⟩,(Ke.drewN n).tree (.inl ⟨rfl,rfl⟩)⟩⟩
theorem BZ(hap:Ap X w wr)(hsc:aY wr X S a1 true)(hb:a1+at_<=2*S.size+1)(hp:cL (rest S at_) none)(n:Nat):
  dU mR X S at_ w (.returned (.pointer (some ⟨nb,0,none⟩))) (wr.drewN n):=
 ⟨_,a1,true,rfl,hap.drewN n,hsc.drewN n,⟨nb,rfl⟩,.inr ⟨rfl,hb,⟨_,hp,rfl⟩⟩⟩
set_option maxRecDepth 20000 in
set_option maxHeartbeats 4000000 in
theorem Ql(n:Nat)(hC:Gj n)(X:Nat)(S:ByteArray)(at_:Nat)(w:World)(h:aY w X S at_ false)(nM:S.size<=60)(hle:at_<=S.size)(hn:S.size - at_<=n):
  Calls Tryz.prog 143 #[.pointer (some ⟨X,0,none⟩)] w (dU mR X S at_ w):=by
 have HC:=aa hC;have HN:=aa hn;have H0:=aa (Ct.start h 38);clear h hC hn;go_enter Tryz.func143,Tryz.ntmps143;go_wp2_with fail;obtain ⟨nb,kg⟩:∃nb,nb=w.heap.size:=⟨_,rfl⟩;have H1:=aa H0.out;rw[<-kg]at H1 ⊢;clear H0 kg;generalize w.alloc (.cells #[.int .u8 38,.slice none 0 0,.slice none 0 0] 267)=w1 at *
 go_loopg [4] (1+(S.size - at_)) (λk _ wr=>Qj X S w nb at_ k wr)
 case atStart=>exact .inl ⟨_,[],[],at_,H1.out,Nat.zero_le _,hle,Nat.le_refl _,rfl,dV.start _⟩
 case round=>
  rcases hrel with ⟨sv,vs,rs,a1,Ke,xK,ha1,abm,hk,CC⟩|⟨a1,hk,hap,hsc,hb,hp⟩
  ·have tB:=aa Ke;have CT:=aa CC;have HK:=aa hk;obtain ⟨c0,c1,c2,f1,f2,c3,f3⟩:=tB.out.cells;clear Ke CC hk;rcases BX ha1 with ⟨he,hend⟩|⟨hlt,hb,hend⟩|⟨hlt,hb,hend⟩|⟨hlt,hb1,hb2,hend⟩
   case inr.inr.inr=>
    have hg:decide ((a1:Int)<(S.size:Int))=true:=by simp;omega
    have q1:(((S[a1]).toNat:Int) != 124)=true:=by rw[bne_iff_ne];intro h;exact hb1 (UInt8.toNat_inj.1 (by simp;omega))
    have q2:(((S[a1]).toNat:Int) != 41)=true:=by rw[bne_iff_ne];intro h;exact hb2 (UInt8.toNat_inj.1 (by simp;omega))
    have HE:=aa hend;clear hend hb1 hb2;go_wp2_with fail;go_quiet (fail)
    rename Nat=>og
    have EK:=aa (tB.out.drewN og);clear tB c0 c1 c2 f1 f2 c3 f3;generalize wr.drewN og=w2 at *;go_wp2_with fail;refine (tz n HC.out X S a1 w2 EK.out.scan nM hlt (by have:=HN.out;omega)).mono ?_;rintro e w3 ⟨v,a2,bad,rfl,hap,hsc,⟨p,rfl⟩,⟨rfl,ha2,r,hP,hN⟩|⟨rfl,hb,hP⟩⟩
    ·have iZ:=aa (EK.out.step hap hsc);have HP:=aa hP;have Ut:=aa hN;have S6:=aa (show w2.heap.size<=w3.heap.size from hap.size);clear hP hN hap hsc;obtain ⟨c0,c1,c2,f1,f2,c3,f3⟩:=iZ.out.cells;have Gh:=aa (show a1<a2 by have h1:=(aT.size HP.out _ _ rfl).1;rw[lI,lI]at h1;omega)
     have yq:=aa (ae EK.out.node);have HSV:=aa (λk e=>(cD EK.out.row (k:=k) e).2)
     have hsg:(∃h:a2<S.size,S[a2]=42∨S[a2]=43∨S[a2]=63)∨((rest S a2).head?≠some 42/\(rest S a2).head?≠some 43/\(rest S a2).head?≠some 63):=by
      rcases Nat.lt_or_ge a2 S.size with h|h
      ·by_cases hs:S[a2]=42∨S[a2]=43∨S[a2]=63
       ·exact .inl ⟨h,hs⟩
       ·refine .inr ?_;rw[bm h];simp only[not_or]at hs;simpa using hs
      ·refine .inr ?_;rw[dg h];simp
     rcases hsg with ⟨nD,hS⟩|hpl
     ·have hg2:decide ((a2:Int)<(S.size:Int))=true:=by simp;omega
      have abn:∃sg:UInt8,S[a2]=sg/\∃q:Re,(sg=42/\q=.star r∨sg=43/\q=.plus r∨sg=63/\q=.eG r):=by
       rcases hS with h|h|h
       ·exact ⟨_,h,_,.inl ⟨rfl,rfl⟩⟩
       ·exact ⟨_,h,_,.inr (.inl ⟨rfl,rfl⟩)⟩
       ·exact ⟨_,h,_,.inr (.inr ⟨rfl,rfl⟩)⟩
      obtain ⟨sg,hSs,q,hsq⟩:=abn
      have KR:=aa (show ∀s',rest S a2=sg::s'->cU (rest S a1) (some (q,s')) from λs' h=>by
       have hp:=HP.out;rw[h]at hp;rcases hsq with ⟨rfl,rfl⟩|⟨rfl,rfl⟩|⟨rfl,rfl⟩
       ·exact .star hp
       ·exact .plus hp
       ·exact .eG hp)
      have Hu:=aa (show ∀YS:Nat,YS=sg.toNat->YS=42/\q=.star r∨YS=43/\q=.plus r∨YS=63/\q=.eG r from λYS h=>by
       subst h;rcases hsq with ⟨rfl,h⟩|⟨rfl,h⟩|⟨rfl,h⟩
       ·exact .inl ⟨rfl,h⟩
       ·exact .inr (.inl ⟨rfl,h⟩)
       ·exact .inr (.inr ⟨rfl,h⟩))
      have N3:=aa hSs;clear hsq hSs;rcases hS with hS|hS|hS
      all_goals
       first|have k1:(((S[a2]).toNat:Int)==42)=true:=by rw[hS];rfl|have k1:(((S[a2]).toNat:Int)==42)=false:=by rw[hS];rfl
       first|have k2:(((S[a2]).toNat:Int)==43)=true:=by rw[hS];rfl|have k2:(((S[a2]).toNat:Int)==43)=false:=by rw[hS];rfl
       first|have k3:(((S[a2]).toNat:Int)==63)=true:=by rw[hS];rfl|have k3:(((S[a2]).toNat:Int)==63)=false:=by rw[hS];rfl
       clear hS;go_wp2_with fail;go_quiet (fail)
       rename Nat=>CS
       have rS:=aa (iZ.out.drewN CS);have Uu:=aa (Ut.out.keep (w':=w3.drewN CS) (λ_ _=>rfl));have YT:=aa (show w2.heap.size<=(w3.drewN CS).heap.size from S6.out);clear iZ Ut c0 c1 c2 f1 f2 c3 f3;generalize w3.drewN CS=w4 at *;obtain ⟨c0,c1,c2,f1,f2,c3,f3⟩:=rS.out.cells;have e0:=aq c0 (.cells #[.pointer (some ⟨p,0,none⟩)] 199)
       have e1:=aq c1 (.cells #[.pointer (some ⟨p,0,none⟩)] 199)
       have hst:=λk hk=>I7 rS.out Uu.out YT.out k (q:=q) (by
        rcases Hu.out k hk with ⟨h,h2⟩|⟨h,h2⟩|⟨h,h2⟩
        ·exact .inr (.inr (.inl ⟨h,r,rfl,h2⟩))
        ·exact .inr (.inr (.inr (.inl ⟨h,r,rfl,h2⟩)))
        ·exact .inr (.inr (.inr (.inr ⟨h,r,rfl,h2⟩))))
       obtain ⟨w6,Fm,YU,YV⟩:=hst S[a2].toNat (congrArg UInt8.toNat N3.out);have HW6:=aa Fm;have Qm:=aa YU;have Uv:=aa YV;clear YU YV hst Fm;go_wp2_with fail;go_region;obtain ⟨pp,hpp⟩:∃pp,pp=w4.heap.size+1:=⟨_,rfl⟩;rw[<-hpp]at Uv ⊢;clear hpp e0 e1 c0 c1 c2 f1 f2 c3 f3;rw[HW6.out];obtain ⟨c0,c1,c2,f1,f2,c3,f3⟩:=Qm.out.cells
       obtain ⟨a3,Kd⟩:∃a3,a3=a2+1:=⟨_,rfl⟩;have kR:=aa (show rest S a2=sg::rest S a3 by rw[Kd,bm nD,N3.out]);have Aw:=aa Kd;have Uw:=aa (show Ct X S w nb 38 (w6.setCell ⟨X,1,none⟩ (.int .i64 ((a2:Int)+1))) a3 false sv vs rs by rw[Kd];exact Qm.out.move (a2+1))
       have abo:=aa (Uv.out.ap (by have:=EK.out.hX;have:=EK.out.ap.size;omega:X<w2.heap.size) ((Ap.refl X w6).setCell (p:=⟨X,1,none⟩) rfl (.int .i64 ((a2:Int)+1))));have N9:(w6.setCell ⟨X,1,none⟩ (.int .i64 ((a2:Int)+1))).heap.size=w6.heap.size:=by simp[World.setCell]
       have lJ:=aa (by have:=aF (w6.setCell ⟨X,1,none⟩ (.int .i64 ((a2:Int)+1))) #[.pointer (some ⟨pp,0,none⟩)] 199;rw[N9]at this;exact this:∀j u,[Value.pointer (some ⟨pp,0,none⟩)][j]?=some u->((w6.setCell ⟨X,1,none⟩ (.int .i64 ((a2:Int)+1))).alloc (.cells #[.pointer (some ⟨pp,0,none⟩)] 199)).cell? ((⟨w6.heap.size,0,none⟩:Addr).add j)=some u)
       have lK:=aa (show nb+1<=((w6.setCell ⟨X,1,none⟩ (.int .i64 ((a2:Int)+1))).alloc (.cells #[.pointer (some ⟨pp,0,none⟩)] 199)).heap.size by have:=ae Qm.out.node;simp[World.setCell];omega);have R1:a2<=60:=by omega
       have c3':(w6.setCell ⟨X,1,none⟩ (.int .i64 ((a2:Int)+1))).cell? ⟨nb,2,none⟩=some sv:=Uw.out.cells.2.2.2.2.2.1;have acx:=aq c3' (.cells #[.pointer (some ⟨pp,0,none⟩)] 199);clear Kd N9 Qm Uv;obtain ⟨i0,hi,hz0,hz1,hz3⟩:=info_parts lH
       go_wp2_with (at_builtin;go_loud (refine wpList_append_own_at _ rfl (.tmp 127) (.tmp 129) 265 rfl (nb+1) 199 i0 (.pointer none) 1 8 Tryz.underlying265 hi hz0 hz1 hz3 rfl (by decide) sv vs.length vs (by rfl) (by exact dZ Uw.out.row _) ⟨w6.heap.size,0,none⟩ 1 1 [.pointer (some ⟨pp,0,none⟩)] (by rfl) (by rfl) (by exact lJ.out) (py pp) (by unfold maxLen;omega) (by omega) (by exact lK.out) ?_;intro v' w5 hown rD _ hloc;obtain ⟨gg,cap,rfl⟩:=aC hown (by omega);obtain ⟨R2,hq⟩:=Uw.out.push yq.out abo.out HSV.out ((Below.refl _ _).alloc (Nat.le_refl _) _) hown rD hloc;have Ux:=aa R2;clear R2;have d2:w5.cell? ⟨nb,2,none⟩=some sv:=(by simp[World.cell?,hq]);have df:w5.frozen? ⟨nb,2,none⟩=false:=(by simp[World.frozen?,hq]);clear hown rD hloc hq))
       go_roundg (1+(S.size - a3))
       case measure=>have:=HK.out;have:=Aw.out;have:=Gh.out;omega
       case rel=>exact .inl ⟨_,_,_,a3,Ux.out,by have:=Gh.out;have:=Aw.out;simp only[List.length_append,List.length_cons,List.length_nil];omega,by have:=Aw.out;omega,by have:=Aw.out;have:=Gh.out;omega,rfl,CT.out.more HE.out (KR.out _ kR.out)⟩
     ·obtain ⟨YW,YX,YY⟩:=hpl;have H42:=aa YW;have H43:=aa YX;have H63:=aa YY;clear YW YX YY;by_cases nD:a2<S.size
      case' pos=>
       have hg2:decide ((a2:Int)<(S.size:Int))=true:=by simp;omega
       have kk:∀c:UInt8,(rest S a2).head?≠some c->(((S[a2]).toNat:Int)==(c.toNat:Int))=false:=λc h=>by rw[beq_eq_false_iff_ne];intro e;rw[bm nD]at h;exact h (by simpa using UInt8.toNat_inj.1 (by omega))
       have k1:(((S[a2]).toNat:Int)==42)=false:=kk 42 H42.out;have k2:(((S[a2]).toNat:Int)==43)=false:=kk 43 H43.out;have k3:(((S[a2]).toNat:Int)==63)=false:=kk 63 H63.out;clear kk
      case' neg=>
       have hg2:decide (a2<S.size)=false:=by simp;omega
      all_goals
       go_wp2_with fail;go_quiet (fail)
       rename Nat=>CS
       have rS:=aa (iZ.out.drewN CS);have Uu:=aa (Ut.out.keep (w':=w3.drewN CS) (λ_ _=>rfl));have YT:=aa (show w2.heap.size<=(w3.drewN CS).heap.size from S6.out);clear iZ Ut c0 c1 c2 f1 f2 c3 f3;generalize w3.drewN CS=w4 at *;obtain ⟨c0,c1,c2,f1,f2,c3,f3⟩:=rS.out.cells;have lJ:=aa (aF w4 #[.pointer (some ⟨p,0,none⟩)] 199)
       have lK:=aa (show nb+1<=(w4.alloc (.cells #[.pointer (some ⟨p,0,none⟩)] 199)).heap.size by have:=ae rS.out.node;simp;omega);obtain ⟨i0,hi,hz0,hz1,hz3⟩:=info_parts lH
       go_wp2_with (at_builtin;go_loud (refine wpList_append_own_at _ rfl (.tmp 127) (.tmp 129) 265 rfl (nb+1) 199 i0 (.pointer none) 1 8 Tryz.underlying265 hi hz0 hz1 hz3 rfl (by decide) sv vs.length vs (by rfl) (by exact dZ rS.out.row _) ⟨w4.heap.size,0,none⟩ 1 1 [.pointer (some ⟨p,0,none⟩)] (by rfl) (by rfl) (by exact lJ.out) (py p) (by unfold maxLen;omega) (by omega) (by exact lK.out) ?_;intro v' w5 hown rD _ hloc;obtain ⟨gg,cap,rfl⟩:=aC hown (by omega);obtain ⟨R2,hq⟩:=rS.out.push yq.out Uu.out HSV.out ((Below.refl _ _).alloc (Nat.le_refl _) _) hown rD hloc;have Ux:=aa R2;clear R2;have d2:w5.cell? ⟨nb,2,none⟩=some sv:=(by simp[World.cell?,hq]);have df:w5.frozen? ⟨nb,2,none⟩=false:=(by simp[World.frozen?,hq]);clear hown rD hloc hq))
       go_roundg (1+(S.size - a2))
       case measure=>have:=HK.out;have:=Gh.out;omega
       case rel=>exact .inl ⟨_,_,_,a2,Ux.out,by have:=Gh.out;simp only[List.length_append,List.length_cons,List.length_nil];omega,ha2,by have:=Gh.out;omega,rfl,CT.out.more HE.out (.plain HP.out H42.out H43.out H63.out)⟩
    ·have iZ:=aa (EK.out.step hap hsc);have I5:=aa (CT.out.bad HE.out (.bad hP));have HB:=aa (show a2+at_<=2*S.size+1 by omega);clear hP hap hsc hb;obtain ⟨c0,c1,c2,f1,f2,c3,f3⟩:=iZ.out.cells;go_wp2_with fail;go_quiet (fail)
     rename Nat=>CS
     have rS:=aa (iZ.out.drewN CS);clear iZ c0 c1 c2 f1 f2 c3 f3;generalize w3.drewN CS=w4 at *;obtain ⟨c0,c1,c2,f1,f2,c3,f3⟩:=rS.out.cells;have lJ:=aa (aF w4 #[.pointer (some ⟨p,0,none⟩)] 199);have lK:=aa (show nb+1<=(w4.alloc (.cells #[.pointer (some ⟨p,0,none⟩)] 199)).heap.size by have:=ae rS.out.node;simp;omega)
     obtain ⟨i0,hi,hz0,hz1,hz3⟩:=info_parts lH
     go_wp2_with (at_builtin;go_loud (refine wpList_append_own_at _ rfl (.tmp 127) (.tmp 129) 265 rfl (nb+1) 199 i0 (.pointer none) 1 8 Tryz.underlying265 hi hz0 hz1 hz3 rfl (by decide) sv vs.length vs (by rfl) (by exact dZ rS.out.row _) ⟨w4.heap.size,0,none⟩ 1 1 [.pointer (some ⟨p,0,none⟩)] (by rfl) (by rfl) (by exact lJ.out) (py p) (by unfold maxLen;omega) (by omega) (by exact lK.out) ?_;intro v' w5 hown rD _ hloc;obtain ⟨gg,cap,rfl⟩:=aC hown (by omega);obtain ⟨oB,Rl,hq⟩:=rS.out.Gl (v':=.slice (some ⟨gg,0,none⟩) (vs.length+1) cap) ((Below.refl _ _).alloc (Nat.le_refl _) _) rD;have qK:=aa oB;have Uy:=aa Rl;clear oB Rl;have d2:w5.cell? ⟨nb,2,none⟩=some sv:=(by simp[World.cell?,hq]);have df:w5.frozen? ⟨nb,2,none⟩=false:=(by simp[World.frozen?,hq]);clear hown rD hloc hq))
     go_roundg 0
     case measure=>have:=HK.out;omega
     case rel=>exact .inr ⟨a2,rfl,qK.out,Uy.out,HB.out,I5.out⟩
   case' inl=>
    have hg:decide (a1<S.size)=false:=by simp;omega
   case' inr.inl=>
    have hg:decide ((a1:Int)<(S.size:Int))=true:=by simp;omega
    have q1:(((S[a1]).toNat:Int) != 124)=false:=by rw[hb];rfl
    clear hb
   case' inr.inr.inl=>
    have hg:decide ((a1:Int)<(S.size:Int))=true:=by simp;omega
    have q1:(((S[a1]).toNat:Int) != 124)=true:=by rw[hb];rfl
    have q2:(((S[a1]).toNat:Int) != 41)=false:=by rw[hb];rfl
    clear hb
   all_goals
    have ai:=aa (Qk tB.out ha1 CT.out hend);clear hend;go_wp2_with fail;go_quiet (fail)
    rename Nat=>og
    go_wp2_with fail;go_ret;exact ai.out og
  ·have ai:=aa (BZ (nb:=nb) hap hsc hb hp);obtain ⟨c0,c1,c2,f1,f2⟩:=hsc.cells;clear hap hsc hp hb hk;go_wp2_with fail;go_quiet (fail)
   rename Nat=>og
   go_wp2_with fail;go_ret;exact ai.out og
end Go.Proofs.YtgncgdkpkkdaeaaGreatDoor.Ref
namespace Go.Proofs.YtgncgdkpkkdaeaaGreatDoor.Ref
open Go.RowKit aQ
variable {rs:List Re} {s s' s0:List UInt8}
def EL(s0:List UInt8)(rs:List Re)(s:List UInt8):Prop:=∃r0 rs',rs=r0::rs'/\∀o,gH (rs'.foldl Re.alt r0) s o->bc s0 o
def EM(s0:List UInt8)(rs:List Re)(s:List UInt8):Prop:=(rs=[]/\s0=s)∨EL s0 rs (124::s)
theorem EM.next{qs:List Re}(h:EM s0 rs s)(hc:cL s (some (qs,s'))):EL s0 (rs++[bn qs]) s':=by
 rcases h with ⟨rfl,rfl⟩|⟨r0,rs',rfl,h3⟩
 ·exact ⟨bn qs,[],rfl,λo ho=>.one hc ho⟩
 ·refine ⟨r0,rs'++[bn qs],rfl,λo ho=>h3 o (.more hc ?_)⟩;rw[List.foldl_append]at ho;exact ho
theorem EM.bad(h:EM s0 rs s)(hc:cL s none):bc s0 none:=by
 rcases h with ⟨rfl,rfl⟩|⟨r0,rs',rfl,h3⟩
 ·exact .bad hc
 ·exact h3 none (.bad hc)
theorem EL.more(h:EL s0 rs (124::s)):EM s0 rs s:=.inr h
theorem EL.stop(h:EL s0 rs s)(hn:s.head?≠some 124):∃r,Gi 124 rs r/\bc s0 (some (r,s)):=by obtain ⟨r0,rs',h1,h3⟩:=h;exact ⟨_,.inr (.inl ⟨rfl,r0,rs',h1,rfl⟩),h3 _ (.stop hn)⟩
theorem I8{r:Re}(h:mR s (some (r,s'))):∃rs,cL s (some (rs,s'))/\r=bn rs:=by
 obtain ⟨o,h1,h2⟩:=h
 cases o with
 | none=>cases h2
 | some p=>simp only[Option.map_some,Option.some.injEq,Prod.mk.injEq]at h2;exact ⟨p.1,by rw[h2.2];exact h1,h2.1⟩
theorem I9(h:mR s none):cL s none:=by
 obtain ⟨o,h1,h2⟩:=h
 cases o with
 | none=>exact h1
 | some p=>cases h2
def Qn(X:Nat)(S:ByteArray)(w:World)(nb:Nat)(at_:Nat)(k:Nat)(wr:World):Prop:=
 ∃(sv:Value) (vs:List Value) (rs:List Re) (a1:Nat),Ct X S w nb 124 wr a1 false sv vs rs/\vs.length<=a1/\a1<=S.size/\at_<=a1/\k=S.size - a1/\EM (rest S at_) rs (rest S a1)
set_option maxRecDepth 20000 in
set_option maxHeartbeats 4000000 in
theorem Qo(n:Nat)(hC:Gj n)(X:Nat)(S:ByteArray)(at_:Nat)(w:World)(h:aY w X S at_ false)(nM:S.size<=60)(hle:at_<=S.size)(hn:S.size - at_<=n):
  Calls Tryz.prog 103 #[.pointer (some ⟨X,0,none⟩)] w (dU bc X S at_ w):=by
 have HC:=aa hC;have HN:=aa hn;have H0:=aa (Ct.start h 124);clear h hC hn;go_enter Tryz.func103,Tryz.ntmps103;go_wp2_with fail;obtain ⟨nb,kg⟩:∃nb,nb=w.heap.size:=⟨_,rfl⟩;have H1:=aa H0.out;rw[<-kg]at H1 ⊢;clear H0 kg;generalize w.alloc (.cells #[.int .u8 124,.slice none 0 0,.slice none 0 0] 267)=w1 at *
 go_loopg [4] (S.size - at_) (λk _ wr=>Qn X S w nb at_ k wr)
 case atStart=>exact ⟨_,[],[],at_,H1.out,Nat.zero_le _,hle,Nat.le_refl _,rfl,.inl ⟨rfl,rfl⟩⟩
 case round=>
  obtain ⟨sv,vs,rs,a1,Ke,xK,ha1,abm,hk,CC⟩:=hrel;have tB:=aa Ke;have CT:=aa CC;have HK:=aa hk;clear Ke CC hk;go_wp2_with fail;refine (Ql n HC.out X S a1 wr tB.out.scan nM ha1 (by have:=HN.out;omega)).mono ?_;rintro e w3 ⟨v,a2,bad,rfl,hap,hsc,⟨p,rfl⟩,⟨rfl,ha2,r,hP,hN⟩|⟨rfl,hb,hP⟩⟩
  ·obtain ⟨qs,hc,rfl⟩:=I8 hP;have HT:=aa (CT.out.next hc);have Gh:=aa (show a1<=a2 by have h1:=cL.size hc _ _ rfl;rw[lI,lI]at h1;omega)
   have iZ:=aa (tB.out.step hap hsc);have Ut:=aa hN;have yq:=aa (ae tB.out.node);have HSV:=aa (λk e=>(cD tB.out.row (k:=k) e).2);clear hP hN hap hsc hc CT;obtain ⟨c0,c1,c2,f1,f2,c3,f3⟩:=iZ.out.cells;have lJ:=aa (aF w3 #[.pointer (some ⟨p,0,none⟩)] 199)
   have lK:=aa (show nb+1<=(w3.alloc (.cells #[.pointer (some ⟨p,0,none⟩)] 199)).heap.size by have:=ae iZ.out.node;simp;omega);obtain ⟨i0,hi,hz0,hz1,hz3⟩:=info_parts lH
   go_wp2_with (at_builtin;go_loud (refine wpList_append_own_at _ rfl (.tmp 14) (.tmp 16) 265 rfl (nb+1) 199 i0 (.pointer none) 1 8 Tryz.underlying265 hi hz0 hz1 hz3 rfl (by decide) sv vs.length vs (by rfl) (by exact dZ iZ.out.row _) ⟨w3.heap.size,0,none⟩ 1 1 [.pointer (some ⟨p,0,none⟩)] (by rfl) (by rfl) (by exact lJ.out) (py p) (by unfold maxLen;omega) (by omega) (by exact lK.out) ?_;intro v' w5 hown rD _ hloc;obtain ⟨gg,cap,rfl⟩:=aC hown (by omega);obtain ⟨R2,hq⟩:=iZ.out.push yq.out Ut.out HSV.out ((Below.refl _ _).alloc (Nat.le_refl _) _) hown rD hloc;have Ux:=aa R2;clear R2;have d2:w5.cell? ⟨nb,2,none⟩=some sv:=(by simp[World.cell?,hq]);have df:w5.frozen? ⟨nb,2,none⟩=false:=(by simp[World.frozen?,hq]);clear hown rD hloc hq))
   clear d2 df c0 c1 c2 f1 f2 c3 f3 lJ lK iZ Ut;generalize w5.setCell ⟨nb,2,none⟩ (.slice (some ⟨gg,0,none⟩) (vs.length+1) cap)=w6 at *;refine (j5 124 X S a2 false w6 Ux.out.scan).mono ?_;rintro e w7 ⟨rfl,n7,rfl⟩;have Nj:=aa (Ux.out.drewN n7);clear Ux;generalize w6.drewN n7=w7 at *;obtain ⟨c0,c1,c2,f1,f2,c3,f3⟩:=Nj.out.cells
   by_cases Ja:(rest S a2).head?=some 124
   ·have hv:((rest S a2).head? == some 124)=true:=by rw[Ja];rfl
    rw[hv];obtain ⟨nD,hr2⟩:=mm Ja;have HS:=aa (show EM (rest S at_) (rs++[bn qs]) (rest S (a2+1)) from EL.more (by rw[<-hr2];exact HT.out));have R1:a2<=60:=by omega
    clear hv Ja hr2;go_wp2_with fail;go_roundg (S.size - (a2+1))
    case measure=>have:=HK.out;have:=Gh.out;omega
    case rel=>exact ⟨_,_,_,a2+1,Nj.out.move (a2+1),by have:=Gh.out;simp only[List.length_append,List.length_cons,List.length_nil];omega,by omega,by have:=Gh.out;omega,rfl,HS.out⟩
   ·have hv:((rest S a2).head? == some 124)=false:=by rw[beq_eq_false_iff_ne];exact Ja
    rw[hv];obtain ⟨r,G5,oB⟩:=HT.out.stop Ja;have ai:=aa (show dU bc X S at_ w (.returned (.pointer (some ⟨nb,0,none⟩))) w7 from ⟨_,a2,false,rfl,Nj.out.ap,Nj.out.scan,⟨nb,rfl⟩,.inl ⟨rfl,ha2,r,oB,Nj.out.tree G5⟩⟩);clear hv Ja G5 oB;go_wp2_with fail;go_ret;exact ai.out
  ·have iZ:=aa (tB.out.step hap hsc);have I5:=aa (CT.out.bad (I9 hP));have HB:=aa (show a2+at_<=2*S.size+1 by omega);clear hP hap hsc hb;obtain ⟨c0,c1,c2,f1,f2,c3,f3⟩:=iZ.out.cells;have lJ:=aa (aF w3 #[.pointer (some ⟨p,0,none⟩)] 199)
   have lK:=aa (show nb+1<=(w3.alloc (.cells #[.pointer (some ⟨p,0,none⟩)] 199)).heap.size by have:=ae iZ.out.node;simp;omega);obtain ⟨i0,hi,hz0,hz1,hz3⟩:=info_parts lH
   go_wp2_with (at_builtin;go_loud (refine wpList_append_own_at _ rfl (.tmp 14) (.tmp 16) 265 rfl (nb+1) 199 i0 (.pointer none) 1 8 Tryz.underlying265 hi hz0 hz1 hz3 rfl (by decide) sv vs.length vs (by rfl) (by exact dZ iZ.out.row _) ⟨w3.heap.size,0,none⟩ 1 1 [.pointer (some ⟨p,0,none⟩)] (by rfl) (by rfl) (by exact lJ.out) (py p) (by unfold maxLen;omega) (by omega) (by exact lK.out) ?_;intro v' w5 hown rD _ hloc;obtain ⟨gg,cap,rfl⟩:=aC hown (by omega);obtain ⟨oB,Rl,hq⟩:=iZ.out.Gl (v':=.slice (some ⟨gg,0,none⟩) (vs.length+1) cap) ((Below.refl _ _).alloc (Nat.le_refl _) _) rD;have qK:=aa oB;have Uy:=aa Rl;clear oB Rl;have d2:w5.cell? ⟨nb,2,none⟩=some sv:=(by simp[World.cell?,hq]);have df:w5.frozen? ⟨nb,2,none⟩=false:=(by simp[World.frozen?,hq]);clear hown rD hloc hq))
   clear d2 df c0 c1 c2 f1 f2 c3 f3 lJ lK iZ;generalize w5.setCell ⟨nb,2,none⟩ (.slice (some ⟨gg,0,none⟩) (vs.length+1) cap)=w6 at *;refine (j5 124 X S a2 true w6 Uy.out).mono ?_;rintro e w7 ⟨rfl,n7,rfl⟩;have YZ:=aa (Uy.out.drewN n7);have abp:=aa (qK.out.drewN n7);clear Uy qK;generalize w6.drewN n7=w7 at *;obtain ⟨c0,c1,c2,f1,f2⟩:=YZ.out.cells
   obtain ⟨bd,IY⟩:∃bd,((rest S a2).head? == some 124)=bd:=⟨_,rfl⟩;rw[IY];have ai:=aa (show dU bc X S at_ w (.returned (.pointer (some ⟨nb,0,none⟩))) w7 from ⟨_,a2,true,rfl,abp.out,YZ.out,⟨nb,rfl⟩,.inr ⟨rfl,HB.out,I5.out⟩⟩);cases bd
   all_goals
    clear IY;go_wp2_with fail;go_ret;exact ai.out
theorem Qp(n:Nat):Gj n:=by
 induction n with
 | zero=>intro X S at_ w _ _ _ h;omega
 | succ n ih=>intro X S at_ w h nM hle hn;exact Qo n ih X S at_ w h nM hle (by omega)
end Go.Proofs.YtgncgdkpkkdaeaaGreatDoor.Ref
