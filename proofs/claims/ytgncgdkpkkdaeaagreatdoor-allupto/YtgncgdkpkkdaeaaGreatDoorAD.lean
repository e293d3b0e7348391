import Derived.Test.YtgncgdkpkkdaeaaGreatDoorAC
import Derived.DeepKeys4
import Derived.Deep.AppendSrc
import Derived.Laws.EntriesVeiled
set_option maxHeartbeats 2000000
namespace Go.Proofs.YtgncgdkpkkdaeaaGreatDoor
open Go.RowKit bu
variable {a:aP} {text:ByteArray} {ms ns:List (Nd Value)} {ps:List aP} {xs:List Nat} {s:List UInt8} {B P at' at_:Nat} {pv v:Value} {w w1 wr:World}
theorem _root_.bu.ei.drewN(h:ei (aH w) ns a)(n:Nat):ei (aH (w.drewN n)) ns a:=
 ei.world (w:=w) (w':=w.drewN n) (λ_ _ _ _ h=>h) h
def oD(s:List UInt8)(o:Option (Re×List UInt8)):Prop:=∃o',dL s o'/\o=o'.map λp=>(cG p.1,p.2)
def Rv(B P:Nat)(text:ByteArray)(at_:Nat)(ns:List (Nd Value))(w:World)(k:Nat)(pv:Value)(wr:World):Prop:=
 eu B w wr/\∃(at':Nat) (ms:List (Nd Value)) (ps:List aP),gm wr B P text at' (ns++ms)/\Ints wr w.heap.size pv (ps.map aP.ix)/\(∀a∈ps,ei (aH wr) (ns++ms) a) /\
  ms.length+ps.length+3*(rest text at').length<=3*(rest text at_).length/\k=(rest text at').length /\
  ∀o,dL (rest text at') o->dL (rest text at_) (o.map λp=>(ps.map aP.re++p.1,p.2))
theorem lX:(Tryz.prog.info? 3).map (λi=>(i.zero,i.size,i.bytes))=some (some (.int .i64 0),1,8):=by kernel_rfl
theorem CE(d:UInt8)(s:List UInt8)(B P:Nat)(text:ByteArray)(at_:Nat)(ns:List (Nd Value))(w:World)(hP:gm w B P text at_ ns)(h:rest text at_=d::s)(f:Bool)(hf:(d==124||d==41)=f):
  Calls Tryz.prog 192 #[.pointer (some ⟨P,0,none⟩),.string ⟨#[124,41]⟩] w λe w'=>e=.returned (.bool f)/\∃n,w'=w.drewN n:=by
 refine (Cw ⟨#[124,41]⟩ B P text at_ ns w hP).mono ?_;rintro e w' ⟨rfl,n,rfl⟩;refine ⟨?_,n,rfl⟩;rw[h];simp only[List.head?_cons];rw[<-hf];simp only[List.contains_cons,List.contains_nil,Bool.or_false]
theorem Ints.drewN(h:Ints w B v xs)(n:Nat):Ints (w.drewN n) B v xs:=h
theorem JW{w0 w3:World}{o:Obj}(hP:gm w B P text at_ ns)(hI:Ints w w0.heap.size v xs)(hs:w0.heap.size<=w.heap.size)(hF:eu B w0 w)
  (hg:(w.alloc o).grownBy w3 v.ownBlock):gm w3 B P text at_ ns/\bN w w3/\eu B w0 w3:=by
 have hrow:∀k,some k=v.ownBlock->w0.heap.size<=k/\∃c,w.heap[k]?=some (.cells c 3 (0,0)):=by
  intro k hk;rcases hI.2 with ⟨rfl,_⟩|⟨g,cap,cur,rfl,hg,hh,_⟩
  ·cases hk
  ·cases hk;exact ⟨hg,cur,hh⟩
 have hold:∀(k:Nat) c t fz,t≠3->w.heap[k]?=some (.cells c t fz)->w3.heap[k]?=some (.cells c t fz):=by intro k c t fz ht hh;have hlt:=ae hh;rw[hg.block k (by simp;omega) (λe=>by obtain ⟨_,c',h'⟩:=hrow k e;rw[hh]at h';simp at h';exact ht h'.2.1)];exact af hh
 refine ⟨?_,?_,?_⟩
 ·obtain ⟨⟨sv,h1,h2⟩,a,b,c⟩:=hP;refine ⟨⟨sv,hold _ _ _ _ (by decide) h1,h2.keep λk hk=>?_⟩,a,b,c⟩;obtain ⟨_,cur,hc⟩:=h2.block hk;rw[hc];exact hold _ _ _ _ (by decide) hc
 ·intro k c t ht hh;exact hold k c t _ (by rcases ht with rfl|rfl<;>decide) hh
 ·refine ⟨hg.os.trans hF.os,hg.tape.trans hF.tape,hg.output.trans hF.output,?_,λk hk hn=>?_⟩
  ·have:=hg.size;simp at this;omega
  ·rw[hg.block k (by simp;omega) (λe=>by have:=(hrow k e).1;omega),Below.heap_alloc _ _ _ (by omega)];exact hF.keep k hk hn
-- The way out of the loop,in a world in which the parts lie.
def Ah(B P:Nat)(text:ByteArray)(at_:Nat)(ns:List (Nd Value))(w:World)(at':Nat)(ms:List (Nd Value))(ps:List aP)(pv:Value)(wr:World):Prop:=
 eu B w wr/\gm wr B P text at' (ns++ms)/\Ints wr w.heap.size pv (ps.map aP.ix)/\(∀a∈ps,ei (aH wr) (ns++ms) a) /\
  ms.length+ps.length+3*(rest text at').length<=3*(rest text at_).length/\dL (rest text at_) (some (ps.map aP.re,rest text at'))
theorem Il(hP:Pre B P text at_ ns w)(h:Ah B P text at_ ns w at' ms ps pv wr)(nq:Nat):
  Calls Tryz.prog 194 #[.pointer (some ⟨P,0,none⟩),pv] (wr.drewN nq) (Af B P text at' (ns++ms) ps (wr.drewN nq)):=by
 obtain ⟨hF,h1,h2,h3,h4,h5⟩:=h;refine vx B w.heap.size P text at' (ns++ms) ps pv (wr.drewN nq) (h1.drewN nq) ?_ (h2.drewN nq) ?_ ?_
 ·have:=hP.bound;simp only[dG];omega
 ·intro a ha;exact ei.world (w:=wr) (w':=wr.drewN nq) (λ_ _ _ _ h=>h) (h3 a ha)
 ·exact (hP.dE.append (ms:=ms)).world hF.stay
theorem Im{nq:Nat}{e:Ending}{w':World}
  (h:Ah B P text at_ ns w at' ms ps pv wr) (hs:Af B P text at' (ns++ms) ps (wr.drewN nq) e w'):
  ∃i:Nat,e=.returned (.int .i64 i)/\gV oD 0 B P text at_ ns w (.returned (.tuple #[.int .i64 i,.bool true])) w':=by
 obtain ⟨hF,h1,h2,h3,h4,h5⟩:=h;obtain ⟨hF2,a,ks,rfl,Ru,jn,yE,hl⟩:=hs;refine ⟨a.ix,rfl,(hF.drewN nq).trans hF2,.inl ⟨a,at',ms++ks,rfl,⟨_,h5,by rw[Ru];rfl⟩,by rw[<-fP];exact jn,by rw[<-fP];exact yE,?_⟩⟩;simp only[dG];omega
theorem vB(n:Nat)(hC:iM n)(B P:Nat)(text:ByteArray)(at_:Nat)(ns:List (Nd Value))(w:World)(hP:Pre B P text at_ ns w)(hn:(rest text at_).length<=n):
  Calls Tryz.prog 170 #[.pointer (some ⟨P,0,none⟩)] w (gV oD 0 B P text at_ ns w):=by
 have HP:=aa hP;have HN:=aa hn;clear hP hn;obtain ⟨i0,hi,hz0,hz1,hz2⟩:=info_parts lX;go_enter Tryz.func170,Tryz.ntmps170;go_wp2_with fail;go_loopg [4] (rest text at_).length (λk pv wr=>Rv B P text at_ ns w k pv wr)
 case atStart=>exact ⟨eu.refl _ _,at_,[],[],by simpa using HP.out.Y5,World.ownsRow_nil _ _ _ _,by simp,by simp,rfl,λo h=>by cases o with|none=>exact h|some p=>exact h⟩
 case round=>
  obtain ⟨hF,kT,ms,ps,ol,hI,hA,hb,hk,TQ⟩:=hrel;have HK:=aa hk;have HF:=aa hF;have gD:=aa ol;have HI:=aa hI;have HA:=aa hA;have HB:=aa hb;have vC:=aa TQ;have h0:=(HP.out.dE.append (ms:=ms)).world hF.stay;have H0:=aa h0;obtain ⟨c0,c1,f1⟩:=ol.cells;have hsm:=ol.small;have YT:=ol.le;clear hF ol hI hA hb TQ h0 hk
  cases hr:rest text kT with
  | nil=>
   have he:=my YT hr;have HO:=aa (show Ah B P text at_ ns w kT ms ps u4 wr from ⟨HF.out,gD.out,HI.out,HA.out,HB.out,by have:=vC.out (some ([],rest text kT)) (.stop (.inl hr));simpa using this⟩);have hg:decide (kT<text.size)=false:=by simp;omega
   clear hr he;go_wp2_with fail;go_quiet (fail);go_wp2_with fail;refine (Il HP.out HO.out nq).mono ?_;rintro e w2 hs;obtain ⟨i,rfl,rA⟩:=Im HO.out hs;have EB:=aa rA;clear hs rA;go_wp2_with fail;go_ret2;exact EB.out
  | cons c s=>
   obtain ⟨hlt,hc,zQ⟩:=dR hr;have hg:decide ((kT:Int)<(text.size:Int))=true:=by simpa using hlt
   have HR:=aa hr;clear hr zQ hc
   cases hd:(c==124||c==41) with
   | true=>
    have HD:=aa hd
    have HO:=aa (show Ah B P text at_ ns w kT ms ps u4 wr from ⟨HF.out,gD.out,HI.out,HA.out,HB.out,by
     have he:atEnd (rest text kT):=by
      rw[HR.out];simp only[Bool.or_eq_true,beq_iff_eq]at hd;rcases hd with rfl|rfl
      ·exact .inr (.inl rfl)
      ·exact .inr (.inr rfl)
     have:=vC.out (some ([],rest text kT)) (.stop he);simpa using this⟩)
    clear hd;go_wp2_with fail;go_quiet ((go_at_call 192;exact Calls.quiet_of (CE c s B P text kT (ns++ms) _ (gD.out.drewN _) HR.out true HD.out)));go_wp2_with fail;refine (Il HP.out HO.out nq).mono ?_;rintro e w2 hs;obtain ⟨i,rfl,rA⟩:=Im HO.out hs;have EB:=aa rA;clear hs rA;go_wp2_with fail;go_ret2;exact EB.out
   | false=>
    have HD:=aa hd
    have hne:¬atEnd (rest text kT):=by
     rw[HR.out];simp only[Bool.or_eq_false_iff,er]at hd;rintro (h|h|h)
     ·cases h
     ·simp at h;exact hd.1 h
     ·simp at h;exact hd.2 h
    have Rw:=aa hne;have Nn:=aa (show ∀nq,Pre B P text kT (ns++ms) (wr.drewN nq) from λnq=>⟨gD.out.drewN nq,H0.out.world (λ_ _ _ _ h=>h),by have:=HP.out.bound;have:=HB.out;simp only[dG];omega⟩);have Vq:=aa (show (rest text kT).length<=n by have:=HN.out;have:=HB.out;omega);clear hd hne;go_wp2_with fail
    go_quiet ((go_at_call 192;exact Calls.quiet_of (CE c s B P text kT (ns++ms) _ (gD.out.drewN _) HR.out false HD.out)));go_wp2_with fail;refine (JV n hC B P text kT (ns++ms) (wr.drewN nq) (Nn.out nq) Vq.out).mono ?_;rintro e w2 ⟨hF2,⟨a,ry,ks,rfl,rA,jn,yE,hb2⟩|⟨i,rfl,rA⟩⟩
    ·have eU:=aa hF2;have EB:=aa rA;have nD:=aa jn;have mA:=aa yE;have cW:=aa hb2;have Ai:=aa (show Ints w2 w.heap.size u4 (ps.map aP.ix) from (HI.out.drewN nq).pfr hF2);have hpl:(ps.map aP.ix).length+1<=1000:=by have:=HP.out.bound;have:=HB.out;simp only[fy];omega
     have eF:w.heap.size<=w2.heap.size:=bJ HF.out.size hF2.size;clear hF2 rA jn yE hb2
     go_wp2_with (at_builtin;refine wpList_append_own _ rfl _ _ 57 rfl w.heap.size 3 i0 (.int .i64 0) 1 8 Tryz.underlying57 hi hz0 hz1 hz2 rfl (by decide) _ _ _ rfl (Ai.out.alloc _) ⟨w2.heap.size,0,none⟩ 1 1 [.int .i64 a.ix] rfl rfl (by exact aG w2 #[.int .i64 a.ix] _) (by simp[Value.oneCell']) (by unfold maxLen;omega) (by omega) (by simp;omega) ?_;intro v' w3 hown hg sY)
     have hg2:(w2.alloc (.cells #[.int .i64 a.ix] 3)).grownBy w3 u4.ownBlock:=hg;obtain ⟨kD,oz,dJ⟩:=JW nD.out Ai.out eF ((HF.out.drewN nq).trans eU.out) hg2;have xt:Ints w3 w.heap.size v' ((ps++[a]).map aP.ix):=by unfold Ints;simpa using hown
     have ru:=aa kD;have Rx:=aa oz;have ir:=aa dJ;have Nt:=aa xt;clear kD oz dJ xt hg hg2 hown sY;go_wp2_with fail;go_roundg (rest text ry).length
     case measure=>have:=cW.out;rw[HK.out];omega
     case rel=>
      refine ⟨ir.out,ry,ms++ks,ps++[a],by rw[<-fP];exact ru.out,Nt.out,?_,?_,rfl,?_⟩
      ·intro b hb;rw[<-fP];rcases List.mem_append.1 hb with hb|hb
       ·exact (((ei.drewN (HA.out b hb) nq).world eU.out.stay).world Rx.out).append
       ·simp only[List.mem_singleton]at hb;subst hb;exact mA.out.world Rx.out
      ·have h1:=cW.out;have h2:=HB.out;simp only[dG,fe,List.length_nil];omega
      ·intro o ho
       cases o with
       | none=>
        have:=vC.out none (.jE Rw.out EB.out ho);simpa using this
       | some p=>
        have:=vC.out (some (a.re::p.1,p.2)) (.more Rw.out EB.out ho);simpa using this
    ·have eU:=aa hF2;have EB:=aa rA;clear hF2 rA;go_wp2_with fail;go_ret2;refine ⟨(HF.out.drewN nq).trans eU.out,.inr ⟨0,by simp,none,?_,rfl⟩⟩;have:=vC.out none (.bad Rw.out EB.out);simpa using this
theorem vD{s':List UInt8}{r:Re}(h:oD s (some (r,s'))):∃rs,dL s (some (rs,s'))/\r=cG rs:=by
 obtain ⟨o,h1,h2⟩:=h
 cases o with
 | none=>cases h2
 | some p=>simp only[Option.map_some,fA,Prod.mk.injEq]at h2;exact ⟨p.1,by rw[h2.2];exact h1,h2.1⟩
theorem vE(h:oD s none):dL s none:=by
 obtain ⟨o,h1,h2⟩:=h
 cases o with
 | none=>exact h1
 | some p=>cases h2
def Nu(B P:Nat)(text:ByteArray)(at_:Nat)(ns:List (Nd Value))(w:World)(k:Nat)(left Qu:Value)(wr:World):Prop:=
 eu B w wr/\((Qu=.bool true/\∃(a:aP) (at':Nat) (ms:List (Nd Value)),left=.int .i64 a.ix/\gm wr B P text at' (ns++ms)/\ei (aH wr) (ns++ms) a /\
   ms.length+3*(rest text at').length<=3*(rest text at_).length/\k=1+(rest text at').length/\∀o,iD a.re (rest text at') o->bH (rest text at_) o) ∨
  (Qu=.bool false/\k=0/\(∃i:Nat,left=.int .i64 i)/\bH (rest text at_) none))
theorem CF(n:Nat)(hC:iM n)(B P:Nat)(text:ByteArray)(at_:Nat)(ns:List (Nd Value))(w:World)(hP:Pre B P text at_ ns w)(hn:(rest text at_).length<=n):
  Calls Tryz.prog 139 #[.pointer (some ⟨P,0,none⟩)] w (gV bH 0 B P text at_ ns w):=by
 have HP:=aa hP;have HN:=aa hn;clear hP hn;go_enter Tryz.func139,Tryz.ntmps139;go_wp2_with fail;refine (vB n hC B P text at_ ns w HP.out HN.out).mono ?_;rintro e w1 iU
 obtain ⟨left,Qu,k0,rfl,hL⟩:∃(i:Nat) (ok:Bool) (k0:Nat),e=.returned (.tuple #[.int .i64 i,.bool ok])/\Nu B P text at_ ns w k0 (.int .i64 i) (.bool ok) w1:=by
  rcases iU with ⟨gG,⟨a,kT,ms,rfl,jq,ol,uu,hb1⟩|⟨i,rfl,jq⟩⟩
  ·obtain ⟨rs,h1,h2⟩:=vD jq;exact ⟨a.ix,true,1+(rest text kT).length,rfl,gG,.inl ⟨rfl,a,kT,ms,rfl,ol,uu,by omega,rfl,λo ho=>.one h1 (h2▸ho)⟩⟩
  ·exact ⟨i,false,0,rfl,gG,.inr ⟨rfl,rfl,⟨i,rfl⟩,.bad (vE jq)⟩⟩
 have HL:=aa hL;clear hL iU;go_wp2_with fail;go_loopg [4,5] k0 (λk left Qu wr=>Nu B P text at_ ns w k left Qu wr)
 case atStart=>exact HL.out
 case round=>
  obtain ⟨hF,⟨rfl,a,kT,ms,rfl,ol,uu,hb1,hk,hm⟩|⟨rfl,hk,⟨i,rfl⟩,hm⟩⟩:=hrel
  ·have HF:=aa hF;have gD:=aa ol;have eZ:=aa uu;have bM:=aa hb1;have HK:=aa hk;have HM:=aa hm;have H0:=aa ((HP.out.dE.append (ms:=ms)).world hF.stay);clear hF ol uu hb1 hk hm;go_wp2_with fail;refine (iR 124 B P text kT (ns++ms) wr gD.out).mono ?_;rintro e w2 ⟨r,ry,rfl,jn,hF2,⟨rfl,h2⟩|⟨rfl,Vo,h2⟩⟩
   ·have nD:=aa jn;have eU:=aa hF2;have H2:=aa h2;have hl2:(rest text ry).length+1=(rest text kT).length:=by rw[h2];rfl
    have lW:=aa hl2;have Nn:=aa (show Pre B P text ry (ns++ms) w2 from ⟨jn,H0.out.world hF2.stay,by have:=HP.out.bound;have:=bM.out;simp only[dG];omega⟩);clear jn hF2 h2 hl2;go_wp2_with fail;refine (vB n hC B P text ry (ns++ms) w2 Nn.out (by have:=HN.out;have:=bM.out;have:=lW.out;omega)).mono ?_
    rintro e w3 ⟨dJ,⟨a3,Cz,ks,rfl,Qv,kD,CG,hb3⟩|⟨i,rfl,Qv⟩⟩
    ·obtain ⟨rs,hc3,Y7⟩:=vD Qv;have Vp:ei (aH w3) (ns++ms++ks) a:=((eZ.out.world eU.out.stay).world dJ.stay).append;obtain ⟨x,hx,TM⟩:=Vp.empty;obtain ⟨y,hy,TN⟩:=CG.empty;have HE:=aa (show Nk (ns++ms++ks) 3 a.ix a3.ix (a.re.au||a3.re.au) from .inr (.inr (.inr (.inr ⟨rfl,x,y,hx,hy,by rw[TM,TN]⟩))));have HRa:=aa Vp;have ir:=aa dJ
     have ru:=aa kD;have Io:=aa CG;have fV:=aa hb3;have HC3:=aa hc3;have Y4:=aa Y7;have hlen:(ns++ms++ks).length<=1000:=by have:=HP.out.bound;have:=bM.out;have:=lW.out;simp only[dG];omega
     have JU:=aa hlen;clear dJ Qv kD CG hb3 hc3 Y7 Vp hx TM hy TN hlen;go_wp2_with fail;refine (eP B P text Cz (ns++ms++ks) 3 a.ix a3.ix .nilFunc (a.re.au||a3.re.au) false w3 ru.out JU.out HE.out (.inl rfl)).mono ?_;rintro e w4 ⟨rfl,yC,nE⟩;have Ih:=aa yC;have om:=aa nE;clear yC nE;obtain ⟨j,hj⟩:∃j,j=(ns++ms++ks).length:=⟨_,rfl⟩;rw[<-hj]
     have HJ:=aa hj;clear hj;go_wp2_with fail;go_roundg (1+(rest text Cz).length)
     case measure=>have:=HK.out;have:=lW.out;have:=fV.out;omega
     case rel=>
      refine ⟨((HF.out.trans eU.out).trans ir.out).trans om.out,.inl ⟨rfl,.alt j a a3,Cz,ms++ks++[⟨3,.nilFunc,a.ix,a3.ix,a.re.au||a3.re.au⟩],rfl,?_,?_,?_,rfl,?_⟩⟩
      ·rw[<-fP,<-fP];exact Ih.out
      ·rw[<-fP,<-fP];refine ⟨?_,⟨.nilFunc,?_⟩,(HRa.out.world om.out.stay).append,(Io.out.world om.out.stay).append⟩
       ·rw[HJ.out];have:=kW H0.out;simp only[dG]at this ⊢;omega
       ·rw[HJ.out];exact nH _
      ·have h1:=bM.out;have h2:=fV.out;have h3:=lW.out;simp only[dG,fe,List.length_nil];omega
      ·intro o ho;refine HM.out o ?_;rw[H2.out];refine .more HC3.out ?_;rw[<-Y4.out];exact ho
    ·have ir:=aa dJ;have CH:=aa (vE Qv);clear dJ Qv;go_wp2_with fail;go_roundg 0
     case measure=>have:=HK.out;omega
     case rel=>refine ⟨(HF.out.trans eU.out).trans ir.out,.inr ⟨rfl,rfl,⟨a.ix,rfl⟩,HM.out none ?_⟩⟩;rw[H2.out];exact .bad CH.out
   ·subst Vo;have nD:=aa jn;have eU:=aa hF2;have H2:=aa h2;clear jn hF2 h2;go_wp2_with fail;go_ret2;exact ⟨HF.out.trans eU.out,.inl ⟨a,ry,ms,by simp,HM.out _ (.stop H2.out),nD.out,eZ.out.world eU.out.stay,by have:=bM.out;omega⟩⟩
  ·have HF:=aa hF;have HM:=aa hm;clear hF hm hk;go_wp2_with fail;go_ret2;exact ⟨HF.out,.inr ⟨i,by simp,HM.out⟩⟩
theorem CI(n:Nat):iM n:=by
 induction n with
 | zero=>intro B P text at_ ns w _ h;omega
 | succ n ih=>intro B P text at_ ns w hP h;exact CF n ih B P text at_ ns w hP (by omega)
def Y8:Nd Value:=⟨0,.nilFunc,0,0,true⟩
def pw(w:World)(s:ByteArray):World:=
 ((w.alloc (.cells #[.slice none 0 0,.int .i64 0] 184)).alloc (.cells #[.int .i64 0,.nilFunc,.int .i64 0,.int .i64 0,.bool true] 292)).alloc
  (.cells #[.string s,.int .i64 0,.slice (some ⟨w.heap.size+1,0,none⟩) 1 1] 257)
theorem vF(w:World)(s:ByteArray):Below w.heap.size w (pw w s):=
 ((cq _ _).alloc (by simp) _).alloc (by simp;omega) _
theorem Vr(w:World)(s:ByteArray):(pw w s).heap[w.heap.size]?=some (.cells #[.slice none 0 0,.int .i64 0] 184 (0,0)):=
 af (af (ag w _))
theorem Nv(w:World)(s:ByteArray)(h:s.size<=60):Pre w.heap.size (w.heap.size+1+1) s 0 [Y8] (pw w s):=by
 refine ⟨⟨⟨.slice (some ⟨w.heap.size+1,0,none⟩) 1 1,?_,?_⟩,Nat.zero_le _,h,by omega⟩,⟨.nilFunc,rfl⟩,?_⟩
 ·have:=ag ((w.alloc (.cells #[.slice none 0 0,.int .i64 0] 184)).alloc (.cells #[.int .i64 0,.nilFunc,.int .i64 0,.int .i64 0,.bool true] 292)) (.cells #[.string s,.int .i64 0,.slice (some ⟨w.heap.size+1,0,none⟩) 1 1] 257);simpa [pw] using this
 ·refine ⟨⟨rfl,.inr ⟨w.heap.size+1,1,#[.int .i64 0,.nilFunc,.int .i64 0,.int .i64 0,.bool true],rfl,by omega,?_,bc _,by unfold maxLen;omega,rfl,rfl⟩⟩,λd hd=>by simp at hd;subst hd;exact .inl rfl⟩;have:=ag (w.alloc (.cells #[.slice none 0 0,.int .i64 0] 184)) (.cells #[.int .i64 0,.nilFunc,.int .i64 0,.int .i64 0,.bool true] 292)
  exact af (by simpa using this)
 ·rw[aY];simp only[fe,List.length_nil];omega
def nI(s:ByteArray)(w:World)(e:Ending)(w':World):Prop:=
 Below w.heap.size w w'/\((60<s.size/\e=.returned (.tuple #[.agg #[.slice none 0 0,.int .i64 0],.int .i64 1])) ∨
  (s.size<=60/\(bH s.data.toList none∨∃r s',s'≠[]/\bH s.data.toList (some (r,s')))/\e=.returned (.tuple #[.agg #[.slice none 0 0,.int .i64 0],.int .i64 6])) ∨
  (s.size<=60/\∃(sv:Value) (a:aP) (ns:List (Nd Value)),e=.returned (.tuple #[.agg #[sv,.int .i64 a.ix],.int .i64 0])/\bH s.data.toList (some (a.re,[])) /\
   bm w' w.heap.size sv ns/\ei (aH w') ns a/\ei (aH w') ns .dE/\ns.length<=200))
theorem Fo(s:ByteArray)(w:World)(hs:s.size<=maxLen)(h:60<s.size):
  Calls Tryz.prog 100 #[.string s] w (nI s w):=by
 unfold maxLen at hs;go_enter Tryz.func100,Tryz.ntmps100;go_wp2;exact bodyPost_ret (v:=.tuple #[.agg #[.slice none 0 0,.int .i64 0],.int .i64 1]) (by simp[results,Tryz.results100,go_sem]) rfl ⟨cq _ _,.inl ⟨h,rfl⟩⟩
theorem rO(s:ByteArray):rest s 0=s.data.toList:=by simp[rest]
theorem Below.rP{w2:World}(h:Below w.heap.size w w1)(k:eu w.heap.size w1 w2):Below w.heap.size w w2:=h.trans (k.below h.size)
theorem JX{s:ByteArray}{sv:Value}(h:s.size<=60)(hF:eu w.heap.size (pw w s) w1)(hA:bH (rest s 0) (some (a.re,rest s at')))(hat:at'=s.size)
  (hL:bm w1 w.heap.size sv ns) (hR:ei (aH w1) ns a) (h0:ei (aH w1) ns .dE) (hn:ns.length<=200) (i:Value):
  nI s w (.returned (.tuple #[.agg #[sv,.int .i64 a.ix],.int .i64 0])) ((w1.setCell ⟨w.heap.size,0,none⟩ sv).setCell ⟨w.heap.size,1,none⟩ i):=by
 have hb:=Below.rP (vF w s) hF;have JY:=hF.other (Vr w s) (by decide) (by decide)
 have hne:∀(k:Nat) c t,t≠184->w1.heap[k]?=some (.cells c t (0,0))->((w1.setCell ⟨w.heap.size,0,none⟩ sv).setCell ⟨w.heap.size,1,none⟩ i).heap[k]?=some (.cells c t (0,0)):=by
  intro k c t ht hk;have hkw:k≠w.heap.size:=by rintro rfl;rw[JY]at hk;simp at hk;exact ht hk.2.symm
  rw[eV _ _ _ _ (by exact hkw),eV _ _ _ _ (by exact hkw)];exact hk
 have hst:bN w1 ((w1.setCell ⟨w.heap.size,0,none⟩ sv).setCell ⟨w.heap.size,1,none⟩ i):=λk c t ht hk=>hne k c t (by rcases ht with rfl|rfl<;>decide) hk
 refine ⟨(hb.setCell (bc _) _).setCell (bc _) _,.inr (.inr ⟨h,sv,a,ns,rfl,?_,?_,hR.world hst,h0.world hst,hn⟩)⟩
 ·rw[<-rO,<-dF (text:=s) (at_:=at') (by omega)];exact hA
 ·refine hL.keep λk hk=>?_
  obtain ⟨_,cur,hc⟩:=hL.block hk;rw[hc];exact hne k _ _ (by decide) hc
theorem CK(s:ByteArray)(w:World)(h:s.size<=60):
  Calls Tryz.prog 100 #[.string s] w (nI s w):=by
 have hg:decide ((60:Int)<(s.size:Int))=false:=by simp;omega
 go_enter Tryz.func100,Tryz.ntmps100;go_wp2_with (first|(go_at_call 138;go_in));refine (CI 61 w.heap.size (w.heap.size+1+1) s 0 [Y8] (pw w s) (Nv w s h) (by rw[aY];omega)).mono ?_;rintro e w1 ⟨hF,⟨a,kT,ms,rfl,hA,hP,hR,hb⟩|⟨i,rfl,hA⟩⟩
 ·have JY:=hF.other (Vr w s) (by decide) (by decide);have r0:w1.cell? ⟨w.heap.size,0,none⟩=some (.slice none 0 0):=by simp[World.cell?,JY]
  have r1:w1.cell? ⟨w.heap.size,1,none⟩=some (.int .i64 0):=by simp[World.cell?,JY]
  have g0:w1.frozen? ⟨w.heap.size,0,none⟩=false:=by simp[World.frozen?,JY]
  have g1:w1.frozen? ⟨w.heap.size,1,none⟩=false:=by simp[World.frozen?,JY]
  have HF:=aa hF;have HA:=aa hA;have HP:=aa hP;have HR:=aa hR;have H0:=aa (((Nv w s h).dE.append (ms:=ms)).world hF.stay);have HB:=aa hb;obtain ⟨c0,c1,-⟩:=hP.cells;have hle:=hP.le;obtain ⟨⟨sv,BI,XK⟩,-⟩:=hP;have c2:w1.cell? ⟨w.heap.size+1+1,2,none⟩=some sv:=by simp[World.cell?,BI]
  have HL:=aa XK;clear hF hA hR hb BI XK JY;by_cases hat:kT<s.size
  ·have hg2:decide ((kT:Int)<(s.size:Int))=true:=by simpa using hat
   go_wp2_with fail;refine bodyPost_ret (v:=.tuple #[.agg #[.slice none 0 0,.int .i64 0],.int .i64 6]) (by simp[results,Tryz.results100,go_sem, *]) rfl ?_;refine ⟨?_,.inr (.inl ⟨h,.inr ⟨a.re,rest s kT,?_,by rw[<-rO];exact HA.out⟩,rfl⟩)⟩
   ·exact ((Below.rP (vF w s) HF.out).setCell (bc _) _).setCell (bc _) _
   ·rw[bE hat];simp
  ·have hat':kT=s.size:=by omega
   have hg2:decide (kT<s.size)=false:=by simp;omega
   have HAT:=aa hat';clear hat hat';have JU:=aa (show ([Y8]++ms).length<=200 by have:=HB.out;rw[aY,aY]at this;simp only[dG,fe,List.length_nil];omega);have oX:∃g cap,sv=.slice (some ⟨g,0,none⟩) ([Y8]++ms).length cap:=aB HL.out.1 (by simp);obtain ⟨g,cap,rfl⟩:=oX;go_wp2_with fail
   exact bodyPost_ret (v:=.tuple #[.agg #[.slice (some ⟨g,0,none⟩) ([Y8]++ms).length cap,.int .i64 a.ix],.int .i64 0]) (by simp[results,Tryz.results100,go_sem, *]) rfl (JX h HF.out HA.out HAT.out HL.out HR.out H0.out JU.out _)
 ·have JY:=hF.other (Vr w s) (by decide) (by decide);have r0:w1.cell? ⟨w.heap.size,0,none⟩=some (.slice none 0 0):=by simp[World.cell?,JY]
  have r1:w1.cell? ⟨w.heap.size,1,none⟩=some (.int .i64 0):=by simp[World.cell?,JY]
  have g0:w1.frozen? ⟨w.heap.size,0,none⟩=false:=by simp[World.frozen?,JY]
  have g1:w1.frozen? ⟨w.heap.size,1,none⟩=false:=by simp[World.frozen?,JY]
  have HF:=aa hF;have HA:=aa hA;clear hF hA JY;go_wp2_with fail;refine bodyPost_ret (v:=.tuple #[.agg #[.slice none 0 0,.int .i64 0],.int .i64 6]) (by simp[results,Tryz.results100,go_sem, *]) rfl ?_;exact ⟨((Below.rP (vF w s) HF.out).setCell (bc _) _).setCell (bc _) _,.inr (.inl ⟨h,.inl (by rw[<-rO];exact HA.out),rfl⟩)⟩
theorem yF(s:ByteArray)(w:World)(hs:s.size<=maxLen):Calls Tryz.prog 100 #[.string s] w (nI s w):=by
 by_cases h:s.size<=60
 ·exact CK s w h
 ·exact Fo s w hs (by omega)
open Go.Maps
variable {q:IntKind} {l:Lit} {b n:Nat} {κ:Type} {E t:TypeId} {a:Value}
theorem laidOut:laidOutB Tryz.prog=true:=by kernel_rfl
theorem Ry:Keyed Tryz.prog 3:=int_keyed Tryz.underlying3
theorem Nw:(333 : TypeId) < Tryz.prog.types.size:=of_decide_eq_true (by kernel_rfl)
theorem yG:(match Tryz.prog.underlying 333 with|some (.array _ _)|some (.struct _)=>true|_=>false)=true:=by kernel_rfl
set_option maxRecDepth 100000 in
theorem Nx:Keyed Tryz.prog 333:=Keyed.of_law (deep_law_laid laidOut (m:=3) (by omega) Nw (by kernel_rfl) yG)
theorem JZ:(305 : TypeId) < Tryz.prog.types.size:=of_decide_eq_true (by kernel_rfl)
theorem vG:(match Tryz.prog.underlying 305 with|some (.array _ _)|some (.struct _)=>true|_=>false)=true:=by kernel_rfl
set_option maxRecDepth 100000 in
theorem J0:Keyed Tryz.prog 305:=Keyed.of_law (deep_law_laid laidOut (m:=3) (by omega) JZ (by kernel_rfl) vG)
set_option maxRecDepth 100000 in
theorem Fp:Tryz.prog.tiled 3 333=true:=tiled_of_laidOut laidOut 3 _ (by kernel_rfl) (by kernel_rfl)
set_option maxRecDepth 100000 in
theorem CL:Tryz.prog.tiled 3 305=true:=tiled_of_laidOut laidOut 3 _ (by kernel_rfl) (by kernel_rfl)
theorem mE(a:Nat)(h:a<=1000000000000):(Lit.int .i64 (a:Int)).wf=true:=by exact WalkArith.wf_i64 (by omega)
theorem vH:∃m,Tryz.prog.types.size=m+1:=⟨Tryz.prog.types.size - 1,by kernel_rfl⟩
theorem Aj:Tryz.prog.keyType 333=true:=by kernel_rfl
theorem xO:Tryz.prog.keyType 305=true:=by kernel_rfl
theorem qm:Tryz.prog.cellsOf 333=2:=by kernel_rfl
theorem oF:Tryz.prog.cellsOf 305=2:=by kernel_rfl
theorem sZ:Tryz.prog.cellsOf 3=1:=by kernel_rfl
theorem Fq:Tryz.prog.cellsOf 5=1:=by kernel_rfl
theorem CM(m:Nat)(a:Int)(h:(Lit.int .i64 a).wf=true):Tryz.prog.keyLits (m+1) 3 [.int .i64 a]=some [.int .i64 a]:=by unfold Program.keyLits;simp[Tryz.underlying3,h]
theorem Rz(m:Nat)(a:Int)(h:(Lit.int .u8 a).wf=true):Tryz.prog.keyLits (m+1) 5 [.int .u8 a]=some [.int .u8 a]:=by unfold Program.keyLits;simp[Tryz.underlying5,h]
theorem Ny(a b:Nat)(ha:a<=1000000000000)(hb:b<=1000000000000):∃kl,keyOf Tryz.prog 333 (.agg #[.int .i64 a,.int .i64 b])=some kl:=by
 have wa:=mE a ha;have wb:=mE b hb;obtain ⟨m,hm⟩:=vH;refine ⟨.string (keyBytes [.int .i64 a,.int .i64 b]),?_⟩;have h1:Tryz.prog.keyLits (m+1+1) 333 [.int .i64 a,.int .i64 b]=some [.int .i64 a,.int .i64 b]:=by unfold Program.keyLits;simp[Tryz.underlying333,qm,sZ,CM,wa,wb]
 simp only[keyOf,Tryz.underlying333,Aj,hm];simp[Value.formed,qm,h1,Value.cells,Tryz.underlying333]
theorem wf_u8(b:UInt8):(Lit.int .u8 (b.toNat:Int)).wf=true:=by have:=b.toNat_lt;have h1:IntKind.u8.min=0:=rfl;have h2:IntKind.u8.max=255:=rfl;simp only[Lit.wf,h1,h2,Bool.and_eq_true,decide_eq_true_eq];omega
theorem J1(a:Nat)(b:UInt8)(ha:a<=1000000000000):∃kl,keyOf Tryz.prog 305 (.agg #[.int .i64 a,.int .u8 b.toNat])=some kl:=by
 have wa:=mE a ha;have wb:=wf_u8 b;obtain ⟨m,hm⟩:=vH;refine ⟨.string (keyBytes [.int .i64 a,.int .u8 b.toNat]),?_⟩;have h1:Tryz.prog.keyLits (m+1+1) 305 [.int .i64 a,.int .u8 b.toNat]=some [.int .i64 a,.int .u8 b.toNat]:=by unfold Program.keyLits;simp[Tryz.underlying305,oF,sZ,Fq,CM,Rz,wa,wb]
 simp only[keyOf,Tryz.underlying305,xO,hm];simp[Value.formed,oF,h1,Value.cells,Tryz.underlying305]
set_option maxRecDepth 100000 in
theorem Nz{b:Value}(ha:keyOf Tryz.prog 333 a=some l)(hb:keyOf Tryz.prog 333 b=some l):a=b:=keyOf_inj_deep Fp yG ha hb
set_option maxRecDepth 100000 in
theorem J2{b:Value}(ha:keyOf Tryz.prog 305 a=some l)(hb:keyOf Tryz.prog 305 b=some l):a=b:=keyOf_inj_deep CL vG ha hb
structure mF(κ:Type) where
 K:TypeId
 kv:κ->Value
 ok:κ->Prop
 keyed:Keyed Tryz.prog K
 key:∀x,ok x->∃kl,keyOf Tryz.prog K (kv x)=some kl
 inj:∀x y kl,ok x->ok y->keyOf Tryz.prog K (kv x)=some kl->keyOf Tryz.prog K (kv y)=some kl->x=y
def pairT:mF (Nat×Nat) where
 K:=333
 kv x:=.agg #[.int .i64 x.1,.int .i64 x.2]
 ok x:=x.1<=1000000000000/\x.2<=1000000000000
 keyed:=Nx
 key x h:=Ny x.1 x.2 h.1 h.2
 inj x y kl _ _ h1 h2:=by
  have:=Nz h1 h2
  simp at this
  exact Prod.ext (by omega) (by omega)
def iV:mF (Nat×UInt8) where
 K:=305
 kv x:=.agg #[.int .i64 x.1,.int .u8 x.2.toNat]
 ok x:=x.1<=1000000000000
 keyed:=J0
 key x h:=J1 x.1 x.2 h
 inj x y kl _ _ h1 h2:=by
  have:=J2 h1 h2
  simp at this
  exact Prod.ext (by omega) (UInt8.toNat_inj.1 (by omega))
def oq:mF Nat where
 K:=3
 kv x:=.int .i64 x
 ok x:=x<=1000000000000
 keyed:=Ry
 key x h:=⟨_,keyOf_int_mk Tryz.underlying3 (mE x h)⟩
 inj x y kl hx hy h1 h2:=by
  rw[keyOf_int_mk Tryz.underlying3 (mE x hx)]at h1
  rw[keyOf_int_mk Tryz.underlying3 (mE y hy)]at h2
  rw[<-h1]at h2
  simp at h2
  omega
def cu{κ:Type}(T:mF κ)(E:TypeId)(q:IntKind)(w:World)(b n:Nat)(f:κ->Option Int):Prop:=
 ∃D:DataW Unit,w.ownsMap Tryz.prog T.K (plainElem Tryz.prog E) b n D /\
  ∀x kl,T.ok x->keyOf Tryz.prog T.K (T.kv x)=some kl->Maps.has D kl=(f x).isSome/\D.atKey kl (.lit (.int q 0))=.lit (.int q ((f x).getD 0))
theorem cu.made(T:mF κ)(E:TypeId)(q:IntKind)(w:World):cu T E q (w.alloc (.map #[] 0)) w.heap.size 0 (λ_=>none):=
 ⟨.map [],World.ownsMap_made w _ _ _,λ_ _ _ _=>⟨rfl,rfl⟩⟩
theorem cu.lt{T:mF κ}{f:κ->Option Int}(h:cu T E q w b n f):b<w.heap.size:=by obtain ⟨D,h,_⟩:=h;exact h.lt
theorem cu.keep{T:mF κ}{w':World}{f:κ->Option Int}(h:cu T E q w b n f)(hb:w'.heap[b]?=w.heap[b]?):cu T E q w' b n f:=by obtain ⟨D,⟨es,clock,h1,h2⟩,h3⟩:=h;exact ⟨D,⟨es,clock,hb.trans h1,h2⟩,h3⟩
theorem cu.obj{T:mF κ}{f:κ->Option Int}(h:cu T E q w b n f):∃es clock,w.heap[b]?=some (.map es clock):=by obtain ⟨D,⟨es,clock,h1,h2⟩,h3⟩:=h;exact ⟨es,clock,h1⟩
theorem cu.look{T:mF κ}{f:κ->Option Int}(h:cu T E q w b n f)(ht:Tryz.prog.underlying t=some (.map T.K E))(he:Tryz.prog.underlying E=some (.int q))
  (hz:∀w,(zeroValue E).run Tryz.prog w=.ok (.int q 0) w) (x:κ) (hx:T.ok x):
  (Instr.lookup t (.map (some b)) (T.kv x) true).run Tryz.prog w=.ok (.tuple #[.int q ((f x).getD 0),.bool (f x).isSome]) w:=by
 obtain ⟨D,h1,h2⟩:=h;obtain ⟨kl,mG⟩:=T.key x hx;have hw0:(Lit.int q 0).wf=true:=by cases q<;>decide
 obtain ⟨v,ps,hrun,hv⟩:=h1.look_ok T.keyed ht (hz w) (plainElem_int he hw0) mG;obtain ⟨c,rfl,hc,hwc⟩:=plainElem_int_inv he hv;simp only[Prod.mk.injEq]at hc;obtain ⟨h3,h4⟩:=h2 x kl hx mG;rw[h4]at hc;simp at hc;rw[hrun,h3,hc.1]
theorem cu.store [DecidableEq κ] {T:mF κ}{f:κ->Option Int}(h:cu T E q w b n f)(ht:Tryz.prog.underlying t=some (.map T.K E))(he:Tryz.prog.underlying E=some (.int q))
  (hn:n<1000000000000) (x:κ) (hx:T.ok x) (c:Int) (hc:(Lit.int q c).wf=true):
  ∃w',(Instr.mapUpdate t (.map (some b)) (T.kv x) (.int q c)).run Tryz.prog w=.ok () w'/\cu T E q w' b (n+1) (λy=>if y=x then some c else f y)/\w.grownBy w' (some b):=by
 obtain ⟨D,h1,h2⟩:=h;obtain ⟨kl,mG⟩:=T.key x hx;obtain ⟨w',hrun,r1,r2⟩:=h1.update T.keyed ht (by unfold maxLen;omega) mG (plainElem_int he hc);refine ⟨w',hrun,⟨_,r1,?_⟩,r2⟩;have hD:IsMap D:=h1.isMap;have hk:WideAt.IsKeyLit kl:=T.keyed.key mG;intro y ky hy Qw;by_cases e:y=x
 ·subst e;rw[mG]at Qw;cases Qw;simp[has_put_same hD hk,atKey_put_same hD hk]
 ·have hne:ky≠kl:=λe'=>e (T.inj y x kl hy hx (e'▸Qw) mG)
  rw[has_put_other hne,atKey_put_other hne];simpa [e] using h2 y ky hy Qw
end Go.Proofs.YtgncgdkpkkdaeaaGreatDoor
namespace bu
variable {c i k n0:Nat} {α β:Type}
inductive F2{α β:Type}(R:α->β->Prop):List α->List β->Prop where
 | nil:F2 R [] []
 | cons {a:α} {b:β} {l:List α} {m:List β}:R a b->F2 R l m->F2 R (a::l) (b::m)
theorem F2.mono{R R':α->β->Prop}(h:∀a b,R a b->R' a b){l:List α}{m:List β}(f:F2 R l m):F2 R' l m:=by
 induction f with
 | nil=>exact .nil
 | cons h1 _ ih=>exact .cons (h _ _ h1) ih
theorem F2.length{R:α->β->Prop}{l:List α}{m:List β}(f:F2 R l m):l.length=m.length:=by
 induction f with
 | nil=>rfl
 | cons _ _ ih=>simp[ih]
theorem F2.append{R:α->β->Prop}{l l':List α}{m m':List β}(f:F2 R l m)(g:F2 R l' m'):F2 R (l++l') (m++m'):=by
 induction f with
 | nil=>exact g
 | cons h _ ih=>exact .cons h ih
theorem F2.get{R:α->β->Prop}{l:List α}{m:List β}(f:F2 R l m){b:β}(h:m[i]?=some b):∃a,l[i]?=some a/\R a b:=by
 induction f generalizing i with
 | nil=>simp at h
 | cons h1 _ ih=>
  cases i with
  | zero=>simp at h;subst h;exact ⟨_,rfl,h1⟩
  | succ i=>simp at h ⊢;exact ih h
theorem F2.snoc{R:α->β->Prop}{l:List α}{m:List β}{a:α}{b:β}(f:F2 R l m)(h:R a b):F2 R (l++[a]) (m++[b]):=f.append (.cons h .nil)
def dM:aP->List D
 | .dE=>[]
 | .dr _ _=>[]
 | .seq _ x y=>dM x++(allA x).map (cQ · y)++dM y
 | .alt _ x y=>dM x++dM y
 | .star i x=>dM x++(allA x).map (cQ · (.star i x))
 | .plus _ j x=>dM x++(allA x).map (cQ · (.star j x))
 | .fB _ x=>dM x
def eL:D->List D
 | .base a=>dM a
 | .snoc d a=>eL d++(rG d).map (cQ · a)++dM a
def aP.sz:aP->Nat
 | .dE=>1
 | .dr _ _=>1
 | .seq _ a b=>a.sz+b.sz+1
 | .alt _ a b=>a.sz+b.sz+1
 | .star _ a=>a.sz+1
 | .plus _ _ a=>a.sz+2
 | .fB _ a=>a.sz+1
def D.sz:D->Nat
 | .base a=>a.sz
 | .snoc d a=>d.sz+a.sz
theorem aP.Ak(a:aP):1<=a.sz:=by cases a<;>simp[aP.sz]
theorem Al(d:D)(a:aP):(cQ d a).sz<=d.sz+a.sz:=by
 unfold cQ;split
 ·simp[D.sz]
 ·simp[D.sz]
theorem Ip{a b:Nat}(h:a+b<=c):a*a+b*b<=c*c:=by
 have h1:(a+b)*(a+b)<=c*c:=Nat.mul_le_mul h h;have h2:(a+b)*(a+b)=a*a+b*b+2*(a*b):=by rw[Nat.add_mul,Nat.mul_add,Nat.mul_add,Nat.mul_comm b a];omega
 omega
theorem mH{a:Nat}(h:a+1<=c):a*a+2*a+1<=c*c:=by
 have h1:(a+1)*(a+1)<=c*c:=Nat.mul_le_mul h h;have h2:(a+1)*(a+1)=a*a+2*a+1:=by rw[Nat.add_mul,Nat.mul_add,Nat.mul_one,Nat.one_mul];omega
 omega
theorem Iq(a:aP):∀d∈allA a,d.sz<=a.sz*a.sz:=by
 induction a with
 | dE=>simp[allA]
 | dr i c=>intro d hd;simp only[allA,List.mem_singleton]at hd;subst hd;simp[D.sz,aP.sz]
 | seq i x y uY uZ=>
  intro d hd;simp only[allA,List.mem_append,List.mem_map]at hd;have h1:=Ip (a:=x.sz) (b:=y.sz+1) (c:=x.sz+y.sz+1) (by omega);have h2:=mH (a:=y.sz) (c:=y.sz+1) (by omega);have hx:x.sz<=x.sz*x.sz:=Nat.le_mul_of_pos_left _ x.Ak;simp only[aP.sz];rcases hd with ⟨d',h,rfl⟩|h
  ·have h3:=Al d' y;have h4:=uY _ h;omega
  ·have h4:=uZ _ h;omega
 | alt i x y uY uZ=>
  intro d hd;simp only[allA,List.mem_append]at hd;have h1:=Ip (a:=x.sz) (b:=y.sz) (c:=x.sz+y.sz+1) (by omega);simp only[aP.sz];rcases hd with h|h
  ·have h4:=uY _ h;omega
  ·have h4:=uZ _ h;omega
 | star i x ih=>
  intro d hd;simp only[allA,List.mem_map]at hd;obtain ⟨d',h,rfl⟩:=hd;have h3:=Al d' (.star i x);have h4:=ih _ h;have h2:=mH (a:=x.sz) (c:=x.sz+1) (by omega);have:=x.Ak;simp only[aP.sz]at h3 ⊢;omega
 | plus i j x ih=>
  intro d hd;simp only[allA,List.mem_map]at hd;obtain ⟨d',h,rfl⟩:=hd;have h3:=Al d' (.star j x);have h4:=ih _ h;have h2:=mH (a:=x.sz) (c:=x.sz+2) (by omega);have:=x.Ak;simp only[aP.sz]at h3 ⊢;omega
 | fB i x ih=>
  intro d hd;have h4:=ih _ hd;have h2:=mH (a:=x.sz) (c:=x.sz+1) (by omega);simp only[aP.sz];omega
theorem jZ(a:aP):a.leaves<=a.sz:=by induction a<;>simp_all [aP.leaves,aP.sz]<;>omega
theorem CN(d:D):(rG d).length<=d.sz:=by
 induction d with
 | base a=>simp only[rG,fQ,D.sz];exact jZ a
 | snoc d a ih=>simp only[rG,dG,fy,fQ,D.sz];have:=jZ a;omega
theorem oG(a:aP):(dM a).length<=a.sz*a.sz:=by
 induction a with
 | dE=>simp[dM]
 | dr i c=>simp[dM]
 | seq i x y uY uZ=>
  have h1:=Ip (a:=x.sz+1) (b:=y.sz) (c:=x.sz+y.sz+1) (by omega);have h2:=mH (a:=x.sz) (c:=x.sz+1) (by omega);have h3:=jZ x;simp only[dM,dG,fy,fQ,aP.sz];omega
 | alt i x y uY uZ=>
  have h1:=Ip (a:=x.sz) (b:=y.sz) (c:=x.sz+y.sz+1) (by omega);simp only[dM,dG,aP.sz];omega
 | star i x ih=>
  have h2:=mH (a:=x.sz) (c:=x.sz+1) (by omega);have h3:=jZ x;simp only[dM,dG,fy,fQ,aP.sz];omega
 | plus i j x ih=>
  have h2:=mH (a:=x.sz) (c:=x.sz+2) (by omega);have h3:=jZ x;simp only[dM,dG,fy,fQ,aP.sz];omega
 | fB i x ih=>
  have h2:=mH (a:=x.sz) (c:=x.sz+1) (by omega);simp only[dM,aP.sz];omega
theorem xP(d:D):(eL d).length<=d.sz*d.sz:=by
 induction d with
 | base a=>exact oG a
 | snoc d a ih=>
  have h1:=oG a;have h2:=CN d;have h3:d.sz*d.sz+a.sz*a.sz+2*(d.sz*a.sz)<=(d.sz+a.sz)*(d.sz+a.sz):=by rw[Nat.add_mul,Nat.mul_add,Nat.mul_add,Nat.mul_comm a.sz d.sz];omega
  have h4:d.sz<=d.sz*a.sz:=Nat.le_mul_of_pos_right _ a.Ak;simp only[eL,dG,fy,D.sz];omega
def gW(a:aP):List D:=(met a).flatMap eL
theorem gp{α β:Type}(f:α->List β)(n:Nat):∀l:List α,(∀x∈l,(f x).length<=n)->(l.flatMap f).length<=l.length*n
 | [],_=>by simp
 | x::l,h=>by
  have h1:=h x (by simp);have h2:=gp f n l (λy hy=>h y (by simp[hy]));simp only[List.flatMap_cons,dG,fe];have h3:(l.length+1)*n=l.length*n+n:=by rw[Nat.add_mul,Nat.one_mul]
  omega
theorem vI(a:aP)(h:a.sz<=200)(hl:a.leaves<=60):(gW a).length<=100000000000:=by
 have h1:=gp eL (40000*40000) (met a) (λd hd=>by
  refine bJ (xP d) ?_
  have hs:d.sz<=40000:=by
   have abL:a.sz*a.sz<=200*200:=Nat.mul_le_mul h h;simp only[met,List.mem_cons]at hd;rcases hd with rfl|hd
   ·simp only[D.sz];omega
   ·have:=Iq a d hd;omega
  exact Nat.mul_le_mul hs hs)
 have h2:(met a).length<=61:=by rw[vd];omega
 have h3:(met a).length*(40000*40000)<=61*(40000*40000):=Nat.mul_le_mul_right _ h2;unfold gW;omega
variable {a:aP} {d:D}
theorem xQ(h:d∈met a):∀t∈eL d,t∈gW a:=λ_ ht=>List.mem_flatMap.2 ⟨d,h,ht⟩
def aP.lt(n0:Nat):aP->Prop
 | .dE=>0<n0
 | .dr i _=>i<n0
 | .seq i a b=>i<n0/\a.lt n0/\b.lt n0
 | .alt i a b=>i<n0/\a.lt n0/\b.lt n0
 | .star i a=>i<n0/\a.lt n0
 | .plus i j a=>i<n0/\j<n0/\a.lt n0
 | .fB i a=>i<n0/\a.lt n0
theorem aP.lt.CO(h:a.lt n0):a.ix<n0:=by
 cases a with
 | dE=>exact h
 | dr i c=>exact h
 | seq i a b=>exact h.1
 | alt i a b=>exact h.1
 | star i a=>exact h.1
 | plus i j a=>exact h.1
 | fB i a=>exact h.1
theorem ei.Vs{iL:α->eO->Prop}{ns:List (Nd α)}(h:ei iL ns a):a.lt ns.length:=by
 have hl:∀{i:Nat} {nd:Nd α},ns[i]?=some nd->i<ns.length:=λ{i nd} h=>by
  rcases ed i ns.length with h' | h'
  ·exact h'
  ·rw[List.getElem?_eq_none h']at h;cases h
 induction a with
 | dE=>obtain ⟨_,h⟩:=h;exact hl h
 | dr i c=>obtain ⟨_,_,h,_⟩:=h;exact hl h
 | seq i a b lN ml=>obtain ⟨_,⟨_,h⟩,h1,h2⟩:=h;exact ⟨hl h,lN h1,ml h2⟩
 | alt i a b lN ml=>obtain ⟨_,⟨_,h⟩,h1,h2⟩:=h;exact ⟨hl h,lN h1,ml h2⟩
 | star i a ih=>obtain ⟨_,⟨_,h⟩,h1⟩:=h;exact ⟨hl h,ih h1⟩
 | plus i j a ih=>obtain ⟨_,_,⟨_,h⟩,⟨_,h'⟩,h1⟩:=h;exact ⟨hl h,hl h',ih h1⟩
 | fB i a ih=>obtain ⟨_,⟨_,h⟩,h1⟩:=h;exact ⟨hl h,ih h1⟩
def aU{α:Type}(iL:α->eO->Prop)(n0:Nat)(ns:List (Nd α)):D->Nat->Prop
 | .base a,k=>k=a.ix/\a.lt n0/\ei iL ns a
 | .snoc d a,k=>n0<=k/\a.lt n0/\ei iL ns a/\∃m,m≠0/\aU iL n0 ns d m/\∃h,ns[k]?=some ⟨2,h,m,a.ix,d.re.au&&a.re.au⟩
theorem aU.mono{iL M7:α->eO->Prop}{ns Cp:List (Nd α)}(hc:∀h c,iL h c->M7 h c)(hn:∀(i:Nat) nd,ns[i]?=some nd->Cp[i]?=some nd)(h:aU iL n0 ns d k):aU M7 n0 Cp d k:=by
 induction d generalizing k with
 | base a=>obtain ⟨h1,h2,h3⟩:=h;exact ⟨h1,h2,h3.mono hc hn⟩
 | snoc d a ih=>
  obtain ⟨h1,h2,h3,m,h4,h5,x,h6⟩:=h;exact ⟨h1,h2,h3.mono hc hn,m,h4,ih h5,x,hn _ _ h6⟩
theorem bU{ns ms:List α}{x:α}(h:ns[i]?=some x):(ns++ms)[i]?=some x:=by
 rcases ed i ns.length with h' | h'
 ·rw[nz h'];exact h
 ·rw[List.getElem?_eq_none h']at h;cases h
theorem aU.append{iL:α->eO->Prop}{ns ms:List (Nd α)}(h:aU iL n0 ns d k):aU iL n0 (ns++ms) d k:=
 h.mono (λ_ _ h=>h) (λ_ _ h=>bU h)
theorem aU.empty{iL:α->eO->Prop}{ns:List (Nd α)}(h:aU iL n0 ns d k):∃nd,ns[k]?=some nd/\nd.empty=d.re.au:=by
 cases d with
 | base a=>obtain ⟨rfl,_,h⟩:=h;exact h.empty
 | snoc d a=>obtain ⟨_,_,_,m,_,_,x,h⟩:=h;exact ⟨_,h,rfl⟩
theorem aU.lt{iL:α->eO->Prop}{ns:List (Nd α)}(h:aU iL n0 ns d k):k<ns.length:=by
 obtain ⟨nd,h,_⟩:=h.empty;rcases ed k ns.length with h' | h'
 ·exact h'
 ·rw[List.getElem?_eq_none h']at h;cases h
theorem ei.zero{iL:α->eO->Prop}{ns:List (Nd α)}(h:ei iL ns a)(h0:a.ix=0):a=.dE:=by
 cases a with
 | dE=>rfl
 | dr i c=>exact absurd h0 h.1
 | seq i a b=>exact absurd h0 h.1
 | alt i a b=>exact absurd h0 h.1
 | star i a=>exact absurd h0 h.1
 | plus i j a=>exact absurd h0 h.1
 | fB i a=>exact absurd h0 h.1
theorem aU.zero{iL:α->eO->Prop}{ns:List (Nd α)}(hn:0<n0)(h:aU iL n0 ns d 0):d=.base .dE:=by
 cases d with
 | base a=>obtain ⟨h1,_,h⟩:=h;rw[h.zero h1.symm]
 | snoc d a=>obtain ⟨h1,_⟩:=h;omega
theorem aU.pos{iL:α->eO->Prop}{ns:List (Nd α)}(h:aU iL n0 ns d k)(hk:k≠0)(a:aP):cQ d a=.snoc d a:=by
 unfold cQ;split
 ·obtain ⟨h1,_⟩:=h;exact absurd h1 hk
 ·rfl
def Y9{α:Type}(n0:Nat)(ns:List (Nd α)):Prop:=∀(j k:Nat) nd Za,n0<=j->n0<=k->ns[j]?=some nd->ns[k]?=some Za->nd.left=Za.left->nd.right=Za.right->j=k
theorem aU.func{iL:α->eO->Prop}{ns:List (Nd α)}(hu:Y9 n0 ns){k':Nat}(h:aU iL n0 ns d k)(h':aU iL n0 ns d k'):k=k':=by
 induction d generalizing k k' with
 | base a=>rw[h.1,h'.1]
 | snoc d a ih=>
  obtain ⟨h1,_,_,m,_,h2,x,h3⟩:=h;obtain ⟨XL,_,_,m',_,XM,x',Tu⟩:=h';exact hu k k' _ _ h1 XL h3 Tu (ih h2 XM) rfl
theorem NA [DecidableEq β] {R:α->β->Prop}(hf:∀a b b',R a b->R a b'->b=b'){l:List β}{P:List α}(hn:l.Nodup)(h:∀b∈l,∃a∈P,R a b):l.length<=P.length:=by
 classical
 let f:α->Option β:=λa=>if h:∃b,R a b then some h.choose else none
 have h1:∀b∈l,b∈P.filterMap f:=by intro b hb;obtain ⟨a,ha,hr⟩:=h b hb;refine List.mem_filterMap.2 ⟨a,ha,?_⟩;have he:∃b,R a b:=⟨b,hr⟩;simp only[f,dif_pos he];rw[hf a _ _ he.choose_spec hr]
 exact bJ (lD hn h1) (List.length_filterMap_le f P)
theorem vJ(b:UInt8)(a:aP):(kM b a).length<=a.sz:=by
 induction a with
 | dE=>simp[kM,aP.sz]
 | dr i c=>simp only[kM];split<;>simp[aP.sz]
 | seq i x y uY uZ=>
  simp only[kM,dG,fy,aP.sz];split<;>(try simp only[List.length_nil])<;>omega
 | alt i x y uY uZ=>simp only[kM,dG,aP.sz];omega
 | star i x ih=>simp only[kM,fy,aP.sz];omega
 | plus i j x ih=>simp only[kM,fy,aP.sz];omega
 | fB i x ih=>simp only[kM,aP.sz];omega
theorem fS(b:UInt8)(d:D):(pd b d).length<=d.sz:=by
 induction d with
 | base a=>exact vJ b a
 | snoc d a ih=>
  have:=vJ b a;simp only[pd,dG,fy,D.sz];split<;>(try simp only[List.length_nil])<;>omega
end bu
namespace Go.Proofs.YtgncgdkpkkdaeaaGreatDoor
open Go.RowKit bu Go.Maps
variable {w:World}
theorem Below.drewN'{B:Nat}{a:World}(h:Below B a w)(n:Nat):Below B a (w.drewN n):=⟨h.os,h.tape,h.output,h.size,h.block⟩
theorem cY{P:Program}{ops:Array Oper}{o:Oper}{a:Act}{K:Act->World->Prop}{Q:Exit->Act->World->Prop}{E:Prop}
  (hg:o.guard=none) (s x:Operand) (t:TypeId) (hop:o.op=Op.call { callee:=Callee.builtin Builtin.append,args:=#[s,x],argTypes:=#[t,t] })
  (base:Nat) (e:TypeId) (i:TypeInfo) (z:Value) (size bytes:Nat) (h1:P.underlying t=some (.slice e)) (h2:P.info? e=some i) (h3:i.zero=some z) (h4:i.size=size) (h5:i.bytes=bytes) (h6:z.cells.size=size) (h7:0<size)
  (v:Value) (n:Nat) (xs:List Value) (hs:a.eval s=v) (hown:w.ownsRow base e size v n xs)
  (ad:Addr) (m c:Nat) (news:List Value) (hx:a.eval x=.slice (some ad) m c) (hn:news.length=m*size) (hc:∀j u,news[j]?=some u->w.cell? (ad.add j)=some u) (h1c:∀u∈news,u.oneCell'=true)
  (b1:n+m<=maxLen) (b2:(n+m)*bytes<=140737488355328) (hb:base<=w.heap.size)
  (hK:∀v' w',w'.ownsRow base e size v' (n+m) (xs++news)->w.grownBy w' v.ownBlock->(v'.ownBlock=v.ownBlock∨v'.ownBlock=some w.heap.size)->K (a.put o.dst v') w'):
  if Region.wanted o (yielded ops a.tmps)=true then Oper.wp P o a w K Q else E:=by
 have hw:Region.wanted o (yielded ops a.tmps)=true:=by simp[Region.wanted,hg]
 rw[if_pos hw];obtain ⟨v',w',hr,r2,r3,r4,r5⟩:=run_append_own_at (P:=P) w base t o.type e i z size bytes h1 h2 h3 h4 h5 h6 h7 v n xs hown ad m c news hn hc h1c b1 b2 hb;unfold Oper.wp execOp;simp only[hop,resolve,invoke,builtin,Sem.run_bind,Sem.run_pure,Result.andThen_ok,List.map_toArray,List.map_cons,List.map_nil,hs,hx,hr];exact hK v' w' r2 r3 r5
end Go.Proofs.YtgncgdkpkkdaeaaGreatDoor
namespace bu
def Re.sz:Re->Nat
 | .dE=>1
 | .dr _=>1
 | .seq a b=>a.sz+b.sz+1
 | .alt a b=>a.sz+b.sz+1
 | .star a=>a.sz+1
 | .plus a=>a.sz+2
 | .fB a=>a.sz+1
def Re.leaves:Re->Nat
 | .dE=>0
 | .dr _=>1
 | .seq a b=>a.leaves+b.leaves
 | .alt a b=>a.leaves+b.leaves
 | .star a=>a.leaves
 | .plus a=>a.leaves
 | .fB a=>a.leaves
theorem aP.TR(a:aP):a.re.sz=a.sz:=by induction a<;>simp_all [aP.re,Re.sz,aP.sz]
theorem aP.yH(a:aP):a.re.leaves=a.leaves:=by induction a<;>simp_all [aP.re,Re.leaves,aP.leaves]
def TS:List Re->Nat
 | []=>0
 | r::rs=>r.sz+1+TS rs
def TT:List Re->Nat
 | []=>0
 | r::rs=>r.leaves+TT rs
theorem vK:∀rs:List Re,(cG rs).sz<=TS rs+1
 | []=>by simp[cG,Re.sz,TS]
 | [r]=>by simp only[cG,TS];omega
 | r::q::rs=>by have:=vK (q::rs);simp only[cG,Re.sz,TS]at *;omega
theorem rQ:∀rs:List Re,(cG rs).leaves<=TT rs
 | []=>by simp[cG,Re.leaves,TT]
 | [r]=>by simp[cG,TT]
 | r::q::rs=>by have:=rQ (q::rs);simp only[cG,Re.leaves,TT]at *;omega
mutual
theorem aV.size{s:List UInt8}{o:Option (Re×List UInt8)}(h:aV s o):∀r s',o=some (r,s')->r.sz+1+3*s'.length<=3*s.length/\r.leaves+s'.length<=s.length:=by
 match h with
 | .paren k=>intro r s' e;cases e;have:=bH.size k _ _ rfl;simp only[fe]at *;omega
 | .gl _=>intro r s' e;cases e
 | .fR _ _=>intro r s' e;cases e
 | .dot=>intro r s' e;cases e;simp[Re.sz,Re.leaves];omega
 | .dr k=>
  rename_i s o;intro r s' e
  cases o with
  | none=>cases e
  | some p=>
   simp only[Option.map_some,fA,Prod.mk.injEq]at e;obtain ⟨rfl,rfl⟩:=e;have:=eK.len (c:=p.1) (s':=p.2) k;simp only[Re.sz,Re.leaves,fe];omega
 | .one _ _ _=>
  intro r s' e
  cases hp:dK s with
  | none=>rw[hp]at e;cases e
  | some p=>
   rw[hp]at e;simp only[Option.map_some,fA,Prod.mk.injEq]at e;obtain ⟨rfl,rfl⟩:=e;have:=qf (b:=p.1) (s':=p.2) hp;simp only[Re.sz,Re.leaves];omega
 termination_by structural h
theorem dt.size{s:List UInt8}{o:Option (Re×List UInt8)}(h:dt s o):∀r s',o=some (r,s')->r.sz+1+3*s'.length<=3*s.length/\r.leaves+s'.length<=s.length:=by
 match h with
 | .bad _=>intro r s' e;cases e
 | .star k=>intro r s' e;cases e;have:=aV.size k _ _ rfl;simp only[fe,Re.sz,Re.leaves]at *;omega
 | .plus k=>intro r s' e;cases e;have:=aV.size k _ _ rfl;simp only[fe,Re.sz,Re.leaves]at *;omega
 | .fB k=>intro r s' e;cases e;have:=aV.size k _ _ rfl;simp only[fe,Re.sz,Re.leaves]at *;omega
 | .plain k _ _ _=>intro r s' e;cases e;exact aV.size k _ _ rfl
 termination_by structural h
theorem dL.size{s:List UInt8}{o:Option (List Re×List UInt8)}(h:dL s o):∀rs s',o=some (rs,s')->TS rs+3*s'.length<=3*s.length/\TT rs+s'.length<=s.length:=by
 match h with
 | .stop _=>intro r s' e;cases e;simp[TS,TT]
 | .bad _ _=>intro r s' e;cases e
 | .more _ k l=>intro r s' e;cases e;have:=dt.size k _ _ rfl;have:=dL.size l _ _ rfl;simp only[TS,TT]at *;omega
 | .jE _ _ _=>intro r s' e;cases e
 termination_by structural h
theorem iD.size{k:Re}{s:List UInt8}{o:Option (Re×List UInt8)}(h:iD k s o):∀r s',o=some (r,s')->r.sz+3*s'.length<=k.sz+3*s.length/\r.leaves+s'.length<=k.leaves+s.length:=by
 match h with
 | .stop _=>intro r s' e;cases e;simp
 | .bad _=>intro r s' e;cases e
 | .more (rs:=rs) c m=>
  intro r s' e;have h1:=dL.size c _ _ rfl;have h2:=iD.size m _ _ e;have h3:=vK rs;have h4:=rQ rs;simp only[Re.sz,Re.leaves,fe]at *;omega
 termination_by structural h
theorem bH.size{s:List UInt8}{o:Option (Re×List UInt8)}(h:bH s o):∀r s',o=some (r,s')->r.sz+3*s'.length<=3*s.length+1/\r.leaves+s'.length<=s.length:=by
 match h with
 | .bad _=>intro r s' e;cases e
 | .one (rs:=rs) c m=>
  intro r s' e;have h1:=dL.size c _ _ rfl;have h2:=iD.size m _ _ e;have h3:=vK rs;have h4:=rQ rs;omega
 termination_by structural h
end
def aP.vL:aP->aP
 | .dE=>.dE
 | .dr i c=>.dr i c
 | .seq i a b=>.seq i b.vL a.vL
 | .alt i a b=>.alt i a.vL b.vL
 | .star i a=>.star i a.vL
 | .plus i j a=>.plus i j a.vL
 | .fB i a=>.fB i a.vL
theorem aP.kX(a:aP):a.vL.ix=a.ix:=by cases a<;>rfl
theorem aP.rR(a:aP):a.vL.re=a.re.rev:=by induction a<;>simp_all [aP.vL,aP.re,Re.rev]
theorem aP.Vt(a:aP):a.vL.sz=a.sz:=by induction a<;>simp_all [aP.vL,aP.sz];omega
theorem aP.Fu(a:aP):a.vL.leaves=a.leaves:=by induction a<;>simp_all [aP.vL,aP.leaves];omega
theorem ei.vL{α:Type}{iL:α->eO->Prop}{ns Cp:List (Nd α)}(h2:∀(i:Nat) h l r e,ns[i]?=some ⟨2,h,l,r,e⟩->Cp[i]?=some ⟨2,h,r,l,e⟩)(hn:∀(i:Nat) nd,nd.kind≠2->ns[i]?=some nd->Cp[i]?=some nd){a:aP}(h:ei iL ns a):ei iL Cp a.vL:=by
 induction a with
 | dE=>obtain ⟨x,h⟩:=h;exact ⟨x,hn _ _ (by simp) h⟩
 | dr i c=>obtain ⟨h0,x,h1,h2⟩:=h;exact ⟨h0,x,hn _ _ (by simp) h1,h2⟩
 | seq i a b lN ml=>
  obtain ⟨h0,⟨x,h1⟩,h3,h4⟩:=h;refine ⟨h0,⟨x,?_⟩,ml h4,lN h3⟩;rw[aP.kX,aP.kX,aP.rR,aP.rR,gj,gj,Bool.and_comm];exact h2 _ _ _ _ _ h1
 | alt i a b lN ml=>
  obtain ⟨h0,⟨x,h1⟩,h3,h4⟩:=h;refine ⟨h0,⟨x,?_⟩,lN h3,ml h4⟩;rw[aP.kX,aP.kX,aP.rR,aP.rR,gj,gj];exact hn _ _ (by simp) h1
 | star i a ih=>obtain ⟨h0,⟨x,h1⟩,h3⟩:=h;exact ⟨h0,⟨x,by rw[aP.kX];exact hn _ _ (by simp) h1⟩,ih h3⟩
 | plus i j a ih=>obtain ⟨h0,JL,⟨x,h1⟩,⟨y,h4⟩,h3⟩:=h;exact ⟨h0,JL,⟨x,by rw[aP.kX,aP.rR,gj];exact hn _ _ (by simp) h1⟩,⟨y,by rw[aP.kX];exact hn _ _ (by simp) h4⟩,ih h3⟩
 | fB i a ih=>obtain ⟨h0,⟨x,h1⟩,h3⟩:=h;exact ⟨h0,⟨x,by rw[aP.kX];exact hn _ _ (by simp) h1⟩,ih h3⟩
end bu
