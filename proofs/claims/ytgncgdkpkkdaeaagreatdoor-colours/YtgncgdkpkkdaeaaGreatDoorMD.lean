import Derived.Test.YtgncgdkpkkdaeaaGreatDoorMC
import Derived.Maps.OwnSet
import Derived.Maps.OwnOps
import Derived.DeepKeys4
import Derived.Test.YtgncgdkpkkdaeaaGreatDoorMA
import Derived.Maps.AppendAt
import Derived.Deep.AppendSrc
import Derived.Laws.EntriesVeiled
import Derived.WideLaws
namespace Go.Proofs.YtgncgdkpkkdaeaaGreatDoor
open Go.RowKit aQ
variable {a:aM} {text:ByteArray} {ms ns:List (Nd Value)} {ps:List aM} {xs:List Nat} {s:List UInt8} {B P at' at_:Nat} {pv v:Value} {w w1 wr:World}
theorem _root_.aQ.dH.drewN(h:dH (aB w) ns a)(n:Nat):dH (aB (w.drewN n)) ns a:=
 dH.world (w:=w) (w':=w.drewN n) (λ_ _ _ _ h=>h) h
def mR(s:List UInt8)(o:Option (Re×List UInt8)):Prop:=∃o',cL s o'/\o=o'.map λp=>(bn p.1,p.2)
def O4(B P:Nat)(text:ByteArray)(at_:Nat)(ns:List (Nd Value))(w:World)(k:Nat)(pv:Value)(wr:World):Prop:=
 dN B w wr/\∃(at':Nat) (ms:List (Nd Value)) (ps:List aM),fu wr B P text at' (ns++ms)/\Ints wr w.heap.size pv (ps.map aM.ix)/\(∀a∈ps,dH (aB wr) (ns++ms) a) /\
  ms.length+ps.length+3*(rest text at').length<=3*(rest text at_).length/\k=(rest text at').length /\
  ∀o,cL (rest text at') o->cL (rest text at_) (o.map λp=>(ps.map aM.re++p.1,p.2))
theorem kD:(Tryz.prog.info? 3).map (λi=>(i.zero,i.size,i.bytes))=some (some (.int .i64 0),1,8):=by kernel_rfl
theorem Ar(d:UInt8)(s:List UInt8)(B P:Nat)(text:ByteArray)(at_:Nat)(ns:List (Nd Value))(w:World)(hP:fu w B P text at_ ns)(h:rest text at_=d::s)(f:Bool)(hf:(d==124||d==41)=f):
  Calls Tryz.prog 192 #[.pointer (some ⟨P,0,none⟩),.string ⟨#[124,41]⟩] w λe w'=>e=.returned (.bool f)/\∃n,w'=w.drewN n:=by
 refine (Af ⟨#[124,41]⟩ B P text at_ ns w hP).mono ?_;rintro e w' ⟨rfl,n,rfl⟩;refine ⟨?_,n,rfl⟩;rw[h];simp only[List.head?_cons];rw[<-hf];simp only[List.contains_cons,List.contains_nil,Bool.or_false]
theorem Ints.drewN(h:Ints w B v xs)(n:Nat):Ints (w.drewN n) B v xs:=h
theorem Ha{w0 w3:World}{o:Obj}(hP:fu w B P text at_ ns)(hI:Ints w w0.heap.size v xs)(hs:w0.heap.size<=w.heap.size)(hF:dN B w0 w)
  (hg:(w.alloc o).grownBy w3 v.ownBlock):fu w3 B P text at_ ns/\bu w w3/\dN B w0 w3:=by
 have hrow:∀k,some k=v.ownBlock->w0.heap.size<=k/\∃c,w.heap[k]?=some (.cells c 3 (0,0)):=by
  intro k hk;rcases hI.2 with ⟨rfl,_⟩|⟨g,cap,cur,rfl,hg,hh,_⟩
  ·cases hk
  ·cases hk;exact ⟨hg,cur,hh⟩
 have hold:∀(k:Nat) c t fz,t≠3->w.heap[k]?=some (.cells c t fz)->w3.heap[k]?=some (.cells c t fz):=by intro k c t fz ht hh;have hlt:=ae hh;rw[hg.block k (by simp;omega) (λe=>by obtain ⟨_,c',h'⟩:=hrow k e;rw[hh]at h';simp at h';exact ht h'.2.1)];exact heap_alloc_old hh
 refine ⟨?_,?_,?_⟩
 ·obtain ⟨⟨sv,h1,h2⟩,a,b,c⟩:=hP;refine ⟨⟨sv,hold _ _ _ _ (by decide) h1,h2.keep λk hk=>?_⟩,a,b,c⟩;obtain ⟨_,cur,hc⟩:=h2.block hk;rw[hc];exact hold _ _ _ _ (by decide) hc
 ·intro k c t ht hh;exact hold k c t _ (by rcases ht with rfl|rfl<;>decide) hh
 ·refine ⟨hg.os.trans hF.os,hg.tape.trans hF.tape,hg.output.trans hF.output,?_,λk hk hn=>?_⟩
  ·have:=hg.size;simp at this;omega
  ·rw[hg.block k (by simp;omega) (λe=>by have:=(hrow k e).1;omega),Below.heap_alloc _ _ _ (by omega)];exact hF.keep k hk hn
-- The way out of the loop,in a world in which the parts lie.
def yg(B P:Nat)(text:ByteArray)(at_:Nat)(ns:List (Nd Value))(w:World)(at':Nat)(ms:List (Nd Value))(ps:List aM)(pv:Value)(wr:World):Prop:=
 dN B w wr/\fu wr B P text at' (ns++ms)/\Ints wr w.heap.size pv (ps.map aM.ix)/\(∀a∈ps,dH (aB wr) (ns++ms) a) /\
  ms.length+ps.length+3*(rest text at').length<=3*(rest text at_).length/\cL (rest text at_) (some (ps.map aM.re,rest text at'))
theorem FA(hP:Pre B P text at_ ns w)(h:yg B P text at_ ns w at' ms ps pv wr)(nq:Nat):
  Calls Tryz.prog 194 #[.pointer (some ⟨P,0,none⟩),pv] (wr.drewN nq) (ye B P text at' (ns++ms) ps (wr.drewN nq)):=by
 obtain ⟨hF,h1,h2,h3,h4,h5⟩:=h;refine tq B w.heap.size P text at' (ns++ms) ps pv (wr.drewN nq) (h1.drewN nq) ?_ (h2.drewN nq) ?_ ?_
 ·have:=hP.bound;simp only[List.length_append];omega
 ·intro a ha;exact dH.world (w:=wr) (w':=wr.drewN nq) (λ_ _ _ _ h=>h) (h3 a ha)
 ·exact (hP.cW.append (ms:=ms)).world hF.stay
theorem FB{nq:Nat}{e:Ending}{w':World}
  (h:yg B P text at_ ns w at' ms ps pv wr) (hs:ye B P text at' (ns++ms) ps (wr.drewN nq) e w'):
  ∃i:Nat,e=.returned (.int .i64 i)/\fX mR 0 B P text at_ ns w (.returned (.tuple #[.int .i64 i,.bool true])) w':=by
 obtain ⟨hF,h1,h2,h3,h4,h5⟩:=h;obtain ⟨hF2,a,ks,rfl,O3,iz,wH,hl⟩:=hs;refine ⟨a.ix,rfl,(hF.drewN nq).trans hF2,.inl ⟨a,at',ms++ks,rfl,⟨_,h5,by rw[O3];rfl⟩,by rw[<-List.append_assoc];exact iz,by rw[<-List.append_assoc];exact wH,?_⟩⟩;simp only[List.length_append];omega
set_option maxHeartbeats 2000000 in
theorem tA(n:Nat)(hC:gU n)(B P:Nat)(text:ByteArray)(at_:Nat)(ns:List (Nd Value))(w:World)(hP:Pre B P text at_ ns w)(hn:(rest text at_).length<=n):
  Calls Tryz.prog 170 #[.pointer (some ⟨P,0,none⟩)] w (fX mR 0 B P text at_ ns w):=by
 have HP:=aa hP;have HN:=aa hn;clear hP hn;obtain ⟨i0,hi,hz0,hz1,hz2⟩:=info_parts kD;go_enter Tryz.func170,Tryz.ntmps170;go_wp2_with fail;go_loopg [4] (rest text at_).length (λk pv wr=>O4 B P text at_ ns w k pv wr)
 case atStart=>exact ⟨dN.refl _ _,at_,[],[],by simpa using HP.out.Wn,World.ownsRow_nil _ _ _ _,by simp,by simp,rfl,λo h=>by cases o with|none=>exact h|some p=>exact h⟩
 case round=>
  obtain ⟨hF,jQ,ms,ps,mC,hI,hA,hb,hk,Rg⟩:=hrel;have HK:=aa hk;have HF:=aa hF;have gp:=aa mC;have HI:=aa hI;have HA:=aa hA;have HB:=aa hb;have tB:=aa Rg;have h0:=(HP.out.cW.append (ms:=ms)).world hF.stay;have H0:=aa h0;obtain ⟨c0,c1,f1⟩:=mC.cells;have hsm:=mC.small;have Wb:=mC.le;clear hF mC hI hA hb Rg h0 hk
  cases hr:rest text jQ with
  | nil=>
   have he:=kO Wb hr;have HO:=aa (show yg B P text at_ ns w jQ ms ps u4 wr from ⟨HF.out,gp.out,HI.out,HA.out,HB.out,by have:=tB.out (some ([],rest text jQ)) (.stop (.inl hr));simpa using this⟩);have hg:decide (jQ<text.size)=false:=by simp;omega
   clear hr he;go_wp2_with fail;go_quiet (fail);go_wp2_with fail;refine (FA HP.out HO.out nq).mono ?_;rintro e w2 hs;obtain ⟨i,rfl,pL⟩:=FB HO.out hs;have CF:=aa pL;clear hs pL;go_wp2_with fail;go_ret2;exact CF.out
  | cons c s=>
   obtain ⟨hlt,hc,xQ⟩:=dw hr;have hg:decide ((jQ:Int)<(text.size:Int))=true:=by simpa using hlt
   have HR:=aa hr;clear hr xQ hc
   cases hd:(c==124||c==41) with
   | true=>
    have HD:=aa hd
    have HO:=aa (show yg B P text at_ ns w jQ ms ps u4 wr from ⟨HF.out,gp.out,HI.out,HA.out,HB.out,by
     have he:atEnd (rest text jQ):=by
      rw[HR.out];simp only[Bool.or_eq_true,beq_iff_eq]at hd;rcases hd with rfl|rfl
      ·exact .inr (.inl rfl)
      ·exact .inr (.inr rfl)
     have:=tB.out (some ([],rest text jQ)) (.stop he);simpa using this⟩)
    clear hd;go_wp2_with fail;go_quiet ((go_at_call 192;exact Calls.quiet_of (Ar c s B P text jQ (ns++ms) _ (gp.out.drewN _) HR.out true HD.out)));go_wp2_with fail;refine (FA HP.out HO.out nq).mono ?_;rintro e w2 hs;obtain ⟨i,rfl,pL⟩:=FB HO.out hs;have CF:=aa pL;clear hs pL;go_wp2_with fail;go_ret2;exact CF.out
   | false=>
    have HD:=aa hd
    have hne:¬atEnd (rest text jQ):=by
     rw[HR.out];simp only[Bool.or_eq_false_iff,beq_eq_false_iff_ne]at hd;rintro (h|h|h)
     ·cases h
     ·simp at h;exact hd.1 h
     ·simp at h;exact hd.2 h
    have O5:=aa hne;have K3:=aa (show ∀nq,Pre B P text jQ (ns++ms) (wr.drewN nq) from λnq=>⟨gp.out.drewN nq,H0.out.world (λ_ _ _ _ h=>h),by have:=HP.out.bound;have:=HB.out;simp only[List.length_append];omega⟩);have SX:=aa (show (rest text jQ).length<=n by have:=HN.out;have:=HB.out;omega);clear hd hne;go_wp2_with fail
    go_quiet ((go_at_call 192;exact Calls.quiet_of (Ar c s B P text jQ (ns++ms) _ (gp.out.drewN _) HR.out false HD.out)));go_wp2_with fail;refine (G9 n hC B P text jQ (ns++ms) (wr.drewN nq) (K3.out nq) SX.out).mono ?_;rintro e w2 ⟨hF2,⟨a,pG,ks,rfl,pL,iz,wH,hb2⟩|⟨i,rfl,pL⟩⟩
    ·have et:=aa hF2;have CF:=aa pL;have lW:=aa iz;have kR:=aa wH;have cM:=aa hb2;have yh:=aa (show Ints w2 w.heap.size u4 (ps.map aM.ix) from (HI.out.drewN nq).pfr hF2);have hpl:(ps.map aM.ix).length+1<=1000:=by have:=HP.out.bound;have:=HB.out;simp only[List.length_map];omega
     have eD:w.heap.size<=w2.heap.size:=Nat.le_trans HF.out.size hF2.size;clear hF2 pL iz wH hb2
     go_wp2_with (at_builtin;refine wpList_append_own _ rfl _ _ 57 rfl w.heap.size 3 i0 (.int .i64 0) 1 8 Tryz.underlying57 hi hz0 hz1 hz2 rfl (by decide) _ _ _ rfl (yh.out.alloc _) ⟨w2.heap.size,0,none⟩ 1 1 [.int .i64 a.ix] rfl rfl (by exact aF w2 #[.int .i64 a.ix] _) (by simp[Value.oneCell']) (by unfold maxLen;omega) (by omega) (by simp;omega) ?_;intro v' w3 hown hg qM)
     have hg2:(w2.alloc (.cells #[.int .i64 a.ix] 3)).grownBy w3 u4.ownBlock:=hg;obtain ⟨jD,mK,dp⟩:=Ha lW.out yh.out eD ((HF.out.drewN nq).trans et.out) hg2;have uQ:Ints w3 w.heap.size v' ((ps++[a]).map aM.ix):=by unfold Ints;simpa using hown
     have pF:=aa jD;have O6:=aa mK;have gz:=aa dp;have K8:=aa uQ;clear jD mK dp uQ hg hg2 hown qM;go_wp2_with fail;go_roundg (rest text pG).length
     case measure=>have:=cM.out;rw[HK.out];omega
     case rel=>
      refine ⟨gz.out,pG,ms++ks,ps++[a],by rw[<-List.append_assoc];exact pF.out,K8.out,?_,?_,rfl,?_⟩
      ·intro b hb;rw[<-List.append_assoc];rcases List.mem_append.1 hb with hb|hb
       ·exact (((dH.drewN (HA.out b hb) nq).world et.out.stay).world O6.out).append
       ·simp only[List.mem_singleton]at hb;subst hb;exact kR.out.world O6.out
      ·have h1:=cM.out;have h2:=HB.out;simp only[List.length_append,List.length_cons,List.length_nil];omega
      ·intro o ho
       cases o with
       | none=>
        have:=tB.out none (.iL O5.out CF.out ho);simpa using this
       | some p=>
        have:=tB.out (some (a.re::p.1,p.2)) (.more O5.out CF.out ho);simpa using this
    ·have et:=aa hF2;have CF:=aa pL;clear hF2 pL;go_wp2_with fail;go_ret2;refine ⟨(HF.out.drewN nq).trans et.out,.inr ⟨0,by simp,none,?_,rfl⟩⟩;have:=tB.out none (.bad O5.out CF.out);simpa using this
theorem tC{s':List UInt8}{r:Re}(h:mR s (some (r,s'))):∃rs,cL s (some (rs,s'))/\r=bn rs:=by
 obtain ⟨o,h1,h2⟩:=h
 cases o with
 | none=>cases h2
 | some p=>simp only[Option.map_some,Option.some.injEq,Prod.mk.injEq]at h2;exact ⟨p.1,by rw[h2.2];exact h1,h2.1⟩
theorem tD(h:mR s none):cL s none:=by
 obtain ⟨o,h1,h2⟩:=h
 cases o with
 | none=>exact h1
 | some p=>cases h2
def K9(B P:Nat)(text:ByteArray)(at_:Nat)(ns:List (Nd Value))(w:World)(k:Nat)(left N5:Value)(wr:World):Prop:=
 dN B w wr/\((N5=.bool true/\∃(a:aM) (at':Nat) (ms:List (Nd Value)),left=.int .i64 a.ix/\fu wr B P text at' (ns++ms)/\dH (aB wr) (ns++ms) a /\
   ms.length+3*(rest text at').length<=3*(rest text at_).length/\k=1+(rest text at').length/\∀o,gH a.re (rest text at') o->bc (rest text at_) o) ∨
  (N5=.bool false/\k=0/\(∃i:Nat,left=.int .i64 i)/\bc (rest text at_) none))
set_option maxHeartbeats 2000000 in
theorem Au(n:Nat)(hC:gU n)(B P:Nat)(text:ByteArray)(at_:Nat)(ns:List (Nd Value))(w:World)(hP:Pre B P text at_ ns w)(hn:(rest text at_).length<=n):
  Calls Tryz.prog 139 #[.pointer (some ⟨P,0,none⟩)] w (fX bc 0 B P text at_ ns w):=by
 have HP:=aa hP;have HN:=aa hn;clear hP hn;go_enter Tryz.func139,Tryz.ntmps139;go_wp2_with fail;refine (tA n hC B P text at_ ns w HP.out HN.out).mono ?_;rintro e w1 ic
 obtain ⟨left,N5,k0,rfl,hL⟩:∃(i:Nat) (ok:Bool) (k0:Nat),e=.returned (.tuple #[.int .i64 i,.bool ok])/\K9 B P text at_ ns w k0 (.int .i64 i) (.bool ok) w1:=by
  rcases ic with ⟨fH,⟨a,jQ,ms,rfl,iA,mC,rV,hb1⟩|⟨i,rfl,iA⟩⟩
  ·obtain ⟨rs,h1,h2⟩:=tC iA;exact ⟨a.ix,true,1+(rest text jQ).length,rfl,fH,.inl ⟨rfl,a,jQ,ms,rfl,mC,rV,by omega,rfl,λo ho=>.one h1 (h2▸ho)⟩⟩
  ·exact ⟨i,false,0,rfl,fH,.inr ⟨rfl,rfl,⟨i,rfl⟩,.bad (tD iA)⟩⟩
 have HL:=aa hL;clear hL ic;go_wp2_with fail;go_loopg [4,5] k0 (λk left N5 wr=>K9 B P text at_ ns w k left N5 wr)
 case atStart=>exact HL.out
 case round=>
  obtain ⟨hF,⟨rfl,a,jQ,ms,rfl,mC,rV,hb1,hk,hm⟩|⟨rfl,hk,⟨i,rfl⟩,hm⟩⟩:=hrel
  ·have HF:=aa hF;have gp:=aa mC;have ez:=aa rV;have br:=aa hb1;have HK:=aa hk;have HM:=aa hm;have H0:=aa ((HP.out.cW.append (ms:=ms)).world hF.stay);clear hF mC rV hb1 hk hm;go_wp2_with fail;refine (ia 124 B P text jQ (ns++ms) wr gp.out).mono ?_;rintro e w2 ⟨r,pG,rfl,iz,hF2,⟨rfl,h2⟩|⟨rfl,SU,h2⟩⟩
   ·have lW:=aa iz;have et:=aa hF2;have H2:=aa h2;have hl2:(rest text pG).length+1=(rest text jQ).length:=by rw[h2];rfl
    have kC:=aa hl2;have K3:=aa (show Pre B P text pG (ns++ms) w2 from ⟨iz,H0.out.world hF2.stay,by have:=HP.out.bound;have:=br.out;simp only[List.length_append];omega⟩);clear iz hF2 h2 hl2;go_wp2_with fail;refine (tA n hC B P text pG (ns++ms) w2 K3.out (by have:=HN.out;have:=br.out;have:=kC.out;omega)).mono ?_
    rintro e w3 ⟨dp,⟨a3,Ai,ks,rfl,N6,jD,Av,hb3⟩|⟨i,rfl,N6⟩⟩
    ·obtain ⟨rs,hc3,Wp⟩:=tC N6;have SV:dH (aB w3) (ns++ms++ks) a:=((ez.out.world et.out.stay).world dp.stay).append;obtain ⟨x,hx,Rb⟩:=SV.empty;obtain ⟨y,hy,Rc⟩:=Av.empty;have HE:=aa (show K0 (ns++ms++ks) 3 a.ix a3.ix (a.re.aj||a3.re.aj) from .inr (.inr (.inr (.inr ⟨rfl,x,y,hx,hy,by rw[Rb,Rc]⟩))));have HRa:=aa SV;have gz:=aa dp
     have pF:=aa jD;have FC:=aa Av;have eY:=aa hb3;have HC3:=aa hc3;have Wm:=aa Wp;have hlen:(ns++ms++ks).length<=1000:=by have:=HP.out.bound;have:=br.out;have:=kC.out;simp only[List.length_append];omega
     have G8:=aa hlen;clear dp N6 jD Av hb3 hc3 Wp SV hx Rb hy Rc hlen;go_wp2_with fail;refine (eh B P text Ai (ns++ms++ks) 3 a.ix a3.ix .nilFunc (a.re.aj||a3.re.aj) false w3 pF.out G8.out HE.out (.inl rfl)).mono ?_;rintro e w4 ⟨rfl,wG,lX⟩;have Fv:=aa wG;have mD:=aa lX;clear wG lX;obtain ⟨j,hj⟩:∃j,j=(ns++ms++ks).length:=⟨_,rfl⟩;rw[<-hj]
     have HJ:=aa hj;clear hj;go_wp2_with fail;go_roundg (1+(rest text Ai).length)
     case measure=>have:=HK.out;have:=kC.out;have:=eY.out;omega
     case rel=>
      refine ⟨((HF.out.trans et.out).trans gz.out).trans mD.out,.inl ⟨rfl,.alt j a a3,Ai,ms++ks++[⟨3,.nilFunc,a.ix,a3.ix,a.re.aj||a3.re.aj⟩],rfl,?_,?_,?_,rfl,?_⟩⟩
      ·rw[<-List.append_assoc,<-List.append_assoc];exact Fv.out
      ·rw[<-List.append_assoc,<-List.append_assoc];refine ⟨?_,⟨.nilFunc,?_⟩,(HRa.out.world mD.out.stay).append,(FC.out.world mD.out.stay).append⟩
       ·rw[HJ.out];have:=jT H0.out;simp only[List.length_append]at this ⊢;omega
       ·rw[HJ.out];exact lZ _
      ·have h1:=br.out;have h2:=eY.out;have h3:=kC.out;simp only[List.length_append,List.length_cons,List.length_nil];omega
      ·intro o ho;refine HM.out o ?_;rw[H2.out];refine .more HC3.out ?_;rw[<-Wm.out];exact ho
    ·have gz:=aa dp;have Aw:=aa (tD N6);clear dp N6;go_wp2_with fail;go_roundg 0
     case measure=>have:=HK.out;omega
     case rel=>refine ⟨(HF.out.trans et.out).trans gz.out,.inr ⟨rfl,rfl,⟨a.ix,rfl⟩,HM.out none ?_⟩⟩;rw[H2.out];exact .bad Aw.out
   ·subst SU;have lW:=aa iz;have et:=aa hF2;have H2:=aa h2;clear iz hF2 h2;go_wp2_with fail;go_ret2;exact ⟨HF.out.trans et.out,.inl ⟨a,pG,ms,by simp,HM.out _ (.stop H2.out),lW.out,ez.out.world et.out.stay,by have:=br.out;omega⟩⟩
  ·have HF:=aa hF;have HM:=aa hm;clear hF hm hk;go_wp2_with fail;go_ret2;exact ⟨HF.out,.inr ⟨i,by simp,HM.out⟩⟩
theorem Ax(n:Nat):gU n:=by
 induction n with
 | zero=>intro B P text at_ ns w _ h;omega
 | succ n ih=>intro B P text at_ ns w hP h;exact Au n ih B P text at_ ns w hP (by omega)
def Wq:Nd Value:=⟨0,.nilFunc,0,0,true⟩
def pw(w:World)(s:ByteArray):World:=
 ((w.alloc (.cells #[.slice none 0 0,.int .i64 0] 184)).alloc (.cells #[.int .i64 0,.nilFunc,.int .i64 0,.int .i64 0,.bool true] 292)).alloc
  (.cells #[.string s,.int .i64 0,.slice (some ⟨w.heap.size+1,0,none⟩) 1 1] 257)
theorem tE(w:World)(s:ByteArray):Below w.heap.size w (pw w s):=
 (((Below.refl _ _).alloc (Nat.le_refl _) _).alloc (by simp) _).alloc (by simp;omega) _
theorem SY(w:World)(s:ByteArray):(pw w s).heap[w.heap.size]?=some (.cells #[.slice none 0 0,.int .i64 0] 184 (0,0)):=
 heap_alloc_old (heap_alloc_old (af w _))
theorem La(w:World)(s:ByteArray)(h:s.size<=60):Pre w.heap.size (w.heap.size+1+1) s 0 [Wq] (pw w s):=by
 refine ⟨⟨⟨.slice (some ⟨w.heap.size+1,0,none⟩) 1 1,?_,?_⟩,Nat.zero_le _,h,by omega⟩,⟨.nilFunc,rfl⟩,?_⟩
 ·have:=af ((w.alloc (.cells #[.slice none 0 0,.int .i64 0] 184)).alloc (.cells #[.int .i64 0,.nilFunc,.int .i64 0,.int .i64 0,.bool true] 292)) (.cells #[.string s,.int .i64 0,.slice (some ⟨w.heap.size+1,0,none⟩) 1 1] 257);simpa [pw] using this
 ·refine ⟨⟨rfl,.inr ⟨w.heap.size+1,1,#[.int .i64 0,.nilFunc,.int .i64 0,.int .i64 0,.bool true],rfl,by omega,?_,Nat.le_refl _,by unfold maxLen;omega,rfl,rfl⟩⟩,λd hd=>by simp at hd;subst hd;exact .inl rfl⟩;have:=af (w.alloc (.cells #[.slice none 0 0,.int .i64 0] 184)) (.cells #[.int .i64 0,.nilFunc,.int .i64 0,.int .i64 0,.bool true] 292)
  exact heap_alloc_old (by simpa using this)
 ·rw[aW];simp only[List.length_cons,List.length_nil];omega
def l9(s:ByteArray)(w:World)(e:Ending)(w':World):Prop:=
 Below w.heap.size w w'/\((60<s.size/\e=.returned (.tuple #[.agg #[.slice none 0 0,.int .i64 0],.int .i64 1])) ∨
  (s.size<=60/\(bc s.data.toList none∨∃r s',s'≠[]/\bc s.data.toList (some (r,s')))/\e=.returned (.tuple #[.agg #[.slice none 0 0,.int .i64 0],.int .i64 6])) ∨
  (s.size<=60/\∃(sv:Value) (a:aM) (ns:List (Nd Value)),e=.returned (.tuple #[.agg #[sv,.int .i64 a.ix],.int .i64 0])/\bc s.data.toList (some (a.re,[])) /\
   bb w' w.heap.size sv ns/\dH (aB w') ns a/\dH (aB w') ns .cW/\ns.length<=200))
set_option maxHeartbeats 1000000 in
theorem Dp(s:ByteArray)(w:World)(hs:s.size<=maxLen)(h:60<s.size):
  Calls Tryz.prog 100 #[.string s] w (l9 s w):=by
 unfold maxLen at hs;go_enter Tryz.func100,Tryz.ntmps100;go_wp2;exact bodyPost_ret (v:=.tuple #[.agg #[.slice none 0 0,.int .i64 0],.int .i64 1]) (by simp[results,Tryz.results100,go_sem]) rfl ⟨(Below.refl _ _).alloc (Nat.le_refl _) _,.inl ⟨h,rfl⟩⟩
theorem pY(s:ByteArray):rest s 0=s.data.toList:=by simp[rest]
theorem Below.pZ{w2:World}(h:Below w.heap.size w w1)(k:dN w.heap.size w1 w2):Below w.heap.size w w2:=h.trans (k.below h.size)
theorem Hb{s:ByteArray}{sv:Value}(h:s.size<=60)(hF:dN w.heap.size (pw w s) w1)(hA:bc (rest s 0) (some (a.re,rest s at')))(hat:at'=s.size)
  (hL:bb w1 w.heap.size sv ns) (hR:dH (aB w1) ns a) (h0:dH (aB w1) ns .cW) (hn:ns.length<=200) (i:Value):
  l9 s w (.returned (.tuple #[.agg #[sv,.int .i64 a.ix],.int .i64 0])) ((w1.setCell ⟨w.heap.size,0,none⟩ sv).setCell ⟨w.heap.size,1,none⟩ i):=by
 have hb:=Below.pZ (tE w s) hF;have Hc:=hF.other (SY w s) (by decide) (by decide)
 have hne:∀(k:Nat) c t,t≠184->w1.heap[k]?=some (.cells c t (0,0))->((w1.setCell ⟨w.heap.size,0,none⟩ sv).setCell ⟨w.heap.size,1,none⟩ i).heap[k]?=some (.cells c t (0,0)):=by
  intro k c t ht hk;have hkw:k≠w.heap.size:=by rintro rfl;rw[Hc]at hk;simp at hk;exact ht hk.2.symm
  rw[Below.heap_setCell _ _ _ _ (by exact hkw),Below.heap_setCell _ _ _ _ (by exact hkw)];exact hk
 have hst:bu w1 ((w1.setCell ⟨w.heap.size,0,none⟩ sv).setCell ⟨w.heap.size,1,none⟩ i):=λk c t ht hk=>hne k c t (by rcases ht with rfl|rfl<;>decide) hk
 refine ⟨(hb.setCell (Nat.le_refl _) _).setCell (Nat.le_refl _) _,.inr (.inr ⟨h,sv,a,ns,rfl,?_,?_,hR.world hst,h0.world hst,hn⟩)⟩
 ·rw[<-pY,<-dg (text:=s) (at_:=at') (by omega)];exact hA
 ·refine hL.keep λk hk=>?_
  obtain ⟨_,cur,hc⟩:=hL.block hk;rw[hc];exact hne k _ _ (by decide) hc
set_option maxHeartbeats 1000000 in
theorem Ay(s:ByteArray)(w:World)(h:s.size<=60):
  Calls Tryz.prog 100 #[.string s] w (l9 s w):=by
 have hg:decide ((60:Int)<(s.size:Int))=false:=by simp;omega
 go_enter Tryz.func100,Tryz.ntmps100;go_wp2_with (first|(go_at_call 138;go_in));refine (Ax 61 w.heap.size (w.heap.size+1+1) s 0 [Wq] (pw w s) (La w s h) (by rw[aW];omega)).mono ?_;rintro e w1 ⟨hF,⟨a,jQ,ms,rfl,hA,hP,hR,hb⟩|⟨i,rfl,hA⟩⟩
 ·have Hc:=hF.other (SY w s) (by decide) (by decide);have r0:w1.cell? ⟨w.heap.size,0,none⟩=some (.slice none 0 0):=by simp[World.cell?,Hc]
  have r1:w1.cell? ⟨w.heap.size,1,none⟩=some (.int .i64 0):=by simp[World.cell?,Hc]
  have g0:w1.frozen? ⟨w.heap.size,0,none⟩=false:=by simp[World.frozen?,Hc]
  have g1:w1.frozen? ⟨w.heap.size,1,none⟩=false:=by simp[World.frozen?,Hc]
  have HF:=aa hF;have HA:=aa hA;have HP:=aa hP;have HR:=aa hR;have H0:=aa (((La w s h).cW.append (ms:=ms)).world hF.stay);have HB:=aa hb;obtain ⟨c0,c1,-⟩:=hP.cells;have hle:=hP.le;obtain ⟨⟨sv,zw,U4⟩,-⟩:=hP;have c2:w1.cell? ⟨w.heap.size+1+1,2,none⟩=some sv:=by simp[World.cell?,zw]
  have HL:=aa U4;clear hF hA hR hb zw U4 Hc;by_cases hat:jQ<s.size
  ·have hg2:decide ((jQ:Int)<(s.size:Int))=true:=by simpa using hat
   go_wp2_with fail;refine bodyPost_ret (v:=.tuple #[.agg #[.slice none 0 0,.int .i64 0],.int .i64 6]) (by simp[results,Tryz.results100,go_sem, *]) rfl ?_;refine ⟨?_,.inr (.inl ⟨h,.inr ⟨a.re,rest s jQ,?_,by rw[<-pY];exact HA.out⟩,rfl⟩)⟩
   ·exact ((Below.pZ (tE w s) HF.out).setCell (Nat.le_refl _) _).setCell (Nat.le_refl _) _
   ·rw[bm hat];simp
  ·have hat':jQ=s.size:=by omega
   have hg2:decide (jQ<s.size)=false:=by simp;omega
   have HAT:=aa hat';clear hat hat';have G8:=aa (show ([Wq]++ms).length<=200 by have:=HB.out;rw[aW,aW]at this;simp only[List.length_append,List.length_cons,List.length_nil];omega);have rB:∃g cap,sv=.slice (some ⟨g,0,none⟩) ([Wq]++ms).length cap:=aC HL.out.1 (by simp);obtain ⟨g,cap,rfl⟩:=rB;go_wp2_with fail
   exact bodyPost_ret (v:=.tuple #[.agg #[.slice (some ⟨g,0,none⟩) ([Wq]++ms).length cap,.int .i64 a.ix],.int .i64 0]) (by simp[results,Tryz.results100,go_sem, *]) rfl (Hb h HF.out HA.out HAT.out HL.out HR.out H0.out G8.out _)
 ·have Hc:=hF.other (SY w s) (by decide) (by decide);have r0:w1.cell? ⟨w.heap.size,0,none⟩=some (.slice none 0 0):=by simp[World.cell?,Hc]
  have r1:w1.cell? ⟨w.heap.size,1,none⟩=some (.int .i64 0):=by simp[World.cell?,Hc]
  have g0:w1.frozen? ⟨w.heap.size,0,none⟩=false:=by simp[World.frozen?,Hc]
  have g1:w1.frozen? ⟨w.heap.size,1,none⟩=false:=by simp[World.frozen?,Hc]
  have HF:=aa hF;have HA:=aa hA;clear hF hA Hc;go_wp2_with fail;refine bodyPost_ret (v:=.tuple #[.agg #[.slice none 0 0,.int .i64 0],.int .i64 6]) (by simp[results,Tryz.results100,go_sem, *]) rfl ?_;exact ⟨((Below.pZ (tE w s) HF.out).setCell (Nat.le_refl _) _).setCell (Nat.le_refl _) _,.inr (.inl ⟨h,.inl (by rw[<-pY];exact HA.out),rfl⟩)⟩
theorem wI(s:ByteArray)(w:World)(hs:s.size<=maxLen):Calls Tryz.prog 100 #[.string s] w (l9 s w):=by
 by_cases h:s.size<=60
 ·exact Ay s w h
 ·exact Dp s w hs (by omega)
end Go.Proofs.YtgncgdkpkkdaeaaGreatDoor
namespace Go.Proofs.YtgncgdkpkkdaeaaGreatDoor
open Go.RowKit aQ Go.Maps
variable {q:IntKind} {l:Lit} {b n:Nat} {κ:Type} {E t:TypeId} {a:Value} {w:World}
theorem laidOut:laidOutB Tryz.prog=true:=by kernel_rfl
theorem O7:Keyed Tryz.prog 3:=int_keyed Tryz.underlying3
theorem Lb:(333 : TypeId) < Tryz.prog.types.size:=of_decide_eq_true (by kernel_rfl)
theorem wJ:(match Tryz.prog.underlying 333 with|some (.array _ _)|some (.struct _)=>true|_=>false)=true:=by kernel_rfl
set_option maxRecDepth 100000 in
theorem Lc:Keyed Tryz.prog 333:=Keyed.of_law (deep_law_laid laidOut (m:=3) (by omega) Lb (by kernel_rfl) wJ)
theorem Hd:(305 : TypeId) < Tryz.prog.types.size:=of_decide_eq_true (by kernel_rfl)
theorem tF:(match Tryz.prog.underlying 305 with|some (.array _ _)|some (.struct _)=>true|_=>false)=true:=by kernel_rfl
set_option maxRecDepth 100000 in
theorem He:Keyed Tryz.prog 305:=Keyed.of_law (deep_law_laid laidOut (m:=3) (by omega) Hd (by kernel_rfl) tF)
set_option maxRecDepth 100000 in
theorem Dq:Tryz.prog.tiled 3 333=true:=tiled_of_laidOut laidOut 3 _ (by kernel_rfl) (by kernel_rfl)
set_option maxRecDepth 100000 in
theorem Az:Tryz.prog.tiled 3 305=true:=tiled_of_laidOut laidOut 3 _ (by kernel_rfl) (by kernel_rfl)
theorem kV(a:Nat)(h:a<=1000000000000):(Lit.int .i64 (a:Int)).wf=true:=by exact WalkArith.wf_i64 (by omega)
theorem tG:∃m,Tryz.prog.types.size=m+1:=⟨Tryz.prog.types.size - 1,by kernel_rfl⟩
theorem yi:Tryz.prog.keyType 333=true:=by kernel_rfl
theorem vC:Tryz.prog.keyType 305=true:=by kernel_rfl
theorem oC:Tryz.prog.cellsOf 333=2:=by kernel_rfl
theorem mS:Tryz.prog.cellsOf 305=2:=by kernel_rfl
theorem qN:Tryz.prog.cellsOf 3=1:=by kernel_rfl
theorem Dr:Tryz.prog.cellsOf 5=1:=by kernel_rfl
theorem AA(m:Nat)(a:Int)(h:(Lit.int .i64 a).wf=true):Tryz.prog.keyLits (m+1) 3 [.int .i64 a]=some [.int .i64 a]:=by unfold Program.keyLits;simp[Tryz.underlying3,h]
theorem O8(m:Nat)(a:Int)(h:(Lit.int .u8 a).wf=true):Tryz.prog.keyLits (m+1) 5 [.int .u8 a]=some [.int .u8 a]:=by unfold Program.keyLits;simp[Tryz.underlying5,h]
theorem Ld(a b:Nat)(ha:a<=1000000000000)(hb:b<=1000000000000):∃kl,keyOf Tryz.prog 333 (.agg #[.int .i64 a,.int .i64 b])=some kl:=by
 have wa:=kV a ha;have wb:=kV b hb;obtain ⟨m,hm⟩:=tG;refine ⟨.string (keyBytes [.int .i64 a,.int .i64 b]),?_⟩;have h1:Tryz.prog.keyLits (m+1+1) 333 [.int .i64 a,.int .i64 b]=some [.int .i64 a,.int .i64 b]:=by unfold Program.keyLits;simp[Tryz.underlying333,oC,qN,AA,wa,wb]
 simp only[keyOf,Tryz.underlying333,yi,hm];simp[Value.formed,oC,h1,Value.cells,Tryz.underlying333]
theorem wf_u8(b:UInt8):(Lit.int .u8 (b.toNat:Int)).wf=true:=by have:=b.toNat_lt;have h1:IntKind.u8.min=0:=rfl;have h2:IntKind.u8.max=255:=rfl;simp only[Lit.wf,h1,h2,Bool.and_eq_true,decide_eq_true_eq];omega
theorem Hg(a:Nat)(b:UInt8)(ha:a<=1000000000000):∃kl,keyOf Tryz.prog 305 (.agg #[.int .i64 a,.int .u8 b.toNat])=some kl:=by
 have wa:=kV a ha;have wb:=wf_u8 b;obtain ⟨m,hm⟩:=tG;refine ⟨.string (keyBytes [.int .i64 a,.int .u8 b.toNat]),?_⟩;have h1:Tryz.prog.keyLits (m+1+1) 305 [.int .i64 a,.int .u8 b.toNat]=some [.int .i64 a,.int .u8 b.toNat]:=by unfold Program.keyLits;simp[Tryz.underlying305,mS,qN,Dr,AA,O8,wa,wb]
 simp only[keyOf,Tryz.underlying305,vC,hm];simp[Value.formed,mS,h1,Value.cells,Tryz.underlying305]
set_option maxRecDepth 100000 in
theorem Le{b:Value}(ha:keyOf Tryz.prog 333 a=some l)(hb:keyOf Tryz.prog 333 b=some l):a=b:=keyOf_inj_deep Dq wJ ha hb
set_option maxRecDepth 100000 in
theorem Hh{b:Value}(ha:keyOf Tryz.prog 305 a=some l)(hb:keyOf Tryz.prog 305 b=some l):a=b:=keyOf_inj_deep Az tF ha hb
structure kW(κ:Type) where
 K:TypeId
 kv:κ->Value
 ok:κ->Prop
 keyed:Keyed Tryz.prog K
 key:∀x,ok x->∃kl,keyOf Tryz.prog K (kv x)=some kl
 inj:∀x y kl,ok x->ok y->keyOf Tryz.prog K (kv x)=some kl->keyOf Tryz.prog K (kv y)=some kl->x=y
def pairT:kW (Nat×Nat) where
 K:=333
 kv x:=.agg #[.int .i64 x.1,.int .i64 x.2]
 ok x:=x.1<=1000000000000/\x.2<=1000000000000
 keyed:=Lc
 key x h:=Ld x.1 x.2 h.1 h.2
 inj x y kl _ _ h1 h2:=by
  have:=Le h1 h2
  simp at this
  exact Prod.ext (by omega) (by omega)
def ie:kW (Nat×UInt8) where
 K:=305
 kv x:=.agg #[.int .i64 x.1,.int .u8 x.2.toNat]
 ok x:=x.1<=1000000000000
 keyed:=He
 key x h:=Hg x.1 x.2 h
 inj x y kl _ _ h1 h2:=by
  have:=Hh h1 h2
  simp at this
  exact Prod.ext (by omega) (UInt8.toNat_inj.1 (by omega))
def mE:kW Nat where
 K:=3
 kv x:=.int .i64 x
 ok x:=x<=1000000000000
 keyed:=O7
 key x h:=⟨_,keyOf_int_mk Tryz.underlying3 (kV x h)⟩
 inj x y kl hx hy h1 h2:=by
  rw[keyOf_int_mk Tryz.underlying3 (kV x hx)]at h1
  rw[keyOf_int_mk Tryz.underlying3 (kV y hy)]at h2
  rw[<-h1]at h2
  simp at h2
  omega
def bO{κ:Type}(T:kW κ)(E:TypeId)(q:IntKind)(w:World)(b n:Nat)(f:κ->Option Int):Prop:=
 ∃D:DataW Unit,w.ownsMap Tryz.prog T.K (plainElem Tryz.prog E) b n D /\
  ∀x kl,T.ok x->keyOf Tryz.prog T.K (T.kv x)=some kl->Maps.has D kl=(f x).isSome/\D.atKey kl (.lit (.int q 0))=.lit (.int q ((f x).getD 0))
theorem bO.made(T:kW κ)(E:TypeId)(q:IntKind)(w:World):bO T E q (w.alloc (.map #[] 0)) w.heap.size 0 (λ_=>none):=
 ⟨.map [],World.ownsMap_made w _ _ _,λ_ _ _ _=>⟨rfl,rfl⟩⟩
theorem bO.lt{T:kW κ}{f:κ->Option Int}(h:bO T E q w b n f):b<w.heap.size:=by obtain ⟨D,h,_⟩:=h;exact h.lt
theorem bO.keep{T:kW κ}{w':World}{f:κ->Option Int}(h:bO T E q w b n f)(hb:w'.heap[b]?=w.heap[b]?):bO T E q w' b n f:=by obtain ⟨D,⟨es,clock,h1,h2⟩,h3⟩:=h;exact ⟨D,⟨es,clock,hb.trans h1,h2⟩,h3⟩
theorem bO.obj{T:kW κ}{f:κ->Option Int}(h:bO T E q w b n f):∃es clock,w.heap[b]?=some (.map es clock):=by obtain ⟨D,⟨es,clock,h1,h2⟩,h3⟩:=h;exact ⟨es,clock,h1⟩
theorem bO.look{T:kW κ}{f:κ->Option Int}(h:bO T E q w b n f)(ht:Tryz.prog.underlying t=some (.map T.K E))(he:Tryz.prog.underlying E=some (.int q))
  (hz:∀w,(zeroValue E).run Tryz.prog w=.ok (.int q 0) w) (x:κ) (hx:T.ok x):
  (Instr.lookup t (.map (some b)) (T.kv x) true).run Tryz.prog w=.ok (.tuple #[.int q ((f x).getD 0),.bool (f x).isSome]) w:=by
 obtain ⟨D,h1,h2⟩:=h;obtain ⟨kl,kX⟩:=T.key x hx;have hw0:(Lit.int q 0).wf=true:=by cases q<;>decide
 obtain ⟨v,ps,hrun,hv⟩:=h1.look_ok T.keyed ht (hz w) (plainElem_int he hw0) kX;obtain ⟨c,rfl,hc,hwc⟩:=plainElem_int_inv he hv;simp only[Prod.mk.injEq]at hc;obtain ⟨h3,h4⟩:=h2 x kl hx kX;rw[h4]at hc;simp at hc;rw[hrun,h3,hc.1]
theorem bO.store [DecidableEq κ] {T:kW κ}{f:κ->Option Int}(h:bO T E q w b n f)(ht:Tryz.prog.underlying t=some (.map T.K E))(he:Tryz.prog.underlying E=some (.int q))
  (hn:n<1000000000000) (x:κ) (hx:T.ok x) (c:Int) (hc:(Lit.int q c).wf=true):
  ∃w',(Instr.mapUpdate t (.map (some b)) (T.kv x) (.int q c)).run Tryz.prog w=.ok () w'/\bO T E q w' b (n+1) (λy=>if y=x then some c else f y)/\w.grownBy w' (some b):=by
 obtain ⟨D,h1,h2⟩:=h;obtain ⟨kl,kX⟩:=T.key x hx;obtain ⟨w',hrun,r1,r2⟩:=h1.update T.keyed ht (by unfold maxLen;omega) kX (plainElem_int he hc);refine ⟨w',hrun,⟨_,r1,?_⟩,r2⟩;have hD:IsMap D:=h1.isMap;have hk:WideAt.IsKeyLit kl:=T.keyed.key kX;intro y ky hy N7;by_cases e:y=x
 ·subst e;rw[kX]at N7;cases N7;simp[has_put_same hD hk,atKey_put_same hD hk]
 ·have hne:ky≠kl:=λe'=>e (T.inj y x kl hy hx (e'▸N7) kX)
  rw[has_put_other hne,atKey_put_other hne];simpa [e] using h2 y ky hy N7
end Go.Proofs.YtgncgdkpkkdaeaaGreatDoor
namespace aQ
variable {c i k n0:Nat} {α β:Type}
inductive F2{α β:Type}(R:α->β->Prop):List α->List β->Prop where
 | nil:F2 R [] []
 | cons {a:α} {b:β} {l:List α} {m:List β}:R a b->F2 R l m->F2 R (a::l) (b::m)
theorem F2.mono{R R':α->β->Prop}(h:∀a b,R a b->R' a b){l:List α}{m:List β}(f:F2 R l m):F2 R' l m:=by
 induction f with
 | nil=>exact .nil
 | cons h1 _ ih=>exact .cons (h _ _ h1) ih
theorem F2.length{R:α->β->Prop}{l:List α}{m:List β}(f:F2 R l m):l.length=m.length:=by
 induction f with
 | nil=>rfl
 | cons _ _ ih=>simp[ih]
theorem F2.append{R:α->β->Prop}{l l':List α}{m m':List β}(f:F2 R l m)(g:F2 R l' m'):F2 R (l++l') (m++m'):=by
 induction f with
 | nil=>exact g
 | cons h _ ih=>exact .cons h ih
theorem F2.get{R:α->β->Prop}{l:List α}{m:List β}(f:F2 R l m){b:β}(h:m[i]?=some b):∃a,l[i]?=some a/\R a b:=by
 induction f generalizing i with
 | nil=>simp at h
 | cons h1 _ ih=>
  cases i with
  | zero=>simp at h;subst h;exact ⟨_,rfl,h1⟩
  | succ i=>simp at h ⊢;exact ih h
theorem F2.snoc{R:α->β->Prop}{l:List α}{m:List β}{a:α}{b:β}(f:F2 R l m)(h:R a b):F2 R (l++[a]) (m++[b]):=f.append (.cons h .nil)
def dr:aM->List D
 | .cW=>[]
 | .cV _ _=>[]
 | .seq _ x y=>dr x++(allA x).map (cB · y)++dr y
 | .alt _ x y=>dr x++dr y
 | .star i x=>dr x++(allA x).map (cB · (.star i x))
 | .plus _ j x=>dr x++(allA x).map (cB · (.star j x))
 | .eG _ x=>dr x
def ea:D->List D
 | .base a=>dr a
 | .snoc d a=>ea d++(pS d).map (cB · a)++dr a
def aM.sz:aM->Nat
 | .cW=>1
 | .cV _ _=>1
 | .seq _ a b=>a.sz+b.sz+1
 | .alt _ a b=>a.sz+b.sz+1
 | .star _ a=>a.sz+1
 | .plus _ _ a=>a.sz+2
 | .eG _ a=>a.sz+1
def D.sz:D->Nat
 | .base a=>a.sz
 | .snoc d a=>d.sz+a.sz
theorem aM.p4(a:aM):1<=a.sz:=by cases a<;>simp[aM.sz]
theorem yj(d:D)(a:aM):(cB d a).sz<=d.sz+a.sz:=by
 unfold cB;split
 ·simp[D.sz]
 ·simp[D.sz]
theorem FE{a b:Nat}(h:a+b<=c):a*a+b*b<=c*c:=by
 have h1:(a+b)*(a+b)<=c*c:=Nat.mul_le_mul h h;have h2:(a+b)*(a+b)=a*a+b*b+2*(a*b):=by rw[Nat.add_mul,Nat.mul_add,Nat.mul_add,Nat.mul_comm b a];omega
 omega
theorem kY{a:Nat}(h:a+1<=c):a*a+2*a+1<=c*c:=by
 have h1:(a+1)*(a+1)<=c*c:=Nat.mul_le_mul h h;have h2:(a+1)*(a+1)=a*a+2*a+1:=by rw[Nat.add_mul,Nat.mul_add,Nat.mul_one,Nat.one_mul];omega
 omega
theorem FH(a:aM):∀d∈allA a,d.sz<=a.sz*a.sz:=by
 induction a with
 | cW=>simp[allA]
 | cV i c=>intro d hd;simp only[allA,List.mem_singleton]at hd;subst hd;simp[D.sz,aM.sz]
 | seq i x y sX sY=>
  intro d hd;simp only[allA,List.mem_append,List.mem_map]at hd;have h1:=FE (a:=x.sz) (b:=y.sz+1) (c:=x.sz+y.sz+1) (by omega);have h2:=kY (a:=y.sz) (c:=y.sz+1) (by omega);have hx:x.sz<=x.sz*x.sz:=Nat.le_mul_of_pos_left _ x.p4;simp only[aM.sz];rcases hd with ⟨d',h,rfl⟩|h
  ·have h3:=yj d' y;have h4:=sX _ h;omega
  ·have h4:=sY _ h;omega
 | alt i x y sX sY=>
  intro d hd;simp only[allA,List.mem_append]at hd;have h1:=FE (a:=x.sz) (b:=y.sz) (c:=x.sz+y.sz+1) (by omega);simp only[aM.sz];rcases hd with h|h
  ·have h4:=sX _ h;omega
  ·have h4:=sY _ h;omega
 | star i x ih=>
  intro d hd;simp only[allA,List.mem_map]at hd;obtain ⟨d',h,rfl⟩:=hd;have h3:=yj d' (.star i x);have h4:=ih _ h;have h2:=kY (a:=x.sz) (c:=x.sz+1) (by omega);have:=x.p4;simp only[aM.sz]at h3 ⊢;omega
 | plus i j x ih=>
  intro d hd;simp only[allA,List.mem_map]at hd;obtain ⟨d',h,rfl⟩:=hd;have h3:=yj d' (.star j x);have h4:=ih _ h;have h2:=kY (a:=x.sz) (c:=x.sz+2) (by omega);have:=x.p4;simp only[aM.sz]at h3 ⊢;omega
 | eG i x ih=>
  intro d hd;have h4:=ih _ hd;have h2:=kY (a:=x.sz) (c:=x.sz+1) (by omega);simp only[aM.sz];omega
theorem jk(a:aM):a.leaves<=a.sz:=by induction a<;>simp_all [aM.leaves,aM.sz]<;>omega
theorem AB(d:D):(pS d).length<=d.sz:=by
 induction d with
 | base a=>simp only[pS,eU,D.sz];exact jk a
 | snoc d a ih=>simp only[pS,List.length_append,List.length_map,eU,D.sz];have:=jk a;omega
theorem mU(a:aM):(dr a).length<=a.sz*a.sz:=by
 induction a with
 | cW=>simp[dr]
 | cV i c=>simp[dr]
 | seq i x y sX sY=>
  have h1:=FE (a:=x.sz+1) (b:=y.sz) (c:=x.sz+y.sz+1) (by omega);have h2:=kY (a:=x.sz) (c:=x.sz+1) (by omega);have h3:=jk x;simp only[dr,List.length_append,List.length_map,eU,aM.sz];omega
 | alt i x y sX sY=>
  have h1:=FE (a:=x.sz) (b:=y.sz) (c:=x.sz+y.sz+1) (by omega);simp only[dr,List.length_append,aM.sz];omega
 | star i x ih=>
  have h2:=kY (a:=x.sz) (c:=x.sz+1) (by omega);have h3:=jk x;simp only[dr,List.length_append,List.length_map,eU,aM.sz];omega
 | plus i j x ih=>
  have h2:=kY (a:=x.sz) (c:=x.sz+2) (by omega);have h3:=jk x;simp only[dr,List.length_append,List.length_map,eU,aM.sz];omega
 | eG i x ih=>
  have h2:=kY (a:=x.sz) (c:=x.sz+1) (by omega);simp only[dr,aM.sz];omega
theorem D.p4(d:D):1<=d.sz:=by
 induction d with
 | base a=>exact a.p4
 | snoc d a ih=>simp only[D.sz];omega
theorem vD(d:D):(ea d).length<=d.sz*d.sz:=by
 induction d with
 | base a=>exact mU a
 | snoc d a ih=>
  have h1:=mU a;have h2:=AB d;have h3:d.sz*d.sz+a.sz*a.sz+2*(d.sz*a.sz)<=(d.sz+a.sz)*(d.sz+a.sz):=by rw[Nat.add_mul,Nat.mul_add,Nat.mul_add,Nat.mul_comm a.sz d.sz];omega
  have h4:d.sz<=d.sz*a.sz:=Nat.le_mul_of_pos_right _ a.p4;simp only[ea,List.length_append,List.length_map,D.sz];omega
def fY(a:aM):List D:=(met a).flatMap ea
theorem fy{α β:Type}(f:α->List β)(n:Nat):∀l:List α,(∀x∈l,(f x).length<=n)->(l.flatMap f).length<=l.length*n
 | [],_=>by simp
 | x::l,h=>by
  have h1:=h x (by simp);have h2:=fy f n l (λy hy=>h y (by simp[hy]));simp only[List.flatMap_cons,List.length_append,List.length_cons];have h3:(l.length+1)*n=l.length*n+n:=by rw[Nat.add_mul,Nat.one_mul]
  omega
theorem tH(a:aM)(h:a.sz<=200)(hl:a.leaves<=60):(fY a).length<=100000000000:=by
 have h1:=fy ea (40000*40000) (met a) (λd hd=>by
  refine Nat.le_trans (vD d) ?_
  have hs:d.sz<=40000:=by
   have aak:a.sz*a.sz<=200*200:=Nat.mul_le_mul h h;simp only[met,List.mem_cons]at hd;rcases hd with rfl|hd
   ·simp only[D.sz];omega
   ·have:=FH a d hd;omega
  exact Nat.mul_le_mul hs hs)
 have h2:(met a).length<=61:=by rw[sZ];omega
 have h3:(met a).length*(40000*40000)<=61*(40000*40000):=Nat.mul_le_mul_right _ h2;unfold fY;omega
variable {a:aM} {d:D}
theorem vE(h:d∈met a):∀t∈ea d,t∈fY a:=λ_ ht=>List.mem_flatMap.2 ⟨d,h,ht⟩
def aM.lt(n0:Nat):aM->Prop
 | .cW=>0<n0
 | .cV i _=>i<n0
 | .seq i a b=>i<n0/\a.lt n0/\b.lt n0
 | .alt i a b=>i<n0/\a.lt n0/\b.lt n0
 | .star i a=>i<n0/\a.lt n0
 | .plus i j a=>i<n0/\j<n0/\a.lt n0
 | .eG i a=>i<n0/\a.lt n0
theorem aM.lt.AD(h:a.lt n0):a.ix<n0:=by
 cases a with
 | cW=>exact h
 | cV i c=>exact h
 | seq i a b=>exact h.1
 | alt i a b=>exact h.1
 | star i a=>exact h.1
 | plus i j a=>exact h.1
 | eG i a=>exact h.1
theorem dH.SZ{gT:α->ej->Prop}{ns:List (Nd α)}(h:dH gT ns a):a.lt ns.length:=by
 have hl:∀{i:Nat} {nd:Nd α},ns[i]?=some nd->i<ns.length:=λ{i nd} h=>by
  rcases Nat.lt_or_ge i ns.length with h' | h'
  ·exact h'
  ·rw[List.getElem?_eq_none h']at h;cases h
 induction a with
 | cW=>obtain ⟨_,h⟩:=h;exact hl h
 | cV i c=>obtain ⟨_,_,h,_⟩:=h;exact hl h
 | seq i a b kr kL=>obtain ⟨_,⟨_,h⟩,h1,h2⟩:=h;exact ⟨hl h,kr h1,kL h2⟩
 | alt i a b kr kL=>obtain ⟨_,⟨_,h⟩,h1,h2⟩:=h;exact ⟨hl h,kr h1,kL h2⟩
 | star i a ih=>obtain ⟨_,⟨_,h⟩,h1⟩:=h;exact ⟨hl h,ih h1⟩
 | plus i j a ih=>obtain ⟨_,_,⟨_,h⟩,⟨_,h'⟩,h1⟩:=h;exact ⟨hl h,hl h',ih h1⟩
 | eG i a ih=>obtain ⟨_,⟨_,h⟩,h1⟩:=h;exact ⟨hl h,ih h1⟩
def aS{α:Type}(gT:α->ej->Prop)(n0:Nat)(ns:List (Nd α)):D->Nat->Prop
 | .base a,k=>k=a.ix/\a.lt n0/\dH gT ns a
 | .snoc d a,k=>n0<=k/\a.lt n0/\dH gT ns a/\∃m,m≠0/\aS gT n0 ns d m/\∃h,ns[k]?=some ⟨2,h,m,a.ix,d.re.aj&&a.re.aj⟩
theorem aS.mono{gT KX:α->ej->Prop}{ns Ad:List (Nd α)}(hc:∀h c,gT h c->KX h c)(hn:∀(i:Nat) nd,ns[i]?=some nd->Ad[i]?=some nd)(h:aS gT n0 ns d k):aS KX n0 Ad d k:=by
 induction d generalizing k with
 | base a=>obtain ⟨h1,h2,h3⟩:=h;exact ⟨h1,h2,h3.mono hc hn⟩
 | snoc d a ih=>
  obtain ⟨h1,h2,h3,m,h4,h5,x,h6⟩:=h;exact ⟨h1,h2,h3.mono hc hn,m,h4,ih h5,x,hn _ _ h6⟩
theorem bI{ns ms:List α}{x:α}(h:ns[i]?=some x):(ns++ms)[i]?=some x:=by
 rcases Nat.lt_or_ge i ns.length with h' | h'
 ·rw[List.getElem?_append_left h'];exact h
 ·rw[List.getElem?_eq_none h']at h;cases h
theorem aS.append{gT:α->ej->Prop}{ns ms:List (Nd α)}(h:aS gT n0 ns d k):aS gT n0 (ns++ms) d k:=
 h.mono (λ_ _ h=>h) (λ_ _ h=>bI h)
theorem aS.empty{gT:α->ej->Prop}{ns:List (Nd α)}(h:aS gT n0 ns d k):∃nd,ns[k]?=some nd/\nd.empty=d.re.aj:=by
 cases d with
 | base a=>obtain ⟨rfl,_,h⟩:=h;exact h.empty
 | snoc d a=>obtain ⟨_,_,_,m,_,_,x,h⟩:=h;exact ⟨_,h,rfl⟩
theorem aS.lt{gT:α->ej->Prop}{ns:List (Nd α)}(h:aS gT n0 ns d k):k<ns.length:=by
 obtain ⟨nd,h,_⟩:=h.empty;rcases Nat.lt_or_ge k ns.length with h' | h'
 ·exact h'
 ·rw[List.getElem?_eq_none h']at h;cases h
theorem dH.zero{gT:α->ej->Prop}{ns:List (Nd α)}(h:dH gT ns a)(h0:a.ix=0):a=.cW:=by
 cases a with
 | cW=>rfl
 | cV i c=>exact absurd h0 h.1
 | seq i a b=>exact absurd h0 h.1
 | alt i a b=>exact absurd h0 h.1
 | star i a=>exact absurd h0 h.1
 | plus i j a=>exact absurd h0 h.1
 | eG i a=>exact absurd h0 h.1
theorem aS.zero{gT:α->ej->Prop}{ns:List (Nd α)}(hn:0<n0)(h:aS gT n0 ns d 0):d=.base .cW:=by
 cases d with
 | base a=>obtain ⟨h1,_,h⟩:=h;rw[h.zero h1.symm]
 | snoc d a=>obtain ⟨h1,_⟩:=h;omega
theorem aS.pos{gT:α->ej->Prop}{ns:List (Nd α)}(h:aS gT n0 ns d k)(hk:k≠0)(a:aM):cB d a=.snoc d a:=by
 unfold cB;split
 ·obtain ⟨h1,_⟩:=h;exact absurd h1 hk
 ·rfl
def Ws{α:Type}(n0:Nat)(ns:List (Nd α)):Prop:=∀(j k:Nat) nd Wt,n0<=j->n0<=k->ns[j]?=some nd->ns[k]?=some Wt->nd.left=Wt.left->nd.right=Wt.right->j=k
theorem aS.func{gT:α->ej->Prop}{ns:List (Nd α)}(hu:Ws n0 ns){k':Nat}(h:aS gT n0 ns d k)(h':aS gT n0 ns d k'):k=k':=by
 induction d generalizing k k' with
 | base a=>rw[h.1,h'.1]
 | snoc d a ih=>
  obtain ⟨h1,_,_,m,_,h2,x,h3⟩:=h;obtain ⟨U5,_,_,m',_,U6,x',QO⟩:=h';exact hu k k' _ _ h1 U5 h3 QO (ih h2 U6) rfl
theorem Lf [DecidableEq β] {R:α->β->Prop}(hf:∀a b b',R a b->R a b'->b=b'){l:List β}{P:List α}(hn:l.Nodup)(h:∀b∈l,∃a∈P,R a b):l.length<=P.length:=by
 classical
 let f:α->Option β:=λa=>if h:∃b,R a b then some h.choose else none
 have h1:∀b∈l,b∈P.filterMap f:=by intro b hb;obtain ⟨a,ha,hr⟩:=h b hb;refine List.mem_filterMap.2 ⟨a,ha,?_⟩;have he:∃b,R a b:=⟨b,hr⟩;simp only[f,dif_pos he];rw[hf a _ _ he.choose_spec hr]
 exact Nat.le_trans (ke hn h1) (List.length_filterMap_le f P)
theorem tI(b:UInt8)(a:aM):(jL b a).length<=a.sz:=by
 induction a with
 | cW=>simp[jL,aM.sz]
 | cV i c=>simp only[jL];split<;>simp[aM.sz]
 | seq i x y sX sY=>
  simp only[jL,List.length_append,List.length_map,aM.sz];split<;>(try simp only[List.length_nil])<;>omega
 | alt i x y sX sY=>simp only[jL,List.length_append,aM.sz];omega
 | star i x ih=>simp only[jL,List.length_map,aM.sz];omega
 | plus i j x ih=>simp only[jL,List.length_map,aM.sz];omega
 | eG i x ih=>simp only[jL,aM.sz];omega
theorem eW(b:UInt8)(d:D):(pd b d).length<=d.sz:=by
 induction d with
 | base a=>exact tI b a
 | snoc d a ih=>
  have:=tI b a;simp only[pd,List.length_append,List.length_map,D.sz];split<;>(try simp only[List.length_nil])<;>omega
end aQ
namespace Go.Proofs.YtgncgdkpkkdaeaaGreatDoor
open Go.RowKit aQ Go.Maps
variable {w:World}
theorem Below.drewN'{B:Nat}{a:World}(h:Below B a w)(n:Nat):Below B a (w.drewN n):=⟨h.os,h.tape,h.output,h.size,h.block⟩
theorem cH{P:Program}{ops:Array Oper}{o:Oper}{a:Act}{K:Act->World->Prop}{Q:Exit->Act->World->Prop}{E:Prop}
  (hg:o.guard=none) (s x:Operand) (t:TypeId) (hop:o.op=Op.call { callee:=Callee.builtin Builtin.append,args:=#[s,x],argTypes:=#[t,t] })
  (base:Nat) (e:TypeId) (i:TypeInfo) (z:Value) (size bytes:Nat) (h1:P.underlying t=some (.slice e)) (h2:P.info? e=some i) (h3:i.zero=some z) (h4:i.size=size) (h5:i.bytes=bytes) (h6:z.cells.size=size) (h7:0<size)
  (v:Value) (n:Nat) (xs:List Value) (hs:a.eval s=v) (hown:w.ownsRow base e size v n xs)
  (ad:Addr) (m c:Nat) (news:List Value) (hx:a.eval x=.slice (some ad) m c) (hn:news.length=m*size) (hc:∀j u,news[j]?=some u->w.cell? (ad.add j)=some u) (h1c:∀u∈news,u.oneCell'=true)
  (b1:n+m<=maxLen) (b2:(n+m)*bytes<=140737488355328) (hb:base<=w.heap.size)
  (hK:∀v' w',w'.ownsRow base e size v' (n+m) (xs++news)->w.grownBy w' v.ownBlock->(v'.ownBlock=v.ownBlock∨v'.ownBlock=some w.heap.size)->K (a.put o.dst v') w'):
  if Region.wanted o (yielded ops a.tmps)=true then Oper.wp P o a w K Q else E:=by
 have hw:Region.wanted o (yielded ops a.tmps)=true:=by simp[Region.wanted,hg]
 rw[if_pos hw];obtain ⟨v',w',hr,r2,r3,r4,r5⟩:=run_append_own_at (P:=P) w base t o.type e i z size bytes h1 h2 h3 h4 h5 h6 h7 v n xs hown ad m c news hn hc h1c b1 b2 hb;unfold Oper.wp execOp;simp only[hop,resolve,invoke,builtin,Sem.run_bind,Sem.run_pure,Result.andThen_ok,List.map_toArray,List.map_cons,List.map_nil,hs,hx,hr];exact hK v' w' r2 r3 r5
end Go.Proofs.YtgncgdkpkkdaeaaGreatDoor
namespace aQ
def Re.sz:Re->Nat
 | .cW=>1
 | .cV _=>1
 | .seq a b=>a.sz+b.sz+1
 | .alt a b=>a.sz+b.sz+1
 | .star a=>a.sz+1
 | .plus a=>a.sz+2
 | .eG a=>a.sz+1
def Re.leaves:Re->Nat
 | .cW=>0
 | .cV _=>1
 | .seq a b=>a.leaves+b.leaves
 | .alt a b=>a.leaves+b.leaves
 | .star a=>a.leaves
 | .plus a=>a.leaves
 | .eG a=>a.leaves
theorem aM.Rh(a:aM):a.re.sz=a.sz:=by induction a<;>simp_all [aM.re,Re.sz,aM.sz]
theorem aM.wK(a:aM):a.re.leaves=a.leaves:=by induction a<;>simp_all [aM.re,Re.leaves,aM.leaves]
def Ri:List Re->Nat
 | []=>0
 | r::rs=>r.sz+1+Ri rs
def Rj:List Re->Nat
 | []=>0
 | r::rs=>r.leaves+Rj rs
theorem tJ:∀rs:List Re,(bn rs).sz<=Ri rs+1
 | []=>by simp[bn,Re.sz,Ri]
 | [r]=>by simp only[bn,Ri];omega
 | r::q::rs=>by have:=tJ (q::rs);simp only[bn,Re.sz,Ri]at *;omega
theorem p5:∀rs:List Re,(bn rs).leaves<=Rj rs
 | []=>by simp[bn,Re.leaves,Rj]
 | [r]=>by simp[bn,Rj]
 | r::q::rs=>by have:=p5 (q::rs);simp only[bn,Re.leaves,Rj]at *;omega
mutual
theorem aT.size{s:List UInt8}{o:Option (Re×List UInt8)}(h:aT s o):∀r s',o=some (r,s')->r.sz+1+3*s'.length<=3*s.length/\r.leaves+s'.length<=s.length:=by
 match h with
 | .paren k=>intro r s' e;cases e;have:=bc.size k _ _ rfl;simp only[List.length_cons]at *;omega
 | .ft _=>intro r s' e;cases e
 | .eV _ _=>intro r s' e;cases e
 | .dot=>intro r s' e;cases e;simp[Re.sz,Re.leaves];omega
 | .cV k=>
  rename_i s o;intro r s' e
  cases o with
  | none=>cases e
  | some p=>
   simp only[Option.map_some,Option.some.injEq,Prod.mk.injEq]at e;obtain ⟨rfl,rfl⟩:=e;have:=er.len (c:=p.1) (s':=p.2) k;simp only[Re.sz,Re.leaves,List.length_cons];omega
 | .one _ _ _=>
  intro r s' e
  cases hp:dv s with
  | none=>rw[hp]at e;cases e
  | some p=>
   rw[hp]at e;simp only[Option.map_some,Option.some.injEq,Prod.mk.injEq]at e;obtain ⟨rfl,rfl⟩:=e;have:=oz (b:=p.1) (s':=p.2) hp;simp only[Re.sz,Re.leaves];omega
 termination_by structural h
theorem cU.size{s:List UInt8}{o:Option (Re×List UInt8)}(h:cU s o):∀r s',o=some (r,s')->r.sz+1+3*s'.length<=3*s.length/\r.leaves+s'.length<=s.length:=by
 match h with
 | .bad _=>intro r s' e;cases e
 | .star k=>intro r s' e;cases e;have:=aT.size k _ _ rfl;simp only[List.length_cons,Re.sz,Re.leaves]at *;omega
 | .plus k=>intro r s' e;cases e;have:=aT.size k _ _ rfl;simp only[List.length_cons,Re.sz,Re.leaves]at *;omega
 | .eG k=>intro r s' e;cases e;have:=aT.size k _ _ rfl;simp only[List.length_cons,Re.sz,Re.leaves]at *;omega
 | .plain k _ _ _=>intro r s' e;cases e;exact aT.size k _ _ rfl
 termination_by structural h
theorem cL.size{s:List UInt8}{o:Option (List Re×List UInt8)}(h:cL s o):∀rs s',o=some (rs,s')->Ri rs+3*s'.length<=3*s.length/\Rj rs+s'.length<=s.length:=by
 match h with
 | .stop _=>intro r s' e;cases e;simp[Ri,Rj]
 | .bad _ _=>intro r s' e;cases e
 | .more _ k l=>intro r s' e;cases e;have:=cU.size k _ _ rfl;have:=cL.size l _ _ rfl;simp only[Ri,Rj]at *;omega
 | .iL _ _ _=>intro r s' e;cases e
 termination_by structural h
theorem gH.size{k:Re}{s:List UInt8}{o:Option (Re×List UInt8)}(h:gH k s o):∀r s',o=some (r,s')->r.sz+3*s'.length<=k.sz+3*s.length/\r.leaves+s'.length<=k.leaves+s.length:=by
 match h with
 | .stop _=>intro r s' e;cases e;simp
 | .bad _=>intro r s' e;cases e
 | .more (rs:=rs) c m=>
  intro r s' e;have h1:=cL.size c _ _ rfl;have h2:=gH.size m _ _ e;have h3:=tJ rs;have h4:=p5 rs;simp only[Re.sz,Re.leaves,List.length_cons]at *;omega
 termination_by structural h
theorem bc.size{s:List UInt8}{o:Option (Re×List UInt8)}(h:bc s o):∀r s',o=some (r,s')->r.sz+3*s'.length<=3*s.length+1/\r.leaves+s'.length<=s.length:=by
 match h with
 | .bad _=>intro r s' e;cases e
 | .one (rs:=rs) c m=>
  intro r s' e;have h1:=cL.size c _ _ rfl;have h2:=gH.size m _ _ e;have h3:=tJ rs;have h4:=p5 rs;omega
 termination_by structural h
end
def aM.tK:aM->aM
 | .cW=>.cW
 | .cV i c=>.cV i c
 | .seq i a b=>.seq i b.tK a.tK
 | .alt i a b=>.alt i a.tK b.tK
 | .star i a=>.star i a.tK
 | .plus i j a=>.plus i j a.tK
 | .eG i a=>.eG i a.tK
theorem aM.jU(a:aM):a.tK.ix=a.ix:=by cases a<;>rfl
theorem aM.p6(a:aM):a.tK.re=a.re.rev:=by induction a<;>simp_all [aM.tK,aM.re,Re.rev]
theorem aM.S0(a:aM):a.tK.sz=a.sz:=by induction a<;>simp_all [aM.tK,aM.sz];omega
theorem aM.Ds(a:aM):a.tK.leaves=a.leaves:=by induction a<;>simp_all [aM.tK,aM.leaves];omega
theorem dH.tK{α:Type}{gT:α->ej->Prop}{ns Ad:List (Nd α)}(h2:∀(i:Nat) h l r e,ns[i]?=some ⟨2,h,l,r,e⟩->Ad[i]?=some ⟨2,h,r,l,e⟩)(hn:∀(i:Nat) nd,nd.kind≠2->ns[i]?=some nd->Ad[i]?=some nd){a:aM}(h:dH gT ns a):dH gT Ad a.tK:=by
 induction a with
 | cW=>obtain ⟨x,h⟩:=h;exact ⟨x,hn _ _ (by simp) h⟩
 | cV i c=>obtain ⟨h0,x,h1,h2⟩:=h;exact ⟨h0,x,hn _ _ (by simp) h1,h2⟩
 | seq i a b kr kL=>
  obtain ⟨h0,⟨x,h1⟩,h3,h4⟩:=h;refine ⟨h0,⟨x,?_⟩,kL h4,kr h3⟩;rw[aM.jU,aM.jU,aM.p6,aM.p6,fq,fq,Bool.and_comm];exact h2 _ _ _ _ _ h1
 | alt i a b kr kL=>
  obtain ⟨h0,⟨x,h1⟩,h3,h4⟩:=h;refine ⟨h0,⟨x,?_⟩,kr h3,kL h4⟩;rw[aM.jU,aM.jU,aM.p6,aM.p6,fq,fq];exact hn _ _ (by simp) h1
 | star i a ih=>obtain ⟨h0,⟨x,h1⟩,h3⟩:=h;exact ⟨h0,⟨x,by rw[aM.jU];exact hn _ _ (by simp) h1⟩,ih h3⟩
 | plus i j a ih=>obtain ⟨h0,G3,⟨x,h1⟩,⟨y,h4⟩,h3⟩:=h;exact ⟨h0,G3,⟨x,by rw[aM.jU,aM.p6,fq];exact hn _ _ (by simp) h1⟩,⟨y,by rw[aM.jU];exact hn _ _ (by simp) h4⟩,ih h3⟩
 | eG i a ih=>obtain ⟨h0,⟨x,h1⟩,h3⟩:=h;exact ⟨h0,⟨x,by rw[aM.jU];exact hn _ _ (by simp) h1⟩,ih h3⟩
end aQ
