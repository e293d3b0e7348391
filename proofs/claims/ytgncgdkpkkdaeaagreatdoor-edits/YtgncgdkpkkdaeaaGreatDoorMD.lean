import Derived.Test.YtgncgdkpkkdaeaaGreatDoorMC
import Derived.Maps.OwnSet
import Derived.Maps.OwnOps
import Derived.DeepKeys4
import Derived.Test.YtgncgdkpkkdaeaaGreatDoorMA
import Derived.Maps.AppendAt
import Derived.Deep.AppendSrc
import Derived.Laws.EntriesVeiled
import Derived.WideLaws
namespace Go.Proofs.YtgncgdkpkkdaeaaGreatDoor
open Go.RowKit aO
variable {a:aN} {text:ByteArray} {ms ns:List (Nd Value)} {ps:List aN} {xs:List Nat} {s:List UInt8} {B P at' at_:Nat} {pv v:Value} {w w1 wr:World}
theorem _root_.aO.dR.drewN(h:dR (aF w) ns a)(n:Nat):dR (aF (w.drewN n)) ns a:=
 dR.world (w:=w) (w':=w.drewN n) (λ_ _ _ _ h=>h) h
def nM(s:List UInt8)(o:Option (Re×List UInt8)):Prop:=∃o',cU s o'/\o=o'.map λp=>(bu p.1,p.2)
def Qz(B P:Nat)(text:ByteArray)(at_:Nat)(ns:List (Nd Value))(w:World)(k:Nat)(pv:Value)(wr:World):Prop:=
 dX B w wr/\∃(at':Nat) (ms:List (Nd Value)) (ps:List aN),fI wr B P text at' (ns++ms)/\Ints wr w.heap.size pv (ps.map aN.ix)/\(∀a∈ps,dR (aF wr) (ns++ms) a) /\
  ms.length+ps.length+3*(rest text at').length<=3*(rest text at_).length/\k=(rest text at').length /\
  ∀o,cU (rest text at') o->cU (rest text at_) (o.map λp=>(ps.map aN.re++p.1,p.2))
theorem lf:(Tryz.prog.info? 3).map (λi=>(i.zero,i.size,i.bytes))=some (some (.int .i64 0),1,8):=by kernel_rfl
theorem BJ(d:UInt8)(s:List UInt8)(B P:Nat)(text:ByteArray)(at_:Nat)(ns:List (Nd Value))(w:World)(hP:fI w B P text at_ ns)(h:rest text at_=d::s)(f:Bool)(hf:(d==124||d==41)=f):
  Calls Tryz.prog 192 #[.pointer (some ⟨P,0,none⟩),.string ⟨#[124,41]⟩] w λe w'=>e=.returned (.bool f)/\∃n,w'=w.drewN n:=by
 refine (Bw ⟨#[124,41]⟩ B P text at_ ns w hP).mono ?_;rintro e w' ⟨rfl,n,rfl⟩;refine ⟨?_,n,rfl⟩;rw[h];simp only[List.head?_cons];rw[<-hf];simp only[List.contains_cons,List.contains_nil,Bool.or_false]
theorem Ints.drewN(h:Ints w B v xs)(n:Nat):Ints (w.drewN n) B v xs:=h
theorem I7{w0 w3:World}{o:Obj}(hP:fI w B P text at_ ns)(hI:Ints w w0.heap.size v xs)(hs:w0.heap.size<=w.heap.size)(hF:dX B w0 w)
  (hg:(w.alloc o).grownBy w3 v.ownBlock):fI w3 B P text at_ ns/\bH w w3/\dX B w0 w3:=by
 have hrow:∀k,some k=v.ownBlock->w0.heap.size<=k/\∃c,w.heap[k]?=some (.cells c 3 (0,0)):=by
  intro k hk;rcases hI.2 with ⟨rfl,_⟩|⟨g,cap,cur,rfl,hg,hh,_⟩
  ·cases hk
  ·cases hk;exact ⟨hg,cur,hh⟩
 have hold:∀(k:Nat) c t fz,t≠3->w.heap[k]?=some (.cells c t fz)->w3.heap[k]?=some (.cells c t fz):=by intro k c t fz ht hh;have hlt:=ae hh;rw[hg.block k (by simp;omega) (λe=>by obtain ⟨_,c',h'⟩:=hrow k e;rw[hh]at h';simp at h';exact ht h'.2.1)];exact heap_alloc_old hh
 refine ⟨?_,?_,?_⟩
 ·obtain ⟨⟨sv,h1,h2⟩,a,b,c⟩:=hP;refine ⟨⟨sv,hold _ _ _ _ (by decide) h1,h2.keep λk hk=>?_⟩,a,b,c⟩;obtain ⟨_,cur,hc⟩:=h2.block hk;rw[hc];exact hold _ _ _ _ (by decide) hc
 ·intro k c t ht hh;exact hold k c t _ (by rcases ht with rfl|rfl<;>decide) hh
 ·refine ⟨hg.os.trans hF.os,hg.tape.trans hF.tape,hg.output.trans hF.output,?_,λk hk hn=>?_⟩
  ·have:=hg.size;simp at this;omega
  ·rw[hg.block k (by simp;omega) (λe=>by have:=(hrow k e).1;omega),Below.heap_alloc _ _ _ (by omega)];exact hF.keep k hk hn
-- The way out of the loop,in a world in which the parts lie.
def zn(B P:Nat)(text:ByteArray)(at_:Nat)(ns:List (Nd Value))(w:World)(at':Nat)(ms:List (Nd Value))(ps:List aN)(pv:Value)(wr:World):Prop:=
 dX B w wr/\fI wr B P text at' (ns++ms)/\Ints wr w.heap.size pv (ps.map aN.ix)/\(∀a∈ps,dR (aF wr) (ns++ms) a) /\
  ms.length+ps.length+3*(rest text at').length<=3*(rest text at_).length/\cU (rest text at_) (some (ps.map aN.re,rest text at'))
theorem GU(hP:Pre B P text at_ ns w)(h:zn B P text at_ ns w at' ms ps pv wr)(nq:Nat):
  Calls Tryz.prog 194 #[.pointer (some ⟨P,0,none⟩),pv] (wr.drewN nq) (zl B P text at' (ns++ms) ps (wr.drewN nq)):=by
 obtain ⟨hF,h1,h2,h3,h4,h5⟩:=h;refine ux B w.heap.size P text at' (ns++ms) ps pv (wr.drewN nq) (h1.drewN nq) ?_ (h2.drewN nq) ?_ ?_
 ·have:=hP.bound;simp only[List.length_append];omega
 ·intro a ha;exact dR.world (w:=wr) (w':=wr.drewN nq) (λ_ _ _ _ h=>h) (h3 a ha)
 ·exact (hP.dh.append (ms:=ms)).world hF.stay
theorem GV{nq:Nat}{e:Ending}{w':World}
  (h:zn B P text at_ ns w at' ms ps pv wr) (hs:zl B P text at' (ns++ms) ps (wr.drewN nq) e w'):
  ∃i:Nat,e=.returned (.int .i64 i)/\gw nM 0 B P text at_ ns w (.returned (.tuple #[.int .i64 i,.bool true])) w':=by
 obtain ⟨hF,h1,h2,h3,h4,h5⟩:=h;obtain ⟨hF2,a,ks,rfl,Qy,iU,xN,hl⟩:=hs;refine ⟨a.ix,rfl,(hF.drewN nq).trans hF2,.inl ⟨a,at',ms++ks,rfl,⟨_,h5,by rw[Qy];rfl⟩,by rw[<-List.append_assoc];exact iU,by rw[<-List.append_assoc];exact xN,?_⟩⟩;simp only[List.length_append];omega
set_option maxHeartbeats 2000000 in
theorem uB(n:Nat)(hC:iq n)(B P:Nat)(text:ByteArray)(at_:Nat)(ns:List (Nd Value))(w:World)(hP:Pre B P text at_ ns w)(hn:(rest text at_).length<=n):
  Calls Tryz.prog 170 #[.pointer (some ⟨P,0,none⟩)] w (gw nM 0 B P text at_ ns w):=by
 have HP:=aa hP;have HN:=aa hn;clear hP hn;obtain ⟨i0,hi,hz0,hz1,hz2⟩:=info_parts lf;go_enter Tryz.func170,Tryz.ntmps170;go_wp2_with fail;go_loopg [4] (rest text at_).length (λk pv wr=>Qz B P text at_ ns w k pv wr)
 case atStart=>exact ⟨dX.refl _ _,at_,[],[],by simpa using HP.out.Yj,World.ownsRow_nil _ _ _ _,by simp,by simp,rfl,λo h=>by cases o with|none=>exact h|some p=>exact h⟩
 case round=>
  obtain ⟨hF,ko,ms,ps,nu,hI,hA,hb,hk,S2⟩:=hrel;have HK:=aa hk;have HF:=aa hF;have gH:=aa nu;have HI:=aa hI;have HA:=aa hA;have HB:=aa hb;have uC:=aa S2;have h0:=(HP.out.dh.append (ms:=ms)).world hF.stay;have H0:=aa h0;obtain ⟨c0,c1,f1⟩:=nu.cells;have hsm:=nu.small;have X9:=nu.le;clear hF nu hI hA hb S2 h0 hk
  cases hr:rest text ko with
  | nil=>
   have he:=lC X9 hr;have HO:=aa (show zn B P text at_ ns w ko ms ps u4 wr from ⟨HF.out,gH.out,HI.out,HA.out,HB.out,by have:=uC.out (some ([],rest text ko)) (.stop (.inl hr));simpa using this⟩);have hg:decide (ko<text.size)=false:=by simp;omega
   clear hr he;go_wp2_with fail;go_quiet (fail);go_wp2_with fail;refine (GU HP.out HO.out nq).mono ?_;rintro e w2 hs;obtain ⟨i,rfl,qB⟩:=GV HO.out hs;have DL:=aa qB;clear hs qB;go_wp2_with fail;go_ret2;exact DL.out
  | cons c s=>
   obtain ⟨hlt,hc,yX⟩:=dG hr;have hg:decide ((ko:Int)<(text.size:Int))=true:=by simpa using hlt
   have HR:=aa hr;clear hr yX hc
   cases hd:(c==124||c==41) with
   | true=>
    have HD:=aa hd
    have HO:=aa (show zn B P text at_ ns w ko ms ps u4 wr from ⟨HF.out,gH.out,HI.out,HA.out,HB.out,by
     have he:atEnd (rest text ko):=by
      rw[HR.out];simp only[Bool.or_eq_true,beq_iff_eq]at hd;rcases hd with rfl|rfl
      ·exact .inr (.inl rfl)
      ·exact .inr (.inr rfl)
     have:=uC.out (some ([],rest text ko)) (.stop he);simpa using this⟩)
    clear hd;go_wp2_with fail;go_quiet ((go_at_call 192;exact Calls.quiet_of (BJ c s B P text ko (ns++ms) _ (gH.out.drewN _) HR.out true HD.out)));go_wp2_with fail;refine (GU HP.out HO.out nq).mono ?_;rintro e w2 hs;obtain ⟨i,rfl,qB⟩:=GV HO.out hs;have DL:=aa qB;clear hs qB;go_wp2_with fail;go_ret2;exact DL.out
   | false=>
    have HD:=aa hd
    have hne:¬atEnd (rest text ko):=by
     rw[HR.out];simp only[Bool.or_eq_false_iff,beq_eq_false_iff_ne]at hd;rintro (h|h|h)
     ·cases h
     ·simp at h;exact hd.1 h
     ·simp at h;exact hd.2 h
    have QA:=aa hne;have Mp:=aa (show ∀nq,Pre B P text ko (ns++ms) (wr.drewN nq) from λnq=>⟨gH.out.drewN nq,H0.out.world (λ_ _ _ _ h=>h),by have:=HP.out.bound;have:=HB.out;simp only[List.length_append];omega⟩);have Ux:=aa (show (rest text ko).length<=n by have:=HN.out;have:=HB.out;omega);clear hd hne;go_wp2_with fail
    go_quiet ((go_at_call 192;exact Calls.quiet_of (BJ c s B P text ko (ns++ms) _ (gH.out.drewN _) HR.out false HD.out)));go_wp2_with fail;refine (I6 n hC B P text ko (ns++ms) (wr.drewN nq) (Mp.out nq) Ux.out).mono ?_;rintro e w2 ⟨hF2,⟨a,qy,ks,rfl,qB,iU,xN,hb2⟩|⟨i,rfl,qB⟩⟩
    ·have eG:=aa hF2;have DL:=aa qB;have mJ:=aa iU;have lF:=aa xN;have cL:=aa hb2;have zq:=aa (show Ints w2 w.heap.size u4 (ps.map aN.ix) from (HI.out.drewN nq).pfr hF2);have hpl:(ps.map aN.ix).length+1<=1000:=by have:=HP.out.bound;have:=HB.out;simp only[List.length_map];omega
     have eD:w.heap.size<=w2.heap.size:=Nat.le_trans HF.out.size hF2.size;clear hF2 qB iU xN hb2
     go_wp2_with (at_builtin;refine wpList_append_own _ rfl _ _ 57 rfl w.heap.size 3 i0 (.int .i64 0) 1 8 Tryz.underlying57 hi hz0 hz1 hz2 rfl (by decide) _ _ _ rfl (zq.out.alloc _) ⟨w2.heap.size,0,none⟩ 1 1 [.int .i64 a.ix] rfl rfl (by exact aD w2 #[.int .i64 a.ix] _) (by simp[Value.oneCell']) (by unfold maxLen;omega) (by omega) (by simp;omega) ?_;intro v' w3 hown hg rU)
     have hg2:(w2.alloc (.cells #[.int .i64 a.ix] 3)).grownBy w3 u4.ownBlock:=hg;obtain ⟨jZ,nD,dB⟩:=I7 mJ.out zq.out eD ((HF.out.drewN nq).trans eG.out) hg2;have wF:Ints w3 w.heap.size v' ((ps++[a]).map aN.ix):=by unfold Ints;simpa using hown
     have qx:=aa jZ;have QB:=aa nD;have gN:=aa dB;have Mv:=aa wF;clear jZ nD dB wF hg hg2 hown rU;go_wp2_with fail;go_roundg (rest text qy).length
     case measure=>have:=cL.out;rw[HK.out];omega
     case rel=>
      refine ⟨gN.out,qy,ms++ks,ps++[a],by rw[<-List.append_assoc];exact qx.out,Mv.out,?_,?_,rfl,?_⟩
      ·intro b hb;rw[<-List.append_assoc];rcases List.mem_append.1 hb with hb|hb
       ·exact (((dR.drewN (HA.out b hb) nq).world eG.out.stay).world QB.out).append
       ·simp only[List.mem_singleton]at hb;subst hb;exact lF.out.world QB.out
      ·have h1:=cL.out;have h2:=HB.out;simp only[List.length_append,List.length_cons,List.length_nil];omega
      ·intro o ho
       cases o with
       | none=>
        have:=uC.out none (.jh QA.out DL.out ho);simpa using this
       | some p=>
        have:=uC.out (some (a.re::p.1,p.2)) (.more QA.out DL.out ho);simpa using this
    ·have eG:=aa hF2;have DL:=aa qB;clear hF2 qB;go_wp2_with fail;go_ret2;refine ⟨(HF.out.drewN nq).trans eG.out,.inr ⟨0,by simp,none,?_,rfl⟩⟩;have:=uC.out none (.bad QA.out DL.out);simpa using this
theorem uD{s':List UInt8}{r:Re}(h:nM s (some (r,s'))):∃rs,cU s (some (rs,s'))/\r=bu rs:=by
 obtain ⟨o,h1,h2⟩:=h
 cases o with
 | none=>cases h2
 | some p=>simp only[Option.map_some,Option.some.injEq,Prod.mk.injEq]at h2;exact ⟨p.1,by rw[h2.2];exact h1,h2.1⟩
theorem uE(h:nM s none):cU s none:=by
 obtain ⟨o,h1,h2⟩:=h
 cases o with
 | none=>exact h1
 | some p=>cases h2
def Mw(B P:Nat)(text:ByteArray)(at_:Nat)(ns:List (Nd Value))(w:World)(k:Nat)(left PE:Value)(wr:World):Prop:=
 dX B w wr/\((PE=.bool true/\∃(a:aN) (at':Nat) (ms:List (Nd Value)),left=.int .i64 a.ix/\fI wr B P text at' (ns++ms)/\dR (aF wr) (ns++ms) a /\
   ms.length+3*(rest text at').length<=3*(rest text at_).length/\k=1+(rest text at').length/\∀o,gZ a.re (rest text at') o->bh (rest text at_) o) ∨
  (PE=.bool false/\k=0/\(∃i:Nat,left=.int .i64 i)/\bh (rest text at_) none))
set_option maxHeartbeats 2000000 in
theorem BK(n:Nat)(hC:iq n)(B P:Nat)(text:ByteArray)(at_:Nat)(ns:List (Nd Value))(w:World)(hP:Pre B P text at_ ns w)(hn:(rest text at_).length<=n):
  Calls Tryz.prog 139 #[.pointer (some ⟨P,0,none⟩)] w (gw bh 0 B P text at_ ns w):=by
 have HP:=aa hP;have HN:=aa hn;clear hP hn;go_enter Tryz.func139,Tryz.ntmps139;go_wp2_with fail;refine (uB n hC B P text at_ ns w HP.out HN.out).mono ?_;rintro e w1 iB
 obtain ⟨left,PE,k0,rfl,hL⟩:∃(i:Nat) (ok:Bool) (k0:Nat),e=.returned (.tuple #[.int .i64 i,.bool ok])/\Mw B P text at_ ns w k0 (.int .i64 i) (.bool ok) w1:=by
  rcases iB with ⟨fT,⟨a,ko,ms,rfl,iV,nu,tF,hb1⟩|⟨i,rfl,iV⟩⟩
  ·obtain ⟨rs,h1,h2⟩:=uD iV;exact ⟨a.ix,true,1+(rest text ko).length,rfl,fT,.inl ⟨rfl,a,ko,ms,rfl,nu,tF,by omega,rfl,λo ho=>.one h1 (h2▸ho)⟩⟩
  ·exact ⟨i,false,0,rfl,fT,.inr ⟨rfl,rfl,⟨i,rfl⟩,.bad (uE iV)⟩⟩
 have HL:=aa hL;clear hL iB;go_wp2_with fail;go_loopg [4,5] k0 (λk left PE wr=>Mw B P text at_ ns w k left PE wr)
 case atStart=>exact HL.out
 case round=>
  obtain ⟨hF,⟨rfl,a,ko,ms,rfl,nu,tF,hb1,hk,hm⟩|⟨rfl,hk,⟨i,rfl⟩,hm⟩⟩:=hrel
  ·have HF:=aa hF;have gH:=aa nu;have eK:=aa tF;have bA:=aa hb1;have HK:=aa hk;have HM:=aa hm;have H0:=aa ((HP.out.dh.append (ms:=ms)).world hF.stay);clear hF nu tF hb1 hk hm;go_wp2_with fail;refine (iz 124 B P text ko (ns++ms) wr gH.out).mono ?_;rintro e w2 ⟨r,qy,rfl,iU,hF2,⟨rfl,h2⟩|⟨rfl,Uv,h2⟩⟩
   ·have mJ:=aa iU;have eG:=aa hF2;have H2:=aa h2;have hl2:(rest text qy).length+1=(rest text ko).length:=by rw[h2];rfl
    have ld:=aa hl2;have Mp:=aa (show Pre B P text qy (ns++ms) w2 from ⟨iU,H0.out.world hF2.stay,by have:=HP.out.bound;have:=bA.out;simp only[List.length_append];omega⟩);clear iU hF2 h2 hl2;go_wp2_with fail;refine (uB n hC B P text qy (ns++ms) w2 Mp.out (by have:=HN.out;have:=bA.out;have:=ld.out;omega)).mono ?_
    rintro e w3 ⟨dB,⟨a3,BA,ks,rfl,PF,jZ,BL,hb3⟩|⟨i,rfl,PF⟩⟩
    ·obtain ⟨rs,hc3,Yl⟩:=uD PF;have Uw:dR (aF w3) (ns++ms++ks) a:=((eK.out.world eG.out.stay).world dB.stay).append;obtain ⟨x,hx,SZ⟩:=Uw.empty;obtain ⟨y,hy,S0⟩:=BL.empty;have HE:=aa (show Mn (ns++ms++ks) 3 a.ix a3.ix (a.re.aq||a3.re.aq) from .inr (.inr (.inr (.inr ⟨rfl,x,y,hx,hy,by rw[SZ,S0]⟩))));have HRa:=aa Uw;have gN:=aa dB
     have qx:=aa jZ;have GW:=aa BL;have fB:=aa hb3;have HC3:=aa hc3;have Yi:=aa Yl;have hlen:(ns++ms++ks).length<=1000:=by have:=HP.out.bound;have:=bA.out;have:=ld.out;simp only[List.length_append];omega
     have I5:=aa hlen;clear dB PF jZ BL hb3 hc3 Yl Uw hx SZ hy S0 hlen;go_wp2_with fail;refine (eA B P text BA (ns++ms++ks) 3 a.ix a3.ix .nilFunc (a.re.aq||a3.re.aq) false w3 qx.out I5.out HE.out (.inl rfl)).mono ?_;rintro e w4 ⟨rfl,xL,mK⟩;have GM:=aa xL;have nw:=aa mK;clear xL mK;obtain ⟨j,hj⟩:∃j,j=(ns++ms++ks).length:=⟨_,rfl⟩;rw[<-hj]
     have HJ:=aa hj;clear hj;go_wp2_with fail;go_roundg (1+(rest text BA).length)
     case measure=>have:=HK.out;have:=ld.out;have:=fB.out;omega
     case rel=>
      refine ⟨((HF.out.trans eG.out).trans gN.out).trans nw.out,.inl ⟨rfl,.alt j a a3,BA,ms++ks++[⟨3,.nilFunc,a.ix,a3.ix,a.re.aq||a3.re.aq⟩],rfl,?_,?_,?_,rfl,?_⟩⟩
      ·rw[<-List.append_assoc,<-List.append_assoc];exact GM.out
      ·rw[<-List.append_assoc,<-List.append_assoc];refine ⟨?_,⟨.nilFunc,?_⟩,(HRa.out.world nw.out.stay).append,(GW.out.world nw.out.stay).append⟩
       ·rw[HJ.out];have:=kr H0.out;simp only[List.length_append]at this ⊢;omega
       ·rw[HJ.out];exact mN _
      ·have h1:=bA.out;have h2:=fB.out;have h3:=ld.out;simp only[List.length_append,List.length_cons,List.length_nil];omega
      ·intro o ho;refine HM.out o ?_;rw[H2.out];refine .more HC3.out ?_;rw[<-Yi.out];exact ho
    ·have gN:=aa dB;have BM:=aa (uE PF);clear dB PF;go_wp2_with fail;go_roundg 0
     case measure=>have:=HK.out;omega
     case rel=>refine ⟨(HF.out.trans eG.out).trans gN.out,.inr ⟨rfl,rfl,⟨a.ix,rfl⟩,HM.out none ?_⟩⟩;rw[H2.out];exact .bad BM.out
   ·subst Uv;have mJ:=aa iU;have eG:=aa hF2;have H2:=aa h2;clear iU hF2 h2;go_wp2_with fail;go_ret2;exact ⟨HF.out.trans eG.out,.inl ⟨a,qy,ms,by simp,HM.out _ (.stop H2.out),mJ.out,eK.out.world eG.out.stay,by have:=bA.out;omega⟩⟩
  ·have HF:=aa hF;have HM:=aa hm;clear hF hm hk;go_wp2_with fail;go_ret2;exact ⟨HF.out,.inr ⟨i,by simp,HM.out⟩⟩
theorem BN(n:Nat):iq n:=by
 induction n with
 | zero=>intro B P text at_ ns w _ h;omega
 | succ n ih=>intro B P text at_ ns w hP h;exact BK n ih B P text at_ ns w hP (by omega)
def Ym:Nd Value:=⟨0,.nilFunc,0,0,true⟩
def pw(w:World)(s:ByteArray):World:=
 ((w.alloc (.cells #[.slice none 0 0,.int .i64 0] 184)).alloc (.cells #[.int .i64 0,.nilFunc,.int .i64 0,.int .i64 0,.bool true] 292)).alloc
  (.cells #[.string s,.int .i64 0,.slice (some ⟨w.heap.size+1,0,none⟩) 1 1] 257)
theorem uF(w:World)(s:ByteArray):Below w.heap.size w (pw w s):=
 (((Below.refl _ _).alloc (Nat.le_refl _) _).alloc (by simp) _).alloc (by simp;omega) _
theorem Uy(w:World)(s:ByteArray):(pw w s).heap[w.heap.size]?=some (.cells #[.slice none 0 0,.int .i64 0] 184 (0,0)):=
 heap_alloc_old (heap_alloc_old (af w _))
theorem My(w:World)(s:ByteArray)(h:s.size<=60):Pre w.heap.size (w.heap.size+1+1) s 0 [Ym] (pw w s):=by
 refine ⟨⟨⟨.slice (some ⟨w.heap.size+1,0,none⟩) 1 1,?_,?_⟩,Nat.zero_le _,h,by omega⟩,⟨.nilFunc,rfl⟩,?_⟩
 ·have:=af ((w.alloc (.cells #[.slice none 0 0,.int .i64 0] 184)).alloc (.cells #[.int .i64 0,.nilFunc,.int .i64 0,.int .i64 0,.bool true] 292)) (.cells #[.string s,.int .i64 0,.slice (some ⟨w.heap.size+1,0,none⟩) 1 1] 257);simpa [pw] using this
 ·refine ⟨⟨rfl,.inr ⟨w.heap.size+1,1,#[.int .i64 0,.nilFunc,.int .i64 0,.int .i64 0,.bool true],rfl,by omega,?_,Nat.le_refl _,by unfold maxLen;omega,rfl,rfl⟩⟩,λd hd=>by simp at hd;subst hd;exact .inl rfl⟩;have:=af (w.alloc (.cells #[.slice none 0 0,.int .i64 0] 184)) (.cells #[.int .i64 0,.nilFunc,.int .i64 0,.int .i64 0,.bool true] 292)
  exact heap_alloc_old (by simpa using this)
 ·rw[aX];simp only[List.length_cons,List.length_nil];omega
def mO(s:ByteArray)(w:World)(e:Ending)(w':World):Prop:=
 Below w.heap.size w w'/\((60<s.size/\e=.returned (.tuple #[.agg #[.slice none 0 0,.int .i64 0],.int .i64 1])) ∨
  (s.size<=60/\(bh s.data.toList none∨∃r s',s'≠[]/\bh s.data.toList (some (r,s')))/\e=.returned (.tuple #[.agg #[.slice none 0 0,.int .i64 0],.int .i64 6])) ∨
  (s.size<=60/\∃(sv:Value) (a:aN) (ns:List (Nd Value)),e=.returned (.tuple #[.agg #[sv,.int .i64 a.ix],.int .i64 0])/\bh s.data.toList (some (a.re,[])) /\
   bj w' w.heap.size sv ns/\dR (aF w') ns a/\dR (aF w') ns .dh/\ns.length<=200))
set_option maxHeartbeats 1000000 in
theorem Ey(s:ByteArray)(w:World)(hs:s.size<=maxLen)(h:60<s.size):
  Calls Tryz.prog 100 #[.string s] w (mO s w):=by
 unfold maxLen at hs;go_enter Tryz.func100,Tryz.ntmps100;go_wp2;exact bodyPost_ret (v:=.tuple #[.agg #[.slice none 0 0,.int .i64 0],.int .i64 1]) (by simp[results,Tryz.results100,go_sem]) rfl ⟨(Below.refl _ _).alloc (Nat.le_refl _) _,.inl ⟨h,rfl⟩⟩
theorem qP(s:ByteArray):rest s 0=s.data.toList:=by simp[rest]
theorem Below.qQ{w2:World}(h:Below w.heap.size w w1)(k:dX w.heap.size w1 w2):Below w.heap.size w w2:=h.trans (k.below h.size)
theorem I8{s:ByteArray}{sv:Value}(h:s.size<=60)(hF:dX w.heap.size (pw w s) w1)(hA:bh (rest s 0) (some (a.re,rest s at')))(hat:at'=s.size)
  (hL:bj w1 w.heap.size sv ns) (hR:dR (aF w1) ns a) (h0:dR (aF w1) ns .dh) (hn:ns.length<=200) (i:Value):
  mO s w (.returned (.tuple #[.agg #[sv,.int .i64 a.ix],.int .i64 0])) ((w1.setCell ⟨w.heap.size,0,none⟩ sv).setCell ⟨w.heap.size,1,none⟩ i):=by
 have hb:=Below.qQ (uF w s) hF;have I9:=hF.other (Uy w s) (by decide) (by decide)
 have hne:∀(k:Nat) c t,t≠184->w1.heap[k]?=some (.cells c t (0,0))->((w1.setCell ⟨w.heap.size,0,none⟩ sv).setCell ⟨w.heap.size,1,none⟩ i).heap[k]?=some (.cells c t (0,0)):=by
  intro k c t ht hk;have hkw:k≠w.heap.size:=by rintro rfl;rw[I9]at hk;simp at hk;exact ht hk.2.symm
  rw[Below.heap_setCell _ _ _ _ (by exact hkw),Below.heap_setCell _ _ _ _ (by exact hkw)];exact hk
 have hst:bH w1 ((w1.setCell ⟨w.heap.size,0,none⟩ sv).setCell ⟨w.heap.size,1,none⟩ i):=λk c t ht hk=>hne k c t (by rcases ht with rfl|rfl<;>decide) hk
 refine ⟨(hb.setCell (Nat.le_refl _) _).setCell (Nat.le_refl _) _,.inr (.inr ⟨h,sv,a,ns,rfl,?_,?_,hR.world hst,h0.world hst,hn⟩)⟩
 ·rw[<-qP,<-dv (text:=s) (at_:=at') (by omega)];exact hA
 ·refine hL.keep λk hk=>?_
  obtain ⟨_,cur,hc⟩:=hL.block hk;rw[hc];exact hne k _ _ (by decide) hc
set_option maxHeartbeats 1000000 in
theorem BO(s:ByteArray)(w:World)(h:s.size<=60):
  Calls Tryz.prog 100 #[.string s] w (mO s w):=by
 have hg:decide ((60:Int)<(s.size:Int))=false:=by simp;omega
 go_enter Tryz.func100,Tryz.ntmps100;go_wp2_with (first|(go_at_call 138;go_in));refine (BN 61 w.heap.size (w.heap.size+1+1) s 0 [Ym] (pw w s) (My w s h) (by rw[aX];omega)).mono ?_;rintro e w1 ⟨hF,⟨a,ko,ms,rfl,hA,hP,hR,hb⟩|⟨i,rfl,hA⟩⟩
 ·have I9:=hF.other (Uy w s) (by decide) (by decide);have r0:w1.cell? ⟨w.heap.size,0,none⟩=some (.slice none 0 0):=by simp[World.cell?,I9]
  have r1:w1.cell? ⟨w.heap.size,1,none⟩=some (.int .i64 0):=by simp[World.cell?,I9]
  have g0:w1.frozen? ⟨w.heap.size,0,none⟩=false:=by simp[World.frozen?,I9]
  have g1:w1.frozen? ⟨w.heap.size,1,none⟩=false:=by simp[World.frozen?,I9]
  have HF:=aa hF;have HA:=aa hA;have HP:=aa hP;have HR:=aa hR;have H0:=aa (((My w s h).dh.append (ms:=ms)).world hF.stay);have HB:=aa hb;obtain ⟨c0,c1,-⟩:=hP.cells;have hle:=hP.le;obtain ⟨⟨sv,AH,WM⟩,-⟩:=hP;have c2:w1.cell? ⟨w.heap.size+1+1,2,none⟩=some sv:=by simp[World.cell?,AH]
  have HL:=aa WM;clear hF hA hR hb AH WM I9;by_cases hat:ko<s.size
  ·have hg2:decide ((ko:Int)<(s.size:Int))=true:=by simpa using hat
   go_wp2_with fail;refine bodyPost_ret (v:=.tuple #[.agg #[.slice none 0 0,.int .i64 0],.int .i64 6]) (by simp[results,Tryz.results100,go_sem, *]) rfl ?_;refine ⟨?_,.inr (.inl ⟨h,.inr ⟨a.re,rest s ko,?_,by rw[<-qP];exact HA.out⟩,rfl⟩)⟩
   ·exact ((Below.qQ (uF w s) HF.out).setCell (Nat.le_refl _) _).setCell (Nat.le_refl _) _
   ·rw[br hat];simp
  ·have hat':ko=s.size:=by omega
   have hg2:decide (ko<s.size)=false:=by simp;omega
   have HAT:=aa hat';clear hat hat';have I5:=aa (show ([Ym]++ms).length<=200 by have:=HB.out;rw[aX,aX]at this;simp only[List.length_append,List.length_cons,List.length_nil];omega);have oq:∃g cap,sv=.slice (some ⟨g,0,none⟩) ([Ym]++ms).length cap:=az HL.out.1 (by simp);obtain ⟨g,cap,rfl⟩:=oq;go_wp2_with fail
   exact bodyPost_ret (v:=.tuple #[.agg #[.slice (some ⟨g,0,none⟩) ([Ym]++ms).length cap,.int .i64 a.ix],.int .i64 0]) (by simp[results,Tryz.results100,go_sem, *]) rfl (I8 h HF.out HA.out HAT.out HL.out HR.out H0.out I5.out _)
 ·have I9:=hF.other (Uy w s) (by decide) (by decide);have r0:w1.cell? ⟨w.heap.size,0,none⟩=some (.slice none 0 0):=by simp[World.cell?,I9]
  have r1:w1.cell? ⟨w.heap.size,1,none⟩=some (.int .i64 0):=by simp[World.cell?,I9]
  have g0:w1.frozen? ⟨w.heap.size,0,none⟩=false:=by simp[World.frozen?,I9]
  have g1:w1.frozen? ⟨w.heap.size,1,none⟩=false:=by simp[World.frozen?,I9]
  have HF:=aa hF;have HA:=aa hA;clear hF hA I9;go_wp2_with fail;refine bodyPost_ret (v:=.tuple #[.agg #[.slice none 0 0,.int .i64 0],.int .i64 6]) (by simp[results,Tryz.results100,go_sem, *]) rfl ?_;exact ⟨((Below.qQ (uF w s) HF.out).setCell (Nat.le_refl _) _).setCell (Nat.le_refl _) _,.inr (.inl ⟨h,.inl (by rw[<-qP];exact HA.out),rfl⟩)⟩
theorem xO(s:ByteArray)(w:World)(hs:s.size<=maxLen):Calls Tryz.prog 100 #[.string s] w (mO s w):=by
 by_cases h:s.size<=60
 ·exact BO s w h
 ·exact Ey s w hs (by omega)
end Go.Proofs.YtgncgdkpkkdaeaaGreatDoor
namespace Go.Proofs.YtgncgdkpkkdaeaaGreatDoor
open Go.RowKit aO Go.Maps
variable {q:IntKind} {l:Lit} {b n:Nat} {κ:Type} {E t:TypeId} {a:Value} {w:World}
theorem laidOut:laidOutB Tryz.prog=true:=by kernel_rfl
theorem QC:Keyed Tryz.prog 3:=int_keyed Tryz.underlying3
theorem Mz:(333 : TypeId) < Tryz.prog.types.size:=of_decide_eq_true (by kernel_rfl)
theorem xP:(match Tryz.prog.underlying 333 with|some (.array _ _)|some (.struct _)=>true|_=>false)=true:=by kernel_rfl
set_option maxRecDepth 100000 in
theorem MA:Keyed Tryz.prog 333:=Keyed.of_law (deep_law_laid laidOut (m:=3) (by omega) Mz (by kernel_rfl) xP)
theorem Ja:(305 : TypeId) < Tryz.prog.types.size:=of_decide_eq_true (by kernel_rfl)
theorem uG:(match Tryz.prog.underlying 305 with|some (.array _ _)|some (.struct _)=>true|_=>false)=true:=by kernel_rfl
set_option maxRecDepth 100000 in
theorem Jb:Keyed Tryz.prog 305:=Keyed.of_law (deep_law_laid laidOut (m:=3) (by omega) Ja (by kernel_rfl) uG)
set_option maxRecDepth 100000 in
theorem Ez:Tryz.prog.tiled 3 333=true:=tiled_of_laidOut laidOut 3 _ (by kernel_rfl) (by kernel_rfl)
set_option maxRecDepth 100000 in
theorem BP:Tryz.prog.tiled 3 305=true:=tiled_of_laidOut laidOut 3 _ (by kernel_rfl) (by kernel_rfl)
theorem lJ(a:Nat)(h:a<=1000000000000):(Lit.int .i64 (a:Int)).wf=true:=by exact WalkArith.wf_i64 (by omega)
theorem uH:∃m,Tryz.prog.types.size=m+1:=⟨Tryz.prog.types.size - 1,by kernel_rfl⟩
theorem zr:Tryz.prog.keyType 333=true:=by kernel_rfl
theorem xd:Tryz.prog.keyType 305=true:=by kernel_rfl
theorem pH:Tryz.prog.cellsOf 333=2:=by kernel_rfl
theorem nN:Tryz.prog.cellsOf 305=2:=by kernel_rfl
theorem rV:Tryz.prog.cellsOf 3=1:=by kernel_rfl
theorem EA:Tryz.prog.cellsOf 5=1:=by kernel_rfl
theorem BQ(m:Nat)(a:Int)(h:(Lit.int .i64 a).wf=true):Tryz.prog.keyLits (m+1) 3 [.int .i64 a]=some [.int .i64 a]:=by unfold Program.keyLits;simp[Tryz.underlying3,h]
theorem QD(m:Nat)(a:Int)(h:(Lit.int .u8 a).wf=true):Tryz.prog.keyLits (m+1) 5 [.int .u8 a]=some [.int .u8 a]:=by unfold Program.keyLits;simp[Tryz.underlying5,h]
theorem MB(a b:Nat)(ha:a<=1000000000000)(hb:b<=1000000000000):∃kl,keyOf Tryz.prog 333 (.agg #[.int .i64 a,.int .i64 b])=some kl:=by
 have wa:=lJ a ha;have wb:=lJ b hb;obtain ⟨m,hm⟩:=uH;refine ⟨.string (keyBytes [.int .i64 a,.int .i64 b]),?_⟩;have h1:Tryz.prog.keyLits (m+1+1) 333 [.int .i64 a,.int .i64 b]=some [.int .i64 a,.int .i64 b]:=by unfold Program.keyLits;simp[Tryz.underlying333,pH,rV,BQ,wa,wb]
 simp only[keyOf,Tryz.underlying333,zr,hm];simp[Value.formed,pH,h1,Value.cells,Tryz.underlying333]
theorem wf_u8(b:UInt8):(Lit.int .u8 (b.toNat:Int)).wf=true:=by have:=b.toNat_lt;have h1:IntKind.u8.min=0:=rfl;have h2:IntKind.u8.max=255:=rfl;simp only[Lit.wf,h1,h2,Bool.and_eq_true,decide_eq_true_eq];omega
theorem Jc(a:Nat)(b:UInt8)(ha:a<=1000000000000):∃kl,keyOf Tryz.prog 305 (.agg #[.int .i64 a,.int .u8 b.toNat])=some kl:=by
 have wa:=lJ a ha;have wb:=wf_u8 b;obtain ⟨m,hm⟩:=uH;refine ⟨.string (keyBytes [.int .i64 a,.int .u8 b.toNat]),?_⟩;have h1:Tryz.prog.keyLits (m+1+1) 305 [.int .i64 a,.int .u8 b.toNat]=some [.int .i64 a,.int .u8 b.toNat]:=by unfold Program.keyLits;simp[Tryz.underlying305,nN,rV,EA,BQ,QD,wa,wb]
 simp only[keyOf,Tryz.underlying305,xd,hm];simp[Value.formed,nN,h1,Value.cells,Tryz.underlying305]
set_option maxRecDepth 100000 in
theorem MC{b:Value}(ha:keyOf Tryz.prog 333 a=some l)(hb:keyOf Tryz.prog 333 b=some l):a=b:=keyOf_inj_deep Ez xP ha hb
set_option maxRecDepth 100000 in
theorem Jd{b:Value}(ha:keyOf Tryz.prog 305 a=some l)(hb:keyOf Tryz.prog 305 b=some l):a=b:=keyOf_inj_deep BP uG ha hb
structure lK(κ:Type) where
 K:TypeId
 kv:κ->Value
 ok:κ->Prop
 keyed:Keyed Tryz.prog K
 key:∀x,ok x->∃kl,keyOf Tryz.prog K (kv x)=some kl
 inj:∀x y kl,ok x->ok y->keyOf Tryz.prog K (kv x)=some kl->keyOf Tryz.prog K (kv y)=some kl->x=y
def pairT:lK (Nat×Nat) where
 K:=333
 kv x:=.agg #[.int .i64 x.1,.int .i64 x.2]
 ok x:=x.1<=1000000000000/\x.2<=1000000000000
 keyed:=MA
 key x h:=MB x.1 x.2 h.1 h.2
 inj x y kl _ _ h1 h2:=by
  have:=MC h1 h2
  simp at this
  exact Prod.ext (by omega) (by omega)
def iC:lK (Nat×UInt8) where
 K:=305
 kv x:=.agg #[.int .i64 x.1,.int .u8 x.2.toNat]
 ok x:=x.1<=1000000000000
 keyed:=Jb
 key x h:=Jc x.1 x.2 h
 inj x y kl _ _ h1 h2:=by
  have:=Jd h1 h2
  simp at this
  exact Prod.ext (by omega) (UInt8.toNat_inj.1 (by omega))
def ny:lK Nat where
 K:=3
 kv x:=.int .i64 x
 ok x:=x<=1000000000000
 keyed:=QC
 key x h:=⟨_,keyOf_int_mk Tryz.underlying3 (lJ x h)⟩
 inj x y kl hx hy h1 h2:=by
  rw[keyOf_int_mk Tryz.underlying3 (lJ x hx)]at h1
  rw[keyOf_int_mk Tryz.underlying3 (lJ y hy)]at h2
  rw[<-h1]at h2
  simp at h2
  omega
def bY{κ:Type}(T:lK κ)(E:TypeId)(q:IntKind)(w:World)(b n:Nat)(f:κ->Option Int):Prop:=
 ∃D:DataW Unit,w.ownsMap Tryz.prog T.K (plainElem Tryz.prog E) b n D /\
  ∀x kl,T.ok x->keyOf Tryz.prog T.K (T.kv x)=some kl->Maps.has D kl=(f x).isSome/\D.atKey kl (.lit (.int q 0))=.lit (.int q ((f x).getD 0))
theorem bY.made(T:lK κ)(E:TypeId)(q:IntKind)(w:World):bY T E q (w.alloc (.map #[] 0)) w.heap.size 0 (λ_=>none):=
 ⟨.map [],World.ownsMap_made w _ _ _,λ_ _ _ _=>⟨rfl,rfl⟩⟩
theorem bY.lt{T:lK κ}{f:κ->Option Int}(h:bY T E q w b n f):b<w.heap.size:=by obtain ⟨D,h,_⟩:=h;exact h.lt
theorem bY.keep{T:lK κ}{w':World}{f:κ->Option Int}(h:bY T E q w b n f)(hb:w'.heap[b]?=w.heap[b]?):bY T E q w' b n f:=by obtain ⟨D,⟨es,clock,h1,h2⟩,h3⟩:=h;exact ⟨D,⟨es,clock,hb.trans h1,h2⟩,h3⟩
theorem bY.obj{T:lK κ}{f:κ->Option Int}(h:bY T E q w b n f):∃es clock,w.heap[b]?=some (.map es clock):=by obtain ⟨D,⟨es,clock,h1,h2⟩,h3⟩:=h;exact ⟨es,clock,h1⟩
theorem bY.look{T:lK κ}{f:κ->Option Int}(h:bY T E q w b n f)(ht:Tryz.prog.underlying t=some (.map T.K E))(he:Tryz.prog.underlying E=some (.int q))
  (hz:∀w,(zeroValue E).run Tryz.prog w=.ok (.int q 0) w) (x:κ) (hx:T.ok x):
  (Instr.lookup t (.map (some b)) (T.kv x) true).run Tryz.prog w=.ok (.tuple #[.int q ((f x).getD 0),.bool (f x).isSome]) w:=by
 obtain ⟨D,h1,h2⟩:=h;obtain ⟨kl,lL⟩:=T.key x hx;have hw0:(Lit.int q 0).wf=true:=by cases q<;>decide
 obtain ⟨v,ps,hrun,hv⟩:=h1.look_ok T.keyed ht (hz w) (plainElem_int he hw0) lL;obtain ⟨c,rfl,hc,hwc⟩:=plainElem_int_inv he hv;simp only[Prod.mk.injEq]at hc;obtain ⟨h3,h4⟩:=h2 x kl hx lL;rw[h4]at hc;simp at hc;rw[hrun,h3,hc.1]
theorem bY.store [DecidableEq κ] {T:lK κ}{f:κ->Option Int}(h:bY T E q w b n f)(ht:Tryz.prog.underlying t=some (.map T.K E))(he:Tryz.prog.underlying E=some (.int q))
  (hn:n<1000000000000) (x:κ) (hx:T.ok x) (c:Int) (hc:(Lit.int q c).wf=true):
  ∃w',(Instr.mapUpdate t (.map (some b)) (T.kv x) (.int q c)).run Tryz.prog w=.ok () w'/\bY T E q w' b (n+1) (λy=>if y=x then some c else f y)/\w.grownBy w' (some b):=by
 obtain ⟨D,h1,h2⟩:=h;obtain ⟨kl,lL⟩:=T.key x hx;obtain ⟨w',hrun,r1,r2⟩:=h1.update T.keyed ht (by unfold maxLen;omega) lL (plainElem_int he hc);refine ⟨w',hrun,⟨_,r1,?_⟩,r2⟩;have hD:IsMap D:=h1.isMap;have hk:WideAt.IsKeyLit kl:=T.keyed.key lL;intro y ky hy PG;by_cases e:y=x
 ·subst e;rw[lL]at PG;cases PG;simp[has_put_same hD hk,atKey_put_same hD hk]
 ·have hne:ky≠kl:=λe'=>e (T.inj y x kl hy hx (e'▸PG) lL)
  rw[has_put_other hne,atKey_put_other hne];simpa [e] using h2 y ky hy PG
end Go.Proofs.YtgncgdkpkkdaeaaGreatDoor
namespace aO
variable {c i k n0:Nat} {α β:Type}
inductive F2{α β:Type}(R:α->β->Prop):List α->List β->Prop where
 | nil:F2 R [] []
 | cons {a:α} {b:β} {l:List α} {m:List β}:R a b->F2 R l m->F2 R (a::l) (b::m)
theorem F2.mono{R R':α->β->Prop}(h:∀a b,R a b->R' a b){l:List α}{m:List β}(f:F2 R l m):F2 R' l m:=by
 induction f with
 | nil=>exact .nil
 | cons h1 _ ih=>exact .cons (h _ _ h1) ih
theorem F2.length{R:α->β->Prop}{l:List α}{m:List β}(f:F2 R l m):l.length=m.length:=by
 induction f with
 | nil=>rfl
 | cons _ _ ih=>simp[ih]
theorem F2.append{R:α->β->Prop}{l l':List α}{m m':List β}(f:F2 R l m)(g:F2 R l' m'):F2 R (l++l') (m++m'):=by
 induction f with
 | nil=>exact g
 | cons h _ ih=>exact .cons h ih
theorem F2.get{R:α->β->Prop}{l:List α}{m:List β}(f:F2 R l m){b:β}(h:m[i]?=some b):∃a,l[i]?=some a/\R a b:=by
 induction f generalizing i with
 | nil=>simp at h
 | cons h1 _ ih=>
  cases i with
  | zero=>simp at h;subst h;exact ⟨_,rfl,h1⟩
  | succ i=>simp at h ⊢;exact ih h
theorem F2.snoc{R:α->β->Prop}{l:List α}{m:List β}{a:α}{b:β}(f:F2 R l m)(h:R a b):F2 R (l++[a]) (m++[b]):=f.append (.cons h .nil)
def dD:aN->List D
 | .dh=>[]
 | .cY _ _=>[]
 | .seq _ x y=>dD x++(allA x).map (cG · y)++dD y
 | .alt _ x y=>dD x++dD y
 | .star i x=>dD x++(allA x).map (cG · (.star i x))
 | .plus _ j x=>dD x++(allA x).map (cG · (.star j x))
 | .eU _ x=>dD x
def ey:D->List D
 | .base a=>dD a
 | .snoc d a=>ey d++(qI d).map (cG · a)++dD a
def aN.sz:aN->Nat
 | .dh=>1
 | .cY _ _=>1
 | .seq _ a b=>a.sz+b.sz+1
 | .alt _ a b=>a.sz+b.sz+1
 | .star _ a=>a.sz+1
 | .plus _ _ a=>a.sz+2
 | .eU _ a=>a.sz+1
def D.sz:D->Nat
 | .base a=>a.sz
 | .snoc d a=>d.sz+a.sz
theorem aN.qR(a:aN):1<=a.sz:=by cases a<;>simp[aN.sz]
theorem zu(d:D)(a:aN):(cG d a).sz<=d.sz+a.sz:=by
 unfold cG;split
 ·simp[D.sz]
 ·simp[D.sz]
theorem GY{a b:Nat}(h:a+b<=c):a*a+b*b<=c*c:=by
 have h1:(a+b)*(a+b)<=c*c:=Nat.mul_le_mul h h;have h2:(a+b)*(a+b)=a*a+b*b+2*(a*b):=by rw[Nat.add_mul,Nat.mul_add,Nat.mul_add,Nat.mul_comm b a];omega
 omega
theorem lM{a:Nat}(h:a+1<=c):a*a+2*a+1<=c*c:=by
 have h1:(a+1)*(a+1)<=c*c:=Nat.mul_le_mul h h;have h2:(a+1)*(a+1)=a*a+2*a+1:=by rw[Nat.add_mul,Nat.mul_add,Nat.mul_one,Nat.one_mul];omega
 omega
theorem GZ(a:aN):∀d∈allA a,d.sz<=a.sz*a.sz:=by
 induction a with
 | dh=>simp[allA]
 | cY i c=>intro d hd;simp only[allA,List.mem_singleton]at hd;subst hd;simp[D.sz,aN.sz]
 | seq i x y um uo=>
  intro d hd;simp only[allA,List.mem_append,List.mem_map]at hd;have h1:=GY (a:=x.sz) (b:=y.sz+1) (c:=x.sz+y.sz+1) (by omega);have h2:=lM (a:=y.sz) (c:=y.sz+1) (by omega);have hx:x.sz<=x.sz*x.sz:=Nat.le_mul_of_pos_left _ x.qR;simp only[aN.sz];rcases hd with ⟨d',h,rfl⟩|h
  ·have h3:=zu d' y;have h4:=um _ h;omega
  ·have h4:=uo _ h;omega
 | alt i x y um uo=>
  intro d hd;simp only[allA,List.mem_append]at hd;have h1:=GY (a:=x.sz) (b:=y.sz) (c:=x.sz+y.sz+1) (by omega);simp only[aN.sz];rcases hd with h|h
  ·have h4:=um _ h;omega
  ·have h4:=uo _ h;omega
 | star i x ih=>
  intro d hd;simp only[allA,List.mem_map]at hd;obtain ⟨d',h,rfl⟩:=hd;have h3:=zu d' (.star i x);have h4:=ih _ h;have h2:=lM (a:=x.sz) (c:=x.sz+1) (by omega);have:=x.qR;simp only[aN.sz]at h3 ⊢;omega
 | plus i j x ih=>
  intro d hd;simp only[allA,List.mem_map]at hd;obtain ⟨d',h,rfl⟩:=hd;have h3:=zu d' (.star j x);have h4:=ih _ h;have h2:=lM (a:=x.sz) (c:=x.sz+2) (by omega);have:=x.qR;simp only[aN.sz]at h3 ⊢;omega
 | eU i x ih=>
  intro d hd;have h4:=ih _ hd;have h2:=lM (a:=x.sz) (c:=x.sz+1) (by omega);simp only[aN.sz];omega
theorem jH(a:aN):a.leaves<=a.sz:=by induction a<;>simp_all [aN.leaves,aN.sz]<;>omega
theorem BR(d:D):(qI d).length<=d.sz:=by
 induction d with
 | base a=>simp only[qI,ft,D.sz];exact jH a
 | snoc d a ih=>simp only[qI,List.length_append,List.length_map,ft,D.sz];have:=jH a;omega
theorem nO(a:aN):(dD a).length<=a.sz*a.sz:=by
 induction a with
 | dh=>simp[dD]
 | cY i c=>simp[dD]
 | seq i x y um uo=>
  have h1:=GY (a:=x.sz+1) (b:=y.sz) (c:=x.sz+y.sz+1) (by omega);have h2:=lM (a:=x.sz) (c:=x.sz+1) (by omega);have h3:=jH x;simp only[dD,List.length_append,List.length_map,ft,aN.sz];omega
 | alt i x y um uo=>
  have h1:=GY (a:=x.sz) (b:=y.sz) (c:=x.sz+y.sz+1) (by omega);simp only[dD,List.length_append,aN.sz];omega
 | star i x ih=>
  have h2:=lM (a:=x.sz) (c:=x.sz+1) (by omega);have h3:=jH x;simp only[dD,List.length_append,List.length_map,ft,aN.sz];omega
 | plus i j x ih=>
  have h2:=lM (a:=x.sz) (c:=x.sz+2) (by omega);have h3:=jH x;simp only[dD,List.length_append,List.length_map,ft,aN.sz];omega
 | eU i x ih=>
  have h2:=lM (a:=x.sz) (c:=x.sz+1) (by omega);simp only[dD,aN.sz];omega
theorem D.qR(d:D):1<=d.sz:=by
 induction d with
 | base a=>exact a.qR
 | snoc d a ih=>simp only[D.sz];omega
theorem xe(d:D):(ey d).length<=d.sz*d.sz:=by
 induction d with
 | base a=>exact nO a
 | snoc d a ih=>
  have h1:=nO a;have h2:=BR d;have h3:d.sz*d.sz+a.sz*a.sz+2*(d.sz*a.sz)<=(d.sz+a.sz)*(d.sz+a.sz):=by rw[Nat.add_mul,Nat.mul_add,Nat.mul_add,Nat.mul_comm a.sz d.sz];omega
  have h4:d.sz<=d.sz*a.sz:=Nat.le_mul_of_pos_right _ a.qR;simp only[ey,List.length_append,List.length_map,D.sz];omega
def gy(a:aN):List D:=(met a).flatMap ey
theorem fJ{α β:Type}(f:α->List β)(n:Nat):∀l:List α,(∀x∈l,(f x).length<=n)->(l.flatMap f).length<=l.length*n
 | [],_=>by simp
 | x::l,h=>by
  have h1:=h x (by simp);have h2:=fJ f n l (λy hy=>h y (by simp[hy]));simp only[List.flatMap_cons,List.length_append,List.length_cons];have h3:(l.length+1)*n=l.length*n+n:=by rw[Nat.add_mul,Nat.one_mul]
  omega
theorem uI(a:aN)(h:a.sz<=200)(hl:a.leaves<=60):(gy a).length<=100000000000:=by
 have h1:=fJ ey (40000*40000) (met a) (λd hd=>by
  refine Nat.le_trans (xe d) ?_
  have hs:d.sz<=40000:=by
   have abd:a.sz*a.sz<=200*200:=Nat.mul_le_mul h h;simp only[met,List.mem_cons]at hd;rcases hd with rfl|hd
   ·simp only[D.sz];omega
   ·have:=GZ a d hd;omega
  exact Nat.mul_le_mul hs hs)
 have h2:(met a).length<=61:=by rw[uq];omega
 have h3:(met a).length*(40000*40000)<=61*(40000*40000):=Nat.mul_le_mul_right _ h2;unfold gy;omega
variable {a:aN} {d:D}
theorem xg(h:d∈met a):∀t∈ey d,t∈gy a:=λ_ ht=>List.mem_flatMap.2 ⟨d,h,ht⟩
def aN.lt(n0:Nat):aN->Prop
 | .dh=>0<n0
 | .cY i _=>i<n0
 | .seq i a b=>i<n0/\a.lt n0/\b.lt n0
 | .alt i a b=>i<n0/\a.lt n0/\b.lt n0
 | .star i a=>i<n0/\a.lt n0
 | .plus i j a=>i<n0/\j<n0/\a.lt n0
 | .eU i a=>i<n0/\a.lt n0
theorem aN.lt.BS(h:a.lt n0):a.ix<n0:=by
 cases a with
 | dh=>exact h
 | cY i c=>exact h
 | seq i a b=>exact h.1
 | alt i a b=>exact h.1
 | star i a=>exact h.1
 | plus i j a=>exact h.1
 | eU i a=>exact h.1
theorem dR.Uz{il:α->eC->Prop}{ns:List (Nd α)}(h:dR il ns a):a.lt ns.length:=by
 have hl:∀{i:Nat} {nd:Nd α},ns[i]?=some nd->i<ns.length:=λ{i nd} h=>by
  rcases Nat.lt_or_ge i ns.length with h' | h'
  ·exact h'
  ·rw[List.getElem?_eq_none h']at h;cases h
 induction a with
 | dh=>obtain ⟨_,h⟩:=h;exact hl h
 | cY i c=>obtain ⟨_,_,h,_⟩:=h;exact hl h
 | seq i a b kW lu=>obtain ⟨_,⟨_,h⟩,h1,h2⟩:=h;exact ⟨hl h,kW h1,lu h2⟩
 | alt i a b kW lu=>obtain ⟨_,⟨_,h⟩,h1,h2⟩:=h;exact ⟨hl h,kW h1,lu h2⟩
 | star i a ih=>obtain ⟨_,⟨_,h⟩,h1⟩:=h;exact ⟨hl h,ih h1⟩
 | plus i j a ih=>obtain ⟨_,_,⟨_,h⟩,⟨_,h'⟩,h1⟩:=h;exact ⟨hl h,hl h',ih h1⟩
 | eU i a ih=>obtain ⟨_,⟨_,h⟩,h1⟩:=h;exact ⟨hl h,ih h1⟩
def aU{α:Type}(il:α->eC->Prop)(n0:Nat)(ns:List (Nd α)):D->Nat->Prop
 | .base a,k=>k=a.ix/\a.lt n0/\dR il ns a
 | .snoc d a,k=>n0<=k/\a.lt n0/\dR il ns a/\∃m,m≠0/\aU il n0 ns d m/\∃h,ns[k]?=some ⟨2,h,m,a.ix,d.re.aq&&a.re.aq⟩
theorem aU.mono{il Mk:α->eC->Prop}{ns Bu:List (Nd α)}(hc:∀h c,il h c->Mk h c)(hn:∀(i:Nat) nd,ns[i]?=some nd->Bu[i]?=some nd)(h:aU il n0 ns d k):aU Mk n0 Bu d k:=by
 induction d generalizing k with
 | base a=>obtain ⟨h1,h2,h3⟩:=h;exact ⟨h1,h2,h3.mono hc hn⟩
 | snoc d a ih=>
  obtain ⟨h1,h2,h3,m,h4,h5,x,h6⟩:=h;exact ⟨h1,h2,h3.mono hc hn,m,h4,ih h5,x,hn _ _ h6⟩
theorem bM{ns ms:List α}{x:α}(h:ns[i]?=some x):(ns++ms)[i]?=some x:=by
 rcases Nat.lt_or_ge i ns.length with h' | h'
 ·rw[List.getElem?_append_left h'];exact h
 ·rw[List.getElem?_eq_none h']at h;cases h
theorem aU.append{il:α->eC->Prop}{ns ms:List (Nd α)}(h:aU il n0 ns d k):aU il n0 (ns++ms) d k:=
 h.mono (λ_ _ h=>h) (λ_ _ h=>bM h)
theorem aU.empty{il:α->eC->Prop}{ns:List (Nd α)}(h:aU il n0 ns d k):∃nd,ns[k]?=some nd/\nd.empty=d.re.aq:=by
 cases d with
 | base a=>obtain ⟨rfl,_,h⟩:=h;exact h.empty
 | snoc d a=>obtain ⟨_,_,_,m,_,_,x,h⟩:=h;exact ⟨_,h,rfl⟩
theorem aU.lt{il:α->eC->Prop}{ns:List (Nd α)}(h:aU il n0 ns d k):k<ns.length:=by
 obtain ⟨nd,h,_⟩:=h.empty;rcases Nat.lt_or_ge k ns.length with h' | h'
 ·exact h'
 ·rw[List.getElem?_eq_none h']at h;cases h
theorem dR.zero{il:α->eC->Prop}{ns:List (Nd α)}(h:dR il ns a)(h0:a.ix=0):a=.dh:=by
 cases a with
 | dh=>rfl
 | cY i c=>exact absurd h0 h.1
 | seq i a b=>exact absurd h0 h.1
 | alt i a b=>exact absurd h0 h.1
 | star i a=>exact absurd h0 h.1
 | plus i j a=>exact absurd h0 h.1
 | eU i a=>exact absurd h0 h.1
theorem aU.zero{il:α->eC->Prop}{ns:List (Nd α)}(hn:0<n0)(h:aU il n0 ns d 0):d=.base .dh:=by
 cases d with
 | base a=>obtain ⟨h1,_,h⟩:=h;rw[h.zero h1.symm]
 | snoc d a=>obtain ⟨h1,_⟩:=h;omega
theorem aU.pos{il:α->eC->Prop}{ns:List (Nd α)}(h:aU il n0 ns d k)(hk:k≠0)(a:aN):cG d a=.snoc d a:=by
 unfold cG;split
 ·obtain ⟨h1,_⟩:=h;exact absurd h1 hk
 ·rfl
def Yn{α:Type}(n0:Nat)(ns:List (Nd α)):Prop:=∀(j k:Nat) nd Yo,n0<=j->n0<=k->ns[j]?=some nd->ns[k]?=some Yo->nd.left=Yo.left->nd.right=Yo.right->j=k
theorem aU.func{il:α->eC->Prop}{ns:List (Nd α)}(hu:Yn n0 ns){k':Nat}(h:aU il n0 ns d k)(h':aU il n0 ns d k'):k=k':=by
 induction d generalizing k k' with
 | base a=>rw[h.1,h'.1]
 | snoc d a ih=>
  obtain ⟨h1,_,_,m,_,h2,x,h3⟩:=h;obtain ⟨WN,_,_,m',_,WO,x',SB⟩:=h';exact hu k k' _ _ h1 WN h3 SB (ih h2 WO) rfl
theorem MD [DecidableEq β] {R:α->β->Prop}(hf:∀a b b',R a b->R a b'->b=b'){l:List β}{P:List α}(hn:l.Nodup)(h:∀b∈l,∃a∈P,R a b):l.length<=P.length:=by
 classical
 let f:α->Option β:=λa=>if h:∃b,R a b then some h.choose else none
 have h1:∀b∈l,b∈P.filterMap f:=by intro b hb;obtain ⟨a,ha,hr⟩:=h b hb;refine List.mem_filterMap.2 ⟨a,ha,?_⟩;have he:∃b,R a b:=⟨b,hr⟩;simp only[f,dif_pos he];rw[hf a _ _ he.choose_spec hr]
 exact Nat.le_trans (kM hn h1) (List.length_filterMap_le f P)
theorem uJ(b:UInt8)(a:aN):(ke b a).length<=a.sz:=by
 induction a with
 | dh=>simp[ke,aN.sz]
 | cY i c=>simp only[ke];split<;>simp[aN.sz]
 | seq i x y um uo=>
  simp only[ke,List.length_append,List.length_map,aN.sz];split<;>(try simp only[List.length_nil])<;>omega
 | alt i x y um uo=>simp only[ke,List.length_append,aN.sz];omega
 | star i x ih=>simp only[ke,List.length_map,aN.sz];omega
 | plus i j x ih=>simp only[ke,List.length_map,aN.sz];omega
 | eU i x ih=>simp only[ke,aN.sz];omega
theorem fy(b:UInt8)(d:D):(pd b d).length<=d.sz:=by
 induction d with
 | base a=>exact uJ b a
 | snoc d a ih=>
  have:=uJ b a;simp only[pd,List.length_append,List.length_map,D.sz];split<;>(try simp only[List.length_nil])<;>omega
end aO
namespace Go.Proofs.YtgncgdkpkkdaeaaGreatDoor
open Go.RowKit aO Go.Maps
variable {w:World}
theorem Below.drewN'{B:Nat}{a:World}(h:Below B a w)(n:Nat):Below B a (w.drewN n):=⟨h.os,h.tape,h.output,h.size,h.block⟩
theorem cO{P:Program}{ops:Array Oper}{o:Oper}{a:Act}{K:Act->World->Prop}{Q:Exit->Act->World->Prop}{E:Prop}
  (hg:o.guard=none) (s x:Operand) (t:TypeId) (hop:o.op=Op.call { callee:=Callee.builtin Builtin.append,args:=#[s,x],argTypes:=#[t,t] })
  (base:Nat) (e:TypeId) (i:TypeInfo) (z:Value) (size bytes:Nat) (h1:P.underlying t=some (.slice e)) (h2:P.info? e=some i) (h3:i.zero=some z) (h4:i.size=size) (h5:i.bytes=bytes) (h6:z.cells.size=size) (h7:0<size)
  (v:Value) (n:Nat) (xs:List Value) (hs:a.eval s=v) (hown:w.ownsRow base e size v n xs)
  (ad:Addr) (m c:Nat) (news:List Value) (hx:a.eval x=.slice (some ad) m c) (hn:news.length=m*size) (hc:∀j u,news[j]?=some u->w.cell? (ad.add j)=some u) (h1c:∀u∈news,u.oneCell'=true)
  (b1:n+m<=maxLen) (b2:(n+m)*bytes<=140737488355328) (hb:base<=w.heap.size)
  (hK:∀v' w',w'.ownsRow base e size v' (n+m) (xs++news)->w.grownBy w' v.ownBlock->(v'.ownBlock=v.ownBlock∨v'.ownBlock=some w.heap.size)->K (a.put o.dst v') w'):
  if Region.wanted o (yielded ops a.tmps)=true then Oper.wp P o a w K Q else E:=by
 have hw:Region.wanted o (yielded ops a.tmps)=true:=by simp[Region.wanted,hg]
 rw[if_pos hw];obtain ⟨v',w',hr,r2,r3,r4,r5⟩:=run_append_own_at (P:=P) w base t o.type e i z size bytes h1 h2 h3 h4 h5 h6 h7 v n xs hown ad m c news hn hc h1c b1 b2 hb;unfold Oper.wp execOp;simp only[hop,resolve,invoke,builtin,Sem.run_bind,Sem.run_pure,Result.andThen_ok,List.map_toArray,List.map_cons,List.map_nil,hs,hx,hr];exact hK v' w' r2 r3 r5
end Go.Proofs.YtgncgdkpkkdaeaaGreatDoor
namespace aO
def Re.sz:Re->Nat
 | .dh=>1
 | .cY _=>1
 | .seq a b=>a.sz+b.sz+1
 | .alt a b=>a.sz+b.sz+1
 | .star a=>a.sz+1
 | .plus a=>a.sz+2
 | .eU a=>a.sz+1
def Re.leaves:Re->Nat
 | .dh=>0
 | .cY _=>1
 | .seq a b=>a.leaves+b.leaves
 | .alt a b=>a.leaves+b.leaves
 | .star a=>a.leaves
 | .plus a=>a.leaves
 | .eU a=>a.leaves
theorem aN.S3(a:aN):a.re.sz=a.sz:=by induction a<;>simp_all [aN.re,Re.sz,aN.sz]
theorem aN.xQ(a:aN):a.re.leaves=a.leaves:=by induction a<;>simp_all [aN.re,Re.leaves,aN.leaves]
def S4:List Re->Nat
 | []=>0
 | r::rs=>r.sz+1+S4 rs
def S5:List Re->Nat
 | []=>0
 | r::rs=>r.leaves+S5 rs
theorem uK:∀rs:List Re,(bu rs).sz<=S4 rs+1
 | []=>by simp[bu,Re.sz,S4]
 | [r]=>by simp only[bu,S4];omega
 | r::q::rs=>by have:=uK (q::rs);simp only[bu,Re.sz,S4]at *;omega
theorem qT:∀rs:List Re,(bu rs).leaves<=S5 rs
 | []=>by simp[bu,Re.leaves,S5]
 | [r]=>by simp[bu,S5]
 | r::q::rs=>by have:=qT (q::rs);simp only[bu,Re.leaves,S5]at *;omega
mutual
theorem aT.size{s:List UInt8}{o:Option (Re×List UInt8)}(h:aT s o):∀r s',o=some (r,s')->r.sz+1+3*s'.length<=3*s.length/\r.leaves+s'.length<=s.length:=by
 match h with
 | .paren k=>intro r s' e;cases e;have:=bh.size k _ _ rfl;simp only[List.length_cons]at *;omega
 | .fH _=>intro r s' e;cases e
 | .fu _ _=>intro r s' e;cases e
 | .dot=>intro r s' e;cases e;simp[Re.sz,Re.leaves];omega
 | .cY k=>
  rename_i s o;intro r s' e
  cases o with
  | none=>cases e
  | some p=>
   simp only[Option.map_some,Option.some.injEq,Prod.mk.injEq]at e;obtain ⟨rfl,rfl⟩:=e;have:=ew.len (c:=p.1) (s':=p.2) k;simp only[Re.sz,Re.leaves,List.length_cons];omega
 | .one _ _ _=>
  intro r s' e
  cases hp:dC s with
  | none=>rw[hp]at e;cases e
  | some p=>
   rw[hp]at e;simp only[Option.map_some,Option.some.injEq,Prod.mk.injEq]at e;obtain ⟨rfl,rfl⟩:=e;have:=pD (b:=p.1) (s':=p.2) hp;simp only[Re.sz,Re.leaves];omega
 termination_by structural h
theorem cT.size{s:List UInt8}{o:Option (Re×List UInt8)}(h:cT s o):∀r s',o=some (r,s')->r.sz+1+3*s'.length<=3*s.length/\r.leaves+s'.length<=s.length:=by
 match h with
 | .bad _=>intro r s' e;cases e
 | .star k=>intro r s' e;cases e;have:=aT.size k _ _ rfl;simp only[List.length_cons,Re.sz,Re.leaves]at *;omega
 | .plus k=>intro r s' e;cases e;have:=aT.size k _ _ rfl;simp only[List.length_cons,Re.sz,Re.leaves]at *;omega
 | .eU k=>intro r s' e;cases e;have:=aT.size k _ _ rfl;simp only[List.length_cons,Re.sz,Re.leaves]at *;omega
 | .plain k _ _ _=>intro r s' e;cases e;exact aT.size k _ _ rfl
 termination_by structural h
theorem cU.size{s:List UInt8}{o:Option (List Re×List UInt8)}(h:cU s o):∀rs s',o=some (rs,s')->S4 rs+3*s'.length<=3*s.length/\S5 rs+s'.length<=s.length:=by
 match h with
 | .stop _=>intro r s' e;cases e;simp[S4,S5]
 | .bad _ _=>intro r s' e;cases e
 | .more _ k l=>intro r s' e;cases e;have:=cT.size k _ _ rfl;have:=cU.size l _ _ rfl;simp only[S4,S5]at *;omega
 | .jh _ _ _=>intro r s' e;cases e
 termination_by structural h
theorem gZ.size{k:Re}{s:List UInt8}{o:Option (Re×List UInt8)}(h:gZ k s o):∀r s',o=some (r,s')->r.sz+3*s'.length<=k.sz+3*s.length/\r.leaves+s'.length<=k.leaves+s.length:=by
 match h with
 | .stop _=>intro r s' e;cases e;simp
 | .bad _=>intro r s' e;cases e
 | .more (rs:=rs) c m=>
  intro r s' e;have h1:=cU.size c _ _ rfl;have h2:=gZ.size m _ _ e;have h3:=uK rs;have h4:=qT rs;simp only[Re.sz,Re.leaves,List.length_cons]at *;omega
 termination_by structural h
theorem bh.size{s:List UInt8}{o:Option (Re×List UInt8)}(h:bh s o):∀r s',o=some (r,s')->r.sz+3*s'.length<=3*s.length+1/\r.leaves+s'.length<=s.length:=by
 match h with
 | .bad _=>intro r s' e;cases e
 | .one (rs:=rs) c m=>
  intro r s' e;have h1:=cU.size c _ _ rfl;have h2:=gZ.size m _ _ e;have h3:=uK rs;have h4:=qT rs;omega
 termination_by structural h
end
def aN.uL:aN->aN
 | .dh=>.dh
 | .cY i c=>.cY i c
 | .seq i a b=>.seq i b.uL a.uL
 | .alt i a b=>.alt i a.uL b.uL
 | .star i a=>.star i a.uL
 | .plus i j a=>.plus i j a.uL
 | .eU i a=>.eU i a.uL
theorem aN.kt(a:aN):a.uL.ix=a.ix:=by cases a<;>rfl
theorem aN.qU(a:aN):a.uL.re=a.re.rev:=by induction a<;>simp_all [aN.uL,aN.re,Re.rev]
theorem aN.UA(a:aN):a.uL.sz=a.sz:=by induction a<;>simp_all [aN.uL,aN.sz];omega
theorem aN.EB(a:aN):a.uL.leaves=a.leaves:=by induction a<;>simp_all [aN.uL,aN.leaves];omega
theorem dR.uL{α:Type}{il:α->eC->Prop}{ns Bu:List (Nd α)}(h2:∀(i:Nat) h l r e,ns[i]?=some ⟨2,h,l,r,e⟩->Bu[i]?=some ⟨2,h,r,l,e⟩)(hn:∀(i:Nat) nd,nd.kind≠2->ns[i]?=some nd->Bu[i]?=some nd){a:aN}(h:dR il ns a):dR il Bu a.uL:=by
 induction a with
 | dh=>obtain ⟨x,h⟩:=h;exact ⟨x,hn _ _ (by simp) h⟩
 | cY i c=>obtain ⟨h0,x,h1,h2⟩:=h;exact ⟨h0,x,hn _ _ (by simp) h1,h2⟩
 | seq i a b kW lu=>
  obtain ⟨h0,⟨x,h1⟩,h3,h4⟩:=h;refine ⟨h0,⟨x,?_⟩,lu h4,kW h3⟩;rw[aN.kt,aN.kt,aN.qU,aN.qU,fG,fG,Bool.and_comm];exact h2 _ _ _ _ _ h1
 | alt i a b kW lu=>
  obtain ⟨h0,⟨x,h1⟩,h3,h4⟩:=h;refine ⟨h0,⟨x,?_⟩,kW h3,lu h4⟩;rw[aN.kt,aN.kt,aN.qU,aN.qU,fG,fG];exact hn _ _ (by simp) h1
 | star i a ih=>obtain ⟨h0,⟨x,h1⟩,h3⟩:=h;exact ⟨h0,⟨x,by rw[aN.kt];exact hn _ _ (by simp) h1⟩,ih h3⟩
 | plus i j a ih=>obtain ⟨h0,I0,⟨x,h1⟩,⟨y,h4⟩,h3⟩:=h;exact ⟨h0,I0,⟨x,by rw[aN.kt,aN.qU,fG];exact hn _ _ (by simp) h1⟩,⟨y,by rw[aN.kt];exact hn _ _ (by simp) h4⟩,ih h3⟩
 | eU i a ih=>obtain ⟨h0,⟨x,h1⟩,h3⟩:=h;exact ⟨h0,⟨x,by rw[aN.kt];exact hn _ _ (by simp) h1⟩,ih h3⟩
end aO
