import Derived.Test.YtgncgdkpkkdaeaaGreatDoorAU
import Derived.Test.YtgncgdkpkkdaeaaGreatDoorATE
set_option maxRecDepth 20000
set_option maxHeartbeats 4000000
namespace Go.Proofs.YtgncgdkpkkdaeaaGreatDoor
open Go.RowKit bu Go.Maps
def aah(p:List UInt8):Prop:=bH p none∨∃r s',s'≠[]/\bH p (some (r,s'))
def Si(p T:List UInt8)(f:Int)(v:Value):Prop:=
 (60<p.length/\v=.tuple #[.int .i64 0,.int .i64 0,.bool false,.int .i64 1]) ∨
 (p.length<=60/\aah p/\v=.tuple #[.int .i64 0,.int .i64 0,.bool false,.int .i64 6]) ∨
 (∃r,p.length<=60/\bH p (some (r,[]))/\(f<0∨(T.length:Int)<f)/\v=.tuple #[.int .i64 0,.int .i64 0,.bool false,.int .i64 8]) ∨
 (∃r,p.length<=60/\bH p (some (r,[]))/\∃f':Nat,f=f'/\f'<=T.length/\((IsMatch r T f' none/\v=.tuple #[.int .i64 0,.int .i64 0,.bool false,.int .i64 0])∨∃s e:Nat,IsMatch r T f' (some (s,e))/\v=.tuple #[.int .i64 s,.int .i64 e,.bool true,.int .i64 0]))
def gR(p T:List UInt8)(f:Int)(w:World)(e:Ending)(w':World):Prop:=∃v,e=.returned v/\Si p T f v/\Below w.heap.size w w'
theorem aM.below{O:Nat->Prop}{w w':World}{B:Nat}(h:aM O w w')(hB:B<=w.heap.size)(hO:∀k,O k->B<=k):Below B w w':=
 ⟨h.os,h.tape,h.output,h.size,λk hk=>h.keep k ⟨by omega,λho=>by have:=hO k ho;omega⟩⟩
theorem KB(pat text:ByteArray)(f:Int)(w:World)(hT:lC w)(hw:1 < w.heap.size)(hp:pat.size<=maxLen)(hsz:text.size<=maxLen)(hf:(Lit.int .i64 f).wf=true):
  Calls Tryz.prog 73 #[.string pat,.string text,.int .i64 f] w (gR pat.data.toList text.data.toList f w):=by
 have sX:=aa (yF pat w hp);have HT:=aa hT;clear hT;go_enter Tryz.func73,Tryz.ntmps73;go_wp2_with fail;refine sX.out.mono ?_;rintro e w1 ⟨fu,⟨pD,rfl⟩|⟨pD,hno,rfl⟩|⟨pD,sv,a,ns,rfl,hA,Gj,uu,hE1,tX⟩⟩
 ·have hb:=fu.alloc (o:=.cells #[.slice none 0 0,.int .i64 0] 184) fu.size;have aq:=aa (show gR pat.data.toList text.data.toList f w (.returned (.tuple #[.int .i64 0,.int .i64 0,.bool false,.int .i64 1])) (w1.alloc (.cells #[.slice none 0 0,.int .i64 0] 184)) from ⟨_,rfl,.inl ⟨pD,rfl⟩,hb⟩);clear hb fu sX;go_wp2_with fail
  exact bodyPost_ret (v:=.tuple #[.int .i64 0,.int .i64 0,.bool false,.int .i64 1]) (by simp[results,Tryz.results73,go_sem, *]) rfl aq.out
 ·have hb:=fu.alloc (o:=.cells #[.slice none 0 0,.int .i64 0] 184) fu.size;have aq:=aa (show gR pat.data.toList text.data.toList f w (.returned (.tuple #[.int .i64 0,.int .i64 0,.bool false,.int .i64 6])) (w1.alloc (.cells #[.slice none 0 0,.int .i64 0] 184)) from ⟨_,rfl,.inr (.inl ⟨pD,hno,rfl⟩),hb⟩);clear hb fu sX hno;go_wp2_with fail
  exact bodyPost_ret (v:=.tuple #[.int .i64 0,.int .i64 0,.bool false,.int .i64 6]) (by simp[results,Tryz.results73,go_sem, *]) rfl aq.out
 ·have h0:0<ns.length:=by obtain ⟨x,hx⟩:=hE1;exact az hx
  obtain ⟨g,cap,rfl⟩:=aB Gj.1 h0;obtain ⟨ix,XZ⟩:∃ix,ix=a.ix:=⟨_,rfl⟩;rw[<-XZ];have hb:=fu.alloc (o:=.cells #[.slice (some ⟨g,0,none⟩) ns.length cap,.int .i64 ix] 184) fu.size;have HB:=aa hb;have xu:=aa XZ;have HA:=aa hA
  have lp:Below w1.heap.size w1 (w1.alloc (.cells #[.slice (some ⟨g,0,none⟩) ns.length cap,.int .i64 ix] 184)):=cq _ _;have lW:=aa (Gj.base.alloc (.cells #[.slice (some ⟨g,0,none⟩) ns.length cap,.int .i64 ix] 184));have mA:=aa (uu.world (bN.ay lp));have HE2:=aa (hE1.world (bN.ay lp))
  clear fu hA Gj uu hE1 hb lp XZ sX;by_cases iw:f<0
  ·have aq:=aa (show gR pat.data.toList text.data.toList f w (.returned (.tuple #[.int .i64 0,.int .i64 0,.bool false,.int .i64 8])) _ from ⟨_,rfl,.inr (.inr (.inl ⟨a.re,pD,HA.out,.inl iw,rfl⟩)),HB.out⟩);go_wp2_with fail;exact bodyPost_ret (v:=.tuple #[.int .i64 0,.int .i64 0,.bool false,.int .i64 8]) (by simp[results,Tryz.results73,go_sem, *]) rfl aq.out
  ·obtain ⟨f',rfl⟩:∃f':Nat,f=f':=⟨f.toNat,by omega⟩;by_cases EH:text.size<f'
   ·have aq:=aa (show gR pat.data.toList text.data.toList (f':Int) w (.returned (.tuple #[.int .i64 0,.int .i64 0,.bool false,.int .i64 8])) _ from ⟨_,rfl,.inr (.inr (.inl ⟨a.re,pD,HA.out,.inr (by rw[aj];omega),rfl⟩)),HB.out⟩);have hg1:decide ((text.size:Int)<(f':Int))=true:=by simp;omega
    clear iw hf;go_wp2_with fail;exact bodyPost_ret (v:=.tuple #[.int .i64 0,.int .i64 0,.bool false,.int .i64 8]) (by simp[results,Tryz.results73,go_sem, *]) rfl aq.out
   ·have hg1:decide (text.size<f')=false:=by simp;omega
    have hle:f'<=text.size:=by omega
    have hsz':=bH.size HA.out _ _ rfl;rw[aP.TR,aP.yH,aj]at hsz';simp only[List.length_nil]at hsz';have Sj:=aa (wE (.slice (some ⟨g,0,none⟩) ns.length cap) ns a _ (dw hw HB.out.size) lW.out mA.out HE2.out h0 tX (by omega) (by omega) ix xu.out)
    have XS:lC (w1.alloc (.cells #[.slice (some ⟨g,0,none⟩) ns.length cap,.int .i64 ix] 184)):=HT.out.keep (HB.out.block 1 hw);have RU:=aa XS;clear iw hf XS hsz' lW mA HE2;go_wp2_with fail;refine Sj.out.mono ?_;rintro e w3 ⟨ρf,sf,ρb,sb,rfl,iC,dJ⟩;have hb3:=HB.out.trans (iC.mono HB.out.size)
    have KC:=aa (mP _ a ρf sf ρb sb text f' w3 (RU.out.keep (iC.block _ (dw hw HB.out.size))) dJ hle hsz);have fV:=aa hb3;clear iC dJ hb3 Sj RU;unfold yX at KC;unfold yX;go_wp2_with fail;refine KC.out.mono ?_;rintro e w4 ⟨o,ho,rfl,kB,-⟩;have kC:=aa (fV.out.trans (aM.below kB fV.out.size (λk hk=>bJ HB.out.size hk.1)));clear kB KC
    cases o with
    | none=>
     have aq:=aa (show gR pat.data.toList text.data.toList (f':Int) w (.returned (.tuple #[.int .i64 0,.int .i64 0,.bool false,.int .i64 0])) w4 from ⟨_,rfl,.inr (.inr (.inr ⟨a.re,pD,HA.out,f',rfl,hle,.inl ⟨ho,rfl⟩⟩)),kC.out⟩);clear ho HB fV kC;simp only[found];go_wp2_with fail
     exact bodyPost_ret (v:=.tuple #[.int .i64 0,.int .i64 0,.bool false,.int .i64 0]) (by simp[results,Tryz.results73,go_sem, *]) rfl aq.out
    | some p=>
     obtain ⟨s,e⟩:=p;have aq:=aa (show gR pat.data.toList text.data.toList (f':Int) w (.returned (.tuple #[.int .i64 s,.int .i64 e,.bool true,.int .i64 0])) w4 from ⟨_,rfl,.inr (.inr (.inr ⟨a.re,pD,HA.out,f',rfl,hle,.inr ⟨s,e,ho,rfl⟩⟩)),kC.out⟩);clear ho HB fV kC;simp only[found];go_wp2_with fail
     exact bodyPost_ret (v:=.tuple #[.int .i64 s,.int .i64 e,.bool true,.int .i64 0]) (by simp[results,Tryz.results73,go_sem, *]) rfl aq.out
end Go.Proofs.YtgncgdkpkkdaeaaGreatDoor
namespace Go.Proofs.YtgncgdkpkkdaeaaGreatDoor.Ref
open Go.RowKit bu
theorem dp(n:Int)(w:World):Calls Tryz.prog 17 #[.int .i64 n] w λe w'=>e=.returned (.int .i64 n)/\w'=w:=by go_enter Tryz.func17,Tryz.ntmps17;go_wp2_with fail;go_ret;exact ⟨rfl,rfl⟩
theorem AU(pat text:ByteArray)(f:Int)(w:World)(hT:lC w)(hw:1 < w.heap.size)(hpz:pat.size<=140737488351232)(VA:text.size<=140737488351232)(hf:(Lit.int .i64 f).wf=true):
  Calls Tryz.prog 44 #[.string pat,.string text,.int .i64 f] w λe w'=>e=.returned (.bool true)/\Below w.heap.size w w':=by
 have HM:=aa (KB pat text f w hT hw (by unfold maxLen;omega) (by unfold maxLen;omega) hf);clear hT hw hf;go_enter Tryz.func44,Tryz.ntmps44;go_wp2_with fail;refine HM.out.mono ?_;rintro e w1 ⟨v,rfl,hm,hB⟩;have HB:=aa hB;clear hB HM;rcases hm with ⟨h1,rfl⟩|⟨h1,h2,rfl⟩|⟨r,h1,h2,h3,rfl⟩|⟨r,h1,h2,f',rfl,h3,h4⟩
 ·rw[aj]at h1;have g1:decide ((60:Int)<(pat.size:Int))=true:=by simp;omega
  go_wp2_with fail;refine (dp _ _).mono ?_;rintro e w2 ⟨rfl,rfl⟩;go_wp2_with fail;go_ret;exact ⟨rfl,HB.out⟩
 ·rw[aj]at h1;have OC:¬60<pat.size:=by omega
  have g1:decide (60<pat.size)=false:=by simpa using OC
  have sX:=aa (jH pat w1 h1);have QJ:=aa h2;clear h2;go_wp2_with fail;refine sX.out.mono ?_;rintro e w2 ⟨eE,⟨rfl,hno⟩|⟨P,B,ls,first,r,rfl,qi,lS,AK⟩⟩
  ·have cW:=aa (HB.out.trans (eE.mono HB.out.size));clear eE hno;go_wp2_with fail;refine (dp _ _).mono ?_;rintro e w3 ⟨rfl,rfl⟩;go_wp2_with fail;go_ret;exact ⟨rfl,cW.out⟩
  ·exfalso;rcases QJ.out with h|⟨r',s',hs,h⟩
   ·have:=bH.dz qi h;cases this
   ·have:=bH.dz qi h;simp only[fA,Prod.mk.injEq]at this;exact hs this.2.symm
 ·rw[aj]at h1;have OC:¬60<pat.size:=by omega
  have g1:decide (60<pat.size)=false:=by simpa using OC
  have sX:=aa (jH pat w1 h1);have HP:=aa h2;rw[aj]at h3;clear h2;go_wp2_with fail;refine sX.out.mono ?_;rintro e w2 ⟨eE,⟨rfl,hno⟩|⟨P,B,ls,first,r2,rfl,qi,lS,AK⟩⟩
  ·exfalso;rcases hno with h|⟨r',s',hs,h⟩
   ·have:=bH.dz HP.out h;cases this
   ·have:=bH.dz HP.out h;simp only[fA,Prod.mk.injEq]at this;exact hs this.2.symm
  ·have cW:=aa (HB.out.trans (eE.mono HB.out.size));clear eE qi AK lS;rcases h3 with h3|h3
   ·go_wp2_with fail;refine (dp _ _).mono ?_;rintro e w3 ⟨rfl,rfl⟩;go_wp2_with fail;go_ret;exact ⟨rfl,cW.out⟩
   ·have g2:decide (f<0)=false:=by simp;omega
    have g3:decide ((text.size:Int)<f)=true:=by simpa using h3
    go_wp2_with fail;refine (dp _ _).mono ?_;rintro e w3 ⟨rfl,rfl⟩;go_wp2_with fail;go_ret;exact ⟨rfl,cW.out⟩
 ·rw[aj]at h1 h3;have OC:¬60<pat.size:=by omega
  have g1:decide (60<pat.size)=false:=by simpa using OC
  have sX:=aa (jH pat w1 h1);have HP:=aa h2
  obtain ⟨o,ho,hv⟩:∃o,IsMatch r text.data.toList f' o/\∃(a b:Nat) (x:Bool),v=.tuple #[.int .i64 a,.int .i64 b,.bool x,.int .i64 0]/\found o=.tuple #[.int .i64 a,.int .i64 b,.bool x]:=by
   rcases h4 with ⟨h5,rfl⟩|⟨s,e,h5,rfl⟩
   ·exact ⟨none,h5,0,0,false,rfl,rfl⟩
   ·exact ⟨some (s,e),h5,s,e,true,rfl,rfl⟩
  obtain ⟨a,b,x,rfl,Zi⟩:=hv;have HO:=aa ho;have HFO:=aa Zi;clear h2 h4 ho Zi;go_wp2_with fail;refine sX.out.mono ?_;rintro e w2 ⟨eE,⟨rfl,hno⟩|⟨P,B,ls,first,r2,rfl,qi,lS,AK⟩⟩
  ·exfalso;rcases hno with h|⟨r',s',hs,h⟩
   ·have:=bH.dz HP.out h;cases this
   ·have:=bH.dz HP.out h;simp only[fA,Prod.mk.injEq]at this;exact hs this.2.symm
  ·have hr:=bH.dz qi HP.out;simp only[fA,Prod.mk.injEq,and_true]at hr;subst hr;have cW:=aa (HB.out.trans (eE.mono HB.out.size));have Sj:=aa (mP w2 B P ls first r2 AK (bJ AK.lm.hP (Nat.le_of_lt AK.lm.lt)) text f' h3 VA);have g2:decide ((f':Int)<0)=false:=by simp
   have hnf:¬text.size<f':=by omega
   have g3:decide (text.size<f')=false:=by simpa using hnf
   clear eE qi AK lS;go_wp2_with fail;refine Sj.out.mono ?_;rintro e w3 ⟨o2,We,rfl,iC⟩;obtain rfl:=We.unique HO.out;have fV:=aa (cW.out.trans (iC.mono cW.out.size));rw[HFO.out];clear iC We;go_wp2_with fail;refine (dp _ _).mono ?_;rintro e w4 ⟨rfl,rfl⟩;cases x
   all_goals
    go_wp2_with fail;go_ret;exact ⟨rfl,fV.out⟩
end Go.Proofs.YtgncgdkpkkdaeaaGreatDoor.Ref
