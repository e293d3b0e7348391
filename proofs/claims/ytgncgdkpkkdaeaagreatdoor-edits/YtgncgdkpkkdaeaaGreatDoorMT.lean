import Derived.Test.YtgncgdkpkkdaeaaGreatDoorMR
import Derived.RangeFuncNested
import Derived.RangeFuncBound
import Derived.RangeFuncCalls
import Derived.RangeFuncLeaves
import Derived.Shelf.Abstract
import Derived.Shelf.RegionOpen
import Derived.WalkKit
import Derived.OwnWalkIn
import Derived.TacticsInMore
import Derived.LoopNIn
import Derived.LoopIn
import Derived.Test.YtgncgdkpkkdaeaaGreatDoorMD
import Derived.Test.YtgncgdkpkkdaeaaGreatDoorMP
import Derived.Deep.RegionHeld3
namespace Go.Proofs.YtgncgdkpkkdaeaaGreatDoor
open Go.RowKit aO Go.Maps Go.Shelf
variable {root:aN} {text:ByteArray} {ts:List D} {T:List UInt8} {L bf bi bt f i sf st:Nat} {X Y:Nat->Prop} {ρ ρf:Rd} {r:Re} {w w':World}
attribute [local go_sem] Oper.semAt_some
theorem Kg(hr:root.re=r.rev)(hl:∀u,cW ts L u<->∃j,i<=j/\j<=T.length/\Mt root.re ((iY T i j).reverse++u)):cW ts L []<->From r T i:=by rw[hl];unfold From;simp only[List.append_nil,hr,Uo,List.reverse_reverse]
def Seen(r:Re)(T:List UInt8)(i p:Nat)(o:Bool):Prop:=(o=true->i<=p/\p<=T.length/\From r T p/\∀j,i<=j->j<p->¬From r T j)/\(o=false->p=0/\∀j,i<=j->¬From r T j)
theorem aax{p:Nat}{o:Bool}(hi:i<=T.length)(h1:o=true->i<p/\p<=T.length/\From r T p/\∀j,i<j->j<p->¬From r T j)(h2:o=false->p=0/\∀j,i<j->¬From r T j):(From r T i->Seen r T i i true)/\(¬From r T i->Seen r T i p o):=by
 refine ⟨λh=>⟨λ_=>⟨Nat.le_refl _,hi,h,λj _ _=>by omega⟩,λh=>by cases h⟩,λh=>⟨λho=>?_,λho=>?_⟩⟩
 ·obtain ⟨a1,a2,a3,a4⟩:=h1 ho;refine ⟨by omega,a2,a3,λj h3 h4=>?_⟩;rcases Nat.lt_or_ge i j with h5|h5
  ·exact a4 j h5 h4
  ·have:j=i:=by omega
   subst this;exact h
 ·obtain ⟨a1,a2⟩:=h2 ho;refine ⟨a1,λj h3=>?_⟩;rcases Nat.lt_or_ge i j with h5|h5
  ·exact a2 j h5
  ·have:j=i:=by omega
   subst this;exact h
def yw(X:Nat->Prop)(ρ:Rd)(n0:Nat)(root:aN)(ts:List D)(T:List UInt8)(f:Nat)(J:Nat->World->Prop)(B:World->Prop)(w:World)(k:Nat)(left at_:Value)(wr:World):Prop:=
 ∃(L i:Nat) (us:List D) (er:Nat),left=.int .u64 L/\at_=.int .i64 i/\f+k=i/\i<=T.length/\w.heap.size<=wr.heap.size/\B wr/\Full wr X ρ n0 root (ts++us) er/\nV (ts++us) L/\(∀u,cW (ts++us) L u<->∃j,i<=j/\j<=T.length/\Mt root.re ((iY T i j).reverse++u))/\J (i+1) wr
theorem sy{n0:Nat}{us vF:List D}{R er:Nat}{b:UInt8}{J:Nat->World->Prop}{B:World->Prop}{k:Nat}{wr w3:World}(hf:f+(k+1)=i+1)(hB:B w3)(hi:i+1<=T.length)(hsz:w.heap.size<=wr.heap.size)(hl:∀u,cW (ts++us) L u<->∃j,i+1<=j/\j<=T.length/\Mt root.re ((iY T (i+1) j).reverse++u))
  (hJ:J (i+1) w3) (hb:T[i]?=some b) (hst:nV ts st) (LO:∀u,cW ts st u<->Mt root.re u) (dB:Fx X wr w3) (nW:Full w3 X ρ n0 root (ts++us++vF) er) (hR:nV (ts++us++vF) R) (Z8:∀u,cW (ts++us++vF) R u<->cW (ts++us) L (b::u)):
  yw X ρ n0 root ts T f J B w k (.int .u64 ((R ||| st:Nat):Int)) (.int .i64 i) w3:=by
 rw[List.append_assoc]at nW hR Z8;have e1:∀j,i+1<=j->∀u,(iY T i j).reverse++u=(iY T (i+1) j).reverse++b::u:=λj hj u=>by rw[iL T (Nat.le_succ i) hj,zK T hb];simp
 refine ⟨R ||| st,i,us++vF,er,rfl,rfl,by omega,by omega,Nat.le_trans hsz dB.size,hB,nW,hR.or hst.append,λu=>?_,hJ⟩;rw[cW.or,Z8,hl,cW.append hst,LO];constructor
 ·rintro (⟨j,h1,h2,h3⟩|h)
  ·exact ⟨j,by omega,h2,by rw[e1 j h1];exact h3⟩
  ·exact ⟨i,Nat.le_refl _,by omega,by rw[fL];simpa using h⟩
 ·rintro ⟨j,h1,h2,h3⟩;rcases Nat.lt_or_ge i j with h|h
  ·exact .inl ⟨j,h,h2,by rw[<-e1 j h];exact h3⟩
  ·have:j=i:=by omega
   subst this;rw[fL]at h3;exact .inr (by simpa using h3)
def FV(X:Nat->Prop)(ρ:Rd)(n0:Nat)(root:aN)(ts:List D)(f:Nat)(J Jx:Nat->World->Prop)(e:Ending)(w':World):Prop:=
 (∃v,e=.returned v)/\(∃us er,Full w' X ρ n0 root (ts++us) er)/\(J f w'∨∃i,Jx i w')
def eN(ρf:Rd)(sf:Nat)(ρ:Rd)(st:Nat):Obj:=.cells #[.int .u64 sf,.func (.func 179) #[] #[.pointer (some ⟨ρf.av,0,none⟩)],.func (.func 181) #[] #[.pointer (some ⟨ρf.ev,0,none⟩)],.int .u64 st,.func (.func 179) #[] #[.pointer (some ⟨ρ.av,0,none⟩)],.func (.func 181) #[] #[.pointer (some ⟨ρ.ev,0,none⟩)]] 194 (0,0)
structure qf(bf bt bi:Nat)(ρf:Rd)(sf:Nat)(ρ:Rd)(st:Nat)(text:ByteArray)(f:Nat)(w:World):Prop where
 fin:w.heap[bf]?=some (eN ρf sf ρ st)
 txt:w.heap[bt]?=some (.cells #[.string text] 9 (0,0))
 XF:w.heap[bi]?=some (.cells #[.int .i64 f] 3 (0,0))
 tab:kK w
structure RP(X Y:Nat->Prop)(bf bt bi:Nat):Prop where
 sub:∀k,Y k->X k
 f:X bf/\¬Y bf
 t:X bt/\¬Y bt
 i:X bi/\¬Y bi
 z:X 1/\¬Y 1
theorem qf.fx(h:qf bf bt bi ρf sf ρ st text f w)(ho:RP X Y bf bt bi)(hF:Fx X w w'):qf bf bt bi ρf sf ρ st text f w':=
 ⟨(hF.keep _ ho.f.1).trans h.fin,(hF.keep _ ho.t.1).trans h.txt,(hF.keep _ ho.i.1).trans h.XF,h.tab.keep (hF.keep 1 ho.z.1)⟩
theorem qf.off(h:qf bf bt bi ρf sf ρ st text f w)(ho:RP X Y bf bt bi)(h0:1 < w.heap.size)(hF:aK Y w w'):qf bf bt bi ρf sf ρ st text f w':=
 ⟨hF.same h.fin ho.f.2,hF.same h.txt ho.t.2,hF.same h.XF ho.i.2,h.tab.keep (hF.keep 1 ⟨h0,ho.z.2⟩)⟩
set_option maxHeartbeats 2000000 in
theorem FW(n:Nat)(X Y:Nat->Prop)(ρf:Rd)(sf:Nat)(ρ:Rd)(n0:Nat)(root:aN)(ts:List D)(en:Nat)(st:Nat)(r:Re)(text:ByteArray)(f l bf bt bi:Nat)(J Jx:Nat->World->Prop)(w:World)(hX:ia X w)(ho:RP X Y bf bt bi)(hB:qf bf bt bi ρf sf ρ st text f w)(hF:Full w X ρ n0 root ts en)(hi:nV ts st)(hl:∀u,cW ts st u<->Mt root.re u)(hr:root.re=r.rev)(hs:f<=text.size)(hsz:text.size<=maxLen)
  (hJ:∀i A B,J i A->Fx X A B->J i B) (hJs:∀i A,f<=i->i<=text.size->¬From r text.data.toList i->J (i+1) A->J i A)
  (hY:∀i A,f<=i->i<=text.size->From r text.data.toList i->J (i+1) A->YieldAt Fence.wide (n - 1) Tryz.prog l #[.int .i64 i] A λe B=>aK Y A B/\((e=.returned (.bool true)/\J i B)∨(e=.returned (.bool false)/\Jx i B)))
  (h0:J (text.size+1) w):
  CallsIn Fence.wide n Tryz.prog 182 #[.func (.yield l) #[] #[],.pointer (some ⟨bf,0,none⟩),.pointer (some ⟨bt,0,none⟩),.pointer (some ⟨bi,0,none⟩)] w (FV X ρ n0 root ts f J Jx):=by
 refine callsIn_wide.2 ?_;have b3:w.cell? ⟨bf,3,none⟩=some (.int .u64 st):=by simp[World.cell?,hB.fin,eN]
 have b4:w.cell? ⟨bt,0,none⟩=some (.string text):=by simp[World.cell?,hB.txt]
 have TC:=hi.lt (by have:=hF.few;omega);have hT0:=hX _ ho.z.1;have HX:=aa hX;have HO:=aa ho;have HB:=aa hB;have HF:=aa hF;have HI:=aa hi;have HL:=aa hl;have HR:=aa hr;have HJ:=aa hJ;have HJS:=aa hJs;have HY:=aa hY;have H0:=aa h0;clear hX ho hB hF hi hl hr hJ hJs hY h0;go_enter Tryz.func182,Tryz.ntmps182;go_wp2_with fail
 go_loopg [5,6] (text.size - f) (λk left at_ wr=>yw X ρ n0 root ts text.data.toList f J (qf bf bt bi ρf sf ρ st text f) w k left at_ wr)
 case atStart=>
  refine ⟨st,text.size,[],en,rfl,rfl,by omega,Nat.le_refl _,Nat.le_refl _,HB.out,by simpa using HF.out,by simpa using HI.out,λu=>?_,H0.out⟩;rw[List.append_nil,HL.out];constructor
  ·intro h;exact ⟨text.size,Nat.le_refl _,Nat.le_refl _,by rw[fL];simpa using h⟩
  ·rintro ⟨j,h1,h2,h3⟩;have:j=text.size:=by rw[ah]at h2;omega
   subst this;rw[fL]at h3;simpa using h3
 case round=>
  obtain ⟨L,i,us,er,rfl,rfl,hk,hi,hsw,kD,nW,hL,hl,hj⟩:=hrel;have r5:wr.cell? ⟨bf,5,none⟩=some (.func (.func 181) #[] #[.pointer (some ⟨ρ.ev,0,none⟩)]):=by simp[World.cell?,kD.fin,eN]
  have oD:=aa (yl X ρ n0 root (ts++us) er L wr nW hL);have GF:=aa (Kg HR.out hl);rw[ah]at hi;have wH:=aa kD;have N9:=aa nW;have CM:=aa hL;have Hl:=aa hl;have Hj:=aa hj;clear nW hL hl hj kD;refine (wpIn_wide (n:=n)).1 ?_;gi_wp2_with fail;refine ⟨trivial,λh=>(by cases h),(callsIn_wide.2 oD.out).mono ?_⟩;rintro e w1 ⟨x,rfl,rfl,hx⟩
  have c0:w1.cell? ⟨bi,0,none⟩=some (.int .i64 f):=by simp[World.cell?,wH.out.XF]
  cases x with
  | true=>
   obtain ⟨fn,tmps,assign,body,hy,hR⟩:=HY.out i w1 (by omega) hi (GF.out.1 (hx.1 rfl)) Hj.out;have tV:=aa hR;clear hR hx oD GF;gi_wp2_with fail;refine ⟨λh=>(by cases h),tV.out.mono ?_⟩;rintro e W' ⟨aR,(⟨rfl,hj'⟩|⟨rfl,yO⟩)⟩
   ·have G5:=aa aR;have Kh:=aa (wH.out.off HO.out (Nat.lt_of_lt_of_le hT0 hsw) aR);have RQ:=aa (N9.out.off (aR.sub λk _ hk=>HO.out.sub k hk));have jD:=aa hj';have c1:W'.cell? ⟨bi,0,none⟩=some (.int .i64 f):=by simp[World.cell?,Kh.out.XF]
    clear aR hj' tV hy;by_cases hat:i<=f
    ·obtain rfl:i=f:=by omega
     gi_wp2_with fail;go_end0;exact ⟨⟨_,rfl⟩,⟨us,er,RQ.out⟩,.inl jD.out⟩
    ·have hat':decide (i<=f)=false:=by simp;omega
     obtain ⟨i0,rfl⟩:∃i0,i=i0+1:=⟨i - 1,by omega⟩;have hlt:i0<text.size:=by omega
     have xG:i0+1<=9223372036854775807:=by unfold maxLen at hsz;omega
     obtain ⟨k',rfl⟩:∃k',gk=k'+1:=⟨gk - 1,by omega⟩;have Lr:=aa (mW X ρ n0 root (ts++us) er L text[i0] W'.drew ((HX.out.mono hsw).mono G5.out.size) HO.out.z.1 Kh.out.tab (RQ.out.below (Below.refl _ _).drew) CM.out);have VO:=aa (pX hlt);have HK:=aa hk;have hwr:IntKind.i64.wrap (i0:Int)=(i0:Int):=by rw[IntKind.wrap_i64];omega
     have g3:W'.cell? ⟨bf,3,none⟩=some (.int .u64 st):=by simp[World.cell?,Kh.out.fin,eN]
     have g4:W'.cell? ⟨bf,4,none⟩=some (.func (.func 179) #[] #[.pointer (some ⟨ρ.av,0,none⟩)]):=by simp[World.cell?,Kh.out.fin,eN]
     have g5:W'.cell? ⟨bt,0,none⟩=some (.string text):=by simp[World.cell?,Kh.out.txt]
     have HSW:=aa (show w.heap.size<=W'.heap.size from Nat.le_trans hsw G5.out.size)
     have wU:=aa (λ(w3:World) (h3:qf bf bt bi ρf sf ρ st text f w3)=>show w3.cell? ⟨bf,3,none⟩=some (.int .u64 st)/\w3.cell? ⟨bf,4,none⟩=some (.func (.func 179) #[] #[.pointer (some ⟨ρ.av,0,none⟩)])/\w3.cell? ⟨bt,0,none⟩=some (.string text) from ⟨by simp[World.cell?,h3.fin,eN],by simp[World.cell?,h3.fin,eN],by simp[World.cell?,h3.txt]⟩)
     gi_wp2_with fail;refine wpIn_wide.2 ?_
     go_region_held3 (λw'=>w'.cell? ⟨bf,3,none⟩=some (.int .u64 st)/\w'.cell? ⟨bf,4,none⟩=some (.func (.func 179) #[] #[.pointer (some ⟨ρ.av,0,none⟩)])/\w'.cell? ⟨bt,0,none⟩=some (.string text))
      (first
       | with_reducible exact AE
       | go_keep)
      (first
       | (go_at_call 179;refine Lr.out.mono ?_;rintro e3 w3 ⟨R,vF,Tn,rfl,dB,ma,BL,xC⟩;have gY:=qf.fx Kh.out HO.out dB.gT;have AE:=wU.out w3 gY;have HST:=aa (sy HK.out gY (by rw[ah];omega) HSW.out Hl.out (HJ.out _ _ _ jD.out dB.gT) VO.out HI.out HL.out dB.gT ma BL xC);have Rn:=aa (bits_or_u64_nat R st (BL.lt (by have:=ma.few;omega)) TC);clear dB ma BL xC gY))
     all_goals
      gi_wp2_with fail;go_roundg k'
      case measure=>omega
      case rel=>have hst:=HST.out;rw[<-Rn.out]at hst;exact hst
   ·have RQ:=aa (N9.out.off (aR.sub λk _ hk=>HO.out.sub k hk));have jD:=aa yO;clear aR yO tV hy;gi_wp2_with fail;go_end0;exact ⟨⟨_,rfl⟩,⟨us,er,RQ.out⟩,.inr ⟨i,jD.out⟩⟩
  | false=>
   have HJN:=aa (HJS.out i w1 (by omega) hi (λh=>by simpa using hx.2 (GF.out.2 h)) Hj.out);clear hx oD;by_cases hat:i<=f
   ·obtain rfl:i=f:=by omega
    gi_wp2_with fail;refine ⟨λ_ h=>(by cases h),?_⟩;gi_wp2_with fail;go_end0;exact ⟨⟨_,rfl⟩,⟨us,er,N9.out⟩,.inl HJN.out⟩
   ·have hat':decide (i<=f)=false:=by simp;omega
    obtain ⟨i0,rfl⟩:∃i0,i=i0+1:=⟨i - 1,by omega⟩;have hlt:i0<text.size:=by omega
    have xG:i0+1<=9223372036854775807:=by unfold maxLen at hsz;omega
    obtain ⟨k',rfl⟩:∃k',gk=k'+1:=⟨gk - 1,by omega⟩;have Lr:=aa (mW X ρ n0 root (ts++us) er L text[i0] w1.drew ((HX.out.mono hsw).mono (Nat.le_refl _)) HO.out.z.1 wH.out.tab (N9.out.below (Below.refl _ _).drew) CM.out);have VO:=aa (pX hlt);have HK:=aa hk;have hwr:IntKind.i64.wrap (i0:Int)=(i0:Int):=by rw[IntKind.wrap_i64];omega
    have g3:w1.cell? ⟨bf,3,none⟩=some (.int .u64 st):=by simp[World.cell?,wH.out.fin,eN]
    have g4:w1.cell? ⟨bf,4,none⟩=some (.func (.func 179) #[] #[.pointer (some ⟨ρ.av,0,none⟩)]):=by simp[World.cell?,wH.out.fin,eN]
    have g5:w1.cell? ⟨bt,0,none⟩=some (.string text):=by simp[World.cell?,wH.out.txt]
    have HSW:=aa (show w.heap.size<=w1.heap.size from Nat.le_trans hsw (Nat.le_refl _))
    have wU:=aa (λ(w3:World) (h3:qf bf bt bi ρf sf ρ st text f w3)=>show w3.cell? ⟨bf,3,none⟩=some (.int .u64 st)/\w3.cell? ⟨bf,4,none⟩=some (.func (.func 179) #[] #[.pointer (some ⟨ρ.av,0,none⟩)])/\w3.cell? ⟨bt,0,none⟩=some (.string text) from ⟨by simp[World.cell?,h3.fin,eN],by simp[World.cell?,h3.fin,eN],by simp[World.cell?,h3.txt]⟩)
    gi_wp2_with fail;refine ⟨λ_ h=>(by cases h),?_⟩;gi_wp2_with fail;refine wpIn_wide.2 ?_
    go_region_held3 (λw'=>w'.cell? ⟨bf,3,none⟩=some (.int .u64 st)/\w'.cell? ⟨bf,4,none⟩=some (.func (.func 179) #[] #[.pointer (some ⟨ρ.av,0,none⟩)])/\w'.cell? ⟨bt,0,none⟩=some (.string text))
     (first
      | with_reducible exact AE
      | go_keep)
     (first
      | (go_at_call 179;refine Lr.out.mono ?_;rintro e3 w3 ⟨R,vF,Tn,rfl,dB,ma,BL,xC⟩;have gY:=qf.fx wH.out HO.out dB.gT;have AE:=wU.out w3 gY;have HST:=aa (sy HK.out gY (by rw[ah];omega) HSW.out Hl.out (HJ.out _ _ _ HJN.out dB.gT) VO.out HI.out HL.out dB.gT ma BL xC);have Rn:=aa (bits_or_u64_nat R st (BL.lt (by have:=ma.few;omega)) TC);clear dB ma BL xC gY))
    all_goals
     gi_wp2_with fail;go_roundg k'
     case measure=>omega
     case rel=>have hst:=HST.out;rw[<-Rn.out]at hst;exact hst
end Go.Proofs.YtgncgdkpkkdaeaaGreatDoor
namespace Go.Proofs.YtgncgdkpkkdaeaaGreatDoor
open Go.RowKit aO Go.Maps
variable {a:aN} {p:Addr} {ns:List (Nd Value)} {bz g sb sf:Nat} {O:Nat->Prop} {ρb ρf:Rd} {v x0 x1 x2 x3 x4 z0 z1 z2 z3 z4:Value} {w w' w4:World}
structure aP(w:World)(O:Nat->Prop)(a:aN)(ρf:Rd)(sf:Nat)(ρb:Rd)(sb:Nat):Prop where
 old:∀k,O k->k<w.heap.size
 tab:¬O 1
 parts:∃Of Ob:Nat->Prop,(∀k,Of k->O k)/\(∀k,Ob k->O k)/\(∀k,Of k->¬Ob k)/\qc w Of a ρf sf/\qc w Ob a.uL ρb sb
theorem aP.FX(h:aP w O a ρf sf ρb sb):1 < w.heap.size:=by obtain ⟨Of,Ob,h1,h2,h3,h4,h5⟩:=h.parts;exact h4.tab.2
theorem aP.off{Y:Nat->Prop}(h:aP w O a ρf sf ρb sb)(ho:aK Y w w')(hd:∀k,O k->¬Y k):aP w' O a ρf sf ρb sb:=by obtain ⟨Of,Ob,h1,h2,h3,h4,h5⟩:=h.parts;exact ⟨λk hk=>Nat.lt_of_lt_of_le (h.old k hk) ho.size,h.tab,Of,Ob,h1,h2,h3,h4.off ho (λk hk=>hd k (h1 k hk)),h5.off ho (λk hk=>hd k (h2 k hk))⟩
theorem aP.vI{Z:Nat->Prop}(h:aP w O a ρf sf ρb sb)(hz:∀k,Z k->k<w.heap.size)(ht:¬Z 1)(hs:∀k,O k->Z k):aP w Z a ρf sf ρb sb:=by obtain ⟨Of,Ob,h1,h2,h3,h4,h5⟩:=h.parts;exact ⟨hz,ht,Of,Ob,λk hk=>hs k (h1 k hk),λk hk=>hs k (h2 k hk),h3,h4,h5⟩
theorem aP.below(h:aP w O a ρf sf ρb sb)(hb:Below w.heap.size w w'):aP w' O a ρf sf ρb sb:=
 h.off (Y:=λ_=>False) (aK.au hb) (λ_ _ h=>h)
def Aj(r:Re)(T:List UInt8)(s stop:Nat):Prop:=s<=stop/\stop<=T.length/\(stop=s∨Mt r (iY T s stop))/\∀j,stop<j->j<=T.length->¬Mt r (iY T s j)
def RR(O:Nat->Prop)(a:aN)(ρf:Rd)(sf:Nat)(ρb:Rd)(sb:Nat)(T:List UInt8)(s:Nat)(w:World)(e:Ending)(w':World):Prop:=
 ∃stop:Nat,e=.returned (.int .i64 stop)/\aK O w w'/\aP w' (grow O w w') a ρf sf ρb sb/\Aj a.re T s stop
theorem aay{k:Nat}(h:O k):grow O w w' k:=.inl h
theorem H9(O:Nat->Prop)(a:aN)(ρf:Rd)(sf:Nat)(ρb:Rd)(sb:Nat)(text:ByteArray)(s:Nat)(w:World)(hT:kK w)(hF:aP w O a ρf sf ρb sb)(hs:s<=text.size)(hsz:text.size<=maxLen):
  Calls Tryz.prog 129 #[yg ρf sf ρb sb,.string text,.int .i64 s] w (RR O a ρf sf ρb sb text.data.toList s w):=by
 obtain ⟨Of,Ob,h1,h2,h3,h4,h5⟩:=hF.parts;obtain ⟨n0,ts,en,nW,hi,hl⟩:=h4.full;refine (CU (N7 Of w) ρf n0 a ts en sf ρb sb text s w (Hv _ _) ⟨h4.tab.2,h4.tab.1⟩ hT nW hi hl hs hsz).mono ?_;rintro e w' ⟨stop,us,er,rfl,nz,V4,qd⟩
 refine ⟨stop,rfl,(aK.N8 nz).sub λk _ hk=>h1 k hk,⟨λk hk=>?_,λhk=>hk.elim hF.tab (λh=>by have:=hF.FX;omega),grow Of w w',Ob,λk hk=>?_,λk hk=>.inl (h2 k hk),λk hk hb=>?_,h4.grown nz V4 hi hl,h5.off (aK.N8 nz) λk hb hk=>h3 k hk hb⟩,qd⟩
 ·exact hk.elim (λh=>Nat.lt_of_lt_of_le (hF.old k h) nz.size) (λh=>h.2)
 ·exact hk.elim (λh=>.inl (h1 k h)) .inr
 ·rcases hk with hk|hk
  ·exact h3 k hk hb
  ·have:=h5.old k hb;omega
theorem sB(n:Nat)(O Y:Nat->Prop)(a:aN)(ρf:Rd)(sf:Nat)(ρb:Rd)(sb:Nat)(text:ByteArray)(f l bf bt bi:Nat)(J Jx:Nat->World->Prop)(w:World)(hF:aP w O a ρf sf ρb sb)(hB:qf bf bt bi ρf sf ρb sb text f w)(hs:f<=text.size)(hsz:text.size<=maxLen)
  (hYO:∀k,Y k->¬O k) (hYw:∀k,Y k->k<w.heap.size) (hf:¬O bf/\¬Y bf) (ht:¬O bt/\¬Y bt) (RS:¬O bi/\¬Y bi) (hz:¬Y 1)
  (hJ:∀i A B,J i A->aK (λk=>O k∨w.heap.size<=k) A B->J i B) (hJs:∀i A,f<=i->i<=text.size->¬From a.re text.data.toList i->J (i+1) A->J i A)
  (hY:∀i A,f<=i->i<=text.size->From a.re text.data.toList i->J (i+1) A->YieldAt Fence.wide (n - 1) Tryz.prog l #[.int .i64 i] A λe B=>aK Y A B/\((e=.returned (.bool true)/\J i B)∨(e=.returned (.bool false)/\Jx i B)))
  (h0:J (text.size+1) w):
  CallsIn Fence.wide n Tryz.prog 182 #[.func (.yield l) #[] #[],.pointer (some ⟨bf,0,none⟩),.pointer (some ⟨bt,0,none⟩),.pointer (some ⟨bi,0,none⟩)] w (λe w'=>(∃v,e=.returned v)/\(∃O',(∀k,O' k->O k∨w.heap.size<=k)/\aP w' O' a ρf sf ρb sb)/\(J f w'∨∃i,Jx i w')):=by
 obtain ⟨Of,Ob,h1,h2,h3,h4,h5⟩:=hF.parts;obtain ⟨n0,ts,en,nW,hi,hl⟩:=h5.full;have DI:RP (N7 Ob w) Y bf bt bi:=⟨λk hk=>⟨hYw k hk,λh=>hYO k hk (h2 k h)⟩,⟨⟨ae hB.fin,λh=>hf.1 (h2 _ h)⟩,hf.2⟩,⟨⟨ae hB.txt,λh=>ht.1 (h2 _ h)⟩,ht.2⟩,⟨⟨ae hB.XF,λh=>RS.1 (h2 _ h)⟩,RS.2⟩,⟨⟨h5.tab.2,h5.tab.1⟩,hz⟩⟩
 have hX:∀(A B:World),w.heap.size<=A.heap.size->Fx (N7 Ob w) A B->aK (λk=>Ob k∨w.heap.size<=k) A B:=λA B _ h=>h.sub λk hk=>⟨Nat.lt_of_not_le λh=>hk.2 (.inr h),λh=>hk.2 (.inl h)⟩
 have hnf:∀k,Of k->¬(Ob k∨w.heap.size<=k):=λk hk h=>h.elim (h3 k hk) (λh=>by have:=h4.old k hk;omega)
 refine (FW n (N7 Ob w) Y ρf sf ρb n0 a.uL ts en sb a.re text f l bf bt bi (λi W=>J i W/\w.heap.size<=W.heap.size/\qc W Of a ρf sf) (λi W=>Jx i W/\w.heap.size<=W.heap.size/\qc W Of a ρf sf) w (Hv _ _) DI hB nW hi hl a.qU hs hsz ?_ ?_ ?_ ⟨h0,Nat.le_refl _,h4⟩).mono ?_
 ·rintro i A B ⟨hj,ID,hr⟩ nz;have aR:=hX A B ID nz;exact ⟨hJ i A B hj (aR.sub λk _ hk=>hk.elim (λh=>.inl (h2 k h)) .inr),Nat.le_trans ID nz.size,hr.off aR hnf⟩
 ·rintro i A xG DY hn ⟨hj,hr⟩;exact ⟨hJs i A xG DY hn hj,hr⟩
 ·rintro i A xG DY mi ⟨hj,ID,hr⟩;obtain ⟨fn,tmps,assign,body,hy,hR⟩:=hY i A xG DY mi hj;refine ⟨fn,tmps,assign,body,hy,hR.mono ?_⟩;rintro e B ⟨aR,AG⟩;have zI:=hr.off aR (λk hk hy=>hYO k hy (h1 k hk));exact ⟨aR,AG.imp (λh=>⟨h.1,h.2,Nat.le_trans ID aR.size,zI⟩) (λh=>⟨h.1,h.2,Nat.le_trans ID aR.size,zI⟩)⟩
 ·rintro e w' ⟨hv,⟨us,er,V4⟩,hend⟩
  have IM:w.heap.size<=w'.heap.size/\qc w' Of a ρf sf/\(J f w'∨∃i,Jx i w'):=by
   rcases hend with ⟨hj,hs,hr⟩|⟨i,hj,hs,hr⟩
   ·exact ⟨hs,hr,.inl hj⟩
   ·exact ⟨hs,hr,.inr ⟨i,hj⟩⟩
  obtain ⟨hsz',hr,aaz⟩:=IM;refine ⟨hv,⟨λk=>(O k∨w.heap.size<=k)/\k<w'.heap.size,λk hk=>hk.1,⟨λk hk=>hk.2,λhk=>hk.1.elim hF.tab (λh=>by have:=hF.FX;omega),Of,grow Ob w w',λk hk=>⟨.inl (h1 k hk),hr.old k hk⟩,λk hk=>?_,λk hk hb=>?_,hr,?_⟩⟩,aaz⟩
  ·rcases hk with hk|hk
   ·exact ⟨.inl (h2 k hk),Nat.lt_of_lt_of_le (h5.old k hk) hsz'⟩
   ·exact ⟨.inr hk.1,hk.2⟩
  ·rcases hb with hb|hb
   ·exact h3 k hk hb
   ·have:=h4.old k hk;omega
  ·refine ⟨λk hk=>hk.elim (λh1=>Nat.lt_of_lt_of_le (h5.old k h1) hsz') (λh=>h.2),⟨λhk=>hk.elim h5.tab.1 (λh1=>by have:=h5.tab.2;omega),Nat.lt_of_lt_of_le h5.tab.2 hsz'⟩,n0,ts++us,er,V4.vI λk hk=>?_,hi.append,λu=>(cW.append hi u).trans (hl u)⟩;refine .inl ⟨?_,λh=>hk.2 (.inl h)⟩;rcases Nat.lt_or_ge k w.heap.size with hlt|kg
   ·exact hlt
   ·exact absurd (.inr ⟨kg,hk.1⟩) hk.2
theorem qg(h:dR (aF w) ns a):dR (aF w) (ns.map swp) a.uL:=by
 refine h.uL (λi x l r e hi=>?_) (λi nd hk hi=>?_)
 ·rw[List.getElem?_map,hi];rfl
 ·rw[List.getElem?_map,hi];simp[swp,hk]
theorem bj.base{B:Nat}{sv:Value}(h:bj w B sv ns):bj w 0 sv ns:=by
 obtain ⟨⟨h1,h2⟩,h3⟩:=h;refine ⟨⟨h1,?_⟩,h3⟩;rcases h2 with h2|⟨g,cap,cur,a1,a2,a3⟩
 ·exact .inl h2
 ·exact .inr ⟨g,cap,cur,a1,Nat.zero_le _,a3⟩
def vN(a:aN)(w:World)(e:Ending)(w':World):Prop:=
 ∃ρf sf ρb sb,e=.returned (yg ρf sf ρb sb)/\Below w.heap.size w w'/\aP w' (λk=>w.heap.size<=k/\k<w'.heap.size) a ρf sf ρb sb
theorem Full.mm{X:Nat->Prop}{ρ:Rd}{n0:Nat}{root:aN}{ts:List D}{en:Nat}(h:Full w X ρ n0 root ts en)(hk:∀(k:Nat) o,w.heap[k]?=some o->(∀c fz,o≠.cells c 194 fz)->w'.heap[k]?=some o):Full w' X ρ n0 root ts en:=by
 obtain ⟨⟨ns,cC,hD⟩,hs,hK,m,f,ks,hm,h1,h2,h3,h4⟩:=h;have hc:∀(k:Nat) c t fz,t≠194->w.heap[k]?=some (.cells c t fz)->w'.heap[k]?=some (.cells c t fz):=λk c t fz ht hh=>hk k _ hh (λc' WJ e=>by cases e;exact ht rfl)
 have hmap:∀(k:Nat) es kY,w.heap[k]?=some (.map es kY)->w'.heap[k]?=some (.map es kY):=λk es kY hh=>hk k _ hh (λc' WJ e=>by cases e)
 have hst:bH w w':=λk c t ht hh=>hc k c t _ (by rcases ht with rfl|rfl<;>decide) hh
 obtain ⟨pv,hN,hv⟩:=hD.uW
 refine ⟨⟨ns,cC,hD.shelf.keep hst (λk o _ ho xE=>hk k o ho (λc fz e=>?_)) (λ_ h=>.inl h),⟨pv,⟨hc _ _ _ _ (by decide) hN.var,hN.row.iF λk hk=>?_,?_,hN.nodup,hN.small⟩,hv⟩,hc _ _ _ _ (by decide) hD.ev,hD.nX,hD.jL.mono λd k hh=>aU.world hst hh,hD.met,hD.bits,hD.sz,hD.leaves⟩,⟨hc _ _ _ _ (by decide) hs.sv,hc _ _ _ _ (by decide) hs.mv,hc _ _ _ _ (by decide) hs.nv,hc _ _ _ _ (by decide) hs.xv,hc _ _ _ _ (by decide) hs.kk,hc _ _ _ _ (by decide) hs.wk,hc _ _ _ _ (by decide) hs.kv,hc _ _ _ _ (by decide) hs.av⟩,hK,m,f,ks,hm.keep ?_,h1,h2,h3,h4⟩
 ·rcases xE _ _ _ e with h|h<;>cases h
 ·obtain ⟨c,hcc⟩:=hN.row.block hk;rw[hcc];exact hc _ _ _ _ (by decide) hcc
 ·obtain ⟨m,f,hm,h1,h2⟩:=hN.map;obtain ⟨es,kY,ho⟩:=hm.obj;exact ⟨m,f,hm.keep ((hmap _ _ _ ho).trans ho.symm),h1,h2⟩
 ·obtain ⟨es,kY,ho⟩:=hm.obj;exact (hmap _ _ _ ho).trans ho.symm
theorem ack{z5 x5:Value}(h:w4.heap[bz]?=some (.cells #[z0,z1,z2,z3,z4,z5] 194 (0,0))):
  ∃w5,((((((w4.setCell ⟨bz,0,none⟩ x0).setCell ⟨bz,1,none⟩ x1).setCell ⟨bz,2,none⟩ x2).setCell ⟨bz,3,none⟩ x3).setCell ⟨bz,4,none⟩ x4).setCell ⟨bz,5,none⟩ x5)=w5/\w5.heap[bz]?=some (.cells #[x0,x1,x2,x3,x4,x5] 194 (0,0))/\(∀B,B<=bz->Below B w4 w5)/\w5.heap.size=w4.heap.size /\
   ∀{X:Nat->Prop} {ρ:Rd} {n0:Nat} {root:aN} {ts:List D} {en:Nat},Full w4 X ρ n0 root ts en->Full w5 X ρ n0 root ts en:=by
 have h1:=heap_setCell_same w4 bz 0 x0 h;have h2:=heap_setCell_same _ bz 1 x1 h1;have h3:=heap_setCell_same _ bz 2 x2 h2;have h4:=heap_setCell_same _ bz 3 x3 h3;have h5:=heap_setCell_same _ bz 4 x4 h4;have h6:=heap_setCell_same _ bz 5 x5 h5
 refine ⟨_,rfl,by simpa using h6,λB hB=>((((((Below.refl _ _).setCell hB _).setCell hB _).setCell hB _).setCell hB _).setCell hB _).setCell hB _,by simp[World.setCell],λhF=>hF.mm (λj o ho hne=>?_)⟩;have hj:j≠bz:=by rintro rfl;rw[h]at ho;cases ho;exact hne _ _ rfl
 rw[Below.heap_setCell _ _ _ _ (by exact hj),Below.heap_setCell _ _ _ _ (by exact hj),Below.heap_setCell _ _ _ _ (by exact hj),Below.heap_setCell _ _ _ _ (by exact hj),Below.heap_setCell _ _ _ _ (by exact hj),Below.heap_setCell _ _ _ _ (by exact hj)];exact ho
theorem FY{W w1 w3 w5:World}{nf nb:Nat}{tf tb:List D}{ef eb:Nat}(h0:1 < w.heap.size)(jJ:Below w.heap.size w W)(hb1:Below W.heap.size W w1)(hf:Full w1 (old W.heap.size) ρf nf a tf ef)(wR:nV tf sf)(lZ:∀u,cW tf sf u<->Mt a.re u)
  (hb3:Below w1.heap.size w1 w3) (hb4:Below w3.heap.size w3 w4) (hB:Full w4 (old w3.heap.size) ρb nb a.uL tb eb) (hbi:nV tb sb) (hbl:∀u,cW tb sb u<->Mt a.uL.re u) (gM:Below w.heap.size w4 w5) (hs5:w5.heap.size=w4.heap.size)
  (h5:∀{X:Nat->Prop} {ρ:Rd} {n0:Nat} {root:aN} {ts:List D} {en:Nat},Full w4 X ρ n0 root ts en->Full w5 X ρ n0 root ts en):vN a w (.returned (yg ρf sf ρb sb)) w5:=by
 have s0:=jJ.size;have s1:=hb1.size;have s3:=hb3.size;have s4:=hb4.size;have b14:=hb3.trans (hb4.mono s3);have bw4:Below w.heap.size w w4:=jJ.trans ((hb1.trans (b14.mono s1)).mono s0)
 refine ⟨ρf,sf,ρb,sb,rfl,bw4.trans gM,λk hk=>hk.2,λhk=>by have:=hk.1;omega,λk=>W.heap.size<=k/\k<w1.heap.size,λk=>w3.heap.size<=k/\k<w4.heap.size,λk hk=>⟨by omega,by omega⟩,λk hk=>⟨by omega,by omega⟩,λk hk hb=>by omega,⟨λk hk=>by omega,⟨λhk=>by omega,by omega⟩,nf,tf,ef,h5 (Full.below (hf.vI λk hk=>?_) b14),wR,lZ⟩,⟨λk hk=>by omega,⟨λhk=>by omega,by omega⟩,nb,tb,eb,h5 (hB.vI λk hk=>?_),hbi,hbl⟩⟩
 ·rcases Nat.lt_or_ge k w1.heap.size with h|h
  ·exact .inl (show k<W.heap.size from Nat.lt_of_not_le λkg=>hk.2 ⟨kg,h⟩)
  ·exact .inr h
 ·rcases Nat.lt_or_ge k w4.heap.size with h|h
  ·exact .inl (show k<w3.heap.size from Nat.lt_of_not_le λkg=>hk.2 ⟨kg,h⟩)
  ·exact .inr h
set_option maxRecDepth 20000 in
set_option maxHeartbeats 2000000 in
theorem vu(sv:Value)(ns:List (Nd Value))(a:aN)(w:World)(hw:1 < w.heap.size)(hL:bj w 0 sv ns)(hr:dR (aF w) ns a)(he:dR (aF w) ns .dh)(h0:0<ns.length)(hn:ns.length<=200)(hz:a.sz<=200)(hl:a.leaves<=60)(k:Nat)(hk:k=a.ix):
  Calls Tryz.prog 101 #[.agg #[sv,.int .i64 k]] w (vN a w):=by
 obtain ⟨g,cap,rfl⟩:=az hL.1 h0;have hlen:(ns.map swp).length=ns.length:=by simp
 obtain ⟨W,hW⟩:∃W,(w.alloc (.cells #[.slice (some ⟨g,0,none⟩) ns.length cap,.int .i64 k] 184)).alloc (.cells #[.int .u64 0,.nilFunc,.nilFunc,.int .u64 0,.nilFunc,.nilFunc] 194)=W:=⟨_,rfl⟩;have jJ:Below w.heap.size w W:=by rw[<-hW];exact ((Below.refl _ _).alloc (Nat.le_refl _) _).alloc (by simp) _
 have pu:W.heap[w.heap.size]?=some (.cells #[.slice (some ⟨g,0,none⟩) ns.length cap,.int .i64 k] 184 (0,0)):=by rw[<-hW];exact heap_alloc_old (af _ _)
 have DO:W.heap[w.heap.size+1]?=some (.cells #[.int .u64 0,.nilFunc,.nilFunc,.int .u64 0,.nilFunc,.nilFunc] 194 (0,0)):=by
  have h1:=af (w.alloc (.cells #[.slice (some ⟨g,0,none⟩) ns.length cap,.int .i64 k] 184)) (.cells #[.int .u64 0,.nilFunc,.nilFunc,.int .u64 0,.nilFunc,.nilFunc] 194);rw[hW,show (w.alloc (.cells #[.slice (some ⟨g,0,none⟩) ns.length cap,.int .i64 k] 184)).heap.size=w.heap.size+1 by simp]at h1;exact h1
 have Od:∀W',Below W.heap.size W W'->bj W' 0 (.slice (some ⟨g,0,none⟩) ns.length cap) ns:=λW' hb=>hL.keep λj hj=>((jJ.trans (hb.mono jJ.size)).block j (ae (hL.block hj).2.choose_spec))
 have hst:∀W',Below W.heap.size W W'->bH w W':=λW' hb=>bH.au (jJ.trans (hb.mono jJ.size))
 have Ux:=aa (od (.slice (some ⟨g,0,none⟩) ns.length cap) ns a W.drew (Od _ (Below.refl _ _).drew) (hr.world (hst _ (Below.refl _ _).drew)) (he.world (hst _ (Below.refl _ _).drew)) h0 hn hz hl k hk);have HMR:=aa (λ(W':World) (hb:Below W.heap.size W W')=>Ae (.slice (some ⟨g,0,none⟩) ns.length cap) ns W' (Od W' hb) h0 hn)
 have HN2:=aa (λ(W':World) (hb:Below W.heap.size W W') (g3 EN:Nat) (hL3:bj W' 0 (.slice (some ⟨g3,0,none⟩) ns.length EN) (ns.map swp))=>od (.slice (some ⟨g3,0,none⟩) ns.length EN) (ns.map swp) a.uL W' hL3 (qg (hr.world (hst W' hb))) (qg (he.world (hst W' hb))) (by simpa using h0) (by simpa using hn) (by rw[aN.UA];exact hz) (by rw[aN.EB];exact hl) k (by rw[aN.kt];exact hk))
 obtain ⟨q,hq⟩:∃q,q=w.heap.size:=⟨_,rfl⟩;have HQ:=aa hq
 have wU:=aa (λ(W':World) (hb:Below W.heap.size W W')=>show (W'.cell? ⟨q,0,none⟩=some (.slice (some ⟨g,0,none⟩) ns.length cap)/\W'.cell? ⟨q,1,none⟩=some (.int .i64 k))/\(W'.cell? ⟨q+1,0,none⟩=some (.int .u64 0)/\W'.frozen? ⟨q+1,0,none⟩=false/\W'.cell? ⟨q+1,1,none⟩=some (.nilFunc)/\W'.frozen? ⟨q+1,1,none⟩=false/\W'.cell? ⟨q+1,2,none⟩=some (.nilFunc)/\W'.frozen? ⟨q+1,2,none⟩=false/\W'.cell? ⟨q+1,3,none⟩=some (.int .u64 0)/\W'.frozen? ⟨q+1,3,none⟩=false/\W'.cell? ⟨q+1,4,none⟩=some (.nilFunc)/\W'.frozen? ⟨q+1,4,none⟩=false/\W'.cell? ⟨q+1,5,none⟩=some (.nilFunc)/\W'.frozen? ⟨q+1,5,none⟩=false)/\W'.heap[q+1]?=some (.cells #[.int .u64 0,.nilFunc,.nilFunc,.int .u64 0,.nilFunc,.nilFunc] 194 (0,0)) from by
  have h1:=(hb.block _ (ae pu)).trans pu;have h2:=(hb.block _ (ae DO)).trans DO;rw[hq];exact ⟨by simp[World.cell?,h1],by simp[World.cell?,World.frozen?,h2],h2⟩)
 have uw:=aa jJ;clear jJ pu DO Od hst hL hr he hk;go_enter Tryz.func101,Tryz.ntmps101;go_wp2_with fail;rw[<-hq];clear hW hq;have P3:=(wU.out W.drew (Below.refl _ _).drew).1
 go_region_held3 (λw'=>w'.cell? ⟨q,0,none⟩=some (.slice (some ⟨g,0,none⟩) ns.length cap)/\w'.cell? ⟨q,1,none⟩=some (.int .i64 k))
  (first
   | with_reducible exact nD
   | with_reducible exact j4
   | with_reducible exact hS1
   | with_reducible exact P3
   | go_keep)
  (first
   | (go_at_call 140;refine Ux.out.mono ?_;clear Ux;rintro e1 w1 ⟨ρf,sf,tf,ef,rfl,vx,fT,PT,ie⟩;have eR:Below W.heap.size W w1:=⟨vx.os,vx.tape,vx.output,vx.size,vx.block⟩;clear vx;have hS1:=(wU.out w1 eR).1;have bA:=aa eR;have kp:=aa fT;have HI1:=aa PT;have Hl1:=aa ie;clear eR fT PT ie)
   | (go_at_call 141;refine (HMR.out w1 bA.out).mono ?_;clear HMR;rintro e3 w3 ⟨sv3,rfl,gY,hL3⟩;obtain ⟨g3,EN,rfl⟩:=az hL3.1 (by simpa using h0);rw[hlen];rw[hlen]at hL3;have j4:=(wU.out w3 (bA.out.trans (gY.mono bA.out.size))).1;have fB:=aa gY;have HL3:=aa hL3.base;clear gY hL3)
   | (go_at_call 140;refine (HN2.out w3 (bA.out.trans (fB.out.mono bA.out.size)) g3 EN HL3.out).mono ?_;clear HN2;rintro e4 w4 ⟨ρb,sb,tb,eb,rfl,jX,mK,hI4,hl4⟩;have hX3:=wU.out w4 (bA.out.trans ((fB.out.trans (jX.mono fB.out.size)).mono bA.out.size));have nD:=hX3.1;obtain ⟨z0,y0,z1,y1,z2,y2,z3,y3,z4,y4,z5,y5⟩:=hX3.2.1;have HX3:=aa hX3.2.2;clear hX3;have jY:=aa jX;have nw:=aa mK;have Td:=aa hI4;have Hl4:=aa hl4;clear jX mK hI4 hl4;unfold rdv))
 all_goals
  obtain ⟨w5,Ep,gM,wY,hs5,BC⟩:=ack (x0:=.int .u64 sf) (x1:=.func (.func 179) #[] #[.pointer (some ⟨ρf.av,0,none⟩)]) (x2:=.func (.func 181) #[] #[.pointer (some ⟨ρf.ev,0,none⟩)]) (x3:=.int .u64 sb) (x4:=.func (.func 179) #[] #[.pointer (some ⟨ρb.av,0,none⟩)]) (x5:=.func (.func 181) #[] #[.pointer (some ⟨ρb.ev,0,none⟩)]) HX3.out
  rw[Ep];have v0:w5.cell? ⟨q+1,0,none⟩=some (.int .u64 sf):=by simp[World.cell?,gM]
  have v1:w5.cell? ⟨q+1,1,none⟩=some (.func (.func 179) #[] #[.pointer (some ⟨ρf.av,0,none⟩)]):=by simp[World.cell?,gM]
  have v2:w5.cell? ⟨q+1,2,none⟩=some (.func (.func 181) #[] #[.pointer (some ⟨ρf.ev,0,none⟩)]):=by simp[World.cell?,gM]
  have v3:w5.cell? ⟨q+1,3,none⟩=some (.int .u64 sb):=by simp[World.cell?,gM]
  have v4:w5.cell? ⟨q+1,4,none⟩=some (.func (.func 179) #[] #[.pointer (some ⟨ρb.av,0,none⟩)]):=by simp[World.cell?,gM]
  have v5:w5.cell? ⟨q+1,5,none⟩=some (.func (.func 181) #[] #[.pointer (some ⟨ρb.ev,0,none⟩)]):=by simp[World.cell?,gM]
  have ai:=aa (FY hw uw.out bA.out kp.out HI1.out Hl1.out fB.out jY.out nw.out Td.out Hl4.out (wY _ (by rw[<-HQ.out];omega)) hs5 BC);clear Ep gM wY hs5 BC z0 y0 z1 y1 z2 y2 z3 y3 z4 y4 z5 y5 P3 hS1 j4 nD;go_wp2_with fail
  exact bodyPost_ret (v:=.agg #[.int .u64 sf,.func (.func 179) #[] #[.pointer (some ⟨ρf.av,0,none⟩)],.func (.func 181) #[] #[.pointer (some ⟨ρf.ev,0,none⟩)],.int .u64 sb,.func (.func 179) #[] #[.pointer (some ⟨ρb.av,0,none⟩)],.func (.func 181) #[] #[.pointer (some ⟨ρb.ev,0,none⟩)]]) (by simp[results,Tryz.results101,go_sem, *]) rfl ai.out
structure GR where
 k:Nat
 op:Nat
 co:ByteArray
 a:aN
structure GS where
 nm:ByteArray
 rs:List GR
structure Al(w:World)(g o:Nat)(r:GR)(lg ln cp:Nat):Prop where
 c0:w.cell? ⟨g,o,none⟩=some (.int .i64 r.k)
 c1:w.cell? ⟨g,o+1,none⟩=some (.int .i64 r.op)
 c2:w.cell? ⟨g,o+2,none⟩=some (.string r.co)
 c3:w.cell? ⟨g,o+3,none⟩=some (.slice (some ⟨lg,0,none⟩) ln cp)
 c4:w.cell? ⟨g,o+4,none⟩=some (.int .i64 r.a.ix)
 pat:∃ns,ns.length=ln/\bj w 0 (.slice (some ⟨lg,0,none⟩) ln cp) ns/\dR (aF w) ns r.a/\dR (aF w) ns .dh/\0<ns.length/\ns.length<=200/\r.a.sz<=200/\r.a.leaves<=60/\r.a.re.aq=false
def tM(w:World)(v:Value)(rs:List GR):Prop:=
 ∃ao cp,v=.slice ao rs.length cp/\∀(j:Nat) r,rs[j]?=some r->∃rg lg ln lc,ao=some ⟨rg,0,none⟩/\Al w rg (j*5) r lg ln lc
structure bR(w:World)(g n cap:Nat)(G:List GS):Prop where
 len:n=G.length
 few:n<=12
 at_:∀(i:Nat) s,G[i]?=some s->w.cell? ⟨g,i*2,none⟩=some (.string s.nm)/\s.rs.length<=40/\∃v,w.cell? ⟨g,i*2+1,none⟩=some v/\tM w v s.rs
theorem dw(h:w.cell? p=some v):p.block<w.heap.size:=by
 unfold World.cell? at h
 cases ho:w.heap[p.block]? with
 | none=>simp[ho]at h
 | some o=>exact ae ho
theorem ax(h:w.cell? p=some v)(hb:Below w.heap.size w w'):w'.cell? p=some v:=by
 refine (World.cell?_of_block (hb.block p.block ?_)).trans h;unfold World.cell? at h
 cases ho:w.heap[p.block]? with
 | none=>simp[ho]at h
 | some o=>exact ae ho
theorem Al.below{o:Nat}{r:GR}{lg ln cp:Nat}(h:Al w g o r lg ln cp)(hb:Below w.heap.size w w'):Al w' g o r lg ln cp:=by
 obtain ⟨ns,h1,h2,h3,h4,h5⟩:=h.pat;exact ⟨ax h.c0 hb,ax h.c1 hb,ax h.c2 hb,ax h.c3 hb,ax h.c4 hb,ns,h1,h2.keep λj hj=>hb.block j (ae (h2.block hj).2.choose_spec),h3.world (bH.au hb),h4.world (bH.au hb),h5⟩
theorem tM.below{rs:List GR}(h:tM w v rs)(hb:Below w.heap.size w w'):tM w' v rs:=by obtain ⟨ao,cp,h1,h2⟩:=h;exact ⟨ao,cp,h1,λj r hr=>let ⟨rg,lg,ln,lc,h0,h⟩:=h2 j r hr;⟨rg,lg,ln,lc,h0,h.below hb⟩⟩
theorem bR.below{n cap:Nat}{G:List GS}(h:bR w g n cap G)(hb:Below w.heap.size w w'):bR w' g n cap G:=
 ⟨h.len,h.few,λi s hs=>let ⟨h1,h2,v,h3,h4⟩:=h.at_ i s hs;⟨ax h1 hb,h2,v,ax h3 hb,h4.below hb⟩⟩
theorem acm{t:TypeId}(h:w4.heap[bz]?=some (.cells #[z0,z1,z2,z3,z4] t (0,0))):
  ∃w5,(((((w4.setCell ⟨bz,0,none⟩ x0).setCell ⟨bz,1,none⟩ x1).setCell ⟨bz,2,none⟩ x2).setCell ⟨bz,3,none⟩ x3).setCell ⟨bz,4,none⟩ x4)=w5/\w5.heap[bz]?=some (.cells #[x0,x1,x2,x3,x4] t (0,0))/\(∀B,B<=bz->Below B w4 w5)/\w5.heap.size=w4.heap.size/\∀k,k≠bz->w5.heap[k]?=w4.heap[k]?:=by
 have h1:=heap_setCell_same w4 bz 0 x0 h;have h2:=heap_setCell_same _ bz 1 x1 h1;have h3:=heap_setCell_same _ bz 2 x2 h2;have h4:=heap_setCell_same _ bz 3 x3 h3;have h5:=heap_setCell_same _ bz 4 x4 h4;refine ⟨_,rfl,by simpa using h5,λB hB=>(((((Below.refl _ _).setCell hB _).setCell hB _).setCell hB _).setCell hB _).setCell hB _,by simp[World.setCell],λk hk=>?_⟩
 rw[Below.heap_setCell _ _ _ _ (by exact hk),Below.heap_setCell _ _ _ _ (by exact hk),Below.heap_setCell _ _ _ _ (by exact hk),Below.heap_setCell _ _ _ _ (by exact hk),Below.heap_setCell _ _ _ _ (by exact hk)]
def Pv(from_ to:Nat)(nm:ByteArray)(depth:Nat)(co:ByteArray):Value:=.agg #[.int .i64 from_,.int .i64 to,.string nm,.int .i64 depth,.string co]
set_option maxRecDepth 20000 in
set_option maxHeartbeats 2000000 in
theorem CY(g n cap:Nat)(G:List GS)(fv:Value)(hfv:∃f c,fv=.func (.func f) #[] c)(from_ to:Nat)(st:List Nat)(top:Nat)(s:GS)(co:ByteArray)(w:World)(hG:bR w g n cap G)(h8:st.length<=8)(ht:st[st.length - 1]?=some top)(hs:G[top]?=some s):
  Calls Tryz.prog 128 #[.agg #[.slice (some ⟨g,0,none⟩) n cap,fv],.int .i64 from_,.int .i64 to,k9 st,.string co] w λe w'=>e=.returned (Pv from_ to s.nm st.length co)/\Below w.heap.size w w':=by
 obtain ⟨f,c,rfl⟩:=hfv;have hlt:top<n:=by rw[hG.len];exact aw hs
 have cn:=(hG.at_ top s hs).1;have c8:=dK h8;obtain ⟨a0,a1,a2,a3,a4,a5,a6,a7,a8,hy⟩:=nine h8;have Vz:(a8:Int)=st.length:=by rw[hy]at c8;simp at c8;omega
 have HU:=aa (λW=>nU st top h8 ht W);unfold k9 at HU ⊢;rw[hy]at HU ⊢;obtain ⟨q,hq⟩:∃q,q=w.heap.size:=⟨_,rfl⟩
 obtain ⟨W,hW⟩:∃W,((w.alloc (.cells #[.slice (some ⟨g,0,none⟩) n cap,.func (.func f) #[] c] 171)).alloc (.cells #[.int .i64 a0,.int .i64 a1,.int .i64 a2,.int .i64 a3,.int .i64 a4,.int .i64 a5,.int .i64 a6,.int .i64 a7,.int .i64 a8] 138)).alloc (.cells #[.int .i64 0,.int .i64 0,.string ⟨#[]⟩,.int .i64 0,.string ⟨#[]⟩] 70)=W:=⟨_,rfl⟩
 have jJ:Below w.heap.size w W:=by rw[<-hW];exact lj _ _ _ _
 have HW:=aa (show W.heap[q]?=some (.cells #[.slice (some ⟨g,0,none⟩) n cap,.func (.func f) #[] c] 171 (0,0))/\W.heap[q+1]?=some (.cells #[.int .i64 a0,.int .i64 a1,.int .i64 a2,.int .i64 a3,.int .i64 a4,.int .i64 a5,.int .i64 a6,.int .i64 a7,.int .i64 a8] 138 (0,0))/\W.heap[q+1+1]?=some (.cells #[.int .i64 0,.int .i64 0,.string ⟨#[]⟩,.int .i64 0,.string ⟨#[]⟩] 70 (0,0)) from by
  rw[<-hW,hq];have h1:=af w (.cells #[.slice (some ⟨g,0,none⟩) n cap,.func (.func f) #[] c] 171);have h2:=af (w.alloc (.cells #[.slice (some ⟨g,0,none⟩) n cap,.func (.func f) #[] c] 171)) (.cells #[.int .i64 a0,.int .i64 a1,.int .i64 a2,.int .i64 a3,.int .i64 a4,.int .i64 a5,.int .i64 a6,.int .i64 a7,.int .i64 a8] 138)
  have h3:=af ((w.alloc (.cells #[.slice (some ⟨g,0,none⟩) n cap,.func (.func f) #[] c] 171)).alloc (.cells #[.int .i64 a0,.int .i64 a1,.int .i64 a2,.int .i64 a3,.int .i64 a4,.int .i64 a5,.int .i64 a6,.int .i64 a7,.int .i64 a8] 138)) (.cells #[.int .i64 0,.int .i64 0,.string ⟨#[]⟩,.int .i64 0,.string ⟨#[]⟩] 70)
  simp only[World.size_alloc]at h2 h3;exact ⟨heap_alloc_old (heap_alloc_old h1),heap_alloc_old h2,h3⟩)
 have wU:=aa (λ(W':World) (hb:Below W.heap.size W W')=>show (W'.cell? ⟨q,0,none⟩=some (.slice (some ⟨g,0,none⟩) n cap)/\W'.cell? ⟨q+1,0,none⟩=some (.int .i64 a0)/\W'.cell? ⟨q+1,1,none⟩=some (.int .i64 a1)/\W'.cell? ⟨q+1,2,none⟩=some (.int .i64 a2)/\W'.cell? ⟨q+1,3,none⟩=some (.int .i64 a3)/\W'.cell? ⟨q+1,4,none⟩=some (.int .i64 a4)/\W'.cell? ⟨q+1,5,none⟩=some (.int .i64 a5)/\W'.cell? ⟨q+1,6,none⟩=some (.int .i64 a6)/\W'.cell? ⟨q+1,7,none⟩=some (.int .i64 a7)/\W'.cell? ⟨q+1,8,none⟩=some (.int .i64 a8)/\W'.cell? ⟨g,top*2,none⟩=some (.string s.nm))/\(W'.cell? ⟨q+1+1,0,none⟩=some (.int .i64 0)/\W'.frozen? ⟨q+1+1,0,none⟩=false/\W'.cell? ⟨q+1+1,1,none⟩=some (.int .i64 0)/\W'.frozen? ⟨q+1+1,1,none⟩=false/\W'.cell? ⟨q+1+1,2,none⟩=some (.string ⟨#[]⟩)/\W'.frozen? ⟨q+1+1,2,none⟩=false/\W'.cell? ⟨q+1+1,3,none⟩=some (.int .i64 0)/\W'.frozen? ⟨q+1+1,3,none⟩=false/\W'.cell? ⟨q+1+1,4,none⟩=some (.string ⟨#[]⟩)/\W'.frozen? ⟨q+1+1,4,none⟩=false) from by
  obtain ⟨h1,h2,h3⟩:=HW.out;have k1:=(hb.block _ (ae h1)).trans h1;have k2:=(hb.block _ (ae h2)).trans h2;have k3:=(hb.block _ (ae h3)).trans h3
  exact ⟨⟨by simp[World.cell?,k1],by simp[World.cell?,k2],by simp[World.cell?,k2],by simp[World.cell?,k2],by simp[World.cell?,k2],by simp[World.cell?,k2],by simp[World.cell?,k2],by simp[World.cell?,k2],by simp[World.cell?,k2],by simp[World.cell?,k2],ax cn (jJ.trans (hb.mono jJ.size))⟩,by simp[World.cell?,World.frozen?,k3]⟩)
 have hgq:g≠q+1+1:=by have h:g<w.heap.size:=dw cn;omega
 have adz:q+1+1≠g:=hgq.symm;have Zk:(q=q+1+1)=False:=eq_false (by omega);have adA:(q+1+1=q)=False:=eq_false (by omega);have uw:=aa jJ;have ai:=aa (show ∀W',Below w.heap.size w W'->(Ending.returned (.agg #[.int .i64 from_,.int .i64 to,.string s.nm,.int .i64 a8,.string co])=.returned (Pv from_ to s.nm st.length co)/\Below w.heap.size w W') from λW' hb=>⟨by rw[Vz];rfl,hb⟩)
 clear hG cn c8 jJ hy Vz ht hs;go_enter Tryz.func128,Tryz.ntmps128;go_wp2_with fail;rw[<-hq];clear hW;have HQ:=aa hq;clear hq;have P3:=(wU.out W.drew (Below.refl _ _).drew).1
 go_region_held3 (λw'=>w'.cell? ⟨q,0,none⟩=some (.slice (some ⟨g,0,none⟩) n cap)/\w'.cell? ⟨q+1,0,none⟩=some (.int .i64 a0)/\w'.cell? ⟨q+1,1,none⟩=some (.int .i64 a1)/\w'.cell? ⟨q+1,2,none⟩=some (.int .i64 a2)/\w'.cell? ⟨q+1,3,none⟩=some (.int .i64 a3)/\w'.cell? ⟨q+1,4,none⟩=some (.int .i64 a4)/\w'.cell? ⟨q+1,5,none⟩=some (.int .i64 a5)/\w'.cell? ⟨q+1,6,none⟩=some (.int .i64 a6)/\w'.cell? ⟨q+1,7,none⟩=some (.int .i64 a7)/\w'.cell? ⟨q+1,8,none⟩=some (.int .i64 a8)/\w'.cell? ⟨g,top*2,none⟩=some (.string s.nm))
  (first
   | with_reducible exact nD
   | with_reducible exact P3
   | go_keep)
  (first
   | (go_at_call 126;refine (HU.out W.drew).mono ?_;clear HU;rintro e4 w4 ⟨rfl,hb4⟩;have jX:Below W.heap.size W w4:=⟨hb4.os,hb4.tape,hb4.output,hb4.size,hb4.block⟩;clear hb4;obtain ⟨nD,z0,y0,z1,y1,z2,y2,z3,y3,z4,y4⟩:=wU.out w4 jX;have jY:=aa jX;clear jX))
 all_goals
  obtain ⟨w5,Ep,gM,wY,hs5,-⟩:=acm (x0:=.int .i64 from_) (x1:=.int .i64 to) (x2:=.string s.nm) (x3:=.int .i64 a8) (x4:=.string co) ((jY.out.block _ (ae HW.out.2.2)).trans HW.out.2.2);rw[Ep];have v0:w5.cell? ⟨q+1+1,0,none⟩=some (.int .i64 from_):=by simp[World.cell?,gM]
  have v1:w5.cell? ⟨q+1+1,1,none⟩=some (.int .i64 to):=by simp[World.cell?,gM]
  have v2:w5.cell? ⟨q+1+1,2,none⟩=some (.string s.nm):=by simp[World.cell?,gM]
  have v3:w5.cell? ⟨q+1+1,3,none⟩=some (.int .i64 a8):=by simp[World.cell?,gM]
  have v4:w5.cell? ⟨q+1+1,4,none⟩=some (.string co):=by simp[World.cell?,gM]
  have HE:=aa (ai.out w5 ((uw.out.trans (jY.out.mono uw.out.size)).trans (wY _ (by rw[<-HQ.out];omega))));clear Ep gM wY hs5 z0 y0 z1 y1 z2 y2 z3 y3 z4 y4 P3 nD;go_wp2_with fail;exact bodyPost_ret (v:=.agg #[.int .i64 from_,.int .i64 to,.string s.nm,.int .i64 a8,.string co]) (by simp[results,Tryz.results128,go_sem, *]) rfl HE.out
end Go.Proofs.YtgncgdkpkkdaeaaGreatDoor
