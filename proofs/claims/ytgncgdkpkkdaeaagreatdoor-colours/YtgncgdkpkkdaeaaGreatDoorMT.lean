import Derived.Test.YtgncgdkpkkdaeaaGreatDoorMR
import Derived.RangeFuncNested
import Derived.RangeFuncBound
import Derived.RangeFuncCalls
import Derived.RangeFuncLeaves
import Derived.Shelf.Abstract
import Derived.Shelf.RegionOpen
import Derived.WalkKit
import Derived.OwnWalkIn
import Derived.TacticsInMore
import Derived.LoopNIn
import Derived.LoopIn
import Derived.Test.YtgncgdkpkkdaeaaGreatDoorMD
import Derived.Test.YtgncgdkpkkdaeaaGreatDoorMP
import Derived.Deep.RegionHeld3
namespace Go.Proofs.YtgncgdkpkkdaeaaGreatDoor
open Go.RowKit aQ Go.Maps Go.Shelf
variable {root:aM} {text:ByteArray} {ts:List D} {T:List UInt8} {L bf bi bt f i sf st:Nat} {X Y:Nat->Prop} {ρ ρf:Rd} {r:Re} {w w':World}
attribute [local go_sem] Oper.semAt_some
theorem I1(hr:root.re=r.rev)(hl:∀u,cO ts L u<->∃j,i<=j/\j<=T.length/\Mt root.re ((iD T i j).reverse++u)):cO ts L []<->From r T i:=by rw[hl];unfold From;simp only[List.append_nil,hr,SK,List.reverse_reverse]
def Seen(r:Re)(T:List UInt8)(i p:Nat)(o:Bool):Prop:=(o=true->i<=p/\p<=T.length/\From r T p/\∀j,i<=j->j<p->¬From r T j)/\(o=false->p=0/\∀j,i<=j->¬From r T j)
theorem YG{p:Nat}{o:Bool}(hi:i<=T.length)(h1:o=true->i<p/\p<=T.length/\From r T p/\∀j,i<j->j<p->¬From r T j)(h2:o=false->p=0/\∀j,i<j->¬From r T j):(From r T i->Seen r T i i true)/\(¬From r T i->Seen r T i p o):=by
 refine ⟨λh=>⟨λ_=>⟨Nat.le_refl _,hi,h,λj _ _=>by omega⟩,λh=>by cases h⟩,λh=>⟨λho=>?_,λho=>?_⟩⟩
 ·obtain ⟨a1,a2,a3,a4⟩:=h1 ho;refine ⟨by omega,a2,a3,λj h3 h4=>?_⟩;rcases Nat.lt_or_ge i j with h5|h5
  ·exact a4 j h5 h4
  ·have:j=i:=by omega
   subst this;exact h
 ·obtain ⟨a1,a2⟩:=h2 ho;refine ⟨a1,λj h3=>?_⟩;rcases Nat.lt_or_ge i j with h5|h5
  ·exact a2 j h5
  ·have:j=i:=by omega
   subst this;exact h
def xo(X:Nat->Prop)(ρ:Rd)(n0:Nat)(root:aM)(ts:List D)(T:List UInt8)(f:Nat)(J:Nat->World->Prop)(B:World->Prop)(w:World)(k:Nat)(left at_:Value)(wr:World):Prop:=
 ∃(L i:Nat) (us:List D) (dX:Nat),left=.int .u64 L/\at_=.int .i64 i/\f+k=i/\i<=T.length/\w.heap.size<=wr.heap.size/\B wr/\Full wr X ρ n0 root (ts++us) dX/\nc (ts++us) L/\(∀u,cO (ts++us) L u<->∃j,i<=j/\j<=T.length/\Mt root.re ((iD T i j).reverse++u))/\J (i+1) wr
theorem qZ{n0:Nat}{us um:List D}{R dX:Nat}{b:UInt8}{J:Nat->World->Prop}{B:World->Prop}{k:Nat}{wr w3:World}(hf:f+(k+1)=i+1)(hB:B w3)(hi:i+1<=T.length)(hsz:w.heap.size<=wr.heap.size)(hl:∀u,cO (ts++us) L u<->∃j,i+1<=j/\j<=T.length/\Mt root.re ((iD T (i+1) j).reverse++u))
  (hJ:J (i+1) w3) (hb:T[i]?=some b) (hst:nc ts st) (Kq:∀u,cO ts st u<->Mt root.re u) (dp:Fx X wr w3) (ng:Full w3 X ρ n0 root (ts++us++um) dX) (hR:nc (ts++us++um) R) (X9:∀u,cO (ts++us++um) R u<->cO (ts++us) L (b::u)):
  xo X ρ n0 root ts T f J B w k (.int .u64 ((R ||| st:Nat):Int)) (.int .i64 i) w3:=by
 rw[List.append_assoc]at ng hR X9;have e1:∀j,i+1<=j->∀u,(iD T i j).reverse++u=(iD T (i+1) j).reverse++b::u:=λj hj u=>by rw[iu T (Nat.le_succ i) hj,yD T hb];simp
 refine ⟨R ||| st,i,us++um,dX,rfl,rfl,by omega,by omega,Nat.le_trans hsz dp.size,hB,ng,hR.or hst.append,λu=>?_,hJ⟩;rw[cO.or,X9,hl,cO.append hst,Kq];constructor
 ·rintro (⟨j,h1,h2,h3⟩|h)
  ·exact ⟨j,by omega,h2,by rw[e1 j h1];exact h3⟩
  ·exact ⟨i,Nat.le_refl _,by omega,by rw[fC];simpa using h⟩
 ·rintro ⟨j,h1,h2,h3⟩;rcases Nat.lt_or_ge i j with h|h
  ·exact .inl ⟨j,h,h2,by rw[<-e1 j h];exact h3⟩
  ·have:j=i:=by omega
   subst this;rw[fC]at h3;exact .inr (by simpa using h3)
def ED(X:Nat->Prop)(ρ:Rd)(n0:Nat)(root:aM)(ts:List D)(f:Nat)(J Jx:Nat->World->Prop)(e:Ending)(w':World):Prop:=
 (∃v,e=.returned v)/\(∃us dX,Full w' X ρ n0 root (ts++us) dX)/\(J f w'∨∃i,Jx i w')
def eB(ρf:Rd)(sf:Nat)(ρ:Rd)(st:Nat):Obj:=.cells #[.int .u64 sf,.func (.func 179) #[] #[.pointer (some ⟨ρf.av,0,none⟩)],.func (.func 181) #[] #[.pointer (some ⟨ρf.ev,0,none⟩)],.int .u64 st,.func (.func 179) #[] #[.pointer (some ⟨ρ.av,0,none⟩)],.func (.func 181) #[] #[.pointer (some ⟨ρ.ev,0,none⟩)]] 194 (0,0)
structure pn(bf bt bi:Nat)(ρf:Rd)(sf:Nat)(ρ:Rd)(st:Nat)(text:ByteArray)(f:Nat)(w:World):Prop where
 fin:w.heap[bf]?=some (eB ρf sf ρ st)
 txt:w.heap[bt]?=some (.cells #[.string text] 9 (0,0))
 VH:w.heap[bi]?=some (.cells #[.int .i64 f] 3 (0,0))
 tab:kB w
structure P9(X Y:Nat->Prop)(bf bt bi:Nat):Prop where
 sub:∀k,Y k->X k
 f:X bf/\¬Y bf
 t:X bt/\¬Y bt
 i:X bi/\¬Y bi
 z:X 1/\¬Y 1
theorem pn.fx(h:pn bf bt bi ρf sf ρ st text f w)(ho:P9 X Y bf bt bi)(hF:Fx X w w'):pn bf bt bi ρf sf ρ st text f w':=
 ⟨(hF.keep _ ho.f.1).trans h.fin,(hF.keep _ ho.t.1).trans h.txt,(hF.keep _ ho.i.1).trans h.VH,h.tab.keep (hF.keep 1 ho.z.1)⟩
theorem pn.off(h:pn bf bt bi ρf sf ρ st text f w)(ho:P9 X Y bf bt bi)(h0:1 < w.heap.size)(hF:aN Y w w'):pn bf bt bi ρf sf ρ st text f w':=
 ⟨hF.same h.fin ho.f.2,hF.same h.txt ho.t.2,hF.same h.VH ho.i.2,h.tab.keep (hF.keep 1 ⟨h0,ho.z.2⟩)⟩
set_option maxHeartbeats 2000000 in
theorem EE(n:Nat)(X Y:Nat->Prop)(ρf:Rd)(sf:Nat)(ρ:Rd)(n0:Nat)(root:aM)(ts:List D)(en:Nat)(st:Nat)(r:Re)(text:ByteArray)(f l bf bt bi:Nat)(J Jx:Nat->World->Prop)(w:World)(hX:gI X w)(ho:P9 X Y bf bt bi)(hB:pn bf bt bi ρf sf ρ st text f w)(hF:Full w X ρ n0 root ts en)(hi:nc ts st)(hl:∀u,cO ts st u<->Mt root.re u)(hr:root.re=r.rev)(hs:f<=text.size)(hsz:text.size<=maxLen)
  (hJ:∀i A B,J i A->Fx X A B->J i B) (hJs:∀i A,f<=i->i<=text.size->¬From r text.data.toList i->J (i+1) A->J i A)
  (hY:∀i A,f<=i->i<=text.size->From r text.data.toList i->J (i+1) A->YieldAt Fence.wide (n - 1) Tryz.prog l #[.int .i64 i] A λe B=>aN Y A B/\((e=.returned (.bool true)/\J i B)∨(e=.returned (.bool false)/\Jx i B)))
  (h0:J (text.size+1) w):
  CallsIn Fence.wide n Tryz.prog 182 #[.func (.yield l) #[] #[],.pointer (some ⟨bf,0,none⟩),.pointer (some ⟨bt,0,none⟩),.pointer (some ⟨bi,0,none⟩)] w (ED X ρ n0 root ts f J Jx):=by
 refine callsIn_wide.2 ?_;have b3:w.cell? ⟨bf,3,none⟩=some (.int .u64 st):=by simp[World.cell?,hB.fin,eB]
 have b4:w.cell? ⟨bt,0,none⟩=some (.string text):=by simp[World.cell?,hB.txt]
 have RT:=hi.lt (by have:=hF.few;omega);have hT0:=hX _ ho.z.1;have HX:=aa hX;have HO:=aa ho;have HB:=aa hB;have HF:=aa hF;have HI:=aa hi;have HL:=aa hl;have HR:=aa hr;have HJ:=aa hJ;have HJS:=aa hJs;have HY:=aa hY;have H0:=aa h0;clear hX ho hB hF hi hl hr hJ hJs hY h0;go_enter Tryz.func182,Tryz.ntmps182;go_wp2_with fail
 go_loopg [5,6] (text.size - f) (λk left at_ wr=>xo X ρ n0 root ts text.data.toList f J (pn bf bt bi ρf sf ρ st text f) w k left at_ wr)
 case atStart=>
  refine ⟨st,text.size,[],en,rfl,rfl,by omega,Nat.le_refl _,Nat.le_refl _,HB.out,by simpa using HF.out,by simpa using HI.out,λu=>?_,H0.out⟩;rw[List.append_nil,HL.out];constructor
  ·intro h;exact ⟨text.size,Nat.le_refl _,Nat.le_refl _,by rw[fC];simpa using h⟩
  ·rintro ⟨j,h1,h2,h3⟩;have:j=text.size:=by rw[ag]at h2;omega
   subst this;rw[fC]at h3;simpa using h3
 case round=>
  obtain ⟨L,i,us,dX,rfl,rfl,hk,hi,hsw,j3,ng,hL,hl,hj⟩:=hrel;have r5:wr.cell? ⟨bf,5,none⟩=some (.func (.func 181) #[] #[.pointer (some ⟨ρ.ev,0,none⟩)]):=by simp[World.cell?,j3.fin,eB]
  have nG:=aa (xg X ρ n0 root (ts++us) dX L wr ng hL);have Fj:=aa (I1 HR.out hl);rw[ag]at hi;have uU:=aa j3;have MG:=aa ng;have BG:=aa hL;have Hl:=aa hl;have Hj:=aa hj;clear ng hL hl hj j3;refine (wpIn_wide (n:=n)).1 ?_;gi_wp2_with fail;refine ⟨trivial,λh=>(by cases h),(callsIn_wide.2 nG.out).mono ?_⟩;rintro e w1 ⟨x,rfl,rfl,hx⟩
  have c0:w1.cell? ⟨bi,0,none⟩=some (.int .i64 f):=by simp[World.cell?,uU.out.VH]
  cases x with
  | true=>
   obtain ⟨fn,tmps,assign,body,hy,hR⟩:=HY.out i w1 (by omega) hi (Fj.out.1 (hx.1 rfl)) Hj.out;have sH:=aa hR;clear hR hx nG Fj;gi_wp2_with fail;refine ⟨λh=>(by cases h),sH.out.mono ?_⟩;rintro e W' ⟨aX,(⟨rfl,hj'⟩|⟨rfl,xI⟩)⟩
   ·have FM:=aa aX;have I2:=aa (uU.out.off HO.out (Nat.lt_of_lt_of_le hT0 hsw) aX);have Qa:=aa (MG.out.off (aX.sub λk _ hk=>HO.out.sub k hk));have jf:=aa hj';have c1:W'.cell? ⟨bi,0,none⟩=some (.int .i64 f):=by simp[World.cell?,I2.out.VH]
    clear aX hj' sH hy;by_cases hat:i<=f
    ·obtain rfl:i=f:=by omega
     gi_wp2_with fail;go_end0;exact ⟨⟨_,rfl⟩,⟨us,dX,Qa.out⟩,.inl jf.out⟩
    ·have hat':decide (i<=f)=false:=by simp;omega
     obtain ⟨i0,rfl⟩:∃i0,i=i0+1:=⟨i - 1,by omega⟩;have hlt:i0<text.size:=by omega
     have wy:i0+1<=9223372036854775807:=by unfold maxLen at hsz;omega
     obtain ⟨k',rfl⟩:∃k',gk=k'+1:=⟨gk - 1,by omega⟩;have T5:=aa (mj X ρ n0 root (ts++us) dX L text[i0] W'.drew ((HX.out.mono hsw).mono FM.out.size) HO.out.z.1 I2.out.tab (Qa.out.below (Below.refl _ _).drew) BG.out);have T6:=aa (oW hlt);have HK:=aa hk;have hwr:IntKind.i64.wrap (i0:Int)=(i0:Int):=by rw[IntKind.wrap_i64];omega
     have g3:W'.cell? ⟨bf,3,none⟩=some (.int .u64 st):=by simp[World.cell?,I2.out.fin,eB]
     have g4:W'.cell? ⟨bf,4,none⟩=some (.func (.func 179) #[] #[.pointer (some ⟨ρ.av,0,none⟩)]):=by simp[World.cell?,I2.out.fin,eB]
     have g5:W'.cell? ⟨bt,0,none⟩=some (.string text):=by simp[World.cell?,I2.out.txt]
     have HSW:=aa (show w.heap.size<=W'.heap.size from Nat.le_trans hsw FM.out.size)
     have vq:=aa (λ(w3:World) (h3:pn bf bt bi ρf sf ρ st text f w3)=>show w3.cell? ⟨bf,3,none⟩=some (.int .u64 st)/\w3.cell? ⟨bf,4,none⟩=some (.func (.func 179) #[] #[.pointer (some ⟨ρ.av,0,none⟩)])/\w3.cell? ⟨bt,0,none⟩=some (.string text) from ⟨by simp[World.cell?,h3.fin,eB],by simp[World.cell?,h3.fin,eB],by simp[World.cell?,h3.txt]⟩)
     gi_wp2_with fail;refine wpIn_wide.2 ?_
     go_region_held3 (λw'=>w'.cell? ⟨bf,3,none⟩=some (.int .u64 st)/\w'.cell? ⟨bf,4,none⟩=some (.func (.func 179) #[] #[.pointer (some ⟨ρ.av,0,none⟩)])/\w'.cell? ⟨bt,0,none⟩=some (.string text))
      (first
       | with_reducible exact zu
       | go_keep)
      (first
       | (go_at_call 179;refine T5.out.mono ?_;rintro e3 w3 ⟨R,um,RA,rfl,dp,lr,Av,vX⟩;have gG:=pn.fx I2.out HO.out dp.gD;have zu:=vq.out w3 gG;have HST:=aa (qZ HK.out gG (by rw[ag];omega) HSW.out Hl.out (HJ.out _ _ _ jf.out dp.gD) T6.out HI.out HL.out dp.gD lr Av vX);have PS:=aa (bits_or_u64_nat R st (Av.lt (by have:=lr.few;omega)) RT);clear dp lr Av vX gG))
     all_goals
      gi_wp2_with fail;go_roundg k'
      case measure=>omega
      case rel=>have hst:=HST.out;rw[<-PS.out]at hst;exact hst
   ·have Qa:=aa (MG.out.off (aX.sub λk _ hk=>HO.out.sub k hk));have jf:=aa xI;clear aX xI sH hy;gi_wp2_with fail;go_end0;exact ⟨⟨_,rfl⟩,⟨us,dX,Qa.out⟩,.inr ⟨i,jf.out⟩⟩
  | false=>
   have HJN:=aa (HJS.out i w1 (by omega) hi (λh=>by simpa using hx.2 (Fj.out.2 h)) Hj.out);clear hx nG;by_cases hat:i<=f
   ·obtain rfl:i=f:=by omega
    gi_wp2_with fail;refine ⟨λ_ h=>(by cases h),?_⟩;gi_wp2_with fail;go_end0;exact ⟨⟨_,rfl⟩,⟨us,dX,MG.out⟩,.inl HJN.out⟩
   ·have hat':decide (i<=f)=false:=by simp;omega
    obtain ⟨i0,rfl⟩:∃i0,i=i0+1:=⟨i - 1,by omega⟩;have hlt:i0<text.size:=by omega
    have wy:i0+1<=9223372036854775807:=by unfold maxLen at hsz;omega
    obtain ⟨k',rfl⟩:∃k',gk=k'+1:=⟨gk - 1,by omega⟩;have T5:=aa (mj X ρ n0 root (ts++us) dX L text[i0] w1.drew ((HX.out.mono hsw).mono (Nat.le_refl _)) HO.out.z.1 uU.out.tab (MG.out.below (Below.refl _ _).drew) BG.out);have T6:=aa (oW hlt);have HK:=aa hk;have hwr:IntKind.i64.wrap (i0:Int)=(i0:Int):=by rw[IntKind.wrap_i64];omega
    have g3:w1.cell? ⟨bf,3,none⟩=some (.int .u64 st):=by simp[World.cell?,uU.out.fin,eB]
    have g4:w1.cell? ⟨bf,4,none⟩=some (.func (.func 179) #[] #[.pointer (some ⟨ρ.av,0,none⟩)]):=by simp[World.cell?,uU.out.fin,eB]
    have g5:w1.cell? ⟨bt,0,none⟩=some (.string text):=by simp[World.cell?,uU.out.txt]
    have HSW:=aa (show w.heap.size<=w1.heap.size from Nat.le_trans hsw (Nat.le_refl _))
    have vq:=aa (λ(w3:World) (h3:pn bf bt bi ρf sf ρ st text f w3)=>show w3.cell? ⟨bf,3,none⟩=some (.int .u64 st)/\w3.cell? ⟨bf,4,none⟩=some (.func (.func 179) #[] #[.pointer (some ⟨ρ.av,0,none⟩)])/\w3.cell? ⟨bt,0,none⟩=some (.string text) from ⟨by simp[World.cell?,h3.fin,eB],by simp[World.cell?,h3.fin,eB],by simp[World.cell?,h3.txt]⟩)
    gi_wp2_with fail;refine ⟨λ_ h=>(by cases h),?_⟩;gi_wp2_with fail;refine wpIn_wide.2 ?_
    go_region_held3 (λw'=>w'.cell? ⟨bf,3,none⟩=some (.int .u64 st)/\w'.cell? ⟨bf,4,none⟩=some (.func (.func 179) #[] #[.pointer (some ⟨ρ.av,0,none⟩)])/\w'.cell? ⟨bt,0,none⟩=some (.string text))
     (first
      | with_reducible exact zu
      | go_keep)
     (first
      | (go_at_call 179;refine T5.out.mono ?_;rintro e3 w3 ⟨R,um,RA,rfl,dp,lr,Av,vX⟩;have gG:=pn.fx uU.out HO.out dp.gD;have zu:=vq.out w3 gG;have HST:=aa (qZ HK.out gG (by rw[ag];omega) HSW.out Hl.out (HJ.out _ _ _ HJN.out dp.gD) T6.out HI.out HL.out dp.gD lr Av vX);have PS:=aa (bits_or_u64_nat R st (Av.lt (by have:=lr.few;omega)) RT);clear dp lr Av vX gG))
    all_goals
     gi_wp2_with fail;go_roundg k'
     case measure=>omega
     case rel=>have hst:=HST.out;rw[<-PS.out]at hst;exact hst
end Go.Proofs.YtgncgdkpkkdaeaaGreatDoor
namespace Go.Proofs.YtgncgdkpkkdaeaaGreatDoor
open Go.RowKit aQ Go.Maps
variable {a:aM} {p:Addr} {ns:List (Nd Value)} {bz g sb sf:Nat} {O:Nat->Prop} {ρb ρf:Rd} {v x0 x1 x2 x3 x4 z0 z1 z2 z3 z4:Value} {w w' w4:World}
structure aO(w:World)(O:Nat->Prop)(a:aM)(ρf:Rd)(sf:Nat)(ρb:Rd)(sb:Nat):Prop where
 old:∀k,O k->k<w.heap.size
 tab:¬O 1
 parts:∃Of Ob:Nat->Prop,(∀k,Of k->O k)/\(∀k,Ob k->O k)/\(∀k,Of k->¬Ob k)/\pj w Of a ρf sf/\pj w Ob a.tK ρb sb
theorem aO.EF(h:aO w O a ρf sf ρb sb):1 < w.heap.size:=by obtain ⟨Of,Ob,h1,h2,h3,h4,h5⟩:=h.parts;exact h4.tab.2
theorem aO.off{Y:Nat->Prop}(h:aO w O a ρf sf ρb sb)(ho:aN Y w w')(hd:∀k,O k->¬Y k):aO w' O a ρf sf ρb sb:=by obtain ⟨Of,Ob,h1,h2,h3,h4,h5⟩:=h.parts;exact ⟨λk hk=>Nat.lt_of_lt_of_le (h.old k hk) ho.size,h.tab,Of,Ob,h1,h2,h3,h4.off ho (λk hk=>hd k (h1 k hk)),h5.off ho (λk hk=>hd k (h2 k hk))⟩
theorem aO.uo{Z:Nat->Prop}(h:aO w O a ρf sf ρb sb)(hz:∀k,Z k->k<w.heap.size)(ht:¬Z 1)(hs:∀k,O k->Z k):aO w Z a ρf sf ρb sb:=by obtain ⟨Of,Ob,h1,h2,h3,h4,h5⟩:=h.parts;exact ⟨hz,ht,Of,Ob,λk hk=>hs k (h1 k hk),λk hk=>hs k (h2 k hk),h3,h4,h5⟩
theorem aO.below(h:aO w O a ρf sf ρb sb)(hb:Below w.heap.size w w'):aO w' O a ρf sf ρb sb:=
 h.off (Y:=λ_=>False) (aN.ar hb) (λ_ _ h=>h)
def yZ(r:Re)(T:List UInt8)(s stop:Nat):Prop:=s<=stop/\stop<=T.length/\(stop=s∨Mt r (iD T s stop))/\∀j,stop<j->j<=T.length->¬Mt r (iD T s j)
def Qb(O:Nat->Prop)(a:aM)(ρf:Rd)(sf:Nat)(ρb:Rd)(sb:Nat)(T:List UInt8)(s:Nat)(w:World)(e:Ending)(w':World):Prop:=
 ∃stop:Nat,e=.returned (.int .i64 stop)/\aN O w w'/\aO w' (grow O w w') a ρf sf ρb sb/\yZ a.re T s stop
theorem YH{k:Nat}(h:O k):grow O w w' k:=.inl h
theorem Ge(O:Nat->Prop)(a:aM)(ρf:Rd)(sf:Nat)(ρb:Rd)(sb:Nat)(text:ByteArray)(s:Nat)(w:World)(hT:kB w)(hF:aO w O a ρf sf ρb sb)(hs:s<=text.size)(hsz:text.size<=maxLen):
  Calls Tryz.prog 129 #[wZ ρf sf ρb sb,.string text,.int .i64 s] w (Qb O a ρf sf ρb sb text.data.toList s w):=by
 obtain ⟨Of,Ob,h1,h2,h3,h4,h5⟩:=hF.parts;obtain ⟨n0,ts,en,ng,hi,hl⟩:=h4.full;refine (BJ (ME Of w) ρf n0 a ts en sf ρb sb text s w (F5 _ _) ⟨h4.tab.2,h4.tab.1⟩ hT ng hi hl hs hsz).mono ?_;rintro e w' ⟨stop,us,dX,rfl,mG,Um,pk⟩
 refine ⟨stop,rfl,(aN.MF mG).sub λk _ hk=>h1 k hk,⟨λk hk=>?_,λhk=>hk.elim hF.tab (λh=>by have:=hF.EF;omega),grow Of w w',Ob,λk hk=>?_,λk hk=>.inl (h2 k hk),λk hk hb=>?_,h4.grown mG Um hi hl,h5.off (aN.MF mG) λk hb hk=>h3 k hk hb⟩,pk⟩
 ·exact hk.elim (λh=>Nat.lt_of_lt_of_le (hF.old k h) mG.size) (λh=>h.2)
 ·exact hk.elim (λh=>.inl (h1 k h)) .inr
 ·rcases hk with hk|hk
  ·exact h3 k hk hb
  ·have:=h5.old k hb;omega
theorem q8(n:Nat)(O Y:Nat->Prop)(a:aM)(ρf:Rd)(sf:Nat)(ρb:Rd)(sb:Nat)(text:ByteArray)(f l bf bt bi:Nat)(J Jx:Nat->World->Prop)(w:World)(hF:aO w O a ρf sf ρb sb)(hB:pn bf bt bi ρf sf ρb sb text f w)(hs:f<=text.size)(hsz:text.size<=maxLen)
  (hYO:∀k,Y k->¬O k) (hYw:∀k,Y k->k<w.heap.size) (hf:¬O bf/\¬Y bf) (ht:¬O bt/\¬Y bt) (Qc:¬O bi/\¬Y bi) (hz:¬Y 1)
  (hJ:∀i A B,J i A->aN (λk=>O k∨w.heap.size<=k) A B->J i B) (hJs:∀i A,f<=i->i<=text.size->¬From a.re text.data.toList i->J (i+1) A->J i A)
  (hY:∀i A,f<=i->i<=text.size->From a.re text.data.toList i->J (i+1) A->YieldAt Fence.wide (n - 1) Tryz.prog l #[.int .i64 i] A λe B=>aN Y A B/\((e=.returned (.bool true)/\J i B)∨(e=.returned (.bool false)/\Jx i B)))
  (h0:J (text.size+1) w):
  CallsIn Fence.wide n Tryz.prog 182 #[.func (.yield l) #[] #[],.pointer (some ⟨bf,0,none⟩),.pointer (some ⟨bt,0,none⟩),.pointer (some ⟨bi,0,none⟩)] w (λe w'=>(∃v,e=.returned v)/\(∃O',(∀k,O' k->O k∨w.heap.size<=k)/\aO w' O' a ρf sf ρb sb)/\(J f w'∨∃i,Jx i w')):=by
 obtain ⟨Of,Ob,h1,h2,h3,h4,h5⟩:=hF.parts;obtain ⟨n0,ts,en,ng,hi,hl⟩:=h5.full;have CC:P9 (ME Ob w) Y bf bt bi:=⟨λk hk=>⟨hYw k hk,λh=>hYO k hk (h2 k h)⟩,⟨⟨ae hB.fin,λh=>hf.1 (h2 _ h)⟩,hf.2⟩,⟨⟨ae hB.txt,λh=>ht.1 (h2 _ h)⟩,ht.2⟩,⟨⟨ae hB.VH,λh=>Qc.1 (h2 _ h)⟩,Qc.2⟩,⟨⟨h5.tab.2,h5.tab.1⟩,hz⟩⟩
 have hX:∀(A B:World),w.heap.size<=A.heap.size->Fx (ME Ob w) A B->aN (λk=>Ob k∨w.heap.size<=k) A B:=λA B _ h=>h.sub λk hk=>⟨Nat.lt_of_not_le λh=>hk.2 (.inr h),λh=>hk.2 (.inl h)⟩
 have hnf:∀k,Of k->¬(Ob k∨w.heap.size<=k):=λk hk h=>h.elim (h3 k hk) (λh=>by have:=h4.old k hk;omega)
 refine (EE n (ME Ob w) Y ρf sf ρb n0 a.tK ts en sb a.re text f l bf bt bi (λi W=>J i W/\w.heap.size<=W.heap.size/\pj W Of a ρf sf) (λi W=>Jx i W/\w.heap.size<=W.heap.size/\pj W Of a ρf sf) w (F5 _ _) CC hB ng hi hl a.p6 hs hsz ?_ ?_ ?_ ⟨h0,Nat.le_refl _,h4⟩).mono ?_
 ·rintro i A B ⟨hj,GH,hr⟩ mG;have aX:=hX A B GH mG;exact ⟨hJ i A B hj (aX.sub λk _ hk=>hk.elim (λh=>.inl (h2 k h)) .inr),Nat.le_trans GH mG.size,hr.off aX hnf⟩
 ·rintro i A wy CQ hn ⟨hj,hr⟩;exact ⟨hJs i A wy CQ hn hj,hr⟩
 ·rintro i A wy CQ lB ⟨hj,GH,hr⟩;obtain ⟨fn,tmps,assign,body,hy,hR⟩:=hY i A wy CQ lB hj;refine ⟨fn,tmps,assign,body,hy,hR.mono ?_⟩;rintro e B ⟨aX,zv⟩;have D3:=hr.off aX (λk hk hy=>hYO k hy (h1 k hk));exact ⟨aX,zv.imp (λh=>⟨h.1,h.2,Nat.le_trans GH aX.size,D3⟩) (λh=>⟨h.1,h.2,Nat.le_trans GH aX.size,D3⟩)⟩
 ·rintro e w' ⟨hv,⟨us,dX,Um⟩,hend⟩
  have GP:w.heap.size<=w'.heap.size/\pj w' Of a ρf sf/\(J f w'∨∃i,Jx i w'):=by
   rcases hend with ⟨hj,hs,hr⟩|⟨i,hj,hs,hr⟩
   ·exact ⟨hs,hr,.inl hj⟩
   ·exact ⟨hs,hr,.inr ⟨i,hj⟩⟩
  obtain ⟨hsz',hr,YI⟩:=GP;refine ⟨hv,⟨λk=>(O k∨w.heap.size<=k)/\k<w'.heap.size,λk hk=>hk.1,⟨λk hk=>hk.2,λhk=>hk.1.elim hF.tab (λh=>by have:=hF.EF;omega),Of,grow Ob w w',λk hk=>⟨.inl (h1 k hk),hr.old k hk⟩,λk hk=>?_,λk hk hb=>?_,hr,?_⟩⟩,YI⟩
  ·rcases hk with hk|hk
   ·exact ⟨.inl (h2 k hk),Nat.lt_of_lt_of_le (h5.old k hk) hsz'⟩
   ·exact ⟨.inr hk.1,hk.2⟩
  ·rcases hb with hb|hb
   ·exact h3 k hk hb
   ·have:=h4.old k hk;omega
  ·refine ⟨λk hk=>hk.elim (λh1=>Nat.lt_of_lt_of_le (h5.old k h1) hsz') (λh=>h.2),⟨λhk=>hk.elim h5.tab.1 (λh1=>by have:=h5.tab.2;omega),Nat.lt_of_lt_of_le h5.tab.2 hsz'⟩,n0,ts++us,dX,Um.uo λk hk=>?_,hi.append,λu=>(cO.append hi u).trans (hl u)⟩;refine .inl ⟨?_,λh=>hk.2 (.inl h)⟩;rcases Nat.lt_or_ge k w.heap.size with hlt|kt
   ·exact hlt
   ·exact absurd (.inr ⟨kt,hk.1⟩) hk.2
theorem pq(h:dH (aB w) ns a):dH (aB w) (ns.map swp) a.tK:=by
 refine h.tK (λi x l r e hi=>?_) (λi nd hk hi=>?_)
 ·rw[List.getElem?_map,hi];rfl
 ·rw[List.getElem?_map,hi];simp[swp,hk]
theorem bb.base{B:Nat}{sv:Value}(h:bb w B sv ns):bb w 0 sv ns:=by
 obtain ⟨⟨h1,h2⟩,h3⟩:=h;refine ⟨⟨h1,?_⟩,h3⟩;rcases h2 with h2|⟨g,cap,cur,a1,a2,a3⟩
 ·exact .inl h2
 ·exact .inr ⟨g,cap,cur,a1,Nat.zero_le _,a3⟩
def uw(a:aM)(w:World)(e:Ending)(w':World):Prop:=
 ∃ρf sf ρb sb,e=.returned (wZ ρf sf ρb sb)/\Below w.heap.size w w'/\aO w' (λk=>w.heap.size<=k/\k<w'.heap.size) a ρf sf ρb sb
theorem Full.lF{X:Nat->Prop}{ρ:Rd}{n0:Nat}{root:aM}{ts:List D}{en:Nat}(h:Full w X ρ n0 root ts en)(hk:∀(k:Nat) o,w.heap[k]?=some o->(∀c fz,o≠.cells c 194 fz)->w'.heap[k]?=some o):Full w' X ρ n0 root ts en:=by
 obtain ⟨⟨ns,cu,hD⟩,hs,hK,m,f,ks,hm,h1,h2,h3,h4⟩:=h;have hc:∀(k:Nat) c t fz,t≠194->w.heap[k]?=some (.cells c t fz)->w'.heap[k]?=some (.cells c t fz):=λk c t fz ht hh=>hk k _ hh (λc' ZL e=>by cases e;exact ht rfl)
 have hmap:∀(k:Nat) es kw,w.heap[k]?=some (.map es kw)->w'.heap[k]?=some (.map es kw):=λk es kw hh=>hk k _ hh (λc' ZL e=>by cases e)
 have hst:bu w w':=λk c t ht hh=>hc k c t _ (by rcases ht with rfl|rfl<;>decide) hh
 obtain ⟨pv,hN,hv⟩:=hD.tT
 refine ⟨⟨ns,cu,hD.shelf.keep hst (λk o _ ho wm=>hk k o ho (λc fz e=>?_)) (λ_ h=>.inl h),⟨pv,⟨hc _ _ _ _ (by decide) hN.var,hN.row.ig λk hk=>?_,?_,hN.nodup,hN.small⟩,hv⟩,hc _ _ _ _ (by decide) hD.ev,hD.nX,hD.jn.mono λd k hh=>aS.world hst hh,hD.met,hD.bits,hD.sz,hD.leaves⟩,⟨hc _ _ _ _ (by decide) hs.sv,hc _ _ _ _ (by decide) hs.mv,hc _ _ _ _ (by decide) hs.nv,hc _ _ _ _ (by decide) hs.xv,hc _ _ _ _ (by decide) hs.kk,hc _ _ _ _ (by decide) hs.wk,hc _ _ _ _ (by decide) hs.kv,hc _ _ _ _ (by decide) hs.av⟩,hK,m,f,ks,hm.keep ?_,h1,h2,h3,h4⟩
 ·rcases wm _ _ _ e with h|h<;>cases h
 ·obtain ⟨c,hcc⟩:=hN.row.block hk;rw[hcc];exact hc _ _ _ _ (by decide) hcc
 ·obtain ⟨m,f,hm,h1,h2⟩:=hN.map;obtain ⟨es,kw,ho⟩:=hm.obj;exact ⟨m,f,hm.keep ((hmap _ _ _ ho).trans ho.symm),h1,h2⟩
 ·obtain ⟨es,kw,ho⟩:=hm.obj;exact (hmap _ _ _ ho).trans ho.symm
theorem abg{z5 x5:Value}(h:w4.heap[bz]?=some (.cells #[z0,z1,z2,z3,z4,z5] 194 (0,0))):
  ∃w5,((((((w4.setCell ⟨bz,0,none⟩ x0).setCell ⟨bz,1,none⟩ x1).setCell ⟨bz,2,none⟩ x2).setCell ⟨bz,3,none⟩ x3).setCell ⟨bz,4,none⟩ x4).setCell ⟨bz,5,none⟩ x5)=w5/\w5.heap[bz]?=some (.cells #[x0,x1,x2,x3,x4,x5] 194 (0,0))/\(∀B,B<=bz->Below B w4 w5)/\w5.heap.size=w4.heap.size /\
   ∀{X:Nat->Prop} {ρ:Rd} {n0:Nat} {root:aM} {ts:List D} {en:Nat},Full w4 X ρ n0 root ts en->Full w5 X ρ n0 root ts en:=by
 have h1:=heap_setCell_same w4 bz 0 x0 h;have h2:=heap_setCell_same _ bz 1 x1 h1;have h3:=heap_setCell_same _ bz 2 x2 h2;have h4:=heap_setCell_same _ bz 3 x3 h3;have h5:=heap_setCell_same _ bz 4 x4 h4;have h6:=heap_setCell_same _ bz 5 x5 h5
 refine ⟨_,rfl,by simpa using h6,λB hB=>((((((Below.refl _ _).setCell hB _).setCell hB _).setCell hB _).setCell hB _).setCell hB _).setCell hB _,by simp[World.setCell],λhF=>hF.lF (λj o ho hne=>?_)⟩;have hj:j≠bz:=by rintro rfl;rw[h]at ho;cases ho;exact hne _ _ rfl
 rw[Below.heap_setCell _ _ _ _ (by exact hj),Below.heap_setCell _ _ _ _ (by exact hj),Below.heap_setCell _ _ _ _ (by exact hj),Below.heap_setCell _ _ _ _ (by exact hj),Below.heap_setCell _ _ _ _ (by exact hj),Below.heap_setCell _ _ _ _ (by exact hj)];exact ho
theorem EG{W w1 w3 w5:World}{nf nb:Nat}{tf tb:List D}{ef eb:Nat}(h0:1 < w.heap.size)(mF:Below w.heap.size w W)(hb1:Below W.heap.size W w1)(hf:Full w1 (old W.heap.size) ρf nf a tf ef)(u9:nc tf sf)(lp:∀u,cO tf sf u<->Mt a.re u)
  (hb3:Below w1.heap.size w1 w3) (hb4:Below w3.heap.size w3 w4) (hB:Full w4 (old w3.heap.size) ρb nb a.tK tb eb) (hbi:nc tb sb) (hbl:∀u,cO tb sb u<->Mt a.tK.re u) (gw:Below w.heap.size w4 w5) (hs5:w5.heap.size=w4.heap.size)
  (h5:∀{X:Nat->Prop} {ρ:Rd} {n0:Nat} {root:aM} {ts:List D} {en:Nat},Full w4 X ρ n0 root ts en->Full w5 X ρ n0 root ts en):uw a w (.returned (wZ ρf sf ρb sb)) w5:=by
 have s0:=mF.size;have s1:=hb1.size;have s3:=hb3.size;have s4:=hb4.size;have b14:=hb3.trans (hb4.mono s3);have bw4:Below w.heap.size w w4:=mF.trans ((hb1.trans (b14.mono s1)).mono s0)
 refine ⟨ρf,sf,ρb,sb,rfl,bw4.trans gw,λk hk=>hk.2,λhk=>by have:=hk.1;omega,λk=>W.heap.size<=k/\k<w1.heap.size,λk=>w3.heap.size<=k/\k<w4.heap.size,λk hk=>⟨by omega,by omega⟩,λk hk=>⟨by omega,by omega⟩,λk hk hb=>by omega,⟨λk hk=>by omega,⟨λhk=>by omega,by omega⟩,nf,tf,ef,h5 (Full.below (hf.uo λk hk=>?_) b14),u9,lp⟩,⟨λk hk=>by omega,⟨λhk=>by omega,by omega⟩,nb,tb,eb,h5 (hB.uo λk hk=>?_),hbi,hbl⟩⟩
 ·rcases Nat.lt_or_ge k w1.heap.size with h|h
  ·exact .inl (show k<W.heap.size from Nat.lt_of_not_le λkt=>hk.2 ⟨kt,h⟩)
  ·exact .inr h
 ·rcases Nat.lt_or_ge k w4.heap.size with h|h
  ·exact .inl (show k<w3.heap.size from Nat.lt_of_not_le λkt=>hk.2 ⟨kt,h⟩)
  ·exact .inr h
set_option maxRecDepth 20000 in
set_option maxHeartbeats 2000000 in
theorem ud(sv:Value)(ns:List (Nd Value))(a:aM)(w:World)(hw:1 < w.heap.size)(hL:bb w 0 sv ns)(hr:dH (aB w) ns a)(he:dH (aB w) ns .cW)(h0:0<ns.length)(hn:ns.length<=200)(hz:a.sz<=200)(hl:a.leaves<=60)(k:Nat)(hk:k=a.ix):
  Calls Tryz.prog 101 #[.agg #[sv,.int .i64 k]] w (uw a w):=by
 obtain ⟨g,cap,rfl⟩:=aC hL.1 h0;have hlen:(ns.map swp).length=ns.length:=by simp
 obtain ⟨W,hW⟩:∃W,(w.alloc (.cells #[.slice (some ⟨g,0,none⟩) ns.length cap,.int .i64 k] 184)).alloc (.cells #[.int .u64 0,.nilFunc,.nilFunc,.int .u64 0,.nilFunc,.nilFunc] 194)=W:=⟨_,rfl⟩;have mF:Below w.heap.size w W:=by rw[<-hW];exact ((Below.refl _ _).alloc (Nat.le_refl _) _).alloc (by simp) _
 have oq:W.heap[w.heap.size]?=some (.cells #[.slice (some ⟨g,0,none⟩) ns.length cap,.int .i64 k] 184 (0,0)):=by rw[<-hW];exact heap_alloc_old (af _ _)
 have CI:W.heap[w.heap.size+1]?=some (.cells #[.int .u64 0,.nilFunc,.nilFunc,.int .u64 0,.nilFunc,.nilFunc] 194 (0,0)):=by
  have h1:=af (w.alloc (.cells #[.slice (some ⟨g,0,none⟩) ns.length cap,.int .i64 k] 184)) (.cells #[.int .u64 0,.nilFunc,.nilFunc,.int .u64 0,.nilFunc,.nilFunc] 194);rw[hW,show (w.alloc (.cells #[.slice (some ⟨g,0,none⟩) ns.length cap,.int .i64 k] 184)).heap.size=w.heap.size+1 by simp]at h1;exact h1
 have MJ:∀W',Below W.heap.size W W'->bb W' 0 (.slice (some ⟨g,0,none⟩) ns.length cap) ns:=λW' hb=>hL.keep λj hj=>((mF.trans (hb.mono mF.size)).block j (ae (hL.block hj).2.choose_spec))
 have hst:∀W',Below W.heap.size W W'->bu w W':=λW' hb=>bu.ar (mF.trans (hb.mono mF.size))
 have SX:=aa (nh (.slice (some ⟨g,0,none⟩) ns.length cap) ns a W.drew (MJ _ (Below.refl _ _).drew) (hr.world (hst _ (Below.refl _ _).drew)) (he.world (hst _ (Below.refl _ _).drew)) h0 hn hz hl k hk);have HMR:=aa (λ(W':World) (hb:Below W.heap.size W W')=>yT (.slice (some ⟨g,0,none⟩) ns.length cap) ns W' (MJ W' hb) h0 hn)
 have YJ:=aa (λ(W':World) (hb:Below W.heap.size W W') (g3 DG:Nat) (hL3:bb W' 0 (.slice (some ⟨g3,0,none⟩) ns.length DG) (ns.map swp))=>nh (.slice (some ⟨g3,0,none⟩) ns.length DG) (ns.map swp) a.tK W' hL3 (pq (hr.world (hst W' hb))) (pq (he.world (hst W' hb))) (by simpa using h0) (by simpa using hn) (by rw[aM.S0];exact hz) (by rw[aM.Ds];exact hl) k (by rw[aM.jU];exact hk))
 obtain ⟨q,hq⟩:∃q,q=w.heap.size:=⟨_,rfl⟩;have HQ:=aa hq
 have vq:=aa (λ(W':World) (hb:Below W.heap.size W W')=>show (W'.cell? ⟨q,0,none⟩=some (.slice (some ⟨g,0,none⟩) ns.length cap)/\W'.cell? ⟨q,1,none⟩=some (.int .i64 k))/\(W'.cell? ⟨q+1,0,none⟩=some (.int .u64 0)/\W'.frozen? ⟨q+1,0,none⟩=false/\W'.cell? ⟨q+1,1,none⟩=some (.nilFunc)/\W'.frozen? ⟨q+1,1,none⟩=false/\W'.cell? ⟨q+1,2,none⟩=some (.nilFunc)/\W'.frozen? ⟨q+1,2,none⟩=false/\W'.cell? ⟨q+1,3,none⟩=some (.int .u64 0)/\W'.frozen? ⟨q+1,3,none⟩=false/\W'.cell? ⟨q+1,4,none⟩=some (.nilFunc)/\W'.frozen? ⟨q+1,4,none⟩=false/\W'.cell? ⟨q+1,5,none⟩=some (.nilFunc)/\W'.frozen? ⟨q+1,5,none⟩=false)/\W'.heap[q+1]?=some (.cells #[.int .u64 0,.nilFunc,.nilFunc,.int .u64 0,.nilFunc,.nilFunc] 194 (0,0)) from by
  have h1:=(hb.block _ (ae oq)).trans oq;have h2:=(hb.block _ (ae CI)).trans CI;rw[hq];exact ⟨by simp[World.cell?,h1],by simp[World.cell?,World.frozen?,h2],h2⟩)
 have tk:=aa mF;clear mF oq CI MJ hst hL hr he hk;go_enter Tryz.func101,Tryz.ntmps101;go_wp2_with fail;rw[<-hq];clear hW hq;have Ov:=(vq.out W.drew (Below.refl _ _).drew).1
 go_region_held3 (λw'=>w'.cell? ⟨q,0,none⟩=some (.slice (some ⟨g,0,none⟩) ns.length cap)/\w'.cell? ⟨q,1,none⟩=some (.int .i64 k))
  (first
   | with_reducible exact mK
   | with_reducible exact jF
   | with_reducible exact hS1
   | with_reducible exact Ov
   | go_keep)
  (first
   | (go_at_call 140;refine SX.out.mono ?_;clear SX;rintro e1 w1 ⟨ρf,sf,tf,ef,rfl,ue,fH,Ok,gM⟩;have eF:Below W.heap.size W w1:=⟨ue.os,ue.tape,ue.output,ue.size,ue.block⟩;clear ue;have hS1:=(vq.out w1 eF).1;have br:=aa eF;have jR:=aa fH;have HI1:=aa Ok;have Hl1:=aa gM;clear eF fH Ok gM)
   | (go_at_call 141;refine (HMR.out w1 br.out).mono ?_;clear HMR;rintro e3 w3 ⟨sv3,rfl,gG,hL3⟩;obtain ⟨g3,DG,rfl⟩:=aC hL3.1 (by simpa using h0);rw[hlen];rw[hlen]at hL3;have jF:=(vq.out w3 (br.out.trans (gG.mono br.out.size))).1;have eY:=aa gG;have HL3:=aa hL3.base;clear gG hL3)
   | (go_at_call 140;refine (YJ.out w3 (br.out.trans (eY.out.mono br.out.size)) g3 DG HL3.out).mono ?_;clear YJ;rintro e4 w4 ⟨ρb,sb,tb,eb,rfl,jB,lX,hI4,hl4⟩;have hX3:=vq.out w4 (br.out.trans ((eY.out.trans (jB.mono eY.out.size)).mono br.out.size));have mK:=hX3.1;obtain ⟨z0,y0,z1,y1,z2,y2,z3,y3,z4,y4,z5,y5⟩:=hX3.2.1;have HX3:=aa hX3.2.2;clear hX3;have jC:=aa jB;have mD:=aa lX;have Rq:=aa hI4;have Hl4:=aa hl4;clear jB lX hI4 hl4;unfold rdv))
 all_goals
  obtain ⟨w5,Dg,gw,vz,hs5,Ak⟩:=abg (x0:=.int .u64 sf) (x1:=.func (.func 179) #[] #[.pointer (some ⟨ρf.av,0,none⟩)]) (x2:=.func (.func 181) #[] #[.pointer (some ⟨ρf.ev,0,none⟩)]) (x3:=.int .u64 sb) (x4:=.func (.func 179) #[] #[.pointer (some ⟨ρb.av,0,none⟩)]) (x5:=.func (.func 181) #[] #[.pointer (some ⟨ρb.ev,0,none⟩)]) HX3.out
  rw[Dg];have v0:w5.cell? ⟨q+1,0,none⟩=some (.int .u64 sf):=by simp[World.cell?,gw]
  have v1:w5.cell? ⟨q+1,1,none⟩=some (.func (.func 179) #[] #[.pointer (some ⟨ρf.av,0,none⟩)]):=by simp[World.cell?,gw]
  have v2:w5.cell? ⟨q+1,2,none⟩=some (.func (.func 181) #[] #[.pointer (some ⟨ρf.ev,0,none⟩)]):=by simp[World.cell?,gw]
  have v3:w5.cell? ⟨q+1,3,none⟩=some (.int .u64 sb):=by simp[World.cell?,gw]
  have v4:w5.cell? ⟨q+1,4,none⟩=some (.func (.func 179) #[] #[.pointer (some ⟨ρb.av,0,none⟩)]):=by simp[World.cell?,gw]
  have v5:w5.cell? ⟨q+1,5,none⟩=some (.func (.func 181) #[] #[.pointer (some ⟨ρb.ev,0,none⟩)]):=by simp[World.cell?,gw]
  have ai:=aa (EG hw tk.out br.out jR.out HI1.out Hl1.out eY.out jC.out mD.out Rq.out Hl4.out (vz _ (by rw[<-HQ.out];omega)) hs5 Ak);clear Dg gw vz hs5 Ak z0 y0 z1 y1 z2 y2 z3 y3 z4 y4 z5 y5 Ov hS1 jF mK;go_wp2_with fail
  exact bodyPost_ret (v:=.agg #[.int .u64 sf,.func (.func 179) #[] #[.pointer (some ⟨ρf.av,0,none⟩)],.func (.func 181) #[] #[.pointer (some ⟨ρf.ev,0,none⟩)],.int .u64 sb,.func (.func 179) #[] #[.pointer (some ⟨ρb.av,0,none⟩)],.func (.func 181) #[] #[.pointer (some ⟨ρb.ev,0,none⟩)]]) (by simp[results,Tryz.results101,go_sem, *]) rfl ai.out
structure GR where
 k:Nat
 op:Nat
 co:ByteArray
 a:aM
structure GS where
 nm:ByteArray
 rs:List GR
structure za(w:World)(g o:Nat)(r:GR)(lg ln cp:Nat):Prop where
 c0:w.cell? ⟨g,o,none⟩=some (.int .i64 r.k)
 c1:w.cell? ⟨g,o+1,none⟩=some (.int .i64 r.op)
 c2:w.cell? ⟨g,o+2,none⟩=some (.string r.co)
 c3:w.cell? ⟨g,o+3,none⟩=some (.slice (some ⟨lg,0,none⟩) ln cp)
 c4:w.cell? ⟨g,o+4,none⟩=some (.int .i64 r.a.ix)
 pat:∃ns,ns.length=ln/\bb w 0 (.slice (some ⟨lg,0,none⟩) ln cp) ns/\dH (aB w) ns r.a/\dH (aB w) ns .cW/\0<ns.length/\ns.length<=200/\r.a.sz<=200/\r.a.leaves<=60/\r.a.re.aj=false
def sk(w:World)(v:Value)(rs:List GR):Prop:=
 ∃ao cp,v=.slice ao rs.length cp/\∀(j:Nat) r,rs[j]?=some r->∃rg lg ln lc,ao=some ⟨rg,0,none⟩/\za w rg (j*5) r lg ln lc
structure cP(w:World)(g n cap:Nat)(G:List GS):Prop where
 len:n=G.length
 few:n<=12
 at_:∀(i:Nat) s,G[i]?=some s->w.cell? ⟨g,i*2,none⟩=some (.string s.nm)/\s.rs.length<=40/\∃v,w.cell? ⟨g,i*2+1,none⟩=some v/\sk w v s.rs
theorem eM(h:w.cell? p=some v):p.block<w.heap.size:=by
 unfold World.cell? at h
 cases ho:w.heap[p.block]? with
 | none=>simp[ho]at h
 | some o=>exact ae ho
theorem ax(h:w.cell? p=some v)(hb:Below w.heap.size w w'):w'.cell? p=some v:=by
 refine (World.cell?_of_block (hb.block p.block ?_)).trans h;unfold World.cell? at h
 cases ho:w.heap[p.block]? with
 | none=>simp[ho]at h
 | some o=>exact ae ho
theorem za.below{o:Nat}{r:GR}{lg ln cp:Nat}(h:za w g o r lg ln cp)(hb:Below w.heap.size w w'):za w' g o r lg ln cp:=by
 obtain ⟨ns,h1,h2,h3,h4,h5⟩:=h.pat;exact ⟨ax h.c0 hb,ax h.c1 hb,ax h.c2 hb,ax h.c3 hb,ax h.c4 hb,ns,h1,h2.keep λj hj=>hb.block j (ae (h2.block hj).2.choose_spec),h3.world (bu.ar hb),h4.world (bu.ar hb),h5⟩
theorem sk.below{rs:List GR}(h:sk w v rs)(hb:Below w.heap.size w w'):sk w' v rs:=by obtain ⟨ao,cp,h1,h2⟩:=h;exact ⟨ao,cp,h1,λj r hr=>let ⟨rg,lg,ln,lc,h0,h⟩:=h2 j r hr;⟨rg,lg,ln,lc,h0,h.below hb⟩⟩
theorem cP.below{n cap:Nat}{G:List GS}(h:cP w g n cap G)(hb:Below w.heap.size w w'):cP w' g n cap G:=
 ⟨h.len,h.few,λi s hs=>let ⟨h1,h2,v,h3,h4⟩:=h.at_ i s hs;⟨ax h1 hb,h2,v,ax h3 hb,h4.below hb⟩⟩
theorem abh{t:TypeId}(h:w4.heap[bz]?=some (.cells #[z0,z1,z2,z3,z4] t (0,0))):
  ∃w5,(((((w4.setCell ⟨bz,0,none⟩ x0).setCell ⟨bz,1,none⟩ x1).setCell ⟨bz,2,none⟩ x2).setCell ⟨bz,3,none⟩ x3).setCell ⟨bz,4,none⟩ x4)=w5/\w5.heap[bz]?=some (.cells #[x0,x1,x2,x3,x4] t (0,0))/\(∀B,B<=bz->Below B w4 w5)/\w5.heap.size=w4.heap.size/\∀k,k≠bz->w5.heap[k]?=w4.heap[k]?:=by
 have h1:=heap_setCell_same w4 bz 0 x0 h;have h2:=heap_setCell_same _ bz 1 x1 h1;have h3:=heap_setCell_same _ bz 2 x2 h2;have h4:=heap_setCell_same _ bz 3 x3 h3;have h5:=heap_setCell_same _ bz 4 x4 h4;refine ⟨_,rfl,by simpa using h5,λB hB=>(((((Below.refl _ _).setCell hB _).setCell hB _).setCell hB _).setCell hB _).setCell hB _,by simp[World.setCell],λk hk=>?_⟩
 rw[Below.heap_setCell _ _ _ _ (by exact hk),Below.heap_setCell _ _ _ _ (by exact hk),Below.heap_setCell _ _ _ _ (by exact hk),Below.heap_setCell _ _ _ _ (by exact hk),Below.heap_setCell _ _ _ _ (by exact hk)]
def NZ(from_ to:Nat)(nm:ByteArray)(depth:Nat)(co:ByteArray):Value:=.agg #[.int .i64 from_,.int .i64 to,.string nm,.int .i64 depth,.string co]
set_option maxRecDepth 20000 in
set_option maxHeartbeats 2000000 in
theorem BN(g n cap:Nat)(G:List GS)(fv:Value)(hfv:∃f c,fv=.func (.func f) #[] c)(from_ to:Nat)(st:List Nat)(top:Nat)(s:GS)(co:ByteArray)(w:World)(hG:cP w g n cap G)(h8:st.length<=8)(ht:st[st.length - 1]?=some top)(hs:G[top]?=some s):
  Calls Tryz.prog 128 #[.agg #[.slice (some ⟨g,0,none⟩) n cap,fv],.int .i64 from_,.int .i64 to,kA st,.string co] w λe w'=>e=.returned (NZ from_ to s.nm st.length co)/\Below w.heap.size w w':=by
 obtain ⟨f,c,rfl⟩:=hfv;have hlt:top<n:=by rw[hG.len];exact au hs
 have cn:=(hG.at_ top s hs).1;have c8:=dA h8;obtain ⟨a0,a1,a2,a3,a4,a5,a6,a7,a8,hy⟩:=nine h8;have TU:(a8:Int)=st.length:=by rw[hy]at c8;simp at c8;omega
 have HU:=aa (λW=>mZ st top h8 ht W);unfold kA at HU ⊢;rw[hy]at HU ⊢;obtain ⟨q,hq⟩:∃q,q=w.heap.size:=⟨_,rfl⟩
 obtain ⟨W,hW⟩:∃W,((w.alloc (.cells #[.slice (some ⟨g,0,none⟩) n cap,.func (.func f) #[] c] 171)).alloc (.cells #[.int .i64 a0,.int .i64 a1,.int .i64 a2,.int .i64 a3,.int .i64 a4,.int .i64 a5,.int .i64 a6,.int .i64 a7,.int .i64 a8] 138)).alloc (.cells #[.int .i64 0,.int .i64 0,.string ⟨#[]⟩,.int .i64 0,.string ⟨#[]⟩] 70)=W:=⟨_,rfl⟩
 have mF:Below w.heap.size w W:=by rw[<-hW];exact kF _ _ _ _
 have HW:=aa (show W.heap[q]?=some (.cells #[.slice (some ⟨g,0,none⟩) n cap,.func (.func f) #[] c] 171 (0,0))/\W.heap[q+1]?=some (.cells #[.int .i64 a0,.int .i64 a1,.int .i64 a2,.int .i64 a3,.int .i64 a4,.int .i64 a5,.int .i64 a6,.int .i64 a7,.int .i64 a8] 138 (0,0))/\W.heap[q+1+1]?=some (.cells #[.int .i64 0,.int .i64 0,.string ⟨#[]⟩,.int .i64 0,.string ⟨#[]⟩] 70 (0,0)) from by
  rw[<-hW,hq];have h1:=af w (.cells #[.slice (some ⟨g,0,none⟩) n cap,.func (.func f) #[] c] 171);have h2:=af (w.alloc (.cells #[.slice (some ⟨g,0,none⟩) n cap,.func (.func f) #[] c] 171)) (.cells #[.int .i64 a0,.int .i64 a1,.int .i64 a2,.int .i64 a3,.int .i64 a4,.int .i64 a5,.int .i64 a6,.int .i64 a7,.int .i64 a8] 138)
  have h3:=af ((w.alloc (.cells #[.slice (some ⟨g,0,none⟩) n cap,.func (.func f) #[] c] 171)).alloc (.cells #[.int .i64 a0,.int .i64 a1,.int .i64 a2,.int .i64 a3,.int .i64 a4,.int .i64 a5,.int .i64 a6,.int .i64 a7,.int .i64 a8] 138)) (.cells #[.int .i64 0,.int .i64 0,.string ⟨#[]⟩,.int .i64 0,.string ⟨#[]⟩] 70)
  simp only[World.size_alloc]at h2 h3;exact ⟨heap_alloc_old (heap_alloc_old h1),heap_alloc_old h2,h3⟩)
 have vq:=aa (λ(W':World) (hb:Below W.heap.size W W')=>show (W'.cell? ⟨q,0,none⟩=some (.slice (some ⟨g,0,none⟩) n cap)/\W'.cell? ⟨q+1,0,none⟩=some (.int .i64 a0)/\W'.cell? ⟨q+1,1,none⟩=some (.int .i64 a1)/\W'.cell? ⟨q+1,2,none⟩=some (.int .i64 a2)/\W'.cell? ⟨q+1,3,none⟩=some (.int .i64 a3)/\W'.cell? ⟨q+1,4,none⟩=some (.int .i64 a4)/\W'.cell? ⟨q+1,5,none⟩=some (.int .i64 a5)/\W'.cell? ⟨q+1,6,none⟩=some (.int .i64 a6)/\W'.cell? ⟨q+1,7,none⟩=some (.int .i64 a7)/\W'.cell? ⟨q+1,8,none⟩=some (.int .i64 a8)/\W'.cell? ⟨g,top*2,none⟩=some (.string s.nm))/\(W'.cell? ⟨q+1+1,0,none⟩=some (.int .i64 0)/\W'.frozen? ⟨q+1+1,0,none⟩=false/\W'.cell? ⟨q+1+1,1,none⟩=some (.int .i64 0)/\W'.frozen? ⟨q+1+1,1,none⟩=false/\W'.cell? ⟨q+1+1,2,none⟩=some (.string ⟨#[]⟩)/\W'.frozen? ⟨q+1+1,2,none⟩=false/\W'.cell? ⟨q+1+1,3,none⟩=some (.int .i64 0)/\W'.frozen? ⟨q+1+1,3,none⟩=false/\W'.cell? ⟨q+1+1,4,none⟩=some (.string ⟨#[]⟩)/\W'.frozen? ⟨q+1+1,4,none⟩=false) from by
  obtain ⟨h1,h2,h3⟩:=HW.out;have k1:=(hb.block _ (ae h1)).trans h1;have k2:=(hb.block _ (ae h2)).trans h2;have k3:=(hb.block _ (ae h3)).trans h3
  exact ⟨⟨by simp[World.cell?,k1],by simp[World.cell?,k2],by simp[World.cell?,k2],by simp[World.cell?,k2],by simp[World.cell?,k2],by simp[World.cell?,k2],by simp[World.cell?,k2],by simp[World.cell?,k2],by simp[World.cell?,k2],by simp[World.cell?,k2],ax cn (mF.trans (hb.mono mF.size))⟩,by simp[World.cell?,World.frozen?,k3]⟩)
 have hgq:g≠q+1+1:=by have h:g<w.heap.size:=eM cn;omega
 have acr:q+1+1≠g:=hgq.symm;have Xy:(q=q+1+1)=False:=eq_false (by omega);have acs:(q+1+1=q)=False:=eq_false (by omega);have tk:=aa mF;have ai:=aa (show ∀W',Below w.heap.size w W'->(Ending.returned (.agg #[.int .i64 from_,.int .i64 to,.string s.nm,.int .i64 a8,.string co])=.returned (NZ from_ to s.nm st.length co)/\Below w.heap.size w W') from λW' hb=>⟨by rw[TU];rfl,hb⟩)
 clear hG cn c8 mF hy TU ht hs;go_enter Tryz.func128,Tryz.ntmps128;go_wp2_with fail;rw[<-hq];clear hW;have HQ:=aa hq;clear hq;have Ov:=(vq.out W.drew (Below.refl _ _).drew).1
 go_region_held3 (λw'=>w'.cell? ⟨q,0,none⟩=some (.slice (some ⟨g,0,none⟩) n cap)/\w'.cell? ⟨q+1,0,none⟩=some (.int .i64 a0)/\w'.cell? ⟨q+1,1,none⟩=some (.int .i64 a1)/\w'.cell? ⟨q+1,2,none⟩=some (.int .i64 a2)/\w'.cell? ⟨q+1,3,none⟩=some (.int .i64 a3)/\w'.cell? ⟨q+1,4,none⟩=some (.int .i64 a4)/\w'.cell? ⟨q+1,5,none⟩=some (.int .i64 a5)/\w'.cell? ⟨q+1,6,none⟩=some (.int .i64 a6)/\w'.cell? ⟨q+1,7,none⟩=some (.int .i64 a7)/\w'.cell? ⟨q+1,8,none⟩=some (.int .i64 a8)/\w'.cell? ⟨g,top*2,none⟩=some (.string s.nm))
  (first
   | with_reducible exact mK
   | with_reducible exact Ov
   | go_keep)
  (first
   | (go_at_call 126;refine (HU.out W.drew).mono ?_;clear HU;rintro e4 w4 ⟨rfl,hb4⟩;have jB:Below W.heap.size W w4:=⟨hb4.os,hb4.tape,hb4.output,hb4.size,hb4.block⟩;clear hb4;obtain ⟨mK,z0,y0,z1,y1,z2,y2,z3,y3,z4,y4⟩:=vq.out w4 jB;have jC:=aa jB;clear jB))
 all_goals
  obtain ⟨w5,Dg,gw,vz,hs5,-⟩:=abh (x0:=.int .i64 from_) (x1:=.int .i64 to) (x2:=.string s.nm) (x3:=.int .i64 a8) (x4:=.string co) ((jC.out.block _ (ae HW.out.2.2)).trans HW.out.2.2);rw[Dg];have v0:w5.cell? ⟨q+1+1,0,none⟩=some (.int .i64 from_):=by simp[World.cell?,gw]
  have v1:w5.cell? ⟨q+1+1,1,none⟩=some (.int .i64 to):=by simp[World.cell?,gw]
  have v2:w5.cell? ⟨q+1+1,2,none⟩=some (.string s.nm):=by simp[World.cell?,gw]
  have v3:w5.cell? ⟨q+1+1,3,none⟩=some (.int .i64 a8):=by simp[World.cell?,gw]
  have v4:w5.cell? ⟨q+1+1,4,none⟩=some (.string co):=by simp[World.cell?,gw]
  have HE:=aa (ai.out w5 ((tk.out.trans (jC.out.mono tk.out.size)).trans (vz _ (by rw[<-HQ.out];omega))));clear Dg gw vz hs5 z0 y0 z1 y1 z2 y2 z3 y3 z4 y4 Ov mK;go_wp2_with fail;exact bodyPost_ret (v:=.agg #[.int .i64 from_,.int .i64 to,.string s.nm,.int .i64 a8,.string co]) (by simp[results,Tryz.results128,go_sem, *]) rfl HE.out
end Go.Proofs.YtgncgdkpkkdaeaaGreatDoor
