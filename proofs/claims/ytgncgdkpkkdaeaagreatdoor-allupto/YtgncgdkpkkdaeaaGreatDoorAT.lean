import Derived.Test.YtgncgdkpkkdaeaaGreatDoorAR
import Derived.RangeFuncBound
import Derived.Shelf.RegionOpen
import Derived.OwnWalkIn
import Derived.LoopNIn
import Derived.LoopIn
set_option maxRecDepth 20000
set_option maxHeartbeats 2000000
namespace Go.Proofs.YtgncgdkpkkdaeaaGreatDoor
open Go.RowKit bu Go.Maps Go.Shelf
variable {a root:aP} {p:Addr} {text:ByteArray} {ns:List (Nd Value)} {ts:List D} {T:List UInt8} {L bf bi bt bz f g i n0 sb sf st:Nat} {O X Y:Nat->Prop} {ρ ρb ρf:Rd} {v x0 x1 x2 x3 x4 z0 z1 z2 z3 z4:Value} {w w' w3 w4:World}
attribute [local go_sem] Oper.semAt_some
theorem K4{r:Re}(hr:root.re=r.rev)(hl:∀u,di ts L u<->∃j,i<=j/\j<=T.length/\Mt root.re ((jv T i j).reverse++u)):di ts L []<->From r T i:=by rw[hl];unfold From;simp only[List.append_nil,hr,Vg,List.reverse_reverse]
def Seen(r:Re)(T:List UInt8)(i p:Nat)(o:Bool):Prop:=(o=true->i<=p/\p<=T.length/\From r T p/\∀j,i<=j->j<p->¬From r T j)/\(o=false->p=0/\∀j,i<=j->¬From r T j)
def zm(X:Nat->Prop)(ρ:Rd)(n0:Nat)(root:aP)(ts:List D)(T:List UInt8)(f:Nat)(J:Nat->World->Prop)(B:World->Prop)(w:World)(k:Nat)(left at_:Value)(wr:World):Prop:=
 ∃(L i:Nat) (us:List D) (eG:Nat),left=.int .u64 L/\at_=.int .i64 i/\f+k=i/\i<=T.length/\w.heap.size<=wr.heap.size/\B wr/\Full wr X ρ n0 root (ts++us) eG/\oM (ts++us) L/\(∀u,di (ts++us) L u<->∃j,i<=j/\j<=T.length/\Mt root.re ((jv T i j).reverse++u))/\J (i+1) wr
theorem tE{us wO:List D}{R eG:Nat}{b:UInt8}{J:Nat->World->Prop}{B:World->Prop}{k:Nat}{wr:World}(hf:f+(k+1)=i+1)(hB:B w3)(hi:i+1<=T.length)(hsz:w.heap.size<=wr.heap.size)(hl:∀u,di (ts++us) L u<->∃j,i+1<=j/\j<=T.length/\Mt root.re ((jv T (i+1) j).reverse++u))
  (hJ:J (i+1) w3) (hb:T[i]?=some b) (hst:oM ts st) (Ew:∀u,di ts st u<->Mt root.re u) (dJ:Fx X wr w3) (oN:Full w3 X ρ n0 root (ts++us++wO) eG) (hR:oM (ts++us++wO) R) (hRl:∀u,di (ts++us++wO) R u<->di (ts++us) L (b::u)):
  zm X ρ n0 root ts T f J B w k (.int .u64 ((R ||| st:Nat):Int)) (.int .i64 i) w3:=by
 rw[fP]at oN hR hRl;have e1:∀j,i+1<=j->∀u,(jv T i j).reverse++u=(jv T (i+1) j).reverse++b::u:=λj hj u=>by rw[je T (Nat.le_succ i) hj,AJ T hb];simp
 refine ⟨R ||| st,i,us++wO,eG,rfl,rfl,by omega,by omega,bJ hsz dJ.size,hB,oN,hR.or hst.append,λu=>?_,hJ⟩;rw[di.or,hRl,hl,di.append hst,Ew];constructor
 ·rintro (⟨j,h1,h2,h3⟩|h)
  ·exact ⟨j,by omega,h2,by rw[e1 j h1];exact h3⟩
  ·exact ⟨i,bc _,by omega,by rw[gu];simpa using h⟩
 ·rintro ⟨j,h1,h2,h3⟩;rcases ed i j with h|h
  ·exact .inl ⟨j,h,h2,by rw[<-e1 j h];exact h3⟩
  ·have:j=i:=by omega
   subst this;rw[gu]at h3;exact .inr (by simpa using h3)
def GN(X:Nat->Prop)(ρ:Rd)(n0:Nat)(root:aP)(ts:List D)(f:Nat)(J Jx:Nat->World->Prop)(e:Ending)(w':World):Prop:=
 (∃v,e=.returned v)/\(∃us eG,Full w' X ρ n0 root (ts++us) eG)/\(J f w'∨∃i,Jx i w')
def fj(ρf:Rd)(sf:Nat)(ρ:Rd)(st:Nat):Obj:=.cells #[.int .u64 sf,.func (.func 179) #[] #[.pointer (some ⟨ρf.av,0,none⟩)],.func (.func 181) #[] #[.pointer (some ⟨ρf.ev,0,none⟩)],.int .u64 st,.func (.func 179) #[] #[.pointer (some ⟨ρ.av,0,none⟩)],.func (.func 181) #[] #[.pointer (some ⟨ρ.ev,0,none⟩)]] 194 (0,0)
structure qT(bf bt bi:Nat)(ρf:Rd)(sf:Nat)(ρ:Rd)(st:Nat)(text:ByteArray)(f:Nat)(w:World):Prop where
 fin:w.heap[bf]?=some (fj ρf sf ρ st)
 txt:w.heap[bt]?=some (.cells #[.string text] 9 (0,0))
 Yr:w.heap[bi]?=some (.cells #[.int .i64 f] 3 (0,0))
 tab:lC w
structure SL(X Y:Nat->Prop)(bf bt bi:Nat):Prop where
 sub:∀k,Y k->X k
 f:X bf/\¬Y bf
 t:X bt/\¬Y bt
 i:X bi/\¬Y bi
 z:X 1/\¬Y 1
theorem qT.fx(h:qT bf bt bi ρf sf ρ st text f w)(ho:SL X Y bf bt bi)(hF:Fx X w w'):qT bf bt bi ρf sf ρ st text f w':=
 ⟨(hF.keep _ ho.f.1).trans h.fin,(hF.keep _ ho.t.1).trans h.txt,(hF.keep _ ho.i.1).trans h.Yr,h.tab.keep (hF.keep 1 ho.z.1)⟩
theorem qT.off(h:qT bf bt bi ρf sf ρ st text f w)(ho:SL X Y bf bt bi)(h0:1 < w.heap.size)(hF:aM Y w w'):qT bf bt bi ρf sf ρ st text f w':=
 ⟨hF.same h.fin ho.f.2,hF.same h.txt ho.t.2,hF.same h.Yr ho.i.2,h.tab.keep (hF.keep 1 ⟨h0,ho.z.2⟩)⟩
theorem GP(n:Nat)(X Y:Nat->Prop)(ρf:Rd)(sf:Nat)(ρ:Rd)(n0:Nat)(root:aP)(ts:List D)(en:Nat)(st:Nat)(r:Re)(text:ByteArray)(f l bf bt bi:Nat)(J Jx:Nat->World->Prop)(w:World)(hX:iG X w)(ho:SL X Y bf bt bi)(hB:qT bf bt bi ρf sf ρ st text f w)(hF:Full w X ρ n0 root ts en)(hi:oM ts st)(hl:∀u,di ts st u<->Mt root.re u)(hr:root.re=r.rev)(hs:f<=text.size)(hsz:text.size<=maxLen)
  (hJ:∀i A B,J i A->Fx X A B->J i B) (hJs:∀i A,f<=i->i<=text.size->¬From r text.data.toList i->J (i+1) A->J i A)
  (hY:∀i A,f<=i->i<=text.size->From r text.data.toList i->J (i+1) A->YieldAt Fence.wide (n - 1) Tryz.prog l #[.int .i64 i] A λe B=>aM Y A B/\((e=.returned (.bool true)/\J i B)∨(e=.returned (.bool false)/\Jx i B)))
  (h0:J (text.size+1) w):
  CallsIn Fence.wide n Tryz.prog 182 #[.func (.yield l) #[] #[],.pointer (some ⟨bf,0,none⟩),.pointer (some ⟨bt,0,none⟩),.pointer (some ⟨bi,0,none⟩)] w (GN X ρ n0 root ts f J Jx):=by
 refine callsIn_wide.2 ?_;have b3:w.cell? ⟨bf,3,none⟩=some (.int .u64 st):=by simp[World.cell?,hB.fin,fj]
 have b4:w.cell? ⟨bt,0,none⟩=some (.string text):=by simp[World.cell?,hB.txt]
 have Uv:=hi.lt (by have:=hF.few;omega);have hT0:=hX _ ho.z.1;have HX:=aa hX;have HO:=aa ho;have HB:=aa hB;have HF:=aa hF;have HI:=aa hi;have HL:=aa hl;have HR:=aa hr;have HJ:=aa hJ;have HJS:=aa hJs;have HY:=aa hY;have H0:=aa h0;clear hX ho hB hF hi hl hr hJ hJs hY h0;go_enter Tryz.func182,Tryz.ntmps182;go_wp2_with fail
 go_loopg [5,6] (text.size - f) (λk left at_ wr=>zm X ρ n0 root ts text.data.toList f J (qT bf bt bi ρf sf ρ st text f) w k left at_ wr)
 case atStart=>
  refine ⟨st,text.size,[],en,rfl,rfl,by omega,bc _,bc _,HB.out,by simpa using HF.out,by simpa using HI.out,λu=>?_,H0.out⟩;rw[List.append_nil,HL.out];constructor
  ·intro h;exact ⟨text.size,bc _,bc _,by rw[gu];simpa using h⟩
  ·rintro ⟨j,h1,h2,h3⟩;have:j=text.size:=by rw[aj]at h2;omega
   subst this;rw[gu]at h3;simpa using h3
 case round=>
  obtain ⟨L,i,us,eG,rfl,rfl,hk,hi,hsw,lp,oN,hL,hl,hj⟩:=hrel;have r5:wr.cell? ⟨bf,5,none⟩=some (.func (.func 181) #[] #[.pointer (some ⟨ρ.ev,0,none⟩)]):=by simp[World.cell?,lp.fin,fj]
  have py:=aa (zb X ρ n0 root (ts++us) eG L wr oN hL);have H9:=aa (K4 HR.out hl);rw[aj]at hi;have xw:=aa lp;have O9:=aa oN;have Dz:=aa hL;have Hl:=aa hl;have Hj:=aa hj;clear oN hL hl hj lp;refine (wpIn_wide (n:=n)).1 ?_;gi_wp2_with fail;refine ⟨trivial,λh=>(by cases h),(callsIn_wide.2 py.out).mono ?_⟩;rintro e w1 ⟨x,rfl,rfl,hx⟩
  have c0:w1.cell? ⟨bi,0,none⟩=some (.int .i64 f):=by simp[World.cell?,xw.out.Yr]
  cases x with
  | true=>
   obtain ⟨fn,tmps,assign,body,hy,hR⟩:=HY.out i w1 (by omega) hi (H9.out.1 (hx.1 rfl)) Hj.out;have uJ:=aa hR;clear hR hx py H9;gi_wp2_with fail;refine ⟨λh=>(by cases h),uJ.out.mono ?_⟩;rintro e W' ⟨aR,(⟨rfl,hj'⟩|⟨rfl,zI⟩)⟩
   ·have Iy:=aa aR;have K5:=aa (xw.out.off HO.out (dw hT0 hsw) aR);have SM:=aa (O9.out.off (aR.sub λk _ hk=>HO.out.sub k hk));have jV:=aa hj';have c1:W'.cell? ⟨bi,0,none⟩=some (.int .i64 f):=by simp[World.cell?,K5.out.Yr]
    clear aR hj' uJ hy;by_cases hat:i<=f
    ·obtain rfl:i=f:=by omega
     gi_wp2_with fail;go_end0;exact ⟨⟨_,rfl⟩,⟨us,eG,SM.out⟩,.inl jV.out⟩
    ·have hat':decide (i<=f)=false:=by simp;omega
     obtain ⟨i0,rfl⟩:∃i0,i=i0+1:=⟨i - 1,by omega⟩;have hlt:i0<text.size:=by omega
     have yv:i0+1<=9223372036854775807:=by unfold maxLen at hsz;omega
     obtain ⟨k',rfl⟩:∃k',gk=k'+1:=⟨gk - 1,by omega⟩;have Mi:=aa (nR X ρ n0 root (ts++us) eG L text[i0] W'.drew ((HX.out.mono hsw).mono Iy.out.size) HO.out.z.1 K5.out.tab (SM.out.below (Below.refl _ _).drew) Dz.out);have WG:=aa (qI hlt);have HK:=aa hk;have hwr:IntKind.i64.wrap (i0:Int)=(i0:Int):=by rw[IntKind.wrap_i64];omega
     have g3:W'.cell? ⟨bf,3,none⟩=some (.int .u64 st):=by simp[World.cell?,K5.out.fin,fj]
     have g4:W'.cell? ⟨bf,4,none⟩=some (.func (.func 179) #[] #[.pointer (some ⟨ρ.av,0,none⟩)]):=by simp[World.cell?,K5.out.fin,fj]
     have g5:W'.cell? ⟨bt,0,none⟩=some (.string text):=by simp[World.cell?,K5.out.txt]
     have HSW:=aa (show w.heap.size<=W'.heap.size from bJ hsw Iy.out.size)
     have xG:=aa (λ(w3:World) (h3:qT bf bt bi ρf sf ρ st text f w3)=>show w3.cell? ⟨bf,3,none⟩=some (.int .u64 st)/\w3.cell? ⟨bf,4,none⟩=some (.func (.func 179) #[] #[.pointer (some ⟨ρ.av,0,none⟩)])/\w3.cell? ⟨bt,0,none⟩=some (.string text) from ⟨by simp[World.cell?,h3.fin,fj],by simp[World.cell?,h3.fin,fj],by simp[World.cell?,h3.txt]⟩)
     gi_wp2_with fail;refine wpIn_wide.2 ?_
     go_region_held3 (λw'=>w'.cell? ⟨bf,3,none⟩=some (.int .u64 st)/\w'.cell? ⟨bf,4,none⟩=some (.func (.func 179) #[] #[.pointer (some ⟨ρ.av,0,none⟩)])/\w'.cell? ⟨bt,0,none⟩=some (.string text))
      (first
       | with_reducible exact BG
       | go_keep)
      (first
       | (go_at_call 179;refine Mi.out.mono ?_;rintro e3 w3 ⟨R,wO,Ug,rfl,dJ,mQ,CG,yn⟩;have iC:=qT.fx K5.out HO.out dJ.iz;have BG:=xG.out w3 iC;have HST:=aa (tE HK.out iC (by rw[aj];omega) HSW.out Hl.out (HJ.out _ _ _ jV.out dJ.iz) WG.out HI.out HL.out dJ.iz mQ CG yn);have Sn:=aa (bits_or_u64_nat R st (CG.lt (by have:=mQ.few;omega)) Uv);clear dJ mQ CG yn iC))
     all_goals
      gi_wp2_with fail;go_roundg k'
      case measure=>omega
      case rel=>have hst:=HST.out;rw[<-Sn.out]at hst;exact hst
   ·have SM:=aa (O9.out.off (aR.sub λk _ hk=>HO.out.sub k hk));have jV:=aa zI;clear aR zI uJ hy;gi_wp2_with fail;go_end0;exact ⟨⟨_,rfl⟩,⟨us,eG,SM.out⟩,.inr ⟨i,jV.out⟩⟩
  | false=>
   have HJN:=aa (HJS.out i w1 (by omega) hi (λh=>by simpa using hx.2 (H9.out.2 h)) Hj.out);clear hx py;by_cases hat:i<=f
   ·obtain rfl:i=f:=by omega
    gi_wp2_with fail;refine ⟨λ_ h=>(by cases h),?_⟩;gi_wp2_with fail;go_end0;exact ⟨⟨_,rfl⟩,⟨us,eG,O9.out⟩,.inl HJN.out⟩
   ·have hat':decide (i<=f)=false:=by simp;omega
    obtain ⟨i0,rfl⟩:∃i0,i=i0+1:=⟨i - 1,by omega⟩;have hlt:i0<text.size:=by omega
    have yv:i0+1<=9223372036854775807:=by unfold maxLen at hsz;omega
    obtain ⟨k',rfl⟩:∃k',gk=k'+1:=⟨gk - 1,by omega⟩;have Mi:=aa (nR X ρ n0 root (ts++us) eG L text[i0] w1.drew ((HX.out.mono hsw).mono (bc _)) HO.out.z.1 xw.out.tab (O9.out.below (Below.refl _ _).drew) Dz.out);have WG:=aa (qI hlt);have HK:=aa hk;have hwr:IntKind.i64.wrap (i0:Int)=(i0:Int):=by rw[IntKind.wrap_i64];omega
    have g3:w1.cell? ⟨bf,3,none⟩=some (.int .u64 st):=by simp[World.cell?,xw.out.fin,fj]
    have g4:w1.cell? ⟨bf,4,none⟩=some (.func (.func 179) #[] #[.pointer (some ⟨ρ.av,0,none⟩)]):=by simp[World.cell?,xw.out.fin,fj]
    have g5:w1.cell? ⟨bt,0,none⟩=some (.string text):=by simp[World.cell?,xw.out.txt]
    have HSW:=aa (show w.heap.size<=w1.heap.size from bJ hsw (bc _))
    have xG:=aa (λ(w3:World) (h3:qT bf bt bi ρf sf ρ st text f w3)=>show w3.cell? ⟨bf,3,none⟩=some (.int .u64 st)/\w3.cell? ⟨bf,4,none⟩=some (.func (.func 179) #[] #[.pointer (some ⟨ρ.av,0,none⟩)])/\w3.cell? ⟨bt,0,none⟩=some (.string text) from ⟨by simp[World.cell?,h3.fin,fj],by simp[World.cell?,h3.fin,fj],by simp[World.cell?,h3.txt]⟩)
    gi_wp2_with fail;refine ⟨λ_ h=>(by cases h),?_⟩;gi_wp2_with fail;refine wpIn_wide.2 ?_
    go_region_held3 (λw'=>w'.cell? ⟨bf,3,none⟩=some (.int .u64 st)/\w'.cell? ⟨bf,4,none⟩=some (.func (.func 179) #[] #[.pointer (some ⟨ρ.av,0,none⟩)])/\w'.cell? ⟨bt,0,none⟩=some (.string text))
     (first
      | with_reducible exact BG
      | go_keep)
     (first
      | (go_at_call 179;refine Mi.out.mono ?_;rintro e3 w3 ⟨R,wO,Ug,rfl,dJ,mQ,CG,yn⟩;have iC:=qT.fx xw.out HO.out dJ.iz;have BG:=xG.out w3 iC;have HST:=aa (tE HK.out iC (by rw[aj];omega) HSW.out Hl.out (HJ.out _ _ _ HJN.out dJ.iz) WG.out HI.out HL.out dJ.iz mQ CG yn);have Sn:=aa (bits_or_u64_nat R st (CG.lt (by have:=mQ.few;omega)) Uv);clear dJ mQ CG yn iC))
    all_goals
     gi_wp2_with fail;go_roundg k'
     case measure=>omega
     case rel=>have hst:=HST.out;rw[<-Sn.out]at hst;exact hst
structure aS(w:World)(O:Nat->Prop)(a:aP)(ρf:Rd)(sf:Nat)(ρb:Rd)(sb:Nat):Prop where
 old:∀k,O k->k<w.heap.size
 tab:¬O 1
 parts:∃Of Ob:Nat->Prop,(∀k,Of k->O k)/\(∀k,Ob k->O k)/\(∀k,Of k->¬Ob k)/\qQ w Of a ρf sf/\qQ w Ob a.vL ρb sb
theorem aS.GQ(h:aS w O a ρf sf ρb sb):1 < w.heap.size:=by obtain ⟨Of,Ob,h1,h2,h3,h4,h5⟩:=h.parts;exact h4.tab.2
theorem aS.off(h:aS w O a ρf sf ρb sb)(ho:aM Y w w')(hd:∀k,O k->¬Y k):aS w' O a ρf sf ρb sb:=by obtain ⟨Of,Ob,h1,h2,h3,h4,h5⟩:=h.parts;exact ⟨λk hk=>dw (h.old k hk) ho.size,h.tab,Of,Ob,h1,h2,h3,h4.off ho (λk hk=>hd k (h1 k hk)),h5.off ho (λk hk=>hd k (h2 k hk))⟩
theorem aS.below(h:aS w O a ρf sf ρb sb)(hb:Below w.heap.size w w'):aS w' O a ρf sf ρb sb:=
 h.off (Y:=λ_=>False) (aM.ay hb) (λ_ _ h=>h)
def Bl(r:Re)(T:List UInt8)(s stop:Nat):Prop:=s<=stop/\stop<=T.length/\(stop=s∨Mt r (jv T s stop))/\∀j,stop<j->j<=T.length->¬Mt r (jv T s j)
def SN(O:Nat->Prop)(a:aP)(ρf:Rd)(sf:Nat)(ρb:Rd)(sb:Nat)(T:List UInt8)(s:Nat)(w:World)(e:Ending)(w':World):Prop:=
 ∃stop:Nat,e=.returned (.int .i64 stop)/\aM O w w'/\aS w' (grow O w w') a ρf sf ρb sb/\Bl a.re T s stop
theorem I4(O:Nat->Prop)(a:aP)(ρf:Rd)(sf:Nat)(ρb:Rd)(sb:Nat)(text:ByteArray)(s:Nat)(w:World)(hT:lC w)(hF:aS w O a ρf sf ρb sb)(hs:s<=text.size)(hsz:text.size<=maxLen):
  Calls Tryz.prog 129 #[yX ρf sf ρb sb,.string text,.int .i64 s] w (SN O a ρf sf ρb sb text.data.toList s w):=by
 obtain ⟨Of,Ob,h1,h2,h3,h4,h5⟩:=hF.parts;obtain ⟨n0,ts,en,oN,hi,hl⟩:=h4.full;refine (DJ (O7 Of w) ρf n0 a ts en sf ρb sb text s w (IV _ _) ⟨h4.tab.2,h4.tab.1⟩ hT oN hi hl hs hsz).mono ?_;rintro e w' ⟨stop,us,eG,rfl,ou,WX,qR⟩
 refine ⟨stop,rfl,(aM.O8 ou).sub λk _ hk=>h1 k hk,⟨λk hk=>?_,λhk=>hk.elim hF.tab (λh=>by have:=hF.GQ;omega),grow Of w w',Ob,λk hk=>?_,λk hk=>.inl (h2 k hk),λk hk hb=>?_,h4.grown ou WX hi hl,h5.off (aM.O8 ou) λk hb hk=>h3 k hk hb⟩,qR⟩
 ·exact hk.elim (λh=>dw (hF.old k h) ou.size) (λh=>h.2)
 ·exact hk.elim (λh=>.inl (h1 k h)) .inr
 ·rcases hk with hk|hk
  ·exact h3 k hk hb
  ·have:=h5.old k hb;omega
theorem tF(n:Nat)(O Y:Nat->Prop)(a:aP)(ρf:Rd)(sf:Nat)(ρb:Rd)(sb:Nat)(text:ByteArray)(f l bf bt bi:Nat)(J Jx:Nat->World->Prop)(w:World)(hF:aS w O a ρf sf ρb sb)(hB:qT bf bt bi ρf sf ρb sb text f w)(hs:f<=text.size)(hsz:text.size<=maxLen)
  (hYO:∀k,Y k->¬O k) (hYw:∀k,Y k->k<w.heap.size) (hf:¬O bf/\¬Y bf) (ht:¬O bt/\¬Y bt) (SQ:¬O bi/\¬Y bi) (hz:¬Y 1)
  (hJ:∀i A B,J i A->aM (λk=>O k∨w.heap.size<=k) A B->J i B) (hJs:∀i A,f<=i->i<=text.size->¬From a.re text.data.toList i->J (i+1) A->J i A)
  (hY:∀i A,f<=i->i<=text.size->From a.re text.data.toList i->J (i+1) A->YieldAt Fence.wide (n - 1) Tryz.prog l #[.int .i64 i] A λe B=>aM Y A B/\((e=.returned (.bool true)/\J i B)∨(e=.returned (.bool false)/\Jx i B)))
  (h0:J (text.size+1) w):
  CallsIn Fence.wide n Tryz.prog 182 #[.func (.yield l) #[] #[],.pointer (some ⟨bf,0,none⟩),.pointer (some ⟨bt,0,none⟩),.pointer (some ⟨bi,0,none⟩)] w (λe w'=>(∃v,e=.returned v)/\(∃O',(∀k,O' k->O k∨w.heap.size<=k)/\aS w' O' a ρf sf ρb sb)/\(J f w'∨∃i,Jx i w')):=by
 obtain ⟨Of,Ob,h1,h2,h3,h4,h5⟩:=hF.parts;obtain ⟨n0,ts,en,oN,hi,hl⟩:=h5.full;have Ey:SL (O7 Ob w) Y bf bt bi:=⟨λk hk=>⟨hYw k hk,λh=>hYO k hk (h2 k h)⟩,⟨⟨ae hB.fin,λh=>hf.1 (h2 _ h)⟩,hf.2⟩,⟨⟨ae hB.txt,λh=>ht.1 (h2 _ h)⟩,ht.2⟩,⟨⟨ae hB.Yr,λh=>SQ.1 (h2 _ h)⟩,SQ.2⟩,⟨⟨h5.tab.2,h5.tab.1⟩,hz⟩⟩
 have hX:∀(A B:World),w.heap.size<=A.heap.size->Fx (O7 Ob w) A B->aM (λk=>Ob k∨w.heap.size<=k) A B:=λA B _ h=>h.sub λk hk=>⟨Nat.lt_of_not_le λh=>hk.2 (.inr h),λh=>hk.2 (.inl h)⟩
 have hnf:∀k,Of k->¬(Ob k∨w.heap.size<=k):=λk hk h=>h.elim (h3 k hk) (λh=>by have:=h4.old k hk;omega)
 refine (GP n (O7 Ob w) Y ρf sf ρb n0 a.vL ts en sb a.re text f l bf bt bi (λi W=>J i W/\w.heap.size<=W.heap.size/\qQ W Of a ρf sf) (λi W=>Jx i W/\w.heap.size<=W.heap.size/\qQ W Of a ρf sf) w (IV _ _) Ey hB oN hi hl a.rR hs hsz ?_ ?_ ?_ ⟨h0,bc _,h4⟩).mono ?_
 ·rintro i A B ⟨hj,Js,hr⟩ ou;have aR:=hX A B Js ou;exact ⟨hJ i A B hj (aR.sub λk _ hk=>hk.elim (λh=>.inl (h2 k h)) .inr),bJ Js ou.size,hr.off aR hnf⟩
 ·rintro i A yv EK hn ⟨hj,hr⟩;exact ⟨hJs i A yv EK hn hj,hr⟩
 ·rintro i A yv EK mW ⟨hj,Js,hr⟩;obtain ⟨fn,tmps,assign,body,hy,hR⟩:=hY i A yv EK mW hj;refine ⟨fn,tmps,assign,body,hy,hR.mono ?_⟩;rintro e B ⟨aR,BH⟩;have AG:=hr.off aR (λk hk hy=>hYO k hy (h1 k hk));exact ⟨aR,BH.imp (λh=>⟨h.1,h.2,bJ Js aR.size,AG⟩) (λh=>⟨h.1,h.2,bJ Js aR.size,AG⟩)⟩
 ·rintro e w' ⟨hv,⟨us,eG,WX⟩,hend⟩
  have JA:w.heap.size<=w'.heap.size/\qQ w' Of a ρf sf/\(J f w'∨∃i,Jx i w'):=by
   rcases hend with ⟨hj,hs,hr⟩|⟨i,hj,hs,hr⟩
   ·exact ⟨hs,hr,.inl hj⟩
   ·exact ⟨hs,hr,.inr ⟨i,hj⟩⟩
  obtain ⟨hsz',hr,aa5⟩:=JA;refine ⟨hv,⟨λk=>(O k∨w.heap.size<=k)/\k<w'.heap.size,λk hk=>hk.1,⟨λk hk=>hk.2,λhk=>hk.1.elim hF.tab (λh=>by have:=hF.GQ;omega),Of,grow Ob w w',λk hk=>⟨.inl (h1 k hk),hr.old k hk⟩,λk hk=>?_,λk hk hb=>?_,hr,?_⟩⟩,aa5⟩
  ·rcases hk with hk|hk
   ·exact ⟨.inl (h2 k hk),dw (h5.old k hk) hsz'⟩
   ·exact ⟨.inr hk.1,hk.2⟩
  ·rcases hb with hb|hb
   ·exact h3 k hk hb
   ·have:=h4.old k hk;omega
  ·refine ⟨λk hk=>hk.elim (λh1=>dw (h5.old k h1) hsz') (λh=>h.2),⟨λhk=>hk.elim h5.tab.1 (λh1=>by have:=h5.tab.2;omega),dw h5.tab.2 hsz'⟩,n0,ts++us,eG,WX.zg λk hk=>?_,hi.append,λu=>(di.append hi u).trans (hl u)⟩;refine .inl ⟨?_,λh=>hk.2 (.inl h)⟩;rcases ed k w.heap.size with hlt|kO
   ·exact hlt
   ·exact absurd (.inr ⟨kO,hk.1⟩) hk.2
theorem qU(h:ei (aH w) ns a):ei (aH w) (ns.map swp) a.vL:=by
 refine h.vL (λi x l r e hi=>?_) (λi nd hk hi=>?_)
 ·rw[fX,hi];rfl
 ·rw[fX,hi];simp[swp,hk]
theorem bm.base{B:Nat}{sv:Value}(h:bm w B sv ns):bm w 0 sv ns:=by
 obtain ⟨⟨h1,h2⟩,h3⟩:=h;refine ⟨⟨h1,?_⟩,h3⟩;rcases h2 with h2|⟨g,cap,cur,a1,a2,a3⟩
 ·exact .inl h2
 ·exact .inr ⟨g,cap,cur,a1,Nat.zero_le _,a3⟩
def wV(a:aP)(w:World)(e:Ending)(w':World):Prop:=
 ∃ρf sf ρb sb,e=.returned (yX ρf sf ρb sb)/\Below w.heap.size w w'/\aS w' (λk=>w.heap.size<=k/\k<w'.heap.size) a ρf sf ρb sb
theorem Full.mZ{en:Nat}(h:Full w X ρ n0 root ts en)(hk:∀(k:Nat) o,w.heap[k]?=some o->(∀c fz,o≠.cells c 194 fz)->w'.heap[k]?=some o):Full w' X ρ n0 root ts en:=by
 obtain ⟨⟨ns,cM,hD⟩,hs,hK,m,f,ks,hm,h1,h2,h3,h4⟩:=h;have hc:∀(k:Nat) c t fz,t≠194->w.heap[k]?=some (.cells c t fz)->w'.heap[k]?=some (.cells c t fz):=λk c t fz ht hh=>hk k _ hh (λc' XH e=>by cases e;exact ht rfl)
 have hmap:∀(k:Nat) es lQ,w.heap[k]?=some (.map es lQ)->w'.heap[k]?=some (.map es lQ):=λk es lQ hh=>hk k _ hh (λc' XH e=>by cases e)
 have hst:bN w w':=λk c t ht hh=>hc k c t _ (by rcases ht with rfl|rfl<;>decide) hh
 obtain ⟨pv,hN,hv⟩:=hD.vW
 refine ⟨⟨ns,cM,hD.shelf.keep hst (λk o _ ho yt=>hk k o ho (λc fz e=>?_)) (λ_ h=>.inl h),⟨pv,⟨hc _ _ _ _ (by decide) hN.var,hN.row.iY λk hk=>?_,?_,hN.nodup,hN.small⟩,hv⟩,hc _ _ _ _ (by decide) hD.ev,hD.nX,hD.kh.mono λd k hh=>aU.world hst hh,hD.met,hD.bits,hD.sz,hD.leaves⟩,⟨hc _ _ _ _ (by decide) hs.sv,hc _ _ _ _ (by decide) hs.mv,hc _ _ _ _ (by decide) hs.nv,hc _ _ _ _ (by decide) hs.xv,hc _ _ _ _ (by decide) hs.kk,hc _ _ _ _ (by decide) hs.wk,hc _ _ _ _ (by decide) hs.kv,hc _ _ _ _ (by decide) hs.av⟩,hK,m,f,ks,hm.keep ?_,h1,h2,h3,h4⟩
 ·rcases yt _ _ _ e with h|h<;>cases h
 ·obtain ⟨c,hcc⟩:=hN.row.block hk;rw[hcc];exact hc _ _ _ _ (by decide) hcc
 ·obtain ⟨m,f,hm,h1,h2⟩:=hN.map;obtain ⟨es,lQ,ho⟩:=hm.obj;exact ⟨m,f,hm.keep ((hmap _ _ _ ho).trans ho.symm),h1,h2⟩
 ·obtain ⟨es,lQ,ho⟩:=hm.obj;exact (hmap _ _ _ ho).trans ho.symm
theorem acQ{z5 x5:Value}(h:w4.heap[bz]?=some (.cells #[z0,z1,z2,z3,z4,z5] 194 (0,0))):
  ∃w5,((((((w4.setCell ⟨bz,0,none⟩ x0).setCell ⟨bz,1,none⟩ x1).setCell ⟨bz,2,none⟩ x2).setCell ⟨bz,3,none⟩ x3).setCell ⟨bz,4,none⟩ x4).setCell ⟨bz,5,none⟩ x5)=w5/\w5.heap[bz]?=some (.cells #[x0,x1,x2,x3,x4,x5] 194 (0,0))/\(∀B,B<=bz->Below B w4 w5)/\w5.heap.size=w4.heap.size /\
   ∀{X:Nat->Prop} {ρ:Rd} {n0:Nat} {root:aP} {ts:List D} {en:Nat},Full w4 X ρ n0 root ts en->Full w5 X ρ n0 root ts en:=by
 have h1:=ah w4 bz 0 x0 h;have h2:=ah _ bz 1 x1 h1;have h3:=ah _ bz 2 x2 h2;have h4:=ah _ bz 3 x3 h3;have h5:=ah _ bz 4 x4 h4;have h6:=ah _ bz 5 x5 h5
 refine ⟨_,rfl,by simpa using h6,λB hB=>((((((Below.refl _ _).setCell hB _).setCell hB _).setCell hB _).setCell hB _).setCell hB _).setCell hB _,by simp[World.setCell],λhF=>hF.mZ (λj o ho hne=>?_)⟩;have hj:j≠bz:=by rintro rfl;rw[h]at ho;cases ho;exact hne _ _ rfl
 rw[eV _ _ _ _ (by exact hj),eV _ _ _ _ (by exact hj),eV _ _ _ _ (by exact hj),eV _ _ _ _ (by exact hj),eV _ _ _ _ (by exact hj),eV _ _ _ _ (by exact hj)];exact ho
theorem GU{W w1 w5:World}{nf nb:Nat}{tf tb:List D}{ef eb:Nat}(h0:1 < w.heap.size)(kf:Below w.heap.size w W)(hb1:Below W.heap.size W w1)(hf:Full w1 (old W.heap.size) ρf nf a tf ef)(xD:oM tf sf)(mr:∀u,di tf sf u<->Mt a.re u)
  (hb3:Below w1.heap.size w1 w3) (hb4:Below w3.heap.size w3 w4) (hB:Full w4 (old w3.heap.size) ρb nb a.vL tb eb) (hbi:oM tb sb) (hbl:∀u,di tb sb u<->Mt a.vL.re u) (iq:Below w.heap.size w4 w5) (hs5:w5.heap.size=w4.heap.size)
  (h5:∀{X:Nat->Prop} {ρ:Rd} {n0:Nat} {root:aP} {ts:List D} {en:Nat},Full w4 X ρ n0 root ts en->Full w5 X ρ n0 root ts en):wV a w (.returned (yX ρf sf ρb sb)) w5:=by
 have s0:=kf.size;have s1:=hb1.size;have s3:=hb3.size;have s4:=hb4.size;have b14:=hb3.trans (hb4.mono s3);have bw4:Below w.heap.size w w4:=kf.trans ((hb1.trans (b14.mono s1)).mono s0)
 refine ⟨ρf,sf,ρb,sb,rfl,bw4.trans iq,λk hk=>hk.2,λhk=>by have:=hk.1;omega,λk=>W.heap.size<=k/\k<w1.heap.size,λk=>w3.heap.size<=k/\k<w4.heap.size,λk hk=>⟨by omega,by omega⟩,λk hk=>⟨by omega,by omega⟩,λk hk hb=>by omega,⟨λk hk=>by omega,⟨λhk=>by omega,by omega⟩,nf,tf,ef,h5 (Full.below (hf.zg λk hk=>?_) b14),xD,mr⟩,⟨λk hk=>by omega,⟨λhk=>by omega,by omega⟩,nb,tb,eb,h5 (hB.zg λk hk=>?_),hbi,hbl⟩⟩
 ·rcases ed k w1.heap.size with h|h
  ·exact .inl (show k<W.heap.size from Nat.lt_of_not_le λkO=>hk.2 ⟨kO,h⟩)
  ·exact .inr h
 ·rcases ed k w4.heap.size with h|h
  ·exact .inl (show k<w3.heap.size from Nat.lt_of_not_le λkO=>hk.2 ⟨kO,h⟩)
  ·exact .inr h
theorem wE(sv:Value)(ns:List (Nd Value))(a:aP)(w:World)(hw:1 < w.heap.size)(hL:bm w 0 sv ns)(hr:ei (aH w) ns a)(he:ei (aH w) ns .dE)(h0:0<ns.length)(hn:ns.length<=200)(hz:a.sz<=200)(hl:a.leaves<=60)(k:Nat)(hk:k=a.ix):
  Calls Tryz.prog 101 #[.agg #[sv,.int .i64 k]] w (wV a w):=by
 obtain ⟨g,cap,rfl⟩:=aB hL.1 h0;have hlen:(ns.map swp).length=ns.length:=by simp
 obtain ⟨W,hW⟩:∃W,(w.alloc (.cells #[.slice (some ⟨g,0,none⟩) ns.length cap,.int .i64 k] 184)).alloc (.cells #[.int .u64 0,.nilFunc,.nilFunc,.int .u64 0,.nilFunc,.nilFunc] 194)=W:=⟨_,rfl⟩;have kf:Below w.heap.size w W:=by rw[<-hW];exact (cq _ _).alloc (by simp) _
 have pV:W.heap[w.heap.size]?=some (.cells #[.slice (some ⟨g,0,none⟩) ns.length cap,.int .i64 k] 184 (0,0)):=by rw[<-hW];exact af (ag _ _)
 have ED:W.heap[w.heap.size+1]?=some (.cells #[.int .u64 0,.nilFunc,.nilFunc,.int .u64 0,.nilFunc,.nilFunc] 194 (0,0)):=by
  have h1:=ag (w.alloc (.cells #[.slice (some ⟨g,0,none⟩) ns.length cap,.int .i64 k] 184)) (.cells #[.int .u64 0,.nilFunc,.nilFunc,.int .u64 0,.nilFunc,.nilFunc] 194);rw[hW,show (w.alloc (.cells #[.slice (some ⟨g,0,none⟩) ns.length cap,.int .i64 k] 184)).heap.size=w.heap.size+1 by simp]at h1;exact h1
 have Pc:∀W',Below W.heap.size W W'->bm W' 0 (.slice (some ⟨g,0,none⟩) ns.length cap) ns:=λW' hb=>hL.keep λj hj=>((kf.trans (hb.mono kf.size)).block j (ae (hL.block hj).2.choose_spec))
 have hst:∀W',Below W.heap.size W W'->bN w W':=λW' hb=>bN.ay (kf.trans (hb.mono kf.size))
 have Vq:=aa (oQ (.slice (some ⟨g,0,none⟩) ns.length cap) ns a W.drew (Pc _ (Below.refl _ _).drew) (hr.world (hst _ (Below.refl _ _).drew)) (he.world (hst _ (Below.refl _ _).drew)) h0 hn hz hl k hk);have HMR:=aa (λ(W':World) (hb:Below W.heap.size W W')=>Bg (.slice (some ⟨g,0,none⟩) ns.length cap) ns W' (Pc W' hb) h0 hn)
 have HN2:=aa (λ(W':World) (hb:Below W.heap.size W W') (g3 FH:Nat) (hL3:bm W' 0 (.slice (some ⟨g3,0,none⟩) ns.length FH) (ns.map swp))=>oQ (.slice (some ⟨g3,0,none⟩) ns.length FH) (ns.map swp) a.vL W' hL3 (qU (hr.world (hst W' hb))) (qU (he.world (hst W' hb))) (by simpa using h0) (by simpa using hn) (by rw[aP.Vt];exact hz) (by rw[aP.Fu];exact hl) k (by rw[aP.kX];exact hk))
 obtain ⟨q,hq⟩:∃q,q=w.heap.size:=⟨_,rfl⟩;have HQ:=aa hq
 have xG:=aa (λ(W':World) (hb:Below W.heap.size W W')=>show (W'.cell? ⟨q,0,none⟩=some (.slice (some ⟨g,0,none⟩) ns.length cap)/\W'.cell? ⟨q,1,none⟩=some (.int .i64 k))/\(W'.cell? ⟨q+1,0,none⟩=some (.int .u64 0)/\W'.frozen? ⟨q+1,0,none⟩=false/\W'.cell? ⟨q+1,1,none⟩=some (.nilFunc)/\W'.frozen? ⟨q+1,1,none⟩=false/\W'.cell? ⟨q+1,2,none⟩=some (.nilFunc)/\W'.frozen? ⟨q+1,2,none⟩=false/\W'.cell? ⟨q+1,3,none⟩=some (.int .u64 0)/\W'.frozen? ⟨q+1,3,none⟩=false/\W'.cell? ⟨q+1,4,none⟩=some (.nilFunc)/\W'.frozen? ⟨q+1,4,none⟩=false/\W'.cell? ⟨q+1,5,none⟩=some (.nilFunc)/\W'.frozen? ⟨q+1,5,none⟩=false)/\W'.heap[q+1]?=some (.cells #[.int .u64 0,.nilFunc,.nilFunc,.int .u64 0,.nilFunc,.nilFunc] 194 (0,0)) from by
  have h1:=(hb.block _ (ae pV)).trans pV;have h2:=(hb.block _ (ae ED)).trans ED;rw[hq];exact ⟨by simp[World.cell?,h1],by simp[World.cell?,World.frozen?,h2],h2⟩)
 have vu:=aa kf;clear kf pV ED Pc hst hL hr he hk;go_enter Tryz.func101,Tryz.ntmps101;go_wp2_with fail;rw[<-hq];clear hW hq;have QP:=(xG.out W.drew (Below.refl _ _).drew).1
 go_region_held3 (λw'=>w'.cell? ⟨q,0,none⟩=some (.slice (some ⟨g,0,none⟩) ns.length cap)/\w'.cell? ⟨q,1,none⟩=some (.int .i64 k))
  (first
   | with_reducible exact oz
   | with_reducible exact kG
   | with_reducible exact hS1
   | with_reducible exact QP
   | go_keep)
  (first
   | (go_at_call 140;refine Vq.out.mono ?_;clear Vq;rintro e1 w1 ⟨ρf,sf,tf,ef,rfl,wF,gG,QH,iF⟩;have fu:Below W.heap.size W w1:=⟨wF.os,wF.tape,wF.output,wF.size,wF.block⟩;clear wF;have hS1:=(xG.out w1 fu).1;have bM:=aa fu;have kU:=aa gG;have HI1:=aa QH;have Hl1:=aa iF;clear fu gG QH iF)
   | (go_at_call 141;refine (HMR.out w1 bM.out).mono ?_;clear HMR;rintro e3 w3 ⟨sv3,rfl,iC,hL3⟩;obtain ⟨g3,FH,rfl⟩:=aB hL3.1 (by simpa using h0);rw[hlen];rw[hlen]at hL3;have kG:=(xG.out w3 (bM.out.trans (iC.mono bM.out.size))).1;have fV:=aa iC;have HL3:=aa hL3.base;clear iC hL3)
   | (go_at_call 140;refine (HN2.out w3 (bM.out.trans (fV.out.mono bM.out.size)) g3 FH HL3.out).mono ?_;clear HN2;rintro e4 w4 ⟨ρb,sb,tb,eb,rfl,kB,nE,hI4,hl4⟩;have hX3:=xG.out w4 (bM.out.trans ((fV.out.trans (kB.mono fV.out.size)).mono bM.out.size));have oz:=hX3.1;obtain ⟨z0,y0,z1,y1,z2,y2,z3,y3,z4,y4,z5,y5⟩:=hX3.2.1;have HX3:=aa hX3.2.2;clear hX3;have kC:=aa kB;have om:=aa nE;have T4:=aa hI4;have Hl4:=aa hl4;clear kB nE hI4 hl4;unfold rdv))
 all_goals
  obtain ⟨w5,Fc,iq,xL,hs5,CB⟩:=acQ (x0:=.int .u64 sf) (x1:=.func (.func 179) #[] #[.pointer (some ⟨ρf.av,0,none⟩)]) (x2:=.func (.func 181) #[] #[.pointer (some ⟨ρf.ev,0,none⟩)]) (x3:=.int .u64 sb) (x4:=.func (.func 179) #[] #[.pointer (some ⟨ρb.av,0,none⟩)]) (x5:=.func (.func 181) #[] #[.pointer (some ⟨ρb.ev,0,none⟩)]) HX3.out
  rw[Fc];have v0:w5.cell? ⟨q+1,0,none⟩=some (.int .u64 sf):=by simp[World.cell?,iq]
  have v1:w5.cell? ⟨q+1,1,none⟩=some (.func (.func 179) #[] #[.pointer (some ⟨ρf.av,0,none⟩)]):=by simp[World.cell?,iq]
  have v2:w5.cell? ⟨q+1,2,none⟩=some (.func (.func 181) #[] #[.pointer (some ⟨ρf.ev,0,none⟩)]):=by simp[World.cell?,iq]
  have v3:w5.cell? ⟨q+1,3,none⟩=some (.int .u64 sb):=by simp[World.cell?,iq]
  have v4:w5.cell? ⟨q+1,4,none⟩=some (.func (.func 179) #[] #[.pointer (some ⟨ρb.av,0,none⟩)]):=by simp[World.cell?,iq]
  have v5:w5.cell? ⟨q+1,5,none⟩=some (.func (.func 181) #[] #[.pointer (some ⟨ρb.ev,0,none⟩)]):=by simp[World.cell?,iq]
  have aq:=aa (GU hw vu.out bM.out kU.out HI1.out Hl1.out fV.out kC.out om.out T4.out Hl4.out (xL _ (by rw[<-HQ.out];omega)) hs5 CB);clear Fc iq xL hs5 CB z0 y0 z1 y1 z2 y2 z3 y3 z4 y4 z5 y5 QP hS1 kG oz;go_wp2_with fail
  exact bodyPost_ret (v:=.agg #[.int .u64 sf,.func (.func 179) #[] #[.pointer (some ⟨ρf.av,0,none⟩)],.func (.func 181) #[] #[.pointer (some ⟨ρf.ev,0,none⟩)],.int .u64 sb,.func (.func 179) #[] #[.pointer (some ⟨ρb.av,0,none⟩)],.func (.func 181) #[] #[.pointer (some ⟨ρb.ev,0,none⟩)]]) (by simp[results,Tryz.results101,go_sem, *]) rfl aq.out
structure GR where
 k:Nat
 op:Nat
 co:ByteArray
 a:aP
structure GS where
 nm:ByteArray
 rs:List GR
structure Bo(w:World)(g o:Nat)(r:GR)(lg ln cp:Nat):Prop where
 c0:w.cell? ⟨g,o,none⟩=some (.int .i64 r.k)
 c1:w.cell? ⟨g,o+1,none⟩=some (.int .i64 r.op)
 c2:w.cell? ⟨g,o+2,none⟩=some (.string r.co)
 c3:w.cell? ⟨g,o+3,none⟩=some (.slice (some ⟨lg,0,none⟩) ln cp)
 c4:w.cell? ⟨g,o+4,none⟩=some (.int .i64 r.a.ix)
 pat:∃ns,ns.length=ln/\bm w 0 (.slice (some ⟨lg,0,none⟩) ln cp) ns/\ei (aH w) ns r.a/\ei (aH w) ns .dE/\0<ns.length/\ns.length<=200/\r.a.sz<=200/\r.a.leaves<=60/\r.a.re.au=false
def uB(w:World)(v:Value)(rs:List GR):Prop:=
 ∃ao cp,v=.slice ao rs.length cp/\∀(j:Nat) r,rs[j]?=some r->∃rg lg ln lc,ao=some ⟨rg,0,none⟩/\Bo w rg (j*5) r lg ln lc
structure cd(w:World)(g n cap:Nat)(G:List GS):Prop where
 len:n=G.length
 few:n<=12
 at_:∀(i:Nat) s,G[i]?=some s->w.cell? ⟨g,i*2,none⟩=some (.string s.nm)/\s.rs.length<=40/\∃v,w.cell? ⟨g,i*2+1,none⟩=some v/\uB w v s.rs
theorem fh(h:w.cell? p=some v):p.block<w.heap.size:=by
 unfold World.cell? at h
 cases ho:w.heap[p.block]? with
 | none=>simp[ho]at h
 | some o=>exact ae ho
theorem ax(h:w.cell? p=some v)(hb:Below w.heap.size w w'):w'.cell? p=some v:=by
 refine (World.cell?_of_block (hb.block p.block ?_)).trans h;unfold World.cell? at h
 cases ho:w.heap[p.block]? with
 | none=>simp[ho]at h
 | some o=>exact ae ho
theorem Bo.below{o:Nat}{r:GR}{lg ln cp:Nat}(h:Bo w g o r lg ln cp)(hb:Below w.heap.size w w'):Bo w' g o r lg ln cp:=by
 obtain ⟨ns,h1,h2,h3,h4,h5⟩:=h.pat;exact ⟨ax h.c0 hb,ax h.c1 hb,ax h.c2 hb,ax h.c3 hb,ax h.c4 hb,ns,h1,h2.keep λj hj=>hb.block j (ae (h2.block hj).2.choose_spec),h3.world (bN.ay hb),h4.world (bN.ay hb),h5⟩
theorem uB.below{rs:List GR}(h:uB w v rs)(hb:Below w.heap.size w w'):uB w' v rs:=by obtain ⟨ao,cp,h1,h2⟩:=h;exact ⟨ao,cp,h1,λj r hr=>let ⟨rg,lg,ln,lc,h0,h⟩:=h2 j r hr;⟨rg,lg,ln,lc,h0,h.below hb⟩⟩
theorem cd.below{n cap:Nat}{G:List GS}(h:cd w g n cap G)(hb:Below w.heap.size w w'):cd w' g n cap G:=
 ⟨h.len,h.few,λi s hs=>let ⟨h1,h2,v,h3,h4⟩:=h.at_ i s hs;⟨ax h1 hb,h2,v,ax h3 hb,h4.below hb⟩⟩
theorem acR{t:TypeId}(h:w4.heap[bz]?=some (.cells #[z0,z1,z2,z3,z4] t (0,0))):
  ∃w5,(((((w4.setCell ⟨bz,0,none⟩ x0).setCell ⟨bz,1,none⟩ x1).setCell ⟨bz,2,none⟩ x2).setCell ⟨bz,3,none⟩ x3).setCell ⟨bz,4,none⟩ x4)=w5/\w5.heap[bz]?=some (.cells #[x0,x1,x2,x3,x4] t (0,0))/\(∀B,B<=bz->Below B w4 w5)/\w5.heap.size=w4.heap.size/\∀k,k≠bz->w5.heap[k]?=w4.heap[k]?:=by
 have h1:=ah w4 bz 0 x0 h;have h2:=ah _ bz 1 x1 h1;have h3:=ah _ bz 2 x2 h2;have h4:=ah _ bz 3 x3 h3;have h5:=ah _ bz 4 x4 h4;refine ⟨_,rfl,by simpa using h5,λB hB=>(((((Below.refl _ _).setCell hB _).setCell hB _).setCell hB _).setCell hB _).setCell hB _,by simp[World.setCell],λk hk=>?_⟩
 rw[eV _ _ _ _ (by exact hk),eV _ _ _ _ (by exact hk),eV _ _ _ _ (by exact hk),eV _ _ _ _ (by exact hk),eV _ _ _ _ (by exact hk)]
def Qo(from_ to:Nat)(nm:ByteArray)(depth:Nat)(co:ByteArray):Value:=.agg #[.int .i64 from_,.int .i64 to,.string nm,.int .i64 depth,.string co]
theorem DN(g n cap:Nat)(G:List GS)(fv:Value)(hfv:∃f c,fv=.func (.func f) #[] c)(from_ to:Nat)(st:List Nat)(top:Nat)(s:GS)(co:ByteArray)(w:World)(hG:cd w g n cap G)(h8:st.length<=8)(ht:st[st.length - 1]?=some top)(hs:G[top]?=some s):
  Calls Tryz.prog 128 #[.agg #[.slice (some ⟨g,0,none⟩) n cap,fv],.int .i64 from_,.int .i64 to,lV st,.string co] w λe w'=>e=.returned (Qo from_ to s.nm st.length co)/\Below w.heap.size w w':=by
 obtain ⟨f,c,rfl⟩:=hfv;have hlt:top<n:=by rw[hG.len];exact az hs
 have cn:=(hG.at_ top s hs).1;have c8:=dV h8;obtain ⟨a0,a1,a2,a3,a4,a5,a6,a7,a8,hy⟩:=nine h8;have Wo:(a8:Int)=st.length:=by rw[hy]at c8;simp at c8;omega
 have HU:=aa (λW=>oL st top h8 ht W);unfold lV at HU ⊢;rw[hy]at HU ⊢;obtain ⟨q,hq⟩:∃q,q=w.heap.size:=⟨_,rfl⟩
 obtain ⟨W,hW⟩:∃W,((w.alloc (.cells #[.slice (some ⟨g,0,none⟩) n cap,.func (.func f) #[] c] 171)).alloc (.cells #[.int .i64 a0,.int .i64 a1,.int .i64 a2,.int .i64 a3,.int .i64 a4,.int .i64 a5,.int .i64 a6,.int .i64 a7,.int .i64 a8] 138)).alloc (.cells #[.int .i64 0,.int .i64 0,.string ⟨#[]⟩,.int .i64 0,.string ⟨#[]⟩] 70)=W:=⟨_,rfl⟩
 have kf:Below w.heap.size w W:=by rw[<-hW];exact ma _ _ _ _
 have HW:=aa (show W.heap[q]?=some (.cells #[.slice (some ⟨g,0,none⟩) n cap,.func (.func f) #[] c] 171 (0,0))/\W.heap[q+1]?=some (.cells #[.int .i64 a0,.int .i64 a1,.int .i64 a2,.int .i64 a3,.int .i64 a4,.int .i64 a5,.int .i64 a6,.int .i64 a7,.int .i64 a8] 138 (0,0))/\W.heap[q+1+1]?=some (.cells #[.int .i64 0,.int .i64 0,.string ⟨#[]⟩,.int .i64 0,.string ⟨#[]⟩] 70 (0,0)) from by
  rw[<-hW,hq];have h1:=ag w (.cells #[.slice (some ⟨g,0,none⟩) n cap,.func (.func f) #[] c] 171);have h2:=ag (w.alloc (.cells #[.slice (some ⟨g,0,none⟩) n cap,.func (.func f) #[] c] 171)) (.cells #[.int .i64 a0,.int .i64 a1,.int .i64 a2,.int .i64 a3,.int .i64 a4,.int .i64 a5,.int .i64 a6,.int .i64 a7,.int .i64 a8] 138)
  have h3:=ag ((w.alloc (.cells #[.slice (some ⟨g,0,none⟩) n cap,.func (.func f) #[] c] 171)).alloc (.cells #[.int .i64 a0,.int .i64 a1,.int .i64 a2,.int .i64 a3,.int .i64 a4,.int .i64 a5,.int .i64 a6,.int .i64 a7,.int .i64 a8] 138)) (.cells #[.int .i64 0,.int .i64 0,.string ⟨#[]⟩,.int .i64 0,.string ⟨#[]⟩] 70)
  simp only[World.size_alloc]at h2 h3;exact ⟨af (af h1),af h2,h3⟩)
 have xG:=aa (λ(W':World) (hb:Below W.heap.size W W')=>show (W'.cell? ⟨q,0,none⟩=some (.slice (some ⟨g,0,none⟩) n cap)/\W'.cell? ⟨q+1,0,none⟩=some (.int .i64 a0)/\W'.cell? ⟨q+1,1,none⟩=some (.int .i64 a1)/\W'.cell? ⟨q+1,2,none⟩=some (.int .i64 a2)/\W'.cell? ⟨q+1,3,none⟩=some (.int .i64 a3)/\W'.cell? ⟨q+1,4,none⟩=some (.int .i64 a4)/\W'.cell? ⟨q+1,5,none⟩=some (.int .i64 a5)/\W'.cell? ⟨q+1,6,none⟩=some (.int .i64 a6)/\W'.cell? ⟨q+1,7,none⟩=some (.int .i64 a7)/\W'.cell? ⟨q+1,8,none⟩=some (.int .i64 a8)/\W'.cell? ⟨g,top*2,none⟩=some (.string s.nm))/\(W'.cell? ⟨q+1+1,0,none⟩=some (.int .i64 0)/\W'.frozen? ⟨q+1+1,0,none⟩=false/\W'.cell? ⟨q+1+1,1,none⟩=some (.int .i64 0)/\W'.frozen? ⟨q+1+1,1,none⟩=false/\W'.cell? ⟨q+1+1,2,none⟩=some (.string ⟨#[]⟩)/\W'.frozen? ⟨q+1+1,2,none⟩=false/\W'.cell? ⟨q+1+1,3,none⟩=some (.int .i64 0)/\W'.frozen? ⟨q+1+1,3,none⟩=false/\W'.cell? ⟨q+1+1,4,none⟩=some (.string ⟨#[]⟩)/\W'.frozen? ⟨q+1+1,4,none⟩=false) from by
  obtain ⟨h1,h2,h3⟩:=HW.out;have k1:=(hb.block _ (ae h1)).trans h1;have k2:=(hb.block _ (ae h2)).trans h2;have k3:=(hb.block _ (ae h3)).trans h3
  exact ⟨⟨by simp[World.cell?,k1],by simp[World.cell?,k2],by simp[World.cell?,k2],by simp[World.cell?,k2],by simp[World.cell?,k2],by simp[World.cell?,k2],by simp[World.cell?,k2],by simp[World.cell?,k2],by simp[World.cell?,k2],by simp[World.cell?,k2],ax cn (kf.trans (hb.mono kf.size))⟩,by simp[World.cell?,World.frozen?,k3]⟩)
 have hgq:g≠q+1+1:=by have h:g<w.heap.size:=fh cn;omega
 have adZ:q+1+1≠g:=hgq.symm;have Z3:(q=q+1+1)=False:=eq_false (by omega);have ad0:(q+1+1=q)=False:=eq_false (by omega);have vu:=aa kf;have aq:=aa (show ∀W',Below w.heap.size w W'->(Ending.returned (.agg #[.int .i64 from_,.int .i64 to,.string s.nm,.int .i64 a8,.string co])=.returned (Qo from_ to s.nm st.length co)/\Below w.heap.size w W') from λW' hb=>⟨by rw[Wo];rfl,hb⟩)
 clear hG cn c8 kf hy Wo ht hs;go_enter Tryz.func128,Tryz.ntmps128;go_wp2_with fail;rw[<-hq];clear hW;have HQ:=aa hq;clear hq;have QP:=(xG.out W.drew (Below.refl _ _).drew).1
 go_region_held3 (λw'=>w'.cell? ⟨q,0,none⟩=some (.slice (some ⟨g,0,none⟩) n cap)/\w'.cell? ⟨q+1,0,none⟩=some (.int .i64 a0)/\w'.cell? ⟨q+1,1,none⟩=some (.int .i64 a1)/\w'.cell? ⟨q+1,2,none⟩=some (.int .i64 a2)/\w'.cell? ⟨q+1,3,none⟩=some (.int .i64 a3)/\w'.cell? ⟨q+1,4,none⟩=some (.int .i64 a4)/\w'.cell? ⟨q+1,5,none⟩=some (.int .i64 a5)/\w'.cell? ⟨q+1,6,none⟩=some (.int .i64 a6)/\w'.cell? ⟨q+1,7,none⟩=some (.int .i64 a7)/\w'.cell? ⟨q+1,8,none⟩=some (.int .i64 a8)/\w'.cell? ⟨g,top*2,none⟩=some (.string s.nm))
  (first
   | with_reducible exact oz
   | with_reducible exact QP
   | go_keep)
  (first
   | (go_at_call 126;refine (HU.out W.drew).mono ?_;clear HU;rintro e4 w4 ⟨rfl,hb4⟩;have kB:Below W.heap.size W w4:=⟨hb4.os,hb4.tape,hb4.output,hb4.size,hb4.block⟩;clear hb4;obtain ⟨oz,z0,y0,z1,y1,z2,y2,z3,y3,z4,y4⟩:=xG.out w4 kB;have kC:=aa kB;clear kB))
 all_goals
  obtain ⟨w5,Fc,iq,xL,hs5,-⟩:=acR (x0:=.int .i64 from_) (x1:=.int .i64 to) (x2:=.string s.nm) (x3:=.int .i64 a8) (x4:=.string co) ((kC.out.block _ (ae HW.out.2.2)).trans HW.out.2.2);rw[Fc];have v0:w5.cell? ⟨q+1+1,0,none⟩=some (.int .i64 from_):=by simp[World.cell?,iq]
  have v1:w5.cell? ⟨q+1+1,1,none⟩=some (.int .i64 to):=by simp[World.cell?,iq]
  have v2:w5.cell? ⟨q+1+1,2,none⟩=some (.string s.nm):=by simp[World.cell?,iq]
  have v3:w5.cell? ⟨q+1+1,3,none⟩=some (.int .i64 a8):=by simp[World.cell?,iq]
  have v4:w5.cell? ⟨q+1+1,4,none⟩=some (.string co):=by simp[World.cell?,iq]
  have HE:=aa (aq.out w5 ((vu.out.trans (kC.out.mono vu.out.size)).trans (xL _ (by rw[<-HQ.out];omega))));clear Fc iq xL hs5 z0 y0 z1 y1 z2 y2 z3 y3 z4 y4 QP oz;go_wp2_with fail;exact bodyPost_ret (v:=.agg #[.int .i64 from_,.int .i64 to,.string s.nm,.int .i64 a8,.string co]) (by simp[results,Tryz.results128,go_sem, *]) rfl HE.out
end Go.Proofs.YtgncgdkpkkdaeaaGreatDoor
