import Derived.Test.YtgncgdkpkkdaeaaGreatDoorMY
import Derived.Test.YtgncgdkpkkdaeaaGreatDoorM1
import Derived.Test.YtgncgdkpkkdaeaaGreatDoorM2
import Derived.Deep.CutRange
import Derived.Deep.RegionHeld3
namespace Go.Proofs.YtgncgdkpkkdaeaaGreatDoor
open Go.RowKit aQ Go.Maps
variable {st:List Nat} {pre:List Sp} {b sb:Nat} {o:Obj} {x:Sp} {lv oF:Value} {W W4 w w':World}
structure wu(G:List GS)(ss:List bZ):Prop where
 len:G.length=ss.length
 st:∀(i:Nat) s t,G[i]?=some s->ss[i]?=some t->s.nm=t.name/\t.rs.length=s.rs.length/\∀(k:Nat) r q,s.rs[k]?=some r->t.rs[k]?=some q->bc q.p.data.toList (some (r.a.re,[]))/\r.k=q.d/\r.co=q.c/\(q.d=1->∃t',ss[r.op]?=some t'/\t'.name.data.toList=q.b.data.toList/\∀(j:Nat) t'',j<r.op->ss[j]?=some t''->t''.name.data.toList≠q.b.data.toList)
def cF(w:World)(b:Nat)(st:List Nat):Prop:=∃cur fz,w.heap[b]?=some (.cells cur 3 fz)/\∀(j:Nat) x,st[j]?=some x->cur[j]?=some (.int .i64 (x:Nat))
theorem cF.cell(h:cF w b st){j x:Nat}(hj:st[j]?=some x):w.cell? ⟨b,j,none⟩=some (.int .i64 x):=by obtain ⟨cur,fz,h1,h2⟩:=h;exact ah h1 (h2 j x hj)
theorem cF.keep(h:cF w b st)(hk:∀c fz,w.heap[b]?=some (.cells c 3 fz)->w'.heap[b]?=some (.cells c 3 fz)):cF w' b st:=by obtain ⟨cur,fz,h1,h2⟩:=h;exact ⟨cur,fz,hk _ _ h1,h2⟩
theorem cF.below(h:cF w b st)(hb:Below w.heap.size w w'):cF w' b st:=h.keep λ_ _ hh=>(hb.block _ (ae hh)).trans hh
theorem cF.sub{st':List Nat}(h:cF w b st)(hs:∀(j:Nat) x,st'[j]?=some x->st[j]?=some x):cF w b st':=by obtain ⟨cur,fz,h1,h2⟩:=h;exact ⟨cur,fz,h1,λj x hj=>h2 j x (hs j x hj)⟩
theorem LQ{B g n cap:Nat}(h:w.ownsRow B 3 1 (.slice (some ⟨g,0,none⟩) n cap) n (st.map λx:Nat=>Value.int .i64 (x:Int))):cF w g st/\n<=cap:=by
 rcases h.2 with ⟨h0,_⟩|⟨g',cap',cur,h1,_,h3,h4,_,_,h6⟩
 ·cases h0
 ·cases h1;refine ⟨⟨cur,_,h3,λj x hj=>?_⟩,h4⟩;have hl:=h.1;rw[List.length_map]at hl;have N1:j<n*1:=by have:=au hj;omega
  have h7:(cur.toList.take (n*1))[j]?=some (.int .i64 (x:Int)):=by rw[h6,List.getElem?_map,hj];rfl
  rw[List.getElem?_take_of_lt N1]at h7;simpa using h7
structure Vf(w:World)(G:List GS)(T:List UInt8)(st0:List Nat)(at_:Nat)(st:List Nat)(pre:List Sp)(sb:Nat)(lv:Value)(W:World):Prop where
 path:Path G T st0 at_ st pre
 good:Good G st
 ints:cF W sb st
 row:bN W w.heap.size lv pre
 kE:Below w.heap.size w W
theorem Vf.app{G:List GS}{T:List UInt8}{st0:List Nat}{at_:Nat}(h:Vf w G T st0 at_ st pre sb lv W)(hrow:W4.ownsRow w.heap.size 70 5 oF (pre.length+1) (pre.flatMap Sp.cells++x.cells))(hg:(W.alloc o).grownBy W4 lv.ownBlock):
  cF W4 sb st/\bN W4 w.heap.size oF (pre++[x])/\Below w.heap.size w W4/\∀hb hs,bW W hb hs->bW W4 hb hs:=by
 have hb:Below W.heap.size W (W.alloc o):=(Below.refl _ _).alloc (Nat.le_refl _) _;have hr2:bN (W.alloc o) w.heap.size lv pre:=aJ h.row λk hk=>by obtain ⟨_,c,hc⟩:=aw h.row hk;exact hb.block k (ae hc)
 have o1:aN (λk=>lv.ownBlock=some k) W W4:=(aN.ar hb).trans (aN.gh hr2 (by decide) hg);have wm:∀k,lv.ownBlock=some k->w.heap.size<=k/\∃c,W.heap[k]?=some (.cells c 70 (0,0)):=λk hk=>aw h.row hk
 refine ⟨h.ints.keep λc fz hh=>o1.same hh (λe=>?_),bN.snoc hrow,h.kE.trans ⟨o1.os,o1.tape,o1.output,o1.size,λk hk=>o1.keep k ⟨Nat.lt_of_lt_of_le hk h.kE.size,λe=>by have:=(wm k e).1;omega⟩⟩,λhb' hs hh=>o1.same hh (λe=>?_)⟩
 ·obtain ⟨_,c',hc'⟩:=wm _ e;rw[hh]at hc';simp at hc'
 ·obtain ⟨_,c',hc'⟩:=wm _ e;unfold bW at hh;rw[hh]at hc';simp at hc'
def yy(w:World)(st:List Nat)(sb:Nat)(pre:List Sp)(hb:Nat)(hs:List (Int×Int))(vl:Value)(W:World):Prop:=
 ∃mO nA,vl=.slice mO pre.length nA/\cF W sb st/\bN W w.heap.size vl pre/\Below w.heap.size w W/\bW W hb hs
theorem yy.app{hb:Nat}{hs:List (Int×Int)}(h:yy w st sb pre hb hs lv W)(hrow:W4.ownsRow w.heap.size 70 5 oF (pre.length+1) (pre.flatMap Sp.cells++x.cells))(hg:(W.alloc o).grownBy W4 lv.ownBlock):
  yy w st sb (pre++[x]) hb hs oF W4/\∀(k:Nat) o',W.heap[k]?=some o'->(∀c,o'≠.cells c 70 (0,0))->W4.heap[k]?=some o':=by
 obtain ⟨mO,nA,h1,h2,h3,h4,h5⟩:=h;have wo:Below W.heap.size W (W.alloc o):=(Below.refl _ _).alloc (Nat.le_refl _) _;have hr2:bN (W.alloc o) w.heap.size lv pre:=aJ h3 λk hk=>by obtain ⟨_,c,hc⟩:=aw h3 hk;exact wo.block k (ae hc)
 have o1:aN (λk=>lv.ownBlock=some k) W W4:=(aN.ar wo).trans (aN.gh hr2 (by decide) hg);have key:∀(k:Nat) o',W.heap[k]?=some o'->(∀c,o'≠.cells c 70 (0,0))->W4.heap[k]?=some o':=λk o' hk hne=>o1.same hk (λe=>by obtain ⟨_,c,hc⟩:=aw h3 e;rw[hk]at hc;cases hc;exact hne _ rfl)
 have J0:bN W4 w.heap.size oF (pre++[x]):=bN.snoc hrow;obtain ⟨pE,c',hv'⟩:=aI J0;refine ⟨⟨pE,c',hv',h2.keep λc fz hh=>key _ _ hh (λc'=>by simp),J0,h4.trans ⟨o1.os,o1.tape,o1.output,o1.size,λk hk=>o1.keep k ⟨Nat.lt_of_lt_of_le hk h4.size,λe=>by have:=(aw h3 e).1;omega⟩⟩,key _ _ h5 (λc=>by simp)⟩,key⟩
def KnJ(w:World)(G:List GS)(T:List UInt8)(at_:Nat)(was hv:Value)(W:World):Prop:=
 (was=.int .i64 (-1)/\hv=.slice none 0 0)∨∃(i hb:Nat) (s:GS) (hs:List (Int×Int)),was=.int .i64 i/\G[i]?=some s/\hv=.slice (some ⟨hb,0,none⟩) s.rs.length s.rs.length/\w.heap.size<=hb/\bW W hb hs/\nI s.rs T at_ hs
def HtJ(w:World)(G:List GS)(T:List UInt8)(st0:List Nat)(at_:Nat)(st:List Nat)(pre:List Sp)(sb:Nat)(lv:Value)(top:Nat)(s:GS)(vw vh:Value)(W:World):Prop:=
 ∃(hb:Nat) (hs:List (Int×Int)),vw=.int .i64 top/\vh=.slice (some ⟨hb,0,none⟩) s.rs.length s.rs.length/\w.heap.size<=hb/\bW W hb hs/\nI s.rs T at_ hs/\Vf w G T st0 at_ st pre sb lv W
def DW(w:World)(G:List GS)(text:ByteArray)(st0:List Nat)(k:Nat)(vs vl va vw vh:Value)(W:World):Prop:=
 ∃(at_:Nat) (st:List Nat) (pre:List Sp) (sb eR:Nat) (mO:Option Addr) (nA:Nat),vs=.slice (some ⟨sb,0,none⟩) st.length eR/\vl=.slice mO pre.length nA/\va=.int .i64 at_/\at_+k=text.size/\st.length<=eR/\Vf w G text.data.toList st0 at_ st pre sb (.slice mO pre.length nA) W/\KnJ w G text.data.toList at_ vw vh W
def DX(G:List GS)(T:List UInt8)(st0:List Nat)(w:World)(e:Ending)(W:World):Prop:=
 ∃lv ba sb st eR,e=.returned (.tuple #[lv,.slice (some ⟨sb,0,none⟩) st.length eR])/\sw G T st0 ba st/\bN W w.heap.size lv ba/\cF W sb st/\st.length<=eR/\Below w.heap.size w W
set_option maxRecDepth 20000 in
set_option maxHeartbeats 8000000 in
theorem zS(B P g n0 cap:Nat)(ss:List bZ)(G:List GS)(text:ByteArray)(st0:List Nat)(sb0 Ts:Nat)(w:World)(h:RG w B P g n0 cap ss)(dc:wu G ss)(eA:vY G)(b9:Good G st0)(hz:text.size<=3000)(hi:cF w sb0 st0)(UY:st0.length<=Ts):
  Calls Tryz.prog 64 #[.pointer (some ⟨P,0,none⟩),.string text,.slice (some ⟨sb0,0,none⟩) st0.length Ts] w (DX G text.data.toList st0 w):=by
 have GL:=aa h;have N3:=aa dc;have xP:=aa eA;have HGD:=aa b9;have HI:=aa hi;clear h dc eA b9 hi;go_enter Tryz.func64,Tryz.ntmps64;go_wp2_with fail;go_loopg [2,8,9,10,11] text.size (λk vs vl va vw vh wr=>DW w G text st0 k vs vl va vw vh wr)
 case atStart=>exact ⟨0,st0,[],sb0,Ts,none,0,rfl,rfl,rfl,by omega,UY,⟨.start,HGD.out,HI.out,World.ownsRow_nil _ _ _ _,Below.refl _ _⟩,.inl ⟨rfl,rfl⟩⟩
 case round=>
  obtain ⟨at_,st,pre,sb,eR,mO,nA,rfl,rfl,rfl,hk,LR,CL,Z8⟩:=hrel;by_cases hlt:at_<text.size
  ·have g1:decide ((at_:Int)<(text.size:Int))=true:=decide_eq_true (by omega);obtain ⟨top,s,Bb,hs⟩:=CL.good.top;have hR:=GL.out.below CL.kE;have c0:=hR.gy.dR.1;have d0:=CL.ints.cell Bb;have abZ:=CL.good.1.1;have Sa:=CL.good.1.2;have hwr:IntKind.i64.wrap ((st.length:Int) - 1)=((st.length - 1:Nat):Int):=by rw[IntKind.wrap_i64];omega
   obtain ⟨sl,Kq⟩:∃sl,sl=st.length - 1:=⟨_,rfl⟩;rw[<-Kq]at Bb d0 hwr;have ab0:sl<st.length:=by omega
   have htn:top<n0:=by
    have h1:n0=ss.length:=by obtain ⟨ao,cp,e1,_⟩:=hR.gy.form;cases e1;rfl
    rw[h1,<-N3.out.len];exact au hs
   have Ky:=aa CL;have HKN:=aa Z8;have Bc:=aa Bb;have HS:=aa hs;have rW:=aa Kq;clear CL Z8 hR Bb hs Kq;go_wp2_with fail;go_region_held3 (λw'=>w'.cell? ⟨P,0,none⟩=some (.slice (some ⟨g,0,none⟩) n0 cap)/\w'.cell? ⟨sb,sl,none⟩=some (.int .i64 top)) (go_keep) (fail)
   all_goals
    have H8:=aa (show Vf w G text.data.toList st0 at_ st pre sb (.slice mO pre.length nA) wr.drew from ⟨Ky.out.path,Ky.out.good,Ky.out.ints.below (Below.refl _ _).drew,Ky.out.row,Ky.out.kE.trans (Below.refl _ _).drew⟩);obtain ⟨w1,QZ⟩:∃w1,w1=wr.drew:=⟨_,rfl⟩;have LS:=aa (show KnJ w G text.data.toList at_ u10 u11 w1 from by rw[QZ];exact HKN.out);rw[<-QZ]at H8 ⊢
    clear Ky HKN QZ c0;dsimp only[Exit.then];refine (by with_reducible assumption:∀(a:Act) (w:World),Code.wp Tryz.prog _ _ a w->(_:Act->World->Prop) a w) _ _ ?_;refine wp_seq_k λK1 Hq=>?_
    have d1:=H8.out.ints.cell Bc.out;go_cut [10,11] from 34 to 174 (λvw vh wc=>HtJ w G text.data.toList st0 at_ st pre sb (.slice mO pre.length nA) top s vw vh wc)
    case first=>
     obtain ⟨t,ht⟩:∃t,ss[top]?=some t:=⟨_,List.getElem?_eq_getElem (by rw[<-N3.out.len];exact au HS.out)⟩;have ot:=(N3.out.st top s t HS.out ht).2.1;have Z9:=aa (yz B P g n0 cap ss top t w1 (GL.out.below H8.out.kE) ht);rw[ot]at Z9;by_cases dc:u10=.int .i64 top
     ·subst dc;have e1:((top:Int)==(top:Int))=true:=by simp
      have Rt:=aa (show HtJ w G text.data.toList st0 at_ st pre sb (.slice mO pre.length nA) top s (.int .i64 top) u11 w1 from by
       rcases LS.out with ⟨h1,_⟩|⟨i,hb,s',hs,h1,h2,h3,h4,h5,h6⟩
       ·simp at h1
       ·have h7:i=top:=by simp at h1;omega
        subst h7;rw[HS.out]at h2;cases h2;exact ⟨hb,hs,rfl,h3,h4,h5,h6,H8.out⟩)
      clear LS Z9 ht ot;go_wp2_with fail;go_meet
      case rel=>exact Rt.out
     ·obtain ⟨wi,hwi,hne⟩:∃wi:Int,u10=.int .i64 wi/\wi≠top:=by
       rcases LS.out with ⟨h1,_⟩|⟨i,hb,s',hs,h1,_⟩
       ·exact ⟨-1,h1,by omega⟩
       ·exact ⟨i,h1,λe=>dc (by rw[h1,e])⟩
      subst hwi;have e1:(wi==(top:Int))=false:=by rw[beq_eq_false_iff_ne];exact hne
      have e2:decide (wi=(top:Int))=false:=decide_eq_false hne;clear LS dc ht ot;go_wp2_with fail;refine Z9.out.mono ?_;rintro e3 w3 ⟨rfl,hh3,hb3⟩
      have Rt:=aa (show HtJ w G text.data.toList st0 at_ st pre sb (.slice mO pre.length nA) top s (.int .i64 top) (.slice (some ⟨w1.heap.size,0,none⟩) s.rs.length s.rs.length) w3 from by
       have hj:=H8.out;refine ⟨w1.heap.size,_,rfl,rfl,hj.kE.size,hh3,⟨by simp,λi r h h1 h2=>?_⟩,hj.path,hj.good,hj.ints.below hb3,aJ hj.row λk hk=>by obtain ⟨_,c,hc⟩:=aw hj.row hk;exact hb3.block k (ae hc),hj.kE.trans (hb3.mono hj.kE.size)⟩;have:=List.mem_of_getElem? h2;rw[(List.mem_replicate.1 this).2];exact .inl rfl)
      clear hh3 hb3 Z9;go_wp2_with fail;go_meet
      case rel=>exact Rt.out
    case rest=>
     obtain ⟨hb,hs,rfl,rfl,hhb,yA,hho,CL⟩:=hcut;obtain ⟨t,ht⟩:∃t,ss[top]?=some t:=⟨_,List.getElem?_eq_getElem (by rw[<-N3.out.len];exact au HS.out)⟩;obtain ⟨gj,ot,zD⟩:=N3.out.st top s t HS.out ht;have hRc:=GL.out.below CL.kE
     have HAG:=aa (H9 B P g n0 cap ss top t s.rs text at_ hb hs wc hRc ht ⟨ot,λk q r h1 h2=>(zD k r q h2 h1).1⟩ (by omega) hz yA hho);have Xt:=aa CL;have HT:=aa ht;have iU:=aa gj;have Vg:=aa zD;have FV:=aa yA;clear yA hho CL gj zD ht hRc LS H8 d1;go_wp2_with fail;refine HAG.out.mono ?_;rintro e4 w4 ⟨⟨av,rfl⟩,p9,Xu,LU,qU⟩
     have iC:=aa (show Vf w G text.data.toList st0 at_ st pre sb (.slice mO pre.length nA) w4 from by
      have hj:=Xt.out;refine ⟨hj.path,hj.good,hj.ints.keep λc fz hh=>qU.same hh (λe=>?_),aJ hj.row λk hk=>?_,hj.kE.trans ⟨qU.os,qU.tape,qU.output,qU.size,λk hk=>qU.keep k ⟨Nat.lt_of_lt_of_le hk hj.kE.size,by omega⟩⟩⟩
      ·have h1:=FV.out;unfold bW at h1;rw[<-e,hh]at h1;simp at h1
      ·obtain ⟨_,c,hc⟩:=aw hj.row hk;rw[hc];refine qU.same hc (λe=>?_);have h1:=FV.out;unfold bW at h1;rw[<-e,hc]at h1;simp at h1)
     have DY:=aa Xu;have vI:=aa LU;have aaC:p9.length=s.rs.length:=LU.1;clear Xu LU qU HAG Xt FV;obtain ⟨w5,Dg⟩:∃w5,w5=w4:=⟨_,rfl⟩;rw[<-Dg];rw[<-Dg]at iC DY;clear Dg;go_wp2_with fail
     go_loopg [13,14,15,16] s.rs.length (λk vh vf vt vi wx=>wx=w5/\∃(j:Nat) (hit fr tt:Int),vh=.int .i64 hit/\vf=.int .i64 fr/\vt=.int .i64 tt/\vi=.int .i64 j/\j+k=s.rs.length/\fI p9 j hit fr tt)
     case atStart=>exact ⟨rfl,0,-1,0,0,rfl,rfl,rfl,rfl,by omega,fI.start _ _ _⟩
     case round=>
      obtain ⟨rfl,j,hit,fr,tt,rfl,rfl,rfl,rfl,hjk,hle⟩:=hrel;by_cases pP:j<s.rs.length
      ·have g5:decide ((j:Int)<(s.rs.length:Int))=true:=decide_eq_true (by omega);obtain ⟨⟨p1,p2⟩,hp⟩:∃p,p9[j]?=some p:=⟨_,List.getElem?_eq_getElem (by rw[aaC];exact pP)⟩;obtain ⟨q1,q2,_,_⟩:=DY.out.cell hp;dsimp only at q1 q2;have ab1:IntKind.i64.wrap ((j:Int)+1)=(j:Int)+1:=by have CM:=GL.out.few.2 t (List.mem_of_getElem? HT.out);rw[ot]at CM;rw[IntKind.wrap_i64];omega
       by_cases f1:p1<1000000
       ·have e5:decide (p1<1000000)=true:=decide_eq_true f1;by_cases f2:hit<0
        ·have e6:decide (hit<0)=true:=decide_eq_true f2;have DZ:=aa (show (fI p9 (j+1) (j:Int) p1 p2) from hle.take hp (by omega) (.inl f2));clear hle;go_wp2_with fail;go_roundg (s.rs.length - (j+1))
         case measure=>omega
         case rel=>exact ⟨rfl,j+1,(j:Int),p1,p2,rfl,rfl,rfl,by simp,by omega,DZ.out⟩
        ·have e6:decide (hit<0)=false:=decide_eq_false f2;by_cases f3:p1<fr
         ·have e7:decide (p1<fr)=true:=decide_eq_true f3;have DZ:=aa (show (fI p9 (j+1) (j:Int) p1 p2) from hle.take hp (by omega) (.inr f3));clear hle;go_wp2_with fail;go_roundg (s.rs.length - (j+1))
          case measure=>omega
          case rel=>exact ⟨rfl,j+1,(j:Int),p1,p2,rfl,rfl,rfl,by simp,by omega,DZ.out⟩
         ·have e7:decide (p1<fr)=false:=decide_eq_false f3;have DZ:=aa (show (fI p9 (j+1) hit fr tt) from hle.skip hp (.inr ⟨by omega,by show fr<=p1;omega⟩));clear hle;go_wp2_with fail;go_roundg (s.rs.length - (j+1))
          case measure=>omega
          case rel=>exact ⟨rfl,j+1,hit,fr,tt,rfl,rfl,rfl,by simp,by omega,DZ.out⟩
       ·have e5:decide (p1<1000000)=false:=decide_eq_false f1;have DZ:=aa (show (fI p9 (j+1) hit fr tt) from hle.skip hp (.inl (by show 1000000<=p1;omega)));clear hle;go_wp2_with fail;go_roundg (s.rs.length - (j+1))
        case measure=>omega
        case rel=>exact ⟨rfl,j+1,hit,fr,tt,rfl,rfl,rfl,by simp,by omega,DZ.out⟩
      ·have g5:decide ((j:Int)<(s.rs.length:Int))=false:=decide_eq_false (by omega);obtain rfl:j=s.rs.length:=by omega
       have HLE:=aa hle;clear hle;by_cases gC:hit<0
       ·have e8:decide (hit<0)=true:=decide_eq_true gC;have n1:=((GL.out.below iC.out.kE).gy.at HT.out).1;obtain ⟨i0,hi,hz0,hz1,hz3⟩:=info_parts fh;have hpl:pre.length<=6000:=by have:=iC.out.path.short xP.out;omega
        have bE:=aa (show (wr.alloc (.cells #[.int .i64 at_,.int .i64 text.size,.string t.name,.int .i64 st.length,.string ⟨#[]⟩] 70)).ownsRow w.heap.size 70 5 (.slice mO pre.length nA) pre.length (pre.flatMap Sp.cells) from aJ iC.out.row λk hk=>by obtain ⟨_,c,hc⟩:=aw iC.out.row hk;exact ((Below.refl _ _).alloc (Nat.le_refl _) _).block k (ae hc))
        have fp:=aa (λ(y:Nat) u (h:([.int .i64 at_,.int .i64 text.size,.string t.name,.int .i64 st.length,.string ⟨#[]⟩]:List Value)[y]?=some u)=>show (wr.alloc (.cells #[.int .i64 at_,.int .i64 text.size,.string t.name,.int .i64 st.length,.string ⟨#[]⟩] 70)).cell? ((⟨wr.heap.size,0,none⟩:Addr).add y)=some u from aF wr #[.int .i64 at_,.int .i64 text.size,.string t.name,.int .i64 st.length,.string ⟨#[]⟩] _ y u h)
        have hbase:w.heap.size<=(wr.alloc (.cells #[.int .i64 at_,.int .i64 text.size,.string t.name,.int .i64 st.length,.string ⟨#[]⟩] 70)).heap.size:=by rw[World.size_alloc];have:=iC.out.kE.size;omega
        have iB:=aa (λ(v':Value) (W4:World) (hr:W4.ownsRow w.heap.size 70 5 v' (pre.length+1) (pre.flatMap Sp.cells++[.int .i64 at_,.int .i64 text.size,.string t.name,.int .i64 st.length,.string ⟨#[]⟩])) (hg:(wr.alloc (.cells #[.int .i64 at_,.int .i64 text.size,.string t.name,.int .i64 st.length,.string ⟨#[]⟩] 70)).grownBy W4 (Value.slice mO pre.length nA).ownBlock)=>show DX G text.data.toList st0 w (.returned (.tuple #[v',.slice (some ⟨sb,0,none⟩) st.length eR])) W4 from by
         obtain ⟨a1,a2,a3,_⟩:=iC.out.app (x:=⟨at_,text.size,t.name,st.length,⟨#[]⟩⟩) hr hg;refine ⟨v',_,sb,st,eR,rfl,.inr ⟨at_,pre,top,s,iC.out.path,by rw[ag];exact hlt,by rw[<-rW.out];exact Bc.out,HS.out,HLE.out.no vI.out (by rw[ag];omega) gC,rfl⟩,?_,a1,LR,a3⟩;rw[ag,iU.out];exact a2)
        clear HLE vI DY iC
        go_wp2_with (at_builtin;go_loud (refine wpList_append_own_at _ rfl (.tmp 93) (.tmp 104) 64 rfl w.heap.size 70 i0 (.agg #[.int .i64 0,.int .i64 0,.string ⟨#[]⟩,.int .i64 0,.string ⟨#[]⟩]) 5 56 Tryz.underlying64 hi hz0 hz1 hz3 rfl (by decide) (.slice mO pre.length nA) pre.length (pre.flatMap Sp.cells) (by rfl) bE.out ⟨wr.heap.size,0,none⟩ 1 1 [.int .i64 at_,.int .i64 text.size,.string t.name,.int .i64 st.length,.string ⟨#[]⟩] (by rfl) rfl fp.out (by simp[Value.oneCell']) (by unfold maxLen;omega) (by omega) hbase ?_;intro v' W4 hown hg _ _;have ai:=aa (iB.out v' W4 hown hg);obtain ⟨g',cap',rfl⟩:=aC hown (by omega);clear hown hg iB bE fp))
        go_wp2_with fail;go_ret2;exact ai.out
       ·obtain ⟨kx,p,ex,r,h1,h2,h3,J1,Bd⟩:=HLE.out.hit (λr hr=>(xP.out s (List.mem_of_getElem? HS.out) r hr).1) vI.out (by omega);subst h1 h2 h3;have e8:decide ((kx:Int)<0)=false:=decide_eq_false (by omega);obtain ⟨q,hq⟩:∃q,t.rs[kx]?=some q:=⟨_,List.getElem?_eq_getElem (by rw[ot];exact au J1)⟩;obtain ⟨_,hqk,hqc,hqo⟩:=Vg.out kx r q J1 hq
        have aaD:=Bd.gt (xP.out s (List.mem_of_getElem? HS.out) r (List.mem_of_getElem? J1)).1;rw[ag]at aaD;have ab2:=Bd.le;have Xv:=aa (vI.out.ok (at':=ex) (by omega));have Xw:=aa Bd;have LV:=aa iC.out.path;have KN:=aa iC.out.good;have HQ:=aa hq;have HRK:=aa J1;have HQO:=aa hqo;clear HLE vI Bd hq J1 hqo;go_upto_if 109 with fail
        go_cut [8] from 107 to 174 (λvl wc=>yy w st sb (pre++gq at_ p s.nm st.length) hb p9 vl wc)
        case first=>
         by_cases CN:at_<p
         ·have e9:decide ((at_:Int)<(p:Int))=true:=decide_eq_true (by omega);have n1:=((GL.out.below iC.out.kE).gy.at HT.out).1;obtain ⟨i0,hi,hz0,hz1,hz3⟩:=info_parts fh;have hpl:pre.length<=6000:=by have:=iC.out.path.short xP.out;omega
          have bE:=aa (show (wr.alloc (.cells #[.int .i64 at_,.int .i64 p,.string t.name,.int .i64 st.length,.string ⟨#[]⟩] 70)).ownsRow w.heap.size 70 5 (.slice mO pre.length nA) pre.length (pre.flatMap Sp.cells) from aJ iC.out.row λk hk=>by obtain ⟨_,c,hc⟩:=aw iC.out.row hk;exact ((Below.refl _ _).alloc (Nat.le_refl _) _).block k (ae hc))
          have fp:=aa (λ(y:Nat) u (h:([.int .i64 at_,.int .i64 p,.string t.name,.int .i64 st.length,.string ⟨#[]⟩]:List Value)[y]?=some u)=>show (wr.alloc (.cells #[.int .i64 at_,.int .i64 p,.string t.name,.int .i64 st.length,.string ⟨#[]⟩] 70)).cell? ((⟨wr.heap.size,0,none⟩:Addr).add y)=some u from aF wr #[.int .i64 at_,.int .i64 p,.string t.name,.int .i64 st.length,.string ⟨#[]⟩] _ y u h)
          have hbase:w.heap.size<=(wr.alloc (.cells #[.int .i64 at_,.int .i64 p,.string t.name,.int .i64 st.length,.string ⟨#[]⟩] 70)).heap.size:=by rw[World.size_alloc];have:=iC.out.kE.size;omega
          have iB:=aa (λ(v':Value) (W4:World) (hr:W4.ownsRow w.heap.size 70 5 v' (pre.length+1) (pre.flatMap Sp.cells++[.int .i64 at_,.int .i64 p,.string t.name,.int .i64 st.length,.string ⟨#[]⟩])) (hg:(wr.alloc (.cells #[.int .i64 at_,.int .i64 p,.string t.name,.int .i64 st.length,.string ⟨#[]⟩] 70)).grownBy W4 (Value.slice mO pre.length nA).ownBlock)=>show yy w st sb (pre++gq at_ p s.nm st.length) hb p9 v' W4 from by
           obtain ⟨a1,a2,a3,a4⟩:=iC.out.app (x:=⟨at_,p,t.name,st.length,⟨#[]⟩⟩) hr hg;rw[gq,if_pos CN,iU.out];obtain ⟨pE,c',hv'⟩:=aI a2;exact ⟨pE,c',hv',a1,a2,a3,a4 _ _ DY.out⟩)
          clear DY iC
          go_wp2_with (at_builtin;go_loud (refine wpList_append_own_at _ rfl (.tmp 110) (.tmp 120) 64 rfl w.heap.size 70 i0 (.agg #[.int .i64 0,.int .i64 0,.string ⟨#[]⟩,.int .i64 0,.string ⟨#[]⟩]) 5 56 Tryz.underlying64 hi hz0 hz1 hz3 rfl (by decide) (.slice mO pre.length nA) pre.length (pre.flatMap Sp.cells) (by rfl) bE.out ⟨wr.heap.size,0,none⟩ 1 1 [.int .i64 at_,.int .i64 p,.string t.name,.int .i64 st.length,.string ⟨#[]⟩] (by rfl) rfl fp.out (by simp[Value.oneCell']) (by unfold maxLen;omega) (by omega) hbase ?_;intro v' W4 hown hg _ _;have ai:=aa (iB.out v' W4 hown hg);obtain ⟨g',cap',rfl⟩:=aC hown (by omega);clear hown hg iB bE fp))
          go_wp2_with fail;go_meet
          case rel=>exact ai.out
         ·have e9:decide ((at_:Int)<(p:Int))=false:=decide_eq_false (by omega);have Rt:=aa (show yy w st sb (pre++gq at_ p s.nm st.length) hb p9 (.slice mO pre.length nA) wr from by rw[gq,if_neg CN,List.append_nil];exact ⟨mO,nA,rfl,iC.out.ints,iC.out.row,iC.out.kE,DY.out⟩);clear DY iC;go_wp2_with fail;go_meet
          case rel=>exact Rt.out
        case rest=>
         obtain ⟨Ia,Ib,rfl,mz,D1,hbl,yA⟩:=hcut;have zC:=GL.out.below hbl;obtain ⟨n1,n2,_,_⟩:=zC.gy.at HT.out
         obtain ⟨rg,rn,kq,lS,hrn⟩:∃rg rn kq,t.rv=.slice (some ⟨rg,0,none⟩) rn kq/\rn=t.rs.length:=by obtain ⟨Xx,kq,h1,h2⟩:=zC.gy.rules (List.mem_of_getElem? HT.out);obtain ⟨rg,h3⟩:=h2 (by have:=au HQ.out;omega);exact ⟨rg,_,kq,by rw[h1,h3],rfl⟩
         have Z8:kx<rn:=by rw[hrn];exact au HQ.out
         obtain ⟨PP,PB,cu,aaE,Xy,_,_⟩:=FW (zC.gY t (List.mem_of_getElem? HT.out) q (List.mem_of_getElem? HQ.out)) (Vg.out kx r q HRK.out HQ.out).1;have x0:=(zC.gy.rule (List.mem_of_getElem? HT.out) lS HQ.out 0 (by omega) (u:=.string q.a) rfl).1;have x1:=(zC.gy.rule (List.mem_of_getElem? HT.out) lS HQ.out 1 (by omega) (u:=.string q.b) rfl).1
         have x2:=(zC.gy.rule (List.mem_of_getElem? HT.out) lS HQ.out 2 (by omega) (u:=.string q.c) rfl).1;have x3:=(zC.gy.rule (List.mem_of_getElem? HT.out) lS HQ.out 3 (by omega) (u:=.string q.p) rfl).1;have x4:=(zC.gy.rule (List.mem_of_getElem? HT.out) lS HQ.out 4 (by omega) (u:=.pointer (some ⟨PP,0,none⟩)) (by rw[<-Xy];rfl)).1
         have x5:=(zC.gy.rule (List.mem_of_getElem? HT.out) lS HQ.out 5 (by omega) (u:=.int .i64 q.at_) rfl).1;rw[Nat.add_zero]at x0;rw[lS]at n2;obtain ⟨w6,Fm⟩:∃w6,wc.alloc (.cells #[.string q.a,.string q.b,.string q.c,.string q.p,.pointer (some ⟨PP,0,none⟩),.int .i64 q.at_] 128)=w6:=⟨_,rfl⟩
         have Fo:Below wc.heap.size wc w6:=by rw[<-Fm];exact (Below.refl _ _).alloc (Nat.le_refl _) _
         have N4:w6.heap[wc.heap.size]?=some (.cells #[.string q.a,.string q.b,.string q.c,.string q.p,.pointer (some ⟨PP,0,none⟩),.int .i64 q.at_] 128 (0,0)):=by rw[<-Fm];exact af _ _
         have n6:=ax n1 Fo;have y2:w6.cell? ⟨wc.heap.size,2,none⟩=some (.string q.c):=ah N4 rfl
         have Vh:=aa (show yy w st sb (pre++gq at_ p s.nm st.length) hb p9 (.slice Ia (pre++gq at_ p s.nm st.length).length Ib) w6 from ⟨Ia,Ib,rfl,mz.below Fo,aJ D1 λk hk=>by obtain ⟨_,c,hc⟩:=aw D1 hk;exact Fo.block k (ae hc),hbl.trans (Fo.mono hbl.size),(Fo.block _ (ae yA)).trans yA⟩);have HQ6:=aa N4
         obtain ⟨tW,LW⟩:∃tW,tW=(pre++gq at_ p s.nm st.length).length:=⟨_,rfl⟩;rw[<-LW]at Vh ⊢;have Om:=aa LW;clear mz D1 hbl yA zC Fo N4 LW lS Xy
         go_wp2_with (refine wpList_store_row rfl _ _ _ rfl _ #[.string q.a,.string q.b,.string q.c,.string q.p,.pointer (some ⟨PP,0,none⟩),.int .i64 q.at_] rfl rfl 128 _ (az _ _ _ rfl) rfl rfl (by simp[Value.oneCell']) ?_;rw[dL _ _ _ _ _ rfl]);obtain ⟨rb,CD⟩:∃rb,rb=wc.heap.size:=⟨_,rfl⟩;rw[<-CD]at y2 HQ6 ⊢;clear CD Fm x0 x1 x2 x3 x4 x5 n1 n2
         obtain ⟨i0,hi,hz0,hz1,hz3⟩:=info_parts fh;have Vi:tW<=6001:=by have h1:=LV.out.short xP.out;have h2:=nJ at_ p s.nm st.length;rw[Om.out,List.length_append];omega
         go_cut [8] from 129 to 174 (λvl wd=>yy w st sb ((pre++gq at_ p s.nm st.length)++[⟨p,ex,s.nm,st.length,r.co⟩]) hb p9 vl wd/\wd.heap[rb]?=some (.cells #[.string q.a,.string q.b,.string q.c,.string q.p,.pointer (some ⟨PP,0,none⟩),.int .i64 q.at_] 128 (0,0)))
         case first=>
          have bE:=aa (show (w6.alloc (.cells #[.int .i64 p,.int .i64 ex,.string t.name,.int .i64 st.length,.string q.c] 70)).ownsRow w.heap.size 70 5 (.slice Ia tW Ib) tW ((pre++gq at_ p s.nm st.length).flatMap Sp.cells) from by
           obtain ⟨_,_,_,_,h3,_,_⟩:=Vh.out;have h4:w6.ownsRow w.heap.size 70 5 (.slice Ia tW Ib) tW ((pre++gq at_ p s.nm st.length).flatMap Sp.cells):=by have h5:=h3;unfold bN at h5;rw[<-Om.out]at h5;exact h5
           exact aJ h4 λk hk=>by obtain ⟨_,c,hc⟩:=aw h4 hk;exact ((Below.refl _ _).alloc (Nat.le_refl _) _).block k (ae hc))
          have fp:=aa (λ(y:Nat) u (h:([.int .i64 p,.int .i64 ex,.string t.name,.int .i64 st.length,.string q.c]:List Value)[y]?=some u)=>show (w6.alloc (.cells #[.int .i64 p,.int .i64 ex,.string t.name,.int .i64 st.length,.string q.c] 70)).cell? ((⟨w6.heap.size,0,none⟩:Addr).add y)=some u from aF w6 #[.int .i64 p,.int .i64 ex,.string t.name,.int .i64 st.length,.string q.c] _ y u h)
          have hbase:w.heap.size<=(w6.alloc (.cells #[.int .i64 p,.int .i64 ex,.string t.name,.int .i64 st.length,.string q.c] 70)).heap.size:=by rw[World.size_alloc];obtain ⟨_,_,_,_,_,h4,_⟩:=Vh.out;have:=h4.size;omega
          have iB:=aa (λ(v':Value) (W4:World) (hr:W4.ownsRow w.heap.size 70 5 v' (tW+1) ((pre++gq at_ p s.nm st.length).flatMap Sp.cells++[.int .i64 p,.int .i64 ex,.string t.name,.int .i64 st.length,.string q.c])) (hg:(w6.alloc (.cells #[.int .i64 p,.int .i64 ex,.string t.name,.int .i64 st.length,.string q.c] 70)).grownBy W4 (Value.slice Ia tW Ib).ownBlock)=>show yy w st sb ((pre++gq at_ p s.nm st.length)++[⟨p,ex,s.nm,st.length,r.co⟩]) hb p9 v' W4/\W4.heap[rb]?=some (.cells #[.string q.a,.string q.b,.string q.c,.string q.p,.pointer (some ⟨PP,0,none⟩),.int .i64 q.at_] 128 (0,0)) from by
           obtain ⟨a1,a2⟩:=Vh.out.app (x:=⟨p,ex,t.name,st.length,q.c⟩) (by rw[<-Om.out];exact hr) hg;rw[<-iU.out,<-hqc]at a1;exact ⟨a1,a2 _ _ HQ6.out (λc=>by simp)⟩)
          have n7:=aq n6;have y7:=aq y2;clear Vh HQ6
          go_region_law (refine cH rfl (.tmp 129) (.tmp 141) 64 rfl w.heap.size 70 i0 (.agg #[.int .i64 0,.int .i64 0,.string ⟨#[]⟩,.int .i64 0,.string ⟨#[]⟩]) 5 56 Tryz.underlying64 hi hz0 hz1 hz3 rfl (by decide) (.slice Ia tW Ib) tW ((pre++gq at_ p s.nm st.length).flatMap Sp.cells) (by rfl) (by exact bE.out) ⟨w6.heap.size,0,none⟩ 1 1 [.int .i64 p,.int .i64 ex,.string t.name,.int .i64 st.length,.string q.c] (by rfl) (by rfl) (by exact fp.out) (by simp[Value.oneCell']) (by unfold maxLen;omega) (by omega) (by exact hbase) ?_;intro v' W4 hown hg _;have ai:=aa (iB.out v' W4 hown ⟨hg.os,hg.tape,hg.output,hg.size,hg.block⟩);obtain ⟨g',cap',rfl⟩:=aC hown (by omega);clear hown hg)
          all_goals
           go_wp2_with fail;go_meet;exact ai.out
         case rest=>
          obtain ⟨⟨Pz,PA,rfl,mz,D1,hbl,yA⟩,Al⟩:=hcut;obtain ⟨w7,hw7⟩:∃w7,w7=wc:=⟨_,rfl⟩;rw[<-hw7]at mz D1 hbl yA Al ⊢;clear hw7;have hwd:=GL.out.gy.words t (List.mem_of_getElem? HT.out) q (List.mem_of_getElem? HQ.out);have Tt:=oN hwd.2;have z0:w7.cell? ⟨rb,0,none⟩=some (.string q.a):=ah Al rfl
          have z1:w7.cell? ⟨rb,1,none⟩=some (.string q.b):=ah Al rfl;obtain ⟨n3,Ru⟩:∃n3,n3=((pre++gq at_ p s.nm st.length)++[(⟨p,ex,s.nm,st.length,r.co⟩:Sp)]).length:=⟨_,rfl⟩;rw[<-Ru]at D1 ⊢
          have LX:Path G text.data.toList st0 ex (mb r.k r.op st) ((pre++gq at_ p s.nm st.length)++[⟨p,ex,s.nm,st.length,r.co⟩]):=Path.hit LV.out (by rw[ag];exact hlt) (by rw[<-rW.out];exact Bc.out) HS.out Xw.out;have LY:Good G (mb r.k r.op st):=KN.out.mb (λhk=>(xP.out s (List.mem_of_getElem? HS.out) r (List.mem_of_getElem? HRK.out)).2 hk)
          have uS:=aa (λ(xN xO:Nat) (W:World) (h1:(mb r.k r.op st).length<=xO) (h2:cF W xN (mb r.k r.op st)) (h3:bN W w.heap.size (.slice Pz n3 PA) ((pre++gq at_ p s.nm st.length)++[⟨p,ex,s.nm,st.length,r.co⟩])) (h4:Below w.heap.size w W) (h5:bW W hb p9)=>show DW w G text st0 (text.size - ex) (.slice (some ⟨xN,0,none⟩) (mb r.k r.op st).length xO) (.slice Pz n3 PA) (.int .i64 ex) (.int .i64 top) (.slice (some ⟨hb,0,none⟩) s.rs.length s.rs.length) W from
           ⟨ex,mb r.k r.op st,_,xN,xO,Pz,PA,rfl,by rw[Ru],rfl,by omega,h1,⟨LX,LY,h2,by rw[<-Ru];exact h3,h4⟩,.inr ⟨top,hb,s,p9,rfl,HS.out,rfl,hhb,h5,Xv.out⟩⟩)
          have HQ3:=aa Al;have uR:=aa mz;have PC:=aa D1;have jc:=aa hbl;have FV:=aa yA;clear mz D1 hbl yA Al LX LY Xw LV Xv Ru Vh HQ6 Om y2 n6;rw[hqk]at uS;obtain ⟨dd,hdd⟩:∃dd,dd=q.d:=⟨_,rfl⟩;rw[<-hdd]at uS hwd Tt;have HDD:=aa hdd;clear hdd hqk;by_cases hd1:dd=1
          ·subst hd1;have yB:q.a=(⟨#[112,117,115,104]⟩:ByteArray):=Tt;rw[yB]at z0;have HQA:=aa yB;clear Tt yB hwd;by_cases Xz:st.length<8
           ·have e10:decide ((st.length:Int)<8)=true:=decide_eq_true (by omega);have ha:mb 1 r.op st=st++[r.op]:=by unfold mb;rw[if_pos ⟨rfl,Xz⟩]
            rw[ha]at uS;obtain ⟨i1,wy,ZC,UN,ZE⟩:=info_parts kD;obtain ⟨Tu,gJ,oO,Rv⟩:=HQO.out HDD.out.symm
            have fp:=aa (λ(y:Nat) u (h:(st.map λx:Nat=>Value.int .i64 (x:Int))[y]?=some u)=>show w7.cell? ((⟨sb,0,none⟩:Addr).add y)=some u from by
             rw[List.getElem?_map]at h
             cases hy:st[y]? with
             | none=>rw[hy]at h;cases h
             | some x=>
              rw[hy]at h;cases h;have hcell:=uR.out.cell hy;by_cases h0:y=0
              ·subst h0;simpa [Addr.add] using hcell
              ·simpa [Addr.add,h0] using hcell)
            have Tv:w.heap.size<=w7.heap.size:=jc.out.size
            have XA:=aa (λ(v1:Value) (W1:World) (hg:w7.grownBy W1 (Value.slice none 0 0).ownBlock)=>show W1.cell? ⟨rb,1,none⟩=some (.string q.b)/\Below w7.heap.size w7 W1/\Calls Tryz.prog 86 #[.pointer (some ⟨P,0,none⟩),.string q.b] W1 (λe w'=>e=.returned (.int .i64 r.op)/\w'=W1) from by
             have hb1:Below w7.heap.size w7 W1:=⟨hg.os,hg.tape,hg.output,hg.size,λk hk=>hg.block k hk (by simp[Value.ownBlock])⟩;have rV:=GL.out.below (jc.out.trans (hb1.mono jc.out.size));refine ⟨ax z1 hb1,hb1,(qm B P _ ss q.b W1 rV.gy (by have:=rV.few.1;omega)).mono ?_⟩;rintro e w' ⟨h1,(⟨i,t2,rfl,h2,h3,h4⟩|⟨rfl,h2⟩)⟩
             ·have ZZ:i=r.op:=by
               rcases Nat.lt_trichotomy i r.op with h|h|h
               ·exact absurd h3 (Rv i t2 h h2)
               ·exact h
               ·exact absurd oO (h4 r.op Tu h gJ)
              subst ZZ;exact ⟨rfl,h1⟩
             ·exact absurd oO (h2 Tu (List.mem_of_getElem? gJ)))
            clear gJ oO Rv Tu
            go_wp2_with (at_builtin;go_loud (refine wpList_append_own_at _ rfl (.tmp 151) (.tmp 152) 57 rfl w.heap.size 3 i1 (.int .i64 0) 1 8 Tryz.underlying57 wy ZC UN ZE rfl (by decide) (.slice none 0 0) 0 [] (by rfl) (World.ownsRow_nil _ _ _ _) ⟨sb,0,none⟩ st.length eR (st.map λx:Nat=>Value.int .i64 (x:Int)) (by rfl) (by simp) fp.out (by intro u hu;obtain ⟨x,_,rfl⟩:=List.mem_map.1 hu;rfl) (by unfold maxLen;omega) (by omega) Tv ?_;intro v1 W1 hown1 hg1 _ _;rw[Nat.zero_add,List.nil_append]at hown1;obtain ⟨zz1,hb1,Vj⟩:=XA.out v1 W1 hg1;have ez:=aa hown1;have br:=aa hb1;have uT:=aa Vj;obtain ⟨g1,mB,rfl⟩:=aC hown1 (by omega);clear hown1 hg1 hb1 Vj XA))
            refine uT.out.mono ?_;rintro e8 w8 ⟨rfl,h8⟩;obtain ⟨w9,Sd⟩:∃w9,w9=w8:=⟨_,rfl⟩;rw[<-h8]at ez br;rw[<-Sd]at ez br ⊢;clear uT zz1 h8 Sd
            have ju:=aa (show (w9.alloc (.cells #[.int .i64 r.op] 3)).ownsRow w.heap.size 3 1 (.slice (some ⟨g1,0,none⟩) st.length mB) st.length (st.map λx:Nat=>Value.int .i64 (x:Int)) from aJ ez.out λk hk=>by obtain ⟨_,c,hc⟩:=aw ez.out hk;exact ((Below.refl _ _).alloc (Nat.le_refl _) _).block k (ae hc))
            have XB:=aa (λ(y:Nat) u (h:([.int .i64 r.op]:List Value)[y]?=some u)=>show (w9.alloc (.cells #[.int .i64 r.op] 3)).cell? ((⟨w9.heap.size,0,none⟩:Addr).add y)=some u from aF w9 #[.int .i64 r.op] _ y u h);have C8:w.heap.size<=(w9.alloc (.cells #[.int .i64 r.op] 3)).heap.size:=by rw[World.size_alloc];have:=br.out.size;omega
            have iB:=aa (λ(v2:Value) (W2:World) (hr:W2.ownsRow w.heap.size 3 1 v2 (st.length+1) ((st.map λx:Nat=>Value.int .i64 (x:Int))++[.int .i64 r.op])) (hg:(w9.alloc (.cells #[.int .i64 r.op] 3)).grownBy W2 (Value.slice (some ⟨g1,0,none⟩) st.length mB).ownBlock)=>show DW w G text st0 (text.size - ex) v2 (.slice Pz n3 PA) (.int .i64 ex) (.int .i64 top) (.slice (some ⟨hb,0,none⟩) s.rs.length s.rs.length) W2 from by
             have J2:Below w7.heap.size w7 (w9.alloc (.cells #[.int .i64 r.op] 3)):=br.out.alloc br.out.size _;have o2:aN (λk=>k=g1) (w9.alloc (.cells #[.int .i64 r.op] 3)) W2:=(aN.gh ju.out (by decide) hg).sub λk _ e=>by cases e;rfl
             obtain ⟨ab3,c1,hc1⟩:=aw ju.out (k:=g1) rfl;have key:∀(k:Nat) o,w7.heap[k]?=some o->(∀c,o≠.cells c 3 (0,0))->W2.heap[k]?=some o:=λk o hk hne=>by have h9:=(J2.block k (ae hk)).trans hk;refine o2.same h9 (λe=>?_);rw[e,hc1]at h9;cases h9;exact hne _ rfl
             obtain ⟨g2,s9,hv2⟩:=aC hr (by omega);subst hv2;rw[show (st.map λx:Nat=>Value.int .i64 (x:Int))++[.int .i64 r.op]=(st++[r.op]).map λx:Nat=>Value.int .i64 (x:Int) by simp]at hr;obtain ⟨hints,XC⟩:=LQ hr;have hlen:(st++[r.op]).length=st.length+1:=by simp
             have:=uS.out g2 s9 W2 (by rw[hlen];exact XC) hints (aJ PC.out λk hk=>by obtain ⟨_,c,hc⟩:=aw PC.out hk;rw[hc];exact key k _ hc (λc=>by simp)) (jc.out.trans ((J2.mono jc.out.size).trans ⟨o2.os,o2.tape,o2.output,o2.size,λk hk=>o2.keep k ⟨by omega,by omega⟩⟩)) (key _ _ FV.out (λc=>by simp));rw[hlen]at this;exact this)
            have HZZ:=aa (λ(W2:World) (hg:(w9.alloc (.cells #[.int .i64 r.op] 3)).grownBy W2 (Value.slice (some ⟨g1,0,none⟩) st.length mB).ownBlock)=>show W2.cell? ⟨rb,0,none⟩=some (.string (⟨#[112,117,115,104]⟩:ByteArray)) from by
             have J2:Below w7.heap.size w7 (w9.alloc (.cells #[.int .i64 r.op] 3)):=br.out.alloc br.out.size _;have h9:=(J2.block rb (ae HQ3.out)).trans HQ3.out;obtain ⟨_,c1,hc1⟩:=aw ju.out (k:=g1) rfl
             have h2:=(hg.block rb (ae h9) (λe=>by
              have e':rb=g1:=by simpa [Value.ownBlock] using e
              rw[e',hc1]at h9;simp at h9)).trans h9
             have:=ah (j:=0) h2 (v:=.string q.a) rfl;rw[HQA.out]at this;exact this)
            clear uS
            go_wp2_with (at_builtin;go_loud (refine wpList_append_own_at _ rfl (.tmp 154) (.tmp 159) 57 rfl w.heap.size 3 i1 (.int .i64 0) 1 8 Tryz.underlying57 wy ZC UN ZE rfl (by decide) (.slice (some ⟨g1,0,none⟩) st.length mB) st.length (st.map λx:Nat=>Value.int .i64 (x:Int)) (by rfl) ju.out ⟨w9.heap.size,0,none⟩ 1 1 [.int .i64 r.op] (by rfl) rfl XB.out (by simp[Value.oneCell']) (by unfold maxLen;omega) (by omega) C8 ?_;intro v2 W2 hown2 hg2 _ _;have HST:=aa (iB.out v2 W2 hown2 hg2);have zz0:=(HZZ.out W2 hg2);obtain ⟨g2,s9,rfl⟩:=aC hown2 (by omega);clear hown2 hg2 iB ju XB))
            go_wp2_with fail;go_roundg (text.size - ex)
            case measure=>omega
            case rel=>exact HST.out
           ·have e10:decide ((st.length:Int)<8)=false:=decide_eq_false (by omega);have ha:mb 1 r.op st=st:=by unfold mb;rw[if_neg (by omega),if_neg (by omega)]
            have HST:=aa (uS.out sb eR w7 (by rw[ha];exact LR) (by rw[ha];exact uR.out) PC.out jc.out FV.out);rw[ha]at HST;clear uS;go_wp2_with fail;go_roundg (text.size - ex)
            case measure=>omega
            case rel=>exact HST.out
          ·by_cases hd2:dd=2
           ·subst hd2;have yB:q.a=(⟨#[112,111,112]⟩:ByteArray):=Tt;rw[yB]at z0;clear Tt yB hwd hd1;by_cases XD:1<st.length
            ·have e10:decide ((1:Int)<(st.length:Int))=true:=decide_eq_true (by omega);have ha:mb 2 r.op st=st.dropLast:=by unfold mb;rw[if_neg (by omega),if_pos ⟨rfl,XD⟩]
             have uZ:st.dropLast.length=sl:=by rw[List.length_dropLast,rW.out]
             have HST:=aa (uS.out sb eR w7 (by rw[ha,uZ];omega) (by rw[ha];exact uR.out.sub λj x hj=>by rw[List.getElem?_dropLast]at hj;split at hj;exact hj;cases hj) PC.out jc.out FV.out);rw[ha,uZ]at HST;have hsc:(sl:Int)<=(eR:Int):=by omega
             clear uS;go_wp2_with fail;go_roundg (text.size - ex)
             case measure=>omega
             case rel=>exact HST.out
            ·have e10:decide ((1:Int)<(st.length:Int))=false:=decide_eq_false (by omega);have ha:mb 2 r.op st=st:=by unfold mb;rw[if_neg (by omega),if_neg (by omega)]
             have HST:=aa (uS.out sb eR w7 (by rw[ha];exact LR) (by rw[ha];exact uR.out) PC.out jc.out FV.out);rw[ha]at HST;clear uS;go_wp2_with fail;go_roundg (text.size - ex)
             case measure=>omega
             case rel=>exact HST.out
           ·have hd0:dd=0:=by omega
            subst hd0;have yB:q.a=(⟨#[116,111,107,101,110]⟩:ByteArray):=Tt;rw[yB]at z0;clear Tt yB hwd hd1 hd2;have ha:mb 0 r.op st=st:=by unfold mb;rw[if_neg (by omega),if_neg (by omega)]
            have HST:=aa (uS.out sb eR w7 (by rw[ha];exact LR) (by rw[ha];exact uR.out) PC.out jc.out FV.out);rw[ha]at HST;clear uS;go_wp2_with fail;go_roundg (text.size - ex)
            case measure=>omega
            case rel=>exact HST.out
  ·have g1:decide ((at_:Int)<(text.size:Int))=false:=decide_eq_false (by omega);obtain rfl:at_=text.size:=by omega
   have ai:=aa (show DX G text.data.toList st0 w (.returned (.tuple #[.slice mO pre.length nA,.slice (some ⟨sb,0,none⟩) st.length eR])) wr from ⟨_,pre,sb,st,eR,rfl,.inl (by rw[ag];exact CL.path),CL.row,CL.ints,LR,CL.kE⟩);clear CL Z8;go_wp2_with fail;go_ret2;exact ai.out
end Go.Proofs.YtgncgdkpkkdaeaaGreatDoor
