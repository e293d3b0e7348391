import Derived.Test.YtgncgdkpkkdaeaaGreatDoorAY
import Derived.Test.YtgncgdkpkkdaeaaGreatDoorA2
import Derived.Deep.CutRange
set_option maxRecDepth 20000
set_option maxHeartbeats 8000000
namespace Go.Proofs.YtgncgdkpkkdaeaaGreatDoor
open Go.RowKit bu Go.Maps
variable {st:List Nat} {pre:List Sp} {b sb:Nat} {o:Obj} {x:Sp} {lv lv':Value} {W W4 w w':World}
structure yu(G:List GS)(ss:List cH):Prop where
 len:G.length=ss.length
 st:∀(i:Nat) s t,G[i]?=some s->ss[i]?=some t->s.nm=t.name/\t.rs.length=s.rs.length/\∀(k:Nat) r q,s.rs[k]?=some r->t.rs[k]?=some q->bH q.p.data.toList (some (r.a.re,[]))/\r.k=q.d/\r.co=q.c/\(q.d=1->∃t',ss[r.op]?=some t'/\t'.name.data.toList=q.b.data.toList/\∀(j:Nat) t'',j<r.op->ss[j]?=some t''->t''.name.data.toList≠q.b.data.toList)
def cX(w:World)(b:Nat)(st:List Nat):Prop:=∃cur fz,w.heap[b]?=some (.cells cur 3 fz)/\∀(j:Nat) x,st[j]?=some x->cur[j]?=some (.int .i64 (x:Nat))
theorem cX.cell(h:cX w b st){j x:Nat}(hj:st[j]?=some x):w.cell? ⟨b,j,none⟩=some (.int .i64 x):=by obtain ⟨cur,fz,h1,h2⟩:=h;exact ai h1 (h2 j x hj)
theorem cX.keep(h:cX w b st)(hk:∀c fz,w.heap[b]?=some (.cells c 3 fz)->w'.heap[b]?=some (.cells c 3 fz)):cX w' b st:=by obtain ⟨cur,fz,h1,h2⟩:=h;exact ⟨cur,fz,hk _ _ h1,h2⟩
theorem cX.below(h:cX w b st)(hb:Below w.heap.size w w'):cX w' b st:=h.keep λ_ _ hh=>(hb.block _ (ae hh)).trans hh
theorem cX.sub{st':List Nat}(h:cX w b st)(hs:∀(j:Nat) x,st'[j]?=some x->st[j]?=some x):cX w b st':=by obtain ⟨cur,fz,h1,h2⟩:=h;exact ⟨cur,fz,h1,λj x hj=>h2 j x (hs j x hj)⟩
theorem N8{B g n cap:Nat}(h:w.ownsRow B 3 1 (.slice (some ⟨g,0,none⟩) n cap) n (st.map λx:Nat=>Value.int .i64 (x:Int))):cX w g st/\n<=cap:=by
 rcases h.2 with ⟨h0,_⟩|⟨g',cap',cur,h1,_,h3,h4,_,_,h6⟩
 ·cases h0
 ·cases h1;refine ⟨⟨cur,_,h3,λj x hj=>?_⟩,h4⟩;have hl:=h.1;rw[fy]at hl;have Qp:j<n*1:=by have:=az hj;omega
  have h7:(cur.toList.take (n*1))[j]?=some (.int .i64 (x:Int)):=by rw[h6,fX,hj];rfl
  rw[List.getElem?_take_of_lt Qp]at h7;simpa using h7
structure XV(w:World)(G:List GS)(T:List UInt8)(st0:List Nat)(at_:Nat)(st:List Nat)(pre:List Sp)(sb:Nat)(lv:Value)(W:World):Prop where
 path:Path G T st0 at_ st pre
 good:Good G st
 ints:cX W sb st
 row:ck W w.heap.size lv pre
 lZ:Below w.heap.size w W
theorem XV.app{G:List GS}{T:List UInt8}{st0:List Nat}{at_:Nat}(h:XV w G T st0 at_ st pre sb lv W)(hrow:W4.ownsRow w.heap.size 70 5 lv' (pre.length+1) (pre.flatMap Sp.cells++x.cells))(hg:(W.alloc o).grownBy W4 lv.ownBlock):
  cX W4 sb st/\ck W4 w.heap.size lv' (pre++[x])/\Below w.heap.size w W4/\∀hb hs,cZ W hb hs->cZ W4 hb hs:=by
 have hb:Below W.heap.size W (W.alloc o):=cq _ _;have hr2:ck (W.alloc o) w.heap.size lv pre:=aI h.row λk hk=>by obtain ⟨_,c,hc⟩:=ar h.row hk;exact hb.block k (ae hc)
 have o1:aM (λk=>lv.ownBlock=some k) W W4:=(aM.ay hb).trans (aM.gY hr2 (by decide) hg);have yt:∀k,lv.ownBlock=some k->w.heap.size<=k/\∃c,W.heap[k]?=some (.cells c 70 (0,0)):=λk hk=>ar h.row hk
 refine ⟨h.ints.keep λc fz hh=>o1.same hh (λe=>?_),ck.snoc hrow,h.lZ.trans ⟨o1.os,o1.tape,o1.output,o1.size,λk hk=>o1.keep k ⟨dw hk h.lZ.size,λe=>by have:=(yt k e).1;omega⟩⟩,λhb' hs hh=>o1.same hh (λe=>?_)⟩
 ·obtain ⟨_,c',hc'⟩:=yt _ e;rw[hh]at hc';simp at hc'
 ·obtain ⟨_,c',hc'⟩:=yt _ e;unfold cZ at hh;rw[hh]at hc';simp at hc'
def AA(w:World)(st:List Nat)(sb:Nat)(pre:List Sp)(hb:Nat)(hs:List (Int×Int))(vl:Value)(W:World):Prop:=
 ∃oC pn,vl=.slice oC pre.length pn/\cX W sb st/\ck W w.heap.size vl pre/\Below w.heap.size w W/\cZ W hb hs
theorem AA.app{hb:Nat}{hs:List (Int×Int)}(h:AA w st sb pre hb hs lv W)(hrow:W4.ownsRow w.heap.size 70 5 lv' (pre.length+1) (pre.flatMap Sp.cells++x.cells))(hg:(W.alloc o).grownBy W4 lv.ownBlock):
  AA w st sb (pre++[x]) hb hs lv' W4/\∀(k:Nat) o',W.heap[k]?=some o'->(∀c,o'≠.cells c 70 (0,0))->W4.heap[k]?=some o':=by
 obtain ⟨oC,pn,h1,h2,h3,h4,h5⟩:=h;have uq:Below W.heap.size W (W.alloc o):=cq _ _;have hr2:ck (W.alloc o) w.heap.size lv pre:=aI h3 λk hk=>by obtain ⟨_,c,hc⟩:=ar h3 hk;exact uq.block k (ae hc)
 have o1:aM (λk=>lv.ownBlock=some k) W W4:=(aM.ay uq).trans (aM.gY hr2 (by decide) hg);have key:∀(k:Nat) o',W.heap[k]?=some o'->(∀c,o'≠.cells c 70 (0,0))->W4.heap[k]?=some o':=λk o' hk hne=>o1.same hk (λe=>by obtain ⟨_,c,hc⟩:=ar h3 e;rw[hk]at hc;cases hc;exact hne _ rfl)
 have Ma:ck W4 w.heap.size lv' (pre++[x]):=ck.snoc hrow;obtain ⟨pW,c',hv'⟩:=aC Ma;refine ⟨⟨pW,c',hv',h2.keep λc fz hh=>key _ _ hh (λc'=>by simp),Ma,h4.trans ⟨o1.os,o1.tape,o1.output,o1.size,λk hk=>o1.keep k ⟨dw hk h4.size,λe=>by have:=(ar h3 e).1;omega⟩⟩,key _ _ h5 (λc=>by simp)⟩,key⟩
def KnJ(w:World)(G:List GS)(T:List UInt8)(at_:Nat)(was hv:Value)(W:World):Prop:=
 (was=.int .i64 (-1)/\hv=.slice none 0 0)∨∃(i hb:Nat) (s:GS) (hs:List (Int×Int)),was=.int .i64 i/\G[i]?=some s/\hv=.slice (some ⟨hb,0,none⟩) s.rs.length s.rs.length/\w.heap.size<=hb/\cZ W hb hs/\pB s.rs T at_ hs
def HtJ(w:World)(G:List GS)(T:List UInt8)(st0:List Nat)(at_:Nat)(st:List Nat)(pre:List Sp)(sb:Nat)(lv:Value)(top:Nat)(s:GS)(vw vh:Value)(W:World):Prop:=
 ∃(hb:Nat) (hs:List (Int×Int)),vw=.int .i64 top/\vh=.slice (some ⟨hb,0,none⟩) s.rs.length s.rs.length/\w.heap.size<=hb/\cZ W hb hs/\pB s.rs T at_ hs/\XV w G T st0 at_ st pre sb lv W
def FX(w:World)(G:List GS)(text:ByteArray)(st0:List Nat)(k:Nat)(vs vl va vw vh:Value)(W:World):Prop:=
 ∃(at_:Nat) (st:List Nat) (pre:List Sp) (sb fL:Nat) (oC:Option Addr) (pn:Nat),vs=.slice (some ⟨sb,0,none⟩) st.length fL/\vl=.slice oC pre.length pn/\va=.int .i64 at_/\at_+k=text.size/\st.length<=fL/\XV w G text.data.toList st0 at_ st pre sb (.slice oC pre.length pn) W/\KnJ w G text.data.toList at_ vw vh W
def FY(G:List GS)(T:List UInt8)(st0:List Nat)(w:World)(e:Ending)(W:World):Prop:=
 ∃lv bh sb st fL,e=.returned (.tuple #[lv,.slice (some ⟨sb,0,none⟩) st.length fL])/\uE G T st0 bh st/\ck W w.heap.size lv bh/\cX W sb st/\st.length<=fL/\Below w.heap.size w W
theorem B9(B P g n0 cap:Nat)(ss:List cH)(G:List GS)(text:ByteArray)(st0:List Nat)(sb0 VW:Nat)(w:World)(h:RG w B P g n0 cap ss)(dC:yu G ss)(eM:yq G)(cE:Good G st0)(hz:text.size<=3000)(hi:cX w sb0 st0)(XE:st0.length<=VW):
  Calls Tryz.prog 64 #[.pointer (some ⟨P,0,none⟩),.string text,.slice (some ⟨sb0,0,none⟩) st0.length VW] w (FY G text.data.toList st0 w):=by
 have Jw:=aa h;have Qr:=aa dC;have zP:=aa eM;have HGD:=aa cE;have HI:=aa hi;clear h dC eM cE hi;go_enter Tryz.func64,Tryz.ntmps64;go_wp2_with fail;go_loopg [2,8,9,10,11] text.size (λk vs vl va vw vh wr=>FX w G text st0 k vs vl va vw vh wr)
 case atStart=>exact ⟨0,st0,[],sb0,VW,none,0,rfl,rfl,rfl,by omega,XE,⟨.start,HGD.out,HI.out,World.ownsRow_nil _ _ _ _,Below.refl _ _⟩,.inl ⟨rfl,rfl⟩⟩
 case round=>
  obtain ⟨at_,st,pre,sb,fL,oC,pn,rfl,rfl,rfl,hk,N9,EF,ZX⟩:=hrel;by_cases hlt:at_<text.size
  ·have g1:decide ((at_:Int)<(text.size:Int))=true:=cF (by omega);obtain ⟨top,s,Da,hs⟩:=EF.good.top;have hR:=Jw.out.below EF.lZ;have c0:=hR.ia.eA.1;have d0:=EF.ints.cell Da;have ady:=EF.good.1.1;have UK:=EF.good.1.2;have hwr:IntKind.i64.wrap ((st.length:Int) - 1)=((st.length - 1:Nat):Int):=by rw[IntKind.wrap_i64];omega
   obtain ⟨sl,Ew⟩:∃sl,sl=st.length - 1:=⟨_,rfl⟩;rw[<-Ew]at Da d0 hwr;have adz:sl<st.length:=by omega
   have htn:top<n0:=by
    have h1:n0=ss.length:=by obtain ⟨ao,cp,e1,_⟩:=hR.ia.form;cases e1;rfl
    rw[h1,<-Qr.out.len];exact az hs
   have MH:=aa EF;have HKN:=aa ZX;have Db:=aa Da;have HS:=aa hs;have uv:=aa Ew;clear EF ZX hR Da hs Ew;go_wp2_with fail;go_region_held3 (λw'=>w'.cell? ⟨P,0,none⟩=some (.slice (some ⟨g,0,none⟩) n0 cap)/\w'.cell? ⟨sb,sl,none⟩=some (.int .i64 top)) (go_keep) (fail)
   all_goals
    have Ke:=aa (show XV w G text.data.toList st0 at_ st pre sb (.slice oC pre.length pn) wr.drew from ⟨MH.out.path,MH.out.good,MH.out.ints.below (Below.refl _ _).drew,MH.out.row,MH.out.lZ.trans (Below.refl _ _).drew⟩);obtain ⟨w1,JH⟩:∃w1,w1=wr.drew:=⟨_,rfl⟩;have Oa:=aa (show KnJ w G text.data.toList at_ u10 u11 w1 from by rw[JH];exact HKN.out);rw[<-JH]at Ke ⊢
    clear MH HKN JH c0;dsimp only[Exit.then];refine (by with_reducible assumption:∀(a:Act) (w:World),Code.wp Tryz.prog _ _ a w->(_:Act->World->Prop) a w) _ _ ?_;refine wp_seq_k λK1 J4=>?_
    have d1:=Ke.out.ints.cell Db.out;go_cut [10,11] from 34 to 174 (λvw vh wc=>HtJ w G text.data.toList st0 at_ st pre sb (.slice oC pre.length pn) top s vw vh wc)
    case first=>
     obtain ⟨t,ht⟩:∃t,ss[top]?=some t:=⟨_,cB (by rw[<-Qr.out.len];exact az HS.out)⟩;have od:=(Qr.out.st top s t HS.out ht).2.1;have T6:=aa (AB B P g n0 cap ss top t w1 (Jw.out.below Ke.out.lZ) ht);rw[od]at T6;by_cases dC:u10=.int .i64 top
     ·subst dC;have e1:((top:Int)==(top:Int))=true:=by simp
      have T8:=aa (show HtJ w G text.data.toList st0 at_ st pre sb (.slice oC pre.length pn) top s (.int .i64 top) u11 w1 from by
       rcases Oa.out with ⟨h1,_⟩|⟨i,hb,s',hs,h1,h2,h3,h4,h5,h6⟩
       ·simp at h1
       ·have h7:i=top:=by simp at h1;omega
        subst h7;rw[HS.out]at h2;cases h2;exact ⟨hb,hs,rfl,h3,h4,h5,h6,Ke.out⟩)
      clear Oa T6 ht od;go_wp2_with fail;go_meet
      case rel=>exact T8.out
     ·obtain ⟨wi,hwi,hne⟩:∃wi:Int,u10=.int .i64 wi/\wi≠top:=by
       rcases Oa.out with ⟨h1,_⟩|⟨i,hb,s',hs,h1,_⟩
       ·exact ⟨-1,h1,by omega⟩
       ·exact ⟨i,h1,λe=>dC (by rw[h1,e])⟩
      subst hwi;have e1:(wi==(top:Int))=false:=by rw[er];exact hne
      have e2:decide (wi=(top:Int))=false:=bV hne;clear Oa dC ht od;go_wp2_with fail;refine T6.out.mono ?_;rintro e3 w3 ⟨rfl,hh3,hb3⟩
      have T8:=aa (show HtJ w G text.data.toList st0 at_ st pre sb (.slice oC pre.length pn) top s (.int .i64 top) (.slice (some ⟨w1.heap.size,0,none⟩) s.rs.length s.rs.length) w3 from by
       have hj:=Ke.out;refine ⟨w1.heap.size,_,rfl,rfl,hj.lZ.size,hh3,⟨by simp,λi r h h1 h2=>?_⟩,hj.path,hj.good,hj.ints.below hb3,aI hj.row λk hk=>by obtain ⟨_,c,hc⟩:=ar hj.row hk;exact hb3.block k (ae hc),hj.lZ.trans (hb3.mono hj.lZ.size)⟩;have:=bn h2;rw[(List.mem_replicate.1 this).2];exact .inl rfl)
      clear hh3 hb3 T6;go_wp2_with fail;go_meet
      case rel=>exact T8.out
    case rest=>
     obtain ⟨hb,hs,rfl,rfl,hhb,hha,hho,EF⟩:=hcut;obtain ⟨t,ht⟩:∃t,ss[top]?=some t:=⟨_,cB (by rw[<-Qr.out.len];exact az HS.out)⟩;obtain ⟨gF,od,BN⟩:=Qr.out.st top s t HS.out ht;have hRc:=Jw.out.below EF.lZ
     have HAG:=aa (Kf B P g n0 cap ss top t s.rs text at_ hb hs wc hRc ht ⟨od,λk q r h1 h2=>(BN k r q h2 h1).1⟩ (by omega) hz hha hho);have ZY:=aa EF;have HT:=aa ht;have jm:=aa gF;have XW:=aa BN;have II:=aa hha;clear hha hho EF gF BN ht hRc Oa Ke d1;go_wp2_with fail;refine HAG.out.mono ?_;rintro e4 w4 ⟨⟨av,rfl⟩,rU,ZZ,Oc,tz⟩
     have ju:=aa (show XV w G text.data.toList st0 at_ st pre sb (.slice oC pre.length pn) w4 from by
      have hj:=ZY.out;refine ⟨hj.path,hj.good,hj.ints.keep λc fz hh=>tz.same hh (λe=>?_),aI hj.row λk hk=>?_,hj.lZ.trans ⟨tz.os,tz.tape,tz.output,tz.size,λk hk=>tz.keep k ⟨dw hk hj.lZ.size,by omega⟩⟩⟩
      ·have h1:=II.out;unfold cZ at h1;rw[<-e,hh]at h1;simp at h1
      ·obtain ⟨_,c,hc⟩:=ar hj.row hk;rw[hc];refine tz.same hc (λe=>?_);have h1:=II.out;unfold cZ at h1;rw[<-e,hc]at h1;simp at h1)
     have FZ:=aa ZZ;have xT:=aa Oc;have ab1:rU.length=s.rs.length:=Oc.1;clear ZZ Oc tz HAG ZY II;obtain ⟨w5,Fc⟩:∃w5,w5=w4:=⟨_,rfl⟩;rw[<-Fc];rw[<-Fc]at ju FZ;clear Fc;go_wp2_with fail
     go_loopg [13,14,15,16] s.rs.length (λk vh vf vt vi wx=>wx=w5/\∃(j:Nat) (hit fr tt:Int),vh=.int .i64 hit/\vf=.int .i64 fr/\vt=.int .i64 tt/\vi=.int .i64 j/\j+k=s.rs.length/\gH rU j hit fr tt)
     case atStart=>exact ⟨rfl,0,-1,0,0,rfl,rfl,rfl,rfl,by omega,gH.start _ _ _⟩
     case round=>
      obtain ⟨rfl,j,hit,fr,tt,rfl,rfl,rfl,rfl,hjk,hle⟩:=hrel;by_cases rE:j<s.rs.length
      ·have g5:decide ((j:Int)<(s.rs.length:Int))=true:=cF (by omega);obtain ⟨⟨p1,p2⟩,hp⟩:∃p,rU[j]?=some p:=⟨_,cB (by rw[ab1];exact rE)⟩;obtain ⟨q1,q2,_,_⟩:=FZ.out.cell hp;dsimp only at q1 q2;have adA:IntKind.i64.wrap ((j:Int)+1)=(j:Int)+1:=by have EG:=Jw.out.few.2 t (bn HT.out);rw[od]at EG;rw[IntKind.wrap_i64];omega
       by_cases f1:p1<1000000
       ·have e5:decide (p1<1000000)=true:=cF f1;by_cases f2:hit<0
        ·have e6:decide (hit<0)=true:=cF f2;have F0:=aa (show (gH rU (j+1) (j:Int) p1 p2) from hle.take hp (by omega) (.inl f2));clear hle;go_wp2_with fail;go_roundg (s.rs.length - (j+1))
         case measure=>omega
         case rel=>exact ⟨rfl,j+1,(j:Int),p1,p2,rfl,rfl,rfl,by simp,by omega,F0.out⟩
        ·have e6:decide (hit<0)=false:=bV f2;by_cases f3:p1<fr
         ·have e7:decide (p1<fr)=true:=cF f3;have F0:=aa (show (gH rU (j+1) (j:Int) p1 p2) from hle.take hp (by omega) (.inr f3));clear hle;go_wp2_with fail;go_roundg (s.rs.length - (j+1))
          case measure=>omega
          case rel=>exact ⟨rfl,j+1,(j:Int),p1,p2,rfl,rfl,rfl,by simp,by omega,F0.out⟩
         ·have e7:decide (p1<fr)=false:=bV f3;have F0:=aa (show (gH rU (j+1) hit fr tt) from hle.skip hp (.inr ⟨by omega,by show fr<=p1;omega⟩));clear hle;go_wp2_with fail;go_roundg (s.rs.length - (j+1))
          case measure=>omega
          case rel=>exact ⟨rfl,j+1,hit,fr,tt,rfl,rfl,rfl,by simp,by omega,F0.out⟩
       ·have e5:decide (p1<1000000)=false:=bV f1;have F0:=aa (show (gH rU (j+1) hit fr tt) from hle.skip hp (.inl (by show 1000000<=p1;omega)));clear hle;go_wp2_with fail;go_roundg (s.rs.length - (j+1))
        case measure=>omega
        case rel=>exact ⟨rfl,j+1,hit,fr,tt,rfl,rfl,rfl,by simp,by omega,F0.out⟩
      ·have g5:decide ((j:Int)<(s.rs.length:Int))=false:=bV (by omega);obtain rfl:j=s.rs.length:=by omega
       have HLE:=aa hle;clear hle;by_cases iw:hit<0
       ·have e8:decide (hit<0)=true:=cF iw;have n1:=((Jw.out.below ju.out.lZ).ia.at HT.out).1;obtain ⟨i0,hi,hz0,hz1,hz3⟩:=info_parts fc;have hpl:pre.length<=6000:=by have:=ju.out.path.short zP.out;omega
        have bj:=aa (show (wr.alloc (.cells #[.int .i64 at_,.int .i64 text.size,.string t.name,.int .i64 st.length,.string ⟨#[]⟩] 70)).ownsRow w.heap.size 70 5 (.slice oC pre.length pn) pre.length (pre.flatMap Sp.cells) from aI ju.out.row λk hk=>by obtain ⟨_,c,hc⟩:=ar ju.out.row hk;exact (cq _ _).block k (ae hc))
        have ey:=aa (λ(y:Nat) u (h:([.int .i64 at_,.int .i64 text.size,.string t.name,.int .i64 st.length,.string ⟨#[]⟩]:List Value)[y]?=some u)=>show (wr.alloc (.cells #[.int .i64 at_,.int .i64 text.size,.string t.name,.int .i64 st.length,.string ⟨#[]⟩] 70)).cell? ((⟨wr.heap.size,0,none⟩:Addr).add y)=some u from aG wr #[.int .i64 at_,.int .i64 text.size,.string t.name,.int .i64 st.length,.string ⟨#[]⟩] _ y u h)
        have hbase:w.heap.size<=(wr.alloc (.cells #[.int .i64 at_,.int .i64 text.size,.string t.name,.int .i64 st.length,.string ⟨#[]⟩] 70)).heap.size:=by rw[World.size_alloc];have:=ju.out.lZ.size;omega
        have fk:=aa (λ(v':Value) (W4:World) (hr:W4.ownsRow w.heap.size 70 5 v' (pre.length+1) (pre.flatMap Sp.cells++[.int .i64 at_,.int .i64 text.size,.string t.name,.int .i64 st.length,.string ⟨#[]⟩])) (hg:(wr.alloc (.cells #[.int .i64 at_,.int .i64 text.size,.string t.name,.int .i64 st.length,.string ⟨#[]⟩] 70)).grownBy W4 (Value.slice oC pre.length pn).ownBlock)=>show FY G text.data.toList st0 w (.returned (.tuple #[v',.slice (some ⟨sb,0,none⟩) st.length fL])) W4 from by
         obtain ⟨a1,a2,a3,_⟩:=ju.out.app (x:=⟨at_,text.size,t.name,st.length,⟨#[]⟩⟩) hr hg;refine ⟨v',_,sb,st,fL,rfl,.inr ⟨at_,pre,top,s,ju.out.path,by rw[aj];exact hlt,by rw[<-uv.out];exact Db.out,HS.out,HLE.out.no xT.out (by rw[aj];omega) iw,rfl⟩,?_,a1,N9,a3⟩;rw[aj,jm.out];exact a2)
        clear HLE xT FZ ju
        go_wp2_with (at_builtin;go_loud (refine wpList_append_own_at _ rfl (.tmp 93) (.tmp 104) 64 rfl w.heap.size 70 i0 (.agg #[.int .i64 0,.int .i64 0,.string ⟨#[]⟩,.int .i64 0,.string ⟨#[]⟩]) 5 56 Tryz.underlying64 hi hz0 hz1 hz3 rfl (by decide) (.slice oC pre.length pn) pre.length (pre.flatMap Sp.cells) (by rfl) bj.out ⟨wr.heap.size,0,none⟩ 1 1 [.int .i64 at_,.int .i64 text.size,.string t.name,.int .i64 st.length,.string ⟨#[]⟩] (by rfl) rfl ey.out (by simp[Value.oneCell']) (by unfold maxLen;omega) (by omega) hbase ?_;intro v' W4 hown hg _ _;have aq:=aa (fk.out v' W4 hown hg);obtain ⟨g',cap',rfl⟩:=aB hown (by omega);clear hown hg fk bj ey))
        go_wp2_with fail;go_ret2;exact aq.out
       ·obtain ⟨kx,p,ex,r,h1,h2,h3,Mb,Dc⟩:=HLE.out.hit (λr hr=>(zP.out s (bn HS.out) r hr).1) xT.out (by omega);subst h1 h2 h3;have e8:decide ((kx:Int)<0)=false:=bV (by omega);obtain ⟨q,hq⟩:∃q,t.rs[kx]?=some q:=⟨_,cB (by rw[od];exact az Mb)⟩;obtain ⟨_,hqk,hqc,hqo⟩:=XW.out kx r q Mb hq
        have ab2:=Dc.gt (zP.out s (bn HS.out) r (bn Mb)).1;rw[aj]at ab2;have adB:=Dc.le;have Z0:=aa (xT.out.ok (at':=ex) (by omega));have Z1:=aa Dc;have Od:=aa ju.out.path;have MV:=aa ju.out.good;have HQ:=aa hq;have HRK:=aa Mb;have HQO:=aa hqo;clear HLE xT Dc hq Mb hqo;go_upto_if 109 with fail
        go_cut [8] from 107 to 174 (λvl wc=>AA w st sb (pre++ig at_ p s.nm st.length) hb rU vl wc)
        case first=>
         by_cases EH:at_<p
         ·have e9:decide ((at_:Int)<(p:Int))=true:=cF (by omega);have n1:=((Jw.out.below ju.out.lZ).ia.at HT.out).1;obtain ⟨i0,hi,hz0,hz1,hz3⟩:=info_parts fc;have hpl:pre.length<=6000:=by have:=ju.out.path.short zP.out;omega
          have bj:=aa (show (wr.alloc (.cells #[.int .i64 at_,.int .i64 p,.string t.name,.int .i64 st.length,.string ⟨#[]⟩] 70)).ownsRow w.heap.size 70 5 (.slice oC pre.length pn) pre.length (pre.flatMap Sp.cells) from aI ju.out.row λk hk=>by obtain ⟨_,c,hc⟩:=ar ju.out.row hk;exact (cq _ _).block k (ae hc))
          have ey:=aa (λ(y:Nat) u (h:([.int .i64 at_,.int .i64 p,.string t.name,.int .i64 st.length,.string ⟨#[]⟩]:List Value)[y]?=some u)=>show (wr.alloc (.cells #[.int .i64 at_,.int .i64 p,.string t.name,.int .i64 st.length,.string ⟨#[]⟩] 70)).cell? ((⟨wr.heap.size,0,none⟩:Addr).add y)=some u from aG wr #[.int .i64 at_,.int .i64 p,.string t.name,.int .i64 st.length,.string ⟨#[]⟩] _ y u h)
          have hbase:w.heap.size<=(wr.alloc (.cells #[.int .i64 at_,.int .i64 p,.string t.name,.int .i64 st.length,.string ⟨#[]⟩] 70)).heap.size:=by rw[World.size_alloc];have:=ju.out.lZ.size;omega
          have fk:=aa (λ(v':Value) (W4:World) (hr:W4.ownsRow w.heap.size 70 5 v' (pre.length+1) (pre.flatMap Sp.cells++[.int .i64 at_,.int .i64 p,.string t.name,.int .i64 st.length,.string ⟨#[]⟩])) (hg:(wr.alloc (.cells #[.int .i64 at_,.int .i64 p,.string t.name,.int .i64 st.length,.string ⟨#[]⟩] 70)).grownBy W4 (Value.slice oC pre.length pn).ownBlock)=>show AA w st sb (pre++ig at_ p s.nm st.length) hb rU v' W4 from by
           obtain ⟨a1,a2,a3,a4⟩:=ju.out.app (x:=⟨at_,p,t.name,st.length,⟨#[]⟩⟩) hr hg;rw[ig,if_pos EH,jm.out];obtain ⟨pW,c',hv'⟩:=aC a2;exact ⟨pW,c',hv',a1,a2,a3,a4 _ _ FZ.out⟩)
          clear FZ ju
          go_wp2_with (at_builtin;go_loud (refine wpList_append_own_at _ rfl (.tmp 110) (.tmp 120) 64 rfl w.heap.size 70 i0 (.agg #[.int .i64 0,.int .i64 0,.string ⟨#[]⟩,.int .i64 0,.string ⟨#[]⟩]) 5 56 Tryz.underlying64 hi hz0 hz1 hz3 rfl (by decide) (.slice oC pre.length pn) pre.length (pre.flatMap Sp.cells) (by rfl) bj.out ⟨wr.heap.size,0,none⟩ 1 1 [.int .i64 at_,.int .i64 p,.string t.name,.int .i64 st.length,.string ⟨#[]⟩] (by rfl) rfl ey.out (by simp[Value.oneCell']) (by unfold maxLen;omega) (by omega) hbase ?_;intro v' W4 hown hg _ _;have aq:=aa (fk.out v' W4 hown hg);obtain ⟨g',cap',rfl⟩:=aB hown (by omega);clear hown hg fk bj ey))
          go_wp2_with fail;go_meet
          case rel=>exact aq.out
         ·have e9:decide ((at_:Int)<(p:Int))=false:=bV (by omega);have T8:=aa (show AA w st sb (pre++ig at_ p s.nm st.length) hb rU (.slice oC pre.length pn) wr from by rw[ig,if_neg EH,List.append_nil];exact ⟨oC,pn,rfl,ju.out.ints,ju.out.row,ju.out.lZ,FZ.out⟩);clear FZ ju;go_wp2_with fail;go_meet
          case rel=>exact T8.out
        case rest=>
         obtain ⟨Kg,Kh,rfl,kA,F5,hbl,hha⟩:=hcut;have BM:=Jw.out.below hbl;obtain ⟨n1,n2,_,_⟩:=BM.ia.at HT.out
         obtain ⟨rg,rn,lM,nB,hrn⟩:∃rg rn lM,t.rv=.slice (some ⟨rg,0,none⟩) rn lM/\rn=t.rs.length:=by obtain ⟨Z2,lM,h1,h2⟩:=BM.ia.rules (bn HT.out);obtain ⟨rg,h3⟩:=h2 (by have:=az HQ.out;omega);exact ⟨rg,_,lM,by rw[h1,h3],rfl⟩
         have ZX:kx<rn:=by rw[hrn];exact az HQ.out
         obtain ⟨PP,PB,cM,ab3,Z3,_,_⟩:=IK (BM.iB t (bn HT.out) q (bn HQ.out)) (XW.out kx r q HRK.out HQ.out).1;have x0:=(BM.ia.rule (bn HT.out) nB HQ.out 0 (by omega) (u:=.string q.a) rfl).1;have x1:=(BM.ia.rule (bn HT.out) nB HQ.out 1 (by omega) (u:=.string q.b) rfl).1
         have x2:=(BM.ia.rule (bn HT.out) nB HQ.out 2 (by omega) (u:=.string q.c) rfl).1;have x3:=(BM.ia.rule (bn HT.out) nB HQ.out 3 (by omega) (u:=.string q.p) rfl).1;have x4:=(BM.ia.rule (bn HT.out) nB HQ.out 4 (by omega) (u:=.pointer (some ⟨PP,0,none⟩)) (by rw[<-Z3];rfl)).1
         have x5:=(BM.ia.rule (bn HT.out) nB HQ.out 5 (by omega) (u:=.int .i64 q.at_) rfl).1;rw[Nat.add_zero]at x0;rw[nB]at n2;obtain ⟨w6,Ib⟩:∃w6,wc.alloc (.cells #[.string q.a,.string q.b,.string q.c,.string q.p,.pointer (some ⟨PP,0,none⟩),.int .i64 q.at_] 128)=w6:=⟨_,rfl⟩
         have Ic:Below wc.heap.size wc w6:=by rw[<-Ib];exact cq _ _
         have Qs:w6.heap[wc.heap.size]?=some (.cells #[.string q.a,.string q.b,.string q.c,.string q.p,.pointer (some ⟨PP,0,none⟩),.int .i64 q.at_] 128 (0,0)):=by rw[<-Ib];exact ag _ _
         have n6:=ax n1 Ic;have y2:w6.cell? ⟨wc.heap.size,2,none⟩=some (.string q.c):=ai Qs rfl
         have XX:=aa (show AA w st sb (pre++ig at_ p s.nm st.length) hb rU (.slice Kg (pre++ig at_ p s.nm st.length).length Kh) w6 from ⟨Kg,Kh,rfl,kA.below Ic,aI F5 λk hk=>by obtain ⟨_,c,hc⟩:=ar F5 hk;exact Ic.block k (ae hc),hbl.trans (Ic.mono hbl.size),(Ic.block _ (ae hha)).trans hha⟩);have HQ6:=aa Qs
         obtain ⟨npre,Oe⟩:∃npre,npre=(pre++ig at_ p s.nm st.length).length:=⟨_,rfl⟩;rw[<-Oe]at XX ⊢;have QJ:=aa Oe;clear kA F5 hbl hha BM Ic Qs Oe nB Z3
         go_wp2_with (refine wpList_store_row rfl _ _ _ rfl _ #[.string q.a,.string q.b,.string q.c,.string q.p,.pointer (some ⟨PP,0,none⟩),.int .i64 q.at_] rfl rfl 128 _ (aD _ _ _ rfl) rfl rfl (by simp[Value.oneCell']) ?_;rw[et _ _ _ _ _ rfl]);obtain ⟨rb,Ez⟩:∃rb,rb=wc.heap.size:=⟨_,rfl⟩;rw[<-Ez]at y2 HQ6 ⊢;clear Ez Ib x0 x1 x2 x3 x4 x5 n1 n2
         obtain ⟨i0,hi,hz0,hz1,hz3⟩:=info_parts fc;have XY:npre<=6001:=by have h1:=Od.out.short zP.out;have h2:=pC at_ p s.nm st.length;rw[QJ.out,dG];omega
         go_cut [8] from 129 to 174 (λvl wd=>AA w st sb ((pre++ig at_ p s.nm st.length)++[⟨p,ex,s.nm,st.length,r.co⟩]) hb rU vl wd/\wd.heap[rb]?=some (.cells #[.string q.a,.string q.b,.string q.c,.string q.p,.pointer (some ⟨PP,0,none⟩),.int .i64 q.at_] 128 (0,0)))
         case first=>
          have bj:=aa (show (w6.alloc (.cells #[.int .i64 p,.int .i64 ex,.string t.name,.int .i64 st.length,.string q.c] 70)).ownsRow w.heap.size 70 5 (.slice Kg npre Kh) npre ((pre++ig at_ p s.nm st.length).flatMap Sp.cells) from by
           obtain ⟨_,_,_,_,h3,_,_⟩:=XX.out;have h4:w6.ownsRow w.heap.size 70 5 (.slice Kg npre Kh) npre ((pre++ig at_ p s.nm st.length).flatMap Sp.cells):=by have h5:=h3;unfold ck at h5;rw[<-QJ.out]at h5;exact h5
           exact aI h4 λk hk=>by obtain ⟨_,c,hc⟩:=ar h4 hk;exact (cq _ _).block k (ae hc))
          have ey:=aa (λ(y:Nat) u (h:([.int .i64 p,.int .i64 ex,.string t.name,.int .i64 st.length,.string q.c]:List Value)[y]?=some u)=>show (w6.alloc (.cells #[.int .i64 p,.int .i64 ex,.string t.name,.int .i64 st.length,.string q.c] 70)).cell? ((⟨w6.heap.size,0,none⟩:Addr).add y)=some u from aG w6 #[.int .i64 p,.int .i64 ex,.string t.name,.int .i64 st.length,.string q.c] _ y u h)
          have hbase:w.heap.size<=(w6.alloc (.cells #[.int .i64 p,.int .i64 ex,.string t.name,.int .i64 st.length,.string q.c] 70)).heap.size:=by rw[World.size_alloc];obtain ⟨_,_,_,_,_,h4,_⟩:=XX.out;have:=h4.size;omega
          have fk:=aa (λ(v':Value) (W4:World) (hr:W4.ownsRow w.heap.size 70 5 v' (npre+1) ((pre++ig at_ p s.nm st.length).flatMap Sp.cells++[.int .i64 p,.int .i64 ex,.string t.name,.int .i64 st.length,.string q.c])) (hg:(w6.alloc (.cells #[.int .i64 p,.int .i64 ex,.string t.name,.int .i64 st.length,.string q.c] 70)).grownBy W4 (Value.slice Kg npre Kh).ownBlock)=>show AA w st sb ((pre++ig at_ p s.nm st.length)++[⟨p,ex,s.nm,st.length,r.co⟩]) hb rU v' W4/\W4.heap[rb]?=some (.cells #[.string q.a,.string q.b,.string q.c,.string q.p,.pointer (some ⟨PP,0,none⟩),.int .i64 q.at_] 128 (0,0)) from by
           obtain ⟨a1,a2⟩:=XX.out.app (x:=⟨p,ex,t.name,st.length,q.c⟩) (by rw[<-QJ.out];exact hr) hg;rw[<-jm.out,<-hqc]at a1;exact ⟨a1,a2 _ _ HQ6.out (λc=>by simp)⟩)
          have n7:=aw n6;have y7:=aw y2;clear XX HQ6
          go_region_law (refine cY rfl (.tmp 129) (.tmp 141) 64 rfl w.heap.size 70 i0 (.agg #[.int .i64 0,.int .i64 0,.string ⟨#[]⟩,.int .i64 0,.string ⟨#[]⟩]) 5 56 Tryz.underlying64 hi hz0 hz1 hz3 rfl (by decide) (.slice Kg npre Kh) npre ((pre++ig at_ p s.nm st.length).flatMap Sp.cells) (by rfl) (by exact bj.out) ⟨w6.heap.size,0,none⟩ 1 1 [.int .i64 p,.int .i64 ex,.string t.name,.int .i64 st.length,.string q.c] (by rfl) (by rfl) (by exact ey.out) (by simp[Value.oneCell']) (by unfold maxLen;omega) (by omega) (by exact hbase) ?_;intro v' W4 hown hg _;have aq:=aa (fk.out v' W4 hown ⟨hg.os,hg.tape,hg.output,hg.size,hg.block⟩);obtain ⟨g',cap',rfl⟩:=aB hown (by omega);clear hown hg)
          all_goals
           go_wp2_with fail;go_meet;exact aq.out
         case rest=>
          obtain ⟨⟨R6,R7,rfl,kA,F5,hbl,hha⟩,CC⟩:=hcut;obtain ⟨w7,hw7⟩:∃w7,w7=wc:=⟨_,rfl⟩;rw[<-hw7]at kA F5 hbl hha CC ⊢;clear hw7;have hwd:=Jw.out.ia.words t (bn HT.out) q (bn HQ.out);have VX:=qB hwd.2;have z0:w7.cell? ⟨rb,0,none⟩=some (.string q.a):=ai CC rfl
          have z1:w7.cell? ⟨rb,1,none⟩=some (.string q.b):=ai CC rfl;obtain ⟨n3,T9⟩:∃n3,n3=((pre++ig at_ p s.nm st.length)++[(⟨p,ex,s.nm,st.length,r.co⟩:Sp)]).length:=⟨_,rfl⟩;rw[<-T9]at F5 ⊢
          have Og:Path G text.data.toList st0 ex (nM r.k r.op st) ((pre++ig at_ p s.nm st.length)++[⟨p,ex,s.nm,st.length,r.co⟩]):=Path.hit Od.out (by rw[aj];exact hlt) (by rw[<-uv.out];exact Db.out) HS.out Z1.out;have Oh:Good G (nM r.k r.op st):=MV.out.nM (λhk=>(zP.out s (bn HS.out) r (bn HRK.out)).2 hk)
          have ll:=aa (λ(zN zO:Nat) (W:World) (h1:(nM r.k r.op st).length<=zO) (h2:cX W zN (nM r.k r.op st)) (h3:ck W w.heap.size (.slice R6 n3 R7) ((pre++ig at_ p s.nm st.length)++[⟨p,ex,s.nm,st.length,r.co⟩])) (h4:Below w.heap.size w W) (h5:cZ W hb rU)=>show FX w G text st0 (text.size - ex) (.slice (some ⟨zN,0,none⟩) (nM r.k r.op st).length zO) (.slice R6 n3 R7) (.int .i64 ex) (.int .i64 top) (.slice (some ⟨hb,0,none⟩) s.rs.length s.rs.length) W from
           ⟨ex,nM r.k r.op st,_,zN,zO,R6,R7,rfl,by rw[T9],rfl,by omega,h1,⟨Og,Oh,h2,by rw[<-T9];exact h3,h4⟩,.inr ⟨top,hb,s,rU,rfl,HS.out,rfl,hhb,h5,Z0.out⟩⟩)
          have HQ3:=aa CC;have kE:=aa kA;have R8:=aa F5;have jT:=aa hbl;have II:=aa hha;clear kA F5 hbl hha CC Og Oh Z1 Od Z0 T9 XX HQ6 QJ y2 n6;rw[hqk]at ll;obtain ⟨dd,hdd⟩:∃dd,dd=q.d:=⟨_,rfl⟩;rw[<-hdd]at ll hwd VX;have HDD:=aa hdd;clear hdd hqk;by_cases hd1:dd=1
          ·subst hd1;have AE:q.a=(⟨#[112,117,115,104]⟩:ByteArray):=VX;rw[AE]at z0;have HQA:=aa AE;clear VX AE hwd;by_cases Z4:st.length<8
           ·have e10:decide ((st.length:Int)<8)=true:=cF (by omega);have ha:nM 1 r.op st=st++[r.op]:=by unfold nM;rw[if_pos ⟨rfl,Z4⟩]
            rw[ha]at ll;obtain ⟨i1,yv,hy0,Xx,hy3⟩:=info_parts lX;obtain ⟨VY,jo,qC,Ua⟩:=HQO.out HDD.out.symm
            have ey:=aa (λ(y:Nat) u (h:(st.map λx:Nat=>Value.int .i64 (x:Int))[y]?=some u)=>show w7.cell? ((⟨sb,0,none⟩:Addr).add y)=some u from by
             rw[fX]at h
             cases hy:st[y]? with
             | none=>rw[hy]at h;cases h
             | some x=>
              rw[hy]at h;cases h;have hcell:=kE.out.cell hy;by_cases h0:y=0
              ·subst h0;simpa [Addr.add] using hcell
              ·simpa [Addr.add,h0] using hcell)
            have VZ:w.heap.size<=w7.heap.size:=jT.out.size
            have Z5:=aa (λ(v1:Value) (W1:World) (hg:w7.grownBy W1 (Value.slice none 0 0).ownBlock)=>show W1.cell? ⟨rb,1,none⟩=some (.string q.b)/\Below w7.heap.size w7 W1/\Calls Tryz.prog 86 #[.pointer (some ⟨P,0,none⟩),.string q.b] W1 (λe w'=>e=.returned (.int .i64 r.op)/\w'=W1) from by
             have hb1:Below w7.heap.size w7 W1:=⟨hg.os,hg.tape,hg.output,hg.size,λk hk=>hg.block k hk (by simp[Value.ownBlock])⟩;have uu:=Jw.out.below (jT.out.trans (hb1.mono jT.out.size));refine ⟨ax z1 hb1,hb1,(su B P _ ss q.b W1 uu.ia (by have:=uu.few.1;omega)).mono ?_⟩;rintro e w' ⟨h1,(⟨i,t2,rfl,h2,h3,h4⟩|⟨rfl,h2⟩)⟩
             ·have hio:i=r.op:=by
               rcases Nat.lt_trichotomy i r.op with h|h|h
               ·exact absurd h3 (Ua i t2 h h2)
               ·exact h
               ·exact absurd qC (h4 r.op VY h jo)
              subst hio;exact ⟨rfl,h1⟩
             ·exact absurd qC (h2 VY (bn jo)))
            clear jo qC Ua VY
            go_wp2_with (at_builtin;go_loud (refine wpList_append_own_at _ rfl (.tmp 151) (.tmp 152) 57 rfl w.heap.size 3 i1 (.int .i64 0) 1 8 Tryz.underlying57 yv hy0 Xx hy3 rfl (by decide) (.slice none 0 0) 0 [] (by rfl) (World.ownsRow_nil _ _ _ _) ⟨sb,0,none⟩ st.length fL (st.map λx:Nat=>Value.int .i64 (x:Int)) (by rfl) (by simp) ey.out (by intro u hu;obtain ⟨x,_,rfl⟩:=List.mem_map.1 hu;rfl) (by unfold maxLen;omega) (by omega) VZ ?_;intro v1 W1 hown1 hg1 _ _;rw[Nat.zero_add,List.nil_append]at hown1;obtain ⟨zz1,hb1,XZ⟩:=Z5.out v1 W1 hg1;have eZ:=aa hown1;have bM:=aa hb1;have xu:=aa XZ;obtain ⟨g1,oh,rfl⟩:=aB hown1 (by omega);clear hown1 hg1 hb1 XZ Z5))
            refine xu.out.mono ?_;rintro e8 w8 ⟨rfl,h8⟩;obtain ⟨w9,UN⟩:∃w9,w9=w8:=⟨_,rfl⟩;rw[<-h8]at eZ bM;rw[<-UN]at eZ bM ⊢;clear xu zz1 h8 UN
            have kp:=aa (show (w9.alloc (.cells #[.int .i64 r.op] 3)).ownsRow w.heap.size 3 1 (.slice (some ⟨g1,0,none⟩) st.length oh) st.length (st.map λx:Nat=>Value.int .i64 (x:Int)) from aI eZ.out λk hk=>by obtain ⟨_,c,hc⟩:=ar eZ.out hk;exact (cq _ _).block k (ae hc))
            have Z6:=aa (λ(y:Nat) u (h:([.int .i64 r.op]:List Value)[y]?=some u)=>show (w9.alloc (.cells #[.int .i64 r.op] 3)).cell? ((⟨w9.heap.size,0,none⟩:Addr).add y)=some u from aG w9 #[.int .i64 r.op] _ y u h);have E3:w.heap.size<=(w9.alloc (.cells #[.int .i64 r.op] 3)).heap.size:=by rw[World.size_alloc];have:=bM.out.size;omega
            have fk:=aa (λ(v2:Value) (W2:World) (hr:W2.ownsRow w.heap.size 3 1 v2 (st.length+1) ((st.map λx:Nat=>Value.int .i64 (x:Int))++[.int .i64 r.op])) (hg:(w9.alloc (.cells #[.int .i64 r.op] 3)).grownBy W2 (Value.slice (some ⟨g1,0,none⟩) st.length oh).ownBlock)=>show FX w G text st0 (text.size - ex) v2 (.slice R6 n3 R7) (.int .i64 ex) (.int .i64 top) (.slice (some ⟨hb,0,none⟩) s.rs.length s.rs.length) W2 from by
             have Mc:Below w7.heap.size w7 (w9.alloc (.cells #[.int .i64 r.op] 3)):=bM.out.alloc bM.out.size _;have o2:aM (λk=>k=g1) (w9.alloc (.cells #[.int .i64 r.op] 3)) W2:=(aM.gY kp.out (by decide) hg).sub λk _ e=>by cases e;rfl
             obtain ⟨adC,c1,hc1⟩:=ar kp.out (k:=g1) rfl;have key:∀(k:Nat) o,w7.heap[k]?=some o->(∀c,o≠.cells c 3 (0,0))->W2.heap[k]?=some o:=λk o hk hne=>by have h9:=(Mc.block k (ae hk)).trans hk;refine o2.same h9 (λe=>?_);rw[e,hc1]at h9;cases h9;exact hne _ rfl
             obtain ⟨g2,rI,hv2⟩:=aB hr (by omega);subst hv2;rw[show (st.map λx:Nat=>Value.int .i64 (x:Int))++[.int .i64 r.op]=(st++[r.op]).map λx:Nat=>Value.int .i64 (x:Int) by simp]at hr;obtain ⟨hints,Z7⟩:=N8 hr;have hlen:(st++[r.op]).length=st.length+1:=by simp
             have:=ll.out g2 rI W2 (by rw[hlen];exact Z7) hints (aI R8.out λk hk=>by obtain ⟨_,c,hc⟩:=ar R8.out hk;rw[hc];exact key k _ hc (λc=>by simp)) (jT.out.trans ((Mc.mono jT.out.size).trans ⟨o2.os,o2.tape,o2.output,o2.size,λk hk=>o2.keep k ⟨by omega,by omega⟩⟩)) (key _ _ II.out (λc=>by simp));rw[hlen]at this;exact this)
            have HZZ:=aa (λ(W2:World) (hg:(w9.alloc (.cells #[.int .i64 r.op] 3)).grownBy W2 (Value.slice (some ⟨g1,0,none⟩) st.length oh).ownBlock)=>show W2.cell? ⟨rb,0,none⟩=some (.string (⟨#[112,117,115,104]⟩:ByteArray)) from by
             have Mc:Below w7.heap.size w7 (w9.alloc (.cells #[.int .i64 r.op] 3)):=bM.out.alloc bM.out.size _;have h9:=(Mc.block rb (ae HQ3.out)).trans HQ3.out;obtain ⟨_,c1,hc1⟩:=ar kp.out (k:=g1) rfl
             have h2:=(hg.block rb (ae h9) (λe=>by
              have e':rb=g1:=by simpa [Value.ownBlock] using e
              rw[e',hc1]at h9;simp at h9)).trans h9
             have:=ai (j:=0) h2 (v:=.string q.a) rfl;rw[HQA.out]at this;exact this)
            clear ll
            go_wp2_with (at_builtin;go_loud (refine wpList_append_own_at _ rfl (.tmp 154) (.tmp 159) 57 rfl w.heap.size 3 i1 (.int .i64 0) 1 8 Tryz.underlying57 yv hy0 Xx hy3 rfl (by decide) (.slice (some ⟨g1,0,none⟩) st.length oh) st.length (st.map λx:Nat=>Value.int .i64 (x:Int)) (by rfl) kp.out ⟨w9.heap.size,0,none⟩ 1 1 [.int .i64 r.op] (by rfl) rfl Z6.out (by simp[Value.oneCell']) (by unfold maxLen;omega) (by omega) E3 ?_;intro v2 W2 hown2 hg2 _ _;have HST:=aa (fk.out v2 W2 hown2 hg2);have zz0:=(HZZ.out W2 hg2);obtain ⟨g2,rI,rfl⟩:=aB hown2 (by omega);clear hown2 hg2 fk kp Z6))
            go_wp2_with fail;go_roundg (text.size - ex)
            case measure=>omega
            case rel=>exact HST.out
           ·have e10:decide ((st.length:Int)<8)=false:=bV (by omega);have ha:nM 1 r.op st=st:=by unfold nM;rw[if_neg (by omega),if_neg (by omega)]
            have HST:=aa (ll.out sb fL w7 (by rw[ha];exact N9) (by rw[ha];exact kE.out) R8.out jT.out II.out);rw[ha]at HST;clear ll;go_wp2_with fail;go_roundg (text.size - ex)
            case measure=>omega
            case rel=>exact HST.out
          ·by_cases hd2:dd=2
           ·subst hd2;have AE:q.a=(⟨#[112,111,112]⟩:ByteArray):=VX;rw[AE]at z0;clear VX AE hwd hd1;by_cases Z8:1<st.length
            ·have e10:decide ((1:Int)<(st.length:Int))=true:=cF (by omega);have ha:nM 2 r.op st=st.dropLast:=by unfold nM;rw[if_neg (by omega),if_pos ⟨rfl,Z8⟩]
             have xB:st.dropLast.length=sl:=by rw[List.length_dropLast,uv.out]
             have HST:=aa (ll.out sb fL w7 (by rw[ha,xB];omega) (by rw[ha];exact kE.out.sub λj x hj=>by rw[List.getElem?_dropLast]at hj;split at hj;exact hj;cases hj) R8.out jT.out II.out);rw[ha,xB]at HST;have hsc:(sl:Int)<=(fL:Int):=by omega
             clear ll;go_wp2_with fail;go_roundg (text.size - ex)
             case measure=>omega
             case rel=>exact HST.out
            ·have e10:decide ((1:Int)<(st.length:Int))=false:=bV (by omega);have ha:nM 2 r.op st=st:=by unfold nM;rw[if_neg (by omega),if_neg (by omega)]
             have HST:=aa (ll.out sb fL w7 (by rw[ha];exact N9) (by rw[ha];exact kE.out) R8.out jT.out II.out);rw[ha]at HST;clear ll;go_wp2_with fail;go_roundg (text.size - ex)
             case measure=>omega
             case rel=>exact HST.out
           ·have hd0:dd=0:=by omega
            subst hd0;have AE:q.a=(⟨#[116,111,107,101,110]⟩:ByteArray):=VX;rw[AE]at z0;clear VX AE hwd hd1 hd2;have ha:nM 0 r.op st=st:=by unfold nM;rw[if_neg (by omega),if_neg (by omega)]
            have HST:=aa (ll.out sb fL w7 (by rw[ha];exact N9) (by rw[ha];exact kE.out) R8.out jT.out II.out);rw[ha]at HST;clear ll;go_wp2_with fail;go_roundg (text.size - ex)
            case measure=>omega
            case rel=>exact HST.out
  ·have g1:decide ((at_:Int)<(text.size:Int))=false:=bV (by omega);obtain rfl:at_=text.size:=by omega
   have aq:=aa (show FY G text.data.toList st0 w (.returned (.tuple #[.slice oC pre.length pn,.slice (some ⟨sb,0,none⟩) st.length fL])) wr from ⟨_,pre,sb,st,fL,rfl,.inl (by rw[aj];exact EF.path),EF.row,EF.ints,N9,EF.lZ⟩);clear EF ZX;go_wp2_with fail;go_ret2;exact aq.out
end Go.Proofs.YtgncgdkpkkdaeaaGreatDoor
