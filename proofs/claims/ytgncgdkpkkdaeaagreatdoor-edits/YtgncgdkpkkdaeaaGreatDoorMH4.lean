import Derived.Test.YtgncgdkpkkdaeaaGreatDoorMY
import Derived.Test.YtgncgdkpkkdaeaaGreatDoorM1
import Derived.Test.YtgncgdkpkkdaeaaGreatDoorM2
import Derived.Deep.CutRange
import Derived.Deep.RegionHeld3
namespace Go.Proofs.YtgncgdkpkkdaeaaGreatDoor
open Go.RowKit aO Go.Maps
variable {st:List Nat} {pre:List Sp} {b sb:Nat} {o:Obj} {x:Sp} {lv lv':Value} {W W4 w w':World}
structure xF(G:List GS)(ss:List cd):Prop where
 len:G.length=ss.length
 st:∀(i:Nat) s t,G[i]?=some s->ss[i]?=some t->s.nm=t.name/\t.rs.length=s.rs.length/\∀(k:Nat) r q,s.rs[k]?=some r->t.rs[k]?=some q->bh q.p.data.toList (some (r.a.re,[]))/\r.k=q.d/\r.co=q.c/\(q.d=1->∃t',ss[r.op]?=some t'/\t'.name.data.toList=q.b.data.toList/\∀(j:Nat) t'',j<r.op->ss[j]?=some t''->t''.name.data.toList≠q.b.data.toList)
def cN(w:World)(b:Nat)(st:List Nat):Prop:=∃cur fz,w.heap[b]?=some (.cells cur 3 fz)/\∀(j:Nat) x,st[j]?=some x->cur[j]?=some (.int .i64 (x:Nat))
theorem cN.cell(h:cN w b st){j x:Nat}(hj:st[j]?=some x):w.cell? ⟨b,j,none⟩=some (.int .i64 x):=by obtain ⟨cur,fz,h1,h2⟩:=h;exact ag h1 (h2 j x hj)
theorem cN.keep(h:cN w b st)(hk:∀c fz,w.heap[b]?=some (.cells c 3 fz)->w'.heap[b]?=some (.cells c 3 fz)):cN w' b st:=by obtain ⟨cur,fz,h1,h2⟩:=h;exact ⟨cur,fz,hk _ _ h1,h2⟩
theorem cN.below(h:cN w b st)(hb:Below w.heap.size w w'):cN w' b st:=h.keep λ_ _ hh=>(hb.block _ (ae hh)).trans hh
theorem cN.sub{st':List Nat}(h:cN w b st)(hs:∀(j:Nat) x,st'[j]?=some x->st[j]?=some x):cN w b st':=by obtain ⟨cur,fz,h1,h2⟩:=h;exact ⟨cur,fz,h1,λj x hj=>h2 j x (hs j x hj)⟩
theorem Nc{B g n cap:Nat}(h:w.ownsRow B 3 1 (.slice (some ⟨g,0,none⟩) n cap) n (st.map λx:Nat=>Value.int .i64 (x:Int))):cN w g st/\n<=cap:=by
 rcases h.2 with ⟨h0,_⟩|⟨g',cap',cur,h1,_,h3,h4,_,_,h6⟩
 ·cases h0
 ·cases h1;refine ⟨⟨cur,_,h3,λj x hj=>?_⟩,h4⟩;have hl:=h.1;rw[List.length_map]at hl;have Pw:j<n*1:=by have:=aw hj;omega
  have h7:(cur.toList.take (n*1))[j]?=some (.int .i64 (x:Int)):=by rw[h6,List.getElem?_map,hj];rfl
  rw[List.getElem?_take_of_lt Pw]at h7;simpa using h7
structure Xa(w:World)(G:List GS)(T:List UInt8)(st0:List Nat)(at_:Nat)(st:List Nat)(pre:List Sp)(sb:Nat)(lv:Value)(W:World):Prop where
 path:Path G T st0 at_ st pre
 good:Good G st
 ints:cN W sb st
 row:bV W w.heap.size lv pre
 lh:Below w.heap.size w W
theorem Xa.app{G:List GS}{T:List UInt8}{st0:List Nat}{at_:Nat}(h:Xa w G T st0 at_ st pre sb lv W)(hrow:W4.ownsRow w.heap.size 70 5 lv' (pre.length+1) (pre.flatMap Sp.cells++x.cells))(hg:(W.alloc o).grownBy W4 lv.ownBlock):
  cN W4 sb st/\bV W4 w.heap.size lv' (pre++[x])/\Below w.heap.size w W4/\∀hb hs,cg W hb hs->cg W4 hb hs:=by
 have hb:Below W.heap.size W (W.alloc o):=(Below.refl _ _).alloc (Nat.le_refl _) _;have hr2:bV (W.alloc o) w.heap.size lv pre:=aG h.row λk hk=>by obtain ⟨_,c,hc⟩:=aj h.row hk;exact hb.block k (ae hc)
 have o1:aK (λk=>lv.ownBlock=some k) W W4:=(aK.au hb).trans (aK.gA hr2 (by decide) hg);have xE:∀k,lv.ownBlock=some k->w.heap.size<=k/\∃c,W.heap[k]?=some (.cells c 70 (0,0)):=λk hk=>aj h.row hk
 refine ⟨h.ints.keep λc fz hh=>o1.same hh (λe=>?_),bV.snoc hrow,h.lh.trans ⟨o1.os,o1.tape,o1.output,o1.size,λk hk=>o1.keep k ⟨Nat.lt_of_lt_of_le hk h.lh.size,λe=>by have:=(xE k e).1;omega⟩⟩,λhb' hs hh=>o1.same hh (λe=>?_)⟩
 ·obtain ⟨_,c',hc'⟩:=xE _ e;rw[hh]at hc';simp at hc'
 ·obtain ⟨_,c',hc'⟩:=xE _ e;unfold cg at hh;rw[hh]at hc';simp at hc'
def zF(w:World)(st:List Nat)(sb:Nat)(pre:List Sp)(hb:Nat)(hs:List (Int×Int))(vl:Value)(W:World):Prop:=
 ∃nH oy,vl=.slice nH pre.length oy/\cN W sb st/\bV W w.heap.size vl pre/\Below w.heap.size w W/\cg W hb hs
theorem zF.app{hb:Nat}{hs:List (Int×Int)}(h:zF w st sb pre hb hs lv W)(hrow:W4.ownsRow w.heap.size 70 5 lv' (pre.length+1) (pre.flatMap Sp.cells++x.cells))(hg:(W.alloc o).grownBy W4 lv.ownBlock):
  zF w st sb (pre++[x]) hb hs lv' W4/\∀(k:Nat) o',W.heap[k]?=some o'->(∀c,o'≠.cells c 70 (0,0))->W4.heap[k]?=some o':=by
 obtain ⟨nH,oy,h1,h2,h3,h4,h5⟩:=h;have tE:Below W.heap.size W (W.alloc o):=(Below.refl _ _).alloc (Nat.le_refl _) _;have hr2:bV (W.alloc o) w.heap.size lv pre:=aG h3 λk hk=>by obtain ⟨_,c,hc⟩:=aj h3 hk;exact tE.block k (ae hc)
 have o1:aK (λk=>lv.ownBlock=some k) W W4:=(aK.au tE).trans (aK.gA hr2 (by decide) hg);have key:∀(k:Nat) o',W.heap[k]?=some o'->(∀c,o'≠.cells c 70 (0,0))->W4.heap[k]?=some o':=λk o' hk hne=>o1.same hk (λe=>by obtain ⟨_,c,hc⟩:=aj h3 e;rw[hk]at hc;cases hc;exact hne _ rfl)
 have Lh:bV W4 w.heap.size lv' (pre++[x]):=bV.snoc hrow;obtain ⟨px,c',hv'⟩:=aC Lh;refine ⟨⟨px,c',hv',h2.keep λc fz hh=>key _ _ hh (λc'=>by simp),Lh,h4.trans ⟨o1.os,o1.tape,o1.output,o1.size,λk hk=>o1.keep k ⟨Nat.lt_of_lt_of_le hk h4.size,λe=>by have:=(aj h3 e).1;omega⟩⟩,key _ _ h5 (λc=>by simp)⟩,key⟩
def KnJ(w:World)(G:List GS)(T:List UInt8)(at_:Nat)(was hv:Value)(W:World):Prop:=
 (was=.int .i64 (-1)/\hv=.slice none 0 0)∨∃(i hb:Nat) (s:GS) (hs:List (Int×Int)),was=.int .i64 i/\G[i]?=some s/\hv=.slice (some ⟨hb,0,none⟩) s.rs.length s.rs.length/\w.heap.size<=hb/\cg W hb hs/\oG s.rs T at_ hs
def HtJ(w:World)(G:List GS)(T:List UInt8)(st0:List Nat)(at_:Nat)(st:List Nat)(pre:List Sp)(sb:Nat)(lv:Value)(top:Nat)(s:GS)(vw vh:Value)(W:World):Prop:=
 ∃(hb:Nat) (hs:List (Int×Int)),vw=.int .i64 top/\vh=.slice (some ⟨hb,0,none⟩) s.rs.length s.rs.length/\w.heap.size<=hb/\cg W hb hs/\oG s.rs T at_ hs/\Xa w G T st0 at_ st pre sb lv W
def E0(w:World)(G:List GS)(text:ByteArray)(st0:List Nat)(k:Nat)(vs vl va vw vh:Value)(W:World):Prop:=
 ∃(at_:Nat) (st:List Nat) (pre:List Sp) (sb fk:Nat) (nH:Option Addr) (oy:Nat),vs=.slice (some ⟨sb,0,none⟩) st.length fk/\vl=.slice nH pre.length oy/\va=.int .i64 at_/\at_+k=text.size/\st.length<=fk/\Xa w G text.data.toList st0 at_ st pre sb (.slice nH pre.length oy) W/\KnJ w G text.data.toList at_ vw vh W
def E3(G:List GS)(T:List UInt8)(st0:List Nat)(w:World)(e:Ending)(W:World):Prop:=
 ∃lv bc sb st fk,e=.returned (.tuple #[lv,.slice (some ⟨sb,0,none⟩) st.length fk])/\tQ G T st0 bc st/\bV W w.heap.size lv bc/\cN W sb st/\st.length<=fk/\Below w.heap.size w W
set_option maxRecDepth 20000 in
set_option maxHeartbeats 8000000 in
theorem Be(B P g n0 cap:Nat)(ss:List cd)(G:List GS)(text:ByteArray)(st0:List Nat)(sb0 U8:Nat)(w:World)(h:RG w B P g n0 cap ss)(dr:xF G ss)(dZ:xD G)(cq:Good G st0)(hz:text.size<=3000)(hi:cN w sb0 st0)(WE:st0.length<=U8):
  Calls Tryz.prog 64 #[.pointer (some ⟨P,0,none⟩),.string text,.slice (some ⟨sb0,0,none⟩) st0.length U8] w (E3 G text.data.toList st0 w):=by
 have II:=aa h;have Py:=aa dr;have yV:=aa dZ;have HGD:=aa cq;have HI:=aa hi;clear h dr dZ cq hi;go_enter Tryz.func64,Tryz.ntmps64;go_wp2_with fail;go_loopg [2,8,9,10,11] text.size (λk vs vl va vw vh wr=>E0 w G text st0 k vs vl va vw vh wr)
 case atStart=>exact ⟨0,st0,[],sb0,U8,none,0,rfl,rfl,rfl,by omega,WE,⟨.start,HGD.out,HI.out,World.ownsRow_nil _ _ _ _,Below.refl _ _⟩,.inl ⟨rfl,rfl⟩⟩
 case round=>
  obtain ⟨at_,st,pre,sb,fk,nH,oy,rfl,rfl,rfl,hk,Nf,DT,Ze⟩:=hrel;by_cases hlt:at_<text.size
  ·have g1:decide ((at_:Int)<(text.size:Int))=true:=decide_eq_true (by omega);obtain ⟨top,s,Cj,hs⟩:=DT.good.top;have hR:=II.out.below DT.lh;have c0:=hR.gC.eh.1;have d0:=DT.ints.cell Cj;have ac5:=DT.good.1.1;have TS:=DT.good.1.2;have hwr:IntKind.i64.wrap ((st.length:Int) - 1)=((st.length - 1:Nat):Int):=by rw[IntKind.wrap_i64];omega
   obtain ⟨sl,LO⟩:∃sl,sl=st.length - 1:=⟨_,rfl⟩;rw[<-LO]at Cj d0 hwr;have ac6:sl<st.length:=by omega
   have htn:top<n0:=by
    have h1:n0=ss.length:=by obtain ⟨ao,cp,e1,_⟩:=hR.gC.form;cases e1;rfl
    rw[h1,<-Py.out.len];exact aw hs
   have LV:=aa DT;have HKN:=aa Ze;have Ck:=aa Cj;have HS:=aa hs;have tG:=aa LO;clear DT Ze hR Cj hs LO;go_wp2_with fail;go_region_held3 (λw'=>w'.cell? ⟨P,0,none⟩=some (.slice (some ⟨g,0,none⟩) n0 cap)/\w'.cell? ⟨sb,sl,none⟩=some (.int .i64 top)) (go_keep) (fail)
   all_goals
    have Jq:=aa (show Xa w G text.data.toList st0 at_ st pre sb (.slice nH pre.length oy) wr.drew from ⟨LV.out.path,LV.out.good,LV.out.ints.below (Below.refl _ _).drew,LV.out.row,LV.out.lh.trans (Below.refl _ _).drew⟩);obtain ⟨w1,SN⟩:∃w1,w1=wr.drew:=⟨_,rfl⟩;have Ng:=aa (show KnJ w G text.data.toList at_ u10 u11 w1 from by rw[SN];exact HKN.out);rw[<-SN]at Jq ⊢
    clear LV HKN SN c0;dsimp only[Exit.then];refine (by with_reducible assumption:∀(a:Act) (w:World),Code.wp Tryz.prog _ _ a w->(_:Act->World->Prop) a w) _ _ ?_;refine wp_seq_k λK1 Jf=>?_
    have d1:=Jq.out.ints.cell Ck.out;go_cut [10,11] from 34 to 174 (λvw vh wc=>HtJ w G text.data.toList st0 at_ st pre sb (.slice nH pre.length oy) top s vw vh wc)
    case first=>
     obtain ⟨t,ht⟩:∃t,ss[top]?=some t:=⟨_,List.getElem?_eq_getElem (by rw[<-Py.out.len];exact aw HS.out)⟩;have oz:=(Py.out.st top s t HS.out ht).2.1;have Tf:=aa (zG B P g n0 cap ss top t w1 (II.out.below Jq.out.lh) ht);rw[oz]at Tf;by_cases dr:u10=.int .i64 top
     ·subst dr;have e1:((top:Int)==(top:Int))=true:=by simp
      have Tg:=aa (show HtJ w G text.data.toList st0 at_ st pre sb (.slice nH pre.length oy) top s (.int .i64 top) u11 w1 from by
       rcases Ng.out with ⟨h1,_⟩|⟨i,hb,s',hs,h1,h2,h3,h4,h5,h6⟩
       ·simp at h1
       ·have h7:i=top:=by simp at h1;omega
        subst h7;rw[HS.out]at h2;cases h2;exact ⟨hb,hs,rfl,h3,h4,h5,h6,Jq.out⟩)
      clear Ng Tf ht oz;go_wp2_with fail;go_meet
      case rel=>exact Tg.out
     ·obtain ⟨wi,hwi,hne⟩:∃wi:Int,u10=.int .i64 wi/\wi≠top:=by
       rcases Ng.out with ⟨h1,_⟩|⟨i,hb,s',hs,h1,_⟩
       ·exact ⟨-1,h1,by omega⟩
       ·exact ⟨i,h1,λe=>dr (by rw[h1,e])⟩
      subst hwi;have e1:(wi==(top:Int))=false:=by rw[beq_eq_false_iff_ne];exact hne
      have e2:decide (wi=(top:Int))=false:=decide_eq_false hne;clear Ng dr ht oz;go_wp2_with fail;refine Tf.out.mono ?_;rintro e3 w3 ⟨rfl,hh3,hb3⟩
      have Tg:=aa (show HtJ w G text.data.toList st0 at_ st pre sb (.slice nH pre.length oy) top s (.int .i64 top) (.slice (some ⟨w1.heap.size,0,none⟩) s.rs.length s.rs.length) w3 from by
       have hj:=Jq.out;refine ⟨w1.heap.size,_,rfl,rfl,hj.lh.size,hh3,⟨by simp,λi r h h1 h2=>?_⟩,hj.path,hj.good,hj.ints.below hb3,aG hj.row λk hk=>by obtain ⟨_,c,hc⟩:=aj hj.row hk;exact hb3.block k (ae hc),hj.lh.trans (hb3.mono hj.lh.size)⟩;have:=List.mem_of_getElem? h2;rw[(List.mem_replicate.1 this).2];exact .inl rfl)
      clear hh3 hb3 Tf;go_wp2_with fail;go_meet
      case rel=>exact Tg.out
    case rest=>
     obtain ⟨hb,hs,rfl,rfl,hhb,hha,hho,DT⟩:=hcut;obtain ⟨t,ht⟩:∃t,ss[top]?=some t:=⟨_,List.getElem?_eq_getElem (by rw[<-Py.out.len];exact aw HS.out)⟩;obtain ⟨fS,oz,AP⟩:=Py.out.st top s t HS.out ht;have hRc:=II.out.below DT.lh
     have HAG:=aa (Jr B P g n0 cap ss top t s.rs text at_ hb hs wc hRc ht ⟨oz,λk q r h1 h2=>(AP k r q h2 h1).1⟩ (by omega) hz hha hho);have Zf:=aa DT;have HT:=aa ht;have iT:=aa fS;have Xb:=aa AP;have Hd:=aa hha;clear hha hho DT fS AP ht hRc Ng Jq d1;go_wp2_with fail;refine HAG.out.mono ?_;rintro e4 w4 ⟨⟨av,rfl⟩,qX,Zg,Nh,sk⟩
     have iX:=aa (show Xa w G text.data.toList st0 at_ st pre sb (.slice nH pre.length oy) w4 from by
      have hj:=Zf.out;refine ⟨hj.path,hj.good,hj.ints.keep λc fz hh=>sk.same hh (λe=>?_),aG hj.row λk hk=>?_,hj.lh.trans ⟨sk.os,sk.tape,sk.output,sk.size,λk hk=>sk.keep k ⟨Nat.lt_of_lt_of_le hk hj.lh.size,by omega⟩⟩⟩
      ·have h1:=Hd.out;unfold cg at h1;rw[<-e,hh]at h1;simp at h1
      ·obtain ⟨_,c,hc⟩:=aj hj.row hk;rw[hc];refine sk.same hc (λe=>?_);have h1:=Hd.out;unfold cg at h1;rw[<-e,hc]at h1;simp at h1)
     have E4:=aa Zg;have xk:=aa Nh;have abw:qX.length=s.rs.length:=Nh.1;clear Zg Nh sk HAG Zf Hd;obtain ⟨w5,Ep⟩:∃w5,w5=w4:=⟨_,rfl⟩;rw[<-Ep];rw[<-Ep]at iX E4;clear Ep;go_wp2_with fail
     go_loopg [13,14,15,16] s.rs.length (λk vh vf vt vi wx=>wx=w5/\∃(j:Nat) (hit fr tt:Int),vh=.int .i64 hit/\vf=.int .i64 fr/\vt=.int .i64 tt/\vi=.int .i64 j/\j+k=s.rs.length/\fU qX j hit fr tt)
     case atStart=>exact ⟨rfl,0,-1,0,0,rfl,rfl,rfl,rfl,by omega,fU.start _ _ _⟩
     case round=>
      obtain ⟨rfl,j,hit,fr,tt,rfl,rfl,rfl,rfl,hjk,hle⟩:=hrel;by_cases qF:j<s.rs.length
      ·have g5:decide ((j:Int)<(s.rs.length:Int))=true:=decide_eq_true (by omega);obtain ⟨⟨p1,p2⟩,hp⟩:∃p,qX[j]?=some p:=⟨_,List.getElem?_eq_getElem (by rw[abw];exact qF)⟩;obtain ⟨q1,q2,_,_⟩:=E4.out.cell hp;dsimp only at q1 q2;have ac7:IntKind.i64.wrap ((j:Int)+1)=(j:Int)+1:=by have DU:=II.out.few.2 t (List.mem_of_getElem? HT.out);rw[oz]at DU;rw[IntKind.wrap_i64];omega
       by_cases f1:p1<1000000
       ·have e5:decide (p1<1000000)=true:=decide_eq_true f1;by_cases f2:hit<0
        ·have e6:decide (hit<0)=true:=decide_eq_true f2;have E5:=aa (show (fU qX (j+1) (j:Int) p1 p2) from hle.take hp (by omega) (.inl f2));clear hle;go_wp2_with fail;go_roundg (s.rs.length - (j+1))
         case measure=>omega
         case rel=>exact ⟨rfl,j+1,(j:Int),p1,p2,rfl,rfl,rfl,by simp,by omega,E5.out⟩
        ·have e6:decide (hit<0)=false:=decide_eq_false f2;by_cases f3:p1<fr
         ·have e7:decide (p1<fr)=true:=decide_eq_true f3;have E5:=aa (show (fU qX (j+1) (j:Int) p1 p2) from hle.take hp (by omega) (.inr f3));clear hle;go_wp2_with fail;go_roundg (s.rs.length - (j+1))
          case measure=>omega
          case rel=>exact ⟨rfl,j+1,(j:Int),p1,p2,rfl,rfl,rfl,by simp,by omega,E5.out⟩
         ·have e7:decide (p1<fr)=false:=decide_eq_false f3;have E5:=aa (show (fU qX (j+1) hit fr tt) from hle.skip hp (.inr ⟨by omega,by show fr<=p1;omega⟩));clear hle;go_wp2_with fail;go_roundg (s.rs.length - (j+1))
          case measure=>omega
          case rel=>exact ⟨rfl,j+1,hit,fr,tt,rfl,rfl,rfl,by simp,by omega,E5.out⟩
       ·have e5:decide (p1<1000000)=false:=decide_eq_false f1;have E5:=aa (show (fU qX (j+1) hit fr tt) from hle.skip hp (.inl (by show 1000000<=p1;omega)));clear hle;go_wp2_with fail;go_roundg (s.rs.length - (j+1))
        case measure=>omega
        case rel=>exact ⟨rfl,j+1,hit,fr,tt,rfl,rfl,rfl,by simp,by omega,E5.out⟩
      ·have g5:decide ((j:Int)<(s.rs.length:Int))=false:=decide_eq_false (by omega);obtain rfl:j=s.rs.length:=by omega
       have HLE:=aa hle;clear hle;by_cases gR:hit<0
       ·have e8:decide (hit<0)=true:=decide_eq_true gR;have n1:=((II.out.below iX.out.lh).gC.at HT.out).1;obtain ⟨i0,hi,hz0,hz1,hz3⟩:=info_parts eL;have hpl:pre.length<=6000:=by have:=iX.out.path.short yV.out;omega
        have ba:=aa (show (wr.alloc (.cells #[.int .i64 at_,.int .i64 text.size,.string t.name,.int .i64 st.length,.string ⟨#[]⟩] 70)).ownsRow w.heap.size 70 5 (.slice nH pre.length oy) pre.length (pre.flatMap Sp.cells) from aG iX.out.row λk hk=>by obtain ⟨_,c,hc⟩:=aj iX.out.row hk;exact ((Below.refl _ _).alloc (Nat.le_refl _) _).block k (ae hc))
        have ea:=aa (λ(y:Nat) u (h:([.int .i64 at_,.int .i64 text.size,.string t.name,.int .i64 st.length,.string ⟨#[]⟩]:List Value)[y]?=some u)=>show (wr.alloc (.cells #[.int .i64 at_,.int .i64 text.size,.string t.name,.int .i64 st.length,.string ⟨#[]⟩] 70)).cell? ((⟨wr.heap.size,0,none⟩:Addr).add y)=some u from aD wr #[.int .i64 at_,.int .i64 text.size,.string t.name,.int .i64 st.length,.string ⟨#[]⟩] _ y u h)
        have hbase:w.heap.size<=(wr.alloc (.cells #[.int .i64 at_,.int .i64 text.size,.string t.name,.int .i64 st.length,.string ⟨#[]⟩] 70)).heap.size:=by rw[World.size_alloc];have:=iX.out.lh.size;omega
        have eM:=aa (λ(v':Value) (W4:World) (hr:W4.ownsRow w.heap.size 70 5 v' (pre.length+1) (pre.flatMap Sp.cells++[.int .i64 at_,.int .i64 text.size,.string t.name,.int .i64 st.length,.string ⟨#[]⟩])) (hg:(wr.alloc (.cells #[.int .i64 at_,.int .i64 text.size,.string t.name,.int .i64 st.length,.string ⟨#[]⟩] 70)).grownBy W4 (Value.slice nH pre.length oy).ownBlock)=>show E3 G text.data.toList st0 w (.returned (.tuple #[v',.slice (some ⟨sb,0,none⟩) st.length fk])) W4 from by
         obtain ⟨a1,a2,a3,_⟩:=iX.out.app (x:=⟨at_,text.size,t.name,st.length,⟨#[]⟩⟩) hr hg;refine ⟨v',_,sb,st,fk,rfl,.inr ⟨at_,pre,top,s,iX.out.path,by rw[ah];exact hlt,by rw[<-tG.out];exact Ck.out,HS.out,HLE.out.no xk.out (by rw[ah];omega) gR,rfl⟩,?_,a1,Nf,a3⟩;rw[ah,iT.out];exact a2)
        clear HLE xk E4 iX
        go_wp2_with (at_builtin;go_loud (refine wpList_append_own_at _ rfl (.tmp 93) (.tmp 104) 64 rfl w.heap.size 70 i0 (.agg #[.int .i64 0,.int .i64 0,.string ⟨#[]⟩,.int .i64 0,.string ⟨#[]⟩]) 5 56 Tryz.underlying64 hi hz0 hz1 hz3 rfl (by decide) (.slice nH pre.length oy) pre.length (pre.flatMap Sp.cells) (by rfl) ba.out ⟨wr.heap.size,0,none⟩ 1 1 [.int .i64 at_,.int .i64 text.size,.string t.name,.int .i64 st.length,.string ⟨#[]⟩] (by rfl) rfl ea.out (by simp[Value.oneCell']) (by unfold maxLen;omega) (by omega) hbase ?_;intro v' W4 hown hg _ _;have ai:=aa (eM.out v' W4 hown hg);obtain ⟨g',cap',rfl⟩:=az hown (by omega);clear hown hg eM ba ea))
        go_wp2_with fail;go_ret2;exact ai.out
       ·obtain ⟨kx,p,ex,r,h1,h2,h3,Li,Cm⟩:=HLE.out.hit (λr hr=>(yV.out s (List.mem_of_getElem? HS.out) r hr).1) xk.out (by omega);subst h1 h2 h3;have e8:decide ((kx:Int)<0)=false:=decide_eq_false (by omega);obtain ⟨q,hq⟩:∃q,t.rs[kx]?=some q:=⟨_,List.getElem?_eq_getElem (by rw[oz];exact aw Li)⟩;obtain ⟨_,hqk,hqc,hqo⟩:=Xb.out kx r q Li hq
        have abx:=Cm.gt (yV.out s (List.mem_of_getElem? HS.out) r (List.mem_of_getElem? Li)).1;rw[ah]at abx;have ac8:=Cm.le;have Zh:=aa (xk.out.ok (at':=ex) (by omega));have Zi:=aa Cm;have Ni:=aa iX.out.path;have Ma:=aa iX.out.good;have HQ:=aa hq;have HRK:=aa Li;have HQO:=aa hqo;clear HLE xk Cm hq Li hqo;go_upto_if 109 with fail
        go_cut [8] from 107 to 174 (λvl wc=>zF w st sb (pre++gI at_ p s.nm st.length) hb qX vl wc)
        case first=>
         by_cases DV:at_<p
         ·have e9:decide ((at_:Int)<(p:Int))=true:=decide_eq_true (by omega);have n1:=((II.out.below iX.out.lh).gC.at HT.out).1;obtain ⟨i0,hi,hz0,hz1,hz3⟩:=info_parts eL;have hpl:pre.length<=6000:=by have:=iX.out.path.short yV.out;omega
          have ba:=aa (show (wr.alloc (.cells #[.int .i64 at_,.int .i64 p,.string t.name,.int .i64 st.length,.string ⟨#[]⟩] 70)).ownsRow w.heap.size 70 5 (.slice nH pre.length oy) pre.length (pre.flatMap Sp.cells) from aG iX.out.row λk hk=>by obtain ⟨_,c,hc⟩:=aj iX.out.row hk;exact ((Below.refl _ _).alloc (Nat.le_refl _) _).block k (ae hc))
          have ea:=aa (λ(y:Nat) u (h:([.int .i64 at_,.int .i64 p,.string t.name,.int .i64 st.length,.string ⟨#[]⟩]:List Value)[y]?=some u)=>show (wr.alloc (.cells #[.int .i64 at_,.int .i64 p,.string t.name,.int .i64 st.length,.string ⟨#[]⟩] 70)).cell? ((⟨wr.heap.size,0,none⟩:Addr).add y)=some u from aD wr #[.int .i64 at_,.int .i64 p,.string t.name,.int .i64 st.length,.string ⟨#[]⟩] _ y u h)
          have hbase:w.heap.size<=(wr.alloc (.cells #[.int .i64 at_,.int .i64 p,.string t.name,.int .i64 st.length,.string ⟨#[]⟩] 70)).heap.size:=by rw[World.size_alloc];have:=iX.out.lh.size;omega
          have eM:=aa (λ(v':Value) (W4:World) (hr:W4.ownsRow w.heap.size 70 5 v' (pre.length+1) (pre.flatMap Sp.cells++[.int .i64 at_,.int .i64 p,.string t.name,.int .i64 st.length,.string ⟨#[]⟩])) (hg:(wr.alloc (.cells #[.int .i64 at_,.int .i64 p,.string t.name,.int .i64 st.length,.string ⟨#[]⟩] 70)).grownBy W4 (Value.slice nH pre.length oy).ownBlock)=>show zF w st sb (pre++gI at_ p s.nm st.length) hb qX v' W4 from by
           obtain ⟨a1,a2,a3,a4⟩:=iX.out.app (x:=⟨at_,p,t.name,st.length,⟨#[]⟩⟩) hr hg;rw[gI,if_pos DV,iT.out];obtain ⟨px,c',hv'⟩:=aC a2;exact ⟨px,c',hv',a1,a2,a3,a4 _ _ E4.out⟩)
          clear E4 iX
          go_wp2_with (at_builtin;go_loud (refine wpList_append_own_at _ rfl (.tmp 110) (.tmp 120) 64 rfl w.heap.size 70 i0 (.agg #[.int .i64 0,.int .i64 0,.string ⟨#[]⟩,.int .i64 0,.string ⟨#[]⟩]) 5 56 Tryz.underlying64 hi hz0 hz1 hz3 rfl (by decide) (.slice nH pre.length oy) pre.length (pre.flatMap Sp.cells) (by rfl) ba.out ⟨wr.heap.size,0,none⟩ 1 1 [.int .i64 at_,.int .i64 p,.string t.name,.int .i64 st.length,.string ⟨#[]⟩] (by rfl) rfl ea.out (by simp[Value.oneCell']) (by unfold maxLen;omega) (by omega) hbase ?_;intro v' W4 hown hg _ _;have ai:=aa (eM.out v' W4 hown hg);obtain ⟨g',cap',rfl⟩:=az hown (by omega);clear hown hg eM ba ea))
          go_wp2_with fail;go_meet
          case rel=>exact ai.out
         ·have e9:decide ((at_:Int)<(p:Int))=false:=decide_eq_false (by omega);have Tg:=aa (show zF w st sb (pre++gI at_ p s.nm st.length) hb qX (.slice nH pre.length oy) wr from by rw[gI,if_neg DV,List.append_nil];exact ⟨nH,oy,rfl,iX.out.ints,iX.out.row,iX.out.lh,E4.out⟩);clear E4 iX;go_wp2_with fail;go_meet
          case rel=>exact Tg.out
        case rest=>
         obtain ⟨Js,Jt,rfl,jW,E6,hbl,hha⟩:=hcut;have AO:=II.out.below hbl;obtain ⟨n1,n2,_,_⟩:=AO.gC.at HT.out
         obtain ⟨rg,rn,kV,mG,hrn⟩:∃rg rn kV,t.rv=.slice (some ⟨rg,0,none⟩) rn kV/\rn=t.rs.length:=by obtain ⟨Zj,kV,h1,h2⟩:=AO.gC.rules (List.mem_of_getElem? HT.out);obtain ⟨rg,h3⟩:=h2 (by have:=aw HQ.out;omega);exact ⟨rg,_,kV,by rw[h1,h3],rfl⟩
         have Ze:kx<rn:=by rw[hrn];exact aw HQ.out
         obtain ⟨PP,PB,cC,aby,Zk,_,_⟩:=He (AO.gX t (List.mem_of_getElem? HT.out) q (List.mem_of_getElem? HQ.out)) (Xb.out kx r q HRK.out HQ.out).1;have x0:=(AO.gC.rule (List.mem_of_getElem? HT.out) mG HQ.out 0 (by omega) (u:=.string q.a) rfl).1;have x1:=(AO.gC.rule (List.mem_of_getElem? HT.out) mG HQ.out 1 (by omega) (u:=.string q.b) rfl).1
         have x2:=(AO.gC.rule (List.mem_of_getElem? HT.out) mG HQ.out 2 (by omega) (u:=.string q.c) rfl).1;have x3:=(AO.gC.rule (List.mem_of_getElem? HT.out) mG HQ.out 3 (by omega) (u:=.string q.p) rfl).1;have x4:=(AO.gC.rule (List.mem_of_getElem? HT.out) mG HQ.out 4 (by omega) (u:=.pointer (some ⟨PP,0,none⟩)) (by rw[<-Zk];rfl)).1
         have x5:=(AO.gC.rule (List.mem_of_getElem? HT.out) mG HQ.out 5 (by omega) (u:=.int .i64 q.at_) rfl).1;rw[Nat.add_zero]at x0;rw[mG]at n2;obtain ⟨w6,GH⟩:∃w6,wc.alloc (.cells #[.string q.a,.string q.b,.string q.c,.string q.p,.pointer (some ⟨PP,0,none⟩),.int .i64 q.at_] 128)=w6:=⟨_,rfl⟩
         have GI:Below wc.heap.size wc w6:=by rw[<-GH];exact (Below.refl _ _).alloc (Nat.le_refl _) _
         have PA:w6.heap[wc.heap.size]?=some (.cells #[.string q.a,.string q.b,.string q.c,.string q.p,.pointer (some ⟨PP,0,none⟩),.int .i64 q.at_] 128 (0,0)):=by rw[<-GH];exact af _ _
         have n6:=ax n1 GI;have y2:w6.cell? ⟨wc.heap.size,2,none⟩=some (.string q.c):=ag PA rfl
         have Xc:=aa (show zF w st sb (pre++gI at_ p s.nm st.length) hb qX (.slice Js (pre++gI at_ p s.nm st.length).length Jt) w6 from ⟨Js,Jt,rfl,jW.below GI,aG E6 λk hk=>by obtain ⟨_,c,hc⟩:=aj E6 hk;exact GI.block k (ae hc),hbl.trans (GI.mono hbl.size),(GI.block _ (ae hha)).trans hha⟩);have HQ6:=aa PA
         obtain ⟨npre,Nj⟩:∃npre,npre=(pre++gI at_ p s.nm st.length).length:=⟨_,rfl⟩;rw[<-Nj]at Xc ⊢;have PV:=aa Nj;clear jW E6 hbl hha AO GI PA Nj mG Zk
         go_wp2_with (refine wpList_store_row rfl _ _ _ rfl _ #[.string q.a,.string q.b,.string q.c,.string q.p,.pointer (some ⟨PP,0,none⟩),.int .i64 q.at_] rfl rfl 128 _ (aA _ _ _ rfl) rfl rfl (by simp[Value.oneCell']) ?_;rw[dV _ _ _ _ _ rfl]);obtain ⟨rb,DJ⟩:∃rb,rb=wc.heap.size:=⟨_,rfl⟩;rw[<-DJ]at y2 HQ6 ⊢;clear DJ GH x0 x1 x2 x3 x4 x5 n1 n2
         obtain ⟨i0,hi,hz0,hz1,hz3⟩:=info_parts eL;have Xd:npre<=6001:=by have h1:=Ni.out.short yV.out;have h2:=oH at_ p s.nm st.length;rw[PV.out,List.length_append];omega
         go_cut [8] from 129 to 174 (λvl wd=>zF w st sb ((pre++gI at_ p s.nm st.length)++[⟨p,ex,s.nm,st.length,r.co⟩]) hb qX vl wd/\wd.heap[rb]?=some (.cells #[.string q.a,.string q.b,.string q.c,.string q.p,.pointer (some ⟨PP,0,none⟩),.int .i64 q.at_] 128 (0,0)))
         case first=>
          have ba:=aa (show (w6.alloc (.cells #[.int .i64 p,.int .i64 ex,.string t.name,.int .i64 st.length,.string q.c] 70)).ownsRow w.heap.size 70 5 (.slice Js npre Jt) npre ((pre++gI at_ p s.nm st.length).flatMap Sp.cells) from by
           obtain ⟨_,_,_,_,h3,_,_⟩:=Xc.out;have h4:w6.ownsRow w.heap.size 70 5 (.slice Js npre Jt) npre ((pre++gI at_ p s.nm st.length).flatMap Sp.cells):=by have h5:=h3;unfold bV at h5;rw[<-PV.out]at h5;exact h5
           exact aG h4 λk hk=>by obtain ⟨_,c,hc⟩:=aj h4 hk;exact ((Below.refl _ _).alloc (Nat.le_refl _) _).block k (ae hc))
          have ea:=aa (λ(y:Nat) u (h:([.int .i64 p,.int .i64 ex,.string t.name,.int .i64 st.length,.string q.c]:List Value)[y]?=some u)=>show (w6.alloc (.cells #[.int .i64 p,.int .i64 ex,.string t.name,.int .i64 st.length,.string q.c] 70)).cell? ((⟨w6.heap.size,0,none⟩:Addr).add y)=some u from aD w6 #[.int .i64 p,.int .i64 ex,.string t.name,.int .i64 st.length,.string q.c] _ y u h)
          have hbase:w.heap.size<=(w6.alloc (.cells #[.int .i64 p,.int .i64 ex,.string t.name,.int .i64 st.length,.string q.c] 70)).heap.size:=by rw[World.size_alloc];obtain ⟨_,_,_,_,_,h4,_⟩:=Xc.out;have:=h4.size;omega
          have eM:=aa (λ(v':Value) (W4:World) (hr:W4.ownsRow w.heap.size 70 5 v' (npre+1) ((pre++gI at_ p s.nm st.length).flatMap Sp.cells++[.int .i64 p,.int .i64 ex,.string t.name,.int .i64 st.length,.string q.c])) (hg:(w6.alloc (.cells #[.int .i64 p,.int .i64 ex,.string t.name,.int .i64 st.length,.string q.c] 70)).grownBy W4 (Value.slice Js npre Jt).ownBlock)=>show zF w st sb ((pre++gI at_ p s.nm st.length)++[⟨p,ex,s.nm,st.length,r.co⟩]) hb qX v' W4/\W4.heap[rb]?=some (.cells #[.string q.a,.string q.b,.string q.c,.string q.p,.pointer (some ⟨PP,0,none⟩),.int .i64 q.at_] 128 (0,0)) from by
           obtain ⟨a1,a2⟩:=Xc.out.app (x:=⟨p,ex,t.name,st.length,q.c⟩) (by rw[<-PV.out];exact hr) hg;rw[<-iT.out,<-hqc]at a1;exact ⟨a1,a2 _ _ HQ6.out (λc=>by simp)⟩)
          have n7:=ar n6;have y7:=ar y2;clear Xc HQ6
          go_region_law (refine cO rfl (.tmp 129) (.tmp 141) 64 rfl w.heap.size 70 i0 (.agg #[.int .i64 0,.int .i64 0,.string ⟨#[]⟩,.int .i64 0,.string ⟨#[]⟩]) 5 56 Tryz.underlying64 hi hz0 hz1 hz3 rfl (by decide) (.slice Js npre Jt) npre ((pre++gI at_ p s.nm st.length).flatMap Sp.cells) (by rfl) (by exact ba.out) ⟨w6.heap.size,0,none⟩ 1 1 [.int .i64 p,.int .i64 ex,.string t.name,.int .i64 st.length,.string q.c] (by rfl) (by rfl) (by exact ea.out) (by simp[Value.oneCell']) (by unfold maxLen;omega) (by omega) (by exact hbase) ?_;intro v' W4 hown hg _;have ai:=aa (eM.out v' W4 hown ⟨hg.os,hg.tape,hg.output,hg.size,hg.block⟩);obtain ⟨g',cap',rfl⟩:=az hown (by omega);clear hown hg)
          all_goals
           go_wp2_with fail;go_meet;exact ai.out
         case rest=>
          obtain ⟨⟨Q6,Q7,rfl,jW,E6,hbl,hha⟩,BF⟩:=hcut;obtain ⟨w7,hw7⟩:∃w7,w7=wc:=⟨_,rfl⟩;rw[<-hw7]at jW E6 hbl hha BF ⊢;clear hw7;have hwd:=II.out.gC.words t (List.mem_of_getElem? HT.out) q (List.mem_of_getElem? HQ.out);have U9:=pQ hwd.2;have z0:w7.cell? ⟨rb,0,none⟩=some (.string q.a):=ag BF rfl
          have z1:w7.cell? ⟨rb,1,none⟩=some (.string q.b):=ag BF rfl;obtain ⟨n3,Th⟩:∃n3,n3=((pre++gI at_ p s.nm st.length)++[(⟨p,ex,s.nm,st.length,r.co⟩:Sp)]).length:=⟨_,rfl⟩;rw[<-Th]at E6 ⊢
          have Nk:Path G text.data.toList st0 ex (mQ r.k r.op st) ((pre++gI at_ p s.nm st.length)++[⟨p,ex,s.nm,st.length,r.co⟩]):=Path.hit Ni.out (by rw[ah];exact hlt) (by rw[<-tG.out];exact Ck.out) HS.out Zi.out;have Nl:Good G (mQ r.k r.op st):=Ma.out.mQ (λhk=>(yV.out s (List.mem_of_getElem? HS.out) r (List.mem_of_getElem? HRK.out)).2 hk)
          have lU:=aa (λ(yT yU:Nat) (W:World) (h1:(mQ r.k r.op st).length<=yU) (h2:cN W yT (mQ r.k r.op st)) (h3:bV W w.heap.size (.slice Q6 n3 Q7) ((pre++gI at_ p s.nm st.length)++[⟨p,ex,s.nm,st.length,r.co⟩])) (h4:Below w.heap.size w W) (h5:cg W hb qX)=>show E0 w G text st0 (text.size - ex) (.slice (some ⟨yT,0,none⟩) (mQ r.k r.op st).length yU) (.slice Q6 n3 Q7) (.int .i64 ex) (.int .i64 top) (.slice (some ⟨hb,0,none⟩) s.rs.length s.rs.length) W from
           ⟨ex,mQ r.k r.op st,_,yT,yU,Q6,Q7,rfl,by rw[Th],rfl,by omega,h1,⟨Nk,Nl,h2,by rw[<-Th];exact h3,h4⟩,.inr ⟨top,hb,s,qX,rfl,HS.out,rfl,hhb,h5,Zh.out⟩⟩)
          have HQ3:=aa BF;have j0:=aa jW;have Q8:=aa E6;have jA:=aa hbl;have Hd:=aa hha;clear jW E6 hbl hha BF Nk Nl Zi Ni Zh Th Xc HQ6 PV y2 n6;rw[hqk]at lU;obtain ⟨dd,hdd⟩:∃dd,dd=q.d:=⟨_,rfl⟩;rw[<-hdd]at lU hwd U9;have HDD:=aa hdd;clear hdd hqk;by_cases hd1:dd=1
          ·subst hd1;have zH:q.a=(⟨#[112,117,115,104]⟩:ByteArray):=U9;rw[zH]at z0;have HQA:=aa zH;clear U9 zH hwd;by_cases Zl:st.length<8
           ·have e10:decide ((st.length:Int)<8)=true:=decide_eq_true (by omega);have ha:mQ 1 r.op st=st++[r.op]:=by unfold mQ;rw[if_pos ⟨rfl,Zl⟩]
            rw[ha]at lU;obtain ⟨i1,xG,hy0,Wx,hy3⟩:=info_parts lf;obtain ⟨Va,ib,pR,Ti⟩:=HQO.out HDD.out.symm
            have ea:=aa (λ(y:Nat) u (h:(st.map λx:Nat=>Value.int .i64 (x:Int))[y]?=some u)=>show w7.cell? ((⟨sb,0,none⟩:Addr).add y)=some u from by
             rw[List.getElem?_map]at h
             cases hy:st[y]? with
             | none=>rw[hy]at h;cases h
             | some x=>
              rw[hy]at h;cases h;have hcell:=j0.out.cell hy;by_cases h0:y=0
              ·subst h0;simpa [Addr.add] using hcell
              ·simpa [Addr.add,h0] using hcell)
            have Vb:w.heap.size<=w7.heap.size:=jA.out.size
            have Zm:=aa (λ(v1:Value) (W1:World) (hg:w7.grownBy W1 (Value.slice none 0 0).ownBlock)=>show W1.cell? ⟨rb,1,none⟩=some (.string q.b)/\Below w7.heap.size w7 W1/\Calls Tryz.prog 86 #[.pointer (some ⟨P,0,none⟩),.string q.b] W1 (λe w'=>e=.returned (.int .i64 r.op)/\w'=W1) from by
             have hb1:Below w7.heap.size w7 W1:=⟨hg.os,hg.tape,hg.output,hg.size,λk hk=>hg.block k hk (by simp[Value.ownBlock])⟩;have tF:=II.out.below (jA.out.trans (hb1.mono jA.out.size));refine ⟨ax z1 hb1,hb1,(rr B P _ ss q.b W1 tF.gC (by have:=tF.few.1;omega)).mono ?_⟩;rintro e w' ⟨h1,(⟨i,t2,rfl,h2,h3,h4⟩|⟨rfl,h2⟩)⟩
             ·have hio:i=r.op:=by
               rcases Nat.lt_trichotomy i r.op with h|h|h
               ·exact absurd h3 (Ti i t2 h h2)
               ·exact h
               ·exact absurd pR (h4 r.op Va h ib)
              subst hio;exact ⟨rfl,h1⟩
             ·exact absurd pR (h2 Va (List.mem_of_getElem? ib)))
            clear ib pR Ti Va
            go_wp2_with (at_builtin;go_loud (refine wpList_append_own_at _ rfl (.tmp 151) (.tmp 152) 57 rfl w.heap.size 3 i1 (.int .i64 0) 1 8 Tryz.underlying57 xG hy0 Wx hy3 rfl (by decide) (.slice none 0 0) 0 [] (by rfl) (World.ownsRow_nil _ _ _ _) ⟨sb,0,none⟩ st.length fk (st.map λx:Nat=>Value.int .i64 (x:Int)) (by rfl) (by simp) ea.out (by intro u hu;obtain ⟨x,_,rfl⟩:=List.mem_map.1 hu;rfl) (by unfold maxLen;omega) (by omega) Vb ?_;intro v1 W1 hown1 hg1 _ _;rw[Nat.zero_add,List.nil_append]at hown1;obtain ⟨zz1,hb1,Xe⟩:=Zm.out v1 W1 hg1;have eK:=aa hown1;have bA:=aa hb1;have wG:=aa Xe;obtain ⟨g1,nk,rfl⟩:=az hown1 (by omega);clear hown1 hg1 hb1 Xe Zm))
            refine wG.out.mono ?_;rintro e8 w8 ⟨rfl,h8⟩;obtain ⟨w9,TV⟩:∃w9,w9=w8:=⟨_,rfl⟩;rw[<-h8]at eK bA;rw[<-TV]at eK bA ⊢;clear wG zz1 h8 TV
            have jP:=aa (show (w9.alloc (.cells #[.int .i64 r.op] 3)).ownsRow w.heap.size 3 1 (.slice (some ⟨g1,0,none⟩) st.length nk) st.length (st.map λx:Nat=>Value.int .i64 (x:Int)) from aG eK.out λk hk=>by obtain ⟨_,c,hc⟩:=aj eK.out hk;exact ((Below.refl _ _).alloc (Nat.le_refl _) _).block k (ae hc))
            have Zn:=aa (λ(y:Nat) u (h:([.int .i64 r.op]:List Value)[y]?=some u)=>show (w9.alloc (.cells #[.int .i64 r.op] 3)).cell? ((⟨w9.heap.size,0,none⟩:Addr).add y)=some u from aD w9 #[.int .i64 r.op] _ y u h);have Eg:w.heap.size<=(w9.alloc (.cells #[.int .i64 r.op] 3)).heap.size:=by rw[World.size_alloc];have:=bA.out.size;omega
            have eM:=aa (λ(v2:Value) (W2:World) (hr:W2.ownsRow w.heap.size 3 1 v2 (st.length+1) ((st.map λx:Nat=>Value.int .i64 (x:Int))++[.int .i64 r.op])) (hg:(w9.alloc (.cells #[.int .i64 r.op] 3)).grownBy W2 (Value.slice (some ⟨g1,0,none⟩) st.length nk).ownBlock)=>show E0 w G text st0 (text.size - ex) v2 (.slice Q6 n3 Q7) (.int .i64 ex) (.int .i64 top) (.slice (some ⟨hb,0,none⟩) s.rs.length s.rs.length) W2 from by
             have Lj:Below w7.heap.size w7 (w9.alloc (.cells #[.int .i64 r.op] 3)):=bA.out.alloc bA.out.size _;have o2:aK (λk=>k=g1) (w9.alloc (.cells #[.int .i64 r.op] 3)) W2:=(aK.gA jP.out (by decide) hg).sub λk _ e=>by cases e;rfl
             obtain ⟨ac9,c1,hc1⟩:=aj jP.out (k:=g1) rfl;have key:∀(k:Nat) o,w7.heap[k]?=some o->(∀c,o≠.cells c 3 (0,0))->W2.heap[k]?=some o:=λk o hk hne=>by have h9:=(Lj.block k (ae hk)).trans hk;refine o2.same h9 (λe=>?_);rw[e,hc1]at h9;cases h9;exact hne _ rfl
             obtain ⟨g2,qK,hv2⟩:=az hr (by omega);subst hv2;rw[show (st.map λx:Nat=>Value.int .i64 (x:Int))++[.int .i64 r.op]=(st++[r.op]).map λx:Nat=>Value.int .i64 (x:Int) by simp]at hr;obtain ⟨hints,Zo⟩:=Nc hr;have hlen:(st++[r.op]).length=st.length+1:=by simp
             have:=lU.out g2 qK W2 (by rw[hlen];exact Zo) hints (aG Q8.out λk hk=>by obtain ⟨_,c,hc⟩:=aj Q8.out hk;rw[hc];exact key k _ hc (λc=>by simp)) (jA.out.trans ((Lj.mono jA.out.size).trans ⟨o2.os,o2.tape,o2.output,o2.size,λk hk=>o2.keep k ⟨by omega,by omega⟩⟩)) (key _ _ Hd.out (λc=>by simp));rw[hlen]at this;exact this)
            have HZZ:=aa (λ(W2:World) (hg:(w9.alloc (.cells #[.int .i64 r.op] 3)).grownBy W2 (Value.slice (some ⟨g1,0,none⟩) st.length nk).ownBlock)=>show W2.cell? ⟨rb,0,none⟩=some (.string (⟨#[112,117,115,104]⟩:ByteArray)) from by
             have Lj:Below w7.heap.size w7 (w9.alloc (.cells #[.int .i64 r.op] 3)):=bA.out.alloc bA.out.size _;have h9:=(Lj.block rb (ae HQ3.out)).trans HQ3.out;obtain ⟨_,c1,hc1⟩:=aj jP.out (k:=g1) rfl
             have h2:=(hg.block rb (ae h9) (λe=>by
              have e':rb=g1:=by simpa [Value.ownBlock] using e
              rw[e',hc1]at h9;simp at h9)).trans h9
             have:=ag (j:=0) h2 (v:=.string q.a) rfl;rw[HQA.out]at this;exact this)
            clear lU
            go_wp2_with (at_builtin;go_loud (refine wpList_append_own_at _ rfl (.tmp 154) (.tmp 159) 57 rfl w.heap.size 3 i1 (.int .i64 0) 1 8 Tryz.underlying57 xG hy0 Wx hy3 rfl (by decide) (.slice (some ⟨g1,0,none⟩) st.length nk) st.length (st.map λx:Nat=>Value.int .i64 (x:Int)) (by rfl) jP.out ⟨w9.heap.size,0,none⟩ 1 1 [.int .i64 r.op] (by rfl) rfl Zn.out (by simp[Value.oneCell']) (by unfold maxLen;omega) (by omega) Eg ?_;intro v2 W2 hown2 hg2 _ _;have HST:=aa (eM.out v2 W2 hown2 hg2);have zz0:=(HZZ.out W2 hg2);obtain ⟨g2,qK,rfl⟩:=az hown2 (by omega);clear hown2 hg2 eM jP Zn))
            go_wp2_with fail;go_roundg (text.size - ex)
            case measure=>omega
            case rel=>exact HST.out
           ·have e10:decide ((st.length:Int)<8)=false:=decide_eq_false (by omega);have ha:mQ 1 r.op st=st:=by unfold mQ;rw[if_neg (by omega),if_neg (by omega)]
            have HST:=aa (lU.out sb fk w7 (by rw[ha];exact Nf) (by rw[ha];exact j0.out) Q8.out jA.out Hd.out);rw[ha]at HST;clear lU;go_wp2_with fail;go_roundg (text.size - ex)
            case measure=>omega
            case rel=>exact HST.out
          ·by_cases hd2:dd=2
           ·subst hd2;have zH:q.a=(⟨#[112,111,112]⟩:ByteArray):=U9;rw[zH]at z0;clear U9 zH hwd hd1;by_cases Zp:1<st.length
            ·have e10:decide ((1:Int)<(st.length:Int))=true:=decide_eq_true (by omega);have ha:mQ 2 r.op st=st.dropLast:=by unfold mQ;rw[if_neg (by omega),if_pos ⟨rfl,Zp⟩]
             have wN:st.dropLast.length=sl:=by rw[List.length_dropLast,tG.out]
             have HST:=aa (lU.out sb fk w7 (by rw[ha,wN];omega) (by rw[ha];exact j0.out.sub λj x hj=>by rw[List.getElem?_dropLast]at hj;split at hj;exact hj;cases hj) Q8.out jA.out Hd.out);rw[ha,wN]at HST;have hsc:(sl:Int)<=(fk:Int):=by omega
             clear lU;go_wp2_with fail;go_roundg (text.size - ex)
             case measure=>omega
             case rel=>exact HST.out
            ·have e10:decide ((1:Int)<(st.length:Int))=false:=decide_eq_false (by omega);have ha:mQ 2 r.op st=st:=by unfold mQ;rw[if_neg (by omega),if_neg (by omega)]
             have HST:=aa (lU.out sb fk w7 (by rw[ha];exact Nf) (by rw[ha];exact j0.out) Q8.out jA.out Hd.out);rw[ha]at HST;clear lU;go_wp2_with fail;go_roundg (text.size - ex)
             case measure=>omega
             case rel=>exact HST.out
           ·have hd0:dd=0:=by omega
            subst hd0;have zH:q.a=(⟨#[116,111,107,101,110]⟩:ByteArray):=U9;rw[zH]at z0;clear U9 zH hwd hd1 hd2;have ha:mQ 0 r.op st=st:=by unfold mQ;rw[if_neg (by omega),if_neg (by omega)]
            have HST:=aa (lU.out sb fk w7 (by rw[ha];exact Nf) (by rw[ha];exact j0.out) Q8.out jA.out Hd.out);rw[ha]at HST;clear lU;go_wp2_with fail;go_roundg (text.size - ex)
            case measure=>omega
            case rel=>exact HST.out
  ·have g1:decide ((at_:Int)<(text.size:Int))=false:=decide_eq_false (by omega);obtain rfl:at_=text.size:=by omega
   have ai:=aa (show E3 G text.data.toList st0 w (.returned (.tuple #[.slice nH pre.length oy,.slice (some ⟨sb,0,none⟩) st.length fk])) wr from ⟨_,pre,sb,st,fk,rfl,.inl (by rw[ah];exact DT.path),DT.row,DT.ints,Nf,DT.lh⟩);clear DT Ze;go_wp2_with fail;go_ret2;exact ai.out
end Go.Proofs.YtgncgdkpkkdaeaaGreatDoor
