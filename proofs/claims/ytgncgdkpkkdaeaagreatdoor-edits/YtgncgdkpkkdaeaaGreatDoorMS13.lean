import Derived.Test.YtgncgdkpkkdaeaaGreatDoorMX
namespace Go.Proofs.YtgncgdkpkkdaeaaGreatDoor
open Go.RowKit aO Go.Maps Go.Shelf
attribute [local go_sem] Oper.semAt_some
def SpJ(J:(Nat->Prop)->List Sp->List Nat->World->Prop)(N:Nat)(A0:Nat->Prop)(w0 g n cap:Nat)(G:List GS)(d:PD)(line:ByteArray)(K kv wk bP bL bS:Nat)(pre:List Sp)(st:List Nat)(W:World):Prop:=
 ∃Cl A1 f1 F1 f2,J Cl pre st W/\SP N A0 w0 g n cap G d line K kv wk bP bL bS A1 f1 F1 f2 st Cl W
def rH(J:(Nat->Prop)->List Sp->List Nat->World->Prop)(Jx:World->Prop)(N:Nat)(A0:Nat->Prop)(w0 g n cap:Nat)(G:List GS)(d:PD)(T:List UInt8)(st0:List Nat)(e:Ending)(W:World):Prop:=
 (∃v,e=.returned v)/\((∃bc st Cl A1 f1 F1,tQ G T st0 bc st/\J Cl bc st W/\aH W N A1 g n cap G d f1 F1/\(∀k,A1 k->A0 k∨w0<=k)/\∀k,Cl k->¬A1 k)∨Jx W)
theorem Oh{N:Nat}{A0:Nat->Prop}{g n cap:Nat}{G:List GS}{d:PD}{f:Nat->Option Value}{F:Nat->List FD}{line:ByteArray}{st0:List Nat}{bP bL q:Nat}{w W W1:World}{Cl:Nat->Prop}(h:aH w N A0 g n cap G d f F)(gL:∀k,Cl k->k<w.heap.size/\N<=k/\¬A0 k/\k≠bP/\k≠bL)(Ls:w.heap[bP]?=some (.cells #[.slice (some ⟨g,0,none⟩) n cap,ja d] 171 (0,0)))(Oi:w.heap[bL]?=some (.cells #[.string line] 9 (0,0)))(hA:¬A0 bP/\¬A0 bL)(hq:q=w.heap.size)(hW:W=w.alloc (.cells (aJ st0).toArray 138)){e:Ending}(hr:vK #[.pointer (some ⟨bP,0,none⟩),.pointer (some ⟨bL,0,none⟩)] W e W1):
  SP N A0 q g n cap G d line (q+2) (q+3) (q+1) bP bL q A0 f F (λ_=>none) st0 Cl W1/\Below w.heap.size w W1:=by
 obtain ⟨-,hb,hs,h1,h2,h3⟩:=hr;have hWs:W.heap.size=q+1:=by rw[hW,hq];simp
 have qw:Below w.heap.size w W:=by rw[hW];exact (Below.refl _ _).alloc (Nat.le_refl _) _
 have hS:W.heap[q]?=some (.cells (aJ st0).toArray 138 (0,0)):=by rw[hW,hq];exact af _ _
 have hb1:Below w.heap.size w W1:=qw.trans (hb.mono qw.size);rw[hWs]at h1 h2 h3 hs;have hn:∀k,q<=k->¬A0 k:=λk hk ha=>by have:=(h.old k ha).2;omega
 refine ⟨⟨h.below hb1,λk hk=>.inl hk,⟨⟨h1,hn _ (by omega)⟩,⟨h2,hn _ (by omega)⟩,⟨⟨by have:=h.size;omega,hn _ (by omega)⟩,0,h3,Nat.zero_le _⟩,λi v hv=>by cases hv⟩,⟨(hb1.block _ (ae Ls)).trans Ls,by rw[hq];exact ae Ls,hA.1⟩,⟨(hb1.block _ (ae Oi)).trans Oi,by rw[hq];exact ae Oi,hA.2⟩,⟨(hb.block _ (by omega)).trans hS,Nat.le_refl _,hn _ (Nat.le_refl _)⟩,⟨by omega,by omega,by omega,λi v hv=>by cases hv⟩,⟨by omega,by omega,by omega,λi v hv=>by cases hv⟩,⟨by omega,by have:=h.size;omega⟩,λk hk=>?_⟩,hb1⟩
 obtain ⟨c1,c2,c3,c4,c5⟩:=gL k hk;exact ⟨⟨by omega,c2,c3,c4,c5,by omega⟩,by omega,by omega,by omega,λi v hv=>by cases hv⟩
def Ts(J:(Nat->Prop)->List Sp->List Nat->World->Prop)(N:Nat)(A0:Nat->Prop)(w0 g n cap:Nat)(G:List GS)(d:PD)(line:ByteArray)(K kv wk bP bL bS:Nat)(st0:List Nat)(k:Nat)(va:Value)(wr:World):Prop:=
 ∃(at_:Nat) (st:List Nat) (pre:List Sp),va=.int .i64 at_/\at_+k=line.size/\Path G line.data.toList st0 at_ st pre/\Good G st/\SpJ J N A0 w0 g n cap G d line K kv wk bP bL bS pre st wr
set_option maxRecDepth 20000 in
set_option maxHeartbeats 40000000 in
theorem D7(m:Nat)(N:Nat)(A0 Cl0:Nat->Prop)(g n cap:Nat)(G:List GS)(d:PD)(f:Nat->Option Value)(F:Nat->List FD)(line:ByteArray)(st0:List Nat)(bB bP bL l:Nat)(J:(Nat->Prop)->List Sp->List Nat->World->Prop)(Jx:World->Prop)(w:World)(h:aH w N A0 g n cap G d f F)(dZ:xD G)(cq:Good G st0)(hz:line.size<=3000)
  (Oj:w.heap[bB]?=some (.cells (aJ st0).toArray 138 (0,0))) (Ls:w.heap[bP]?=some (.cells #[.slice (some ⟨g,0,none⟩) n cap,ja d] 171 (0,0))) (Oi:w.heap[bL]?=some (.cells #[.string line] 9 (0,0))) (hA:¬A0 bP/\¬A0 bL)
  (gL:∀k,Cl0 k->k<w.heap.size/\N<=k/\¬A0 k/\k≠bP/\k≠bL)
  (hJ:∀Cl pre st A B,J Cl pre st A->aK (λk=>(A0 k∨w.heap.size<=k)/\¬Cl k) A B->J Cl pre st B)
  (hY:∀Cl pre st x st' A,J Cl pre st A->Good G st'->pre.length<=7000->YieldAt Fence.wide (m - 1) Tryz.prog l #[Sp.v x,k9 st'] A λe B=>(e=.returned (.bool true)/\∃wA,aK Cl A B/\(∀k,wA k->k<B.heap.size/\(Cl k∨A.heap.size<=k))/\J wA (pre++[x]) st' B)∨(e=.returned (.bool false)/\Jx B))
  (h0:J Cl0 [] st0 w):
  CallsIn Fence.wide m Tryz.prog 122 #[.func (.yield l) #[] #[],.pointer (some ⟨bB,0,none⟩),.pointer (some ⟨bP,0,none⟩),.pointer (some ⟨bL,0,none⟩)] w (rH J Jx N A0 w.heap.size g n cap G d line.data.toList st0):=by
 refine callsIn_wide.2 ?_;obtain ⟨a0,a1,a2,a3,a4,a5,a6,a7,a8,hst⟩:=nine cq.1.2;rw[hst]at Oj;have s0:w.cell? ⟨bB,0,none⟩=some (.int .i64 a0):=by simp[World.cell?,Oj]
 have s1:w.cell? ⟨bB,1,none⟩=some (.int .i64 a1):=by simp[World.cell?,Oj]
 have s2:w.cell? ⟨bB,2,none⟩=some (.int .i64 a2):=by simp[World.cell?,Oj]
 have s3:w.cell? ⟨bB,3,none⟩=some (.int .i64 a3):=by simp[World.cell?,Oj]
 have s4:w.cell? ⟨bB,4,none⟩=some (.int .i64 a4):=by simp[World.cell?,Oj]
 have s5:w.cell? ⟨bB,5,none⟩=some (.int .i64 a5):=by simp[World.cell?,Oj]
 have s6:w.cell? ⟨bB,6,none⟩=some (.int .i64 a6):=by simp[World.cell?,Oj]
 have s7:w.cell? ⟨bB,7,none⟩=some (.int .i64 a7):=by simp[World.cell?,Oj]
 have s8:w.cell? ⟨bB,8,none⟩=some (.int .i64 a8):=by simp[World.cell?,Oj]
 obtain ⟨q,hq⟩:∃q,q=w.heap.size:=⟨_,rfl⟩;obtain ⟨W,hW⟩:∃W,w.alloc (.cells #[.int .i64 a0,.int .i64 a1,.int .i64 a2,.int .i64 a3,.int .i64 a4,.int .i64 a5,.int .i64 a6,.int .i64 a7,.int .i64 a8] 138)=W:=⟨_,rfl⟩;have hWs:W.heap.size=q+1:=by rw[<-hW,hq];simp
 have HRM:=aa (xy #[.pointer (some ⟨bP,0,none⟩),.pointer (some ⟨bL,0,none⟩)] W);have rO:=aa (λ(e:Ending) (W1:World) (hr:vK #[.pointer (some ⟨bP,0,none⟩),.pointer (some ⟨bL,0,none⟩)] W e W1)=>Oh (st0:=st0) h gL Ls Oi hA hq (by rw[hst];exact hW.symm) hr);have HJ:=aa hJ;have HY:=aa hY;have H0:=aa h0;have yV:=aa dZ;have HGD:=aa cq
 clear h Oj Ls Oi hA gL hJ hY h0 dZ cq hst;go_enter Tryz.func122,Tryz.ntmps122;go_wp2_with fail;rw[<-hq];have HQ:=aa hq;clear hq hW;refine HRM.out.mono ?_;rintro e W1 hrm;obtain ⟨hsp,qw⟩:=rO.out e W1 hrm;obtain ⟨rfl,-⟩:=hrm;have sT:=aa hsp;have uw:=aa qw;have b0:=ay hsp.bl.1
 clear hsp qw HRM rO s0 s1 s2 s3 s4 s5 s6 s7 s8;go_wp2_with fail;go_loopg [7] line.size (λk va wr=>Ts J N A0 q g n cap G d line (q+2) (q+3) (q+1) bP bL q st0 k va wr)
 case atStart=>exact ⟨0,st0,[],rfl,by omega,.start,HGD.out,_,_,_,_,_,HJ.out _ _ _ _ _ H0.out (aK.au uw.out),sT.out⟩
 case round=>
  obtain ⟨at_,st,pre,rfl,hk,Hx,hgd,Cl,A1,f1,F1,f2,AG,hsp⟩:=hrel;have b1:=ay hsp.bl.1;by_cases hlt:at_<line.size
  ·have g1:decide ((at_:Int)<(line.size:Int))=true:=decide_eq_true (by omega);obtain ⟨Xu,rI,Xv,Xw,Xx,Xy,Xz,XA,XB,hst⟩:=nine hgd.1.2;obtain ⟨top,s,Cj,hs⟩:=hgd.top;have eD:=hsp.bs.1;rw[hst]at eD;have v0:wr.cell? ⟨q,0,none⟩=some (.int .i64 Xu):=by simp[World.cell?,eD]
   have v1:wr.cell? ⟨q,1,none⟩=some (.int .i64 rI):=by simp[World.cell?,eD]
   have v2:wr.cell? ⟨q,2,none⟩=some (.int .i64 Xv):=by simp[World.cell?,eD]
   have v3:wr.cell? ⟨q,3,none⟩=some (.int .i64 Xw):=by simp[World.cell?,eD]
   have v4:wr.cell? ⟨q,4,none⟩=some (.int .i64 Xx):=by simp[World.cell?,eD]
   have v5:wr.cell? ⟨q,5,none⟩=some (.int .i64 Xy):=by simp[World.cell?,eD]
   have v6:wr.cell? ⟨q,6,none⟩=some (.int .i64 Xz):=by simp[World.cell?,eD]
   have v7:wr.cell? ⟨q,7,none⟩=some (.int .i64 XA):=by simp[World.cell?,eD]
   have v8:wr.cell? ⟨q,8,none⟩=some (.int .i64 XB):=by simp[World.cell?,eD]
   have HU:=aa (nU st top hgd.1.2 Cj wr);unfold k9 at HU;rw[hst]at HU;have rO:=aa hsp;have rS:=aa Hx;have Ka:=aa hgd;have HJJ:=aa AG;have Ck:=aa Cj;have HS:=aa hs;have HST:=aa hst;clear hsp Hx hgd AG Cj hs hst eD;go_wp2_with fail;refine HU.out.mono ?_;rintro e2 w2 ⟨rfl,hb2⟩;have cL:=aa hb2;have Ah:=aa (rO.out.below hb2)
   have Q8:=aa (Ry N A1 g n cap G d f1 F1 top s line (q+2) (q+3) (q+1) bP bL f2 w2 Ah.out.p Ah.out.r HS.out (by omega) hz Ah.out.bp.1 Ah.out.bl.1);clear hb2 HU v0 v1 v2 v3 v4 v5 v6 v7 v8;go_wp2_with fail;refine Q8.out.mono ?_;rintro e3 w3 ⟨Gr,fr,A2,Tt,F1',Hy,rfl,hrow,hdone,og,Tu,aad,Tv,hr3,⟨i3,hi3⟩,hf3⟩;have abY:=hi3
   have Ai:=aa (Ah.out.row og Tu Tv hr3 hf3);have adx:=Ai.out.new.2.2.2 i3 _ hi3 Gr rfl;have abZ:¬A2 Gr:=by obtain ⟨_,Gr',_,_,hv,h3,_⟩:=hr3.rows i3 _ hi3;cases hv;exact h3
   have ba:=aa hrow;have aae:=aa hdone
   have PQ:=aa (HJ.out _ _ _ _ _ (HJ.out _ _ _ _ _ HJJ.out (aK.au cL.out)) (og.sub λk _ hk=>by
    rcases hk with hk|rfl
    ·exact ⟨(Ah.out.sub k hk).imp id λh=>by rw[<-HQ.out];exact h,λhc=>(Ah.out.cl k hc).1.2.2.1 hk⟩
    ·exact ⟨.inr (by rw[<-HQ.out];omega),λhc=>(Ah.out.cl _ hc).2.1 rfl⟩))
   have lZ:fr.length=line.size:=by rw[hdone.1,ah]
   have iT:=aa (xt Gr fr at_ w3 hrow (by omega) (by omega));rw[lZ]at iT;clear hrow hdone og Tu aad Tv hr3 hi3 hf3 Q8 rO Ah HJJ cL;rw[ah];go_wp2_with fail;refine iT.out.mono ?_;rintro e4 w4 ⟨p,rfl,Hz,rfl⟩;have ady:p<=line.size:=by have:=Hz.2.1;omega
   have eM:=aa (Ok aae.out Hz);have hap:=Hz.1;clear Hz iT;have eD:=Ai.out.bs.1;rw[HST.out]at eD;have v0:w4.cell? ⟨q,0,none⟩=some (.int .i64 Xu):=by simp[World.cell?,eD]
   have v1:w4.cell? ⟨q,1,none⟩=some (.int .i64 rI):=by simp[World.cell?,eD]
   have v2:w4.cell? ⟨q,2,none⟩=some (.int .i64 Xv):=by simp[World.cell?,eD]
   have v3:w4.cell? ⟨q,3,none⟩=some (.int .i64 Xw):=by simp[World.cell?,eD]
   have v4:w4.cell? ⟨q,4,none⟩=some (.int .i64 Xx):=by simp[World.cell?,eD]
   have v5:w4.cell? ⟨q,5,none⟩=some (.int .i64 Xy):=by simp[World.cell?,eD]
   have v6:w4.cell? ⟨q,6,none⟩=some (.int .i64 Xz):=by simp[World.cell?,eD]
   have v7:w4.cell? ⟨q,7,none⟩=some (.int .i64 XA):=by simp[World.cell?,eD]
   have v8:w4.cell? ⟨q,8,none⟩=some (.int .i64 XB):=by simp[World.cell?,eD]
   have q0:w4.cell? ⟨bP,0,none⟩=some (.slice (some ⟨g,0,none⟩) n cap):=by have h1:=Ai.out.bp.1;simp[World.cell?,h1]
   have q1:w4.cell? ⟨bP,1,none⟩=some (ja d):=by have h1:=Ai.out.bp.1;simp[World.cell?,h1]
   have q2:=ay Ai.out.bl.1;unfold ja at q1;clear eD;go_wp2_with fail;refine (wpIn_wide (n:=m)).1 ?_
   gi_cut [47] from 28 (λc wc=>(c=.bool false/\p<line.size/\wc.heap[Gr]?=some (.cells (fr.map (Value.int .i64)).toArray 3 (0,0))/\∃Cl,J Cl (pre++gI at_ p s.nm st.length) st wc/\SP N A0 q g n cap G d line (q+2) (q+3) (q+1) bP bL q A2 Tt F1' Hy st Cl wc)∨(c=.bool true/\rH J Jx N A0 q g n cap G d line.data.toList st0 (.returned (.tuple #[])) wc))
   case first=>
    by_cases DV:at_<p
    ·have g2:decide ((at_:Int)<(p:Int))=true:=decide_eq_true (by omega);have aaf:Tryz.prog.follows .mixedOrders=true:=by kernel_rfl
     apply CX (R:=Jx)
     case main=>
      intro HF;apply CX (R:=(λB=>∃wA,J wA (pre++[⟨at_,p,s.nm,st.length,⟨#[]⟩⟩]) st B/\B.heap[Gr]?=some (.cells (fr.map (Value.int .i64)).toArray 3 (0,0))/\B.cell? ⟨bL,0,none⟩=some (.string line)/\SP N A0 q g n cap G d line (q+2) (q+3) (q+1) bP bL q A2 Tt F1' Hy st wA B))
      case main=>
       intro HT;have Lt:=aa (CY g n cap G (ja d) ⟨_,_,rfl⟩ at_ p st top s ⟨#[]⟩ w4.drew (Ai.out.p.gD w4.drew (Below.refl _ _).drew) Ka.out.1.2 Ck.out HS.out);unfold k9 ja Pv at Lt;rw[HST.out]at Lt
       have HX5:=aa (λ(w5:World) (gM:Below w4.drew.heap.size w4.drew w5)=>show YieldAt Fence.wide (m - 1) Tryz.prog l #[Value.agg #[.int .i64 at_,.int .i64 p,.string s.nm,.int .i64 st.length,.string ⟨#[]⟩],Value.agg #[.int .i64 Xu,.int .i64 rI,.int .i64 Xv,.int .i64 Xw,.int .i64 Xx,.int .i64 Xy,.int .i64 Xz,.int .i64 XA,.int .i64 XB]] w5 (λe B=>(e=.returned (.bool true)/\∃wA,J wA (pre++[⟨at_,p,s.nm,st.length,⟨#[]⟩⟩]) st B/\B.heap[Gr]?=some (.cells (fr.map (Value.int .i64)).toArray 3 (0,0))/\B.cell? ⟨bL,0,none⟩=some (.string line)/\SP N A0 q g n cap G d line (q+2) (q+3) (q+1) bP bL q A2 Tt F1' Hy st wA B)∨(e=.returned (.bool false)/\Jx B))/\w5.heap[q]?=some (.cells #[.int .i64 Xu,.int .i64 rI,.int .i64 Xv,.int .i64 Xw,.int .i64 Xx,.int .i64 Xy,.int .i64 Xz,.int .i64 XA,.int .i64 XB] 138 (0,0)) from by
        have hb:Below w4.heap.size w4 w5:=⟨gM.os,gM.tape,gM.output,gM.size,gM.block⟩;have hsp:=Ai.out.below hb;have E6:=(hb.block _ (ae ba.out)).trans ba.out;have hGf:¬Cl Gr:=λhc=>(hsp.cl _ hc).2.2.2.2 i3 _ abY rfl
        refine ⟨?_,by have h:=hsp.bs.1;rw[HST.out]at h;exact h⟩;have h:=HY.out Cl pre st ⟨at_,p,s.nm,st.length,⟨#[]⟩⟩ st w5 (HJ.out _ _ _ _ _ PQ.out (aK.au hb)) Ka.out (by have:=rS.out.short yV.out;omega);unfold Sp.v Pv k9 at h;rw[HST.out]at h;refine h.mono ?_;rintro e B (⟨rfl,wA,aR,gL,hj⟩|⟨rfl,yO⟩)
        ·exact .inl ⟨rfl,wA,hj,aR.same E6 hGf,ay (hsp.round aR gL).bl.1,hsp.round aR gL⟩
        ·exact .inr ⟨rfl,yO⟩)
       gi_region_with_o (first
         | (refine ⟨trivial,λh=>(by cases h),(callsIn_wide.2 Lt.out).mono ?_⟩;clear Lt;rintro e5 w5 ⟨rfl,gM⟩;obtain ⟨⟨fn,tmps,assign,body,hy,hR⟩,xz⟩:=HX5.out w5 gM;clear HX5 gM;have tV:=aa hR;clear hR;have t0:=ag (j:=0) xz rfl;have t1:=ag (j:=1) xz rfl;have t2:=ag (j:=2) xz rfl;have t3:=ag (j:=3) xz rfl;have t4:=ag (j:=4) xz rfl;have t5:=ag (j:=5) xz rfl;have t6:=ag (j:=6) xz rfl;have t7:=ag (j:=7) xz rfl;have t8:=ag (j:=8) xz rfl;clear xz)
         | (refine ⟨λh=>(by cases h),tV.out.mono ?_⟩;rintro e6 w6 (⟨rfl,QK⟩|⟨rfl,Rz⟩);rotate_left;(focus ((try dsimp only);refine (by with_reducible assumption:∀(a:Act) (w:World),wpAnyIn _ _ _ _ _ _ _ _ a w->(_:Act->World->Prop) a w) _ _ ?_;(try simp only[Act.put,List.setIfInBounds_toArray,List.set_cons_zero,List.set_cons_succ]);exact HF.out _ Rz));have YB:=QK.choose_spec.2.2.1;have HR6:=aa QK;clear QK tV hy t0 t1 t2 t3 t4 t5 t6 t7 t8))
       all_goals exact HT.out _ HR6.out
      case pf=>
       rintro w6 ⟨wA,hj6,Tw,YB,aag⟩;have HJ6:=aa hj6;have aah:=aa Tw;have RA:=aa aag;clear hj6 Tw aag;by_cases hpe:p=line.size
       ·have e2:((p:Int)==(line.size:Int))=true:=by simp[hpe]
        rw[e2];gi_wp2_with fail;gi_meet;rcases eM.out with ⟨sX,pF⟩|⟨sX,_⟩
        ·rw[ah]at sX;exact .inr ⟨rfl,⟨_,rfl⟩,.inl ⟨_,st,wA,A2,Tt,F1',.inr ⟨at_,pre,top,s,rS.out,by rw[ah];exact hlt,Ck.out,HS.out,pF,by rw[ah,hpe]⟩,HJ6.out,RA.out.p,RA.out.sub,λk hk=>(RA.out.cl k hk).1.2.2.1⟩⟩
        ·rw[ah]at sX;omega
       ·have e2:((p:Int)==(line.size:Int))=false:=by rw[beq_eq_false_iff_ne];omega
        rw[e2];gi_wp2_with fail;gi_meet;exact .inl ⟨rfl,by omega,aah.out,wA,by rw[gI,if_pos DV];exact HJ6.out,RA.out⟩
     case pf=>
      intro w6 Rz;have ab0:=aa Rz;clear Rz;refine wpAnyIn_take (i:=12) (v:=.bool true) rfl rfl (by kernel_rfl) (by kernel_rfl) (by kernel_rfl) (λ_ _ _ h=>h) ⟨Or.inl ⟨by rfl,λw=>by go_simp⟩,λ_=>rfl⟩ ?_
      try go_simp
      refine wpAnyIn_take (i:=13) (v:=.bool true) rfl rfl (by kernel_rfl) (by kernel_rfl) (by kernel_rfl) (λ_ _ _ h=>h) ⟨Or.inl ⟨by rfl,λw=>by go_simp⟩,λ_=>rfl⟩ ?_
      try go_simp
      refine wpAnyIn_take (i:=14) (v:=.bool true) rfl rfl (by kernel_rfl) (by kernel_rfl) (by kernel_rfl) (λ_ _ _ h=>h) ⟨Or.inl ⟨by rfl,λw=>by go_simp⟩,λ_=>rfl⟩ ?_
      try go_simp
      refine wpAnyIn_take (i:=15) (v:=undef) rfl rfl (by kernel_rfl) (by kernel_rfl) (by kernel_rfl) (λ_ _ _ h=>h) ⟨Or.inr ⟨by kernel_rfl,rfl⟩,λ_=>rfl⟩ ?_
      try go_simp
      refine wpAnyIn_take (i:=16) (v:=undef) rfl rfl (by kernel_rfl) (by kernel_rfl) (by kernel_rfl) (λ_ _ _ h=>h) ⟨Or.inr ⟨by kernel_rfl,rfl⟩,λ_=>rfl⟩ ?_
      try go_simp
      refine wpAnyIn_take (i:=17) (v:=undef) rfl rfl (by kernel_rfl) (by kernel_rfl) (by kernel_rfl) (λ_ _ _ h=>h) ⟨Or.inr ⟨by kernel_rfl,rfl⟩,λ_=>rfl⟩ ?_
      try go_simp
      refine wpAnyIn_take (i:=18) (v:=undef) rfl rfl (by kernel_rfl) (by kernel_rfl) (by kernel_rfl) (λ_ _ _ h=>h) ⟨Or.inr ⟨by kernel_rfl,rfl⟩,λ_=>rfl⟩ ?_
      try go_simp
      refine wpAnyIn_take (i:=19) (v:=.bool true) rfl rfl (by kernel_rfl) (by kernel_rfl) (by kernel_rfl) (λ_ _ _ h=>h) ⟨Or.inl ⟨by rfl,λw=>by go_simp⟩,λ_=>rfl⟩ ?_
      try go_simp
      refine wpAnyIn_done (by kernel_rfl) ?_ _;gi_wp2_with fail;gi_meet;exact .inr ⟨rfl,⟨_,rfl⟩,.inr ab0.out⟩
    ·obtain rfl:at_=p:=by omega
     have aaf:Tryz.prog.follows .mixedOrders=true:=by kernel_rfl
     have g2:decide ((at_:Int)<(at_:Int))=false:=decide_eq_false (by omega);have e2:((at_:Int)==(line.size:Int))=false:=by rw[beq_eq_false_iff_ne];omega
     refine wpIn_region_any aaf ?_;change wpAnyIn _ _ _ _ _ _ _ _ _ (World.drew _);refine wpAnyIn_take (i:=0) (v:=.int .i64 at_) rfl rfl (by kernel_rfl) (by kernel_rfl) (by kernel_rfl) (λ_ _ _ h=>h) ⟨Or.inl ⟨by rfl,λw=>by go_simp⟩,λ_=>rfl⟩ ?_
     try go_simp
     refine wpAnyIn_take (i:=1) (v:=.int .i64 at_) rfl rfl (by kernel_rfl) (by kernel_rfl) (by kernel_rfl) (λ_ _ _ h=>h) ⟨Or.inl ⟨by rfl,λw=>by go_simp⟩,λ_=>rfl⟩ ?_
     try go_simp
     refine wpAnyIn_take (i:=2) (v:=.bool false) rfl rfl (by kernel_rfl) (by kernel_rfl) (by kernel_rfl) (λ_ _ _ h=>h) ⟨Or.inl ⟨by rfl,λw=>by go_simp⟩,λ_=>rfl⟩ ?_
     try go_simp
     refine wpAnyIn_take (i:=3) (v:=.bool false) rfl rfl (by kernel_rfl) (by kernel_rfl) (by kernel_rfl) (λ_ _ _ h=>h) ⟨Or.inl ⟨by rfl,λw=>by go_simp⟩,λ_=>rfl⟩ ?_
     try go_simp
     refine wpAnyIn_take (i:=4) (v:=undef) rfl rfl (by kernel_rfl) (by kernel_rfl) (by kernel_rfl) (λ_ _ _ h=>h) ⟨Or.inr ⟨by kernel_rfl,rfl⟩,λ_=>rfl⟩ ?_
     try go_simp
     refine wpAnyIn_take (i:=5) (v:=undef) rfl rfl (by kernel_rfl) (by kernel_rfl) (by kernel_rfl) (λ_ _ _ h=>h) ⟨Or.inr ⟨by kernel_rfl,rfl⟩,λ_=>rfl⟩ ?_
     try go_simp
     refine wpAnyIn_take (i:=6) (v:=undef) rfl rfl (by kernel_rfl) (by kernel_rfl) (by kernel_rfl) (λ_ _ _ h=>h) ⟨Or.inr ⟨by kernel_rfl,rfl⟩,λ_=>rfl⟩ ?_
     try go_simp
     refine wpAnyIn_take (i:=7) (v:=undef) rfl rfl (by kernel_rfl) (by kernel_rfl) (by kernel_rfl) (λ_ _ _ h=>h) ⟨Or.inr ⟨by kernel_rfl,rfl⟩,λ_=>rfl⟩ ?_
     try go_simp
     refine wpAnyIn_take (i:=8) (v:=undef) rfl rfl (by kernel_rfl) (by kernel_rfl) (by kernel_rfl) (λ_ _ _ h=>h) ⟨Or.inr ⟨by kernel_rfl,rfl⟩,λ_=>rfl⟩ ?_
     try go_simp
     refine wpAnyIn_take (i:=10) (v:=undef) rfl rfl (by kernel_rfl) (by kernel_rfl) (by kernel_rfl) (λ_ _ _ h=>h) ⟨Or.inr ⟨by kernel_rfl,rfl⟩,λ_=>rfl⟩ ?_
     try go_simp
     refine wpAnyIn_ready (rs:=[9]) (by kernel_rfl) (by simp) ?_;refine AllReadyIn.cons rfl (λK hK=>?_) AllReadyIn.nil;go_simp
     first|refine hK _ _ ?_|(refine ⟨trivial,?_⟩;refine hK _ _ ?_)|(refine ⟨λ_ _=>trivial,?_⟩;refine hK _ _ ?_)
     clear hK K;refine wpAnyIn_ready (rs:=[11]) (by kernel_rfl) (by simp) ?_;refine AllReadyIn.cons rfl (λK hK=>?_) AllReadyIn.nil;go_simp
     first|refine hK _ _ ?_|(refine ⟨trivial,?_⟩;refine hK _ _ ?_)|(refine ⟨λ_ _=>trivial,?_⟩;refine hK _ _ ?_)
     clear hK K;refine wpAnyIn_take (i:=12) (v:=undef) rfl rfl (by kernel_rfl) (by kernel_rfl) (by kernel_rfl) (λ_ _ _ h=>h) ⟨Or.inr ⟨by kernel_rfl,rfl⟩,λ_=>rfl⟩ ?_
     try go_simp
     refine wpAnyIn_take (i:=13) (v:=.bool false) rfl rfl (by kernel_rfl) (by kernel_rfl) (by kernel_rfl) (λ_ _ _ h=>h) ⟨Or.inl ⟨by rfl,λw=>by go_simp⟩,λ_=>rfl⟩ ?_
     try go_simp
     refine wpAnyIn_take (i:=14) (v:=.bool false) rfl rfl (by kernel_rfl) (by kernel_rfl) (by kernel_rfl) (λ_ _ _ h=>h) ⟨Or.inl ⟨by rfl,λw=>by go_simp⟩,λ_=>rfl⟩ ?_
     try go_simp
     refine wpAnyIn_take (i:=15) (v:=.int .i64 at_) rfl rfl (by kernel_rfl) (by kernel_rfl) (by kernel_rfl) (λ_ _ _ h=>h) ⟨Or.inl ⟨by rfl,λw=>by go_simp⟩,λ_=>rfl⟩ ?_
     try go_simp
     refine wpAnyIn_ready (rs:=[16]) (by kernel_rfl) (by simp) ?_;refine AllReadyIn.cons rfl (λK hK=>?_) AllReadyIn.nil;go_simp;refine hK _ _ ?_;clear hK K;refine wpAnyIn_take (i:=17) (v:=.int .i64 line.size) rfl rfl (by kernel_rfl) (by kernel_rfl) (by kernel_rfl) (λ_ _ _ h=>h) ⟨Or.inl ⟨by rfl,λw=>by go_simp⟩,λ_=>rfl⟩ ?_
     try go_simp
     refine wpAnyIn_take (i:=18) (v:=.bool false) rfl rfl (by kernel_rfl) (by kernel_rfl) (by kernel_rfl) (λ_ _ _ h=>h) ⟨Or.inl ⟨by rfl,λw=>by go_simp⟩,λ_=>rfl⟩ ?_
     try go_simp
     refine wpAnyIn_take (i:=19) (v:=.bool false) rfl rfl (by kernel_rfl) (by kernel_rfl) (by kernel_rfl) (λ_ _ _ h=>h) ⟨Or.inl ⟨by rfl,λw=>by go_simp⟩,λ_=>rfl⟩ ?_
     try go_simp
     refine wpAnyIn_done (by kernel_rfl) ?_ _;gi_wp2_with fail;gi_meet;exact .inl ⟨rfl,by omega,ba.out,Cl,by rw[gI,if_neg DV,List.append_nil];exact HJ.out _ _ _ _ _ PQ.out (aK.au (Below.refl _ _).drew),Ai.out.below (Below.refl _ _).drew⟩
   case rest=>
    rcases hcut with ⟨rfl,hpl,hrow,Cl2,Lu,FQ⟩|⟨rfl,iB⟩
    ·rcases eM.out with ⟨hpe,_⟩|⟨M6,k,r,QX,Li,mi,VR,VS⟩
     ·rw[ah]at hpe;omega
     have eD:=FQ.bs.1;rw[HST.out]at eD;have y0:wc.cell? ⟨q,0,none⟩=some (.int .i64 Xu):=by simp[World.cell?,eD]
     have y1:wc.cell? ⟨q,1,none⟩=some (.int .i64 rI):=by simp[World.cell?,eD]
     have y2:wc.cell? ⟨q,2,none⟩=some (.int .i64 Xv):=by simp[World.cell?,eD]
     have y3:wc.cell? ⟨q,3,none⟩=some (.int .i64 Xw):=by simp[World.cell?,eD]
     have y4:wc.cell? ⟨q,4,none⟩=some (.int .i64 Xx):=by simp[World.cell?,eD]
     have y5:wc.cell? ⟨q,5,none⟩=some (.int .i64 Xy):=by simp[World.cell?,eD]
     have y6:wc.cell? ⟨q,6,none⟩=some (.int .i64 Xz):=by simp[World.cell?,eD]
     have y7:wc.cell? ⟨q,7,none⟩=some (.int .i64 XA):=by simp[World.cell?,eD]
     have y8:wc.cell? ⟨q,8,none⟩=some (.int .i64 XB):=by simp[World.cell?,eD]
     have z0:wc.cell? ⟨bP,0,none⟩=some (.slice (some ⟨g,0,none⟩) n cap):=by have h1:=FQ.bp.1;simp[World.cell?,h1]
     have z1:wc.cell? ⟨bP,1,none⟩=some (ja d):=by have h1:=FQ.bp.1;simp[World.cell?,h1]
     have z2:=ay FQ.bl.1;have z3:wc.cell? ⟨Gr,p,none⟩=some (.int .i64 k):=by simp[World.cell?,hrow,QX]
     have hG:=FQ.p.gD wc (Below.refl _ _);obtain ⟨z4,z40,rv,z5,⟨Zj,rcp,rfl,yX⟩⟩:=hG.at_ top s HS.out;obtain ⟨rg,lg,ln,lc,rfl,Tx⟩:=yX k r Li;have lL:k<s.rs.length:=aw Li;have htn:top<n:=by rw[hG.len];exact aw HS.out
     have r0:=Tx.c0;have r1:=Tx.c1;have r2:=Tx.c2;have r3:=Tx.c3;have r4:=Tx.c4;unfold ja at z1;have Ty:=aa hrow;have HJC:=aa Lu;have VT:=aa FQ;clear eD hrow Lu FQ hG yX Tx eM Ai ba PQ v0 v1 v2 v3 v4 v5 v6 v7 v8 q0 q1 q2;have m0:=World.new_ne wc ⟨bP,0,none⟩ z0;have m1:=World.new_ne wc ⟨g,top*2+1,none⟩ z5;have m2:=World.new_ne wc ⟨Gr,p,none⟩ z3
     have m3:=World.new_ne wc ⟨rg,k*5,none⟩ r0;go_wp2_with fail
     go_region_held3 (λw'=>w'.cell? ⟨bP,0,none⟩=some (.slice (some ⟨g,0,none⟩) n cap)/\w'.cell? ⟨g,top*2+1,none⟩=some (.slice (some ⟨rg,0,none⟩) s.rs.length rcp)/\w'.cell? ⟨Gr,p,none⟩=some (.int .i64 k)/\w'.cell? ⟨rg,k*5,none⟩=some (.int .i64 r.k)/\w'.cell? ⟨rg,k*5+1,none⟩=some (.int .i64 r.op)/\w'.cell? ⟨rg,k*5+2,none⟩=some (.string r.co)/\w'.cell? ⟨rg,k*5+3,none⟩=some (.slice (some ⟨lg,0,none⟩) ln lc)/\w'.cell? ⟨rg,k*5+4,none⟩=some (.int .i64 r.a.ix))
      (go_keep)
      (fail)
     all_goals
      obtain ⟨wd,hwd⟩:∃wd,(wc.alloc (.cells #[.int .i64 r.k,.int .i64 r.op,.string r.co,.slice (some ⟨lg,0,none⟩) ln lc,.int .i64 r.a.ix] 231)).drew=wd:=⟨_,rfl⟩;have Kb:Below wc.heap.size wc wd:=by rw[<-hwd];exact ((Below.refl _ _).alloc (Nat.le_refl _) _).drew
      have AP:wd.heap[wc.heap.size]?=some (.cells #[.int .i64 r.k,.int .i64 r.op,.string r.co,.slice (some ⟨lg,0,none⟩) ln lc,.int .i64 r.a.ix] 231 (0,0)):=by rw[<-hwd];exact af _ _
      obtain ⟨rb,DJ⟩:∃rb,rb=wc.heap.size:=⟨_,rfl⟩;rw[hwd,<-DJ];rw[<-DJ]at AP;have CZ:=aa (VT.out.below Kb);have yY:=aa ((Kb.block Gr (ae Ty.out)).trans Ty.out);have HJD:=aa (HJ.out _ _ _ _ _ HJC.out (aK.au Kb));have Xb:=aa AP;have hrA:¬A2 rb:=λh=>by have:=(VT.out.p.old _ h).2;omega
      have hrq:q<=rb:=by rw[DJ];exact VT.out.size.1
      have HPF:=aa (yu N A2 g n cap G d Tt F1' top s wd.drew (CZ.out.p.below (Below.refl _ _).drew) HS.out)
      have HK7:=aa (λ(w7:World) (B7:Nat->Prop) (aR:aK B7 wd w7) (hB:¬B7 bP/\¬B7 bL/\¬B7 Gr/\¬B7 rb)=>show (w7.cell? ⟨bP,1,none⟩=some (.func (.func 159) #[] #[.pointer (some ⟨d.kv,0,none⟩),.pointer (some ⟨d.wk,0,none⟩)])/\w7.cell? ⟨Gr,p,none⟩=some (.int .i64 k)/\w7.cell? ⟨bL,0,none⟩=some (.string line))/\w7.heap[Gr]?=some (.cells (fr.map (Value.int .i64)).toArray 3 (0,0))/\w7.heap[rb]?=some (.cells #[.int .i64 r.k,.int .i64 r.op,.string r.co,.slice (some ⟨lg,0,none⟩) ln lc,.int .i64 r.a.ix] 231 (0,0)) from by
       have h1:=aR.same CZ.out.bp.1 hB.1;have h2:=aR.same CZ.out.bl.1 hB.2.1;have h3:=aR.same yY.out hB.2.2.1;have h4:=aR.same Xb.out hB.2.2.2;exact ⟨⟨by simp[World.cell?,h1,ja],by simp[World.cell?,h3,QX],by simp[World.cell?,h2]⟩,h3,h4⟩)
      have P3:=(HK7.out wd.drew (λ_=>False) (aK.au (w:=wd) (Below.refl _ _).drew) ⟨id,id,id,id⟩).1;clear DJ hwd Kb AP z0 z1 z2 z3 z4 z5 r0 r1 r2 r3 r4 m0 m1 m2 m3 y0 y1 y2 y3 y4 y5 y6 y7 y8;have uQ:=aa (show ¬A2 bP/\¬A2 bL/\¬A2 Gr/\¬A2 rb from ⟨CZ.out.bp.2.2,CZ.out.bl.2.2,abZ,hrA⟩);have ab1:p<=line.size:=by omega
      go_wp2_with fail;obtain ⟨aai,aaj,aak⟩:=P3;have e0:wd.cell? ⟨bP,1,none⟩=_:=aai;have e1:wd.cell? ⟨Gr,p,none⟩=_:=aaj;have e2:wd.cell? ⟨bL,0,none⟩=_:=aak;clear aai aaj aak
      go_cut [7] from 60 (λva wz=>∃(stop:Nat) (A4:Nat->Prop) (f4:Nat->Option Value) (F4:Nat->List FD),va=.int .i64 stop/\Aj r.a.re line.data.toList p stop/\wz.heap[rb]?=some (.cells #[.int .i64 r.k,.int .i64 r.op,.string r.co,.slice (some ⟨lg,0,none⟩) ln lc,.int .i64 r.a.ix] 231 (0,0))/\SP N A0 q g n cap G d line (q+2) (q+3) (q+1) bP bL q A4 f4 F4 Hy st Cl2 wz/\J Cl2 (pre++gI at_ p s.nm st.length) st wz)
      case first=>
       go_region_with (first
        | (go_at_call 159;refine HPF.out.mono ?_;clear HPF;rintro e7 w7 ⟨ao,cp,A3,f3,F3,rfl,hf3,oQ,Ol,aal,hp7⟩;have HZ:aK A2 wd w7:=⟨oQ.os,oQ.tape,oQ.output,oQ.size,oQ.keep,oQ.stay⟩;clear oQ;obtain ⟨x,fg,hao,hx,xM,P4⟩:=hp7.get HS.out hf3 Li;subst hao;obtain ⟨⟨i0,i1,i2⟩,LG,ab2⟩:=HK7.out w7 A2 HZ uQ.out;have d0:=P4 0 _ rfl;have d1:=P4 1 _ rfl;have d2:=P4 2 _ rfl;have d3:=P4 3 _ rfl;have d4:=P4 4 _ rfl;have d5:=P4 5 _ rfl;rw[Nat.add_zero]at d0;have HEU:=aa (RB hp7 hf3 hx ab1 hz);unfold yg at HEU;have ab3:=aa (CZ.out.work HZ Ol hp7);have ab4:=aa HZ;have ab5:=aa Ol;have HXA:=aa xM;clear hf3 HZ Ol aal hp7 hx xM P4 LG ab2)
        | (go_at_call 129;refine HEU.out.mono ?_;clear HEU;rintro e8 w8 ⟨stop,A4,F4,rfl,qd,Om,Tz,hp8⟩;have Oo:aK A2 wd w8:=ab4.out.then Om (λy Wx Vg=>(ab5.out y Vg).elim id (λh=>absurd h (by have:y<wd.heap.size:=Wx;show ¬wd.heap.size<=y;omega)));obtain ⟨-,-,aam⟩:=HK7.out w8 A2 Oo uQ.out;have ab6:=aa (ab3.out.work Om Tz hp8);have ab7:=aa Oo;have ab8:=aa aam;have HLG:=aa qd;clear qd Om Tz hp8 Oo aam))
       all_goals
        go_wp2_with fail;go_meet;refine ⟨stop,A4,f3,F4,rfl,by have h:=HLG.out;rw[HXA.out]at h;exact h,ab8.out,ab6.out,HJ.out _ _ _ _ _ HJD.out (ab7.out.sub λy _ hy=>⟨(CZ.out.sub y hy).imp id λh=>by rw[<-HQ.out];exact h,λhc=>(CZ.out.cl y hc).1.2.2.1 hy⟩)⟩
      case rest=>
       obtain ⟨stop,A4,f4,F4,rfl,qd,AP,Kc,hjz⟩:=hcut;have hG:=Kc.p.gD wc (Below.refl _ _);have eD:=Kc.bs.1;rw[HST.out]at eD;have y0:wc.cell? ⟨q,0,none⟩=some (.int .i64 Xu):=by simp[World.cell?,eD]
       have y1:wc.cell? ⟨q,1,none⟩=some (.int .i64 rI):=by simp[World.cell?,eD]
       have y2:wc.cell? ⟨q,2,none⟩=some (.int .i64 Xv):=by simp[World.cell?,eD]
       have y3:wc.cell? ⟨q,3,none⟩=some (.int .i64 Xw):=by simp[World.cell?,eD]
       have y4:wc.cell? ⟨q,4,none⟩=some (.int .i64 Xx):=by simp[World.cell?,eD]
       have y5:wc.cell? ⟨q,5,none⟩=some (.int .i64 Xy):=by simp[World.cell?,eD]
       have y6:wc.cell? ⟨q,6,none⟩=some (.int .i64 Xz):=by simp[World.cell?,eD]
       have y7:wc.cell? ⟨q,7,none⟩=some (.int .i64 XA):=by simp[World.cell?,eD]
       have y8:wc.cell? ⟨q,8,none⟩=some (.int .i64 XB):=by simp[World.cell?,eD]
       have z0:wc.cell? ⟨bP,0,none⟩=some (.slice (some ⟨g,0,none⟩) n cap):=by have h1:=Kc.bp.1;simp[World.cell?,h1]
       have z1:wc.cell? ⟨bP,1,none⟩=some (ja d):=by have h1:=Kc.bp.1;simp[World.cell?,h1]
       have c2:wc.cell? ⟨rb,2,none⟩=some (.string r.co):=by simp[World.cell?,AP]
       have Lt:=aa (CY g n cap G (ja d) ⟨_,_,rfl⟩ p stop st top s r.co wc hG Ka.out.1.2 Ck.out HS.out);unfold k9 ja Pv at Lt;rw[HST.out]at Lt;unfold ja at z1;have aan:=aa Kc;have HJZ:=aa hjz;have VU:=aa AP;have HLG:=aa qd;clear hG eD Kc hjz AP qd;go_wp2_with fail;refine Lt.out.mono ?_;rintro e9 w9 ⟨rfl,Lj⟩;have aao:=aa (aan.out.below Lj)
       have VV:=aa ((Lj.block _ (ae VU.out)).trans VU.out);have P5:=aa (HJ.out _ _ _ _ _ HJZ.out (aK.au Lj));clear Lj Lt aan HJZ VU y0 y1 y2 y3 y4 y5 y6 y7 y8 z0 z1 c2;have VW:Good G (mQ r.k r.op st):=Ka.out.mQ (λhk=>(yV.out s (List.mem_of_getElem? HS.out) r (List.mem_of_getElem? Li)).2 hk);obtain ⟨x0,x1,x2,x3,x4,x5,x6,x7,x8,jK⟩:=nine VW.1.2
       obtain ⟨wf,hwf⟩:∃wf,w9.alloc (.cells #[.int .i64 p,.int .i64 stop,.string s.nm,.int .i64 st.length,.string r.co] 70)=wf:=⟨_,rfl⟩;have Xj:Below w9.heap.size w9 wf:=by rw[<-hwf];exact (Below.refl _ _).alloc (Nat.le_refl _) _
       have RD:=aa (aao.out.below Xj);have Kd:=(Xj.block _ (ae VV.out)).trans VV.out;have eD:=RD.out.bs.1;rw[HST.out]at eD;have IL:=aa eD;have y0:=ag (j:=0) eD rfl;have y1:=ag (j:=1) eD rfl;have y2:=ag (j:=2) eD rfl;have y3:=ag (j:=3) eD rfl;have y4:=ag (j:=4) eD rfl;have y5:=ag (j:=5) eD rfl;have y6:=ag (j:=6) eD rfl
       have y7:=ag (j:=7) eD rfl;have y8:=ag (j:=8) eD rfl;have z0:=ag (j:=0) Kd rfl;have z1:=ag (j:=1) Kd rfl;have z2:=ag (j:=2) Kd rfl;have z3:=ag (j:=3) Kd rfl;have z4:=ag (j:=4) Kd rfl;have HJF:=aa (HJ.out _ _ _ _ _ P5.out (aK.au Xj))
       have VG:=aa (CF st r.k r.op r.co (some ⟨lg,0,none⟩) ln lc r.a.ix Ka.out.1.2 Ka.out.1.1 wf);unfold zX k9 at VG;rw[HST.out,jK]at VG;have FR:=aa jK;have aap:=aa VW;clear eD Kd Xj jK VW aao VV P5;subst hwf;go_wp2_with fail;refine VG.out.mono ?_;rintro e10 w10 ⟨rfl,D6⟩;have Oq:=aa (RD.out.below D6)
       have aaq:=aa (HJ.out _ _ _ _ _ HJF.out (aK.au D6));have H6:=aa ((D6.block _ (ae IL.out)).trans IL.out);have FT:=(D6.block _ (by simp)).trans (af w9 (.cells #[.int .i64 p,.int .i64 stop,.string s.nm,.int .i64 st.length,.string r.co] 70));obtain ⟨sb,VX⟩:∃sb,sb=w9.heap.size:=⟨_,rfl⟩;rw[<-VX]at FT ⊢;have HSB:=aa FT
       have ab9:q≠sb:=by rw[VX];have:=ae IL.out;intro e;have h2:=RD.out.bs.1;have h3:=af w9 (.cells #[.int .i64 p,.int .i64 stop,.string s.nm,.int .i64 st.length,.string r.co] 70);rw[<-e,h2]at h3;simp at h3
       clear D6 VG y0 y1 y2 y3 y4 y5 y6 y7 y8 z0 z1 z2 z3 z4 RD HJF IL FT VX;dsimp only;refine (by with_reducible assumption:∀(a:Act) (w:World),wpList Tryz.prog _ _ _ a w->(_:Act->World->Prop) a w) _ _ ?_
       refine wpList_store_row rfl _ _ _ rfl q #[.int .i64 x0,.int .i64 x1,.int .i64 x2,.int .i64 x3,.int .i64 x4,.int .i64 x5,.int .i64 x6,.int .i64 x7,.int .i64 x8] rfl rfl 138 _ H6.out rfl rfl (by simp[Value.oneCell']) ?_
       obtain ⟨w11,RF⟩:∃w11,w10.setRow q #[.int .i64 x0,.int .i64 x1,.int .i64 x2,.int .i64 x3,.int .i64 x4,.int .i64 x5,.int .i64 x6,.int .i64 x7,.int .i64 x8]=w11:=⟨_,rfl⟩;have Ak:aK (λk=>k=q) w10 w11:=by rw[<-RF];exact aK.setRow _ H6.out (by decide) rfl
       have mj:w11.heap[q]?=some (.cells #[.int .i64 x0,.int .i64 x1,.int .i64 x2,.int .i64 x3,.int .i64 x4,.int .i64 x5,.int .i64 x6,.int .i64 x7,.int .i64 x8] 138 (0,0)):=by rw[<-RF];exact setRow_heap _ _ _ _ _ _ H6.out
       rw[RF];have Ot:=aa (Oq.out.RH (st':=mQ r.k r.op st) Ak (by rw[FR.out];exact mj));have VY:=aa (HJ.out _ _ _ _ _ aaq.out (Ak.sub λk _ hk=>⟨.inr (by rw[hk,<-HQ.out];exact Nat.le_refl _),λhc=>(Oq.out.cl k hc).1.2.2.2.2.2 hk⟩));have yv:=Ak.same HSB.out (λe=>ab9 e.symm);have y0:=ag (j:=0) mj rfl;have y1:=ag (j:=1) mj rfl
       have y2:=ag (j:=2) mj rfl;have y3:=ag (j:=3) mj rfl;have y4:=ag (j:=4) mj rfl;have y5:=ag (j:=5) mj rfl;have y6:=ag (j:=6) mj rfl;have y7:=ag (j:=7) mj rfl;have y8:=ag (j:=8) mj rfl;have z0:=ag (j:=0) yv rfl;have z1:=ag (j:=1) yv rfl;have z2:=ag (j:=2) yv rfl;have z3:=ag (j:=3) yv rfl
       have z4:=ag (j:=4) yv rfl;have Cm:ml s.rs line.data.toList at_ p k r stop:=⟨hap,M6,Li,mi,VR,VS,HLG.out⟩;have DV:=Cm.gt (yV.out s (List.mem_of_getElem? HS.out) r (List.mem_of_getElem? Li)).1;rw[ah]at DV;have PV:=aa (Path.hit rS.out (by rw[ah];exact hlt) Ck.out HS.out Cm)
       obtain ⟨fn,tmps,assign,body,hy,hR⟩:=HY.out Cl2 (pre++gI at_ p s.nm st.length) st ⟨p,stop,s.nm,st.length,r.co⟩ (mQ r.k r.op st) w11 VY.out aap.out (by have h1:=rS.out.short yV.out;have h2:=oH at_ p s.nm st.length;rw[List.length_append];omega);unfold Sp.v Pv k9 at hy;rw[FR.out]at hy;have tV:=aa hR;clear hR RF Ak mj yv Oq aaq H6 HSB Cm
       dsimp only[wpList,Exit.then];refine (by with_reducible assumption:∀(a:Act) (w:World),Code.wp Tryz.prog _ _ a w->(_:Act->World->Prop) a w) _ _ ?_;refine (wpIn_wide (n:=m)).1 ?_;gi_wp2_with fail;refine ⟨λh=>(by cases h),tV.out.mono ?_⟩;rintro e12 w12 (⟨rfl,Cl3,Ou,TA,Vv⟩|⟨rfl,yO⟩)
       ·have tG:=aa (show Ts J N A0 q g n cap G d line (q+2) (q+3) (q+1) bP bL q st0 (line.size - stop) (.int .i64 stop) w12 from ⟨stop,_,_,rfl,by omega,PV.out,aap.out,Cl3,A4,f4,F4,Hy,Vv,Ot.out.round Ou TA⟩);clear Ou TA Vv hy tV Ot VY PV y0 y1 y2 y3 y4 y5 y6 y7 y8 z0 z1 z2 z3 z4;gi_wp2_with fail;go_roundg (line.size - stop)
        case measure=>omega
        case rel=>exact tG.out
       ·have LL:=aa yO;clear yO hy tV Ot VY PV y0 y1 y2 y3 y4 y5 y6 y7 y8 z0 z1 z2 z3 z4;gi_wp2_with fail;go_end0;exact ⟨⟨_,rfl⟩,.inr LL.out⟩
    ·have pq:=aa iB;clear iB;go_wp2_with fail;go_end0;have h:=pq.out;rw[HQ.out]at h;exact ⟨⟨_,rfl⟩,h.2⟩
  ·have g1:decide ((at_:Int)<(line.size:Int))=false:=decide_eq_false (by omega);obtain rfl:at_=line.size:=by omega
   have ai:=aa (show rH J Jx N A0 q g n cap G d line.data.toList st0 (.returned (.tuple #[])) wr from ⟨⟨_,rfl⟩,.inl ⟨pre,st,Cl,A1,f1,F1,.inl (by rw[ah];exact Hx),AG,hsp.p,hsp.sub,λk hk=>(hsp.cl k hk).1.2.2.1⟩⟩);clear Hx hgd AG hsp;go_wp2_with fail;go_end0;have h:=ai.out;rw[HQ.out]at h;exact ⟨⟨_,rfl⟩,h.2⟩
end Go.Proofs.YtgncgdkpkkdaeaaGreatDoor
