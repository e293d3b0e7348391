import Derived.Test.YtgncgdkpkkdaeaaGreatDoorAX
set_option maxRecDepth 20000
set_option maxHeartbeats 40000000
namespace Go.Proofs.YtgncgdkpkkdaeaaGreatDoor
open Go.RowKit bu Go.Maps Go.Shelf
attribute [local go_sem] Oper.semAt_some
def SpJ(J:(Nat->Prop)->List Sp->List Nat->World->Prop)(N:Nat)(A0:Nat->Prop)(w0 g n cap:Nat)(G:List GS)(d:PD)(line:ByteArray)(K kv wk bP bL bS:Nat)(pre:List Sp)(st:List Nat)(W:World):Prop:=
 ∃Cl A1 f1 F1 f2,J Cl pre st W/\SP N A0 w0 g n cap G d line K kv wk bP bL bS A1 f1 F1 f2 st Cl W
def sN(J:(Nat->Prop)->List Sp->List Nat->World->Prop)(Jx:World->Prop)(N:Nat)(A0:Nat->Prop)(w0 g n cap:Nat)(G:List GS)(d:PD)(T:List UInt8)(st0:List Nat)(e:Ending)(W:World):Prop:=
 (∃v,e=.returned v)/\((∃bh st Cl A1 f1 F1,uE G T st0 bh st/\J Cl bh st W/\aJ W N A1 g n cap G d f1 F1/\(∀k,A1 k->A0 k∨w0<=k)/\∀k,Cl k->¬A1 k)∨Jx W)
theorem Pf{N:Nat}{A0:Nat->Prop}{g n cap:Nat}{G:List GS}{d:PD}{f:Nat->Option Value}{F:Nat->List FD}{line:ByteArray}{st0:List Nat}{bP bL q:Nat}{w W W1:World}{Cl:Nat->Prop}(h:aJ w N A0 g n cap G d f F)(il:∀k,Cl k->k<w.heap.size/\N<=k/\¬A0 k/\k≠bP/\k≠bL)(Mj:w.heap[bP]?=some (.cells #[.slice (some ⟨g,0,none⟩) n cap,jx d] 171 (0,0)))(Pg:w.heap[bL]?=some (.cells #[.string line] 9 (0,0)))(hA:¬A0 bP/\¬A0 bL)(hq:q=w.heap.size)(hW:W=w.alloc (.cells (aL st0).toArray 138)){e:Ending}(hr:wS #[.pointer (some ⟨bP,0,none⟩),.pointer (some ⟨bL,0,none⟩)] W e W1):
  SP N A0 q g n cap G d line (q+2) (q+3) (q+1) bP bL q A0 f F (λ_=>none) st0 Cl W1/\Below w.heap.size w W1:=by
 obtain ⟨-,hb,hs,h1,h2,h3⟩:=hr;have hWs:W.heap.size=q+1:=by rw[hW,hq];simp
 have rq:Below w.heap.size w W:=by rw[hW];exact cq _ _
 have hS:W.heap[q]?=some (.cells (aL st0).toArray 138 (0,0)):=by rw[hW,hq];exact ag _ _
 have hb1:Below w.heap.size w W1:=rq.trans (hb.mono rq.size);rw[hWs]at h1 h2 h3 hs;have hn:∀k,q<=k->¬A0 k:=λk hk ha=>by have:=(h.old k ha).2;omega
 refine ⟨⟨h.below hb1,λk hk=>.inl hk,⟨⟨h1,hn _ (by omega)⟩,⟨h2,hn _ (by omega)⟩,⟨⟨by have:=h.size;omega,hn _ (by omega)⟩,0,h3,Nat.zero_le _⟩,λi v hv=>by cases hv⟩,⟨(hb1.block _ (ae Mj)).trans Mj,by rw[hq];exact ae Mj,hA.1⟩,⟨(hb1.block _ (ae Pg)).trans Pg,by rw[hq];exact ae Pg,hA.2⟩,⟨(hb.block _ (by omega)).trans hS,bc _,hn _ (bc _)⟩,⟨by omega,by omega,by omega,λi v hv=>by cases hv⟩,⟨by omega,by omega,by omega,λi v hv=>by cases hv⟩,⟨by omega,by have:=h.size;omega⟩,λk hk=>?_⟩,hb1⟩
 obtain ⟨c1,c2,c3,c4,c5⟩:=il k hk;exact ⟨⟨by omega,c2,c3,c4,c5,by omega⟩,by omega,by omega,by omega,λi v hv=>by cases hv⟩
def Uk(J:(Nat->Prop)->List Sp->List Nat->World->Prop)(N:Nat)(A0:Nat->Prop)(w0 g n cap:Nat)(G:List GS)(d:PD)(line:ByteArray)(K kv wk bP bL bS:Nat)(st0:List Nat)(k:Nat)(va:Value)(wr:World):Prop:=
 ∃(at_:Nat) (st:List Nat) (pre:List Sp),va=.int .i64 at_/\at_+k=line.size/\Path G line.data.toList st0 at_ st pre/\Good G st/\SpJ J N A0 w0 g n cap G d line K kv wk bP bL bS pre st wr
theorem ES(m:Nat)(N:Nat)(A0 Cl0:Nat->Prop)(g n cap:Nat)(G:List GS)(d:PD)(f:Nat->Option Value)(F:Nat->List FD)(line:ByteArray)(st0:List Nat)(bB bP bL l:Nat)(J:(Nat->Prop)->List Sp->List Nat->World->Prop)(Jx:World->Prop)(w:World)(h:aJ w N A0 g n cap G d f F)(eM:yq G)(cE:Good G st0)(hz:line.size<=3000)
  (Ph:w.heap[bB]?=some (.cells (aL st0).toArray 138 (0,0))) (Mj:w.heap[bP]?=some (.cells #[.slice (some ⟨g,0,none⟩) n cap,jx d] 171 (0,0))) (Pg:w.heap[bL]?=some (.cells #[.string line] 9 (0,0))) (hA:¬A0 bP/\¬A0 bL)
  (il:∀k,Cl0 k->k<w.heap.size/\N<=k/\¬A0 k/\k≠bP/\k≠bL)
  (hJ:∀Cl pre st A B,J Cl pre st A->aM (λk=>(A0 k∨w.heap.size<=k)/\¬Cl k) A B->J Cl pre st B)
  (hY:∀Cl pre st x st' A,J Cl pre st A->Good G st'->pre.length<=7000->YieldAt Fence.wide (m - 1) Tryz.prog l #[Sp.v x,lV st'] A λe B=>(e=.returned (.bool true)/\∃xq,aM Cl A B/\(∀k,xq k->k<B.heap.size/\(Cl k∨A.heap.size<=k))/\J xq (pre++[x]) st' B)∨(e=.returned (.bool false)/\Jx B))
  (h0:J Cl0 [] st0 w):
  CallsIn Fence.wide m Tryz.prog 122 #[.func (.yield l) #[] #[],.pointer (some ⟨bB,0,none⟩),.pointer (some ⟨bP,0,none⟩),.pointer (some ⟨bL,0,none⟩)] w (sN J Jx N A0 w.heap.size g n cap G d line.data.toList st0):=by
 refine callsIn_wide.2 ?_;obtain ⟨a0,a1,a2,a3,a4,a5,a6,a7,a8,hst⟩:=nine cE.1.2;rw[hst]at Ph;have s0:w.cell? ⟨bB,0,none⟩=some (.int .i64 a0):=by simp[World.cell?,Ph]
 have s1:w.cell? ⟨bB,1,none⟩=some (.int .i64 a1):=by simp[World.cell?,Ph]
 have s2:w.cell? ⟨bB,2,none⟩=some (.int .i64 a2):=by simp[World.cell?,Ph]
 have s3:w.cell? ⟨bB,3,none⟩=some (.int .i64 a3):=by simp[World.cell?,Ph]
 have s4:w.cell? ⟨bB,4,none⟩=some (.int .i64 a4):=by simp[World.cell?,Ph]
 have s5:w.cell? ⟨bB,5,none⟩=some (.int .i64 a5):=by simp[World.cell?,Ph]
 have s6:w.cell? ⟨bB,6,none⟩=some (.int .i64 a6):=by simp[World.cell?,Ph]
 have s7:w.cell? ⟨bB,7,none⟩=some (.int .i64 a7):=by simp[World.cell?,Ph]
 have s8:w.cell? ⟨bB,8,none⟩=some (.int .i64 a8):=by simp[World.cell?,Ph]
 obtain ⟨q,hq⟩:∃q,q=w.heap.size:=⟨_,rfl⟩;obtain ⟨W,hW⟩:∃W,w.alloc (.cells #[.int .i64 a0,.int .i64 a1,.int .i64 a2,.int .i64 a3,.int .i64 a4,.int .i64 a5,.int .i64 a6,.int .i64 a7,.int .i64 a8] 138)=W:=⟨_,rfl⟩;have hWs:W.heap.size=q+1:=by rw[<-hW,hq];simp
 have HRM:=aa (yi #[.pointer (some ⟨bP,0,none⟩),.pointer (some ⟨bL,0,none⟩)] W);have pY:=aa (λ(e:Ending) (W1:World) (hr:wS #[.pointer (some ⟨bP,0,none⟩),.pointer (some ⟨bL,0,none⟩)] W e W1)=>Pf (st0:=st0) h il Mj Pg hA hq (by rw[hst];exact hW.symm) hr);have HJ:=aa hJ;have HY:=aa hY;have H0:=aa h0;have zP:=aa eM;have HGD:=aa cE
 clear h Ph Mj Pg hA il hJ hY h0 eM cE hst;go_enter Tryz.func122,Tryz.ntmps122;go_wp2_with fail;rw[<-hq];have HQ:=aa hq;clear hq hW;refine HRM.out.mono ?_;rintro e W1 hrm;obtain ⟨hsp,rq⟩:=pY.out e W1 hrm;obtain ⟨rfl,-⟩:=hrm;have pN:=aa hsp;have vu:=aa rq;have b0:=aA hsp.bl.1
 clear hsp rq HRM pY s0 s1 s2 s3 s4 s5 s6 s7 s8;go_wp2_with fail;go_loopg [7] line.size (λk va wr=>Uk J N A0 q g n cap G d line (q+2) (q+3) (q+1) bP bL q st0 k va wr)
 case atStart=>exact ⟨0,st0,[],rfl,by omega,.start,HGD.out,_,_,_,_,_,HJ.out _ _ _ _ _ H0.out (aM.ay vu.out),pN.out⟩
 case round=>
  obtain ⟨at_,st,pre,rfl,hk,IX,hgd,Cl,A1,f1,F1,f2,BH,hsp⟩:=hrel;have b1:=aA hsp.bl.1;by_cases hlt:at_<line.size
  ·have g1:decide ((at_:Int)<(line.size:Int))=true:=cF (by omega);obtain ⟨Yg,sO,Yh,Yi,Yj,Yk,Yl,Ym,Yn,hst⟩:=nine hgd.1.2;obtain ⟨top,s,Da,hs⟩:=hgd.top;have eF:=hsp.bs.1;rw[hst]at eF;have v0:wr.cell? ⟨q,0,none⟩=some (.int .i64 Yg):=by simp[World.cell?,eF]
   have v1:wr.cell? ⟨q,1,none⟩=some (.int .i64 sO):=by simp[World.cell?,eF]
   have v2:wr.cell? ⟨q,2,none⟩=some (.int .i64 Yh):=by simp[World.cell?,eF]
   have v3:wr.cell? ⟨q,3,none⟩=some (.int .i64 Yi):=by simp[World.cell?,eF]
   have v4:wr.cell? ⟨q,4,none⟩=some (.int .i64 Yj):=by simp[World.cell?,eF]
   have v5:wr.cell? ⟨q,5,none⟩=some (.int .i64 Yk):=by simp[World.cell?,eF]
   have v6:wr.cell? ⟨q,6,none⟩=some (.int .i64 Yl):=by simp[World.cell?,eF]
   have v7:wr.cell? ⟨q,7,none⟩=some (.int .i64 Ym):=by simp[World.cell?,eF]
   have v8:wr.cell? ⟨q,8,none⟩=some (.int .i64 Yn):=by simp[World.cell?,eF]
   have HU:=aa (oL st top hgd.1.2 Da wr);unfold lV at HU;rw[hst]at HU;have pY:=aa hsp;have sX:=aa IX;have KZ:=aa hgd;have HJJ:=aa BH;have Db:=aa Da;have HS:=aa hs;have HST:=aa hst;clear hsp IX hgd BH Da hs hst eF;go_wp2_with fail;refine HU.out.mono ?_;rintro e2 w2 ⟨rfl,hb2⟩;have cW:=aa hb2;have Bj:=aa (pY.out.below hb2)
   have R8:=aa (SA N A1 g n cap G d f1 F1 top s line (q+2) (q+3) (q+1) bP bL f2 w2 Bj.out.p Bj.out.r HS.out (by omega) hz Bj.out.bp.1 Bj.out.bl.1);clear hb2 HU v0 v1 v2 v3 v4 v5 v6 v7 v8;go_wp2_with fail;refine R8.out.mono ?_;rintro e3 w3 ⟨Gr,fr,A2,Ul,F1',IY,rfl,hrow,hdone,oT,Um,aaL,Un,hr3,⟨i3,hi3⟩,hf3⟩;have acv:=hi3
   have Bk:=aa (Bj.out.row oT Um Un hr3 hf3);have adX:=Bk.out.new.2.2.2 i3 _ hi3 Gr rfl;have acw:¬A2 Gr:=by obtain ⟨_,Gr',_,_,hv,h3,_⟩:=hr3.rows i3 _ hi3;cases hv;exact h3
   have bj:=aa hrow;have aaM:=aa hdone
   have QE:=aa (HJ.out _ _ _ _ _ (HJ.out _ _ _ _ _ HJJ.out (aM.ay cW.out)) (oT.sub λk _ hk=>by
    rcases hk with hk|rfl
    ·exact ⟨(Bj.out.sub k hk).imp id λh=>by rw[<-HQ.out];exact h,λhc=>(Bj.out.cl k hc).1.2.2.1 hk⟩
    ·exact ⟨.inr (by rw[<-HQ.out];omega),λhc=>(Bj.out.cl _ hc).2.1 rfl⟩))
   have mr:fr.length=line.size:=by rw[hdone.1,aj]
   have jm:=aa (ye Gr fr at_ w3 hrow (by omega) (by omega));rw[mr]at jm;clear hrow hdone oT Um aaL Un hr3 hi3 hf3 R8 pY Bj HJJ cW;rw[aj];go_wp2_with fail;refine jm.out.mono ?_;rintro e4 w4 ⟨p,rfl,IZ,rfl⟩;have adY:p<=line.size:=by have:=IZ.2.1;omega
   have fk:=aa (Pj aaM.out IZ);have hap:=IZ.1;clear IZ jm;have eF:=Bk.out.bs.1;rw[HST.out]at eF;have v0:w4.cell? ⟨q,0,none⟩=some (.int .i64 Yg):=by simp[World.cell?,eF]
   have v1:w4.cell? ⟨q,1,none⟩=some (.int .i64 sO):=by simp[World.cell?,eF]
   have v2:w4.cell? ⟨q,2,none⟩=some (.int .i64 Yh):=by simp[World.cell?,eF]
   have v3:w4.cell? ⟨q,3,none⟩=some (.int .i64 Yi):=by simp[World.cell?,eF]
   have v4:w4.cell? ⟨q,4,none⟩=some (.int .i64 Yj):=by simp[World.cell?,eF]
   have v5:w4.cell? ⟨q,5,none⟩=some (.int .i64 Yk):=by simp[World.cell?,eF]
   have v6:w4.cell? ⟨q,6,none⟩=some (.int .i64 Yl):=by simp[World.cell?,eF]
   have v7:w4.cell? ⟨q,7,none⟩=some (.int .i64 Ym):=by simp[World.cell?,eF]
   have v8:w4.cell? ⟨q,8,none⟩=some (.int .i64 Yn):=by simp[World.cell?,eF]
   have q0:w4.cell? ⟨bP,0,none⟩=some (.slice (some ⟨g,0,none⟩) n cap):=by have h1:=Bk.out.bp.1;simp[World.cell?,h1]
   have q1:w4.cell? ⟨bP,1,none⟩=some (jx d):=by have h1:=Bk.out.bp.1;simp[World.cell?,h1]
   have q2:=aA Bk.out.bl.1;unfold jx at q1;clear eF;go_wp2_with fail;refine (wpIn_wide (n:=m)).1 ?_
   gi_cut [47] from 28 (λc wc=>(c=.bool false/\p<line.size/\wc.heap[Gr]?=some (.cells (fr.map (Value.int .i64)).toArray 3 (0,0))/\∃Cl,J Cl (pre++ig at_ p s.nm st.length) st wc/\SP N A0 q g n cap G d line (q+2) (q+3) (q+1) bP bL q A2 Ul F1' IY st Cl wc)∨(c=.bool true/\sN J Jx N A0 q g n cap G d line.data.toList st0 (.returned (.tuple #[])) wc))
   case first=>
    by_cases EH:at_<p
    ·have g2:decide ((at_:Int)<(p:Int))=true:=cF (by omega);have aaN:Tryz.prog.follows .mixedOrders=true:=by kernel_rfl
     apply DM (R:=Jx)
     case main=>
      intro HF;apply DM (R:=(λB=>∃xq,J xq (pre++[⟨at_,p,s.nm,st.length,⟨#[]⟩⟩]) st B/\B.heap[Gr]?=some (.cells (fr.map (Value.int .i64)).toArray 3 (0,0))/\B.cell? ⟨bL,0,none⟩=some (.string line)/\SP N A0 q g n cap G d line (q+2) (q+3) (q+1) bP bL q A2 Ul F1' IY st xq B))
      case main=>
       intro HT;have Mk:=aa (DN g n cap G (jx d) ⟨_,_,rfl⟩ at_ p st top s ⟨#[]⟩ w4.drew (Bk.out.p.ib w4.drew (Below.refl _ _).drew) KZ.out.1.2 Db.out HS.out);unfold lV jx Qo at Mk;rw[HST.out]at Mk
       have HX5:=aa (λ(w5:World) (iq:Below w4.drew.heap.size w4.drew w5)=>show YieldAt Fence.wide (m - 1) Tryz.prog l #[Value.agg #[.int .i64 at_,.int .i64 p,.string s.nm,.int .i64 st.length,.string ⟨#[]⟩],Value.agg #[.int .i64 Yg,.int .i64 sO,.int .i64 Yh,.int .i64 Yi,.int .i64 Yj,.int .i64 Yk,.int .i64 Yl,.int .i64 Ym,.int .i64 Yn]] w5 (λe B=>(e=.returned (.bool true)/\∃xq,J xq (pre++[⟨at_,p,s.nm,st.length,⟨#[]⟩⟩]) st B/\B.heap[Gr]?=some (.cells (fr.map (Value.int .i64)).toArray 3 (0,0))/\B.cell? ⟨bL,0,none⟩=some (.string line)/\SP N A0 q g n cap G d line (q+2) (q+3) (q+1) bP bL q A2 Ul F1' IY st xq B)∨(e=.returned (.bool false)/\Jx B))/\w5.heap[q]?=some (.cells #[.int .i64 Yg,.int .i64 sO,.int .i64 Yh,.int .i64 Yi,.int .i64 Yj,.int .i64 Yk,.int .i64 Yl,.int .i64 Ym,.int .i64 Yn] 138 (0,0)) from by
        have hb:Below w4.heap.size w4 w5:=⟨iq.os,iq.tape,iq.output,iq.size,iq.block⟩;have hsp:=Bk.out.below hb;have F5:=(hb.block _ (ae bj.out)).trans bj.out;have hGf:¬Cl Gr:=λhc=>(hsp.cl _ hc).2.2.2.2 i3 _ acv rfl
        refine ⟨?_,by have h:=hsp.bs.1;rw[HST.out]at h;exact h⟩;have h:=HY.out Cl pre st ⟨at_,p,s.nm,st.length,⟨#[]⟩⟩ st w5 (HJ.out _ _ _ _ _ QE.out (aM.ay hb)) KZ.out (by have:=sX.out.short zP.out;omega);unfold Sp.v Qo lV at h;rw[HST.out]at h;refine h.mono ?_;rintro e B (⟨rfl,xq,aR,il,hj⟩|⟨rfl,zI⟩)
        ·exact .inl ⟨rfl,xq,hj,aR.same F5 hGf,aA (hsp.round aR il).bl.1,hsp.round aR il⟩
        ·exact .inr ⟨rfl,zI⟩)
       gi_region_with_o (first
         | (refine ⟨trivial,λh=>(by cases h),(callsIn_wide.2 Mk.out).mono ?_⟩;clear Mk;rintro e5 w5 ⟨rfl,iq⟩;obtain ⟨⟨fn,tmps,assign,body,hy,hR⟩,yj⟩:=HX5.out w5 iq;clear HX5 iq;have uJ:=aa hR;clear hR;have t0:=ai (j:=0) yj rfl;have t1:=ai (j:=1) yj rfl;have t2:=ai (j:=2) yj rfl;have t3:=ai (j:=3) yj rfl;have t4:=ai (j:=4) yj rfl;have t5:=ai (j:=5) yj rfl;have t6:=ai (j:=6) yj rfl;have t7:=ai (j:=7) yj rfl;have t8:=ai (j:=8) yj rfl;clear yj)
         | (refine ⟨λh=>(by cases h),uJ.out.mono ?_⟩;rintro e6 w6 (⟨rfl,RM⟩|⟨rfl,SB⟩);rotate_left;(focus ((try dsimp only);refine (by with_reducible assumption:∀(a:Act) (w:World),wpAnyIn _ _ _ _ _ _ _ _ a w->(_:Act->World->Prop) a w) _ _ ?_;(try simp only[Act.put,List.setIfInBounds_toArray,List.set_cons_zero,List.set_cons_succ]);exact HF.out _ SB));have Zm:=RM.choose_spec.2.2.1;have HR6:=aa RM;clear RM uJ hy t0 t1 t2 t3 t4 t5 t6 t7 t8))
       all_goals exact HT.out _ HR6.out
      case pf=>
       rintro w6 ⟨xq,hj6,Uo,Zm,aaO⟩;have HJ6:=aa hj6;have aaP:=aa Uo;have SC:=aa aaO;clear hj6 Uo aaO;by_cases hpe:p=line.size
       ·have e2:((p:Int)==(line.size:Int))=true:=by simp[hpe]
        rw[e2];gi_wp2_with fail;gi_meet;rcases fk.out with ⟨tX,qh⟩|⟨tX,_⟩
        ·rw[aj]at tX;exact .inr ⟨rfl,⟨_,rfl⟩,.inl ⟨_,st,xq,A2,Ul,F1',.inr ⟨at_,pre,top,s,sX.out,by rw[aj];exact hlt,Db.out,HS.out,qh,by rw[aj,hpe]⟩,HJ6.out,SC.out.p,SC.out.sub,λk hk=>(SC.out.cl k hk).1.2.2.1⟩⟩
        ·rw[aj]at tX;omega
       ·have e2:((p:Int)==(line.size:Int))=false:=by rw[er];omega
        rw[e2];gi_wp2_with fail;gi_meet;exact .inl ⟨rfl,by omega,aaP.out,xq,by rw[ig,if_pos EH];exact HJ6.out,SC.out⟩
     case pf=>
      intro w6 SB;have acx:=aa SB;clear SB;refine wpAnyIn_take (i:=12) (v:=.bool true) rfl rfl (by kernel_rfl) (by kernel_rfl) (by kernel_rfl) (λ_ _ _ h=>h) ⟨Or.inl ⟨by rfl,λw=>by go_simp⟩,λ_=>rfl⟩ ?_
      try go_simp
      refine wpAnyIn_take (i:=13) (v:=.bool true) rfl rfl (by kernel_rfl) (by kernel_rfl) (by kernel_rfl) (λ_ _ _ h=>h) ⟨Or.inl ⟨by rfl,λw=>by go_simp⟩,λ_=>rfl⟩ ?_
      try go_simp
      refine wpAnyIn_take (i:=14) (v:=.bool true) rfl rfl (by kernel_rfl) (by kernel_rfl) (by kernel_rfl) (λ_ _ _ h=>h) ⟨Or.inl ⟨by rfl,λw=>by go_simp⟩,λ_=>rfl⟩ ?_
      try go_simp
      refine wpAnyIn_take (i:=15) (v:=undef) rfl rfl (by kernel_rfl) (by kernel_rfl) (by kernel_rfl) (λ_ _ _ h=>h) ⟨Or.inr ⟨by kernel_rfl,rfl⟩,λ_=>rfl⟩ ?_
      try go_simp
      refine wpAnyIn_take (i:=16) (v:=undef) rfl rfl (by kernel_rfl) (by kernel_rfl) (by kernel_rfl) (λ_ _ _ h=>h) ⟨Or.inr ⟨by kernel_rfl,rfl⟩,λ_=>rfl⟩ ?_
      try go_simp
      refine wpAnyIn_take (i:=17) (v:=undef) rfl rfl (by kernel_rfl) (by kernel_rfl) (by kernel_rfl) (λ_ _ _ h=>h) ⟨Or.inr ⟨by kernel_rfl,rfl⟩,λ_=>rfl⟩ ?_
      try go_simp
      refine wpAnyIn_take (i:=18) (v:=undef) rfl rfl (by kernel_rfl) (by kernel_rfl) (by kernel_rfl) (λ_ _ _ h=>h) ⟨Or.inr ⟨by kernel_rfl,rfl⟩,λ_=>rfl⟩ ?_
      try go_simp
      refine wpAnyIn_take (i:=19) (v:=.bool true) rfl rfl (by kernel_rfl) (by kernel_rfl) (by kernel_rfl) (λ_ _ _ h=>h) ⟨Or.inl ⟨by rfl,λw=>by go_simp⟩,λ_=>rfl⟩ ?_
      try go_simp
      refine wpAnyIn_done (by kernel_rfl) ?_ _;gi_wp2_with fail;gi_meet;exact .inr ⟨rfl,⟨_,rfl⟩,.inr acx.out⟩
    ·obtain rfl:at_=p:=by omega
     have aaN:Tryz.prog.follows .mixedOrders=true:=by kernel_rfl
     have g2:decide ((at_:Int)<(at_:Int))=false:=bV (by omega);have e2:((at_:Int)==(line.size:Int))=false:=by rw[er];omega
     refine wpIn_region_any aaN ?_;change wpAnyIn _ _ _ _ _ _ _ _ _ (World.drew _);refine wpAnyIn_take (i:=0) (v:=.int .i64 at_) rfl rfl (by kernel_rfl) (by kernel_rfl) (by kernel_rfl) (λ_ _ _ h=>h) ⟨Or.inl ⟨by rfl,λw=>by go_simp⟩,λ_=>rfl⟩ ?_
     try go_simp
     refine wpAnyIn_take (i:=1) (v:=.int .i64 at_) rfl rfl (by kernel_rfl) (by kernel_rfl) (by kernel_rfl) (λ_ _ _ h=>h) ⟨Or.inl ⟨by rfl,λw=>by go_simp⟩,λ_=>rfl⟩ ?_
     try go_simp
     refine wpAnyIn_take (i:=2) (v:=.bool false) rfl rfl (by kernel_rfl) (by kernel_rfl) (by kernel_rfl) (λ_ _ _ h=>h) ⟨Or.inl ⟨by rfl,λw=>by go_simp⟩,λ_=>rfl⟩ ?_
     try go_simp
     refine wpAnyIn_take (i:=3) (v:=.bool false) rfl rfl (by kernel_rfl) (by kernel_rfl) (by kernel_rfl) (λ_ _ _ h=>h) ⟨Or.inl ⟨by rfl,λw=>by go_simp⟩,λ_=>rfl⟩ ?_
     try go_simp
     refine wpAnyIn_take (i:=4) (v:=undef) rfl rfl (by kernel_rfl) (by kernel_rfl) (by kernel_rfl) (λ_ _ _ h=>h) ⟨Or.inr ⟨by kernel_rfl,rfl⟩,λ_=>rfl⟩ ?_
     try go_simp
     refine wpAnyIn_take (i:=5) (v:=undef) rfl rfl (by kernel_rfl) (by kernel_rfl) (by kernel_rfl) (λ_ _ _ h=>h) ⟨Or.inr ⟨by kernel_rfl,rfl⟩,λ_=>rfl⟩ ?_
     try go_simp
     refine wpAnyIn_take (i:=6) (v:=undef) rfl rfl (by kernel_rfl) (by kernel_rfl) (by kernel_rfl) (λ_ _ _ h=>h) ⟨Or.inr ⟨by kernel_rfl,rfl⟩,λ_=>rfl⟩ ?_
     try go_simp
     refine wpAnyIn_take (i:=7) (v:=undef) rfl rfl (by kernel_rfl) (by kernel_rfl) (by kernel_rfl) (λ_ _ _ h=>h) ⟨Or.inr ⟨by kernel_rfl,rfl⟩,λ_=>rfl⟩ ?_
     try go_simp
     refine wpAnyIn_take (i:=8) (v:=undef) rfl rfl (by kernel_rfl) (by kernel_rfl) (by kernel_rfl) (λ_ _ _ h=>h) ⟨Or.inr ⟨by kernel_rfl,rfl⟩,λ_=>rfl⟩ ?_
     try go_simp
     refine wpAnyIn_take (i:=10) (v:=undef) rfl rfl (by kernel_rfl) (by kernel_rfl) (by kernel_rfl) (λ_ _ _ h=>h) ⟨Or.inr ⟨by kernel_rfl,rfl⟩,λ_=>rfl⟩ ?_
     try go_simp
     refine wpAnyIn_ready (rs:=[9]) (by kernel_rfl) (by simp) ?_;refine AllReadyIn.cons rfl (λK hK=>?_) AllReadyIn.nil;go_simp
     first|refine hK _ _ ?_|(refine ⟨trivial,?_⟩;refine hK _ _ ?_)|(refine ⟨λ_ _=>trivial,?_⟩;refine hK _ _ ?_)
     clear hK K;refine wpAnyIn_ready (rs:=[11]) (by kernel_rfl) (by simp) ?_;refine AllReadyIn.cons rfl (λK hK=>?_) AllReadyIn.nil;go_simp
     first|refine hK _ _ ?_|(refine ⟨trivial,?_⟩;refine hK _ _ ?_)|(refine ⟨λ_ _=>trivial,?_⟩;refine hK _ _ ?_)
     clear hK K;refine wpAnyIn_take (i:=12) (v:=undef) rfl rfl (by kernel_rfl) (by kernel_rfl) (by kernel_rfl) (λ_ _ _ h=>h) ⟨Or.inr ⟨by kernel_rfl,rfl⟩,λ_=>rfl⟩ ?_
     try go_simp
     refine wpAnyIn_take (i:=13) (v:=.bool false) rfl rfl (by kernel_rfl) (by kernel_rfl) (by kernel_rfl) (λ_ _ _ h=>h) ⟨Or.inl ⟨by rfl,λw=>by go_simp⟩,λ_=>rfl⟩ ?_
     try go_simp
     refine wpAnyIn_take (i:=14) (v:=.bool false) rfl rfl (by kernel_rfl) (by kernel_rfl) (by kernel_rfl) (λ_ _ _ h=>h) ⟨Or.inl ⟨by rfl,λw=>by go_simp⟩,λ_=>rfl⟩ ?_
     try go_simp
     refine wpAnyIn_take (i:=15) (v:=.int .i64 at_) rfl rfl (by kernel_rfl) (by kernel_rfl) (by kernel_rfl) (λ_ _ _ h=>h) ⟨Or.inl ⟨by rfl,λw=>by go_simp⟩,λ_=>rfl⟩ ?_
     try go_simp
     refine wpAnyIn_ready (rs:=[16]) (by kernel_rfl) (by simp) ?_;refine AllReadyIn.cons rfl (λK hK=>?_) AllReadyIn.nil;go_simp;refine hK _ _ ?_;clear hK K;refine wpAnyIn_take (i:=17) (v:=.int .i64 line.size) rfl rfl (by kernel_rfl) (by kernel_rfl) (by kernel_rfl) (λ_ _ _ h=>h) ⟨Or.inl ⟨by rfl,λw=>by go_simp⟩,λ_=>rfl⟩ ?_
     try go_simp
     refine wpAnyIn_take (i:=18) (v:=.bool false) rfl rfl (by kernel_rfl) (by kernel_rfl) (by kernel_rfl) (λ_ _ _ h=>h) ⟨Or.inl ⟨by rfl,λw=>by go_simp⟩,λ_=>rfl⟩ ?_
     try go_simp
     refine wpAnyIn_take (i:=19) (v:=.bool false) rfl rfl (by kernel_rfl) (by kernel_rfl) (by kernel_rfl) (λ_ _ _ h=>h) ⟨Or.inl ⟨by rfl,λw=>by go_simp⟩,λ_=>rfl⟩ ?_
     try go_simp
     refine wpAnyIn_done (by kernel_rfl) ?_ _;gi_wp2_with fail;gi_meet;exact .inl ⟨rfl,by omega,bj.out,Cl,by rw[ig,if_neg EH,List.append_nil];exact HJ.out _ _ _ _ _ QE.out (aM.ay (Below.refl _ _).drew),Bk.out.below (Below.refl _ _).drew⟩
   case rest=>
    rcases hcut with ⟨rfl,hpl,hrow,Cl2,Ml,GJ⟩|⟨rfl,iU⟩
    ·rcases fk.out with ⟨hpe,_⟩|⟨NY,k,r,R1,Mb,mW,WJ,WK⟩
     ·rw[aj]at hpe;omega
     have eF:=GJ.bs.1;rw[HST.out]at eF;have y0:wc.cell? ⟨q,0,none⟩=some (.int .i64 Yg):=by simp[World.cell?,eF]
     have y1:wc.cell? ⟨q,1,none⟩=some (.int .i64 sO):=by simp[World.cell?,eF]
     have y2:wc.cell? ⟨q,2,none⟩=some (.int .i64 Yh):=by simp[World.cell?,eF]
     have y3:wc.cell? ⟨q,3,none⟩=some (.int .i64 Yi):=by simp[World.cell?,eF]
     have y4:wc.cell? ⟨q,4,none⟩=some (.int .i64 Yj):=by simp[World.cell?,eF]
     have y5:wc.cell? ⟨q,5,none⟩=some (.int .i64 Yk):=by simp[World.cell?,eF]
     have y6:wc.cell? ⟨q,6,none⟩=some (.int .i64 Yl):=by simp[World.cell?,eF]
     have y7:wc.cell? ⟨q,7,none⟩=some (.int .i64 Ym):=by simp[World.cell?,eF]
     have y8:wc.cell? ⟨q,8,none⟩=some (.int .i64 Yn):=by simp[World.cell?,eF]
     have z0:wc.cell? ⟨bP,0,none⟩=some (.slice (some ⟨g,0,none⟩) n cap):=by have h1:=GJ.bp.1;simp[World.cell?,h1]
     have z1:wc.cell? ⟨bP,1,none⟩=some (jx d):=by have h1:=GJ.bp.1;simp[World.cell?,h1]
     have z2:=aA GJ.bl.1;have z3:wc.cell? ⟨Gr,p,none⟩=some (.int .i64 k):=by simp[World.cell?,hrow,R1]
     have hG:=GJ.p.ib wc (Below.refl _ _);obtain ⟨z4,z40,rv,z5,⟨Z2,rcp,rfl,zQ⟩⟩:=hG.at_ top s HS.out;obtain ⟨rg,lg,ln,lc,rfl,Up⟩:=zQ k r Mb;have mG:k<s.rs.length:=az Mb;have htn:top<n:=by rw[hG.len];exact az HS.out
     have r0:=Up.c0;have r1:=Up.c1;have r2:=Up.c2;have r3:=Up.c3;have r4:=Up.c4;unfold jx at z1;have Uq:=aa hrow;have HJC:=aa Ml;have WL:=aa GJ;clear eF hrow Ml GJ hG zQ Up fk Bk bj QE v0 v1 v2 v3 v4 v5 v6 v7 v8 q0 q1 q2;have m0:=World.new_ne wc ⟨bP,0,none⟩ z0;have m1:=World.new_ne wc ⟨g,top*2+1,none⟩ z5;have m2:=World.new_ne wc ⟨Gr,p,none⟩ z3
     have m3:=World.new_ne wc ⟨rg,k*5,none⟩ r0;go_wp2_with fail
     go_region_held3 (λw'=>w'.cell? ⟨bP,0,none⟩=some (.slice (some ⟨g,0,none⟩) n cap)/\w'.cell? ⟨g,top*2+1,none⟩=some (.slice (some ⟨rg,0,none⟩) s.rs.length rcp)/\w'.cell? ⟨Gr,p,none⟩=some (.int .i64 k)/\w'.cell? ⟨rg,k*5,none⟩=some (.int .i64 r.k)/\w'.cell? ⟨rg,k*5+1,none⟩=some (.int .i64 r.op)/\w'.cell? ⟨rg,k*5+2,none⟩=some (.string r.co)/\w'.cell? ⟨rg,k*5+3,none⟩=some (.slice (some ⟨lg,0,none⟩) ln lc)/\w'.cell? ⟨rg,k*5+4,none⟩=some (.int .i64 r.a.ix))
      (go_keep)
      (fail)
     all_goals
      obtain ⟨wd,hwd⟩:∃wd,(wc.alloc (.cells #[.int .i64 r.k,.int .i64 r.op,.string r.co,.slice (some ⟨lg,0,none⟩) ln lc,.int .i64 r.a.ix] 231)).drew=wd:=⟨_,rfl⟩;have K0:Below wc.heap.size wc wd:=by rw[<-hwd];exact (cq _ _).drew
      have BN:wd.heap[wc.heap.size]?=some (.cells #[.int .i64 r.k,.int .i64 r.op,.string r.co,.slice (some ⟨lg,0,none⟩) ln lc,.int .i64 r.a.ix] 231 (0,0)):=by rw[<-hwd];exact ag _ _
      obtain ⟨rb,Ez⟩:∃rb,rb=wc.heap.size:=⟨_,rfl⟩;rw[hwd,<-Ez];rw[<-Ez]at BN;have DO:=aa (WL.out.below K0);have zR:=aa ((K0.block Gr (ae Uq.out)).trans Uq.out);have HJD:=aa (HJ.out _ _ _ _ _ HJC.out (aM.ay K0));have XW:=aa BN;have hrA:¬A2 rb:=λh=>by have:=(WL.out.p.old _ h).2;omega
      have hrq:q<=rb:=by rw[Ez];exact WL.out.size.1
      have HPF:=aa (zk N A2 g n cap G d Ul F1' top s wd.drew (DO.out.p.below (Below.refl _ _).drew) HS.out)
      have HK7:=aa (λ(w7:World) (B7:Nat->Prop) (aR:aM B7 wd w7) (hB:¬B7 bP/\¬B7 bL/\¬B7 Gr/\¬B7 rb)=>show (w7.cell? ⟨bP,1,none⟩=some (.func (.func 159) #[] #[.pointer (some ⟨d.kv,0,none⟩),.pointer (some ⟨d.wk,0,none⟩)])/\w7.cell? ⟨Gr,p,none⟩=some (.int .i64 k)/\w7.cell? ⟨bL,0,none⟩=some (.string line))/\w7.heap[Gr]?=some (.cells (fr.map (Value.int .i64)).toArray 3 (0,0))/\w7.heap[rb]?=some (.cells #[.int .i64 r.k,.int .i64 r.op,.string r.co,.slice (some ⟨lg,0,none⟩) ln lc,.int .i64 r.a.ix] 231 (0,0)) from by
       have h1:=aR.same DO.out.bp.1 hB.1;have h2:=aR.same DO.out.bl.1 hB.2.1;have h3:=aR.same zR.out hB.2.2.1;have h4:=aR.same XW.out hB.2.2.2;exact ⟨⟨by simp[World.cell?,h1,jx],by simp[World.cell?,h3,R1],by simp[World.cell?,h2]⟩,h3,h4⟩)
      have QP:=(HK7.out wd.drew (λ_=>False) (aM.ay (w:=wd) (Below.refl _ _).drew) ⟨id,id,id,id⟩).1;clear Ez hwd K0 BN z0 z1 z2 z3 z4 z5 r0 r1 r2 r3 r4 m0 m1 m2 m3 y0 y1 y2 y3 y4 y5 y6 y7 y8;have vP:=aa (show ¬A2 bP/\¬A2 bL/\¬A2 Gr/\¬A2 rb from ⟨DO.out.bp.2.2,DO.out.bl.2.2,acw,hrA⟩);have acy:p<=line.size:=by omega
      go_wp2_with fail;obtain ⟨aaQ,aaR,aaS⟩:=QP;have e0:wd.cell? ⟨bP,1,none⟩=_:=aaQ;have e1:wd.cell? ⟨Gr,p,none⟩=_:=aaR;have e2:wd.cell? ⟨bL,0,none⟩=_:=aaS;clear aaQ aaR aaS
      go_cut [7] from 60 (λva wz=>∃(stop:Nat) (A4:Nat->Prop) (f4:Nat->Option Value) (F4:Nat->List FD),va=.int .i64 stop/\Bl r.a.re line.data.toList p stop/\wz.heap[rb]?=some (.cells #[.int .i64 r.k,.int .i64 r.op,.string r.co,.slice (some ⟨lg,0,none⟩) ln lc,.int .i64 r.a.ix] 231 (0,0))/\SP N A0 q g n cap G d line (q+2) (q+3) (q+1) bP bL q A4 f4 F4 IY st Cl2 wz/\J Cl2 (pre++ig at_ p s.nm st.length) st wz)
      case first=>
       go_region_with (first
        | (go_at_call 159;refine HPF.out.mono ?_;clear HPF;rintro e7 w7 ⟨ao,cp,A3,f3,F3,rfl,hf3,pI,Pk,aaT,hp7⟩;have I0:aM A2 wd w7:=⟨pI.os,pI.tape,pI.output,pI.size,pI.keep,pI.stay⟩;clear pI;obtain ⟨x,fg,hao,hx,yD,QQ⟩:=hp7.get HS.out hf3 Mb;subst hao;obtain ⟨⟨i0,i1,i2⟩,Ms,acz⟩:=HK7.out w7 A2 I0 vP.out;have d0:=QQ 0 _ rfl;have d1:=QQ 1 _ rfl;have d2:=QQ 2 _ rfl;have d3:=QQ 3 _ rfl;have d4:=QQ 4 _ rfl;have d5:=QQ 5 _ rfl;rw[Nat.add_zero]at d0;have HEU:=aa (SE hp7 hf3 hx acy hz);unfold yX at HEU;have acA:=aa (DO.out.work I0 Pk hp7);have acB:=aa I0;have acC:=aa Pk;have HXA:=aa yD;clear hf3 I0 Pk aaT hp7 hx yD QQ Ms acz)
        | (go_at_call 129;refine HEU.out.mono ?_;clear HEU;rintro e8 w8 ⟨stop,A4,F4,rfl,qR,Pm,Ur,hp8⟩;have Pn:aM A2 wd w8:=acB.out.then Pm (λy Xx V5=>(acC.out y V5).elim id (λh=>absurd h (by have:y<wd.heap.size:=Xx;show ¬wd.heap.size<=y;omega)));obtain ⟨-,-,aaU⟩:=HK7.out w8 A2 Pn vP.out;have acD:=aa (acA.out.work Pm Ur hp8);have acE:=aa Pn;have acF:=aa aaU;have HLG:=aa qR;clear qR Pm Ur hp8 Pn aaU))
       all_goals
        go_wp2_with fail;go_meet;refine ⟨stop,A4,f3,F4,rfl,by have h:=HLG.out;rw[HXA.out]at h;exact h,acF.out,acD.out,HJ.out _ _ _ _ _ HJD.out (acE.out.sub λy _ hy=>⟨(DO.out.sub y hy).imp id λh=>by rw[<-HQ.out];exact h,λhc=>(DO.out.cl y hc).1.2.2.1 hy⟩)⟩
      case rest=>
       obtain ⟨stop,A4,f4,F4,rfl,qR,BN,K2,hjz⟩:=hcut;have hG:=K2.p.ib wc (Below.refl _ _);have eF:=K2.bs.1;rw[HST.out]at eF;have y0:wc.cell? ⟨q,0,none⟩=some (.int .i64 Yg):=by simp[World.cell?,eF]
       have y1:wc.cell? ⟨q,1,none⟩=some (.int .i64 sO):=by simp[World.cell?,eF]
       have y2:wc.cell? ⟨q,2,none⟩=some (.int .i64 Yh):=by simp[World.cell?,eF]
       have y3:wc.cell? ⟨q,3,none⟩=some (.int .i64 Yi):=by simp[World.cell?,eF]
       have y4:wc.cell? ⟨q,4,none⟩=some (.int .i64 Yj):=by simp[World.cell?,eF]
       have y5:wc.cell? ⟨q,5,none⟩=some (.int .i64 Yk):=by simp[World.cell?,eF]
       have y6:wc.cell? ⟨q,6,none⟩=some (.int .i64 Yl):=by simp[World.cell?,eF]
       have y7:wc.cell? ⟨q,7,none⟩=some (.int .i64 Ym):=by simp[World.cell?,eF]
       have y8:wc.cell? ⟨q,8,none⟩=some (.int .i64 Yn):=by simp[World.cell?,eF]
       have z0:wc.cell? ⟨bP,0,none⟩=some (.slice (some ⟨g,0,none⟩) n cap):=by have h1:=K2.bp.1;simp[World.cell?,h1]
       have z1:wc.cell? ⟨bP,1,none⟩=some (jx d):=by have h1:=K2.bp.1;simp[World.cell?,h1]
       have c2:wc.cell? ⟨rb,2,none⟩=some (.string r.co):=by simp[World.cell?,BN]
       have Mk:=aa (DN g n cap G (jx d) ⟨_,_,rfl⟩ p stop st top s r.co wc hG KZ.out.1.2 Db.out HS.out);unfold lV jx Qo at Mk;rw[HST.out]at Mk;unfold jx at z1;have aaV:=aa K2;have HJZ:=aa hjz;have WM:=aa BN;have HLG:=aa qR;clear hG eF K2 hjz BN qR;go_wp2_with fail;refine Mk.out.mono ?_;rintro e9 w9 ⟨rfl,Mc⟩;have aaW:=aa (aaV.out.below Mc)
       have WN:=aa ((Mc.block _ (ae WM.out)).trans WM.out);have QR:=aa (HJ.out _ _ _ _ _ HJZ.out (aM.ay Mc));clear Mc Mk aaV HJZ WM y0 y1 y2 y3 y4 y5 y6 y7 y8 z0 z1 c2;have WO:Good G (nM r.k r.op st):=KZ.out.nM (λhk=>(zP.out s (bn HS.out) r (bn Mb)).2 hk);obtain ⟨x0,x1,x2,x3,x4,x5,x6,x7,x8,kg⟩:=nine WO.1.2
       obtain ⟨wf,hwf⟩:∃wf,w9.alloc (.cells #[.int .i64 p,.int .i64 stop,.string s.nm,.int .i64 st.length,.string r.co] 70)=wf:=⟨_,rfl⟩;have X5:Below w9.heap.size w9 wf:=by rw[<-hwf];exact cq _ _
       have SF:=aa (aaW.out.below X5);have K3:=(X5.block _ (ae WN.out)).trans WN.out;have eF:=SF.out.bs.1;rw[HST.out]at eF;have Jz:=aa eF;have y0:=ai (j:=0) eF rfl;have y1:=ai (j:=1) eF rfl;have y2:=ai (j:=2) eF rfl;have y3:=ai (j:=3) eF rfl;have y4:=ai (j:=4) eF rfl;have y5:=ai (j:=5) eF rfl;have y6:=ai (j:=6) eF rfl
       have y7:=ai (j:=7) eF rfl;have y8:=ai (j:=8) eF rfl;have z0:=ai (j:=0) K3 rfl;have z1:=ai (j:=1) K3 rfl;have z2:=ai (j:=2) K3 rfl;have z3:=ai (j:=3) K3 rfl;have z4:=ai (j:=4) K3 rfl;have HJF:=aa (HJ.out _ _ _ _ _ QR.out (aM.ay X5))
       have Ww:=aa (Dt st r.k r.op r.co (some ⟨lg,0,none⟩) ln lc r.a.ix KZ.out.1.2 KZ.out.1.1 wf);unfold AZ lV at Ww;rw[HST.out,kg]at Ww;have GK:=aa kg;have aaX:=aa WO;clear eF K3 X5 kg WO aaW WN QR;subst hwf;go_wp2_with fail;refine Ww.out.mono ?_;rintro e10 w10 ⟨rfl,ER⟩;have Po:=aa (SF.out.below ER)
       have aaY:=aa (HJ.out _ _ _ _ _ HJF.out (aM.ay ER));have I1:=aa ((ER.block _ (ae Jz.out)).trans Jz.out);have GL:=(ER.block _ (by simp)).trans (ag w9 (.cells #[.int .i64 p,.int .i64 stop,.string s.nm,.int .i64 st.length,.string r.co] 70));obtain ⟨sb,WQ⟩:∃sb,sb=w9.heap.size:=⟨_,rfl⟩;rw[<-WQ]at GL ⊢;have HSB:=aa GL
       have acG:q≠sb:=by rw[WQ];have:=ae Jz.out;intro e;have h2:=SF.out.bs.1;have h3:=ag w9 (.cells #[.int .i64 p,.int .i64 stop,.string s.nm,.int .i64 st.length,.string r.co] 70);rw[<-e,h2]at h3;simp at h3
       clear ER Ww y0 y1 y2 y3 y4 y5 y6 y7 y8 z0 z1 z2 z3 z4 SF HJF Jz GL WQ;dsimp only;refine (by with_reducible assumption:∀(a:Act) (w:World),wpList Tryz.prog _ _ _ a w->(_:Act->World->Prop) a w) _ _ ?_
       refine wpList_store_row rfl _ _ _ rfl q #[.int .i64 x0,.int .i64 x1,.int .i64 x2,.int .i64 x3,.int .i64 x4,.int .i64 x5,.int .i64 x6,.int .i64 x7,.int .i64 x8] rfl rfl 138 _ I1.out rfl rfl (by simp[Value.oneCell']) ?_
       obtain ⟨w11,SG⟩:∃w11,w10.setRow q #[.int .i64 x0,.int .i64 x1,.int .i64 x2,.int .i64 x3,.int .i64 x4,.int .i64 x5,.int .i64 x6,.int .i64 x7,.int .i64 x8]=w11:=⟨_,rfl⟩;have Bn:aM (λk=>k=q) w10 w11:=by rw[<-SG];exact aM.setRow _ I1.out (by decide) rfl
       have mX:w11.heap[q]?=some (.cells #[.int .i64 x0,.int .i64 x1,.int .i64 x2,.int .i64 x3,.int .i64 x4,.int .i64 x5,.int .i64 x6,.int .i64 x7,.int .i64 x8] 138 (0,0)):=by rw[<-SG];exact setRow_heap _ _ _ _ _ _ I1.out
       rw[SG];have Pp:=aa (Po.out.SH (st':=nM r.k r.op st) Bn (by rw[GK.out];exact mX));have WR:=aa (HJ.out _ _ _ _ _ aaY.out (Bn.sub λk _ hk=>⟨.inr (by rw[hk,<-HQ.out];exact bc _),λhc=>(Po.out.cl k hc).1.2.2.2.2.2 hk⟩));have zl:=Bn.same HSB.out (λe=>acG e.symm);have y0:=ai (j:=0) mX rfl;have y1:=ai (j:=1) mX rfl
       have y2:=ai (j:=2) mX rfl;have y3:=ai (j:=3) mX rfl;have y4:=ai (j:=4) mX rfl;have y5:=ai (j:=5) mX rfl;have y6:=ai (j:=6) mX rfl;have y7:=ai (j:=7) mX rfl;have y8:=ai (j:=8) mX rfl;have z0:=ai (j:=0) zl rfl;have z1:=ai (j:=1) zl rfl;have z2:=ai (j:=2) zl rfl;have z3:=ai (j:=3) zl rfl
       have z4:=ai (j:=4) zl rfl;have Dc:mY s.rs line.data.toList at_ p k r stop:=⟨hap,NY,Mb,mW,WJ,WK,HLG.out⟩;have EH:=Dc.gt (zP.out s (bn HS.out) r (bn Mb)).1;rw[aj]at EH;have QJ:=aa (Path.hit sX.out (by rw[aj];exact hlt) Db.out HS.out Dc)
       obtain ⟨fn,tmps,assign,body,hy,hR⟩:=HY.out Cl2 (pre++ig at_ p s.nm st.length) st ⟨p,stop,s.nm,st.length,r.co⟩ (nM r.k r.op st) w11 WR.out aaX.out (by have h1:=sX.out.short zP.out;have h2:=pC at_ p s.nm st.length;rw[dG];omega);unfold Sp.v Qo lV at hy;rw[GK.out]at hy;have uJ:=aa hR;clear hR SG Bn mX zl Po aaY I1 HSB Dc
       dsimp only[wpList,Exit.then];refine (by with_reducible assumption:∀(a:Act) (w:World),Code.wp Tryz.prog _ _ a w->(_:Act->World->Prop) a w) _ _ ?_;refine (wpIn_wide (n:=m)).1 ?_;gi_wp2_with fail;refine ⟨λh=>(by cases h),uJ.out.mono ?_⟩;rintro e12 w12 (⟨rfl,Cl3,Pq,Us,Wk⟩|⟨rfl,zI⟩)
       ·have uv:=aa (show Uk J N A0 q g n cap G d line (q+2) (q+3) (q+1) bP bL q st0 (line.size - stop) (.int .i64 stop) w12 from ⟨stop,_,_,rfl,by omega,QJ.out,aaX.out,Cl3,A4,f4,F4,IY,Wk,Pp.out.round Pq Us⟩);clear Pq Us Wk hy uJ Pp WR QJ y0 y1 y2 y3 y4 y5 y6 y7 y8 z0 z1 z2 z3 z4;gi_wp2_with fail;go_roundg (line.size - stop)
        case measure=>omega
        case rel=>exact uv.out
       ·have Mz:=aa zI;clear zI hy uJ Pp WR QJ y0 y1 y2 y3 y4 y5 y6 y7 y8 z0 z1 z2 z3 z4;gi_wp2_with fail;go_end0;exact ⟨⟨_,rfl⟩,.inr Mz.out⟩
    ·have pU:=aa iU;clear iU;go_wp2_with fail;go_end0;have h:=pU.out;rw[HQ.out]at h;exact ⟨⟨_,rfl⟩,h.2⟩
  ·have g1:decide ((at_:Int)<(line.size:Int))=false:=bV (by omega);obtain rfl:at_=line.size:=by omega
   have aq:=aa (show sN J Jx N A0 q g n cap G d line.data.toList st0 (.returned (.tuple #[])) wr from ⟨⟨_,rfl⟩,.inl ⟨pre,st,Cl,A1,f1,F1,.inl (by rw[aj];exact IX),BH,hsp.p,hsp.sub,λk hk=>(hsp.cl k hk).1.2.2.1⟩⟩);clear IX hgd BH hsp;go_wp2_with fail;go_end0;have h:=aq.out;rw[HQ.out]at h;exact ⟨⟨_,rfl⟩,h.2⟩
end Go.Proofs.YtgncgdkpkkdaeaaGreatDoor
