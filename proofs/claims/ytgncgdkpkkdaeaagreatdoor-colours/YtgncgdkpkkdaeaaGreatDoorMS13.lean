import Derived.Test.YtgncgdkpkkdaeaaGreatDoorMX
namespace Go.Proofs.YtgncgdkpkkdaeaaGreatDoor
open Go.RowKit aQ Go.Maps Go.Shelf
attribute [local go_sem] Oper.semAt_some
def SpJ(J:(Nat->Prop)->List Sp->List Nat->World->Prop)(N:Nat)(A0:Nat->Prop)(w0 g n cap:Nat)(G:List GS)(d:PD)(line:ByteArray)(K kv wk bP bL bS:Nat)(pre:List Sp)(st:List Nat)(W:World):Prop:=
 ∃Cl A1 f1 F1 f2,J Cl pre st W/\SP N A0 w0 g n cap G d line K kv wk bP bL bS A1 f1 F1 f2 st Cl W
def qx(J:(Nat->Prop)->List Sp->List Nat->World->Prop)(Jx:World->Prop)(N:Nat)(A0:Nat->Prop)(w0 g n cap:Nat)(G:List GS)(d:PD)(T:List UInt8)(st0:List Nat)(e:Ending)(W:World):Prop:=
 (∃v,e=.returned v)/\((∃ba st Cl A1 f1 F1,sw G T st0 ba st/\J Cl ba st W/\aD W N A1 g n cap G d f1 F1/\(∀k,A1 k->A0 k∨w0<=k)/\∀k,Cl k->¬A1 k)∨Jx W)
theorem MN{N:Nat}{A0:Nat->Prop}{g n cap:Nat}{G:List GS}{d:PD}{f:Nat->Option Value}{F:Nat->List FD}{line:ByteArray}{st0:List Nat}{bP bL q:Nat}{w W W1:World}{Cl:Nat->Prop}(h:aD w N A0 g n cap G d f F)(jb:∀k,Cl k->k<w.heap.size/\N<=k/\¬A0 k/\k≠bP/\k≠bL)(J7:w.heap[bP]?=some (.cells #[.slice (some ⟨g,0,none⟩) n cap,iF d] 171 (0,0)))(MO:w.heap[bL]?=some (.cells #[.string line] 9 (0,0)))(hA:¬A0 bP/\¬A0 bL)(hq:q=w.heap.size)(hW:W=w.alloc (.cells (aH st0).toArray 138)){e:Ending}(hr:ur #[.pointer (some ⟨bP,0,none⟩),.pointer (some ⟨bL,0,none⟩)] W e W1):
  SP N A0 q g n cap G d line (q+2) (q+3) (q+1) bP bL q A0 f F (λ_=>none) st0 Cl W1/\Below w.heap.size w W1:=by
 obtain ⟨-,hb,hs,h1,h2,h3⟩:=hr;have hWs:W.heap.size=q+1:=by rw[hW,hq];simp
 have pD:Below w.heap.size w W:=by rw[hW];exact (Below.refl _ _).alloc (Nat.le_refl _) _
 have hS:W.heap[q]?=some (.cells (aH st0).toArray 138 (0,0)):=by rw[hW,hq];exact af _ _
 have hb1:Below w.heap.size w W1:=pD.trans (hb.mono pD.size);rw[hWs]at h1 h2 h3 hs;have hn:∀k,q<=k->¬A0 k:=λk hk ha=>by have:=(h.old k ha).2;omega
 refine ⟨⟨h.below hb1,λk hk=>.inl hk,⟨⟨h1,hn _ (by omega)⟩,⟨h2,hn _ (by omega)⟩,⟨⟨by have:=h.size;omega,hn _ (by omega)⟩,0,h3,Nat.zero_le _⟩,λi v hv=>by cases hv⟩,⟨(hb1.block _ (ae J7)).trans J7,by rw[hq];exact ae J7,hA.1⟩,⟨(hb1.block _ (ae MO)).trans MO,by rw[hq];exact ae MO,hA.2⟩,⟨(hb.block _ (by omega)).trans hS,Nat.le_refl _,hn _ (Nat.le_refl _)⟩,⟨by omega,by omega,by omega,λi v hv=>by cases hv⟩,⟨by omega,by omega,by omega,λi v hv=>by cases hv⟩,⟨by omega,by have:=h.size;omega⟩,λk hk=>?_⟩,hb1⟩
 obtain ⟨c1,c2,c3,c4,c5⟩:=jb k hk;exact ⟨⟨by omega,c2,c3,c4,c5,by omega⟩,by omega,by omega,by omega,λi v hv=>by cases hv⟩
def RF(J:(Nat->Prop)->List Sp->List Nat->World->Prop)(N:Nat)(A0:Nat->Prop)(w0 g n cap:Nat)(G:List GS)(d:PD)(line:ByteArray)(K kv wk bP bL bS:Nat)(st0:List Nat)(k:Nat)(va:Value)(wr:World):Prop:=
 ∃(at_:Nat) (st:List Nat) (pre:List Sp),va=.int .i64 at_/\at_+k=line.size/\Path G line.data.toList st0 at_ st pre/\Good G st/\SpJ J N A0 w0 g n cap G d line K kv wk bP bL bS pre st wr
set_option maxRecDepth 20000 in
set_option maxHeartbeats 40000000 in
theorem CY(m:Nat)(N:Nat)(A0 Cl0:Nat->Prop)(g n cap:Nat)(G:List GS)(d:PD)(f:Nat->Option Value)(F:Nat->List FD)(line:ByteArray)(st0:List Nat)(bB bP bL l:Nat)(J:(Nat->Prop)->List Sp->List Nat->World->Prop)(Jx:World->Prop)(w:World)(h:aD w N A0 g n cap G d f F)(eA:vY G)(b9:Good G st0)(hz:line.size<=3000)
  (MP:w.heap[bB]?=some (.cells (aH st0).toArray 138 (0,0))) (J7:w.heap[bP]?=some (.cells #[.slice (some ⟨g,0,none⟩) n cap,iF d] 171 (0,0))) (MO:w.heap[bL]?=some (.cells #[.string line] 9 (0,0))) (hA:¬A0 bP/\¬A0 bL)
  (jb:∀k,Cl0 k->k<w.heap.size/\N<=k/\¬A0 k/\k≠bP/\k≠bL)
  (hJ:∀Cl pre st A B,J Cl pre st A->aN (λk=>(A0 k∨w.heap.size<=k)/\¬Cl k) A B->J Cl pre st B)
  (hY:∀Cl pre st x st' A,J Cl pre st A->Good G st'->pre.length<=7000->YieldAt Fence.wide (m - 1) Tryz.prog l #[Sp.v x,kA st'] A λe B=>(e=.returned (.bool true)/\∃uN,aN Cl A B/\(∀k,uN k->k<B.heap.size/\(Cl k∨A.heap.size<=k))/\J uN (pre++[x]) st' B)∨(e=.returned (.bool false)/\Jx B))
  (h0:J Cl0 [] st0 w):
  CallsIn Fence.wide m Tryz.prog 122 #[.func (.yield l) #[] #[],.pointer (some ⟨bB,0,none⟩),.pointer (some ⟨bP,0,none⟩),.pointer (some ⟨bL,0,none⟩)] w (qx J Jx N A0 w.heap.size g n cap G d line.data.toList st0):=by
 refine callsIn_wide.2 ?_;obtain ⟨a0,a1,a2,a3,a4,a5,a6,a7,a8,hst⟩:=nine b9.1.2;rw[hst]at MP;have s0:w.cell? ⟨bB,0,none⟩=some (.int .i64 a0):=by simp[World.cell?,MP]
 have s1:w.cell? ⟨bB,1,none⟩=some (.int .i64 a1):=by simp[World.cell?,MP]
 have s2:w.cell? ⟨bB,2,none⟩=some (.int .i64 a2):=by simp[World.cell?,MP]
 have s3:w.cell? ⟨bB,3,none⟩=some (.int .i64 a3):=by simp[World.cell?,MP]
 have s4:w.cell? ⟨bB,4,none⟩=some (.int .i64 a4):=by simp[World.cell?,MP]
 have s5:w.cell? ⟨bB,5,none⟩=some (.int .i64 a5):=by simp[World.cell?,MP]
 have s6:w.cell? ⟨bB,6,none⟩=some (.int .i64 a6):=by simp[World.cell?,MP]
 have s7:w.cell? ⟨bB,7,none⟩=some (.int .i64 a7):=by simp[World.cell?,MP]
 have s8:w.cell? ⟨bB,8,none⟩=some (.int .i64 a8):=by simp[World.cell?,MP]
 obtain ⟨q,hq⟩:∃q,q=w.heap.size:=⟨_,rfl⟩;obtain ⟨W,hW⟩:∃W,w.alloc (.cells #[.int .i64 a0,.int .i64 a1,.int .i64 a2,.int .i64 a3,.int .i64 a4,.int .i64 a5,.int .i64 a6,.int .i64 a7,.int .i64 a8] 138)=W:=⟨_,rfl⟩;have hWs:W.heap.size=q+1:=by rw[<-hW,hq];simp
 have Z1:=aa (vT #[.pointer (some ⟨bP,0,none⟩),.pointer (some ⟨bL,0,none⟩)] W);have qE:=aa (λ(e:Ending) (W1:World) (hr:ur #[.pointer (some ⟨bP,0,none⟩),.pointer (some ⟨bL,0,none⟩)] W e W1)=>MN (st0:=st0) h jb J7 MO hA hq (by rw[hst];exact hW.symm) hr);have HJ:=aa hJ;have HY:=aa hY;have H0:=aa h0;have xP:=aa eA;have HGD:=aa b9
 clear h MP J7 MO hA jb hJ hY h0 eA b9 hst;go_enter Tryz.func122,Tryz.ntmps122;go_wp2_with fail;rw[<-hq];have HQ:=aa hq;clear hq hW;refine Z1.out.mono ?_;rintro e W1 hrm;obtain ⟨hsp,pD⟩:=qE.out e W1 hrm;obtain ⟨rfl,-⟩:=hrm;have rF:=aa hsp;have tk:=aa pD;have b0:=ay hsp.bl.1
 clear hsp pD Z1 qE s0 s1 s2 s3 s4 s5 s6 s7 s8;go_wp2_with fail;go_loopg [7] line.size (λk va wr=>RF J N A0 q g n cap G d line (q+2) (q+3) (q+1) bP bL q st0 k va wr)
 case atStart=>exact ⟨0,st0,[],rfl,by omega,.start,HGD.out,_,_,_,_,_,HJ.out _ _ _ _ _ H0.out (aN.ar tk.out),rF.out⟩
 case round=>
  obtain ⟨at_,st,pre,rfl,hk,F7,hgd,Cl,A1,f1,F1,f2,zv,hsp⟩:=hrel;have b1:=ay hsp.bl.1;by_cases hlt:at_<line.size
  ·have g1:decide ((at_:Int)<(line.size:Int))=true:=decide_eq_true (by omega);obtain ⟨Vw,qy,Vx,Vy,Vz,VA,VB,VC,VD,hst⟩:=nine hgd.1.2;obtain ⟨top,s,Bb,hs⟩:=hgd.top;have eD:=hsp.bs.1;rw[hst]at eD;have v0:wr.cell? ⟨q,0,none⟩=some (.int .i64 Vw):=by simp[World.cell?,eD]
   have v1:wr.cell? ⟨q,1,none⟩=some (.int .i64 qy):=by simp[World.cell?,eD]
   have v2:wr.cell? ⟨q,2,none⟩=some (.int .i64 Vx):=by simp[World.cell?,eD]
   have v3:wr.cell? ⟨q,3,none⟩=some (.int .i64 Vy):=by simp[World.cell?,eD]
   have v4:wr.cell? ⟨q,4,none⟩=some (.int .i64 Vz):=by simp[World.cell?,eD]
   have v5:wr.cell? ⟨q,5,none⟩=some (.int .i64 VA):=by simp[World.cell?,eD]
   have v6:wr.cell? ⟨q,6,none⟩=some (.int .i64 VB):=by simp[World.cell?,eD]
   have v7:wr.cell? ⟨q,7,none⟩=some (.int .i64 VC):=by simp[World.cell?,eD]
   have v8:wr.cell? ⟨q,8,none⟩=some (.int .i64 VD):=by simp[World.cell?,eD]
   have HU:=aa (mZ st top hgd.1.2 Bb wr);unfold kA at HU;rw[hst]at HU;have qE:=aa hsp;have qK:=aa F7;have IX:=aa hgd;have Yf:=aa zv;have Bc:=aa Bb;have HS:=aa hs;have HST:=aa hst;clear hsp F7 hgd zv Bb hs hst eD;go_wp2_with fail;refine HU.out.mono ?_;rintro e2 w2 ⟨rfl,hb2⟩;have cM:=aa hb2;have yX:=aa (qE.out.below hb2)
   have PC:=aa (PW N A1 g n cap G d f1 F1 top s line (q+2) (q+3) (q+1) bP bL f2 w2 yX.out.p yX.out.r HS.out (by omega) hz yX.out.bp.1 yX.out.bl.1);clear hb2 HU v0 v1 v2 v3 v4 v5 v6 v7 v8;go_wp2_with fail;refine PC.out.mono ?_;rintro e3 w3 ⟨Gr,fr,A2,RH,Yg,F8,rfl,hrow,hdone,ni,RL,Yh,RM,hr3,⟨i3,hi3⟩,hf3⟩;have aaU:=hi3
   have yY:=aa (yX.out.row ni RL RM hr3 hf3);have acp:=yY.out.new.2.2.2 i3 _ hi3 Gr rfl;have aaV:¬A2 Gr:=by obtain ⟨_,Gr',_,_,hv,h3,_⟩:=hr3.rows i3 _ hi3;cases hv;exact h3
   have bE:=aa hrow;have Yi:=aa hdone
   have Oh:=aa (HJ.out _ _ _ _ _ (HJ.out _ _ _ _ _ Yf.out (aN.ar cM.out)) (ni.sub λk _ hk=>by
    rcases hk with hk|rfl
    ·exact ⟨(yX.out.sub k hk).imp id λh=>by rw[<-HQ.out];exact h,λhc=>(yX.out.cl k hc).1.2.2.1 hk⟩
    ·exact ⟨.inr (by rw[<-HQ.out];omega),λhc=>(yX.out.cl _ hc).2.1 rfl⟩))
   have lp:fr.length=line.size:=by rw[hdone.1,ag]
   have iU:=aa (vQ Gr fr at_ w3 hrow (by omega) (by omega));rw[lp]at iU;clear hrow hdone ni RL Yh RM hr3 hi3 hf3 PC qE yX Yf cM;rw[ag];go_wp2_with fail;refine iU.out.mono ?_;rintro e4 w4 ⟨p,rfl,F9,rfl⟩;have acq:p<=line.size:=by have:=F9.2.1;omega
   have iB:=aa (MQ Yi.out F9);have hap:=F9.1;clear F9 iU;have eD:=yY.out.bs.1;rw[HST.out]at eD;have v0:w4.cell? ⟨q,0,none⟩=some (.int .i64 Vw):=by simp[World.cell?,eD]
   have v1:w4.cell? ⟨q,1,none⟩=some (.int .i64 qy):=by simp[World.cell?,eD]
   have v2:w4.cell? ⟨q,2,none⟩=some (.int .i64 Vx):=by simp[World.cell?,eD]
   have v3:w4.cell? ⟨q,3,none⟩=some (.int .i64 Vy):=by simp[World.cell?,eD]
   have v4:w4.cell? ⟨q,4,none⟩=some (.int .i64 Vz):=by simp[World.cell?,eD]
   have v5:w4.cell? ⟨q,5,none⟩=some (.int .i64 VA):=by simp[World.cell?,eD]
   have v6:w4.cell? ⟨q,6,none⟩=some (.int .i64 VB):=by simp[World.cell?,eD]
   have v7:w4.cell? ⟨q,7,none⟩=some (.int .i64 VC):=by simp[World.cell?,eD]
   have v8:w4.cell? ⟨q,8,none⟩=some (.int .i64 VD):=by simp[World.cell?,eD]
   have q0:w4.cell? ⟨bP,0,none⟩=some (.slice (some ⟨g,0,none⟩) n cap):=by have h1:=yY.out.bp.1;simp[World.cell?,h1]
   have q1:w4.cell? ⟨bP,1,none⟩=some (iF d):=by have h1:=yY.out.bp.1;simp[World.cell?,h1]
   have q2:=ay yY.out.bl.1;unfold iF at q1;clear eD;go_wp2_with fail;refine (wpIn_wide (n:=m)).1 ?_
   gi_cut [47] from 28 (λc wc=>(c=.bool false/\p<line.size/\wc.heap[Gr]?=some (.cells (fr.map (Value.int .i64)).toArray 3 (0,0))/\∃Cl,J Cl (pre++gq at_ p s.nm st.length) st wc/\SP N A0 q g n cap G d line (q+2) (q+3) (q+1) bP bL q A2 RH Yg F8 st Cl wc)∨(c=.bool true/\qx J Jx N A0 q g n cap G d line.data.toList st0 (.returned (.tuple #[])) wc))
   case first=>
    by_cases CN:at_<p
    ·have g2:decide ((at_:Int)<(p:Int))=true:=decide_eq_true (by omega);have Yj:Tryz.prog.follows .mixedOrders=true:=by kernel_rfl
     apply BM (R:=Jx)
     case main=>
      intro HF;apply BM (R:=(λB=>∃uN,J uN (pre++[⟨at_,p,s.nm,st.length,⟨#[]⟩⟩]) st B/\B.heap[Gr]?=some (.cells (fr.map (Value.int .i64)).toArray 3 (0,0))/\B.cell? ⟨bL,0,none⟩=some (.string line)/\SP N A0 q g n cap G d line (q+2) (q+3) (q+1) bP bL q A2 RH Yg F8 st uN B))
      case main=>
       intro HT;have J8:=aa (BN g n cap G (iF d) ⟨_,_,rfl⟩ at_ p st top s ⟨#[]⟩ w4.drew (yY.out.p.gN w4.drew (Below.refl _ _).drew) IX.out.1.2 Bc.out HS.out);unfold kA iF NZ at J8;rw[HST.out]at J8
       have HX5:=aa (λ(w5:World) (gw:Below w4.drew.heap.size w4.drew w5)=>show YieldAt Fence.wide (m - 1) Tryz.prog l #[Value.agg #[.int .i64 at_,.int .i64 p,.string s.nm,.int .i64 st.length,.string ⟨#[]⟩],Value.agg #[.int .i64 Vw,.int .i64 qy,.int .i64 Vx,.int .i64 Vy,.int .i64 Vz,.int .i64 VA,.int .i64 VB,.int .i64 VC,.int .i64 VD]] w5 (λe B=>(e=.returned (.bool true)/\∃uN,J uN (pre++[⟨at_,p,s.nm,st.length,⟨#[]⟩⟩]) st B/\B.heap[Gr]?=some (.cells (fr.map (Value.int .i64)).toArray 3 (0,0))/\B.cell? ⟨bL,0,none⟩=some (.string line)/\SP N A0 q g n cap G d line (q+2) (q+3) (q+1) bP bL q A2 RH Yg F8 st uN B)∨(e=.returned (.bool false)/\Jx B))/\w5.heap[q]?=some (.cells #[.int .i64 Vw,.int .i64 qy,.int .i64 Vx,.int .i64 Vy,.int .i64 Vz,.int .i64 VA,.int .i64 VB,.int .i64 VC,.int .i64 VD] 138 (0,0)) from by
        have hb:Below w4.heap.size w4 w5:=⟨gw.os,gw.tape,gw.output,gw.size,gw.block⟩;have hsp:=yY.out.below hb;have D1:=(hb.block _ (ae bE.out)).trans bE.out;have hGf:¬Cl Gr:=λhc=>(hsp.cl _ hc).2.2.2.2 i3 _ aaU rfl
        refine ⟨?_,by have h:=hsp.bs.1;rw[HST.out]at h;exact h⟩;have h:=HY.out Cl pre st ⟨at_,p,s.nm,st.length,⟨#[]⟩⟩ st w5 (HJ.out _ _ _ _ _ Oh.out (aN.ar hb)) IX.out (by have:=qK.out.short xP.out;omega);unfold Sp.v NZ kA at h;rw[HST.out]at h;refine h.mono ?_;rintro e B (⟨rfl,uN,aX,jb,hj⟩|⟨rfl,xI⟩)
        ·exact .inl ⟨rfl,uN,hj,aX.same D1 hGf,ay (hsp.round aX jb).bl.1,hsp.round aX jb⟩
        ·exact .inr ⟨rfl,xI⟩)
       gi_region_with_o (first
         | (refine ⟨trivial,λh=>(by cases h),(callsIn_wide.2 J8.out).mono ?_⟩;clear J8;rintro e5 w5 ⟨rfl,gw⟩;obtain ⟨⟨fn,tmps,assign,body,hy,hR⟩,vU⟩:=HX5.out w5 gw;clear HX5 gw;have sH:=aa hR;clear hR;have t0:=ah (j:=0) vU rfl;have t1:=ah (j:=1) vU rfl;have t2:=ah (j:=2) vU rfl;have t3:=ah (j:=3) vU rfl;have t4:=ah (j:=4) vU rfl;have t5:=ah (j:=5) vU rfl;have t6:=ah (j:=6) vU rfl;have t7:=ah (j:=7) vU rfl;have t8:=ah (j:=8) vU rfl;clear vU)
         | (refine ⟨λh=>(by cases h),sH.out.mono ?_⟩;rintro e6 w6 (⟨rfl,Pf⟩|⟨rfl,PY⟩);rotate_left;(focus ((try dsimp only);refine (by with_reducible assumption:∀(a:Act) (w:World),wpAnyIn _ _ _ _ _ _ _ _ a w->(_:Act->World->Prop) a w) _ _ ?_;(try simp only[Act.put,List.setIfInBounds_toArray,List.set_cons_zero,List.set_cons_succ]);exact HF.out _ PY));have WH:=Pf.choose_spec.2.2.1;have HR6:=aa Pf;clear Pf sH hy t0 t1 t2 t3 t4 t5 t6 t7 t8))
       all_goals exact HT.out _ HR6.out
      case pf=>
       rintro w6 ⟨uN,hj6,RN,WH,Yk⟩;have HJ6:=aa hj6;have Yl:=aa RN;have PZ:=aa Yk;clear hj6 RN Yk;by_cases hpe:p=line.size
       ·have e2:((p:Int)==(line.size:Int))=true:=by simp[hpe]
        rw[e2];gi_wp2_with fail;gi_meet;rcases iB.out with ⟨rJ,pH⟩|⟨rJ,_⟩
        ·rw[ag]at rJ;exact .inr ⟨rfl,⟨_,rfl⟩,.inl ⟨_,st,uN,A2,RH,Yg,.inr ⟨at_,pre,top,s,qK.out,by rw[ag];exact hlt,Bc.out,HS.out,pH,by rw[ag,hpe]⟩,HJ6.out,PZ.out.p,PZ.out.sub,λk hk=>(PZ.out.cl k hk).1.2.2.1⟩⟩
        ·rw[ag]at rJ;omega
       ·have e2:((p:Int)==(line.size:Int))=false:=by rw[beq_eq_false_iff_ne];omega
        rw[e2];gi_wp2_with fail;gi_meet;exact .inl ⟨rfl,by omega,Yl.out,uN,by rw[gq,if_pos CN];exact HJ6.out,PZ.out⟩
     case pf=>
      intro w6 PY;have aaW:=aa PY;clear PY;refine wpAnyIn_take (i:=12) (v:=.bool true) rfl rfl (by kernel_rfl) (by kernel_rfl) (by kernel_rfl) (λ_ _ _ h=>h) ⟨Or.inl ⟨by rfl,λw=>by go_simp⟩,λ_=>rfl⟩ ?_
      try go_simp
      refine wpAnyIn_take (i:=13) (v:=.bool true) rfl rfl (by kernel_rfl) (by kernel_rfl) (by kernel_rfl) (λ_ _ _ h=>h) ⟨Or.inl ⟨by rfl,λw=>by go_simp⟩,λ_=>rfl⟩ ?_
      try go_simp
      refine wpAnyIn_take (i:=14) (v:=.bool true) rfl rfl (by kernel_rfl) (by kernel_rfl) (by kernel_rfl) (λ_ _ _ h=>h) ⟨Or.inl ⟨by rfl,λw=>by go_simp⟩,λ_=>rfl⟩ ?_
      try go_simp
      refine wpAnyIn_take (i:=15) (v:=undef) rfl rfl (by kernel_rfl) (by kernel_rfl) (by kernel_rfl) (λ_ _ _ h=>h) ⟨Or.inr ⟨by kernel_rfl,rfl⟩,λ_=>rfl⟩ ?_
      try go_simp
      refine wpAnyIn_take (i:=16) (v:=undef) rfl rfl (by kernel_rfl) (by kernel_rfl) (by kernel_rfl) (λ_ _ _ h=>h) ⟨Or.inr ⟨by kernel_rfl,rfl⟩,λ_=>rfl⟩ ?_
      try go_simp
      refine wpAnyIn_take (i:=17) (v:=undef) rfl rfl (by kernel_rfl) (by kernel_rfl) (by kernel_rfl) (λ_ _ _ h=>h) ⟨Or.inr ⟨by kernel_rfl,rfl⟩,λ_=>rfl⟩ ?_
      try go_simp
      refine wpAnyIn_take (i:=18) (v:=undef) rfl rfl (by kernel_rfl) (by kernel_rfl) (by kernel_rfl) (λ_ _ _ h=>h) ⟨Or.inr ⟨by kernel_rfl,rfl⟩,λ_=>rfl⟩ ?_
      try go_simp
      refine wpAnyIn_take (i:=19) (v:=.bool true) rfl rfl (by kernel_rfl) (by kernel_rfl) (by kernel_rfl) (λ_ _ _ h=>h) ⟨Or.inl ⟨by rfl,λw=>by go_simp⟩,λ_=>rfl⟩ ?_
      try go_simp
      refine wpAnyIn_done (by kernel_rfl) ?_ _;gi_wp2_with fail;gi_meet;exact .inr ⟨rfl,⟨_,rfl⟩,.inr aaW.out⟩
    ·obtain rfl:at_=p:=by omega
     have Yj:Tryz.prog.follows .mixedOrders=true:=by kernel_rfl
     have g2:decide ((at_:Int)<(at_:Int))=false:=decide_eq_false (by omega);have e2:((at_:Int)==(line.size:Int))=false:=by rw[beq_eq_false_iff_ne];omega
     refine wpIn_region_any Yj ?_;change wpAnyIn _ _ _ _ _ _ _ _ _ (World.drew _);refine wpAnyIn_take (i:=0) (v:=.int .i64 at_) rfl rfl (by kernel_rfl) (by kernel_rfl) (by kernel_rfl) (λ_ _ _ h=>h) ⟨Or.inl ⟨by rfl,λw=>by go_simp⟩,λ_=>rfl⟩ ?_
     try go_simp
     refine wpAnyIn_take (i:=1) (v:=.int .i64 at_) rfl rfl (by kernel_rfl) (by kernel_rfl) (by kernel_rfl) (λ_ _ _ h=>h) ⟨Or.inl ⟨by rfl,λw=>by go_simp⟩,λ_=>rfl⟩ ?_
     try go_simp
     refine wpAnyIn_take (i:=2) (v:=.bool false) rfl rfl (by kernel_rfl) (by kernel_rfl) (by kernel_rfl) (λ_ _ _ h=>h) ⟨Or.inl ⟨by rfl,λw=>by go_simp⟩,λ_=>rfl⟩ ?_
     try go_simp
     refine wpAnyIn_take (i:=3) (v:=.bool false) rfl rfl (by kernel_rfl) (by kernel_rfl) (by kernel_rfl) (λ_ _ _ h=>h) ⟨Or.inl ⟨by rfl,λw=>by go_simp⟩,λ_=>rfl⟩ ?_
     try go_simp
     refine wpAnyIn_take (i:=4) (v:=undef) rfl rfl (by kernel_rfl) (by kernel_rfl) (by kernel_rfl) (λ_ _ _ h=>h) ⟨Or.inr ⟨by kernel_rfl,rfl⟩,λ_=>rfl⟩ ?_
     try go_simp
     refine wpAnyIn_take (i:=5) (v:=undef) rfl rfl (by kernel_rfl) (by kernel_rfl) (by kernel_rfl) (λ_ _ _ h=>h) ⟨Or.inr ⟨by kernel_rfl,rfl⟩,λ_=>rfl⟩ ?_
     try go_simp
     refine wpAnyIn_take (i:=6) (v:=undef) rfl rfl (by kernel_rfl) (by kernel_rfl) (by kernel_rfl) (λ_ _ _ h=>h) ⟨Or.inr ⟨by kernel_rfl,rfl⟩,λ_=>rfl⟩ ?_
     try go_simp
     refine wpAnyIn_take (i:=7) (v:=undef) rfl rfl (by kernel_rfl) (by kernel_rfl) (by kernel_rfl) (λ_ _ _ h=>h) ⟨Or.inr ⟨by kernel_rfl,rfl⟩,λ_=>rfl⟩ ?_
     try go_simp
     refine wpAnyIn_take (i:=8) (v:=undef) rfl rfl (by kernel_rfl) (by kernel_rfl) (by kernel_rfl) (λ_ _ _ h=>h) ⟨Or.inr ⟨by kernel_rfl,rfl⟩,λ_=>rfl⟩ ?_
     try go_simp
     refine wpAnyIn_take (i:=10) (v:=undef) rfl rfl (by kernel_rfl) (by kernel_rfl) (by kernel_rfl) (λ_ _ _ h=>h) ⟨Or.inr ⟨by kernel_rfl,rfl⟩,λ_=>rfl⟩ ?_
     try go_simp
     refine wpAnyIn_ready (rs:=[9]) (by kernel_rfl) (by simp) ?_;refine AllReadyIn.cons rfl (λK hK=>?_) AllReadyIn.nil;go_simp
     first|refine hK _ _ ?_|(refine ⟨trivial,?_⟩;refine hK _ _ ?_)|(refine ⟨λ_ _=>trivial,?_⟩;refine hK _ _ ?_)
     clear hK K;refine wpAnyIn_ready (rs:=[11]) (by kernel_rfl) (by simp) ?_;refine AllReadyIn.cons rfl (λK hK=>?_) AllReadyIn.nil;go_simp
     first|refine hK _ _ ?_|(refine ⟨trivial,?_⟩;refine hK _ _ ?_)|(refine ⟨λ_ _=>trivial,?_⟩;refine hK _ _ ?_)
     clear hK K;refine wpAnyIn_take (i:=12) (v:=undef) rfl rfl (by kernel_rfl) (by kernel_rfl) (by kernel_rfl) (λ_ _ _ h=>h) ⟨Or.inr ⟨by kernel_rfl,rfl⟩,λ_=>rfl⟩ ?_
     try go_simp
     refine wpAnyIn_take (i:=13) (v:=.bool false) rfl rfl (by kernel_rfl) (by kernel_rfl) (by kernel_rfl) (λ_ _ _ h=>h) ⟨Or.inl ⟨by rfl,λw=>by go_simp⟩,λ_=>rfl⟩ ?_
     try go_simp
     refine wpAnyIn_take (i:=14) (v:=.bool false) rfl rfl (by kernel_rfl) (by kernel_rfl) (by kernel_rfl) (λ_ _ _ h=>h) ⟨Or.inl ⟨by rfl,λw=>by go_simp⟩,λ_=>rfl⟩ ?_
     try go_simp
     refine wpAnyIn_take (i:=15) (v:=.int .i64 at_) rfl rfl (by kernel_rfl) (by kernel_rfl) (by kernel_rfl) (λ_ _ _ h=>h) ⟨Or.inl ⟨by rfl,λw=>by go_simp⟩,λ_=>rfl⟩ ?_
     try go_simp
     refine wpAnyIn_ready (rs:=[16]) (by kernel_rfl) (by simp) ?_;refine AllReadyIn.cons rfl (λK hK=>?_) AllReadyIn.nil;go_simp;refine hK _ _ ?_;clear hK K;refine wpAnyIn_take (i:=17) (v:=.int .i64 line.size) rfl rfl (by kernel_rfl) (by kernel_rfl) (by kernel_rfl) (λ_ _ _ h=>h) ⟨Or.inl ⟨by rfl,λw=>by go_simp⟩,λ_=>rfl⟩ ?_
     try go_simp
     refine wpAnyIn_take (i:=18) (v:=.bool false) rfl rfl (by kernel_rfl) (by kernel_rfl) (by kernel_rfl) (λ_ _ _ h=>h) ⟨Or.inl ⟨by rfl,λw=>by go_simp⟩,λ_=>rfl⟩ ?_
     try go_simp
     refine wpAnyIn_take (i:=19) (v:=.bool false) rfl rfl (by kernel_rfl) (by kernel_rfl) (by kernel_rfl) (λ_ _ _ h=>h) ⟨Or.inl ⟨by rfl,λw=>by go_simp⟩,λ_=>rfl⟩ ?_
     try go_simp
     refine wpAnyIn_done (by kernel_rfl) ?_ _;gi_wp2_with fail;gi_meet;exact .inl ⟨rfl,by omega,bE.out,Cl,by rw[gq,if_neg CN,List.append_nil];exact HJ.out _ _ _ _ _ Oh.out (aN.ar (Below.refl _ _).drew),yY.out.below (Below.refl _ _).drew⟩
   case rest=>
    rcases hcut with ⟨rfl,hpl,hrow,Cl2,J9,Ez⟩|⟨rfl,ic⟩
    ·rcases iB.out with ⟨hpe,_⟩|⟨LL,k,r,Pv,J1,lB,Ua,Ub⟩
     ·rw[ag]at hpe;omega
     have eD:=Ez.bs.1;rw[HST.out]at eD;have y0:wc.cell? ⟨q,0,none⟩=some (.int .i64 Vw):=by simp[World.cell?,eD]
     have y1:wc.cell? ⟨q,1,none⟩=some (.int .i64 qy):=by simp[World.cell?,eD]
     have y2:wc.cell? ⟨q,2,none⟩=some (.int .i64 Vx):=by simp[World.cell?,eD]
     have y3:wc.cell? ⟨q,3,none⟩=some (.int .i64 Vy):=by simp[World.cell?,eD]
     have y4:wc.cell? ⟨q,4,none⟩=some (.int .i64 Vz):=by simp[World.cell?,eD]
     have y5:wc.cell? ⟨q,5,none⟩=some (.int .i64 VA):=by simp[World.cell?,eD]
     have y6:wc.cell? ⟨q,6,none⟩=some (.int .i64 VB):=by simp[World.cell?,eD]
     have y7:wc.cell? ⟨q,7,none⟩=some (.int .i64 VC):=by simp[World.cell?,eD]
     have y8:wc.cell? ⟨q,8,none⟩=some (.int .i64 VD):=by simp[World.cell?,eD]
     have z0:wc.cell? ⟨bP,0,none⟩=some (.slice (some ⟨g,0,none⟩) n cap):=by have h1:=Ez.bp.1;simp[World.cell?,h1]
     have z1:wc.cell? ⟨bP,1,none⟩=some (iF d):=by have h1:=Ez.bp.1;simp[World.cell?,h1]
     have z2:=ay Ez.bl.1;have z3:wc.cell? ⟨Gr,p,none⟩=some (.int .i64 k):=by simp[World.cell?,hrow,Pv]
     have hG:=Ez.p.gN wc (Below.refl _ _);obtain ⟨z4,z40,rv,z5,⟨Xx,rcp,rfl,xQ⟩⟩:=hG.at_ top s HS.out;obtain ⟨rg,lg,ln,lc,rfl,RO⟩:=xQ k r J1;have kX:k<s.rs.length:=au J1;have htn:top<n:=by rw[hG.len];exact au HS.out
     have r0:=RO.c0;have r1:=RO.c1;have r2:=RO.c2;have r3:=RO.c3;have r4:=RO.c4;unfold iF at z1;have RP:=aa hrow;have HJC:=aa J9;have Uc:=aa Ez;clear eD hrow J9 Ez hG xQ RO iB yY bE Oh v0 v1 v2 v3 v4 v5 v6 v7 v8 q0 q1 q2;have m0:=World.new_ne wc ⟨bP,0,none⟩ z0;have m1:=World.new_ne wc ⟨g,top*2+1,none⟩ z5;have m2:=World.new_ne wc ⟨Gr,p,none⟩ z3
     have m3:=World.new_ne wc ⟨rg,k*5,none⟩ r0;go_wp2_with fail
     go_region_held3 (λw'=>w'.cell? ⟨bP,0,none⟩=some (.slice (some ⟨g,0,none⟩) n cap)/\w'.cell? ⟨g,top*2+1,none⟩=some (.slice (some ⟨rg,0,none⟩) s.rs.length rcp)/\w'.cell? ⟨Gr,p,none⟩=some (.int .i64 k)/\w'.cell? ⟨rg,k*5,none⟩=some (.int .i64 r.k)/\w'.cell? ⟨rg,k*5+1,none⟩=some (.int .i64 r.op)/\w'.cell? ⟨rg,k*5+2,none⟩=some (.string r.co)/\w'.cell? ⟨rg,k*5+3,none⟩=some (.slice (some ⟨lg,0,none⟩) ln lc)/\w'.cell? ⟨rg,k*5+4,none⟩=some (.int .i64 r.a.ix))
      (go_keep)
      (fail)
     all_goals
      obtain ⟨wd,hwd⟩:∃wd,(wc.alloc (.cells #[.int .i64 r.k,.int .i64 r.op,.string r.co,.slice (some ⟨lg,0,none⟩) ln lc,.int .i64 r.a.ix] 231)).drew=wd:=⟨_,rfl⟩;have IY:Below wc.heap.size wc wd:=by rw[<-hwd];exact ((Below.refl _ _).alloc (Nat.le_refl _) _).drew
      have zD:wd.heap[wc.heap.size]?=some (.cells #[.int .i64 r.k,.int .i64 r.op,.string r.co,.slice (some ⟨lg,0,none⟩) ln lc,.int .i64 r.a.ix] 231 (0,0)):=by rw[<-hwd];exact af _ _
      obtain ⟨rb,CD⟩:∃rb,rb=wc.heap.size:=⟨_,rfl⟩;rw[hwd,<-CD];rw[<-CD]at zD;have BO:=aa (Uc.out.below IY);have xR:=aa ((IY.block Gr (ae RP.out)).trans RP.out);have HJD:=aa (HJ.out _ _ _ _ _ HJC.out (aN.ar IY));have Vg:=aa zD;have hrA:¬A2 rb:=λh=>by have:=(Uc.out.p.old _ h).2;omega
      have hrq:q<=rb:=by rw[CD];exact Uc.out.size.1
      have Ym:=aa (xl N A2 g n cap G d RH Yg top s wd.drew (BO.out.p.below (Below.refl _ _).drew) HS.out)
      have HK7:=aa (λ(w7:World) (B7:Nat->Prop) (aX:aN B7 wd w7) (hB:¬B7 bP/\¬B7 bL/\¬B7 Gr/\¬B7 rb)=>show (w7.cell? ⟨bP,1,none⟩=some (.func (.func 159) #[] #[.pointer (some ⟨d.kv,0,none⟩),.pointer (some ⟨d.wk,0,none⟩)])/\w7.cell? ⟨Gr,p,none⟩=some (.int .i64 k)/\w7.cell? ⟨bL,0,none⟩=some (.string line))/\w7.heap[Gr]?=some (.cells (fr.map (Value.int .i64)).toArray 3 (0,0))/\w7.heap[rb]?=some (.cells #[.int .i64 r.k,.int .i64 r.op,.string r.co,.slice (some ⟨lg,0,none⟩) ln lc,.int .i64 r.a.ix] 231 (0,0)) from by
       have h1:=aX.same BO.out.bp.1 hB.1;have h2:=aX.same BO.out.bl.1 hB.2.1;have h3:=aX.same xR.out hB.2.2.1;have h4:=aX.same Vg.out hB.2.2.2;exact ⟨⟨by simp[World.cell?,h1,iF],by simp[World.cell?,h3,Pv],by simp[World.cell?,h2]⟩,h3,h4⟩)
      have Ov:=(HK7.out wd.drew (λ_=>False) (aN.ar (w:=wd) (Below.refl _ _).drew) ⟨id,id,id,id⟩).1;clear CD hwd IY zD z0 z1 z2 z3 z4 z5 r0 r1 r2 r3 r4 m0 m1 m2 m3 y0 y1 y2 y3 y4 y5 y6 y7 y8;have yq:=aa (show ¬A2 bP/\¬A2 bL/\¬A2 Gr/\¬A2 rb from ⟨BO.out.bp.2.2,BO.out.bl.2.2,aaV,hrA⟩);have aaX:p<=line.size:=by omega
      go_wp2_with fail;obtain ⟨Yn,Yo,Yp⟩:=Ov;have e0:wd.cell? ⟨bP,1,none⟩=_:=Yn;have e1:wd.cell? ⟨Gr,p,none⟩=_:=Yo;have e2:wd.cell? ⟨bL,0,none⟩=_:=Yp;clear Yn Yo Yp
      go_cut [7] from 60 (λva wz=>∃(stop:Nat) (A4:Nat->Prop) (f4:Nat->Option Value) (F4:Nat->List FD),va=.int .i64 stop/\yZ r.a.re line.data.toList p stop/\wz.heap[rb]?=some (.cells #[.int .i64 r.k,.int .i64 r.op,.string r.co,.slice (some ⟨lg,0,none⟩) ln lc,.int .i64 r.a.ix] 231 (0,0))/\SP N A0 q g n cap G d line (q+2) (q+3) (q+1) bP bL q A4 f4 F4 F8 st Cl2 wz/\J Cl2 (pre++gq at_ p s.nm st.length) st wz)
      case first=>
       go_region_with (first
        | (go_at_call 159;refine Ym.out.mono ?_;clear Ym;rintro e7 w7 ⟨ao,cp,A3,f3,F3,rfl,hf3,nU,MR,Yq,hp7⟩;have Ga:aN A2 wd w7:=⟨nU.os,nU.tape,nU.output,nU.size,nU.keep,nU.stay⟩;clear nU;obtain ⟨x,fg,hao,hx,JU,Ow⟩:=hp7.get HS.out hf3 J1;subst hao;obtain ⟨⟨i0,i1,i2⟩,Kh,aaY⟩:=HK7.out w7 A2 Ga yq.out;have d0:=Ow 0 _ rfl;have d1:=Ow 1 _ rfl;have d2:=Ow 2 _ rfl;have d3:=Ow 3 _ rfl;have d4:=Ow 4 _ rfl;have d5:=Ow 5 _ rfl;rw[Nat.add_zero]at d0;have HEU:=aa (P0 hp7 hf3 hx aaX hz);unfold wZ at HEU;have aaZ:=aa (BO.out.work Ga MR hp7);have aa0:=aa Ga;have aa1:=aa MR;have HXA:=aa JU;clear hf3 Ga MR Yq hp7 hx JU Ow Kh aaY)
        | (go_at_call 129;refine HEU.out.mono ?_;clear HEU;rintro e8 w8 ⟨stop,A4,F4,rfl,pk,MS,RQ,hp8⟩;have MT:aN A2 wd w8:=aa0.out.then MS (λy UN TA=>(aa1.out y TA).elim id (λh=>absurd h (by have:y<wd.heap.size:=UN;show ¬wd.heap.size<=y;omega)));obtain ⟨-,-,Yr⟩:=HK7.out w8 A2 MT yq.out;have aa2:=aa (aaZ.out.work MS RQ hp8);have aa3:=aa MT;have aa4:=aa Yr;have HLG:=aa pk;clear pk MS RQ hp8 MT Yr))
       all_goals
        go_wp2_with fail;go_meet;refine ⟨stop,A4,f3,F4,rfl,by have h:=HLG.out;rw[HXA.out]at h;exact h,aa4.out,aa2.out,HJ.out _ _ _ _ _ HJD.out (aa3.out.sub λy _ hy=>⟨(BO.out.sub y hy).imp id λh=>by rw[<-HQ.out];exact h,λhc=>(BO.out.cl y hc).1.2.2.1 hy⟩)⟩
      case rest=>
       obtain ⟨stop,A4,f4,F4,rfl,pk,zD,IZ,hjz⟩:=hcut;have hG:=IZ.p.gN wc (Below.refl _ _);have eD:=IZ.bs.1;rw[HST.out]at eD;have y0:wc.cell? ⟨q,0,none⟩=some (.int .i64 Vw):=by simp[World.cell?,eD]
       have y1:wc.cell? ⟨q,1,none⟩=some (.int .i64 qy):=by simp[World.cell?,eD]
       have y2:wc.cell? ⟨q,2,none⟩=some (.int .i64 Vx):=by simp[World.cell?,eD]
       have y3:wc.cell? ⟨q,3,none⟩=some (.int .i64 Vy):=by simp[World.cell?,eD]
       have y4:wc.cell? ⟨q,4,none⟩=some (.int .i64 Vz):=by simp[World.cell?,eD]
       have y5:wc.cell? ⟨q,5,none⟩=some (.int .i64 VA):=by simp[World.cell?,eD]
       have y6:wc.cell? ⟨q,6,none⟩=some (.int .i64 VB):=by simp[World.cell?,eD]
       have y7:wc.cell? ⟨q,7,none⟩=some (.int .i64 VC):=by simp[World.cell?,eD]
       have y8:wc.cell? ⟨q,8,none⟩=some (.int .i64 VD):=by simp[World.cell?,eD]
       have z0:wc.cell? ⟨bP,0,none⟩=some (.slice (some ⟨g,0,none⟩) n cap):=by have h1:=IZ.bp.1;simp[World.cell?,h1]
       have z1:wc.cell? ⟨bP,1,none⟩=some (iF d):=by have h1:=IZ.bp.1;simp[World.cell?,h1]
       have c2:wc.cell? ⟨rb,2,none⟩=some (.string r.co):=by simp[World.cell?,zD]
       have J8:=aa (BN g n cap G (iF d) ⟨_,_,rfl⟩ p stop st top s r.co wc hG IX.out.1.2 Bc.out HS.out);unfold kA iF NZ at J8;rw[HST.out]at J8;unfold iF at z1;have Ys:=aa IZ;have HJZ:=aa hjz;have Ud:=aa zD;have HLG:=aa pk;clear hG eD IZ hjz zD pk;go_wp2_with fail;refine J8.out.mono ?_;rintro e9 w9 ⟨rfl,J2⟩;have Yt:=aa (Ys.out.below J2)
       have Ue:=aa ((J2.block _ (ae Ud.out)).trans Ud.out);have Ox:=aa (HJ.out _ _ _ _ _ HJZ.out (aN.ar J2));clear J2 J8 Ys HJZ Ud y0 y1 y2 y3 y4 y5 y6 y7 y8 z0 z1 c2;have Uf:Good G (mb r.k r.op st):=IX.out.mb (λhk=>(xP.out s (List.mem_of_getElem? HS.out) r (List.mem_of_getElem? J1)).2 hk);obtain ⟨x0,x1,x2,x3,x4,x5,x6,x7,x8,jm⟩:=nine Uf.1.2
       obtain ⟨wf,hwf⟩:∃wf,w9.alloc (.cells #[.int .i64 p,.int .i64 stop,.string s.nm,.int .i64 st.length,.string r.co] 70)=wf:=⟨_,rfl⟩;have Vo:Below w9.heap.size w9 wf:=by rw[<-hwf];exact (Below.refl _ _).alloc (Nat.le_refl _) _
       have P2:=aa (Yt.out.below Vo);have I0:=(Vo.block _ (ae Ue.out)).trans Ue.out;have eD:=P2.out.bs.1;rw[HST.out]at eD;have GN:=aa eD;have y0:=ah (j:=0) eD rfl;have y1:=ah (j:=1) eD rfl;have y2:=ah (j:=2) eD rfl;have y3:=ah (j:=3) eD rfl;have y4:=ah (j:=4) eD rfl;have y5:=ah (j:=5) eD rfl;have y6:=ah (j:=6) eD rfl
       have y7:=ah (j:=7) eD rfl;have y8:=ah (j:=8) eD rfl;have z0:=ah (j:=0) I0 rfl;have z1:=ah (j:=1) I0 rfl;have z2:=ah (j:=2) I0 rfl;have z3:=ah (j:=3) I0 rfl;have z4:=ah (j:=4) I0 rfl;have HJF:=aa (HJ.out _ _ _ _ _ Ox.out (aN.ar Vo))
       have T4:=aa (Bx st r.k r.op r.co (some ⟨lg,0,none⟩) ln lc r.a.ix IX.out.1.2 IX.out.1.1 wf);unfold yP kA at T4;rw[HST.out,jm]at T4;have EA:=aa jm;have Yu:=aa Uf;clear eD I0 Vo jm Uf Yt Ue Ox;subst hwf;go_wp2_with fail;refine T4.out.mono ?_;rintro e10 w10 ⟨rfl,CX⟩;have MU:=aa (P2.out.below CX)
       have Yv:=aa (HJ.out _ _ _ _ _ HJF.out (aN.ar CX));have Gb:=aa ((CX.block _ (ae GN.out)).trans GN.out);have EB:=(CX.block _ (by simp)).trans (af w9 (.cells #[.int .i64 p,.int .i64 stop,.string s.nm,.int .i64 st.length,.string r.co] 70));obtain ⟨sb,Ug⟩:∃sb,sb=w9.heap.size:=⟨_,rfl⟩;rw[<-Ug]at EB ⊢;have Yc:=aa EB
       have aa5:q≠sb:=by rw[Ug];have:=ae GN.out;intro e;have h2:=P2.out.bs.1;have h3:=af w9 (.cells #[.int .i64 p,.int .i64 stop,.string s.nm,.int .i64 st.length,.string r.co] 70);rw[<-e,h2]at h3;simp at h3
       clear CX T4 y0 y1 y2 y3 y4 y5 y6 y7 y8 z0 z1 z2 z3 z4 P2 HJF GN EB Ug;dsimp only;refine (by with_reducible assumption:∀(a:Act) (w:World),wpList Tryz.prog _ _ _ a w->(_:Act->World->Prop) a w) _ _ ?_
       refine wpList_store_row rfl _ _ _ rfl q #[.int .i64 x0,.int .i64 x1,.int .i64 x2,.int .i64 x3,.int .i64 x4,.int .i64 x5,.int .i64 x6,.int .i64 x7,.int .i64 x8] rfl rfl 138 _ Gb.out rfl rfl (by simp[Value.oneCell']) ?_
       obtain ⟨Yw,P3⟩:∃Yw,w10.setRow q #[.int .i64 x0,.int .i64 x1,.int .i64 x2,.int .i64 x3,.int .i64 x4,.int .i64 x5,.int .i64 x6,.int .i64 x7,.int .i64 x8]=Yw:=⟨_,rfl⟩;have y9:aN (λk=>k=q) w10 Yw:=by rw[<-P3];exact aN.setRow _ Gb.out (by decide) rfl
       have lC:Yw.heap[q]?=some (.cells #[.int .i64 x0,.int .i64 x1,.int .i64 x2,.int .i64 x3,.int .i64 x4,.int .i64 x5,.int .i64 x6,.int .i64 x7,.int .i64 x8] 138 (0,0)):=by rw[<-P3];exact setRow_heap _ _ _ _ _ _ Gb.out
       rw[P3];have MV:=aa (MU.out.P4 (st':=mb r.k r.op st) y9 (by rw[EA.out];exact lC));have Uh:=aa (HJ.out _ _ _ _ _ Yv.out (y9.sub λk _ hk=>⟨.inr (by rw[hk,<-HQ.out];exact Nat.le_refl _),λhc=>(MU.out.cl k hc).1.2.2.2.2.2 hk⟩));have xm:=y9.same Yc.out (λe=>aa5 e.symm);have y0:=ah (j:=0) lC rfl;have y1:=ah (j:=1) lC rfl
       have y2:=ah (j:=2) lC rfl;have y3:=ah (j:=3) lC rfl;have y4:=ah (j:=4) lC rfl;have y5:=ah (j:=5) lC rfl;have y6:=ah (j:=6) lC rfl;have y7:=ah (j:=7) lC rfl;have y8:=ah (j:=8) lC rfl;have z0:=ah (j:=0) xm rfl;have z1:=ah (j:=1) xm rfl;have z2:=ah (j:=2) xm rfl;have z3:=ah (j:=3) xm rfl
       have z4:=ah (j:=4) xm rfl;have Bd:lD s.rs line.data.toList at_ p k r stop:=⟨hap,LL,J1,lB,Ua,Ub,HLG.out⟩;have CN:=Bd.gt (xP.out s (List.mem_of_getElem? HS.out) r (List.mem_of_getElem? J1)).1;rw[ag]at CN;have Om:=aa (Path.hit qK.out (by rw[ag];exact hlt) Bc.out HS.out Bd)
       obtain ⟨fn,tmps,assign,body,hy,hR⟩:=HY.out Cl2 (pre++gq at_ p s.nm st.length) st ⟨p,stop,s.nm,st.length,r.co⟩ (mb r.k r.op st) Yw Uh.out Yu.out (by have h1:=qK.out.short xP.out;have h2:=nJ at_ p s.nm st.length;rw[List.length_append];omega);unfold Sp.v NZ kA at hy;rw[EA.out]at hy;have sH:=aa hR;clear hR P3 y9 lC xm MU Yv Gb Yc Bd
       dsimp only[wpList,Exit.then];refine (by with_reducible assumption:∀(a:Act) (w:World),Code.wp Tryz.prog _ _ a w->(_:Act->World->Prop) a w) _ _ ?_;refine (wpIn_wide (n:=m)).1 ?_;gi_wp2_with fail;refine ⟨λh=>(by cases h),sH.out.mono ?_⟩;rintro e12 w12 (⟨rfl,Cl3,MW,RR,TQ⟩|⟨rfl,xI⟩)
       ·have rW:=aa (show RF J N A0 q g n cap G d line (q+2) (q+3) (q+1) bP bL q st0 (line.size - stop) (.int .i64 stop) w12 from ⟨stop,_,_,rfl,by omega,Om.out,Yu.out,Cl3,A4,f4,F4,F8,TQ,MV.out.round MW RR⟩);clear MW RR TQ hy sH MV Uh Om y0 y1 y2 y3 y4 y5 y6 y7 y8 z0 z1 z2 z3 z4;gi_wp2_with fail;go_roundg (line.size - stop)
        case measure=>omega
        case rel=>exact rW.out
       ·have Km:=aa xI;clear xI hy sH MV Uh Om y0 y1 y2 y3 y4 y5 y6 y7 y8 z0 z1 z2 z3 z4;gi_wp2_with fail;go_end0;exact ⟨⟨_,rfl⟩,.inr Km.out⟩
    ·have om:=aa ic;clear ic;go_wp2_with fail;go_end0;have h:=om.out;rw[HQ.out]at h;exact ⟨⟨_,rfl⟩,h.2⟩
  ·have g1:decide ((at_:Int)<(line.size:Int))=false:=decide_eq_false (by omega);obtain rfl:at_=line.size:=by omega
   have ai:=aa (show qx J Jx N A0 q g n cap G d line.data.toList st0 (.returned (.tuple #[])) wr from ⟨⟨_,rfl⟩,.inl ⟨pre,st,Cl,A1,f1,F1,.inl (by rw[ag];exact F7),zv,hsp.p,hsp.sub,λk hk=>(hsp.cl k hk).1.2.2.1⟩⟩);clear F7 hgd zv hsp;go_wp2_with fail;go_end0;have h:=ai.out;rw[HQ.out]at h;exact ⟨⟨_,rfl⟩,h.2⟩
end Go.Proofs.YtgncgdkpkkdaeaaGreatDoor
