import Derived.Test.YtgncgdkpkkdaeaaGreatDoorA1
set_option maxRecDepth 20000
set_option maxHeartbeats 4000000
namespace Go.Proofs.YtgncgdkpkkdaeaaGreatDoor
open Go.RowKit bu Go.Maps Go.Shelf
attribute [local go_sem] Oper.semAt_some
theorem uH(N bS g n cap:Nat)(G:List GS)(text:ByteArray)(st0:List Nat)(touched:Nat)(bv:Value)(bs:List (List Nat))(tx:ByteArray)(lv:Value)(work:Nat)(w:World)
  (eM:yq G) (cE:Good G st0) (hz:text.size<=3000) (ub:work<=1000000000000000000) (hT:lC w) (h0:1 < N) (hG:∀w',Below N w w'->cd w' g n cap G) (hN:N<=bS) (hM:Mx w) (BZ:0 < N)
  (hS:w.heap[bS]?=some (.cells #[.slice (some ⟨g,0,none⟩) n cap,.string tx,lv,.int .i64 work] 134 (0,0))) (hb:TV w bS bv bs) (hlen:(aF text.data.toList).length=touched+bs.length):
  Calls Tryz.prog 69 #[.pointer (some ⟨bS,0,none⟩),.string text,lV st0,.int .i64 touched,bv] w (zG bS g n cap G text.data.toList st0 touched bs tx lv work w):=by
 refine (callsIn_wide (n:=9)).1 (callsIn_of_wp_marks Tryz.func69 rfl trivial (wpIn_wide.2 ?_));simp only[Tryz.ntmps69,List.size_toArray,fe,List.length_nil,Nat.reduceAdd,Nat.reduceSub,Array.replicate_succ,Array.replicate_zero,List.push_toArray,List.append_toArray,List.nil_append,List.cons_append]
 obtain ⟨a0,a1,a2,a3,a4,a5,a6,a7,a8,hst⟩:=nine cE.1.2;obtain ⟨bao,bcp,hbv,hb1,hb2⟩:=hb;subst hbv;unfold lV;rw[hst];obtain ⟨q,hq⟩:∃q,q=w.heap.size:=⟨_,rfl⟩
 obtain ⟨W0,hW0⟩:∃W0,(((w.alloc (.cells #[.pointer (some ⟨bS,0,none⟩)] 44)).alloc (.cells #[.int .i64 a0,.int .i64 a1,.int .i64 a2,.int .i64 a3,.int .i64 a4,.int .i64 a5,.int .i64 a6,.int .i64 a7,.int .i64 a8] 138)).alloc (.cells #[.int .i64 touched] 3)).alloc (.cells #[.slice bao bs.length bcp] 132)=W0:=⟨_,rfl⟩
 have Tw:bS<q:=by rw[hq];exact ae hS
 have hs0:W0.heap.size=q+4:=by rw[<-hW0,hq];simp
 have Ut:Below w.heap.size w W0:=by rw[<-hW0];exact (((cq _ _).alloc (by simp) _).alloc (by simp;omega) _).alloc (by simp;omega) _
 have AW:=aa (show W0.heap[q]?=some (.cells #[.pointer (some ⟨bS,0,none⟩)] 44 (0,0))/\W0.heap[q+1]?=some (.cells #[.int .i64 a0,.int .i64 a1,.int .i64 a2,.int .i64 a3,.int .i64 a4,.int .i64 a5,.int .i64 a6,.int .i64 a7,.int .i64 a8] 138 (0,0))/\W0.heap[q+1+1]?=some (.cells #[.int .i64 touched] 3 (0,0))/\W0.heap[q+1+1+1]?=some (.cells #[.slice bao bs.length bcp] 132 (0,0)) from by
  rw[<-hW0];refine ⟨af (af (af (aD _ _ _ hq))),af (af (aD _ _ _ (by simp[hq]))),af (aD _ _ _ (by simp[hq])),aD _ _ _ (by simp[hq])⟩)
 have s0:W0.cell? ⟨w.heap.size,0,none⟩=some (.pointer (some ⟨bS,0,none⟩)):=by have h1:=AW.out.1;rw[hq]at h1;simp[World.cell?,h1]
 have s1:W0.cell? ⟨bS,0,none⟩=some (.slice (some ⟨g,0,none⟩) n cap):=by have h1:=(Ut.block _ (ae hS)).trans hS;simp[World.cell?,h1]
 have ey:=aa (SI g n cap G W0 (hT.keep (Ut.block _ (by omega))) (by omega) (hG W0 (Ut.mono (by omega))));have HS:=aa hS;have HG:=aa hG;have cW:=aa hb2;have gZ:=aa Ut;clear hS hG hb2 Ut;go_wp2_with fail;rw[<-hq];have HQ:=aa hq;clear hq hW0 s0 s1;refine ey.out.mono ?_;rintro e1 W1 ⟨d,rfl,aaZ,BI⟩;have bM:=aa aaZ;have gD:=aa BI;clear aaZ BI ey
 have XP:=aa (GM text ((W1.alloc (.cells #[.slice (some ⟨g,0,none⟩) n cap,jx d] 171)).alloc (.cells #[.slice none 0 0] 132)));have Dg:=aa hst
 have Qq:=aa (λ(rc:Loop)=>Ps (T:=text.data.toList) (bs:=bs) (text:=text) (touched:=touched) HQ.out hN h0 HG.out HS.out hs0 AW.out.1 (by rw[Dg.out];exact AW.out.2.1) AW.out.2.2.1 AW.out.2.2.2 gZ.out bM.out gD.out cE rc);obtain ⟨p0,Yo⟩:∃p0,p0=W1.heap.size:=⟨_,rfl⟩
 have zK:(((W1.alloc (.cells #[.slice (some ⟨g,0,none⟩) n cap,jx d] 171)).alloc (.cells #[.slice none 0 0] 132)).alloc (.cells #[.string text] 9)).heap.size=p0+3:=by rw[Yo];simp
 have Yp:(((W1.alloc (.cells #[.slice (some ⟨g,0,none⟩) n cap,jx d] 171)).alloc (.cells #[.slice none 0 0] 132)).alloc (.cells #[.string text] 9)).heap[p0+2]?=some (.cells #[.string text] 9 (0,0)):=aD _ _ _ (by rw[Yo];simp);unfold jx at XP Qq zK Yp;unfold pv jx;rw[<-Yo]at Qq;clear gD bM gZ AW;go_wp2_with fail;rw[<-Yo]
 refine XP.out.mono ?_;rintro e2 V ⟨rfl,hV⟩;rw[<-hV]at zK Yp Qq;have he:((W1.alloc (.cells #[.slice (some ⟨g,0,none⟩) n cap,.func (.func 159) #[] #[.pointer (some ⟨d.kv,0,none⟩),.pointer (some ⟨d.wk,0,none⟩)]] 171)).alloc (.cells #[.slice none 0 0] 132)).heap.size=p0+2:=by rw[Yo];simp
 rw[he];clear he hV XP Yo;go_wp2_with fail;refine (wpIn_wide (n:=9)).1 (jy rfl (by decide) (gf:=121) (lb:=#[.pointer (some ⟨p0+2,0,none⟩)]) rfl trivial (enters_of Tryz.func121 (by kernel_rfl) rfl) ?_);intro fn hfn;rw[zK];refine Pt hz hM BZ (mb fn _ _ _ _ _) _ Yp (Qq.out _) rfl ?_ ?_ ?_
 ·intro j body st ls v A1 f1 F1 B jU hj UT;have HJ:=aa hj;refine gJ trivial hj.iJ rfl ?_;intro rb rc MA;rw[<-MA]at HJ ⊢;clear hj MA Qq zK Yp;gi_wp2_with fail;refine ⟨HJ.out.iJ,?_⟩;have B6:=aa (HJ.out.zJ rb);obtain ⟨B1,fu⟩:∃B1,B.putObj (p0+3+1) (.loop rb)=B1:=⟨_,rfl⟩;rw[fu]at B6 ⊢;clear fu
  obtain ⟨b0,sO,b2,b3,b4,b5,b6,b7,b8,kg⟩:=nine B6.out.good.1.2;have pP:=B6.out.kv;rw[kg]at pP;have c0:B1.cell? ⟨q,0,none⟩=some (.pointer (some ⟨bS,0,none⟩)):=aA B6.out.sv;have c1:B1.cell? ⟨q+1+1,0,none⟩=some (.int .i64 touched):=aA B6.out.tv;have c2:B1.cell? ⟨q+1+1+1,0,none⟩=some (.slice bao bs.length bcp):=aA B6.out.Yy
  have k0:B1.cell? ⟨q+1,0,none⟩=some (.int .i64 b0):=ai pP rfl;have k1:B1.cell? ⟨q+1,1,none⟩=some (.int .i64 sO):=ai pP rfl;have k2:B1.cell? ⟨q+1,2,none⟩=some (.int .i64 b2):=ai pP rfl;have k3:B1.cell? ⟨q+1,3,none⟩=some (.int .i64 b3):=ai pP rfl;have k4:B1.cell? ⟨q+1,4,none⟩=some (.int .i64 b4):=ai pP rfl
  have k5:B1.cell? ⟨q+1,5,none⟩=some (.int .i64 b5):=ai pP rfl;have k6:B1.cell? ⟨q+1,6,none⟩=some (.int .i64 b6):=ai pP rfl;have k7:B1.cell? ⟨q+1,7,none⟩=some (.int .i64 b7):=ai pP rfl;have k8:B1.cell? ⟨q+1,8,none⟩=some (.int .i64 b8):=ai pP rfl;have rE:j<touched+bs.length:=by rw[<-hlen];exact az jU
  clear pP;gi_wp2_with fail
  gi_cut [40] from 27 (λc wc=>(c=.bool false/\CJ w N bS g n cap G d text.data.toList st0 touched (.slice bao bs.length bcp) bs tx lv work q p0 rb j st ls v A1 f1 F1 wc/\(touched<=j->bs[j - touched]?≠some st))∨(c=.bool true/\CJ w N bS g n cap G d text.data.toList st0 touched (.slice bao bs.length bcp) bs tx lv work q p0 rb j st ls v A1 f1 F1 wc/\touched<=j/\bs[j - touched]?=some st))
  case first=>
   by_cases F7:touched<=j
   ·have g1:decide ((touched:Int)<=(j:Int))=true:=cF (by omega);obtain ⟨jt,hjt⟩:∃jt,j=touched+jt:=⟨j - touched,by omega⟩;obtain ⟨sb,GL⟩:∃sb,bs[jt]?=some sb:=⟨_,cB (by omega)⟩;obtain ⟨aa0,bg,of,acH,acI,hbc⟩:=cW.out jt sb GL;obtain ⟨d0,d1,d2,d3,d4,d5,d6,d7,d8,SJ⟩:=nine aa0
    have wT:∀(y:Nat) c,(aL sb)[y]?=some c->B1.cell? ⟨bg,of+jt*10+y,none⟩=some c:=λy c hy=>(World.cell?_of_block (B6.out.off.keep bg ⟨fh (hbc y c hy),acI⟩)).trans (hbc y c hy)
    rw[SJ]at wT;have e0:=wT 0 _ rfl;have e1:=wT 1 _ rfl;have e2:=wT 2 _ rfl;have e3:=wT 3 _ rfl;have e4:=wT 4 _ rfl;have e5:=wT 5 _ rfl;have e6:=wT 6 _ rfl;have e7:=wT 7 _ rfl;have e8:=wT 8 _ rfl;rw[Nat.add_zero]at e0;have hjb:jt<bs.length:=by omega
    have hwr:IntKind.i64.wrap ((j:Int) - (touched:Int))=(jt:Int):=by rw[IntKind.wrap_i64];omega
    have aa1:(d0=b0/\d1=sO/\d2=b2/\d3=b3/\d4=b4/\d5=b5/\d6=b6/\d7=b7/\d8=b8)<->sb=st:=by
     constructor
     ·rintro ⟨rfl,rfl,rfl,rfl,rfl,rfl,rfl,rfl,rfl⟩;exact DR aa0 B6.out.good.1.2 (SJ.trans kg.symm)
     ·intro h;have h2:=SJ.symm.trans ((congrArg aL h).trans kg);simp at h2;omega
    have aa2:j - touched=jt:=by omega
    subst acH;have HJT:=aa hjt;clear hbc wT hjt SJ;refine jk rfl (by kernel_rfl) (by kernel_rfl) (by kernel_rfl) ?_
    repeat (gi_big_quiet_step (fail))
    refine wpQuietIn_step (λw' hw' f hf=>by simp[Oper.about]at hf) (λK hK=>?_);rw[if_pos (by kernel_rfl)];by_cases Mm:sb=st
    ·refine ⟨.bool true,λw' hw'=>?_,?_⟩
     ·unfold Oper.quietAtIn;rw[oy w' d0 d1 d2 d3 d4 d5 d6 d7 d8 b0 sO b2 b3 b4 b5 b6 b7 b8 _ _ _ _ rfl rfl rfl,cF (aa1.2 Mm)];refine ⟨?_,?_⟩<;>first|rfl|exact hw'
     refine hK _ ?_;clear hK K;simp only[Act.put,List.setIfInBounds_toArray,List.set_cons_zero,List.set_cons_succ]
     repeat (gi_big_quiet_step (fail))
     refine wpQuietIn_nil ?_;intro _ hw';obtain ⟨nq,hw''⟩:=hw';subst hw'';gi_wp2_with fail;gi_meet;exact .inr ⟨rfl,B6.out.below ⟨rfl,rfl,rfl,bc _,λ_ _=>rfl⟩,F7,by rw[aa2,<-Mm];exact GL⟩
    ·refine ⟨.bool false,λw' hw'=>?_,?_⟩
     ·unfold Oper.quietAtIn;rw[oy w' d0 d1 d2 d3 d4 d5 d6 d7 d8 b0 sO b2 b3 b4 b5 b6 b7 b8 _ _ _ _ rfl rfl rfl,bV (λh=>Mm (aa1.1 h))];refine ⟨?_,?_⟩<;>first|rfl|exact hw'
     refine hK _ ?_;clear hK K;simp only[Act.put,List.setIfInBounds_toArray,List.set_cons_zero,List.set_cons_succ]
     repeat (gi_big_quiet_step (fail))
     refine wpQuietIn_nil ?_;intro _ hw';obtain ⟨nq,hw''⟩:=hw';subst hw'';gi_wp2_with fail;gi_meet;exact .inl ⟨rfl,B6.out.below ⟨rfl,rfl,rfl,bc _,λ_ _=>rfl⟩,λ_=>by rw[aa2,GL];intro e;exact Mm (Option.some.inj e)⟩
   ·have g1:decide ((touched:Int)<=(j:Int))=false:=bV (by omega);refine jk rfl (by kernel_rfl) (by kernel_rfl) (by kernel_rfl) ?_
    repeat (gi_big_quiet_step (fail))
    refine wpQuietIn_nil ?_;intro _ hw';obtain ⟨nq,hw''⟩:=hw';subst hw'';gi_wp2_with fail;gi_meet;exact .inl ⟨rfl,B6.out.below ⟨rfl,rfl,rfl,bc _,λ_ _=>rfl⟩,λh=>absurd h F7⟩
  case rest=>
   clear c0 c1 c2 k0 k1 k2 k3 k4 k5 k6 k7 k8;rcases hcut with ⟨rfl,Ml,Ql⟩|⟨rfl,Ml,F7,hbt⟩
   ·have pP:=Ml.kv;obtain ⟨b0,sO,b2,b3,b4,b5,b6,b7,b8,kg⟩:=nine Ml.good.1.2;rw[kg]at pP;obtain ⟨wj,Yb⟩:∃wj,wj=work+j:=⟨_,rfl⟩;have Cc:=Ml.sh;rw[<-Yb]at Cc;have c0:wc.cell? ⟨q,0,none⟩=some (.pointer (some ⟨bS,0,none⟩)):=aA Ml.sv;have c1:wc.cell? ⟨bS,3,none⟩=some (.int .i64 wj):=ai Cc rfl
    have c1f:wc.frozen? ⟨bS,3,none⟩=false:=by simp[World.frozen?,Cc]
    have hwr:IntKind.i64.wrap ((wj:Int)+1)=(wj:Int)+1:=by have h1:=aT text.data.toList;have h2:text.data.toList.count 10<=text.data.toList.length:=List.count_le_length;rw[aj]at h2;have h3:=az jU;rw[IntKind.wrap_i64];omega
    have Pu:=aa Ml.acJ;rw[<-Yb]at Pu;obtain ⟨w7,hw7⟩:∃w7,wc.setCell ⟨bS,3,none⟩ (.int .i64 ((wj:Int)+1))=w7:=⟨_,rfl⟩;rw[hw7]at Pu;have wU:=Pu.out.kv;rw[kg]at wU;have k0:w7.cell? ⟨q+1,0,none⟩=some (.int .i64 b0):=ai wU rfl;have k1:w7.cell? ⟨q+1,1,none⟩=some (.int .i64 sO):=ai wU rfl
    have k2:w7.cell? ⟨q+1,2,none⟩=some (.int .i64 b2):=ai wU rfl;have k3:w7.cell? ⟨q+1,3,none⟩=some (.int .i64 b3):=ai wU rfl;have k4:w7.cell? ⟨q+1,4,none⟩=some (.int .i64 b4):=ai wU rfl;have k5:w7.cell? ⟨q+1,5,none⟩=some (.int .i64 b5):=ai wU rfl;have k6:w7.cell? ⟨q+1,6,none⟩=some (.int .i64 b6):=ai wU rfl
    have k7:w7.cell? ⟨q+1,7,none⟩=some (.int .i64 b7):=ai wU rfl;have k8:w7.cell? ⟨q+1,8,none⟩=some (.int .i64 b8):=ai wU rfl;have GK:=aa kg;have HNS:=aa Ql;have HWJ:=aa Yb;have m0:w7.cell? ⟨p0,0,none⟩=some (.slice (some ⟨g,0,none⟩) n cap):=ai Pu.out.pv rfl;have m1:w7.cell? ⟨p0,1,none⟩=some (jx d):=ai Pu.out.pv rfl
    obtain ⟨w8,Mn⟩:∃w8,w7.alloc (.cells #[.int .i64 b0,.int .i64 sO,.int .i64 b2,.int .i64 b3,.int .i64 b4,.int .i64 b5,.int .i64 b6,.int .i64 b7,.int .i64 b8,.slice none 0 0] 151)=w8:=⟨_,rfl⟩;have Yq:=aa (Pv g n cap d body st Pu.out.good.1.2 w8);unfold lV pv jx at Yq;rw[kg]at Yq;unfold jx at m1
    have n0:w8.cell? ⟨p0,0,none⟩=some (.slice (some ⟨g,0,none⟩) n cap):=by rw[<-Mn];exact aw m0 _
    have n1:w8.cell? ⟨p0,1,none⟩=some (.func (.func 159) #[] #[.pointer (some ⟨d.kv,0,none⟩),.pointer (some ⟨d.wk,0,none⟩)]):=by rw[<-Mn];exact aw m1 _
    have o0:w8.cell? ⟨q+1,0,none⟩=some (.int .i64 b0):=by rw[<-Mn];exact aw k0 _
    have o1:w8.cell? ⟨q+1,1,none⟩=some (.int .i64 sO):=by rw[<-Mn];exact aw k1 _
    have o2:w8.cell? ⟨q+1,2,none⟩=some (.int .i64 b2):=by rw[<-Mn];exact aw k2 _
    have o3:w8.cell? ⟨q+1,3,none⟩=some (.int .i64 b3):=by rw[<-Mn];exact aw k3 _
    have o4:w8.cell? ⟨q+1,4,none⟩=some (.int .i64 b4):=by rw[<-Mn];exact aw k4 _
    have o5:w8.cell? ⟨q+1,5,none⟩=some (.int .i64 b5):=by rw[<-Mn];exact aw k5 _
    have o6:w8.cell? ⟨q+1,6,none⟩=some (.int .i64 b6):=by rw[<-Mn];exact aw k6 _
    have o7:w8.cell? ⟨q+1,7,none⟩=some (.int .i64 b7):=by rw[<-Mn];exact aw k7 _
    have o8:w8.cell? ⟨q+1,8,none⟩=some (.int .i64 b8):=by rw[<-Mn];exact aw k8 _
    subst Mn;clear pP kg Cc Ml wU Ql Yb;gi_wp2_with (refine cO rfl _ _ _ rfl _ #[.int .i64 b0,.int .i64 sO,.int .i64 b2,.int .i64 b3,.int .i64 b4,.int .i64 b5,.int .i64 b6,.int .i64 b7,.int .i64 b8,.slice none 0 0] rfl rfl 151 _ (aD _ _ _ rfl) rfl rfl (by simp[Value.oneCell']) ?_;rw[et _ _ _ _ _ rfl])
    refine ⟨trivial,(CallsIn.inRound (p0+3+1) (callsIn_wide.2 Yq.out)).mono ?_⟩;rintro e9 w9 ⟨rfl,UN⟩;obtain ⟨bl,hbl⟩:∃bl,bl=w7.heap.size:=⟨_,rfl⟩;have he:(w7.alloc (.cells #[.int .i64 b0,.int .i64 sO,.int .i64 b2,.int .i64 b3,.int .i64 b4,.int .i64 b5,.int .i64 b6,.int .i64 b7,.int .i64 b8,.slice none 0 0] 151)).heap.size=bl+1:=by rw[hbl];simp
    obtain ⟨Mc,UO,f0,Ul,f2,f3⟩:=EP w7 _ _ _ _ bl hbl w9 UN;rw[he,<-hbl];have QR:=aa (Pu.out.below Mc);have acK:∀k,A1 k->k<bl:=λk hk=>by rw[hbl];exact (Pu.out.Tv.old k hk).2
    have WS:p0+5<=bl:=by rw[hbl];exact Pu.out.ord.2.2.1
    have Uu:=aa (λ(k:Nat) (hk:bl<=k)=>Pu.out.fU.free (k:=k) (.inr (by rw[<-hbl];exact hk)));have Vl:=aa f0;have kU:=aa Ul;have eU:=aa f2;have ir:=aa f3;clear he UN Mc Yq Pu f0 Ul f2 f3 n0 n1 m0 m1 k0 k1 k2 k3 k4 k5 k6 k7 k8 o0 o1 o2 o3 o4 o5 o6 o7 o8 c0 c1 c1f hbl;gi_wp2_with fail
    refine tD (l₀:=p0+3+1) (r₀:=rb) rfl QR.out.iJ (by decide) (gf:=122) (lb:=#[.pointer (some ⟨bl+1+2,0,none⟩),.pointer (some ⟨bl+1,0,none⟩),.pointer (some ⟨bl+1+1,0,none⟩)]) rfl trivial (enters_of Tryz.func122 (by kernel_rfl) rfl) ?_;intro fn2 acL;rw[UO]
    have hbz:body.size<=3000:=by have h1:=kI (bn jU);rw[aj,aj]at h1;omega
    refine CallsIn.inRound (p0+3+1) (EQ QR.out eM hbz acK WS UO (by rw[GK.out];exact Vl.out) (by unfold jx;exact kU.out) eU.out (by rw[GK.out];exact ir.out) (mb fn2 _ _ _ _ _) _ ?_ ?_)
    ·intro Cl pre lU x st' A nZ hgd NG;have HIJ:=aa nZ;obtain ⟨sv,-,i2,i3,i4,i5,-,i7,i8⟩:=nZ;refine gJ trivial i4 rfl ?_;intro Qk BS Pw;rw[<-Pw]at HIJ i4 ⊢;obtain ⟨y0,y1,y2,y3,y4,y5,y6,y7,y8,WT⟩:=nine hgd.1.2;unfold Sp.v Qo lV;rw[WT];have Ai:=aa i2;have Nt:=aa i3;have T4:=aa i4;have HI5:=aa i5;have Gt:=aa WT;have acM:=hgd.1.2
     clear Pw i2 i3 i4 i5 WT hgd
     gi_wp2_with (first
      | (refine cO rfl _ _ _ rfl _ #[.int .i64 x.fr,.int .i64 x.to,.string x.nm,.int .i64 x.jL,.string x.co] rfl rfl 70 _ (aD _ _ _ rfl) rfl rfl (by simp[Value.oneCell']) ?_;rw[et _ _ _ _ _ rfl])
      | (refine cO rfl _ _ _ rfl _ #[.int .i64 y0,.int .i64 y1,.int .i64 y2,.int .i64 y3,.int .i64 y4,.int .i64 y5,.int .i64 y6,.int .i64 y7,.int .i64 y8] rfl rfl 138 _ (aD _ _ _ (by simp)) rfl rfl (by simp[Value.oneCell']) ?_;rw[et _ _ _ _ _ (by simp)]))
     refine ⟨af (af T4.out),?_⟩;obtain ⟨A2,rA,I2,xW,hsp,haf,hl2⟩:=I3 A (.cells #[.int .i64 x.fr,.int .i64 x.to,.string x.nm,.int .i64 x.jL,.string x.co] 70) (.cells #[.int .i64 y0,.int .i64 y1,.int .i64 y2,.int .i64 y3,.int .i64 y4,.int .i64 y5,.int .i64 y6,.int .i64 y7,.int .i64 y8] 138) (bl+4) _ Qk T4.out;rw[rA];clear rA
     obtain ⟨sA,Js⟩:∃sA,sA=A.heap.size:=⟨_,rfl⟩;rw[<-Js]at xW hsp haf ⊢;have hj8:=QR.out.good.1.2;have UM:=dA hj8;have acN:q+1<bl:=by have:=QR.out.ord;omega
     have i3':=I2.same Nt.out (by omega);have t9:A2.cell? ⟨bl,9,none⟩=some sv:=ai i3' (by rw[List.getElem?_toArray,pS (by omega),UM];rfl);have s0:A2.cell? ⟨sA,0,none⟩=some (.int .i64 x.fr):=ai hsp rfl;have s1:A2.cell? ⟨sA,1,none⟩=some (.int .i64 x.to):=ai hsp rfl;have s2:A2.cell? ⟨sA,2,none⟩=some (.string x.nm):=ai hsp rfl
     have s3:A2.cell? ⟨sA,3,none⟩=some (.int .i64 x.jL):=ai hsp rfl;have s4:A2.cell? ⟨sA,4,none⟩=some (.string x.co):=ai hsp rfl;have oT:aM (λk=>k=bl+4) A (A2.alloc (.cells #[.int .i64 x.fr,.int .i64 x.to,.string x.nm,.int .i64 x.jL,.string x.co] 70)):=I2.trans (aM.ay (cq _ _))
     have HL3:=aa (show (A2.alloc (.cells #[.int .i64 x.fr,.int .i64 x.to,.string x.nm,.int .i64 x.jL,.string x.co] 70)).heap[bl+4]?=some (.loop Qk) from af hl2)
     have bj:=aa (show (A2.alloc (.cells #[.int .i64 x.fr,.int .i64 x.to,.string x.nm,.int .i64 x.jL,.string x.co] 70)).ownsRow (bl+5) 70 5 sv pre.length (pre.flatMap Sp.cells) from aI HI5.out λk hk=>by obtain ⟨a,c,hc⟩:=ar HI5.out hk;rw[hc];exact oT.same hc (by omega))
     have ey:=aa (λ(y:Nat) u (h:([.int .i64 x.fr,.int .i64 x.to,.string x.nm,.int .i64 x.jL,.string x.co]:List Value)[y]?=some u)=>show (A2.alloc (.cells #[.int .i64 x.fr,.int .i64 x.to,.string x.nm,.int .i64 x.jL,.string x.co] 70)).cell? ((⟨A2.heap.size,0,none⟩:Addr).add y)=some u from aG A2 #[.int .i64 x.fr,.int .i64 x.to,.string x.nm,.int .i64 x.jL,.string x.co] _ y u h)
     have F5:∀k,sv.ownBlock=some k->bl+5<=k/\k<sA:=λk hk=>by obtain ⟨a,c,hc⟩:=ar HI5.out hk;exact ⟨a,by rw[Js];exact ae hc⟩
     have aa3:=aa (λ(v':Value) (A4:World) (hg:(A2.alloc (.cells #[.int .i64 x.fr,.int .i64 x.to,.string x.nm,.int .i64 x.jL,.string x.co] 70)).grownBy A4 sv.ownBlock)=>show (A4.cell? ⟨bl,9,none⟩=some sv/\A4.frozen? ⟨bl,9,none⟩=false)/\∀A5,A4.setCell ⟨bl,9,none⟩ v'=A5->(A5.cell? ⟨sA+1,0,none⟩=some (.int .i64 y0)/\A5.cell? ⟨sA+1,1,none⟩=some (.int .i64 y1)/\A5.cell? ⟨sA+1,2,none⟩=some (.int .i64 y2)/\A5.cell? ⟨sA+1,3,none⟩=some (.int .i64 y3)/\A5.cell? ⟨sA+1,4,none⟩=some (.int .i64 y4)/\A5.cell? ⟨sA+1,5,none⟩=some (.int .i64 y5)/\A5.cell? ⟨sA+1,6,none⟩=some (.int .i64 y6)/\A5.cell? ⟨sA+1,7,none⟩=some (.int .i64 y7)/\A5.cell? ⟨sA+1,8,none⟩=some (.int .i64 y8))/\A5.heap[q+1]?=some (.cells (aL lU).toArray 138 (0,0)) from by
      have key:∀(k:Nat) o,(A2.alloc (.cells #[.int .i64 x.fr,.int .i64 x.to,.string x.nm,.int .i64 x.jL,.string x.co] 70)).heap[k]?=some o->(k<bl+5∨sA<=k)->A4.heap[k]?=some o:=λk o hk h1=>(hg.block k (ae hk) (λe=>by have:=F5 k e.symm;omega)).trans hk
      have b4:=key bl _ (af i3') (by omega);refine ⟨⟨ai b4 (by rw[List.getElem?_toArray,pS (by omega),UM];rfl),by simp[World.frozen?,b4]⟩,λA5 hA5=>?_⟩
      have SK:A5.heap[sA+1]?=some (.cells #[.int .i64 y0,.int .i64 y1,.int .i64 y2,.int .i64 y3,.int .i64 y4,.int .i64 y5,.int .i64 y6,.int .i64 y7,.int .i64 y8] 138 (0,0)):=by rw[<-hA5,eV _ _ _ _ (by show sA+1≠bl;omega)];exact key _ _ (af haf) (by omega)
      have hk5:A5.heap[q+1]?=some (.cells (aL lU).toArray 138 (0,0)):=by rw[<-hA5,eV _ _ _ _ (by show q+1≠bl;omega)];exact key _ _ (af (I2.same Ai.out (by omega))) (by omega)
      exact ⟨⟨ai SK rfl,ai SK rfl,ai SK rfl,ai SK rfl,ai SK rfl,ai SK rfl,ai SK rfl,ai SK rfl,ai SK rfl⟩,hk5⟩)
     obtain ⟨n0,hi,hz0,hz1,hz3⟩:=info_parts fc;have hbase:bl+5<=(A2.alloc (.cells #[.int .i64 x.fr,.int .i64 x.to,.string x.nm,.int .i64 x.jL,.string x.co] 70)).heap.size:=by rw[World.size_alloc,xW];omega
     have aa4:=aa oT;have acO:(aL lU).toArray.size=9:=by rw[List.size_toArray,dA i8]
     have Gs:=aa Js;clear I2 xW hsp haf hl2 i3' oT F5 Ai T4 HI5 Js
     gi_wp2_with (first
      | (refine wpListIn_append_own_at _ rfl (.tmp 57) (.tmp 59) 64 rfl (bl+5) 70 n0 (.agg #[.int .i64 0,.int .i64 0,.string ⟨#[]⟩,.int .i64 0,.string ⟨#[]⟩]) 5 56 Tryz.underlying64 hi hz0 hz1 hz3 rfl (by decide) sv pre.length (pre.flatMap Sp.cells) (by rfl) bj.out ⟨A2.heap.size,0,none⟩ 1 1 [.int .i64 x.fr,.int .i64 x.to,.string x.nm,.int .i64 x.jL,.string x.co] (by rfl) rfl ey.out (by simp[Value.oneCell']) (by unfold maxLen;omega) (by omega) hbase ?_;intro v' A4 hown hg _ hv;obtain ⟨⟨z9,z9f⟩,hz5⟩:=aa3.out v' A4 hg;have HX:=aa (And.intro hown (And.intro hg hv));obtain ⟨g',cap',rfl⟩:=aB hown (by omega);obtain ⟨A5,hA5⟩:∃A5,A4.setCell ⟨bl,9,none⟩ (.slice (some ⟨g',0,none⟩) (pre.length+1) cap')=A5:=⟨_,rfl⟩;obtain ⟨⟨q0',q1',q2',q3',q4',q5',q6',q7',q8'⟩,hk5⟩:=hz5 A5 hA5;have HK5:=aa hk5;clear hown hg hv hz5 hk5 aa3 bj ey)
      | (refine cO rfl _ _ _ rfl (q+1) #[.int .i64 y0,.int .i64 y1,.int .i64 y2,.int .i64 y3,.int .i64 y4,.int .i64 y5,.int .i64 y6,.int .i64 y7,.int .i64 y8] rfl rfl 138 _ HK5.out rfl acO (by simp[Value.oneCell']) ?_))
     have tZ:=HIJ.out.next (st':=st') (x:=x) (A4:=A4) (sv':=.slice (some ⟨g',0,none⟩) (pre.length+1) cap') acN hj8 acM aa4.out HL3.out (λY3 h2=>by
      have h3:=h2.symm.trans Nt.out;have h4:Y3=sv:=by simpa using h3
      rw[h4];exact HX.out) _ rfl
     rw[hA5,Gt.out]at tZ;rw[Gs.out];exact ⟨tZ.1,.inl ⟨rfl,tZ.2⟩⟩
    ·intro r W bh lU Cl A' f' F' BV nZ hp oY il;have OI:=QR.out.ord;have WU:=λro=>UR nZ UO (by omega) (by omega) hp oY il ro
     refine ⟨⟨r,rfl⟩,.inl ⟨(WU rb).1,λro=>?_⟩⟩;obtain ⟨-,sv,hm⟩:=WU ro;obtain ⟨W1,hW1⟩:∃W1,W.putObj (bl+4) (.loop ro)=W1:=⟨_,rfl⟩;rw[hW1]at hm ⊢;obtain ⟨hav,oa,LY,fL,oX⟩:=hm.reads QR.out WS Uu.out;subst oX;have lJ:=hm.line;rw[GK.out]at lJ;have l10:W1.cell? ⟨bl,9,none⟩=some (.slice LY bh.length fL):=ai lJ rfl
     have l0:W1.cell? ⟨bl,0,none⟩=some (.int .i64 b0):=ai lJ rfl;have l1:W1.cell? ⟨bl,1,none⟩=some (.int .i64 sO):=ai lJ rfl;have l2:W1.cell? ⟨bl,2,none⟩=some (.int .i64 b2):=ai lJ rfl;have l3:W1.cell? ⟨bl,3,none⟩=some (.int .i64 b3):=ai lJ rfl;have l4:W1.cell? ⟨bl,4,none⟩=some (.int .i64 b4):=ai lJ rfl
     have l5:W1.cell? ⟨bl,5,none⟩=some (.int .i64 b5):=ai lJ rfl;have l6:W1.cell? ⟨bl,6,none⟩=some (.int .i64 b6):=ai lJ rfl;have l7:W1.cell? ⟨bl,7,none⟩=some (.int .i64 b7):=ai lJ rfl;have l8:W1.cell? ⟨bl,8,none⟩=some (.int .i64 b8):=ai lJ rfl;have v0:W1.cell? ⟨p0+1,0,none⟩=some v:=aA hav;have HM:=aa hm;have MH:=aa BV
     obtain ⟨n0,hi,hz0,hz1,hz3⟩:=info_parts BU;have bj:=aa (show (W1.alloc (.cells #[.int .i64 b0,.int .i64 sO,.int .i64 b2,.int .i64 b3,.int .i64 b4,.int .i64 b5,.int .i64 b6,.int .i64 b7,.int .i64 b8,.slice LY bh.length fL] 151)).ownsRow q 151 10 v ls.length (ls.flatMap LE.cells) from (oa.below (cq _ _)).row)
     have ey:=aa (λ(y:Nat) u (h:([.int .i64 b0,.int .i64 sO,.int .i64 b2,.int .i64 b3,.int .i64 b4,.int .i64 b5,.int .i64 b6,.int .i64 b7,.int .i64 b8,.slice LY bh.length fL]:List Value)[y]?=some u)=>show (W1.alloc (.cells #[.int .i64 b0,.int .i64 sO,.int .i64 b2,.int .i64 b3,.int .i64 b4,.int .i64 b5,.int .i64 b6,.int .i64 b7,.int .i64 b8,.slice LY bh.length fL] 151)).cell? ((⟨W1.heap.size,0,none⟩:Addr).add y)=some u from aG W1 #[.int .i64 b0,.int .i64 sO,.int .i64 b2,.int .i64 b3,.int .i64 b4,.int .i64 b5,.int .i64 b6,.int .i64 b7,.int .i64 b8,.slice LY bh.length fL] _ y u h)
     have Vx:ls.length<=4000:=by have h1:=aT text.data.toList;have h2:text.data.toList.count 10<=text.data.toList.length:=List.count_le_length;rw[aj]at h2;have h3:=az jU;omega
     have hbase:q<=(W1.alloc (.cells #[.int .i64 b0,.int .i64 sO,.int .i64 b2,.int .i64 b3,.int .i64 b4,.int .i64 b5,.int .i64 b6,.int .i64 b7,.int .i64 b8,.slice LY bh.length fL] 151)).heap.size:=by rw[World.size_alloc];have:=hm.size;omega
     have fk:=aa (λ(v':Value) (W3:World) (hrow:W3.ownsRow q 151 10 v' (ls.length+1) (ls.flatMap LE.cells++[.int .i64 b0,.int .i64 sO,.int .i64 b2,.int .i64 b3,.int .i64 b4,.int .i64 b5,.int .i64 b6,.int .i64 b7,.int .i64 b8,.slice LY bh.length fL])) (hg:(W1.alloc (.cells #[.int .i64 b0,.int .i64 sO,.int .i64 b2,.int .i64 b3,.int .i64 b4,.int .i64 b5,.int .i64 b6,.int .i64 b7,.int .i64 b8,.slice LY bh.length fL] 151)).grownBy W3 v.ownBlock) (hv:v'.ownBlock=v.ownBlock∨v'.ownBlock=some (W1.alloc (.cells #[.int .i64 b0,.int .i64 sO,.int .i64 b2,.int .i64 b3,.int .i64 b4,.int .i64 b5,.int .i64 b6,.int .i64 b7,.int .i64 b8,.slice LY bh.length fL] 151)).heap.size)=>CJ.next HM.out QR.out WS Uu.out eM jU MH.out UT HNS.out (by rw[GK.out];exact hrow) hg hv)
     clear WU nZ hp oY il hm hav oa lJ BV hW1
     gi_wp2_with (refine wpListIn_append_own_at _ rfl (.tmp 63) (.tmp 65) 132 rfl q 151 n0 (.agg #[.int .i64 0,.int .i64 0,.int .i64 0,.int .i64 0,.int .i64 0,.int .i64 0,.int .i64 0,.int .i64 0,.int .i64 0,.slice none 0 0]) 10 96 Tryz.underlying132 hi hz0 hz1 hz3 rfl (by decide) v ls.length (ls.flatMap LE.cells) (by rfl) bj.out ⟨W1.heap.size,0,none⟩ 1 1 [.int .i64 b0,.int .i64 sO,.int .i64 b2,.int .i64 b3,.int .i64 b4,.int .i64 b5,.int .i64 b6,.int .i64 b7,.int .i64 b8,.slice LY bh.length fL] (by rfl) rfl ey.out (by simp[Value.oneCell']) (by unfold maxLen;omega) (by omega) hbase ?_;intro v' W3 hown hg _ hv;obtain ⟨BW,Ty⟩:=fk.out v' W3 hown hg hv;have acP:=aa Ty;obtain ⟨g',cap',rfl⟩:=aB hown (by omega);have z0:=aA BW;have z0f:W3.frozen? ⟨p0+1,0,none⟩=false:=(by simp[World.frozen?,BW]);clear hown hg hv Ty BW fk bj ey)
     have hc2:=acP.out;rw[UT]at hc2;exact ⟨hc2.iJ,.inl ⟨rfl,_,_,_,_,_,_,hc2.zJ _,by rw[dG,UT];rfl⟩⟩
   ·have HJC:=aa Ml;clear Ml;gi_wp2_with fail;exact ⟨HJC.out.iJ,.inr ⟨rfl,st,ls,v,A1,f1,F1,HJC.out.zJ _,UT,F7,hbt⟩⟩
 ·intro r W st ls v A1 f1 F1 hj hl;refine ⟨⟨r,rfl⟩,.inl ⟨hj.iJ,λro=>?_⟩⟩;have ez:=hj.zJ ro;obtain ⟨W9,EZ⟩:∃W9,W.putObj (p0+3+1) (.loop ro)=W9:=⟨_,rfl⟩;rw[EZ]at ez ⊢;have c9:W9.cell? ⟨p0+1,0,none⟩=some v:=aA ez.av;have pU:=aa (ez.done (by omega) (.inl hl));have UW:=aa ez.uF;obtain ⟨xz,vc,WV⟩:=aC ez.fU.row;subst WV
  have HL:=aa hl;clear hj ez EZ Qq hl;dsimp only;go_wp2_with fail;refine ⟨by simp,.inl ⟨_,_,rfl,run_takeDeferred UW.out,?_⟩⟩;exact ⟨_,(by simp[results,Tryz.results69,go_sem]),pU.out⟩
 ·intro r W st ls v A1 f1 F1 hj h1 h2;refine ⟨⟨r,rfl⟩,.inr ⟨_,hj.iJ,λro=>?_⟩⟩;have ez:=hj.zJ ro;obtain ⟨W9,EZ⟩:∃W9,W.putObj (p0+3+1) (.loop ro)=W9:=⟨_,rfl⟩;rw[EZ]at ez ⊢;have c9:W9.cell? ⟨p0+1,0,none⟩=some v:=aA ez.av;have pU:=aa (ez.done (by have:=az h2;omega) (.inr ⟨h1,h2⟩));have UW:=aa ez.uF
  obtain ⟨xz,vc,WV⟩:=aC ez.fU.row;subst WV;clear hj ez EZ Qq h2;refine wpIn_wide.2 ?_;go_wp2_with fail;refine ⟨by simp,.inl ⟨_,_,rfl,run_takeDeferred UW.out,?_⟩⟩;exact ⟨_,(by simp[results,Tryz.results69,go_sem]),pU.out⟩
end Go.Proofs.YtgncgdkpkkdaeaaGreatDoor
