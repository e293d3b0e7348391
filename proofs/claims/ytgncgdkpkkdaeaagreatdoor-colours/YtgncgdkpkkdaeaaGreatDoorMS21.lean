import Derived.Test.YtgncgdkpkkdaeaaGreatDoorM1
namespace Go.Proofs.YtgncgdkpkkdaeaaGreatDoor
open Go.RowKit aQ Go.Maps Go.Shelf
attribute [local go_sem] Oper.semAt_some
set_option maxRecDepth 20000 in
set_option maxHeartbeats 4000000 in
theorem sD(N bS g n cap:Nat)(G:List GS)(text:ByteArray)(st0:List Nat)(touched:Nat)(bv:Value)(bs:List (List Nat))(tx:ByteArray)(lv:Value)(work:Nat)(w:World)
  (eA:vY G) (b9:Good G st0) (hz:text.size<=3000) (vF:work<=1000000000000000000) (hT:kB w) (h0:1 < N) (hG:∀w',Below N w w'->cP w' g n cap G) (hN:N<=bS) (hM:Mx w) (zM:0 < N)
  (hS:w.heap[bS]?=some (.cells #[.slice (some ⟨g,0,none⟩) n cap,.string tx,lv,.int .i64 work] 134 (0,0))) (hb:AK w bS bv bs) (hlen:(aA text.data.toList).length=touched+bs.length):
  Calls Tryz.prog 69 #[.pointer (some ⟨bS,0,none⟩),.string text,kA st0,.int .i64 touched,bv] w (xG bS g n cap G text.data.toList st0 touched bs tx lv work w):=by
 refine (callsIn_wide (n:=9)).1 (callsIn_of_wp_marks Tryz.func69 rfl trivial (wpIn_wide.2 ?_));simp only[Tryz.ntmps69,List.size_toArray,List.length_cons,List.length_nil,Nat.reduceAdd,Nat.reduceSub,Array.replicate_succ,Array.replicate_zero,List.push_toArray,List.append_toArray,List.nil_append,List.cons_append]
 obtain ⟨a0,a1,a2,a3,a4,a5,a6,a7,a8,hst⟩:=nine b9.1.2;obtain ⟨Yx,Yy,hbv,hb1,hb2⟩:=hb;subst hbv;unfold kA;rw[hst];obtain ⟨q,hq⟩:∃q,q=w.heap.size:=⟨_,rfl⟩
 obtain ⟨W0,hW0⟩:∃W0,(((w.alloc (.cells #[.pointer (some ⟨bS,0,none⟩)] 44)).alloc (.cells #[.int .i64 a0,.int .i64 a1,.int .i64 a2,.int .i64 a3,.int .i64 a4,.int .i64 a5,.int .i64 a6,.int .i64 a7,.int .i64 a8] 138)).alloc (.cells #[.int .i64 touched] 3)).alloc (.cells #[.slice Yx bs.length Yy] 132)=W0:=⟨_,rfl⟩
 have QQ:bS<q:=by rw[hq];exact ae hS
 have hs0:W0.heap.size=q+4:=by rw[<-hW0,hq];simp
 have JW:Below w.heap.size w W0:=by rw[<-hW0];exact ((((Below.refl _ _).alloc (Nat.le_refl _) _).alloc (by simp) _).alloc (by simp;omega) _).alloc (by simp;omega) _
 have yM:=aa (show W0.heap[q]?=some (.cells #[.pointer (some ⟨bS,0,none⟩)] 44 (0,0))/\W0.heap[q+1]?=some (.cells #[.int .i64 a0,.int .i64 a1,.int .i64 a2,.int .i64 a3,.int .i64 a4,.int .i64 a5,.int .i64 a6,.int .i64 a7,.int .i64 a8] 138 (0,0))/\W0.heap[q+1+1]?=some (.cells #[.int .i64 touched] 3 (0,0))/\W0.heap[q+1+1+1]?=some (.cells #[.slice Yx bs.length Yy] 132 (0,0)) from by
  rw[<-hW0];refine ⟨heap_alloc_old (heap_alloc_old (heap_alloc_old (az _ _ _ hq))),heap_alloc_old (heap_alloc_old (az _ _ _ (by simp[hq]))),heap_alloc_old (az _ _ _ (by simp[hq])),az _ _ _ (by simp[hq])⟩)
 have s0:W0.cell? ⟨w.heap.size,0,none⟩=some (.pointer (some ⟨bS,0,none⟩)):=by have h1:=yM.out.1;rw[hq]at h1;simp[World.cell?,h1]
 have s1:W0.cell? ⟨bS,0,none⟩=some (.slice (some ⟨g,0,none⟩) n cap):=by have h1:=(JW.block _ (ae hS)).trans hS;simp[World.cell?,h1]
 have fp:=aa (P5 g n cap G W0 (hT.keep (JW.block _ (by omega))) (by omega) (hG W0 (JW.mono (by omega))));have HS:=aa hS;have HG:=aa hG;have cM:=aa hb2;have gR:=aa JW;clear hS hG hb2 JW;go_wp2_with fail;rw[<-hq];have HQ:=aa hq;clear hq hW0 s0 s1;refine fp.out.mono ?_;rintro e1 W1 ⟨d,rfl,Yz,zw⟩;have br:=aa Yz;have gp:=aa zw;clear Yz zw fp
 have U9:=aa (EC text ((W1.alloc (.cells #[.slice (some ⟨g,0,none⟩) n cap,iF d] 171)).alloc (.cells #[.slice none 0 0] 132)));have Bh:=aa hst
 have N2:=aa (λ(rc:Loop)=>MX (T:=text.data.toList) (bs:=bs) (text:=text) (touched:=touched) HQ.out hN h0 HG.out HS.out hs0 yM.out.1 (by rw[Bh.out];exact yM.out.2.1) yM.out.2.2.1 yM.out.2.2.2 gR.out br.out gp.out b9 rc);obtain ⟨p0,VE⟩:∃p0,p0=W1.heap.size:=⟨_,rfl⟩
 have xK:(((W1.alloc (.cells #[.slice (some ⟨g,0,none⟩) n cap,iF d] 171)).alloc (.cells #[.slice none 0 0] 132)).alloc (.cells #[.string text] 9)).heap.size=p0+3:=by rw[VE];simp
 have VF:(((W1.alloc (.cells #[.slice (some ⟨g,0,none⟩) n cap,iF d] 171)).alloc (.cells #[.slice none 0 0] 132)).alloc (.cells #[.string text] 9)).heap[p0+2]?=some (.cells #[.string text] 9 (0,0)):=az _ _ _ (by rw[VE];simp);unfold iF at U9 N2 xK VF;unfold pv iF;rw[<-VE]at N2;clear gp br gR yM;go_wp2_with fail;rw[<-VE]
 refine U9.out.mono ?_;rintro e2 V ⟨rfl,hV⟩;rw[<-hV]at xK VF N2;have he:((W1.alloc (.cells #[.slice (some ⟨g,0,none⟩) n cap,.func (.func 159) #[] #[.pointer (some ⟨d.kv,0,none⟩),.pointer (some ⟨d.wk,0,none⟩)]] 171)).alloc (.cells #[.slice none 0 0] 132)).heap.size=p0+2:=by rw[VE];simp
 rw[he];clear he hV U9 VE;go_wp2_with fail;refine (wpIn_wide (n:=9)).1 (iG rfl (by decide) (gf:=121) (lb:=#[.pointer (some ⟨p0+2,0,none⟩)]) rfl trivial (enters_of Tryz.func121 (by kernel_rfl) rfl) ?_);intro fn hfn;rw[xK];refine MZ hz hM zM (kG fn _ _ _ _ _) _ VF (N2.out _) rfl ?_ ?_ ?_
 ·intro j body st ls v A1 f1 F1 B je hj Sj;have HJ:=aa hj;refine fK trivial hj.gQ rfl ?_;intro rb rc Kn;rw[<-Kn]at HJ ⊢;clear hj Kn N2 xK VF;gi_wp2_with fail;refine ⟨HJ.out.gQ,?_⟩;have zQ:=aa (HJ.out.xJ rb);obtain ⟨B1,eF⟩:∃B1,B.putObj (p0+3+1) (.loop rb)=B1:=⟨_,rfl⟩;rw[eF]at zQ ⊢;clear eF
  obtain ⟨b0,qy,b2,b3,b4,b5,b6,b7,b8,jm⟩:=nine zQ.out.good.1.2;have od:=zQ.out.kv;rw[jm]at od;have c0:B1.cell? ⟨q,0,none⟩=some (.pointer (some ⟨bS,0,none⟩)):=ay zQ.out.sv;have c1:B1.cell? ⟨q+1+1,0,none⟩=some (.int .i64 touched):=ay zQ.out.tv;have c2:B1.cell? ⟨q+1+1+1,0,none⟩=some (.slice Yx bs.length Yy):=ay zQ.out.VP
  have k0:B1.cell? ⟨q+1,0,none⟩=some (.int .i64 b0):=ah od rfl;have k1:B1.cell? ⟨q+1,1,none⟩=some (.int .i64 qy):=ah od rfl;have k2:B1.cell? ⟨q+1,2,none⟩=some (.int .i64 b2):=ah od rfl;have k3:B1.cell? ⟨q+1,3,none⟩=some (.int .i64 b3):=ah od rfl;have k4:B1.cell? ⟨q+1,4,none⟩=some (.int .i64 b4):=ah od rfl
  have k5:B1.cell? ⟨q+1,5,none⟩=some (.int .i64 b5):=ah od rfl;have k6:B1.cell? ⟨q+1,6,none⟩=some (.int .i64 b6):=ah od rfl;have k7:B1.cell? ⟨q+1,7,none⟩=some (.int .i64 b7):=ah od rfl;have k8:B1.cell? ⟨q+1,8,none⟩=some (.int .i64 b8):=ah od rfl;have pP:j<touched+bs.length:=by rw[<-hlen];exact au je
  clear od;gi_wp2_with fail
  gi_cut [40] from 27 (λc wc=>(c=.bool false/\CJ w N bS g n cap G d text.data.toList st0 touched (.slice Yx bs.length Yy) bs tx lv work q p0 rb j st ls v A1 f1 F1 wc/\(touched<=j->bs[j - touched]?≠some st))∨(c=.bool true/\CJ w N bS g n cap G d text.data.toList st0 touched (.slice Yx bs.length Yy) bs tx lv work q p0 rb j st ls v A1 f1 F1 wc/\touched<=j/\bs[j - touched]?=some st))
  case first=>
   by_cases Ic:touched<=j
   ·have g1:decide ((touched:Int)<=(j:Int))=true:=decide_eq_true (by omega);obtain ⟨jt,hjt⟩:∃jt,j=touched+jt:=⟨j - touched,by omega⟩;obtain ⟨sb,EB⟩:∃sb,bs[jt]?=some sb:=⟨_,List.getElem?_eq_getElem (by omega)⟩;obtain ⟨YA,bg,of,aa6,aa7,hbc⟩:=cM.out jt sb EB;obtain ⟨d0,d1,d2,d3,d4,d5,d6,d7,d8,P6⟩:=nine YA
    have uu:∀(y:Nat) c,(aH sb)[y]?=some c->B1.cell? ⟨bg,of+jt*10+y,none⟩=some c:=λy c hy=>(World.cell?_of_block (zQ.out.off.keep bg ⟨eM (hbc y c hy),aa7⟩)).trans (hbc y c hy)
    rw[P6]at uu;have e0:=uu 0 _ rfl;have e1:=uu 1 _ rfl;have e2:=uu 2 _ rfl;have e3:=uu 3 _ rfl;have e4:=uu 4 _ rfl;have e5:=uu 5 _ rfl;have e6:=uu 6 _ rfl;have e7:=uu 7 _ rfl;have e8:=uu 8 _ rfl;rw[Nat.add_zero]at e0;have hjb:jt<bs.length:=by omega
    have hwr:IntKind.i64.wrap ((j:Int) - (touched:Int))=(jt:Int):=by rw[IntKind.wrap_i64];omega
    have YB:(d0=b0/\d1=qy/\d2=b2/\d3=b3/\d4=b4/\d5=b5/\d6=b6/\d7=b7/\d8=b8)<->sb=st:=by
     constructor
     ·rintro ⟨rfl,rfl,rfl,rfl,rfl,rfl,rfl,rfl,rfl⟩;exact BP YA zQ.out.good.1.2 (P6.trans jm.symm)
     ·intro h;have h2:=P6.symm.trans ((congrArg aH h).trans jm);simp at h2;omega
    have YC:j - touched=jt:=by omega
    subst aa6;have HJT:=aa hjt;clear hbc uu hjt P6;refine iw rfl (by kernel_rfl) (by kernel_rfl) (by kernel_rfl) ?_
    repeat (gi_big_quiet_step (fail))
    refine wpQuietIn_step (λw' hw' f hf=>by simp[Oper.about]at hf) (λK hK=>?_);rw[if_pos (by kernel_rfl)];by_cases Ka:sb=st
    ·refine ⟨.bool true,λw' hw'=>?_,?_⟩
     ·unfold Oper.quietAtIn;rw[mJ w' d0 d1 d2 d3 d4 d5 d6 d7 d8 b0 qy b2 b3 b4 b5 b6 b7 b8 _ _ _ _ rfl rfl rfl,decide_eq_true (YB.2 Ka)];refine ⟨?_,?_⟩<;>first|rfl|exact hw'
     refine hK _ ?_;clear hK K;simp only[Act.put,List.setIfInBounds_toArray,List.set_cons_zero,List.set_cons_succ]
     repeat (gi_big_quiet_step (fail))
     refine wpQuietIn_nil ?_;intro _ hw';obtain ⟨nq,hw''⟩:=hw';subst hw'';gi_wp2_with fail;gi_meet;exact .inr ⟨rfl,zQ.out.below ⟨rfl,rfl,rfl,Nat.le_refl _,λ_ _=>rfl⟩,Ic,by rw[YC,<-Ka];exact EB⟩
    ·refine ⟨.bool false,λw' hw'=>?_,?_⟩
     ·unfold Oper.quietAtIn;rw[mJ w' d0 d1 d2 d3 d4 d5 d6 d7 d8 b0 qy b2 b3 b4 b5 b6 b7 b8 _ _ _ _ rfl rfl rfl,decide_eq_false (λh=>Ka (YB.1 h))];refine ⟨?_,?_⟩<;>first|rfl|exact hw'
     refine hK _ ?_;clear hK K;simp only[Act.put,List.setIfInBounds_toArray,List.set_cons_zero,List.set_cons_succ]
     repeat (gi_big_quiet_step (fail))
     refine wpQuietIn_nil ?_;intro _ hw';obtain ⟨nq,hw''⟩:=hw';subst hw'';gi_wp2_with fail;gi_meet;exact .inl ⟨rfl,zQ.out.below ⟨rfl,rfl,rfl,Nat.le_refl _,λ_ _=>rfl⟩,λ_=>by rw[YC,EB];intro e;exact Ka (Option.some.inj e)⟩
   ·have g1:decide ((touched:Int)<=(j:Int))=false:=decide_eq_false (by omega);refine iw rfl (by kernel_rfl) (by kernel_rfl) (by kernel_rfl) ?_
    repeat (gi_big_quiet_step (fail))
    refine wpQuietIn_nil ?_;intro _ hw';obtain ⟨nq,hw''⟩:=hw';subst hw'';gi_wp2_with fail;gi_meet;exact .inl ⟨rfl,zQ.out.below ⟨rfl,rfl,rfl,Nat.le_refl _,λ_ _=>rfl⟩,λh=>absurd h Ic⟩
  case rest=>
   clear c0 c1 c2 k0 k1 k2 k3 k4 k5 k6 k7 k8;rcases hcut with ⟨rfl,J9,NW⟩|⟨rfl,J9,Ic,hbt⟩
   ·have od:=J9.kv;obtain ⟨b0,qy,b2,b3,b4,b5,b6,b7,b8,jm⟩:=nine J9.good.1.2;rw[jm]at od;obtain ⟨wj,hwj⟩:∃wj,wj=work+j:=⟨_,rfl⟩;have u6:=J9.sh;rw[<-hwj]at u6;have c0:wc.cell? ⟨q,0,none⟩=some (.pointer (some ⟨bS,0,none⟩)):=ay J9.sv;have c1:wc.cell? ⟨bS,3,none⟩=some (.int .i64 wj):=ah u6 rfl
    have c1f:wc.frozen? ⟨bS,3,none⟩=false:=by simp[World.frozen?,u6]
    have hwr:IntKind.i64.wrap ((wj:Int)+1)=(wj:Int)+1:=by have h1:=aR text.data.toList;have h2:text.data.toList.count 10<=text.data.toList.length:=List.count_le_length;rw[ag]at h2;have h3:=au je;rw[IntKind.wrap_i64];omega
    have M0:=aa J9.aa8;rw[<-hwj]at M0;obtain ⟨w7,hw7⟩:∃w7,wc.setCell ⟨bS,3,none⟩ (.int .i64 ((wj:Int)+1))=w7:=⟨_,rfl⟩;rw[hw7]at M0;have uv:=M0.out.kv;rw[jm]at uv;have k0:w7.cell? ⟨q+1,0,none⟩=some (.int .i64 b0):=ah uv rfl;have k1:w7.cell? ⟨q+1,1,none⟩=some (.int .i64 qy):=ah uv rfl
    have k2:w7.cell? ⟨q+1,2,none⟩=some (.int .i64 b2):=ah uv rfl;have k3:w7.cell? ⟨q+1,3,none⟩=some (.int .i64 b3):=ah uv rfl;have k4:w7.cell? ⟨q+1,4,none⟩=some (.int .i64 b4):=ah uv rfl;have k5:w7.cell? ⟨q+1,5,none⟩=some (.int .i64 b5):=ah uv rfl;have k6:w7.cell? ⟨q+1,6,none⟩=some (.int .i64 b6):=ah uv rfl
    have k7:w7.cell? ⟨q+1,7,none⟩=some (.int .i64 b7):=ah uv rfl;have k8:w7.cell? ⟨q+1,8,none⟩=some (.int .i64 b8):=ah uv rfl;have EA:=aa jm;have HNS:=aa NW;have HWJ:=aa hwj;have m0:w7.cell? ⟨p0,0,none⟩=some (.slice (some ⟨g,0,none⟩) n cap):=ah M0.out.pv rfl;have m1:w7.cell? ⟨p0,1,none⟩=some (iF d):=ah M0.out.pv rfl
    obtain ⟨w8,Kb⟩:∃w8,w7.alloc (.cells #[.int .i64 b0,.int .i64 qy,.int .i64 b2,.int .i64 b3,.int .i64 b4,.int .i64 b5,.int .i64 b6,.int .i64 b7,.int .i64 b8,.slice none 0 0] 151)=w8:=⟨_,rfl⟩;have VG:=aa (M2 g n cap d body st M0.out.good.1.2 w8);unfold kA pv iF at VG;rw[jm]at VG;unfold iF at m1
    have n0:w8.cell? ⟨p0,0,none⟩=some (.slice (some ⟨g,0,none⟩) n cap):=by rw[<-Kb];exact aq m0 _
    have n1:w8.cell? ⟨p0,1,none⟩=some (.func (.func 159) #[] #[.pointer (some ⟨d.kv,0,none⟩),.pointer (some ⟨d.wk,0,none⟩)]):=by rw[<-Kb];exact aq m1 _
    have o0:w8.cell? ⟨q+1,0,none⟩=some (.int .i64 b0):=by rw[<-Kb];exact aq k0 _
    have o1:w8.cell? ⟨q+1,1,none⟩=some (.int .i64 qy):=by rw[<-Kb];exact aq k1 _
    have o2:w8.cell? ⟨q+1,2,none⟩=some (.int .i64 b2):=by rw[<-Kb];exact aq k2 _
    have o3:w8.cell? ⟨q+1,3,none⟩=some (.int .i64 b3):=by rw[<-Kb];exact aq k3 _
    have o4:w8.cell? ⟨q+1,4,none⟩=some (.int .i64 b4):=by rw[<-Kb];exact aq k4 _
    have o5:w8.cell? ⟨q+1,5,none⟩=some (.int .i64 b5):=by rw[<-Kb];exact aq k5 _
    have o6:w8.cell? ⟨q+1,6,none⟩=some (.int .i64 b6):=by rw[<-Kb];exact aq k6 _
    have o7:w8.cell? ⟨q+1,7,none⟩=some (.int .i64 b7):=by rw[<-Kb];exact aq k7 _
    have o8:w8.cell? ⟨q+1,8,none⟩=some (.int .i64 b8):=by rw[<-Kb];exact aq k8 _
    subst Kb;clear od jm u6 J9 uv NW hwj;gi_wp2_with (refine cA rfl _ _ _ rfl _ #[.int .i64 b0,.int .i64 qy,.int .i64 b2,.int .i64 b3,.int .i64 b4,.int .i64 b5,.int .i64 b6,.int .i64 b7,.int .i64 b8,.slice none 0 0] rfl rfl 151 _ (az _ _ _ rfl) rfl rfl (by simp[Value.oneCell']) ?_;rw[dL _ _ _ _ _ rfl])
    refine ⟨trivial,(CallsIn.inRound (p0+3+1) (callsIn_wide.2 VG.out)).mono ?_⟩;rintro e9 w9 ⟨rfl,Sd⟩;obtain ⟨bl,hbl⟩:∃bl,bl=w7.heap.size:=⟨_,rfl⟩;have he:(w7.alloc (.cells #[.int .i64 b0,.int .i64 qy,.int .i64 b2,.int .i64 b3,.int .i64 b4,.int .i64 b5,.int .i64 b6,.int .i64 b7,.int .i64 b8,.slice none 0 0] 151)).heap.size=bl+1:=by rw[hbl];simp
    obtain ⟨J2,Sg,f0,RH,f2,f3⟩:=CV w7 _ _ _ _ bl hbl w9 Sd;rw[he,<-hbl];have Ox:=aa (M0.out.below J2);have aa9:∀k,A1 k->k<bl:=λk hk=>by rw[hbl];exact (M0.out.QP.old k hk).2
    have Ui:p0+5<=bl:=by rw[hbl];exact M0.out.ord.2.2.1
    have RS:=aa (λ(k:Nat) (hk:bl<=k)=>M0.out.eQ.free (k:=k) (.inr (by rw[<-hbl];exact hk)));have SQ:=aa f0;have jR:=aa RH;have et:=aa f2;have gz:=aa f3;clear he Sd J2 VG M0 f0 RH f2 f3 n0 n1 m0 m1 k0 k1 k2 k3 k4 k5 k6 k7 k8 o0 o1 o2 o3 o4 o5 o6 o7 o8 c0 c1 c1f hbl;gi_wp2_with fail
    refine qY (l₀:=p0+3+1) (r₀:=rb) rfl Ox.out.gQ (by decide) (gf:=122) (lb:=#[.pointer (some ⟨bl+1+2,0,none⟩),.pointer (some ⟨bl+1,0,none⟩),.pointer (some ⟨bl+1+1,0,none⟩)]) rfl trivial (enters_of Tryz.func122 (by kernel_rfl) rfl) ?_;intro fn2 aba;rw[Sg]
    have hbz:body.size<=3000:=by have h1:=jH (List.mem_of_getElem? je);rw[ag,ag]at h1;omega
    refine CallsIn.inRound (p0+3+1) (CW Ox.out eA hbz aa9 Ui Sg (by rw[EA.out];exact SQ.out) (by unfold iF;exact jR.out) et.out (by rw[EA.out];exact gz.out) (kG fn2 _ _ _ _ _) _ ?_ ?_)
    ·intro Cl pre jd x st' A vZ hgd Ll;have HIJ:=aa vZ;obtain ⟨sv,-,i2,i3,i4,i5,-,i7,i8⟩:=vZ;refine fK trivial i4 rfl ?_;intro NV zH M3;rw[<-M3]at HIJ i4 ⊢;obtain ⟨y0,y1,y2,y3,y4,y5,y6,y7,y8,Uj⟩:=nine hgd.1.2;unfold Sp.v NZ kA;rw[Uj];have yh:=aa i2;have K8:=aa i3;have Rq:=aa i4;have HI5:=aa i5;have Eo:=aa Uj;have abb:=hgd.1.2
     clear M3 i2 i3 i4 i5 Uj hgd
     gi_wp2_with (first
      | (refine cA rfl _ _ _ rfl _ #[.int .i64 x.fr,.int .i64 x.to,.string x.nm,.int .i64 x.iT,.string x.co] rfl rfl 70 _ (az _ _ _ rfl) rfl rfl (by simp[Value.oneCell']) ?_;rw[dL _ _ _ _ _ rfl])
      | (refine cA rfl _ _ _ rfl _ #[.int .i64 y0,.int .i64 y1,.int .i64 y2,.int .i64 y3,.int .i64 y4,.int .i64 y5,.int .i64 y6,.int .i64 y7,.int .i64 y8] rfl rfl 138 _ (az _ _ _ (by simp)) rfl rfl (by simp[Value.oneCell']) ?_;rw[dL _ _ _ _ _ (by simp)]))
     refine ⟨heap_alloc_old (heap_alloc_old Rq.out),?_⟩;obtain ⟨A2,pL,Gc,vL,hsp,haf,hl2⟩:=Gd A (.cells #[.int .i64 x.fr,.int .i64 x.to,.string x.nm,.int .i64 x.iT,.string x.co] 70) (.cells #[.int .i64 y0,.int .i64 y1,.int .i64 y2,.int .i64 y3,.int .i64 y4,.int .i64 y5,.int .i64 y6,.int .i64 y7,.int .i64 y8] 138) (bl+4) _ NV Rq.out;rw[pL];clear pL
     obtain ⟨sA,GH⟩:∃sA,sA=A.heap.size:=⟨_,rfl⟩;rw[<-GH]at vL hsp haf ⊢;have Zx:=Ox.out.good.1.2;have Sc:=cX Zx;have abd:q+1<bl:=by have:=Ox.out.ord;omega
     have i3':=Gc.same K8.out (by omega);have t9:A2.cell? ⟨bl,9,none⟩=some sv:=ah i3' (by rw[List.getElem?_toArray,List.getElem?_append_right (by omega),Sc];rfl);have s0:A2.cell? ⟨sA,0,none⟩=some (.int .i64 x.fr):=ah hsp rfl;have s1:A2.cell? ⟨sA,1,none⟩=some (.int .i64 x.to):=ah hsp rfl;have s2:A2.cell? ⟨sA,2,none⟩=some (.string x.nm):=ah hsp rfl
     have s3:A2.cell? ⟨sA,3,none⟩=some (.int .i64 x.iT):=ah hsp rfl;have s4:A2.cell? ⟨sA,4,none⟩=some (.string x.co):=ah hsp rfl;have ni:aN (λk=>k=bl+4) A (A2.alloc (.cells #[.int .i64 x.fr,.int .i64 x.to,.string x.nm,.int .i64 x.iT,.string x.co] 70)):=Gc.trans (aN.ar ((Below.refl _ _).alloc (Nat.le_refl _) _))
     have HL3:=aa (show (A2.alloc (.cells #[.int .i64 x.fr,.int .i64 x.to,.string x.nm,.int .i64 x.iT,.string x.co] 70)).heap[bl+4]?=some (.loop NV) from heap_alloc_old hl2)
     have bE:=aa (show (A2.alloc (.cells #[.int .i64 x.fr,.int .i64 x.to,.string x.nm,.int .i64 x.iT,.string x.co] 70)).ownsRow (bl+5) 70 5 sv pre.length (pre.flatMap Sp.cells) from aJ HI5.out λk hk=>by obtain ⟨a,c,hc⟩:=aw HI5.out hk;rw[hc];exact ni.same hc (by omega))
     have fp:=aa (λ(y:Nat) u (h:([.int .i64 x.fr,.int .i64 x.to,.string x.nm,.int .i64 x.iT,.string x.co]:List Value)[y]?=some u)=>show (A2.alloc (.cells #[.int .i64 x.fr,.int .i64 x.to,.string x.nm,.int .i64 x.iT,.string x.co] 70)).cell? ((⟨A2.heap.size,0,none⟩:Addr).add y)=some u from aF A2 #[.int .i64 x.fr,.int .i64 x.to,.string x.nm,.int .i64 x.iT,.string x.co] _ y u h)
     have D1:∀k,sv.ownBlock=some k->bl+5<=k/\k<sA:=λk hk=>by obtain ⟨a,c,hc⟩:=aw HI5.out hk;exact ⟨a,by rw[GH];exact ae hc⟩
     have YD:=aa (λ(v':Value) (A4:World) (hg:(A2.alloc (.cells #[.int .i64 x.fr,.int .i64 x.to,.string x.nm,.int .i64 x.iT,.string x.co] 70)).grownBy A4 sv.ownBlock)=>show (A4.cell? ⟨bl,9,none⟩=some sv/\A4.frozen? ⟨bl,9,none⟩=false)/\∀A5,A4.setCell ⟨bl,9,none⟩ v'=A5->(A5.cell? ⟨sA+1,0,none⟩=some (.int .i64 y0)/\A5.cell? ⟨sA+1,1,none⟩=some (.int .i64 y1)/\A5.cell? ⟨sA+1,2,none⟩=some (.int .i64 y2)/\A5.cell? ⟨sA+1,3,none⟩=some (.int .i64 y3)/\A5.cell? ⟨sA+1,4,none⟩=some (.int .i64 y4)/\A5.cell? ⟨sA+1,5,none⟩=some (.int .i64 y5)/\A5.cell? ⟨sA+1,6,none⟩=some (.int .i64 y6)/\A5.cell? ⟨sA+1,7,none⟩=some (.int .i64 y7)/\A5.cell? ⟨sA+1,8,none⟩=some (.int .i64 y8))/\A5.heap[q+1]?=some (.cells (aH jd).toArray 138 (0,0)) from by
      have key:∀(k:Nat) o,(A2.alloc (.cells #[.int .i64 x.fr,.int .i64 x.to,.string x.nm,.int .i64 x.iT,.string x.co] 70)).heap[k]?=some o->(k<bl+5∨sA<=k)->A4.heap[k]?=some o:=λk o hk h1=>(hg.block k (ae hk) (λe=>by have:=D1 k e.symm;omega)).trans hk
      have b4:=key bl _ (heap_alloc_old i3') (by omega);refine ⟨⟨ah b4 (by rw[List.getElem?_toArray,List.getElem?_append_right (by omega),Sc];rfl),by simp[World.frozen?,b4]⟩,λA5 YE=>?_⟩
      have P7:A5.heap[sA+1]?=some (.cells #[.int .i64 y0,.int .i64 y1,.int .i64 y2,.int .i64 y3,.int .i64 y4,.int .i64 y5,.int .i64 y6,.int .i64 y7,.int .i64 y8] 138 (0,0)):=by rw[<-YE,Below.heap_setCell _ _ _ _ (by show sA+1≠bl;omega)];exact key _ _ (heap_alloc_old haf) (by omega)
      have hk5:A5.heap[q+1]?=some (.cells (aH jd).toArray 138 (0,0)):=by rw[<-YE,Below.heap_setCell _ _ _ _ (by show q+1≠bl;omega)];exact key _ _ (heap_alloc_old (Gc.same yh.out (by omega))) (by omega)
      exact ⟨⟨ah P7 rfl,ah P7 rfl,ah P7 rfl,ah P7 rfl,ah P7 rfl,ah P7 rfl,ah P7 rfl,ah P7 rfl,ah P7 rfl⟩,hk5⟩)
     obtain ⟨n0,hi,hz0,hz1,hz3⟩:=info_parts fh;have hbase:bl+5<=(A2.alloc (.cells #[.int .i64 x.fr,.int .i64 x.to,.string x.nm,.int .i64 x.iT,.string x.co] 70)).heap.size:=by rw[World.size_alloc,vL];omega
     have YF:=aa ni;have abe:(aH jd).toArray.size=9:=by rw[List.size_toArray,cX i8]
     have En:=aa GH;clear Gc vL hsp haf hl2 i3' ni D1 yh Rq HI5 GH
     gi_wp2_with (first
      | (refine wpListIn_append_own_at _ rfl (.tmp 57) (.tmp 59) 64 rfl (bl+5) 70 n0 (.agg #[.int .i64 0,.int .i64 0,.string ⟨#[]⟩,.int .i64 0,.string ⟨#[]⟩]) 5 56 Tryz.underlying64 hi hz0 hz1 hz3 rfl (by decide) sv pre.length (pre.flatMap Sp.cells) (by rfl) bE.out ⟨A2.heap.size,0,none⟩ 1 1 [.int .i64 x.fr,.int .i64 x.to,.string x.nm,.int .i64 x.iT,.string x.co] (by rfl) rfl fp.out (by simp[Value.oneCell']) (by unfold maxLen;omega) (by omega) hbase ?_;intro v' A4 hown hg _ hv;obtain ⟨⟨z9,z9f⟩,hz5⟩:=YD.out v' A4 hg;have HX:=aa (And.intro hown (And.intro hg hv));obtain ⟨g',cap',rfl⟩:=aC hown (by omega);obtain ⟨A5,YE⟩:∃A5,A4.setCell ⟨bl,9,none⟩ (.slice (some ⟨g',0,none⟩) (pre.length+1) cap')=A5:=⟨_,rfl⟩;obtain ⟨⟨q0',q1',q2',q3',q4',q5',q6',q7',q8'⟩,hk5⟩:=hz5 A5 YE;have HK5:=aa hk5;clear hown hg hv hz5 hk5 YD bE fp)
      | (refine cA rfl _ _ _ rfl (q+1) #[.int .i64 y0,.int .i64 y1,.int .i64 y2,.int .i64 y3,.int .i64 y4,.int .i64 y5,.int .i64 y6,.int .i64 y7,.int .i64 y8] rfl rfl 138 _ HK5.out rfl abe (by simp[Value.oneCell']) ?_))
     have rL:=HIJ.out.next (st':=st') (x:=x) (A4:=A4) (sv':=.slice (some ⟨g',0,none⟩) (pre.length+1) cap') abd Zx abb YF.out HL3.out (λWk h2=>by
      have h3:=h2.symm.trans K8.out;have h4:Wk=sv:=by simpa using h3
      rw[h4];exact HX.out) _ rfl
     rw[YE,Eo.out]at rL;rw[En.out];exact ⟨rL.1,.inl ⟨rfl,rL.2⟩⟩
    ·intro r W ba jd Cl A' f' F' zJ vZ hp nw jb;have Mm:=Ox.out.ord;have Uk:=λro=>Si vZ Sg (by omega) (by omega) hp nw jb ro
     refine ⟨⟨r,rfl⟩,.inl ⟨(Uk rb).1,λro=>?_⟩⟩;obtain ⟨-,sv,hm⟩:=Uk ro;obtain ⟨W1,hW1⟩:∃W1,W.putObj (bl+4) (.loop ro)=W1:=⟨_,rfl⟩;rw[hW1]at hm ⊢;obtain ⟨Zz,my,JR,eR,rB⟩:=hm.reads Ox.out Ui RS.out;subst rB;have ko:=hm.line;rw[EA.out]at ko;have l10:W1.cell? ⟨bl,9,none⟩=some (.slice JR ba.length eR):=ah ko rfl
     have l0:W1.cell? ⟨bl,0,none⟩=some (.int .i64 b0):=ah ko rfl;have l1:W1.cell? ⟨bl,1,none⟩=some (.int .i64 qy):=ah ko rfl;have l2:W1.cell? ⟨bl,2,none⟩=some (.int .i64 b2):=ah ko rfl;have l3:W1.cell? ⟨bl,3,none⟩=some (.int .i64 b3):=ah ko rfl;have l4:W1.cell? ⟨bl,4,none⟩=some (.int .i64 b4):=ah ko rfl
     have l5:W1.cell? ⟨bl,5,none⟩=some (.int .i64 b5):=ah ko rfl;have l6:W1.cell? ⟨bl,6,none⟩=some (.int .i64 b6):=ah ko rfl;have l7:W1.cell? ⟨bl,7,none⟩=some (.int .i64 b7):=ah ko rfl;have l8:W1.cell? ⟨bl,8,none⟩=some (.int .i64 b8):=ah ko rfl;have v0:W1.cell? ⟨p0+1,0,none⟩=some v:=ay Zz;have HM:=aa hm;have Ky:=aa zJ
     obtain ⟨n0,hi,hz0,hz1,hz3⟩:=info_parts zI;have bE:=aa (show (W1.alloc (.cells #[.int .i64 b0,.int .i64 qy,.int .i64 b2,.int .i64 b3,.int .i64 b4,.int .i64 b5,.int .i64 b6,.int .i64 b7,.int .i64 b8,.slice JR ba.length eR] 151)).ownsRow q 151 10 v ls.length (ls.flatMap LE.cells) from (my.below ((Below.refl _ _).alloc (Nat.le_refl _) _)).row)
     have fp:=aa (λ(y:Nat) u (h:([.int .i64 b0,.int .i64 qy,.int .i64 b2,.int .i64 b3,.int .i64 b4,.int .i64 b5,.int .i64 b6,.int .i64 b7,.int .i64 b8,.slice JR ba.length eR]:List Value)[y]?=some u)=>show (W1.alloc (.cells #[.int .i64 b0,.int .i64 qy,.int .i64 b2,.int .i64 b3,.int .i64 b4,.int .i64 b5,.int .i64 b6,.int .i64 b7,.int .i64 b8,.slice JR ba.length eR] 151)).cell? ((⟨W1.heap.size,0,none⟩:Addr).add y)=some u from aF W1 #[.int .i64 b0,.int .i64 qy,.int .i64 b2,.int .i64 b3,.int .i64 b4,.int .i64 b5,.int .i64 b6,.int .i64 b7,.int .i64 b8,.slice JR ba.length eR] _ y u h)
     have S2:ls.length<=4000:=by have h1:=aR text.data.toList;have h2:text.data.toList.count 10<=text.data.toList.length:=List.count_le_length;rw[ag]at h2;have h3:=au je;omega
     have hbase:q<=(W1.alloc (.cells #[.int .i64 b0,.int .i64 qy,.int .i64 b2,.int .i64 b3,.int .i64 b4,.int .i64 b5,.int .i64 b6,.int .i64 b7,.int .i64 b8,.slice JR ba.length eR] 151)).heap.size:=by rw[World.size_alloc];have:=hm.size;omega
     have iB:=aa (λ(v':Value) (W3:World) (hrow:W3.ownsRow q 151 10 v' (ls.length+1) (ls.flatMap LE.cells++[.int .i64 b0,.int .i64 qy,.int .i64 b2,.int .i64 b3,.int .i64 b4,.int .i64 b5,.int .i64 b6,.int .i64 b7,.int .i64 b8,.slice JR ba.length eR])) (hg:(W1.alloc (.cells #[.int .i64 b0,.int .i64 qy,.int .i64 b2,.int .i64 b3,.int .i64 b4,.int .i64 b5,.int .i64 b6,.int .i64 b7,.int .i64 b8,.slice JR ba.length eR] 151)).grownBy W3 v.ownBlock) (hv:v'.ownBlock=v.ownBlock∨v'.ownBlock=some (W1.alloc (.cells #[.int .i64 b0,.int .i64 qy,.int .i64 b2,.int .i64 b3,.int .i64 b4,.int .i64 b5,.int .i64 b6,.int .i64 b7,.int .i64 b8,.slice JR ba.length eR] 151)).heap.size)=>CJ.next HM.out Ox.out Ui RS.out eA je Ky.out Sj HNS.out (by rw[EA.out];exact hrow) hg hv)
     clear Uk vZ hp nw jb hm Zz my ko zJ hW1
     gi_wp2_with (refine wpListIn_append_own_at _ rfl (.tmp 63) (.tmp 65) 132 rfl q 151 n0 (.agg #[.int .i64 0,.int .i64 0,.int .i64 0,.int .i64 0,.int .i64 0,.int .i64 0,.int .i64 0,.int .i64 0,.int .i64 0,.slice none 0 0]) 10 96 Tryz.underlying132 hi hz0 hz1 hz3 rfl (by decide) v ls.length (ls.flatMap LE.cells) (by rfl) bE.out ⟨W1.heap.size,0,none⟩ 1 1 [.int .i64 b0,.int .i64 qy,.int .i64 b2,.int .i64 b3,.int .i64 b4,.int .i64 b5,.int .i64 b6,.int .i64 b7,.int .i64 b8,.slice JR ba.length eR] (by rfl) rfl fp.out (by simp[Value.oneCell']) (by unfold maxLen;omega) (by omega) hbase ?_;intro v' W3 hown hg _ hv;obtain ⟨zK,QS⟩:=iB.out v' W3 hown hg hv;have abf:=aa QS;obtain ⟨g',cap',rfl⟩:=aC hown (by omega);have z0:=ay zK;have z0f:W3.frozen? ⟨p0+1,0,none⟩=false:=(by simp[World.frozen?,zK]);clear hown hg hv QS zK iB bE fp)
     have hc2:=abf.out;rw[Sj]at hc2;exact ⟨hc2.gQ,.inl ⟨rfl,_,_,_,_,_,_,hc2.xJ _,by rw[List.length_append,Sj];rfl⟩⟩
   ·have HJC:=aa J9;clear J9;gi_wp2_with fail;exact ⟨HJC.out.gQ,.inr ⟨rfl,st,ls,v,A1,f1,F1,HJC.out.xJ _,Sj,Ic,hbt⟩⟩
 ·intro r W st ls v A1 f1 F1 hj hl;refine ⟨⟨r,rfl⟩,.inl ⟨hj.gQ,λro=>?_⟩⟩;have dQ:=hj.xJ ro;obtain ⟨W9,C5⟩:∃W9,W.putObj (p0+3+1) (.loop ro)=W9:=⟨_,rfl⟩;rw[C5]at dQ ⊢;have c9:W9.cell? ⟨p0+1,0,none⟩=some v:=ay dQ.av;have om:=aa (dQ.done (by omega) (.inl hl));have Sl:=aa dQ.sy;obtain ⟨uX,vc,Ul⟩:=aI dQ.eQ.row;subst Ul
  have HL:=aa hl;clear hj dQ C5 N2 hl;dsimp only;go_wp2_with fail;refine ⟨by simp,.inl ⟨_,_,rfl,run_takeDeferred Sl.out,?_⟩⟩;exact ⟨_,(by simp[results,Tryz.results69,go_sem]),om.out⟩
 ·intro r W st ls v A1 f1 F1 hj h1 h2;refine ⟨⟨r,rfl⟩,.inr ⟨_,hj.gQ,λro=>?_⟩⟩;have dQ:=hj.xJ ro;obtain ⟨W9,C5⟩:∃W9,W.putObj (p0+3+1) (.loop ro)=W9:=⟨_,rfl⟩;rw[C5]at dQ ⊢;have c9:W9.cell? ⟨p0+1,0,none⟩=some v:=ay dQ.av;have om:=aa (dQ.done (by have:=au h2;omega) (.inr ⟨h1,h2⟩));have Sl:=aa dQ.sy
  obtain ⟨uX,vc,Ul⟩:=aI dQ.eQ.row;subst Ul;clear hj dQ C5 N2 h2;refine wpIn_wide.2 ?_;go_wp2_with fail;refine ⟨by simp,.inl ⟨_,_,rfl,run_takeDeferred Sl.out,?_⟩⟩;exact ⟨_,(by simp[results,Tryz.results69,go_sem]),om.out⟩
end Go.Proofs.YtgncgdkpkkdaeaaGreatDoor
