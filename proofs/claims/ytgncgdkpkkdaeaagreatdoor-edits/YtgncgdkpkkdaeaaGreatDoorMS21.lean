import Derived.Test.YtgncgdkpkkdaeaaGreatDoorM1
namespace Go.Proofs.YtgncgdkpkkdaeaaGreatDoor
open Go.RowKit aO Go.Maps Go.Shelf
attribute [local go_sem] Oper.semAt_some
set_option maxRecDepth 20000 in
set_option maxHeartbeats 4000000 in
theorem tT(N bS g n cap:Nat)(G:List GS)(text:ByteArray)(st0:List Nat)(touched:Nat)(bv:Value)(bs:List (List Nat))(tx:ByteArray)(lv:Value)(work:Nat)(w:World)
  (dZ:xD G) (cq:Good G st0) (hz:text.size<=3000) (uP:work<=1000000000000000000) (hT:kK w) (h0:1 < N) (hG:∀w',Below N w w'->bR w' g n cap G) (hN:N<=bS) (hM:Mx w) (A8:0 < N)
  (hS:w.heap[bS]?=some (.cells #[.slice (some ⟨g,0,none⟩) n cap,.string tx,lv,.int .i64 work] 134 (0,0))) (hb:BZ w bS bv bs) (hlen:(aB text.data.toList).length=touched+bs.length):
  Calls Tryz.prog 69 #[.pointer (some ⟨bS,0,none⟩),.string text,k9 st0,.int .i64 touched,bv] w (yM bS g n cap G text.data.toList st0 touched bs tx lv work w):=by
 refine (callsIn_wide (n:=9)).1 (callsIn_of_wp_marks Tryz.func69 rfl trivial (wpIn_wide.2 ?_));simp only[Tryz.ntmps69,List.size_toArray,List.length_cons,List.length_nil,Nat.reduceAdd,Nat.reduceSub,Array.replicate_succ,Array.replicate_zero,List.push_toArray,List.append_toArray,List.nil_append,List.cons_append]
 obtain ⟨a0,a1,a2,a3,a4,a5,a6,a7,a8,hst⟩:=nine cq.1.2;obtain ⟨bao,bcp,hbv,hb1,hb2⟩:=hb;subst hbv;unfold k9;rw[hst];obtain ⟨q,hq⟩:∃q,q=w.heap.size:=⟨_,rfl⟩
 obtain ⟨W0,hW0⟩:∃W0,(((w.alloc (.cells #[.pointer (some ⟨bS,0,none⟩)] 44)).alloc (.cells #[.int .i64 a0,.int .i64 a1,.int .i64 a2,.int .i64 a3,.int .i64 a4,.int .i64 a5,.int .i64 a6,.int .i64 a7,.int .i64 a8] 138)).alloc (.cells #[.int .i64 touched] 3)).alloc (.cells #[.slice bao bs.length bcp] 132)=W0:=⟨_,rfl⟩
 have SE:bS<q:=by rw[hq];exact ae hS
 have hs0:W0.heap.size=q+4:=by rw[<-hW0,hq];simp
 have Ld:Below w.heap.size w W0:=by rw[<-hW0];exact ((((Below.refl _ _).alloc (Nat.le_refl _) _).alloc (by simp) _).alloc (by simp;omega) _).alloc (by simp;omega) _
 have zU:=aa (show W0.heap[q]?=some (.cells #[.pointer (some ⟨bS,0,none⟩)] 44 (0,0))/\W0.heap[q+1]?=some (.cells #[.int .i64 a0,.int .i64 a1,.int .i64 a2,.int .i64 a3,.int .i64 a4,.int .i64 a5,.int .i64 a6,.int .i64 a7,.int .i64 a8] 138 (0,0))/\W0.heap[q+1+1]?=some (.cells #[.int .i64 touched] 3 (0,0))/\W0.heap[q+1+1+1]?=some (.cells #[.slice bao bs.length bcp] 132 (0,0)) from by
  rw[<-hW0];refine ⟨heap_alloc_old (heap_alloc_old (heap_alloc_old (aA _ _ _ hq))),heap_alloc_old (heap_alloc_old (aA _ _ _ (by simp[hq]))),heap_alloc_old (aA _ _ _ (by simp[hq])),aA _ _ _ (by simp[hq])⟩)
 have s0:W0.cell? ⟨w.heap.size,0,none⟩=some (.pointer (some ⟨bS,0,none⟩)):=by have h1:=zU.out.1;rw[hq]at h1;simp[World.cell?,h1]
 have s1:W0.cell? ⟨bS,0,none⟩=some (.slice (some ⟨g,0,none⟩) n cap):=by have h1:=(Ld.block _ (ae hS)).trans hS;simp[World.cell?,h1]
 have ea:=aa (RL g n cap G W0 (hT.keep (Ld.block _ (by omega))) (by omega) (hG W0 (Ld.mono (by omega))));have HS:=aa hS;have HG:=aa hG;have cL:=aa hb2;have gW:=aa Ld;clear hS hG hb2 Ld;go_wp2_with fail;rw[<-hq];have HQ:=aa hq;clear hq hW0 s0 s1;refine ea.out.mono ?_;rintro e1 W1 ⟨d,rfl,aar,AH⟩;have bA:=aa aar;have gH:=aa AH;clear aar AH ea
 have WS:=aa (FU text ((W1.alloc (.cells #[.slice (some ⟨g,0,none⟩) n cap,ja d] 171)).alloc (.cells #[.slice none 0 0] 132)));have Cq:=aa hst
 have Px:=aa (λ(rc:Loop)=>Ov (T:=text.data.toList) (bs:=bs) (text:=text) (touched:=touched) HQ.out hN h0 HG.out HS.out hs0 zU.out.1 (by rw[Cq.out];exact zU.out.2.1) zU.out.2.2.1 zU.out.2.2.2 gW.out bA.out gH.out cq rc);obtain ⟨p0,XC⟩:∃p0,p0=W1.heap.size:=⟨_,rfl⟩
 have yQ:(((W1.alloc (.cells #[.slice (some ⟨g,0,none⟩) n cap,ja d] 171)).alloc (.cells #[.slice none 0 0] 132)).alloc (.cells #[.string text] 9)).heap.size=p0+3:=by rw[XC];simp
 have XD:(((W1.alloc (.cells #[.slice (some ⟨g,0,none⟩) n cap,ja d] 171)).alloc (.cells #[.slice none 0 0] 132)).alloc (.cells #[.string text] 9)).heap[p0+2]?=some (.cells #[.string text] 9 (0,0)):=aA _ _ _ (by rw[XC];simp);unfold ja at WS Px yQ XD;unfold pv ja;rw[<-XC]at Px;clear gH bA gW zU;go_wp2_with fail;rw[<-XC]
 refine WS.out.mono ?_;rintro e2 V ⟨rfl,hV⟩;rw[<-hV]at yQ XD Px;have he:((W1.alloc (.cells #[.slice (some ⟨g,0,none⟩) n cap,.func (.func 159) #[] #[.pointer (some ⟨d.kv,0,none⟩),.pointer (some ⟨d.wk,0,none⟩)]] 171)).alloc (.cells #[.slice none 0 0] 132)).heap.size=p0+2:=by rw[XC];simp
 rw[he];clear he hV WS XC;go_wp2_with fail;refine (wpIn_wide (n:=9)).1 (jb rfl (by decide) (gf:=121) (lb:=#[.pointer (some ⟨p0+2,0,none⟩)]) rfl trivial (enters_of Tryz.func121 (by kernel_rfl) rfl) ?_);intro fn hfn;rw[yQ];refine Ow hz hM A8 (ll fn _ _ _ _ _) _ XD (Px.out _) rfl ?_ ?_ ?_
 ·intro j body st ls v A1 f1 F1 B jC hj TZ;have HJ:=aa hj;refine fW trivial hj.ij rfl ?_;intro rb rc LM;rw[<-LM]at HJ ⊢;clear hj LM Px yQ XD;gi_wp2_with fail;refine ⟨HJ.out.ij,?_⟩;have Bc:=aa (HJ.out.yP rb);obtain ⟨B1,eR⟩:∃B1,B.putObj (p0+3+1) (.loop rb)=B1:=⟨_,rfl⟩;rw[eR]at Bc ⊢;clear eR
  obtain ⟨b0,rI,b2,b3,b4,b5,b6,b7,b8,jK⟩:=nine Bc.out.good.1.2;have oY:=Bc.out.kv;rw[jK]at oY;have c0:B1.cell? ⟨q,0,none⟩=some (.pointer (some ⟨bS,0,none⟩)):=ay Bc.out.sv;have c1:B1.cell? ⟨q+1+1,0,none⟩=some (.int .i64 touched):=ay Bc.out.tv;have c2:B1.cell? ⟨q+1+1+1,0,none⟩=some (.slice bao bs.length bcp):=ay Bc.out.XN
  have k0:B1.cell? ⟨q+1,0,none⟩=some (.int .i64 b0):=ag oY rfl;have k1:B1.cell? ⟨q+1,1,none⟩=some (.int .i64 rI):=ag oY rfl;have k2:B1.cell? ⟨q+1,2,none⟩=some (.int .i64 b2):=ag oY rfl;have k3:B1.cell? ⟨q+1,3,none⟩=some (.int .i64 b3):=ag oY rfl;have k4:B1.cell? ⟨q+1,4,none⟩=some (.int .i64 b4):=ag oY rfl
  have k5:B1.cell? ⟨q+1,5,none⟩=some (.int .i64 b5):=ag oY rfl;have k6:B1.cell? ⟨q+1,6,none⟩=some (.int .i64 b6):=ag oY rfl;have k7:B1.cell? ⟨q+1,7,none⟩=some (.int .i64 b7):=ag oY rfl;have k8:B1.cell? ⟨q+1,8,none⟩=some (.int .i64 b8):=ag oY rfl;have qF:j<touched+bs.length:=by rw[<-hlen];exact aw jC
  clear oY;gi_wp2_with fail
  gi_cut [40] from 27 (λc wc=>(c=.bool false/\CJ w N bS g n cap G d text.data.toList st0 touched (.slice bao bs.length bcp) bs tx lv work q p0 rb j st ls v A1 f1 F1 wc/\(touched<=j->bs[j - touched]?≠some st))∨(c=.bool true/\CJ w N bS g n cap G d text.data.toList st0 touched (.slice bao bs.length bcp) bs tx lv work q p0 rb j st ls v A1 f1 F1 wc/\touched<=j/\bs[j - touched]?=some st))
  case first=>
   by_cases E8:touched<=j
   ·have g1:decide ((touched:Int)<=(j:Int))=true:=decide_eq_true (by omega);obtain ⟨jt,hjt⟩:∃jt,j=touched+jt:=⟨j - touched,by omega⟩;obtain ⟨sb,FT⟩:∃sb,bs[jt]?=some sb:=⟨_,List.getElem?_eq_getElem (by omega)⟩;obtain ⟨aas,bg,of,aca,acb,hbc⟩:=cL.out jt sb FT;obtain ⟨d0,d1,d2,d3,d4,d5,d6,d7,d8,RM⟩:=nine aas
    have vL:∀(y:Nat) c,(aJ sb)[y]?=some c->B1.cell? ⟨bg,of+jt*10+y,none⟩=some c:=λy c hy=>(World.cell?_of_block (Bc.out.off.keep bg ⟨dw (hbc y c hy),acb⟩)).trans (hbc y c hy)
    rw[RM]at vL;have e0:=vL 0 _ rfl;have e1:=vL 1 _ rfl;have e2:=vL 2 _ rfl;have e3:=vL 3 _ rfl;have e4:=vL 4 _ rfl;have e5:=vL 5 _ rfl;have e6:=vL 6 _ rfl;have e7:=vL 7 _ rfl;have e8:=vL 8 _ rfl;rw[Nat.add_zero]at e0;have hjb:jt<bs.length:=by omega
    have hwr:IntKind.i64.wrap ((j:Int) - (touched:Int))=(jt:Int):=by rw[IntKind.wrap_i64];omega
    have aat:(d0=b0/\d1=rI/\d2=b2/\d3=b3/\d4=b4/\d5=b5/\d6=b6/\d7=b7/\d8=b8)<->sb=st:=by
     constructor
     ·rintro ⟨rfl,rfl,rfl,rfl,rfl,rfl,rfl,rfl,rfl⟩;exact C0 aas Bc.out.good.1.2 (RM.trans jK.symm)
     ·intro h;have h2:=RM.symm.trans ((congrArg aJ h).trans jK);simp at h2;omega
    have aau:j - touched=jt:=by omega
    subst aca;have HJT:=aa hjt;clear hbc vL hjt RM;refine iQ rfl (by kernel_rfl) (by kernel_rfl) (by kernel_rfl) ?_
    repeat (gi_big_quiet_step (fail))
    refine wpQuietIn_step (λw' hw' f hf=>by simp[Oper.about]at hf) (λK hK=>?_);rw[if_pos (by kernel_rfl)];by_cases Lv:sb=st
    ·refine ⟨.bool true,λw' hw'=>?_,?_⟩
     ·unfold Oper.quietAtIn;rw[nC w' d0 d1 d2 d3 d4 d5 d6 d7 d8 b0 rI b2 b3 b4 b5 b6 b7 b8 _ _ _ _ rfl rfl rfl,decide_eq_true (aat.2 Lv)];refine ⟨?_,?_⟩<;>first|rfl|exact hw'
     refine hK _ ?_;clear hK K;simp only[Act.put,List.setIfInBounds_toArray,List.set_cons_zero,List.set_cons_succ]
     repeat (gi_big_quiet_step (fail))
     refine wpQuietIn_nil ?_;intro _ hw';obtain ⟨nq,hw''⟩:=hw';subst hw'';gi_wp2_with fail;gi_meet;exact .inr ⟨rfl,Bc.out.below ⟨rfl,rfl,rfl,Nat.le_refl _,λ_ _=>rfl⟩,E8,by rw[aau,<-Lv];exact FT⟩
    ·refine ⟨.bool false,λw' hw'=>?_,?_⟩
     ·unfold Oper.quietAtIn;rw[nC w' d0 d1 d2 d3 d4 d5 d6 d7 d8 b0 rI b2 b3 b4 b5 b6 b7 b8 _ _ _ _ rfl rfl rfl,decide_eq_false (λh=>Lv (aat.1 h))];refine ⟨?_,?_⟩<;>first|rfl|exact hw'
     refine hK _ ?_;clear hK K;simp only[Act.put,List.setIfInBounds_toArray,List.set_cons_zero,List.set_cons_succ]
     repeat (gi_big_quiet_step (fail))
     refine wpQuietIn_nil ?_;intro _ hw';obtain ⟨nq,hw''⟩:=hw';subst hw'';gi_wp2_with fail;gi_meet;exact .inl ⟨rfl,Bc.out.below ⟨rfl,rfl,rfl,Nat.le_refl _,λ_ _=>rfl⟩,λ_=>by rw[aau,FT];intro e;exact Lv (Option.some.inj e)⟩
   ·have g1:decide ((touched:Int)<=(j:Int))=false:=decide_eq_false (by omega);refine iQ rfl (by kernel_rfl) (by kernel_rfl) (by kernel_rfl) ?_
    repeat (gi_big_quiet_step (fail))
    refine wpQuietIn_nil ?_;intro _ hw';obtain ⟨nq,hw''⟩:=hw';subst hw'';gi_wp2_with fail;gi_meet;exact .inl ⟨rfl,Bc.out.below ⟨rfl,rfl,rfl,Nat.le_refl _,λ_ _=>rfl⟩,λh=>absurd h E8⟩
  case rest=>
   clear c0 c1 c2 k0 k1 k2 k3 k4 k5 k6 k7 k8;rcases hcut with ⟨rfl,Lu,Ps⟩|⟨rfl,Lu,E8,hbt⟩
   ·have oY:=Lu.kv;obtain ⟨b0,rI,b2,b3,b4,b5,b6,b7,b8,jK⟩:=nine Lu.good.1.2;rw[jK]at oY;obtain ⟨wj,Xp⟩:∃wj,wj=work+j:=⟨_,rfl⟩;have wO:=Lu.sh;rw[<-Xp]at wO;have c0:wc.cell? ⟨q,0,none⟩=some (.pointer (some ⟨bS,0,none⟩)):=ay Lu.sv;have c1:wc.cell? ⟨bS,3,none⟩=some (.int .i64 wj):=ag wO rfl
    have c1f:wc.frozen? ⟨bS,3,none⟩=false:=by simp[World.frozen?,wO]
    have hwr:IntKind.i64.wrap ((wj:Int)+1)=(wj:Int)+1:=by have h1:=aS text.data.toList;have h2:text.data.toList.count 10<=text.data.toList.length:=List.count_le_length;rw[ah]at h2;have h3:=aw jC;rw[IntKind.wrap_i64];omega
    have Ox:=aa Lu.acd;rw[<-Xp]at Ox;obtain ⟨w7,hw7⟩:∃w7,wc.setCell ⟨bS,3,none⟩ (.int .i64 ((wj:Int)+1))=w7:=⟨_,rfl⟩;rw[hw7]at Ox;have vM:=Ox.out.kv;rw[jK]at vM;have k0:w7.cell? ⟨q+1,0,none⟩=some (.int .i64 b0):=ag vM rfl;have k1:w7.cell? ⟨q+1,1,none⟩=some (.int .i64 rI):=ag vM rfl
    have k2:w7.cell? ⟨q+1,2,none⟩=some (.int .i64 b2):=ag vM rfl;have k3:w7.cell? ⟨q+1,3,none⟩=some (.int .i64 b3):=ag vM rfl;have k4:w7.cell? ⟨q+1,4,none⟩=some (.int .i64 b4):=ag vM rfl;have k5:w7.cell? ⟨q+1,5,none⟩=some (.int .i64 b5):=ag vM rfl;have k6:w7.cell? ⟨q+1,6,none⟩=some (.int .i64 b6):=ag vM rfl
    have k7:w7.cell? ⟨q+1,7,none⟩=some (.int .i64 b7):=ag vM rfl;have k8:w7.cell? ⟨q+1,8,none⟩=some (.int .i64 b8):=ag vM rfl;have FR:=aa jK;have HNS:=aa Ps;have HWJ:=aa Xp;have m0:w7.cell? ⟨p0,0,none⟩=some (.slice (some ⟨g,0,none⟩) n cap):=ag Ox.out.pv rfl;have m1:w7.cell? ⟨p0,1,none⟩=some (ja d):=ag Ox.out.pv rfl
    obtain ⟨w8,Lx⟩:∃w8,w7.alloc (.cells #[.int .i64 b0,.int .i64 rI,.int .i64 b2,.int .i64 b3,.int .i64 b4,.int .i64 b5,.int .i64 b6,.int .i64 b7,.int .i64 b8,.slice none 0 0] 151)=w8:=⟨_,rfl⟩;have XE:=aa (Oy g n cap d body st Ox.out.good.1.2 w8);unfold k9 pv ja at XE;rw[jK]at XE;unfold ja at m1
    have n0:w8.cell? ⟨p0,0,none⟩=some (.slice (some ⟨g,0,none⟩) n cap):=by rw[<-Lx];exact ar m0 _
    have n1:w8.cell? ⟨p0,1,none⟩=some (.func (.func 159) #[] #[.pointer (some ⟨d.kv,0,none⟩),.pointer (some ⟨d.wk,0,none⟩)]):=by rw[<-Lx];exact ar m1 _
    have o0:w8.cell? ⟨q+1,0,none⟩=some (.int .i64 b0):=by rw[<-Lx];exact ar k0 _
    have o1:w8.cell? ⟨q+1,1,none⟩=some (.int .i64 rI):=by rw[<-Lx];exact ar k1 _
    have o2:w8.cell? ⟨q+1,2,none⟩=some (.int .i64 b2):=by rw[<-Lx];exact ar k2 _
    have o3:w8.cell? ⟨q+1,3,none⟩=some (.int .i64 b3):=by rw[<-Lx];exact ar k3 _
    have o4:w8.cell? ⟨q+1,4,none⟩=some (.int .i64 b4):=by rw[<-Lx];exact ar k4 _
    have o5:w8.cell? ⟨q+1,5,none⟩=some (.int .i64 b5):=by rw[<-Lx];exact ar k5 _
    have o6:w8.cell? ⟨q+1,6,none⟩=some (.int .i64 b6):=by rw[<-Lx];exact ar k6 _
    have o7:w8.cell? ⟨q+1,7,none⟩=some (.int .i64 b7):=by rw[<-Lx];exact ar k7 _
    have o8:w8.cell? ⟨q+1,8,none⟩=some (.int .i64 b8):=by rw[<-Lx];exact ar k8 _
    subst Lx;clear oY jK wO Lu vM Ps Xp;gi_wp2_with (refine cE rfl _ _ _ rfl _ #[.int .i64 b0,.int .i64 rI,.int .i64 b2,.int .i64 b3,.int .i64 b4,.int .i64 b5,.int .i64 b6,.int .i64 b7,.int .i64 b8,.slice none 0 0] rfl rfl 151 _ (aA _ _ _ rfl) rfl rfl (by simp[Value.oneCell']) ?_;rw[dV _ _ _ _ _ rfl])
    refine ⟨trivial,(CallsIn.inRound (p0+3+1) (callsIn_wide.2 XE.out)).mono ?_⟩;rintro e9 w9 ⟨rfl,TV⟩;obtain ⟨bl,hbl⟩:∃bl,bl=w7.heap.size:=⟨_,rfl⟩;have he:(w7.alloc (.cells #[.int .i64 b0,.int .i64 rI,.int .i64 b2,.int .i64 b3,.int .i64 b4,.int .i64 b5,.int .i64 b6,.int .i64 b7,.int .i64 b8,.slice none 0 0] 151)).heap.size=bl+1:=by rw[hbl];simp
    obtain ⟨Lj,TW,f0,Tt,f2,f3⟩:=D4 w7 _ _ _ _ bl hbl w9 TV;rw[he,<-hbl];have P5:=aa (Ox.out.below Lj);have ace:∀k,A1 k->k<bl:=λk hk=>by rw[hbl];exact (Ox.out.SC.old k hk).2
    have VZ:p0+5<=bl:=by rw[hbl];exact Ox.out.ord.2.2.1
    have TB:=aa (λ(k:Nat) (hk:bl<=k)=>Ox.out.eT.free (k:=k) (.inr (by rw[<-hbl];exact hk)));have Us:=aa f0;have kp:=aa Tt;have eG:=aa f2;have gN:=aa f3;clear he TV Lj XE Ox f0 Tt f2 f3 n0 n1 m0 m1 k0 k1 k2 k3 k4 k5 k6 k7 k8 o0 o1 o2 o3 o4 o5 o6 o7 o8 c0 c1 c1f hbl;gi_wp2_with fail
    refine sw (l₀:=p0+3+1) (r₀:=rb) rfl P5.out.ij (by decide) (gf:=122) (lb:=#[.pointer (some ⟨bl+1+2,0,none⟩),.pointer (some ⟨bl+1,0,none⟩),.pointer (some ⟨bl+1+1,0,none⟩)]) rfl trivial (enters_of Tryz.func122 (by kernel_rfl) rfl) ?_;intro fn2 acf;rw[TW]
    have hbz:body.size<=3000:=by have h1:=j6 (List.mem_of_getElem? jC);rw[ah,ah]at h1;omega
    refine CallsIn.inRound (p0+3+1) (D5 P5.out dZ hbz ace VZ TW (by rw[FR.out];exact Us.out) (by unfold ja;exact kp.out) eG.out (by rw[FR.out];exact gN.out) (ll fn2 _ _ _ _ _) _ ?_ ?_)
    ·intro Cl pre jB x st' A nh hgd MJ;have HIJ:=aa nh;obtain ⟨sv,-,i2,i3,i4,i5,-,i7,i8⟩:=nh;refine fW trivial i4 rfl ?_;intro Pq AW Oz;rw[<-Oz]at HIJ i4 ⊢;obtain ⟨y0,y1,y2,y3,y4,y5,y6,y7,y8,V0⟩:=nine hgd.1.2;unfold Sp.v Pv k9;rw[V0];have zq:=aa i2;have Mv:=aa i3;have Td:=aa i4;have HI5:=aa i5;have Fy:=aa V0;have acg:=hgd.1.2
     clear Oz i2 i3 i4 i5 V0 hgd
     gi_wp2_with (first
      | (refine cE rfl _ _ _ rfl _ #[.int .i64 x.fr,.int .i64 x.to,.string x.nm,.int .i64 x.jr,.string x.co] rfl rfl 70 _ (aA _ _ _ rfl) rfl rfl (by simp[Value.oneCell']) ?_;rw[dV _ _ _ _ _ rfl])
      | (refine cE rfl _ _ _ rfl _ #[.int .i64 y0,.int .i64 y1,.int .i64 y2,.int .i64 y3,.int .i64 y4,.int .i64 y5,.int .i64 y6,.int .i64 y7,.int .i64 y8] rfl rfl 138 _ (aA _ _ _ (by simp)) rfl rfl (by simp[Value.oneCell']) ?_;rw[dV _ _ _ _ _ (by simp)]))
     refine ⟨heap_alloc_old (heap_alloc_old Td.out),?_⟩;obtain ⟨A2,qB,H7,xn,hsp,haf,hl2⟩:=H8 A (.cells #[.int .i64 x.fr,.int .i64 x.to,.string x.nm,.int .i64 x.jr,.string x.co] 70) (.cells #[.int .i64 y0,.int .i64 y1,.int .i64 y2,.int .i64 y3,.int .i64 y4,.int .i64 y5,.int .i64 y6,.int .i64 y7,.int .i64 y8] 138) (bl+4) _ Pq Td.out;rw[qB];clear qB
     obtain ⟨sA,ID⟩:∃sA,sA=A.heap.size:=⟨_,rfl⟩;rw[<-ID]at xn hsp haf ⊢;have hj8:=P5.out.good.1.2;have TU:=di hj8;have ach:q+1<bl:=by have:=P5.out.ord;omega
     have i3':=H7.same Mv.out (by omega);have t9:A2.cell? ⟨bl,9,none⟩=some sv:=ag i3' (by rw[List.getElem?_toArray,List.getElem?_append_right (by omega),TU];rfl);have s0:A2.cell? ⟨sA,0,none⟩=some (.int .i64 x.fr):=ag hsp rfl;have s1:A2.cell? ⟨sA,1,none⟩=some (.int .i64 x.to):=ag hsp rfl;have s2:A2.cell? ⟨sA,2,none⟩=some (.string x.nm):=ag hsp rfl
     have s3:A2.cell? ⟨sA,3,none⟩=some (.int .i64 x.jr):=ag hsp rfl;have s4:A2.cell? ⟨sA,4,none⟩=some (.string x.co):=ag hsp rfl;have og:aK (λk=>k=bl+4) A (A2.alloc (.cells #[.int .i64 x.fr,.int .i64 x.to,.string x.nm,.int .i64 x.jr,.string x.co] 70)):=H7.trans (aK.au ((Below.refl _ _).alloc (Nat.le_refl _) _))
     have HL3:=aa (show (A2.alloc (.cells #[.int .i64 x.fr,.int .i64 x.to,.string x.nm,.int .i64 x.jr,.string x.co] 70)).heap[bl+4]?=some (.loop Pq) from heap_alloc_old hl2)
     have ba:=aa (show (A2.alloc (.cells #[.int .i64 x.fr,.int .i64 x.to,.string x.nm,.int .i64 x.jr,.string x.co] 70)).ownsRow (bl+5) 70 5 sv pre.length (pre.flatMap Sp.cells) from aG HI5.out λk hk=>by obtain ⟨a,c,hc⟩:=aj HI5.out hk;rw[hc];exact og.same hc (by omega))
     have ea:=aa (λ(y:Nat) u (h:([.int .i64 x.fr,.int .i64 x.to,.string x.nm,.int .i64 x.jr,.string x.co]:List Value)[y]?=some u)=>show (A2.alloc (.cells #[.int .i64 x.fr,.int .i64 x.to,.string x.nm,.int .i64 x.jr,.string x.co] 70)).cell? ((⟨A2.heap.size,0,none⟩:Addr).add y)=some u from aD A2 #[.int .i64 x.fr,.int .i64 x.to,.string x.nm,.int .i64 x.jr,.string x.co] _ y u h)
     have E6:∀k,sv.ownBlock=some k->bl+5<=k/\k<sA:=λk hk=>by obtain ⟨a,c,hc⟩:=aj HI5.out hk;exact ⟨a,by rw[ID];exact ae hc⟩
     have aav:=aa (λ(v':Value) (A4:World) (hg:(A2.alloc (.cells #[.int .i64 x.fr,.int .i64 x.to,.string x.nm,.int .i64 x.jr,.string x.co] 70)).grownBy A4 sv.ownBlock)=>show (A4.cell? ⟨bl,9,none⟩=some sv/\A4.frozen? ⟨bl,9,none⟩=false)/\∀A5,A4.setCell ⟨bl,9,none⟩ v'=A5->(A5.cell? ⟨sA+1,0,none⟩=some (.int .i64 y0)/\A5.cell? ⟨sA+1,1,none⟩=some (.int .i64 y1)/\A5.cell? ⟨sA+1,2,none⟩=some (.int .i64 y2)/\A5.cell? ⟨sA+1,3,none⟩=some (.int .i64 y3)/\A5.cell? ⟨sA+1,4,none⟩=some (.int .i64 y4)/\A5.cell? ⟨sA+1,5,none⟩=some (.int .i64 y5)/\A5.cell? ⟨sA+1,6,none⟩=some (.int .i64 y6)/\A5.cell? ⟨sA+1,7,none⟩=some (.int .i64 y7)/\A5.cell? ⟨sA+1,8,none⟩=some (.int .i64 y8))/\A5.heap[q+1]?=some (.cells (aJ jB).toArray 138 (0,0)) from by
      have key:∀(k:Nat) o,(A2.alloc (.cells #[.int .i64 x.fr,.int .i64 x.to,.string x.nm,.int .i64 x.jr,.string x.co] 70)).heap[k]?=some o->(k<bl+5∨sA<=k)->A4.heap[k]?=some o:=λk o hk h1=>(hg.block k (ae hk) (λe=>by have:=E6 k e.symm;omega)).trans hk
      have b4:=key bl _ (heap_alloc_old i3') (by omega);refine ⟨⟨ag b4 (by rw[List.getElem?_toArray,List.getElem?_append_right (by omega),TU];rfl),by simp[World.frozen?,b4]⟩,λA5 hA5=>?_⟩
      have RN:A5.heap[sA+1]?=some (.cells #[.int .i64 y0,.int .i64 y1,.int .i64 y2,.int .i64 y3,.int .i64 y4,.int .i64 y5,.int .i64 y6,.int .i64 y7,.int .i64 y8] 138 (0,0)):=by rw[<-hA5,Below.heap_setCell _ _ _ _ (by show sA+1≠bl;omega)];exact key _ _ (heap_alloc_old haf) (by omega)
      have hk5:A5.heap[q+1]?=some (.cells (aJ jB).toArray 138 (0,0)):=by rw[<-hA5,Below.heap_setCell _ _ _ _ (by show q+1≠bl;omega)];exact key _ _ (heap_alloc_old (H7.same zq.out (by omega))) (by omega)
      exact ⟨⟨ag RN rfl,ag RN rfl,ag RN rfl,ag RN rfl,ag RN rfl,ag RN rfl,ag RN rfl,ag RN rfl,ag RN rfl⟩,hk5⟩)
     obtain ⟨n0,hi,hz0,hz1,hz3⟩:=info_parts eL;have hbase:bl+5<=(A2.alloc (.cells #[.int .i64 x.fr,.int .i64 x.to,.string x.nm,.int .i64 x.jr,.string x.co] 70)).heap.size:=by rw[World.size_alloc,xn];omega
     have aaw:=aa og;have aci:(aJ jB).toArray.size=9:=by rw[List.size_toArray,di i8]
     have Fw:=aa ID;clear H7 xn hsp haf hl2 i3' og E6 zq Td HI5 ID
     gi_wp2_with (first
      | (refine wpListIn_append_own_at _ rfl (.tmp 57) (.tmp 59) 64 rfl (bl+5) 70 n0 (.agg #[.int .i64 0,.int .i64 0,.string ⟨#[]⟩,.int .i64 0,.string ⟨#[]⟩]) 5 56 Tryz.underlying64 hi hz0 hz1 hz3 rfl (by decide) sv pre.length (pre.flatMap Sp.cells) (by rfl) ba.out ⟨A2.heap.size,0,none⟩ 1 1 [.int .i64 x.fr,.int .i64 x.to,.string x.nm,.int .i64 x.jr,.string x.co] (by rfl) rfl ea.out (by simp[Value.oneCell']) (by unfold maxLen;omega) (by omega) hbase ?_;intro v' A4 hown hg _ hv;obtain ⟨⟨z9,z9f⟩,hz5⟩:=aav.out v' A4 hg;have HX:=aa (And.intro hown (And.intro hg hv));obtain ⟨g',cap',rfl⟩:=az hown (by omega);obtain ⟨A5,hA5⟩:∃A5,A4.setCell ⟨bl,9,none⟩ (.slice (some ⟨g',0,none⟩) (pre.length+1) cap')=A5:=⟨_,rfl⟩;obtain ⟨⟨q0',q1',q2',q3',q4',q5',q6',q7',q8'⟩,hk5⟩:=hz5 A5 hA5;have HK5:=aa hk5;clear hown hg hv hz5 hk5 aav ba ea)
      | (refine cE rfl _ _ _ rfl (q+1) #[.int .i64 y0,.int .i64 y1,.int .i64 y2,.int .i64 y3,.int .i64 y4,.int .i64 y5,.int .i64 y6,.int .i64 y7,.int .i64 y8] rfl rfl 138 _ HK5.out rfl aci (by simp[Value.oneCell']) ?_))
     have sZ:=HIJ.out.next (st':=st') (x:=x) (A4:=A4) (sv':=.slice (some ⟨g',0,none⟩) (pre.length+1) cap') ach hj8 acg aaw.out HL3.out (λYh h2=>by
      have h3:=h2.symm.trans Mv.out;have h4:Yh=sv:=by simpa using h3
      rw[h4];exact HX.out) _ rfl
     rw[hA5,Fy.out]at sZ;rw[Fw.out];exact ⟨sZ.1,.inl ⟨rfl,sZ.2⟩⟩
    ·intro r W bc jB Cl A' f' F' AY nh hp ou gL;have NJ:=P5.out.ord;have V1:=λro=>TY nh TW (by omega) (by omega) hp ou gL ro
     refine ⟨⟨r,rfl⟩,.inl ⟨(V1 rb).1,λro=>?_⟩⟩;obtain ⟨-,sv,hm⟩:=V1 ro;obtain ⟨W1,hW1⟩:∃W1,W.putObj (bl+4) (.loop ro)=W1:=⟨_,rfl⟩;rw[hW1]at hm ⊢;obtain ⟨hav,ni,K9,fk,oq⟩:=hm.reads P5.out VZ TB.out;subst oq;have kT:=hm.line;rw[FR.out]at kT;have l10:W1.cell? ⟨bl,9,none⟩=some (.slice K9 bc.length fk):=ag kT rfl
     have l0:W1.cell? ⟨bl,0,none⟩=some (.int .i64 b0):=ag kT rfl;have l1:W1.cell? ⟨bl,1,none⟩=some (.int .i64 rI):=ag kT rfl;have l2:W1.cell? ⟨bl,2,none⟩=some (.int .i64 b2):=ag kT rfl;have l3:W1.cell? ⟨bl,3,none⟩=some (.int .i64 b3):=ag kT rfl;have l4:W1.cell? ⟨bl,4,none⟩=some (.int .i64 b4):=ag kT rfl
     have l5:W1.cell? ⟨bl,5,none⟩=some (.int .i64 b5):=ag kT rfl;have l6:W1.cell? ⟨bl,6,none⟩=some (.int .i64 b6):=ag kT rfl;have l7:W1.cell? ⟨bl,7,none⟩=some (.int .i64 b7):=ag kT rfl;have l8:W1.cell? ⟨bl,8,none⟩=some (.int .i64 b8):=ag kT rfl;have v0:W1.cell? ⟨p0+1,0,none⟩=some v:=ay hav;have HM:=aa hm;have LV:=aa AY
     obtain ⟨n0,hi,hz0,hz1,hz3⟩:=info_parts AX;have ba:=aa (show (W1.alloc (.cells #[.int .i64 b0,.int .i64 rI,.int .i64 b2,.int .i64 b3,.int .i64 b4,.int .i64 b5,.int .i64 b6,.int .i64 b7,.int .i64 b8,.slice K9 bc.length fk] 151)).ownsRow q 151 10 v ls.length (ls.flatMap LE.cells) from (ni.below ((Below.refl _ _).alloc (Nat.le_refl _) _)).row)
     have ea:=aa (λ(y:Nat) u (h:([.int .i64 b0,.int .i64 rI,.int .i64 b2,.int .i64 b3,.int .i64 b4,.int .i64 b5,.int .i64 b6,.int .i64 b7,.int .i64 b8,.slice K9 bc.length fk]:List Value)[y]?=some u)=>show (W1.alloc (.cells #[.int .i64 b0,.int .i64 rI,.int .i64 b2,.int .i64 b3,.int .i64 b4,.int .i64 b5,.int .i64 b6,.int .i64 b7,.int .i64 b8,.slice K9 bc.length fk] 151)).cell? ((⟨W1.heap.size,0,none⟩:Addr).add y)=some u from aD W1 #[.int .i64 b0,.int .i64 rI,.int .i64 b2,.int .i64 b3,.int .i64 b4,.int .i64 b5,.int .i64 b6,.int .i64 b7,.int .i64 b8,.slice K9 bc.length fk] _ y u h)
     have UE:ls.length<=4000:=by have h1:=aS text.data.toList;have h2:text.data.toList.count 10<=text.data.toList.length:=List.count_le_length;rw[ah]at h2;have h3:=aw jC;omega
     have hbase:q<=(W1.alloc (.cells #[.int .i64 b0,.int .i64 rI,.int .i64 b2,.int .i64 b3,.int .i64 b4,.int .i64 b5,.int .i64 b6,.int .i64 b7,.int .i64 b8,.slice K9 bc.length fk] 151)).heap.size:=by rw[World.size_alloc];have:=hm.size;omega
     have eM:=aa (λ(v':Value) (W3:World) (hrow:W3.ownsRow q 151 10 v' (ls.length+1) (ls.flatMap LE.cells++[.int .i64 b0,.int .i64 rI,.int .i64 b2,.int .i64 b3,.int .i64 b4,.int .i64 b5,.int .i64 b6,.int .i64 b7,.int .i64 b8,.slice K9 bc.length fk])) (hg:(W1.alloc (.cells #[.int .i64 b0,.int .i64 rI,.int .i64 b2,.int .i64 b3,.int .i64 b4,.int .i64 b5,.int .i64 b6,.int .i64 b7,.int .i64 b8,.slice K9 bc.length fk] 151)).grownBy W3 v.ownBlock) (hv:v'.ownBlock=v.ownBlock∨v'.ownBlock=some (W1.alloc (.cells #[.int .i64 b0,.int .i64 rI,.int .i64 b2,.int .i64 b3,.int .i64 b4,.int .i64 b5,.int .i64 b6,.int .i64 b7,.int .i64 b8,.slice K9 bc.length fk] 151)).heap.size)=>CJ.next HM.out P5.out VZ TB.out dZ jC LV.out TZ HNS.out (by rw[FR.out];exact hrow) hg hv)
     clear V1 nh hp ou gL hm hav ni kT AY hW1
     gi_wp2_with (refine wpListIn_append_own_at _ rfl (.tmp 63) (.tmp 65) 132 rfl q 151 n0 (.agg #[.int .i64 0,.int .i64 0,.int .i64 0,.int .i64 0,.int .i64 0,.int .i64 0,.int .i64 0,.int .i64 0,.int .i64 0,.slice none 0 0]) 10 96 Tryz.underlying132 hi hz0 hz1 hz3 rfl (by decide) v ls.length (ls.flatMap LE.cells) (by rfl) ba.out ⟨W1.heap.size,0,none⟩ 1 1 [.int .i64 b0,.int .i64 rI,.int .i64 b2,.int .i64 b3,.int .i64 b4,.int .i64 b5,.int .i64 b6,.int .i64 b7,.int .i64 b8,.slice K9 bc.length fk] (by rfl) rfl ea.out (by simp[Value.oneCell']) (by unfold maxLen;omega) (by omega) hbase ?_;intro v' W3 hown hg _ hv;obtain ⟨AZ,SG⟩:=eM.out v' W3 hown hg hv;have acj:=aa SG;obtain ⟨g',cap',rfl⟩:=az hown (by omega);have z0:=ay AZ;have z0f:W3.frozen? ⟨p0+1,0,none⟩=false:=(by simp[World.frozen?,AZ]);clear hown hg hv SG AZ eM ba ea)
     have hc2:=acj.out;rw[TZ]at hc2;exact ⟨hc2.ij,.inl ⟨rfl,_,_,_,_,_,_,hc2.yP _,by rw[List.length_append,TZ];rfl⟩⟩
   ·have HJC:=aa Lu;clear Lu;gi_wp2_with fail;exact ⟨HJC.out.ij,.inr ⟨rfl,st,ls,v,A1,f1,F1,HJC.out.yP _,TZ,E8,hbt⟩⟩
 ·intro r W st ls v A1 f1 F1 hj hl;refine ⟨⟨r,rfl⟩,.inl ⟨hj.ij,λro=>?_⟩⟩;have ed:=hj.yP ro;obtain ⟨W9,Ee⟩:∃W9,W.putObj (p0+3+1) (.loop ro)=W9:=⟨_,rfl⟩;rw[Ee]at ed ⊢;have c9:W9.cell? ⟨p0+1,0,none⟩=some v:=ay ed.av;have pq:=aa (ed.done (by omega) (.inl hl));have T4:=aa ed.tR;obtain ⟨wK,vc,V3⟩:=aC ed.eT.row;subst V3
  have HL:=aa hl;clear hj ed Ee Px hl;dsimp only;go_wp2_with fail;refine ⟨by simp,.inl ⟨_,_,rfl,run_takeDeferred T4.out,?_⟩⟩;exact ⟨_,(by simp[results,Tryz.results69,go_sem]),pq.out⟩
 ·intro r W st ls v A1 f1 F1 hj h1 h2;refine ⟨⟨r,rfl⟩,.inr ⟨_,hj.ij,λro=>?_⟩⟩;have ed:=hj.yP ro;obtain ⟨W9,Ee⟩:∃W9,W.putObj (p0+3+1) (.loop ro)=W9:=⟨_,rfl⟩;rw[Ee]at ed ⊢;have c9:W9.cell? ⟨p0+1,0,none⟩=some v:=ay ed.av;have pq:=aa (ed.done (by have:=aw h2;omega) (.inr ⟨h1,h2⟩));have T4:=aa ed.tR
  obtain ⟨wK,vc,V3⟩:=aC ed.eT.row;subst V3;clear hj ed Ee Px h2;refine wpIn_wide.2 ?_;go_wp2_with fail;refine ⟨by simp,.inl ⟨_,_,rfl,run_takeDeferred T4.out,?_⟩⟩;exact ⟨_,(by simp[results,Tryz.results69,go_sem]),pq.out⟩
end Go.Proofs.YtgncgdkpkkdaeaaGreatDoor
