import Derived.Test.YtgncgdkpkkdaeaaGreatDoorAS21
import Derived.Test.YtgncgdkpkkdaeaaGreatDoorSh2
import Derived.Test.YtgncgdkpkkdaeaaGreatDoorAVG
set_option maxRecDepth 20000
set_option maxHeartbeats 4000000
namespace Go.Proofs.YtgncgdkpkkdaeaaGreatDoor
open Go.RowKit bu Go.Maps Go.Shelf
variable {pre bh:List Sp} {rc:Loop} {B cp q:Nat} {o:Obj} {ao:Option Addr} {x:Sp} {v v':Value} {W W4 w:World}
structure bZ(w:World)(B bS g n cap:Nat)(text:ByteArray)(lv:Value)(ls:List LE)(work:Nat):Prop where
 sh:w.heap[bS]?=some (.cells #[.slice (some ⟨g,0,none⟩) n cap,.string text,lv,.int .i64 work] 134 (0,0))
 fU:cL w B lv ls
 base:B<=bS
 size:text.size<=3000
def BX(g n cap:Nat)(G:List GS)(text:ByteArray)(w:World)(e:Ending)(w':World):Prop:=
 ∃bS lv ls st,e=.returned (.pointer (some ⟨bS,0,none⟩))/\Below w.heap.size w w'/\bZ w' w.heap.size bS g n cap text lv ls ls.length/\dZ G [0] (aF text.data.toList) (ls.map LE.pr) st
theorem zH(N g n cap:Nat)(G:List GS)(text:ByteArray)(w:World)(eM:yq G)(lY:0<G.length)(hz:text.size<=3000)(hT:lC w)(h0:1 < N)(hG:∀w',Below N w w'->cd w' g n cap G)(hN:N<=w.heap.size)(hM:Mx w)(BZ:0 < N):
  Calls Tryz.prog 40 #[.slice (some ⟨g,0,none⟩) n cap,.string text] w (BX g n cap G text w):=by
 have BC:=aa (kF text w (by omega));go_enter Tryz.func40,Tryz.ntmps40;go_wp2_with fail;refine BC.out.mono ?_;rintro e1 w1 ⟨rfl,hb1⟩;obtain ⟨bS,Tw⟩:∃bS,bS=w1.heap.size:=⟨_,rfl⟩;obtain ⟨w2,hw2⟩:∃w2,w1.alloc (.cells #[.slice (some ⟨g,0,none⟩) n cap,.string text,.slice none 0 0,.int .i64 0] 134)=w2:=⟨_,rfl⟩
 have hb2:Below w.heap.size w w2:=by rw[<-hw2];exact hb1.alloc hb1.size _
 have kG:w2.heap[bS]?=some (.cells #[.slice (some ⟨g,0,none⟩) n cap,.string text,.slice none 0 0,.int .i64 0] 134 (0,0)):=by rw[<-hw2];exact aD _ _ _ Tw
 have s1:w2.cell? ⟨bS,1,none⟩=some (.string text):=ai kG rfl;clear BC;go_wp2_with fail;rw[<-Tw];obtain ⟨c,hc⟩:∃c,c=Lib.countByte text.data.toList 10:=⟨_,rfl⟩;obtain ⟨tc,Xv⟩:∃tc,tc=1+c:=⟨_,rfl⟩;have hcc:c<=text.size:=by rw[hc,<-aj];exact List.count_le_length
 have hwr:IntKind.i64.wrap (1+(c:Int))=(tc:Int):=by rw[IntKind.wrap_i64,Xv];omega
 have HBT:=aa (ET w2.drew);have EU:=aa (λw3=>Tryz.strings_Count_one text 10 w3);rw[<-hc]at EU;have cE:Good G [0]:=⟨⟨by simp,by simp⟩,λx hx=>by rw[List.mem_singleton.1 hx];exact lY⟩;have hlen:(aF text.data.toList).length=tc+([]:List (List Nat)).length:=by rw[aT,Xv,hc];rfl
 have Tx:=aa (λ(w3:World) (hb3:Below w2.drew.heap.size w2.drew w3)=>show (w3.cell? ⟨bS,1,none⟩=some (.string text))/\Calls Tryz.prog 69 #[.pointer (some ⟨bS,0,none⟩),.string text,lV [0],.int .i64 tc,.slice none 0 0] w3 (zG bS g n cap G text.data.toList [0] tc [] text (.slice none 0 0) 0 w3) from by
  have EW:Below w2.heap.size w2 w3:=⟨hb3.os,hb3.tape,hb3.output,hb3.size,hb3.block⟩;have rq:Below w.heap.size w w3:=hb2.trans (EW.mono hb2.size);have oz:=(EW.block _ (ae kG)).trans kG;have hM3:=hM.below rq
  refine ⟨ai oz rfl,uH N bS g n cap G text [0] tc (.slice none 0 0) [] text (.slice none 0 0) 0 w3 eM cE hz (by omega) (hT.keep (rq.block _ (by omega))) h0 (λw' hb=>hG w' ((rq.mono hN).trans hb)) (by have:=hb1.size;omega) hM3 BZ oz ⟨none,0,rfl,by simp,λj st h=>by simp at h⟩ hlen⟩)
 have cW:=aa hb2;have HLEN:=aa hlen;have uq:w.heap.size<=bS:=by rw[Tw];exact hb1.size
 clear hb2 hb1 kG Tw hw2 hc Xv hlen hG hM hT cE
 go_region_held3 (λw'=>w'.cell? ⟨bS,1,none⟩=some (.string text))
  (first
   | with_reducible exact z3
   | with_reducible exact z1
   | with_reducible exact t1
   | go_keep)
  (first
   | (go_at_call 70;refine HBT.out.mono ?_;clear HBT;rintro e3 w3 ⟨rfl,hb3⟩;obtain ⟨t1,LS⟩:=Tx.out w3 hb3;have Yz:=aa LS;have fV:=aa hb3;clear Tx LS hb3)
   | (go_at_call 71;refine (EU.out w3).mono ?_;clear EU;rintro e4 w4 ⟨rfl,h4⟩;subst h4)
   | (go_at_call 69;refine Yz.out.mono ?_;clear Yz;rintro e5 w5 ⟨v,ls,st,rfl,QY,hr5,tR,YA,hs5,ho5,_,hf5⟩;have z1:w5.cell? ⟨bS,1,none⟩=some (.string text):=(ai hs5 rfl);have z2:w5.cell? ⟨bS,2,none⟩=some (.slice none 0 0):=(ai hs5 rfl);have z2f:w5.frozen? ⟨bS,2,none⟩=false:=(by simp[World.frozen?,hs5]);obtain ⟨xz,vc,hv⟩:=aC QY.row;subst hv;have z3:(w5.setCell ⟨bS,2,none⟩ (.slice xz ls.length vc)).cell? ⟨bS,1,none⟩=some (.string text):=(ai (ah w5 bS 2 (.slice xz ls.length vc) hs5) rfl);have Qm:=aa QY;have HR5:=aa hr5;have abD:=aa YA;have Ev:=aa hs5;have LU:=aa ho5;have Mw:=aa hf5;clear QY hr5 tR YA hs5 ho5 hf5))
 all_goals
  have aq:=aa (show BX g n cap G text w (.returned (.pointer (some ⟨bS,0,none⟩))) (w5.setCell ⟨bS,2,none⟩ (.slice xz ls.length vc)) from by
   have hb3:Below w2.heap.size w2 w4:=⟨fV.out.os,fV.out.tape,fV.out.output,fV.out.size,fV.out.block⟩;have oZ:Below w.heap.size w w4:=cW.out.trans (hb3.mono cW.out.size)
   have Qn:ls.length=(aF text.data.toList).length:=by
    rcases Mw.out with h|⟨_,h⟩
    ·exact h
    ·simp at h
   have o5:aM (λk=>k=bS) w5 (w5.setCell ⟨bS,2,none⟩ (.slice xz ls.length vc)):=aM.setCell (Y:=λk=>k=bS) (p:=⟨bS,2,none⟩) rfl Ev.out (by decide) _;have oo:=LU.out.trans o5;have hs:=ah w5 bS 2 (.slice xz ls.length vc) Ev.out
   refine ⟨bS,.slice xz ls.length vc,ls,st,rfl,⟨oo.os.trans oZ.os,oo.tape.trans oZ.tape,oo.output.trans oZ.output,bJ oZ.size oo.size,λk hk=>(oo.keep k ⟨dw hk oZ.size,by omega⟩).trans (oZ.block k hk)⟩,⟨by simpa using hs,?_,uq,hz⟩,?_⟩
   ·have hl:=(Qm.out.off o5 (λk hk=>by rw[hk];exact Qm.out.other Ev.out (λc=>⟨by simp,by simp⟩)));exact ⟨dB hl.row oZ.size,λx hx=>⟨(hl.each x hx).1,dB (hl.each x hx).2 oZ.size⟩⟩
   ·have hr:=HR5.out;rw[Qn,List.take_length]at hr;exact hr)
  clear Qm HR5 abD Ev LU Mw fV z1 z2 z2f z3;go_wp2_with fail;go_ret;exact aq.out
def B3(g n cap:Nat)(G:List GS)(text:ByteArray)(w:World)(e:Ending)(w':World):Prop:=
 Below w.heap.size w w'/\((3000<text.size/\e=.returned (.tuple #[.pointer none,.int .i64 1])) ∨
  (text.size<=3000/\∃bX bS lv ls st,e=.returned (.tuple #[.pointer (some ⟨bX,0,none⟩),.int .i64 0])/\w'.heap[bX]?=some (.cells #[.pointer (some ⟨bS,0,none⟩)] 46 (0,0))/\w.heap.size<=bX/\bZ w' w.heap.size bS g n cap text lv ls ls.length/\dZ G [0] (aF text.data.toList) (ls.map LE.pr) st))
theorem My(N P g n cap:Nat)(G:List GS)(text:ByteArray)(w:World)(hP:w.heap[P]?=some (.cells #[.slice (some ⟨g,0,none⟩) n cap] 38 (0,0)))(hn:0<n)(eM:yq G)(lY:0<G.length)(hT:lC w)(h0:1 < N)(hG:∀w',Below N w w'->cd w' g n cap G)(hN:N<=w.heap.size)(hM:Mx w)(BZ:0 < N):
  Calls Tryz.prog 15 #[.pointer (some ⟨P,0,none⟩),.string text] w (B3 g n cap G text w):=by
 have c0:=aA hP;have g0:((n:Int)==0)=false:=by rw[er];omega
 by_cases hz:text.size<=3000
 ·have g1:decide ((3000:Int)<(text.size:Int))=false:=bV (by omega);have ey:=aa (zH N g n cap G text w eM lY hz hT h0 hG hN hM BZ);clear hP eM hT hG hM;go_enter Tryz.func15,Tryz.ntmps15;go_wp2_with fail;refine ey.out.mono ?_;rintro e1 w1 ⟨bS,lv,ls,st,rfl,hb,hs,hr⟩
  have aq:=aa (show B3 g n cap G text w (.returned (.tuple #[.pointer (some ⟨w1.heap.size,0,none⟩),.int .i64 0])) (w1.alloc (.cells #[.pointer (some ⟨bS,0,none⟩)] 46)) from by
   have hb1:Below w1.heap.size w1 (w1.alloc (.cells #[.pointer (some ⟨bS,0,none⟩)] 46)):=cq _ _;exact ⟨hb.alloc hb.size _,.inr ⟨hz,w1.heap.size,bS,lv,ls,st,rfl,ag _ _,hb.size,⟨af hs.sh,hs.fU.below hb1,hs.base,hs.size⟩,hr⟩⟩)
  clear hb hs hr ey;go_wp2_with fail;go_ret2;exact aq.out
 ·have g1:decide ((3000:Int)<(text.size:Int))=true:=cF (by omega);clear hP eM hT hG hM;go_enter Tryz.func15,Tryz.ntmps15;go_wp2_with fail;go_ret2;exact ⟨Below.refl _ _,.inl ⟨by omega,rfl⟩⟩
theorem uI(bX bS:Nat)(w:World)(h:w.heap[bX]?=some (.cells #[.pointer (some ⟨bS,0,none⟩)] 46 (0,0))):Calls Tryz.prog 49 #[.pointer (some ⟨bX,0,none⟩)] w λe w'=>e=.returned (.bool false)/\w'=w:=by have c0:=aA h;go_enter Tryz.func49,Tryz.ntmps49;go_wp2_with fail;go_ret;exact ⟨rfl,rfl⟩
section
variable {w:World} {B bX bS g n cap:Nat} {text:ByteArray} {lv:Value} {ls:List LE} {work:Nat}
theorem EX(h:bZ w B bS g n cap text lv ls work)(hx:w.heap[bX]?=some (.cells #[.pointer (some ⟨bS,0,none⟩)] 46 (0,0))):Calls Tryz.prog 28 #[.pointer (some ⟨bX,0,none⟩)] w λe w'=>e=.returned (.string text)/\w'=w:=by
 have c0:=aA hx;have c1:w.cell? ⟨bS,1,none⟩=some (.string text):=ai h.sh rfl;go_enter Tryz.func28,Tryz.ntmps28;go_wp2;go_ret;exact ⟨rfl,rfl⟩
theorem pg(h:bZ w B bS g n cap text lv ls work)(hx:w.heap[bX]?=some (.cells #[.pointer (some ⟨bS,0,none⟩)] 46 (0,0))):Calls Tryz.prog 31 #[.pointer (some ⟨bX,0,none⟩)] w λe w'=>e=.returned (.int .i64 work)/\w'=w:=by
 have c0:=aA hx;have c1:w.cell? ⟨bS,3,none⟩=some (.int .i64 work):=ai h.sh rfl;go_enter Tryz.func31,Tryz.ntmps31;go_wp2;go_ret;exact ⟨rfl,rfl⟩
theorem B4(h:bZ w B bS g n cap text lv ls work)(hx:w.heap[bX]?=some (.cells #[.pointer (some ⟨bS,0,none⟩)] 46 (0,0))):Calls Tryz.prog 23 #[.pointer (some ⟨bX,0,none⟩)] w λe w'=>e=.returned (.int .i64 ls.length)/\w'=w:=by
 have c0:=aA hx;obtain ⟨ao,c,hv⟩:=aC h.fU.row;subst hv;have c1:w.cell? ⟨bS,2,none⟩=some (.slice ao ls.length c):=ai h.sh rfl;go_enter Tryz.func23,Tryz.ntmps23;go_wp2;go_ret;exact ⟨rfl,rfl⟩
theorem oA(i:Int)(h:bZ w B bS g n cap text lv ls work)(hx:w.heap[bX]?=some (.cells #[.pointer (some ⟨bS,0,none⟩)] 46 (0,0))):Calls Tryz.prog 51 #[.pointer (some ⟨bX,0,none⟩),.int .i64 i] w λe w'=>e=.returned (.int .i64 (if 0<=i/\i<ls.length then 0 else 8))/\w'=w:=by
 have c0:=aA hx;obtain ⟨ao,c,hv⟩:=aC h.fU.row;subst hv;have c1:w.cell? ⟨bS,2,none⟩=some (.slice ao ls.length c):=ai h.sh rfl;by_cases h0:i<0
 ·have g0:decide (i<0)=true:=cF h0;rw[if_neg (by omega)];go_enter Tryz.func51,Tryz.ntmps51;go_wp2;go_ret;exact ⟨rfl,rfl⟩
 ·have g0:decide (i<0)=false:=bV h0;by_cases h1:i<ls.length
  ·have g1:decide ((ls.length:Int)<=i)=false:=bV (by omega);rw[if_pos (by omega)];go_enter Tryz.func51,Tryz.ntmps51;go_wp2;go_ret;exact ⟨rfl,rfl⟩
  ·have g1:decide ((ls.length:Int)<=i)=true:=cF (by omega);rw[if_neg (by omega)];go_enter Tryz.func51,Tryz.ntmps51;go_wp2;go_ret;exact ⟨rfl,rfl⟩
end
attribute [local go_sem] Oper.semAt_some
def QZ(J:Nat->World->Prop)(Jx:World->Prop)(n:Nat)(e:Ending)(W:World):Prop:=(∃v,e=.returned v)/\(J n W∨Jx W)
def H6(J:Nat->World->Prop)(n k:Nat)(vi:Value)(wr:World):Prop:=∃j:Nat,vi=.int .i64 j/\j+k=n/\J j wr
theorem B5(m bs l:Nat)(ao:Option Addr)(cp:Nat)(bh:List Sp)(J:Nat->World->Prop)(Jx:World->Prop)(w:World)(hn:bh.length<=1000000)(hb:w.heap[bs]?=some (.cells #[.slice ao bh.length cp] 64 (0,0)))
  (hJr:∀j A,J j A->∀(i:Nat) x,bh[i]?=some x->∃sg,ao=some ⟨sg,0,none⟩/\∀(y:Nat) c,x.cells[y]?=some c->A.cell? ⟨sg,i*5+y,none⟩=some c)
  (hJk:∀j A B,J j A->Below A.heap.size A B->J j B)
  (hY:∀(j:Nat) x A,bh[j]?=some x->J j A->YieldAt Fence.wide (m - 1) Tryz.prog l #[Sp.v x] A λe B=>(e=.returned (.bool true)/\J (j+1) B)∨(e=.returned (.bool false)/\Jx B)) (h0:J 0 w):
  CallsIn Fence.wide m Tryz.prog 107 #[.func (.yield l) #[] #[],.pointer (some ⟨bs,0,none⟩)] w (QZ J Jx bh.length):=by
 refine callsIn_wide.2 ?_;have b0:=aA hb;have HJR:=aa hJr;have HJK:=aa hJk;have HY:=aa hY;have H0:=aa h0;clear hJr hJk hY h0 hb;go_enter Tryz.func107,Tryz.ntmps107;go_wp2_with fail;go_loopg [7] bh.length (λk vi wr=>H6 J bh.length k vi wr)
 case atStart=>exact ⟨0,rfl,by omega,H0.out⟩
 case round=>
  obtain ⟨j,rfl,hj,hJ⟩:=hrel;by_cases hlt:j<bh.length
  ·have g1:decide ((j:Int)<(bh.length:Int))=true:=cF (by omega);obtain ⟨x,hx⟩:∃x,bh[j]?=some x:=⟨_,cB hlt⟩;obtain ⟨sg,hao,hc⟩:=HJR.out j wr hJ j x hx;subst hao;have d0:=hc 0 _ rfl;have d1:=hc 1 _ rfl;have d2:=hc 2 _ rfl;have d3:=hc 3 _ rfl;have d4:=hc 4 _ rfl;rw[Nat.add_zero]at d0
   have hwr:IntKind.i64.wrap ((j:Int)+1)=(j:Int)+1:=by rw[IntKind.wrap_i64];omega
   obtain ⟨w2,hw2⟩:∃w2,wr.alloc (.cells #[.int .i64 x.fr,.int .i64 x.to,.string x.nm,.int .i64 x.jL,.string x.co] 70)=w2:=⟨_,rfl⟩;have hb2:Below wr.heap.size wr w2:=by rw[<-hw2];exact cq _ _
   have EY:w2.heap[wr.heap.size]?=some (.cells #[.int .i64 x.fr,.int .i64 x.to,.string x.nm,.int .i64 x.jL,.string x.co] 70 (0,0)):=by rw[<-hw2];exact ag _ _
   obtain ⟨fn,tmps,assign,body,hy,hR⟩:=HY.out j x w2 hx (HJK.out j wr w2 hJ hb2);unfold Sp.v Qo at hy;have e0:w2.cell? ⟨wr.heap.size,0,none⟩=some (.int .i64 x.fr):=ai EY rfl;have e1:w2.cell? ⟨wr.heap.size,1,none⟩=some (.int .i64 x.to):=ai EY rfl;have e2:w2.cell? ⟨wr.heap.size,2,none⟩=some (.string x.nm):=ai EY rfl
   have e3:w2.cell? ⟨wr.heap.size,3,none⟩=some (.int .i64 x.jL):=ai EY rfl;have e4:w2.cell? ⟨wr.heap.size,4,none⟩=some (.string x.co):=ai EY rfl;have uJ:=aa hR;clear hR hc hb2 EY hx hJ;refine (wpIn_wide (n:=m)).1 ?_
   gi_wp2_with (refine cO rfl _ _ _ rfl _ #[.int .i64 x.fr,.int .i64 x.to,.string x.nm,.int .i64 x.jL,.string x.co] rfl rfl 70 _ (aD _ _ _ rfl) rfl rfl (by simp[Value.oneCell']) ?_;rw[et _ _ _ _ _ rfl]);refine ⟨λh=>(by cases h),uJ.out.mono ?_⟩;rintro e W' (⟨rfl,hj'⟩|⟨rfl,zI⟩)
   ·have HST:=aa (show H6 J bh.length (bh.length - (j+1)) (.int .i64 ((j:Int)+1)) W' from ⟨j+1,by simp,by omega,hj'⟩);clear hj' uJ hy;gi_wp2_with fail;go_roundg (bh.length - (j+1))
    case measure=>omega
    case rel=>exact HST.out
   ·have Mz:=aa zI;clear zI uJ hy;gi_wp2_with fail;go_end0;exact ⟨⟨_,rfl⟩,.inr Mz.out⟩
  ·have g1:decide ((j:Int)<(bh.length:Int))=false:=bV (by omega);obtain rfl:j=bh.length:=by omega
   have jV:=aa hJ;clear hJ;go_wp2_with fail;go_end0;exact ⟨⟨_,rfl⟩,.inl jV.out⟩
theorem Jp(v:Value)(hv:∃ao n c,v=.slice ao n c)(w:World):Calls Tryz.prog 79 #[v] w λe w'=>e=.returned (.func (.func 107) #[] #[.pointer (some ⟨w.heap.size,0,none⟩)])/\w'=w.alloc (.cells #[v] 64):=by
 obtain ⟨ao,n,c,rfl⟩:=hv;go_enter Tryz.func79,Tryz.ntmps79;go_wp2_with fail;go_ret;exact ⟨rfl,rfl⟩
structure Jq(w:World)(q:Nat)(rc:Loop)(v:Value)(pre:List Sp)(W:World):Prop where
 sv:W.heap[q]?=some (.cells #[v] 64 (0,0))
 uF:W.heap[q+1]?=some (.deferred (some []))
 iJ:W.heap[q+1+1]?=some (.loop rc)
 row:ck W (q+3) v pre
 lZ:Below q w W
 size:q+3<=W.heap.size
theorem Jq.below{W':World}(h:Jq w q rc v pre W)(hb:Below W.heap.size W W'):Jq w q rc v pre W':=
 ⟨(hb.block _ (ae h.sv)).trans h.sv,(hb.block _ (ae h.uF)).trans h.uF,(hb.block _ (ae h.iJ)).trans h.iJ,aI h.row λk hk=>by obtain ⟨_,c,hc⟩:=ar h.row hk;exact hb.block k (ae hc),h.lZ.trans (hb.mono (by have:=h.size;omega)),bJ h.size hb.size⟩
theorem Jq.zJ(h:Jq w q rc v pre W)(rb:Loop):Jq w q rb v pre (W.putObj (q+1+1) (.loop rb)):=by
 have ho:aM (λk=>k=q+1+1) W (W.putObj (q+1+1) (.loop rb)):=aM.putObj _ h.iJ rfl;have hs:=h.size
 exact ⟨ho.same h.sv (by omega),ho.same h.uF (by omega),World.putObj_heap_same (by omega),aI h.row λk hk=>by obtain ⟨a,c,hc⟩:=ar h.row hk;rw[hc];exact ho.same hc (by omega),h.lZ.trans ⟨ho.os,ho.tape,ho.output,ho.size,λk hk=>ho.keep k ⟨by omega,by omega⟩⟩,bJ hs ho.size⟩
theorem Jq.next{rb:Loop}(h:Jq w q rb v pre W)(hrow:W4.ownsRow (q+3) 70 5 v' (pre.length+1) (pre.flatMap Sp.cells++x.cells))(hg:(W.alloc o).grownBy W4 v.ownBlock):W4.heap[q]?=some (.cells #[v] 64 (0,0))/\Jq w q rb v' (pre++[x]) (W4.setCell ⟨q,0,none⟩ v'):=by
 have hs:=h.size;have hb:Below W.heap.size W (W.alloc o):=cq _ _;have h2:=h.below hb;have o1:aM (λk=>v.ownBlock=some k) (W.alloc o) W4:=aM.gY h2.row (by decide) hg;have hv:∀k,v.ownBlock=some k->q+3<=k:=λk hk=>(ar h2.row hk).1
 have hv':∀k,v'.ownBlock=some k->q+3<=k/\k<W4.heap.size:=λk hk=>by obtain ⟨a,c,hc⟩:=ar hrow hk;exact ⟨a,ae hc⟩
 have s4:=o1.same h2.sv (λe=>by have:=hv _ e;omega);have o2:aM (λk=>k=q) W4 (W4.setCell ⟨q,0,none⟩ v'):=aM.setCell (Y:=λk=>k=q) (p:=⟨q,0,none⟩) rfl s4 (by decide) _;have s5:=ah W4 q 0 v' s4
 refine ⟨s4,by simpa using s5,o2.same (o1.same h2.uF (λe=>by have:=hv _ e;omega)) (by omega),o2.same (o1.same h2.iJ (λe=>by have:=hv _ e;omega)) (by omega),ck.snoc (aI hrow λk hk=>o2.keep k ⟨(hv' k hk).2,by have:=(hv' k hk).1;omega⟩),h2.lZ.trans ⟨(o1.trans' o2).os,(o1.trans' o2).tape,(o1.trans' o2).output,(o1.trans' o2).size,λk hk=>(o1.trans' o2).keep k ⟨by have:=h2.size;omega,?_⟩⟩,bJ h2.size (o1.trans' o2).size⟩
 rintro (e|e)
 ·have:=hv _ e;omega
 ·omega
theorem ck.cells(h:ck w B (.slice ao bh.length cp) bh){i:Nat}(hx:bh[i]?=some x):∃sg,ao=some ⟨sg,0,none⟩/\sg<w.heap.size/\∀(y:Nat) c,x.cells[y]?=some c->w.cell? ⟨sg,i*5+y,none⟩=some c:=by
 obtain ⟨sg,c,hv⟩:=aB h (by have:=az hx;omega);cases hv;obtain ⟨_,cur,iu⟩:=ar h (k:=sg) rfl;refine ⟨sg,rfl,ae iu,λy c hy=>(bG h ?_).1⟩;have YB:y<5:=by have:=az hy;simpa [Sp.cells] using this
 rw[List.flatMap_def,kH (si:=5) (by intro r hr;obtain ⟨z,_,rfl⟩:=List.mem_map.1 hr;rfl) (r:=x.cells) (by rw[fX,hx];rfl) y YB];exact hy
theorem Jr{bs:Nat}(hq:q=w.heap.size)(hn:bh.length<=7000)(hb:w.heap[bs]?=some (.cells #[.slice ao bh.length cp] 64 (0,0)))(hr:ck w B (.slice ao bh.length cp) bh)(rc:LoopState->Option Code->Loop)(K:Ending->World->Prop)
  (fZ:∀(j:Nat) x v A,bh[j]?=some x->Jq w q (rc .ready none) v (bh.take j) A->YieldAt Fence.wide 7 Tryz.prog (q+1+1) #[Sp.v x] A λe C=>(e=.returned (.bool true)/\∃v',Jq w q (rc .ready none) v' (bh.take (j+1)) C)∨(e=.returned (.bool false)/\False))
  (hend:∀r W v,Jq w q (rc .ready none) v bh W->K (.returned r) W):
  CallsIn Fence.wide 8 Tryz.prog 107 #[.func (.yield (q+1+1)) #[] #[],.pointer (some ⟨bs,0,none⟩)] (((w.alloc (.cells #[.slice none 0 0] 64)).alloc (.deferred (some []))).alloc (.loop (rc .ready none))) K:=by
 refine (B5 8 bs (q+1+1) ao cp bh (λj W=>∃v,Jq w q (rc .ready none) v (bh.take j) W) (λ_=>False) _ (by omega) (af (af (af hb))) ?_ ?_ ?_ ?_).mono ?_
 ·rintro j A ⟨v,h⟩ i x hx;obtain ⟨sg,h1,h2,h3⟩:=hr.cells hx;exact ⟨sg,h1,λy c hy=>(World.cell?_of_block (h.lZ.block sg (by omega))).trans (h3 y c hy)⟩
 ·rintro j A B' ⟨v,h⟩ hb';exact ⟨v,h.below hb'⟩
 ·rintro j x A hx ⟨v,h⟩;exact fZ j x v A hx h
 ·refine ⟨.slice none 0 0,af (af (aD _ _ _ hq)),af (aD _ _ _ (by simp[hq])),aD _ _ _ (by simp[hq]),World.ownsRow_nil _ _ _ _,?_,by simp[hq]⟩;rw[hq];exact ma _ _ _ _
 ·rintro e W ⟨⟨r,rfl⟩,(⟨v,h⟩|h)⟩
  ·rw[List.take_length]at h;exact hend r W v h
  ·exact h.elim
def pT(bh:List Sp)(w:World)(e:Ending)(w':World):Prop:=∃v,e=.returned v/\ck w' w.heap.size v bh/\Below w.heap.size w w'
theorem xA(B bs:Nat)(v0:Value)(bh:List Sp)(w:World)(hn:bh.length<=7000)(hb:w.heap[bs]?=some (.cells #[v0] 64 (0,0)))(hr:ck w B v0 bh):
  Calls Tryz.prog 78 #[.slice none 0 0,.func (.func 107) #[] #[.pointer (some ⟨bs,0,none⟩)]] w (pT bh w):=by
 refine (callsIn_wide (n:=9)).1 (callsIn_of_wp_marks Tryz.func78 rfl trivial (wpIn_wide.2 ?_))
 simp only[Tryz.ntmps78,List.size_toArray,fe,List.length_nil,Nat.reduceAdd,Nat.reduceSub,Array.replicate_succ,Array.replicate_zero,List.push_toArray,List.append_toArray,List.nil_append,List.cons_append];obtain ⟨ao,cp,hv0⟩:=aC hr;subst hv0;obtain ⟨q,hq⟩:∃q,q=w.heap.size:=⟨_,rfl⟩;have HB:=aa hb;have HR:=aa hr
 clear hb hr;go_wp2_with fail;rw[<-hq];refine (wpIn_wide (n:=9)).1 (jy rfl (by decide) (gf:=107) (lb:=#[.pointer (some ⟨bs,0,none⟩)]) rfl trivial (enters_of Tryz.func107 (by kernel_rfl) rfl) ?_);intro fn hfn
 have hsz:(w.alloc (.cells #[.slice none 0 0] 64)).heap.size=q+1:=by rw[hq];simp
 rw[hsz];have HQ:=aa hq;clear hsz hq;refine Jr HQ.out hn HB.out HR.out (mb fn _ _ _ _ _) _ ?_ ?_
 ·intro j x v A hx hj;have HJ:=aa hj;refine gJ trivial hj.iJ rfl ?_;intro rb rc MA;rw[<-MA]at HJ ⊢;clear hj MA;unfold Sp.v Qo;gi_wp2_with (refine cO rfl _ _ _ rfl _ #[.int .i64 x.fr,.int .i64 x.to,.string x.nm,.int .i64 x.jL,.string x.co] rfl rfl 70 _ (aD _ _ _ rfl) rfl rfl (by simp[Value.oneCell']) ?_;rw[et _ _ _ _ _ rfl])
  have B6:=aa (HJ.out.below ((Below.refl _ _).alloc (o:=.cells #[.int .i64 x.fr,.int .i64 x.to,.string x.nm,.int .i64 x.jL,.string x.co] 70) (bc _)));refine ⟨B6.out.iJ,?_⟩;have hsp:=ag A (.cells #[.int .i64 x.fr,.int .i64 x.to,.string x.nm,.int .i64 x.jL,.string x.co] 70)
  have tQ:=(aM.putObj (Y:=λk=>k=q+1+1) (.loop rb) B6.out.iJ rfl).same hsp (by have:=HJ.out.size;omega);have jV:=aa (B6.out.zJ rb);obtain ⟨A2,rA⟩:∃A2,(A.alloc (.cells #[.int .i64 x.fr,.int .i64 x.to,.string x.nm,.int .i64 x.jL,.string x.co] 70)).putObj (q+1+1) (.loop rb)=A2:=⟨_,rfl⟩;rw[rA]at jV tQ ⊢;obtain ⟨sA,Js⟩:∃sA,sA=A.heap.size:=⟨_,rfl⟩
  rw[<-Js]at tQ ⊢;obtain ⟨n0,hi,hz0,hz1,hz3⟩:=info_parts fc;have c0:A2.cell? ⟨q,0,none⟩=some v:=aA jV.out.sv;have s0:A2.cell? ⟨sA,0,none⟩=some (.int .i64 x.fr):=ai tQ rfl;have s1:A2.cell? ⟨sA,1,none⟩=some (.int .i64 x.to):=ai tQ rfl;have s2:A2.cell? ⟨sA,2,none⟩=some (.string x.nm):=ai tQ rfl
  have s3:A2.cell? ⟨sA,3,none⟩=some (.int .i64 x.jL):=ai tQ rfl;have s4:A2.cell? ⟨sA,4,none⟩=some (.string x.co):=ai tQ rfl;have rB:(bh.take j).length=j:=by rw[List.length_take];have:=az hx;omega
  have Qp:j<=7000:=by have:=az hx;omega
  have bj:=aa (show (A2.alloc (.cells #[.int .i64 x.fr,.int .i64 x.to,.string x.nm,.int .i64 x.jL,.string x.co] 70)).ownsRow (q+3) 70 5 v j ((bh.take j).flatMap Sp.cells) from by
   have h:=(jV.out.below ((Below.refl _ _).alloc (o:=.cells #[.int .i64 x.fr,.int .i64 x.to,.string x.nm,.int .i64 x.jL,.string x.co] 70) (bc _))).row;unfold ck at h;rw[rB]at h;exact h)
  have ey:=aa (λ(y:Nat) u (h:([.int .i64 x.fr,.int .i64 x.to,.string x.nm,.int .i64 x.jL,.string x.co]:List Value)[y]?=some u)=>show (A2.alloc (.cells #[.int .i64 x.fr,.int .i64 x.to,.string x.nm,.int .i64 x.jL,.string x.co] 70)).cell? ((⟨A2.heap.size,0,none⟩:Addr).add y)=some u from aG A2 #[.int .i64 x.fr,.int .i64 x.to,.string x.nm,.int .i64 x.jL,.string x.co] _ y u h)
  have hbase:q+3<=(A2.alloc (.cells #[.int .i64 x.fr,.int .i64 x.to,.string x.nm,.int .i64 x.jL,.string x.co] 70)).heap.size:=by rw[World.size_alloc];have:=jV.out.size;omega
  have fk:=aa (λ(v':Value) (W4:World) (hrow:W4.ownsRow (q+3) 70 5 v' (j+1) ((bh.take j).flatMap Sp.cells++[.int .i64 x.fr,.int .i64 x.to,.string x.nm,.int .i64 x.jL,.string x.co])) (hg:(A2.alloc (.cells #[.int .i64 x.fr,.int .i64 x.to,.string x.nm,.int .i64 x.jL,.string x.co] 70)).grownBy W4 v.ownBlock)=>jV.out.next (x:=x) (v':=v') (W4:=W4) (by rw[rB];exact hrow) hg)
  have iP:bh.take (j+1)=bh.take j++[x]:=by rw[List.take_add_one,hx];rfl
  have HX:=aa hx;clear hsp tQ rA Js hx
  gi_wp2_with (refine wpListIn_append_own_at _ rfl (.tmp 8) (.tmp 10) 64 rfl (q+3) 70 n0 (.agg #[.int .i64 0,.int .i64 0,.string ⟨#[]⟩,.int .i64 0,.string ⟨#[]⟩]) 5 56 Tryz.underlying64 hi hz0 hz1 hz3 rfl (by decide) v j ((bh.take j).flatMap Sp.cells) (by rfl) bj.out ⟨A2.heap.size,0,none⟩ 1 1 [.int .i64 x.fr,.int .i64 x.to,.string x.nm,.int .i64 x.jL,.string x.co] (by rfl) rfl ey.out (by simp[Value.oneCell']) (by unfold maxLen;omega) (by omega) hbase ?_;intro v' W4 hown hg _ _;obtain ⟨Xw,Ty⟩:=fk.out v' W4 hown hg;have Qq:=aa Ty;obtain ⟨g',cap',rfl⟩:=aB hown (by omega);have z0:=aA Xw;have z0f:W4.frozen? ⟨q,0,none⟩=false:=(by simp[World.frozen?,Xw]);clear hown hg Ty Xw fk bj ey)
  exact ⟨Qq.out.iJ,.inl ⟨rfl,_,by rw[iP];exact Qq.out.zJ _⟩⟩
 ·intro r W v hj;refine ⟨⟨r,rfl⟩,.inl ⟨hj.iJ,λro=>?_⟩⟩;have ez:=hj.zJ ro;obtain ⟨W9,EZ⟩:∃W9,W.putObj (q+1+1) (.loop ro)=W9:=⟨_,rfl⟩;rw[EZ]at ez ⊢;have c9:W9.cell? ⟨q,0,none⟩=some v:=aA ez.sv;have UW:=aa ez.uF
  have pU:=aa (show pT bh w (.returned v) (W9.putObj (q+1) (.deferred none)) from by
   have ho:aM (λk=>k=q+1) W9 (W9.putObj (q+1) (.deferred none)):=aM.uo _ ez.uF (λ_ _ _ h=>by cases h) rfl;refine ⟨v,rfl,?_,?_⟩
   ·rw[<-HQ.out];refine dB (aI ez.row λk hk=>?_) (by omega);obtain ⟨a,c,hc⟩:=ar ez.row hk;rw[hc];exact ho.same hc (by omega)
   ·rw[<-HQ.out];exact ez.lZ.trans ⟨ho.os,ho.tape,ho.output,ho.size,λk hk=>ho.keep k ⟨by have:=ez.size;omega,by omega⟩⟩)
  obtain ⟨xz,vc,zK⟩:=aC ez.row;subst zK;clear hj ez EZ;dsimp only;go_wp2_with fail;refine ⟨by simp,.inl ⟨_,_,rfl,run_takeDeferred UW.out,?_⟩⟩;exact ⟨_,(by simp[results,Tryz.results78,go_sem]),pU.out⟩
theorem B8(B bs:Nat)(v0:Value)(bh:List Sp)(w:World)(hn:bh.length<=7000)(hb:w.heap[bs]?=some (.cells #[v0] 64 (0,0)))(hr:ck w B v0 bh):
  Calls Tryz.prog 52 #[.func (.func 107) #[] #[.pointer (some ⟨bs,0,none⟩)]] w (pT bh w):=by
 have HA:=aa (xA B bs v0 bh w hn hb hr);go_enter Tryz.func52,Tryz.ntmps52;go_wp2_with fail;refine HA.out.mono ?_;rintro e w1 ⟨v,rfl,h1,h2⟩;have HE:=aa (show pT bh w (.returned v) w1 from ⟨v,rfl,h1,h2⟩);obtain ⟨xz,vc,hv⟩:=aC h1;subst hv;clear h1 h2 HA;go_wp2_with fail;go_ret;exact HE.out
def jW(w:World)(B:Nat)(v:Value)(dx:List ByteArray):Prop:=w.ownsRow B 9 1 v dx.length (dx.map Value.string)
theorem rC:(Tryz.prog.info? 9).map (λi=>(i.zero,i.size,i.bytes))=some (some (.string ⟨#[]⟩),1,16):=by kernel_rfl
def nA(dx:List ByteArray)(w:World)(e:Ending)(w':World):Prop:=∃v,e=.returned v/\jW w' w.heap.size v dx/\Below w.heap.size w w'
def fC(G:List GS)(st:List Nat):List ByteArray:=st.map λi=>((G[i]?).map GS.nm).getD ⟨#[]⟩
def MB(G:List GS)(st:List Nat)(w W0:World)(k:Nat)(vn vi:Value)(wr:World):Prop:=
 ∃(j:Nat) (ao:Option Addr) (c:Nat),vi=.int .i64 j/\vn=.slice ao j c/\j+k=st.length/\jW wr W0.heap.size (.slice ao j c) (fC G (st.take j))/\Below W0.heap.size W0 wr/\w.heap.size<=W0.heap.size
theorem Jt(g n cap:Nat)(G:List GS)(st:List Nat)(cE:Good G st)(w:World)(hG:cd w g n cap G):
  Calls Tryz.prog 80 #[lV st,.slice (some ⟨g,0,none⟩) n cap] w (nA (fC G st) w):=by
 obtain ⟨a0,a1,a2,a3,a4,a5,a6,a7,a8,hst⟩:=nine cE.1.2;have h8:=dV cE.1.2;rw[hst]at h8;have ha8:a8=st.length:=by simp at h8;omega
 unfold lV;rw[hst,ha8];obtain ⟨W0,hW0⟩:∃W0,w.alloc (.cells #[.int .i64 a0,.int .i64 a1,.int .i64 a2,.int .i64 a3,.int .i64 a4,.int .i64 a5,.int .i64 a6,.int .i64 a7,.int .i64 st.length] 138)=W0:=⟨_,rfl⟩;have pV:W0.heap[w.heap.size]?=some (.cells (aL st).toArray 138 (0,0)):=by rw[<-hW0,hst,ha8];exact ag _ _
 have hb0:Below w.heap.size w W0:=by rw[<-hW0];exact cq _ _
 have c8:W0.cell? ⟨w.heap.size,8,none⟩=some (.int .i64 st.length):=ai pV (by rw[List.getElem?_toArray];exact dV cE.1.2);have HG:=aa hG;have Q0:=aa pV;have gZ:=aa hb0;have adm:=cE.1.2;obtain ⟨n0,hi,hz0,hz1,hz3⟩:=info_parts rC;have xB:Tryz.prog.arrayLen 136=8:=by kernel_rfl
 have iF:(st.length:Int)<=(Tryz.prog.arrayLen 136 : Int):=by rw[xB];omega
 have Ew:(Instr.sliceAt 136 (.pointer (some ⟨w.heap.size,0,none⟩)) none (some (.int .i64 st.length)) none).run Tryz.prog W0=.ok (.slice (some ⟨w.heap.size,0,none⟩) st.length 8) W0:=by rw[run_sliceAt_array_h W0 136 _ (by kernel_rfl) .i64 _ (by omega) iF,xB];simp[slicedAt,go_sem,Addr.add]
 clear hst h8 ha8 pV hb0 hG iF xB;go_enter Tryz.func80,Tryz.ntmps80;go_wp2_with fail;obtain ⟨q,hq⟩:∃q,q=w.heap.size:=⟨_,rfl⟩;rw[<-hq];rw[<-hq]at Q0;have HQ:=aa hq;clear Ew c8 hq hW0;go_loopg [5,13] st.length (λk vn vi wr=>MB G st w W0 k vn vi wr)
 case atStart=>exact ⟨0,none,0,rfl,rfl,by omega,World.ownsRow_nil _ _ _ _,Below.refl _ _,gZ.out.size⟩
 case round=>
  obtain ⟨j,xz,vc,rfl,rfl,hj,hrow,hb,hsz⟩:=hrel;by_cases hlt:j<st.length
  ·have g1:decide ((j:Int)<(st.length:Int))=true:=cF (by omega);obtain ⟨i,nZ⟩:∃i,st[j]?=some i:=⟨_,cB hlt⟩;have hiG:i<G.length:=cE.2 i (bn nZ);obtain ⟨s,hs⟩:∃s,G[i]?=some s:=⟨_,cB hiG⟩;have LV:=HG.out.below (gZ.out.trans (hb.mono hsz));have kA:i<n:=by rw[LV.len];exact hiG
   have n1:=(LV.at_ i s hs).1;have s1:wr.cell? ⟨q,j,none⟩=some (.int .i64 i):=ai ((hb.block _ (ae Q0.out)).trans Q0.out) (by rw[List.getElem?_toArray];exact jz nZ);have hwr:IntKind.i64.wrap ((j:Int)+1)=(j:Int)+1:=by rw[IntKind.wrap_i64];omega
   have MC:(fC G (st.take j)).length=j:=by unfold fC;rw[fy,List.length_take];omega
   have iP:fC G (st.take (j+1))=fC G (st.take j)++[s.nm]:=by unfold fC;rw[List.take_add_one,nZ];simp[hs]
   have bj:=aa (show (wr.alloc (.cells #[.string s.nm] 9)).ownsRow W0.heap.size 9 1 (.slice xz j vc) j ((fC G (st.take j)).map Value.string) from by unfold jW at hrow;rw[MC]at hrow;exact aI hrow λk hk=>(cq _ _).block k (by obtain ⟨_,c,hc⟩:=ar hrow hk;exact ae hc))
   have ey:=aa (λ(y:Nat) u (h:([.string s.nm]:List Value)[y]?=some u)=>show (wr.alloc (.cells #[.string s.nm] 9)).cell? ((⟨wr.heap.size,0,none⟩:Addr).add y)=some u from aG wr #[.string s.nm] _ y u h);have hbase:W0.heap.size<=(wr.alloc (.cells #[.string s.nm] 9)).heap.size:=by rw[World.size_alloc];have:=hb.size;omega
   have fk:=aa (λ(v':Value) (W4:World) (hr:W4.ownsRow W0.heap.size 9 1 v' (j+1) ((fC G (st.take j)).map Value.string++[.string s.nm])) (hg:(wr.alloc (.cells #[.string s.nm] 9)).grownBy W4 (Value.slice xz j vc).ownBlock)=>show MB G st w W0 (st.length - (j+1)) v' (.int .i64 ((j:Int)+1)) W4 from by
    obtain ⟨ao2,c2,hv2⟩:=aC hr;subst hv2;refine ⟨j+1,ao2,c2,by simp,rfl,by omega,?_,?_,hsz⟩
    ·unfold jW;rw[iP,dG,MC,List.map_append];exact hr
    ·have hb2:Below W0.heap.size W0 (wr.alloc (.cells #[.string s.nm] 9)):=hb.alloc hb.size _;exact hb2.trans (eR hb2.size hg λk hk=>(ar bj.out hk).1))
   clear hrow hb LV nZ hs iP
   go_wp2_with (at_builtin;go_loud (refine wpList_append_own_at _ rfl (.tmp 17) (.tmp 23) 61 rfl W0.heap.size 9 n0 (.string ⟨#[]⟩) 1 16 Tryz.underlying61 hi hz0 hz1 hz3 rfl (by decide) (.slice xz j vc) j ((fC G (st.take j)).map Value.string) (by rfl) bj.out ⟨wr.heap.size,0,none⟩ 1 1 [.string s.nm] (by rfl) rfl ey.out (by simp[Value.oneCell']) (by unfold maxLen;omega) (by omega) hbase ?_;intro v' W4 hown hg _ _;have HST:=aa (fk.out v' W4 hown hg);obtain ⟨g',cap',rfl⟩:=aB hown (by omega);clear hown hg fk bj ey))
   go_wp2_with fail;go_roundg (st.length - (j+1))
   case measure=>omega
   case rel=>exact HST.out
  ·have g1:decide ((j:Int)<(st.length:Int))=false:=bV (by omega);obtain rfl:j=st.length:=by omega
   have aq:=aa (show nA (fC G st) w (.returned (.slice xz st.length vc)) wr from ⟨_,rfl,by rw[List.take_length]at hrow;exact dB hrow hsz,gZ.out.trans (hb.mono hsz)⟩);clear hrow hb;go_wp2_with fail;go_ret;exact aq.out
def uK(T:List UInt8)(w:World)(e:Ending)(w':World):Prop:=∃v dx,e=.returned v/\jW w' w.heap.size v dx/\dx.map (·.data.toList)=aF T/\Below w.heap.size w w'
def E0(s:ByteArray)(w:World)(k:Nat)(vl va vi:Value)(wr:World):Prop:=
 ∃(a i:Nat) (dx:List ByteArray) (ao:Option Addr) (c:Nat),vl=.slice ao dx.length c/\va=.int .i64 a/\vi=.int .i64 i/\i+k=s.size/\a<=i/\jW wr w.heap.size (.slice ao dx.length c) dx/\dx.length<=i/\dx.map (·.data.toList)++aF (rest s a)=aF s.data.toList/\(∀m,a<=m->m<i->s.data.toList[m]?≠some 10)/\Below w.heap.size w wr
theorem jW.snoc{dx:List ByteArray}{x:ByteArray}(h:jW W w.heap.size v dx)(hb:Below w.heap.size w W)(hr:W4.ownsRow w.heap.size 9 1 v' (dx.length+1) (dx.map Value.string++[.string x]))(hg:(W.alloc o).grownBy W4 v.ownBlock):jW W4 w.heap.size v' (dx++[x])/\Below w.heap.size w W4:=by
 refine ⟨?_,?_⟩
 ·unfold jW;rw[dG,List.map_append];exact hr
 ·have hb2:Below w.heap.size w (W.alloc o):=hb.alloc hb.size _;exact hb2.trans (eR hb2.size hg λk hk=>(ar h hk).1)
theorem zL(s:ByteArray)(w:World)(hz:s.size<=3000):Calls Tryz.prog 63 #[.string s] w (uK s.data.toList w):=by
 obtain ⟨i0,uL,hz0,hz1,hz3⟩:=info_parts rC;go_enter Tryz.func63,Tryz.ntmps63;go_wp2_with fail;go_loopg [3,4,5] s.size (λk vl va vi wr=>E0 s w k vl va vi wr)
 case atStart=>exact ⟨0,0,[],none,0,rfl,rfl,rfl,by omega,bc _,World.ownsRow_nil _ _ _ _,bc _,by simp[rest],λm h1 h2=>by omega,Below.refl _ _⟩
 case round=>
  obtain ⟨a,i,dx,ao,c,rfl,rfl,rfl,hk,hai,hrow,fO,MD,YC,hb⟩:=hrel;have Tz:=aa hrow;have YD:=aa MD;have HNT:=aa YC;have HBx:=aa hb;by_cases hlt:i<s.size
  ·have g1:decide ((i:Int)<(s.size:Int))=true:=cF (by omega);have hwr:IntKind.i64.wrap ((i:Int)+1)=(i:Int)+1:=by rw[IntKind.wrap_i64];omega
   by_cases h10:s[i]=10
   ·have q1:(((s[i].toNat:Nat):Int)==10)=true:=by rw[h10];rfl
    have Ex:=aa (show rest s a=(s.extract a i).data.toList++10::rest s (i+1) by rw[eT hai,bE hlt,h10]);have rD:=aa (zM HNT.out);have abE:(a:Int)<=(i:Int):=by omega
    have adn:(i:Int)<=(s.size:Int):=by omega
    have bj:=aa (show (wr.alloc (.cells #[.string (s.extract a i)] 9)).ownsRow w.heap.size 9 1 (.slice ao dx.length c) dx.length (dx.map Value.string) from aI hrow λk hk=>by obtain ⟨_,c,hc⟩:=ar hrow hk;exact (cq _ _).block k (ae hc))
    have ey:=aa (λ(y:Nat) u (h:([.string (s.extract a i)]:List Value)[y]?=some u)=>show (wr.alloc (.cells #[.string (s.extract a i)] 9)).cell? ((⟨wr.heap.size,0,none⟩:Addr).add y)=some u from aG wr #[.string (s.extract a i)] _ y u h);have hbase:w.heap.size<=(wr.alloc (.cells #[.string (s.extract a i)] 9)).heap.size:=by rw[World.size_alloc];have:=hb.size;omega
    have fk:=aa (λ(v':Value) (W4:World) (hr:W4.ownsRow w.heap.size 9 1 v' (dx.length+1) (dx.map Value.string++[.string (s.extract a i)])) (hg:(wr.alloc (.cells #[.string (s.extract a i)] 9)).grownBy W4 (Value.slice ao dx.length c).ownBlock)=>show E0 s w (s.size - (i+1)) v' (.int .i64 ((i:Int)+1)) (.int .i64 ((i:Int)+1)) W4 from by
     obtain ⟨a1,a2⟩:=Tz.out.snoc HBx.out hr hg;obtain ⟨pW,c',hv'⟩:=aC hr;subst hv';have hl:(dx++[s.extract a i]).length=dx.length+1:=by simp
     refine ⟨i+1,i+1,dx++[s.extract a i],pW,c',by rw[hl],by simp,by simp,by omega,bc _,by rw[hl];exact a1,by rw[hl];omega,?_,λm h1 h2=>by omega,a2⟩;rw[<-YD.out,Ex.out,uM rD.out];simp)
    clear hrow MD YC hb h10
    go_wp2_with (at_builtin;go_loud (refine wpList_append_own_at _ rfl (.tmp 16) (.tmp 21) 61 rfl w.heap.size 9 i0 (.string ⟨#[]⟩) 1 16 Tryz.underlying61 uL hz0 hz1 hz3 rfl (by decide) (.slice ao dx.length c) dx.length (dx.map Value.string) (by rfl) bj.out ⟨wr.heap.size,0,none⟩ 1 1 [.string (s.extract a i)] (by rfl) rfl ey.out (by simp[Value.oneCell']) (by unfold maxLen;omega) (by omega) hbase ?_;intro v' W4 hown hg _ _;have HST:=aa (fk.out v' W4 hown hg);obtain ⟨g',cap',rfl⟩:=aB hown (by omega);clear hown hg fk bj ey))
    go_wp2_with fail;go_roundg (s.size - (i+1))
    case measure=>omega
    case rel=>exact HST.out
   ·have q1:(((s[i].toNat:Nat):Int)==10)=false:=by rw[er];intro e;exact h10 (UInt8.toNat_inj.1 (by show s[i].toNat=10;omega))
    have HST:=aa (show E0 s w (s.size - (i+1)) (.slice ao dx.length c) (.int .i64 a) (.int .i64 ((i:Int)+1)) wr from ⟨a,i+1,dx,ao,c,rfl,rfl,by simp,by omega,by omega,hrow,by omega,MD,λm h1 h2=>by
     rcases ed m i with h3|h3
     ·exact YC m h1 h3
     ·obtain rfl:m=i:=by omega
      intro e;apply h10;have h4:s.data.toList[m]?=some s[m]:=by rw[cB (by simpa using hlt)];rfl
      rw[h4]at e;exact Option.some.inj e,hb⟩)
    clear hrow MD YC hb h10;go_wp2_with fail;go_roundg (s.size - (i+1))
    case measure=>omega
    case rel=>exact HST.out
  ·have g1:decide ((i:Int)<(s.size:Int))=false:=bV (by omega);obtain rfl:i=s.size:=by omega
   have abE:(a:Int)<=(s.size:Int):=by omega
   have bj:=aa (show (wr.alloc (.cells #[.string (s.extract a s.size)] 9)).ownsRow w.heap.size 9 1 (.slice ao dx.length c) dx.length (dx.map Value.string) from aI hrow λk hk=>by obtain ⟨_,c,hc⟩:=ar hrow hk;exact (cq _ _).block k (ae hc))
   have ey:=aa (λ(y:Nat) u (h:([.string (s.extract a s.size)]:List Value)[y]?=some u)=>show (wr.alloc (.cells #[.string (s.extract a s.size)] 9)).cell? ((⟨wr.heap.size,0,none⟩:Addr).add y)=some u from aG wr #[.string (s.extract a s.size)] _ y u h)
   have hbase:w.heap.size<=(wr.alloc (.cells #[.string (s.extract a s.size)] 9)).heap.size:=by rw[World.size_alloc];have:=hb.size;omega
   have fk:=aa (λ(v':Value) (W4:World) (hr:W4.ownsRow w.heap.size 9 1 v' (dx.length+1) (dx.map Value.string++[.string (s.extract a s.size)])) (hg:(wr.alloc (.cells #[.string (s.extract a s.size)] 9)).grownBy W4 (Value.slice ao dx.length c).ownBlock)=>show uK s.data.toList w (.returned v') W4 from by
    obtain ⟨a1,a2⟩:=Tz.out.snoc HBx.out hr hg;refine ⟨v',_,rfl,a1,?_,a2⟩;have he:=dn (s:=s) (i:=a) (bc s.size);have Ju:=zM HNT.out;rw[he]at Ju;rw[<-YD.out,uN Ju,List.map_append,<-he];rfl)
   clear hrow MD YC hb
   go_wp2_with (at_builtin;go_loud (refine wpList_append_own_at _ rfl (.tmp 25) (.tmp 29) 61 rfl w.heap.size 9 i0 (.string ⟨#[]⟩) 1 16 Tryz.underlying61 uL hz0 hz1 hz3 rfl (by decide) (.slice ao dx.length c) dx.length (dx.map Value.string) (by rfl) bj.out ⟨wr.heap.size,0,none⟩ 1 1 [.string (s.extract a s.size)] (by rfl) rfl ey.out (by simp[Value.oneCell']) (by unfold maxLen;omega) (by omega) hbase ?_;intro v' W4 hown hg _ _;have aq:=aa (fk.out v' W4 hown hg);obtain ⟨g',cap',rfl⟩:=aB hown (by omega);clear hown hg fk bj ey))
   go_wp2_with fail;go_ret;exact aq.out
end Go.Proofs.YtgncgdkpkkdaeaaGreatDoor
