import Derived.Test.YtgncgdkpkkdaeaaGreatDoorM2
import Derived.Test.YtgncgdkpkkdaeaaGreatDoorMVG
namespace Go.Proofs.YtgncgdkpkkdaeaaGreatDoor
open Go.RowKit aO Go.Maps Go.Shelf
variable {pre bc:List Sp} {rc:Loop} {B cp q:Nat} {o:Obj} {ao:Option Addr} {x:Sp} {v v':Value} {W W4 w:World}
attribute [local go_sem] Oper.semAt_some
def Qd(J:Nat->World->Prop)(Jx:World->Prop)(n:Nat)(e:Ending)(W:World):Prop:=(∃v,e=.returned v)/\(J n W∨Jx W)
def GC(J:Nat->World->Prop)(n k:Nat)(vi:Value)(wr:World):Prop:=∃j:Nat,vi=.int .i64 j/\j+k=n/\J j wr
set_option maxRecDepth 20000 in
set_option maxHeartbeats 2000000 in
theorem Bb(m bs l:Nat)(ao:Option Addr)(cp:Nat)(bc:List Sp)(J:Nat->World->Prop)(Jx:World->Prop)(w:World)(hn:bc.length<=1000000)(hb:w.heap[bs]?=some (.cells #[.slice ao bc.length cp] 64 (0,0)))
  (hJr:∀j A,J j A->∀(i:Nat) x,bc[i]?=some x->∃sg,ao=some ⟨sg,0,none⟩/\∀(y:Nat) c,x.cells[y]?=some c->A.cell? ⟨sg,i*5+y,none⟩=some c)
  (hJk:∀j A B,J j A->Below A.heap.size A B->J j B)
  (hY:∀(j:Nat) x A,bc[j]?=some x->J j A->YieldAt Fence.wide (m - 1) Tryz.prog l #[Sp.v x] A λe B=>(e=.returned (.bool true)/\J (j+1) B)∨(e=.returned (.bool false)/\Jx B)) (h0:J 0 w):
  CallsIn Fence.wide m Tryz.prog 107 #[.func (.yield l) #[] #[],.pointer (some ⟨bs,0,none⟩)] w (Qd J Jx bc.length):=by
 refine callsIn_wide.2 ?_;have b0:=ay hb;have HJR:=aa hJr;have HJK:=aa hJk;have HY:=aa hY;have H0:=aa h0;clear hJr hJk hY h0 hb;go_enter Tryz.func107,Tryz.ntmps107;go_wp2_with fail;go_loopg [7] bc.length (λk vi wr=>GC J bc.length k vi wr)
 case atStart=>exact ⟨0,rfl,by omega,H0.out⟩
 case round=>
  obtain ⟨j,rfl,hj,hJ⟩:=hrel;by_cases hlt:j<bc.length
  ·have g1:decide ((j:Int)<(bc.length:Int))=true:=decide_eq_true (by omega);obtain ⟨x,hx⟩:∃x,bc[j]?=some x:=⟨_,List.getElem?_eq_getElem hlt⟩;obtain ⟨sg,hao,hc⟩:=HJR.out j wr hJ j x hx;subst hao;have d0:=hc 0 _ rfl;have d1:=hc 1 _ rfl;have d2:=hc 2 _ rfl;have d3:=hc 3 _ rfl;have d4:=hc 4 _ rfl;rw[Nat.add_zero]at d0
   have hwr:IntKind.i64.wrap ((j:Int)+1)=(j:Int)+1:=by rw[IntKind.wrap_i64];omega
   obtain ⟨w2,hw2⟩:∃w2,wr.alloc (.cells #[.int .i64 x.fr,.int .i64 x.to,.string x.nm,.int .i64 x.jr,.string x.co] 70)=w2:=⟨_,rfl⟩;have hb2:Below wr.heap.size wr w2:=by rw[<-hw2];exact (Below.refl _ _).alloc (Nat.le_refl _) _
   have Ed:w2.heap[wr.heap.size]?=some (.cells #[.int .i64 x.fr,.int .i64 x.to,.string x.nm,.int .i64 x.jr,.string x.co] 70 (0,0)):=by rw[<-hw2];exact af _ _
   obtain ⟨fn,tmps,assign,body,hy,hR⟩:=HY.out j x w2 hx (HJK.out j wr w2 hJ hb2);unfold Sp.v Pv at hy;have e0:w2.cell? ⟨wr.heap.size,0,none⟩=some (.int .i64 x.fr):=ag Ed rfl;have e1:w2.cell? ⟨wr.heap.size,1,none⟩=some (.int .i64 x.to):=ag Ed rfl;have e2:w2.cell? ⟨wr.heap.size,2,none⟩=some (.string x.nm):=ag Ed rfl
   have e3:w2.cell? ⟨wr.heap.size,3,none⟩=some (.int .i64 x.jr):=ag Ed rfl;have e4:w2.cell? ⟨wr.heap.size,4,none⟩=some (.string x.co):=ag Ed rfl;have tV:=aa hR;clear hR hc hb2 Ed hx hJ;refine (wpIn_wide (n:=m)).1 ?_
   gi_wp2_with (refine cE rfl _ _ _ rfl _ #[.int .i64 x.fr,.int .i64 x.to,.string x.nm,.int .i64 x.jr,.string x.co] rfl rfl 70 _ (aA _ _ _ rfl) rfl rfl (by simp[Value.oneCell']) ?_;rw[dV _ _ _ _ _ rfl]);refine ⟨λh=>(by cases h),tV.out.mono ?_⟩;rintro e W' (⟨rfl,hj'⟩|⟨rfl,yO⟩)
   ·have HST:=aa (show GC J bc.length (bc.length - (j+1)) (.int .i64 ((j:Int)+1)) W' from ⟨j+1,by simp,by omega,hj'⟩);clear hj' tV hy;gi_wp2_with fail;go_roundg (bc.length - (j+1))
    case measure=>omega
    case rel=>exact HST.out
   ·have LL:=aa yO;clear yO tV hy;gi_wp2_with fail;go_end0;exact ⟨⟨_,rfl⟩,.inr LL.out⟩
  ·have g1:decide ((j:Int)<(bc.length:Int))=false:=decide_eq_false (by omega);obtain rfl:j=bc.length:=by omega
   have jD:=aa hJ;clear hJ;go_wp2_with fail;go_end0;exact ⟨⟨_,rfl⟩,.inl jD.out⟩
theorem IA(v:Value)(hv:∃ao n c,v=.slice ao n c)(w:World):Calls Tryz.prog 79 #[v] w λe w'=>e=.returned (.func (.func 107) #[] #[.pointer (some ⟨w.heap.size,0,none⟩)])/\w'=w.alloc (.cells #[v] 64):=by
 obtain ⟨ao,n,c,rfl⟩:=hv;go_enter Tryz.func79,Tryz.ntmps79;go_wp2_with fail;go_ret;exact ⟨rfl,rfl⟩
structure IB(w:World)(q:Nat)(rc:Loop)(v:Value)(pre:List Sp)(W:World):Prop where
 sv:W.heap[q]?=some (.cells #[v] 64 (0,0))
 tR:W.heap[q+1]?=some (.deferred (some []))
 ij:W.heap[q+1+1]?=some (.loop rc)
 row:bV W (q+3) v pre
 lh:Below q w W
 size:q+3<=W.heap.size
theorem IB.below{W':World}(h:IB w q rc v pre W)(hb:Below W.heap.size W W'):IB w q rc v pre W':=
 ⟨(hb.block _ (ae h.sv)).trans h.sv,(hb.block _ (ae h.tR)).trans h.tR,(hb.block _ (ae h.ij)).trans h.ij,aG h.row λk hk=>by obtain ⟨_,c,hc⟩:=aj h.row hk;exact hb.block k (ae hc),h.lh.trans (hb.mono (by have:=h.size;omega)),Nat.le_trans h.size hb.size⟩
theorem IB.yP(h:IB w q rc v pre W)(rb:Loop):IB w q rb v pre (W.putObj (q+1+1) (.loop rb)):=by
 have ho:aK (λk=>k=q+1+1) W (W.putObj (q+1+1) (.loop rb)):=aK.putObj _ h.ij rfl;have hs:=h.size
 exact ⟨ho.same h.sv (by omega),ho.same h.tR (by omega),World.putObj_heap_same (by omega),aG h.row λk hk=>by obtain ⟨a,c,hc⟩:=aj h.row hk;rw[hc];exact ho.same hc (by omega),h.lh.trans ⟨ho.os,ho.tape,ho.output,ho.size,λk hk=>ho.keep k ⟨by omega,by omega⟩⟩,Nat.le_trans hs ho.size⟩
theorem IB.next{rb:Loop}(h:IB w q rb v pre W)(hrow:W4.ownsRow (q+3) 70 5 v' (pre.length+1) (pre.flatMap Sp.cells++x.cells))(hg:(W.alloc o).grownBy W4 v.ownBlock):W4.heap[q]?=some (.cells #[v] 64 (0,0))/\IB w q rb v' (pre++[x]) (W4.setCell ⟨q,0,none⟩ v'):=by
 have hs:=h.size;have hb:Below W.heap.size W (W.alloc o):=(Below.refl _ _).alloc (Nat.le_refl _) _;have h2:=h.below hb;have o1:aK (λk=>v.ownBlock=some k) (W.alloc o) W4:=aK.gA h2.row (by decide) hg;have hv:∀k,v.ownBlock=some k->q+3<=k:=λk hk=>(aj h2.row hk).1
 have hv':∀k,v'.ownBlock=some k->q+3<=k/\k<W4.heap.size:=λk hk=>by obtain ⟨a,c,hc⟩:=aj hrow hk;exact ⟨a,ae hc⟩
 have s4:=o1.same h2.sv (λe=>by have:=hv _ e;omega);have o2:aK (λk=>k=q) W4 (W4.setCell ⟨q,0,none⟩ v'):=aK.setCell (Y:=λk=>k=q) (p:=⟨q,0,none⟩) rfl s4 (by decide) _;have s5:=heap_setCell_same W4 q 0 v' s4
 refine ⟨s4,by simpa using s5,o2.same (o1.same h2.tR (λe=>by have:=hv _ e;omega)) (by omega),o2.same (o1.same h2.ij (λe=>by have:=hv _ e;omega)) (by omega),bV.snoc (aG hrow λk hk=>o2.keep k ⟨(hv' k hk).2,by have:=(hv' k hk).1;omega⟩),h2.lh.trans ⟨(o1.trans' o2).os,(o1.trans' o2).tape,(o1.trans' o2).output,(o1.trans' o2).size,λk hk=>(o1.trans' o2).keep k ⟨by have:=h2.size;omega,?_⟩⟩,Nat.le_trans h2.size (o1.trans' o2).size⟩
 rintro (e|e)
 ·have:=hv _ e;omega
 ·omega
theorem bV.cells(h:bV w B (.slice ao bc.length cp) bc){i:Nat}(hx:bc[i]?=some x):∃sg,ao=some ⟨sg,0,none⟩/\sg<w.heap.size/\∀(y:Nat) c,x.cells[y]?=some c->w.cell? ⟨sg,i*5+y,none⟩=some c:=by
 obtain ⟨sg,c,hv⟩:=az h (by have:=aw hx;omega);cases hv;obtain ⟨_,cur,gO⟩:=aj h (k:=sg) rfl;refine ⟨sg,rfl,ae gO,λy c hy=>(bG h ?_).1⟩;have XQ:y<5:=by have:=aw hy;simpa [Sp.cells] using this
 rw[List.flatMap_def,j5 (si:=5) (by intro r hr;obtain ⟨z,_,rfl⟩:=List.mem_map.1 hr;rfl) (r:=x.cells) (by rw[List.getElem?_map,hx];rfl) y XQ];exact hy
theorem IC{bs:Nat}(hq:q=w.heap.size)(hn:bc.length<=7000)(hb:w.heap[bs]?=some (.cells #[.slice ao bc.length cp] 64 (0,0)))(hr:bV w B (.slice ao bc.length cp) bc)(rc:LoopState->Option Code->Loop)(K:Ending->World->Prop)
  (fE:∀(j:Nat) x v A,bc[j]?=some x->IB w q (rc .ready none) v (bc.take j) A->YieldAt Fence.wide 7 Tryz.prog (q+1+1) #[Sp.v x] A λe C=>(e=.returned (.bool true)/\∃v',IB w q (rc .ready none) v' (bc.take (j+1)) C)∨(e=.returned (.bool false)/\False))
  (hend:∀r W v,IB w q (rc .ready none) v bc W->K (.returned r) W):
  CallsIn Fence.wide 8 Tryz.prog 107 #[.func (.yield (q+1+1)) #[] #[],.pointer (some ⟨bs,0,none⟩)] (((w.alloc (.cells #[.slice none 0 0] 64)).alloc (.deferred (some []))).alloc (.loop (rc .ready none))) K:=by
 refine (Bb 8 bs (q+1+1) ao cp bc (λj W=>∃v,IB w q (rc .ready none) v (bc.take j) W) (λ_=>False) _ (by omega) (heap_alloc_old (heap_alloc_old (heap_alloc_old hb))) ?_ ?_ ?_ ?_).mono ?_
 ·rintro j A ⟨v,h⟩ i x hx;obtain ⟨sg,h1,h2,h3⟩:=hr.cells hx;exact ⟨sg,h1,λy c hy=>(World.cell?_of_block (h.lh.block sg (by omega))).trans (h3 y c hy)⟩
 ·rintro j A B' ⟨v,h⟩ hb';exact ⟨v,h.below hb'⟩
 ·rintro j x A hx ⟨v,h⟩;exact fE j x v A hx h
 ·refine ⟨.slice none 0 0,heap_alloc_old (heap_alloc_old (aA _ _ _ hq)),heap_alloc_old (aA _ _ _ (by simp[hq])),aA _ _ _ (by simp[hq]),World.ownsRow_nil _ _ _ _,?_,by simp[hq]⟩;rw[hq];exact lj _ _ _ _
 ·rintro e W ⟨⟨r,rfl⟩,(⟨v,h⟩|h)⟩
  ·rw[List.take_length]at h;exact hend r W v h
  ·exact h.elim
def pn(bc:List Sp)(w:World)(e:Ending)(w':World):Prop:=∃v,e=.returned v/\bV w' w.heap.size v bc/\Below w.heap.size w w'
set_option maxRecDepth 20000 in
set_option maxHeartbeats 4000000 in
theorem wM(B bs:Nat)(v0:Value)(bc:List Sp)(w:World)(hn:bc.length<=7000)(hb:w.heap[bs]?=some (.cells #[v0] 64 (0,0)))(hr:bV w B v0 bc):
  Calls Tryz.prog 78 #[.slice none 0 0,.func (.func 107) #[] #[.pointer (some ⟨bs,0,none⟩)]] w (pn bc w):=by
 refine (callsIn_wide (n:=9)).1 (callsIn_of_wp_marks Tryz.func78 rfl trivial (wpIn_wide.2 ?_))
 simp only[Tryz.ntmps78,List.size_toArray,List.length_cons,List.length_nil,Nat.reduceAdd,Nat.reduceSub,Array.replicate_succ,Array.replicate_zero,List.push_toArray,List.append_toArray,List.nil_append,List.cons_append];obtain ⟨ao,cp,hv0⟩:=aC hr;subst hv0;obtain ⟨q,hq⟩:∃q,q=w.heap.size:=⟨_,rfl⟩;have HB:=aa hb;have HR:=aa hr
 clear hb hr;go_wp2_with fail;rw[<-hq];refine (wpIn_wide (n:=9)).1 (jb rfl (by decide) (gf:=107) (lb:=#[.pointer (some ⟨bs,0,none⟩)]) rfl trivial (enters_of Tryz.func107 (by kernel_rfl) rfl) ?_);intro fn hfn
 have hsz:(w.alloc (.cells #[.slice none 0 0] 64)).heap.size=q+1:=by rw[hq];simp
 rw[hsz];have HQ:=aa hq;clear hsz hq;refine IC HQ.out hn HB.out HR.out (ll fn _ _ _ _ _) _ ?_ ?_
 ·intro j x v A hx hj;have HJ:=aa hj;refine fW trivial hj.ij rfl ?_;intro rb rc LM;rw[<-LM]at HJ ⊢;clear hj LM;unfold Sp.v Pv;gi_wp2_with (refine cE rfl _ _ _ rfl _ #[.int .i64 x.fr,.int .i64 x.to,.string x.nm,.int .i64 x.jr,.string x.co] rfl rfl 70 _ (aA _ _ _ rfl) rfl rfl (by simp[Value.oneCell']) ?_;rw[dV _ _ _ _ _ rfl])
  have Bc:=aa (HJ.out.below ((Below.refl _ _).alloc (o:=.cells #[.int .i64 x.fr,.int .i64 x.to,.string x.nm,.int .i64 x.jr,.string x.co] 70) (Nat.le_refl _)));refine ⟨Bc.out.ij,?_⟩;have hsp:=af A (.cells #[.int .i64 x.fr,.int .i64 x.to,.string x.nm,.int .i64 x.jr,.string x.co] 70)
  have sP:=(aK.putObj (Y:=λk=>k=q+1+1) (.loop rb) Bc.out.ij rfl).same hsp (by have:=HJ.out.size;omega);have jD:=aa (Bc.out.yP rb);obtain ⟨A2,qB⟩:∃A2,(A.alloc (.cells #[.int .i64 x.fr,.int .i64 x.to,.string x.nm,.int .i64 x.jr,.string x.co] 70)).putObj (q+1+1) (.loop rb)=A2:=⟨_,rfl⟩;rw[qB]at jD sP ⊢;obtain ⟨sA,ID⟩:∃sA,sA=A.heap.size:=⟨_,rfl⟩
  rw[<-ID]at sP ⊢;obtain ⟨n0,hi,hz0,hz1,hz3⟩:=info_parts eL;have c0:A2.cell? ⟨q,0,none⟩=some v:=ay jD.out.sv;have s0:A2.cell? ⟨sA,0,none⟩=some (.int .i64 x.fr):=ag sP rfl;have s1:A2.cell? ⟨sA,1,none⟩=some (.int .i64 x.to):=ag sP rfl;have s2:A2.cell? ⟨sA,2,none⟩=some (.string x.nm):=ag sP rfl
  have s3:A2.cell? ⟨sA,3,none⟩=some (.int .i64 x.jr):=ag sP rfl;have s4:A2.cell? ⟨sA,4,none⟩=some (.string x.co):=ag sP rfl;have qC:(bc.take j).length=j:=by rw[List.length_take];have:=aw hx;omega
  have Pw:j<=7000:=by have:=aw hx;omega
  have ba:=aa (show (A2.alloc (.cells #[.int .i64 x.fr,.int .i64 x.to,.string x.nm,.int .i64 x.jr,.string x.co] 70)).ownsRow (q+3) 70 5 v j ((bc.take j).flatMap Sp.cells) from by
   have h:=(jD.out.below ((Below.refl _ _).alloc (o:=.cells #[.int .i64 x.fr,.int .i64 x.to,.string x.nm,.int .i64 x.jr,.string x.co] 70) (Nat.le_refl _))).row;unfold bV at h;rw[qC]at h;exact h)
  have ea:=aa (λ(y:Nat) u (h:([.int .i64 x.fr,.int .i64 x.to,.string x.nm,.int .i64 x.jr,.string x.co]:List Value)[y]?=some u)=>show (A2.alloc (.cells #[.int .i64 x.fr,.int .i64 x.to,.string x.nm,.int .i64 x.jr,.string x.co] 70)).cell? ((⟨A2.heap.size,0,none⟩:Addr).add y)=some u from aD A2 #[.int .i64 x.fr,.int .i64 x.to,.string x.nm,.int .i64 x.jr,.string x.co] _ y u h)
  have hbase:q+3<=(A2.alloc (.cells #[.int .i64 x.fr,.int .i64 x.to,.string x.nm,.int .i64 x.jr,.string x.co] 70)).heap.size:=by rw[World.size_alloc];have:=jD.out.size;omega
  have eM:=aa (λ(v':Value) (W4:World) (hrow:W4.ownsRow (q+3) 70 5 v' (j+1) ((bc.take j).flatMap Sp.cells++[.int .i64 x.fr,.int .i64 x.to,.string x.nm,.int .i64 x.jr,.string x.co])) (hg:(A2.alloc (.cells #[.int .i64 x.fr,.int .i64 x.to,.string x.nm,.int .i64 x.jr,.string x.co] 70)).grownBy W4 v.ownBlock)=>jD.out.next (x:=x) (v':=v') (W4:=W4) (by rw[qC];exact hrow) hg)
  have iv:bc.take (j+1)=bc.take j++[x]:=by rw[List.take_add_one,hx];rfl
  have HX:=aa hx;clear hsp sP qB ID hx
  gi_wp2_with (refine wpListIn_append_own_at _ rfl (.tmp 8) (.tmp 10) 64 rfl (q+3) 70 n0 (.agg #[.int .i64 0,.int .i64 0,.string ⟨#[]⟩,.int .i64 0,.string ⟨#[]⟩]) 5 56 Tryz.underlying64 hi hz0 hz1 hz3 rfl (by decide) v j ((bc.take j).flatMap Sp.cells) (by rfl) ba.out ⟨A2.heap.size,0,none⟩ 1 1 [.int .i64 x.fr,.int .i64 x.to,.string x.nm,.int .i64 x.jr,.string x.co] (by rfl) rfl ea.out (by simp[Value.oneCell']) (by unfold maxLen;omega) (by omega) hbase ?_;intro v' W4 hown hg _ _;obtain ⟨Ww,SG⟩:=eM.out v' W4 hown hg;have Px:=aa SG;obtain ⟨g',cap',rfl⟩:=az hown (by omega);have z0:=ay Ww;have z0f:W4.frozen? ⟨q,0,none⟩=false:=(by simp[World.frozen?,Ww]);clear hown hg SG Ww eM ba ea)
  exact ⟨Px.out.ij,.inl ⟨rfl,_,by rw[iv];exact Px.out.yP _⟩⟩
 ·intro r W v hj;refine ⟨⟨r,rfl⟩,.inl ⟨hj.ij,λro=>?_⟩⟩;have ed:=hj.yP ro;obtain ⟨W9,Ee⟩:∃W9,W.putObj (q+1+1) (.loop ro)=W9:=⟨_,rfl⟩;rw[Ee]at ed ⊢;have c9:W9.cell? ⟨q,0,none⟩=some v:=ay ed.sv;have T4:=aa ed.tR
  have pq:=aa (show pn bc w (.returned v) (W9.putObj (q+1) (.deferred none)) from by
   have ho:aK (λk=>k=q+1) W9 (W9.putObj (q+1) (.deferred none)):=aK.tD _ ed.tR (λ_ _ _ h=>by cases h) rfl;refine ⟨v,rfl,?_,?_⟩
   ·rw[<-HQ.out];refine dn (aG ed.row λk hk=>?_) (by omega);obtain ⟨a,c,hc⟩:=aj ed.row hk;rw[hc];exact ho.same hc (by omega)
   ·rw[<-HQ.out];exact ed.lh.trans ⟨ho.os,ho.tape,ho.output,ho.size,λk hk=>ho.keep k ⟨by have:=ed.size;omega,by omega⟩⟩)
  obtain ⟨wK,vc,yQ⟩:=aC ed.row;subst yQ;clear hj ed Ee;dsimp only;go_wp2_with fail;refine ⟨by simp,.inl ⟨_,_,rfl,run_takeDeferred T4.out,?_⟩⟩;exact ⟨_,(by simp[results,Tryz.results78,go_sem]),pq.out⟩
theorem Bd(B bs:Nat)(v0:Value)(bc:List Sp)(w:World)(hn:bc.length<=7000)(hb:w.heap[bs]?=some (.cells #[v0] 64 (0,0)))(hr:bV w B v0 bc):
  Calls Tryz.prog 52 #[.func (.func 107) #[] #[.pointer (some ⟨bs,0,none⟩)]] w (pn bc w):=by
 have HA:=aa (wM B bs v0 bc w hn hb hr);go_enter Tryz.func52,Tryz.ntmps52;go_wp2_with fail;refine HA.out.mono ?_;rintro e w1 ⟨v,rfl,h1,h2⟩;have HE:=aa (show pn bc w (.returned v) w1 from ⟨v,rfl,h1,h2⟩);obtain ⟨wK,vc,hv⟩:=aC h1;subst hv;clear h1 h2 HA;go_wp2_with fail;go_ret;exact HE.out
def jE(w:World)(B:Nat)(v:Value)(dp:List ByteArray):Prop:=w.ownsRow B 9 1 v dp.length (dp.map Value.string)
theorem qD:(Tryz.prog.info? 9).map (λi=>(i.zero,i.size,i.bytes))=some (some (.string ⟨#[]⟩),1,16):=by kernel_rfl
def mF(dp:List ByteArray)(w:World)(e:Ending)(w':World):Prop:=∃v,e=.returned v/\jE w' w.heap.size v dp/\Below w.heap.size w w'
def eV(G:List GS)(st:List Nat):List ByteArray:=st.map λi=>((G[i]?).map GS.nm).getD ⟨#[]⟩
def LN(G:List GS)(st:List Nat)(w W0:World)(k:Nat)(vn vi:Value)(wr:World):Prop:=
 ∃(j:Nat) (ao:Option Addr) (c:Nat),vi=.int .i64 j/\vn=.slice ao j c/\j+k=st.length/\jE wr W0.heap.size (.slice ao j c) (eV G (st.take j))/\Below W0.heap.size W0 wr/\w.heap.size<=W0.heap.size
set_option maxRecDepth 20000 in
set_option maxHeartbeats 2000000 in
theorem IE(g n cap:Nat)(G:List GS)(st:List Nat)(cq:Good G st)(w:World)(hG:bR w g n cap G):
  Calls Tryz.prog 80 #[k9 st,.slice (some ⟨g,0,none⟩) n cap] w (mF (eV G st) w):=by
 obtain ⟨a0,a1,a2,a3,a4,a5,a6,a7,a8,hst⟩:=nine cq.1.2;have h8:=dK cq.1.2;rw[hst]at h8;have ha8:a8=st.length:=by simp at h8;omega
 unfold k9;rw[hst,ha8];obtain ⟨W0,hW0⟩:∃W0,w.alloc (.cells #[.int .i64 a0,.int .i64 a1,.int .i64 a2,.int .i64 a3,.int .i64 a4,.int .i64 a5,.int .i64 a6,.int .i64 a7,.int .i64 st.length] 138)=W0:=⟨_,rfl⟩;have pu:W0.heap[w.heap.size]?=some (.cells (aJ st).toArray 138 (0,0)):=by rw[<-hW0,hst,ha8];exact af _ _
 have hb0:Below w.heap.size w W0:=by rw[<-hW0];exact (Below.refl _ _).alloc (Nat.le_refl _) _
 have c8:W0.cell? ⟨w.heap.size,8,none⟩=some (.int .i64 st.length):=ag pu (by rw[List.getElem?_toArray];exact dK cq.1.2);have HG:=aa hG;have Qe:=aa pu;have gW:=aa hb0;have acS:=cq.1.2;obtain ⟨n0,hi,hz0,hz1,hz3⟩:=info_parts qD;have wN:Tryz.prog.arrayLen 136=8:=by kernel_rfl
 have ie:(st.length:Int)<=(Tryz.prog.arrayLen 136 : Int):=by rw[wN];omega
 have LO:(Instr.sliceAt 136 (.pointer (some ⟨w.heap.size,0,none⟩)) none (some (.int .i64 st.length)) none).run Tryz.prog W0=.ok (.slice (some ⟨w.heap.size,0,none⟩) st.length 8) W0:=by rw[run_sliceAt_array_h W0 136 _ (by kernel_rfl) .i64 _ (by omega) ie,wN];simp[slicedAt,go_sem,Addr.add]
 clear hst h8 ha8 pu hb0 hG ie wN;go_enter Tryz.func80,Tryz.ntmps80;go_wp2_with fail;obtain ⟨q,hq⟩:∃q,q=w.heap.size:=⟨_,rfl⟩;rw[<-hq];rw[<-hq]at Qe;have HQ:=aa hq;clear LO c8 hq hW0;go_loopg [5,13] st.length (λk vn vi wr=>LN G st w W0 k vn vi wr)
 case atStart=>exact ⟨0,none,0,rfl,rfl,by omega,World.ownsRow_nil _ _ _ _,Below.refl _ _,gW.out.size⟩
 case round=>
  obtain ⟨j,wK,vc,rfl,rfl,hj,hrow,hb,hsz⟩:=hrel;by_cases hlt:j<st.length
  ·have g1:decide ((j:Int)<(st.length:Int))=true:=decide_eq_true (by omega);obtain ⟨i,nh⟩:∃i,st[j]?=some i:=⟨_,List.getElem?_eq_getElem hlt⟩;have hiG:i<G.length:=cq.2 i (List.mem_of_getElem? nh);obtain ⟨s,hs⟩:∃s,G[i]?=some s:=⟨_,List.getElem?_eq_getElem hiG⟩;have K6:=HG.out.below (gW.out.trans (hb.mono hsz));have jW:i<n:=by rw[K6.len];exact hiG
   have n1:=(K6.at_ i s hs).1;have s1:wr.cell? ⟨q,j,none⟩=some (.int .i64 i):=ag ((hb.block _ (ae Qe.out)).trans Qe.out) (by rw[List.getElem?_toArray];exact jc nh);have hwr:IntKind.i64.wrap ((j:Int)+1)=(j:Int)+1:=by rw[IntKind.wrap_i64];omega
   have LP:(eV G (st.take j)).length=j:=by unfold eV;rw[List.length_map,List.length_take];omega
   have iv:eV G (st.take (j+1))=eV G (st.take j)++[s.nm]:=by unfold eV;rw[List.take_add_one,nh];simp[hs]
   have ba:=aa (show (wr.alloc (.cells #[.string s.nm] 9)).ownsRow W0.heap.size 9 1 (.slice wK j vc) j ((eV G (st.take j)).map Value.string) from by unfold jE at hrow;rw[LP]at hrow;exact aG hrow λk hk=>((Below.refl _ _).alloc (Nat.le_refl _) _).block k (by obtain ⟨_,c,hc⟩:=aj hrow hk;exact ae hc))
   have ea:=aa (λ(y:Nat) u (h:([.string s.nm]:List Value)[y]?=some u)=>show (wr.alloc (.cells #[.string s.nm] 9)).cell? ((⟨wr.heap.size,0,none⟩:Addr).add y)=some u from aD wr #[.string s.nm] _ y u h);have hbase:W0.heap.size<=(wr.alloc (.cells #[.string s.nm] 9)).heap.size:=by rw[World.size_alloc];have:=hb.size;omega
   have eM:=aa (λ(v':Value) (W4:World) (hr:W4.ownsRow W0.heap.size 9 1 v' (j+1) ((eV G (st.take j)).map Value.string++[.string s.nm])) (hg:(wr.alloc (.cells #[.string s.nm] 9)).grownBy W4 (Value.slice wK j vc).ownBlock)=>show LN G st w W0 (st.length - (j+1)) v' (.int .i64 ((j:Int)+1)) W4 from by
    obtain ⟨ao2,c2,hv2⟩:=aC hr;subst hv2;refine ⟨j+1,ao2,c2,by simp,rfl,by omega,?_,?_,hsz⟩
    ·unfold jE;rw[iv,List.length_append,LP,List.map_append];exact hr
    ·have hb2:Below W0.heap.size W0 (wr.alloc (.cells #[.string s.nm] 9)):=hb.alloc hb.size _;exact hb2.trans (eE hb2.size hg λk hk=>(aj ba.out hk).1))
   clear hrow hb K6 nh hs iv
   go_wp2_with (at_builtin;go_loud (refine wpList_append_own_at _ rfl (.tmp 17) (.tmp 23) 61 rfl W0.heap.size 9 n0 (.string ⟨#[]⟩) 1 16 Tryz.underlying61 hi hz0 hz1 hz3 rfl (by decide) (.slice wK j vc) j ((eV G (st.take j)).map Value.string) (by rfl) ba.out ⟨wr.heap.size,0,none⟩ 1 1 [.string s.nm] (by rfl) rfl ea.out (by simp[Value.oneCell']) (by unfold maxLen;omega) (by omega) hbase ?_;intro v' W4 hown hg _ _;have HST:=aa (eM.out v' W4 hown hg);obtain ⟨g',cap',rfl⟩:=az hown (by omega);clear hown hg eM ba ea))
   go_wp2_with fail;go_roundg (st.length - (j+1))
   case measure=>omega
   case rel=>exact HST.out
  ·have g1:decide ((j:Int)<(st.length:Int))=false:=decide_eq_false (by omega);obtain rfl:j=st.length:=by omega
   have ai:=aa (show mF (eV G st) w (.returned (.slice wK st.length vc)) wr from ⟨_,rfl,by rw[List.take_length]at hrow;exact dn hrow hsz,gW.out.trans (hb.mono hsz)⟩);clear hrow hb;go_wp2_with fail;go_ret;exact ai.out
def tW(T:List UInt8)(w:World)(e:Ending)(w':World):Prop:=∃v dp,e=.returned v/\jE w' w.heap.size v dp/\dp.map (·.data.toList)=aB T/\Below w.heap.size w w'
def Ef(s:ByteArray)(w:World)(k:Nat)(vl va vi:Value)(wr:World):Prop:=
 ∃(a i:Nat) (dp:List ByteArray) (ao:Option Addr) (c:Nat),vl=.slice ao dp.length c/\va=.int .i64 a/\vi=.int .i64 i/\i+k=s.size/\a<=i/\jE wr w.heap.size (.slice ao dp.length c) dp/\dp.length<=i/\dp.map (·.data.toList)++aB (rest s a)=aB s.data.toList/\(∀m,a<=m->m<i->s.data.toList[m]?≠some 10)/\Below w.heap.size w wr
theorem jE.snoc{dp:List ByteArray}{x:ByteArray}(h:jE W w.heap.size v dp)(hb:Below w.heap.size w W)(hr:W4.ownsRow w.heap.size 9 1 v' (dp.length+1) (dp.map Value.string++[.string x]))(hg:(W.alloc o).grownBy W4 v.ownBlock):jE W4 w.heap.size v' (dp++[x])/\Below w.heap.size w W4:=by
 refine ⟨?_,?_⟩
 ·unfold jE;rw[List.length_append,List.map_append];exact hr
 ·have hb2:Below w.heap.size w (W.alloc o):=hb.alloc hb.size _;exact hb2.trans (eE hb2.size hg λk hk=>(aj h hk).1)
set_option maxRecDepth 20000 in
set_option maxHeartbeats 2000000 in
theorem yR(s:ByteArray)(w:World)(hz:s.size<=3000):Calls Tryz.prog 63 #[.string s] w (tW s.data.toList w):=by
 obtain ⟨i0,tX,hz0,hz1,hz3⟩:=info_parts qD;go_enter Tryz.func63,Tryz.ntmps63;go_wp2_with fail;go_loopg [3,4,5] s.size (λk vl va vi wr=>Ef s w k vl va vi wr)
 case atStart=>exact ⟨0,0,[],none,0,rfl,rfl,rfl,by omega,Nat.le_refl _,World.ownsRow_nil _ _ _ _,Nat.le_refl _,by simp[rest],λm h1 h2=>by omega,Below.refl _ _⟩
 case round=>
  obtain ⟨a,i,dp,ao,c,rfl,rfl,rfl,hk,hai,hrow,fq,LQ,XR,hb⟩:=hrel;have SH:=aa hrow;have XS:=aa LQ;have HNT:=aa XR;have HBx:=aa hb;by_cases hlt:i<s.size
  ·have g1:decide ((i:Int)<(s.size:Int))=true:=decide_eq_true (by omega);have hwr:IntKind.i64.wrap ((i:Int)+1)=(i:Int)+1:=by rw[IntKind.wrap_i64];omega
   by_cases h10:s[i]=10
   ·have q1:(((s[i].toNat:Nat):Int)==10)=true:=by rw[h10];rfl
    have DG:=aa (show rest s a=(s.extract a i).data.toList++10::rest s (i+1) by rw[eF hai,br hlt,h10]);have qE:=aa (yS HNT.out);have aa6:(a:Int)<=(i:Int):=by omega
    have acT:(i:Int)<=(s.size:Int):=by omega
    have ba:=aa (show (wr.alloc (.cells #[.string (s.extract a i)] 9)).ownsRow w.heap.size 9 1 (.slice ao dp.length c) dp.length (dp.map Value.string) from aG hrow λk hk=>by obtain ⟨_,c,hc⟩:=aj hrow hk;exact ((Below.refl _ _).alloc (Nat.le_refl _) _).block k (ae hc))
    have ea:=aa (λ(y:Nat) u (h:([.string (s.extract a i)]:List Value)[y]?=some u)=>show (wr.alloc (.cells #[.string (s.extract a i)] 9)).cell? ((⟨wr.heap.size,0,none⟩:Addr).add y)=some u from aD wr #[.string (s.extract a i)] _ y u h);have hbase:w.heap.size<=(wr.alloc (.cells #[.string (s.extract a i)] 9)).heap.size:=by rw[World.size_alloc];have:=hb.size;omega
    have eM:=aa (λ(v':Value) (W4:World) (hr:W4.ownsRow w.heap.size 9 1 v' (dp.length+1) (dp.map Value.string++[.string (s.extract a i)])) (hg:(wr.alloc (.cells #[.string (s.extract a i)] 9)).grownBy W4 (Value.slice ao dp.length c).ownBlock)=>show Ef s w (s.size - (i+1)) v' (.int .i64 ((i:Int)+1)) (.int .i64 ((i:Int)+1)) W4 from by
     obtain ⟨a1,a2⟩:=SH.out.snoc HBx.out hr hg;obtain ⟨px,c',hv'⟩:=aC hr;subst hv';have hl:(dp++[s.extract a i]).length=dp.length+1:=by simp
     refine ⟨i+1,i+1,dp++[s.extract a i],px,c',by rw[hl],by simp,by simp,by omega,Nat.le_refl _,by rw[hl];exact a1,by rw[hl];omega,?_,λm h1 h2=>by omega,a2⟩;rw[<-XS.out,DG.out,tY qE.out];simp)
    clear hrow LQ XR hb h10
    go_wp2_with (at_builtin;go_loud (refine wpList_append_own_at _ rfl (.tmp 16) (.tmp 21) 61 rfl w.heap.size 9 i0 (.string ⟨#[]⟩) 1 16 Tryz.underlying61 tX hz0 hz1 hz3 rfl (by decide) (.slice ao dp.length c) dp.length (dp.map Value.string) (by rfl) ba.out ⟨wr.heap.size,0,none⟩ 1 1 [.string (s.extract a i)] (by rfl) rfl ea.out (by simp[Value.oneCell']) (by unfold maxLen;omega) (by omega) hbase ?_;intro v' W4 hown hg _ _;have HST:=aa (eM.out v' W4 hown hg);obtain ⟨g',cap',rfl⟩:=az hown (by omega);clear hown hg eM ba ea))
    go_wp2_with fail;go_roundg (s.size - (i+1))
    case measure=>omega
    case rel=>exact HST.out
   ·have q1:(((s[i].toNat:Nat):Int)==10)=false:=by rw[beq_eq_false_iff_ne];intro e;exact h10 (UInt8.toNat_inj.1 (by show s[i].toNat=10;omega))
    have HST:=aa (show Ef s w (s.size - (i+1)) (.slice ao dp.length c) (.int .i64 a) (.int .i64 ((i:Int)+1)) wr from ⟨a,i+1,dp,ao,c,rfl,rfl,by simp,by omega,by omega,hrow,by omega,LQ,λm h1 h2=>by
     rcases Nat.lt_or_ge m i with h3|h3
     ·exact XR m h1 h3
     ·obtain rfl:m=i:=by omega
      intro e;apply h10;have h4:s.data.toList[m]?=some s[m]:=by rw[List.getElem?_eq_getElem (by simpa using hlt)];rfl
      rw[h4]at e;exact Option.some.inj e,hb⟩)
    clear hrow LQ XR hb h10;go_wp2_with fail;go_roundg (s.size - (i+1))
    case measure=>omega
    case rel=>exact HST.out
  ·have g1:decide ((i:Int)<(s.size:Int))=false:=decide_eq_false (by omega);obtain rfl:i=s.size:=by omega
   have aa6:(a:Int)<=(s.size:Int):=by omega
   have ba:=aa (show (wr.alloc (.cells #[.string (s.extract a s.size)] 9)).ownsRow w.heap.size 9 1 (.slice ao dp.length c) dp.length (dp.map Value.string) from aG hrow λk hk=>by obtain ⟨_,c,hc⟩:=aj hrow hk;exact ((Below.refl _ _).alloc (Nat.le_refl _) _).block k (ae hc))
   have ea:=aa (λ(y:Nat) u (h:([.string (s.extract a s.size)]:List Value)[y]?=some u)=>show (wr.alloc (.cells #[.string (s.extract a s.size)] 9)).cell? ((⟨wr.heap.size,0,none⟩:Addr).add y)=some u from aD wr #[.string (s.extract a s.size)] _ y u h)
   have hbase:w.heap.size<=(wr.alloc (.cells #[.string (s.extract a s.size)] 9)).heap.size:=by rw[World.size_alloc];have:=hb.size;omega
   have eM:=aa (λ(v':Value) (W4:World) (hr:W4.ownsRow w.heap.size 9 1 v' (dp.length+1) (dp.map Value.string++[.string (s.extract a s.size)])) (hg:(wr.alloc (.cells #[.string (s.extract a s.size)] 9)).grownBy W4 (Value.slice ao dp.length c).ownBlock)=>show tW s.data.toList w (.returned v') W4 from by
    obtain ⟨a1,a2⟩:=SH.out.snoc HBx.out hr hg;refine ⟨v',_,rfl,a1,?_,a2⟩;have he:=cZ (s:=s) (i:=a) (Nat.le_refl s.size);have IG:=yS HNT.out;rw[he]at IG;rw[<-XS.out,tZ IG,List.map_append,<-he];rfl)
   clear hrow LQ XR hb
   go_wp2_with (at_builtin;go_loud (refine wpList_append_own_at _ rfl (.tmp 25) (.tmp 29) 61 rfl w.heap.size 9 i0 (.string ⟨#[]⟩) 1 16 Tryz.underlying61 tX hz0 hz1 hz3 rfl (by decide) (.slice ao dp.length c) dp.length (dp.map Value.string) (by rfl) ba.out ⟨wr.heap.size,0,none⟩ 1 1 [.string (s.extract a s.size)] (by rfl) rfl ea.out (by simp[Value.oneCell']) (by unfold maxLen;omega) (by omega) hbase ?_;intro v' W4 hown hg _ _;have ai:=aa (eM.out v' W4 hown hg);obtain ⟨g',cap',rfl⟩:=az hown (by omega);clear hown hg eM ba ea))
   go_wp2_with fail;go_ret;exact ai.out
end Go.Proofs.YtgncgdkpkkdaeaaGreatDoor
