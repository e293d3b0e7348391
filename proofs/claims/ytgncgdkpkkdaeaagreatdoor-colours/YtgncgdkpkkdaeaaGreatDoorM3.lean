import Derived.Test.YtgncgdkpkkdaeaaGreatDoorM2
import Derived.Test.YtgncgdkpkkdaeaaGreatDoorMVG
namespace Go.Proofs.YtgncgdkpkkdaeaaGreatDoor
open Go.RowKit aQ Go.Maps Go.Shelf
variable {pre ba:List Sp} {rc:Loop} {B cp q:Nat} {o:Obj} {ao:Option Addr} {x:Sp} {v v':Value} {W W4 w:World}
attribute [local go_sem] Oper.semAt_some
def OG(J:Nat->World->Prop)(Jx:World->Prop)(n:Nat)(e:Ending)(W:World):Prop:=(∃v,e=.returned v)/\(J n W∨Jx W)
def Fh(J:Nat->World->Prop)(n k:Nat)(vi:Value)(wr:World):Prop:=∃j:Nat,vi=.int .i64 j/\j+k=n/\J j wr
set_option maxRecDepth 20000 in
set_option maxHeartbeats 2000000 in
theorem zP(m bs l:Nat)(ao:Option Addr)(cp:Nat)(ba:List Sp)(J:Nat->World->Prop)(Jx:World->Prop)(w:World)(hn:ba.length<=1000000)(hb:w.heap[bs]?=some (.cells #[.slice ao ba.length cp] 64 (0,0)))
  (hJr:∀j A,J j A->∀(i:Nat) x,ba[i]?=some x->∃sg,ao=some ⟨sg,0,none⟩/\∀(y:Nat) c,x.cells[y]?=some c->A.cell? ⟨sg,i*5+y,none⟩=some c)
  (hJk:∀j A B,J j A->Below A.heap.size A B->J j B)
  (hY:∀(j:Nat) x A,ba[j]?=some x->J j A->YieldAt Fence.wide (m - 1) Tryz.prog l #[Sp.v x] A λe B=>(e=.returned (.bool true)/\J (j+1) B)∨(e=.returned (.bool false)/\Jx B)) (h0:J 0 w):
  CallsIn Fence.wide m Tryz.prog 107 #[.func (.yield l) #[] #[],.pointer (some ⟨bs,0,none⟩)] w (OG J Jx ba.length):=by
 refine callsIn_wide.2 ?_;have b0:=ay hb;have HJR:=aa hJr;have HJK:=aa hJk;have HY:=aa hY;have H0:=aa h0;clear hJr hJk hY h0 hb;go_enter Tryz.func107,Tryz.ntmps107;go_wp2_with fail;go_loopg [7] ba.length (λk vi wr=>Fh J ba.length k vi wr)
 case atStart=>exact ⟨0,rfl,by omega,H0.out⟩
 case round=>
  obtain ⟨j,rfl,hj,hJ⟩:=hrel;by_cases hlt:j<ba.length
  ·have g1:decide ((j:Int)<(ba.length:Int))=true:=decide_eq_true (by omega);obtain ⟨x,hx⟩:∃x,ba[j]?=some x:=⟨_,List.getElem?_eq_getElem hlt⟩;obtain ⟨sg,hao,hc⟩:=HJR.out j wr hJ j x hx;subst hao;have d0:=hc 0 _ rfl;have d1:=hc 1 _ rfl;have d2:=hc 2 _ rfl;have d3:=hc 3 _ rfl;have d4:=hc 4 _ rfl;rw[Nat.add_zero]at d0
   have hwr:IntKind.i64.wrap ((j:Int)+1)=(j:Int)+1:=by rw[IntKind.wrap_i64];omega
   obtain ⟨w2,hw2⟩:∃w2,wr.alloc (.cells #[.int .i64 x.fr,.int .i64 x.to,.string x.nm,.int .i64 x.iT,.string x.co] 70)=w2:=⟨_,rfl⟩;have hb2:Below wr.heap.size wr w2:=by rw[<-hw2];exact (Below.refl _ _).alloc (Nat.le_refl _) _
   have C4:w2.heap[wr.heap.size]?=some (.cells #[.int .i64 x.fr,.int .i64 x.to,.string x.nm,.int .i64 x.iT,.string x.co] 70 (0,0)):=by rw[<-hw2];exact af _ _
   obtain ⟨fn,tmps,assign,body,hy,hR⟩:=HY.out j x w2 hx (HJK.out j wr w2 hJ hb2);unfold Sp.v NZ at hy;have e0:w2.cell? ⟨wr.heap.size,0,none⟩=some (.int .i64 x.fr):=ah C4 rfl;have e1:w2.cell? ⟨wr.heap.size,1,none⟩=some (.int .i64 x.to):=ah C4 rfl;have e2:w2.cell? ⟨wr.heap.size,2,none⟩=some (.string x.nm):=ah C4 rfl
   have e3:w2.cell? ⟨wr.heap.size,3,none⟩=some (.int .i64 x.iT):=ah C4 rfl;have e4:w2.cell? ⟨wr.heap.size,4,none⟩=some (.string x.co):=ah C4 rfl;have sH:=aa hR;clear hR hc hb2 C4 hx hJ;refine (wpIn_wide (n:=m)).1 ?_
   gi_wp2_with (refine cA rfl _ _ _ rfl _ #[.int .i64 x.fr,.int .i64 x.to,.string x.nm,.int .i64 x.iT,.string x.co] rfl rfl 70 _ (az _ _ _ rfl) rfl rfl (by simp[Value.oneCell']) ?_;rw[dL _ _ _ _ _ rfl]);refine ⟨λh=>(by cases h),sH.out.mono ?_⟩;rintro e W' (⟨rfl,hj'⟩|⟨rfl,xI⟩)
   ·have HST:=aa (show Fh J ba.length (ba.length - (j+1)) (.int .i64 ((j:Int)+1)) W' from ⟨j+1,by simp,by omega,hj'⟩);clear hj' sH hy;gi_wp2_with fail;go_roundg (ba.length - (j+1))
    case measure=>omega
    case rel=>exact HST.out
   ·have Km:=aa xI;clear xI sH hy;gi_wp2_with fail;go_end0;exact ⟨⟨_,rfl⟩,.inr Km.out⟩
  ·have g1:decide ((j:Int)<(ba.length:Int))=false:=decide_eq_false (by omega);obtain rfl:j=ba.length:=by omega
   have jf:=aa hJ;clear hJ;go_wp2_with fail;go_end0;exact ⟨⟨_,rfl⟩,.inl jf.out⟩
theorem GD(v:Value)(hv:∃ao n c,v=.slice ao n c)(w:World):Calls Tryz.prog 79 #[v] w λe w'=>e=.returned (.func (.func 107) #[] #[.pointer (some ⟨w.heap.size,0,none⟩)])/\w'=w.alloc (.cells #[v] 64):=by
 obtain ⟨ao,n,c,rfl⟩:=hv;go_enter Tryz.func79,Tryz.ntmps79;go_wp2_with fail;go_ret;exact ⟨rfl,rfl⟩
structure GF(w:World)(q:Nat)(rc:Loop)(v:Value)(pre:List Sp)(W:World):Prop where
 sv:W.heap[q]?=some (.cells #[v] 64 (0,0))
 sy:W.heap[q+1]?=some (.deferred (some []))
 gQ:W.heap[q+1+1]?=some (.loop rc)
 row:bN W (q+3) v pre
 kE:Below q w W
 size:q+3<=W.heap.size
theorem GF.below{W':World}(h:GF w q rc v pre W)(hb:Below W.heap.size W W'):GF w q rc v pre W':=
 ⟨(hb.block _ (ae h.sv)).trans h.sv,(hb.block _ (ae h.sy)).trans h.sy,(hb.block _ (ae h.gQ)).trans h.gQ,aJ h.row λk hk=>by obtain ⟨_,c,hc⟩:=aw h.row hk;exact hb.block k (ae hc),h.kE.trans (hb.mono (by have:=h.size;omega)),Nat.le_trans h.size hb.size⟩
theorem GF.xJ(h:GF w q rc v pre W)(rb:Loop):GF w q rb v pre (W.putObj (q+1+1) (.loop rb)):=by
 have ho:aN (λk=>k=q+1+1) W (W.putObj (q+1+1) (.loop rb)):=aN.putObj _ h.gQ rfl;have hs:=h.size
 exact ⟨ho.same h.sv (by omega),ho.same h.sy (by omega),World.putObj_heap_same (by omega),aJ h.row λk hk=>by obtain ⟨a,c,hc⟩:=aw h.row hk;rw[hc];exact ho.same hc (by omega),h.kE.trans ⟨ho.os,ho.tape,ho.output,ho.size,λk hk=>ho.keep k ⟨by omega,by omega⟩⟩,Nat.le_trans hs ho.size⟩
theorem GF.next{rb:Loop}(h:GF w q rb v pre W)(hrow:W4.ownsRow (q+3) 70 5 v' (pre.length+1) (pre.flatMap Sp.cells++x.cells))(hg:(W.alloc o).grownBy W4 v.ownBlock):W4.heap[q]?=some (.cells #[v] 64 (0,0))/\GF w q rb v' (pre++[x]) (W4.setCell ⟨q,0,none⟩ v'):=by
 have hs:=h.size;have hb:Below W.heap.size W (W.alloc o):=(Below.refl _ _).alloc (Nat.le_refl _) _;have h2:=h.below hb;have o1:aN (λk=>v.ownBlock=some k) (W.alloc o) W4:=aN.gh h2.row (by decide) hg;have hv:∀k,v.ownBlock=some k->q+3<=k:=λk hk=>(aw h2.row hk).1
 have hv':∀k,v'.ownBlock=some k->q+3<=k/\k<W4.heap.size:=λk hk=>by obtain ⟨a,c,hc⟩:=aw hrow hk;exact ⟨a,ae hc⟩
 have s4:=o1.same h2.sv (λe=>by have:=hv _ e;omega);have o2:aN (λk=>k=q) W4 (W4.setCell ⟨q,0,none⟩ v'):=aN.setCell (Y:=λk=>k=q) (p:=⟨q,0,none⟩) rfl s4 (by decide) _;have s5:=heap_setCell_same W4 q 0 v' s4
 refine ⟨s4,by simpa using s5,o2.same (o1.same h2.sy (λe=>by have:=hv _ e;omega)) (by omega),o2.same (o1.same h2.gQ (λe=>by have:=hv _ e;omega)) (by omega),bN.snoc (aJ hrow λk hk=>o2.keep k ⟨(hv' k hk).2,by have:=(hv' k hk).1;omega⟩),h2.kE.trans ⟨(o1.trans' o2).os,(o1.trans' o2).tape,(o1.trans' o2).output,(o1.trans' o2).size,λk hk=>(o1.trans' o2).keep k ⟨by have:=h2.size;omega,?_⟩⟩,Nat.le_trans h2.size (o1.trans' o2).size⟩
 rintro (e|e)
 ·have:=hv _ e;omega
 ·omega
theorem bN.cells(h:bN w B (.slice ao ba.length cp) ba){i:Nat}(hx:ba[i]?=some x):∃sg,ao=some ⟨sg,0,none⟩/\sg<w.heap.size/\∀(y:Nat) c,x.cells[y]?=some c->w.cell? ⟨sg,i*5+y,none⟩=some c:=by
 obtain ⟨sg,c,hv⟩:=aC h (by have:=au hx;omega);cases hv;obtain ⟨_,cur,pK⟩:=aw h (k:=sg) rfl;refine ⟨sg,rfl,ae pK,λy c hy=>(bU h ?_).1⟩;have VS:y<5:=by have:=au hy;simpa [Sp.cells] using this
 rw[List.flatMap_def,jG (si:=5) (by intro r hr;obtain ⟨z,_,rfl⟩:=List.mem_map.1 hr;rfl) (r:=x.cells) (by rw[List.getElem?_map,hx];rfl) y VS];exact hy
theorem GG{bs:Nat}(hq:q=w.heap.size)(hn:ba.length<=7000)(hb:w.heap[bs]?=some (.cells #[.slice ao ba.length cp] 64 (0,0)))(hr:bN w B (.slice ao ba.length cp) ba)(rc:LoopState->Option Code->Loop)(K:Ending->World->Prop)
  (fj:∀(j:Nat) x v A,ba[j]?=some x->GF w q (rc .ready none) v (ba.take j) A->YieldAt Fence.wide 7 Tryz.prog (q+1+1) #[Sp.v x] A λe C=>(e=.returned (.bool true)/\∃v',GF w q (rc .ready none) v' (ba.take (j+1)) C)∨(e=.returned (.bool false)/\False))
  (hend:∀r W v,GF w q (rc .ready none) v ba W->K (.returned r) W):
  CallsIn Fence.wide 8 Tryz.prog 107 #[.func (.yield (q+1+1)) #[] #[],.pointer (some ⟨bs,0,none⟩)] (((w.alloc (.cells #[.slice none 0 0] 64)).alloc (.deferred (some []))).alloc (.loop (rc .ready none))) K:=by
 refine (zP 8 bs (q+1+1) ao cp ba (λj W=>∃v,GF w q (rc .ready none) v (ba.take j) W) (λ_=>False) _ (by omega) (heap_alloc_old (heap_alloc_old (heap_alloc_old hb))) ?_ ?_ ?_ ?_).mono ?_
 ·rintro j A ⟨v,h⟩ i x hx;obtain ⟨sg,h1,h2,h3⟩:=hr.cells hx;exact ⟨sg,h1,λy c hy=>(World.cell?_of_block (h.kE.block sg (by omega))).trans (h3 y c hy)⟩
 ·rintro j A B' ⟨v,h⟩ hb';exact ⟨v,h.below hb'⟩
 ·rintro j x A hx ⟨v,h⟩;exact fj j x v A hx h
 ·refine ⟨.slice none 0 0,heap_alloc_old (heap_alloc_old (az _ _ _ hq)),heap_alloc_old (az _ _ _ (by simp[hq])),az _ _ _ (by simp[hq]),World.ownsRow_nil _ _ _ _,?_,by simp[hq]⟩;rw[hq];exact kF _ _ _ _
 ·rintro e W ⟨⟨r,rfl⟩,(⟨v,h⟩|h)⟩
  ·rw[List.take_length]at h;exact hend r W v h
  ·exact h.elim
def ol(ba:List Sp)(w:World)(e:Ending)(w':World):Prop:=∃v,e=.returned v/\bN w' w.heap.size v ba/\Below w.heap.size w w'
set_option maxRecDepth 20000 in
set_option maxHeartbeats 4000000 in
theorem uY(B bs:Nat)(v0:Value)(ba:List Sp)(w:World)(hn:ba.length<=7000)(hb:w.heap[bs]?=some (.cells #[v0] 64 (0,0)))(hr:bN w B v0 ba):
  Calls Tryz.prog 78 #[.slice none 0 0,.func (.func 107) #[] #[.pointer (some ⟨bs,0,none⟩)]] w (ol ba w):=by
 refine (callsIn_wide (n:=9)).1 (callsIn_of_wp_marks Tryz.func78 rfl trivial (wpIn_wide.2 ?_))
 simp only[Tryz.ntmps78,List.size_toArray,List.length_cons,List.length_nil,Nat.reduceAdd,Nat.reduceSub,Array.replicate_succ,Array.replicate_zero,List.push_toArray,List.append_toArray,List.nil_append,List.cons_append];obtain ⟨ao,cp,hv0⟩:=aI hr;subst hv0;obtain ⟨q,hq⟩:∃q,q=w.heap.size:=⟨_,rfl⟩;have HB:=aa hb;have HR:=aa hr
 clear hb hr;go_wp2_with fail;rw[<-hq];refine (wpIn_wide (n:=9)).1 (iG rfl (by decide) (gf:=107) (lb:=#[.pointer (some ⟨bs,0,none⟩)]) rfl trivial (enters_of Tryz.func107 (by kernel_rfl) rfl) ?_);intro fn hfn
 have hsz:(w.alloc (.cells #[.slice none 0 0] 64)).heap.size=q+1:=by rw[hq];simp
 rw[hsz];have HQ:=aa hq;clear hsz hq;refine GG HQ.out hn HB.out HR.out (kG fn _ _ _ _ _) _ ?_ ?_
 ·intro j x v A hx hj;have HJ:=aa hj;refine fK trivial hj.gQ rfl ?_;intro rb rc Kn;rw[<-Kn]at HJ ⊢;clear hj Kn;unfold Sp.v NZ;gi_wp2_with (refine cA rfl _ _ _ rfl _ #[.int .i64 x.fr,.int .i64 x.to,.string x.nm,.int .i64 x.iT,.string x.co] rfl rfl 70 _ (az _ _ _ rfl) rfl rfl (by simp[Value.oneCell']) ?_;rw[dL _ _ _ _ _ rfl])
  have zQ:=aa (HJ.out.below ((Below.refl _ _).alloc (o:=.cells #[.int .i64 x.fr,.int .i64 x.to,.string x.nm,.int .i64 x.iT,.string x.co] 70) (Nat.le_refl _)));refine ⟨zQ.out.gQ,?_⟩;have hsp:=af A (.cells #[.int .i64 x.fr,.int .i64 x.to,.string x.nm,.int .i64 x.iT,.string x.co] 70)
  have rC:=(aN.putObj (Y:=λk=>k=q+1+1) (.loop rb) zQ.out.gQ rfl).same hsp (by have:=HJ.out.size;omega);have jf:=aa (zQ.out.xJ rb);obtain ⟨A2,pL⟩:∃A2,(A.alloc (.cells #[.int .i64 x.fr,.int .i64 x.to,.string x.nm,.int .i64 x.iT,.string x.co] 70)).putObj (q+1+1) (.loop rb)=A2:=⟨_,rfl⟩;rw[pL]at jf rC ⊢;obtain ⟨sA,GH⟩:∃sA,sA=A.heap.size:=⟨_,rfl⟩
  rw[<-GH]at rC ⊢;obtain ⟨n0,hi,hz0,hz1,hz3⟩:=info_parts fh;have c0:A2.cell? ⟨q,0,none⟩=some v:=ay jf.out.sv;have s0:A2.cell? ⟨sA,0,none⟩=some (.int .i64 x.fr):=ah rC rfl;have s1:A2.cell? ⟨sA,1,none⟩=some (.int .i64 x.to):=ah rC rfl;have s2:A2.cell? ⟨sA,2,none⟩=some (.string x.nm):=ah rC rfl
  have s3:A2.cell? ⟨sA,3,none⟩=some (.int .i64 x.iT):=ah rC rfl;have s4:A2.cell? ⟨sA,4,none⟩=some (.string x.co):=ah rC rfl;have pM:(ba.take j).length=j:=by rw[List.length_take];have:=au hx;omega
  have N1:j<=7000:=by have:=au hx;omega
  have bE:=aa (show (A2.alloc (.cells #[.int .i64 x.fr,.int .i64 x.to,.string x.nm,.int .i64 x.iT,.string x.co] 70)).ownsRow (q+3) 70 5 v j ((ba.take j).flatMap Sp.cells) from by
   have h:=(jf.out.below ((Below.refl _ _).alloc (o:=.cells #[.int .i64 x.fr,.int .i64 x.to,.string x.nm,.int .i64 x.iT,.string x.co] 70) (Nat.le_refl _))).row;unfold bN at h;rw[pM]at h;exact h)
  have fp:=aa (λ(y:Nat) u (h:([.int .i64 x.fr,.int .i64 x.to,.string x.nm,.int .i64 x.iT,.string x.co]:List Value)[y]?=some u)=>show (A2.alloc (.cells #[.int .i64 x.fr,.int .i64 x.to,.string x.nm,.int .i64 x.iT,.string x.co] 70)).cell? ((⟨A2.heap.size,0,none⟩:Addr).add y)=some u from aF A2 #[.int .i64 x.fr,.int .i64 x.to,.string x.nm,.int .i64 x.iT,.string x.co] _ y u h)
  have hbase:q+3<=(A2.alloc (.cells #[.int .i64 x.fr,.int .i64 x.to,.string x.nm,.int .i64 x.iT,.string x.co] 70)).heap.size:=by rw[World.size_alloc];have:=jf.out.size;omega
  have iB:=aa (λ(v':Value) (W4:World) (hrow:W4.ownsRow (q+3) 70 5 v' (j+1) ((ba.take j).flatMap Sp.cells++[.int .i64 x.fr,.int .i64 x.to,.string x.nm,.int .i64 x.iT,.string x.co])) (hg:(A2.alloc (.cells #[.int .i64 x.fr,.int .i64 x.to,.string x.nm,.int .i64 x.iT,.string x.co] 70)).grownBy W4 v.ownBlock)=>jf.out.next (x:=x) (v':=v') (W4:=W4) (by rw[pM];exact hrow) hg)
  have gX:ba.take (j+1)=ba.take j++[x]:=by rw[List.take_add_one,hx];rfl
  have HX:=aa hx;clear hsp rC pL GH hx
  gi_wp2_with (refine wpListIn_append_own_at _ rfl (.tmp 8) (.tmp 10) 64 rfl (q+3) 70 n0 (.agg #[.int .i64 0,.int .i64 0,.string ⟨#[]⟩,.int .i64 0,.string ⟨#[]⟩]) 5 56 Tryz.underlying64 hi hz0 hz1 hz3 rfl (by decide) v j ((ba.take j).flatMap Sp.cells) (by rfl) bE.out ⟨A2.heap.size,0,none⟩ 1 1 [.int .i64 x.fr,.int .i64 x.to,.string x.nm,.int .i64 x.iT,.string x.co] (by rfl) rfl fp.out (by simp[Value.oneCell']) (by unfold maxLen;omega) (by omega) hbase ?_;intro v' W4 hown hg _ _;obtain ⟨UM,QS⟩:=iB.out v' W4 hown hg;have N2:=aa QS;obtain ⟨g',cap',rfl⟩:=aC hown (by omega);have z0:=ay UM;have z0f:W4.frozen? ⟨q,0,none⟩=false:=(by simp[World.frozen?,UM]);clear hown hg QS UM iB bE fp)
  exact ⟨N2.out.gQ,.inl ⟨rfl,_,by rw[gX];exact N2.out.xJ _⟩⟩
 ·intro r W v hj;refine ⟨⟨r,rfl⟩,.inl ⟨hj.gQ,λro=>?_⟩⟩;have dQ:=hj.xJ ro;obtain ⟨W9,C5⟩:∃W9,W.putObj (q+1+1) (.loop ro)=W9:=⟨_,rfl⟩;rw[C5]at dQ ⊢;have c9:W9.cell? ⟨q,0,none⟩=some v:=ay dQ.sv;have Sl:=aa dQ.sy
  have om:=aa (show ol ba w (.returned v) (W9.putObj (q+1) (.deferred none)) from by
   have ho:aN (λk=>k=q+1) W9 (W9.putObj (q+1) (.deferred none)):=aN.rU _ dQ.sy (λ_ _ _ h=>by cases h) rfl;refine ⟨v,rfl,?_,?_⟩
   ·rw[<-HQ.out];refine cY (aJ dQ.row λk hk=>?_) (by omega);obtain ⟨a,c,hc⟩:=aw dQ.row hk;rw[hc];exact ho.same hc (by omega)
   ·rw[<-HQ.out];exact dQ.kE.trans ⟨ho.os,ho.tape,ho.output,ho.size,λk hk=>ho.keep k ⟨by have:=dQ.size;omega,by omega⟩⟩)
  obtain ⟨uX,vc,xK⟩:=aI dQ.row;subst xK;clear hj dQ C5;dsimp only;go_wp2_with fail;refine ⟨by simp,.inl ⟨_,_,rfl,run_takeDeferred Sl.out,?_⟩⟩;exact ⟨_,(by simp[results,Tryz.results78,go_sem]),om.out⟩
theorem zR(B bs:Nat)(v0:Value)(ba:List Sp)(w:World)(hn:ba.length<=7000)(hb:w.heap[bs]?=some (.cells #[v0] 64 (0,0)))(hr:bN w B v0 ba):
  Calls Tryz.prog 52 #[.func (.func 107) #[] #[.pointer (some ⟨bs,0,none⟩)]] w (ol ba w):=by
 have HA:=aa (uY B bs v0 ba w hn hb hr);go_enter Tryz.func52,Tryz.ntmps52;go_wp2_with fail;refine HA.out.mono ?_;rintro e w1 ⟨v,rfl,h1,h2⟩;have HE:=aa (show ol ba w (.returned v) w1 from ⟨v,rfl,h1,h2⟩);obtain ⟨uX,vc,hv⟩:=aI h1;subst hv;clear h1 h2 HA;go_wp2_with fail;go_ret;exact HE.out
def jg(w:World)(B:Nat)(v:Value)(cZ:List ByteArray):Prop:=w.ownsRow B 9 1 v cZ.length (cZ.map Value.string)
theorem wq:(Tryz.prog.info? 9).map (λi=>(i.zero,i.size,i.bytes))=some (some (.string ⟨#[]⟩),1,16):=by kernel_rfl
def lQ(cZ:List ByteArray)(w:World)(e:Ending)(w':World):Prop:=∃v,e=.returned v/\jg w' w.heap.size v cZ/\Below w.heap.size w w'
def eH(G:List GS)(st:List Nat):List ByteArray:=st.map λi=>((G[i]?).map GS.nm).getD ⟨#[]⟩
def Ko(G:List GS)(st:List Nat)(w W0:World)(k:Nat)(vn vi:Value)(wr:World):Prop:=
 ∃(j:Nat) (ao:Option Addr) (c:Nat),vi=.int .i64 j/\vn=.slice ao j c/\j+k=st.length/\jg wr W0.heap.size (.slice ao j c) (eH G (st.take j))/\Below W0.heap.size W0 wr/\w.heap.size<=W0.heap.size
set_option maxRecDepth 20000 in
set_option maxHeartbeats 2000000 in
theorem GI(g n cap:Nat)(G:List GS)(st:List Nat)(b9:Good G st)(w:World)(hG:cP w g n cap G):
  Calls Tryz.prog 80 #[kA st,.slice (some ⟨g,0,none⟩) n cap] w (lQ (eH G st) w):=by
 obtain ⟨a0,a1,a2,a3,a4,a5,a6,a7,a8,hst⟩:=nine b9.1.2;have h8:=dA b9.1.2;rw[hst]at h8;have ha8:a8=st.length:=by simp at h8;omega
 unfold kA;rw[hst,ha8];obtain ⟨W0,hW0⟩:∃W0,w.alloc (.cells #[.int .i64 a0,.int .i64 a1,.int .i64 a2,.int .i64 a3,.int .i64 a4,.int .i64 a5,.int .i64 a6,.int .i64 a7,.int .i64 st.length] 138)=W0:=⟨_,rfl⟩;have oq:W0.heap[w.heap.size]?=some (.cells (aH st).toArray 138 (0,0)):=by rw[<-hW0,hst,ha8];exact af _ _
 have hb0:Below w.heap.size w W0:=by rw[<-hW0];exact (Below.refl _ _).alloc (Nat.le_refl _) _
 have c8:W0.cell? ⟨w.heap.size,8,none⟩=some (.int .i64 st.length):=ah oq (by rw[List.getElem?_toArray];exact dA b9.1.2);have HG:=aa hG;have OH:=aa oq;have gR:=aa hb0;have abM:=b9.1.2;obtain ⟨n0,hi,hz0,hz1,hz3⟩:=info_parts wq;have uZ:Tryz.prog.arrayLen 136=8:=by kernel_rfl
 have gM:(st.length:Int)<=(Tryz.prog.arrayLen 136 : Int):=by rw[uZ];omega
 have Kq:(Instr.sliceAt 136 (.pointer (some ⟨w.heap.size,0,none⟩)) none (some (.int .i64 st.length)) none).run Tryz.prog W0=.ok (.slice (some ⟨w.heap.size,0,none⟩) st.length 8) W0:=by rw[run_sliceAt_array_h W0 136 _ (by kernel_rfl) .i64 _ (by omega) gM,uZ];simp[slicedAt,go_sem,Addr.add]
 clear hst h8 ha8 oq hb0 hG gM uZ;go_enter Tryz.func80,Tryz.ntmps80;go_wp2_with fail;obtain ⟨q,hq⟩:∃q,q=w.heap.size:=⟨_,rfl⟩;rw[<-hq];rw[<-hq]at OH;have HQ:=aa hq;clear Kq c8 hq hW0;go_loopg [5,13] st.length (λk vn vi wr=>Ko G st w W0 k vn vi wr)
 case atStart=>exact ⟨0,none,0,rfl,rfl,by omega,World.ownsRow_nil _ _ _ _,Below.refl _ _,gR.out.size⟩
 case round=>
  obtain ⟨j,uX,vc,rfl,rfl,hj,hrow,hb,hsz⟩:=hrel;by_cases hlt:j<st.length
  ·have g1:decide ((j:Int)<(st.length:Int))=true:=decide_eq_true (by omega);obtain ⟨i,vZ⟩:∃i,st[j]?=some i:=⟨_,List.getElem?_eq_getElem hlt⟩;have hiG:i<G.length:=b9.2 i (List.mem_of_getElem? vZ);obtain ⟨s,hs⟩:∃s,G[i]?=some s:=⟨_,List.getElem?_eq_getElem hiG⟩;have JO:=HG.out.below (gR.out.trans (hb.mono hsz));have mz:i<n:=by rw[JO.len];exact hiG
   have n1:=(JO.at_ i s hs).1;have s1:wr.cell? ⟨q,j,none⟩=some (.int .i64 i):=ah ((hb.block _ (ae OH.out)).trans OH.out) (by rw[List.getElem?_toArray];exact iH vZ);have hwr:IntKind.i64.wrap ((j:Int)+1)=(j:Int)+1:=by rw[IntKind.wrap_i64];omega
   have Kr:(eH G (st.take j)).length=j:=by unfold eH;rw[List.length_map,List.length_take];omega
   have gX:eH G (st.take (j+1))=eH G (st.take j)++[s.nm]:=by unfold eH;rw[List.take_add_one,vZ];simp[hs]
   have bE:=aa (show (wr.alloc (.cells #[.string s.nm] 9)).ownsRow W0.heap.size 9 1 (.slice uX j vc) j ((eH G (st.take j)).map Value.string) from by unfold jg at hrow;rw[Kr]at hrow;exact aJ hrow λk hk=>((Below.refl _ _).alloc (Nat.le_refl _) _).block k (by obtain ⟨_,c,hc⟩:=aw hrow hk;exact ae hc))
   have fp:=aa (λ(y:Nat) u (h:([.string s.nm]:List Value)[y]?=some u)=>show (wr.alloc (.cells #[.string s.nm] 9)).cell? ((⟨wr.heap.size,0,none⟩:Addr).add y)=some u from aF wr #[.string s.nm] _ y u h);have hbase:W0.heap.size<=(wr.alloc (.cells #[.string s.nm] 9)).heap.size:=by rw[World.size_alloc];have:=hb.size;omega
   have iB:=aa (λ(v':Value) (W4:World) (hr:W4.ownsRow W0.heap.size 9 1 v' (j+1) ((eH G (st.take j)).map Value.string++[.string s.nm])) (hg:(wr.alloc (.cells #[.string s.nm] 9)).grownBy W4 (Value.slice uX j vc).ownBlock)=>show Ko G st w W0 (st.length - (j+1)) v' (.int .i64 ((j:Int)+1)) W4 from by
    obtain ⟨ZB,c2,hv2⟩:=aI hr;subst hv2;refine ⟨j+1,ZB,c2,by simp,rfl,by omega,?_,?_,hsz⟩
    ·unfold jg;rw[gX,List.length_append,Kr,List.map_append];exact hr
    ·have hb2:Below W0.heap.size W0 (wr.alloc (.cells #[.string s.nm] 9)):=hb.alloc hb.size _;exact hb2.trans (ek hb2.size hg λk hk=>(aw bE.out hk).1))
   clear hrow hb JO vZ hs gX
   go_wp2_with (at_builtin;go_loud (refine wpList_append_own_at _ rfl (.tmp 17) (.tmp 23) 61 rfl W0.heap.size 9 n0 (.string ⟨#[]⟩) 1 16 Tryz.underlying61 hi hz0 hz1 hz3 rfl (by decide) (.slice uX j vc) j ((eH G (st.take j)).map Value.string) (by rfl) bE.out ⟨wr.heap.size,0,none⟩ 1 1 [.string s.nm] (by rfl) rfl fp.out (by simp[Value.oneCell']) (by unfold maxLen;omega) (by omega) hbase ?_;intro v' W4 hown hg _ _;have HST:=aa (iB.out v' W4 hown hg);obtain ⟨g',cap',rfl⟩:=aC hown (by omega);clear hown hg iB bE fp))
   go_wp2_with fail;go_roundg (st.length - (j+1))
   case measure=>omega
   case rel=>exact HST.out
  ·have g1:decide ((j:Int)<(st.length:Int))=false:=decide_eq_false (by omega);obtain rfl:j=st.length:=by omega
   have ai:=aa (show lQ (eH G st) w (.returned (.slice uX st.length vc)) wr from ⟨_,rfl,by rw[List.take_length]at hrow;exact cY hrow hsz,gR.out.trans (hb.mono hsz)⟩);clear hrow hb;go_wp2_with fail;go_ret;exact ai.out
def sI(T:List UInt8)(w:World)(e:Ending)(w':World):Prop:=∃v cZ,e=.returned v/\jg w' w.heap.size v cZ/\cZ.map (·.data.toList)=aA T/\Below w.heap.size w w'
def C6(s:ByteArray)(w:World)(k:Nat)(vl va vi:Value)(wr:World):Prop:=
 ∃(a i:Nat) (cZ:List ByteArray) (ao:Option Addr) (c:Nat),vl=.slice ao cZ.length c/\va=.int .i64 a/\vi=.int .i64 i/\i+k=s.size/\a<=i/\jg wr w.heap.size (.slice ao cZ.length c) cZ/\cZ.length<=i/\cZ.map (·.data.toList)++aA (rest s a)=aA s.data.toList/\(∀m,a<=m->m<i->s.data.toList[m]?≠some 10)/\Below w.heap.size w wr
theorem jg.snoc{cZ:List ByteArray}{x:ByteArray}(h:jg W w.heap.size v cZ)(hb:Below w.heap.size w W)(hr:W4.ownsRow w.heap.size 9 1 v' (cZ.length+1) (cZ.map Value.string++[.string x]))(hg:(W.alloc o).grownBy W4 v.ownBlock):jg W4 w.heap.size v' (cZ++[x])/\Below w.heap.size w W4:=by
 refine ⟨?_,?_⟩
 ·unfold jg;rw[List.length_append,List.map_append];exact hr
 ·have hb2:Below w.heap.size w (W.alloc o):=hb.alloc hb.size _;exact hb2.trans (ek hb2.size hg λk hk=>(aw h hk).1)
set_option maxRecDepth 20000 in
set_option maxHeartbeats 2000000 in
theorem xL(s:ByteArray)(w:World)(hz:s.size<=3000):Calls Tryz.prog 63 #[.string s] w (sI s.data.toList w):=by
 obtain ⟨i0,Ks,hz0,hz1,hz3⟩:=info_parts wq;go_enter Tryz.func63,Tryz.ntmps63;go_wp2_with fail;go_loopg [3,4,5] s.size (λk vl va vi wr=>C6 s w k vl va vi wr)
 case atStart=>exact ⟨0,0,[],none,0,rfl,rfl,rfl,by omega,Nat.le_refl _,World.ownsRow_nil _ _ _ _,Nat.le_refl _,by simp[rest],λm h1 h2=>by omega,Below.refl _ _⟩
 case round=>
  obtain ⟨a,i,cZ,ao,c,rfl,rfl,rfl,hk,hai,hrow,eT,Kt,VT,hb⟩:=hrel;have QT:=aa hrow;have VU:=aa Kt;have HNT:=aa VT;have HBx:=aa hb;by_cases hlt:i<s.size
  ·have g1:decide ((i:Int)<(s.size:Int))=true:=decide_eq_true (by omega);have hwr:IntKind.i64.wrap ((i:Int)+1)=(i:Int)+1:=by rw[IntKind.wrap_i64];omega
   by_cases h10:s[i]=10
   ·have q1:(((s[i].toNat:Nat):Int)==10)=true:=by rw[h10];rfl
    have CB:=aa (show rest s a=(s.extract a i).data.toList++10::rest s (i+1) by rw[eo hai,bm hlt,h10]);have pN:=aa (xM HNT.out);have aae:(a:Int)<=(i:Int):=by omega
    have abN:(i:Int)<=(s.size:Int):=by omega
    have bE:=aa (show (wr.alloc (.cells #[.string (s.extract a i)] 9)).ownsRow w.heap.size 9 1 (.slice ao cZ.length c) cZ.length (cZ.map Value.string) from aJ hrow λk hk=>by obtain ⟨_,c,hc⟩:=aw hrow hk;exact ((Below.refl _ _).alloc (Nat.le_refl _) _).block k (ae hc))
    have fp:=aa (λ(y:Nat) u (h:([.string (s.extract a i)]:List Value)[y]?=some u)=>show (wr.alloc (.cells #[.string (s.extract a i)] 9)).cell? ((⟨wr.heap.size,0,none⟩:Addr).add y)=some u from aF wr #[.string (s.extract a i)] _ y u h);have hbase:w.heap.size<=(wr.alloc (.cells #[.string (s.extract a i)] 9)).heap.size:=by rw[World.size_alloc];have:=hb.size;omega
    have iB:=aa (λ(v':Value) (W4:World) (hr:W4.ownsRow w.heap.size 9 1 v' (cZ.length+1) (cZ.map Value.string++[.string (s.extract a i)])) (hg:(wr.alloc (.cells #[.string (s.extract a i)] 9)).grownBy W4 (Value.slice ao cZ.length c).ownBlock)=>show C6 s w (s.size - (i+1)) v' (.int .i64 ((i:Int)+1)) (.int .i64 ((i:Int)+1)) W4 from by
     obtain ⟨a1,a2⟩:=QT.out.snoc HBx.out hr hg;obtain ⟨pE,c',hv'⟩:=aI hr;subst hv';have hl:(cZ++[s.extract a i]).length=cZ.length+1:=by simp
     refine ⟨i+1,i+1,cZ++[s.extract a i],pE,c',by rw[hl],by simp,by simp,by omega,Nat.le_refl _,by rw[hl];exact a1,by rw[hl];omega,?_,λm h1 h2=>by omega,a2⟩;rw[<-VU.out,CB.out,sJ pN.out];simp)
    clear hrow Kt VT hb h10
    go_wp2_with (at_builtin;go_loud (refine wpList_append_own_at _ rfl (.tmp 16) (.tmp 21) 61 rfl w.heap.size 9 i0 (.string ⟨#[]⟩) 1 16 Tryz.underlying61 Ks hz0 hz1 hz3 rfl (by decide) (.slice ao cZ.length c) cZ.length (cZ.map Value.string) (by rfl) bE.out ⟨wr.heap.size,0,none⟩ 1 1 [.string (s.extract a i)] (by rfl) rfl fp.out (by simp[Value.oneCell']) (by unfold maxLen;omega) (by omega) hbase ?_;intro v' W4 hown hg _ _;have HST:=aa (iB.out v' W4 hown hg);obtain ⟨g',cap',rfl⟩:=aC hown (by omega);clear hown hg iB bE fp))
    go_wp2_with fail;go_roundg (s.size - (i+1))
    case measure=>omega
    case rel=>exact HST.out
   ·have q1:(((s[i].toNat:Nat):Int)==10)=false:=by rw[beq_eq_false_iff_ne];intro e;exact h10 (UInt8.toNat_inj.1 (by show s[i].toNat=10;omega))
    have HST:=aa (show C6 s w (s.size - (i+1)) (.slice ao cZ.length c) (.int .i64 a) (.int .i64 ((i:Int)+1)) wr from ⟨a,i+1,cZ,ao,c,rfl,rfl,by simp,by omega,by omega,hrow,by omega,Kt,λm h1 h2=>by
     rcases Nat.lt_or_ge m i with h3|h3
     ·exact VT m h1 h3
     ·obtain rfl:m=i:=by omega
      intro e;apply h10;have h4:s.data.toList[m]?=some s[m]:=by rw[List.getElem?_eq_getElem (by simpa using hlt)];rfl
      rw[h4]at e;exact Option.some.inj e,hb⟩)
    clear hrow Kt VT hb h10;go_wp2_with fail;go_roundg (s.size - (i+1))
    case measure=>omega
    case rel=>exact HST.out
  ·have g1:decide ((i:Int)<(s.size:Int))=false:=decide_eq_false (by omega);obtain rfl:i=s.size:=by omega
   have aae:(a:Int)<=(s.size:Int):=by omega
   have bE:=aa (show (wr.alloc (.cells #[.string (s.extract a s.size)] 9)).ownsRow w.heap.size 9 1 (.slice ao cZ.length c) cZ.length (cZ.map Value.string) from aJ hrow λk hk=>by obtain ⟨_,c,hc⟩:=aw hrow hk;exact ((Below.refl _ _).alloc (Nat.le_refl _) _).block k (ae hc))
   have fp:=aa (λ(y:Nat) u (h:([.string (s.extract a s.size)]:List Value)[y]?=some u)=>show (wr.alloc (.cells #[.string (s.extract a s.size)] 9)).cell? ((⟨wr.heap.size,0,none⟩:Addr).add y)=some u from aF wr #[.string (s.extract a s.size)] _ y u h)
   have hbase:w.heap.size<=(wr.alloc (.cells #[.string (s.extract a s.size)] 9)).heap.size:=by rw[World.size_alloc];have:=hb.size;omega
   have iB:=aa (λ(v':Value) (W4:World) (hr:W4.ownsRow w.heap.size 9 1 v' (cZ.length+1) (cZ.map Value.string++[.string (s.extract a s.size)])) (hg:(wr.alloc (.cells #[.string (s.extract a s.size)] 9)).grownBy W4 (Value.slice ao cZ.length c).ownBlock)=>show sI s.data.toList w (.returned v') W4 from by
    obtain ⟨a1,a2⟩:=QT.out.snoc HBx.out hr hg;refine ⟨v',_,rfl,a1,?_,a2⟩;have he:=cQ (s:=s) (i:=a) (Nat.le_refl s.size);have GJ:=xM HNT.out;rw[he]at GJ;rw[<-VU.out,sK GJ,List.map_append,<-he];rfl)
   clear hrow Kt VT hb
   go_wp2_with (at_builtin;go_loud (refine wpList_append_own_at _ rfl (.tmp 25) (.tmp 29) 61 rfl w.heap.size 9 i0 (.string ⟨#[]⟩) 1 16 Tryz.underlying61 Ks hz0 hz1 hz3 rfl (by decide) (.slice ao cZ.length c) cZ.length (cZ.map Value.string) (by rfl) bE.out ⟨wr.heap.size,0,none⟩ 1 1 [.string (s.extract a s.size)] (by rfl) rfl fp.out (by simp[Value.oneCell']) (by unfold maxLen;omega) (by omega) hbase ?_;intro v' W4 hown hg _ _;have ai:=aa (iB.out v' W4 hown hg);obtain ⟨g',cap',rfl⟩:=aC hown (by omega);clear hown hg iB bE fp))
   go_wp2_with fail;go_ret;exact ai.out
end Go.Proofs.YtgncgdkpkkdaeaaGreatDoor
