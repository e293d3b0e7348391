import Derived.Test.YtgncgdkpkkdaeaaGreatDoorMU
namespace Go.Proofs.YtgncgdkpkkdaeaaGreatDoor
open Go.RowKit aO Go.Maps
variable {ds:List FD} {G:List GS} {B N cap g i j n:Nat} {F:Nat->List FD} {f:Nat->Option Value} {A Z:Nat->Prop} {v:Value} {w w':World}
structure PD where
 K:Nat
 kv:Nat
 wk:Nat
 sb:Nat
def Wl(d:PD)(f:Nat->Option Value)(k:Nat):Prop:=k≠d.sb/\k≠d.kv/\k≠d.wk/\k≠d.K/\∀i v,f i=some v->v.ownBlock≠some k
def kH(f:Nat->Option Value):Nat:=((List.range 12).filter λi=>(f i).isSome).length
theorem sN(hi:i<12)(hf:f i=none):kH (λy=>if y=i then some v else f y)=kH f+1:=by
 have key:∀(l:List Nat),l.Nodup->(l.filter λy=>((if y=i then some v else f y):Option Value).isSome).length=(l.filter λy=>(f y).isSome).length+(if i∈l then 1 else 0):=by
  intro l hl
  induction l with
  | nil=>simp
  | cons x t ih=>
   have ht:=ih (List.nodup_cons.1 hl).2;have hx:=(List.nodup_cons.1 hl).1;by_cases e:x=i
   ·subst e;have:(t.filter λy=>((if y=x then some v else f y):Option Value).isSome).length=(t.filter λy=>(f y).isSome).length:=by rw[ht,if_neg hx];rfl
    simp[hf,this]
   ·have Fg:(i∈x::t)=(i∈t):=by simp[Ne.symm e]
    rw[List.filter_cons,List.filter_cons];simp only[if_neg e,Fg];split<;>simp[ht]<;>omega
 have:=key (List.range 12) List.nodup_range;rw[if_pos (List.mem_range.2 hi)]at this;exact this
structure aH(w:World)(N:Nat)(A:Nat->Prop)(g n cap:Nat)(G:List GS)(d:PD)(f:Nat->Option Value)(F:Nat->List FD):Prop where
 old:∀k,A k->N<=k/\k<w.heap.size
 size:N<=w.heap.size
 tab:1 < N/\kK w
 gD:∀w',Below N w w'->bR w' g n cap G
 KM:A d.sb/\w.heap[d.sb]?=some (.cells #[.slice (some ⟨g,0,none⟩) n cap] 36 (0,0))
 pg:A d.kv/\w.heap[d.kv]?=some (.cells #[.map (some d.K)] 276 (0,0))
 tP:A d.wk/\w.heap[d.wk]?=some (.cells #[.func (.func 120) #[] #[.pointer (some ⟨d.sb,0,none⟩)]] 169 (0,0))
 map:A d.K/\∃m,gp ny w d.K m f/\m<=kH f
 fin:∀i v,f i=some v->∃s ao cp,v=.slice ao s.rs.length cp/\G[i]?=some s/\(F i).map FD.a=s.rs.map GR.a/\cK w N v (F i)/\∀k,v.ownBlock=some k->A k
 own:∀i v,f i=some v->∀x∈F i,∀k,x.O k->A k/\Wl d f k
 apart:∀i j vi vj,f i=some vi->f j=some vj->i≠j->∀x∈F i,∀y∈F j,∀k,x.O k->¬y.O k
theorem cK.kept(h:cK w B v ds)(ho:aK Z w w')(hv:∀k,v.ownBlock=some k->¬Z k)(hd:∀x∈ds,∀k,x.O k->¬Z k):cK w' B v ds:=
 ⟨aG h.row λk hk=>by obtain ⟨_,c,hc⟩:=aj h.row hk;exact ho.keep k ⟨ae hc,hv k hk⟩,λx hx=>⟨(h.each x hx).1.off ho (hd x hx),(h.each x hx).2⟩,h.apart,h.off⟩
variable {d:PD}
theorem aH.off(h:aH w N A g n cap G d f F)(ho:aK Z w w')(hz:∀k,Z k->N<=k/\¬A k):aH w' N A g n cap G d f F:=by
 have hb:Below N w w':=⟨ho.os,ho.tape,ho.output,ho.size,λk hk=>ho.keep k ⟨Nat.lt_of_lt_of_le hk h.size,λhz'=>by have:=(hz k hz').1;omega⟩⟩;have hA:∀k,A k->¬Z k:=λk ha hz'=>(hz k hz').2 ha
 refine ⟨λk hk=>⟨(h.old k hk).1,Nat.lt_of_lt_of_le (h.old k hk).2 ho.size⟩,Nat.le_trans h.size ho.size,⟨h.tab.1,h.tab.2.keep (hb.block _ h.tab.1)⟩,λw'' hb'=>h.gD w'' (hb.trans hb'),⟨h.KM.1,ho.same h.KM.2 (hA _ h.KM.1)⟩,⟨h.pg.1,ho.same h.pg.2 (hA _ h.pg.1)⟩,⟨h.tP.1,ho.same h.tP.2 (hA _ h.tP.1)⟩,⟨h.map.1,?_⟩,λi v hi=>?_,h.own,h.apart⟩
 ·obtain ⟨m,hm,hk⟩:=h.map.2;exact ⟨m,hm.keep (ho.keep _ ⟨hm.lt,hA _ h.map.1⟩),hk⟩
 ·obtain ⟨s,ao,cp,e1,e2,e3,e4,e5⟩:=h.fin i v hi;exact ⟨s,ao,cp,e1,e2,e3,e4.kept ho (λk hk=>hA k (e5 k hk)) (λx hx k hk=>hA k (h.own i v hi x hx k hk).1),e5⟩
theorem aH.below(h:aH w N A g n cap G d f F)(hb:Below w.heap.size w w'):aH w' N A g n cap G d f F:=
 h.off (Z:=λ_=>False) (aK.au hb) (λ_ hk=>hk.elim)
theorem fQ{α:Type}{l:List α}{q:Nat}{x y:α}(h:(l.set j x)[q]?=some y):(q=j/\y=x)∨(q≠j/\l[q]?=some y):=by
 rw[List.getElem?_set]at h;split at h
 ·rename_i e;split at h
  ·exact .inl ⟨e.symm,(Option.some.inj h).symm⟩
  ·cases h
 ·rename_i e;exact .inr ⟨λe'=>e e'.symm,h⟩
theorem aH.use{O':Nat->Prop}(h:aH w N A g n cap G d f F){x:FD}(hi:f i=some v)(hx:(F i)[j]?=some x)(ho:aK (λk=>x.O k∨Z k) w w')(hz:∀k,Z k->N<=k/\¬A k)(hO:∀k,O' k->x.O k∨w.heap.size<=k)(hF:aP w' O' x.a x.ρf x.sf x.ρb x.sb):
  aH w' N (λk=>A k∨O' k) g n cap G d f (λy=>if y=i then (F i).set j { x with O:=O' } else F y):=by
 have AQ:=List.mem_of_getElem? hx;have KN:∀k,x.O k->A k:=λk hk=>(h.own i v hi x AQ k hk).1
 have hb:Below N w w':=⟨ho.os,ho.tape,ho.output,ho.size,λk hk=>ho.keep k ⟨Nat.lt_of_lt_of_le hk h.size,λhz'=>by
  rcases hz' with h1|h1
  ·have:=(h.old k (KN k h1)).1;omega
  ·have:=(hz k h1).1;omega⟩⟩
 have hA:∀k,A k->¬x.O k->¬(x.O k∨Z k):=λk ha hn hz'=>hz'.elim hn (λh1=>(hz k h1).2 ha)
 have fF:∀k,x.O k->Wl d f k:=λk hk=>(h.own i v hi x AQ k hk).2
 have aaX:∀k,O' k->k<w'.heap.size:=hF.old
 refine ⟨λk hk=>?_,Nat.le_trans h.size ho.size,⟨h.tab.1,h.tab.2.keep (hb.block _ h.tab.1)⟩,λw'' hb'=>h.gD w'' (hb.trans hb'),⟨.inl h.KM.1,ho.same h.KM.2 (hA _ h.KM.1 λe=>(fF _ e).1 rfl)⟩,⟨.inl h.pg.1,ho.same h.pg.2 (hA _ h.pg.1 λe=>(fF _ e).2.1 rfl)⟩,⟨.inl h.tP.1,ho.same h.tP.2 (hA _ h.tP.1 λe=>(fF _ e).2.2.1 rfl)⟩,⟨.inl h.map.1,?_⟩,λi' v' hi'=>?_,λi' v' hi' y hy k hk=>?_,λi' j' vi vj hi' hj' hne y hy z hz' k eJ hk2=>?_⟩
 ·rcases hk with hk|hk
  ·exact ⟨(h.old k hk).1,Nat.lt_of_lt_of_le (h.old k hk).2 ho.size⟩
  ·refine ⟨?_,aaX k hk⟩;rcases hO k hk with h1|h1
   ·exact (h.old k (KN k h1)).1
   ·exact Nat.le_trans h.size h1
 ·obtain ⟨m,hm,hk⟩:=h.map.2;exact ⟨m,hm.keep (ho.keep _ ⟨hm.lt,hA _ h.map.1 λe=>(fF _ e).2.2.2.1 rfl⟩),hk⟩
 ·obtain ⟨s,ao,cp,e1,e2,e3,e4,e5⟩:=h.fin i' v' hi';have hrow:∀k,v'.ownBlock=some k->¬(x.O k∨Z k):=λk hk=>hA k (e5 k hk) (λDW=>(fF k DW).2.2.2.2 i' v' hi' hk)
  by_cases ry:i'=i
  ·subst ry;rw[hi]at hi';cases hi';refine ⟨s,ao,cp,e1,e2,?_,⟨?_,λy hy=>?_,λa b y z k hy hz' hab eJ hk2=>?_,λy hy k hk eJ=>?_⟩,λk hk=>.inl (e5 k hk)⟩
   ·rw[if_pos rfl,<-e3,List.map_set];refine List.ext_getElem? λq=>?_
    rw[List.getElem?_set];split
    ·rename_i e;subst e;have:=aw hx;rw[if_pos (by simpa using this),List.getElem?_map,hx];rfl
    ·rfl
   ·rw[if_pos rfl];have hl:((F i').set j { x with O:=O' }).length=(F i').length:=List.length_set ..
    have hc:((F i').set j { x with O:=O' }).flatMap FD.cells=(F i').flatMap FD.cells:=by
     rw[List.flatMap_def,List.flatMap_def,List.map_set];congr 1;refine List.ext_getElem? λq=>?_
     rw[List.getElem?_set];split
     ·rename_i e;subst e;have:=aw hx;rw[if_pos (by simpa using this),List.getElem?_map,hx];rfl
     ·rfl
    rw[hl,hc];exact aG e4.row λk hk=>by obtain ⟨_,c,hc⟩:=aj e4.row hk;exact ho.keep k ⟨ae hc,hrow k hk⟩
   ·rw[if_pos rfl]at hy;obtain ⟨q,hq⟩:=List.mem_iff_getElem?.1 hy;rcases fQ hq with ⟨_,rfl⟩|⟨hqj,hq⟩
    ·refine ⟨hF,λk hk=>?_⟩;rcases hO k hk with h1|h1
     ·exact (h.old k (KN k h1)).1
     ·exact Nat.le_trans h.size h1
    ·have hym:=List.mem_of_getElem? hq;exact ⟨(e4.each y hym).1.off ho λk hk=>hA k (h.own i' v hi y hym k hk).1 (λGG=>e4.apart q j y x k hq hx hqj hk GG),(e4.each y hym).2⟩
   ·rw[if_pos rfl]at hy hz';rcases fQ hy with ⟨ha,rfl⟩|⟨ha,hy⟩
    ·rcases fQ hz' with ⟨hb',rfl⟩|⟨hb',hz'⟩
     ·omega
     ·rcases hO k eJ with h1|h1
      ·exact e4.apart j b x z k hx hz' (by omega) h1 hk2
      ·have:=(e4.each z (List.mem_of_getElem? hz')).1.old k hk2;omega
    ·rcases fQ hz' with ⟨hb',rfl⟩|⟨hb',hz'⟩
     ·rcases hO k hk2 with h1|h1
      ·exact e4.apart a j y x k hy hx (by omega) eJ h1
      ·have:=(e4.each y (List.mem_of_getElem? hy)).1.old k eJ;omega
     ·exact e4.apart a b y z k hy hz' hab eJ hk2
   ·rw[if_pos rfl]at hy;obtain ⟨q,hq⟩:=List.mem_iff_getElem?.1 hy;rcases fQ hq with ⟨_,rfl⟩|⟨hqj,hq⟩
    ·rcases hO k eJ with h1|h1
     ·exact e4.off x AQ k hk h1
     ·obtain ⟨_,c,hc⟩:=aj e4.row hk;have:=ae hc;omega
    ·exact e4.off y (List.mem_of_getElem? hq) k hk eJ
  ·rw[if_neg ry];exact ⟨s,ao,cp,e1,e2,e3,e4.kept ho hrow (λy hy k hk=>hA k (h.own i' v' hi' y hy k hk).1 (λGG=>h.apart i' i v' v hi' hi ry y hy x AQ k hk GG)),λk hk=>.inl (e5 k hk)⟩
 ·have eW:∀k,w.heap.size<=k->Wl d f k:=λk hk=>⟨λe=>by have:=(h.old _ h.KM.1).2;omega,λe=>by have:=(h.old _ h.pg.1).2;omega,λe=>by have:=(h.old _ h.tP.1).2;omega,λe=>by have:=(h.old _ h.map.1).2;omega,λi2 v2 h2 e=>by obtain ⟨_,_,_,_,_,_,_,e5⟩:=h.fin i2 v2 h2;have:=(h.old _ (e5 k e)).2;omega⟩
  by_cases ry:i'=i
  ·subst ry;rw[if_pos rfl]at hy;obtain ⟨q,hq⟩:=List.mem_iff_getElem?.1 hy;rcases fQ hq with ⟨_,rfl⟩|⟨hqj,hq⟩
   ·refine ⟨.inr hk,?_⟩;rcases hO k hk with h1|h1
    ·exact fF k h1
    ·exact eW k h1
   ·have:=h.own i' v' hi' y (List.mem_of_getElem? hq) k hk;exact ⟨.inl this.1,this.2⟩
  ·rw[if_neg ry]at hy;have:=h.own i' v' hi' y hy k hk;exact ⟨.inl this.1,this.2⟩
 ·have hlt:∀i2 v2,f i2=some v2->∀y∈F i2,y.O k->k<w.heap.size:=λi2 v2 h2 y hy hk=>(h.old k (h.own i2 v2 h2 y hy k hk).1).2
  by_cases ry:i'=i
  ·subst ry;rw[if_pos rfl]at hy;rw[if_neg (Ne.symm hne)]at hz';obtain ⟨q,hq⟩:=List.mem_iff_getElem?.1 hy;rcases fQ hq with ⟨_,rfl⟩|⟨hqj,hq⟩
   ·rcases hO k eJ with h1|h1
    ·exact h.apart i' j' vi vj hi' hj' hne x AQ z hz' k h1 hk2
    ·have:=hlt j' vj hj' z hz' hk2;omega
   ·exact h.apart i' j' vi vj hi' hj' hne y (List.mem_of_getElem? hq) z hz' k eJ hk2
  ·rw[if_neg ry]at hy;by_cases AG:j'=i
   ·subst AG;rw[if_pos rfl]at hz';obtain ⟨q,hq⟩:=List.mem_iff_getElem?.1 hz';rcases fQ hq with ⟨_,rfl⟩|⟨hqj,hq⟩
    ·rcases hO k hk2 with h1|h1
     ·exact h.apart i' j' vi vj hi' hj' hne y hy x AQ k eJ h1
     ·have:=hlt i' vi hi' y hy eJ;omega
    ·exact h.apart i' j' vi vj hi' hj' hne y hy z (List.mem_of_getElem? hq) k eJ hk2
   ·rw[if_neg AG]at hz';exact h.apart i' j' vi vj hi' hj' hne y hy z hz' k eJ hk2
def ja(d:PD):Value:=.func (.func 159) #[] #[.pointer (some ⟨d.kv,0,none⟩),.pointer (some ⟨d.wk,0,none⟩)]
def pv(g n cap:Nat)(d:PD):Value:=.agg #[.slice (some ⟨g,0,none⟩) n cap,ja d]
def Dk(v:Array Value)(w:World)(e:Ending)(w':World):Prop:=
 e=.returned (.func (.func 159) #[] #[.pointer (some ⟨w.heap.size+1+1,0,none⟩),.pointer (some ⟨w.heap.size,0,none⟩)])/\Below w.heap.size w w'/\w'.heap.size=w.heap.size+3/\w'.heap[w.heap.size+1+1]?=some (.cells #[.map (some (w.heap.size+1))] 276 (0,0)) /\
  w'.heap[w.heap.size]?=some (.cells #[.func (.func 120) #[] v] 169 (0,0))/\gp ny w' (w.heap.size+1) 0 (λ_=>none)
set_option maxRecDepth 20000 in
set_option maxHeartbeats 1000000 in
theorem xB(v:Array Value)(w:World):Calls Tryz.prog 119 #[.func (.func 120) #[] v] w (Dk v w):=by
 have ED:=@run_makeMap Tryz.prog;go_enter Tryz.func119,Tryz.ntmps119;go_wp2_with fail;go_ret;have hM:=gp.made ny (w.alloc (.cells #[.func (.func 120) #[] v] 169));have h1:=af w (.cells #[.func (.func 120) #[] v] 169)
 have h2:=af ((w.alloc (.cells #[.func (.func 120) #[] v] 169)).alloc (.map #[] 0)) (.cells #[.map (some (w.heap.size+1))] 276);have b1:Below w.heap.size w (w.alloc (.cells #[.func (.func 120) #[] v] 169)):=(Below.refl _ _).alloc (Nat.le_refl _) _
 have b2:=b1.alloc (o:=.map #[] 0) (by simp);have b3:=b2.alloc (o:=.cells #[.map (some (w.heap.size+1))] 276) (by simp;omega);refine ⟨rfl,b3,by simp,by simpa using h2,heap_alloc_old (heap_alloc_old h1),?_⟩;rw[show (w.alloc (.cells #[.func (.func 120) #[] v] 169)).heap.size=w.heap.size+1 by simp]at hM;refine hM.keep ?_
 obtain ⟨es,kY,ho⟩:=hM.obj;rw[ho];exact heap_alloc_old ho
def Il(g n cap:Nat)(G:List GS)(w:World)(e:Ending)(w':World):Prop:=
 ∃d,e=.returned (pv g n cap d)/\Below w.heap.size w w'/\aH w' w.heap.size (λk=>w.heap.size<=k/\k<w'.heap.size) g n cap G d (λ_=>none) (λ_=>[])
set_option maxRecDepth 20000 in
set_option maxHeartbeats 1000000 in
theorem RL(g n cap:Nat)(G:List GS)(w:World)(hT:kK w)(h0:1 < w.heap.size)(hG:bR w g n cap G):
  Calls Tryz.prog 91 #[.slice (some ⟨g,0,none⟩) n cap] w (Il g n cap G w):=by
 obtain ⟨q,hq⟩:∃q,q=w.heap.size:=⟨_,rfl⟩;obtain ⟨W,hW⟩:∃W,(w.alloc (.cells #[.slice (some ⟨g,0,none⟩) n cap] 36)).alloc (.cells #[.slice none 0 0,.nilFunc] 171)=W:=⟨_,rfl⟩;have jJ:Below w.heap.size w W:=by rw[<-hW];exact ((Below.refl _ _).alloc (Nat.le_refl _) _).alloc (by simp) _
 have hWs:W.heap.size=q+1+1:=by rw[<-hW,hq];simp
 have HW:=aa (show W.heap[q]?=some (.cells #[.slice (some ⟨g,0,none⟩) n cap] 36 (0,0))/\W.heap[q+1]?=some (.cells #[.slice none 0 0,.nilFunc] 171 (0,0)) from by
  rw[<-hW,hq];have h1:=af w (.cells #[.slice (some ⟨g,0,none⟩) n cap] 36);have h2:=af (w.alloc (.cells #[.slice (some ⟨g,0,none⟩) n cap] 36)) (.cells #[.slice none 0 0,.nilFunc] 171);simp only[World.size_alloc]at h2;exact ⟨heap_alloc_old h1,h2⟩)
 have wU:=aa (λ(W':World) (hb:Below W.heap.size W W')=>show W'.cell? ⟨q,0,none⟩=some (.slice (some ⟨g,0,none⟩) n cap)/\(W'.cell? ⟨q+1,0,none⟩=some (.slice none 0 0)/\W'.frozen? ⟨q+1,0,none⟩=false/\W'.cell? ⟨q+1,1,none⟩=some .nilFunc/\W'.frozen? ⟨q+1,1,none⟩=false) from by
  obtain ⟨h1,h2⟩:=HW.out;have k1:=(hb.block _ (ae h1)).trans h1;have k2:=(hb.block _ (ae h2)).trans h2;exact ⟨by simp[World.cell?,k1],by simp[World.cell?,World.frozen?,k2]⟩)
 have HR:=aa (xB #[.pointer (some ⟨q,0,none⟩)] W.drew)
 have ai:=aa (show ∀(e4:Ending) (w4:World),Dk #[.pointer (some ⟨q,0,none⟩)] W.drew e4 w4->∃w5,(w4.setCell ⟨q+1,0,none⟩ (.slice (some ⟨g,0,none⟩) n cap)).setCell ⟨q+1,1,none⟩ (.func (.func 159) #[] #[.pointer (some ⟨q+1+1+1+1,0,none⟩),.pointer (some ⟨q+1+1,0,none⟩)])=w5/\w5.heap[q+1]?=some (.cells #[.slice (some ⟨g,0,none⟩) n cap,.func (.func 159) #[] #[.pointer (some ⟨q+1+1+1+1,0,none⟩),.pointer (some ⟨q+1+1,0,none⟩)]] 171 (0,0))/\Il g n cap G w (.returned (.agg #[.slice (some ⟨g,0,none⟩) n cap,.func (.func 159) #[] #[.pointer (some ⟨q+1+1+1+1,0,none⟩),.pointer (some ⟨q+1+1,0,none⟩)]])) w5 from by
  rintro e4 w4 ⟨-,hb4,qX,h4a,h4b,h4c⟩;have hd:W.drew.heap.size=q+1+1:=hWs;rw[hd]at qX h4a h4b h4c;have jX:Below W.heap.size W w4:=⟨hb4.os,hb4.tape,hb4.output,hb4.size,hb4.block⟩;obtain ⟨h1,h2⟩:=HW.out;have k1:=(jX.block _ (ae h1)).trans h1;have k2:=(jX.block _ (ae h2)).trans h2;have s1:=heap_setCell_same w4 (q+1) 0 (.slice (some ⟨g,0,none⟩) n cap) k2
  have s2:=heap_setCell_same _ (q+1) 1 (.func (.func 159) #[] #[.pointer (some ⟨q+1+1+1+1,0,none⟩),.pointer (some ⟨q+1+1,0,none⟩)]) s1
  have Sq:∀k,k≠q+1->((w4.setCell ⟨q+1,0,none⟩ (.slice (some ⟨g,0,none⟩) n cap)).setCell ⟨q+1,1,none⟩ (.func (.func 159) #[] #[.pointer (some ⟨q+1+1+1+1,0,none⟩),.pointer (some ⟨q+1+1,0,none⟩)])).heap[k]?=w4.heap[k]?:=λk hk=>by rw[Below.heap_setCell _ _ _ _ (by exact hk),Below.heap_setCell _ _ _ _ (by exact hk)]
  have hsz:((w4.setCell ⟨q+1,0,none⟩ (.slice (some ⟨g,0,none⟩) n cap)).setCell ⟨q+1,1,none⟩ (.func (.func 159) #[] #[.pointer (some ⟨q+1+1+1+1,0,none⟩),.pointer (some ⟨q+1+1,0,none⟩)])).heap.size=q+1+1+3:=by rw[<-qX];simp[World.setCell]
  have gM:Below w.heap.size w4 ((w4.setCell ⟨q+1,0,none⟩ (.slice (some ⟨g,0,none⟩) n cap)).setCell ⟨q+1,1,none⟩ (.func (.func 159) #[] #[.pointer (some ⟨q+1+1+1+1,0,none⟩),.pointer (some ⟨q+1+1,0,none⟩)])):=((Below.refl _ _).setCell (by show w.heap.size<=q+1;omega) _).setCell (by show w.heap.size<=q+1;omega) _
  have qw:Below w.heap.size w ((w4.setCell ⟨q+1,0,none⟩ (.slice (some ⟨g,0,none⟩) n cap)).setCell ⟨q+1,1,none⟩ (.func (.func 159) #[] #[.pointer (some ⟨q+1+1+1+1,0,none⟩),.pointer (some ⟨q+1+1,0,none⟩)])):=(jJ.trans (jX.mono jJ.size)).trans gM
  refine ⟨_,rfl,by simpa using s2,⟨q+1+1+1,q+1+1+1+1,q+1+1,q⟩,rfl,qw,⟨λk hk=>hk,by rw[hsz];omega,⟨h0,hT.keep (qw.block _ h0)⟩,λw' hb=>hG.below (qw.trans hb),⟨⟨by show w.heap.size<=q;omega,by rw[hsz];show q<_;omega⟩,(Sq q (by omega)).trans k1⟩,⟨⟨by show w.heap.size<=q+1+1+1+1;omega,by rw[hsz];show q+1+1+1+1<_;omega⟩,(Sq _ (by show q+1+1+1+1≠q+1;omega)).trans h4a⟩,⟨⟨by show w.heap.size<=q+1+1;omega,by rw[hsz];show q+1+1<_;omega⟩,(Sq _ (by show q+1+1≠q+1;omega)).trans h4b⟩,⟨⟨by show w.heap.size<=q+1+1+1;omega,by rw[hsz];show q+1+1+1<_;omega⟩,0,h4c.keep (Sq _ (by show q+1+1+1≠q+1;omega)),Nat.zero_le _⟩,λi v h=>(by cases h),λi v h=>(by cases h),λi j vi vj h=>(by cases h)⟩⟩)
 clear hG hT jJ;go_enter Tryz.func91,Tryz.ntmps91;go_wp2_with fail;rw[<-hq];clear hW;have HQ:=aa hq;clear hq;have P3:=(wU.out W.drew (Below.refl _ _).drew).1
 go_region_held3 (λw'=>w'.cell? ⟨q,0,none⟩=some (.slice (some ⟨g,0,none⟩) n cap))
  (first
   | with_reducible exact nD
   | with_reducible exact P3
   | go_keep)
  (first
   | (go_at_call 119;refine HR.out.mono ?_;clear HR;rintro e4 w4 hp;have HP:=aa hp;obtain ⟨rfl,hb4,-⟩:=hp;have jX:Below W.heap.size W w4:=⟨hb4.os,hb4.tape,hb4.output,hb4.size,hb4.block⟩;clear hb4;obtain ⟨nD,z0,y0,z1,y1⟩:=wU.out w4 jX;have jY:=aa jX;clear jX))
 all_goals
  obtain ⟨w5,Ep,gM,hN5⟩:=ai.out _ w4 HP.out;rw[Ep];have v0:w5.cell? ⟨q+1,0,none⟩=some (.slice (some ⟨g,0,none⟩) n cap):=by simp[World.cell?,gM]
  have v1:w5.cell? ⟨q+1,1,none⟩=some (.func (.func 159) #[] #[.pointer (some ⟨q+1+1+1+1,0,none⟩),.pointer (some ⟨q+1+1,0,none⟩)]):=by simp[World.cell?,gM]
  have HE:=aa hN5;clear Ep gM hN5 z0 y0 z1 y1 P3 nD HP ai;go_wp2_with fail;exact bodyPost_ret (v:=.agg #[.slice (some ⟨g,0,none⟩) n cap,.func (.func 159) #[] #[.pointer (some ⟨q+1+1+1+1,0,none⟩),.pointer (some ⟨q+1+1,0,none⟩)]]) (by simp[results,Tryz.results91,go_sem, *]) rfl HE.out
theorem cK.base(h:cK w B v ds)(hN:N<=B):cK w N v ds:=by
 refine ⟨?_,λx hx=>⟨(h.each x hx).1,λk hk=>Nat.le_trans hN ((h.each x hx).2 k hk)⟩,h.apart,h.off⟩;obtain ⟨h1,h2⟩:=h.row;refine ⟨h1,?_⟩;rcases h2 with h2|⟨g,cap,cur,a1,a2,a3⟩
 ·exact .inl h2
 ·exact .inr ⟨g,cap,cur,a1,Nat.le_trans hN a2,a3⟩
def KO(N:Nat)(A:Nat->Prop)(g n cap:Nat)(G:List GS)(d:PD)(i:Nat)(s:GS)(w:World)(e:Ending)(w':World):Prop:=
 ∃ao cp A' f' F',e=.returned (.slice ao s.rs.length cp)/\f' i=some (.slice ao s.rs.length cp)/\aK A w w'/\(∀k,A' k->A k∨w.heap.size<=k)/\(∀k,A k->A' k)/\aH w' N A' g n cap G d f' F'
theorem aH.aaY{w1 w2:World}(h:aH w N A g n cap G d f F){m:Nat}{s:GS}{ao:Option Addr}{cp:Nat}(hs:G[i]?=some s)(hi:i<12)(hf:f i=none)(hm:m<=kH f)(hb:Below w.heap.size w w1)(P8:ds.map FD.a=s.rs.map GR.a)(lZ:cK w1 w.heap.size (.slice ao s.rs.length cp) ds)
  (hM:gp ny w2 d.K (m+1) (λy=>if y=i then some (.slice ao s.rs.length cp) else f y)) (hg:w1.grownBy w2 (some d.K)):
  aK A w w2/\aH w2 N (λk=>A k∨(w.heap.size<=k/\k<w2.heap.size)) g n cap G d (λy=>if y=i then some (.slice ao s.rs.length cp) else f y) (λy=>if y=i then ds else F y):=by
 have h1:=h.below hb;obtain ⟨m1,ZL,_⟩:=h1.map.2;obtain ⟨es,kY,P2⟩:=ZL.obj;have AV:aK (λk=>k=d.K) w1 w2:=⟨hg.os,hg.tape,hg.output,hg.size,λk hk=>hg.block k hk.1 (λe=>hk.2 (Option.some.inj e)),λk c t _ hh=>(hg.block k (ae hh) (λe=>by cases e;rw[P2]at hh;cases hh)).trans hh⟩;have hsz:=Nat.le_trans hb.size hg.size;have hold:∀k,A k->k<w.heap.size:=λk hk=>(h.old k hk).2
 have YP:Below N w1 w2:=⟨hg.os,hg.tape,hg.output,hg.size,λk hk=>hg.block k (Nat.lt_of_lt_of_le hk h1.size) (λe=>by cases e;have:=(h.old _ h.map.1).1;omega)⟩
 have hwK:aK A w w2:=⟨AV.os.trans hb.os,AV.tape.trans hb.tape,AV.output.trans hb.output,hsz,λk hk=>(AV.keep k ⟨Nat.lt_of_lt_of_le hk.1 hb.size,λe=>hk.2 (e▸h.map.1)⟩).trans (hb.block k hk.1),λk c t ht hh=>AV.stay k c t ht ((hb.block k (ae hh)).trans hh)⟩
 have Oe:∀k,(Value.slice ao s.rs.length cp).ownBlock=some k->w.heap.size<=k/\k<w2.heap.size:=λk hk=>by obtain ⟨e1,c,hc⟩:=aj lZ.row hk;exact ⟨e1,Nat.lt_of_lt_of_le (ae hc) hg.size⟩
 have hne:∀k,A k->k≠d.K->∀o,w1.heap[k]?=some o->w2.heap[k]?=some o:=λk _ hk o ho=>AV.same ho hk
 have xE:d.sb≠d.K/\d.kv≠d.K/\d.wk≠d.K:=⟨λe=>(by have:=h1.KM.2;rw[e,P2]at this;cases this),λe=>(by have:=h1.pg.2;rw[e,P2]at this;cases this),λe=>(by have:=h1.tP.2;rw[e,P2]at this;cases this)⟩
 refine ⟨hwK,⟨λk hk=>?_,Nat.le_trans h.size hsz,⟨h.tab.1,h1.tab.2.keep (YP.block _ h.tab.1)⟩,λw' hb'=>h1.gD w' (YP.trans hb'),⟨.inl h.KM.1,AV.same h1.KM.2 xE.1⟩,⟨.inl h.pg.1,AV.same h1.pg.2 xE.2.1⟩,⟨.inl h.tP.1,AV.same h1.tP.2 xE.2.2⟩,⟨.inl h.map.1,m+1,hM,by rw[sN hi hf];omega⟩,λi' v' hi'=>?_,λi' v' hi' y hy k hk=>?_,λi' j' vi vj hi' hj' nh y hy z hz k eJ hk2=>?_⟩⟩
 ·rcases hk with hk|hk
  ·exact ⟨(h.old k hk).1,Nat.lt_of_lt_of_le (hold k hk) hsz⟩
  ·exact ⟨Nat.le_trans h.size hk.1,hk.2⟩
 ·by_cases ry:i'=i
  ·subst ry;simp only[if_true]at hi' ⊢;cases hi';exact ⟨s,ao,cp,rfl,hs,P8,(lZ.kept AV (λk hk e=>by have:=(Oe k hk).1;have:=hold _ h.map.1;omega) (λx hx k hk e=>by have:=(lZ.each x hx).2 k hk;have:=hold _ h.map.1;omega)).base h.size,λk hk=>.inr (Oe k hk)⟩
  ·simp only[if_neg ry]at hi' ⊢;obtain ⟨s',px,DX,e1,e2,e3,e4,e5⟩:=h1.fin i' v' hi';refine ⟨s',px,DX,e1,e2,e3,e4.kept AV (λk hk e=>?_) (λx hx k hk e=>(h.own i' v' hi' x hx k hk).2.2.2.2.1 e),λk hk=>.inl (e5 k hk)⟩;obtain ⟨_,c,hc⟩:=aj e4.row hk;rw[e,P2]at hc;cases hc
 ·by_cases ry:i'=i
  ·subst ry;simp only[if_true]at hi' hy;have hk':=(lZ.each y hy).2 k hk;have hk2:=(lZ.each y hy).1.old k hk;refine ⟨.inr ⟨hk',Nat.lt_of_lt_of_le hk2 hg.size⟩,λe=>by have:=hold _ h.KM.1;omega,λe=>by have:=hold _ h.pg.1;omega,λe=>by have:=hold _ h.tP.1;omega,λe=>by have:=hold _ h.map.1;omega,λi2 v2 h2 e=>?_⟩;by_cases DY:i2=i'
   ·subst DY;simp only[if_true]at h2;cases h2;exact lZ.off y hy k e hk
   ·simp only[if_neg DY]at h2;obtain ⟨_,_,_,_,_,_,_,e5⟩:=h.fin i2 v2 h2;have:=hold k (e5 k e);omega
  ·simp only[if_neg ry]at hi' hy;obtain ⟨o1,o2,o3,o4,o5,o6⟩:=h.own i' v' hi' y hy k hk;refine ⟨.inl o1,o2,o3,o4,o5,λi2 v2 h2 e=>?_⟩;by_cases DY:i2=i
   ·subst DY;simp only[if_true]at h2;cases h2;have:=(Oe k e).1;have:=hold k o1;omega
   ·simp only[if_neg DY]at h2;exact o6 i2 v2 h2 e
 ·have eW:∀x∈ds,x.O k->w.heap.size<=k:=λx hx hk=>(lZ.each x hx).2 k hk
  by_cases ry:i'=i
  ·subst ry;simp only[if_true]at hi' hy;simp only[if_neg (Ne.symm nh)]at hj' hz;have:=eW y hy eJ;have:=hold k (h.own j' vj hj' z hz k hk2).1;omega
  ·simp only[if_neg ry]at hi' hy;by_cases AG:j'=i
   ·subst AG;simp only[if_true]at hj' hz;have:=eW z hz hk2;have:=hold k (h.own i' vi hi' y hy k eJ).1;omega
   ·simp only[if_neg AG]at hj' hz;exact h.apart i' j' vi vj hi' hj' nh y hy z hz k eJ hk2
theorem vY(f:Nat->Option Value):kH f<=12:=by have:=List.length_filter_le (λi=>(f i).isSome) (List.range 12);unfold kH;simpa using this
theorem yu(N:Nat)(A:Nat->Prop)(g n cap:Nat)(G:List GS)(d:PD)(f:Nat->Option Value)(F:Nat->List FD)(i:Nat)(s:GS)(w:World)(h:aH w N A g n cap G d f F)(hs:G[i]?=some s):
  Calls Tryz.prog 159 #[.int .i64 i,.pointer (some ⟨d.kv,0,none⟩),.pointer (some ⟨d.wk,0,none⟩)] w (KO N A g n cap G d i s w):=by
 have hG:=h.gD w (Below.refl _ _);have hi:i<12:=by have:=aw hs;have:=hG.few;have:=hG.len;omega
 obtain ⟨m,hM,hm⟩:=h.map.2
 cases hf:f i with
 | some v=>
  obtain ⟨s',ao,cp,rfl,e2,-⟩:=h.fin i v hf;rw[hs]at e2;cases e2;refine (KJ d.K d.kv d.wk m f i (by omega) ao s.rs.length cp w h.pg.2 hM hf).mono ?_;rintro e w' ⟨rfl,rfl⟩;exact ⟨ao,cp,A,f,F,rfl,hf,aK.refl _ _,λk hk=>.inl hk,λk hk=>hk,h⟩
 | none=>
  refine (Gm d.K d.kv d.wk m f i (by omega) #[.pointer (some ⟨d.sb,0,none⟩)] (λv w1=>∃ao cp ds,v=.slice ao s.rs.length cp/\Below w.heap.size w w1/\ds.map FD.a=s.rs.map GR.a/\cK w1 w.heap.size v ds) w h.pg.2 h.tP.2 hM (by have:=vY f;omega) hf ((Dj g n cap G i s d.sb w (Nat.lt_of_lt_of_le h.tab.1 h.size) hG hs h.KM.2).mono ?_)).mono ?_
  ·rintro e w1 ⟨ao,n',cp,ds,rfl,rfl,hb,P8,lZ⟩;exact ⟨ao,_,cp,rfl,(hb.block _ (ae h.pg.2)).trans h.pg.2,hb.block _ hM.lt,ao,cp,ds,rfl,hb,P8,lZ⟩
  ·rintro e w2 ⟨ao,n',cp,w1,rfl,⟨px,DX,ds,hv,hb,P8,lZ⟩,Ce,hg⟩;cases hv;obtain ⟨ho,hp⟩:=h.aaY hs hi hf hm hb P8 lZ Ce hg;exact ⟨ao,cp,_,_,_,rfl,by simp,ho,λk hk=>hk.imp id λh=>h.1,λk hk=>.inl hk,hp⟩
end Go.Proofs.YtgncgdkpkkdaeaaGreatDoor
namespace Go.Proofs.YtgncgdkpkkdaeaaGreatDoor
open Go.RowKit aO Go.Maps Go.Shelf
attribute [local go_sem] Oper.semAt_some
def Pd(bs:Nat)(ao:Option Addr)(len cap:Nat)(ds:List FD)(w:World):Prop:=
 w.heap[bs]?=some (.cells #[.slice ao len cap] 237 (0,0))/\∀(q:Nat) x,ds[q]?=some x->∃g,ao=some ⟨g,0,none⟩/\∀(y:Nat) c,x.cells[y]?=some c->w.cell? ⟨g,q*6+y,none⟩=some c
def fdv(x:FD):Value:=yg x.ρf x.sf x.ρb x.sb
theorem yH(x:FD):fdv x=.agg x.cells.toArray:=rfl
theorem cK.back{w:World}{B bs cap:Nat}{ao:Option Addr}{ds es:List FD}(h:cK w B (.slice ao ds.length cap) ds)(hb:w.heap[bs]?=some (.cells #[.slice ao ds.length cap] 237 (0,0)))(hc:es.map FD.cells=ds.map FD.cells):Pd bs ao es.length cap es w:=by
 have hl:es.length=ds.length:=by have:=congrArg List.length hc;simpa using this
 refine ⟨by rw[hl];exact hb,λq x hx=>?_⟩;have hq:q<ds.length:=by rw[<-hl];exact aw hx
 obtain ⟨g,cap',hv⟩:=az h.row (by omega);cases hv;refine ⟨g,rfl,λy c hy=>?_⟩;have hy6:y<6:=by have:=aw hy;simpa [FD.cells] using this
 have mL:∀(l:List FD) (q:Nat) (x:FD),l[q]?=some x->(l.flatMap FD.cells)[q*6+y]?=x.cells[y]?:=by
  intro l
  induction l with
  | nil=>intro q x h;simp at h
  | cons a t ih=>
   intro q x h
   cases q with
   | zero=>
    simp at h;subst h;rw[List.flatMap_cons,List.getElem?_append_left (by simp[FD.cells];omega)];simp
   | succ q=>
    rw[List.flatMap_cons,List.getElem?_append_right (by simp[FD.cells];omega)];have e:(q+1)*6+y - a.cells.length=q*6+y:=by simp[FD.cells];omega
    rw[e];exact ih q x (by simpa using h)
 have lZ:es.flatMap FD.cells=ds.flatMap FD.cells:=by rw[List.flatMap_def,List.flatMap_def,hc]
 have:=h.row.cells rfl (q*6+y) c (by rw[<-lZ,mL es q x hx];exact hy);by_cases h0:q*6+y=0
 ·rw[h0]at this ⊢;simpa [Addr.add] using this
 ·have hn:¬(q*6=0/\y=0):=by omega
  simpa [Addr.add,hn] using this
def Pe(J Jx:Nat->World->Prop)(e:Ending)(w':World):Prop:=(∃v,e=.returned v)/\(J 0 w'∨∃i,Jx i w')
def Dl(J:Nat->World->Prop)(len k:Nat)(vi:Value)(wr:World):Prop:=k<=len/\vi=.int .i64 ((k:Int) - 1)/\J k wr
set_option maxHeartbeats 2000000 in
theorem Av(m:Nat)(bs:Nat)(ao:Option Addr)(cap:Nat)(ds:List FD)(l:Nat)(J Jx:Nat->World->Prop)(w:World)(hlen:ds.length<=40)(hJb:∀i W,J i W->Pd bs ao ds.length cap ds W)
  (hY:∀i x A,ds[i]?=some x->J (i+1) A->YieldAt Fence.wide (m - 1) Tryz.prog l #[.int .i64 i,fdv x] A λe B=>(e=.returned (.bool true)/\J i B)∨(e=.returned (.bool false)/\Jx i B)) (h0:J ds.length w):
  CallsIn Fence.wide m Tryz.prog 187 #[.func (.yield l) #[] #[],.pointer (some ⟨bs,0,none⟩)] w (Pe J Jx):=by
 refine callsIn_wide.2 ?_;have b0:=ay (hJb _ _ h0).1;have HJ:=aa hJb;have HY:=aa hY;have H0:=aa h0;clear hJb hY h0;go_enter Tryz.func187,Tryz.ntmps187;go_wp2_with fail;go_loopg [3] ds.length (λk vi wr=>Dl J ds.length k vi wr)
 case atStart=>exact ⟨Nat.le_refl _,rfl,H0.out⟩
 case round=>
  obtain ⟨hk,rfl,hj⟩:=hrel
  cases gk with
  | zero=>
   have g0:decide ((0:Int)<=-1)=false:=by decide
   go_wp2_with fail;go_end0;exact ⟨⟨_,rfl⟩,.inl hj⟩
  | succ i=>
   have hi:i<ds.length:=by omega
   obtain ⟨x,hx⟩:∃x,ds[i]?=some x:=⟨_,List.getElem?_eq_getElem hi⟩;obtain ⟨hb,hc⟩:=HJ.out _ _ hj;have c0:=ay hb;obtain ⟨g,hao,hc2⟩:=hc i x hx;subst hao;have d0:=hc2 0 _ rfl;have d1:=hc2 1 _ rfl;have d2:=hc2 2 _ rfl;have d3:=hc2 3 _ rfl;have d4:=hc2 4 _ rfl;have d5:=hc2 5 _ rfl;rw[Nat.add_zero]at d0;obtain ⟨fn,tmps,assign,body,hy,hR⟩:=HY.out i x wr hx hj
   unfold fdv yg at hy;have HR:=aa hR;have e1:(((i+1:Nat):Int) - 1)=(i:Int):=by omega
   have g0:decide ((0:Int)<=(i:Int))=true:=by simp
   have hwr:IntKind.i64.wrap ((i:Int) - 1)=(i:Int) - 1:=by rw[IntKind.wrap_i64];omega
   rw[e1];clear hb hc hc2 hj hR hx;refine (wpIn_wide (n:=m)).1 ?_;gi_wp2_with fail;refine ⟨λh=>(by cases h),HR.out.mono ?_⟩;rintro e W' (⟨rfl,hj'⟩|⟨rfl,yO⟩)
   ·have HST:=aa (show Dl J ds.length i (.int .i64 ((i:Int) - 1)) W' from ⟨by omega,rfl,hj'⟩);clear hj' HR hy;gi_wp2_with fail;go_roundg i
    case measure=>omega
    case rel=>exact HST.out
   ·have LL:=aa yO;clear yO HR hy;gi_wp2_with fail;go_end0;exact ⟨⟨_,rfl⟩,.inr ⟨i,LL.out⟩⟩
end Go.Proofs.YtgncgdkpkkdaeaaGreatDoor
