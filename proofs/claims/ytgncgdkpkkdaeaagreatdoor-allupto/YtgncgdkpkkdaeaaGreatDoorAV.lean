import Derived.Test.YtgncgdkpkkdaeaaGreatDoorAU
set_option maxRecDepth 20000
set_option maxHeartbeats 2000000
namespace Go.Proofs.YtgncgdkpkkdaeaaGreatDoor
open Go.RowKit bu Go.Maps
variable {ds:List FD} {G:List GS} {B N cap g i j n:Nat} {F:Nat->List FD} {f:Nat->Option Value} {A Z:Nat->Prop} {v:Value} {w w':World}
structure PD where
 K:Nat
 kv:Nat
 wk:Nat
 sb:Nat
def Xn(d:PD)(f:Nat->Option Value)(k:Nat):Prop:=k≠d.sb/\k≠d.kv/\k≠d.wk/\k≠d.K/\∀i v,f i=some v->v.ownBlock≠some k
def lu(f:Nat->Option Value):Nat:=((List.range 12).filter λi=>(f i).isSome).length
theorem tO(hi:i<12)(hf:f i=none):lu (λy=>if y=i then some v else f y)=lu f+1:=by
 have key:∀(l:List Nat),l.Nodup->(l.filter λy=>((if y=i then some v else f y):Option Value).isSome).length=(l.filter λy=>(f y).isSome).length+(if i∈l then 1 else 0):=by
  intro l hl
  induction l with
  | nil=>simp
  | cons x t ih=>
   have ht:=ih (List.nodup_cons.1 hl).2;have hx:=(List.nodup_cons.1 hl).1;by_cases e:x=i
   ·subst e;have:(t.filter λy=>((if y=x then some v else f y):Option Value).isSome).length=(t.filter λy=>(f y).isSome).length:=by rw[ht,if_neg hx];rfl
    simp[hf,this]
   ·have Gd:(i∈x::t)=(i∈t):=by simp[Ne.symm e]
    rw[List.filter_cons,List.filter_cons];simp only[if_neg e,Gd];split<;>simp[ht]<;>omega
 have:=key (List.range 12) List.nodup_range;rw[if_pos (List.mem_range.2 hi)]at this;exact this
structure aJ(w:World)(N:Nat)(A:Nat->Prop)(g n cap:Nat)(G:List GS)(d:PD)(f:Nat->Option Value)(F:Nat->List FD):Prop where
 old:∀k,A k->N<=k/\k<w.heap.size
 size:N<=w.heap.size
 tab:1 < N/\lC w
 ib:∀w',Below N w w'->cd w' g n cap G
 LA:A d.sb/\w.heap[d.sb]?=some (.cells #[.slice (some ⟨g,0,none⟩) n cap] 36 (0,0))
 pR:A d.kv/\w.heap[d.kv]?=some (.cells #[.map (some d.K)] 276 (0,0))
 uD:A d.wk/\w.heap[d.wk]?=some (.cells #[.func (.func 120) #[] #[.pointer (some ⟨d.sb,0,none⟩)]] 169 (0,0))
 map:A d.K/\∃m,gS oq w d.K m f/\m<=lu f
 fin:∀i v,f i=some v->∃s ao cp,v=.slice ao s.rs.length cp/\G[i]?=some s/\(F i).map FD.a=s.rs.map GR.a/\cV w N v (F i)/\∀k,v.ownBlock=some k->A k
 own:∀i v,f i=some v->∀x∈F i,∀k,x.O k->A k/\Xn d f k
 apart:∀i j vi vj,f i=some vi->f j=some vj->i≠j->∀x∈F i,∀y∈F j,∀k,x.O k->¬y.O k
theorem cV.kept(h:cV w B v ds)(ho:aM Z w w')(hv:∀k,v.ownBlock=some k->¬Z k)(hd:∀x∈ds,∀k,x.O k->¬Z k):cV w' B v ds:=
 ⟨aI h.row λk hk=>by obtain ⟨_,c,hc⟩:=ar h.row hk;exact ho.keep k ⟨ae hc,hv k hk⟩,λx hx=>⟨(h.each x hx).1.off ho (hd x hx),(h.each x hx).2⟩,h.apart,h.off⟩
variable {d:PD}
theorem aJ.off(h:aJ w N A g n cap G d f F)(ho:aM Z w w')(hz:∀k,Z k->N<=k/\¬A k):aJ w' N A g n cap G d f F:=by
 have hb:Below N w w':=⟨ho.os,ho.tape,ho.output,ho.size,λk hk=>ho.keep k ⟨dw hk h.size,λhz'=>by have:=(hz k hz').1;omega⟩⟩;have hA:∀k,A k->¬Z k:=λk ha hz'=>(hz k hz').2 ha
 refine ⟨λk hk=>⟨(h.old k hk).1,dw (h.old k hk).2 ho.size⟩,bJ h.size ho.size,⟨h.tab.1,h.tab.2.keep (hb.block _ h.tab.1)⟩,λw'' hb'=>h.ib w'' (hb.trans hb'),⟨h.LA.1,ho.same h.LA.2 (hA _ h.LA.1)⟩,⟨h.pR.1,ho.same h.pR.2 (hA _ h.pR.1)⟩,⟨h.uD.1,ho.same h.uD.2 (hA _ h.uD.1)⟩,⟨h.map.1,?_⟩,λi v hi=>?_,h.own,h.apart⟩
 ·obtain ⟨m,hm,hk⟩:=h.map.2;exact ⟨m,hm.keep (ho.keep _ ⟨hm.lt,hA _ h.map.1⟩),hk⟩
 ·obtain ⟨s,ao,cp,e1,e2,e3,e4,e5⟩:=h.fin i v hi;exact ⟨s,ao,cp,e1,e2,e3,e4.kept ho (λk hk=>hA k (e5 k hk)) (λx hx k hk=>hA k (h.own i v hi x hx k hk).1),e5⟩
theorem aJ.below(h:aJ w N A g n cap G d f F)(hb:Below w.heap.size w w'):aJ w' N A g n cap G d f F:=
 h.off (Z:=λ_=>False) (aM.ay hb) (λ_ hk=>hk.elim)
theorem gA{α:Type}{l:List α}{q:Nat}{x y:α}(h:(l.set j x)[q]?=some y):(q=j/\y=x)∨(q≠j/\l[q]?=some y):=by
 rw[List.getElem?_set]at h;split at h
 ·rename_i e;split at h
  ·exact .inl ⟨e.symm,(Option.some.inj h).symm⟩
  ·cases h
 ·rename_i e;exact .inr ⟨λe'=>e e'.symm,h⟩
theorem aJ.use{O':Nat->Prop}(h:aJ w N A g n cap G d f F){x:FD}(hi:f i=some v)(hx:(F i)[j]?=some x)(ho:aM (λk=>x.O k∨Z k) w w')(hz:∀k,Z k->N<=k/\¬A k)(hO:∀k,O' k->x.O k∨w.heap.size<=k)(hF:aS w' O' x.a x.ρf x.sf x.ρb x.sb):
  aJ w' N (λk=>A k∨O' k) g n cap G d f (λy=>if y=i then (F i).set j { x with O:=O' } else F y):=by
 have BO:=bn hx;have LC:∀k,x.O k->A k:=λk hk=>(h.own i v hi x BO k hk).1
 have hb:Below N w w':=⟨ho.os,ho.tape,ho.output,ho.size,λk hk=>ho.keep k ⟨dw hk h.size,λhz'=>by
  rcases hz' with h1|h1
  ·have:=(h.old k (LC k h1)).1;omega
  ·have:=(hz k h1).1;omega⟩⟩
 have hA:∀k,A k->¬x.O k->¬(x.O k∨Z k):=λk ha hn hz'=>hz'.elim hn (λh1=>(hz k h1).2 ha)
 have gh:∀k,x.O k->Xn d f k:=λk hk=>(h.own i v hi x BO k hk).2
 have abw:∀k,O' k->k<w'.heap.size:=hF.old
 refine ⟨λk hk=>?_,bJ h.size ho.size,⟨h.tab.1,h.tab.2.keep (hb.block _ h.tab.1)⟩,λw'' hb'=>h.ib w'' (hb.trans hb'),⟨.inl h.LA.1,ho.same h.LA.2 (hA _ h.LA.1 λe=>(gh _ e).1 rfl)⟩,⟨.inl h.pR.1,ho.same h.pR.2 (hA _ h.pR.1 λe=>(gh _ e).2.1 rfl)⟩,⟨.inl h.uD.1,ho.same h.uD.2 (hA _ h.uD.1 λe=>(gh _ e).2.2.1 rfl)⟩,⟨.inl h.map.1,?_⟩,λi' v' hi'=>?_,λi' v' hi' y hy k hk=>?_,λi' j' vi vj hi' hj' hne y hy z hz' k eY hk2=>?_⟩
 ·rcases hk with hk|hk
  ·exact ⟨(h.old k hk).1,dw (h.old k hk).2 ho.size⟩
  ·refine ⟨?_,abw k hk⟩;rcases hO k hk with h1|h1
   ·exact (h.old k (LC k h1)).1
   ·exact bJ h.size h1
 ·obtain ⟨m,hm,hk⟩:=h.map.2;exact ⟨m,hm.keep (ho.keep _ ⟨hm.lt,hA _ h.map.1 λe=>(gh _ e).2.2.2.1 rfl⟩),hk⟩
 ·obtain ⟨s,ao,cp,e1,e2,e3,e4,e5⟩:=h.fin i' v' hi';have hrow:∀k,v'.ownBlock=some k->¬(x.O k∨Z k):=λk hk=>hA k (e5 k hk) (λEI=>(gh k EI).2.2.2.2 i' v' hi' hk)
  by_cases sy:i'=i
  ·subst sy;rw[hi]at hi';cases hi';refine ⟨s,ao,cp,e1,e2,?_,⟨?_,λy hy=>?_,λa b y z k hy hz' hab eY hk2=>?_,λy hy k hk eY=>?_⟩,λk hk=>.inl (e5 k hk)⟩
   ·rw[if_pos rfl,<-e3,List.map_set];refine List.ext_getElem? λq=>?_
    rw[List.getElem?_set];split
    ·rename_i e;subst e;have:=az hx;rw[if_pos (by simpa using this),fX,hx];rfl
    ·rfl
   ·rw[if_pos rfl];have hl:((F i').set j { x with O:=O' }).length=(F i').length:=List.length_set ..
    have hc:((F i').set j { x with O:=O' }).flatMap FD.cells=(F i').flatMap FD.cells:=by
     rw[List.flatMap_def,List.flatMap_def,List.map_set];congr 1;refine List.ext_getElem? λq=>?_
     rw[List.getElem?_set];split
     ·rename_i e;subst e;have:=az hx;rw[if_pos (by simpa using this),fX,hx];rfl
     ·rfl
    rw[hl,hc];exact aI e4.row λk hk=>by obtain ⟨_,c,hc⟩:=ar e4.row hk;exact ho.keep k ⟨ae hc,hrow k hk⟩
   ·rw[if_pos rfl]at hy;obtain ⟨q,hq⟩:=List.mem_iff_getElem?.1 hy;rcases gA hq with ⟨_,rfl⟩|⟨hqj,hq⟩
    ·refine ⟨hF,λk hk=>?_⟩;rcases hO k hk with h1|h1
     ·exact (h.old k (LC k h1)).1
     ·exact bJ h.size h1
    ·have hym:=bn hq;exact ⟨(e4.each y hym).1.off ho λk hk=>hA k (h.own i' v hi y hym k hk).1 (λIa=>e4.apart q j y x k hq hx hqj hk Ia),(e4.each y hym).2⟩
   ·rw[if_pos rfl]at hy hz';rcases gA hy with ⟨ha,rfl⟩|⟨ha,hy⟩
    ·rcases gA hz' with ⟨hb',rfl⟩|⟨hb',hz'⟩
     ·omega
     ·rcases hO k eY with h1|h1
      ·exact e4.apart j b x z k hx hz' (by omega) h1 hk2
      ·have:=(e4.each z (bn hz')).1.old k hk2;omega
    ·rcases gA hz' with ⟨hb',rfl⟩|⟨hb',hz'⟩
     ·rcases hO k hk2 with h1|h1
      ·exact e4.apart a j y x k hy hx (by omega) eY h1
      ·have:=(e4.each y (bn hy)).1.old k eY;omega
     ·exact e4.apart a b y z k hy hz' hab eY hk2
   ·rw[if_pos rfl]at hy;obtain ⟨q,hq⟩:=List.mem_iff_getElem?.1 hy;rcases gA hq with ⟨_,rfl⟩|⟨hqj,hq⟩
    ·rcases hO k eY with h1|h1
     ·exact e4.off x BO k hk h1
     ·obtain ⟨_,c,hc⟩:=ar e4.row hk;have:=ae hc;omega
    ·exact e4.off y (bn hq) k hk eY
  ·rw[if_neg sy];exact ⟨s,ao,cp,e1,e2,e3,e4.kept ho hrow (λy hy k hk=>hA k (h.own i' v' hi' y hy k hk).1 (λIa=>h.apart i' i v' v hi' hi sy y hy x BO k hk Ia)),λk hk=>.inl (e5 k hk)⟩
 ·have fD:∀k,w.heap.size<=k->Xn d f k:=λk hk=>⟨λe=>by have:=(h.old _ h.LA.1).2;omega,λe=>by have:=(h.old _ h.pR.1).2;omega,λe=>by have:=(h.old _ h.uD.1).2;omega,λe=>by have:=(h.old _ h.map.1).2;omega,λi2 v2 h2 e=>by obtain ⟨_,_,_,_,_,_,_,e5⟩:=h.fin i2 v2 h2;have:=(h.old _ (e5 k e)).2;omega⟩
  by_cases sy:i'=i
  ·subst sy;rw[if_pos rfl]at hy;obtain ⟨q,hq⟩:=List.mem_iff_getElem?.1 hy;rcases gA hq with ⟨_,rfl⟩|⟨hqj,hq⟩
   ·refine ⟨.inr hk,?_⟩;rcases hO k hk with h1|h1
    ·exact gh k h1
    ·exact fD k h1
   ·have:=h.own i' v' hi' y (bn hq) k hk;exact ⟨.inl this.1,this.2⟩
  ·rw[if_neg sy]at hy;have:=h.own i' v' hi' y hy k hk;exact ⟨.inl this.1,this.2⟩
 ·have hlt:∀i2 v2,f i2=some v2->∀y∈F i2,y.O k->k<w.heap.size:=λi2 v2 h2 y hy hk=>(h.old k (h.own i2 v2 h2 y hy k hk).1).2
  by_cases sy:i'=i
  ·subst sy;rw[if_pos rfl]at hy;rw[if_neg (Ne.symm hne)]at hz';obtain ⟨q,hq⟩:=List.mem_iff_getElem?.1 hy;rcases gA hq with ⟨_,rfl⟩|⟨hqj,hq⟩
   ·rcases hO k eY with h1|h1
    ·exact h.apart i' j' vi vj hi' hj' hne x BO z hz' k h1 hk2
    ·have:=hlt j' vj hj' z hz' hk2;omega
   ·exact h.apart i' j' vi vj hi' hj' hne y (bn hq) z hz' k eY hk2
  ·rw[if_neg sy]at hy;by_cases BH:j'=i
   ·subst BH;rw[if_pos rfl]at hz';obtain ⟨q,hq⟩:=List.mem_iff_getElem?.1 hz';rcases gA hq with ⟨_,rfl⟩|⟨hqj,hq⟩
    ·rcases hO k hk2 with h1|h1
     ·exact h.apart i' j' vi vj hi' hj' hne y hy x BO k eY h1
     ·have:=hlt i' vi hi' y hy eY;omega
    ·exact h.apart i' j' vi vj hi' hj' hne y hy z (bn hq) k eY hk2
   ·rw[if_neg BH]at hz';exact h.apart i' j' vi vj hi' hj' hne y hy z hz' k eY hk2
def jx(d:PD):Value:=.func (.func 159) #[] #[.pointer (some ⟨d.kv,0,none⟩),.pointer (some ⟨d.wk,0,none⟩)]
def pv(g n cap:Nat)(d:PD):Value:=.agg #[.slice (some ⟨g,0,none⟩) n cap,jx d]
def Ec(v:Array Value)(w:World)(e:Ending)(w':World):Prop:=
 e=.returned (.func (.func 159) #[] #[.pointer (some ⟨w.heap.size+1+1,0,none⟩),.pointer (some ⟨w.heap.size,0,none⟩)])/\Below w.heap.size w w'/\w'.heap.size=w.heap.size+3/\w'.heap[w.heap.size+1+1]?=some (.cells #[.map (some (w.heap.size+1))] 276 (0,0)) /\
  w'.heap[w.heap.size]?=some (.cells #[.func (.func 120) #[] v] 169 (0,0))/\gS oq w' (w.heap.size+1) 0 (λ_=>none)
theorem ym(v:Array Value)(w:World):Calls Tryz.prog 119 #[.func (.func 120) #[] v] w (Ec v w):=by
 have Fg:=@run_makeMap Tryz.prog;go_enter Tryz.func119,Tryz.ntmps119;go_wp2_with fail;go_ret;have hM:=gS.made oq (w.alloc (.cells #[.func (.func 120) #[] v] 169));have h1:=ag w (.cells #[.func (.func 120) #[] v] 169)
 have h2:=ag ((w.alloc (.cells #[.func (.func 120) #[] v] 169)).alloc (.map #[] 0)) (.cells #[.map (some (w.heap.size+1))] 276);have b1:Below w.heap.size w (w.alloc (.cells #[.func (.func 120) #[] v] 169)):=cq _ _
 have b2:=b1.alloc (o:=.map #[] 0) (by simp);have b3:=b2.alloc (o:=.cells #[.map (some (w.heap.size+1))] 276) (by simp;omega);refine ⟨rfl,b3,by simp,by simpa using h2,af (af h1),?_⟩;rw[show (w.alloc (.cells #[.func (.func 120) #[] v] 169)).heap.size=w.heap.size+1 by simp]at hM;refine hM.keep ?_
 obtain ⟨es,lQ,ho⟩:=hM.obj;rw[ho];exact af ho
def Je(g n cap:Nat)(G:List GS)(w:World)(e:Ending)(w':World):Prop:=
 ∃d,e=.returned (pv g n cap d)/\Below w.heap.size w w'/\aJ w' w.heap.size (λk=>w.heap.size<=k/\k<w'.heap.size) g n cap G d (λ_=>none) (λ_=>[])
theorem SI(g n cap:Nat)(G:List GS)(w:World)(hT:lC w)(h0:1 < w.heap.size)(hG:cd w g n cap G):
  Calls Tryz.prog 91 #[.slice (some ⟨g,0,none⟩) n cap] w (Je g n cap G w):=by
 obtain ⟨q,hq⟩:∃q,q=w.heap.size:=⟨_,rfl⟩;obtain ⟨W,hW⟩:∃W,(w.alloc (.cells #[.slice (some ⟨g,0,none⟩) n cap] 36)).alloc (.cells #[.slice none 0 0,.nilFunc] 171)=W:=⟨_,rfl⟩;have kf:Below w.heap.size w W:=by rw[<-hW];exact (cq _ _).alloc (by simp) _
 have hWs:W.heap.size=q+1+1:=by rw[<-hW,hq];simp
 have HW:=aa (show W.heap[q]?=some (.cells #[.slice (some ⟨g,0,none⟩) n cap] 36 (0,0))/\W.heap[q+1]?=some (.cells #[.slice none 0 0,.nilFunc] 171 (0,0)) from by
  rw[<-hW,hq];have h1:=ag w (.cells #[.slice (some ⟨g,0,none⟩) n cap] 36);have h2:=ag (w.alloc (.cells #[.slice (some ⟨g,0,none⟩) n cap] 36)) (.cells #[.slice none 0 0,.nilFunc] 171);simp only[World.size_alloc]at h2;exact ⟨af h1,h2⟩)
 have xG:=aa (λ(W':World) (hb:Below W.heap.size W W')=>show W'.cell? ⟨q,0,none⟩=some (.slice (some ⟨g,0,none⟩) n cap)/\(W'.cell? ⟨q+1,0,none⟩=some (.slice none 0 0)/\W'.frozen? ⟨q+1,0,none⟩=false/\W'.cell? ⟨q+1,1,none⟩=some .nilFunc/\W'.frozen? ⟨q+1,1,none⟩=false) from by
  obtain ⟨h1,h2⟩:=HW.out;have k1:=(hb.block _ (ae h1)).trans h1;have k2:=(hb.block _ (ae h2)).trans h2;exact ⟨by simp[World.cell?,k1],by simp[World.cell?,World.frozen?,k2]⟩)
 have HR:=aa (ym #[.pointer (some ⟨q,0,none⟩)] W.drew)
 have aq:=aa (show ∀(e4:Ending) (w4:World),Ec #[.pointer (some ⟨q,0,none⟩)] W.drew e4 w4->∃w5,(w4.setCell ⟨q+1,0,none⟩ (.slice (some ⟨g,0,none⟩) n cap)).setCell ⟨q+1,1,none⟩ (.func (.func 159) #[] #[.pointer (some ⟨q+1+1+1+1,0,none⟩),.pointer (some ⟨q+1+1,0,none⟩)])=w5/\w5.heap[q+1]?=some (.cells #[.slice (some ⟨g,0,none⟩) n cap,.func (.func 159) #[] #[.pointer (some ⟨q+1+1+1+1,0,none⟩),.pointer (some ⟨q+1+1,0,none⟩)]] 171 (0,0))/\Je g n cap G w (.returned (.agg #[.slice (some ⟨g,0,none⟩) n cap,.func (.func 159) #[] #[.pointer (some ⟨q+1+1+1+1,0,none⟩),.pointer (some ⟨q+1+1,0,none⟩)]])) w5 from by
  rintro e4 w4 ⟨-,hb4,rU,h4a,h4b,h4c⟩;have hd:W.drew.heap.size=q+1+1:=hWs;rw[hd]at rU h4a h4b h4c;have kB:Below W.heap.size W w4:=⟨hb4.os,hb4.tape,hb4.output,hb4.size,hb4.block⟩;obtain ⟨h1,h2⟩:=HW.out;have k1:=(kB.block _ (ae h1)).trans h1;have k2:=(kB.block _ (ae h2)).trans h2;have s1:=ah w4 (q+1) 0 (.slice (some ⟨g,0,none⟩) n cap) k2
  have s2:=ah _ (q+1) 1 (.func (.func 159) #[] #[.pointer (some ⟨q+1+1+1+1,0,none⟩),.pointer (some ⟨q+1+1,0,none⟩)]) s1
  have Tk:∀k,k≠q+1->((w4.setCell ⟨q+1,0,none⟩ (.slice (some ⟨g,0,none⟩) n cap)).setCell ⟨q+1,1,none⟩ (.func (.func 159) #[] #[.pointer (some ⟨q+1+1+1+1,0,none⟩),.pointer (some ⟨q+1+1,0,none⟩)])).heap[k]?=w4.heap[k]?:=λk hk=>by rw[eV _ _ _ _ (by exact hk),eV _ _ _ _ (by exact hk)]
  have hsz:((w4.setCell ⟨q+1,0,none⟩ (.slice (some ⟨g,0,none⟩) n cap)).setCell ⟨q+1,1,none⟩ (.func (.func 159) #[] #[.pointer (some ⟨q+1+1+1+1,0,none⟩),.pointer (some ⟨q+1+1,0,none⟩)])).heap.size=q+1+1+3:=by rw[<-rU];simp[World.setCell]
  have iq:Below w.heap.size w4 ((w4.setCell ⟨q+1,0,none⟩ (.slice (some ⟨g,0,none⟩) n cap)).setCell ⟨q+1,1,none⟩ (.func (.func 159) #[] #[.pointer (some ⟨q+1+1+1+1,0,none⟩),.pointer (some ⟨q+1+1,0,none⟩)])):=((Below.refl _ _).setCell (by show w.heap.size<=q+1;omega) _).setCell (by show w.heap.size<=q+1;omega) _
  have rq:Below w.heap.size w ((w4.setCell ⟨q+1,0,none⟩ (.slice (some ⟨g,0,none⟩) n cap)).setCell ⟨q+1,1,none⟩ (.func (.func 159) #[] #[.pointer (some ⟨q+1+1+1+1,0,none⟩),.pointer (some ⟨q+1+1,0,none⟩)])):=(kf.trans (kB.mono kf.size)).trans iq
  refine ⟨_,rfl,by simpa using s2,⟨q+1+1+1,q+1+1+1+1,q+1+1,q⟩,rfl,rq,⟨λk hk=>hk,by rw[hsz];omega,⟨h0,hT.keep (rq.block _ h0)⟩,λw' hb=>hG.below (rq.trans hb),⟨⟨by show w.heap.size<=q;omega,by rw[hsz];show q<_;omega⟩,(Tk q (by omega)).trans k1⟩,⟨⟨by show w.heap.size<=q+1+1+1+1;omega,by rw[hsz];show q+1+1+1+1<_;omega⟩,(Tk _ (by show q+1+1+1+1≠q+1;omega)).trans h4a⟩,⟨⟨by show w.heap.size<=q+1+1;omega,by rw[hsz];show q+1+1<_;omega⟩,(Tk _ (by show q+1+1≠q+1;omega)).trans h4b⟩,⟨⟨by show w.heap.size<=q+1+1+1;omega,by rw[hsz];show q+1+1+1<_;omega⟩,0,h4c.keep (Tk _ (by show q+1+1+1≠q+1;omega)),Nat.zero_le _⟩,λi v h=>(by cases h),λi v h=>(by cases h),λi j vi vj h=>(by cases h)⟩⟩)
 clear hG hT kf;go_enter Tryz.func91,Tryz.ntmps91;go_wp2_with fail;rw[<-hq];clear hW;have HQ:=aa hq;clear hq;have QP:=(xG.out W.drew (Below.refl _ _).drew).1
 go_region_held3 (λw'=>w'.cell? ⟨q,0,none⟩=some (.slice (some ⟨g,0,none⟩) n cap))
  (first
   | with_reducible exact oz
   | with_reducible exact QP
   | go_keep)
  (first
   | (go_at_call 119;refine HR.out.mono ?_;clear HR;rintro e4 w4 hp;have HP:=aa hp;obtain ⟨rfl,hb4,-⟩:=hp;have kB:Below W.heap.size W w4:=⟨hb4.os,hb4.tape,hb4.output,hb4.size,hb4.block⟩;clear hb4;obtain ⟨oz,z0,y0,z1,y1⟩:=xG.out w4 kB;have kC:=aa kB;clear kB))
 all_goals
  obtain ⟨w5,Fc,iq,hN5⟩:=aq.out _ w4 HP.out;rw[Fc];have v0:w5.cell? ⟨q+1,0,none⟩=some (.slice (some ⟨g,0,none⟩) n cap):=by simp[World.cell?,iq]
  have v1:w5.cell? ⟨q+1,1,none⟩=some (.func (.func 159) #[] #[.pointer (some ⟨q+1+1+1+1,0,none⟩),.pointer (some ⟨q+1+1,0,none⟩)]):=by simp[World.cell?,iq]
  have HE:=aa hN5;clear Fc iq hN5 z0 y0 z1 y1 QP oz HP aq;go_wp2_with fail;exact bodyPost_ret (v:=.agg #[.slice (some ⟨g,0,none⟩) n cap,.func (.func 159) #[] #[.pointer (some ⟨q+1+1+1+1,0,none⟩),.pointer (some ⟨q+1+1,0,none⟩)]]) (by simp[results,Tryz.results91,go_sem, *]) rfl HE.out
theorem cV.base(h:cV w B v ds)(hN:N<=B):cV w N v ds:=by
 refine ⟨?_,λx hx=>⟨(h.each x hx).1,λk hk=>bJ hN ((h.each x hx).2 k hk)⟩,h.apart,h.off⟩;obtain ⟨h1,h2⟩:=h.row;refine ⟨h1,?_⟩;rcases h2 with h2|⟨g,cap,cur,a1,a2,a3⟩
 ·exact .inl h2
 ·exact .inr ⟨g,cap,cur,a1,bJ hN a2,a3⟩
def LD(N:Nat)(A:Nat->Prop)(g n cap:Nat)(G:List GS)(d:PD)(i:Nat)(s:GS)(w:World)(e:Ending)(w':World):Prop:=
 ∃ao cp A' f' F',e=.returned (.slice ao s.rs.length cp)/\f' i=some (.slice ao s.rs.length cp)/\aM A w w'/\(∀k,A' k->A k∨w.heap.size<=k)/\(∀k,A k->A' k)/\aJ w' N A' g n cap G d f' F'
theorem aJ.abx{w1 w2:World}(h:aJ w N A g n cap G d f F){m:Nat}{s:GS}{ao:Option Addr}{cp:Nat}(hs:G[i]?=some s)(hi:i<12)(hf:f i=none)(hm:m<=lu f)(hb:Below w.heap.size w w1)(QU:ds.map FD.a=s.rs.map GR.a)(mr:cV w1 w.heap.size (.slice ao s.rs.length cp) ds)
  (hM:gS oq w2 d.K (m+1) (λy=>if y=i then some (.slice ao s.rs.length cp) else f y)) (hg:w1.grownBy w2 (some d.K)):
  aM A w w2/\aJ w2 N (λk=>A k∨(w.heap.size<=k/\k<w2.heap.size)) g n cap G d (λy=>if y=i then some (.slice ao s.rs.length cp) else f y) (λy=>if y=i then ds else F y):=by
 have h1:=h.below hb;obtain ⟨m1,hm1,_⟩:=h1.map.2;obtain ⟨es,lQ,QO⟩:=hm1.obj;have BR:aM (λk=>k=d.K) w1 w2:=⟨hg.os,hg.tape,hg.output,hg.size,λk hk=>hg.block k hk.1 (λe=>hk.2 (Option.some.inj e)),λk c t _ hh=>(hg.block k (ae hh) (λe=>by cases e;rw[QO]at hh;cases hh)).trans hh⟩;have hsz:=bJ hb.size hg.size;have hold:∀k,A k->k<w.heap.size:=λk hk=>(h.old k hk).2
 have Zz:Below N w1 w2:=⟨hg.os,hg.tape,hg.output,hg.size,λk hk=>hg.block k (dw hk h1.size) (λe=>by cases e;have:=(h.old _ h.map.1).1;omega)⟩
 have hwK:aM A w w2:=⟨BR.os.trans hb.os,BR.tape.trans hb.tape,BR.output.trans hb.output,hsz,λk hk=>(BR.keep k ⟨dw hk.1 hb.size,λe=>hk.2 (e▸h.map.1)⟩).trans (hb.block k hk.1),λk c t ht hh=>BR.stay k c t ht ((hb.block k (ae hh)).trans hh)⟩
 have Pd:∀k,(Value.slice ao s.rs.length cp).ownBlock=some k->w.heap.size<=k/\k<w2.heap.size:=λk hk=>by obtain ⟨e1,c,hc⟩:=ar mr.row hk;exact ⟨e1,dw (ae hc) hg.size⟩
 have hne:∀k,A k->k≠d.K->∀o,w1.heap[k]?=some o->w2.heap[k]?=some o:=λk _ hk o ho=>BR.same ho hk
 have yt:d.sb≠d.K/\d.kv≠d.K/\d.wk≠d.K:=⟨λe=>(by have:=h1.LA.2;rw[e,QO]at this;cases this),λe=>(by have:=h1.pR.2;rw[e,QO]at this;cases this),λe=>(by have:=h1.uD.2;rw[e,QO]at this;cases this)⟩
 refine ⟨hwK,⟨λk hk=>?_,bJ h.size hsz,⟨h.tab.1,h1.tab.2.keep (Zz.block _ h.tab.1)⟩,λw' hb'=>h1.ib w' (Zz.trans hb'),⟨.inl h.LA.1,BR.same h1.LA.2 yt.1⟩,⟨.inl h.pR.1,BR.same h1.pR.2 yt.2.1⟩,⟨.inl h.uD.1,BR.same h1.uD.2 yt.2.2⟩,⟨.inl h.map.1,m+1,hM,by rw[tO hi hf];omega⟩,λi' v' hi'=>?_,λi' v' hi' y hy k hk=>?_,λi' j' vi vj hi' hj' nZ y hy z hz k eY hk2=>?_⟩⟩
 ·rcases hk with hk|hk
  ·exact ⟨(h.old k hk).1,dw (hold k hk) hsz⟩
  ·exact ⟨bJ h.size hk.1,hk.2⟩
 ·by_cases sy:i'=i
  ·subst sy;simp only[if_true]at hi' ⊢;cases hi';exact ⟨s,ao,cp,rfl,hs,QU,(mr.kept BR (λk hk e=>by have:=(Pd k hk).1;have:=hold _ h.map.1;omega) (λx hx k hk e=>by have:=(mr.each x hx).2 k hk;have:=hold _ h.map.1;omega)).base h.size,λk hk=>.inr (Pd k hk)⟩
  ·simp only[if_neg sy]at hi' ⊢;obtain ⟨s',pW,EJ,e1,e2,e3,e4,e5⟩:=h1.fin i' v' hi';refine ⟨s',pW,EJ,e1,e2,e3,e4.kept BR (λk hk e=>?_) (λx hx k hk e=>(h.own i' v' hi' x hx k hk).2.2.2.2.1 e),λk hk=>.inl (e5 k hk)⟩;obtain ⟨_,c,hc⟩:=ar e4.row hk;rw[e,QO]at hc;cases hc
 ·by_cases sy:i'=i
  ·subst sy;simp only[if_true]at hi' hy;have hk':=(mr.each y hy).2 k hk;have hk2:=(mr.each y hy).1.old k hk;refine ⟨.inr ⟨hk',dw hk2 hg.size⟩,λe=>by have:=hold _ h.LA.1;omega,λe=>by have:=hold _ h.pR.1;omega,λe=>by have:=hold _ h.uD.1;omega,λe=>by have:=hold _ h.map.1;omega,λi2 v2 h2 e=>?_⟩;by_cases EK:i2=i'
   ·subst EK;simp only[if_true]at h2;cases h2;exact mr.off y hy k e hk
   ·simp only[if_neg EK]at h2;obtain ⟨_,_,_,_,_,_,_,e5⟩:=h.fin i2 v2 h2;have:=hold k (e5 k e);omega
  ·simp only[if_neg sy]at hi' hy;obtain ⟨o1,o2,o3,o4,o5,o6⟩:=h.own i' v' hi' y hy k hk;refine ⟨.inl o1,o2,o3,o4,o5,λi2 v2 h2 e=>?_⟩;by_cases EK:i2=i
   ·subst EK;simp only[if_true]at h2;cases h2;have:=(Pd k e).1;have:=hold k o1;omega
   ·simp only[if_neg EK]at h2;exact o6 i2 v2 h2 e
 ·have fD:∀x∈ds,x.O k->w.heap.size<=k:=λx hx hk=>(mr.each x hx).2 k hk
  by_cases sy:i'=i
  ·subst sy;simp only[if_true]at hi' hy;simp only[if_neg (Ne.symm nZ)]at hj' hz;have:=fD y hy eY;have:=hold k (h.own j' vj hj' z hz k hk2).1;omega
  ·simp only[if_neg sy]at hi' hy;by_cases BH:j'=i
   ·subst BH;simp only[if_true]at hj' hz;have:=fD z hz hk2;have:=hold k (h.own i' vi hi' y hy k eY).1;omega
   ·simp only[if_neg BH]at hj' hz;exact h.apart i' j' vi vj hi' hj' nZ y hy z hz k eY hk2
theorem xk(f:Nat->Option Value):lu f<=12:=by have:=List.length_filter_le (λi=>(f i).isSome) (List.range 12);unfold lu;simpa using this
theorem zk(N:Nat)(A:Nat->Prop)(g n cap:Nat)(G:List GS)(d:PD)(f:Nat->Option Value)(F:Nat->List FD)(i:Nat)(s:GS)(w:World)(h:aJ w N A g n cap G d f F)(hs:G[i]?=some s):
  Calls Tryz.prog 159 #[.int .i64 i,.pointer (some ⟨d.kv,0,none⟩),.pointer (some ⟨d.wk,0,none⟩)] w (LD N A g n cap G d i s w):=by
 have hG:=h.ib w (Below.refl _ _);have hi:i<12:=by have:=az hs;have:=hG.few;have:=hG.len;omega
 obtain ⟨m,hM,hm⟩:=h.map.2
 cases hf:f i with
 | some v=>
  obtain ⟨s',ao,cp,rfl,e2,-⟩:=h.fin i v hf;rw[hs]at e2;cases e2;refine (Lx d.K d.kv d.wk m f i (by omega) ao s.rs.length cp w h.pR.2 hM hf).mono ?_;rintro e w' ⟨rfl,rfl⟩;exact ⟨ao,cp,A,f,F,rfl,hf,aM.refl _ _,λk hk=>.inl hk,λk hk=>hk,h⟩
 | none=>
  refine (He d.K d.kv d.wk m f i (by omega) #[.pointer (some ⟨d.sb,0,none⟩)] (λv w1=>∃ao cp ds,v=.slice ao s.rs.length cp/\Below w.heap.size w w1/\ds.map FD.a=s.rs.map GR.a/\cV w1 w.heap.size v ds) w h.pR.2 h.uD.2 hM (by have:=xk f;omega) hf ((Ea g n cap G i s d.sb w (dw h.tab.1 h.size) hG hs h.LA.2).mono ?_)).mono ?_
  ·rintro e w1 ⟨ao,n',cp,ds,rfl,rfl,hb,QU,mr⟩;exact ⟨ao,_,cp,rfl,(hb.block _ (ae h.pR.2)).trans h.pR.2,hb.block _ hM.lt,ao,cp,ds,rfl,hb,QU,mr⟩
  ·rintro e w2 ⟨ao,n',cp,w1,rfl,⟨pW,EJ,ds,hv,hb,QU,mr⟩,C2,hg⟩;cases hv;obtain ⟨ho,hp⟩:=h.abx hs hi hf hm hb QU mr C2 hg;exact ⟨ao,cp,_,_,_,rfl,by simp,ho,λk hk=>hk.imp id λh=>h.1,λk hk=>.inl hk,hp⟩
open Go.Shelf
attribute [local go_sem] Oper.semAt_some
def Qa(bs:Nat)(ao:Option Addr)(len cap:Nat)(ds:List FD)(w:World):Prop:=
 w.heap[bs]?=some (.cells #[.slice ao len cap] 237 (0,0))/\∀(q:Nat) x,ds[q]?=some x->∃g,ao=some ⟨g,0,none⟩/\∀(y:Nat) c,x.cells[y]?=some c->w.cell? ⟨g,q*6+y,none⟩=some c
def fdv(x:FD):Value:=yX x.ρf x.sf x.ρb x.sb
theorem zC(x:FD):fdv x=.agg x.cells.toArray:=rfl
theorem cV.back{w:World}{B bs cap:Nat}{ao:Option Addr}{ds es:List FD}(h:cV w B (.slice ao ds.length cap) ds)(hb:w.heap[bs]?=some (.cells #[.slice ao ds.length cap] 237 (0,0)))(hc:es.map FD.cells=ds.map FD.cells):Qa bs ao es.length cap es w:=by
 have hl:es.length=ds.length:=by have:=congrArg List.length hc;simpa using this
 refine ⟨by rw[hl];exact hb,λq x hx=>?_⟩;have hq:q<ds.length:=by rw[<-hl];exact az hx
 obtain ⟨g,cap',hv⟩:=aB h.row (by omega);cases hv;refine ⟨g,rfl,λy c hy=>?_⟩;have hy6:y<6:=by have:=az hy;simpa [FD.cells] using this
 have nG:∀(l:List FD) (q:Nat) (x:FD),l[q]?=some x->(l.flatMap FD.cells)[q*6+y]?=x.cells[y]?:=by
  intro l
  induction l with
  | nil=>intro q x h;simp at h
  | cons a t ih=>
   intro q x h
   cases q with
   | zero=>
    simp at h;subst h;rw[List.flatMap_cons,nz (by simp[FD.cells];omega)];simp
   | succ q=>
    rw[List.flatMap_cons,pS (by simp[FD.cells];omega)];have e:(q+1)*6+y - a.cells.length=q*6+y:=by simp[FD.cells];omega
    rw[e];exact ih q x (by simpa using h)
 have mr:es.flatMap FD.cells=ds.flatMap FD.cells:=by rw[List.flatMap_def,List.flatMap_def,hc]
 have:=h.row.cells rfl (q*6+y) c (by rw[<-mr,nG es q x hx];exact hy);by_cases h0:q*6+y=0
 ·rw[h0]at this ⊢;simpa [Addr.add] using this
 ·have hn:¬(q*6=0/\y=0):=by omega
  simpa [Addr.add,hn] using this
def Qb(J Jx:Nat->World->Prop)(e:Ending)(w':World):Prop:=(∃v,e=.returned v)/\(J 0 w'∨∃i,Jx i w')
def Ed(J:Nat->World->Prop)(len k:Nat)(vi:Value)(wr:World):Prop:=k<=len/\vi=.int .i64 ((k:Int) - 1)/\J k wr
theorem Bw(m:Nat)(bs:Nat)(ao:Option Addr)(cap:Nat)(ds:List FD)(l:Nat)(J Jx:Nat->World->Prop)(w:World)(hlen:ds.length<=40)(hJb:∀i W,J i W->Qa bs ao ds.length cap ds W)
  (hY:∀i x A,ds[i]?=some x->J (i+1) A->YieldAt Fence.wide (m - 1) Tryz.prog l #[.int .i64 i,fdv x] A λe B=>(e=.returned (.bool true)/\J i B)∨(e=.returned (.bool false)/\Jx i B)) (h0:J ds.length w):
  CallsIn Fence.wide m Tryz.prog 187 #[.func (.yield l) #[] #[],.pointer (some ⟨bs,0,none⟩)] w (Qb J Jx):=by
 refine callsIn_wide.2 ?_;have b0:=aA (hJb _ _ h0).1;have HJ:=aa hJb;have HY:=aa hY;have H0:=aa h0;clear hJb hY h0;go_enter Tryz.func187,Tryz.ntmps187;go_wp2_with fail;go_loopg [3] ds.length (λk vi wr=>Ed J ds.length k vi wr)
 case atStart=>exact ⟨bc _,rfl,H0.out⟩
 case round=>
  obtain ⟨hk,rfl,hj⟩:=hrel
  cases gk with
  | zero=>
   have g0:decide ((0:Int)<=-1)=false:=by decide
   go_wp2_with fail;go_end0;exact ⟨⟨_,rfl⟩,.inl hj⟩
  | succ i=>
   have hi:i<ds.length:=by omega
   obtain ⟨x,hx⟩:∃x,ds[i]?=some x:=⟨_,cB hi⟩;obtain ⟨hb,hc⟩:=HJ.out _ _ hj;have c0:=aA hb;obtain ⟨g,hao,hc2⟩:=hc i x hx;subst hao;have d0:=hc2 0 _ rfl;have d1:=hc2 1 _ rfl;have d2:=hc2 2 _ rfl;have d3:=hc2 3 _ rfl;have d4:=hc2 4 _ rfl;have d5:=hc2 5 _ rfl;rw[Nat.add_zero]at d0;obtain ⟨fn,tmps,assign,body,hy,hR⟩:=HY.out i x wr hx hj
   unfold fdv yX at hy;have HR:=aa hR;have e1:(((i+1:Nat):Int) - 1)=(i:Int):=by omega
   have g0:decide ((0:Int)<=(i:Int))=true:=by simp
   have hwr:IntKind.i64.wrap ((i:Int) - 1)=(i:Int) - 1:=by rw[IntKind.wrap_i64];omega
   rw[e1];clear hb hc hc2 hj hR hx;refine (wpIn_wide (n:=m)).1 ?_;gi_wp2_with fail;refine ⟨λh=>(by cases h),HR.out.mono ?_⟩;rintro e W' (⟨rfl,hj'⟩|⟨rfl,zI⟩)
   ·have HST:=aa (show Ed J ds.length i (.int .i64 ((i:Int) - 1)) W' from ⟨by omega,rfl,hj'⟩);clear hj' HR hy;gi_wp2_with fail;go_roundg i
    case measure=>omega
    case rel=>exact HST.out
   ·have Mz:=aa zI;clear zI HR hy;gi_wp2_with fail;go_end0;exact ⟨⟨_,rfl⟩,.inr ⟨i,Mz.out⟩⟩
end Go.Proofs.YtgncgdkpkkdaeaaGreatDoor
