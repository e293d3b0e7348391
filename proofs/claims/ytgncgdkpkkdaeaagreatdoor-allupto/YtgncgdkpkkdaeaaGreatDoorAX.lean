import Derived.Test.YtgncgdkpkkdaeaaGreatDoorAW
import Derived.Sort.CutIn
namespace Go.Proofs.YtgncgdkpkkdaeaaGreatDoor
open Go.RowKit bu Go.Maps
variable {x:FD} {a b f from_ t to:Int} {hs:List (Int×Int)} {out:List (List Nat×List Sp)} {ls:List (List UInt8)} {rs:List GR} {G:List GS} {st st0 lU Hx:List Nat} {pre bh:List Sp} {T l:List UInt8} {at' at_ e e' i j k p:Nat} {fz:Nat×Nat} {ao:Option Addr} {r:Re} {v:Value} {w:World}
inductive LQ(G:List GS)(T:List UInt8):Nat->List Nat->List Sp->List Nat->Prop where
 | done {at_:Nat} {st:List Nat}:at_=T.length->LQ G T at_ st [] st
 | none {at_:Nat} {st:List Nat} {top:Nat} {s:GS}:at_<T.length->st[st.length - 1]?=some top->G[top]?=some s->Es s.rs T at_->LQ G T at_ st [⟨at_,T.length,s.nm,st.length,⟨#[]⟩⟩] st
 | hit {at_:Nat} {st:List Nat} {top:Nat} {s:GS} {p k:Nat} {r:GR} {e:Nat} {bh:List Sp} {st':List Nat}:at_<T.length->st[st.length - 1]?=some top->G[top]?=some s->mY s.rs T at_ p k r e->LQ G T e (nM r.k r.op st) bh st'->LQ G T at_ st (ig at_ p s.nm st.length++⟨p,e,s.nm,st.length,r.co⟩::bh) st'
theorem Path.fwd(h:Path G T st0 at_ st pre):∀{bh:List Sp} {st':List Nat},LQ G T at_ st bh st'->LQ G T 0 st0 (pre++bh) st':=by
 induction h with
 | start=>intro bh st' h;exact h
 | hit _ h1 h2 h3 h4 ih=>
  intro bh st' h;have:=ih (LQ.hit h1 h2 h3 h4 h);simpa using this
theorem uE.fwd(h:uE G T st0 bh st):LQ G T 0 st0 bh st:=by
 rcases h with h|⟨at_,pre,top,s,h1,h2,h3,h4,h5,rfl⟩
 ·have:=h.fwd (LQ.done rfl);simpa using this
 ·exact h1.fwd (LQ.none h2 h3 h4 h5)
theorem mY.no{r:GR}(h:mY rs T at_ p k r e):¬Es rs T at_:=λhn=>hn p h.le h.lt k r h.rule h.from_
theorem Bl.dz(h:Bl r T p e)(h':Bl r T p e'):e=e':=by
 obtain ⟨a1,a2,a3,a4⟩:=h;obtain ⟨b1,b2,b3,b4⟩:=h';rcases Nat.lt_trichotomy e e' with h1|h1|h1
 ·rcases b3 with h2|h2
  ·omega
  ·exact absurd h2 (a4 e' h1 b2)
 ·exact h1
 ·rcases a3 with h2|h2
  ·omega
  ·exact absurd h2 (b4 e h1 a2)
theorem mY.dz{r:GR}{p' k':Nat}{r':GR}(h:mY rs T at_ p k r e)(h':mY rs T at_ p' k' r' e'):p=p'/\r=r'/\e=e':=by
 have hp:p=p':=by
  rcases Nat.lt_trichotomy p p' with h1|h1|h1
  ·exact absurd h.from_ (h'.least p h.le h1 k r h.rule)
  ·exact h1
  ·exact absurd h'.from_ (h.least p' h'.le h1 k' r' h'.rule)
 subst hp
 have hk:k=k':=by
  rcases Nat.lt_trichotomy k k' with h1|h1|h1
  ·exact absurd h.from_ (h'.first k r h1 h.rule)
  ·exact h1
  ·exact absurd h'.from_ (h.first k' r' h1 h'.rule)
 subst hk;have hr:r=r':=by have:=h.rule;rw[h'.rule]at this;cases this;rfl
 subst hr;exact ⟨rfl,rfl,h.long.dz h'.long⟩
theorem LQ.dz{st':List Nat}(h:LQ G T at_ st bh st'):∀{Qh:List Sp} {Hx:List Nat},LQ G T at_ st Qh Hx->bh=Qh/\st'=Hx:=by
 induction h with
 | done h1=>
  intro Qh Hx h
  cases h with
  | done=>exact ⟨rfl,rfl⟩
  | none h2=>omega
  | hit h2=>omega
 | none h1 h2 h3 h4=>
  intro Qh Hx h
  cases h with
  | done h5=>omega
  | none a1 a2 a3 a4=>
   rw[h2]at a2;cases a2;rw[h3]at a3;cases a3;exact ⟨rfl,rfl⟩
  | hit a1 a2 a3 a4 a5=>
   rw[h2]at a2;cases a2;rw[h3]at a3;cases a3;exact absurd h4 a4.no
 | hit h1 h2 h3 h4 h5 ih=>
  intro Qh Hx h
  cases h with
  | done h5=>omega
  | none a1 a2 a3 a4=>
   rw[h2]at a2;cases a2;rw[h3]at a3;cases a3;exact absurd a4 h4.no
  | hit a1 a2 a3 a4 a5=>
   rw[h2]at a2;cases a2;rw[h3]at a3;cases a3;obtain ⟨rfl,rfl,rfl⟩:=h4.dz a4;obtain ⟨rfl,rfl⟩:=ih a5;exact ⟨rfl,rfl⟩
def aF:List UInt8->List (List UInt8)
 | []=>[[]]
 | x::t=>if x=10 then []::aF t else match aF t with
  | []=>[[x]]
  | l::ls=>(x::l)::ls
theorem iK(t:List UInt8):aF t≠[]:=by
 cases t with
 | nil=>simp[aF]
 | cons x t=>
  unfold aF;split
  ·simp
  ·split<;>simp
theorem uN{a:List UInt8}(h:(10:UInt8)∉a):aF a=[a]:=by
 induction a with
 | nil=>rfl
 | cons x t ih=>
  have h1:x≠10:=λe=>h (by simp[e])
  unfold aF;rw[if_neg h1,ih (λe=>h (List.mem_cons_of_mem _ e))]
theorem uM{a:List UInt8}(h:(10:UInt8)∉a)(b:List UInt8):aF (a++10::b)=a::aF b:=by
 induction a with
 | nil=>simp[aF]
 | cons x t ih=>
  have h1:x≠10:=λe=>h (by simp[e])
  rw[List.cons_append,aF,if_neg h1,ih (λe=>h (List.mem_cons_of_mem _ e))]
theorem aT(t:List UInt8):(aF t).length=1+t.count 10:=by
 induction t with
 | nil=>rfl
 | cons x t ih=>
  unfold aF;by_cases h:x=10
  ·rw[if_pos h];subst h;simp[ih];omega
  ·rw[if_neg h];have hne:=iK t
   cases hs:aF t with
   | nil=>exact absurd hs hne
   | cons l ls=>
    rw[hs]at ih;rw[List.count_cons_of_ne (by simpa using h)];simpa using ih
theorem kI{t:List UInt8}(h:l∈aF t):l.length<=t.length:=by
 induction t generalizing l with
 | nil=>simp[aF]at h;simp[h]
 | cons x t ih=>
  unfold aF at h;by_cases hx:x=10
  ·rw[if_pos hx]at h;rcases List.mem_cons.1 h with rfl|h
   ·simp
   ·have:=ih h;simp;omega
  ·rw[if_neg hx]at h
   cases hs:aF t with
   | nil=>exact absurd hs (iK t)
   | cons l' ls=>
    rw[hs]at h ih;rcases List.mem_cons.1 h with rfl|h
    ·have:=ih (List.mem_cons_self);simp;omega
    ·have:=ih (List.mem_cons_of_mem _ h);simp;omega
inductive dZ(G:List GS):List Nat->List (List UInt8)->List (List Nat×List Sp)->List Nat->Prop where
 | nil {st:List Nat}:dZ G st [] [] st
 | cons {st:List Nat} {l:List UInt8} {ls:List (List UInt8)} {bh:List Sp} {lU:List Nat} {out:List (List Nat×List Sp)} {st':List Nat}:uE G l st bh lU->dZ G lU ls out st'->dZ G st (l::ls) ((st,bh)::out) st'
theorem dZ.snoc(h:dZ G st ls out lU)(ht:uE G l lU bh Hx):dZ G st (ls++[l]) (out++[(lU,bh)]) Hx:=by
 induction h with
 | nil=>exact .cons ht .nil
 | cons h1 _ ih=>exact .cons h1 (ih ht)
theorem dZ.append(h:dZ G st ls out lU){ls2:List (List UInt8)}{Hy:List (List Nat×List Sp)}(h2:dZ G lU ls2 Hy Hx):dZ G st (ls++ls2) (out++Hy) Hx:=by
 induction h with
 | nil=>exact h2
 | cons h1 _ ih=>exact .cons h1 (ih h2)
theorem dZ.dz(h:dZ G st ls out lU):∀{Hy:List (List Nat×List Sp)} {Hx:List Nat},dZ G st ls Hy Hx->out=Hy/\lU=Hx:=by
 induction h with
 | nil=>intro Hy Hx h;cases h;exact ⟨rfl,rfl⟩
 | cons h1 _ ih=>
  intro Hy Hx h
  cases h with
  | cons a1 a2=>
   obtain ⟨rfl,rfl⟩:=h1.fwd.dz a1.fwd;obtain ⟨rfl,rfl⟩:=ih a2;exact ⟨rfl,rfl⟩
theorem dZ.length(h:dZ G st ls out lU):out.length=ls.length:=by
 induction h with
 | nil=>rfl
 | cons _ _ ih=>simp[ih]
theorem uE.good(eM:yq G)(h0:Good G st0)(h:uE G T st0 bh st):Good G st:=by
 have hp:∀{at_:Nat} {st:List Nat} {pre:List Sp},Path G T st0 at_ st pre->Good G st:=by
  intro at_ st pre h
  induction h with
  | start=>exact h0
  | hit _ _ _ hs hh ih=>exact ih.nM (λhk=>(eM _ (bn hs) _ (bn hh.rule)).2 hk)
 rcases h with h|⟨_,_,_,_,h,_⟩
 ·exact hp h
 ·exact hp h
def Jm(r:Re)(T:List UInt8)(at_:Nat)(f t:Int):Prop:=
 f=-1∨(f=1000000/\∀i,at_<=i->¬From r T i)∨∃s e Gz:Nat,f=s/\t=e/\Gz<=at_/\IsMatch r T Gz (some (s,e))
def ny(r:Re)(T:List UInt8)(at_:Nat)(f t:Int):Prop:=
 (f=1000000/\∀i,at_<=i->¬From r T i)∨∃s e:Nat,f=s/\t=e/\IsMatch r T at_ (some (s,e))
theorem ny.ok(h:ny r T at_ f t)(hl:at_<=at'):Jm r T at' f t:=by
 rcases h with ⟨h1,h2⟩|⟨s,e,h1,h2,h3⟩
 ·exact .inr (.inl ⟨h1,λi hi=>h2 i (by omega)⟩)
 ·exact .inr (.inr ⟨s,e,at_,h1,h2,hl,h3⟩)
theorem Jm.now(h:Jm r T at_ f t)(hl:(at_:Int)<=f):ny r T at_ f t:=by
 rcases h with h1|h1|⟨s,e,a0,h1,h2,h3,h4⟩
 ·omega
 ·exact .inl h1
 ·exact .inr ⟨s,e,h1,h2,by omega,h4.2.1,h4.2.2.1,h4.2.2.2.1,λi hi hs=>h4.2.2.2.2.1 i (by omega) hs,h4.2.2.2.2.2⟩
theorem IsMatch.found{f s:Nat}(h:IsMatch r T f (some (s,e))):From r T s:=⟨e,h.2.1,h.2.2.1,h.2.2.2.1⟩
def rj(rs:List GR)(T:List UInt8)(at_:Nat)(hs:List (Int×Int)):Prop:=hs.length=rs.length/\∀(i:Nat) r h,rs[i]?=some r->hs[i]?=some h->ny r.a.re T at_ h.1 h.2
def pB(rs:List GR)(T:List UInt8)(at_:Nat)(hs:List (Int×Int)):Prop:=hs.length=rs.length/\∀(i:Nat) r h,rs[i]?=some r->hs[i]?=some h->Jm r.a.re T at_ h.1 h.2
theorem rj.ok(h:rj rs T at_ hs)(hl:at_<=at'):pB rs T at' hs:=⟨h.1,λi r x h1 h2=>(h.2 i r x h1 h2).ok hl⟩
def gH(hs:List (Int×Int))(j:Nat)(hit from_ to:Int):Prop:=
 (hit=-1/\∀(i:Nat) h,i<j->hs[i]?=some h->1000000<=h.1) ∨
 ∃k:Nat,hit=k/\k<j/\hs[k]?=some (from_,to)/\from_<1000000/\(∀(i:Nat) h,i<j->hs[i]?=some h->from_<=h.1)/\∀(i:Nat) h,i<k->hs[i]?=some h->from_<h.1
theorem gH.start(hs:List (Int×Int))(a b:Int):gH hs 0 (-1) a b:=.inl ⟨rfl,λi h hi=>by omega⟩
theorem gH.skip{hit:Int}{x:Int×Int}(h:gH hs j hit from_ to)(hx:hs[j]?=some x)(hn:1000000<=x.1∨(0<=hit/\from_<=x.1)):gH hs (j+1) hit from_ to:=by
 rcases h with ⟨h1,h2⟩|⟨k,h1,h2,h3,h4,h5,h6⟩
 ·refine .inl ⟨h1,λi y hi hy=>?_⟩;rcases ed i j with h' | h'
  ·exact h2 i y h' hy
  ·obtain rfl:i=j:=by omega
   rw[hx]at hy;cases hy;rcases hn with hn|hn<;>omega
 ·refine .inr ⟨k,h1,by omega,h3,h4,λi y hi hy=>?_,h6⟩;rcases ed i j with h' | h'
  ·exact h5 i y h' hy
  ·obtain rfl:i=j:=by omega
   rw[hx]at hy;cases hy;rcases hn with hn|hn<;>omega
theorem gH.take{hit:Int}(h:gH hs j hit from_ to)(hx:hs[j]?=some (a,b))(h1:a<1000000)(h2:hit<0∨a<from_):gH hs (j+1) j a b:=by
 refine .inr ⟨j,rfl,by omega,hx,h1,λi y hi hy=>?_,λi y hi hy=>?_⟩
 ·rcases ed i j with h' | h'
  ·rcases h with ⟨e1,e2⟩|⟨k,e1,e2,e3,e4,e5,e6⟩
   ·have:=e2 i y h' hy;omega
   ·have:=e5 i y h' hy;omega
  ·obtain rfl:i=j:=by omega
   rw[hx]at hy;cases hy;exact Int.le_refl _
 ·rcases h with ⟨e1,e2⟩|⟨k,e1,e2,e3,e4,e5,e6⟩
  ·have:=e2 i y hi hy;omega
  ·have:=e5 i y hi hy;omega
theorem gH.no{hit:Int}(hn:rj rs T at_ hs)(hz:T.length<1000000)(h:gH hs rs.length hit a b)(hlt:hit<0):Es rs T at_:=by
 intro p h1 h2 k r hr hf;rcases h with ⟨_,e2⟩|⟨k',e1,_⟩
 ·have hk:k<hs.length:=by rw[hn.1];exact az hr
  have hx:hs[k]?=some hs[k]:=cB hk;have h3:=e2 k _ (az hr) hx;rcases hn.2 k r _ hr hx with ⟨_,h5⟩|⟨s,e,h5,_,h6⟩
  ·exact h5 p h1 hf
  ·have:=h6.2.1;have:=h6.2.2.1;omega
 ·omega
theorem gH.hit{hit:Int}(eM:∀r∈rs,r.a.re.au=false)(hn:rj rs T at_ hs)(h:gH hs rs.length hit a b)(kO:0<=hit):
  ∃(k p e:Nat) (r:GR),hit=k/\a=p/\b=e/\rs[k]?=some r/\mY rs T at_ p k r e:=by
 rcases h with ⟨h1,_⟩|⟨k,h1,h2,h3,h4,h5,h6⟩
 ·omega
 ·obtain ⟨r,hr⟩:∃r,rs[k]?=some r:=⟨_,cB h2⟩;rcases hn.2 k r _ hr h3 with ⟨e1,_⟩|⟨s,e,e1,e2,hm⟩
  ·simp at e1;omega
  ·simp at e1 e2;have hf:=hm.found
   have Jn:∀(i:Nat) (q:GR) (p':Nat),rs[i]?=some q->at_<=p'->(p'<s∨(p'<=s/\i<k))->¬From q.a.re T p':=λi q p' hq hp hlt SQ=>by
    have hi:i<hs.length:=by rw[hn.1];exact az hq
    have hx:hs[i]?=some hs[i]:=cB hi;have g1:=h5 i _ (az hq) hx;rcases hn.2 i q _ hq hx with ⟨_,g2⟩|⟨s',e',g2,_,g3⟩
    ·exact g2 p' hp SQ
    ·refine g3.2.2.2.2.1 p' hp ?_ SQ;rcases hlt with hlt|⟨hlt,hik⟩
     ·omega
     ·have:=h6 i _ hik hx;omega
   refine ⟨k,s,e,r,h1,e1,e2,hr,hm.1,Jj (eM r (bn hr)) hf,hr,hf,λi q hi hq=>Jn i q s hq hm.1 (.inr ⟨bc _,hi⟩),λp' hp hlt i q hq=>Jn i q p' hq hp (.inl hlt),hm.2.1,hm.2.2.1,.inr hm.2.2.2.1,hm.2.2.2.2.2⟩
theorem cV.cell{B cap len:Nat}{ds:List FD}(h:cV w B (.slice ao len cap) ds)(hl:len=ds.length){q:Nat}(hx:ds[q]?=some x):∃g,ao=some ⟨g,0,none⟩/\∀(y:Nat) c,x.cells[y]?=some c->w.cell? ⟨g,q*6+y,none⟩=some c:=by
 subst hl;have hq:=az hx;obtain ⟨g,cap',hv⟩:=aB h.row (by omega);cases hv;refine ⟨g,rfl,λy c hy=>?_⟩;have hy6:y<6:=by have:=az hy;simpa [FD.cells] using this
 have nG:∀(l:List FD) (q:Nat) (x:FD),l[q]?=some x->(l.flatMap FD.cells)[q*6+y]?=x.cells[y]?:=by
  intro l
  induction l with
  | nil=>intro q x h;simp at h
  | cons a t ih=>
   intro q x h
   cases q with
   | zero=>
    simp at h;subst h;rw[List.flatMap_cons,nz (by simp[FD.cells];omega)];simp
   | succ q=>
    rw[List.flatMap_cons,pS (by simp[FD.cells];omega)];have e:(q+1)*6+y - a.cells.length=q*6+y:=by simp[FD.cells];omega
    rw[e];exact ih q x (by simpa using h)
 have:=h.row.cells rfl (q*6+y) c (by rw[nG ds q x hx];exact hy);by_cases h0:q*6+y=0
 ·rw[h0]at this ⊢;simpa [Addr.add] using this
 ·have hn:¬(q*6=0/\y=0):=by omega
  simpa [Addr.add,hn] using this
section
variable {W:World} {N:Nat} {A:Nat->Prop} {g n cap:Nat} {G:List GS} {d:PD} {f:Nat->Option Value} {F:Nat->List FD}
theorem aJ.get(h:aJ W N A g n cap G d f F){s:GS}{r:GR}{cp:Nat}(hs:G[i]?=some s)(hf:f i=some (.slice ao s.rs.length cp))(hr:s.rs[k]?=some r):
  ∃x fg,ao=some ⟨fg,0,none⟩/\(F i)[k]?=some x/\x.a=r.a/\∀(y:Nat) c,x.cells[y]?=some c->W.cell? ⟨fg,k*6+y,none⟩=some c:=by
 obtain ⟨s',pW,EJ,e1,e2,e3,e4,e5⟩:=h.fin i _ hf;rw[hs]at e2;cases e2;have hl:(F i).length=s.rs.length:=by have:=congrArg List.length e3;simpa using this
 have h1:=congrArg (λl=>l[k]?) e3;simp only[fX,hr]at h1
 cases h2:(F i)[k]? with
 | none=>rw[h2]at h1;cases h1
 | some x=>
  rw[h2]at h1;obtain ⟨fg,h3,h4⟩:=e4.cell hl.symm h2;exact ⟨x,fg,h3,rfl,by simpa using h1,h4⟩
def Tq(W:World)(N:Nat)(A:Nat->Prop)(g n cap:Nat)(G:List GS)(d:PD)(f:Nat->Option Value)(r:Re)(T:List UInt8)(p:Nat)(e:Ending)(W':World):Prop:=
 ∃(stop:Nat) (A':Nat->Prop) (F':Nat->List FD),e=.returned (.int .i64 stop)/\Bl r T p stop/\aM A W W'/\(∀k,A' k->A k∨W.heap.size<=k)/\aJ W' N A' g n cap G d f F'
theorem SE(h:aJ W N A g n cap G d f F){line:ByteArray}(hf:f i=some v)(hx:(F i)[k]?=some x)(hp:p<=line.size)(hz:line.size<=3000):
  Calls Tryz.prog 129 #[yX x.ρf x.sf x.ρb x.sb,.string line,.int .i64 p] W (Tq W N A g n cap G d f x.a.re line.data.toList p):=by
 obtain ⟨s',pW,EJ,e1,e2,e3,e4,e5⟩:=h.fin i v hf;have BO:=bn hx;have LC:∀y,x.O y->A y:=λy hy=>(h.own i v hf x BO y hy).1
 refine (I4 x.O x.a x.ρf x.sf x.ρb x.sb line p W h.tab.2 (e4.each x BO).1 hp (by unfold maxLen;omega)).mono ?_;rintro e W' ⟨stop,rfl,aR,hF,qR⟩;refine ⟨stop,_,_,rfl,qR,aR.sub λy _ hy=>LC y hy,λy hy=>?_,h.use (Z:=λ_=>False) hf hx (aR.sub λy _ hy=>.inl hy) (λ_ hy=>hy.elim) (λy hy=>?_) hF⟩
 ·rcases hy with hy|hy
  ·exact .inl hy
  ·rcases hy with hy|hy
   ·exact .inl (LC y hy)
   ·exact .inr hy.1
 ·exact hy.imp id λh=>h.1
end
theorem pC(a p:Nat)(nm:ByteArray)(jL:Nat):(ig a p nm jL).length<=1:=by unfold ig;split<;>simp
theorem Path.short(eM:yq G)(h:Path G T st0 at_ st pre):pre.length<=2*at_:=by
 induction h with
 | start=>exact bc _
 | @hit at_ st pre top s p k r e _ h1 h2 h3 h4 ih=>
  have hg:=(h4.gt (eM _ (bn h3) _ (bn h4.rule)).1).1;have hl:=h4.le;have hs:=pC at_ p s.nm st.length;simp only[dG,fe,List.length_nil];omega
theorem aM.setRow{Y:Nat->Prop}{g:Nat}{old:Array Value}{t:TypeId}(cs:Array Value)(hg:w.heap[g]?=some (.cells old t fz))(ht:jK t=false)(hy:Y g):aM Y w (w.setRow g cs):=
 ⟨rfl,rfl,rfl,by simp,λk hk=>setRow_other _ _ _ _ (λe=>hk.2 (e▸hy)),λk c t' jo hh=>(setRow_other _ _ _ _ (λe=>by rw[e,hg]at hh;cases hh;rw[ht]at jo;cases jo)).trans hh⟩
theorem DM{P R:World->Prop}{C:Prop}(main:Hid (∀w,R w->P w)->C)(pf:∀w,R w->P w):C:=main (aa pf)
theorem ai{b:Nat}{cs:Array Value}{t:TypeId}(h:w.heap[b]?=some (.cells cs t fz))(hj:cs[j]?=some v):w.cell? ⟨b,j,none⟩=some v:=by simp[World.cell?,h,hj]
end Go.Proofs.YtgncgdkpkkdaeaaGreatDoor
