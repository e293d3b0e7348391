import Derived.Test.YtgncgdkpkkdaeaaGreatDoorMW
import Derived.Sort.CutIn
namespace Go.Proofs.YtgncgdkpkkdaeaaGreatDoor
open Go.RowKit aO Go.Maps
variable {x:FD} {a b f from_ t to:Int} {hs:List (Int×Int)} {out:List (List Nat×List Sp)} {ls:List (List UInt8)} {rs:List GR} {G:List GS} {st st0 jB yJ:List Nat} {pre bc:List Sp} {T l:List UInt8} {at' at_ e e' i j k p:Nat} {fz:Nat×Nat} {ao:Option Addr} {r:Re} {v:Value} {w:World}
inductive K2(G:List GS)(T:List UInt8):Nat->List Nat->List Sp->List Nat->Prop where
 | done {at_:Nat} {st:List Nat}:at_=T.length->K2 G T at_ st [] st
 | none {at_:Nat} {st:List Nat} {top:Nat} {s:GS}:at_<T.length->st[st.length - 1]?=some top->G[top]?=some s->DA s.rs T at_->K2 G T at_ st [⟨at_,T.length,s.nm,st.length,⟨#[]⟩⟩] st
 | hit {at_:Nat} {st:List Nat} {top:Nat} {s:GS} {p k:Nat} {r:GR} {e:Nat} {bc:List Sp} {st':List Nat}:at_<T.length->st[st.length - 1]?=some top->G[top]?=some s->ml s.rs T at_ p k r e->K2 G T e (mQ r.k r.op st) bc st'->K2 G T at_ st (gI at_ p s.nm st.length++⟨p,e,s.nm,st.length,r.co⟩::bc) st'
theorem Path.fwd(h:Path G T st0 at_ st pre):∀{bc:List Sp} {st':List Nat},K2 G T at_ st bc st'->K2 G T 0 st0 (pre++bc) st':=by
 induction h with
 | start=>intro bc st' h;exact h
 | hit _ h1 h2 h3 h4 ih=>
  intro bc st' h;have:=ih (K2.hit h1 h2 h3 h4 h);simpa using this
theorem tQ.fwd(h:tQ G T st0 bc st):K2 G T 0 st0 bc st:=by
 rcases h with h|⟨at_,pre,top,s,h1,h2,h3,h4,h5,rfl⟩
 ·have:=h.fwd (K2.done rfl);simpa using this
 ·exact h1.fwd (K2.none h2 h3 h4 h5)
theorem ml.no{r:GR}(h:ml rs T at_ p k r e):¬DA rs T at_:=λhn=>hn p h.le h.lt k r h.rule h.from_
theorem Aj.cX(h:Aj r T p e)(h':Aj r T p e'):e=e':=by
 obtain ⟨a1,a2,a3,a4⟩:=h;obtain ⟨b1,b2,b3,b4⟩:=h';rcases Nat.lt_trichotomy e e' with h1|h1|h1
 ·rcases b3 with h2|h2
  ·omega
  ·exact absurd h2 (a4 e' h1 b2)
 ·exact h1
 ·rcases a3 with h2|h2
  ·omega
  ·exact absurd h2 (b4 e h1 a2)
theorem ml.cX{r:GR}{p' k':Nat}{r':GR}(h:ml rs T at_ p k r e)(h':ml rs T at_ p' k' r' e'):p=p'/\r=r'/\e=e':=by
 have hp:p=p':=by
  rcases Nat.lt_trichotomy p p' with h1|h1|h1
  ·exact absurd h.from_ (h'.least p h.le h1 k r h.rule)
  ·exact h1
  ·exact absurd h'.from_ (h.least p' h'.le h1 k' r' h'.rule)
 subst hp
 have hk:k=k':=by
  rcases Nat.lt_trichotomy k k' with h1|h1|h1
  ·exact absurd h.from_ (h'.first k r h1 h.rule)
  ·exact h1
  ·exact absurd h'.from_ (h.first k' r' h1 h'.rule)
 subst hk;have hr:r=r':=by have:=h.rule;rw[h'.rule]at this;cases this;rfl
 subst hr;exact ⟨rfl,rfl,h.long.cX h'.long⟩
theorem K2.cX{st':List Nat}(h:K2 G T at_ st bc st'):∀{Pn:List Sp} {yJ:List Nat},K2 G T at_ st Pn yJ->bc=Pn/\st'=yJ:=by
 induction h with
 | done h1=>
  intro Pn yJ h
  cases h with
  | done=>exact ⟨rfl,rfl⟩
  | none h2=>omega
  | hit h2=>omega
 | none h1 h2 h3 h4=>
  intro Pn yJ h
  cases h with
  | done h5=>omega
  | none a1 a2 a3 a4=>
   rw[h2]at a2;cases a2;rw[h3]at a3;cases a3;exact ⟨rfl,rfl⟩
  | hit a1 a2 a3 a4 a5=>
   rw[h2]at a2;cases a2;rw[h3]at a3;cases a3;exact absurd h4 a4.no
 | hit h1 h2 h3 h4 h5 ih=>
  intro Pn yJ h
  cases h with
  | done h5=>omega
  | none a1 a2 a3 a4=>
   rw[h2]at a2;cases a2;rw[h3]at a3;cases a3;exact absurd a4 h4.no
  | hit a1 a2 a3 a4 a5=>
   rw[h2]at a2;cases a2;rw[h3]at a3;cases a3;obtain ⟨rfl,rfl,rfl⟩:=h4.cX a4;obtain ⟨rfl,rfl⟩:=ih a5;exact ⟨rfl,rfl⟩
def aB:List UInt8->List (List UInt8)
 | []=>[[]]
 | x::t=>if x=10 then []::aB t else match aB t with
  | []=>[[x]]
  | l::ls=>(x::l)::ls
theorem ik(t:List UInt8):aB t≠[]:=by
 cases t with
 | nil=>simp[aB]
 | cons x t=>
  unfold aB;split
  ·simp
  ·split<;>simp
theorem tZ{a:List UInt8}(h:(10:UInt8)∉a):aB a=[a]:=by
 induction a with
 | nil=>rfl
 | cons x t ih=>
  have h1:x≠10:=λe=>h (by simp[e])
  unfold aB;rw[if_neg h1,ih (λe=>h (List.mem_cons_of_mem _ e))]
theorem tY{a:List UInt8}(h:(10:UInt8)∉a)(b:List UInt8):aB (a++10::b)=a::aB b:=by
 induction a with
 | nil=>simp[aB]
 | cons x t ih=>
  have h1:x≠10:=λe=>h (by simp[e])
  rw[List.cons_append,aB,if_neg h1,ih (λe=>h (List.mem_cons_of_mem _ e))]
theorem aS(t:List UInt8):(aB t).length=1+t.count 10:=by
 induction t with
 | nil=>rfl
 | cons x t ih=>
  unfold aB;by_cases h:x=10
  ·rw[if_pos h];subst h;simp[ih];omega
  ·rw[if_neg h];have hne:=ik t
   cases hs:aB t with
   | nil=>exact absurd hs hne
   | cons l ls=>
    rw[hs]at ih;rw[List.count_cons_of_ne (by simpa using h)];simpa using ih
theorem j6{t:List UInt8}(h:l∈aB t):l.length<=t.length:=by
 induction t generalizing l with
 | nil=>simp[aB]at h;simp[h]
 | cons x t ih=>
  unfold aB at h;by_cases hx:x=10
  ·rw[if_pos hx]at h;rcases List.mem_cons.1 h with rfl|h
   ·simp
   ·have:=ih h;simp;omega
  ·rw[if_neg hx]at h
   cases hs:aB t with
   | nil=>exact absurd hs (ik t)
   | cons l' ls=>
    rw[hs]at h ih;rcases List.mem_cons.1 h with rfl|h
    ·have:=ih (List.mem_cons_self);simp;omega
    ·have:=ih (List.mem_cons_of_mem _ h);simp;omega
inductive dz(G:List GS):List Nat->List (List UInt8)->List (List Nat×List Sp)->List Nat->Prop where
 | nil {st:List Nat}:dz G st [] [] st
 | cons {st:List Nat} {l:List UInt8} {ls:List (List UInt8)} {bc:List Sp} {jB:List Nat} {out:List (List Nat×List Sp)} {st':List Nat}:tQ G l st bc jB->dz G jB ls out st'->dz G st (l::ls) ((st,bc)::out) st'
theorem dz.snoc(h:dz G st ls out jB)(ht:tQ G l jB bc yJ):dz G st (ls++[l]) (out++[(jB,bc)]) yJ:=by
 induction h with
 | nil=>exact .cons ht .nil
 | cons h1 _ ih=>exact .cons h1 (ih ht)
theorem dz.append(h:dz G st ls out jB){Wq:List (List UInt8)}{Gy:List (List Nat×List Sp)}(h2:dz G jB Wq Gy yJ):dz G st (ls++Wq) (out++Gy) yJ:=by
 induction h with
 | nil=>exact h2
 | cons h1 _ ih=>exact .cons h1 (ih h2)
theorem dz.cX(h:dz G st ls out jB):∀{Gy:List (List Nat×List Sp)} {yJ:List Nat},dz G st ls Gy yJ->out=Gy/\jB=yJ:=by
 induction h with
 | nil=>intro Gy yJ h;cases h;exact ⟨rfl,rfl⟩
 | cons h1 _ ih=>
  intro Gy yJ h
  cases h with
  | cons a1 a2=>
   obtain ⟨rfl,rfl⟩:=h1.fwd.cX a1.fwd;obtain ⟨rfl,rfl⟩:=ih a2;exact ⟨rfl,rfl⟩
theorem dz.length(h:dz G st ls out jB):out.length=ls.length:=by
 induction h with
 | nil=>rfl
 | cons _ _ ih=>simp[ih]
theorem dz.split:∀{ls Wq:List (List UInt8)} {out:List (List Nat×List Sp)} {yJ:List Nat},dz G st (ls++Wq) out yJ->∃o1 o2 jB,out=o1++o2/\dz G st ls o1 jB/\dz G jB Wq o2 yJ:=by
 intro ls
 induction ls generalizing st with
 | nil=>intro Wq out yJ h;exact ⟨[],out,st,rfl,.nil,h⟩
 | cons l ls ih=>
  intro Wq out yJ h
  cases h with
  | cons h1 h2=>
   obtain ⟨o1,o2,jB,rfl,a1,a2⟩:=ih h2;exact ⟨_::o1,o2,jB,rfl,.cons h1 a1,a2⟩
theorem tQ.good(dZ:xD G)(h0:Good G st0)(h:tQ G T st0 bc st):Good G st:=by
 have hp:∀{at_:Nat} {st:List Nat} {pre:List Sp},Path G T st0 at_ st pre->Good G st:=by
  intro at_ st pre h
  induction h with
  | start=>exact h0
  | hit _ _ _ hs hh ih=>exact ih.mQ (λhk=>(dZ _ (List.mem_of_getElem? hs) _ (List.mem_of_getElem? hh.rule)).2 hk)
 rcases h with h|⟨_,_,_,_,h,_⟩
 ·exact hp h
 ·exact hp h
def Ix(r:Re)(T:List UInt8)(at_:Nat)(f t:Int):Prop:=
 f=-1∨(f=1000000/\∀i,at_<=i->¬From r T i)∨∃s e FH:Nat,f=s/\t=e/\FH<=at_/\IsMatch r T FH (some (s,e))
def mE(r:Re)(T:List UInt8)(at_:Nat)(f t:Int):Prop:=
 (f=1000000/\∀i,at_<=i->¬From r T i)∨∃s e:Nat,f=s/\t=e/\IsMatch r T at_ (some (s,e))
theorem mE.ok(h:mE r T at_ f t)(hl:at_<=at'):Ix r T at' f t:=by
 rcases h with ⟨h1,h2⟩|⟨s,e,h1,h2,h3⟩
 ·exact .inr (.inl ⟨h1,λi hi=>h2 i (by omega)⟩)
 ·exact .inr (.inr ⟨s,e,at_,h1,h2,hl,h3⟩)
theorem Ix.now(h:Ix r T at_ f t)(hl:(at_:Int)<=f):mE r T at_ f t:=by
 rcases h with h1|h1|⟨s,e,a0,h1,h2,h3,h4⟩
 ·omega
 ·exact .inl h1
 ·exact .inr ⟨s,e,h1,h2,by omega,h4.2.1,h4.2.2.1,h4.2.2.2.1,λi hi hs=>h4.2.2.2.2.1 i (by omega) hs,h4.2.2.2.2.2⟩
theorem IsMatch.found{f s:Nat}(h:IsMatch r T f (some (s,e))):From r T s:=⟨e,h.2.1,h.2.2.1,h.2.2.2.1⟩
def qu(rs:List GR)(T:List UInt8)(at_:Nat)(hs:List (Int×Int)):Prop:=hs.length=rs.length/\∀(i:Nat) r h,rs[i]?=some r->hs[i]?=some h->mE r.a.re T at_ h.1 h.2
def oG(rs:List GR)(T:List UInt8)(at_:Nat)(hs:List (Int×Int)):Prop:=hs.length=rs.length/\∀(i:Nat) r h,rs[i]?=some r->hs[i]?=some h->Ix r.a.re T at_ h.1 h.2
theorem qu.ok(h:qu rs T at_ hs)(hl:at_<=at'):oG rs T at' hs:=⟨h.1,λi r x h1 h2=>(h.2 i r x h1 h2).ok hl⟩
def fU(hs:List (Int×Int))(j:Nat)(hit from_ to:Int):Prop:=
 (hit=-1/\∀(i:Nat) h,i<j->hs[i]?=some h->1000000<=h.1) ∨
 ∃k:Nat,hit=k/\k<j/\hs[k]?=some (from_,to)/\from_<1000000/\(∀(i:Nat) h,i<j->hs[i]?=some h->from_<=h.1)/\∀(i:Nat) h,i<k->hs[i]?=some h->from_<h.1
theorem fU.start(hs:List (Int×Int))(a b:Int):fU hs 0 (-1) a b:=.inl ⟨rfl,λi h hi=>by omega⟩
theorem fU.skip{hit:Int}{x:Int×Int}(h:fU hs j hit from_ to)(hx:hs[j]?=some x)(hn:1000000<=x.1∨(0<=hit/\from_<=x.1)):fU hs (j+1) hit from_ to:=by
 rcases h with ⟨h1,h2⟩|⟨k,h1,h2,h3,h4,h5,h6⟩
 ·refine .inl ⟨h1,λi y hi hy=>?_⟩;rcases Nat.lt_or_ge i j with h' | h'
  ·exact h2 i y h' hy
  ·obtain rfl:i=j:=by omega
   rw[hx]at hy;cases hy;rcases hn with hn|hn<;>omega
 ·refine .inr ⟨k,h1,by omega,h3,h4,λi y hi hy=>?_,h6⟩;rcases Nat.lt_or_ge i j with h' | h'
  ·exact h5 i y h' hy
  ·obtain rfl:i=j:=by omega
   rw[hx]at hy;cases hy;rcases hn with hn|hn<;>omega
theorem fU.take{hit:Int}(h:fU hs j hit from_ to)(hx:hs[j]?=some (a,b))(h1:a<1000000)(h2:hit<0∨a<from_):fU hs (j+1) j a b:=by
 refine .inr ⟨j,rfl,by omega,hx,h1,λi y hi hy=>?_,λi y hi hy=>?_⟩
 ·rcases Nat.lt_or_ge i j with h' | h'
  ·rcases h with ⟨e1,e2⟩|⟨k,e1,e2,e3,e4,e5,e6⟩
   ·have:=e2 i y h' hy;omega
   ·have:=e5 i y h' hy;omega
  ·obtain rfl:i=j:=by omega
   rw[hx]at hy;cases hy;exact Int.le_refl _
 ·rcases h with ⟨e1,e2⟩|⟨k,e1,e2,e3,e4,e5,e6⟩
  ·have:=e2 i y hi hy;omega
  ·have:=e5 i y hi hy;omega
theorem fU.no{hit:Int}(hn:qu rs T at_ hs)(hz:T.length<1000000)(h:fU hs rs.length hit a b)(hlt:hit<0):DA rs T at_:=by
 intro p h1 h2 k r hr hf;rcases h with ⟨_,e2⟩|⟨k',e1,_⟩
 ·have hk:k<hs.length:=by rw[hn.1];exact aw hr
  have hx:hs[k]?=some hs[k]:=List.getElem?_eq_getElem hk;have h3:=e2 k _ (aw hr) hx;rcases hn.2 k r _ hr hx with ⟨_,h5⟩|⟨s,e,h5,_,h6⟩
  ·exact h5 p h1 hf
  ·have:=h6.2.1;have:=h6.2.2.1;omega
 ·omega
theorem fU.hit{hit:Int}(dZ:∀r∈rs,r.a.re.aq=false)(hn:qu rs T at_ hs)(h:fU hs rs.length hit a b)(kg:0<=hit):
  ∃(k p e:Nat) (r:GR),hit=k/\a=p/\b=e/\rs[k]?=some r/\ml rs T at_ p k r e:=by
 rcases h with ⟨h1,_⟩|⟨k,h1,h2,h3,h4,h5,h6⟩
 ·omega
 ·obtain ⟨r,hr⟩:∃r,rs[k]?=some r:=⟨_,List.getElem?_eq_getElem h2⟩;rcases hn.2 k r _ hr h3 with ⟨e1,_⟩|⟨s,e,e1,e2,hm⟩
  ·simp at e1;omega
  ·simp at e1 e2;have hf:=hm.found
   have Iy:∀(i:Nat) (q:GR) (p':Nat),rs[i]?=some q->at_<=p'->(p'<s∨(p'<=s/\i<k))->¬From q.a.re T p':=λi q p' hq hp hlt RS=>by
    have hi:i<hs.length:=by rw[hn.1];exact aw hq
    have hx:hs[i]?=some hs[i]:=List.getElem?_eq_getElem hi;have g1:=h5 i _ (aw hq) hx;rcases hn.2 i q _ hq hx with ⟨_,g2⟩|⟨s',e',g2,_,g3⟩
    ·exact g2 p' hp RS
    ·refine g3.2.2.2.2.1 p' hp ?_ RS;rcases hlt with hlt|⟨hlt,hik⟩
     ·omega
     ·have:=h6 i _ hik hx;omega
   refine ⟨k,s,e,r,h1,e1,e2,hr,hm.1,Ir (dZ r (List.mem_of_getElem? hr)) hf,hr,hf,λi q hi hq=>Iy i q s hq hm.1 (.inr ⟨Nat.le_refl _,hi⟩),λp' hp hlt i q hq=>Iy i q p' hq hp (.inl hlt),hm.2.1,hm.2.2.1,.inr hm.2.2.2.1,hm.2.2.2.2.2⟩
theorem cK.cell{B cap len:Nat}{ds:List FD}(h:cK w B (.slice ao len cap) ds)(hl:len=ds.length){q:Nat}(hx:ds[q]?=some x):∃g,ao=some ⟨g,0,none⟩/\∀(y:Nat) c,x.cells[y]?=some c->w.cell? ⟨g,q*6+y,none⟩=some c:=by
 subst hl;have hq:=aw hx;obtain ⟨g,cap',hv⟩:=az h.row (by omega);cases hv;refine ⟨g,rfl,λy c hy=>?_⟩;have hy6:y<6:=by have:=aw hy;simpa [FD.cells] using this
 have mL:∀(l:List FD) (q:Nat) (x:FD),l[q]?=some x->(l.flatMap FD.cells)[q*6+y]?=x.cells[y]?:=by
  intro l
  induction l with
  | nil=>intro q x h;simp at h
  | cons a t ih=>
   intro q x h
   cases q with
   | zero=>
    simp at h;subst h;rw[List.flatMap_cons,List.getElem?_append_left (by simp[FD.cells];omega)];simp
   | succ q=>
    rw[List.flatMap_cons,List.getElem?_append_right (by simp[FD.cells];omega)];have e:(q+1)*6+y - a.cells.length=q*6+y:=by simp[FD.cells];omega
    rw[e];exact ih q x (by simpa using h)
 have:=h.row.cells rfl (q*6+y) c (by rw[mL ds q x hx];exact hy);by_cases h0:q*6+y=0
 ·rw[h0]at this ⊢;simpa [Addr.add] using this
 ·have hn:¬(q*6=0/\y=0):=by omega
  simpa [Addr.add,hn] using this
section
variable {W:World} {N:Nat} {A:Nat->Prop} {g n cap:Nat} {G:List GS} {d:PD} {f:Nat->Option Value} {F:Nat->List FD}
theorem aH.get(h:aH W N A g n cap G d f F){s:GS}{r:GR}{cp:Nat}(hs:G[i]?=some s)(hf:f i=some (.slice ao s.rs.length cp))(hr:s.rs[k]?=some r):
  ∃x fg,ao=some ⟨fg,0,none⟩/\(F i)[k]?=some x/\x.a=r.a/\∀(y:Nat) c,x.cells[y]?=some c->W.cell? ⟨fg,k*6+y,none⟩=some c:=by
 obtain ⟨s',px,DX,e1,e2,e3,e4,e5⟩:=h.fin i _ hf;rw[hs]at e2;cases e2;have hl:(F i).length=s.rs.length:=by have:=congrArg List.length e3;simpa using this
 have h1:=congrArg (λl=>l[k]?) e3;simp only[List.getElem?_map,hr]at h1
 cases h2:(F i)[k]? with
 | none=>rw[h2]at h1;cases h1
 | some x=>
  rw[h2]at h1;obtain ⟨fg,h3,h4⟩:=e4.cell hl.symm h2;exact ⟨x,fg,h3,rfl,by simpa using h1,h4⟩
def Sx(W:World)(N:Nat)(A:Nat->Prop)(g n cap:Nat)(G:List GS)(d:PD)(f:Nat->Option Value)(r:Re)(T:List UInt8)(p:Nat)(e:Ending)(W':World):Prop:=
 ∃(stop:Nat) (A':Nat->Prop) (F':Nat->List FD),e=.returned (.int .i64 stop)/\Aj r T p stop/\aK A W W'/\(∀k,A' k->A k∨W.heap.size<=k)/\aH W' N A' g n cap G d f F'
theorem RB(h:aH W N A g n cap G d f F){line:ByteArray}(hf:f i=some v)(hx:(F i)[k]?=some x)(hp:p<=line.size)(hz:line.size<=3000):
  Calls Tryz.prog 129 #[yg x.ρf x.sf x.ρb x.sb,.string line,.int .i64 p] W (Sx W N A g n cap G d f x.a.re line.data.toList p):=by
 obtain ⟨s',px,DX,e1,e2,e3,e4,e5⟩:=h.fin i v hf;have AQ:=List.mem_of_getElem? hx;have KN:∀y,x.O y->A y:=λy hy=>(h.own i v hf x AQ y hy).1
 refine (H9 x.O x.a x.ρf x.sf x.ρb x.sb line p W h.tab.2 (e4.each x AQ).1 hp (by unfold maxLen;omega)).mono ?_;rintro e W' ⟨stop,rfl,aR,hF,qd⟩;refine ⟨stop,_,_,rfl,qd,aR.sub λy _ hy=>KN y hy,λy hy=>?_,h.use (Z:=λ_=>False) hf hx (aR.sub λy _ hy=>.inl hy) (λ_ hy=>hy.elim) (λy hy=>?_) hF⟩
 ·rcases hy with hy|hy
  ·exact .inl hy
  ·rcases hy with hy|hy
   ·exact .inl (KN y hy)
   ·exact .inr hy.1
 ·exact hy.imp id λh=>h.1
end
theorem oH(a p:Nat)(nm:ByteArray)(jr:Nat):(gI a p nm jr).length<=1:=by unfold gI;split<;>simp
theorem Path.short(dZ:xD G)(h:Path G T st0 at_ st pre):pre.length<=2*at_:=by
 induction h with
 | start=>exact Nat.le_refl _
 | @hit at_ st pre top s p k r e _ h1 h2 h3 h4 ih=>
  have hg:=(h4.gt (dZ _ (List.mem_of_getElem? h3) _ (List.mem_of_getElem? h4.rule)).1).1;have hl:=h4.le;have hs:=oH at_ p s.nm st.length;simp only[List.length_append,List.length_cons,List.length_nil];omega
theorem aK.setRow{Y:Nat->Prop}{g:Nat}{old:Array Value}{t:TypeId}(cs:Array Value)(hg:w.heap[g]?=some (.cells old t fz))(ht:jq t=false)(hy:Y g):aK Y w (w.setRow g cs):=
 ⟨rfl,rfl,rfl,by simp,λk hk=>setRow_other _ _ _ _ (λe=>hk.2 (e▸hy)),λk c t' ib hh=>(setRow_other _ _ _ _ (λe=>by rw[e,hg]at hh;cases hh;rw[ht]at ib;cases ib)).trans hh⟩
theorem CX{P R:World->Prop}{C:Prop}(main:Hid (∀w,R w->P w)->C)(pf:∀w,R w->P w):C:=main (aa pf)
theorem ag{b:Nat}{cs:Array Value}{t:TypeId}(h:w.heap[b]?=some (.cells cs t fz))(hj:cs[j]?=some v):w.cell? ⟨b,j,none⟩=some v:=by simp[World.cell?,h,hj]
end Go.Proofs.YtgncgdkpkkdaeaaGreatDoor
