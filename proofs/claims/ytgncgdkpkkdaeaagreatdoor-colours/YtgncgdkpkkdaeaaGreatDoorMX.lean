import Derived.Test.YtgncgdkpkkdaeaaGreatDoorMW
import Derived.Sort.CutIn
namespace Go.Proofs.YtgncgdkpkkdaeaaGreatDoor
open Go.RowKit aQ Go.Maps
variable {x:FD} {a b f from_ t to:Int} {hs:List (Int×Int)} {out:List (List Nat×List Sp)} {ls:List (List UInt8)} {rs:List GR} {G:List GS} {st st0 jd xD:List Nat} {pre ba:List Sp} {T l:List UInt8} {at' at_ e e' i j k p:Nat} {fz:Nat×Nat} {ao:Option Addr} {r:Re} {v:Value} {w:World}
inductive JK(G:List GS)(T:List UInt8):Nat->List Nat->List Sp->List Nat->Prop where
 | done {at_:Nat} {st:List Nat}:at_=T.length->JK G T at_ st [] st
 | none {at_:Nat} {st:List Nat} {top:Nat} {s:GS}:at_<T.length->st[st.length - 1]?=some top->G[top]?=some s->Cx s.rs T at_->JK G T at_ st [⟨at_,T.length,s.nm,st.length,⟨#[]⟩⟩] st
 | hit {at_:Nat} {st:List Nat} {top:Nat} {s:GS} {p k:Nat} {r:GR} {e:Nat} {ba:List Sp} {st':List Nat}:at_<T.length->st[st.length - 1]?=some top->G[top]?=some s->lD s.rs T at_ p k r e->JK G T e (mb r.k r.op st) ba st'->JK G T at_ st (gq at_ p s.nm st.length++⟨p,e,s.nm,st.length,r.co⟩::ba) st'
theorem Path.Zu(h:Path G T st0 at_ st pre):∀{ba:List Sp} {st':List Nat},JK G T at_ st ba st'->JK G T 0 st0 (pre++ba) st':=by
 induction h with
 | start=>intro ba st' h;exact h
 | hit _ h1 h2 h3 h4 ih=>
  intro ba st' h;have:=ih (JK.hit h1 h2 h3 h4 h);simpa using this
theorem sw.Zu(h:sw G T st0 ba st):JK G T 0 st0 ba st:=by
 rcases h with h|⟨at_,pre,top,s,h1,h2,h3,h4,h5,rfl⟩
 ·have:=h.Zu (JK.done rfl);simpa using this
 ·exact h1.Zu (JK.none h2 h3 h4 h5)
theorem lD.no{r:GR}(h:lD rs T at_ p k r e):¬Cx rs T at_:=λhn=>hn p h.le h.lt k r h.rule h.from_
theorem yZ.cS(h:yZ r T p e)(h':yZ r T p e'):e=e':=by
 obtain ⟨a1,a2,a3,a4⟩:=h;obtain ⟨b1,b2,b3,b4⟩:=h';rcases Nat.lt_trichotomy e e' with h1|h1|h1
 ·rcases b3 with h2|h2
  ·omega
  ·exact absurd h2 (a4 e' h1 b2)
 ·exact h1
 ·rcases a3 with h2|h2
  ·omega
  ·exact absurd h2 (b4 e h1 a2)
theorem lD.cS{r:GR}{p' k':Nat}{r':GR}(h:lD rs T at_ p k r e)(h':lD rs T at_ p' k' r' e'):p=p'/\r=r'/\e=e':=by
 have hp:p=p':=by
  rcases Nat.lt_trichotomy p p' with h1|h1|h1
  ·exact absurd h.from_ (h'.least p h.le h1 k r h.rule)
  ·exact h1
  ·exact absurd h'.from_ (h.least p' h'.le h1 k' r' h'.rule)
 subst hp
 have hk:k=k':=by
  rcases Nat.lt_trichotomy k k' with h1|h1|h1
  ·exact absurd h.from_ (h'.first k r h1 h.rule)
  ·exact h1
  ·exact absurd h'.from_ (h.first k' r' h1 h'.rule)
 subst hk;have hr:r=r':=by have:=h.rule;rw[h'.rule]at this;cases this;rfl
 subst hr;exact ⟨rfl,rfl,h.long.cS h'.long⟩
theorem JK.cS{st':List Nat}(h:JK G T at_ st ba st'):∀{NS:List Sp} {xD:List Nat},JK G T at_ st NS xD->ba=NS/\st'=xD:=by
 induction h with
 | done h1=>
  intro NS xD h
  cases h with
  | done=>exact ⟨rfl,rfl⟩
  | none h2=>omega
  | hit h2=>omega
 | none h1 h2 h3 h4=>
  intro NS xD h
  cases h with
  | done h5=>omega
  | none a1 a2 a3 a4=>
   rw[h2]at a2;cases a2;rw[h3]at a3;cases a3;exact ⟨rfl,rfl⟩
  | hit a1 a2 a3 a4 a5=>
   rw[h2]at a2;cases a2;rw[h3]at a3;cases a3;exact absurd h4 a4.no
 | hit h1 h2 h3 h4 h5 ih=>
  intro NS xD h
  cases h with
  | done h5=>omega
  | none a1 a2 a3 a4=>
   rw[h2]at a2;cases a2;rw[h3]at a3;cases a3;exact absurd a4 h4.no
  | hit a1 a2 a3 a4 a5=>
   rw[h2]at a2;cases a2;rw[h3]at a3;cases a3;obtain ⟨rfl,rfl,rfl⟩:=h4.cS a4;obtain ⟨rfl,rfl⟩:=ih a5;exact ⟨rfl,rfl⟩
def aA:List UInt8->List (List UInt8)
 | []=>[[]]
 | x::t=>if x=10 then []::aA t else match aA t with
  | []=>[[x]]
  | l::ls=>(x::l)::ls
theorem gS(t:List UInt8):aA t≠[]:=by
 cases t with
 | nil=>simp[aA]
 | cons x t=>
  unfold aA;split
  ·simp
  ·split<;>simp
theorem sK{a:List UInt8}(h:(10:UInt8)∉a):aA a=[a]:=by
 induction a with
 | nil=>rfl
 | cons x t ih=>
  have h1:x≠10:=λe=>h (by simp[e])
  unfold aA;rw[if_neg h1,ih (λe=>h (List.mem_cons_of_mem _ e))]
theorem sJ{a:List UInt8}(h:(10:UInt8)∉a)(b:List UInt8):aA (a++10::b)=a::aA b:=by
 induction a with
 | nil=>simp[aA]
 | cons x t ih=>
  have h1:x≠10:=λe=>h (by simp[e])
  rw[List.cons_append,aA,if_neg h1,ih (λe=>h (List.mem_cons_of_mem _ e))]
theorem aR(t:List UInt8):(aA t).length=1+t.count 10:=by
 induction t with
 | nil=>rfl
 | cons x t ih=>
  unfold aA;by_cases h:x=10
  ·rw[if_pos h];subst h;simp[ih];omega
  ·rw[if_neg h];have hne:=gS t
   cases hs:aA t with
   | nil=>exact absurd hs hne
   | cons l ls=>
    rw[hs]at ih;rw[List.count_cons_of_ne (by simpa using h)];simpa using ih
theorem jH{t:List UInt8}(h:l∈aA t):l.length<=t.length:=by
 induction t generalizing l with
 | nil=>simp[aA]at h;simp[h]
 | cons x t ih=>
  unfold aA at h;by_cases hx:x=10
  ·rw[if_pos hx]at h;rcases List.mem_cons.1 h with rfl|h
   ·simp
   ·have:=ih h;simp;omega
  ·rw[if_neg hx]at h
   cases hs:aA t with
   | nil=>exact absurd hs (gS t)
   | cons l' ls=>
    rw[hs]at h ih;rcases List.mem_cons.1 h with rfl|h
    ·have:=ih (List.mem_cons_self);simp;omega
    ·have:=ih (List.mem_cons_of_mem _ h);simp;omega
inductive dn(G:List GS):List Nat->List (List UInt8)->List (List Nat×List Sp)->List Nat->Prop where
 | nil {st:List Nat}:dn G st [] [] st
 | cons {st:List Nat} {l:List UInt8} {ls:List (List UInt8)} {ba:List Sp} {jd:List Nat} {out:List (List Nat×List Sp)} {st':List Nat}:sw G l st ba jd->dn G jd ls out st'->dn G st (l::ls) ((st,ba)::out) st'
theorem dn.snoc(h:dn G st ls out jd)(ht:sw G l jd ba xD):dn G st (ls++[l]) (out++[(jd,ba)]) xD:=by
 induction h with
 | nil=>exact .cons ht .nil
 | cons h1 _ ih=>exact .cons h1 (ih ht)
theorem dn.append(h:dn G st ls out jd){UH:List (List UInt8)}{Fe:List (List Nat×List Sp)}(h2:dn G jd UH Fe xD):dn G st (ls++UH) (out++Fe) xD:=by
 induction h with
 | nil=>exact h2
 | cons h1 _ ih=>exact .cons h1 (ih h2)
theorem dn.cS(h:dn G st ls out jd):∀{Fe:List (List Nat×List Sp)} {xD:List Nat},dn G st ls Fe xD->out=Fe/\jd=xD:=by
 induction h with
 | nil=>intro Fe xD h;cases h;exact ⟨rfl,rfl⟩
 | cons h1 _ ih=>
  intro Fe xD h
  cases h with
  | cons a1 a2=>
   obtain ⟨rfl,rfl⟩:=h1.Zu.cS a1.Zu;obtain ⟨rfl,rfl⟩:=ih a2;exact ⟨rfl,rfl⟩
theorem dn.length(h:dn G st ls out jd):out.length=ls.length:=by
 induction h with
 | nil=>rfl
 | cons _ _ ih=>simp[ih]
theorem dn.split:∀{ls UH:List (List UInt8)} {out:List (List Nat×List Sp)} {xD:List Nat},dn G st (ls++UH) out xD->∃o1 o2 jd,out=o1++o2/\dn G st ls o1 jd/\dn G jd UH o2 xD:=by
 intro ls
 induction ls generalizing st with
 | nil=>intro UH out xD h;exact ⟨[],out,st,rfl,.nil,h⟩
 | cons l ls ih=>
  intro UH out xD h
  cases h with
  | cons h1 h2=>
   obtain ⟨o1,o2,jd,rfl,a1,a2⟩:=ih h2;exact ⟨_::o1,o2,jd,rfl,.cons h1 a1,a2⟩
theorem sw.good(eA:vY G)(h0:Good G st0)(h:sw G T st0 ba st):Good G st:=by
 have hp:∀{at_:Nat} {st:List Nat} {pre:List Sp},Path G T st0 at_ st pre->Good G st:=by
  intro at_ st pre h
  induction h with
  | start=>exact h0
  | hit _ _ _ hs hh ih=>exact ih.mb (λhk=>(eA _ (List.mem_of_getElem? hs) _ (List.mem_of_getElem? hh.rule)).2 hk)
 rcases h with h|⟨_,_,_,_,h,_⟩
 ·exact hp h
 ·exact hp h
def Gz(r:Re)(T:List UInt8)(at_:Nat)(f t:Int):Prop:=
 f=-1∨(f=1000000/\∀i,at_<=i->¬From r T i)∨∃s e Ev:Nat,f=s/\t=e/\Ev<=at_/\IsMatch r T Ev (some (s,e))
def lO(r:Re)(T:List UInt8)(at_:Nat)(f t:Int):Prop:=
 (f=1000000/\∀i,at_<=i->¬From r T i)∨∃s e:Nat,f=s/\t=e/\IsMatch r T at_ (some (s,e))
theorem lO.ok(h:lO r T at_ f t)(hl:at_<=at'):Gz r T at' f t:=by
 rcases h with ⟨h1,h2⟩|⟨s,e,h1,h2,h3⟩
 ·exact .inr (.inl ⟨h1,λi hi=>h2 i (by omega)⟩)
 ·exact .inr (.inr ⟨s,e,at_,h1,h2,hl,h3⟩)
theorem Gz.now(h:Gz r T at_ f t)(hl:(at_:Int)<=f):lO r T at_ f t:=by
 rcases h with h1|h1|⟨s,e,a0,h1,h2,h3,h4⟩
 ·omega
 ·exact .inl h1
 ·exact .inr ⟨s,e,h1,h2,by omega,h4.2.1,h4.2.2.1,h4.2.2.2.1,λi hi hs=>h4.2.2.2.2.1 i (by omega) hs,h4.2.2.2.2.2⟩
theorem IsMatch.found{f s:Nat}(h:IsMatch r T f (some (s,e))):From r T s:=⟨e,h.2.1,h.2.2.1,h.2.2.2.1⟩
def pC(rs:List GR)(T:List UInt8)(at_:Nat)(hs:List (Int×Int)):Prop:=hs.length=rs.length/\∀(i:Nat) r h,rs[i]?=some r->hs[i]?=some h->lO r.a.re T at_ h.1 h.2
def nI(rs:List GR)(T:List UInt8)(at_:Nat)(hs:List (Int×Int)):Prop:=hs.length=rs.length/\∀(i:Nat) r h,rs[i]?=some r->hs[i]?=some h->Gz r.a.re T at_ h.1 h.2
theorem pC.ok(h:pC rs T at_ hs)(hl:at_<=at'):nI rs T at' hs:=⟨h.1,λi r x h1 h2=>(h.2 i r x h1 h2).ok hl⟩
def fI(hs:List (Int×Int))(j:Nat)(hit from_ to:Int):Prop:=
 (hit=-1/\∀(i:Nat) h,i<j->hs[i]?=some h->1000000<=h.1) ∨
 ∃k:Nat,hit=k/\k<j/\hs[k]?=some (from_,to)/\from_<1000000/\(∀(i:Nat) h,i<j->hs[i]?=some h->from_<=h.1)/\∀(i:Nat) h,i<k->hs[i]?=some h->from_<h.1
theorem fI.start(hs:List (Int×Int))(a b:Int):fI hs 0 (-1) a b:=.inl ⟨rfl,λi h hi=>by omega⟩
theorem fI.skip{hit:Int}{x:Int×Int}(h:fI hs j hit from_ to)(hx:hs[j]?=some x)(hn:1000000<=x.1∨(0<=hit/\from_<=x.1)):fI hs (j+1) hit from_ to:=by
 rcases h with ⟨h1,h2⟩|⟨k,h1,h2,h3,h4,h5,h6⟩
 ·refine .inl ⟨h1,λi y hi hy=>?_⟩;rcases Nat.lt_or_ge i j with h' | h'
  ·exact h2 i y h' hy
  ·obtain rfl:i=j:=by omega
   rw[hx]at hy;cases hy;rcases hn with hn|hn<;>omega
 ·refine .inr ⟨k,h1,by omega,h3,h4,λi y hi hy=>?_,h6⟩;rcases Nat.lt_or_ge i j with h' | h'
  ·exact h5 i y h' hy
  ·obtain rfl:i=j:=by omega
   rw[hx]at hy;cases hy;rcases hn with hn|hn<;>omega
theorem fI.take{hit:Int}(h:fI hs j hit from_ to)(hx:hs[j]?=some (a,b))(h1:a<1000000)(h2:hit<0∨a<from_):fI hs (j+1) j a b:=by
 refine .inr ⟨j,rfl,by omega,hx,h1,λi y hi hy=>?_,λi y hi hy=>?_⟩
 ·rcases Nat.lt_or_ge i j with h' | h'
  ·rcases h with ⟨e1,e2⟩|⟨k,e1,e2,e3,e4,e5,e6⟩
   ·have:=e2 i y h' hy;omega
   ·have:=e5 i y h' hy;omega
  ·obtain rfl:i=j:=by omega
   rw[hx]at hy;cases hy;exact Int.le_refl _
 ·rcases h with ⟨e1,e2⟩|⟨k,e1,e2,e3,e4,e5,e6⟩
  ·have:=e2 i y hi hy;omega
  ·have:=e5 i y hi hy;omega
theorem fI.no{hit:Int}(hn:pC rs T at_ hs)(hz:T.length<1000000)(h:fI hs rs.length hit a b)(hlt:hit<0):Cx rs T at_:=by
 intro p h1 h2 k r hr hf;rcases h with ⟨_,e2⟩|⟨k',e1,_⟩
 ·have hk:k<hs.length:=by rw[hn.1];exact au hr
  have hx:hs[k]?=some hs[k]:=List.getElem?_eq_getElem hk;have h3:=e2 k _ (au hr) hx;rcases hn.2 k r _ hr hx with ⟨_,h5⟩|⟨s,e,h5,_,h6⟩
  ·exact h5 p h1 hf
  ·have:=h6.2.1;have:=h6.2.2.1;omega
 ·omega
theorem fI.hit{hit:Int}(eA:∀r∈rs,r.a.re.aj=false)(hn:pC rs T at_ hs)(h:fI hs rs.length hit a b)(kt:0<=hit):
  ∃(k p e:Nat) (r:GR),hit=k/\a=p/\b=e/\rs[k]?=some r/\lD rs T at_ p k r e:=by
 rcases h with ⟨h1,_⟩|⟨k,h1,h2,h3,h4,h5,h6⟩
 ·omega
 ·obtain ⟨r,hr⟩:∃r,rs[k]?=some r:=⟨_,List.getElem?_eq_getElem h2⟩;rcases hn.2 k r _ hr h3 with ⟨e1,_⟩|⟨s,e,e1,e2,hm⟩
  ·simp at e1;omega
  ·simp at e1 e2;have hf:=hm.found
   have GA:∀(i:Nat) (q:GR) (p':Nat),rs[i]?=some q->at_<=p'->(p'<s∨(p'<=s/\i<k))->¬From q.a.re T p':=λi q p' hq hp hlt Qc=>by
    have hi:i<hs.length:=by rw[hn.1];exact au hq
    have hx:hs[i]?=some hs[i]:=List.getElem?_eq_getElem hi;have g1:=h5 i _ (au hq) hx;rcases hn.2 i q _ hq hx with ⟨_,g2⟩|⟨s',e',g2,_,g3⟩
    ·exact g2 p' hp Qc
    ·refine g3.2.2.2.2.1 p' hp ?_ Qc;rcases hlt with hlt|⟨hlt,hik⟩
     ·omega
     ·have:=h6 i _ hik hx;omega
   refine ⟨k,s,e,r,h1,e1,e2,hr,hm.1,Gw (eA r (List.mem_of_getElem? hr)) hf,hr,hf,λi q hi hq=>GA i q s hq hm.1 (.inr ⟨Nat.le_refl _,hi⟩),λp' hp hlt i q hq=>GA i q p' hq hp (.inl hlt),hm.2.1,hm.2.2.1,.inr hm.2.2.2.1,hm.2.2.2.2.2⟩
theorem cE.cell{B cap len:Nat}{ds:List FD}(h:cE w B (.slice ao len cap) ds)(hl:len=ds.length){q:Nat}(hx:ds[q]?=some x):∃g,ao=some ⟨g,0,none⟩/\∀(y:Nat) c,x.cells[y]?=some c->w.cell? ⟨g,q*6+y,none⟩=some c:=by
 subst hl;have hq:=au hx;obtain ⟨g,cap',hv⟩:=aC h.row (by omega);cases hv;refine ⟨g,rfl,λy c hy=>?_⟩;have hy6:y<6:=by have:=au hy;simpa [FD.cells] using this
 have lY:∀(l:List FD) (q:Nat) (x:FD),l[q]?=some x->(l.flatMap FD.cells)[q*6+y]?=x.cells[y]?:=by
  intro l
  induction l with
  | nil=>intro q x h;simp at h
  | cons a t ih=>
   intro q x h
   cases q with
   | zero=>
    simp at h;subst h;rw[List.flatMap_cons,List.getElem?_append_left (by simp[FD.cells];omega)];simp
   | succ q=>
    rw[List.flatMap_cons,List.getElem?_append_right (by simp[FD.cells];omega)];have e:(q+1)*6+y - a.cells.length=q*6+y:=by simp[FD.cells];omega
    rw[e];exact ih q x (by simpa using h)
 have:=h.row.cells rfl (q*6+y) c (by rw[lY ds q x hx];exact hy);by_cases h0:q*6+y=0
 ·rw[h0]at this ⊢;simpa [Addr.add] using this
 ·have hn:¬(q*6=0/\y=0):=by omega
  simpa [Addr.add,hn] using this
section
variable {W:World} {N:Nat} {A:Nat->Prop} {g n cap:Nat} {G:List GS} {d:PD} {f:Nat->Option Value} {F:Nat->List FD}
theorem aD.get(h:aD W N A g n cap G d f F){s:GS}{r:GR}{cp:Nat}(hs:G[i]?=some s)(hf:f i=some (.slice ao s.rs.length cp))(hr:s.rs[k]?=some r):
  ∃x fg,ao=some ⟨fg,0,none⟩/\(F i)[k]?=some x/\x.a=r.a/\∀(y:Nat) c,x.cells[y]?=some c->W.cell? ⟨fg,k*6+y,none⟩=some c:=by
 obtain ⟨s',pE,CP,e1,e2,e3,e4,e5⟩:=h.fin i _ hf;rw[hs]at e2;cases e2;have hl:(F i).length=s.rs.length:=by have:=congrArg List.length e3;simpa using this
 have h1:=congrArg (λl=>l[k]?) e3;simp only[List.getElem?_map,hr]at h1
 cases h2:(F i)[k]? with
 | none=>rw[h2]at h1;cases h1
 | some x=>
  rw[h2]at h1;obtain ⟨fg,h3,h4⟩:=e4.cell hl.symm h2;exact ⟨x,fg,h3,rfl,by simpa using h1,h4⟩
def QK(W:World)(N:Nat)(A:Nat->Prop)(g n cap:Nat)(G:List GS)(d:PD)(f:Nat->Option Value)(r:Re)(T:List UInt8)(p:Nat)(e:Ending)(W':World):Prop:=
 ∃(stop:Nat) (A':Nat->Prop) (F':Nat->List FD),e=.returned (.int .i64 stop)/\yZ r T p stop/\aN A W W'/\(∀k,A' k->A k∨W.heap.size<=k)/\aD W' N A' g n cap G d f F'
theorem P0(h:aD W N A g n cap G d f F){line:ByteArray}(hf:f i=some v)(hx:(F i)[k]?=some x)(hp:p<=line.size)(hz:line.size<=3000):
  Calls Tryz.prog 129 #[wZ x.ρf x.sf x.ρb x.sb,.string line,.int .i64 p] W (QK W N A g n cap G d f x.a.re line.data.toList p):=by
 obtain ⟨s',pE,CP,e1,e2,e3,e4,e5⟩:=h.fin i v hf;have zE:=List.mem_of_getElem? hx;have Jv:∀y,x.O y->A y:=λy hy=>(h.own i v hf x zE y hy).1
 refine (Ge x.O x.a x.ρf x.sf x.ρb x.sb line p W h.tab.2 (e4.each x zE).1 hp (by unfold maxLen;omega)).mono ?_;rintro e W' ⟨stop,rfl,aX,hF,pk⟩;refine ⟨stop,_,_,rfl,pk,aX.sub λy _ hy=>Jv y hy,λy hy=>?_,h.use (Z:=λ_=>False) hf hx (aX.sub λy _ hy=>.inl hy) (λ_ hy=>hy.elim) (λy hy=>?_) hF⟩
 ·rcases hy with hy|hy
  ·exact .inl hy
  ·rcases hy with hy|hy
   ·exact .inl (Jv y hy)
   ·exact .inr hy.1
 ·exact hy.imp id λh=>h.1
end
theorem nJ(a p:Nat)(nm:ByteArray)(iT:Nat):(gq a p nm iT).length<=1:=by unfold gq;split<;>simp
theorem Path.short(eA:vY G)(h:Path G T st0 at_ st pre):pre.length<=2*at_:=by
 induction h with
 | start=>exact Nat.le_refl _
 | @hit at_ st pre top s p k r e _ h1 h2 h3 h4 ih=>
  have hg:=(h4.gt (eA _ (List.mem_of_getElem? h3) _ (List.mem_of_getElem? h4.rule)).1).1;have hl:=h4.le;have hs:=nJ at_ p s.nm st.length;simp only[List.length_append,List.length_cons,List.length_nil];omega
theorem aN.setRow{Y:Nat->Prop}{g:Nat}{old:Array Value}{t:TypeId}(cs:Array Value)(hg:w.heap[g]?=some (.cells old t fz))(ht:nu t=false)(hy:Y g):aN Y w (w.setRow g cs):=
 ⟨rfl,rfl,rfl,by simp,λk hk=>setRow_other _ _ _ _ (λe=>hk.2 (e▸hy)),λk c t' gJ hh=>(setRow_other _ _ _ _ (λe=>by rw[e,hg]at hh;cases hh;rw[ht]at gJ;cases gJ)).trans hh⟩
theorem BM{P R:World->Prop}{C:Prop}(main:Hid (∀w,R w->P w)->C)(pf:∀w,R w->P w):C:=main (aa pf)
theorem ah{b:Nat}{cs:Array Value}{t:TypeId}(h:w.heap[b]?=some (.cells cs t fz))(hj:cs[j]?=some v):w.cell? ⟨b,j,none⟩=some v:=by simp[World.cell?,h,hj]
end Go.Proofs.YtgncgdkpkkdaeaaGreatDoor
