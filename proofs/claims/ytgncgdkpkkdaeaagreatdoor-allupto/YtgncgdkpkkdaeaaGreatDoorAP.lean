import Derived.Test.YtgncgdkpkkdaeaaGreatDoorAI
import Derived.Test.YtgncgdkpkkdaeaaGreatDoorAF
set_option maxHeartbeats 2000000
namespace Go.Proofs.YtgncgdkpkkdaeaaGreatDoor
open Go.RowKit bu Go.Maps
variable {root:aP} {ns:List (Nd Value)} {ts:List D} {cM st:List Nat} {en k n n0 op:Nat} {X:Nat->Prop} {ρ:Rd} {pv:Value} {w w':World}
def aL(st:List Nat):List Value:=(st++List.replicate (8 - st.length) 0++[st.length]).map λx:Nat=>Value.int .i64 (x:Int)
def lV(st:List Nat):Value:=.agg (aL st).toArray
theorem dA(h:st.length<=8):(aL st).length=9:=by simp[aL];omega
theorem jz{i x:Nat}(h:st[i]?=some x):(aL st)[i]?=some (.int .i64 x):=by have hi:i<st.length:=az h;unfold aL;rw[fX,fP,nz hi,h];rfl
theorem dV(h:st.length<=8):(aL st)[8]?=some (.int .i64 st.length):=by
 unfold aL;rw[fX,pS (by simp;omega)];have:8 - (st++List.replicate (8 - st.length) 0).length=0:=by simp;omega
 rw[this];rfl
theorem oL(st:List Nat)(top:Nat)(h8:st.length<=8)(ht:st[st.length - 1]?=some top)(w:World):
  Calls Tryz.prog 126 #[lV st] w λe w'=>e=.returned (.int .i64 top)/\Below w.heap.size w w':=by
 obtain ⟨d,hd⟩:∃d,st.length=d+1:=⟨st.length - 1,by have:=az ht;omega⟩;have c8:=dV h8;rw[hd]at c8 ht;rw[Nat.add_sub_cancel]at ht;have ct:=jz ht;have JH:IntKind.i64.wrap ((d:Int)+1 - 1)=(d:Int):=by rw[IntKind.wrap_i64];omega
 have hd8:d<8:=by omega
 unfold lV;clear ht;go_enter Tryz.func126,Tryz.ntmps126;go_wp2_with fail;go_ret;exact ⟨rfl,cq _ _⟩
def nM(k op:Nat)(st:List Nat):List Nat:=if k=1/\st.length<8 then st++[op] else if k=2/\1<st.length then st.dropLast else st
theorem wN(h:st.length<=8)(h1:1<=st.length):(nM k op st).length<=8/\1<=(nM k op st).length:=by
 unfold nM;split
 ·simp;omega
 ·split
  ·simp;omega
  ·exact ⟨h,h1⟩
theorem nine(h:st.length<=8):∃a0 a1 a2 a3 a4 a5 a6 a7 a8:Nat,aL st=[.int .i64 a0,.int .i64 a1,.int .i64 a2,.int .i64 a3,.int .i64 a4,.int .i64 a5,.int .i64 a6,.int .i64 a7,.int .i64 a8]:=by
 have hl:(st++List.replicate (8 - st.length) 0++[st.length]).length=9:=by simp;omega
 unfold aL
 match (st++List.replicate (8 - st.length) 0++[st.length]),hl with
 | [a0,a1,a2,a3,a4,a5,a6,a7,a8],_=>exact ⟨a0,a1,a2,a3,a4,a5,a6,a7,a8,rfl⟩
theorem Gy(h:st.length<8):((aL st).set st.length (.int .i64 op)).set 8 (.int .i64 ((st.length+1:Nat):Int))=aL (st++[op]):=by
 obtain ⟨m,hm⟩:∃m,8 - st.length=m+1:=⟨7 - st.length,by omega⟩;have KH:8 - (st++[op]).length=m:=by simp;omega
 have e8:8=(st++op::List.replicate m 0).length:=by simp;omega
 unfold aL;rw[hm,KH,<-List.map_set,<-List.map_set,fP,List.set_append_right _ _ (bc _),Nat.sub_self,List.replicate_succ,List.cons_append,List.set_cons_zero];rw[show st++op::(List.replicate m 0++[st.length])=(st++op::List.replicate m 0)++[st.length] by simp];rw[e8,List.set_append_right _ _ (bc _),Nat.sub_self,List.set_cons_zero];simp
theorem KI(h:st.length<=8)(h1:1<st.length):((aL st).set 8 (.int .i64 ((st.length - 1:Nat):Int))).set (st.length - 1) (.int .i64 0)=aL st.dropLast:=by
 obtain ⟨l,x,rfl⟩:∃l x,st=l++[x]:=⟨st.dropLast,st.getLast (by intro e;simp[e]at h1),(List.dropLast_concat_getLast _).symm⟩;rw[List.dropLast_concat];have hl:(l++[x]).length=l.length+1:=by simp
 rw[hl]at h h1 ⊢;obtain ⟨m,hm⟩:∃m,8 - (l.length+1)=m:=⟨_,rfl⟩;have KH:8 - l.length=m+1:=by omega
 have e8:8=(l++x::List.replicate m 0).length:=by simp;omega
 unfold aL;rw[hl,hm,KH,Nat.add_sub_cancel];rw[show (Value.int .i64 (0:Int))=Value.int .i64 ((0:Nat):Int) from rfl,<-List.map_set,<-List.map_set];rw[show l++[x]++List.replicate m 0++[l.length+1]=(l++x::List.replicate m 0)++[l.length+1] by simp]
 rw[e8,List.set_append_right _ _ (bc _),Nat.sub_self,List.set_cons_zero,fP,List.set_append_right _ _ (bc _),Nat.sub_self,List.cons_append,List.set_cons_zero];simp[List.replicate_succ]
theorem ma(w:World)(o1 o2 o3:Obj):Below w.heap.size w (((w.alloc o1).alloc o2).alloc o3):=((cq _ _).alloc (by simp) _).alloc (by simp;omega) _
def AZ(k op:Nat)(st:List Nat)(w:World)(e:Ending)(w':World):Prop:=e=.returned (lV (nM k op st))/\Below w.heap.size w w'
theorem Dt(st:List Nat)(k op:Nat)(co:ByteArray)(ao:Option Addr)(ln cp wh:Nat)(h8:st.length<=8)(h1:1<=st.length)(w:World):
  Calls Tryz.prog 130 #[lV st,.agg #[.int .i64 k,.int .i64 op,.string co,.slice ao ln cp,.int .i64 wh]] w (AZ k op st w):=by
 have c8:=dV h8;have UM:=dA h8;obtain ⟨hA8,jq⟩:=wN (k:=k) (op:=op) h8 h1;obtain ⟨a0,a1,a2,a3,a4,a5,a6,a7,a8,hy⟩:=nine hA8
 have aq:=aa (show ∀W,Below w.heap.size w W->AZ k op st w (.returned (.agg #[.int .i64 a0,.int .i64 a1,.int .i64 a2,.int .i64 a3,.int .i64 a4,.int .i64 a5,.int .i64 a6,.int .i64 a7,.int .i64 a8])) W from λW hb=>⟨by unfold lV;rw[hy],hb⟩);by_cases hp:k=1/\st.length<8
 ·obtain ⟨hk,hlt⟩:=hp;have p0:((st.length:Int)<8)=True:=by simp;omega
  have p1:∃v,(aL st)[st.length]?=some v:=⟨_,cB (by omega)⟩;obtain ⟨v1,p1⟩:=p1;have p2:((aL st).set st.length (.int .i64 (op:Int)))[8]?=some (.int .i64 (st.length:Int)):=by rw[List.getElem?_set_ne (by omega)];exact c8
  have p3:((aL st).set st.length (.int .i64 (op:Int))).set 8 (.int .i64 ((st.length:Int)+1))=[.int .i64 a0,.int .i64 a1,.int .i64 a2,.int .i64 a3,.int .i64 a4,.int .i64 a5,.int .i64 a6,.int .i64 a7,.int .i64 a8]:=by have h:=Gy (op:=op) hlt;rw[<-hy,nM,if_pos ⟨hk,hlt⟩,<-h];simp
  have hwr:IntKind.i64.wrap ((st.length:Int)+1)=(st.length:Int)+1:=by rw[IntKind.wrap_i64];omega
  subst hk;unfold lV;clear hy hA8 jq UM;go_enter Tryz.func130,Tryz.ntmps130;go_wp2_with fail;exact bodyPost_ret (v:=.agg #[.int .i64 a0,.int .i64 a1,.int .i64 a2,.int .i64 a3,.int .i64 a4,.int .i64 a5,.int .i64 a6,.int .i64 a7,.int .i64 a8]) (by simp[results,Tryz.results130,go_sem, *]) rfl (aq.out _ (ma _ _ _ _))
 ·by_cases hq:k=2/\1<st.length
  ·obtain ⟨hk,EH⟩:=hq;have Sm:=KI h8 EH;obtain ⟨d,hd⟩:∃d,st.length=d+1:=⟨st.length - 1,by omega⟩;rw[hd]at Sm EH;rw[Nat.add_sub_cancel]at Sm;have p0:((1:Int)<(d:Int)+1)=True:=by simp;omega
   have p1:∃v,((aL st).set 8 (.int .i64 (d:Int)))[d]?=some v:=⟨_,cB (by rw[List.length_set];omega)⟩;obtain ⟨v1,p1⟩:=p1;have p2:((aL st).set 8 (.int .i64 (d:Int)))[8]?=some (.int .i64 (d:Int)):=by rw[List.getElem?_set_self (by omega)]
   have p3:((aL st).set 8 (.int .i64 (d:Int))).set d (.int .i64 0)=[.int .i64 a0,.int .i64 a1,.int .i64 a2,.int .i64 a3,.int .i64 a4,.int .i64 a5,.int .i64 a6,.int .i64 a7,.int .i64 a8]:=by rw[<-hy,nM,if_neg hp,if_pos ⟨hk,by omega⟩,<-Sm]
   have hwr:IntKind.i64.wrap ((d:Int)+1 - 1)=(d:Int):=by rw[IntKind.wrap_i64];omega
   have hd8:d<8:=by omega
   rw[hd]at c8;subst hk;unfold lV;clear hy hA8 jq UM Sm hp h8 h1 hd;go_enter Tryz.func130,Tryz.ntmps130;go_wp2_with fail
   exact bodyPost_ret (v:=.agg #[.int .i64 a0,.int .i64 a1,.int .i64 a2,.int .i64 a3,.int .i64 a4,.int .i64 a5,.int .i64 a6,.int .i64 a7,.int .i64 a8]) (by simp[results,Tryz.results130,go_sem, *]) rfl (aq.out _ (ma _ _ _ _))
  ·have hst:aL st=[.int .i64 a0,.int .i64 a1,.int .i64 a2,.int .i64 a3,.int .i64 a4,.int .i64 a5,.int .i64 a6,.int .i64 a7,.int .i64 a8]:=by rw[<-hy,nM,if_neg hp,if_neg hq]
   rw[hst]at c8;have Wo:a8=st.length:=by simp at c8;omega
   clear c8;unfold lV;rw[hst];rw[Wo]at aq ⊢;clear hst hy hA8 jq UM;by_cases eY:k=1
   ·have hlen:st.length=8:=by omega
    subst eY;rw[hlen]at aq ⊢;clear hp hq Wo hlen;go_enter Tryz.func130,Tryz.ntmps130;go_wp2_with fail;exact bodyPost_ret (v:=.agg #[.int .i64 a0,.int .i64 a1,.int .i64 a2,.int .i64 a3,.int .i64 a4,.int .i64 a5,.int .i64 a6,.int .i64 a7,.int .i64 (8:Nat)]) (by simp[results,Tryz.results130,go_sem, *]) rfl (aq.out _ (ma _ _ _ _))
   ·by_cases hk2:k=2
    ·have hlen:st.length=1:=by omega
     subst hk2;rw[hlen]at aq ⊢;clear hp hq Wo hlen;go_enter Tryz.func130,Tryz.ntmps130;go_wp2_with fail;exact bodyPost_ret (v:=.agg #[.int .i64 a0,.int .i64 a1,.int .i64 a2,.int .i64 a3,.int .i64 a4,.int .i64 a5,.int .i64 a6,.int .i64 a7,.int .i64 (1:Nat)]) (by simp[results,Tryz.results130,go_sem, *]) rfl (aq.out _ (ma _ _ _ _))
    ·have e1:((k:Int)==1)=false:=by rw[er];omega
     have e2:((k:Int)==2)=false:=by rw[er];omega
     clear hp hq Wo;go_enter Tryz.func130,Tryz.ntmps130;go_wp2_with fail;exact bodyPost_ret (v:=.agg #[.int .i64 a0,.int .i64 a1,.int .i64 a2,.int .i64 a3,.int .i64 a4,.int .i64 a5,.int .i64 a6,.int .i64 a7,.int .i64 st.length]) (by simp[results,Tryz.results130,go_sem, *]) rfl (aq.out _ (ma _ _ _ _))
theorem ET(w:World):Calls Tryz.prog 70 #[] w λe w'=>e=.returned (lV [0])/\Below w.heap.size w w':=by
 have aq:=aa (show ∀W,Below w.heap.size w W->(Ending.returned (.agg #[.int .i64 0,.int .i64 0,.int .i64 0,.int .i64 0,.int .i64 0,.int .i64 0,.int .i64 0,.int .i64 0,.int .i64 1])=.returned (lV [0])/\Below w.heap.size w W) from λW hb=>⟨rfl,hb⟩);go_enter Tryz.func70,Tryz.ntmps70;go_wp2_with fail
 exact bodyPost_ret (v:=.agg #[.int .i64 0,.int .i64 0,.int .i64 0,.int .i64 0,.int .i64 0,.int .i64 0,.int .i64 0,.int .i64 0,.int .i64 1]) (by simp[results,Tryz.results70,go_sem, *]) rfl (aq.out _ (cq _ _))
def A6(fr:List Int)(at_ r:Nat):Prop:=at_<=r/\r<=fr.length/\(∀i,at_<=i->i<r->fr[i]?=some (-1))/\(r<fr.length->fr[r]?≠some (-1))
def Du(fr:List Int)(Gz:Nat)(w:World)(k:Nat)(va:Value)(wr:World):Prop:=
 ∃a:Nat,va=.int .i64 a/\a+k=fr.length/\Gz<=a/\(∀i,Gz<=i->i<a->fr[i]?=some (-1))/\wr=w
theorem ye(G:Nat)(fr:List Int)(Gz:Nat)(w:World)(hr:w.heap[G]?=some (.cells (fr.map (Value.int .i64)).toArray 3 (0,0)))(hn:fr.length<=1000000)(ha:Gz<=fr.length):
  Calls Tryz.prog 127 #[.slice (some ⟨G,0,none⟩) fr.length fr.length,.int .i64 Gz] w λe w'=>∃r:Nat,e=.returned (.int .i64 r)/\A6 fr Gz r/\w'=w:=by
 have HR:=aa hr;clear hr;go_enter Tryz.func127,Tryz.ntmps127;go_wp2_with fail;go_loopg [1] (fr.length - Gz) (λk va wr=>Du fr Gz w k va wr)
 case atStart=>exact ⟨Gz,rfl,by omega,bc _,λi h1 h2=>by omega,rfl⟩
 case round=>
  obtain ⟨a,rfl,hk,h1,h2,rfl⟩:=hrel;have H2:=aa h2;clear h2;by_cases hlt:a<fr.length
  ·have g1:decide ((a:Int)<(fr.length:Int))=true:=cF (by omega);obtain ⟨x,hx⟩:∃x,fr[a]?=some x:=⟨_,cB hlt⟩;have c1:wr.cell? ⟨G,a,none⟩=some (.int .i64 x):=by simp[World.cell?,HR.out,hx]
   have HX:=aa hx;by_cases hm:x=-1
   ·subst hm
    have HST:=aa (show Du fr Gz wr (fr.length - (a+1)) (.int .i64 ((a:Int)+1)) wr from ⟨a+1,by simp,by omega,by omega,λi h3 h4=>by
     rcases ed i a with h|h
     ·exact H2.out i h3 h
     ·obtain rfl:i=a:=by omega
      exact HX.out,rfl⟩)
    have hwr:IntKind.i64.wrap ((a:Int)+1)=(a:Int)+1:=by rw[IntKind.wrap_i64];omega
    clear hx;go_wp2_with fail;go_roundg (fr.length - (a+1))
    case measure=>omega
    case rel=>exact HST.out
   ·have g2:(x == -1)=false:=by rw[er];exact hm
    have aq:=aa (show A6 fr Gz a from ⟨h1,by omega,H2.out,λ_ e=>hm (by rw[HX.out]at e;exact Option.some.inj e)⟩);clear hx;go_wp2_with fail;go_ret;exact ⟨a,rfl,aq.out,rfl⟩
  ·have g1:decide (a<fr.length)=false:=by simp;omega
   have aq:=aa (show A6 fr Gz a from ⟨h1,by omega,H2.out,λh=>absurd h hlt⟩);go_wp2_with fail;go_ret;exact ⟨a,rfl,aq.out,rfl⟩
theorem aH.inj{v:Value}{c c':eO}(h:aH w v c)(h':aH w v c'):c=c':=by
 induction c generalizing v c' with
 | any=>
  cases c' with
  | any=>rfl
  | range lo hi=>obtain ⟨p,q,e,_⟩:=h';rw[show v=_ from h]at e;simp at e
  | union a b=>obtain ⟨p,q,va,vb,e,_⟩:=h';rw[show v=_ from h]at e;simp at e
  | iQ a=>obtain ⟨p,va,e,_⟩:=h';rw[show v=_ from h]at e;simp at e
 | range lo hi=>
  obtain ⟨p,q,rfl,h1,h2⟩:=h
  cases c' with
  | any=>simp[aH]at h'
  | range lo' hi'=>
   obtain ⟨p',q',e,h3,h4⟩:=h';simp at e;obtain ⟨rfl,rfl⟩:=e;rw[h1]at h3;rw[h2]at h4;simp at h3 h4;rw[UInt8.toNat_inj.1 (by omega:lo.toNat=lo'.toNat),UInt8.toNat_inj.1 (by omega:hi.toNat=hi'.toNat)]
  | union a b=>obtain ⟨p,q,va,vb,e,_⟩:=h';simp at e
  | iQ a=>obtain ⟨p,va,e,_⟩:=h';simp at e
 | union a b lN ml=>
  obtain ⟨p,q,va,vb,rfl,h1,h2,h3,h4⟩:=h
  cases c' with
  | any=>simp[aH]at h'
  | range lo' hi'=>obtain ⟨p',q',e,_⟩:=h';simp at e
  | union a' b'=>
   obtain ⟨p',q',va',vb',e,h5,h6,h7,h8⟩:=h';simp at e;obtain ⟨rfl,rfl⟩:=e;rw[h1]at h5;rw[h2]at h6;simp at h5 h6;subst h5 h6;rw[lN h3 h7,ml h4 h8]
  | iQ a=>obtain ⟨p,va,e,_⟩:=h';simp at e
 | iQ a ih=>
  obtain ⟨p,va,rfl,h1,h2⟩:=h
  cases c' with
  | any=>simp[aH]at h'
  | range lo' hi'=>obtain ⟨p',q',e,_⟩:=h';simp at e
  | union a' b'=>obtain ⟨p',q',va',vb',e,_⟩:=h';simp at e
  | iQ a'=>
   obtain ⟨p',va',e,h3,h4⟩:=h';simp at e;subst e;rw[h1]at h3;simp at h3;subst h3;rw[ih h2 h4]
theorem ei.inj{a a':aP}(h:ei (aH w) ns a)(h':ei (aH w) ns a')(e:a.ix=a'.ix):a=a':=by
 induction a generalizing a' with
 | dE=>exact (h'.zero e.symm).symm
 | dr i c=>
  obtain ⟨hi,v,hn,hc⟩:=h
  cases a' with
  | dE=>exact absurd e hi
  | dr i' c'=>
   obtain ⟨_,v',cA,hc'⟩:=h';simp only[aP.ix]at e;subst e;rw[hn]at cA;simp at cA;subst cA;rw[hc.inj hc']
  | seq i' a b=>obtain ⟨_,⟨v',cA⟩,_⟩:=h';simp only[aP.ix]at e;subst e;rw[hn]at cA;simp at cA
  | alt i' a b=>obtain ⟨_,⟨v',cA⟩,_⟩:=h';simp only[aP.ix]at e;subst e;rw[hn]at cA;simp at cA
  | star i' a=>obtain ⟨_,⟨v',cA⟩,_⟩:=h';simp only[aP.ix]at e;subst e;rw[hn]at cA;simp at cA
  | plus i' j a=>obtain ⟨_,_,⟨v',cA⟩,_⟩:=h';simp only[aP.ix]at e;subst e;rw[hn]at cA;simp at cA
  | fB i' a=>obtain ⟨_,⟨v',cA⟩,_⟩:=h';simp only[aP.ix]at e;subst e;rw[hn]at cA;simp at cA
 | seq i x y uY uZ=>
  obtain ⟨hi,⟨v,hn⟩,hx,hy⟩:=h
  cases a' with
  | dE=>exact absurd e hi
  | dr i' c'=>obtain ⟨_,v',cA,_⟩:=h';simp only[aP.ix]at e;subst e;rw[hn]at cA;simp at cA
  | seq i' x' y'=>
   obtain ⟨_,⟨v',cA⟩,EI,hy'⟩:=h';simp only[aP.ix]at e;subst e;rw[hn]at cA;simp only[fA,Nd.mk.injEq]at cA;rw[uY hx EI cA.2.2.1,uZ hy hy' cA.2.2.2.1]
  | alt i' a b=>obtain ⟨_,⟨v',cA⟩,_⟩:=h';simp only[aP.ix]at e;subst e;rw[hn]at cA;simp at cA
  | star i' a=>obtain ⟨_,⟨v',cA⟩,_⟩:=h';simp only[aP.ix]at e;subst e;rw[hn]at cA;simp at cA
  | plus i' j a=>obtain ⟨_,_,⟨v',cA⟩,_⟩:=h';simp only[aP.ix]at e;subst e;rw[hn]at cA;simp at cA
  | fB i' a=>obtain ⟨_,⟨v',cA⟩,_⟩:=h';simp only[aP.ix]at e;subst e;rw[hn]at cA;simp at cA
 | alt i x y uY uZ=>
  obtain ⟨hi,⟨v,hn⟩,hx,hy⟩:=h
  cases a' with
  | dE=>exact absurd e hi
  | dr i' c'=>obtain ⟨_,v',cA,_⟩:=h';simp only[aP.ix]at e;subst e;rw[hn]at cA;simp at cA
  | seq i' a b=>obtain ⟨_,⟨v',cA⟩,_⟩:=h';simp only[aP.ix]at e;subst e;rw[hn]at cA;simp at cA
  | alt i' x' y'=>
   obtain ⟨_,⟨v',cA⟩,EI,hy'⟩:=h';simp only[aP.ix]at e;subst e;rw[hn]at cA;simp only[fA,Nd.mk.injEq]at cA;rw[uY hx EI cA.2.2.1,uZ hy hy' cA.2.2.2.1]
  | star i' a=>obtain ⟨_,⟨v',cA⟩,_⟩:=h';simp only[aP.ix]at e;subst e;rw[hn]at cA;simp at cA
  | plus i' j a=>obtain ⟨_,_,⟨v',cA⟩,_⟩:=h';simp only[aP.ix]at e;subst e;rw[hn]at cA;simp at cA
  | fB i' a=>obtain ⟨_,⟨v',cA⟩,_⟩:=h';simp only[aP.ix]at e;subst e;rw[hn]at cA;simp at cA
 | star i x ih=>
  obtain ⟨hi,⟨v,hn⟩,hx⟩:=h
  cases a' with
  | dE=>exact absurd e hi
  | dr i' c'=>obtain ⟨_,v',cA,_⟩:=h';simp only[aP.ix]at e;subst e;rw[hn]at cA;simp at cA
  | seq i' a b=>obtain ⟨_,⟨v',cA⟩,_⟩:=h';simp only[aP.ix]at e;subst e;rw[hn]at cA;simp at cA
  | alt i' a b=>obtain ⟨_,⟨v',cA⟩,_⟩:=h';simp only[aP.ix]at e;subst e;rw[hn]at cA;simp at cA
  | star i' x'=>
   obtain ⟨_,⟨v',cA⟩,EI⟩:=h';simp only[aP.ix]at e;subst e;rw[hn]at cA;simp only[fA,Nd.mk.injEq]at cA;rw[ih hx EI cA.2.2.1]
  | plus i' j a=>obtain ⟨_,_,⟨v',cA⟩,_⟩:=h';simp only[aP.ix]at e;subst e;rw[hn]at cA;simp at cA
  | fB i' a=>obtain ⟨_,⟨v',cA⟩,_⟩:=h';simp only[aP.ix]at e;subst e;rw[hn]at cA;simp at cA
 | plus i j x ih=>
  obtain ⟨hi,hj,⟨v,hn⟩,_,hx⟩:=h
  cases a' with
  | dE=>exact absurd e hi
  | dr i' c'=>obtain ⟨_,v',cA,_⟩:=h';simp only[aP.ix]at e;subst e;rw[hn]at cA;simp at cA
  | seq i' a b=>obtain ⟨_,⟨v',cA⟩,_⟩:=h';simp only[aP.ix]at e;subst e;rw[hn]at cA;simp at cA
  | alt i' a b=>obtain ⟨_,⟨v',cA⟩,_⟩:=h';simp only[aP.ix]at e;subst e;rw[hn]at cA;simp at cA
  | star i' a=>obtain ⟨_,⟨v',cA⟩,_⟩:=h';simp only[aP.ix]at e;subst e;rw[hn]at cA;simp at cA
  | plus i' j' x'=>
   obtain ⟨_,_,⟨v',cA⟩,_,EI⟩:=h';simp only[aP.ix]at e;subst e;rw[hn]at cA;simp only[fA,Nd.mk.injEq]at cA;rw[ih hx EI cA.2.2.1,cA.2.2.2.1]
  | fB i' a=>obtain ⟨_,⟨v',cA⟩,_⟩:=h';simp only[aP.ix]at e;subst e;rw[hn]at cA;simp at cA
 | fB i x ih=>
  obtain ⟨hi,⟨v,hn⟩,hx⟩:=h
  cases a' with
  | dE=>exact absurd e hi
  | dr i' c'=>obtain ⟨_,v',cA,_⟩:=h';simp only[aP.ix]at e;subst e;rw[hn]at cA;simp at cA
  | seq i' a b=>obtain ⟨_,⟨v',cA⟩,_⟩:=h';simp only[aP.ix]at e;subst e;rw[hn]at cA;simp at cA
  | alt i' a b=>obtain ⟨_,⟨v',cA⟩,_⟩:=h';simp only[aP.ix]at e;subst e;rw[hn]at cA;simp at cA
  | star i' a=>obtain ⟨_,⟨v',cA⟩,_⟩:=h';simp only[aP.ix]at e;subst e;rw[hn]at cA;simp at cA
  | plus i' j a=>obtain ⟨_,_,⟨v',cA⟩,_⟩:=h';simp only[aP.ix]at e;subst e;rw[hn]at cA;simp at cA
  | fB i' x'=>
   obtain ⟨_,⟨v',cA⟩,EI⟩:=h';simp only[aP.ix]at e;subst e;rw[hn]at cA;simp only[fA,Nd.mk.injEq]at cA;rw[ih hx EI cA.2.2.1]
theorem aU.inj{d d':D}(h:aU (aH w) n0 ns d k)(h':aU (aH w) n0 ns d' k):d=d':=by
 induction d generalizing d' k with
 | base a=>
  obtain ⟨h1,h2,h3⟩:=h
  cases d' with
  | base a'=>obtain ⟨XL,_,Tu⟩:=h';rw[ei.inj h3 Tu (by rw[<-h1,<-XL])]
  | snoc d' a'=>obtain ⟨XL,_⟩:=h';have:=h2.CO;omega
 | snoc d a ih=>
  obtain ⟨h1,h2,h3,m,hm,hd,v,hn⟩:=h
  cases d' with
  | base a'=>obtain ⟨XL,XM,_⟩:=h';have:=XM.CO;omega
  | snoc d' a'=>
   obtain ⟨_,_,Tu,m',_,Vh,v',cA⟩:=h';rw[hn]at cA;simp only[fA,Nd.mk.injEq]at cA;obtain ⟨_,_,rfl,h5,_⟩:=cA;rw[ih hd Vh,ei.inj h3 Tu h5]
theorem vV.fx{C:Nat->Prop}(h:vV C w w')(hX:iG X w)(h1:∀k,C k->¬X k)(h2:∀k,C k->∀c t fz,w.heap[k]?=some (.cells c t fz)->jK t=false):Fx X w w':=
 ⟨h.os,h.tape,h.output,h.size,λk hk=>h.keep k (hX k hk) (λhc=>h1 k hc hk),λk c t ht hh=>by rw[h.keep k (ae hh) (λhc=>by rw[h2 k hc c t _ hh]at ht;cases ht)];exact hh⟩
theorem kZ.types{M pl:Nat}(h:kZ w M pl pv cM)(hk:RX M pl pv k):∀c t fz,w.heap[k]?=some (.cells c t fz)->t=57∨t=3:=by
 intro c t fz hh;rcases hk with rfl|rfl|hk
 ·obtain ⟨m,f,hm,_⟩:=h.map;obtain ⟨es,lQ,ho⟩:=hm.obj;rw[ho]at hh;cases hh
 ·rw[h.var]at hh;cases hh;exact .inl rfl
 ·obtain ⟨c',hc⟩:=h.row.block hk;rw[hc]at hh;cases hh;exact .inr rfl
theorem nJ.OP(h:nJ w X ρ n0 root ns ts cM en)(hX:iG X w)(hN:kZ w ρ.M ρ.pl pv cM)(hv:∀k,pv.ownBlock=some k->¬X k)(hk:vV (RX ρ.M ρ.pl pv) w w'):
  Fx X w w'/\Shelf w' (plus X ρ) ρ.S n0 ns (gW root)/\w'.heap[ρ.ev]?=some (.cells #[.int .u64 en] 188 (0,0)):=by
 have hF:Fx X w w':=hk.fx hX (λk hc=>by
  rcases hc with rfl|rfl|hc
  ·exact h.nX.1
  ·exact h.nX.2.1
  ·exact hv k hc) (λk hc c t fz hh=>by rcases hN.types hc c t fz hh with rfl|rfl<;>rfl)
 refine ⟨hF,h.shelf.keep hF.dg (λk o XY ho yt=>?_) (λ_ h=>.inl h),?_⟩
 ·rw[hk.keep k (ae ho) (λhc=>?_)]
  ·exact ho
  ·cases o with
   | cells c t fz=>
    rcases hN.types hc c t fz ho with rfl|rfl
    ·rcases yt _ _ _ rfl with e|e<;>cases e
    ·rcases yt _ _ _ rfl with e|e<;>cases e
   | _=>
    rcases hc with rfl|rfl|hc
    ·exact XY (.inr (.inl rfl))
    ·rw[hN.var]at ho;cases ho
    ·obtain ⟨c',hc'⟩:=hN.row.block hc;rw[hc']at ho;cases ho
 ·rw[hk.keep ρ.ev (ae h.ev) (λhc=>by rcases hN.types hc _ _ _ h.ev with e|e<;>cases e)];exact h.ev
def Dv(X:Nat->Prop)(ρ:Rd)(n0:Nat)(root:aP)(ns:List (Nd Value))(ts:List D)(t:D)(w:World)(e:Ending)(w':World):Prop:=
 ∃(n:Nat) (eH:List D) (fF:List Nat) (eG:Nat),e=.returned (.int .u64 (2 ^ n:Nat))/\Fx X w w'/\nJ w' X ρ n0 root ns eH fF eG/\eH[n]?=some t/\(eH=ts∨eH=ts++[t])
theorem Dw{fF:List Nat}{t:D}{BL:Value}{w1 w2:World}(hX:iG X w)(hD:nJ w X ρ n0 root ns ts cM en)(hr:aU (aH w) n0 ns t k)(ht:t∈met root)(hv:∀k,pv.ownBlock=some k->¬X k)
  (gG:Fx X w w1) (hS1:Shelf w1 (plus X ρ) ρ.S n0 ns (gW root)) (BJ:w1.heap[ρ.ev]?=some (.cells #[.int .u64 en] 188 (0,0))) (Mg:kZ w1 ρ.M ρ.pl BL fF) (tX:fF[n]?=some k) (BI:fF=cM∨fF=cM++[k]) (hb1:BL.ownBlock=pv.ownBlock∨∃b,BL.ownBlock=some b/\w.heap.size<=b)
  (eG:Nat) (hen:eG=if t.re.au then en ||| 2 ^ n else en) (hw2:w2=w1/\eG=en∨w2=w1.setCell ⟨ρ.ev,0,none⟩ (.int .u64 eG)):
  Dv X ρ n0 root ns ts t w (.returned (.int .u64 (2 ^ n:Nat))) w2:=by
 have hvX:∀j,BL.ownBlock=some j->¬X j:=λj hj hXj=>by
  rcases hb1 with e|⟨b,e,hb⟩
  ·rw[e]at hj;exact hv j hj hXj
  ·rw[e]at hj;have:=hX j hXj;have:b=j:=Option.some.inj hj;omega
 -- the second step,where there is one
 have h12:Fx X w1 w2/\Shelf w2 (plus X ρ) ρ.S n0 ns (gW root)/\kZ w2 ρ.M ρ.pl BL fF/\w2.heap[ρ.ev]?=some (.cells #[.int .u64 eG] 188 (0,0)):=by
  rcases hw2 with ⟨rfl,rfl⟩|rfl
  ·exact ⟨Fx.refl _ _,hS1,Mg,BJ⟩
  ·have hF2:Fx X w1 (w1.setCell ⟨ρ.ev,0,none⟩ (.int .u64 eG)):=(Fx.refl X w1).setCell hD.nX.2.2 BJ (by rfl) _;have hne:∀j:Nat,j≠ρ.ev->(w1.setCell ⟨ρ.ev,0,none⟩ (.int .u64 eG)).heap[j]?=w1.heap[j]?:=λj hj=>eV _ _ _ _ hj
   refine ⟨hF2,hS1.keep hF2.dg (λj o _ ho yt=>?_) (λ_ h=>.inl h),⟨?_,?_,?_,Mg.nodup,Mg.small⟩,ah w1 ρ.ev 0 _ BJ⟩
   ·rw[hne j (by rintro rfl;rw[BJ]at ho;cases ho;rcases yt _ _ _ rfl with e|e<;>cases e)];exact ho
   ·rw[hne ρ.pl (by intro e;have h9:=Mg.var;rw[e,BJ]at h9;simp at h9)];exact Mg.var
   ·refine Mg.row.iY λj hj=>hne j ?_
    obtain ⟨c,hc⟩:=Mg.row.block hj;rintro rfl;rw[BJ]at hc;simp at hc
   ·obtain ⟨m,f,hm,h1,h2⟩:=Mg.map;obtain ⟨es,lQ,ho⟩:=hm.obj;exact ⟨m,f,hm.keep (hne _ (by intro e;rw[e,BJ]at ho;cases ho)),h1,h2⟩
 obtain ⟨hF2,kG,KJ,he2⟩:=h12;have hF:=gG.trans hF2;have hst:=hF.dg;have hlen:=hD.kh.length;have Uf:F2 (aU (aH w2) n0 ns) ts cM:=hD.kh.mono λd j h=>aU.world hst h
 have F5:=aU.world hst hr;rcases BI with rfl|rfl
 · -- an old number
  obtain ⟨t',jo,AG⟩:=hD.kh.get tX;obtain rfl:=aU.inj hr AG;refine ⟨n,ts,fF,eG,rfl,hF,⟨kG,⟨BL,KJ,hvX⟩,he2,hD.nX,Uf,hD.met,?_,hD.sz,hD.leaves⟩,jo,.inl rfl⟩;intro m;rw[hen]
  cases fO:t.re.au with
  | false=>simpa using hD.bits m
  | true=>
   simp only[if_true];rw[Nat.testBit_or,Bool.or_eq_true,hD.bits m,Nat.testBit_two_pow];constructor
   ·rintro (h|h)
    ·exact h
    ·simp at h;subst h;exact ⟨t,jo,fO⟩
   ·exact .inl
 · -- a new one
  have hn:n=cM.length:=Kb Mg.nodup tX (by simp);subst hn
  have C0:∀m t',(ts++[t])[m]?=some t'<->ts[m]?=some t'∨(m=cM.length/\t'=t):=by
   intro m t';rcases Nat.lt_trichotomy m ts.length with h|h|h
   ·rw[nz h];exact ⟨.inl,λh'=>h'.elim id (λh''=>by omega)⟩
   ·subst h;rw[pS (bc _)];simp[hlen,eq_comm]
   ·rw[List.getElem?_eq_none (by simp;omega),List.getElem?_eq_none (by omega)];simp;omega
  refine ⟨cM.length,ts++[t],cM++[k],eG,rfl,hF,⟨kG,⟨BL,KJ,hvX⟩,he2,hD.nX,Uf.snoc F5,?_,?_,hD.sz,hD.leaves⟩,(C0 _ _).2 (.inr ⟨rfl,rfl⟩),.inr rfl⟩
  ·intro x hx;rcases List.mem_append.1 hx with h|h
   ·exact hD.met x h
   ·simp at h;rw[h];exact ht
  ·intro m;rw[hen]
   cases fO:t.re.au with
   | false=>
    simp only[Bool.false_eq_true,if_false];rw[hD.bits m];constructor
    ·rintro ⟨x,hx,hx2⟩;exact ⟨x,(C0 m x).2 (.inl hx),hx2⟩
    ·rintro ⟨x,hx,hx2⟩;rcases (C0 m x).1 hx with h|⟨_,rfl⟩
     ·exact ⟨x,h,hx2⟩
     ·rw[fO]at hx2;cases hx2
   | true=>
    simp only[if_true];rw[Nat.testBit_or,Bool.or_eq_true,hD.bits m,Nat.testBit_two_pow];constructor
    ·rintro (⟨x,hx,hx2⟩|h)
     ·exact ⟨x,(C0 m x).2 (.inl hx),hx2⟩
     ·simp at h;subst h;exact ⟨t,(C0 _ _).2 (.inr ⟨rfl,rfl⟩),fO⟩
    ·rintro ⟨x,hx,hx2⟩;rcases (C0 m x).1 hx with h|⟨rfl,rfl⟩
     ·exact .inl ⟨x,h,hx2⟩
     ·exact .inr (by simp)
theorem pH(h:n<64):2 ^ n<18446744073709551616:=Nat.pow_lt_pow_right (a:=2) (m:=n) (n:=64) (by omega) h
theorem qL(h:n<64):IntKind.u64.wrap ((2:Int) ^ n)=((2 ^ n:Nat):Int):=by
 have h1:=pH h;have h2:((2 ^ n:Nat):Int)=(2:Int) ^ n:=by simp
 rw[<-h2,IntKind.wrap_u64];generalize 2 ^ n=m at h1;omega
theorem Dx(X:Nat->Prop)(ρ:Rd)(n0:Nat)(root:aP)(ns:List (Nd Value))(ts:List D)(cM:List Nat)(en:Nat)(t:D)(k:Nat)(w:World)(hX:iG X w)(hD:nJ w X ρ n0 root ns ts cM en)(hs:QI w ρ)(hr:aU (aH w) n0 ns t k)(ht:t∈met root):
  Calls Tryz.prog 175 #[.int .i64 k,.pointer (some ⟨ρ.nv,0,none⟩),.pointer (some ⟨ρ.sv,0,none⟩),.pointer (some ⟨ρ.ev,0,none⟩)] w (Dv X ρ n0 root ns ts t w):=by
 obtain ⟨pv,hN,hv⟩:=hD.vW;have c0:=aA hs.nv;have mG:=hr.lt;have hlen:=hD.shelf.length;have aap:=FM ρ.M ρ.pl ρ.mv pv cM k w hN hs.mv (by omega) (by have:=hD.few;omega);have acd:=aa aap;have HX:=aa hX;have HD:=aa hD;have HS:=aa hs;have HR:=aa hr;have HT:=aa ht;have HN:=aa hN;have HV:=aa hv;clear hX hD hs hr ht hN hv aap
 go_enter Tryz.func175,Tryz.ntmps175;go_wp2_with fail;refine acd.out.mono ?_;rintro e w1 ⟨n,BL,fF,rfl,J4,Mg,tX,BI,hb1⟩;obtain ⟨gG,hS1,BJ⟩:=HD.out.OP HX.out HN.out HV.out J4;have hs1:=HS.out.fx gG;have hr1:=aU.world gG.dg HR.out;obtain ⟨g,len,cap,f0,f1,f2,f4⟩:=hS1.flag hr1;have s0:=aA hs1.sv;have x0:=aA BJ
 have xf:w1.frozen? ⟨ρ.ev,0,none⟩=false:=by simp[World.frozen?,BJ]
 have KL:n<64:=by
  have h1:=az tX;have h2:=HD.out.few;rcases BI with rfl|rfl
  ·omega
  ·simp at h1;omega
 have kU:=aa gG;have pN:=aa hS1;have XI:=aa BJ;have eZ:=aa hr1;have Vq:=aa Mg;have Hn1:=aa tX;have gD:=aa BI;have bM:=aa hb1;clear gG hS1 BJ hr1 Mg tX BI hb1 J4 hs1
 cases fO:t.re.au with
 | false=>
  rw[fO]at f4;have aq:=aa (Dw HX.out HD.out HR.out HT.out HV.out kU.out pN.out XI.out Vq.out Hn1.out gD.out bM.out en (by rw[fO];rfl) (.inl ⟨rfl,rfl⟩));clear fO;go_wp2_with fail;go_ret;have hwp:=qL KL;simp only[hwp];exact aq.out
 | true=>
  rw[fO]at f4;have aq:=aa (Dw HX.out HD.out HR.out HT.out HV.out kU.out pN.out XI.out Vq.out Hn1.out gD.out bM.out (en ||| 2 ^ n) (by rw[fO];rfl) (.inr rfl));have Wp:=bits_or_u64_nat en (2 ^ n) HD.out.T5 (pH KL);have Sn:=aa Wp;clear fO Wp;go_wp2_with fail;go_ret;have hwp:=qL KL;simp only[hwp];rw[Sn.out];exact aq.out
end Go.Proofs.YtgncgdkpkkdaeaaGreatDoor
