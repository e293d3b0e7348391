import Derived.Test.YtgncgdkpkkdaeaaGreatDoorMD
import Derived.Maps.AppendAt
import Derived.Test.YtgncgdkpkkdaeaaGreatDoorMI
import Derived.Test.YtgncgdkpkkdaeaaGreatDoorMF
namespace Go.Proofs.YtgncgdkpkkdaeaaGreatDoor
open Go.RowKit aQ Go.Maps
variable {root:aM} {ns:List (Nd Value)} {ts:List D} {cu st:List Nat} {en k n n0 op:Nat} {X:Nat->Prop} {ρ:Rd} {pv:Value} {w w':World}
def aH(st:List Nat):List Value:=(st++List.replicate (8 - st.length) 0++[st.length]).map λx:Nat=>Value.int .i64 (x:Int)
def kA(st:List Nat):Value:=.agg (aH st).toArray
theorem cX(h:st.length<=8):(aH st).length=9:=by simp[aH];omega
theorem iH{i x:Nat}(h:st[i]?=some x):(aH st)[i]?=some (.int .i64 x):=by have hi:i<st.length:=au h;unfold aH;rw[List.getElem?_map,List.append_assoc,List.getElem?_append_left hi,h];rfl
theorem dA(h:st.length<=8):(aH st)[8]?=some (.int .i64 st.length):=by
 unfold aH;rw[List.getElem?_map,List.getElem?_append_right (by simp;omega)];have:8 - (st++List.replicate (8 - st.length) 0).length=0:=by simp;omega
 rw[this];rfl
set_option maxHeartbeats 1000000 in
theorem mZ(st:List Nat)(top:Nat)(h8:st.length<=8)(ht:st[st.length - 1]?=some top)(w:World):
  Calls Tryz.prog 126 #[kA st] w λe w'=>e=.returned (.int .i64 top)/\Below w.heap.size w w':=by
 obtain ⟨d,hd⟩:∃d,st.length=d+1:=⟨st.length - 1,by have:=au ht;omega⟩;have c8:=dA h8;rw[hd]at c8 ht;rw[Nat.add_sub_cancel]at ht;have ct:=iH ht;have QZ:IntKind.i64.wrap ((d:Int)+1 - 1)=(d:Int):=by rw[IntKind.wrap_i64];omega
 have hd8:d<8:=by omega
 unfold kA;clear ht;go_enter Tryz.func126,Tryz.ntmps126;go_wp2_with fail;go_ret;exact ⟨rfl,(Below.refl _ _).alloc (Nat.le_refl _) _⟩
def mb(k op:Nat)(st:List Nat):List Nat:=if k=1/\st.length<8 then st++[op] else if k=2/\1<st.length then st.dropLast else st
theorem ul(h:st.length<=8)(h1:1<=st.length):(mb k op st).length<=8/\1<=(mb k op st).length:=by
 unfold mb;split
 ·simp;omega
 ·split
  ·simp;omega
  ·exact ⟨h,h1⟩
theorem nine(h:st.length<=8):∃a0 a1 a2 a3 a4 a5 a6 a7 a8:Nat,aH st=[.int .i64 a0,.int .i64 a1,.int .i64 a2,.int .i64 a3,.int .i64 a4,.int .i64 a5,.int .i64 a6,.int .i64 a7,.int .i64 a8]:=by
 have hl:(st++List.replicate (8 - st.length) 0++[st.length]).length=9:=by simp;omega
 unfold aH
 match (st++List.replicate (8 - st.length) 0++[st.length]),hl with
 | [a0,a1,a2,a3,a4,a5,a6,a7,a8],_=>exact ⟨a0,a1,a2,a3,a4,a5,a6,a7,a8,rfl⟩
theorem Eu(h:st.length<8):((aH st).set st.length (.int .i64 op)).set 8 (.int .i64 ((st.length+1:Nat):Int))=aH (st++[op]):=by
 obtain ⟨m,hm⟩:∃m,8 - st.length=m+1:=⟨7 - st.length,by omega⟩;have IH:8 - (st++[op]).length=m:=by simp;omega
 have e8:8=(st++op::List.replicate m 0).length:=by simp;omega
 unfold aH;rw[hm,IH,<-List.map_set,<-List.map_set,List.append_assoc,List.set_append_right _ _ (Nat.le_refl _),Nat.sub_self,List.replicate_succ,List.cons_append,List.set_cons_zero];rw[show st++op::(List.replicate m 0++[st.length])=(st++op::List.replicate m 0)++[st.length] by simp];rw[e8,List.set_append_right _ _ (Nat.le_refl _),Nat.sub_self,List.set_cons_zero];simp
theorem II(h:st.length<=8)(h1:1<st.length):((aH st).set 8 (.int .i64 ((st.length - 1:Nat):Int))).set (st.length - 1) (.int .i64 0)=aH st.dropLast:=by
 obtain ⟨l,x,rfl⟩:∃l x,st=l++[x]:=⟨st.dropLast,st.getLast (by intro e;simp[e]at h1),(List.dropLast_concat_getLast _).symm⟩;rw[List.dropLast_concat];have hl:(l++[x]).length=l.length+1:=by simp
 rw[hl]at h h1 ⊢;obtain ⟨m,hm⟩:∃m,8 - (l.length+1)=m:=⟨_,rfl⟩;have IH:8 - l.length=m+1:=by omega
 have e8:8=(l++x::List.replicate m 0).length:=by simp;omega
 unfold aH;rw[hl,hm,IH,Nat.add_sub_cancel];rw[show (Value.int .i64 (0:Int))=Value.int .i64 ((0:Nat):Int) from rfl,<-List.map_set,<-List.map_set];rw[show l++[x]++List.replicate m 0++[l.length+1]=(l++x::List.replicate m 0)++[l.length+1] by simp]
 rw[e8,List.set_append_right _ _ (Nat.le_refl _),Nat.sub_self,List.set_cons_zero,List.append_assoc,List.set_append_right _ _ (Nat.le_refl _),Nat.sub_self,List.cons_append,List.set_cons_zero];simp[List.replicate_succ]
theorem kF(w:World)(o1 o2 o3:Obj):Below w.heap.size w (((w.alloc o1).alloc o2).alloc o3):=(((Below.refl _ _).alloc (Nat.le_refl _) _).alloc (by simp) _).alloc (by simp;omega) _
def yP(k op:Nat)(st:List Nat)(w:World)(e:Ending)(w':World):Prop:=e=.returned (kA (mb k op st))/\Below w.heap.size w w'
set_option maxHeartbeats 2000000 in
theorem Bx(st:List Nat)(k op:Nat)(co:ByteArray)(ao:Option Addr)(ln cp wh:Nat)(h8:st.length<=8)(h1:1<=st.length)(w:World):
  Calls Tryz.prog 130 #[kA st,.agg #[.int .i64 k,.int .i64 op,.string co,.slice ao ln cp,.int .i64 wh]] w (yP k op st w):=by
 have c8:=dA h8;have Sc:=cX h8;obtain ⟨hA8,iA⟩:=ul (k:=k) (op:=op) h8 h1;obtain ⟨a0,a1,a2,a3,a4,a5,a6,a7,a8,hy⟩:=nine hA8
 have ai:=aa (show ∀W,Below w.heap.size w W->yP k op st w (.returned (.agg #[.int .i64 a0,.int .i64 a1,.int .i64 a2,.int .i64 a3,.int .i64 a4,.int .i64 a5,.int .i64 a6,.int .i64 a7,.int .i64 a8])) W from λW hb=>⟨by unfold kA;rw[hy],hb⟩);by_cases hp:k=1/\st.length<8
 ·obtain ⟨hk,hlt⟩:=hp;have p0:((st.length:Int)<8)=True:=by simp;omega
  have p1:∃v,(aH st)[st.length]?=some v:=⟨_,List.getElem?_eq_getElem (by omega)⟩;obtain ⟨v1,p1⟩:=p1;have p2:((aH st).set st.length (.int .i64 (op:Int)))[8]?=some (.int .i64 (st.length:Int)):=by rw[List.getElem?_set_ne (by omega)];exact c8
  have p3:((aH st).set st.length (.int .i64 (op:Int))).set 8 (.int .i64 ((st.length:Int)+1))=[.int .i64 a0,.int .i64 a1,.int .i64 a2,.int .i64 a3,.int .i64 a4,.int .i64 a5,.int .i64 a6,.int .i64 a7,.int .i64 a8]:=by have h:=Eu (op:=op) hlt;rw[<-hy,mb,if_pos ⟨hk,hlt⟩,<-h];simp
  have hwr:IntKind.i64.wrap ((st.length:Int)+1)=(st.length:Int)+1:=by rw[IntKind.wrap_i64];omega
  subst hk;unfold kA;clear hy hA8 iA Sc;go_enter Tryz.func130,Tryz.ntmps130;go_wp2_with fail;exact bodyPost_ret (v:=.agg #[.int .i64 a0,.int .i64 a1,.int .i64 a2,.int .i64 a3,.int .i64 a4,.int .i64 a5,.int .i64 a6,.int .i64 a7,.int .i64 a8]) (by simp[results,Tryz.results130,go_sem, *]) rfl (ai.out _ (kF _ _ _ _))
 ·by_cases hq:k=2/\1<st.length
  ·obtain ⟨hk,CN⟩:=hq;have PR:=II h8 CN;obtain ⟨d,hd⟩:∃d,st.length=d+1:=⟨st.length - 1,by omega⟩;rw[hd]at PR CN;rw[Nat.add_sub_cancel]at PR;have p0:((1:Int)<(d:Int)+1)=True:=by simp;omega
   have p1:∃v,((aH st).set 8 (.int .i64 (d:Int)))[d]?=some v:=⟨_,List.getElem?_eq_getElem (by rw[List.length_set];omega)⟩;obtain ⟨v1,p1⟩:=p1;have p2:((aH st).set 8 (.int .i64 (d:Int)))[8]?=some (.int .i64 (d:Int)):=by rw[List.getElem?_set_self (by omega)]
   have p3:((aH st).set 8 (.int .i64 (d:Int))).set d (.int .i64 0)=[.int .i64 a0,.int .i64 a1,.int .i64 a2,.int .i64 a3,.int .i64 a4,.int .i64 a5,.int .i64 a6,.int .i64 a7,.int .i64 a8]:=by rw[<-hy,mb,if_neg hp,if_pos ⟨hk,by omega⟩,<-PR]
   have hwr:IntKind.i64.wrap ((d:Int)+1 - 1)=(d:Int):=by rw[IntKind.wrap_i64];omega
   have hd8:d<8:=by omega
   rw[hd]at c8;subst hk;unfold kA;clear hy hA8 iA Sc PR hp h8 h1 hd;go_enter Tryz.func130,Tryz.ntmps130;go_wp2_with fail
   exact bodyPost_ret (v:=.agg #[.int .i64 a0,.int .i64 a1,.int .i64 a2,.int .i64 a3,.int .i64 a4,.int .i64 a5,.int .i64 a6,.int .i64 a7,.int .i64 a8]) (by simp[results,Tryz.results130,go_sem, *]) rfl (ai.out _ (kF _ _ _ _))
  ·have hst:aH st=[.int .i64 a0,.int .i64 a1,.int .i64 a2,.int .i64 a3,.int .i64 a4,.int .i64 a5,.int .i64 a6,.int .i64 a7,.int .i64 a8]:=by rw[<-hy,mb,if_neg hp,if_neg hq]
   rw[hst]at c8;have TU:a8=st.length:=by simp at c8;omega
   clear c8;unfold kA;rw[hst];rw[TU]at ai ⊢;clear hst hy hA8 iA Sc;by_cases ey:k=1
   ·have hlen:st.length=8:=by omega
    subst ey;rw[hlen]at ai ⊢;clear hp hq TU hlen;go_enter Tryz.func130,Tryz.ntmps130;go_wp2_with fail;exact bodyPost_ret (v:=.agg #[.int .i64 a0,.int .i64 a1,.int .i64 a2,.int .i64 a3,.int .i64 a4,.int .i64 a5,.int .i64 a6,.int .i64 a7,.int .i64 (8:Nat)]) (by simp[results,Tryz.results130,go_sem, *]) rfl (ai.out _ (kF _ _ _ _))
   ·by_cases hk2:k=2
    ·have hlen:st.length=1:=by omega
     subst hk2;rw[hlen]at ai ⊢;clear hp hq TU hlen;go_enter Tryz.func130,Tryz.ntmps130;go_wp2_with fail;exact bodyPost_ret (v:=.agg #[.int .i64 a0,.int .i64 a1,.int .i64 a2,.int .i64 a3,.int .i64 a4,.int .i64 a5,.int .i64 a6,.int .i64 a7,.int .i64 (1:Nat)]) (by simp[results,Tryz.results130,go_sem, *]) rfl (ai.out _ (kF _ _ _ _))
    ·have e1:((k:Int)==1)=false:=by rw[beq_eq_false_iff_ne];omega
     have e2:((k:Int)==2)=false:=by rw[beq_eq_false_iff_ne];omega
     clear hp hq TU;go_enter Tryz.func130,Tryz.ntmps130;go_wp2_with fail;exact bodyPost_ret (v:=.agg #[.int .i64 a0,.int .i64 a1,.int .i64 a2,.int .i64 a3,.int .i64 a4,.int .i64 a5,.int .i64 a6,.int .i64 a7,.int .i64 st.length]) (by simp[results,Tryz.results130,go_sem, *]) rfl (ai.out _ (kF _ _ _ _))
set_option maxHeartbeats 1000000 in
theorem CZ(w:World):Calls Tryz.prog 70 #[] w λe w'=>e=.returned (kA [0])/\Below w.heap.size w w':=by
 have ai:=aa (show ∀W,Below w.heap.size w W->(Ending.returned (.agg #[.int .i64 0,.int .i64 0,.int .i64 0,.int .i64 0,.int .i64 0,.int .i64 0,.int .i64 0,.int .i64 0,.int .i64 1])=.returned (kA [0])/\Below w.heap.size w W) from λW hb=>⟨rfl,hb⟩);go_enter Tryz.func70,Tryz.ntmps70;go_wp2_with fail
 exact bodyPost_ret (v:=.agg #[.int .i64 0,.int .i64 0,.int .i64 0,.int .i64 0,.int .i64 0,.int .i64 0,.int .i64 0,.int .i64 0,.int .i64 1]) (by simp[results,Tryz.results70,go_sem, *]) rfl (ai.out _ ((Below.refl _ _).alloc (Nat.le_refl _) _))
def yQ(fr:List Int)(at_ r:Nat):Prop:=at_<=r/\r<=fr.length/\(∀i,at_<=i->i<r->fr[i]?=some (-1))/\(r<fr.length->fr[r]?≠some (-1))
def Bz(fr:List Int)(Ev:Nat)(w:World)(k:Nat)(va:Value)(wr:World):Prop:=
 ∃a:Nat,va=.int .i64 a/\a+k=fr.length/\Ev<=a/\(∀i,Ev<=i->i<a->fr[i]?=some (-1))/\wr=w
set_option maxHeartbeats 1000000 in
theorem vQ(G:Nat)(fr:List Int)(Ev:Nat)(w:World)(hr:w.heap[G]?=some (.cells (fr.map (Value.int .i64)).toArray 3 (0,0)))(hn:fr.length<=1000000)(ha:Ev<=fr.length):
  Calls Tryz.prog 127 #[.slice (some ⟨G,0,none⟩) fr.length fr.length,.int .i64 Ev] w λe w'=>∃r:Nat,e=.returned (.int .i64 r)/\yQ fr Ev r/\w'=w:=by
 have HR:=aa hr;clear hr;go_enter Tryz.func127,Tryz.ntmps127;go_wp2_with fail;go_loopg [1] (fr.length - Ev) (λk va wr=>Bz fr Ev w k va wr)
 case atStart=>exact ⟨Ev,rfl,by omega,Nat.le_refl _,λi h1 h2=>by omega,rfl⟩
 case round=>
  obtain ⟨a,rfl,hk,h1,h2,rfl⟩:=hrel;have H2:=aa h2;clear h2;by_cases hlt:a<fr.length
  ·have g1:decide ((a:Int)<(fr.length:Int))=true:=decide_eq_true (by omega);obtain ⟨x,hx⟩:∃x,fr[a]?=some x:=⟨_,List.getElem?_eq_getElem hlt⟩;have c1:wr.cell? ⟨G,a,none⟩=some (.int .i64 x):=by simp[World.cell?,HR.out,hx]
   have HX:=aa hx;by_cases hm:x=-1
   ·subst hm
    have HST:=aa (show Bz fr Ev wr (fr.length - (a+1)) (.int .i64 ((a:Int)+1)) wr from ⟨a+1,by simp,by omega,by omega,λi h3 h4=>by
     rcases Nat.lt_or_ge i a with h|h
     ·exact H2.out i h3 h
     ·obtain rfl:i=a:=by omega
      exact HX.out,rfl⟩)
    have hwr:IntKind.i64.wrap ((a:Int)+1)=(a:Int)+1:=by rw[IntKind.wrap_i64];omega
    clear hx;go_wp2_with fail;go_roundg (fr.length - (a+1))
    case measure=>omega
    case rel=>exact HST.out
   ·have g2:(x == -1)=false:=by rw[beq_eq_false_iff_ne];exact hm
    have ai:=aa (show yQ fr Ev a from ⟨h1,by omega,H2.out,λ_ e=>hm (by rw[HX.out]at e;exact Option.some.inj e)⟩);clear hx;go_wp2_with fail;go_ret;exact ⟨a,rfl,ai.out,rfl⟩
  ·have g1:decide (a<fr.length)=false:=by simp;omega
   have ai:=aa (show yQ fr Ev a from ⟨h1,by omega,H2.out,λh=>absurd h hlt⟩);go_wp2_with fail;go_ret;exact ⟨a,rfl,ai.out,rfl⟩
theorem aB.inj{v:Value}{c c':ej}(h:aB w v c)(h':aB w v c'):c=c':=by
 induction c generalizing v c' with
 | any=>
  cases c' with
  | any=>rfl
  | range lo hi=>obtain ⟨p,q,e,_⟩:=h';rw[show v=_ from h]at e;simp at e
  | union a b=>obtain ⟨p,q,va,vb,e,_⟩:=h';rw[show v=_ from h]at e;simp at e
  | gZ a=>obtain ⟨p,va,e,_⟩:=h';rw[show v=_ from h]at e;simp at e
 | range lo hi=>
  obtain ⟨p,q,rfl,h1,h2⟩:=h
  cases c' with
  | any=>simp[aB]at h'
  | range lo' hi'=>
   obtain ⟨p',q',e,h3,h4⟩:=h';simp at e;obtain ⟨rfl,rfl⟩:=e;rw[h1]at h3;rw[h2]at h4;simp at h3 h4;rw[UInt8.toNat_inj.1 (by omega:lo.toNat=lo'.toNat),UInt8.toNat_inj.1 (by omega:hi.toNat=hi'.toNat)]
  | union a b=>obtain ⟨p,q,va,vb,e,_⟩:=h';simp at e
  | gZ a=>obtain ⟨p,va,e,_⟩:=h';simp at e
 | union a b kr kL=>
  obtain ⟨p,q,va,vb,rfl,h1,h2,h3,h4⟩:=h
  cases c' with
  | any=>simp[aB]at h'
  | range lo' hi'=>obtain ⟨p',q',e,_⟩:=h';simp at e
  | union a' b'=>
   obtain ⟨p',q',va',vb',e,h5,h6,h7,h8⟩:=h';simp at e;obtain ⟨rfl,rfl⟩:=e;rw[h1]at h5;rw[h2]at h6;simp at h5 h6;subst h5 h6;rw[kr h3 h7,kL h4 h8]
  | gZ a=>obtain ⟨p,va,e,_⟩:=h';simp at e
 | gZ a ih=>
  obtain ⟨p,va,rfl,h1,h2⟩:=h
  cases c' with
  | any=>simp[aB]at h'
  | range lo' hi'=>obtain ⟨p',q',e,_⟩:=h';simp at e
  | union a' b'=>obtain ⟨p',q',va',vb',e,_⟩:=h';simp at e
  | gZ a'=>
   obtain ⟨p',va',e,h3,h4⟩:=h';simp at e;subst e;rw[h1]at h3;simp at h3;subst h3;rw[ih h2 h4]
theorem dH.inj{a a':aM}(h:dH (aB w) ns a)(h':dH (aB w) ns a')(e:a.ix=a'.ix):a=a':=by
 induction a generalizing a' with
 | cW=>exact (h'.zero e.symm).symm
 | cV i c=>
  obtain ⟨hi,v,hn,hc⟩:=h
  cases a' with
  | cW=>exact absurd e hi
  | cV i' c'=>
   obtain ⟨_,v',bR,hc'⟩:=h';simp only[aM.ix]at e;subst e;rw[hn]at bR;simp at bR;subst bR;rw[hc.inj hc']
  | seq i' a b=>obtain ⟨_,⟨v',bR⟩,_⟩:=h';simp only[aM.ix]at e;subst e;rw[hn]at bR;simp at bR
  | alt i' a b=>obtain ⟨_,⟨v',bR⟩,_⟩:=h';simp only[aM.ix]at e;subst e;rw[hn]at bR;simp at bR
  | star i' a=>obtain ⟨_,⟨v',bR⟩,_⟩:=h';simp only[aM.ix]at e;subst e;rw[hn]at bR;simp at bR
  | plus i' j a=>obtain ⟨_,_,⟨v',bR⟩,_⟩:=h';simp only[aM.ix]at e;subst e;rw[hn]at bR;simp at bR
  | eG i' a=>obtain ⟨_,⟨v',bR⟩,_⟩:=h';simp only[aM.ix]at e;subst e;rw[hn]at bR;simp at bR
 | seq i x y sX sY=>
  obtain ⟨hi,⟨v,hn⟩,hx,hy⟩:=h
  cases a' with
  | cW=>exact absurd e hi
  | cV i' c'=>obtain ⟨_,v',bR,_⟩:=h';simp only[aM.ix]at e;subst e;rw[hn]at bR;simp at bR
  | seq i' x' y'=>
   obtain ⟨_,⟨v',bR⟩,CO,hy'⟩:=h';simp only[aM.ix]at e;subst e;rw[hn]at bR;simp only[Option.some.injEq,Nd.mk.injEq]at bR;rw[sX hx CO bR.2.2.1,sY hy hy' bR.2.2.2.1]
  | alt i' a b=>obtain ⟨_,⟨v',bR⟩,_⟩:=h';simp only[aM.ix]at e;subst e;rw[hn]at bR;simp at bR
  | star i' a=>obtain ⟨_,⟨v',bR⟩,_⟩:=h';simp only[aM.ix]at e;subst e;rw[hn]at bR;simp at bR
  | plus i' j a=>obtain ⟨_,_,⟨v',bR⟩,_⟩:=h';simp only[aM.ix]at e;subst e;rw[hn]at bR;simp at bR
  | eG i' a=>obtain ⟨_,⟨v',bR⟩,_⟩:=h';simp only[aM.ix]at e;subst e;rw[hn]at bR;simp at bR
 | alt i x y sX sY=>
  obtain ⟨hi,⟨v,hn⟩,hx,hy⟩:=h
  cases a' with
  | cW=>exact absurd e hi
  | cV i' c'=>obtain ⟨_,v',bR,_⟩:=h';simp only[aM.ix]at e;subst e;rw[hn]at bR;simp at bR
  | seq i' a b=>obtain ⟨_,⟨v',bR⟩,_⟩:=h';simp only[aM.ix]at e;subst e;rw[hn]at bR;simp at bR
  | alt i' x' y'=>
   obtain ⟨_,⟨v',bR⟩,CO,hy'⟩:=h';simp only[aM.ix]at e;subst e;rw[hn]at bR;simp only[Option.some.injEq,Nd.mk.injEq]at bR;rw[sX hx CO bR.2.2.1,sY hy hy' bR.2.2.2.1]
  | star i' a=>obtain ⟨_,⟨v',bR⟩,_⟩:=h';simp only[aM.ix]at e;subst e;rw[hn]at bR;simp at bR
  | plus i' j a=>obtain ⟨_,_,⟨v',bR⟩,_⟩:=h';simp only[aM.ix]at e;subst e;rw[hn]at bR;simp at bR
  | eG i' a=>obtain ⟨_,⟨v',bR⟩,_⟩:=h';simp only[aM.ix]at e;subst e;rw[hn]at bR;simp at bR
 | star i x ih=>
  obtain ⟨hi,⟨v,hn⟩,hx⟩:=h
  cases a' with
  | cW=>exact absurd e hi
  | cV i' c'=>obtain ⟨_,v',bR,_⟩:=h';simp only[aM.ix]at e;subst e;rw[hn]at bR;simp at bR
  | seq i' a b=>obtain ⟨_,⟨v',bR⟩,_⟩:=h';simp only[aM.ix]at e;subst e;rw[hn]at bR;simp at bR
  | alt i' a b=>obtain ⟨_,⟨v',bR⟩,_⟩:=h';simp only[aM.ix]at e;subst e;rw[hn]at bR;simp at bR
  | star i' x'=>
   obtain ⟨_,⟨v',bR⟩,CO⟩:=h';simp only[aM.ix]at e;subst e;rw[hn]at bR;simp only[Option.some.injEq,Nd.mk.injEq]at bR;rw[ih hx CO bR.2.2.1]
  | plus i' j a=>obtain ⟨_,_,⟨v',bR⟩,_⟩:=h';simp only[aM.ix]at e;subst e;rw[hn]at bR;simp at bR
  | eG i' a=>obtain ⟨_,⟨v',bR⟩,_⟩:=h';simp only[aM.ix]at e;subst e;rw[hn]at bR;simp at bR
 | plus i j x ih=>
  obtain ⟨hi,hj,⟨v,hn⟩,_,hx⟩:=h
  cases a' with
  | cW=>exact absurd e hi
  | cV i' c'=>obtain ⟨_,v',bR,_⟩:=h';simp only[aM.ix]at e;subst e;rw[hn]at bR;simp at bR
  | seq i' a b=>obtain ⟨_,⟨v',bR⟩,_⟩:=h';simp only[aM.ix]at e;subst e;rw[hn]at bR;simp at bR
  | alt i' a b=>obtain ⟨_,⟨v',bR⟩,_⟩:=h';simp only[aM.ix]at e;subst e;rw[hn]at bR;simp at bR
  | star i' a=>obtain ⟨_,⟨v',bR⟩,_⟩:=h';simp only[aM.ix]at e;subst e;rw[hn]at bR;simp at bR
  | plus i' j' x'=>
   obtain ⟨_,_,⟨v',bR⟩,_,CO⟩:=h';simp only[aM.ix]at e;subst e;rw[hn]at bR;simp only[Option.some.injEq,Nd.mk.injEq]at bR;rw[ih hx CO bR.2.2.1,bR.2.2.2.1]
  | eG i' a=>obtain ⟨_,⟨v',bR⟩,_⟩:=h';simp only[aM.ix]at e;subst e;rw[hn]at bR;simp at bR
 | eG i x ih=>
  obtain ⟨hi,⟨v,hn⟩,hx⟩:=h
  cases a' with
  | cW=>exact absurd e hi
  | cV i' c'=>obtain ⟨_,v',bR,_⟩:=h';simp only[aM.ix]at e;subst e;rw[hn]at bR;simp at bR
  | seq i' a b=>obtain ⟨_,⟨v',bR⟩,_⟩:=h';simp only[aM.ix]at e;subst e;rw[hn]at bR;simp at bR
  | alt i' a b=>obtain ⟨_,⟨v',bR⟩,_⟩:=h';simp only[aM.ix]at e;subst e;rw[hn]at bR;simp at bR
  | star i' a=>obtain ⟨_,⟨v',bR⟩,_⟩:=h';simp only[aM.ix]at e;subst e;rw[hn]at bR;simp at bR
  | plus i' j a=>obtain ⟨_,_,⟨v',bR⟩,_⟩:=h';simp only[aM.ix]at e;subst e;rw[hn]at bR;simp at bR
  | eG i' x'=>
   obtain ⟨_,⟨v',bR⟩,CO⟩:=h';simp only[aM.ix]at e;subst e;rw[hn]at bR;simp only[Option.some.injEq,Nd.mk.injEq]at bR;rw[ih hx CO bR.2.2.1]
theorem aS.inj{d d':D}(h:aS (aB w) n0 ns d k)(h':aS (aB w) n0 ns d' k):d=d':=by
 induction d generalizing d' k with
 | base a=>
  obtain ⟨h1,h2,h3⟩:=h
  cases d' with
  | base a'=>obtain ⟨U5,_,QO⟩:=h';rw[dH.inj h3 QO (by rw[<-h1,<-U5])]
  | snoc d' a'=>obtain ⟨U5,_⟩:=h';have:=h2.AD;omega
 | snoc d a ih=>
  obtain ⟨h1,h2,h3,m,hm,hd,v,hn⟩:=h
  cases d' with
  | base a'=>obtain ⟨U5,U6,_⟩:=h';have:=U6.AD;omega
  | snoc d' a'=>
   obtain ⟨_,_,QO,m',_,SL,v',bR⟩:=h';rw[hn]at bR;simp only[Option.some.injEq,Nd.mk.injEq]at bR;obtain ⟨_,_,rfl,h5,_⟩:=bR;rw[ih hd SL,dH.inj h3 QO h5]
theorem kj.fx{C:Nat->Prop}(h:kj C w w')(hX:gI X w)(h1:∀k,C k->¬X k)(h2:∀k,C k->∀c t fz,w.heap[k]?=some (.cells c t fz)->nu t=false):Fx X w w':=
 ⟨h.os,h.tape,h.output,h.size,λk hk=>h.keep k (hX k hk) (λhc=>h1 k hc hk),λk c t ht hh=>by rw[h.keep k (ae hh) (λhc=>by rw[h2 k hc c t _ hh]at ht;cases ht)];exact hh⟩
theorem jW.types{M pl:Nat}(h:jW w M pl pv cu)(hk:Ps M pl pv k):∀c t fz,w.heap[k]?=some (.cells c t fz)->t=57∨t=3:=by
 intro c t fz hh;rcases hk with rfl|rfl|hk
 ·obtain ⟨m,f,hm,_⟩:=h.map;obtain ⟨es,kw,ho⟩:=hm.obj;rw[ho]at hh;cases hh
 ·rw[h.var]at hh;cases hh;exact .inl rfl
 ·obtain ⟨c',hc⟩:=h.row.block hk;rw[hc]at hh;cases hh;exact .inr rfl
theorem ma.Mr(h:ma w X ρ n0 root ns ts cu en)(hX:gI X w)(hN:jW w ρ.M ρ.pl pv cu)(hv:∀k,pv.ownBlock=some k->¬X k)(hk:kj (Ps ρ.M ρ.pl pv) w w'):
  Fx X w w'/\Shelf w' (plus X ρ) ρ.S n0 ns (fY root)/\w'.heap[ρ.ev]?=some (.cells #[.int .u64 en] 188 (0,0)):=by
 have hF:Fx X w w':=hk.fx hX (λk hc=>by
  rcases hc with rfl|rfl|hc
  ·exact h.nX.1
  ·exact h.nX.2.1
  ·exact hv k hc) (λk hc c t fz hh=>by rcases hN.types hc c t fz hh with rfl|rfl<;>rfl)
 refine ⟨hF,h.shelf.keep hF.dh (λk o Vi ho wm=>?_) (λ_ h=>.inl h),?_⟩
 ·rw[hk.keep k (ae ho) (λhc=>?_)]
  ·exact ho
  ·cases o with
   | cells c t fz=>
    rcases hN.types hc c t fz ho with rfl|rfl
    ·rcases wm _ _ _ rfl with e|e<;>cases e
    ·rcases wm _ _ _ rfl with e|e<;>cases e
   | _=>
    rcases hc with rfl|rfl|hc
    ·exact Vi (.inr (.inl rfl))
    ·rw[hN.var]at ho;cases ho
    ·obtain ⟨c',hc'⟩:=hN.row.block hc;rw[hc']at ho;cases ho
 ·rw[hk.keep ρ.ev (ae h.ev) (λhc=>by rcases hN.types hc _ _ _ h.ev with e|e<;>cases e)];exact h.ev
def BA(X:Nat->Prop)(ρ:Rd)(n0:Nat)(root:aM)(ns:List (Nd Value))(ts:List D)(t:D)(w:World)(e:Ending)(w':World):Prop:=
 ∃(n:Nat) (dY:List D) (eK:List Nat) (dX:Nat),e=.returned (.int .u64 (2 ^ n:Nat))/\Fx X w w'/\ma w' X ρ n0 root ns dY eK dX/\dY[n]?=some t/\(dY=ts∨dY=ts++[t])
theorem BB{eK:List Nat}{t:D}{zB:Value}{w1 w2:World}(hX:gI X w)(hD:ma w X ρ n0 root ns ts cu en)(hr:aS (aB w) n0 ns t k)(ht:t∈met root)(hv:∀k,pv.ownBlock=some k->¬X k)
  (fH:Fx X w w1) (hS1:Shelf w1 (plus X ρ) ρ.S n0 ns (fY root)) (zz:w1.heap[ρ.ev]?=some (.cells #[.int .u64 en] 188 (0,0))) (J6:jW w1 ρ.M ρ.pl zB eK) (rJ:eK[n]?=some k) (zw:eK=cu∨eK=cu++[k]) (hb1:zB.ownBlock=pv.ownBlock∨∃b,zB.ownBlock=some b/\w.heap.size<=b)
  (dX:Nat) (hen:dX=if t.re.aj then en ||| 2 ^ n else en) (hw2:w2=w1/\dX=en∨w2=w1.setCell ⟨ρ.ev,0,none⟩ (.int .u64 dX)):
  BA X ρ n0 root ns ts t w (.returned (.int .u64 (2 ^ n:Nat))) w2:=by
 have hvX:∀j,zB.ownBlock=some j->¬X j:=λj hj hXj=>by
  rcases hb1 with e|⟨b,e,hb⟩
  ·rw[e]at hj;exact hv j hj hXj
  ·rw[e]at hj;have:=hX j hXj;have:b=j:=Option.some.inj hj;omega
 -- the second step,where there is one
 have XK:Fx X w1 w2/\Shelf w2 (plus X ρ) ρ.S n0 ns (fY root)/\jW w2 ρ.M ρ.pl zB eK/\w2.heap[ρ.ev]?=some (.cells #[.int .u64 dX] 188 (0,0)):=by
  rcases hw2 with ⟨rfl,rfl⟩|rfl
  ·exact ⟨Fx.refl _ _,hS1,J6,zz⟩
  ·have hF2:Fx X w1 (w1.setCell ⟨ρ.ev,0,none⟩ (.int .u64 dX)):=(Fx.refl X w1).setCell hD.nX.2.2 zz (by rfl) _;have hne:∀j:Nat,j≠ρ.ev->(w1.setCell ⟨ρ.ev,0,none⟩ (.int .u64 dX)).heap[j]?=w1.heap[j]?:=λj hj=>Below.heap_setCell _ _ _ _ hj
   refine ⟨hF2,hS1.keep hF2.dh (λj o _ ho wm=>?_) (λ_ h=>.inl h),⟨?_,?_,?_,J6.nodup,J6.small⟩,heap_setCell_same w1 ρ.ev 0 _ zz⟩
   ·rw[hne j (by rintro rfl;rw[zz]at ho;cases ho;rcases wm _ _ _ rfl with e|e<;>cases e)];exact ho
   ·rw[hne ρ.pl (by intro e;have h9:=J6.var;rw[e,zz]at h9;simp at h9)];exact J6.var
   ·refine J6.row.ig λj hj=>hne j ?_
    obtain ⟨c,hc⟩:=J6.row.block hj;rintro rfl;rw[zz]at hc;simp at hc
   ·obtain ⟨m,f,hm,h1,h2⟩:=J6.map;obtain ⟨es,kw,ho⟩:=hm.obj;exact ⟨m,f,hm.keep (hne _ (by intro e;rw[e,zz]at ho;cases ho)),h1,h2⟩
 obtain ⟨hF2,jF,Ms,he2⟩:=XK;have hF:=fH.trans hF2;have hst:=hF.dh;have hlen:=hD.jn.length;have Rz:F2 (aS (aB w2) n0 ns) ts cu:=hD.jn.mono λd j h=>aS.world hst h
 have D1:=aS.world hst hr;rcases zw with rfl|rfl
 ·-- an old number
  obtain ⟨t',gJ,D3⟩:=hD.jn.get rJ;obtain rfl:=aS.inj hr D3;refine ⟨n,ts,eK,dX,rfl,hF,⟨jF,⟨zB,Ms,hvX⟩,he2,hD.nX,Rz,hD.met,?_,hD.sz,hD.leaves⟩,gJ,.inl rfl⟩;intro m;rw[hen]
  cases eT:t.re.aj with
  | false=>simpa using hD.bits m
  | true=>
   simp only[if_true];rw[Nat.testBit_or,Bool.or_eq_true,hD.bits m,Nat.testBit_two_pow];constructor
   ·rintro (h|h)
    ·exact h
    ·simp at h;subst h;exact ⟨t,gJ,eT⟩
   ·exact .inl
 ·-- a new one
  have hn:n=cu.length:=H6 J6.nodup rJ (by simp);subst hn
  have AX:∀m t',(ts++[t])[m]?=some t'<->ts[m]?=some t'∨(m=cu.length/\t'=t):=by
   intro m t';rcases Nat.lt_trichotomy m ts.length with h|h|h
   ·rw[List.getElem?_append_left h];exact ⟨.inl,λh'=>h'.elim id (λh''=>by omega)⟩
   ·subst h;rw[List.getElem?_append_right (Nat.le_refl _)];simp[hlen,eq_comm]
   ·rw[List.getElem?_eq_none (by simp;omega),List.getElem?_eq_none (by omega)];simp;omega
  refine ⟨cu.length,ts++[t],cu++[k],dX,rfl,hF,⟨jF,⟨zB,Ms,hvX⟩,he2,hD.nX,Rz.snoc D1,?_,?_,hD.sz,hD.leaves⟩,(AX _ _).2 (.inr ⟨rfl,rfl⟩),.inr rfl⟩
  ·intro x hx;rcases List.mem_append.1 hx with h|h
   ·exact hD.met x h
   ·simp at h;rw[h];exact ht
  ·intro m;rw[hen]
   cases eT:t.re.aj with
   | false=>
    simp only[Bool.false_eq_true,if_false];rw[hD.bits m];constructor
    ·rintro ⟨x,hx,hx2⟩;exact ⟨x,(AX m x).2 (.inl hx),hx2⟩
    ·rintro ⟨x,hx,hx2⟩;rcases (AX m x).1 hx with h|⟨_,rfl⟩
     ·exact ⟨x,h,hx2⟩
     ·rw[eT]at hx2;cases hx2
   | true=>
    simp only[if_true];rw[Nat.testBit_or,Bool.or_eq_true,hD.bits m,Nat.testBit_two_pow];constructor
    ·rintro (⟨x,hx,hx2⟩|h)
     ·exact ⟨x,(AX m x).2 (.inl hx),hx2⟩
     ·simp at h;subst h;exact ⟨t,(AX _ _).2 (.inr ⟨rfl,rfl⟩),eT⟩
    ·rintro ⟨x,hx,hx2⟩;rcases (AX m x).1 hx with h|⟨rfl,rfl⟩
     ·exact .inl ⟨x,h,hx2⟩
     ·exact .inr (by simp)
theorem nT(h:n<64):2 ^ n<18446744073709551616:=Nat.pow_lt_pow_right (a:=2) (m:=n) (n:=64) (by omega) h
theorem oZ(h:n<64):IntKind.u64.wrap ((2:Int) ^ n)=((2 ^ n:Nat):Int):=by
 have h1:=nT h;have h2:((2 ^ n:Nat):Int)=(2:Int) ^ n:=by simp
 rw[<-h2,IntKind.wrap_u64];generalize 2 ^ n=m at h1;omega
set_option maxRecDepth 20000 in
theorem X3:Enters 196:=λ_ _=>by rfl
set_option maxHeartbeats 1000000 in
theorem BC(X:Nat->Prop)(ρ:Rd)(n0:Nat)(root:aM)(ns:List (Nd Value))(ts:List D)(cu:List Nat)(en:Nat)(t:D)(k:Nat)(w:World)(hX:gI X w)(hD:ma w X ρ n0 root ns ts cu en)(hs:Ol w ρ)(hr:aS (aB w) n0 ns t k)(ht:t∈met root):
  Calls Tryz.prog 175 #[.int .i64 k,.pointer (some ⟨ρ.nv,0,none⟩),.pointer (some ⟨ρ.sv,0,none⟩),.pointer (some ⟨ρ.ev,0,none⟩)] w (BA X ρ n0 root ns ts t w):=by
 obtain ⟨pv,hN,hv⟩:=hD.tT;have c0:=ay hs.nv;have kX:=hr.lt;have hlen:=hD.shelf.length;have X4:=DM ρ.M ρ.pl ρ.mv pv cu k w hN hs.mv (by omega) (by have:=hD.few;omega);have aaN:=aa X4;have HX:=aa hX;have HD:=aa hD;have HS:=aa hs;have HR:=aa hr;have HT:=aa ht;have HN:=aa hN;have HV:=aa hv;clear hX hD hs hr ht hN hv X4
 go_enter Tryz.func175,Tryz.ntmps175;go_wp2_with fail;refine aaN.out.mono ?_;rintro e w1 ⟨n,zB,eK,rfl,Hq,J6,rJ,zw,hb1⟩;obtain ⟨fH,hS1,zz⟩:=HD.out.Mr HX.out HN.out HV.out Hq;have hs1:=HS.out.fx fH;have hr1:=aS.world fH.dh HR.out;obtain ⟨g,len,cap,f0,f1,f2,f4⟩:=hS1.flag hr1;have s0:=ay hs1.sv;have x0:=ay zz
 have xf:w1.frozen? ⟨ρ.ev,0,none⟩=false:=by simp[World.frozen?,zz]
 have IK:n<64:=by
  have h1:=au rJ;have h2:=HD.out.few;rcases zw with rfl|rfl
  ·omega
  ·simp at h1;omega
 have jR:=aa fH;have rF:=aa hS1;have U2:=aa zz;have ez:=aa hr1;have SX:=aa J6;have Hn1:=aa rJ;have gp:=aa zw;have br:=aa hb1;clear fH hS1 zz hr1 J6 rJ zw hb1 Hq hs1
 cases eT:t.re.aj with
 | false=>
  rw[eT]at f4;have ai:=aa (BB HX.out HD.out HR.out HT.out HV.out jR.out rF.out U2.out SX.out Hn1.out gp.out br.out en (by rw[eT];rfl) (.inl ⟨rfl,rfl⟩));clear eT;go_wp2_with fail;go_ret;have hwp:=oZ IK;simp only[hwp];exact ai.out
 | true=>
  rw[eT]at f4;have ai:=aa (BB HX.out HD.out HR.out HT.out HV.out jR.out rF.out U2.out SX.out Hn1.out gp.out br.out (en ||| 2 ^ n) (by rw[eT];rfl) (.inr rfl));have TV:=bits_or_u64_nat en (2 ^ n) HD.out.Rs (nT IK);have PS:=aa TV;clear eT TV;go_wp2_with fail;go_ret;have hwp:=oZ IK;simp only[hwp];rw[PS.out];exact ai.out
end Go.Proofs.YtgncgdkpkkdaeaaGreatDoor
