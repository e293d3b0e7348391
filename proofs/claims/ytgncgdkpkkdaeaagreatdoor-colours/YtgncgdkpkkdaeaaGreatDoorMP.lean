import Derived.Test.YtgncgdkpkkdaeaaGreatDoorMD
import Derived.Maps.AppendAt
import Derived.Test.YtgncgdkpkkdaeaaGreatDoorMI
import Derived.Test.YtgncgdkpkkdaeaaGreatDoorMF
namespace Go.Proofs.YtgncgdkpkkdaeaaGreatDoor
open Go.RowKit aO Go.Maps
variable {root:aN} {ns:List (Nd Value)} {ts:List D} {cC st:List Nat} {en k n n0 op:Nat} {X:Nat->Prop} {ρ:Rd} {pv:Value} {w w':World}
def aJ(st:List Nat):List Value:=(st++List.replicate (8 - st.length) 0++[st.length]).map λx:Nat=>Value.int .i64 (x:Int)
def k9(st:List Nat):Value:=.agg (aJ st).toArray
theorem di(h:st.length<=8):(aJ st).length=9:=by simp[aJ];omega
theorem jc{i x:Nat}(h:st[i]?=some x):(aJ st)[i]?=some (.int .i64 x):=by have hi:i<st.length:=aw h;unfold aJ;rw[List.getElem?_map,List.append_assoc,List.getElem?_append_left hi,h];rfl
theorem dK(h:st.length<=8):(aJ st)[8]?=some (.int .i64 st.length):=by
 unfold aJ;rw[List.getElem?_map,List.getElem?_append_right (by simp;omega)];have:8 - (st++List.replicate (8 - st.length) 0).length=0:=by simp;omega
 rw[this];rfl
set_option maxHeartbeats 1000000 in
theorem nU(st:List Nat)(top:Nat)(h8:st.length<=8)(ht:st[st.length - 1]?=some top)(w:World):
  Calls Tryz.prog 126 #[k9 st] w λe w'=>e=.returned (.int .i64 top)/\Below w.heap.size w w':=by
 obtain ⟨d,hd⟩:∃d,st.length=d+1:=⟨st.length - 1,by have:=aw ht;omega⟩;have c8:=dK h8;rw[hd]at c8 ht;rw[Nat.add_sub_cancel]at ht;have ct:=jc ht;have SN:IntKind.i64.wrap ((d:Int)+1 - 1)=(d:Int):=by rw[IntKind.wrap_i64];omega
 have hd8:d<8:=by omega
 unfold k9;clear ht;go_enter Tryz.func126,Tryz.ntmps126;go_wp2_with fail;go_ret;exact ⟨rfl,(Below.refl _ _).alloc (Nat.le_refl _) _⟩
def mQ(k op:Nat)(st:List Nat):List Nat:=if k=1/\st.length<8 then st++[op] else if k=2/\1<st.length then st.dropLast else st
theorem vE(h:st.length<=8)(h1:1<=st.length):(mQ k op st).length<=8/\1<=(mQ k op st).length:=by
 unfold mQ;split
 ·simp;omega
 ·split
  ·simp;omega
  ·exact ⟨h,h1⟩
theorem nine(h:st.length<=8):∃a0 a1 a2 a3 a4 a5 a6 a7 a8:Nat,aJ st=[.int .i64 a0,.int .i64 a1,.int .i64 a2,.int .i64 a3,.int .i64 a4,.int .i64 a5,.int .i64 a6,.int .i64 a7,.int .i64 a8]:=by
 have hl:(st++List.replicate (8 - st.length) 0++[st.length]).length=9:=by simp;omega
 unfold aJ
 match (st++List.replicate (8 - st.length) 0++[st.length]),hl with
 | [a0,a1,a2,a3,a4,a5,a6,a7,a8],_=>exact ⟨a0,a1,a2,a3,a4,a5,a6,a7,a8,rfl⟩
theorem FE(h:st.length<8):((aJ st).set st.length (.int .i64 op)).set 8 (.int .i64 ((st.length+1:Nat):Int))=aJ (st++[op]):=by
 obtain ⟨m,hm⟩:∃m,8 - st.length=m+1:=⟨7 - st.length,by omega⟩;have JS:8 - (st++[op]).length=m:=by simp;omega
 have e8:8=(st++op::List.replicate m 0).length:=by simp;omega
 unfold aJ;rw[hm,JS,<-List.map_set,<-List.map_set,List.append_assoc,List.set_append_right _ _ (Nat.le_refl _),Nat.sub_self,List.replicate_succ,List.cons_append,List.set_cons_zero];rw[show st++op::(List.replicate m 0++[st.length])=(st++op::List.replicate m 0)++[st.length] by simp];rw[e8,List.set_append_right _ _ (Nat.le_refl _),Nat.sub_self,List.set_cons_zero];simp
theorem JT(h:st.length<=8)(h1:1<st.length):((aJ st).set 8 (.int .i64 ((st.length - 1:Nat):Int))).set (st.length - 1) (.int .i64 0)=aJ st.dropLast:=by
 obtain ⟨l,x,rfl⟩:∃l x,st=l++[x]:=⟨st.dropLast,st.getLast (by intro e;simp[e]at h1),(List.dropLast_concat_getLast _).symm⟩;rw[List.dropLast_concat];have hl:(l++[x]).length=l.length+1:=by simp
 rw[hl]at h h1 ⊢;obtain ⟨m,hm⟩:∃m,8 - (l.length+1)=m:=⟨_,rfl⟩;have JS:8 - l.length=m+1:=by omega
 have e8:8=(l++x::List.replicate m 0).length:=by simp;omega
 unfold aJ;rw[hl,hm,JS,Nat.add_sub_cancel];rw[show (Value.int .i64 (0:Int))=Value.int .i64 ((0:Nat):Int) from rfl,<-List.map_set,<-List.map_set];rw[show l++[x]++List.replicate m 0++[l.length+1]=(l++x::List.replicate m 0)++[l.length+1] by simp]
 rw[e8,List.set_append_right _ _ (Nat.le_refl _),Nat.sub_self,List.set_cons_zero,List.append_assoc,List.set_append_right _ _ (Nat.le_refl _),Nat.sub_self,List.cons_append,List.set_cons_zero];simp[List.replicate_succ]
theorem lj(w:World)(o1 o2 o3:Obj):Below w.heap.size w (((w.alloc o1).alloc o2).alloc o3):=(((Below.refl _ _).alloc (Nat.le_refl _) _).alloc (by simp) _).alloc (by simp;omega) _
def zX(k op:Nat)(st:List Nat)(w:World)(e:Ending)(w':World):Prop:=e=.returned (k9 (mQ k op st))/\Below w.heap.size w w'
set_option maxHeartbeats 2000000 in
theorem CF(st:List Nat)(k op:Nat)(co:ByteArray)(ao:Option Addr)(ln cp wh:Nat)(h8:st.length<=8)(h1:1<=st.length)(w:World):
  Calls Tryz.prog 130 #[k9 st,.agg #[.int .i64 k,.int .i64 op,.string co,.slice ao ln cp,.int .i64 wh]] w (zX k op st w):=by
 have c8:=dK h8;have TU:=di h8;obtain ⟨hA8,iV⟩:=vE (k:=k) (op:=op) h8 h1;obtain ⟨a0,a1,a2,a3,a4,a5,a6,a7,a8,hy⟩:=nine hA8
 have ai:=aa (show ∀W,Below w.heap.size w W->zX k op st w (.returned (.agg #[.int .i64 a0,.int .i64 a1,.int .i64 a2,.int .i64 a3,.int .i64 a4,.int .i64 a5,.int .i64 a6,.int .i64 a7,.int .i64 a8])) W from λW hb=>⟨by unfold k9;rw[hy],hb⟩);by_cases hp:k=1/\st.length<8
 ·obtain ⟨hk,hlt⟩:=hp;have p0:((st.length:Int)<8)=True:=by simp;omega
  have p1:∃v,(aJ st)[st.length]?=some v:=⟨_,List.getElem?_eq_getElem (by omega)⟩;obtain ⟨v1,p1⟩:=p1;have p2:((aJ st).set st.length (.int .i64 (op:Int)))[8]?=some (.int .i64 (st.length:Int)):=by rw[List.getElem?_set_ne (by omega)];exact c8
  have p3:((aJ st).set st.length (.int .i64 (op:Int))).set 8 (.int .i64 ((st.length:Int)+1))=[.int .i64 a0,.int .i64 a1,.int .i64 a2,.int .i64 a3,.int .i64 a4,.int .i64 a5,.int .i64 a6,.int .i64 a7,.int .i64 a8]:=by have h:=FE (op:=op) hlt;rw[<-hy,mQ,if_pos ⟨hk,hlt⟩,<-h];simp
  have hwr:IntKind.i64.wrap ((st.length:Int)+1)=(st.length:Int)+1:=by rw[IntKind.wrap_i64];omega
  subst hk;unfold k9;clear hy hA8 iV TU;go_enter Tryz.func130,Tryz.ntmps130;go_wp2_with fail;exact bodyPost_ret (v:=.agg #[.int .i64 a0,.int .i64 a1,.int .i64 a2,.int .i64 a3,.int .i64 a4,.int .i64 a5,.int .i64 a6,.int .i64 a7,.int .i64 a8]) (by simp[results,Tryz.results130,go_sem, *]) rfl (ai.out _ (lj _ _ _ _))
 ·by_cases hq:k=2/\1<st.length
  ·obtain ⟨hk,DV⟩:=hq;have Rm:=JT h8 DV;obtain ⟨d,hd⟩:∃d,st.length=d+1:=⟨st.length - 1,by omega⟩;rw[hd]at Rm DV;rw[Nat.add_sub_cancel]at Rm;have p0:((1:Int)<(d:Int)+1)=True:=by simp;omega
   have p1:∃v,((aJ st).set 8 (.int .i64 (d:Int)))[d]?=some v:=⟨_,List.getElem?_eq_getElem (by rw[List.length_set];omega)⟩;obtain ⟨v1,p1⟩:=p1;have p2:((aJ st).set 8 (.int .i64 (d:Int)))[8]?=some (.int .i64 (d:Int)):=by rw[List.getElem?_set_self (by omega)]
   have p3:((aJ st).set 8 (.int .i64 (d:Int))).set d (.int .i64 0)=[.int .i64 a0,.int .i64 a1,.int .i64 a2,.int .i64 a3,.int .i64 a4,.int .i64 a5,.int .i64 a6,.int .i64 a7,.int .i64 a8]:=by rw[<-hy,mQ,if_neg hp,if_pos ⟨hk,by omega⟩,<-Rm]
   have hwr:IntKind.i64.wrap ((d:Int)+1 - 1)=(d:Int):=by rw[IntKind.wrap_i64];omega
   have hd8:d<8:=by omega
   rw[hd]at c8;subst hk;unfold k9;clear hy hA8 iV TU Rm hp h8 h1 hd;go_enter Tryz.func130,Tryz.ntmps130;go_wp2_with fail
   exact bodyPost_ret (v:=.agg #[.int .i64 a0,.int .i64 a1,.int .i64 a2,.int .i64 a3,.int .i64 a4,.int .i64 a5,.int .i64 a6,.int .i64 a7,.int .i64 a8]) (by simp[results,Tryz.results130,go_sem, *]) rfl (ai.out _ (lj _ _ _ _))
  ·have hst:aJ st=[.int .i64 a0,.int .i64 a1,.int .i64 a2,.int .i64 a3,.int .i64 a4,.int .i64 a5,.int .i64 a6,.int .i64 a7,.int .i64 a8]:=by rw[<-hy,mQ,if_neg hp,if_neg hq]
   rw[hst]at c8;have Vz:a8=st.length:=by simp at c8;omega
   clear c8;unfold k9;rw[hst];rw[Vz]at ai ⊢;clear hst hy hA8 iV TU;by_cases eJ:k=1
   ·have hlen:st.length=8:=by omega
    subst eJ;rw[hlen]at ai ⊢;clear hp hq Vz hlen;go_enter Tryz.func130,Tryz.ntmps130;go_wp2_with fail;exact bodyPost_ret (v:=.agg #[.int .i64 a0,.int .i64 a1,.int .i64 a2,.int .i64 a3,.int .i64 a4,.int .i64 a5,.int .i64 a6,.int .i64 a7,.int .i64 (8:Nat)]) (by simp[results,Tryz.results130,go_sem, *]) rfl (ai.out _ (lj _ _ _ _))
   ·by_cases hk2:k=2
    ·have hlen:st.length=1:=by omega
     subst hk2;rw[hlen]at ai ⊢;clear hp hq Vz hlen;go_enter Tryz.func130,Tryz.ntmps130;go_wp2_with fail;exact bodyPost_ret (v:=.agg #[.int .i64 a0,.int .i64 a1,.int .i64 a2,.int .i64 a3,.int .i64 a4,.int .i64 a5,.int .i64 a6,.int .i64 a7,.int .i64 (1:Nat)]) (by simp[results,Tryz.results130,go_sem, *]) rfl (ai.out _ (lj _ _ _ _))
    ·have e1:((k:Int)==1)=false:=by rw[beq_eq_false_iff_ne];omega
     have e2:((k:Int)==2)=false:=by rw[beq_eq_false_iff_ne];omega
     clear hp hq Vz;go_enter Tryz.func130,Tryz.ntmps130;go_wp2_with fail;exact bodyPost_ret (v:=.agg #[.int .i64 a0,.int .i64 a1,.int .i64 a2,.int .i64 a3,.int .i64 a4,.int .i64 a5,.int .i64 a6,.int .i64 a7,.int .i64 st.length]) (by simp[results,Tryz.results130,go_sem, *]) rfl (ai.out _ (lj _ _ _ _))
set_option maxHeartbeats 1000000 in
theorem D8(w:World):Calls Tryz.prog 70 #[] w λe w'=>e=.returned (k9 [0])/\Below w.heap.size w w':=by
 have ai:=aa (show ∀W,Below w.heap.size w W->(Ending.returned (.agg #[.int .i64 0,.int .i64 0,.int .i64 0,.int .i64 0,.int .i64 0,.int .i64 0,.int .i64 0,.int .i64 0,.int .i64 1])=.returned (k9 [0])/\Below w.heap.size w W) from λW hb=>⟨rfl,hb⟩);go_enter Tryz.func70,Tryz.ntmps70;go_wp2_with fail
 exact bodyPost_ret (v:=.agg #[.int .i64 0,.int .i64 0,.int .i64 0,.int .i64 0,.int .i64 0,.int .i64 0,.int .i64 0,.int .i64 0,.int .i64 1]) (by simp[results,Tryz.results70,go_sem, *]) rfl (ai.out _ ((Below.refl _ _).alloc (Nat.le_refl _) _))
def zY(fr:List Int)(at_ r:Nat):Prop:=at_<=r/\r<=fr.length/\(∀i,at_<=i->i<r->fr[i]?=some (-1))/\(r<fr.length->fr[r]?≠some (-1))
def CG(fr:List Int)(FH:Nat)(w:World)(k:Nat)(va:Value)(wr:World):Prop:=
 ∃a:Nat,va=.int .i64 a/\a+k=fr.length/\FH<=a/\(∀i,FH<=i->i<a->fr[i]?=some (-1))/\wr=w
set_option maxHeartbeats 1000000 in
theorem xt(G:Nat)(fr:List Int)(FH:Nat)(w:World)(hr:w.heap[G]?=some (.cells (fr.map (Value.int .i64)).toArray 3 (0,0)))(hn:fr.length<=1000000)(ha:FH<=fr.length):
  Calls Tryz.prog 127 #[.slice (some ⟨G,0,none⟩) fr.length fr.length,.int .i64 FH] w λe w'=>∃r:Nat,e=.returned (.int .i64 r)/\zY fr FH r/\w'=w:=by
 have HR:=aa hr;clear hr;go_enter Tryz.func127,Tryz.ntmps127;go_wp2_with fail;go_loopg [1] (fr.length - FH) (λk va wr=>CG fr FH w k va wr)
 case atStart=>exact ⟨FH,rfl,by omega,Nat.le_refl _,λi h1 h2=>by omega,rfl⟩
 case round=>
  obtain ⟨a,rfl,hk,h1,h2,rfl⟩:=hrel;have H2:=aa h2;clear h2;by_cases hlt:a<fr.length
  ·have g1:decide ((a:Int)<(fr.length:Int))=true:=decide_eq_true (by omega);obtain ⟨x,hx⟩:∃x,fr[a]?=some x:=⟨_,List.getElem?_eq_getElem hlt⟩;have c1:wr.cell? ⟨G,a,none⟩=some (.int .i64 x):=by simp[World.cell?,HR.out,hx]
   have HX:=aa hx;by_cases hm:x=-1
   ·subst hm
    have HST:=aa (show CG fr FH wr (fr.length - (a+1)) (.int .i64 ((a:Int)+1)) wr from ⟨a+1,by simp,by omega,by omega,λi h3 h4=>by
     rcases Nat.lt_or_ge i a with h|h
     ·exact H2.out i h3 h
     ·obtain rfl:i=a:=by omega
      exact HX.out,rfl⟩)
    have hwr:IntKind.i64.wrap ((a:Int)+1)=(a:Int)+1:=by rw[IntKind.wrap_i64];omega
    clear hx;go_wp2_with fail;go_roundg (fr.length - (a+1))
    case measure=>omega
    case rel=>exact HST.out
   ·have g2:(x == -1)=false:=by rw[beq_eq_false_iff_ne];exact hm
    have ai:=aa (show zY fr FH a from ⟨h1,by omega,H2.out,λ_ e=>hm (by rw[HX.out]at e;exact Option.some.inj e)⟩);clear hx;go_wp2_with fail;go_ret;exact ⟨a,rfl,ai.out,rfl⟩
  ·have g1:decide (a<fr.length)=false:=by simp;omega
   have ai:=aa (show zY fr FH a from ⟨h1,by omega,H2.out,λh=>absurd h hlt⟩);go_wp2_with fail;go_ret;exact ⟨a,rfl,ai.out,rfl⟩
theorem aF.inj{v:Value}{c c':eC}(h:aF w v c)(h':aF w v c'):c=c':=by
 induction c generalizing v c' with
 | any=>
  cases c' with
  | any=>rfl
  | range lo hi=>obtain ⟨p,q,e,_⟩:=h';rw[show v=_ from h]at e;simp at e
  | union a b=>obtain ⟨p,q,va,vb,e,_⟩:=h';rw[show v=_ from h]at e;simp at e
  | iy a=>obtain ⟨p,va,e,_⟩:=h';rw[show v=_ from h]at e;simp at e
 | range lo hi=>
  obtain ⟨p,q,rfl,h1,h2⟩:=h
  cases c' with
  | any=>simp[aF]at h'
  | range lo' hi'=>
   obtain ⟨p',q',e,h3,h4⟩:=h';simp at e;obtain ⟨rfl,rfl⟩:=e;rw[h1]at h3;rw[h2]at h4;simp at h3 h4;rw[UInt8.toNat_inj.1 (by omega:lo.toNat=lo'.toNat),UInt8.toNat_inj.1 (by omega:hi.toNat=hi'.toNat)]
  | union a b=>obtain ⟨p,q,va,vb,e,_⟩:=h';simp at e
  | iy a=>obtain ⟨p,va,e,_⟩:=h';simp at e
 | union a b kW lu=>
  obtain ⟨p,q,va,vb,rfl,h1,h2,h3,h4⟩:=h
  cases c' with
  | any=>simp[aF]at h'
  | range lo' hi'=>obtain ⟨p',q',e,_⟩:=h';simp at e
  | union a' b'=>
   obtain ⟨p',q',va',vb',e,h5,h6,h7,h8⟩:=h';simp at e;obtain ⟨rfl,rfl⟩:=e;rw[h1]at h5;rw[h2]at h6;simp at h5 h6;subst h5 h6;rw[kW h3 h7,lu h4 h8]
  | iy a=>obtain ⟨p,va,e,_⟩:=h';simp at e
 | iy a ih=>
  obtain ⟨p,va,rfl,h1,h2⟩:=h
  cases c' with
  | any=>simp[aF]at h'
  | range lo' hi'=>obtain ⟨p',q',e,_⟩:=h';simp at e
  | union a' b'=>obtain ⟨p',q',va',vb',e,_⟩:=h';simp at e
  | iy a'=>
   obtain ⟨p',va',e,h3,h4⟩:=h';simp at e;subst e;rw[h1]at h3;simp at h3;subst h3;rw[ih h2 h4]
theorem dR.inj{a a':aN}(h:dR (aF w) ns a)(h':dR (aF w) ns a')(e:a.ix=a'.ix):a=a':=by
 induction a generalizing a' with
 | dh=>exact (h'.zero e.symm).symm
 | cY i c=>
  obtain ⟨hi,v,hn,hc⟩:=h
  cases a' with
  | dh=>exact absurd e hi
  | cY i' c'=>
   obtain ⟨_,v',b9,hc'⟩:=h';simp only[aN.ix]at e;subst e;rw[hn]at b9;simp at b9;subst b9;rw[hc.inj hc']
  | seq i' a b=>obtain ⟨_,⟨v',b9⟩,_⟩:=h';simp only[aN.ix]at e;subst e;rw[hn]at b9;simp at b9
  | alt i' a b=>obtain ⟨_,⟨v',b9⟩,_⟩:=h';simp only[aN.ix]at e;subst e;rw[hn]at b9;simp at b9
  | star i' a=>obtain ⟨_,⟨v',b9⟩,_⟩:=h';simp only[aN.ix]at e;subst e;rw[hn]at b9;simp at b9
  | plus i' j a=>obtain ⟨_,_,⟨v',b9⟩,_⟩:=h';simp only[aN.ix]at e;subst e;rw[hn]at b9;simp at b9
  | eU i' a=>obtain ⟨_,⟨v',b9⟩,_⟩:=h';simp only[aN.ix]at e;subst e;rw[hn]at b9;simp at b9
 | seq i x y um uo=>
  obtain ⟨hi,⟨v,hn⟩,hx,hy⟩:=h
  cases a' with
  | dh=>exact absurd e hi
  | cY i' c'=>obtain ⟨_,v',b9,_⟩:=h';simp only[aN.ix]at e;subst e;rw[hn]at b9;simp at b9
  | seq i' x' y'=>
   obtain ⟨_,⟨v',b9⟩,DW,hy'⟩:=h';simp only[aN.ix]at e;subst e;rw[hn]at b9;simp only[Option.some.injEq,Nd.mk.injEq]at b9;rw[um hx DW b9.2.2.1,uo hy hy' b9.2.2.2.1]
  | alt i' a b=>obtain ⟨_,⟨v',b9⟩,_⟩:=h';simp only[aN.ix]at e;subst e;rw[hn]at b9;simp at b9
  | star i' a=>obtain ⟨_,⟨v',b9⟩,_⟩:=h';simp only[aN.ix]at e;subst e;rw[hn]at b9;simp at b9
  | plus i' j a=>obtain ⟨_,_,⟨v',b9⟩,_⟩:=h';simp only[aN.ix]at e;subst e;rw[hn]at b9;simp at b9
  | eU i' a=>obtain ⟨_,⟨v',b9⟩,_⟩:=h';simp only[aN.ix]at e;subst e;rw[hn]at b9;simp at b9
 | alt i x y um uo=>
  obtain ⟨hi,⟨v,hn⟩,hx,hy⟩:=h
  cases a' with
  | dh=>exact absurd e hi
  | cY i' c'=>obtain ⟨_,v',b9,_⟩:=h';simp only[aN.ix]at e;subst e;rw[hn]at b9;simp at b9
  | seq i' a b=>obtain ⟨_,⟨v',b9⟩,_⟩:=h';simp only[aN.ix]at e;subst e;rw[hn]at b9;simp at b9
  | alt i' x' y'=>
   obtain ⟨_,⟨v',b9⟩,DW,hy'⟩:=h';simp only[aN.ix]at e;subst e;rw[hn]at b9;simp only[Option.some.injEq,Nd.mk.injEq]at b9;rw[um hx DW b9.2.2.1,uo hy hy' b9.2.2.2.1]
  | star i' a=>obtain ⟨_,⟨v',b9⟩,_⟩:=h';simp only[aN.ix]at e;subst e;rw[hn]at b9;simp at b9
  | plus i' j a=>obtain ⟨_,_,⟨v',b9⟩,_⟩:=h';simp only[aN.ix]at e;subst e;rw[hn]at b9;simp at b9
  | eU i' a=>obtain ⟨_,⟨v',b9⟩,_⟩:=h';simp only[aN.ix]at e;subst e;rw[hn]at b9;simp at b9
 | star i x ih=>
  obtain ⟨hi,⟨v,hn⟩,hx⟩:=h
  cases a' with
  | dh=>exact absurd e hi
  | cY i' c'=>obtain ⟨_,v',b9,_⟩:=h';simp only[aN.ix]at e;subst e;rw[hn]at b9;simp at b9
  | seq i' a b=>obtain ⟨_,⟨v',b9⟩,_⟩:=h';simp only[aN.ix]at e;subst e;rw[hn]at b9;simp at b9
  | alt i' a b=>obtain ⟨_,⟨v',b9⟩,_⟩:=h';simp only[aN.ix]at e;subst e;rw[hn]at b9;simp at b9
  | star i' x'=>
   obtain ⟨_,⟨v',b9⟩,DW⟩:=h';simp only[aN.ix]at e;subst e;rw[hn]at b9;simp only[Option.some.injEq,Nd.mk.injEq]at b9;rw[ih hx DW b9.2.2.1]
  | plus i' j a=>obtain ⟨_,_,⟨v',b9⟩,_⟩:=h';simp only[aN.ix]at e;subst e;rw[hn]at b9;simp at b9
  | eU i' a=>obtain ⟨_,⟨v',b9⟩,_⟩:=h';simp only[aN.ix]at e;subst e;rw[hn]at b9;simp at b9
 | plus i j x ih=>
  obtain ⟨hi,hj,⟨v,hn⟩,_,hx⟩:=h
  cases a' with
  | dh=>exact absurd e hi
  | cY i' c'=>obtain ⟨_,v',b9,_⟩:=h';simp only[aN.ix]at e;subst e;rw[hn]at b9;simp at b9
  | seq i' a b=>obtain ⟨_,⟨v',b9⟩,_⟩:=h';simp only[aN.ix]at e;subst e;rw[hn]at b9;simp at b9
  | alt i' a b=>obtain ⟨_,⟨v',b9⟩,_⟩:=h';simp only[aN.ix]at e;subst e;rw[hn]at b9;simp at b9
  | star i' a=>obtain ⟨_,⟨v',b9⟩,_⟩:=h';simp only[aN.ix]at e;subst e;rw[hn]at b9;simp at b9
  | plus i' j' x'=>
   obtain ⟨_,_,⟨v',b9⟩,_,DW⟩:=h';simp only[aN.ix]at e;subst e;rw[hn]at b9;simp only[Option.some.injEq,Nd.mk.injEq]at b9;rw[ih hx DW b9.2.2.1,b9.2.2.2.1]
  | eU i' a=>obtain ⟨_,⟨v',b9⟩,_⟩:=h';simp only[aN.ix]at e;subst e;rw[hn]at b9;simp at b9
 | eU i x ih=>
  obtain ⟨hi,⟨v,hn⟩,hx⟩:=h
  cases a' with
  | dh=>exact absurd e hi
  | cY i' c'=>obtain ⟨_,v',b9,_⟩:=h';simp only[aN.ix]at e;subst e;rw[hn]at b9;simp at b9
  | seq i' a b=>obtain ⟨_,⟨v',b9⟩,_⟩:=h';simp only[aN.ix]at e;subst e;rw[hn]at b9;simp at b9
  | alt i' a b=>obtain ⟨_,⟨v',b9⟩,_⟩:=h';simp only[aN.ix]at e;subst e;rw[hn]at b9;simp at b9
  | star i' a=>obtain ⟨_,⟨v',b9⟩,_⟩:=h';simp only[aN.ix]at e;subst e;rw[hn]at b9;simp at b9
  | plus i' j a=>obtain ⟨_,_,⟨v',b9⟩,_⟩:=h';simp only[aN.ix]at e;subst e;rw[hn]at b9;simp at b9
  | eU i' x'=>
   obtain ⟨_,⟨v',b9⟩,DW⟩:=h';simp only[aN.ix]at e;subst e;rw[hn]at b9;simp only[Option.some.injEq,Nd.mk.injEq]at b9;rw[ih hx DW b9.2.2.1]
theorem aU.inj{d d':D}(h:aU (aF w) n0 ns d k)(h':aU (aF w) n0 ns d' k):d=d':=by
 induction d generalizing d' k with
 | base a=>
  obtain ⟨h1,h2,h3⟩:=h
  cases d' with
  | base a'=>obtain ⟨WN,_,SB⟩:=h';rw[dR.inj h3 SB (by rw[<-h1,<-WN])]
  | snoc d' a'=>obtain ⟨WN,_⟩:=h';have:=h2.BS;omega
 | snoc d a ih=>
  obtain ⟨h1,h2,h3,m,hm,hd,v,hn⟩:=h
  cases d' with
  | base a'=>obtain ⟨WN,WO,_⟩:=h';have:=WO.BS;omega
  | snoc d' a'=>
   obtain ⟨_,_,SB,m',_,Up,v',b9⟩:=h';rw[hn]at b9;simp only[Option.some.injEq,Nd.mk.injEq]at b9;obtain ⟨_,_,rfl,h5,_⟩:=b9;rw[ih hd Up,dR.inj h3 SB h5]
theorem kR.fx{C:Nat->Prop}(h:kR C w w')(hX:ia X w)(h1:∀k,C k->¬X k)(h2:∀k,C k->∀c t fz,w.heap[k]?=some (.cells c t fz)->jq t=false):Fx X w w':=
 ⟨h.os,h.tape,h.output,h.size,λk hk=>h.keep k (hX k hk) (λhc=>h1 k hc hk),λk c t ht hh=>by rw[h.keep k (ae hh) (λhc=>by rw[h2 k hc c t _ hh]at ht;cases ht)];exact hh⟩
theorem kw.types{M pl:Nat}(h:kw w M pl pv cC)(hk:QU M pl pv k):∀c t fz,w.heap[k]?=some (.cells c t fz)->t=57∨t=3:=by
 intro c t fz hh;rcases hk with rfl|rfl|hk
 ·obtain ⟨m,f,hm,_⟩:=h.map;obtain ⟨es,kY,ho⟩:=hm.obj;rw[ho]at hh;cases hh
 ·rw[h.var]at hh;cases hh;exact .inl rfl
 ·obtain ⟨c',hc⟩:=h.row.block hk;rw[hc]at hh;cases hh;exact .inr rfl
theorem mP.NP(h:mP w X ρ n0 root ns ts cC en)(hX:ia X w)(hN:kw w ρ.M ρ.pl pv cC)(hv:∀k,pv.ownBlock=some k->¬X k)(hk:kR (QU ρ.M ρ.pl pv) w w'):
  Fx X w w'/\Shelf w' (plus X ρ) ρ.S n0 ns (gy root)/\w'.heap[ρ.ev]?=some (.cells #[.int .u64 en] 188 (0,0)):=by
 have hF:Fx X w w':=hk.fx hX (λk hc=>by
  rcases hc with rfl|rfl|hc
  ·exact h.nX.1
  ·exact h.nX.2.1
  ·exact hv k hc) (λk hc c t fz hh=>by rcases hN.types hc c t fz hh with rfl|rfl<;>rfl)
 refine ⟨hF,h.shelf.keep hF.cS (λk o Xd ho xE=>?_) (λ_ h=>.inl h),?_⟩
 ·rw[hk.keep k (ae ho) (λhc=>?_)]
  ·exact ho
  ·cases o with
   | cells c t fz=>
    rcases hN.types hc c t fz ho with rfl|rfl
    ·rcases xE _ _ _ rfl with e|e<;>cases e
    ·rcases xE _ _ _ rfl with e|e<;>cases e
   | _=>
    rcases hc with rfl|rfl|hc
    ·exact Xd (.inr (.inl rfl))
    ·rw[hN.var]at ho;cases ho
    ·obtain ⟨c',hc'⟩:=hN.row.block hc;rw[hc']at ho;cases ho
 ·rw[hk.keep ρ.ev (ae h.ev) (λhc=>by rcases hN.types hc _ _ _ h.ev with e|e<;>cases e)];exact h.ev
def CH(X:Nat->Prop)(ρ:Rd)(n0:Nat)(root:aN)(ns:List (Nd Value))(ts:List D)(t:D)(w:World)(e:Ending)(w':World):Prop:=
 ∃(n:Nat) (et:List D) (eY:List Nat) (er:Nat),e=.returned (.int .u64 (2 ^ n:Nat))/\Fx X w w'/\mP w' X ρ n0 root ns et eY er/\et[n]?=some t/\(et=ts∨et=ts++[t])
theorem CI{eY:List Nat}{t:D}{AL:Value}{w1 w2:World}(hX:ia X w)(hD:mP w X ρ n0 root ns ts cC en)(hr:aU (aF w) n0 ns t k)(ht:t∈met root)(hv:∀k,pv.ownBlock=some k->¬X k)
  (fT:Fx X w w1) (hS1:Shelf w1 (plus X ρ) ρ.S n0 ns (gy root)) (AJ:w1.heap[ρ.ev]?=some (.cells #[.int .u64 en] 188 (0,0))) (Lp:kw w1 ρ.M ρ.pl AL eY) (sX:eY[n]?=some k) (AH:eY=cC∨eY=cC++[k]) (hb1:AL.ownBlock=pv.ownBlock∨∃b,AL.ownBlock=some b/\w.heap.size<=b)
  (er:Nat) (hen:er=if t.re.aq then en ||| 2 ^ n else en) (hw2:w2=w1/\er=en∨w2=w1.setCell ⟨ρ.ev,0,none⟩ (.int .u64 er)):
  CH X ρ n0 root ns ts t w (.returned (.int .u64 (2 ^ n:Nat))) w2:=by
 have hvX:∀j,AL.ownBlock=some j->¬X j:=λj hj hXj=>by
  rcases hb1 with e|⟨b,e,hb⟩
  ·rw[e]at hj;exact hv j hj hXj
  ·rw[e]at hj;have:=hX j hXj;have:b=j:=Option.some.inj hj;omega
 -- the second step,where there is one
 have Zx:Fx X w1 w2/\Shelf w2 (plus X ρ) ρ.S n0 ns (gy root)/\kw w2 ρ.M ρ.pl AL eY/\w2.heap[ρ.ev]?=some (.cells #[.int .u64 er] 188 (0,0)):=by
  rcases hw2 with ⟨rfl,rfl⟩|rfl
  ·exact ⟨Fx.refl _ _,hS1,Lp,AJ⟩
  ·have hF2:Fx X w1 (w1.setCell ⟨ρ.ev,0,none⟩ (.int .u64 er)):=(Fx.refl X w1).setCell hD.nX.2.2 AJ (by rfl) _;have hne:∀j:Nat,j≠ρ.ev->(w1.setCell ⟨ρ.ev,0,none⟩ (.int .u64 er)).heap[j]?=w1.heap[j]?:=λj hj=>Below.heap_setCell _ _ _ _ hj
   refine ⟨hF2,hS1.keep hF2.cS (λj o _ ho xE=>?_) (λ_ h=>.inl h),⟨?_,?_,?_,Lp.nodup,Lp.small⟩,heap_setCell_same w1 ρ.ev 0 _ AJ⟩
   ·rw[hne j (by rintro rfl;rw[AJ]at ho;cases ho;rcases xE _ _ _ rfl with e|e<;>cases e)];exact ho
   ·rw[hne ρ.pl (by intro e;have h9:=Lp.var;rw[e,AJ]at h9;simp at h9)];exact Lp.var
   ·refine Lp.row.iF λj hj=>hne j ?_
    obtain ⟨c,hc⟩:=Lp.row.block hj;rintro rfl;rw[AJ]at hc;simp at hc
   ·obtain ⟨m,f,hm,h1,h2⟩:=Lp.map;obtain ⟨es,kY,ho⟩:=hm.obj;exact ⟨m,f,hm.keep (hne _ (by intro e;rw[e,AJ]at ho;cases ho)),h1,h2⟩
 obtain ⟨hF2,j4,JU,he2⟩:=Zx;have hF:=fT.trans hF2;have hst:=hF.cS;have hlen:=hD.jL.length;have Tm:F2 (aU (aF w2) n0 ns) ts cC:=hD.jL.mono λd j h=>aU.world hst h
 have E6:=aU.world hst hr;rcases AH with rfl|rfl
 · -- an old number
  obtain ⟨t',ib,zI⟩:=hD.jL.get sX;obtain rfl:=aU.inj hr zI;refine ⟨n,ts,eY,er,rfl,hF,⟨j4,⟨AL,JU,hvX⟩,he2,hD.nX,Tm,hD.met,?_,hD.sz,hD.leaves⟩,ib,.inl rfl⟩;intro m;rw[hen]
  cases fq:t.re.aq with
  | false=>simpa using hD.bits m
  | true=>
   simp only[if_true];rw[Nat.testBit_or,Bool.or_eq_true,hD.bits m,Nat.testBit_two_pow];constructor
   ·rintro (h|h)
    ·exact h
    ·simp at h;subst h;exact ⟨t,ib,fq⟩
   ·exact .inl
 · -- a new one
  have hn:n=cC.length:=Jo Lp.nodup sX (by simp);subst hn
  have Cc:∀m t',(ts++[t])[m]?=some t'<->ts[m]?=some t'∨(m=cC.length/\t'=t):=by
   intro m t';rcases Nat.lt_trichotomy m ts.length with h|h|h
   ·rw[List.getElem?_append_left h];exact ⟨.inl,λh'=>h'.elim id (λh''=>by omega)⟩
   ·subst h;rw[List.getElem?_append_right (Nat.le_refl _)];simp[hlen,eq_comm]
   ·rw[List.getElem?_eq_none (by simp;omega),List.getElem?_eq_none (by omega)];simp;omega
  refine ⟨cC.length,ts++[t],cC++[k],er,rfl,hF,⟨j4,⟨AL,JU,hvX⟩,he2,hD.nX,Tm.snoc E6,?_,?_,hD.sz,hD.leaves⟩,(Cc _ _).2 (.inr ⟨rfl,rfl⟩),.inr rfl⟩
  ·intro x hx;rcases List.mem_append.1 hx with h|h
   ·exact hD.met x h
   ·simp at h;rw[h];exact ht
  ·intro m;rw[hen]
   cases fq:t.re.aq with
   | false=>
    simp only[Bool.false_eq_true,if_false];rw[hD.bits m];constructor
    ·rintro ⟨x,hx,hx2⟩;exact ⟨x,(Cc m x).2 (.inl hx),hx2⟩
    ·rintro ⟨x,hx,hx2⟩;rcases (Cc m x).1 hx with h|⟨_,rfl⟩
     ·exact ⟨x,h,hx2⟩
     ·rw[fq]at hx2;cases hx2
   | true=>
    simp only[if_true];rw[Nat.testBit_or,Bool.or_eq_true,hD.bits m,Nat.testBit_two_pow];constructor
    ·rintro (⟨x,hx,hx2⟩|h)
     ·exact ⟨x,(Cc m x).2 (.inl hx),hx2⟩
     ·simp at h;subst h;exact ⟨t,(Cc _ _).2 (.inr ⟨rfl,rfl⟩),fq⟩
    ·rintro ⟨x,hx,hx2⟩;rcases (Cc m x).1 hx with h|⟨rfl,rfl⟩
     ·exact .inl ⟨x,h,hx2⟩
     ·exact .inr (by simp)
theorem oO(h:n<64):2 ^ n<18446744073709551616:=Nat.pow_lt_pow_right (a:=2) (m:=n) (n:=64) (by omega) h
theorem p6(h:n<64):IntKind.u64.wrap ((2:Int) ^ n)=((2 ^ n:Nat):Int):=by
 have h1:=oO h;have h2:((2 ^ n:Nat):Int)=(2:Int) ^ n:=by simp
 rw[<-h2,IntKind.wrap_u64];generalize 2 ^ n=m at h1;omega
set_option maxRecDepth 20000 in
theorem ZQ:Enters 196:=λ_ _=>by rfl
set_option maxHeartbeats 1000000 in
theorem CK(X:Nat->Prop)(ρ:Rd)(n0:Nat)(root:aN)(ns:List (Nd Value))(ts:List D)(cC:List Nat)(en:Nat)(t:D)(k:Nat)(w:World)(hX:ia X w)(hD:mP w X ρ n0 root ns ts cC en)(hs:PU w ρ)(hr:aU (aF w) n0 ns t k)(ht:t∈met root):
  Calls Tryz.prog 175 #[.int .i64 k,.pointer (some ⟨ρ.nv,0,none⟩),.pointer (some ⟨ρ.sv,0,none⟩),.pointer (some ⟨ρ.ev,0,none⟩)] w (CH X ρ n0 root ns ts t w):=by
 obtain ⟨pv,hN,hv⟩:=hD.uW;have c0:=ay hs.nv;have lL:=hr.lt;have hlen:=hD.shelf.length;have ZR:=ES ρ.M ρ.pl ρ.mv pv cC k w hN hs.mv (by omega) (by have:=hD.few;omega);have abH:=aa ZR;have HX:=aa hX;have HD:=aa hD;have HS:=aa hs;have HR:=aa hr;have HT:=aa ht;have HN:=aa hN;have HV:=aa hv;clear hX hD hs hr ht hN hv ZR
 go_enter Tryz.func175,Tryz.ntmps175;go_wp2_with fail;refine abH.out.mono ?_;rintro e w1 ⟨n,AL,eY,rfl,Jf,Lp,sX,AH,hb1⟩;obtain ⟨fT,hS1,AJ⟩:=HD.out.NP HX.out HN.out HV.out Jf;have hs1:=HS.out.fx fT;have hr1:=aU.world fT.cS HR.out;obtain ⟨g,len,cap,f0,f1,f2,f4⟩:=hS1.flag hr1;have s0:=ay hs1.sv;have x0:=ay AJ
 have xf:w1.frozen? ⟨ρ.ev,0,none⟩=false:=by simp[World.frozen?,AJ]
 have JV:n<64:=by
  have h1:=aw sX;have h2:=HD.out.few;rcases AH with rfl|rfl
  ·omega
  ·simp at h1;omega
 have kp:=aa fT;have sT:=aa hS1;have WK:=aa AJ;have eK:=aa hr1;have Ux:=aa Lp;have Hn1:=aa sX;have gH:=aa AH;have bA:=aa hb1;clear fT hS1 AJ hr1 Lp sX AH hb1 Jf hs1
 cases fq:t.re.aq with
 | false=>
  rw[fq]at f4;have ai:=aa (CI HX.out HD.out HR.out HT.out HV.out kp.out sT.out WK.out Ux.out Hn1.out gH.out bA.out en (by rw[fq];rfl) (.inl ⟨rfl,rfl⟩));clear fq;go_wp2_with fail;go_ret;have hwp:=p6 JV;simp only[hwp];exact ai.out
 | true=>
  rw[fq]at f4;have ai:=aa (CI HX.out HD.out HR.out HT.out HV.out kp.out sT.out WK.out Ux.out Hn1.out gH.out bA.out (en ||| 2 ^ n) (by rw[fq];rfl) (.inr rfl));have VA:=bits_or_u64_nat en (2 ^ n) HD.out.Te (oO JV);have Rn:=aa VA;clear fq VA;go_wp2_with fail;go_ret;have hwp:=p6 JV;simp only[hwp];rw[Rn.out];exact ai.out
end Go.Proofs.YtgncgdkpkkdaeaaGreatDoor
