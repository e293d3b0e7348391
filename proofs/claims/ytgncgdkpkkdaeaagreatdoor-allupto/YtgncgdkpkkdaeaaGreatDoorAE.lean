import Derived.Test.YtgncgdkpkkdaeaaGreatDoorAD
set_option maxHeartbeats 4000000
namespace Go.Proofs.YtgncgdkpkkdaeaaGreatDoor
open Go.RowKit bu Go.Maps
variable {c cur:Array Value} {d x:D} {ms ns:List (Nd Value)} {Q:List D} {fs js xs:List Nat} {B E J S j k m n0:Nat} {f:Nat×Nat->Option Int} {X Y:Nat->Prop} {nd:Nd Value} {t:TypeId} {fv v v':Value} {a w w' wr:World}
def jK(t:TypeId):Bool:=
 t == 5 || t == 290 || t == 295 || t == 284 || t == 301 || t == 302 || t == 318 || t == 319 || t == 305 || t == 192 || t == 194
structure Fx(X:Nat->Prop)(w w':World):Prop where
 os:w'.os=w.os
 tape:w'.tape=w.tape
 output:w'.output=w.output
 size:w.heap.size<=w'.heap.size
 keep:∀k,X k->w'.heap[k]?=w.heap[k]?
 stay:∀(k:Nat) c t,jK t=true->w.heap[k]?=some (.cells c t (0,0))->w'.heap[k]?=some (.cells c t (0,0))
def iG(X:Nat->Prop)(w:World):Prop:=∀k,X k->k<w.heap.size
theorem Fx.refl(X:Nat->Prop)(w:World):Fx X w w:=⟨rfl,rfl,rfl,bc _,λ_ _=>rfl,λ_ _ _ _ h=>h⟩
theorem Fx.trans{b c:World}(h:Fx X a b)(k:Fx X b c):Fx X a c:=
 ⟨k.os.trans h.os,k.tape.trans h.tape,k.output.trans h.output,bJ h.size k.size,λi hi=>(k.keep i hi).trans (h.keep i hi),λi x t ht hh=>k.stay i x t ht (h.stay i x t ht hh)⟩
theorem Fx.drew(h:Fx X a w):Fx X a w.drew:=⟨h.os,h.tape,h.output,h.size,h.keep,h.stay⟩
theorem Fx.drewN(h:Fx X a w)(n:Nat):Fx X a (w.drewN n):=⟨h.os,h.tape,h.output,h.size,h.keep,h.stay⟩
theorem Fx.sub(h:Fx X a w)(hs:∀k,Y k->X k):Fx Y a w:=⟨h.os,h.tape,h.output,h.size,λk hk=>h.keep k (hs k hk),h.stay⟩
theorem iG.mono(h:iG X w)(hs:w.heap.size<=w'.heap.size):iG X w':=λk hk=>dw (h k hk) hs
theorem iG.fx(h:iG X w)(hs:Fx Y w w'):iG X w':=h.mono hs.size
theorem Fx.ay(hX:iG X w)(h:Below w.heap.size w w'):Fx X w w':=
 ⟨h.os,h.tape,h.output,h.size,λk hk=>h.block k (hX k hk),λk _ _ _ hh=>(h.block k (ae hh)).trans hh⟩
theorem Fx.setCell(h:Fx X a w){p:Addr}{fz:Nat×Nat}(hp:¬X p.block)(hb:w.heap[p.block]?=some (.cells c t fz))(ht:jK t=false)(u:Value):Fx X a (w.setCell p u):=
 h.trans ⟨rfl,rfl,rfl,by simp[World.setCell],λk hk=>eV _ _ _ _ (λe=>hp (e▸hk)),λk x t' jo hh=>by rw[eV _ _ _ _ (λe=>by rw[e,hb]at hh;simp only[fA,Obj.cells.injEq]at hh;rw[hh.2.1,jo]at ht;cases ht)];exact hh⟩
theorem Fx.grown{row:Option Nat}(h:Fx X a w)(hg:w.grownBy w' row)(hX:iG X w)(hr:∀k,row=some k->¬X k)(ht:∀k,row=some k->∀c t fz,w.heap[k]?=some (.cells c t fz)->jK t=false):Fx X a w':=
 h.trans ⟨hg.os,hg.tape,hg.output,hg.size,λk hk=>hg.block k (hX k hk) (λe=>hr k e.symm hk),λk c t hs hh=>by rw[hg.block k (ae hh) (λe=>by have:=ht k e.symm c t _ hh;rw[hs]at this;cases this)];exact hh⟩
theorem Fx.dg(h:Fx X w w'):bN w w':=λk c t ht hh=>h.stay k c t (by rcases ht with rfl|rfl<;>decide) hh
def Row(w:World)(X:Nat->Prop)(v:Value)(xs:List Nat):Prop:=Ints w 0 v xs/\∀k,v.ownBlock=some k->¬X k
theorem Ints.block(h:Ints w B v xs)(hk:v.ownBlock=some k):∃c,w.heap[k]?=some (.cells c 3 (0,0)):=by
 rcases h.2 with ⟨rfl,_⟩|⟨g,cap,cur,rfl,hg,hh,_⟩
 ·cases hk
 ·cases hk;exact ⟨cur,hh⟩
theorem Ints.iY(h:Ints w B v xs)(hk:∀k,v.ownBlock=some k->w'.heap[k]?=w.heap[k]?):Ints w' B v xs:=by
 obtain ⟨h1,h2⟩:=h;refine ⟨h1,?_⟩;rcases h2 with h2|⟨g,cap,cur,hv,hg,hh,r⟩
 ·exact .inl h2
 ·exact .inr ⟨g,cap,cur,hv,hg,by rw[hk g (by rw[hv];rfl)];exact hh,r⟩
def dH(X:Nat->Prop)(v:Value):Nat->Prop:=λk=>X k∨v.ownBlock=some k
theorem iG.dH(h:iG X w)(hv:Ints w B v xs):iG (dH X v) w:=by
 rintro k (hk|hk)
 ·exact h k hk
 ·obtain ⟨c,hc⟩:=hv.block hk;exact ae hc
theorem lG(w:World)(ty:TypeId)(v u:Value)(xs ys:List Nat)(hv:Ints w 0 v xs)(hu:Ints w 0 u ys)(hn:xs.length+ys.length<=1000000000000):
  ∃v' w',(Builtin.append_ #[57,57] ty #[v,u]).run Tryz.prog w=.ok v' w'/\Ints w' 0 v' (xs++ys)/\w.grownBy w' v.ownBlock/\(v'.ownBlock=v.ownBlock∨v'.ownBlock=some w.heap.size):=by
 obtain ⟨i0,hi,hz0,hz1,hz2⟩:=info_parts lX;rcases hu.2 with ⟨rfl,h0⟩|⟨g,cap,cur,rfl,hg,hh,hnc,hc,hs,ht⟩
 ·obtain rfl:ys=[]:=List.eq_nil_of_length_eq_zero h0;refine ⟨v,w,?_,by simpa using hv,⟨rfl,rfl,rfl,bc _,λ_ _ _=>rfl⟩,.inl rfl⟩;rcases hv.2 with ⟨rfl,h1⟩|⟨g,cap,cur,rfl,hg,hh,hnc,hc,hs,ht⟩
  ·obtain rfl:xs=[]:=List.eq_nil_of_length_eq_zero h1;have hs:=Src.ofNil (P:=Tryz.prog) (size:=i0.size) w Tryz.underlying57 0;simp[Builtin.append_,run_underlying (P:=Tryz.prog) Tryz.underlying57,sizeOf,typeInfo,hi,hs.len,hs.cells]
  ·have:=run_append_room_src (P:=Tryz.prog) w 57 57 ty 3 i0 Tryz.underlying57 hi g 0 xs.length cap (.slice none 0 0) 0 [] (Src.ofNil w Tryz.underlying57 0) (by omega) (by simp) (by simp);simpa [World.setCells] using this
 ·have hnews:∀j x,(ys.map λx:Nat=>Value.int .i64 (x:Int))[j]?=some x->w.cell? ((⟨g,0,none⟩:Addr).add j)=some x:=by intro j x hj;rw[Addr.add_lit,Nat.zero_add];have hlt:=az hj;rw[<-ht,List.getElem?_take_of_lt (by simpa using hlt)]at hj;simpa [World.cell?,hh] using hj
  have CX:∀x∈(ys.map λx:Nat=>Value.int .i64 (x:Int)),x.oneCell'=true:=by intro x hx;obtain ⟨y,_,rfl⟩:=List.mem_map.1 hx;rfl
  obtain ⟨v',w',hr,h2,h3,h4,h5⟩:=run_append_own_at (P:=Tryz.prog) w 0 57 ty 3 i0 (.int .i64 0) 1 8 Tryz.underlying57 hi hz0 hz1 hz2 rfl (by decide) v xs.length _ hv ⟨g,0,none⟩ ys.length cap (ys.map λx:Nat=>Value.int .i64 (x:Int)) (by simp) hnews CX (by unfold maxLen;omega) (by omega) (Nat.zero_le _);refine ⟨v',w',hr,?_,h3,h5⟩;unfold Ints;simpa using h2
structure Shelf(w:World)(X:Nat->Prop)(S n0:Nat)(ns:List (Nd Value))(Q:List D):Prop where
 ZC:¬X S
 ex:∃sv J m f,w.heap[S]?=some (.cells #[sv,.map (some J)] 298 (0,0))/\bm w 0 sv ns/\(∀k,sv.ownBlock=some k->¬X k)/\cu pairT 3 .i64 w J m f/\¬X J/\m+n0<=ns.length /\
  (∀l r c,f (l,r)=some c->∃j:Nat,c=j/\n0<=j/\∃h e,ns[j]?=some ⟨2,h,l,r,e⟩) /\
  (∀(j:Nat) nd,n0<=j->ns[j]?=some nd->nd.kind=2/\f (nd.left,nd.right)=some (j:Int))
 pos:0<n0
 le:n0<=ns.length
 small:n0<=200
 dE:ei (aH w) ns .dE
 terms:∀j,n0<=j->j<ns.length->∃d∈Q,aU (aH w) n0 ns d j
 few:Q.length<=100000000000
theorem Shelf.ZE(h:Shelf w X S n0 ns Q):Y9 n0 ns:=by obtain ⟨sv,J,m,f,_,_,_,_,_,_,_,h2⟩:=h.ex;intro j k nd Za hj hk h3 h4 e1 e2;have a1:=(h2 j nd hj h3).2;have a2:=(h2 k Za hk h4).2;rw[e1,e2,a2]at a1;simp at a1;omega
theorem Shelf.length(h:Shelf w X S n0 ns Q):ns.length<=100000000200:=by have h1:=NA (R:=λd k=>aU (aH w) n0 ns d k) (λd b b' r r'=>r.func h.ZE r') (l:=List.range' n0 (ns.length - n0)) (P:=Q) List.nodup_range' (λb hb=>by rw[List.mem_range'_1]at hb;exact h.terms b hb.1 (by omega));have h2:=h.few;have h3:=h.small;simp at h1;omega
theorem aU.world(h:bN w w')(hr:aU (aH w) n0 ns d k):aU (aH w') n0 ns d k:=
 hr.mono (λ_ _ hc=>hc.stay h) (λ_ _ hn=>hn)
theorem Shelf.keep(h:Shelf w X S n0 ns Q)(hs:bN w w')(hk:∀k o,¬X k->w.heap[k]?=some o->(∀c t fz,o=.cells c t fz->t=298∨t=292)->w'.heap[k]?=some o)
  (hY:∀k,Y k->X k∨∀o,w.heap[k]?=some o->∃c t fz,o=.cells c t fz/\t≠298/\t≠292):Shelf w' Y S n0 ns Q:=by
 obtain ⟨hX,⟨sv,J,m,f,h1,h2,h3,h4,h5,h6,h7,h8⟩,p,l,sm,ep,tm,fw⟩:=h;obtain ⟨es,lQ,hJ⟩:=h4.obj
 have nY:∀k o,¬X k->w.heap[k]?=some o->(∀c t fz,o=.cells c t fz->t=298∨t=292)->¬Y k:=by
  intro k o hx ho hc hy;rcases hY k hy with hh|hh
  ·exact hx hh
  ·obtain ⟨c,t,fz,e1,e2,e3⟩:=hh o ho;exact (hc c t fz e1).elim e2 e3
 refine ⟨nY S _ hX h1 (λc t fz e=>by cases e;exact .inl rfl),⟨sv,J,m,f,hk S _ hX h1 (λc t fz e=>by cases e;exact .inl rfl),?_,?_,?_,?_,h6,h7,h8⟩,p,l,sm,ep.world hs,λj hj hl=>?_,fw⟩
 ·refine h2.keep λk hb=>?_
  obtain ⟨_,cur,hc⟩:=h2.block hb;rw[hc];exact hk k _ (h3 k hb) hc (λc t fz e=>by cases e;exact .inr rfl)
 ·intro k hb;obtain ⟨_,cur,hc⟩:=h2.block hb;exact nY k _ (h3 k hb) hc (λc t fz e=>by cases e;exact .inr rfl)
 ·refine h4.keep ?_;rw[hJ];exact hk J _ h5 hJ (λc t fz e=>by cases e)
 ·exact nY J _ h5 hJ (λc t fz e=>by cases e)
 ·obtain ⟨d,hd,hr⟩:=tm j hj hl;exact ⟨d,hd,aU.world hs hr⟩
theorem Shelf.below(h:Shelf w X S n0 ns Q)(hb:Below w.heap.size w w'):Shelf w' X S n0 ns Q:=
 h.keep (bN.ay hb) (λk _ _ ho _=>(hb.block k (ae ho)).trans ho) (λ_ hk=>.inl hk)
theorem Shelf.drewN(h:Shelf w X S n0 ns Q)(n:Nat):Shelf (w.drewN n) X S n0 ns Q:=
 h.keep (w':=w.drewN n) (λ_ _ _ _ h=>h) (λ_ _ _ h _=>h) (λ_ hk=>.inl hk)
theorem Shelf.node(h:Shelf w X S n0 ns Q){a:aP}{e:Bool}(hj:n0<=j)(hn:ns[j]?=some ⟨2,v,k,a.ix,e⟩)
  (hx:aU (aH w) n0 ns x k) (ha:ei (aH w) ns a):e=(x.re.au&&a.re.au):=by
 obtain ⟨d,_,hr⟩:=h.terms j hj (az hn)
 cases d with
 | base b=>obtain ⟨h1,h2,_⟩:=hr;have:=h2.CO;omega
 | snoc d b=>
  obtain ⟨_,_,hb,m,_,hd,y,h3⟩:=hr;rw[hn]at h3;simp only[fA,Nd.mk.injEq]at h3;obtain ⟨_,_,rfl,h4,rfl⟩:=h3;obtain ⟨n1,e1,e2⟩:=hx.empty;obtain ⟨n2,e3,e4⟩:=hd.empty;obtain ⟨n3,e5,e6⟩:=ha.empty;obtain ⟨n4,e7,e8⟩:=hb.empty;rw[e1]at e3;rw[h4]at e5;rw[e5]at e7;cases e3;cases e7;rw[<-e2,e4,<-e6,e8]
theorem qu(w:World):(zeroValue 3).run Tryz.prog w=.ok (.int .i64 0) w:=by kernel_rfl
def mI(X:Nat->Prop)(S n0:Nat)(ns:List (Nd Value))(Q:List D)(t:D)(w:World)(e:Ending)(w':World):Prop:=
 ∃(j:Nat) (ms:List (Nd Value)),e=.returned (.int .i64 j)/\Fx X w w'/\Shelf w' X S n0 (ns++ms) Q/\aU (aH w') n0 (ns++ms) t j
theorem J8(X:Nat->Prop)(S n0:Nat)(ns:List (Nd Value))(Q:List D)(x:D)(a:aP)(w:World)(hS:Shelf w X S n0 ns Q)(hx:aU (aH w) n0 ns x 0)(xB:a.lt n0)(hr:ei (aH w) ns a):
  Calls Tryz.prog 207 #[.pointer (some ⟨S,0,none⟩),.int .i64 0,.int .i64 a.ix] w (mI X S n0 ns Q (cQ x a) w):=by
 have ZF:=aa xB;clear xB;have hz:=hx.zero hS.pos;subst hz;have HS:=aa hS;have HR:=aa hr;clear hS hr hx;go_enter Tryz.func207,Tryz.ntmps207;go_wp2;go_ret;exact ⟨a.ix,[],by simp,Fx.refl _ _,by simpa using HS.out,by simpa using ⟨rfl,ZF.out,HR.out⟩⟩
theorem FE(X:Nat->Prop)(S n0:Nat)(ns:List (Nd Value))(Q:List D)(x:D)(a:aP)(k:Nat)(w:World)(hX:iG X w)(hS:Shelf w X S n0 ns Q)(hx:aU (aH w) n0 ns x k)(hk:k≠0)(xB:a.lt n0)(hr:ei (aH w) ns a)
  (sv:Value) (J m:Nat) (f:Nat×Nat->Option Int) (h1:w.heap[S]?=some (.cells #[sv,.map (some J)] 298 (0,0))) (h4:cu pairT 3 .i64 w J m f) (j:Nat) (hf:f (k,a.ix)=some (j:Int)) (hn:n0<=j) (hd:Value) (e:Bool) (hj:ns[j]?=some ⟨2,hd,k,a.ix,e⟩):
  Calls Tryz.prog 207 #[.pointer (some ⟨S,0,none⟩),.int .i64 k,.int .i64 a.ix] w (mI X S n0 ns Q (cQ x a) w):=by
 have hlen:=hS.length;have ha:=xB.CO;have ZF:=aa xB;clear xB;have mG:=hx.lt;have hsm:=hS.small;have xE:((k:Int)==0)=false:=by rw[er];omega
 have c1:w.cell? ⟨S,1,none⟩=some (.map (some J)):=by simp[World.cell?,h1]
 have c1':=aw c1
 have hlk:∀n,(Instr.lookup 296 (.map (some J)) (.agg #[.int .i64 k,.int .i64 a.ix]) true).run Tryz.prog ((w.alloc (.cells #[.int .i64 k,.int .i64 a.ix] 333)).drewN n)=.ok (.tuple #[.int .i64 j,.bool true]) ((w.alloc (.cells #[.int .i64 k,.int .i64 a.ix] 333)).drewN n):=by
  intro n;have h5:cu pairT 3 .i64 ((w.alloc (.cells #[.int .i64 k,.int .i64 a.ix] 333)).drewN n) J m f:=h4.keep (Below.heap_alloc _ _ _ h4.lt);have h6:=h5.look (t:=296) Tryz.underlying296 Tryz.underlying3 qu (k,a.ix) ⟨by show k<=_;omega,by show a.ix<=_;omega⟩;rw[hf]at h6;exact h6
 have HS:=aa hS;have HX:=aa hx;have HR:=aa hr;have HJ:=aa hj;have HO:=aa hX;clear hS hx hr hj hX h1 h4 hf mG hlen;go_enter Tryz.func207,Tryz.ntmps207;go_wp2_with fail;go_quiet (fail);go_wp2;go_ret
 have hb:Below w.heap.size w ((w.alloc (.cells #[.int .i64 k,.int .i64 a.ix] 333)).drewN nq):=Below.drewN' (cq _ _) nq;have hX':=aU.world (bN.ay hb) HX.out;have hR':=HR.out.world (bN.ay hb);refine ⟨j,[],by simp,Fx.ay HO.out hb,by simpa using HS.out.below hb,?_⟩;rw[HX.out.pos hk a];simp only[List.append_nil]
 refine ⟨hn,ZF.out,hR',k,hk,hX',hd,?_⟩;rw[<-HS.out.node hn HJ.out HX.out HR.out];exact HJ.out
theorem NM{W1 w1:World}{i:Nat}{b em:Bool}(hB:Below w.heap.size w W1)(hT:W1.heap[w.heap.size]?=some (.cells c 333 (0,0)))
  (hb1:Below (W1.alloc (.cells #[.int .i64 2,.nilFunc,.int .i64 k,.int .i64 i,.bool em] 292)).drew.heap.size (W1.alloc (.cells #[.int .i64 2,.nilFunc,.int .i64 k,.int .i64 i,.bool em] 292)).drew w1):
  Below w.heap.size w (w1.setCell ⟨W1.heap.size,4,none⟩ (.bool b))/\(w1.setCell ⟨W1.heap.size,4,none⟩ (.bool b)).heap[w.heap.size]?=some (.cells c 333 (0,0)) /\
   (w1.setCell ⟨W1.heap.size,4,none⟩ (.bool b)).heap[W1.heap.size]?=some (.cells #[.int .i64 2,.nilFunc,.int .i64 k,.int .i64 i,.bool b] 292 (0,0)):=by
 have hs:w.heap.size<=W1.heap.size:=hB.size;have hTl:=ae hT;have hb2:Below W1.heap.size W1 w1:=by have h3:Below W1.heap.size W1 (W1.alloc (.cells #[.int .i64 2,.nilFunc,.int .i64 k,.int .i64 i,.bool em] 292)).drew:=(cq _ _).drew;exact h3.trans (hb1.mono (by simp))
 refine ⟨(hB.trans (hb2.mono hs)).setCell hs _,?_,?_⟩
 ·rw[eV _ _ _ _ (by show w.heap.size≠W1.heap.size;omega),hb2.block _ hTl];exact hT
 ·refine ah w1 W1.heap.size 4 _ (c:=#[.int .i64 2,.nilFunc,.int .i64 k,.int .i64 i,.bool em]) ?_;rw[hb1.block _ (by simp)];exact ag _ _
theorem NN{W2 w3:World}{sv:Value}{c':Array Value}{T:Nat}(nG:Form nd.has)(hX:iG X w)(hS:Shelf w X S n0 ns Q)
  (h1:w.heap[S]?=some (.cells #[sv,.map (some J)] 298 (0,0))) (hL:bm w 0 sv ns) (ZG:∀k,sv.ownBlock=some k->¬X k) (h4:cu pairT 3 .i64 w J m f) (hB:Below w.heap.size w W2) (hT:W2.heap[T]?=some (.cells c 333 (0,0)))
  (hown:w3.ownsRow 0 292 5 v' (ns.length+1) (bR ns++fI nd)) (hg:(W2.alloc (.cells c' t)).drew.grownBy w3 sv.ownBlock) (hloc:v'.ownBlock=sv.ownBlock∨v'.ownBlock=some (W2.alloc (.cells c' t)).drew.heap.size):
  w3.heap[S]?=some (.cells #[sv,.map (some J)] 298 (0,0))/\(w3.setCell ⟨S,0,none⟩ v').heap[S]?=some (.cells #[v',.map (some J)] 298 (0,0))/\bm (w3.setCell ⟨S,0,none⟩ v') 0 v' (ns++[nd]) /\
   (∀k,v'.ownBlock=some k->¬X k)/\(w3.setCell ⟨S,0,none⟩ v').heap[T]?=some (.cells c 333 (0,0))/\cu pairT 3 .i64 (w3.setCell ⟨S,0,none⟩ v') J m f/\Fx X w (w3.setCell ⟨S,0,none⟩ v'):=by
 have XQ:Below w.heap.size w (W2.alloc (.cells c' t)).drew:=(hB.alloc hB.size _).drew;have hSl:=ae h1;have jq:(W2.alloc (.cells c' t)).drew.heap[S]?=some (.cells #[sv,.map (some J)] 298 (0,0)):=(XQ.block S hSl).trans h1
 have hLl:∀k,sv.ownBlock=some k->∃cur,(W2.alloc (.cells c' t)).drew.heap[k]?=some (.cells cur 292 (0,0)):=λk hk=>by obtain ⟨_,cur,hc⟩:=hL.block hk;exact ⟨cur,(XQ.block k (ae hc)).trans hc⟩
 have oz:w3.heap[S]?=some (.cells #[sv,.map (some J)] 298 (0,0)):=by rw[hg.block S (ae jq) (λe=>by obtain ⟨cur,hc⟩:=hLl S e.symm;rw[jq]at hc;simp at hc)];exact jq
 have hT3:w3.heap[T]?=some (.cells c 333 (0,0)):=by have hTA:(W2.alloc (.cells c' t)).drew.heap[T]?=some (.cells c 333 (0,0)):=af hT;rw[hg.block T (ae hTA) (λe=>by obtain ⟨cur,hc⟩:=hLl T e.symm;rw[hTA]at hc;simp at hc)];exact hTA
 obtain ⟨es,lQ,hJ⟩:=h4.obj;have hJA:(W2.alloc (.cells c' t)).drew.heap[J]?=some (.map es lQ):=(XQ.block J (ae hJ)).trans hJ;have hJ3:w3.heap[J]?=some (.map es lQ):=by rw[hg.block J (ae hJA) (λe=>by obtain ⟨cur,hc⟩:=hLl J e.symm;rw[hJA]at hc;simp at hc)];exact hJA
 have hL3:bm w3 0 v' (ns++[nd]):=by
  refine ⟨?_,λd hd=>?_⟩
  ·rw[mC];simpa [bR] using hown
  ·rcases List.mem_append.1 hd with h|h
   ·exact hL.2 d h
   ·simp only[List.mem_singleton]at h;rw[h];exact nG
 have dJ:Fx X w w3:=(Fx.ay hX XQ).grown hg (hX.mono XQ.size) (λk hk=>ZG k hk) (λk hk c2 t2 fz h=>by obtain ⟨cur,hc⟩:=hLl k hk;rw[hc]at h;cases h;rfl);refine ⟨oz,?_,?_,?_,?_,?_,dJ.setCell hS.ZC oz (by rfl) _⟩
 ·exact ah w3 S 0 _ oz
 ·refine hL3.keep λk hk=>eV _ _ _ _ ?_
  obtain ⟨_,cur,hc⟩:=hL3.block hk;rintro rfl;rw[oz]at hc;simp at hc
 ·intro k hk RS;rcases hloc with e|e
  ·rw[e]at hk;exact ZG k hk RS
  ·rw[e]at hk;simp only[fA]at hk;have h5:=hX k RS;have h6:=XQ.size;omega
 ·rw[eV _ _ _ _ (by rintro rfl;rw[oz]at hT3;simp at hT3)];exact hT3
 ·refine h4.keep ?_;rw[eV _ _ _ _ (by rintro rfl;rw[oz]at hJ3;simp at hJ3),hJ3,hJ]
theorem NP{W4 W5:World}{a:aP}(hX:iG X w)(hS:Shelf w X S n0 ns Q)(hx:aU (aH w) n0 ns x k)(hk:k≠0)(xB:a.lt n0)(hr:ei (aH w) ns a)(hQ:cQ x a∈Q)
  (hf:f (k,a.ix)=none) (hm:m+n0<=ns.length) (p1:∀l r c,f (l,r)=some c->∃j:Nat,c=j/\n0<=j/\∃h e,ns[j]?=some ⟨2,h,l,r,e⟩) (p2:∀(j:Nat) nd,n0<=j->ns[j]?=some nd->nd.kind=2/\f (nd.left,nd.right)=some (j:Int)) (ZH:¬X J)
  (h1:W4.heap[S]?=some (.cells #[v',.map (some J)] 298 (0,0))) (hL:bm W4 0 v' (ns++[⟨2,.nilFunc,k,a.ix,x.re.au&&a.re.au⟩])) (hv:∀k,v'.ownBlock=some k->¬X k) (hF:Fx X w W4)
  (h4:cu pairT 3 .i64 W5 J (m+1) (λy=>if y=(k,a.ix) then some (ns.length:Int) else f y)) (hg:W4.drew.grownBy W5 (some J)) (hJ:∃es lQ,W4.heap[J]?=some (.map es lQ)):
  mI X S n0 ns Q (cQ x a) w (.returned (.int .i64 ns.length)) W5:=by
 obtain ⟨es,lQ,hJ⟩:=hJ;have CB:Fx X w W5:=hF.drew.grown hg (hX.mono hF.size) (λj hj=>by cases hj;exact ZH) (λj hj c t fz h=>by cases hj;rw[show W4.drew.heap[J]?=some (.map es lQ) from hJ]at h;cases h);have hst:=CB.dg;have hn:∀(i:Nat) nd,ns[i]?=some nd->(ns++[⟨2,.nilFunc,k,a.ix,x.re.au&&a.re.au⟩])[i]?=some nd:=λi nd h=>bU h
 have NQ:(ns++[(⟨2,.nilFunc,k,a.ix,x.re.au&&a.re.au⟩:Nd Value)])[ns.length]?=some ⟨2,.nilFunc,k,a.ix,x.re.au&&a.re.au⟩:=nH _;have mJ:∀j:Nat,j≠J->j<W4.heap.size->W5.heap[j]?=W4.heap[j]?:=λj hj hl=>hg.block j hl (λe=>hj (Option.some.inj e))
 have ZI:aU (aH W5) n0 (ns++[⟨2,.nilFunc,k,a.ix,x.re.au&&a.re.au⟩]) (cQ x a) ns.length:=by rw[hx.pos hk a];exact ⟨hS.le,xB,(hr.world hst).append,k,hk,(aU.world hst hx).append,.nilFunc,NQ⟩
 refine ⟨ns.length,[⟨2,.nilFunc,k,a.ix,x.re.au&&a.re.au⟩],rfl,CB,⟨hS.ZC,⟨v',J,m+1,_,?_,?_,hv,h4,ZH,?_,?_,?_⟩,hS.pos,?_,hS.small,(hS.dE.world hst).append,?_,hS.few⟩,ZI⟩
 ·rw[mJ S (by rintro rfl;rw[h1]at hJ;cases hJ) (ae h1)];exact h1
 ·refine hL.keep λj hj=>?_
  obtain ⟨_,cur,hc⟩:=hL.block hj;exact mJ j (by rintro rfl;rw[hc]at hJ;cases hJ) (ae hc)
 ·simp only[dG,fe,List.length_nil];omega
 ·intro l r c hc;by_cases e:(l,r)=(k,a.ix)
  ·rw[if_pos e]at hc;simp only[Prod.mk.injEq]at e;obtain ⟨rfl,rfl⟩:=e;refine ⟨ns.length,by simpa using hc.symm,hS.le,_,_,NQ⟩
  ·rw[if_neg e]at hc;obtain ⟨j,h2,h3,hh,ee,h5⟩:=p1 l r c hc;exact ⟨j,h2,h3,hh,ee,hn _ _ h5⟩
 ·intro j nd hj hnd;rcases ed j ns.length with hlt|kO
  ·rw[nz hlt]at hnd;obtain ⟨q1,q2⟩:=p2 j nd hj hnd;refine ⟨q1,?_⟩;by_cases e:(nd.left,nd.right)=(k,a.ix)
   ·rw[e,hf]at q2;cases q2
   ·rw[if_neg e];exact q2
  ·have ez:j=ns.length:=by have:=az hnd;simp at this;omega
   subst ez;rw[NQ]at hnd;cases hnd;exact ⟨rfl,by simp⟩
 ·simp only[dG,fe,List.length_nil];have:=hS.le;omega
 ·intro j hj hl;rcases ed j ns.length with hlt|kO
  ·obtain ⟨d,hd,hr2⟩:=hS.terms j hj hlt;exact ⟨d,hd,(aU.world hst hr2).append⟩
  ·have ez:j=ns.length:=by simp at hl;omega
   subst ez;exact ⟨_,hQ,ZI⟩
theorem NR(X:Nat->Prop)(S n0:Nat)(ns:List (Nd Value))(Q:List D)(x:D)(a:aP)(k:Nat)(w:World)(hX:iG X w)(hS:Shelf w X S n0 ns Q)(hx:aU (aH w) n0 ns x k)(hk:k≠0)(xB:a.lt n0)(hr:ei (aH w) ns a)(hQ:cQ x a∈Q)
  (sv:Value) (J m:Nat) (f:Nat×Nat->Option Int) (h1:w.heap[S]?=some (.cells #[sv,.map (some J)] 298 (0,0))) (hL:bm w 0 sv ns) (ZG:∀k,sv.ownBlock=some k->¬X k) (h4:cu pairT 3 .i64 w J m f) (hf:f (k,a.ix)=none) (ZH:¬X J) (hm:m+n0<=ns.length)
  (p1:∀l r c,f (l,r)=some c->∃j:Nat,c=j/\n0<=j/\∃h e,ns[j]?=some ⟨2,h,l,r,e⟩) (p2:∀(j:Nat) nd,n0<=j->ns[j]?=some nd->nd.kind=2/\f (nd.left,nd.right)=some (j:Int)):
  Calls Tryz.prog 207 #[.pointer (some ⟨S,0,none⟩),.int .i64 k,.int .i64 a.ix] w (mI X S n0 ns Q (cQ x a) w):=by
 have hlen:=hS.length;have ha:=xB.CO;have ZF:=aa xB;clear xB;have mG:=hx.lt;have hsm:=hS.small;have xE:((k:Int)==0)=false:=by rw[er];omega
 have c1:w.cell? ⟨S,1,none⟩=some (.map (some J)):=by simp[World.cell?,h1]
 have c0:w.cell? ⟨S,0,none⟩=some sv:=by simp[World.cell?,h1]
 have c1':=aw c1;have VM:=λo p=>aw (aw c0 o) p
 have hlk:∀n,(Instr.lookup 296 (.map (some J)) (.agg #[.int .i64 k,.int .i64 a.ix]) true).run Tryz.prog ((w.alloc (.cells #[.int .i64 k,.int .i64 a.ix] 333)).drewN n)=.ok (.tuple #[.int .i64 0,.bool false]) ((w.alloc (.cells #[.int .i64 k,.int .i64 a.ix] 333)).drewN n):=by
  intro n;have h5:cu pairT 3 .i64 ((w.alloc (.cells #[.int .i64 k,.int .i64 a.ix] 333)).drewN n) J m f:=h4.keep (Below.heap_alloc _ _ _ h4.lt);have h6:=h5.look (t:=296) Tryz.underlying296 Tryz.underlying3 qu (k,a.ix) ⟨by show k<=_;omega,by show a.ix<=_;omega⟩;rw[hf]at h6;exact h6
 obtain ⟨y,hy,TN⟩:=hx.empty;obtain ⟨z,hz,hze⟩:=hr.empty;have HE:=aa (show Nk ns 2 k a.ix (x.re.au&&a.re.au) from .inr (.inr (.inr (.inl ⟨rfl,y,z,hy,hz,by rw[TN,hze]⟩))));have HS:=aa hS;have HX:=aa hx;have HR:=aa hr;have HO:=aa hX;have HL:=aa hL;have H1:=aa h1;have H4:=aa h4;have HF:=aa hf;have HQ:=aa hQ;have HLX:=aa ZG;have Mz:=aa ZH
 have HM:=aa hm;have gD:=aa p1;have nD:=aa p2;have ZJ:0<ns.length:=by have:=hS.pos;have:=hS.le;omega
 obtain ⟨g,cap,rfl⟩:=aB hL.1 ZJ;obtain ⟨i0,hi,hz0,hz1,hz3⟩:=info_parts rM;clear hS hx hr hX h1 h4 hf mG hL hQ hy TN hz hze ZG ZH hm p1 p2;go_enter Tryz.func207,Tryz.ntmps207;go_wp2_with fail;go_quiet (fail);clear hlk
 have kf:Below w.heap.size w ((w.alloc (.cells #[.int .i64 k,.int .i64 a.ix] 333)).drewN nq):=Below.drewN' (cq _ _) nq;have XR:((w.alloc (.cells #[.int .i64 k,.int .i64 a.ix] 333)).drewN nq).heap[w.heap.size]?=some (.cells #[.int .i64 k,.int .i64 a.ix] 333 (0,0)):=ag w _
 generalize (w.alloc (.cells #[.int .i64 k,.int .i64 a.ix] 333)).drewN nq=W1 at kf XR ⊢;have bM:=aa kf;have HT1:=aa XR;have pN:=aa (HS.out.below kf);have rN:=aa (HL.out.keep (λk hk=>kf.block k (ae (HL.out.block hk).2.choose_spec)))
 have ED:W1.heap[S]?=some (.cells #[.slice (some ⟨g,0,none⟩) ns.length cap,.map (some J)] 298 (0,0)):=(kf.block S (ae H1.out)).trans H1.out;have RT:=aa ED;have d0:W1.cell? ⟨S,0,none⟩=some (.slice (some ⟨g,0,none⟩) ns.length cap):=by simp[World.cell?,ED]
 have ZK:=aw d0;clear kf XR ED c0 VM c1 c1';go_wp2_with fail;have lW:=aa (rN.out.alloc (.cells #[.int .i64 2,.nilFunc,.int .i64 k,.int .i64 a.ix,.bool false] 292))
 go_region_with (go_at_call 195;refine (jY 0 (.slice (some ⟨g,0,none⟩) ns.length cap) ns 2 k a.ix .nilFunc false (x.re.au&&a.re.au) _ (by exact lW.out) HE.out).mono ?_;rintro e w1 ⟨rfl,hb1⟩;obtain ⟨hc1,hf1⟩:=TK hb1)
 all_goals
  obtain ⟨eE,XS,EA⟩:=NM (b:=x.re.au&&a.re.au) bM.out HT1.out hb1;clear hc1 hf1 hb1 rN lW d0 ZK;obtain ⟨W2,hW2⟩:∃W,W=w1.setCell ⟨W1.heap.size,4,none⟩ (.bool (x.re.au&&a.re.au)):=⟨_,rfl⟩;rw[<-hW2]at eE XS EA ⊢;clear hW2
  have EY:W2.heap[S]?=some (.cells #[.slice (some ⟨g,0,none⟩) ns.length cap,.map (some J)] 298 (0,0)):=(eE.block S (ae H1.out)).trans H1.out;have lW:=aa (HL.out.keep (λk hk=>eE.block k (ae (HL.out.block hk).2.choose_spec)));have s0:W2.cell? ⟨S,0,none⟩=some (.slice (some ⟨g,0,none⟩) ns.length cap):=by simp[World.cell?,EY]
  have s0':=aw s0;have e0:W2.cell? ⟨W1.heap.size,0,none⟩=some (.int .i64 2):=by simp[World.cell?,EA]
  have e1:W2.cell? ⟨W1.heap.size,1,none⟩=some .nilFunc:=by simp[World.cell?,EA]
  have e2:W2.cell? ⟨W1.heap.size,2,none⟩=some (.int .i64 k):=by simp[World.cell?,EA]
  have e3:W2.cell? ⟨W1.heap.size,3,none⟩=some (.int .i64 a.ix):=by simp[World.cell?,EA]
  have e4:W2.cell? ⟨W1.heap.size,4,none⟩=some (.bool (x.re.au&&a.re.au)):=by simp[World.cell?,EA]
  have cW:=aa eE;have RU:=aa XS;have VN:Hid (∀u∈[Value.int .i64 2,.nilFunc,.int .i64 k,.int .i64 a.ix,.bool (x.re.au&&a.re.au)],u.oneCell'=true):=by intro u hu;simp only[List.mem_cons,List.not_mem_nil,or_false]at hu;rcases hu with rfl|rfl|rfl|rfl|rfl<;>rfl
  clear eE XS EA EY;go_wp2_with fail
  go_region_law (refine cY rfl (.tmp 47) (.tmp 49) 182 rfl 0 292 i0 (.agg #[.int .i64 0,.nilFunc,.int .i64 0,.int .i64 0,.bool false]) 5 40 Tryz.underlying182 hi hz0 hz1 hz3 rfl (by decide) (.slice (some ⟨g,0,none⟩) ns.length cap) ns.length (bR ns) (by rfl) (by exact (lW.out.alloc _).1) ⟨W2.heap.size,0,none⟩ 1 1 [.int .i64 2,.nilFunc,.int .i64 k,.int .i64 a.ix,.bool (x.re.au&&a.re.au)] (by rfl) (by rfl) (by exact aG W2 #[.int .i64 2,.nilFunc,.int .i64 k,.int .i64 a.ix,.bool (x.re.au&&a.re.au)] _) VN.out (by unfold maxLen;omega) (by omega) (Nat.zero_le _) ?_;intro v' w3 hown hg hloc;obtain ⟨g',cap',rfl⟩:=aB hown (by omega);obtain ⟨CC,Xw,hL4,hv4,hT4,ZL,nE⟩:=NN (nd:=⟨2,.nilFunc,k,a.ix,x.re.au&&a.re.au⟩) (.inl rfl) HO.out HS.out H1.out HL.out HLX.out H4.out cW.out RU.out hown hg hloc;have g2:w3.cell? ⟨S,0,none⟩=some (.slice (some ⟨g,0,none⟩) ns.length cap):=(by simp[World.cell?,CC]);have gf:w3.frozen? ⟨S,0,none⟩=false:=(by simp[World.frozen?,CC]);have Hq4:=aa Xw;have HL4:=aa hL4;have Hv4:=aa hv4;have HT4:=aa hT4;have XT:=aa ZL;have om:=aa nE;clear hown hg CC Xw hL4 hv4 hT4 ZL nE hloc)
  all_goals
   clear g2 gf s0 s0' e0 e1 e2 e3 e4;obtain ⟨W4,QC⟩:∃W,W=w3.setCell ⟨S,0,none⟩ (.slice (some ⟨g',0,none⟩) (ns.length+1) cap'):=⟨_,rfl⟩;rw[<-QC]at Hq4 HL4 HT4 XT om ⊢;clear QC;have t1:W4.cell? ⟨S,1,none⟩=some (.map (some J)):=by simp[World.cell?,Hq4.out]
   have k0:W4.cell? ⟨w.heap.size,0,none⟩=some (.int .i64 k):=by simp[World.cell?,HT4.out]
   have k1:W4.cell? ⟨w.heap.size,1,none⟩=some (.int .i64 a.ix):=by simp[World.cell?,HT4.out]
   obtain ⟨W5,hrun,TU,tR⟩:=(show cu pairT 3 .i64 W4.drew J m f from XT.out.keep rfl).store (t:=296) Tryz.underlying296 Tryz.underlying3 (by have:=HM.out;omega) (k,a.ix) ⟨by have:=HX.out.lt;show k<=_;omega,by show a.ix<=_;omega⟩ (ns.length:Int) (mE _ (by omega))
   have IC:(Instr.mapUpdate 296 (.map (some J)) (.agg #[.int .i64 k,.int .i64 a.ix]) (.int .i64 ns.length)).run Tryz.prog W4.drew=.ok () W5:=hrun;have hend:=NP HO.out HS.out HX.out hk ZF.out HR.out HQ.out HF.out HM.out gD.out nD.out Mz.out Hq4.out HL4.out Hv4.out om.out TU tR XT.out.obj;have aq:=aa hend;clear hrun TU tR hend;go_wp2_with fail;go_region
   all_goals
    go_wp2;go_ret;exact aq.out
theorem NS(X:Nat->Prop)(S n0:Nat)(ns:List (Nd Value))(Q:List D)(x:D)(a:aP)(k:Nat)(w:World)(hX:iG X w)(hS:Shelf w X S n0 ns Q)(hx:aU (aH w) n0 ns x k)(ha:a.lt n0)(hr:ei (aH w) ns a)(hQ:cQ x a∈Q):
  Calls Tryz.prog 207 #[.pointer (some ⟨S,0,none⟩),.int .i64 k,.int .i64 a.ix] w (mI X S n0 ns Q (cQ x a) w):=by
 by_cases hk:k=0
 ·subst hk;exact J8 X S n0 ns Q x a w hS hx ha hr
 ·obtain ⟨sv,J,m,f,h1,h2,h3,h4,h5,h6,h7,h8⟩:=hS.ex
  cases hf:f (k,a.ix) with
  | none=>exact NR X S n0 ns Q x a k w hX hS hx hk ha hr hQ sv J m f h1 h2 h3 h4 hf h5 h6 h7 h8
  | some c=>
   obtain ⟨j,rfl,hj,hd,e,hn⟩:=h7 k a.ix c hf;exact FE X S n0 ns Q x a k w hX hS hx hk ha hr sv J m f h1 h4 j hf hj hd e hn
theorem rV(n:Nat)(hn:n<=1000000000000):∃cz:Array Value,cz.size=n/\∀w,(Instr.makeSlice 57 (.int .i64 n) (.int .i64 n)).run Tryz.prog w=.ok (.slice (some ⟨w.heap.size,0,none⟩) n n) (w.alloc (.cells cz 3)):=by
 obtain ⟨i0,hi,hz0,hz1,hz2⟩:=info_parts lX;refine ⟨madeCells (Value.int .i64 0).cells (n*i0.size),?_,λw=>?_⟩
 ·rw[size_madeCells,hz1,Nat.mul_one]
 ·have:=run_make (P:=Tryz.prog) w 57 3 i0 (.int .i64 0) Tryz.underlying57 hi hz0 .i64 .i64 (n:Int) (n:Int) (by omega) (by omega) (by rw[hz2];omega) (by omega);simpa using this
def bO(X:Nat->Prop)(S n0:Nat)(ns:List (Nd Value))(Q:List D)(ts:List D)(w:World)(e:Ending)(w':World):Prop:=
 ∃(v:Value) (js:List Nat) (ms:List (Nd Value)),e=.returned v/\Fx X w w'/\Shelf w' X S n0 (ns++ms) Q/\Row w' X v js/\F2 (aU (aH w') n0 (ns++ms)) ts js
def two(X:Nat->Prop)(fv:Value)(O:Nat):Nat->Prop:=λk=>X k∨fv.ownBlock=some k∨k=O
def CY(X:Nat->Prop)(S n0:Nat)(ns:List (Nd Value))(Q:List D)(xs:List D)(a:aP)(fv:Value)(fs:List Nat)(w:World)(O:Nat)(k:Nat)(i:Value)(wr:World):Prop:=
 ∃(j:Nat) (js:List Nat) (ms:List (Nd Value)) (cur:Array Value),i=.int .i64 j/\j+k=fs.length/\Fx X w wr/\Shelf wr (two X fv O) S n0 (ns++ms) Q/\Ints wr 0 fv fs/\wr.heap[O]?=some (.cells cur 3 (0,0))/\cur.size=fs.length /\
  cur.toList.take j=js.map (λx:Nat=>Value.int .i64 (x:Int))/\F2 (aU (aH wr) n0 (ns++ms)) ((xs.take j).map (cQ · a)) js
theorem J9{O:Nat}(h:Shelf w X S n0 ns Q)(hf:Ints w 0 fv fs)(hO:w.heap[O]?=some (.cells cur 3 (0,0))):Shelf w (two X fv O) S n0 ns Q:=
 h.keep (bN.refl w) (λ_ _ _ ho _=>ho) (λk hk=>by
  rcases hk with hk|hk|rfl
  ·exact .inl hk
  ·refine .inr λo ho=>?_
   obtain ⟨c,hc⟩:=hf.block hk;rw[hc]at ho;cases ho;exact ⟨_,_,_,rfl,by decide,by decide⟩
  ·refine .inr λo ho=>?_
   rw[hO]at ho;cases ho;exact ⟨_,_,_,rfl,by decide,by decide⟩)
theorem Ka{xs:List D}{a:aP}{w2:World}{i2:Nat}{ks:List (Nd Value)}{xj:D}
  (hX:iG X w) (hI:Ints w 0 fv fs) (hj:j+(k+1)=fs.length) (hF:Fx X w wr) (xt:Ints wr 0 fv fs) (hsz:cur.size=fs.length) (iP:cur.toList.take j=js.map (λx:Nat=>Value.int .i64 (x:Int)))
  (hF2:F2 (aU (aH wr) n0 (ns++ms)) ((xs.take j).map (cQ · a)) js) (NT:xs[j]?=some xj) (VO:Fx (two X fv w.heap.size) wr w2) (kG:Shelf w2 (two X fv w.heap.size) S n0 (ns++ms++ks) Q) (yE:aU (aH w2) n0 (ns++ms++ks) (cQ xj a) i2)
  (TZ:w2.heap[w.heap.size]?=some (.cells cur 3 (0,0))):
  CY X S n0 ns Q xs a fv fs w w.heap.size k (.int .i64 (j+1:Nat)) (w2.setCell ⟨w.heap.size,j,none⟩ (.int .i64 i2)):=by
 have hnX:¬X w.heap.size:=λh=>by have:=hX _ h;omega
 have VP:∀b:Nat,b≠w.heap.size->(w2.setCell ⟨w.heap.size,j,none⟩ (.int .i64 i2)).heap[b]?=w2.heap[b]?:=λb hb=>eV _ _ _ _ hb
 have hst:bN w2 (w2.setCell ⟨w.heap.size,j,none⟩ (.int .i64 i2)):=λb c t ht hh=>by rw[VP b (by rintro rfl;rw[TZ]at hh;simp at hh;rcases ht with rfl|rfl<;>simp at hh)];exact hh
 refine ⟨j+1,js++[i2],ms++ks,cur.setIfInBounds j (.int .i64 i2),rfl,by omega,(hF.trans (VO.sub λ_ h=>.inl h)).setCell hnX TZ (by rfl) _,?_,?_,?_,by simpa using hsz,?_,?_⟩
 ·rw[<-fP];exact kG.keep hst (λb o hb ho _=>by rw[VP b (λe=>hb (.inr (.inr e)))];exact ho) (λb hb=>.inl hb)
 ·refine xt.iY λb hb=>?_
  rw[VP b (by obtain ⟨c,hc⟩:=hI.block hb;have:=ae hc;omega)];exact VO.keep b (.inr (.inl hb))
 ·exact ah w2 w.heap.size j _ TZ
 ·have rE:j<cur.toList.length:=by simp;omega
  have e1:(cur.setIfInBounds j (.int .i64 i2)).toList=cur.toList.set j (.int .i64 i2):=by simp
  rw[e1,List.take_succ_eq_append_getElem (by simpa using rE),List.take_set_of_le (bc _),iP];simp
 ·rw[<-fP];have Vi:=az NT;rw[List.take_succ_eq_append_getElem Vi,List.map_append,List.map_cons,List.map_nil];rw[cB Vi]at NT;rw[Option.some.inj NT];have hs1:=VO.dg;exact (hF2.mono λd k h=>aU.world hst (aU.world hs1 h).append).snoc (aU.world hst yE)
theorem NU{xs:List D}{a:aP}
  (hX:iG X w) (hlen:fs.length<=1000000000) (Ag:xs.length=fs.length) (hj:j=fs.length) (hF:Fx X w wr) (hS:Shelf wr (two X fv w.heap.size) S n0 (ns++ms) Q) (hO:wr.heap[w.heap.size]?=some (.cells cur 3 (0,0))) (hsz:cur.size=fs.length)
  (iP:cur.toList.take j=js.map (λx:Nat=>Value.int .i64 (x:Int))) (hF2:F2 (aU (aH wr) n0 (ns++ms)) ((xs.take j).map (cQ · a)) js):
  bO X S n0 ns Q (xs.map (cQ · a)) w (.returned (.slice (some ⟨w.heap.size,0,none⟩) fs.length fs.length)) wr:=by
 subst hj;rw[List.take_of_length_le (by omega)]at hF2;have hjs:js.length=fs.length:=by have:=congrArg List.length iP;simp at this;omega
 refine ⟨_,js,ms,rfl,hF,hS.keep (bN.refl _) (λ_ _ _ h _=>h) (λ_ h=>.inl (.inl h)),⟨⟨by simp,.inr ⟨w.heap.size,fs.length,cur,by rw[hjs],Nat.zero_le _,hO,by omega,by unfold maxLen;omega,by omega,?_⟩⟩,?_⟩,hF2⟩
 ·rw[hjs,Nat.mul_one];exact iP
 ·intro k hk RS;have e:w.heap.size=k:=Option.some.inj hk;have:=hX _ RS;omega
theorem kY(X:Nat->Prop)(S n0:Nat)(ns:List (Nd Value))(Q:List D)(xs:List D)(a:aP)(fv:Value)(fs:List Nat)(w:World)(hX:iG X w)(hS:Shelf w X S n0 ns Q)(hI:Ints w 0 fv fs)(hx:F2 (aU (aH w) n0 ns) xs fs)(ha:a.lt n0)(hr:ei (aH w) ns a)
  (hQ:∀x∈xs,cQ x a∈Q) (hlen:fs.length<=1000000000):
  Calls Tryz.prog 199 #[.pointer (some ⟨S,0,none⟩),fv,.int .i64 a.ix] w (bO X S n0 ns Q (xs.map (cQ · a)) w):=by
 obtain ⟨cz,Ir,hmk⟩:=rV fs.length (by omega)
 have NV:∃ao cap,fv=.slice ao fs.length cap/\(0<fs.length->∃g,ao=some ⟨g,0,none⟩):=by
  rcases hI.2 with ⟨rfl,h0⟩|⟨g,cap,_,rfl,_⟩
  ·exact ⟨none,0,by rw[h0],λh=>by omega⟩
  ·exact ⟨_,cap,rfl,λ_=>⟨g,rfl⟩⟩
 obtain ⟨ao,cap,rfl,hao⟩:=NV;have HX:=aa hX;have HS:=aa hS;have HI:=aa hI;have HF:=aa hx;have HR:=aa hr;have HQ:=aa hQ;have CZ:=aa hao;clear hX hS hI hx hr hQ hao;go_enter Tryz.func199,Tryz.ntmps199;go_wp2_with fail;clear hmk
 go_loopg [15] fs.length (λk i wr=>CY X S n0 ns Q xs a (.slice ao fs.length cap) fs w w.heap.size k i wr)
 case atStart=>
  have hb:Below w.heap.size w (w.alloc (.cells cz 3)):=cq _ _;have hO:=ag w (.cells cz 3);have lF:Ints (w.alloc (.cells cz 3)) 0 (.slice ao fs.length cap) fs:=HI.out.keep λk c hk=>(hb.block k (ae hk)).trans hk
  exact ⟨0,[],[],cz,by simp,by simp,Fx.ay HX.out hb,by simpa using J9 (HS.out.below hb) lF hO,lF,hO,Ir,by simp,by simpa using F2.nil⟩
 case round=>
  obtain ⟨j,js,ms,cur,rfl,hj,ou,hSh,xt,hO,hsz,iP,hF2⟩:=hrel;by_cases hlt:j<fs.length
  ·obtain ⟨f,hf⟩:∃f,fs[j]?=some f:=⟨fs[j],cB hlt⟩;obtain ⟨g,rfl⟩:=CZ.out (by omega);obtain ⟨g',cap',e',Ty⟩:=xt.at hf;cases e';obtain ⟨xj,NT,ZM⟩:=HF.out.get hf;have hst:=ou.dg;have HRJ:=aa ((aU.world hst ZM).append (ms:=ms));have Vk:=aa ((HR.out.world hst).append (ms:=ms))
   have abW:=aa (show iG (two X (.slice (some ⟨g,0,none⟩) fs.length cap) w.heap.size) wr from by
    rintro k (hk|hk|rfl)
    ·exact (HX.out.fx ou) k hk
    ·obtain ⟨c,hc⟩:=xt.block hk;exact ae hc
    ·exact ae hO)
   have HQJ:=aa (HQ.out xj (bn NT));have EE:=aa ou;have HSh:=aa hSh;have Nt:=aa xt;have HO:=aa hO;have BK:=aa iP;have eU:=aa hF2;have HXJ:=aa NT;clear ou hSh xt hO iP hF2 NT ZM hst hf;go_wp2_with fail;refine (NS _ S n0 (ns++ms) Q xj a f wr abW.out HSh.out HRJ.out ha Vk.out HQJ.out).mono ?_;rintro e w2 ⟨i2,ks,rfl,hF2,kG,yE⟩
   have TZ:w2.heap[w.heap.size]?=some (.cells cur 3 (0,0)):=(hF2.keep _ (.inr (.inr rfl))).trans HO.out;have o1:w2.cell? ⟨w.heap.size,j,none⟩=some (cur[j]'(by omega)):=by simp[World.cell?,TZ,hsz,hlt]
   have of:w2.frozen? ⟨w.heap.size,j,none⟩=false:=by simp[World.frozen?,TZ]
   have abX:=aa hF2;have yK:=aa kG;have mA:=aa yE;have HO2:=aa TZ;clear hF2 kG yE TZ;go_wp2_with fail;obtain ⟨k',rfl⟩:∃k',gk=k'+1:=⟨gk - 1,by omega⟩;have hstep:=Ka HX.out HI.out hj EE.out Nt.out hsz BK.out eU.out HXJ.out abX.out yK.out mA.out HO2.out;go_roundg k'
   case measure=>omega
   case rel=>exact hstep
  ·have EE:=aa ou;have HSh:=aa hSh;have HO:=aa hO;have BK:=aa iP;have eU:=aa hF2;clear ou hSh xt hO iP hF2;go_wp2_with fail;go_ret;exact NU HX.out hlen HF.out.length (by omega) EE.out HSh.out HO.out hsz BK.out eU.out
def RV(b:UInt8)(d:D):Prop:=∀X S n0 ns Q k w,iG X w->Shelf w X S n0 ns Q->aU (aH w) n0 ns d k->(∀t∈eL d,t∈Q)->d.sz<=1000000 ->
 Calls Tryz.prog 178 #[.pointer (some ⟨S,0,none⟩),.int .i64 k,.int .u8 b.toNat] w (bO X S n0 ns Q (pd b d) w)
theorem Shelf.at(h:Shelf w X S n0 ns Q)(hk:ns[k]?=some nd):
  ∃g cap,w.cell? ⟨S,0,none⟩=some (.slice (some ⟨g,0,none⟩) ns.length cap)/\w.cell? ⟨g,k*5,none⟩=some (.int .i64 nd.kind)/\w.cell? ⟨g,k*5+1,none⟩=some nd.has /\
   w.cell? ⟨g,k*5+2,none⟩=some (.int .i64 nd.left)/\w.cell? ⟨g,k*5+3,none⟩=some (.int .i64 nd.right)/\w.cell? ⟨g,k*5+4,none⟩=some (.bool nd.empty)/\Form nd.has:=by
 obtain ⟨sv,J,m,f,h1,h2,_⟩:=h.ex;obtain ⟨g,cap,rfl,q0,q1,q2,q3,q4⟩:=h2.at hk;exact ⟨g,cap,by simp[World.cell?,h1],q0,q1,q2,q3,q4,h2.2 nd (bn hk)⟩
def jO(X:Nat->Prop)(E:Nat):Nat->Prop:=λk=>X k∨k=E
theorem iZ(h:Shelf w X S n0 ns Q)(o:Obj):Shelf (w.alloc o) (jO X w.heap.size) S n0 ns Q:=
 h.keep (bN.ay (cq _ _)) (λ_ _ _ ho _=>af ho) (λk hk=>by
  rcases hk with hk|rfl
  ·exact .inl hk
  ·exact .inr λo ho=>by have:=ae ho;omega)
theorem mK(h:iG X w)(o:Obj):iG (jO X w.heap.size) (w.alloc o):=by
 rintro k (hk|rfl)
 ·have:=h k hk;simp;omega
 ·simp
theorem Fx.iz(h:Fx X w.drew w'):Fx X w w':=⟨h.os,h.tape,h.output,h.size,h.keep,h.stay⟩
theorem Shelf.drew(h:Shelf w X S n0 ns Q):Shelf w.drew X S n0 ns Q:=h.drewN 1
theorem uw{a0 a1 a2 a3 a4:Value}(hE:w.heap[E]?=some (.cells #[a0,a1,a2,a3,a4] 292 (0,0)))(hF:Fx (jO X E) w w'):
  w'.cell? ⟨E,2,none⟩=some a2/\w'.cell? ⟨E,3,none⟩=some a3:=by
 have h:=(hF.keep E (.inr rfl)).trans hE;exact ⟨by simp[World.cell?,h],by simp[World.cell?,h]⟩
theorem Shelf.less(h:Shelf w (jO X E) S n0 ns Q):Shelf w X S n0 ns Q:=
 h.keep (bN.refl _) (λ_ _ _ h _=>h) (λ_ h=>.inl (.inl h))
theorem Row.less(h:Row w (jO X E) v js):Row w X v js:=⟨h.1,λk hk hx=>h.2 k hk (.inl hx)⟩
theorem eW(h:Form v)(a:Addr)(m:Mode)(w:World):(store a v m).run Tryz.prog w=stored Tryz.prog w a v m:=run_store _ w a v m h.one
theorem qw{b:UInt8}{a:aP}(h:∀t∈(rG d).map (cQ · a),t∈Q):∀x∈pd b d,cQ x a∈Q:=
 λx hx=>h _ (List.mem_map.2 ⟨x,M5 b d x hx,rfl⟩)
theorem rW(b:UInt8)(k l:Nat)(hv:Value)(r:Nat)(e:Bool)(d:D)(a:aP)(hd:RV b d)(X:Nat->Prop)(S n0:Nat)(ns:List (Nd Value))(Q:List D)(w:World)(hX:iG X w)(hS:Shelf w X S n0 ns Q)
  (hn:ns[k]?=some ⟨4,hv,l,r,e⟩) (L4:a.ix=k) (hR:aU (aH w) n0 ns d l) (ha:a.lt n0) (Ij:ei (aH w) ns a) (Aq:∀t∈eL d,t∈Q) (L5:∀x∈pd b d,cQ x a∈Q) (hsz:d.sz<=1000000):
  Calls Tryz.prog 178 #[.pointer (some ⟨S,0,none⟩),.int .i64 k,.int .u8 b.toNat] w (bO X S n0 ns Q ((pd b d).map (cQ · a)) w):=by
 obtain ⟨g,cap,c0,m0,m1,m2,m3,m4,nG⟩:=hS.at hn;have mG:=az hn;have hlen:=hS.length;have hst:=eW nG;have HX:=aa hX;have HS:=aa hS;have HR:=aa hR;have Vk:=aa Ij;have RT:=aa Aq;have HQ2:=aa L5;have HA:=aa ha;have HAK:=aa L4
 have hb:Below w.heap.size w (w.alloc (.cells #[.int .i64 4,hv,.int .i64 l,.int .i64 r,.bool e] 292)):=cq _ _;have pN:=aa (iZ hS (.cells #[.int .i64 4,hv,.int .i64 l,.int .i64 r,.bool e] 292));have rz:=aa (mK hX (.cells #[.int .i64 4,hv,.int .i64 l,.int .i64 r,.bool e] 292));have HB:=aa hb
 clear hX hS hn hR Ij Aq L5 nG hb ha L4;go_enter Tryz.func178,Tryz.ntmps178;go_wp2_with fail;refine (hd _ S n0 ns Q l _ rz.out pN.out (aU.world (bN.ay HB.out) HR.out) RT.out hsz).mono ?_;rintro e2 w2 ⟨v2,js,ms,rfl,hF2,kG,lF,ez⟩;have eU:=aa hF2;have yK:=aa kG;have Ai:=aa lF;have jV:=aa ez;clear hF2 kG lF ez
 go_wp2_with fail;have kg:=(bN.ay HB.out).trans eU.out.dg;have rE:js.length<=1000000000:=by have h1:=jV.out.length;have h2:=fS b d;omega
 have hj:=kY _ S n0 (ns++ms) Q (pd b d) a v2 js w2 (rz.out.fx eU.out) yK.out Ai.out.1 jV.out HA.out ((Vk.out.world kg).append) HQ2.out rE;rw[HAK.out]at hj;refine hj.mono ?_;rintro e3 w3 ⟨v3,QD,T3,rfl,dJ,oz,xt,yL⟩
 have aq:=aa (show bO X S n0 ns Q ((pd b d).map (cQ · a)) w (.returned v3) w3 from ⟨v3,QD,ms++T3,rfl,((Fx.ay HX.out HB.out).trans (eU.out.sub λ_ h=>.inl h)).trans (dJ.sub λ_ h=>.inl h),by rw[<-fP];exact oz.less,xt.less,by rw[<-fP];exact yL⟩);clear dJ oz xt yL hj kg;go_wp2_with fail;go_ret;exact aq.out
theorem ud(b:UInt8)(k l:Nat)(hv:Value)(r:Nat)(e:Bool)(d:D)(hd:RV b d)(X:Nat->Prop)(S n0:Nat)(ns:List (Nd Value))(Q:List D)(w:World)(hX:iG X w)(hS:Shelf w X S n0 ns Q)
  (hn:ns[k]?=some ⟨6,hv,l,r,e⟩) (hR:aU (aH w) n0 ns d l) (Aq:∀t∈eL d,t∈Q) (hsz:d.sz<=1000000):
  Calls Tryz.prog 178 #[.pointer (some ⟨S,0,none⟩),.int .i64 k,.int .u8 b.toNat] w (bO X S n0 ns Q (pd b d) w):=by
 obtain ⟨g,cap,c0,m0,m1,m2,m3,m4,nG⟩:=hS.at hn;have mG:=az hn;have hlen:=hS.length;have hst:=eW nG;have HX:=aa hX;have HS:=aa hS;have HR:=aa hR;have RT:=aa Aq;have hb:Below w.heap.size w (w.alloc (.cells #[.int .i64 6,hv,.int .i64 l,.int .i64 r,.bool e] 292)):=cq _ _
 have pN:=aa (iZ hS (.cells #[.int .i64 6,hv,.int .i64 l,.int .i64 r,.bool e] 292));have rz:=aa (mK hX (.cells #[.int .i64 6,hv,.int .i64 l,.int .i64 r,.bool e] 292));have HB:=aa hb;clear hX hS hn hR Aq nG hb;go_enter Tryz.func178,Tryz.ntmps178;go_wp2_with fail
 refine (hd _ S n0 ns Q l _ rz.out pN.out (aU.world (bN.ay HB.out) HR.out) RT.out hsz).mono ?_;rintro e2 w2 ⟨v2,js,ms,rfl,hF2,kG,lF,ez⟩;have aq:=aa (show bO X S n0 ns Q (pd b d) w (.returned v2) w2 from ⟨v2,js,ms,rfl,(Fx.ay HX.out HB.out).trans (hF2.sub λ_ h=>.inl h),kG.less,lF.less,ez⟩);clear hF2 kG lF ez;go_wp2_with fail;go_ret;exact aq.out
theorem ue(b:UInt8)(k l:Nat)(hv:Value)(r:Nat)(e:Bool)(X:Nat->Prop)(S n0:Nat)(ns:List (Nd Value))(Q:List D)(w:World)(hX:iG X w)(hS:Shelf w X S n0 ns Q)
  (hn:ns[k]?=some ⟨0,hv,l,r,e⟩):
  Calls Tryz.prog 178 #[.pointer (some ⟨S,0,none⟩),.int .i64 k,.int .u8 b.toNat] w (bO X S n0 ns Q [] w):=by
 obtain ⟨g,cap,c0,m0,m1,m2,m3,m4,nG⟩:=hS.at hn;have mG:=az hn;have hlen:=hS.length;have hst:=eW nG;have hb:Below w.heap.size w (w.alloc (.cells #[.int .i64 0,hv,.int .i64 l,.int .i64 r,.bool e] 292)):=cq _ _
 have aq:=aa (show bO X S n0 ns Q [] w (.returned (.slice none 0 0)) (w.alloc (.cells #[.int .i64 0,hv,.int .i64 l,.int .i64 r,.bool e] 292)) from
  ⟨_,[],[],rfl,Fx.ay hX hb,by simpa using hS.below hb,⟨World.ownsRow_nil _ _ _ _,λk hk=>by cases hk⟩,.nil⟩)
 clear hX hS hn nG hb;go_enter Tryz.func178,Tryz.ntmps178;go_wp2_with fail;go_ret;exact aq.out
theorem rX(b:UInt8)(k l:Nat)(hv:Value)(r:Nat)(e:Bool)(c:eO)(X:Nat->Prop)(S n0:Nat)(ns:List (Nd Value))(Q:List D)(w:World)(hX:iG X w)(hS:Shelf w X S n0 ns Q)
  (hn:ns[k]?=some ⟨1,hv,l,r,e⟩) (hc:aH w hv c):
  Calls Tryz.prog 178 #[.pointer (some ⟨S,0,none⟩),.int .i64 k,.int .u8 b.toNat] w (bO X S n0 ns Q (if c.has b then [.base .dE] else []) w):=by
 obtain ⟨g,cap,c0,m0,m1,m2,m3,m4,nG⟩:=hS.at hn;have mG:=az hn;have hlen:=hS.length;have hst:=eW nG;have hb:Below w.heap.size w (w.alloc (.cells #[.int .i64 1,hv,.int .i64 l,.int .i64 r,.bool e] 292)):=cq _ _;obtain ⟨gf,cf,ev,hen,C0⟩:=(hc.stay (bN.ay hb)).tells;subst ev;have HT:=aa (C0 b);unfold Enters at hen
 have HX:=aa hX;have HS:=aa hS;have HB:=aa hb;clear hX hS hn nG hb C0 hc
 cases hcb:c.has b with
 | true=>
  have hb2:Below w.heap.size w ((w.alloc (.cells #[.int .i64 1,.func (.func gf) #[] cf,.int .i64 l,.int .i64 r,.bool e] 292)).alloc (.cells #[.int .i64 0] 3)):=HB.out.alloc (by simp) _
  have aq:=aa (show bO X S n0 ns Q [.base .dE] w (.returned (.slice (some ⟨w.heap.size+1,0,none⟩) 1 1)) ((w.alloc (.cells #[.int .i64 1,.func (.func gf) #[] cf,.int .i64 l,.int .i64 r,.bool e] 292)).alloc (.cells #[.int .i64 0] 3)) from by
   have hO:=ag (w.alloc (.cells #[.int .i64 1,.func (.func gf) #[] cf,.int .i64 l,.int .i64 r,.bool e] 292)) (.cells #[.int .i64 0] 3);refine ⟨_,[0],[],rfl,Fx.ay HX.out hb2,by simpa using HS.out.below hb2,⟨⟨by simp,.inr ⟨w.heap.size+1,1,#[.int .i64 0],rfl,Nat.zero_le _,by simpa using hO,bc _,by unfold maxLen;omega,rfl,rfl⟩⟩,?_⟩,?_⟩
   ·intro k hk RS;have e:w.heap.size+1=k:=Option.some.inj hk;have:=HX.out _ RS;omega
   ·have h0:=HS.out.dE.world (bN.ay hb2);simp only[List.append_nil];exact .cons ⟨rfl,HS.out.pos,h0⟩ .nil)
  simp only[if_true];clear hb2;go_enter Tryz.func178,Tryz.ntmps178;go_wp2_with fail;refine HT.out.mono ?_;rintro e2 w2 ⟨rfl,rfl⟩;rw[hcb];go_wp2_with fail;go_ret;exact aq.out
 | false=>
  have aq:=aa (show bO X S n0 ns Q [] w (.returned (.slice none 0 0)) (w.alloc (.cells #[.int .i64 1,.func (.func gf) #[] cf,.int .i64 l,.int .i64 r,.bool e] 292)) from
   ⟨_,[],[],rfl,Fx.ay HX.out HB.out,by simpa using HS.out.below HB.out,⟨World.ownsRow_nil _ _ _ _,λk hk=>by cases hk⟩,.nil⟩)
  simp only[Bool.false_eq_true,if_false];go_enter Tryz.func178,Tryz.ntmps178;go_wp2_with fail;refine HT.out.mono ?_;rintro e2 w2 ⟨rfl,rfl⟩;rw[hcb];go_wp2_with fail;go_ret;exact aq.out
theorem rY(b:UInt8)(k l:Nat)(hv:Value)(r:Nat)(e:Bool)(d:D)(a:aP)(hd:RV b d)(X:Nat->Prop)(S n0:Nat)(ns:List (Nd Value))(Q:List D)(w:World)(hX:iG X w)(hS:Shelf w X S n0 ns Q)
  (hn:ns[k]?=some ⟨5,hv,l,r,e⟩) (L4:a.ix=r) (hR:aU (aH w) n0 ns d l) (ha:a.lt n0) (Ij:ei (aH w) ns a) (Aq:∀t∈eL d,t∈Q) (L5:∀x∈pd b d,cQ x a∈Q) (hsz:d.sz<=1000000):
  Calls Tryz.prog 178 #[.pointer (some ⟨S,0,none⟩),.int .i64 k,.int .u8 b.toNat] w (bO X S n0 ns Q ((pd b d).map (cQ · a)) w):=by
 obtain ⟨g,cap,c0,m0,m1,m2,m3,m4,nG⟩:=hS.at hn;have mG:=az hn;have hlen:=hS.length;have hst:=eW nG;subst L4;have HX:=aa hX;have HS:=aa hS;have HR:=aa hR;have Vk:=aa Ij;have RT:=aa Aq;have HQ2:=aa L5;have HA:=aa ha;obtain ⟨r,hr⟩:∃r,r=a.ix:=⟨_,rfl⟩;rw[<-hr]at m3;have uJ:=aa hr
 have hb:Below w.heap.size w (w.alloc (.cells #[.int .i64 5,hv,.int .i64 l,.int .i64 r,.bool e] 292)):=cq _ _;have pN:=aa (iZ hS (.cells #[.int .i64 5,hv,.int .i64 l,.int .i64 r,.bool e] 292));have rz:=aa (mK hX (.cells #[.int .i64 5,hv,.int .i64 l,.int .i64 r,.bool e] 292));have HB:=aa hb
 have HE:=aa (ag w (.cells #[.int .i64 5,hv,.int .i64 l,.int .i64 r,.bool e] 292));have HD:=aa (hd _ S n0 ns Q l (w.alloc (.cells #[.int .i64 5,hv,.int .i64 l,.int .i64 r,.bool e] 292)).drew rz.out pN.out.drew (aU.world (bN.ay hb.drew) hR) Aq hsz)
 have HJ:=aa (λ(w2:World) (v2:Value) (js:List Nat) (ms:List (Nd Value)) (hF2:Fx (jO X w.heap.size) (w.alloc (.cells #[.int .i64 5,hv,.int .i64 l,.int .i64 r,.bool e] 292)) w2) (kG:Shelf w2 (jO X w.heap.size) S n0 (ns++ms) Q) (lF:Row w2 (jO X w.heap.size) v2 js) (ez:F2 (aU (aH w2) n0 (ns++ms)) (pd b d) js)=>by
  have rE:js.length<=1000000000:=by have h1:=ez.length;have h2:=fS b d;omega
  have kg:=(bN.ay hb).trans hF2.dg;have:=kY _ S n0 (ns++ms) Q (pd b d) a v2 js w2 (rz.out.fx hF2) kG lF.1 ez ha ((Ij.world kg).append) L5 rE;rw[<-hr]at this;exact this)
 clear hX hS hn hR Ij Aq L5 nG hb ha hr;go_enter Tryz.func178,Tryz.ntmps178;go_wp2_with fail
 go_region_with (first
  | (go_at_call 178;refine HD.out.mono ?_;rintro e2 w2 ⟨v2,js,ms,rfl,hF2,kG,lF,ez⟩;have eU:=aa hF2.iz;have yK:=aa kG;have Ai:=aa lF;have jV:=aa ez;clear hF2 kG lF ez;obtain ⟨q2,q3⟩:=uw HE.out eU.out)
  | (go_at_call 199;refine (HJ.out w2 v2 js ms eU.out yK.out Ai.out jV.out).mono ?_;rintro e3 w3 ⟨v3,QD,T3,rfl,dJ,oz,xt,yL⟩;have ir:=aa dJ;have Rx:=aa oz;have Nt:=aa xt;have QE:=aa yL;clear dJ oz xt yL))
 all_goals
  have aq:=aa (show bO X S n0 ns Q ((pd b d).map (cQ · a)) w (.returned v3) w3 from ⟨v3,QD,ms++T3,rfl,((Fx.ay HX.out HB.out).trans (eU.out.sub λ_ h=>.inl h)).trans (ir.out.sub λ_ h=>.inl h),by rw[<-fP];exact Rx.out.less,Nt.out.less,by rw[<-fP];exact QE.out⟩);go_wp2_with fail;go_ret;exact aq.out
end Go.Proofs.YtgncgdkpkkdaeaaGreatDoor
