import Derived.Test.YtgncgdkpkkdaeaaGreatDoorMD
namespace Go.Proofs.YtgncgdkpkkdaeaaGreatDoor
open Go.RowKit aO Go.Maps
variable {c cur:Array Value} {d x:D} {ms ns:List (Nd Value)} {Q:List D} {fs js xs:List Nat} {B E J S j k m n0:Nat} {f:Nat×Nat->Option Int} {X Y:Nat->Prop} {nd:Nd Value} {t:TypeId} {fv v v':Value} {a w w' wr:World}
def jq(t:TypeId):Bool:=
 t == 5 || t == 290 || t == 295 || t == 284 || t == 301 || t == 302 || t == 318 || t == 319 || t == 305 || t == 192 || t == 194
structure Fx(X:Nat->Prop)(w w':World):Prop where
 os:w'.os=w.os
 tape:w'.tape=w.tape
 output:w'.output=w.output
 size:w.heap.size<=w'.heap.size
 keep:∀k,X k->w'.heap[k]?=w.heap[k]?
 stay:∀(k:Nat) c t,jq t=true->w.heap[k]?=some (.cells c t (0,0))->w'.heap[k]?=some (.cells c t (0,0))
def ia(X:Nat->Prop)(w:World):Prop:=∀k,X k->k<w.heap.size
theorem Fx.refl(X:Nat->Prop)(w:World):Fx X w w:=⟨rfl,rfl,rfl,Nat.le_refl _,λ_ _=>rfl,λ_ _ _ _ h=>h⟩
theorem Fx.trans{b c:World}(h:Fx X a b)(k:Fx X b c):Fx X a c:=
 ⟨k.os.trans h.os,k.tape.trans h.tape,k.output.trans h.output,Nat.le_trans h.size k.size,λi hi=>(k.keep i hi).trans (h.keep i hi),λi x t ht hh=>k.stay i x t ht (h.stay i x t ht hh)⟩
theorem Fx.drew(h:Fx X a w):Fx X a w.drew:=⟨h.os,h.tape,h.output,h.size,h.keep,h.stay⟩
theorem Fx.drewN(h:Fx X a w)(n:Nat):Fx X a (w.drewN n):=⟨h.os,h.tape,h.output,h.size,h.keep,h.stay⟩
theorem Fx.sub(h:Fx X a w)(hs:∀k,Y k->X k):Fx Y a w:=⟨h.os,h.tape,h.output,h.size,λk hk=>h.keep k (hs k hk),h.stay⟩
theorem ia.mono(h:ia X w)(hs:w.heap.size<=w'.heap.size):ia X w':=λk hk=>Nat.lt_of_lt_of_le (h k hk) hs
theorem ia.fx(h:ia X w)(hs:Fx Y w w'):ia X w':=h.mono hs.size
theorem Fx.au(hX:ia X w)(h:Below w.heap.size w w'):Fx X w w':=
 ⟨h.os,h.tape,h.output,h.size,λk hk=>h.block k (hX k hk),λk _ _ _ hh=>(h.block k (ae hh)).trans hh⟩
theorem Fx.alloc(h:Fx X a w)(hX:ia X w)(o:Obj):Fx X a (w.alloc o):=
 h.trans (Fx.au hX ((Below.refl _ _).alloc (Nat.le_refl _) o))
theorem Fx.setCell(h:Fx X a w){p:Addr}{fz:Nat×Nat}(hp:¬X p.block)(hb:w.heap[p.block]?=some (.cells c t fz))(ht:jq t=false)(u:Value):Fx X a (w.setCell p u):=
 h.trans ⟨rfl,rfl,rfl,by simp[World.setCell],λk hk=>Below.heap_setCell _ _ _ _ (λe=>hp (e▸hk)),λk x t' ib hh=>by rw[Below.heap_setCell _ _ _ _ (λe=>by rw[e,hb]at hh;simp only[Option.some.injEq,Obj.cells.injEq]at hh;rw[hh.2.1,ib]at ht;cases ht)];exact hh⟩
theorem Fx.grown{row:Option Nat}(h:Fx X a w)(hg:w.grownBy w' row)(hX:ia X w)(hr:∀k,row=some k->¬X k)(ht:∀k,row=some k->∀c t fz,w.heap[k]?=some (.cells c t fz)->jq t=false):Fx X a w':=
 h.trans ⟨hg.os,hg.tape,hg.output,hg.size,λk hk=>hg.block k (hX k hk) (λe=>hr k e.symm hk),λk c t hs hh=>by rw[hg.block k (ae hh) (λe=>by have:=ht k e.symm c t _ hh;rw[hs]at this;cases this)];exact hh⟩
theorem Fx.cS(h:Fx X w w'):bH w w':=λk c t ht hh=>h.stay k c t (by rcases ht with rfl|rfl<;>decide) hh
def Row(w:World)(X:Nat->Prop)(v:Value)(xs:List Nat):Prop:=Ints w 0 v xs/\∀k,v.ownBlock=some k->¬X k
theorem Ints.block(h:Ints w B v xs)(hk:v.ownBlock=some k):∃c,w.heap[k]?=some (.cells c 3 (0,0)):=by
 rcases h.2 with ⟨rfl,_⟩|⟨g,cap,cur,rfl,hg,hh,_⟩
 ·cases hk
 ·cases hk;exact ⟨cur,hh⟩
theorem Ints.iF(h:Ints w B v xs)(hk:∀k,v.ownBlock=some k->w'.heap[k]?=w.heap[k]?):Ints w' B v xs:=by
 obtain ⟨h1,h2⟩:=h;refine ⟨h1,?_⟩;rcases h2 with h2|⟨g,cap,cur,hv,hg,hh,r⟩
 ·exact .inl h2
 ·exact .inr ⟨g,cap,cur,hv,hg,by rw[hk g (by rw[hv];rfl)];exact hh,r⟩
def dx(X:Nat->Prop)(v:Value):Nat->Prop:=λk=>X k∨v.ownBlock=some k
theorem ia.dx(h:ia X w)(hv:Ints w B v xs):ia (dx X v) w:=by
 rintro k (hk|hk)
 ·exact h k hk
 ·obtain ⟨c,hc⟩:=hv.block hk;exact ae hc
theorem kO(w:World)(ty:TypeId)(v u:Value)(xs ys:List Nat)(hv:Ints w 0 v xs)(hu:Ints w 0 u ys)(hn:xs.length+ys.length<=1000000000000):
  ∃v' w',(Builtin.append_ #[57,57] ty #[v,u]).run Tryz.prog w=.ok v' w'/\Ints w' 0 v' (xs++ys)/\w.grownBy w' v.ownBlock/\(v'.ownBlock=v.ownBlock∨v'.ownBlock=some w.heap.size):=by
 obtain ⟨i0,hi,hz0,hz1,hz2⟩:=info_parts lf;rcases hu.2 with ⟨rfl,h0⟩|⟨g,cap,cur,rfl,hg,hh,hnc,hc,hs,ht⟩
 ·obtain rfl:ys=[]:=List.eq_nil_of_length_eq_zero h0;refine ⟨v,w,?_,by simpa using hv,⟨rfl,rfl,rfl,Nat.le_refl _,λ_ _ _=>rfl⟩,.inl rfl⟩;rcases hv.2 with ⟨rfl,h1⟩|⟨g,cap,cur,rfl,hg,hh,hnc,hc,hs,ht⟩
  ·obtain rfl:xs=[]:=List.eq_nil_of_length_eq_zero h1;have hs:=Src.ofNil (P:=Tryz.prog) (size:=i0.size) w Tryz.underlying57 0;simp[Builtin.append_,run_underlying (P:=Tryz.prog) Tryz.underlying57,sizeOf,typeInfo,hi,hs.len,hs.cells]
  ·have:=run_append_room_src (P:=Tryz.prog) w 57 57 ty 3 i0 Tryz.underlying57 hi g 0 xs.length cap (.slice none 0 0) 0 [] (Src.ofNil w Tryz.underlying57 0) (by omega) (by simp) (by simp);simpa [World.setCells] using this
 ·have hnews:∀j x,(ys.map λx:Nat=>Value.int .i64 (x:Int))[j]?=some x->w.cell? ((⟨g,0,none⟩:Addr).add j)=some x:=by intro j x hj;rw[Addr.add_lit,Nat.zero_add];have hlt:=aw hj;rw[<-ht,List.getElem?_take_of_lt (by simpa using hlt)]at hj;simpa [World.cell?,hh] using hj
  have B9:∀x∈(ys.map λx:Nat=>Value.int .i64 (x:Int)),x.oneCell'=true:=by intro x hx;obtain ⟨y,_,rfl⟩:=List.mem_map.1 hx;rfl
  obtain ⟨v',w',hr,h2,h3,h4,h5⟩:=run_append_own_at (P:=Tryz.prog) w 0 57 ty 3 i0 (.int .i64 0) 1 8 Tryz.underlying57 hi hz0 hz1 hz2 rfl (by decide) v xs.length _ hv ⟨g,0,none⟩ ys.length cap (ys.map λx:Nat=>Value.int .i64 (x:Int)) (by simp) hnews B9 (by unfold maxLen;omega) (by omega) (Nat.zero_le _);refine ⟨v',w',hr,?_,h3,h5⟩;unfold Ints;simpa using h2
structure Shelf(w:World)(X:Nat->Prop)(S n0:Nat)(ns:List (Nd Value))(Q:List D):Prop where
 YU:¬X S
 ex:∃sv J m f,w.heap[S]?=some (.cells #[sv,.map (some J)] 298 (0,0))/\bj w 0 sv ns/\(∀k,sv.ownBlock=some k->¬X k)/\bY pairT 3 .i64 w J m f/\¬X J/\m+n0<=ns.length /\
  (∀l r c,f (l,r)=some c->∃j:Nat,c=j/\n0<=j/\∃h e,ns[j]?=some ⟨2,h,l,r,e⟩) /\
  (∀(j:Nat) nd,n0<=j->ns[j]?=some nd->nd.kind=2/\f (nd.left,nd.right)=some (j:Int))
 pos:0<n0
 le:n0<=ns.length
 small:n0<=200
 dh:dR (aF w) ns .dh
 terms:∀j,n0<=j->j<ns.length->∃d∈Q,aU (aF w) n0 ns d j
 few:Q.length<=100000000000
theorem Shelf.YV(h:Shelf w X S n0 ns Q):Yn n0 ns:=by obtain ⟨sv,J,m,f,_,_,_,_,_,_,_,h2⟩:=h.ex;intro j k nd Yo hj hk h3 h4 e1 e2;have a1:=(h2 j nd hj h3).2;have a2:=(h2 k Yo hk h4).2;rw[e1,e2,a2]at a1;simp at a1;omega
theorem Shelf.length(h:Shelf w X S n0 ns Q):ns.length<=100000000200:=by have h1:=MD (R:=λd k=>aU (aF w) n0 ns d k) (λd b b' r r'=>r.func h.YV r') (l:=List.range' n0 (ns.length - n0)) (P:=Q) List.nodup_range' (λb hb=>by rw[List.mem_range'_1]at hb;exact h.terms b hb.1 (by omega));have h2:=h.few;have h3:=h.small;simp at h1;omega
theorem aU.world(h:bH w w')(hr:aU (aF w) n0 ns d k):aU (aF w') n0 ns d k:=
 hr.mono (λ_ _ hc=>hc.stay h) (λ_ _ hn=>hn)
theorem Shelf.keep(h:Shelf w X S n0 ns Q)(hs:bH w w')(hk:∀k o,¬X k->w.heap[k]?=some o->(∀c t fz,o=.cells c t fz->t=298∨t=292)->w'.heap[k]?=some o)
  (hY:∀k,Y k->X k∨∀o,w.heap[k]?=some o->∃c t fz,o=.cells c t fz/\t≠298/\t≠292):Shelf w' Y S n0 ns Q:=by
 obtain ⟨hX,⟨sv,J,m,f,h1,h2,h3,h4,h5,h6,h7,h8⟩,p,l,sm,ep,tm,fw⟩:=h;obtain ⟨es,kY,hJ⟩:=h4.obj
 have nY:∀k o,¬X k->w.heap[k]?=some o->(∀c t fz,o=.cells c t fz->t=298∨t=292)->¬Y k:=by
  intro k o hx ho hc hy;rcases hY k hy with hh|hh
  ·exact hx hh
  ·obtain ⟨c,t,fz,e1,e2,e3⟩:=hh o ho;exact (hc c t fz e1).elim e2 e3
 refine ⟨nY S _ hX h1 (λc t fz e=>by cases e;exact .inl rfl),⟨sv,J,m,f,hk S _ hX h1 (λc t fz e=>by cases e;exact .inl rfl),?_,?_,?_,?_,h6,h7,h8⟩,p,l,sm,ep.world hs,λj hj hl=>?_,fw⟩
 ·refine h2.keep λk hb=>?_
  obtain ⟨_,cur,hc⟩:=h2.block hb;rw[hc];exact hk k _ (h3 k hb) hc (λc t fz e=>by cases e;exact .inr rfl)
 ·intro k hb;obtain ⟨_,cur,hc⟩:=h2.block hb;exact nY k _ (h3 k hb) hc (λc t fz e=>by cases e;exact .inr rfl)
 ·refine h4.keep ?_;rw[hJ];exact hk J _ h5 hJ (λc t fz e=>by cases e)
 ·exact nY J _ h5 hJ (λc t fz e=>by cases e)
 ·obtain ⟨d,hd,hr⟩:=tm j hj hl;exact ⟨d,hd,aU.world hs hr⟩
theorem Shelf.below(h:Shelf w X S n0 ns Q)(hb:Below w.heap.size w w'):Shelf w' X S n0 ns Q:=
 h.keep (bH.au hb) (λk _ _ ho _=>(hb.block k (ae ho)).trans ho) (λ_ hk=>.inl hk)
theorem Shelf.drewN(h:Shelf w X S n0 ns Q)(n:Nat):Shelf (w.drewN n) X S n0 ns Q:=
 h.keep (w':=w.drewN n) (λ_ _ _ _ h=>h) (λ_ _ _ h _=>h) (λ_ hk=>.inl hk)
theorem Shelf.node(h:Shelf w X S n0 ns Q){a:aN}{e:Bool}(hj:n0<=j)(hn:ns[j]?=some ⟨2,v,k,a.ix,e⟩)
  (hx:aU (aF w) n0 ns x k) (ha:dR (aF w) ns a):e=(x.re.aq&&a.re.aq):=by
 obtain ⟨d,_,hr⟩:=h.terms j hj (aw hn)
 cases d with
 | base b=>obtain ⟨h1,h2,_⟩:=hr;have:=h2.BS;omega
 | snoc d b=>
  obtain ⟨_,_,hb,m,_,hd,y,h3⟩:=hr;rw[hn]at h3;simp only[Option.some.injEq,Nd.mk.injEq]at h3;obtain ⟨_,_,rfl,h4,rfl⟩:=h3;obtain ⟨n1,e1,e2⟩:=hx.empty;obtain ⟨n2,e3,e4⟩:=hd.empty;obtain ⟨n3,e5,e6⟩:=ha.empty;obtain ⟨n4,e7,e8⟩:=hb.empty;rw[e1]at e3;rw[h4]at e5;rw[e5]at e7;cases e3;cases e7;rw[<-e2,e4,<-e6,e8]
theorem pL(w:World):(zeroValue 3).run Tryz.prog w=.ok (.int .i64 0) w:=by kernel_rfl
def lN(X:Nat->Prop)(S n0:Nat)(ns:List (Nd Value))(Q:List D)(t:D)(w:World)(e:Ending)(w':World):Prop:=
 ∃(j:Nat) (ms:List (Nd Value)),e=.returned (.int .i64 j)/\Fx X w w'/\Shelf w' X S n0 (ns++ms) Q/\aU (aF w') n0 (ns++ms) t j
set_option maxHeartbeats 1000000 in
theorem Jk(X:Nat->Prop)(S n0:Nat)(ns:List (Nd Value))(Q:List D)(x:D)(a:aN)(w:World)(hS:Shelf w X S n0 ns Q)(hx:aU (aF w) n0 ns x 0)(wN:a.lt n0)(hr:dR (aF w) ns a):
  Calls Tryz.prog 207 #[.pointer (some ⟨S,0,none⟩),.int .i64 0,.int .i64 a.ix] w (lN X S n0 ns Q (cG x a) w):=by
 have YW:=aa wN;clear wN;have hz:=hx.zero hS.pos;subst hz;have HS:=aa hS;have HR:=aa hr;clear hS hr hx;go_enter Tryz.func207,Tryz.ntmps207;go_wp2;go_ret;exact ⟨a.ix,[],by simp,Fx.refl _ _,by simpa using HS.out,by simpa using ⟨rfl,YW.out,HR.out⟩⟩
set_option maxHeartbeats 1000000 in
theorem EM(X:Nat->Prop)(S n0:Nat)(ns:List (Nd Value))(Q:List D)(x:D)(a:aN)(k:Nat)(w:World)(hX:ia X w)(hS:Shelf w X S n0 ns Q)(hx:aU (aF w) n0 ns x k)(hk:k≠0)(wN:a.lt n0)(hr:dR (aF w) ns a)
  (sv:Value) (J m:Nat) (f:Nat×Nat->Option Int) (h1:w.heap[S]?=some (.cells #[sv,.map (some J)] 298 (0,0))) (h4:bY pairT 3 .i64 w J m f) (j:Nat) (hf:f (k,a.ix)=some (j:Int)) (hn:n0<=j) (hd:Value) (e:Bool) (hj:ns[j]?=some ⟨2,hd,k,a.ix,e⟩):
  Calls Tryz.prog 207 #[.pointer (some ⟨S,0,none⟩),.int .i64 k,.int .i64 a.ix] w (lN X S n0 ns Q (cG x a) w):=by
 have hlen:=hS.length;have ha:=wN.BS;have YW:=aa wN;clear wN;have lL:=hx.lt;have hsm:=hS.small;have wS:((k:Int)==0)=false:=by rw[beq_eq_false_iff_ne];omega
 have c1:w.cell? ⟨S,1,none⟩=some (.map (some J)):=by simp[World.cell?,h1]
 have c1':=ar c1
 have hlk:∀n,(Instr.lookup 296 (.map (some J)) (.agg #[.int .i64 k,.int .i64 a.ix]) true).run Tryz.prog ((w.alloc (.cells #[.int .i64 k,.int .i64 a.ix] 333)).drewN n)=.ok (.tuple #[.int .i64 j,.bool true]) ((w.alloc (.cells #[.int .i64 k,.int .i64 a.ix] 333)).drewN n):=by
  intro n;have h5:bY pairT 3 .i64 ((w.alloc (.cells #[.int .i64 k,.int .i64 a.ix] 333)).drewN n) J m f:=h4.keep (Below.heap_alloc _ _ _ h4.lt);have h6:=h5.look (t:=296) Tryz.underlying296 Tryz.underlying3 pL (k,a.ix) ⟨by show k<=_;omega,by show a.ix<=_;omega⟩;rw[hf]at h6;exact h6
 have HS:=aa hS;have HX:=aa hx;have HR:=aa hr;have HJ:=aa hj;have HO:=aa hX;clear hS hx hr hj hX h1 h4 hf lL hlen;go_enter Tryz.func207,Tryz.ntmps207;go_wp2_with fail;go_quiet (fail);go_wp2;go_ret
 have hb:Below w.heap.size w ((w.alloc (.cells #[.int .i64 k,.int .i64 a.ix] 333)).drewN nq):=Below.drewN' ((Below.refl _ _).alloc (Nat.le_refl _) _) nq;have hX':=aU.world (bH.au hb) HX.out;have hR':=HR.out.world (bH.au hb);refine ⟨j,[],by simp,Fx.au HO.out hb,by simpa using HS.out.below hb,?_⟩;rw[HX.out.pos hk a];simp only[List.append_nil]
 refine ⟨hn,YW.out,hR',k,hk,hX',hd,?_⟩;rw[<-HS.out.node hn HJ.out HX.out HR.out];exact HJ.out
theorem MR{W1 w1:World}{i:Nat}{b em:Bool}(hB:Below w.heap.size w W1)(hT:W1.heap[w.heap.size]?=some (.cells c 333 (0,0)))
  (hb1:Below (W1.alloc (.cells #[.int .i64 2,.nilFunc,.int .i64 k,.int .i64 i,.bool em] 292)).drew.heap.size (W1.alloc (.cells #[.int .i64 2,.nilFunc,.int .i64 k,.int .i64 i,.bool em] 292)).drew w1):
  Below w.heap.size w (w1.setCell ⟨W1.heap.size,4,none⟩ (.bool b))/\(w1.setCell ⟨W1.heap.size,4,none⟩ (.bool b)).heap[w.heap.size]?=some (.cells c 333 (0,0)) /\
   (w1.setCell ⟨W1.heap.size,4,none⟩ (.bool b)).heap[W1.heap.size]?=some (.cells #[.int .i64 2,.nilFunc,.int .i64 k,.int .i64 i,.bool b] 292 (0,0)):=by
 have hs:w.heap.size<=W1.heap.size:=hB.size;have hTl:=ae hT;have hb2:Below W1.heap.size W1 w1:=by have h3:Below W1.heap.size W1 (W1.alloc (.cells #[.int .i64 2,.nilFunc,.int .i64 k,.int .i64 i,.bool em] 292)).drew:=((Below.refl _ _).alloc (Nat.le_refl _) _).drew;exact h3.trans (hb1.mono (by simp))
 refine ⟨(hB.trans (hb2.mono hs)).setCell hs _,?_,?_⟩
 ·rw[Below.heap_setCell _ _ _ _ (by show w.heap.size≠W1.heap.size;omega),hb2.block _ hTl];exact hT
 ·refine heap_setCell_same w1 W1.heap.size 4 _ (c:=#[.int .i64 2,.nilFunc,.int .i64 k,.int .i64 i,.bool em]) ?_;rw[hb1.block _ (by simp)];exact af _ _
theorem MS{W2 w3:World}{sv:Value}{c':Array Value}{T:Nat}(mL:Form nd.has)(hX:ia X w)(hS:Shelf w X S n0 ns Q)
  (h1:w.heap[S]?=some (.cells #[sv,.map (some J)] 298 (0,0))) (hL:bj w 0 sv ns) (YX:∀k,sv.ownBlock=some k->¬X k) (h4:bY pairT 3 .i64 w J m f) (hB:Below w.heap.size w W2) (hT:W2.heap[T]?=some (.cells c 333 (0,0)))
  (hown:w3.ownsRow 0 292 5 v' (ns.length+1) (bK ns++fe nd)) (hg:(W2.alloc (.cells c' t)).drew.grownBy w3 sv.ownBlock) (hloc:v'.ownBlock=sv.ownBlock∨v'.ownBlock=some (W2.alloc (.cells c' t)).drew.heap.size):
  w3.heap[S]?=some (.cells #[sv,.map (some J)] 298 (0,0))/\(w3.setCell ⟨S,0,none⟩ v').heap[S]?=some (.cells #[v',.map (some J)] 298 (0,0))/\bj (w3.setCell ⟨S,0,none⟩ v') 0 v' (ns++[nd]) /\
   (∀k,v'.ownBlock=some k->¬X k)/\(w3.setCell ⟨S,0,none⟩ v').heap[T]?=some (.cells c 333 (0,0))/\bY pairT 3 .i64 (w3.setCell ⟨S,0,none⟩ v') J m f/\Fx X w (w3.setCell ⟨S,0,none⟩ v'):=by
 have WU:Below w.heap.size w (W2.alloc (.cells c' t)).drew:=(hB.alloc hB.size _).drew;have hSl:=ae h1;have iV:(W2.alloc (.cells c' t)).drew.heap[S]?=some (.cells #[sv,.map (some J)] 298 (0,0)):=(WU.block S hSl).trans h1
 have hLl:∀k,sv.ownBlock=some k->∃cur,(W2.alloc (.cells c' t)).drew.heap[k]?=some (.cells cur 292 (0,0)):=λk hk=>by obtain ⟨_,cur,hc⟩:=hL.block hk;exact ⟨cur,(WU.block k (ae hc)).trans hc⟩
 have nD:w3.heap[S]?=some (.cells #[sv,.map (some J)] 298 (0,0)):=by rw[hg.block S (ae iV) (λe=>by obtain ⟨cur,hc⟩:=hLl S e.symm;rw[iV]at hc;simp at hc)];exact iV
 have hT3:w3.heap[T]?=some (.cells c 333 (0,0)):=by have hTA:(W2.alloc (.cells c' t)).drew.heap[T]?=some (.cells c 333 (0,0)):=heap_alloc_old hT;rw[hg.block T (ae hTA) (λe=>by obtain ⟨cur,hc⟩:=hLl T e.symm;rw[hTA]at hc;simp at hc)];exact hTA
 obtain ⟨es,kY,hJ⟩:=h4.obj;have hJA:(W2.alloc (.cells c' t)).drew.heap[J]?=some (.map es kY):=(WU.block J (ae hJ)).trans hJ;have hJ3:w3.heap[J]?=some (.map es kY):=by rw[hg.block J (ae hJA) (λe=>by obtain ⟨cur,hc⟩:=hLl J e.symm;rw[hJA]at hc;simp at hc)];exact hJA
 have hL3:bj w3 0 v' (ns++[nd]):=by
  refine ⟨?_,λd hd=>?_⟩
  ·rw[lH];simpa [bK] using hown
  ·rcases List.mem_append.1 hd with h|h
   ·exact hL.2 d h
   ·simp only[List.mem_singleton]at h;rw[h];exact mL
 have dB:Fx X w w3:=(Fx.au hX WU).grown hg (hX.mono WU.size) (λk hk=>YX k hk) (λk hk c2 t2 fz h=>by obtain ⟨cur,hc⟩:=hLl k hk;rw[hc]at h;cases h;rfl);refine ⟨nD,?_,?_,?_,?_,?_,dB.setCell hS.YU nD (by rfl) _⟩
 ·exact heap_setCell_same w3 S 0 _ nD
 ·refine hL3.keep λk hk=>Below.heap_setCell _ _ _ _ ?_
  obtain ⟨_,cur,hc⟩:=hL3.block hk;rintro rfl;rw[nD]at hc;simp at hc
 ·intro k hk QQ;rcases hloc with e|e
  ·rw[e]at hk;exact YX k hk QQ
  ·rw[e]at hk;simp only[Option.some.injEq]at hk;have h5:=hX k QQ;have h6:=WU.size;omega
 ·rw[Below.heap_setCell _ _ _ _ (by rintro rfl;rw[nD]at hT3;simp at hT3)];exact hT3
 ·refine h4.keep ?_;rw[Below.heap_setCell _ _ _ _ (by rintro rfl;rw[nD]at hJ3;simp at hJ3),hJ3,hJ]
theorem MT{W4 W5:World}{a:aN}(hX:ia X w)(hS:Shelf w X S n0 ns Q)(hx:aU (aF w) n0 ns x k)(hk:k≠0)(wN:a.lt n0)(hr:dR (aF w) ns a)(hQ:cG x a∈Q)
  (hf:f (k,a.ix)=none) (hm:m+n0<=ns.length) (p1:∀l r c,f (l,r)=some c->∃j:Nat,c=j/\n0<=j/\∃h e,ns[j]?=some ⟨2,h,l,r,e⟩) (p2:∀(j:Nat) nd,n0<=j->ns[j]?=some nd->nd.kind=2/\f (nd.left,nd.right)=some (j:Int)) (YY:¬X J)
  (h1:W4.heap[S]?=some (.cells #[v',.map (some J)] 298 (0,0))) (hL:bj W4 0 v' (ns++[⟨2,.nilFunc,k,a.ix,x.re.aq&&a.re.aq⟩])) (hv:∀k,v'.ownBlock=some k->¬X k) (hF:Fx X w W4)
  (h4:bY pairT 3 .i64 W5 J (m+1) (λy=>if y=(k,a.ix) then some (ns.length:Int) else f y)) (hg:W4.drew.grownBy W5 (some J)) (hJ:∃es kY,W4.heap[J]?=some (.map es kY)):
  lN X S n0 ns Q (cG x a) w (.returned (.int .i64 ns.length)) W5:=by
 obtain ⟨es,kY,hJ⟩:=hJ;have BC:Fx X w W5:=hF.drew.grown hg (hX.mono hF.size) (λj hj=>by cases hj;exact YY) (λj hj c t fz h=>by cases hj;rw[show W4.drew.heap[J]?=some (.map es kY) from hJ]at h;cases h);have hst:=BC.cS;have hn:∀(i:Nat) nd,ns[i]?=some nd->(ns++[⟨2,.nilFunc,k,a.ix,x.re.aq&&a.re.aq⟩])[i]?=some nd:=λi nd h=>bM h
 have MU:(ns++[(⟨2,.nilFunc,k,a.ix,x.re.aq&&a.re.aq⟩:Nd Value)])[ns.length]?=some ⟨2,.nilFunc,k,a.ix,x.re.aq&&a.re.aq⟩:=mN _;have lO:∀j:Nat,j≠J->j<W4.heap.size->W5.heap[j]?=W4.heap[j]?:=λj hj hl=>hg.block j hl (λe=>hj (Option.some.inj e))
 have YZ:aU (aF W5) n0 (ns++[⟨2,.nilFunc,k,a.ix,x.re.aq&&a.re.aq⟩]) (cG x a) ns.length:=by rw[hx.pos hk a];exact ⟨hS.le,wN,(hr.world hst).append,k,hk,(aU.world hst hx).append,.nilFunc,MU⟩
 refine ⟨ns.length,[⟨2,.nilFunc,k,a.ix,x.re.aq&&a.re.aq⟩],rfl,BC,⟨hS.YU,⟨v',J,m+1,_,?_,?_,hv,h4,YY,?_,?_,?_⟩,hS.pos,?_,hS.small,(hS.dh.world hst).append,?_,hS.few⟩,YZ⟩
 ·rw[lO S (by rintro rfl;rw[h1]at hJ;cases hJ) (ae h1)];exact h1
 ·refine hL.keep λj hj=>?_
  obtain ⟨_,cur,hc⟩:=hL.block hj;exact lO j (by rintro rfl;rw[hc]at hJ;cases hJ) (ae hc)
 ·simp only[List.length_append,List.length_cons,List.length_nil];omega
 ·intro l r c hc;by_cases e:(l,r)=(k,a.ix)
  ·rw[if_pos e]at hc;simp only[Prod.mk.injEq]at e;obtain ⟨rfl,rfl⟩:=e;refine ⟨ns.length,by simpa using hc.symm,hS.le,_,_,MU⟩
  ·rw[if_neg e]at hc;obtain ⟨j,h2,h3,hh,ee,h5⟩:=p1 l r c hc;exact ⟨j,h2,h3,hh,ee,hn _ _ h5⟩
 ·intro j nd hj hnd;rcases Nat.lt_or_ge j ns.length with hlt|kg
  ·rw[List.getElem?_append_left hlt]at hnd;obtain ⟨q1,q2⟩:=p2 j nd hj hnd;refine ⟨q1,?_⟩;by_cases e:(nd.left,nd.right)=(k,a.ix)
   ·rw[e,hf]at q2;cases q2
   ·rw[if_neg e];exact q2
  ·have ed:j=ns.length:=by have:=aw hnd;simp at this;omega
   subst ed;rw[MU]at hnd;cases hnd;exact ⟨rfl,by simp⟩
 ·simp only[List.length_append,List.length_cons,List.length_nil];have:=hS.le;omega
 ·intro j hj hl;rcases Nat.lt_or_ge j ns.length with hlt|kg
  ·obtain ⟨d,hd,hr2⟩:=hS.terms j hj hlt;exact ⟨d,hd,(aU.world hst hr2).append⟩
  ·have ed:j=ns.length:=by simp at hl;omega
   subst ed;exact ⟨_,hQ,YZ⟩
set_option maxHeartbeats 2000000 in
theorem MV(X:Nat->Prop)(S n0:Nat)(ns:List (Nd Value))(Q:List D)(x:D)(a:aN)(k:Nat)(w:World)(hX:ia X w)(hS:Shelf w X S n0 ns Q)(hx:aU (aF w) n0 ns x k)(hk:k≠0)(wN:a.lt n0)(hr:dR (aF w) ns a)(hQ:cG x a∈Q)
  (sv:Value) (J m:Nat) (f:Nat×Nat->Option Int) (h1:w.heap[S]?=some (.cells #[sv,.map (some J)] 298 (0,0))) (hL:bj w 0 sv ns) (YX:∀k,sv.ownBlock=some k->¬X k) (h4:bY pairT 3 .i64 w J m f) (hf:f (k,a.ix)=none) (YY:¬X J) (hm:m+n0<=ns.length)
  (p1:∀l r c,f (l,r)=some c->∃j:Nat,c=j/\n0<=j/\∃h e,ns[j]?=some ⟨2,h,l,r,e⟩) (p2:∀(j:Nat) nd,n0<=j->ns[j]?=some nd->nd.kind=2/\f (nd.left,nd.right)=some (j:Int)):
  Calls Tryz.prog 207 #[.pointer (some ⟨S,0,none⟩),.int .i64 k,.int .i64 a.ix] w (lN X S n0 ns Q (cG x a) w):=by
 have hlen:=hS.length;have ha:=wN.BS;have YW:=aa wN;clear wN;have lL:=hx.lt;have hsm:=hS.small;have wS:((k:Int)==0)=false:=by rw[beq_eq_false_iff_ne];omega
 have c1:w.cell? ⟨S,1,none⟩=some (.map (some J)):=by simp[World.cell?,h1]
 have c0:w.cell? ⟨S,0,none⟩=some sv:=by simp[World.cell?,h1]
 have c1':=ar c1;have UW:=λo p=>ar (ar c0 o) p
 have hlk:∀n,(Instr.lookup 296 (.map (some J)) (.agg #[.int .i64 k,.int .i64 a.ix]) true).run Tryz.prog ((w.alloc (.cells #[.int .i64 k,.int .i64 a.ix] 333)).drewN n)=.ok (.tuple #[.int .i64 0,.bool false]) ((w.alloc (.cells #[.int .i64 k,.int .i64 a.ix] 333)).drewN n):=by
  intro n;have h5:bY pairT 3 .i64 ((w.alloc (.cells #[.int .i64 k,.int .i64 a.ix] 333)).drewN n) J m f:=h4.keep (Below.heap_alloc _ _ _ h4.lt);have h6:=h5.look (t:=296) Tryz.underlying296 Tryz.underlying3 pL (k,a.ix) ⟨by show k<=_;omega,by show a.ix<=_;omega⟩;rw[hf]at h6;exact h6
 obtain ⟨y,hy,S0⟩:=hx.empty;obtain ⟨z,hz,hze⟩:=hr.empty;have HE:=aa (show Mn ns 2 k a.ix (x.re.aq&&a.re.aq) from .inr (.inr (.inr (.inl ⟨rfl,y,z,hy,hz,by rw[S0,hze]⟩))));have HS:=aa hS;have HX:=aa hx;have HR:=aa hr;have HO:=aa hX;have HL:=aa hL;have H1:=aa h1;have H4:=aa h4;have HF:=aa hf;have HQ:=aa hQ;have HLX:=aa YX;have LL:=aa YY
 have HM:=aa hm;have gH:=aa p1;have mJ:=aa p2;have Y0:0<ns.length:=by have:=hS.pos;have:=hS.le;omega
 obtain ⟨g,cap,rfl⟩:=az hL.1 Y0;obtain ⟨i0,hi,hz0,hz1,hz3⟩:=info_parts qO;clear hS hx hr hX h1 h4 hf lL hL hQ hy S0 hz hze YX YY hm p1 p2;go_enter Tryz.func207,Tryz.ntmps207;go_wp2_with fail;go_quiet (fail);clear hlk
 have jJ:Below w.heap.size w ((w.alloc (.cells #[.int .i64 k,.int .i64 a.ix] 333)).drewN nq):=Below.drewN' ((Below.refl _ _).alloc (Nat.le_refl _) _) nq;have WV:((w.alloc (.cells #[.int .i64 k,.int .i64 a.ix] 333)).drewN nq).heap[w.heap.size]?=some (.cells #[.int .i64 k,.int .i64 a.ix] 333 (0,0)):=af w _
 generalize (w.alloc (.cells #[.int .i64 k,.int .i64 a.ix] 333)).drewN nq=W1 at jJ WV ⊢;have bA:=aa jJ;have HT1:=aa WV;have sT:=aa (HS.out.below jJ);have wE:=aa (HL.out.keep (λk hk=>jJ.block k (ae (HL.out.block hk).2.choose_spec)))
 have DO:W1.heap[S]?=some (.cells #[.slice (some ⟨g,0,none⟩) ns.length cap,.map (some J)] 298 (0,0)):=(jJ.block S (ae H1.out)).trans H1.out;have QR:=aa DO;have d0:W1.cell? ⟨S,0,none⟩=some (.slice (some ⟨g,0,none⟩) ns.length cap):=by simp[World.cell?,DO]
 have Y1:=ar d0;clear jJ WV DO c0 UW c1 c1';go_wp2_with fail;have ld:=aa (wE.out.alloc (.cells #[.int .i64 2,.nilFunc,.int .i64 k,.int .i64 a.ix,.bool false] 292))
 go_region_with (go_at_call 195;refine (jG 0 (.slice (some ⟨g,0,none⟩) ns.length cap) ns 2 k a.ix .nilFunc false (x.re.aq&&a.re.aq) _ (by exact ld.out) HE.out).mono ?_;rintro e w1 ⟨rfl,hb1⟩;obtain ⟨hc1,hf1⟩:=SX hb1)
 all_goals
  obtain ⟨dW,WX,DK⟩:=MR (b:=x.re.aq&&a.re.aq) bA.out HT1.out hb1;clear hc1 hf1 hb1 wE ld d0 Y1;obtain ⟨W2,hW2⟩:∃W,W=w1.setCell ⟨W1.heap.size,4,none⟩ (.bool (x.re.aq&&a.re.aq)):=⟨_,rfl⟩;rw[<-hW2]at dW WX DK ⊢;clear hW2
  have Ed:W2.heap[S]?=some (.cells #[.slice (some ⟨g,0,none⟩) ns.length cap,.map (some J)] 298 (0,0)):=(dW.block S (ae H1.out)).trans H1.out;have ld:=aa (HL.out.keep (λk hk=>dW.block k (ae (HL.out.block hk).2.choose_spec)));have s0:W2.cell? ⟨S,0,none⟩=some (.slice (some ⟨g,0,none⟩) ns.length cap):=by simp[World.cell?,Ed]
  have s0':=ar s0;have e0:W2.cell? ⟨W1.heap.size,0,none⟩=some (.int .i64 2):=by simp[World.cell?,DK]
  have e1:W2.cell? ⟨W1.heap.size,1,none⟩=some .nilFunc:=by simp[World.cell?,DK]
  have e2:W2.cell? ⟨W1.heap.size,2,none⟩=some (.int .i64 k):=by simp[World.cell?,DK]
  have e3:W2.cell? ⟨W1.heap.size,3,none⟩=some (.int .i64 a.ix):=by simp[World.cell?,DK]
  have e4:W2.cell? ⟨W1.heap.size,4,none⟩=some (.bool (x.re.aq&&a.re.aq)):=by simp[World.cell?,DK]
  have cL:=aa dW;have QS:=aa WX;have UX:Hid (∀u∈[Value.int .i64 2,.nilFunc,.int .i64 k,.int .i64 a.ix,.bool (x.re.aq&&a.re.aq)],u.oneCell'=true):=by intro u hu;simp only[List.mem_cons,List.not_mem_nil,or_false]at hu;rcases hu with rfl|rfl|rfl|rfl|rfl<;>rfl
  clear dW WX DK Ed;go_wp2_with fail
  go_region_law (refine cO rfl (.tmp 47) (.tmp 49) 182 rfl 0 292 i0 (.agg #[.int .i64 0,.nilFunc,.int .i64 0,.int .i64 0,.bool false]) 5 40 Tryz.underlying182 hi hz0 hz1 hz3 rfl (by decide) (.slice (some ⟨g,0,none⟩) ns.length cap) ns.length (bK ns) (by rfl) (by exact (ld.out.alloc _).1) ⟨W2.heap.size,0,none⟩ 1 1 [.int .i64 2,.nilFunc,.int .i64 k,.int .i64 a.ix,.bool (x.re.aq&&a.re.aq)] (by rfl) (by rfl) (by exact aD W2 #[.int .i64 2,.nilFunc,.int .i64 k,.int .i64 a.ix,.bool (x.re.aq&&a.re.aq)] _) UX.out (by unfold maxLen;omega) (by omega) (Nat.zero_le _) ?_;intro v' w3 hown hg hloc;obtain ⟨g',cap',rfl⟩:=az hown (by omega);obtain ⟨BF,Ww,hL4,hv4,hT4,Y2,mK⟩:=MS (nd:=⟨2,.nilFunc,k,a.ix,x.re.aq&&a.re.aq⟩) (.inl rfl) HO.out HS.out H1.out HL.out HLX.out H4.out cL.out QS.out hown hg hloc;have g2:w3.cell? ⟨S,0,none⟩=some (.slice (some ⟨g,0,none⟩) ns.length cap):=(by simp[World.cell?,BF]);have gf:w3.frozen? ⟨S,0,none⟩=false:=(by simp[World.frozen?,BF]);have Hq4:=aa Ww;have HL4:=aa hL4;have Hv4:=aa hv4;have HT4:=aa hT4;have WY:=aa Y2;have nw:=aa mK;clear hown hg BF Ww hL4 hv4 hT4 Y2 mK hloc)
  all_goals
   clear g2 gf s0 s0' e0 e1 e2 e3 e4;obtain ⟨W4,PN⟩:∃W,W=w3.setCell ⟨S,0,none⟩ (.slice (some ⟨g',0,none⟩) (ns.length+1) cap'):=⟨_,rfl⟩;rw[<-PN]at Hq4 HL4 HT4 WY nw ⊢;clear PN;have t1:W4.cell? ⟨S,1,none⟩=some (.map (some J)):=by simp[World.cell?,Hq4.out]
   have k0:W4.cell? ⟨w.heap.size,0,none⟩=some (.int .i64 k):=by simp[World.cell?,HT4.out]
   have k1:W4.cell? ⟨w.heap.size,1,none⟩=some (.int .i64 a.ix):=by simp[World.cell?,HT4.out]
   obtain ⟨W5,hrun,S6,sQ⟩:=(show bY pairT 3 .i64 W4.drew J m f from WY.out.keep rfl).store (t:=296) Tryz.underlying296 Tryz.underlying3 (by have:=HM.out;omega) (k,a.ix) ⟨by have:=HX.out.lt;show k<=_;omega,by show a.ix<=_;omega⟩ (ns.length:Int) (lJ _ (by omega))
   have G8:(Instr.mapUpdate 296 (.map (some J)) (.agg #[.int .i64 k,.int .i64 a.ix]) (.int .i64 ns.length)).run Tryz.prog W4.drew=.ok () W5:=hrun;have hend:=MT HO.out HS.out HX.out hk YW.out HR.out HQ.out HF.out HM.out gH.out mJ.out LL.out Hq4.out HL4.out Hv4.out nw.out S6 sQ WY.out.obj;have ai:=aa hend;clear hrun S6 sQ hend;go_wp2_with fail;go_region
   all_goals
    go_wp2;go_ret;exact ai.out
theorem MW(X:Nat->Prop)(S n0:Nat)(ns:List (Nd Value))(Q:List D)(x:D)(a:aN)(k:Nat)(w:World)(hX:ia X w)(hS:Shelf w X S n0 ns Q)(hx:aU (aF w) n0 ns x k)(ha:a.lt n0)(hr:dR (aF w) ns a)(hQ:cG x a∈Q):
  Calls Tryz.prog 207 #[.pointer (some ⟨S,0,none⟩),.int .i64 k,.int .i64 a.ix] w (lN X S n0 ns Q (cG x a) w):=by
 by_cases hk:k=0
 ·subst hk;exact Jk X S n0 ns Q x a w hS hx ha hr
 ·obtain ⟨sv,J,m,f,h1,h2,h3,h4,h5,h6,h7,h8⟩:=hS.ex
  cases hf:f (k,a.ix) with
  | none=>exact MV X S n0 ns Q x a k w hX hS hx hk ha hr hQ sv J m f h1 h2 h3 h4 hf h5 h6 h7 h8
  | some c=>
   obtain ⟨j,rfl,hj,hd,e,hn⟩:=h7 k a.ix c hf;exact EM X S n0 ns Q x a k w hX hS hx hk ha hr sv J m f h1 h4 j hf hj hd e hn
theorem qY(n:Nat)(hn:n<=1000000000000):∃cz:Array Value,cz.size=n/\∀w,(Instr.makeSlice 57 (.int .i64 n) (.int .i64 n)).run Tryz.prog w=.ok (.slice (some ⟨w.heap.size,0,none⟩) n n) (w.alloc (.cells cz 3)):=by
 obtain ⟨i0,hi,hz0,hz1,hz2⟩:=info_parts lf;refine ⟨madeCells (Value.int .i64 0).cells (n*i0.size),?_,λw=>?_⟩
 ·rw[size_madeCells,hz1,Nat.mul_one]
 ·have:=run_make (P:=Tryz.prog) w 57 3 i0 (.int .i64 0) Tryz.underlying57 hi hz0 .i64 .i64 (n:Int) (n:Int) (by omega) (by omega) (by rw[hz2];omega) (by omega);simpa using this
def bI(X:Nat->Prop)(S n0:Nat)(ns:List (Nd Value))(Q:List D)(ts:List D)(w:World)(e:Ending)(w':World):Prop:=
 ∃(v:Value) (js:List Nat) (ms:List (Nd Value)),e=.returned v/\Fx X w w'/\Shelf w' X S n0 (ns++ms) Q/\Row w' X v js/\F2 (aU (aF w') n0 (ns++ms)) ts js
def two(X:Nat->Prop)(fv:Value)(O:Nat):Nat->Prop:=λk=>X k∨fv.ownBlock=some k∨k=O
def Ca(X:Nat->Prop)(S n0:Nat)(ns:List (Nd Value))(Q:List D)(xs:List D)(a:aN)(fv:Value)(fs:List Nat)(w:World)(O:Nat)(k:Nat)(i:Value)(wr:World):Prop:=
 ∃(j:Nat) (js:List Nat) (ms:List (Nd Value)) (cur:Array Value),i=.int .i64 j/\j+k=fs.length/\Fx X w wr/\Shelf wr (two X fv O) S n0 (ns++ms) Q/\Ints wr 0 fv fs/\wr.heap[O]?=some (.cells cur 3 (0,0))/\cur.size=fs.length /\
  cur.toList.take j=js.map (λx:Nat=>Value.int .i64 (x:Int))/\F2 (aU (aF wr) n0 (ns++ms)) ((xs.take j).map (cG · a)) js
theorem Jl{O:Nat}(h:Shelf w X S n0 ns Q)(hf:Ints w 0 fv fs)(hO:w.heap[O]?=some (.cells cur 3 (0,0))):Shelf w (two X fv O) S n0 ns Q:=
 h.keep (bH.refl w) (λ_ _ _ ho _=>ho) (λk hk=>by
  rcases hk with hk|hk|rfl
  ·exact .inl hk
  ·refine .inr λo ho=>?_
   obtain ⟨c,hc⟩:=hf.block hk;rw[hc]at ho;cases ho;exact ⟨_,_,_,rfl,by decide,by decide⟩
  ·refine .inr λo ho=>?_
   rw[hO]at ho;cases ho;exact ⟨_,_,_,rfl,by decide,by decide⟩)
theorem Jm{xs:List D}{a:aN}{w2:World}{i2:Nat}{ks:List (Nd Value)}{xj:D}
  (hX:ia X w) (hI:Ints w 0 fv fs) (hj:j+(k+1)=fs.length) (hF:Fx X w wr) (wF:Ints wr 0 fv fs) (hsz:cur.size=fs.length) (iv:cur.toList.take j=js.map (λx:Nat=>Value.int .i64 (x:Int)))
  (hF2:F2 (aU (aF wr) n0 (ns++ms)) ((xs.take j).map (cG · a)) js) (MX:xs[j]?=some xj) (UY:Fx (two X fv w.heap.size) wr w2) (j4:Shelf w2 (two X fv w.heap.size) S n0 (ns++ms++ks) Q) (xN:aU (aF w2) n0 (ns++ms++ks) (cG xj a) i2)
  (Tb:w2.heap[w.heap.size]?=some (.cells cur 3 (0,0))):
  Ca X S n0 ns Q xs a fv fs w w.heap.size k (.int .i64 (j+1:Nat)) (w2.setCell ⟨w.heap.size,j,none⟩ (.int .i64 i2)):=by
 have hnX:¬X w.heap.size:=λh=>by have:=hX _ h;omega
 have UZ:∀b:Nat,b≠w.heap.size->(w2.setCell ⟨w.heap.size,j,none⟩ (.int .i64 i2)).heap[b]?=w2.heap[b]?:=λb hb=>Below.heap_setCell _ _ _ _ hb
 have hst:bH w2 (w2.setCell ⟨w.heap.size,j,none⟩ (.int .i64 i2)):=λb c t ht hh=>by rw[UZ b (by rintro rfl;rw[Tb]at hh;simp at hh;rcases ht with rfl|rfl<;>simp at hh)];exact hh
 refine ⟨j+1,js++[i2],ms++ks,cur.setIfInBounds j (.int .i64 i2),rfl,by omega,(hF.trans (UY.sub λ_ h=>.inl h)).setCell hnX Tb (by rfl) _,?_,?_,?_,by simpa using hsz,?_,?_⟩
 ·rw[<-List.append_assoc];exact j4.keep hst (λb o hb ho _=>by rw[UZ b (λe=>hb (.inr (.inr e)))];exact ho) (λb hb=>.inl hb)
 ·refine wF.iF λb hb=>?_
  rw[UZ b (by obtain ⟨c,hc⟩:=hI.block hb;have:=ae hc;omega)];exact UY.keep b (.inr (.inl hb))
 ·exact heap_setCell_same w2 w.heap.size j _ Tb
 ·have qF:j<cur.toList.length:=by simp;omega
  have e1:(cur.setIfInBounds j (.int .i64 i2)).toList=cur.toList.set j (.int .i64 i2):=by simp
  rw[e1,List.take_succ_eq_append_getElem (by simpa using qF),List.take_set_of_le (Nat.le_refl _),iv];simp
 ·rw[<-List.append_assoc];have U0:=aw MX;rw[List.take_succ_eq_append_getElem U0,List.map_append,List.map_cons,List.map_nil];rw[List.getElem?_eq_getElem U0]at MX;rw[Option.some.inj MX];have hs1:=UY.cS;exact (hF2.mono λd k h=>aU.world hst (aU.world hs1 h).append).snoc (aU.world hst xN)
theorem MZ{xs:List D}{a:aN}
  (hX:ia X w) (hlen:fs.length<=1000000000) (zm:xs.length=fs.length) (hj:j=fs.length) (hF:Fx X w wr) (hS:Shelf wr (two X fv w.heap.size) S n0 (ns++ms) Q) (hO:wr.heap[w.heap.size]?=some (.cells cur 3 (0,0))) (hsz:cur.size=fs.length)
  (iv:cur.toList.take j=js.map (λx:Nat=>Value.int .i64 (x:Int))) (hF2:F2 (aU (aF wr) n0 (ns++ms)) ((xs.take j).map (cG · a)) js):
  bI X S n0 ns Q (xs.map (cG · a)) w (.returned (.slice (some ⟨w.heap.size,0,none⟩) fs.length fs.length)) wr:=by
 subst hj;rw[List.take_of_length_le (by omega)]at hF2;have hjs:js.length=fs.length:=by have:=congrArg List.length iv;simp at this;omega
 refine ⟨_,js,ms,rfl,hF,hS.keep (bH.refl _) (λ_ _ _ h _=>h) (λ_ h=>.inl (.inl h)),⟨⟨by simp,.inr ⟨w.heap.size,fs.length,cur,by rw[hjs],Nat.zero_le _,hO,by omega,by unfold maxLen;omega,by omega,?_⟩⟩,?_⟩,hF2⟩
 ·rw[hjs,Nat.mul_one];exact iv
 ·intro k hk QQ;have e:w.heap.size=k:=Option.some.inj hk;have:=hX _ QQ;omega
set_option maxHeartbeats 2000000 in
theorem ku(X:Nat->Prop)(S n0:Nat)(ns:List (Nd Value))(Q:List D)(xs:List D)(a:aN)(fv:Value)(fs:List Nat)(w:World)(hX:ia X w)(hS:Shelf w X S n0 ns Q)(hI:Ints w 0 fv fs)(hx:F2 (aU (aF w) n0 ns) xs fs)(ha:a.lt n0)(hr:dR (aF w) ns a)
  (hQ:∀x∈xs,cG x a∈Q) (hlen:fs.length<=1000000000):
  Calls Tryz.prog 199 #[.pointer (some ⟨S,0,none⟩),fv,.int .i64 a.ix] w (bI X S n0 ns Q (xs.map (cG · a)) w):=by
 obtain ⟨cz,G0,hmk⟩:=qY fs.length (by omega)
 have M0:∃ao cap,fv=.slice ao fs.length cap/\(0<fs.length->∃g,ao=some ⟨g,0,none⟩):=by
  rcases hI.2 with ⟨rfl,h0⟩|⟨g,cap,_,rfl,_⟩
  ·exact ⟨none,0,by rw[h0],λh=>by omega⟩
  ·exact ⟨_,cap,rfl,λ_=>⟨g,rfl⟩⟩
 obtain ⟨ao,cap,rfl,hao⟩:=M0;have HX:=aa hX;have HS:=aa hS;have HI:=aa hI;have HF:=aa hx;have HR:=aa hr;have HQ:=aa hQ;have Cb:=aa hao;clear hX hS hI hx hr hQ hao;go_enter Tryz.func199,Tryz.ntmps199;go_wp2_with fail;clear hmk
 go_loopg [15] fs.length (λk i wr=>Ca X S n0 ns Q xs a (.slice ao fs.length cap) fs w w.heap.size k i wr)
 case atStart=>
  have hb:Below w.heap.size w (w.alloc (.cells cz 3)):=(Below.refl _ _).alloc (Nat.le_refl _) _;have hO:=af w (.cells cz 3);have kN:Ints (w.alloc (.cells cz 3)) 0 (.slice ao fs.length cap) fs:=HI.out.keep λk c hk=>(hb.block k (ae hk)).trans hk
  exact ⟨0,[],[],cz,by simp,by simp,Fx.au HX.out hb,by simpa using Jl (HS.out.below hb) kN hO,kN,hO,G0,by simp,by simpa using F2.nil⟩
 case round=>
  obtain ⟨j,js,ms,cur,rfl,hj,nz,hSh,wF,hO,hsz,iv,hF2⟩:=hrel;by_cases hlt:j<fs.length
  ·obtain ⟨f,hf⟩:∃f,fs[j]?=some f:=⟨fs[j],List.getElem?_eq_getElem hlt⟩;obtain ⟨g,rfl⟩:=Cb.out (by omega);obtain ⟨g',cap',e',SG⟩:=wF.at hf;cases e';obtain ⟨xj,MX,Y3⟩:=HF.out.get hf;have hst:=nz.cS;have HRJ:=aa ((aU.world hst Y3).append (ms:=ms));have Ur:=aa ((HR.out.world hst).append (ms:=ms))
   have abp:=aa (show ia (two X (.slice (some ⟨g,0,none⟩) fs.length cap) w.heap.size) wr from by
    rintro k (hk|hk|rfl)
    ·exact (HX.out.fx nz) k hk
    ·obtain ⟨c,hc⟩:=wF.block hk;exact ae hc
    ·exact ae hO)
   have HQJ:=aa (HQ.out xj (List.mem_of_getElem? MX));have DR:=aa nz;have HSh:=aa hSh;have Mv:=aa wF;have HO:=aa hO;have AK:=aa iv;have eG:=aa hF2;have HXJ:=aa MX;clear nz hSh wF hO iv hF2 MX Y3 hst hf;go_wp2_with fail;refine (MW _ S n0 (ns++ms) Q xj a f wr abp.out HSh.out HRJ.out ha Ur.out HQJ.out).mono ?_;rintro e w2 ⟨i2,ks,rfl,hF2,j4,xN⟩
   have Tb:w2.heap[w.heap.size]?=some (.cells cur 3 (0,0)):=(hF2.keep _ (.inr (.inr rfl))).trans HO.out;have o1:w2.cell? ⟨w.heap.size,j,none⟩=some (cur[j]'(by omega)):=by simp[World.cell?,Tb,hsz,hlt]
   have of:w2.frozen? ⟨w.heap.size,j,none⟩=false:=by simp[World.frozen?,Tb]
   have abq:=aa hF2;have xT:=aa j4;have lF:=aa xN;have HO2:=aa Tb;clear hF2 j4 xN Tb;go_wp2_with fail;obtain ⟨k',rfl⟩:∃k',gk=k'+1:=⟨gk - 1,by omega⟩;have hstep:=Jm HX.out HI.out hj DR.out Mv.out hsz AK.out eG.out HXJ.out abq.out xT.out lF.out HO2.out;go_roundg k'
   case measure=>omega
   case rel=>exact hstep
  ·have DR:=aa nz;have HSh:=aa hSh;have HO:=aa hO;have AK:=aa iv;have eG:=aa hF2;clear nz hSh wF hO iv hF2;go_wp2_with fail;go_ret;exact MZ HX.out hlen HF.out.length (by omega) DR.out HSh.out HO.out hsz AK.out eG.out
def QT(b:UInt8)(d:D):Prop:=∀X S n0 ns Q k w,ia X w->Shelf w X S n0 ns Q->aU (aF w) n0 ns d k->(∀t∈ey d,t∈Q)->d.sz<=1000000 ->
 Calls Tryz.prog 178 #[.pointer (some ⟨S,0,none⟩),.int .i64 k,.int .u8 b.toNat] w (bI X S n0 ns Q (pd b d) w)
theorem Shelf.at(h:Shelf w X S n0 ns Q)(hk:ns[k]?=some nd):
  ∃g cap,w.cell? ⟨S,0,none⟩=some (.slice (some ⟨g,0,none⟩) ns.length cap)/\w.cell? ⟨g,k*5,none⟩=some (.int .i64 nd.kind)/\w.cell? ⟨g,k*5+1,none⟩=some nd.has /\
   w.cell? ⟨g,k*5+2,none⟩=some (.int .i64 nd.left)/\w.cell? ⟨g,k*5+3,none⟩=some (.int .i64 nd.right)/\w.cell? ⟨g,k*5+4,none⟩=some (.bool nd.empty)/\Form nd.has:=by
 obtain ⟨sv,J,m,f,h1,h2,_⟩:=h.ex;obtain ⟨g,cap,rfl,q0,q1,q2,q3,q4⟩:=h2.at hk;exact ⟨g,cap,by simp[World.cell?,h1],q0,q1,q2,q3,q4,h2.2 nd (List.mem_of_getElem? hk)⟩
def jv(X:Nat->Prop)(E:Nat):Nat->Prop:=λk=>X k∨k=E
theorem iG(h:Shelf w X S n0 ns Q)(o:Obj):Shelf (w.alloc o) (jv X w.heap.size) S n0 ns Q:=
 h.keep (bH.au ((Below.refl _ _).alloc (Nat.le_refl _) _)) (λ_ _ _ ho _=>heap_alloc_old ho) (λk hk=>by
  rcases hk with hk|rfl
  ·exact .inl hk
  ·exact .inr λo ho=>by have:=ae ho;omega)
theorem lQ(h:ia X w)(o:Obj):ia (jv X w.heap.size) (w.alloc o):=by
 rintro k (hk|rfl)
 ·have:=h k hk;simp;omega
 ·simp
theorem Fx.gT(h:Fx X w.drew w'):Fx X w w':=⟨h.os,h.tape,h.output,h.size,h.keep,h.stay⟩
theorem Shelf.drew(h:Shelf w X S n0 ns Q):Shelf w.drew X S n0 ns Q:=h.drewN 1
theorem tH{a0 a1 a2 a3 a4:Value}(hE:w.heap[E]?=some (.cells #[a0,a1,a2,a3,a4] 292 (0,0)))(hF:Fx (jv X E) w w'):
  w'.cell? ⟨E,2,none⟩=some a2/\w'.cell? ⟨E,3,none⟩=some a3:=by
 have h:=(hF.keep E (.inr rfl)).trans hE;exact ⟨by simp[World.cell?,h],by simp[World.cell?,h]⟩
theorem Shelf.less(h:Shelf w (jv X E) S n0 ns Q):Shelf w X S n0 ns Q:=
 h.keep (bH.refl _) (λ_ _ _ h _=>h) (λ_ h=>.inl (.inl h))
theorem Row.less(h:Row w (jv X E) v js):Row w X v js:=⟨h.1,λk hk hx=>h.2 k hk (.inl hx)⟩
theorem eH(h:Form v)(a:Addr)(m:Mode)(w:World):(store a v m).run Tryz.prog w=stored Tryz.prog w a v m:=run_store _ w a v m h.one
theorem pM{b:UInt8}{a:aN}(h:∀t∈(qI d).map (cG · a),t∈Q):∀x∈pd b d,cG x a∈Q:=
 λx hx=>h _ (List.mem_map.2 ⟨x,Mi b d x hx,rfl⟩)
set_option maxHeartbeats 2000000 in
theorem qZ(b:UInt8)(k l:Nat)(hv:Value)(r:Nat)(e:Bool)(d:D)(a:aN)(hd:QT b d)(X:Nat->Prop)(S n0:Nat)(ns:List (Nd Value))(Q:List D)(w:World)(hX:ia X w)(hS:Shelf w X S n0 ns Q)
  (hn:ns[k]?=some ⟨4,hv,l,r,e⟩) (Lc:a.ix=k) (hR:aU (aF w) n0 ns d l) (ha:a.lt n0) (GP:dR (aF w) ns a) (zz:∀t∈ey d,t∈Q) (Le:∀x∈pd b d,cG x a∈Q) (hsz:d.sz<=1000000):
  Calls Tryz.prog 178 #[.pointer (some ⟨S,0,none⟩),.int .i64 k,.int .u8 b.toNat] w (bI X S n0 ns Q ((pd b d).map (cG · a)) w):=by
 obtain ⟨g,cap,c0,m0,m1,m2,m3,m4,mL⟩:=hS.at hn;have lL:=aw hn;have hlen:=hS.length;have hst:=eH mL;have HX:=aa hX;have HS:=aa hS;have HR:=aa hR;have Ur:=aa GP;have QR:=aa zz;have HQ2:=aa Le;have HA:=aa ha;have HAK:=aa Lc
 have hb:Below w.heap.size w (w.alloc (.cells #[.int .i64 4,hv,.int .i64 l,.int .i64 r,.bool e] 292)):=(Below.refl _ _).alloc (Nat.le_refl _) _;have sT:=aa (iG hS (.cells #[.int .i64 4,hv,.int .i64 l,.int .i64 r,.bool e] 292));have qz:=aa (lQ hX (.cells #[.int .i64 4,hv,.int .i64 l,.int .i64 r,.bool e] 292));have HB:=aa hb
 clear hX hS hn hR GP zz Le mL hb ha Lc;go_enter Tryz.func178,Tryz.ntmps178;go_wp2_with fail;refine (hd _ S n0 ns Q l _ qz.out sT.out (aU.world (bH.au HB.out) HR.out) QR.out hsz).mono ?_;rintro e2 w2 ⟨v2,js,ms,rfl,hF2,j4,kN,ed⟩;have eG:=aa hF2;have xT:=aa j4;have zq:=aa kN;have jD:=aa ed;clear hF2 j4 kN ed
 go_wp2_with fail;have jK:=(bH.au HB.out).trans eG.out.cS;have qF:js.length<=1000000000:=by have h1:=jD.out.length;have h2:=fy b d;omega
 have hj:=ku _ S n0 (ns++ms) Q (pd b d) a v2 js w2 (qz.out.fx eG.out) xT.out zq.out.1 jD.out HA.out ((Ur.out.world jK).append) HQ2.out qF;rw[HAK.out]at hj;refine hj.mono ?_;rintro e3 w3 ⟨v3,PO,Tc,rfl,dB,nD,wF,G9⟩
 have ai:=aa (show bI X S n0 ns Q ((pd b d).map (cG · a)) w (.returned v3) w3 from ⟨v3,PO,ms++Tc,rfl,((Fx.au HX.out HB.out).trans (eG.out.sub λ_ h=>.inl h)).trans (dB.sub λ_ h=>.inl h),by rw[<-List.append_assoc];exact nD.less,wF.less,by rw[<-List.append_assoc];exact G9⟩);clear dB nD wF G9 hj jK;go_wp2_with fail;go_ret;exact ai.out
set_option maxHeartbeats 2000000 in
theorem td(b:UInt8)(k l:Nat)(hv:Value)(r:Nat)(e:Bool)(d:D)(hd:QT b d)(X:Nat->Prop)(S n0:Nat)(ns:List (Nd Value))(Q:List D)(w:World)(hX:ia X w)(hS:Shelf w X S n0 ns Q)
  (hn:ns[k]?=some ⟨6,hv,l,r,e⟩) (hR:aU (aF w) n0 ns d l) (zz:∀t∈ey d,t∈Q) (hsz:d.sz<=1000000):
  Calls Tryz.prog 178 #[.pointer (some ⟨S,0,none⟩),.int .i64 k,.int .u8 b.toNat] w (bI X S n0 ns Q (pd b d) w):=by
 obtain ⟨g,cap,c0,m0,m1,m2,m3,m4,mL⟩:=hS.at hn;have lL:=aw hn;have hlen:=hS.length;have hst:=eH mL;have HX:=aa hX;have HS:=aa hS;have HR:=aa hR;have QR:=aa zz;have hb:Below w.heap.size w (w.alloc (.cells #[.int .i64 6,hv,.int .i64 l,.int .i64 r,.bool e] 292)):=(Below.refl _ _).alloc (Nat.le_refl _) _
 have sT:=aa (iG hS (.cells #[.int .i64 6,hv,.int .i64 l,.int .i64 r,.bool e] 292));have qz:=aa (lQ hX (.cells #[.int .i64 6,hv,.int .i64 l,.int .i64 r,.bool e] 292));have HB:=aa hb;clear hX hS hn hR zz mL hb;go_enter Tryz.func178,Tryz.ntmps178;go_wp2_with fail
 refine (hd _ S n0 ns Q l _ qz.out sT.out (aU.world (bH.au HB.out) HR.out) QR.out hsz).mono ?_;rintro e2 w2 ⟨v2,js,ms,rfl,hF2,j4,kN,ed⟩;have ai:=aa (show bI X S n0 ns Q (pd b d) w (.returned v2) w2 from ⟨v2,js,ms,rfl,(Fx.au HX.out HB.out).trans (hF2.sub λ_ h=>.inl h),j4.less,kN.less,ed⟩);clear hF2 j4 kN ed;go_wp2_with fail;go_ret;exact ai.out
set_option maxHeartbeats 2000000 in
theorem th(b:UInt8)(k l:Nat)(hv:Value)(r:Nat)(e:Bool)(X:Nat->Prop)(S n0:Nat)(ns:List (Nd Value))(Q:List D)(w:World)(hX:ia X w)(hS:Shelf w X S n0 ns Q)
  (hn:ns[k]?=some ⟨0,hv,l,r,e⟩):
  Calls Tryz.prog 178 #[.pointer (some ⟨S,0,none⟩),.int .i64 k,.int .u8 b.toNat] w (bI X S n0 ns Q [] w):=by
 obtain ⟨g,cap,c0,m0,m1,m2,m3,m4,mL⟩:=hS.at hn;have lL:=aw hn;have hlen:=hS.length;have hst:=eH mL;have hb:Below w.heap.size w (w.alloc (.cells #[.int .i64 0,hv,.int .i64 l,.int .i64 r,.bool e] 292)):=(Below.refl _ _).alloc (Nat.le_refl _) _
 have ai:=aa (show bI X S n0 ns Q [] w (.returned (.slice none 0 0)) (w.alloc (.cells #[.int .i64 0,hv,.int .i64 l,.int .i64 r,.bool e] 292)) from
  ⟨_,[],[],rfl,Fx.au hX hb,by simpa using hS.below hb,⟨World.ownsRow_nil _ _ _ _,λk hk=>by cases hk⟩,.nil⟩)
 clear hX hS hn mL hb;go_enter Tryz.func178,Tryz.ntmps178;go_wp2_with fail;go_ret;exact ai.out
set_option maxHeartbeats 2000000 in
theorem q8(b:UInt8)(k l:Nat)(hv:Value)(r:Nat)(e:Bool)(c:eC)(X:Nat->Prop)(S n0:Nat)(ns:List (Nd Value))(Q:List D)(w:World)(hX:ia X w)(hS:Shelf w X S n0 ns Q)
  (hn:ns[k]?=some ⟨1,hv,l,r,e⟩) (hc:aF w hv c):
  Calls Tryz.prog 178 #[.pointer (some ⟨S,0,none⟩),.int .i64 k,.int .u8 b.toNat] w (bI X S n0 ns Q (if c.has b then [.base .dh] else []) w):=by
 obtain ⟨g,cap,c0,m0,m1,m2,m3,m4,mL⟩:=hS.at hn;have lL:=aw hn;have hlen:=hS.length;have hst:=eH mL;have hb:Below w.heap.size w (w.alloc (.cells #[.int .i64 1,hv,.int .i64 l,.int .i64 r,.bool e] 292)):=(Below.refl _ _).alloc (Nat.le_refl _) _;obtain ⟨gf,cf,ev,hen,Cc⟩:=(hc.stay (bH.au hb)).tells;subst ev;have HT:=aa (Cc b);unfold Enters at hen
 have HX:=aa hX;have HS:=aa hS;have HB:=aa hb;clear hX hS hn mL hb Cc hc
 cases hcb:c.has b with
 | true=>
  have hb2:Below w.heap.size w ((w.alloc (.cells #[.int .i64 1,.func (.func gf) #[] cf,.int .i64 l,.int .i64 r,.bool e] 292)).alloc (.cells #[.int .i64 0] 3)):=HB.out.alloc (by simp) _
  have ai:=aa (show bI X S n0 ns Q [.base .dh] w (.returned (.slice (some ⟨w.heap.size+1,0,none⟩) 1 1)) ((w.alloc (.cells #[.int .i64 1,.func (.func gf) #[] cf,.int .i64 l,.int .i64 r,.bool e] 292)).alloc (.cells #[.int .i64 0] 3)) from by
   have hO:=af (w.alloc (.cells #[.int .i64 1,.func (.func gf) #[] cf,.int .i64 l,.int .i64 r,.bool e] 292)) (.cells #[.int .i64 0] 3);refine ⟨_,[0],[],rfl,Fx.au HX.out hb2,by simpa using HS.out.below hb2,⟨⟨by simp,.inr ⟨w.heap.size+1,1,#[.int .i64 0],rfl,Nat.zero_le _,by simpa using hO,Nat.le_refl _,by unfold maxLen;omega,rfl,rfl⟩⟩,?_⟩,?_⟩
   ·intro k hk QQ;have e:w.heap.size+1=k:=Option.some.inj hk;have:=HX.out _ QQ;omega
   ·have h0:=HS.out.dh.world (bH.au hb2);simp only[List.append_nil];exact .cons ⟨rfl,HS.out.pos,h0⟩ .nil)
  simp only[if_true];clear hb2;go_enter Tryz.func178,Tryz.ntmps178;go_wp2_with fail;refine HT.out.mono ?_;rintro e2 w2 ⟨rfl,rfl⟩;rw[hcb];go_wp2_with fail;go_ret;exact ai.out
 | false=>
  have ai:=aa (show bI X S n0 ns Q [] w (.returned (.slice none 0 0)) (w.alloc (.cells #[.int .i64 1,.func (.func gf) #[] cf,.int .i64 l,.int .i64 r,.bool e] 292)) from
   ⟨_,[],[],rfl,Fx.au HX.out HB.out,by simpa using HS.out.below HB.out,⟨World.ownsRow_nil _ _ _ _,λk hk=>by cases hk⟩,.nil⟩)
  simp only[Bool.false_eq_true,if_false];go_enter Tryz.func178,Tryz.ntmps178;go_wp2_with fail;refine HT.out.mono ?_;rintro e2 w2 ⟨rfl,rfl⟩;rw[hcb];go_wp2_with fail;go_ret;exact ai.out
set_option maxHeartbeats 4000000 in
theorem q9(b:UInt8)(k l:Nat)(hv:Value)(r:Nat)(e:Bool)(d:D)(a:aN)(hd:QT b d)(X:Nat->Prop)(S n0:Nat)(ns:List (Nd Value))(Q:List D)(w:World)(hX:ia X w)(hS:Shelf w X S n0 ns Q)
  (hn:ns[k]?=some ⟨5,hv,l,r,e⟩) (Lc:a.ix=r) (hR:aU (aF w) n0 ns d l) (ha:a.lt n0) (GP:dR (aF w) ns a) (zz:∀t∈ey d,t∈Q) (Le:∀x∈pd b d,cG x a∈Q) (hsz:d.sz<=1000000):
  Calls Tryz.prog 178 #[.pointer (some ⟨S,0,none⟩),.int .i64 k,.int .u8 b.toNat] w (bI X S n0 ns Q ((pd b d).map (cG · a)) w):=by
 obtain ⟨g,cap,c0,m0,m1,m2,m3,m4,mL⟩:=hS.at hn;have lL:=aw hn;have hlen:=hS.length;have hst:=eH mL;subst Lc;have HX:=aa hX;have HS:=aa hS;have HR:=aa hR;have Ur:=aa GP;have QR:=aa zz;have HQ2:=aa Le;have HA:=aa ha;obtain ⟨r,hr⟩:∃r,r=a.ix:=⟨_,rfl⟩;rw[<-hr]at m3;have tV:=aa hr
 have hb:Below w.heap.size w (w.alloc (.cells #[.int .i64 5,hv,.int .i64 l,.int .i64 r,.bool e] 292)):=(Below.refl _ _).alloc (Nat.le_refl _) _;have sT:=aa (iG hS (.cells #[.int .i64 5,hv,.int .i64 l,.int .i64 r,.bool e] 292));have qz:=aa (lQ hX (.cells #[.int .i64 5,hv,.int .i64 l,.int .i64 r,.bool e] 292));have HB:=aa hb
 have HE:=aa (af w (.cells #[.int .i64 5,hv,.int .i64 l,.int .i64 r,.bool e] 292));have HD:=aa (hd _ S n0 ns Q l (w.alloc (.cells #[.int .i64 5,hv,.int .i64 l,.int .i64 r,.bool e] 292)).drew qz.out sT.out.drew (aU.world (bH.au hb.drew) hR) zz hsz)
 have HJ:=aa (λ(w2:World) (v2:Value) (js:List Nat) (ms:List (Nd Value)) (hF2:Fx (jv X w.heap.size) (w.alloc (.cells #[.int .i64 5,hv,.int .i64 l,.int .i64 r,.bool e] 292)) w2) (j4:Shelf w2 (jv X w.heap.size) S n0 (ns++ms) Q) (kN:Row w2 (jv X w.heap.size) v2 js) (ed:F2 (aU (aF w2) n0 (ns++ms)) (pd b d) js)=>by
  have qF:js.length<=1000000000:=by have h1:=ed.length;have h2:=fy b d;omega
  have jK:=(bH.au hb).trans hF2.cS;have:=ku _ S n0 (ns++ms) Q (pd b d) a v2 js w2 (qz.out.fx hF2) j4 kN.1 ed ha ((GP.world jK).append) Le qF;rw[<-hr]at this;exact this)
 clear hX hS hn hR GP zz Le mL hb ha hr;go_enter Tryz.func178,Tryz.ntmps178;go_wp2_with fail
 go_region_with (first
  | (go_at_call 178;refine HD.out.mono ?_;rintro e2 w2 ⟨v2,js,ms,rfl,hF2,j4,kN,ed⟩;have eG:=aa hF2.gT;have xT:=aa j4;have zq:=aa kN;have jD:=aa ed;clear hF2 j4 kN ed;obtain ⟨q2,q3⟩:=tH HE.out eG.out)
  | (go_at_call 199;refine (HJ.out w2 v2 js ms eG.out xT.out zq.out jD.out).mono ?_;rintro e3 w3 ⟨v3,PO,Tc,rfl,dB,nD,wF,G9⟩;have gN:=aa dB;have QB:=aa nD;have Mv:=aa wF;have PQ:=aa G9;clear dB nD wF G9))
 all_goals
  have ai:=aa (show bI X S n0 ns Q ((pd b d).map (cG · a)) w (.returned v3) w3 from ⟨v3,PO,ms++Tc,rfl,((Fx.au HX.out HB.out).trans (eG.out.sub λ_ h=>.inl h)).trans (gN.out.sub λ_ h=>.inl h),by rw[<-List.append_assoc];exact QB.out.less,Mv.out.less,by rw[<-List.append_assoc];exact PQ.out⟩);go_wp2_with fail;go_ret;exact ai.out
end Go.Proofs.YtgncgdkpkkdaeaaGreatDoor
