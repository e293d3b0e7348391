import Derived.Test.YtgncgdkpkkdaeaaGreatDoorAQA
set_option maxRecDepth 20000
set_option maxHeartbeats 2000000
namespace Go.Proofs.YtgncgdkpkkdaeaaGreatDoor
open Go.RowKit bu Go.Maps
variable {ms xs:List Value} {B0 N bW lim m z:Nat} {mk:Nat->List Value} {ao:Option Addr} {P:Program} {R T:TypeId} {lv x x0:Value} {F:Value->Array Value} {W w:World}
theorem uj(w:World)(base:Nat)(t ty e:TypeId)(i:TypeInfo)(z:Value)(size bytes:Nat)(ht:P.underlying t=some (.slice e))(hi:P.info? e=some i)(hz:i.zero=some z)
  (hsize:i.size=size) (hby:i.bytes=bytes) (hzs:z.cells.size=size) (hsz:0<size)
  (v:Value) (n:Nat) (xs:List Value) (hown:w.ownsRow base e size v n xs)
  (a:Addr) (m c:Nat) (news:List Value) (hl:news.length=m*size) (hnews:∀j u,news[j]?=some u->w.cell? (a.add j)=some u) (h1:∀u∈news,u.oneCell'=true)
  (h63:n+m<=maxLen) (hbytes:(n+m)*bytes<=140737488355328) (hbase:base<=w.heap.size):
  ∃v' w',(Builtin.append_ #[t,t] ty #[v,.slice (some a) m c]).run P w=.ok v' w'/\w'.ownsRow base e size v' (n+m) (xs++news)/\w.grownBy w' v.ownBlock /\
   (v'.ownBlock=v.ownBlock∨v'.ownBlock=some w.heap.size/\w.grownBy w' none):=by
 obtain ⟨v',w',hr,h2,h3,-,h5⟩:=run_append_own_at (P:=P) w base t ty e i z size bytes ht hi hz hsize hby hzs hsz v n xs hown a m c news hl hnews h1 h63 hbytes hbase;refine ⟨v',w',hr,h2,h3,h5.imp id λh=>⟨h,?_⟩⟩;rcases hown.2 with ⟨rfl,rfl⟩|⟨g,cap,cur,rfl,hbg,hg,hnc,hcm,hcs,adh⟩
 ·exact h3
 ·by_cases hroom:n+m<=cap
  ·have acj:n*i.size+news.length<=cur.size:=by rw[hl,hcs,hsize,<-Nat.add_mul];exact Nat.mul_le_mul_right _ hroom
   have AG:=run_append_room (P:=P) w t ty e i ht hi g n cap cur hg a m c news (by rw[hsize];exact hl) hnews h1 hroom acj;rw[AG]at hr;cases hr;have:=(Array.getElem?_eq_some_iff.1 hg).1;simp[Value.ownBlock]at h;omega
  ·obtain ⟨v2,w2,AG,-,h4⟩:=run_append_arg_grows (P:=P) w t ty e i z size bytes ht hi hz hsize hby hzs hsz ⟨g,0,none⟩ n cap xs hown.1 (hown.cells (g:=g) rfl) a m c news hl hnews (by omega) h63 hbytes;rw[AG]at hr;cases hr;exact h4
theorem jh(w:World){ops:Array Oper}{rest:List Oper}{o:Oper}{a:Act}{Q:Exit->Act->World->Prop}(hgd:o.guard=none)(s x:Operand)(t:TypeId)
  (ho:o.op=.call { callee:=.builtin .append,args:=#[s,x],argTypes:=#[t,t] })
  (base:Nat) (e:TypeId) (i:TypeInfo) (z:Value) (size bytes:Nat) (ht:P.underlying t=some (.slice e)) (hi:P.info? e=some i) (hz:i.zero=some z)
  (hsize:i.size=size) (hby:i.bytes=bytes) (hzs:z.cells.size=size) (hsz:0<size)
  (v:Value) (n:Nat) (xs:List Value) (hs:a.eval s=v) (hown:w.ownsRow base e size v n xs)
  (ad:Addr) (m c:Nat) (news:List Value) (hx:a.eval x=.slice (some ad) m c) (hl:news.length=m*size) (hnews:∀j u,news[j]?=some u->w.cell? (ad.add j)=some u) (h1:∀u∈news,u.oneCell'=true)
  (h63:n+m<=maxLen) (hbytes:(n+m)*bytes<=140737488355328) (hbase:base<=w.heap.size)
  (h:∀v' w',w'.ownsRow base e size v' (n+m) (xs++news)->w.grownBy w' v.ownBlock->(v'.ownBlock=v.ownBlock∨v'.ownBlock=some w.heap.size/\w.grownBy w' none)->wpList P ops Q rest (a.put o.dst v') w'):
  wpList P ops Q (o::rest) a w:=by
 refine wpList_plain hgd λK hK=>?_
 obtain ⟨v',w',hr,h2,h3,h4⟩:=uj (P:=P) w base t o.type e i z size bytes ht hi hz hsize hby hzs hsz v n xs hown ad m c news hl hnews h1 h63 hbytes hbase;unfold Oper.wp execOp;simp only[ho,resolve,invoke,builtin,Sem.run_bind,Sem.run_pure,Result.andThen_ok,List.map_toArray,List.map_cons,List.map_nil,hs,hx,hr];exact hK _ _ (h v' w' h2 h3 h4)
structure BP(w:World)(T R:TypeId)(z:Nat)(mk:Nat->List Value)(F:Value->Array Value)(bW B0:Nat)(x0:Value)(W:World)(lv:Value)(N lim:Nat)(x:Value)(ms:List Value):Prop where
 cell:W.heap[bW]?=some (.cells (F x) 55 (0,0))
 row:ik W R x ms
 own:∃xs,W.ownsRow B0 T z lv N xs
 sm:∀(k:Nat) v,ms[k]?=some v->fN W T z (mk k) v lv.ownBlock lim
 off:aM (λk=>k=bW∨x0.ownBlock=some k∨B0<=k) w W
 at_:∀k,x.ownBlock=some k->x0.ownBlock=some k∨B0<=k
 base:B0<=w.heap.size
structure OwT(T R:TypeId)(z:Nat)(mk:Nat->List Value):Prop where
 tr:T≠R
 tw:T≠55
 rw:R≠55
 st:jK T=false
 len:∀k,(mk k).length<=z
theorem nT(h:W.ownsRow B0 T z lv N xs){g:Nat}(hg:lv.ownBlock=some g):∃cap cur,lv=.slice (some ⟨g,0,none⟩) N cap/\B0<=g/\W.heap[g]?=some (.cells cur T (0,0))/\N<=cap/\cur.size=cap*z/\cur.toList.take (N*z)=xs/\cap<=maxLen:=by
 rcases h.2 with ⟨rfl,_⟩|⟨g',cap,cur,rfl,h1,h2,h3,h4,h5,h6⟩
 ·cases hg
 ·cases hg;exact ⟨cap,cur,rfl,h1,h2,h3,h5,h6,h4⟩
theorem BP.Sv(h:BP w T R z mk F bW B0 x0 W lv N lim x ms)(ha:0<m->∃g,ao=some ⟨g,lim,none⟩/\lv.ownBlock=some g)(hm:lim+m*z<=N*z)(h8:m<=8000)(hf:ms.length<=100000000):qN W T R z F bW x ms ao m:=by
 refine ⟨h.cell,h.row,?_,h8,hf⟩;rcases Nat.eq_zero_or_pos m with h0|h0
 ·exact .inl h0
 ·obtain ⟨g,e,hg⟩:=ha h0;obtain ⟨xs,hx⟩:=h.own;obtain ⟨cap,cur,_,_,h2,h3,h4,_⟩:=nT hx hg;refine .inr ⟨g,lim,cur,e,h2,?_⟩;rw[h4];exact bJ hm (Nat.mul_le_mul_right _ h3)
theorem BP.mark(h:BP w T R z mk F bW B0 x0 W lv N lim x ms)(ht:OwT T R z mk){c:Nat}{W':World}(ho:qO W T R z (mk ms.length) F bW x ms ao m (.slice ao m c) W')(ha:0<m->∃g,ao=some ⟨g,lim,none⟩/\lv.ownBlock=some g)(hm:lim+m*z<=N*z)(h8:m<=8000):∃x',BP w T R z mk F bW B0 x0 W' lv N (lim+m*z) x' (ms++[.slice ao m c]):=by
 obtain ⟨x',h1,h2,h3,h4,h5⟩:=ho;obtain ⟨xs,hx⟩:=h.own
 have nb:∀{g cur},W.heap[g]?=some (.cells cur T (0,0))->g≠bW/\x.ownBlock≠some g:=λ{g cur} hh=>by
  refine ⟨λe=>?_,λe=>?_⟩
  ·rw[e,h.cell]at hh;cases hh;exact ht.tw rfl
  ·obtain ⟨_,c9,h9⟩:=ar h.row.1 e;rw[hh]at h9;cases h9;exact ht.tr rfl
 have tk:∀(g:Nat) cur,W.heap[g]?=some (.cells cur T (0,0))->∃cur',W'.heap[g]?=some (.cells cur' T (0,0))/\cur'.size=cur.size/\∀y,(lv.ownBlock=some g->y<lim)->cur'[y]?=cur[y]?:=λg cur hh=>by
  by_cases hg:0<m/\∃o,ao=some ⟨g,o,none⟩
  ·obtain ⟨h0,o,e⟩:=hg;obtain ⟨g',e',hg'⟩:=ha h0;rw[e]at e';cases e';obtain ⟨cur',q1,q2,q3,_⟩:=h5 g lim cur h0 e hh;exact ⟨cur',q1,q2,λy hy=>q3 y (.inl (hy hg'))⟩
  ·exact ⟨cur,h4.same hh (λhy=>by
    rcases hy with hy|hy|hy
    ·exact (nb hh).1 hy
    ·exact (nb hh).2 hy
    ·exact hg hy),rfl,λ_ _=>rfl⟩
 refine ⟨x',h1,h2,?_,λk v hv=>?_,h.off.trans (h4.sub λk hk hy=>?_),λk hk=>?_,h.base⟩
 ·rcases hx.2 with ⟨rfl,rfl⟩|⟨g,cap,cur,rfl,k1,k2,k3,k4,k5,k6⟩
  ·exact ⟨[],World.ownsRow_nil _ _ _ _⟩
  ·obtain ⟨cur',q1,q2,_⟩:=tk g cur k2;refine ⟨cur'.toList.take (N*z),?_,.inr ⟨g,cap,cur',rfl,k1,q1,k3,k4,by rw[q2];exact k5,rfl⟩⟩;rw[List.length_take,Array.length_toList,q2,k5,Nat.min_eq_left (Nat.mul_le_mul_right _ k3)]
 ·rw[List.getElem?_append]at hv;split at hv
  ·exact (h.sm k v hv).keep (ht.len k) λg cur hh=>by obtain ⟨cur',q1,_,q3⟩:=tk g cur hh;exact ⟨cur',q1,q3,λe=>⟨e,by omega⟩⟩
  ·rename_i hk
   obtain ⟨rfl,rfl⟩:k=ms.length/\v=.slice ao m c:=by
    have:=az hv;simp only[fe,List.length_nil]at this;have e:k - ms.length=0:=by omega
    rw[e]at hv;simp at hv;exact ⟨by omega,hv.symm⟩
   refine ⟨ao,m,c,rfl,h8,?_⟩;rcases Nat.eq_zero_or_pos m with h0|h0
   ·exact .inl h0
   ·obtain ⟨g,e,hg⟩:=ha h0;obtain ⟨cap,cur,_,_,k2,_⟩:=nT hx hg;obtain ⟨cur',q1,_,_,q4⟩:=h5 g lim cur h0 e k2;exact .inr ⟨g,lim,cur',e,q1,λi hi q u hu=>q4 i hi q u hu,λ_=>bc _⟩
 ·rcases hy with hy|hy|⟨h0,o,e⟩
  ·exact .inl hy
  ·exact .inr (h.at_ k hy)
  ·obtain ⟨g,e',hg⟩:=ha h0;rw[e]at e';cases e';exact .inr (.inr (ar hx hg).1)
 ·rcases h3 k hk with hk|hk
  ·exact h.at_ k hk
  ·exact .inr (bJ h.base (bJ h.off.size hk))
theorem BP.app(h:BP w T R z mk F bW B0 x0 W lv N (N*z) x ms)(ht:OwT T R z mk){wa W2:World}{lv':Value}{zs:List Value}(jr:Below W.heap.size W wa)(hx:wa.ownsRow B0 T z lv N xs)(hr:W2.ownsRow B0 T z lv' (N+1) (xs++zs))(hg:wa.grownBy W2 lv.ownBlock)(hat:lv'.ownBlock=lv.ownBlock∨lv'.ownBlock=some wa.heap.size/\wa.grownBy W2 none):BP w T R z mk F bW B0 x0 W2 lv' (N+1) (N*z) x ms:=by
 have key:∀{k:Nat} {c t f},W.heap[k]?=some (.cells c t f)->t≠T->W2.heap[k]?=some (.cells c t f):=λ{k c t f} hh hne=>by have hl:=ae hh;rw[hg.block k (dw hl jr.size) (λe=>?_),jr.block k hl,hh];obtain ⟨_,c9,h9⟩:=ar hx e.symm;rw[jr.block k hl,hh]at h9;cases h9;exact hne rfl
 refine ⟨key h.cell ht.tw.symm,h.row.keep λk hk=>?_,⟨_,hr⟩,λk v hv=>(h.sm k v hv).keep (ht.len k) λg cur hh=>?_,?_,h.at_,h.base⟩
 ·obtain ⟨_,c9,h9⟩:=ar h.row.1 hk;rw[h9];exact key h9 ht.tr.symm
 ·have hl:=ae hh;have TL:=dw hl jr.size;have hha:=(jr.block g hl).trans hh;rcases hat with e|⟨e,hg2⟩
  ·by_cases ho:lv.ownBlock=some g
   ·obtain ⟨cap,adR,_,_,k2,k3,k4,k5,_⟩:=nT hx ho;rw[hha]at k2;cases k2;obtain ⟨cap',ui,_,_,q2,q3,q4,q5,_⟩:=nT hr (e.trans ho);refine ⟨ui,q2,λy hy=>?_,λ_=>⟨ho,bc _⟩⟩;have hy:=hy ho;have e1:cur.toList[y]?=xs[y]?:=by rw[<-k5,List.getElem?_take_of_lt hy]
    have e2:ui.toList[y]?=(xs++zs)[y]?:=by rw[<-q5,List.getElem?_take_of_lt (dw hy (Nat.mul_le_mul_right _ (Nat.le_succ _)))]
    rw[nz (by rw[hx.1];exact hy),<-e1]at e2;simpa using e2
   ·exact ⟨cur,(hg.block g TL (λe=>ho e.symm)).trans hha,λ_ _=>rfl,λe'=>absurd (e.symm.trans e') ho⟩
  ·exact ⟨cur,(hg2.block g TL (by simp)).trans hha,λ_ _=>rfl,λe'=>by rw[e]at e';cases e';omega⟩
 ·have h1:=h.off.trans (aM.ay (Y:=λk=>k=bW∨x0.ownBlock=some k∨B0<=k) jr);refine Fx.grown h1 hg (λk hk=>dw hk.1 h1.size) (λk hk hy=>hy.2 (.inr (.inr (ar hx hk).1))) (λk hk cc t fz hh=>?_);obtain ⟨_,c9,h9⟩:=ar hx hk;rw[hh]at h9;cases h9;exact ht.st
theorem sH:OwT 70 64 5 DB:=⟨by decide,by decide,by decide,by decide,λ_=>bc _⟩
theorem sI:OwT 9 61 1 IR:=⟨by decide,by decide,by decide,by decide,λ_=>bc _⟩
def sJ(w:World)(T R:TypeId)(z:Nat)(mk:Nat->List Value)(F:Value->Array Value)(bW B0 n0 m0:Nat)(x0:Value)(k:Nat)(vl vk:Value)(W:World):Prop:=
 ∃(r:Nat) (N:Nat) (x:Value) (ms:List Value),vk=.int .i64 r/\r+k=4/\N=n0+r/\ms.length=m0+r/\BP w T R z mk F bW B0 x0 W vl N (N*z) x ms
def A9(w:World)(T R:TypeId)(z:Nat)(mk:Nat->List Value)(F:Value->Array Value)(bW B0 m0:Nat)(x0:Value)(e:Ending)(W:World):Prop:=
 e=.returned (.tuple #[])/\∃lv N x ms,ms.length=m0/\BP w T R z mk F bW B0 x0 W lv N (N*z) x ms
theorem Ba(bW B0:Nat)(gv tv sv nv Wy:Value)(n0:Nat)(DC:List Value)(w:World)(h:BP w 70 64 5 DB (λx=>#[gv,tv,x,nv]) bW B0 sv w Wy n0 0 sv DC)(hn:n0<=7000)(hm:DC.length<=90000000):
  Calls Tryz.prog 45 #[.pointer (some ⟨bW,0,none⟩),Wy] w (A9 w 70 64 5 DB (λx=>#[gv,tv,x,nv]) bW B0 (DC.length+5) sv):=by
 obtain ⟨i0,uL,hz0,hz1,hz3⟩:=info_parts fc;obtain ⟨ao,c,hlv⟩:∃ao c,Wy=.slice ao n0 c:=by obtain ⟨xs,hx⟩:=h.own;exact aC hx
 subst hlv;have ha0:0<n0->∃g,ao=some ⟨g,0,none⟩/\(Value.slice ao n0 c).ownBlock=some g:=λh0=>by obtain ⟨xs,hx⟩:=h.own;obtain ⟨g,cap,e⟩:=aB hx h0;cases e;exact ⟨g,rfl,rfl⟩
 have ll:=aa (oO bW gv tv sv nv DC ao n0 c w (h.Sv ha0 (by omega) (by omega) (by omega)));have fk:=aa (λW' ho=>h.mark sH (W':=W') (c:=c) ho ha0 (by omega) (by omega));clear h ha0;go_enter Tryz.func45,Tryz.ntmps45;go_wp2_with fail;refine ll.out.mono ?_;rintro e w1 ⟨rfl,ho⟩;obtain ⟨x1,h1⟩:=fk.out w1 ho
 rw[Nat.zero_add]at h1;have Q7:=aa (show sJ w 70 64 5 DB (λx=>#[gv,tv,x,nv]) bW B0 n0 (DC.length+1) sv 4 (.slice ao n0 c) (.int .i64 0) w1 from ⟨0,n0,x1,_,rfl,rfl,rfl,by simp,h1⟩);clear ho h1 fk ll;go_wp2_with fail;go_loopg [1,4] 4 (λk vl vk wr=>sJ w 70 64 5 DB (λx=>#[gv,tv,x,nv]) bW B0 n0 (DC.length+1) sv k vl vk wr)
 case atStart=>exact Q7.out
 case round=>
  obtain ⟨r,N,x,ms,rfl,hr,hN,QL,hj⟩:=hrel;obtain ⟨xs,hx⟩:=hj.own;obtain ⟨Vu,c1,hv1⟩:=aC hx;subst hv1;have hNb:N<=7004:=by omega
  have T6:=aa hN;clear hN;by_cases hlt:r<4
  ·have g1:decide ((r:Int)<4)=true:=cF (by omega);have hwr:IntKind.i64.wrap ((r:Int)+1)=(r:Int)+1:=by rw[IntKind.wrap_i64];omega
   obtain ⟨wa,xH⟩:∃wa,wr.alloc (.cells #[.int .i64 0,.int .i64 0,.string ⟨#[]⟩,.int .i64 0,.string ⟨#[]⟩] 70)=wa:=⟨_,rfl⟩;have jr:Below wr.heap.size wr wa:=by rw[<-xH];exact cq _ _
   have yD:wa.ownsRow B0 70 5 (.slice Vu N c1) N xs:=bq hx λk cc hh=>(jr.block k (ae hh)).trans hh
   have bj:=aa yD;have ey:=aa (λ(y:Nat) u (h:([.int .i64 0,.int .i64 0,.string ⟨#[]⟩,.int .i64 0,.string ⟨#[]⟩]:List Value)[y]?=some u)=>show wa.cell? ((⟨wr.heap.size,0,none⟩:Addr).add y)=some u from by rw[<-xH];exact aG wr #[.int .i64 0,.int .i64 0,.string ⟨#[]⟩,.int .i64 0,.string ⟨#[]⟩] _ y u h)
   have hbase:B0<=wa.heap.size:=bJ hj.base (bJ hj.off.size jr.size);have O1:=aa (λ(v':Value) (W2:World) hown hg hat=>hj.app sH (W2:=W2) (lv':=v') (zs:=[.int .i64 0,.int .i64 0,.string ⟨#[]⟩,.int .i64 0,.string ⟨#[]⟩]) jr yD hown hg hat);clear hj hx yD jr
   go_wp2_with (at_builtin;go_loud (refine jh _ rfl _ _ 64 rfl B0 70 i0 (.agg #[.int .i64 0,.int .i64 0,.string ⟨#[]⟩,.int .i64 0,.string ⟨#[]⟩]) 5 56 Tryz.underlying64 uL hz0 hz1 hz3 rfl (by decide) (.slice Vu N c1) N xs (by rfl) bj.out ⟨wr.heap.size,0,none⟩ 1 1 [.int .i64 0,.int .i64 0,.string ⟨#[]⟩,.int .i64 0,.string ⟨#[]⟩] (by rfl) rfl ey.out (by simp[Value.oneCell']) (by unfold maxLen;omega) (by omega) hbase ?_;intro v' W2 hown hg hat;have H2:=aa (O1.out v' W2 hown hg hat);obtain ⟨g',cap',rfl⟩:=aB hown (by omega);obtain ⟨rI,ui,e2,-,-,KJ,-⟩:=nT hown rfl;cases e2;have hne:¬(cap'=N):=(by omega);clear hown hg hat O1 bj ey xH))
   have ll:=aa (λcc=>oO bW gv tv x nv ms (some ⟨g',N*5,none⟩) 1 cc W2 (H2.out.Sv (λ_=>⟨g',rfl,rfl⟩) (by omega) (by omega) (by omega)));have fk:=aa (λcc W' ho=>H2.out.mark sH (W':=W') (c:=cc) (ao:=some ⟨g',N*5,none⟩) (m:=1) ho (λ_=>⟨g',rfl,rfl⟩) (by omega) (by omega));clear H2;refine (ll.out _).mono ?_;rintro e w3 ⟨rfl,ho⟩
   obtain ⟨x3,h3⟩:=fk.out _ w3 ho
   have HST:=aa (show sJ w 70 64 5 DB (λx=>#[gv,tv,x,nv]) bW B0 n0 (DC.length+1) sv (4 - (r+1)) (.slice (some ⟨g',0,none⟩) (N+1) cap') (.int .i64 ((r:Int)+1)) w3 from ⟨r+1,N+1,x3,ms++[.slice (some ⟨g',N*5,none⟩) 1 (cap' - N)],by simp,by omega,by have:=T6.out;omega,by rw[dG,QL];rfl,by rw[show (N+1)*5=N*5+1*5 by omega];exact h3⟩)
   clear ho h3 fk ll;go_wp2_with fail;go_roundg (4 - (r+1))
   case measure=>omega
   case rel=>exact HST.out
  ·have g1:decide ((r:Int)<4)=false:=bV (by omega);have aq:=aa (show A9 w 70 64 5 DB (λx=>#[gv,tv,x,nv]) bW B0 (DC.length+5) sv (.returned (.tuple #[])) wr from ⟨rfl,_,_,_,_,by omega,hj⟩);clear hj hx;go_wp2_with fail;go_end0;exact aq.out
theorem Bb(bW B0:Nat)(gv tv sv nv Wy:Value)(n0:Nat)(DC:List Value)(w:World)(h:BP w 9 61 1 IR (λx=>#[gv,tv,sv,x]) bW B0 nv w Wy n0 0 nv DC)(hn:n0<=7000)(hm:DC.length<=90000000):
  Calls Tryz.prog 46 #[.pointer (some ⟨bW,0,none⟩),Wy] w (A9 w 9 61 1 IR (λx=>#[gv,tv,sv,x]) bW B0 (DC.length+5) nv):=by
 obtain ⟨i0,uL,hz0,hz1,hz3⟩:=info_parts rC;obtain ⟨ao,c,hlv⟩:∃ao c,Wy=.slice ao n0 c:=by obtain ⟨xs,hx⟩:=h.own;exact aC hx
 subst hlv;have ha0:0<n0->∃g,ao=some ⟨g,0,none⟩/\(Value.slice ao n0 c).ownBlock=some g:=λh0=>by obtain ⟨xs,hx⟩:=h.own;obtain ⟨g,cap,e⟩:=aB hx h0;cases e;exact ⟨g,rfl,rfl⟩
 have ll:=aa (oP bW gv tv sv nv DC ao n0 c w (h.Sv ha0 (by omega) (by omega) (by omega)));have fk:=aa (λW' ho=>h.mark sI (W':=W') (c:=c) ho ha0 (by omega) (by omega));clear h ha0;go_enter Tryz.func46,Tryz.ntmps46;go_wp2_with fail;refine ll.out.mono ?_;rintro e w1 ⟨rfl,ho⟩;obtain ⟨x1,h1⟩:=fk.out w1 ho
 rw[Nat.zero_add]at h1;have Q7:=aa (show sJ w 9 61 1 IR (λx=>#[gv,tv,sv,x]) bW B0 n0 (DC.length+1) nv 4 (.slice ao n0 c) (.int .i64 0) w1 from ⟨0,n0,x1,_,rfl,rfl,rfl,by simp,h1⟩);clear ho h1 fk ll;go_wp2_with fail;go_loopg [1,4] 4 (λk vl vk wr=>sJ w 9 61 1 IR (λx=>#[gv,tv,sv,x]) bW B0 n0 (DC.length+1) nv k vl vk wr)
 case atStart=>exact Q7.out
 case round=>
  obtain ⟨r,N,x,ms,rfl,hr,hN,QL,hj⟩:=hrel;obtain ⟨xs,hx⟩:=hj.own;obtain ⟨Vu,c1,hv1⟩:=aC hx;subst hv1;have hNb:N<=7004:=by omega
  have T6:=aa hN;clear hN;by_cases hlt:r<4
  ·have g1:decide ((r:Int)<4)=true:=cF (by omega);have hwr:IntKind.i64.wrap ((r:Int)+1)=(r:Int)+1:=by rw[IntKind.wrap_i64];omega
   obtain ⟨wa,xH⟩:∃wa,wr.alloc (.cells #[.string ⟨#[]⟩] 9)=wa:=⟨_,rfl⟩;have jr:Below wr.heap.size wr wa:=by rw[<-xH];exact cq _ _
   have yD:wa.ownsRow B0 9 1 (.slice Vu N c1) N xs:=bq hx λk cc hh=>(jr.block k (ae hh)).trans hh
   have bj:=aa yD;have ey:=aa (λ(y:Nat) u (h:([.string ⟨#[]⟩]:List Value)[y]?=some u)=>show wa.cell? ((⟨wr.heap.size,0,none⟩:Addr).add y)=some u from by rw[<-xH];exact aG wr #[.string ⟨#[]⟩] _ y u h);have hbase:B0<=wa.heap.size:=bJ hj.base (bJ hj.off.size jr.size)
   have O1:=aa (λ(v':Value) (W2:World) hown hg hat=>hj.app sI (W2:=W2) (lv':=v') (zs:=[.string ⟨#[]⟩]) jr yD hown hg hat);clear hj hx yD jr
   go_wp2_with (at_builtin;go_loud (refine jh _ rfl _ _ 61 rfl B0 9 i0 (.string ⟨#[]⟩) 1 16 Tryz.underlying61 uL hz0 hz1 hz3 rfl (by decide) (.slice Vu N c1) N xs (by rfl) bj.out ⟨wr.heap.size,0,none⟩ 1 1 [.string ⟨#[]⟩] (by rfl) rfl ey.out (by simp[Value.oneCell']) (by unfold maxLen;omega) (by omega) hbase ?_;intro v' W2 hown hg hat;have H2:=aa (O1.out v' W2 hown hg hat);obtain ⟨g',cap',rfl⟩:=aB hown (by omega);obtain ⟨rI,ui,e2,-,-,KJ,-⟩:=nT hown rfl;cases e2;have hne:¬(cap'=N):=(by omega);clear hown hg hat O1 bj ey xH))
   have ll:=aa (λcc=>oP bW gv tv sv x ms (some ⟨g',N*1,none⟩) 1 cc W2 (H2.out.Sv (λ_=>⟨g',rfl,rfl⟩) (by omega) (by omega) (by omega)));have fk:=aa (λcc W' ho=>H2.out.mark sI (W':=W') (c:=cc) (ao:=some ⟨g',N*1,none⟩) (m:=1) ho (λ_=>⟨g',rfl,rfl⟩) (by omega) (by omega));rw[Nat.mul_one]at ll;clear H2;refine (ll.out _).mono ?_;rintro e w3 ⟨rfl,ho⟩
   obtain ⟨x3,h3⟩:=fk.out _ w3 (by rw[Nat.mul_one];exact ho)
   have HST:=aa (show sJ w 9 61 1 IR (λx=>#[gv,tv,sv,x]) bW B0 n0 (DC.length+1) nv (4 - (r+1)) (.slice (some ⟨g',0,none⟩) (N+1) cap') (.int .i64 ((r:Int)+1)) w3 from ⟨r+1,N+1,x3,ms++[.slice (some ⟨g',N*1,none⟩) 1 (cap' - N)],by simp,by omega,by have:=T6.out;omega,by rw[dG,QL];rfl,by rw[show (N+1)*1=N*1+1*1 by omega];exact h3⟩)
   clear ho h3 fk ll;go_wp2_with fail;go_roundg (4 - (r+1))
   case measure=>omega
   case rel=>exact HST.out
  ·have g1:decide ((r:Int)<4)=false:=bV (by omega);have aq:=aa (show A9 w 9 61 1 IR (λx=>#[gv,tv,sv,x]) bW B0 (DC.length+5) nv (.returned (.tuple #[])) wr from ⟨rfl,_,_,_,_,by omega,hj⟩);clear hj hx;go_wp2_with fail;go_end0;exact aq.out
def Bc(w:World)(n k:Nat)(vi:Value)(wr:World):Prop:=∃j:Nat,vi=.int .i64 j/\j+k=n/\Below w.heap.size w wr
theorem GF(bW:Nat)(gv tv sv nv:Value)(ms ns:List Value)(w:World)(hW:w.heap[bW]?=some (.cells #[gv,tv,sv,nv] 55 (0,0)))(hs:ik w 64 sv ms)(hn:ik w 61 nv ns)(hm:∀(k:Nat) v,ms[k]?=some v->fN w 70 5 (DB k) v none 0)(gF:∀(k:Nat) v,ns[k]?=some v->fN w 9 1 (IR k) v none 0)(hf1:ms.length<=100000000)(hf2:ns.length<=100000000):
  Calls Tryz.prog 19 #[.pointer (some ⟨bW,0,none⟩)] w λe w'=>e=.returned (.bool true)/\Below w.heap.size w w':=by
 obtain ⟨so,sc,oX⟩:=aC hs.1;obtain ⟨no,nc,hnv⟩:=aC hn.1;subst oX hnv;have c2:w.cell? ⟨bW,2,none⟩=some (.slice so ms.length sc):=ai hW rfl;have c3:w.cell? ⟨bW,3,none⟩=some (.slice no ns.length nc):=ai hW rfl;have HS:=aa hs;have HN:=aa hn;have HM:=aa hm;have jm:=aa gF;clear hs hn hm gF hW
 go_enter Tryz.func19,Tryz.ntmps19;go_wp2_with fail;go_loopg [3] ms.length (λk vk wr=>Bc w ms.length k vk wr)
 case atStart=>exact ⟨0,rfl,by omega,Below.refl _ _⟩
 case round=>
  obtain ⟨j,rfl,hk,hB⟩:=hrel;have HB:=aa hB;have k2:=ax c2 hB;by_cases hlt:j<ms.length
  ·have g1:decide ((j:Int)<(ms.length:Int))=true:=cF (by omega);have Yb:IntKind.i64.wrap ((j:Int)+1)=(j:Int)+1:=by rw[IntKind.wrap_i64];omega
   have hwm:IntKind.i64.wrap (-1 - (j:Int))=-1 - (j:Int):=by rw[IntKind.wrap_i64];omega
   obtain ⟨sg,cap,e⟩:=aB HS.out.1 (by omega);cases e;obtain ⟨v,hv⟩:∃v,ms[j]?=some v:=⟨_,cB hlt⟩;have cj:=(bG HS.out.1 hv).1;have kj:=ax cj hB;obtain ⟨ao,m,c,rfl,hm8,-⟩:=HM.out j v hv;have HMJ:=aa (HM.out j _ hv);clear hB;go_wp2_with fail;go_loopg [4] m (λk vi wq=>Bc w m k vi wq)
   case atStart=>exact ⟨0,rfl,by omega,HB.out⟩
   case round=>
    obtain ⟨i,rfl,hk2,eE⟩:=hrel;have cW:=aa eE;have p2:=ax c2 eE;have pj:=ax cj eE;by_cases iW:i<m
    ·have g2:decide ((i:Int)<(m:Int))=true:=cF (by omega);have hwi:IntKind.i64.wrap ((i:Int)+1)=(i:Int)+1:=by rw[IntKind.wrap_i64];omega
     obtain ⟨g,o,rfl,il⟩:=HMJ.out.cell (by omega);have x0:wr.cell? ⟨g,o+i*5,none⟩=some (.int .i64 (-1 - (j:Int))):=ax (il i iW 0 _ rfl) eE;have x1:wr.cell? ⟨g,o+i*5+1,none⟩=some (.int .i64 0):=ax (il i iW 1 _ rfl) eE;have x2:wr.cell? ⟨g,o+i*5+2,none⟩=some (.string ⟨#[]⟩):=ax (il i iW 2 _ rfl) eE
     have x3:wr.cell? ⟨g,o+i*5+3,none⟩=some (.int .i64 0):=ax (il i iW 3 _ rfl) eE;have x4:wr.cell? ⟨g,o+i*5+4,none⟩=some (.string ⟨#[]⟩):=ax (il i iW 4 _ rfl) eE;clear eE il;go_wp2_with fail;go_roundg (m - (i+1))
     case measure=>omega
     case rel=>exact ⟨i+1,by simp,by omega,cW.out.alloc cW.out.size _⟩
    ·have g2:decide ((i:Int)<(m:Int))=false:=bV (by omega);clear eE;go_wp2_with fail;go_roundg (ms.length - (j+1))
     case measure=>omega
     case rel=>exact ⟨j+1,by simp,by omega,cW.out⟩
  ·have g1:decide ((j:Int)<(ms.length:Int))=false:=bV (by omega);clear hB;go_wp2_with fail;go_loopg [6] ns.length (λk vk wr=>Bc w ns.length k vk wr)
   case atStart=>exact ⟨0,rfl,by omega,HB.out⟩
   case round=>
    obtain ⟨j,rfl,hk,hB⟩:=hrel;have HB:=aa hB;have k2:=ax c3 hB;by_cases hlt:j<ns.length
    ·have g1:decide ((j:Int)<(ns.length:Int))=true:=cF (by omega);have Yb:IntKind.i64.wrap ((j:Int)+1)=(j:Int)+1:=by rw[IntKind.wrap_i64];omega
     obtain ⟨sg,cap,e⟩:=aB HN.out.1 (by omega);cases e;obtain ⟨v,hv⟩:∃v,ns[j]?=some v:=⟨_,cB hlt⟩;have cj:=(bG HN.out.1 hv).1;obtain ⟨ao,m,c,rfl,hm8,-⟩:=jm.out j v hv;have HMJ:=aa (jm.out j _ hv);have vZ:=aa (ze j wr (by omega));clear hB;go_wp2_with fail;refine vZ.out.mono ?_;rintro e w1 ⟨rfl,hb1⟩
     have bM:=aa (HB.out.trans (hb1.mono HB.out.size));clear hb1 vZ k2;have q2:=ax c3 bM.out;have qj:=ax cj bM.out;go_wp2_with fail;go_loopg [8] m (λk vi wq=>Bc w m k vi wq)
     case atStart=>exact ⟨0,rfl,by omega,bM.out⟩
     case round=>
      obtain ⟨i,rfl,hk2,eE⟩:=hrel;have cW:=aa eE;have p2:=ax c3 eE;have pj:=ax cj eE;by_cases iW:i<m
      ·have g2:decide ((i:Int)<(m:Int))=true:=cF (by omega);have hwi:IntKind.i64.wrap ((i:Int)+1)=(i:Int)+1:=by rw[IntKind.wrap_i64];omega
       obtain ⟨g,o,rfl,il⟩:=HMJ.out.cell (by omega);have x0:wr.cell? ⟨g,o+i,none⟩=some (.string (Wx j)):=by have:=ax (il i iW 0 _ rfl) eE;rw[Nat.mul_one]at this;exact this
       clear eE il;go_wp2_with fail;go_roundg (m - (i+1))
       case measure=>omega
       case rel=>exact ⟨i+1,by simp,by omega,cW.out⟩
      ·have g2:decide ((i:Int)<(m:Int))=false:=bV (by omega);clear eE;go_wp2_with fail;go_roundg (ns.length - (j+1))
       case measure=>omega
       case rel=>exact ⟨j+1,by simp,by omega,cW.out⟩
    ·have g1:decide ((j:Int)<(ns.length:Int))=false:=bV (by omega);clear hB;go_wp2_with fail;go_ret;exact ⟨rfl,HB.out⟩
end Go.Proofs.YtgncgdkpkkdaeaaGreatDoor
