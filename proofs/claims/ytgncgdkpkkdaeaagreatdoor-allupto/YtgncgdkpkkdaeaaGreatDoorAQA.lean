import Derived.Test.YtgncgdkpkkdaeaaGreatDoorA4
set_option maxRecDepth 20000
set_option maxHeartbeats 2000000
namespace Go.Proofs.YtgncgdkpkkdaeaaGreatDoor
open Go.RowKit bu
def GA:Nat->Nat->ByteArray->ByteArray
 | 0,_,s=>s
 | f+1,n,s=>if n=0 then s else GA f (n / 10) (s++⟨#[48+UInt8.ofNat (n % 10)]⟩)
def Wx(n:Nat):ByteArray:=GA n n ⟨#[35]⟩
theorem O0(W:World)(d:UInt8)(n:Int)(g:Nat)(hn:n=d.toNat)(hg:g=W.heap.size):(convert 147 9 (.slice (some ⟨g,0,none⟩) 1 1)).run Tryz.prog (W.alloc (.cells #[.int .u8 n] 5))=.ok (.string ⟨#[d]⟩) (W.alloc (.cells #[.int .u8 n] 5)):=by
 subst hn hg
 exact run_convert_bytes_back _ _ _ 5 _ 1 [d] Tryz.underlying147 Tryz.underlying5 Tryz.underlying9 (λj hj=>by
  obtain rfl:j=0:=by simpa using hj
  exact World.cell?_alloc_mark W _ _ _ 0)
def Sr(n0:Nat)(w:World)(k:Nat)(vn vs:Value)(wr:World):Prop:=∃(n f:Nat) (s:ByteArray),vn=.int .i64 n/\vs=.string s/\k=n/\n<=f/\GA f n s=Wx n0/\s.size+n<=n0+1/\Below w.heap.size w wr
theorem ze(n0:Nat)(w:World)(hz:n0<=1000000000):Calls Tryz.prog 47 #[.int .i64 n0] w λe w'=>e=.returned (.string (Wx n0))/\Below w.heap.size w w':=by
 go_enter Tryz.func47,Tryz.ntmps47;go_wp2_with fail;go_loopg [0,3] n0 (λk vn vs wr=>Sr n0 w k vn vs wr)
 case atStart=>exact ⟨n0,n0,_,rfl,rfl,rfl,bc _,rfl,by show 1+n0<=n0+1;omega,Below.refl _ _⟩
 case round=>
  obtain ⟨n,f,s,rfl,rfl,ZX,hf,hl,hs,hB⟩:=hrel;by_cases h0:0<n
  ·have g1:decide ((0:Int)<(n:Int))=true:=cF (by omega);have hcv:=O0 wr (48+UInt8.ofNat (n % 10)) (48+(n:Int) % 10) wr.heap.size (by rw[show (48+UInt8.ofNat (n % 10)).toNat=(48+n % 10 % 256) % 256 by rw[UInt8.toNat_add];rfl];omega) rfl;have HB:=aa ((hB.alloc hB.size (.cells #[.int .u8 (48+(n:Int) % 10)] 5)))
   have HL:=aa (show GA (f - 1) (n / 10) (s++⟨#[48+UInt8.ofNat (n % 10)]⟩)=Wx n0 from by rw[<-hl];obtain ⟨f',rfl⟩:∃f',f=f'+1:=⟨f - 1,by omega⟩;show _=GA (f'+1) n s;rw[GA,if_neg (by omega)];rfl);clear hl hB;go_wp2_with fail;go_roundg (n / 10)
   case measure=>omega
   case rel=>exact ⟨n / 10,f - 1,_,by simp,rfl,rfl,by omega,HL.out,by rw[ByteArray.size_append];show s.size+1+n / 10<=_;omega,HB.out⟩
  ·have g1:decide ((0:Int)<(n:Int))=false:=bV (by omega);have aq:=aa hB;obtain rfl:n=0:=by omega
   have HL:=aa (show s=Wx n0 from by rw[<-hl];cases f<;>simp[GA]);clear hl hB;go_wp2_with fail;go_ret;exact ⟨by rw[HL.out];rfl,aq.out⟩
open Go.Maps
variable {cur cur':Array Value} {mk ms xs:List Value} {bW j k lim n o z:Nat} {fz:Nat×Nat} {Y:Nat->Prop} {ao:Option Addr} {own:Option Nat} {R T t:TypeId} {u v x x0:Value} {F:Value->Array Value} {w w' w1:World}
def wQ(t:TypeId):Bool:=t == 134 || t == 89 || t == 55 || t == 22 || t == 25 || t == 64 || t == 61
def GC(v:Value):Prop:=(∃a,v=.pointer a)∨∃a n m,v=.slice a n m
def mR(w:World)(k:Nat):Prop:=∃c t fz,w.heap[k]?=some (.cells c t fz)/\wQ t=true/\∀v,c[0]?=some v->GC v
theorem mS(h:mR w k)(hc:w.cell? ⟨k,0,none⟩=some v):GC v:=by obtain ⟨c,t,fz,h1,_,h3⟩:=h;simp only[World.cell?,h1]at hc;exact h3 v (by simpa using hc)
theorem jg(ho:aM Y w w')(hY:∀k,Y k->mR w k){c:Array Value}(ht:wQ t=false)(hh:w.heap[k]?=some (.cells c t fz)):w'.heap[k]?=some (.cells c t fz):=by
 refine ho.same hh λhy=>?_
 obtain ⟨c',t',XH,h1,h2,_⟩:=hY k hy;rw[hh]at h1;cases h1;rw[ht]at h2;cases h2
theorem gw(ho:aM Y w w'){p:Addr}(hc:w.cell? p=some v)(hy:¬Y p.block):w'.cell? p=some v:=(World.cell?_of_block (ho.keep _ ⟨fh hc,hy⟩)).trans hc
theorem yf:∀t,wQ t=true->jK t=false:=by intro t h;simp only[wQ,Bool.or_eq_true,beq_iff_eq]at h;rcases h with (((((rfl|rfl)|rfl)|rfl)|rfl)|rfl)|rfl<;>decide
def DB(k:Nat):List Value:=[.int .i64 (-1 - (k:Int)),.int .i64 0,.string ⟨#[]⟩,.int .i64 0,.string ⟨#[]⟩]
def IR(k:Nat):List Value:=[.string (Wx k)]
def fN(w:World)(T:TypeId)(z:Nat)(mk:List Value)(v:Value)(own:Option Nat)(lim:Nat):Prop:=
 ∃ao m c,v=.slice ao m c/\m<=8000/\(m=0∨∃g o cur,ao=some ⟨g,o,none⟩/\w.heap[g]?=some (.cells cur T (0,0))/\(∀i,i<m->∀(q:Nat) u,mk[q]?=some u->cur[o+i*z+q]?=some u)/\(own=some g->o+m*z<=lim))
theorem fN.keep{aas:Option Nat}{aat:Nat}(h:fN w T z mk v own lim)(hz:mk.length<=z)
  (hk:∀(g:Nat) cur,w.heap[g]?=some (.cells cur T (0,0))->∃cur',w'.heap[g]?=some (.cells cur' T (0,0))/\(∀x,(own=some g->x<lim)->cur'[x]?=cur[x]?)/\(aas=some g->own=some g/\lim<=aat)):fN w' T z mk v aas aat:=by
 obtain ⟨ao,m,c,rfl,hm,h1⟩:=h;refine ⟨ao,m,c,rfl,hm,h1.imp id ?_⟩;rintro ⟨g,o,cur,rfl,h2,h3,h4⟩;obtain ⟨cur',k1,k2,k3⟩:=hk g cur h2;refine ⟨g,o,cur',rfl,k1,λi hi q u hu=>?_,λe=>?_⟩
 ·rw[k2 _ λe=>?_]
  ·exact h3 i hi q u hu
  ·have e1:=h4 e;have e2:=az hu;have e3:(i+1)*z<=m*z:=Nat.mul_le_mul_right _ hi;rw[Nat.add_mul]at e3;omega
 ·obtain ⟨e1,e2⟩:=k3 e;have:=h4 e1;omega
theorem fN.off(h:fN w T z mk v own lim)(ho:aM Y w w')(hY:∀k,Y k->mR w k)(hT:wQ T=false):fN w' T z mk v own lim:=by obtain ⟨ao,m,c,rfl,hm,h1⟩:=h;refine ⟨ao,m,c,rfl,hm,h1.imp id ?_⟩;rintro ⟨g,o,cur,rfl,h2,h3⟩;exact ⟨g,o,cur,rfl,jg ho hY hT h2,h3⟩
theorem fN.cell{m c:Nat}(h:fN w T z mk (.slice ao m c) own lim)(hm:0<m):∃g o,ao=some ⟨g,o,none⟩/\∀i,i<m->∀(q:Nat) u,mk[q]?=some u->w.cell? ⟨g,o+i*z+q,none⟩=some u:=by
 obtain ⟨pW,m',c',e,-,h1⟩:=h;cases e;rcases h1 with h1|⟨g,o,cur,rfl,h2,h3,_⟩
 ·omega
 ·exact ⟨g,o,rfl,λi hi q u hu=>ai h2 (h3 i hi q u hu)⟩
def ik(w:World)(T:TypeId)(v:Value)(xs:List Value):Prop:=w.ownsRow 0 T 1 v xs.length xs/\(xs=[]->v=.slice none 0 0)/\∀x∈xs,GC x
theorem ik.Ss(h:ik w T v xs)(hT:wQ T=true)(hk:v.ownBlock=some k):mR w k:=by
 obtain ⟨h1,h2,h3⟩:=h;rcases h1.2 with ⟨rfl,_⟩|⟨g,cap,cur,rfl,_,hh,_,_,_,ht⟩
 ·cases hk
 ·cases hk;refine ⟨cur,T,(0,0),hh,hT,λu hu=>?_⟩
  cases xs with
  | nil=>cases h2 rfl
  | cons x l=>
   have h4:(x::l)[0]?=some u:=by rw[<-ht,List.getElem?_take_of_lt (by simp)];simpa using hu
   exact h3 u (bn h4)
theorem ik.keep(h:ik w T v xs)(hk:∀k,v.ownBlock=some k->w'.heap[k]?=w.heap[k]?):ik w' T v xs:=⟨aI h.1 hk,h.2⟩
structure qN(w:World)(T R:TypeId)(z:Nat)(F:Value->Array Value)(bW:Nat)(x:Value)(ms:List Value)(ao:Option Addr)(n:Nat):Prop where
 cell:w.heap[bW]?=some (.cells (F x) 55 (0,0))
 row:ik w R x ms
 at_:n=0∨∃g o cur,ao=some ⟨g,o,none⟩/\w.heap[g]?=some (.cells cur T (0,0))/\o+n*z<=cur.size
 n8:n<=8000
 few:ms.length<=100000000
def Su(z:Nat)(mk:List Value)(o n j:Nat)(cur cur':Array Value):Prop:=cur'.size=cur.size/\(∀y,y<o∨o+n*z<=y->cur'[y]?=cur[y]?)/\∀i,i<j->∀(q:Nat) u,mk[q]?=some u->cur'[o+i*z+q]?=some u
def qO(w:World)(T R:TypeId)(z:Nat)(mk:List Value)(F:Value->Array Value)(bW:Nat)(x:Value)(ms:List Value)(ao:Option Addr)(n:Nat)(u:Value)(w':World):Prop:=
 ∃x',w'.heap[bW]?=some (.cells (F x') 55 (0,0))/\ik w' R x' (ms++[u])/\(∀k,x'.ownBlock=some k->x.ownBlock=some k∨w.heap.size<=k)/\aM (λk=>k=bW∨x.ownBlock=some k∨0<n/\∃o,ao=some ⟨k,o,none⟩) w w' /\
  ∀g o cur,0<n->ao=some ⟨g,o,none⟩->w.heap[g]?=some (.cells cur T (0,0))->∃cur',w'.heap[g]?=some (.cells cur' T (0,0))/\Su z mk o n n cur cur'
def Uh(w:World)(T:TypeId)(z:Nat)(mk:List Value)(ao:Option Addr)(n k:Nat)(vi:Value)(wr:World):Prop:=
 ∃j:Nat,vi=.int .i64 j/\j+k=n/\aM (λk=>0<n/\∃o,ao=some ⟨k,o,none⟩) w wr/\wr.heap.size=w.heap.size /\
  ∀g o cur,0<n->ao=some ⟨g,o,none⟩->w.heap[g]?=some (.cells cur T (0,0))->∃cur',wr.heap[g]?=some (.cells cur' T (0,0))/\Su z mk o n j cur cur'
theorem Uh.start(w:World)(T:TypeId)(z:Nat)(mk:List Value)(ao:Option Addr)(n:Nat):Uh w T z mk ao n n (.int .i64 0) w:=
 ⟨0,rfl,by omega,aM.refl _ _,rfl,λg o cur _ _ h=>⟨cur,h,rfl,λ_ _=>rfl,λi hi=>by omega⟩⟩
theorem Su.aau{x1 x2 x3 x4:Value}(h:Su 5 [x0,x1,x2,x3,x4] o n j cur cur')(hj:j<n)(hz:o+n*5<=cur.size):
  Su 5 [x0,x1,x2,x3,x4] o n (j+1) cur (((((cur'.setIfInBounds (o+j*5) x0).setIfInBounds (o+j*5+1) x1).setIfInBounds (o+j*5+2) x2).setIfInBounds (o+j*5+3) x3).setIfInBounds (o+j*5+4) x4):=by
 obtain ⟨h1,h2,h3⟩:=h;refine ⟨by simp[h1],λy hy=>?_,λi hi q u hu=>?_⟩
 ·rw[Array.getElem?_setIfInBounds_ne (by omega),Array.getElem?_setIfInBounds_ne (by omega),Array.getElem?_setIfInBounds_ne (by omega),Array.getElem?_setIfInBounds_ne (by omega),Array.getElem?_setIfInBounds_ne (by omega)];exact h2 y hy
 ·have hq:=az hu;simp only[fe,List.length_nil]at hq;by_cases nZ:i=j
  ·subst nZ
   match q,hq with
   | 0,_=>rw[Array.getElem?_setIfInBounds_ne (by omega),Array.getElem?_setIfInBounds_ne (by omega),Array.getElem?_setIfInBounds_ne (by omega),Array.getElem?_setIfInBounds_ne (by omega)];simp at hu;subst hu;exact Array.getElem?_setIfInBounds_self_of_lt (by omega)
   | 1,_=>rw[Array.getElem?_setIfInBounds_ne (by omega),Array.getElem?_setIfInBounds_ne (by omega),Array.getElem?_setIfInBounds_ne (by omega)];simp at hu;subst hu;rw[Array.getElem?_setIfInBounds_self_of_lt (by simp;omega)]
   | 2,_=>rw[Array.getElem?_setIfInBounds_ne (by omega),Array.getElem?_setIfInBounds_ne (by omega)];simp at hu;subst hu;rw[Array.getElem?_setIfInBounds_self_of_lt (by simp;omega)]
   | 3,_=>rw[Array.getElem?_setIfInBounds_ne (by omega)];simp at hu;subst hu;rw[Array.getElem?_setIfInBounds_self_of_lt (by simp;omega)]
   | 4,_=>simp at hu;subst hu;rw[Array.getElem?_setIfInBounds_self_of_lt (by simp;omega)]
  ·rw[Array.getElem?_setIfInBounds_ne (by omega),Array.getElem?_setIfInBounds_ne (by omega),Array.getElem?_setIfInBounds_ne (by omega),Array.getElem?_setIfInBounds_ne (by omega),Array.getElem?_setIfInBounds_ne (by omega)];exact h3 i (by omega) q u hu
theorem qN.KR(h:qN w T R z F bW x ms ao n){cc:Array Value}(hk:w.heap[k]?=some (.cells cc t fz))(ht:t≠T):¬(0<n/\∃o,ao=some ⟨k,o,none⟩):=by
 rintro ⟨hn,o,e⟩;rcases h.at_ with h|⟨g,o',cur,e',hh,_⟩
 ·omega
 ·rw[e]at e';cases e';rw[hk]at hh;cases hh;exact ht rfl
theorem qN.done{wr wa W:World}{idx:Nat}{v':Value}(hu:GC u)(h:qN w T R z F bW x ms ao n)(hTR:T≠R)(XR:T≠55)(hRW:R≠55)(hRs:jK R=false)
  (hF:∀a b,(F a).setIfInBounds idx b=F b/\(F a)[idx]?=some a) (aR:aM (λk=>0<n/\∃o,ao=some ⟨k,o,none⟩) w wr) (hsz:wr.heap.size=w.heap.size)
  (iu:∀g o cur,0<n->ao=some ⟨g,o,none⟩->w.heap[g]?=some (.cells cur T (0,0))->∃cur',wr.heap[g]?=some (.cells cur' T (0,0))/\Su z mk o n n cur cur')
  (jr:Below wr.heap.size wr wa) (hr:W.ownsRow 0 R 1 v' (ms.length+1) (ms++[u])) (hg:wa.grownBy W x.ownBlock) (hat:v'.ownBlock=x.ownBlock∨v'.ownBlock=some wa.heap.size):
  W.cell? ⟨bW,idx,none⟩=some x/\W.frozen? ⟨bW,idx,none⟩=false/\qO w T R z mk F bW x ms ao n u (W.setCell ⟨bW,idx,none⟩ v'):=by
 have hrow:∀k,x.ownBlock=some k->∃cc,wa.heap[k]?=some (.cells cc R (0,0)):=λk hk=>by obtain ⟨_,cc,hcc⟩:=ar h.row.1 hk;exact ⟨cc,by rw[jr.block k (by rw[hsz];exact ae hcc)];exact aR.same hcc (h.KR hcc hTR.symm)⟩
 have tg:∀{k:Nat} {cc:Array Value} {t:TypeId} {fz:Nat×Nat},wr.heap[k]?=some (.cells cc t fz)->t≠R->W.heap[k]?=some (.cells cc t fz):=λ{k cc t fz} hh ht=>by have hl:=ae hh;rw[hg.block k (dw hl jr.size) (λe=>?_),jr.block k hl,hh];obtain ⟨c9,h9⟩:=hrow k e.symm;rw[jr.block k hl,hh]at h9;cases h9;exact ht rfl
 have KS:=tg (aR.same h.cell (h.KR h.cell XR.symm)) hRW.symm;have st:=ah W bW idx v' KS;rw[(hF x v').1]at st;have ot:∀k,k≠bW->(W.setCell ⟨bW,idx,none⟩ v').heap[k]?=W.heap[k]?:=λk hk=>eV _ _ _ _ hk
 refine ⟨ai KS (hF x x).2,by simp[World.frozen?,KS],v',st,⟨?_,λh=>by simp at h,λy hy=>?_⟩,λk hk=>?_,?_,λg o cur hn e hh=>?_⟩
 ·have e:(ms++[u]).length=ms.length+1:=by simp
  rw[e];refine aI hr λk hk=>ot k λe=>?_
  obtain ⟨_,c9,h9⟩:=ar hr hk;rw[e,KS]at h9;cases h9;exact hRW rfl
 ·rcases List.mem_append.1 hy with hy|hy
  ·exact h.row.2.2 y hy
  ·rw[List.mem_singleton.1 hy];exact hu
 ·rcases hat with e|e
  ·rw[e]at hk;exact .inl hk
  ·rw[e]at hk;cases hk;exact .inr (by rw[<-hsz];exact jr.size)
 ·refine aM.trans ?_ (aM.setCell (.inl rfl) KS (by decide) _);have h1:aM (λk=>k=bW∨x.ownBlock=some k∨0<n/\∃o,ao=some ⟨k,o,none⟩) w wa:=(aR.sub λk _ h=>.inr (.inr h)).trans (aM.ay jr);refine Fx.grown h1 hg (λk hk=>dw hk.1 h1.size) (λk hk hx=>hx.2 (.inr (.inl hk))) (λk hk cc t fz hh=>?_);obtain ⟨c9,h9⟩:=hrow k hk;rw[hh]at h9;cases h9;exact hRs
 ·obtain ⟨cur',q1,q2⟩:=iu g o cur hn e hh;refine ⟨cur',?_,q2⟩;have q3:=tg q1 hTR;rw[ot g λe=>?_]
  ·exact q3
  ·rw[e,KS]at q3;cases q3;exact XR rfl
theorem qN.below(h:qN w T R z F bW x ms ao n)(hb:Below w.heap.size w w1):qN w1 T R z F bW x ms ao n:=
 ⟨(hb.block _ (ae h.cell)).trans h.cell,h.row.keep λk hk=>by obtain ⟨_,c,hc⟩:=ar h.row.1 hk;exact hb.block k (ae hc),h.at_.imp id λ⟨g,o,cur,h1,h2,h3⟩=>⟨g,o,cur,h1,(hb.block _ (ae h2)).trans h2,h3⟩,h.n8,h.few⟩
theorem qO.below(h:qO w1 T R z mk F bW x ms ao n u w')(hb:Below w.heap.size w w1):qO w T R z mk F bW x ms ao n u w':=by obtain ⟨x',h1,h2,h3,h4,h5⟩:=h;exact ⟨x',h1,h2,λk hk=>(h3 k hk).imp id λh=>bJ hb.size h,(aM.ay hb).trans h4,λg o cur hn e hh=>h5 g o cur hn e ((hb.block _ (ae hh)).trans hh)⟩
theorem oO(bW:Nat)(gv tv sv nv:Value)(ms:List Value)(ao:Option Addr)(n c:Nat)(w:World)(h:qN w 70 64 5 (λx=>#[gv,tv,x,nv]) bW sv ms ao n):
  Calls Tryz.prog 76 #[.pointer (some ⟨bW,0,none⟩),.slice ao n c] w λe w'=>e=.returned (.tuple #[])/\qO w 70 64 5 (DB ms.length) (λx=>#[gv,tv,x,nv]) bW sv ms ao n (.slice ao n c) w':=by
 obtain ⟨i0,uL,hz0,hz1,hz3⟩:=info_parts uO;obtain ⟨so,sc,oX⟩:=aC h.row.1;subst oX;have hn8:=h.n8;have tT:=h.few;have kE:=aa h;clear h;go_enter Tryz.func76,Tryz.ntmps76;go_wp2_with fail;go_loopg [4] n (λk vi wr=>Uh w 70 5 (DB ms.length) ao n k vi wr)
 case atStart=>exact Uh.start _ _ _ _ _ _
 case round=>
  obtain ⟨j,rfl,hk,aR,hsz,iu⟩:=hrel;have kf:wr.heap[bW]?=some (.cells #[gv,tv,.slice so ms.length sc,nv] 55 (0,0)):=aR.same kE.out.cell (kE.out.KR kE.out.cell (by decide));have c2:wr.cell? ⟨bW,2,none⟩=some (.slice so ms.length sc):=ai kf rfl;by_cases hlt:j<n
  ·have g1:decide ((j:Int)<(n:Int))=true:=cF (by omega);obtain ⟨g,o,cur,rfl,hh,hz⟩:∃g o cur,ao=some ⟨g,o,none⟩/\w.heap[g]?=some (.cells cur 70 (0,0))/\o+n*5<=cur.size:=kE.out.at_.resolve_left (by omega);obtain ⟨cur',hc',hm⟩:=iu g o cur (by omega) rfl hh;have hwr:IntKind.i64.wrap ((j:Int)+1)=(j:Int)+1:=by rw[IntKind.wrap_i64];omega
   have hwm:IntKind.i64.wrap (-1 - (ms.length:Int))=-1 - (ms.length:Int):=by rw[IntKind.wrap_i64];omega
   have kA:∀q,q<5->∃u,cur'[o+j*5+q]?=some u:=λq hq=>⟨_,Array.getElem?_eq_getElem (by rw[hm.1];omega)⟩
   obtain ⟨u0,e0⟩:=kA 0 (by omega);obtain ⟨u1,e1⟩:=kA 1 (by omega);obtain ⟨u2,e2⟩:=kA 2 (by omega);obtain ⟨u3,e3⟩:=kA 3 (by omega);obtain ⟨u4,e4⟩:=kA 4 (by omega);have k0:wr.cell? ⟨g,o+j*5,none⟩=some u0:=ai hc' e0;have k1:wr.cell? ⟨g,o+j*5+1,none⟩=some u1:=ai hc' e1;have k2:wr.cell? ⟨g,o+j*5+2,none⟩=some u2:=ai hc' e2
   have k3:wr.cell? ⟨g,o+j*5+3,none⟩=some u3:=ai hc' e3;have k4:wr.cell? ⟨g,o+j*5+4,none⟩=some u4:=ai hc' e4;have fz:∀x,wr.frozen? ⟨g,x,none⟩=false:=λx=>by simp[World.frozen?,hc']
   have HST:=aa (λW (hW:(((((wr.setCell ⟨g,o+j*5,none⟩ (.int .i64 (-1 - (ms.length:Int)))).setCell ⟨g,o+j*5+1,none⟩ (.int .i64 0)).setCell ⟨g,o+j*5+2,none⟩ (.string ⟨#[]⟩)).setCell ⟨g,o+j*5+3,none⟩ (.int .i64 0)).setCell ⟨g,o+j*5+4,none⟩ (.string ⟨#[]⟩))=W)=>show Uh w 70 5 (DB ms.length) (some ⟨g,o,none⟩) n (n - (j+1)) (.int .i64 ((j:Int)+1)) W from by
    have s1:=ah wr g (o+j*5) (.int .i64 (-1 - (ms.length:Int))) hc';have s2:=ah _ g (o+j*5+1) (.int .i64 0) s1;have s3:=ah _ g (o+j*5+2) (.string ⟨#[]⟩) s2;have s4:=ah _ g (o+j*5+3) (.int .i64 0) s3;have s5:=ah _ g (o+j*5+4) (.string ⟨#[]⟩) s4
    have hy:0<n/\∃o',some (⟨g,o,none⟩:Addr)=some ⟨g,o',none⟩:=⟨by omega,o,rfl⟩;refine ⟨j+1,by simp,by omega,?_,?_,λg' o' ui _ e1 e2=>?_⟩
    ·rw[<-hW];exact ((((aR.trans (aM.setCell hy hc' (by decide) _)).trans (aM.setCell hy s1 (by decide) _)).trans (aM.setCell hy s2 (by decide) _)).trans (aM.setCell hy s3 (by decide) _)).trans (aM.setCell hy s4 (by decide) _)
    ·rw[<-hW,<-hsz];simp[World.setCell]
    ·cases e1;rw[hh]at e2;cases e2;exact ⟨_,by rw[<-hW];exact s5,hm.aau hlt hz⟩)
   clear aR iu hh hm hc' kA e0 e1 e2 e3 e4 kf;go_wp2_with fail;go_roundg (n - (j+1))
   case measure=>omega
   case rel=>exact HST.out _ rfl
  ·have g1:decide ((j:Int)<(n:Int))=false:=bV (by omega);obtain rfl:j=n:=by omega
   obtain ⟨wa,xH⟩:∃wa,wr.alloc (.cells #[.slice ao j c] 64)=wa:=⟨_,rfl⟩;have jr:Below wr.heap.size wr wa:=by rw[<-xH];exact cq _ _
   have bj:=aa (show wa.ownsRow 0 64 1 (.slice so ms.length sc) ms.length ms from aI kE.out.row.1 λk hk=>by obtain ⟨_,cc,hcc⟩:=ar kE.out.row.1 hk;rw[jr.block k (by rw[hsz];exact ae hcc),hcc];exact aR.same hcc (kE.out.KR hcc (by decide)))
   have ey:=aa (λ(y:Nat) u (h:([.slice ao j c]:List Value)[y]?=some u)=>show wa.cell? ((⟨wr.heap.size,0,none⟩:Addr).add y)=some u from by rw[<-xH];exact aG wr #[.slice ao j c] _ y u h)
   have fk:=aa (λ(v':Value) (W:World) hr hg hat=>qN.done (.inr ⟨_,_,_,rfl⟩) kE.out (W:=W) (v':=v') (u:=.slice ao j c) (idx:=2) (mk:=DB ms.length) (by decide) (by decide) (by decide) (by decide) (λa b=>⟨rfl,rfl⟩) aR hsz iu jr hr hg hat);clear aR iu kf jr hsz
   go_wp2_with (at_builtin;go_loud (refine wpList_append_own_at _ rfl _ _ 52 rfl 0 64 i0 (.slice none 0 0) 1 24 Tryz.underlying52 uL hz0 hz1 hz3 rfl (by decide) (.slice so ms.length sc) ms.length ms (by rfl) bj.out ⟨wr.heap.size,0,none⟩ 1 1 [.slice ao j c] (by rfl) rfl ey.out (by simp[Value.oneCell']) (by unfold maxLen;omega) (by omega) (Nat.zero_le _) ?_;intro v' W hown hg _ hat;obtain ⟨k2,f2,HST⟩:=fk.out v' W hown hg hat;obtain ⟨g',cap',rfl⟩:=aB hown (by omega);clear hown hg fk bj ey hat xH c2))
   have HST:=aa HST;go_wp2_with fail;go_end0;exact ⟨rfl,HST.out⟩
theorem GD:(Tryz.prog.info? 61).map (λi=>(i.zero,i.size,i.bytes))=some (some (.slice none 0 0),1,24):=by kernel_rfl
theorem Su.aav(h:Su 1 [x0] o n j cur cur')(hj:j<n)(hz:o+n*1<=cur.size):Su 1 [x0] o n (j+1) cur (cur'.setIfInBounds (o+j) x0):=by
 obtain ⟨h1,h2,h3⟩:=h;refine ⟨by simp[h1],λy hy=>?_,λi hi q u hu=>?_⟩
 ·rw[Array.getElem?_setIfInBounds_ne (by omega)];exact h2 y hy
 ·have hq:=az hu;simp only[fe,List.length_nil]at hq;by_cases nZ:i=j
  ·subst nZ;obtain rfl:q=0:=by omega
   simp at hu;subst hu;rw[show o+i*1+0=o+i by omega];exact Array.getElem?_setIfInBounds_self_of_lt (by omega)
  ·rw[Array.getElem?_setIfInBounds_ne (by omega)];exact h3 i (by omega) q u hu
theorem oP(bW:Nat)(gv tv sv nv:Value)(ms:List Value)(ao:Option Addr)(n c:Nat)(w0:World)(h0:qN w0 9 61 1 (λx=>#[gv,tv,sv,x]) bW nv ms ao n):
  Calls Tryz.prog 77 #[.pointer (some ⟨bW,0,none⟩),.slice ao n c] w0 λe w'=>e=.returned (.tuple #[])/\qO w0 9 61 1 (IR ms.length) (λx=>#[gv,tv,sv,x]) bW nv ms ao n (.slice ao n c) w':=by
 obtain ⟨i0,uL,hz0,hz1,hz3⟩:=info_parts GD;obtain ⟨so,sc,oX⟩:=aC h0.row.1;subst oX;have hn8:=h0.n8;have tT:=h0.few;have c3:w0.cell? ⟨bW,3,none⟩=some (.slice so ms.length sc):=ai h0.cell rfl;have vZ:=aa (ze ms.length w0 (by omega));have aaw:=aa h0;clear h0;go_enter Tryz.func77,Tryz.ntmps77
 go_wp2_with fail;refine vZ.out.mono ?_;rintro e w ⟨rfl,hb0⟩;have gZ:=aa hb0;have kE:=aa (aaw.out.below hb0);obtain ⟨lb,pO⟩:∃lb,lb=Wx ms.length:=⟨_,rfl⟩;rw[<-pO];have HLL:=aa pO;clear hb0 pO vZ c3 aaw;go_wp2_with fail;go_loopg [5] n (λk vi wr=>Uh w 9 1 [.string lb] ao n k vi wr)
 case atStart=>exact Uh.start _ _ _ _ _ _
 case round=>
  obtain ⟨j,rfl,hk,aR,hsz,iu⟩:=hrel;have kf:wr.heap[bW]?=some (.cells #[gv,tv,sv,.slice so ms.length sc] 55 (0,0)):=aR.same kE.out.cell (kE.out.KR kE.out.cell (by decide));have c2:wr.cell? ⟨bW,3,none⟩=some (.slice so ms.length sc):=ai kf rfl;by_cases hlt:j<n
  ·have g1:decide ((j:Int)<(n:Int))=true:=cF (by omega);obtain ⟨g,o,cur,rfl,hh,hz⟩:∃g o cur,ao=some ⟨g,o,none⟩/\w.heap[g]?=some (.cells cur 9 (0,0))/\o+n*1<=cur.size:=kE.out.at_.resolve_left (by omega);obtain ⟨cur',hc',hm⟩:=iu g o cur (by omega) rfl hh;have hwr:IntKind.i64.wrap ((j:Int)+1)=(j:Int)+1:=by rw[IntKind.wrap_i64];omega
   obtain ⟨u0,e0⟩:∃u,cur'[o+j]?=some u:=⟨_,Array.getElem?_eq_getElem (by rw[hm.1];omega)⟩;have k0:wr.cell? ⟨g,o+j,none⟩=some u0:=ai hc' e0;have fz:∀x,wr.frozen? ⟨g,x,none⟩=false:=λx=>by simp[World.frozen?,hc']
   have HST:=aa (show Uh w 9 1 [.string lb] (some ⟨g,o,none⟩) n (n - (j+1)) (.int .i64 ((j:Int)+1)) (wr.setCell ⟨g,o+j,none⟩ (.string lb)) from by
    have s1:=ah wr g (o+j) (.string lb) hc';refine ⟨j+1,by simp,by omega,aR.trans (aM.setCell ⟨by omega,o,rfl⟩ hc' (by decide) _),by rw[<-hsz];simp[World.setCell],λg' o' ui _ e1 e2=>?_⟩;cases e1;rw[hh]at e2;cases e2;exact ⟨_,s1,hm.aav hlt hz⟩)
   clear aR iu hh hm hc' e0 kf;go_wp2_with fail;go_roundg (n - (j+1))
   case measure=>omega
   case rel=>exact HST.out
  ·have g1:decide ((j:Int)<(n:Int))=false:=bV (by omega);obtain rfl:j=n:=by omega
   obtain ⟨wa,xH⟩:∃wa,wr.alloc (.cells #[.slice ao j c] 61)=wa:=⟨_,rfl⟩;have jr:Below wr.heap.size wr wa:=by rw[<-xH];exact cq _ _
   have bj:=aa (show wa.ownsRow 0 61 1 (.slice so ms.length sc) ms.length ms from aI kE.out.row.1 λk hk=>by obtain ⟨_,cc,hcc⟩:=ar kE.out.row.1 hk;rw[jr.block k (by rw[hsz];exact ae hcc),hcc];exact aR.same hcc (kE.out.KR hcc (by decide)))
   have ey:=aa (λ(y:Nat) u (h:([.slice ao j c]:List Value)[y]?=some u)=>show wa.cell? ((⟨wr.heap.size,0,none⟩:Addr).add y)=some u from by rw[<-xH];exact aG wr #[.slice ao j c] _ y u h)
   have fk:=aa (λ(v':Value) (W:World) hr hg hat=>qN.done (.inr ⟨_,_,_,rfl⟩) kE.out (W:=W) (v':=v') (u:=.slice ao j c) (idx:=3) (mk:=[.string lb]) (by decide) (by decide) (by decide) (by decide) (λa b=>⟨rfl,rfl⟩) aR hsz iu jr hr hg hat);clear aR iu kf jr hsz
   go_wp2_with (at_builtin;go_loud (refine wpList_append_own_at _ rfl _ _ 53 rfl 0 61 i0 (.slice none 0 0) 1 24 Tryz.underlying53 uL hz0 hz1 hz3 rfl (by decide) (.slice so ms.length sc) ms.length ms (by rfl) bj.out ⟨wr.heap.size,0,none⟩ 1 1 [.slice ao j c] (by rfl) rfl ey.out (by simp[Value.oneCell']) (by unfold maxLen;omega) (by omega) (Nat.zero_le _) ?_;intro v' W hown hg _ hat;obtain ⟨k2,f2,HST⟩:=fk.out v' W hown hg hat;obtain ⟨g',cap',rfl⟩:=aB hown (by omega);clear hown hg fk bj ey hat xH c2))
   have HST:=aa HST;go_wp2_with fail;go_end0;have h:=HST.out.below gZ.out;rw[HLL.out]at h;exact ⟨rfl,h⟩
end Go.Proofs.YtgncgdkpkkdaeaaGreatDoor
