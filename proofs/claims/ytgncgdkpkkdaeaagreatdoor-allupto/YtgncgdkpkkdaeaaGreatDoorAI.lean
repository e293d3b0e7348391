import Derived.Test.YtgncgdkpkkdaeaaGreatDoorAN3
set_option maxRecDepth 20000
set_option maxHeartbeats 1000000
namespace Go.Proofs.YtgncgdkpkkdaeaaGreatDoor
open Go.RowKit bu
variable {s:ByteArray} {l:List UInt8} {xs:List Value} {acc:cU} {B P a cap g i j k n si size so:Nat} {e ti to:TypeId} {sv v':Value} {W w w' w3 wr:World}
theorem aI(h:w.ownsRow B e size sv n xs)(hk:∀k,sv.ownBlock=some k->w'.heap[k]?=w.heap[k]?):w'.ownsRow B e size sv n xs:=by
 obtain ⟨h1,h2⟩:=h;refine ⟨h1,?_⟩;rcases h2 with h2|⟨g,cap,cur,hv,hg,hh,r⟩
 ·exact .inl h2
 ·exact .inr ⟨g,cap,cur,hv,hg,by rw[hk g (by rw[hv];rfl)];exact hh,r⟩
theorem ar(h:w.ownsRow B e size sv n xs)(hk:sv.ownBlock=some k):B<=k/\∃cur,w.heap[k]?=some (.cells cur e (0,0)):=by
 rcases h.2 with ⟨rfl,_⟩|⟨g,cap,cur,rfl,hg,hh,_⟩
 ·cases hk
 ·cases hk;exact ⟨hg,cur,hh⟩
theorem bG(h:w.ownsRow B e size (.slice (some ⟨g,0,none⟩) n cap) n xs){u:Value}(hj:xs[j]?=some u):w.cell? ⟨g,j,none⟩=some u/\w.frozen? ⟨g,j,none⟩=false:=by
 rcases h.2 with ⟨h0,_⟩|⟨g',cap',cur,e1,hg,hh,hn,hm,hs,ht⟩
 ·cases h0
 ·cases e1;have hl:=az hj;rw[h.1]at hl;rw[<-ht,List.getElem?_take_of_lt hl]at hj;constructor
  ·simp[World.cell?,hh];simpa using hj
  ·simp[World.frozen?,hh]
theorem IL(h:w.ownsRow B e size (.slice (some ⟨g,0,none⟩) n cap) n xs)(u:Value):(w.setCell ⟨g,j,none⟩ u).ownsRow B e size (.slice (some ⟨g,0,none⟩) n cap) n (xs.set j u):=by
 rcases h.2 with ⟨h0,_⟩|⟨g',cap',cur,e1,hg,hh,hn,hm,hs,ht⟩
 ·cases h0
 ·cases e1;refine ⟨by rw[List.length_set];exact h.1,.inr ⟨g,cap,cur.setIfInBounds j u,rfl,hg,ah w g j u hh,hn,hm,by simpa using hs,?_⟩⟩;rw[show (cur.setIfInBounds j u).toList=cur.toList.set j u by simp,List.take_set,ht]
structure El where
 pre:List Value
 rv:Value
 post:List Value
 rs:List (List Value)
def El.cells(x:El):List Value:=x.pre++x.rv::x.post
def Oi(so si:Nat)(els:List El):Prop:=∀x∈els,x.cells.length=so/\∀r∈x.rs,r.length=si
structure fW(w:World)(B:Nat)(to ti:TypeId)(so si:Nat)(sv:Value)(els:List El):Prop where
 outer:w.ownsRow B to so sv els.length (els.flatMap El.cells)
 inner:∀x∈els,w.ownsRow B ti si x.rv x.rs.length x.rs.flatten
 apart:∀(i j:Nat) x y k,els[i]?=some x->els[j]?=some y->i≠j->x.rv.ownBlock=some k->y.rv.ownBlock≠some k
 sized:Oi so si els
variable {els:List El}
theorem fW.keep(h:fW w B to ti so si sv els)(hk:∀k,(sv.ownBlock=some k∨∃x∈els,x.rv.ownBlock=some k)->w'.heap[k]?=w.heap[k]?):fW w' B to ti so si sv els:=
 ⟨aI h.outer λk e=>hk k (.inl e),λx hx=>aI (h.inner x hx) λk e=>hk k (.inr ⟨x,hx,e⟩),h.apart,h.sized⟩
theorem fW.block(h:fW w B to ti so si sv els)(hk:sv.ownBlock=some k∨∃x∈els,x.rv.ownBlock=some k):B<=k/\∃cur t,w.heap[k]?=some (.cells cur t (0,0))/\(t=to∨t=ti):=by
 rcases hk with hk|⟨x,hx,hk⟩
 ·obtain ⟨h1,cur,h2⟩:=ar h.outer hk;exact ⟨h1,cur,to,h2,.inl rfl⟩
 ·obtain ⟨h1,cur,h2⟩:=ar (h.inner x hx) hk;exact ⟨h1,cur,ti,h2,.inr rfl⟩
theorem fW.below(h:fW w B to ti so si sv els)(hb:Below w.heap.size w w'):fW w' B to ti so si sv els:=
 h.keep λk hk=>by obtain ⟨_,cur,t,h1,_⟩:=h.block hk;exact hb.block k (ae h1)
theorem fW.other(h:fW w B to ti so si sv els)(hk:∀(k:Nat) c t,(t=to∨t=ti)->w.heap[k]?=some (.cells c t (0,0))->w'.heap[k]?=some (.cells c t (0,0))):fW w' B to ti so si sv els:=
 h.keep λk hb=>by obtain ⟨_,cur,t,h1,h2⟩:=h.block hb;rw[h1];exact hk k cur t h2 h1
theorem fW.nil(w:World)(B:Nat)(to ti:TypeId)(so si:Nat):fW w B to ti so si (.slice none 0 0) []:=
 ⟨World.ownsRow_nil _ _ _ _,λx hx=>by simp at hx,λi j x y k h=>by simp at h,λx hx=>by simp at hx⟩
variable {x:El}
theorem mN(hs:Oi so si els)(h:els[i]?=some x)(j:Nat)(hj:j<so):(els.flatMap El.cells)[i*so+j]?=x.cells[j]?:=by
 induction els generalizing i with
 | nil=>simp at h
 | cons a l ih=>
  have ha:=(hs a (by simp)).1
  cases i with
  | zero=>
   simp only[List.getElem?_cons_zero,fA]at h;subst h;simp only[List.flatMap_cons];rw[nz (by omega)];simp
  | succ i=>
   simp only[List.getElem?_cons_succ]at h;have:=ih (λx hx=>hs x (List.mem_cons_of_mem _ hx)) h;simp only[List.flatMap_cons];rw[pS (by rw[ha,Nat.succ_mul];omega),<-this];congr 1;rw[ha,Nat.succ_mul];omega
theorem Dd(hs:Oi so si els){y:El}(h:els[i]?=some x)(hp:y.pre=x.pre)(hq:y.post=x.post):(els.set i y).flatMap El.cells=(els.flatMap El.cells).set (i*so+x.pre.length) y.rv:=by
 induction els generalizing i with
 | nil=>simp at h
 | cons a l ih=>
  have ha:=(hs a (by simp)).1
  cases i with
  | zero=>
   simp only[List.getElem?_cons_zero,fA]at h;subst h;simp only[List.set_cons_zero,List.flatMap_cons,Nat.zero_mul,Nat.zero_add];have hl:a.pre.length<a.cells.length:=by simp[El.cells]
   rw[List.set_append_left _ _ hl];congr 1;simp[El.cells,hp,hq]
  | succ i=>
   simp only[List.getElem?_cons_succ]at h;simp only[List.set_cons_succ,List.flatMap_cons];rw[List.set_append_right _ _ (by rw[ha,Nat.succ_mul];omega),ih (λx hx=>hs x (List.mem_cons_of_mem _ hx)) h];congr 2;rw[ha,Nat.succ_mul];omega
theorem fW.push(h:fW w B to ti so si sv els)(X0:to≠ti)(nB:x.rv=.slice none 0 0)(zQ:x.rs=[])(hx:x.cells.length=so)
  (hown:w'.ownsRow B to so v' (els.length+1) (els.flatMap El.cells++x.cells)) (hg:w.grownBy w' sv.ownBlock):fW w' B to ti so si v' (els++[x]):=by
 refine ⟨by simpa using hown,λy hy=>?_,λi j a b k hi hj hne hk hb=>?_,λy hy=>?_⟩
 ·rcases List.mem_append.1 hy with hy|hy
  ·refine aI (h.inner y hy) λk e=>?_
   obtain ⟨_,cur,hc⟩:=ar (h.inner y hy) e;refine hg.block k (ae hc) λe'=>?_
   obtain ⟨_,cur',hc'⟩:=ar h.outer e'.symm;rw[hc]at hc';simp only[fA,Obj.cells.injEq]at hc';exact X0 hc'.2.1.symm
  ·rw[List.mem_singleton.1 hy,nB,zQ];exact World.ownsRow_nil _ _ _ _
 ·rcases ed i els.length with h1|h1
  ·rw[nz h1]at hi;rcases ed j els.length with h2|h2
   ·rw[nz h2]at hj;exact h.apart i j a b k hi hj hne hk hb
   ·rw[pS h2]at hj;have:b=x:=by have:=bn hj;exact List.mem_singleton.1 this
    rw[this,nB]at hb;cases hb
  ·rw[pS h1]at hi;have:a=x:=List.mem_singleton.1 (bn hi);rw[this,nB]at hk;cases hk
 ·rcases List.mem_append.1 hy with hy|hy
  ·exact h.sized y hy
  ·rw[List.mem_singleton.1 hy];exact ⟨hx,λr hr=>by rw[zQ]at hr;simp at hr⟩
theorem fW.grow{r:List Value}(h:fW w B to ti so si (.slice (some ⟨g,0,none⟩) n cap) els)(X0:to≠ti)(hi:els[i]?=some x)(hr:r.length=si)
  (hown:w'.ownsRow B ti si v' (x.rs.length+1) (x.rs.flatten++r)) (hg:w.grownBy w' x.rv.ownBlock) (fD:v'.ownBlock=x.rv.ownBlock∨v'.ownBlock=some w.heap.size):
  fW (w'.setCell ⟨g,i*so+x.pre.length,none⟩ v') B to ti so si (.slice (some ⟨g,0,none⟩) n cap) (els.set i { x with rv:=v',rs:=x.rs++[r] }):=by
 have BO:=bn hi;have MP:=az hi;have hne:∀k,x.rv.ownBlock=some k->k≠g:=λk e=>by rintro rfl;obtain ⟨_,cur,hc⟩:=ar (h.inner x BO) e;obtain ⟨_,cur',hc'⟩:=ar (k:=k) h.outer rfl;rw[hc]at hc';simp only[fA,Obj.cells.injEq]at hc';exact X0 hc'.2.1.symm
 have F6:g<w.heap.size:=by obtain ⟨_,cur',hc'⟩:=ar (k:=g) h.outer rfl;exact ae hc'
 have ab4:∀k,v'.ownBlock=some k->k≠g:=λk e=>by
  rcases fD with h1|h1
  ·rw[h1]at e;exact hne k e
  ·rw[h1]at e;cases e;omega
 have vM:w'.ownsRow B to so (.slice (some ⟨g,0,none⟩) n cap) els.length (els.flatMap El.cells):=aI h.outer λk e=>by cases e;exact hg.block g F6 λe'=>hne g e'.symm rfl
 have hn:n=els.length:=by
  rcases h.outer.2 with ⟨h0,_⟩|⟨g',cap',cur,e1,_⟩
  ·cases h0
  ·cases e1;rfl
 subst hn
 have hpl:i*so+x.pre.length<(els.flatMap El.cells).length:=by
  have h1:=(h.sized x BO).1;rw[h.outer.1];have h2:x.pre.length<x.cells.length:=by simp[El.cells]
  have h3:(i+1)*so<=els.length*so:=Nat.mul_le_mul_right _ MP;rw[Nat.succ_mul]at h3;omega
 have dO:∀k,k≠g->(w'.setCell ⟨g,i*so+x.pre.length,none⟩ v').heap[k]?=w'.heap[k]?:=λk e=>eV _ _ _ _ e
 have V0:∀(j:Nat) y,els[j]?=some y->j≠i->(w'.setCell ⟨g,i*so+x.pre.length,none⟩ v').ownsRow B ti si y.rv y.rs.length y.rs.flatten:=λj y hj F7=>by
  have hy:=bn hj;refine aI (h.inner y hy) λk e=>?_
  obtain ⟨_,cur,hc⟩:=ar (h.inner y hy) e;have hkg:k≠g:=by rintro rfl;obtain ⟨_,cur',hc'⟩:=ar (k:=k) h.outer rfl;rw[hc]at hc';simp only[fA,Obj.cells.injEq]at hc';exact X0 hc'.2.1.symm
  rw[dO k hkg];exact hg.block k (ae hc) λe'=>h.apart j i y x k hj hi F7 e e'.symm
 refine ⟨?_,λy hy=>?_,λa b p q k ha hb hab hk hk'=>?_,λy hy=>?_⟩
 ·rw[Dd (y:={ x with rv:=v',rs:=x.rs++[r] }) h.sized hi rfl rfl,List.length_set];exact IL vM v'
 ·obtain ⟨j,hj⟩:=List.getElem?_of_mem hy;by_cases F7:j=i
  ·subst F7;rw[List.getElem?_set_self (by simpa using MP)]at hj;cases hj;have:(x.rs++[r]).flatten=x.rs.flatten++r:=by simp
   simp only[dG,fe,List.length_nil,this];exact aI hown λk e=>dO k (ab4 k e)
  ·rw[List.getElem?_set_ne (Ne.symm F7)]at hj;exact V0 j y hj F7
 ·by_cases h1:a=i
  ·subst h1;rw[List.getElem?_set_self (by simpa using MP)]at ha;cases ha;rw[List.getElem?_set_ne hab]at hb;have hq:=bn hb;rcases fD with h2|h2
   ·rw[h2]at hk;exact h.apart a b x q k hi hb hab hk hk'
   ·rw[h2]at hk;cases hk;obtain ⟨_,cur,hc⟩:=ar (h.inner q hq) hk';have:=ae hc;omega
  ·rw[List.getElem?_set_ne (Ne.symm h1)]at ha;by_cases h3:b=i
   ·subst h3;rw[List.getElem?_set_self (by simpa using MP)]at hb;cases hb;have hp:=bn ha;rcases fD with h2|h2
    ·rw[h2]at hk';exact h.apart a b p x k ha hi hab hk hk'
    ·rw[h2]at hk';cases hk';obtain ⟨_,cur,hc⟩:=ar (h.inner p hp) hk;have:=ae hc;omega
   ·rw[List.getElem?_set_ne (Ne.symm h3)]at hb;exact h.apart a b p q k ha hb hab hk hk'
 ·obtain ⟨j,hj⟩:=List.getElem?_of_mem hy;by_cases F7:j=i
  ·subst F7;rw[List.getElem?_set_self (by simpa using MP)]at hj;cases hj;have h1:=h.sized x BO;refine ⟨by simpa [El.cells] using h1.1,λr' AG=>?_⟩;rcases List.mem_append.1 AG with h2|h2
   ·exact h1.2 r' h2
   ·rw[List.mem_singleton.1 h2];exact hr
  ·rw[List.getElem?_set_ne (Ne.symm F7)]at hj;exact h.sized y (bn hj)
structure eJ where
 d:Nat
 a:ByteArray
 b:ByteArray
 c:ByteArray
 p:ByteArray
 n:Value
 at_:Nat
def eJ.cells(r:eJ):List Value:=[.string r.a,.string r.b,.string r.c,.string r.p,r.n,.int .i64 r.at_]
def eJ.ln(r:eJ):Nat×Ln:=(r.at_,.rule r.d r.b.data.toList r.c.data.toList r.p.data.toList)
structure cH where
 name:ByteArray
 rv:Value
 at_:Nat
 rs:List eJ
def cH.el(s:cH):El:=⟨[.string s.name],s.rv,[.int .i64 s.at_],s.rs.map eJ.cells⟩
def cH.fU(s:cH):cU:=(s.at_,.state s.name.data.toList)::s.rs.map eJ.ln
def flat(ss:List cH):cU:=ss.flatMap cH.fU
structure fY(w:World)(B P:Nat)(sv:Value)(ss:List cH):Prop where
 top:w.heap[P]?=some (.cells #[sv] 117 (0,0))
 nest:fW w B 123 128 3 6 sv (ss.map cH.el)
 words:∀s∈ss,∀r∈s.rs,r.d<=2/\r.a.data.toList=jc r.d
 hP:B<=P
variable {ss:List cH}
theorem fY.form(h:fY w B P sv ss):∃ao cap,sv=.slice ao ss.length cap/\(0<ss.length->∃g,ao=some ⟨g,0,none⟩):=by
 rcases h.nest.outer.2 with ⟨rfl,h0⟩|⟨g,cap,cur,rfl,_⟩
 ·simp at h0;exact ⟨none,0,by rw[h0];rfl,λh=>by rw[h0]at h;simp at h⟩
 ·exact ⟨some ⟨g,0,none⟩,cap,by simp,λ_=>⟨g,rfl⟩⟩
theorem fY.at(h:fY w B P (.slice (some ⟨g,0,none⟩) n cap) ss){s:cH}(hi:ss[i]?=some s):
  w.cell? ⟨g,i*3,none⟩=some (.string s.name)/\w.cell? ⟨g,i*3+1,none⟩=some s.rv/\w.cell? ⟨g,i*3+2,none⟩=some (.int .i64 s.at_)/\w.frozen? ⟨g,i*3+1,none⟩=false:=by
 have hn:n=(ss.map cH.el).length:=by
  rcases h.nest.outer.2 with ⟨h0,_⟩|⟨g',cap',cur,e1,_⟩
  ·cases h0
  ·cases e1;rfl
 subst hn;have he:(ss.map cH.el)[i]?=some s.el:=by rw[fX,hi];rfl
 have f:=λj (hj:j<3)=>mN h.nest.sized he j hj
 exact ⟨(bG h.nest.outer (f 0 (by omega))).1,(bG h.nest.outer (f 1 (by omega))).1,(bG h.nest.outer (f 2 (by omega))).1,(bG h.nest.outer (f 1 (by omega):_=some s.rv)).2⟩
theorem fY.eA(h:fY w B P sv ss):w.cell? ⟨P,0,none⟩=some sv/\w.frozen? ⟨P,0,none⟩=false:=by have:=h.top;exact ⟨by simp[World.cell?,this],by simp[World.frozen?,this]⟩
theorem fY.keep(h:fY w B P sv ss)(hk:∀(k:Nat) c t,(t=117∨t=123∨t=128)->w.heap[k]?=some (.cells c t (0,0))->w'.heap[k]?=some (.cells c t (0,0))):fY w' B P sv ss:=
 ⟨hk _ _ _ (.inl rfl) h.top,h.nest.other (λk c t ht hh=>hk k c t (.inr ht) hh),h.words,h.hP⟩
theorem fY.below(h:fY w B P sv ss)(hb:Below w.heap.size w w'):fY w' B P sv ss:=
 h.keep λk _ _ _ hh=>(hb.block k (ae hh)).trans hh
def sw(ss:List cH)(n:List UInt8)(w:World)(e:Ending)(w':World):Prop:=
 w'=w/\((∃(i:Nat) (s:cH),e=.returned (.int .i64 i)/\ss[i]?=some s/\s.name.data.toList=n/\∀(j:Nat) (t:cH),j<i->ss[j]?=some t->t.name.data.toList≠n) ∨
  (e=.returned (.int .i64 (-1))/\∀t∈ss,t.name.data.toList≠n))
def Ki(ss:List cH)(n:List UInt8)(w:World)(k:Nat)(i:Value)(wr:World):Prop:=
 ∃j:Nat,i=.int .i64 j/\j+k=ss.length/\wr=w/\∀(m:Nat) (t:cH),m<j->ss[m]?=some t->t.name.data.toList≠n
theorem su(B P:Nat)(sv:Value)(ss:List cH)(n:ByteArray)(w:World)(h:fY w B P sv ss)(hz:ss.length<=1000000000):
  Calls Tryz.prog 86 #[.pointer (some ⟨P,0,none⟩),.string n] w (sw ss n.data.toList w):=by
 obtain ⟨ao,cap,rfl,hao⟩:=h.form;have c0:=h.eA.1;have HG:=aa h;have CZ:=aa hao;clear h hao;go_enter Tryz.func86,Tryz.ntmps86;go_wp2_with fail;go_loopg [5] ss.length (λk i wr=>Ki ss n.data.toList w k i wr)
 case atStart=>exact ⟨0,rfl,by omega,rfl,λm t h=>by omega⟩
 case round=>
  obtain ⟨j,rfl,hk,rfl,hall⟩:=hrel;by_cases hlt:j<ss.length
  ·have g1:decide ((j:Int)<(ss.length:Int))=true:=cF (by omega);obtain ⟨g,rfl⟩:=CZ.out (by omega);obtain ⟨s,hs⟩:∃s,ss[j]?=some s:=⟨ss[j],cB hlt⟩;obtain ⟨a0,-,-,-⟩:=HG.out.at hs;have gN:=aa hall;have HS:=aa hs;clear hall hs;by_cases hq:s.name.data.toList=n.data.toList
   ·have q1:(s.name.toList==n.toList)=true:=by rw[ByteArray.toList_eq,ByteArray.toList_eq,hq];simp
    have aq:=aa (show sw ss n.data.toList wr (.returned (.int .i64 j)) wr from ⟨rfl,.inl ⟨j,s,rfl,HS.out,hq,gN.out⟩⟩);clear gN HS hq;go_wp2_with fail;go_ret;exact aq.out
   ·have q1:(s.name.toList==n.toList)=false:=by rw[er,ByteArray.toList_eq,ByteArray.toList_eq];exact hq
    obtain ⟨k',rfl⟩:∃k',gk=k'+1:=⟨gk - 1,by omega⟩;have HQ:=aa hq;have hi:j+1<=9223372036854775807:=by omega
    clear hq;go_wp2_with fail;go_roundg k'
    case measure=>omega
    case rel=>
     refine ⟨j+1,rfl,by omega,rfl,λm t hm ht=>?_⟩;rcases ed m j with h|h
     ·exact gN.out m t h ht
     ·have:m=j:=by omega
      subst this;rw[HS.out]at ht;cases ht;exact HQ.out
  ·have g1:decide ((j:Int)<(ss.length:Int))=false:=bV (by omega);have aq:=aa (show sw ss n.data.toList wr (.returned (.int .i64 (-1))) wr from ⟨rfl,.inr ⟨rfl,λt ht=>by obtain ⟨m,hm⟩:=List.getElem?_of_mem ht;exact hall m t (by have:=az hm;omega) hm⟩⟩);clear hall;go_wp2_with fail;go_ret;exact aq.out
theorem AH{x:List UInt8}(h:l=[115,116,97,116,101,32]++x):cS l=if isName x=true then some (.state x) else none:=by
 have e:l=sq++32::x:=h;have hn:(32:UInt8)∉sq:=by decide
 have hl:l≠[]:=by rw[e];simp
 unfold cS;rw[if_neg hl,e,eo x hn];simp[gq]
theorem tA(h:∀x,x≠[]->l≠[115,116,97,116,101,32]++x)(hl:l≠[]):cS l=cD l:=by
 unfold cS cD;rw[if_neg hl];rcases jF 32 l with ⟨a,b,e,hn,hc⟩|⟨hn,hc⟩
 ·rw[hc];simp only[gq];by_cases ha:a=sq
  ·have hb:b=[]:=Classical.byContradiction λhb=>h b hb (by rw[e,ha];rfl)
   rw[if_pos ha,hb];have h1:isName []=false:=rfl;have h2:a≠ld:=by rw[ha];decide
   have h3:a≠Ar:=by rw[ha];decide
   have h4:a≠ki:=by rw[ha];decide
   rw[if_neg (by rw[h1];simp),if_neg h2,if_neg h3,if_neg h4]
  ·rw[if_neg ha]
 ·rw[hc]
theorem any_filter(acc:cU):acc.any (·.2.aN)=(acc.filter (·.2.nb)).any (·.2.aN):=by rw[List.any_filter];congr 1;funext x;obtain ⟨a,x⟩:=x;cases x<;>rfl
theorem yP(h:flat ss=acc.filter (·.2.nb)):acc.any (·.2.aN)=false<->ss=[]:=by
 rw[any_filter,<-h]
 cases ss with
 | nil=>simp[flat]
 | cons s t=>simp[flat,cH.fU,Ln.aN]
theorem yQ(ss:List cH)(s:cH):flat (ss++[s])=flat ss++s.fU:=by simp[flat]
theorem Kj(ss:List cH)(s:cH)(r:eJ)(v:Value):flat (ss++[{ s with rv:=v,rs:=s.rs++[r] }])=flat (ss++[s])++[r.ln]:=by simp[flat,cH.fU]
theorem F8:(Tryz.prog.info? 123).map (λi=>(i.zero,i.size,i.bytes))=some (some (.agg #[.string ⟨#[]⟩,.slice none 0 0,.int .i64 0]),3,48):=by kernel_rfl
theorem Kk:(Tryz.prog.info? 128).map (λi=>(i.zero,i.size,i.bytes))=some (some (.agg #[.string ⟨#[]⟩,.string ⟨#[]⟩,.string ⟨#[]⟩,.string ⟨#[]⟩,.pointer none,.int .i64 0]),6,80):=by kernel_rfl
theorem fY.row(h:fY w B P sv ss)(hk:sv.ownBlock=some k∨∃x∈ss.map cH.el,x.rv.ownBlock=some k):B<=k/\k≠P:=by
 obtain ⟨h1,cur,t,h2,h3⟩:=h.nest.block hk;refine ⟨h1,?_⟩;rintro rfl;rw[h.top]at h2;simp only[fA,Obj.cells.injEq]at h2;rcases h3 with rfl|rfl
 ·exact absurd h2.2.1 (by decide)
 ·exact absurd h2.2.1 (by decide)
theorem eR{row:Option Nat}(hB:B<=W.heap.size)(hg:W.grownBy w3 row)(hr:∀k,row=some k->B<=k):Below B W w3:=
 ⟨hg.os,hg.tape,hg.output,hg.size,λk hk=>hg.block k (dw hk hB) (λe=>by have:=hr k e.symm;omega)⟩
theorem fY.push{name:ByteArray}{at_:Nat}(hG:fY W B P sv ss)(hB:B<=W.heap.size)
  (hown:w3.ownsRow B 123 3 v' (ss.length+1) ((ss.map cH.el).flatMap El.cells++[.string name,.slice none 0 0,.int .i64 at_])) (hg:W.grownBy w3 sv.ownBlock):
  fY (w3.setCell ⟨P,0,none⟩ v') B P v' (ss++[⟨name,.slice none 0 0,at_,[]⟩])/\Below B W (w3.setCell ⟨P,0,none⟩ v')/\w3.heap[P]?=some (.cells #[sv] 117 (0,0)):=by
 have h3:w3.heap[P]?=some (.cells #[sv] 117 (0,0)):=(hg.block P (ae hG.top) (λe=>(hG.row (.inl e.symm)).2 rfl)).trans hG.top;have hN:fW w3 B 123 128 3 6 v' ((ss++[(⟨name,.slice none 0 0,at_,[]⟩:cH)]).map cH.el):=by rw[List.map_append];exact hG.nest.push (by decide) rfl rfl rfl (by rw[fy];exact hown) hg
 have hb:Below B W w3:=eR hB hg (λk e=>(hG.row (.inl e)).1);refine ⟨⟨ah w3 P 0 _ h3,hN.other λk c t ht hh=>?_,λs hs r hr=>?_,hG.hP⟩,hb.setCell hG.hP _,h3⟩
 ·rw[eV _ _ _ _ (λe=>by
   have e:k=P:=e;rw[e,h3]at hh;simp only[fA,Obj.cells.injEq]at hh;rcases ht with rfl|rfl
   ·exact absurd hh.2.1 (by decide)
   ·exact absurd hh.2.1 (by decide))]
  exact hh
 ·rcases List.mem_append.1 hs with h|h
  ·exact hG.words s h r hr
  ·rw[List.mem_singleton.1 h]at hr;simp at hr
variable {r:eJ}
theorem fY.grow{s:cH}(hG:fY W B P (.slice (some ⟨g,0,none⟩) n cap) (ss++[s]))(hB:B<=W.heap.size)(hr:r.d<=2/\r.a.data.toList=jc r.d)
  (hown:w3.ownsRow B 128 6 v' (s.rs.length+1) ((s.rs.map eJ.cells).flatten++r.cells)) (hg:W.grownBy w3 s.rv.ownBlock) (fD:v'.ownBlock=s.rv.ownBlock∨v'.ownBlock=some W.heap.size):
  fY (w3.setCell ⟨g,ss.length*3+1,none⟩ v') B P (.slice (some ⟨g,0,none⟩) n cap) (ss++[{ s with rv:=v',rs:=s.rs++[r] }])/\Below B W (w3.setCell ⟨g,ss.length*3+1,none⟩ v')/\w3.cell? ⟨P,0,none⟩=some (.slice (some ⟨g,0,none⟩) n cap)/\w3.cell? ⟨g,ss.length*3+1,none⟩=some s.rv/\w3.frozen? ⟨g,ss.length*3+1,none⟩=false:=by
 have hi:(ss++[s])[ss.length]?=some s:=by simp
 have R9:((ss++[s]).map cH.el)[ss.length]?=some s.el:=by rw[fX,hi];rfl
 have hm:s.el∈(ss++[s]).map cH.el:=bn R9;have hgr:B<=g/\g≠P:=hG.row (k:=g) (.inl rfl);have h3:w3.heap[P]?=some (.cells #[.slice (some ⟨g,0,none⟩) n cap] 117 (0,0)):=(hg.block P (ae hG.top) (λe=>(hG.row (.inr ⟨s.el,hm,e.symm⟩)).2 rfl)).trans hG.top
 have hN:=hG.nest.grow (w':=w3) (v':=v') (r:=r.cells) (by decide) R9 rfl (by rw[show s.el.rs.length=s.rs.length from fy ..];exact hown) hg fD;have hb:Below B W w3:=eR hB hg (λk e=>(hG.row (.inr ⟨s.el,hm,e⟩)).1)
 have Sa:some g≠s.rv.ownBlock:=λe=>by obtain ⟨_,c1,h1⟩:=ar (hG.nest.inner _ hm) e.symm;obtain ⟨_,c2,h2⟩:=ar (k:=g) hG.nest.outer rfl;rw[h1]at h2;simp only[fA,Obj.cells.injEq]at h2;exact absurd h2.2.1 (by decide)
 have F6:g<W.heap.size:=by obtain ⟨_,c2,h2⟩:=ar (k:=g) hG.nest.outer rfl;exact ae h2
 obtain ⟨-,a1,-,a2⟩:=hG.at hi;have e1:(ss++[s]).set ss.length { s with rv:=v',rs:=s.rs++[r] }=ss++[{ s with rv:=v',rs:=s.rs++[r] }]:=by simp
 refine ⟨⟨?_,?_,λt ht q hq=>?_,hG.hP⟩,hb.setCell hgr.1 _,by simp[World.cell?,h3],?_,?_⟩
 ·rw[eV _ _ _ _ (λe=>hgr.2 (Eq.symm e))];exact h3
 ·have e2:((ss++[{ s with rv:=v',rs:=s.rs++[r] }]).map cH.el)=((ss++[s]).map cH.el).set ss.length { s.el with rv:=v',rs:=s.el.rs++[r.cells] }:=by rw[<-e1,List.map_set];simp[cH.el]
  rw[e2];exact hN
 ·rcases List.mem_append.1 ht with h|h
  ·exact hG.words t (List.mem_append_left _ h) q hq
  ·rw[List.mem_singleton.1 h]at hq;rcases List.mem_append.1 hq with h' | h'
   ·exact hG.words s (by simp) q h'
   ·rw[List.mem_singleton.1 h'];exact hr
 ·rw[World.cell?_of_block (w:=W) (hg.block g F6 Sa)];exact a1
 ·rw[World.frozen?_of_block (w:=W) (hg.block g F6 Sa)];exact a2
def kq(B P:Nat)(s:List UInt8)(w:World)(e:Ending)(w':World):Prop:=
 Below B w w'/\((∃a:Nat,e=.returned (.int .i64 a)/\rd 0 [] s=.inl a) ∨
  (e=.returned (.int .i64 (-1))/\∃(acc:cU) (sv:Value) (ss:List cH),rd 0 [] s=.inr acc/\fY w' B P sv ss/\flat ss=acc.filter (·.2.nb)/\ss.length<=s.length/\∀t∈ss,t.rs.length<=s.length))
structure jd(B P:Nat)(s:ByteArray)(w:World)(a i:Nat)(acc:cU)(sv:Value)(ss:List cH)(wr:World):Prop where
 le:a<=i
 li:i<=s.size
 nt:∀m,a<=m->m<i->s.data.toList[m]?≠some 10
 run:rd 0 [] s.data.toList=rd a acc (rest s a)
 ia:fY wr B P sv ss
 X2:flat ss=acc.filter (·.2.nb)
 below:Below B w wr
 few:ss.length<=a
 Kl:∀t∈ss,t.rs.length<=a
def De(B P:Nat)(s:ByteArray)(w:World)(k:Nat)(va vi:Value)(wr:World):Prop:=
 ∃(a i:Nat) (acc:cU) (sv:Value) (ss:List cH),va=.int .i64 a/\vi=.int .i64 i/\i+k=s.size/\jd B P s w a i acc sv ss wr
theorem F9{l:ByteArray}(hn:l.size<=n):l.data.toList=(l.extract 0 6).data.toList++(l.extract 6 n).data.toList:=by rw[dn hn,<-eT (Nat.zero_le 6)];simp[rest]
theorem nN(h:w.ownsRow B e size sv n xs)(o:Obj):(w.alloc o).ownsRow B e size sv n xs:=
 aI h λk hk=>by obtain ⟨_,cur,hc⟩:=ar h hk;exact Below.heap_alloc _ _ _ (ae hc)
theorem fY.drew(h:fY w B P sv ss):fY w.drew B P sv ss:=h.keep λ_ _ _ _ hh=>hh
theorem fY.outer(h:fY w B P sv ss):w.ownsRow B 123 3 sv ss.length ((ss.map cH.el).flatMap El.cells):=by
 have:=h.nest.outer
 rwa [fy]at this
theorem fY.inner(h:fY w B P sv ss){s:cH}(hs:s∈ss):w.ownsRow B 128 6 s.rv s.rs.length (s.rs.map eJ.cells).flatten:=by
 have:=h.nest.inner s.el (List.mem_map_of_mem hs)
 rwa [show s.el.rs.length=s.rs.length from fy ..]at this
theorem jd.push{nm:ByteArray}(h:jd B P s w a i acc sv ss wr)(hlt:i<s.size)(zQ:rest s a=(s.extract a i).data.toList++10::rest s (i+1))(Ju:(10:UInt8)∉(s.extract a i).data.toList)(hl:cS (s.extract a i).data.toList=some (.state nm.data.toList))
  (hz:(s.extract a i).size=i - a) (hG:fY w' B P v' (ss++[⟨nm,.slice none 0 0,a,[]⟩])) (hb:Below B wr w'):jd B P s w (i+1) (i+1) (acc++[(a,.state nm.data.toList)]) v' (ss++[⟨nm,.slice none 0 0,a,[]⟩]) w':=by
 have hle:=h.le;refine ⟨bc _,hlt,λm h1 h2=>by omega,?_,hG,?_,h.below.trans hb,?_,λt ht=>?_⟩
 ·rw[h.run,zQ,ux Ju hl (by simp[Ln.aZ]),aO,hz,show a+(i - a)+1=i+1 by omega]
 ·rw[yQ,h.X2,List.filter_append];rfl
 ·have:=h.few;simp only[dG,fe,List.length_nil];omega
 ·rcases List.mem_append.1 ht with h1|h1
  ·have:=h.Kl t h1;omega
  ·rw[List.mem_singleton.1 h1];exact Nat.zero_le _
theorem jd.blank(h:jd B P s w a i acc sv ss wr)(hlt:i<s.size)(zQ:rest s a=(s.extract a i).data.toList++10::rest s (i+1))(hai:i=a):jd B P s w (i+1) (i+1) (acc++[(a,.blank)]) sv ss wr:=by
 subst hai;have e:(s.extract i i).data.toList=[]:=by rw[aQ];simp
 rw[e]at zQ;refine ⟨bc _,hlt,λm h1 h2=>by omega,?_,h.ia,?_,h.below,by have:=h.few;omega,λt ht=>by have:=h.Kl t ht;omega⟩
 ·rw[h.run,zQ,ux (by simp) (show cS []=some .blank from rfl) (by simp[Ln.aZ])];simp
 ·rw[h.X2,List.filter_append];simp[Ln.nb]
theorem jd.grow{t:cH}(h:jd B P s w a i acc sv (ss++[t]) wr)(hlt:i<s.size)(zQ:rest s a=(s.extract a i).data.toList++10::rest s (i+1))(Ju:(10:UInt8)∉(s.extract a i).data.toList)
  (hl:cS (s.extract a i).data.toList=some r.ln.2) (ha:r.at_=a) (hz:(s.extract a i).size=i - a) (hG:fY w' B P sv (ss++[{ t with rv:=v',rs:=t.rs++[r] }])) (hb:Below B wr w'):jd B P s w (i+1) (i+1) (acc++[r.ln]) sv (ss++[{ t with rv:=v',rs:=t.rs++[r] }]) w':=by
 have hle:=h.le;have od:r.ln=(a,r.ln.2):=by rw[<-ha];rfl
 refine ⟨bc _,hlt,λm h1 h2=>by omega,?_,hG,?_,h.below.trans hb,?_,λq hq=>?_⟩
 ·rw[h.run,zQ,ux Ju hl (λhx=>by have:=(yP h.X2).1 hx.2;simp at this),aO,hz,show a+(i - a)+1=i+1 by omega,od]
 ·rw[Kj,h.X2,List.filter_append];rfl
 ·have:=h.few;simp only[dG,fe,List.length_nil]at this ⊢;omega
 ·rcases List.mem_append.1 hq with h1|h1
  ·have:=h.Kl q (List.mem_append_left _ h1);omega
  ·have:=h.Kl t (by simp);rw[List.mem_singleton.1 h1];simp only[dG,fe,List.length_nil];omega
theorem zM(h:∀m,i<=m->m<j->s.data.toList[m]?≠some 10):(10:UInt8)∉(s.extract i j).data.toList:=by intro hm;rw[aQ]at hm;obtain ⟨k,hk⟩:=List.getElem?_of_mem hm;have hl:=az hk;rw[List.length_take]at hl;rw[List.getElem?_take_of_lt (by omega),List.getElem?_drop]at hk;exact h (i+k) (by omega) (by omega) hk
end Go.Proofs.YtgncgdkpkkdaeaaGreatDoor
namespace bu
variable {x:Ln} {l pre:cU} {p:cU->Ln->Prop} {a:Nat}
theorem dQ.snoc(h:dQ p pre l none)(hx:¬p (pre++l) x):dQ p pre (l++[(a,x)]) none:=by
 generalize ho:(none:Option Nat)=o at h
 induction h with
 | nil=>exact .skip (by simpa using hx) .nil
 | hit _=>cases ho
 | skip hn _ ih=>exact .skip hn (ih (by simpa using hx) ho)
theorem dQ.uR(h:dQ p pre l none)(r:cU)(hx:p (pre++l) x):dQ p pre (l++(a,x)::r) (some a):=by
 generalize ho:(none:Option Nat)=o at h
 induction h with
 | nil=>exact .hit (by simpa using hx)
 | hit _=>cases ho
 | skip hn _ ih=>exact .skip hn (ih (by simpa using hx) ho)
end bu
namespace Go.Proofs.YtgncgdkpkkdaeaaGreatDoor
open Go.RowKit bu
variable {ss:List cH} {B P i k:Nat} {r:eJ} {s:cH} {sv:Value} {w:World}
theorem qD{l:List cH}{a:Nat}{n:List UInt8}:(a,Ln.state n)∈flat l<->∃t∈l,t.at_=a/\t.name.data.toList=n:=by
 simp only[flat,List.mem_flatMap,cH.fU,List.mem_cons,List.mem_map];constructor
 ·rintro ⟨t,ht,h|⟨r,_,h⟩⟩
  ·simp only[Prod.mk.injEq,Ln.state.injEq]at h;exact ⟨t,ht,h.1.symm,h.2.symm⟩
  ·simp[eJ.ln]at h
 ·rintro ⟨t,ht,rfl,rfl⟩;exact ⟨t,ht,.inl rfl⟩
theorem Km{p:cU->Ln->Prop}(hp:∀pre r,¬p pre (eJ.ln r).2){pre l:cU}(h:dQ p pre l none)(rs:List eJ):dQ p pre (l++rs.map eJ.ln) none:=by
 induction rs generalizing l with
 | nil=>simpa using h
 | cons r rs ih=>
  have h1:dQ p pre (l++[r.ln]) none:=h.snoc (a:=r.at_) (hp _ r);have:=ih h1;simpa using this
theorem Ga(pre:cU)(r:eJ):¬dW pre r.ln.2:=by rintro ⟨n,h,_⟩;cases h
def ft(l:List cH):Nat:=(l.map (·.rs.length)).sum
theorem qE(l:List cH):((flat l).filter (·.2.aN)).length=l.length:=by
 induction l with
 | nil=>rfl
 | cons s l ih=>
  have h:flat (s::l)=s.fU++flat l:=rfl;rw[h,List.filter_append,dG,ih];have:(s.fU.filter (·.2.aN)).length=1:=by simp[cH.fU,Ln.aN,List.filter_map,eJ.ln,Function.comp_def]
  simp[this];omega
theorem qF(rs:List eJ):(rs.map eJ.ln).filter (·.2.aZ)=rs.map eJ.ln:=by rw[List.filter_eq_self];intro x hx;obtain ⟨r,_,rfl⟩:=List.mem_map.1 hx;rfl
theorem uh(rs:List eJ):(rs.map eJ.ln).filter (·.2.aN)=[]:=by rw[List.filter_eq_nil_iff];intro x hx;obtain ⟨r,_,rfl⟩:=List.mem_map.1 hx;simp[eJ.ln,Ln.aN]
theorem tB(l:List cH):((flat l).filter (·.2.aZ)).length=ft l:=by
 induction l with
 | nil=>rfl
 | cons s l ih=>
  have h:flat (s::l)=(s.at_,.state s.name.data.toList)::(s.rs.map eJ.ln++flat l):=rfl;rw[h,List.filter_cons_of_neg (by simp[Ln.aZ]),List.filter_append,dG,ih,qF];simp[ft]
theorem kJ(h:ss[i]?=some s):flat ss=flat (ss.take i)++(s.at_,.state s.name.data.toList)::(s.rs.map eJ.ln++flat (ss.drop (i+1))):=by
 have hl:=az h;rw[cB hl]at h
 conv=>lhs;rw[<-List.take_append_drop i ss,List.drop_eq_getElem_cons hl,Option.some.inj h]
 simp[flat,cH.fU]
theorem rF(h:ss[i]?=some s):flat (ss.take (i+1))=(flat (ss.take i)++[(s.at_,.state s.name.data.toList)])++s.rs.map eJ.ln:=by have hl:=az h;rw[cB hl]at h;rw[List.take_succ_eq_append_getElem hl,Option.some.inj h,yQ];simp[cH.fU]
theorem Df(h:ss[i]?=some s):ft (ss.take (i+1))=ft (ss.take i)+s.rs.length:=by have hl:=az h;rw[cB hl]at h;rw[List.take_succ_eq_append_getElem hl,Option.some.inj h];simp[ft]
def iN(ss:List cH)(size:Nat)(w:World)(e:Ending)(w':World):Prop:=
 Below w.heap.size w w'/\((∃a:Nat,e=.returned (.tuple #[.int .i64 3,.int .i64 a])/\dQ dW [] (flat ss) (some a)) ∨
  (dQ dW [] (flat ss) none/\((∃a:Nat,e=.returned (.tuple #[.int .i64 4,.int .i64 a])/\dQ dI [] (flat ss) (some a)) ∨
   (dQ dI [] (flat ss) none/\((ss=[]/\e=.returned (.tuple #[.int .i64 4,.int .i64 size]))∨(ss≠[]/\e=.returned (.tuple #[.int .i64 0,.int .i64 0])))))))
def Kn(ss:List cH)(w:World)(k:Nat)(i:Value)(wr:World):Prop:=
 ∃j:Nat,i=.int .i64 j/\j+k=ss.length/\wr=w/\dQ dW [] (flat (ss.take j)) none
def Oj(ss:List cH)(w:World)(k:Nat)(n i:Value)(wr:World):Prop:=
 ∃j:Nat,n=.int .i64 (ft (ss.take j):Nat)/\i=.int .i64 j/\j+k=ss.length/\wr=w/\dQ dI [] (flat (ss.take j)) none/\j<=12/\ft (ss.take j)<=40
def V1(ss:List cH)(j:Nat)(s:cH)(w:World)(m:Nat)(n i:Value)(wr:World):Prop:=
 ∃k:Nat,n=.int .i64 (ft (ss.take j)+k:Nat)/\i=.int .i64 k/\k+m=s.rs.length/\wr=w/\dQ dI [] ((flat (ss.take j)++[(s.at_,.state s.name.data.toList)])++(s.rs.take k).map eJ.ln) none/\ft (ss.take j)+k<=40
theorem tC(l:List cH)(n:List UInt8)(hr:ft l<=40):dI (flat l) (.state n)<->12<=l.length:=by unfold dI;rw[qE,tB];simp[Ln.nb,Ln.aN,Ln.aZ];omega
theorem wm(l:List cH)(a:Nat)(n:List UInt8)(rs:List eJ)(r:eJ)(hl:l.length<12):dI ((flat l++[(a,.state n)])++rs.map eJ.ln) r.ln.2<->40<=ft l+rs.length:=by unfold dI;simp only[List.filter_append,dG,qE,tB,qF,uh];simp[Ln.nb,Ln.aN,Ln.aZ,eJ.ln];omega
theorem fY.rules(h:fY w B P sv ss)(hs:s∈ss):∃ao cap,s.rv=.slice ao s.rs.length cap/\(0<s.rs.length->∃g,ao=some ⟨g,0,none⟩):=by
 rcases (h.inner hs).2 with ⟨h1,h0⟩|⟨g,cap,cur,h1,_⟩
 ·exact ⟨none,0,by rw[h1,h0],λh=>by omega⟩
 ·exact ⟨some ⟨g,0,none⟩,cap,h1,λ_=>⟨g,rfl⟩⟩
theorem xU{rs:List eJ}(h:rs[k]?=some r)(j:Nat)(hj:j<6):(rs.map eJ.cells).flatten[k*6+j]?=r.cells[j]?:=by
 induction rs generalizing k with
 | nil=>simp at h
 | cons a l ih=>
  cases k with
  | zero=>
   simp only[List.getElem?_cons_zero,fA]at h;subst h;simp only[List.map_cons,List.flatten_cons];rw[nz (by simp[eJ.cells];omega)];simp
  | succ k=>
   simp only[List.getElem?_cons_succ]at h;have:=ih h;simp only[List.map_cons,List.flatten_cons];rw[pS (by simp[eJ.cells];omega),<-this];congr 1;simp[eJ.cells];omega
theorem fY.rule(h:fY w B P sv ss)(hs:s∈ss){g n cap:Nat}(hv:s.rv=.slice (some ⟨g,0,none⟩) n cap)(hr:s.rs[k]?=some r)(j:Nat)(hj:j<6){u:Value}(hu:r.cells[j]?=some u):
  w.cell? ⟨g,k*6+j,none⟩=some u/\w.frozen? ⟨g,k*6+j,none⟩=false:=by
 have hi:=h.inner hs;rw[hv]at hi
 have hn:n=s.rs.length:=by
  rcases hi.2 with ⟨h0,_⟩|⟨g',cap',cur,e1,_⟩
  ·cases h0
  ·cases e1;rfl
 subst hn;exact bG hi (by rw[xU hr j hj];exact hu)
end Go.Proofs.YtgncgdkpkkdaeaaGreatDoor
