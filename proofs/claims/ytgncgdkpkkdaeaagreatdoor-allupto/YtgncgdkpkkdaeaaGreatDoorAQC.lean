import Derived.Test.YtgncgdkpkkdaeaaGreatDoorADB
import Derived.Test.YtgncgdkpkkdaeaaGreatDoorAQB
import Derived.Test.YtgncgdkpkkdaeaaGreatDoorAM2
namespace Go.Proofs.YtgncgdkpkkdaeaaGreatDoor
open Go.RowKit bu Go.Maps Go.Shelf
variable {c:Array Value} {b:BD} {tx:ByteArray} {e:Ending} {kd:Int} {G:List GS} {ss:List cH} {ms xs:List Value} {B N P cap g i k lim n t:Nat} {f:Nat×Nat} {Y:Nat->Prop} {d:SD} {lv x:Value} {w w' w1:World}
theorem cd.off(h:cd w g n cap G)(ho:aM Y w w')(hY:∀k,Y k->mR w k):cd w' g n cap G:=by
 refine ⟨h.len,h.few,λi s hs=>?_⟩;obtain ⟨s0,h0⟩:∃s0,G[0]?=some s0:=⟨_,cB (by have:=az hs;omega)⟩;have hg:¬Y g:=λhy=>by have:=mS (hY g hy) (by simpa using (h.at_ 0 s0 h0).1);rcases this with ⟨a,e⟩|⟨a,n,m,e⟩<;>cases e
 obtain ⟨h1,h2,v,h3,ao,cp,h4,h5⟩:=h.at_ i s hs;refine ⟨gw ho h1 hg,h2,v,gw ho h3 hg,ao,cp,h4,λj r hr=>?_⟩;obtain ⟨r0,JD⟩:∃r0,s.rs[0]?=some r0:=⟨_,cB (by have:=az hr;omega)⟩;obtain ⟨rg0,lg0,ln0,lc0,e0,k0⟩:=h5 0 r0 JD;obtain ⟨rg,lg,ln,lc,e1,k1⟩:=h5 j r hr
 have hrg:¬Y rg:=λhy=>by
  have e:rg0=rg:=by rw[e1]at e0;cases e0;rfl
  rw[e]at k0;have:=mS (hY rg hy) (by simpa using k0.c0);rcases this with ⟨a,e⟩|⟨a,n,m,e⟩<;>cases e
 obtain ⟨ns,p1,p2,p3,p4,p5⟩:=k1.pat;exact ⟨rg,lg,ln,lc,e1,gw ho k1.c0 hrg,gw ho k1.c1 hrg,gw ho k1.c2 hrg,gw ho k1.c3 hrg,gw ho k1.c4 hrg,ns,p1,p2.keep λk hk=>by obtain ⟨_,c,hc⟩:=p2.block hk;rw[hc];exact jg ho hY (by decide) hc,p3.world (Fx.dg ho),p4.world (Fx.dg ho),p5⟩
theorem RG.off(h:RG w B P g n cap ss)(ho:aM Y w w')(hY:∀k,Y k->mR w k):RG w' B P g n cap ss:=
 ⟨h.ia.keep λk c t ht hh=>jg ho hY (by rcases ht with rfl|rfl|rfl<;>decide) hh,λt ht r hr=>(h.iB t ht r hr).keep ho.size λk c t ht hh=>jg ho hY (by rcases ht with rfl|rfl|rfl<;>decide) hh,h.few⟩
theorem O2{Pr:World->Prop}(h:∀w',Below N w w'->Pr w')(hN:N<=w.heap.size)(ho:aM Y w w1)(hY:∀k,Y k->mR w k)(hP:∀(Z:Nat->Prop) a b,Pr a->aM Z a b->(∀k,Z k->mR a k)->Pr b):∀w',Below N w1 w'->Pr w':=by
 intro w' hb
 classical
 obtain ⟨a,ha⟩:∃a:World,a={ w' with heap:=Array.ofFn λk:Fin w'.heap.size=>if Y k.1/\k.1<N then (w.heap[k.1]?).getD w'.heap[k.1] else w'.heap[k.1] }:=⟨_,rfl⟩;have hz:a.heap.size=w'.heap.size:=by rw[ha];simp
 have hws:w.heap.size<=w'.heap.size:=bJ ho.size hb.size;have h1:∀k,Y k->k<N->a.heap[k]?=w.heap[k]?:=λk hy hk=>by have hlt:k<w.heap.size:=dw hk hN;have ack:k<w'.heap.size:=dw hlt hws;rw[ha];simp[ack,hy,hk,Array.getElem?_eq_getElem hlt]
 have h2:∀k,¬(Y k/\k<N)->a.heap[k]?=w'.heap[k]?:=λk hk=>by
  rw[ha];rcases ed k w'.heap.size with hlt|kO
  ·simp[hlt,hk]
  ·simp[Nat.not_lt.2 kO]
 have jr:Below N w a:=by
  refine ⟨by rw[ha];exact hb.os.trans ho.os,by rw[ha];exact hb.tape.trans ho.tape,by rw[ha];exact hb.output.trans ho.output,by rw[hz];exact hws,λk hk=>?_⟩;by_cases hy:Y k
  ·exact h1 k hy hk
  ·rw[h2 k (λh=>hy h.1),hb.block k hk];exact ho.keep k ⟨dw hk hN,hy⟩
 have hpl:∀k,(Y k/\k<N)->mR a k:=λk hk=>by obtain ⟨c,t,fz,q1,q2⟩:=hY k hk.1;exact ⟨c,t,fz,(h1 k hk.1 hk.2).trans q1,q2⟩
 refine hP (λk=>Y k/\k<N) a w' (h a jr) ⟨by rw[ha],by rw[ha],by rw[ha],by rw[hz];exact bc _,λk hk=>(h2 k hk.2).symm,λk c t ht hh=>?_⟩ hpl;by_cases hk:Y k/\k<N
 ·obtain ⟨c',t',XH,q1,q2,_⟩:=hpl k hk;rw[hh]at q1;cases q1;rw[yf _ q2]at ht;cases ht
 ·rw[<-h2 k hk];exact hh
theorem DF(h:∀w',Below N w w'->cd w' g n cap G)(hN:N<=w.heap.size)(ho:aM Y w w1)(hY:∀k,Y k->mR w k):∀w',Below N w1 w'->cd w' g n cap G:=
 O2 (Pr:=λw=>cd w g n cap G) h hN ho hY λ_ _ _ h ho hY=>h.off ho hY
theorem O3(h:∀w',Below N w w'->RG w' B P g n cap ss)(hN:N<=w.heap.size)(ho:aM Y w w1)(hY:∀k,Y k->mR w k):∀w',Below N w1 w'->RG w' B P g n cap ss:=
 O2 (Pr:=λw=>RG w B P g n cap ss) h hN ho hY λ_ _ _ h ho hY=>h.off ho hY
theorem iy.off(h:iy w b)(ho:aM Y w w')(hY:∀k,Y k->mR w k):iy w' b:=
 ⟨jg ho hY (by decide) h.cell,jg ho hY (by decide) h.top,DF h.ib h.hN ho hY,O3 h.rg h.hN ho hY,bJ h.hN ho.size,h.same,h.ok,h.pos⟩
def Wz(d:SD)(k:Nat):Prop:=k=d.bS∨k=d.bD∨d.vs.ownBlock=some k
theorem dN.off(h:dN w d)(ho:aM Y w w')(hY:∀k,Y k->mR w k)(hd:∀k,Wz d k->¬Y k):dN w' d:=by
 have hi:=h.is;have ty:∀{k:Nat} {c:Array Value} {t:TypeId} {fz:Nat×Nat},wQ t=false->w.heap[k]?=some (.cells c t fz)->w'.heap[k]?=some (.cells c t fz):=λht hh=>jg ho hY ht hh
 have np:∀{k:Nat} {v:Value},w.cell? ⟨k,0,none⟩=some v->¬GC v->¬Y k:=λhc hv hy=>hv (mS (hY _ hy) hc)
 refine ⟨⟨ho.same hi.cell (hd _ (.inr (.inl rfl))),ty (by decide) hi.tx,⟨ho.same hi.sheet.sh (hd _ (.inl rfl)),⟨bq hi.sheet.fU.row λk c hh=>ty (by decide) hh,λx hx=>⟨(hi.sheet.fU.each x hx).1,bq (hi.sheet.fU.each x hx).2 λk c hh=>ty (by decide) hh⟩⟩,hi.sheet.base,hi.sheet.size⟩,bq hi.pX λk c hh=>ty (by decide) hh,aI hi.mf λk hk=>?_,λe he=>⟨(hi.each e he).1.keep λc fz hh=>ty (by decide) hh,bq (hi.each e he).2.1 λk c hh=>ty (by decide) hh,(hi.each e he).2.2⟩,hi.runs,hi.Rc,DF hi.ib hi.hN ho hY,O3 hi.rg hi.hN ho hY,bJ hi.hN ho.size,hi.same,hi.ok,hi.pos⟩,?_,?_,h.h0,h.hM,h.hN,h.hD,h.hX⟩
 ·obtain ⟨_,c,hc⟩:=ar hi.mf hk;rw[hc];exact ho.same hc (hd _ (.inr (.inr hk)))
 ·exact h.tab.keep (ho.keep _ ⟨fh (h.tab 0 (by decide)),np (h.tab 0 (by decide)) (by rintro (⟨a,e⟩|⟨a,n,m,e⟩)<;>cases e)⟩)
 ·obtain ⟨m,hm⟩:=h.mx;exact ⟨m,gw ho hm (np hm (by rintro (⟨a,e⟩|⟨a,n,m,e⟩)<;>cases e))⟩
structure AD where
 B:Nat
 bW:Nat
 gv:Value
 tv:Value
 sv:Value
 nv:Value
 bs:List BD
 ds:List SD
 ms:List Value
 ns:List Value
def Bd(b:BD):Value:=.pointer (some ⟨b.bB,0,none⟩)
def sK(d:SD):Value:=.pointer (some ⟨d.bD,0,none⟩)
def Own(a:AD)(k:Nat):Prop:=k=a.bW∨a.gv.ownBlock=some k∨a.tv.ownBlock=some k∨a.sv.ownBlock=some k∨a.nv.ownBlock=some k
structure WW(w:World)(a:AD):Prop where
 cell:w.heap[a.bW]?=some (.cells #[a.gv,a.tv,a.sv,a.nv] 55 (0,0))
 gs:ik w 22 a.gv (a.bs.map Bd)
 ts:ik w 25 a.tv (a.ds.map sK)
 ss:ik w 64 a.sv a.ms
 nn:ik w 61 a.nv a.ns
 both:∀b∈a.bs,iy w b/\1 < b.N/\0 < b.N
 side:∀d∈a.ds,dN w d
 apart:∀(i j:Nat) d e,a.ds[i]?=some d->a.ds[j]?=some e->i≠j->d.bS≠e.bS/\d.bD≠e.bD
 free:∀d∈a.ds,∀k,d.vs.ownBlock=some k->a.sv.ownBlock≠some k
 sm:∀(k:Nat) v,a.ms[k]?=some v->fN w 70 5 (DB k) v none 0
 nm:∀(k:Nat) v,a.ns[k]?=some v->fN w 9 1 (IR k) v none 0
 tab:lC w
 mx:Mx w
 lo:∀k,Own a k->a.B<=k
 Ui:∀d∈a.ds,a.B<=d.B
 hB:a.B<=w.heap.size
variable {a:AD}
theorem WW.qP(h:WW w a)(hk:Own a k):mR w k:=by
 rcases hk with rfl|hk|hk|hk|hk
 ·refine ⟨_,_,_,h.cell,by decide,λv hv=>?_⟩;obtain ⟨ao,c,e⟩:=aC h.gs.1;simp at hv;rw[<-hv,e];exact .inr ⟨_,_,_,rfl⟩
 ·exact h.gs.Ss (by decide) hk
 ·exact h.ts.Ss (by decide) hk
 ·exact h.ss.Ss (by decide) hk
 ·exact h.nn.Ss (by decide) hk
theorem dN.KT(h:dN w d)(hk:k=d.bS∨k=d.bD):mR w k:=by
 rcases hk with rfl|rfl
 ·exact ⟨_,_,_,h.is.sheet.sh,by decide,λv hv=>by simp at hv;rw[<-hv];exact .inr ⟨_,_,_,rfl⟩⟩
 ·exact ⟨_,_,_,h.is.cell,by decide,λv hv=>by simp at hv;rw[<-hv];exact .inl ⟨_,rfl⟩⟩
theorem ji{j:Nat}{c':Array Value}{t t':TypeId}{f':Nat×Nat}(h:w.heap[j]?=some (.cells c t f))(h':w.heap[k]?=some (.cells c' t' f'))(ht:t≠t'):j≠k:=by rintro rfl;rw[h]at h';cases h';exact ht rfl
theorem WW.aax(h:WW w a)(hd:d∈a.ds)(hk:Wz d k):¬Own a k:=by
 have hs:=(h.side d hd).is
 have key:∀{t c f},w.heap[k]?=some (.cells c t f)->t≠55->t≠22->t≠25->t≠61->(t=64->a.sv.ownBlock≠some k)->¬Own a k:=by
  intro t c f hh t1 t2 t3 t4 t5 ho;rcases ho with e|e|e|e|e
  ·exact ji hh h.cell t1 e
  ·obtain ⟨_,c',hc⟩:=ar h.gs.1 e;exact ji hh hc t2 rfl
  ·obtain ⟨_,c',hc⟩:=ar h.ts.1 e;exact ji hh hc t3 rfl
  ·obtain ⟨_,c',hc⟩:=ar h.ss.1 e;by_cases ht:t=64
   ·exact t5 ht e
   ·exact ji hh hc ht rfl
  ·obtain ⟨_,c',hc⟩:=ar h.nn.1 e;exact ji hh hc t4 rfl
 rcases hk with rfl|rfl|hk
 ·exact key hs.sheet.sh (by decide) (by decide) (by decide) (by decide) (λe=>absurd e (by decide))
 ·exact key hs.cell (by decide) (by decide) (by decide) (by decide) (λe=>absurd e (by decide))
 ·obtain ⟨_,c,hc⟩:=ar hs.mf hk;exact key hc (by decide) (by decide) (by decide) (by decide) (λ_=>h.free d hd k hk)
theorem WW.write(h:WW w a)(ho:aM Y w w')(hY:∀k,Y k->Own a k):
  (∀b∈a.bs,iy w' b/\1 < b.N/\0 < b.N)/\(∀d∈a.ds,dN w' d)/\(∀(k:Nat) v,a.ms[k]?=some v->fN w' 70 5 (DB k) v none 0)/\(∀(k:Nat) v,a.ns[k]?=some v->fN w' 9 1 (IR k) v none 0)/\lC w'/\Mx w':=by
 have hp:∀k,Y k->mR w k:=λk hk=>h.qP (hY k hk)
 have np:∀{k:Nat} {v:Value},w.cell? ⟨k,0,none⟩=some v->¬GC v->¬Y k:=λhc hv hy=>hv (mS (hp _ hy) hc)
 refine ⟨λb hb=>⟨(h.both b hb).1.off ho hp,(h.both b hb).2⟩,λd hd=>(h.side d hd).off ho hp λk hk hy=>h.aax hd hk (hY k hy),λk v hv=>(h.sm k v hv).off ho hp (by decide),λk v hv=>(h.nm k v hv).off ho hp (by decide),?_,?_⟩
 ·exact h.tab.keep (ho.keep _ ⟨fh (h.tab 0 (by decide)),np (h.tab 0 (by decide)) (by rintro (⟨a,e⟩|⟨a,n,m,e⟩)<;>cases e)⟩)
 ·obtain ⟨m,hm⟩:=h.mx;exact ⟨m,gw ho hm (np hm (by rintro (⟨a,e⟩|⟨a,n,m,e⟩)<;>cases e))⟩
theorem WW.below(h:WW w a)(hb:Below w.heap.size w w'):WW w' a:=by
 obtain ⟨h1,h2,h3,h4,h5,h6⟩:=h.write (Y:=λ_=>False) (aM.ay hb) (λ_ h=>h.elim);have key:∀{T v xs},ik w T v xs->ik w' T v xs:=λhr=>hr.keep λk hk=>by obtain ⟨_,c,hc⟩:=ar hr.1 hk;exact hb.block k (ae hc)
 exact ⟨(hb.block _ (ae h.cell)).trans h.cell,key h.gs,key h.ts,key h.ss,key h.nn,h1,h2,h.apart,h.free,h3,h4,h5,h6,h.lo,h.Ui,bJ h.hB hb.size⟩
theorem WW.lt(h:WW w a)(hk:Own a k):k<w.heap.size:=by obtain ⟨c,t,f,h1,_⟩:=h.qP hk;exact ae h1
theorem WW.Vw(h:WW w a){d':SD}(hd:a.ds[i]?=some d)(ho:aM (λk=>k=d.bS∨k=d.bD) w w')(eM:dN w' d')(hD:d'.bD=d.bD)(hS:d'.bS=d.bS)(hBd:d'.B=d.B)(hv:d'.vs=d.vs∨∀k,d'.vs.ownBlock=some k->w.heap.size<=k):WW w' { a with ds:=a.ds.set i d' }:=by
 have Iz:=bn hd;have hsd:=h.side d Iz;have hp:∀k,(k=d.bS∨k=d.bD)->mR w k:=λk hk=>hsd.KT hk
 have no:∀k,Own a k->¬(k=d.bS∨k=d.bD):=λk hk he=>h.aax Iz (he.imp id .inl) hk
 have key:∀{T v xs},(∀k,v.ownBlock=some k->Own a k)->ik w T v xs->ik w' T v xs:=λhw hr=>hr.keep λk hk=>ho.keep k ⟨h.lt (hw k hk),no k (hw k hk)⟩
 have np:∀{k:Nat} {v:Value},w.cell? ⟨k,0,none⟩=some v->¬GC v->¬(k=d.bS∨k=d.bD):=λhc hv hy=>hv (mS (hp _ hy) hc)
 have dO:∀(j:Nat) e,(a.ds.set i d')[j]?=some e->(j=i/\e=d')∨(j≠i/\a.ds[j]?=some e):=λj e he=>by
  rw[List.getElem?_set]at he;split at he
  ·rename_i nZ;split at he
   ·cases he;exact .inl ⟨nZ.symm,rfl⟩
   ·cases he
  ·rename_i nZ;exact .inr ⟨λe=>nZ e.symm,he⟩
 refine ⟨ho.same h.cell (no _ (.inl rfl)),key (λk hk=>.inr (.inl hk)) h.gs,?_,key (λk hk=>.inr (.inr (.inr (.inl hk)))) h.ss,key (λk hk=>.inr (.inr (.inr (.inr hk)))) h.nn,λb hb=>⟨(h.both b hb).1.off ho hp,(h.both b hb).2⟩,λe he=>?_,λj k e f he hf hjk=>?_,λe he=>?_,λk v hv=>(h.sm k v hv).off ho hp (by decide),λk v hv=>(h.nm k v hv).off ho hp (by decide),eM.tab,eM.mx,h.lo,λe he=>?_,bJ h.hB ho.size⟩
 ·have e1:(a.ds.set i d').map sK=a.ds.map sK:=by
   rw[List.map_set];apply List.ext_getElem?;intro j;rw[List.getElem?_set];split
   ·rename_i nZ;subst nZ;have hlt:=az hd;rw[if_pos (by simpa using hlt),fX,hd];simp[sK,hD]
   ·rfl
  show ik w' _ _ ((a.ds.set i d').map sK);rw[e1];exact key (λk hk=>.inr (.inr (.inl hk))) h.ts
 ·obtain ⟨j,hj⟩:=List.getElem?_of_mem he;rcases dO j e hj with ⟨_,rfl⟩|⟨F7,hj'⟩
  ·exact eM
  ·have hem:=bn hj';have hap:=h.apart j i e d hj' hd F7;have hs:=(h.side e hem).is;refine (h.side e hem).off ho hp λk hk hy=>?_
   rcases hk with rfl|rfl|hk
   ·rcases hy with hy|hy
    ·exact hap.1 hy
    ·exact ji hs.sheet.sh hsd.is.cell (by decide) hy
   ·rcases hy with hy|hy
    ·exact ji hs.cell hsd.is.sheet.sh (by decide) hy
    ·exact hap.2 hy
   ·obtain ⟨_,c,hc⟩:=ar hs.mf hk;rcases hy with hy|hy
    ·exact ji hc hsd.is.sheet.sh (by decide) hy
    ·exact ji hc hsd.is.cell (by decide) hy
 ·rcases dO j e he with ⟨rfl,rfl⟩|⟨hj,he'⟩
  ·rcases dO k f hf with ⟨rfl,_⟩|⟨hk,hf'⟩
   ·exact absurd rfl hjk
   ·rw[hS,hD];exact h.apart _ _ _ _ hd hf' hjk
  ·rcases dO k f hf with ⟨rfl,rfl⟩|⟨hk,hf'⟩
   ·rw[hS,hD];exact h.apart _ _ _ _ he' hd hjk
   ·exact h.apart _ _ _ _ he' hf' hjk
 ·intro k hk hs;obtain ⟨j,hj⟩:=List.getElem?_of_mem he;rcases dO j e hj with ⟨_,rfl⟩|⟨_,hj'⟩
  ·rcases hv with hv|hv
   ·rw[hv]at hk;exact h.free d Iz k hk hs
   ·have:=hv k hk;have:=h.lt (.inr (.inr (.inr (.inl hs))));omega
  ·exact h.free e (bn hj') k hk hs
 ·obtain ⟨j,hj⟩:=List.getElem?_of_mem he;rcases dO j e hj with ⟨_,rfl⟩|⟨_,hj'⟩
  ·rw[hBd];exact h.Ui d Iz
  ·exact h.Ui e (bn hj')
theorem ik.apart{T T':TypeId}{v v':Value}{xs':List Value}{bW:Nat}(h:ik w T v xs)(h':ik w T' v' xs')(hW:w.heap[bW]?=some (.cells c 55 f))(ho:aM (λk=>k=bW∨v'.ownBlock=some k) w w')(ht:T≠T')(hw:T≠55):ik w' T v xs:=h.keep λk hk=>by
 obtain ⟨_,c1,h1⟩:=ar h.1 hk;refine ho.keep k ⟨ae h1,λhy=>?_⟩;rcases hy with rfl|hy
 ·exact ji h1 hW hw rfl
 ·obtain ⟨_,c2,h2⟩:=ar h'.1 hy;exact ji h1 h2 ht rfl
theorem WW.acm(h:WW w a){gv':Value}(ho:aM (λk=>k=a.bW∨a.gv.ownBlock=some k) w w')(hc:w'.heap[a.bW]?=some (.cells #[gv',a.tv,a.sv,a.nv] 55 (0,0)))(hr:ik w' 22 gv' (a.bs.map Bd++[Bd b]))(hat:∀k,gv'.ownBlock=some k->a.gv.ownBlock=some k∨a.B<=k)(hb:iy w b/\1 < b.N/\0 < b.N):WW w' { a with gv:=gv',bs:=a.bs++[b] }:=by
 have hY:∀k,(k=a.bW∨a.gv.ownBlock=some k)->Own a k:=λk hk=>hk.imp id .inl
 obtain ⟨h1,h2,h3,h4,h5,h6⟩:=h.write ho hY;refine ⟨hc,by rw[List.map_append];exact hr,h.ts.apart h.gs h.cell ho (by decide) (by decide),h.ss.apart h.gs h.cell ho (by decide) (by decide),h.nn.apart h.gs h.cell ho (by decide) (by decide),λb' hb'=>?_,h2,h.apart,h.free,h3,h4,h5,h6,λk hk=>?_,h.Ui,bJ h.hB ho.size⟩
 ·rcases List.mem_append.1 hb' with hb' | hb'
  ·exact h1 b' hb'
  ·rw[List.mem_singleton.1 hb'];exact ⟨hb.1.off ho (λk hk=>h.qP (hY k hk)),hb.2⟩
 ·rcases hk with hk|hk|hk
  ·exact h.lo k (.inl hk)
  ·rcases hat k hk with hk|hk
   ·exact h.lo k (.inr (.inl hk))
   ·exact hk
  ·exact h.lo k (.inr (.inr hk))
theorem WW.acn(h:WW w a){tv':Value}(ho:aM (λk=>k=a.bW∨a.tv.ownBlock=some k) w w')(hc:w'.heap[a.bW]?=some (.cells #[a.gv,tv',a.sv,a.nv] 55 (0,0)))(hr:ik w' 25 tv' (a.ds.map sK++[sK d]))(hat:∀k,tv'.ownBlock=some k->a.tv.ownBlock=some k∨a.B<=k)(hd:dN w d)(fD:(∀e∈a.ds,e.bS<d.B/\e.bD<d.B)/\∀k,Own a k->k<d.B)(hB:a.B<=d.B):WW w' { a with tv:=tv',ds:=a.ds++[d] }:=by
 have hY:∀k,(k=a.bW∨a.tv.ownBlock=some k)->Own a k:=λk hk=>hk.imp id λh=>.inr (.inl h)
 obtain ⟨h1,h2,h3,h4,h5,h6⟩:=h.write ho hY
 have sL:∀(j:Nat) e,(a.ds++[d])[j]?=some e->(e=d/\j=a.ds.length)∨a.ds[j]?=some e:=λj e he=>by
  rw[List.getElem?_append]at he;split at he
  ·exact .inr he
  ·have:=az he;simp only[fe,List.length_nil]at this;rw[show j - a.ds.length=0 by omega]at he;simp at he;exact .inl ⟨he.symm,by omega⟩
 have hdS:=hd.is.sheet.base;have hdD:=hd.hD
 have dy:∀k,Wz d k->d.B<=k:=λk hk=>by
  rcases hk with rfl|rfl|hk
  ·exact hdS
  ·exact hdD
  ·exact (ar hd.is.mf hk).1
 refine ⟨hc,h.gs.apart h.ts h.cell ho (by decide) (by decide),by rw[List.map_append];exact hr,h.ss.apart h.ts h.cell ho (by decide) (by decide),h.nn.apart h.ts h.cell ho (by decide) (by decide),h1,λe he=>?_,λi j e f he hf nZ=>?_,λe he k hk hs=>?_,h3,h4,h5,h6,λk hk=>?_,λe he=>?_,bJ h.hB ho.size⟩
 ·rcases List.mem_append.1 he with he|he
  ·exact h2 e he
  ·rw[List.mem_singleton.1 he];exact hd.off ho (λk hk=>h.qP (hY k hk)) λk hk hy=>by have:=fD.2 k (hY k hy);have:=dy k hk;omega
 ·rcases sL i e he with ⟨e1,i1⟩|he'
  ·rcases sL j f hf with ⟨e2,j2⟩|hf'
   ·exact absurd (i1.trans j2.symm) nZ
   ·have:=fD.1 f (bn hf');rw[e1];omega
  ·rcases sL j f hf with ⟨e2,j2⟩|hf'
   ·have:=fD.1 e (bn he');rw[e2];omega
   ·exact h.apart i j e f he' hf' nZ
 ·rcases List.mem_append.1 he with he|he
  ·exact h.free e he k hk hs
  ·rw[List.mem_singleton.1 he]at hk;have:=fD.2 k (.inr (.inr (.inr (.inl hs))));have:=dy k (.inr (.inr hk));omega
 ·rcases hk with hk|hk|hk|hk
  ·exact h.lo k (.inl hk)
  ·exact h.lo k (.inr (.inl hk))
  ·rcases hat k hk with hk|hk
   ·exact h.lo k (.inr (.inr (.inl hk)))
   ·exact hk
  ·exact h.lo k (.inr (.inr (.inr hk)))
 ·rcases List.mem_append.1 he with he|he
  ·exact h.Ui e he
  ·rw[List.mem_singleton.1 he];exact hB
theorem WW.aco(h:WW w a)(hb:Below w.heap.size w w1)(hj:BP w1 70 64 5 DB (λx=>#[a.gv,a.tv,x,a.nv]) a.bW w.heap.size a.sv w' lv N lim x ms):WW w' { a with sv:=x,ms:=ms }/\Below a.B w w':=by
 have ho:aM (λk=>k=a.bW∨a.sv.ownBlock=some k) w w':=⟨hj.off.os.trans hb.os,hj.off.tape.trans hb.tape,hj.off.output.trans hb.output,bJ hb.size hj.off.size,λk hk=>(hj.off.keep k ⟨dw hk.1 hb.size,λhy=>hk.2 (by rcases hy with hy|hy|hy;exact .inl hy;exact .inr hy;have:=hk.1;omega)⟩).trans (hb.block k hk.1),λk c t ht hh=>hj.off.stay k c t ht ((hb.block k (ae hh)).trans hh)⟩
 have hY:∀k,(k=a.bW∨a.sv.ownBlock=some k)->Own a k:=λk hk=>hk.imp id λh=>.inr (.inr (.inl h))
 obtain ⟨h1,h2,h3,h4,h5,h6⟩:=h.write ho hY;have hlt:∀d∈a.ds,∀k,d.vs.ownBlock=some k->k<w.heap.size:=λd hd k hk=>by obtain ⟨_,c,hc⟩:=ar (h.side d hd).is.mf hk;exact ae hc
 refine ⟨⟨hj.cell,h.gs.apart h.ss h.cell ho (by decide) (by decide),h.ts.apart h.ss h.cell ho (by decide) (by decide),hj.row,h.nn.apart h.ss h.cell ho (by decide) (by decide),h1,h2,h.apart,λd hd k hk hs=>?_,λk v hv=>(hj.sm k v hv).keep (bc _) λg cur hh=>?_,h4,h5,h6,λk hk=>?_,h.Ui,bJ h.hB ho.size⟩,ho.os,ho.tape,ho.output,ho.size,λk hk=>ho.keep k ⟨dw hk h.hB,λhy=>?_⟩⟩
 ·rcases hj.at_ k hs with hs|hs
  ·exact h.free d hd k hk hs
  ·have:=hlt d hd k hk;omega
 ·exact ⟨cur,hh,λ_ _=>rfl,λe=>by cases e⟩
 ·rcases hk with hk|hk|hk|hk|hk
  ·exact h.lo k (.inl hk)
  ·exact h.lo k (.inr (.inl hk))
  ·exact h.lo k (.inr (.inr (.inl hk)))
  ·rcases hj.at_ k hk with hk|hk
   ·exact h.lo k (.inr (.inr (.inr (.inl hk))))
   ·exact bJ h.hB hk
  ·exact h.lo k (.inr (.inr (.inr (.inr hk))))
 ·have:=h.lo k (hY k hy);omega
theorem WW.addN(h:WW w a)(hb:Below w.heap.size w w1)(hj:BP w1 9 61 1 IR (λx=>#[a.gv,a.tv,a.sv,x]) a.bW w.heap.size a.nv w' lv N lim x ms):WW w' { a with nv:=x,ns:=ms }/\Below a.B w w':=by
 have ho:aM (λk=>k=a.bW∨a.nv.ownBlock=some k) w w':=⟨hj.off.os.trans hb.os,hj.off.tape.trans hb.tape,hj.off.output.trans hb.output,bJ hb.size hj.off.size,λk hk=>(hj.off.keep k ⟨dw hk.1 hb.size,λhy=>hk.2 (by rcases hy with hy|hy|hy;exact .inl hy;exact .inr hy;have:=hk.1;omega)⟩).trans (hb.block k hk.1),λk c t ht hh=>hj.off.stay k c t ht ((hb.block k (ae hh)).trans hh)⟩
 have hY:∀k,(k=a.bW∨a.nv.ownBlock=some k)->Own a k:=λk hk=>hk.imp id λh=>.inr (.inr (.inr h))
 obtain ⟨h1,h2,h3,h4,h5,h6⟩:=h.write ho hY
 refine ⟨⟨hj.cell,h.gs.apart h.nn h.cell ho (by decide) (by decide),h.ts.apart h.nn h.cell ho (by decide) (by decide),h.ss.apart h.nn h.cell ho (by decide) (by decide),hj.row,h1,h2,h.apart,h.free,h3,λk v hv=>(hj.sm k v hv).keep (bc _) λg cur hh=>?_,h5,h6,λk hk=>?_,h.Ui,bJ h.hB ho.size⟩,ho.os,ho.tape,ho.output,ho.size,λk hk=>ho.keep k ⟨dw hk h.hB,λhy=>?_⟩⟩
 ·exact ⟨cur,hh,λ_ _=>rfl,λe=>by cases e⟩
 ·rcases hk with hk|hk|hk|hk|hk
  ·exact h.lo k (.inl hk)
  ·exact h.lo k (.inr (.inl hk))
  ·exact h.lo k (.inr (.inr (.inl hk)))
  ·exact h.lo k (.inr (.inr (.inr (.inl hk))))
  ·rcases hj.at_ k hk with hk|hk
   ·exact h.lo k (.inr (.inr (.inr (.inr hk))))
   ·exact bJ h.hB hk
 ·have:=h.lo k (hY k hy);omega
theorem WW.owS(h:WW w a)(hb:Below w.heap.size w w1)(hr:w1.ownsRow w.heap.size 70 5 lv n xs):BP w1 70 64 5 DB (λx=>#[a.gv,a.tv,x,a.nv]) a.bW w.heap.size a.sv w1 lv n 0 a.sv a.ms:=
 ⟨(h.below hb).cell,(h.below hb).ss,⟨_,hr⟩,λk v hv=>(h.sm k v hv).keep (bc _) λg cur hh=>⟨cur,(hb.block g (ae hh)).trans hh,λ_ _=>rfl,λe=>by have:=(ar hr e).1;have:=ae hh;omega⟩,aM.refl _ _,λk hk=>.inl hk,hb.size⟩
theorem WW.owN(h:WW w a)(hb:Below w.heap.size w w1)(hr:w1.ownsRow w.heap.size 9 1 lv n xs):BP w1 9 61 1 IR (λx=>#[a.gv,a.tv,a.sv,x]) a.bW w.heap.size a.nv w1 lv n 0 a.nv a.ns:=
 ⟨(h.below hb).cell,(h.below hb).nn,⟨_,hr⟩,λk v hv=>(h.nm k v hv).keep (bc _) λg cur hh=>⟨cur,(hb.block g (ae hh)).trans hh,λ_ _=>rfl,λe=>by have:=(ar hr e).1;have:=ae hh;omega⟩,aM.refl _ _,λk hk=>.inl hk,hb.size⟩
def pk(c:Int)(n:Nat):Nat:=(if c<0 then (-(c+1)).toNat else c.toNat) % n
theorem zf(c:Int)(n:Nat)(w:World)(hc:(Lit.int .i64 c).wf=true)(hn:0<n)(qh:n<2^62):
  Calls Tryz.prog 43 #[.int .i64 c,.int .i64 n] w λe w'=>e=.returned (.int .i64 (pk c n))/\w'=w:=by
 have hcb:-9223372036854775808<=c/\c<=9223372036854775807:=by simp[Lit.wf,IntKind.min,IntKind.max,IntKind.signed,IntKind.bits]at hc;omega
 have yJ:¬((n:Int)=0):=by omega
 by_cases h:c<0
 ·have hr:(-(c+1)).tmod (n:Int)=(pk c n:Int):=by obtain ⟨k,hk⟩:=Int.eq_ofNat_of_zero_le (show 0<=-(c+1) by omega);unfold pk;rw[if_pos h,hk];simp[Int.tmod]
  go_enter Tryz.func43,Tryz.ntmps43;go_wp2_with fail;go_ret;exact ⟨rfl,rfl⟩
 ·have hr:c.tmod (n:Int)=(pk c n:Int):=by obtain ⟨k,hk⟩:=Int.eq_ofNat_of_zero_le (show 0<=c by omega);unfold pk;rw[if_neg h,hk];simp[Int.tmod]
  go_enter Tryz.func43,Tryz.ntmps43;go_wp2_with fail;go_ret;exact ⟨rfl,rfl⟩
structure uk(a:AD)(t:Nat):Prop where
 ms:a.ms.length<=5*t
 ns:a.ns.length<=5*t
 bs:a.bs.length<=t
 ds:a.ds.length<=t
 wk:∀d∈a.ds,d.work<=3001*t
theorem uk.more(h:uk a t):uk a (t+1):=⟨by have:=h.ms;omega,by have:=h.ns;omega,by have:=h.bs;omega,by have:=h.ds;omega,λd hd=>by have:=h.wk d hd;omega⟩
structure bI(w:World)(a:AD)(t:Nat)(kd:Int)(tx:ByteArray)(e:Ending)(w':World):Prop where
 ret:e=.returned (.bool true)
 ex:∃a',WW w' a'/\a'.bW=a.bW/\a'.B=a.B/\Below a.B w w'/\uk a' (t+1)/\a.bs.length<=a'.bs.length /\
  (kd=7->a'.ds=a.ds/\(a'.bs.length=a.bs.length+1∨∃ec at_,ec≠0/\dD tx.data.toList ec at_ []))/\(kd=8->a'.bs=a.bs/\(a'.ds.length=a.ds.length+1∨3000<tx.size))
theorem bI.same(h:WW w a)(hc:uk a t)(hb:Below w.heap.size w w')(h7:kd=7->∃ec at_,ec≠0/\dD tx.data.toList ec at_ [])(h8:kd=8->3000<tx.size):bI w a t kd tx (.returned (.bool true)) w':=
 ⟨rfl,a,h.below hb,rfl,rfl,hb.mono h.hB,hc.more,bc _,λe=>⟨rfl,.inr (h7 e)⟩,λe=>⟨rfl,.inr (h8 e)⟩⟩
theorem KU:(Tryz.prog.info? 22).map (λi=>(i.zero,i.size,i.bytes))=some (some (.pointer none),1,8):=by kernel_rfl
theorem KV:(Tryz.prog.info? 25).map (λi=>(i.zero,i.size,i.bytes))=some (some (.pointer none),1,8):=by kernel_rfl
theorem WW.aay(h:WW w a)(ho:aM Y w w')(hY:∀k,Y k->Own a k):Below a.B w w':=
 ⟨ho.os,ho.tape,ho.output,ho.size,λk hk=>ho.keep k ⟨dw hk h.hB,λhy=>by have:=h.lo k (hY k hy);omega⟩⟩
theorem bI.load(h:WW w a)(hc:uk a t)(hb:Below w.heap.size w w1)(hB:iy w1 b)(hN:w.heap.size<=b.N)(ho:qO w1 70 22 5 [] (λx=>#[x,a.tv,a.sv,a.nv]) a.bW a.gv (a.bs.map Bd) none 0 (Bd b) w'):bI w a t 7 tx (.returned (.bool true)) w':=by
 obtain ⟨x',h1,h2,h3,h4,-⟩:=ho;have hw:=h.below hb;have o:aM (λk=>k=a.bW∨a.gv.ownBlock=some k) w1 w':=h4.sub λk _ hy=>hy.imp id λhy=>hy.resolve_right λh=>by omega
 have t0:1 < w.heap.size:=fh (h.tab 0 (by decide));have m0:0 < w.heap.size:=by obtain ⟨m,hm⟩:=h.mx;exact fh hm
 refine ⟨rfl,_,hw.acm o h1 h2 (λk hk=>(h3 k hk).imp id λh'=>bJ hw.hB h') ⟨hB,by omega,by omega⟩,rfl,rfl,(hb.mono h.hB).trans (hw.aay o λk hk=>hk.imp id .inl),⟨by have:=hc.ms;show _<=_;dsimp only;omega,by have:=hc.ns;show _<=_;dsimp only;omega,?_,by have:=hc.ds;show _<=_;dsimp only;omega,λd hd=>by have:=hc.wk d hd;omega⟩,?_,λ_=>⟨rfl,.inl ?_⟩,λe=>absurd e (by decide)⟩
 ·have:=hc.bs;show (a.bs++[b]).length<=_;rw[dG];simp only[fe,List.length_nil];omega
 ·show _<=(a.bs++[b]).length;rw[dG];omega
 ·show (a.bs++[b]).length=_;rw[dG];rfl
theorem bI.opened(h:WW w a)(hc:uk a t)(hb:Below w.heap.size w w1)(hS:cP w1 d)(hB:w.heap.size<=d.B)(hNB:d.N<=d.B)(hg:1 < d.N/\0 < d.N)(hD:d.B<=d.bD)(hX:d.B<=d.bX)(ub:d.work<=3001)(ho:qO w1 70 25 5 [] (λx=>#[a.gv,x,a.sv,a.nv]) a.bW a.tv (a.ds.map sK) none 0 (sK d) w'):bI w a t 8 tx (.returned (.bool true)) w':=by
 obtain ⟨x',h1,h2,h3,h4,-⟩:=ho;have hw:=h.below hb;have o:aM (λk=>k=a.bW∨a.tv.ownBlock=some k) w1 w':=h4.sub λk _ hy=>hy.imp id λhy=>hy.resolve_right λh=>by omega
 have eM:dN w1 d:=⟨hS,hw.tab,hw.mx,hg.1,hg.2,hNB,hD,hX⟩
 refine ⟨rfl,_,hw.acn o h1 h2 (λk hk=>(h3 k hk).imp id λh'=>bJ hw.hB h') eM ⟨λe he=>?_,λk hk=>dw (h.lt hk) hB⟩ (bJ h.hB hB),rfl,rfl,(hb.mono h.hB).trans (hw.aay o λk hk=>hk.imp id λh=>.inr (.inl h)),⟨by have:=hc.ms;show _<=_;dsimp only;omega,by have:=hc.ns;show _<=_;dsimp only;omega,by have:=hc.bs;show _<=_;dsimp only;omega,?_,λe he=>?_⟩,bc _,λe=>absurd e (by decide),λ_=>⟨rfl,.inl ?_⟩⟩
 ·have hs:=(h.side e he).is;exact ⟨dw (ae hs.sheet.sh) hB,dw (ae hs.cell) hB⟩
 ·have:=hc.ds;show (a.ds++[d]).length<=_;rw[dG];simp only[fe,List.length_nil];omega
 ·rcases List.mem_append.1 he with he|he
  ·have:=hc.wk e he;omega
  ·rw[List.mem_singleton.1 he];omega
 ·show (a.ds++[d]).length=_;rw[dG];rfl
theorem bI.aaz(h:WW w a)(hc:uk a t)(hb:Below w.heap.size w w1)(hl:ms.length=a.ms.length+5)(hj:BP w1 70 64 5 DB (λx=>#[a.gv,a.tv,x,a.nv]) a.bW w.heap.size a.sv w' lv N lim x ms)(h7:kd≠7)(h8:kd≠8):bI w a t kd tx (.returned (.bool true)) w':=by
 obtain ⟨k1,k2⟩:=h.aco hb hj;exact ⟨rfl,_,k1,rfl,rfl,k2,⟨by have:=hc.ms;show ms.length<=_;omega,hc.more.ns,hc.more.bs,hc.more.ds,hc.more.wk⟩,bc _,λe=>absurd e h7,λe=>absurd e h8⟩
theorem bI.names(h:WW w a)(hc:uk a t)(hb:Below w.heap.size w w1)(hl:ms.length=a.ns.length+5)(hj:BP w1 9 61 1 IR (λx=>#[a.gv,a.tv,a.sv,x]) a.bW w.heap.size a.nv w' lv N lim x ms)(h7:kd≠7)(h8:kd≠8):bI w a t kd tx (.returned (.bool true)) w':=by
 obtain ⟨k1,k2⟩:=h.addN hb hj;exact ⟨rfl,_,k1,rfl,rfl,k2,⟨hc.more.ms,by have:=hc.ns;show ms.length<=_;omega,hc.more.bs,hc.more.ds,hc.more.wk⟩,bc _,λe=>absurd e h7,λe=>absurd e h8⟩
theorem bI.step(h:WW w a)(hc:uk a t)(hd:a.ds[i]?=some d)(hp:cC w d e w')(h7:kd≠7)(h8:kd≠8):bI w a t kd tx e w':=by
 obtain ⟨he,hb,ho,d',eM,⟨hB,hD,ub⟩,hS,hv⟩:=hp;have Iz:=bn hd;refine ⟨he,_,h.Vw hd ho eM hD hS hB hv,rfl,rfl,hb.mono (h.Ui d Iz),⟨hc.more.ms,hc.more.ns,hc.more.bs,?_,λf hf=>?_⟩,bc _,λe=>absurd e h7,λe=>absurd e h8⟩
 ·show (a.ds.set i d').length<=_;rw[List.length_set];exact hc.more.ds
 ·rcases List.mem_or_eq_of_mem_set hf with hf|rfl
  ·exact hc.more.wk f hf
  ·have:=hc.wk d Iz;omega
theorem bI.from{w0:World}(h:bI w0 a t kd tx e w')(hb:Below w.heap.size w w0)(hB:a.B<=w.heap.size):bI w a t kd tx e w':=by obtain ⟨h1,a',k1,k2,k3,k4,k5⟩:=h;exact ⟨h1,a',k1,k2,k3,(hb.mono hB).trans k4,k5⟩
end Go.Proofs.YtgncgdkpkkdaeaaGreatDoor
