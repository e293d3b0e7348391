import Derived.Test.YtgncgdkpkkdaeaaGreatDoorMX
import Derived.Test.YtgncgdkpkkdaeaaGreatDoorMTE
import Derived.Test.YtgncgdkpkkdaeaaGreatDoorMVG
namespace Go.Proofs.YtgncgdkpkkdaeaaGreatDoor
open Go.RowKit aQ Go.Maps
variable {r:GR} {p:Int×Int} {hs:List (Int×Int)} {ss:List bZ} {B P b cap g i n:Nat} {w w':World}
def hc(p:Int×Int):List Value:=[.int .i64 p.1,.int .i64 p.2]
def bW(w:World)(b:Nat)(hs:List (Int×Int)):Prop:=w.heap[b]?=some (.cells (hs.flatMap hc).toArray 167 (0,0))
theorem uL(h:hs[i]?=some p)(j:Nat)(hj:j<2):(hs.flatMap hc)[i*2+j]?=(hc p)[j]?:=by rw[List.flatMap_def];exact jG (si:=2) (by intro r hr;obtain ⟨x,_,rfl⟩:=List.mem_map.1 hr;rfl) (by rw[List.getElem?_map,h];rfl) j hj
theorem bW.cell(h:bW w b hs)(hi:hs[i]?=some p):w.cell? ⟨b,i*2,none⟩=some (.int .i64 p.1)/\w.cell? ⟨b,i*2+1,none⟩=some (.int .i64 p.2)/\w.frozen? ⟨b,i*2,none⟩=false/\w.frozen? ⟨b,i*2+1,none⟩=false:=by
 unfold bW at h;refine ⟨ah h ?_,ah h ?_,by simp[World.frozen?,h],by simp[World.frozen?,h]⟩
 ·rw[List.getElem?_toArray];exact uL hi 0 (by omega)
 ·rw[List.getElem?_toArray];exact uL hi 1 (by omega)
theorem Cy(h:hs[i]?=some p)(a c:Int):((hs.flatMap hc).set (i*2) (.int .i64 a)).set (i*2+1) (.int .i64 c)=(hs.set i (a,c)).flatMap hc:=by
 have hsz:∀(l:List (Int×Int)),∀r∈l.map hc,r.length=2:=λl r hr=>by obtain ⟨x,_,rfl⟩:=List.mem_map.1 hr;rfl
 have h1:(hs.map hc)[i]?=some (hc p):=by rw[List.getElem?_map,h];rfl
 have e1:=lM (hsz hs) h1 (o:=0) (by omega) (.int .i64 a);have h2:((hs.map hc).set i ((hc p).set 0 (.int .i64 a)))[i]?=some ((hc p).set 0 (.int .i64 a)):=by rw[List.getElem?_set_self (au h1)]
 have e2:=lM (rs:=(hs.map hc).set i ((hc p).set 0 (.int .i64 a))) (si:=2) (λr hr=>by
  rcases List.mem_or_eq_of_mem_set hr with hr|rfl
  ·exact hsz hs r hr
  ·rfl) h2 (o:=1) (by omega) (.int .i64 c)
 rw[Nat.add_zero]at e1;rw[List.flatMap_def,List.flatMap_def,<-e1,<-e2,List.set_set,List.map_set];rfl
theorem bW.put(h:bW w b hs)(hi:hs[i]?=some p)(a c:Int):bW ((w.setCell ⟨b,i*2,none⟩ (.int .i64 a)).setCell ⟨b,i*2+1,none⟩ (.int .i64 c)) b (hs.set i (a,c)):=by unfold bW at *;rw[heap_setCell_same _ b (i*2+1) _ (heap_setCell_same w b (i*2) _ h),List.setIfInBounds_toArray,List.setIfInBounds_toArray,Cy hi]
theorem bW.abD(h:bW w b hs)(hi:hs[i]?=some p)(a:Int):bW (w.setCell ⟨b,i*2,none⟩ (.int .i64 a)) b (hs.set i (a,p.2)):=by
 unfold bW at *;have e:=Cy hi a p.2;have h1:((hs.flatMap hc).set (i*2) (.int .i64 a))[i*2+1]?=some (.int .i64 p.2):=by rw[List.getElem?_set_ne (by omega),uL hi 1 (by omega)];rfl
 rw[lm h1]at e;rw[heap_setCell_same w b (i*2) _ h,List.setIfInBounds_toArray,e]
theorem NT:(Tryz.prog.info? 167).map (λi=>(i.zero,i.size,i.bytes))=some (some (.agg #[.int .i64 0,.int .i64 0]),2,16):=by kernel_rfl
theorem JL(w:World)(n:Nat)(hn:n<=1000):(Instr.makeSlice 162 (.int .i64 n) (.int .i64 n)).run Tryz.prog w=.ok (.slice (some ⟨w.heap.size,0,none⟩) n n) (w.alloc (.cells ((List.replicate n ((0:Int),(0:Int))).flatMap hc).toArray 167)):=by
 obtain ⟨i,hi,h0,h1,h2⟩:=info_parts NT;rw[run_make w 162 167 i (.agg #[.int .i64 0,.int .i64 0]) Tryz.underlying162 hi h0 .i64 .i64 n n (by omega) (by omega) (by rw[h2];omega) (by omega)]
 have:madeCells (Value.agg #[.int .i64 0,.int .i64 0]).cells ((n:Int).toNat *i.size)=((List.replicate n ((0:Int),(0:Int))).flatMap hc).toArray:=by
  rw[h1]
  have hl:∀n:Nat,(List.replicate n ((0:Int),(0:Int))).flatMap hc=List.replicate (n*2) (.int .i64 0):=by
   intro n
   induction n with
   | zero=>rfl
   | succ n ih=>rw[List.replicate_succ,List.flatMap_cons,ih,show (n+1)*2=n*2+1+1 by omega,List.replicate_succ,List.replicate_succ];rfl
  rw[hl];apply Array.ext
  ·simp[size_madeCells]
  ·intro k h3 h4;simp only[madeCells,Array.getElem_map,Array.getElem_range,List.getElem_toArray,List.getElem_replicate];have:k % (Value.agg #[.int .i64 0,.int .i64 0]).cells.size=0∨k % (Value.agg #[.int .i64 0,.int .i64 0]).cells.size=1:=by show k % 2=0∨k % 2=1;omega
   rcases this with e|e<;>rw[e]<;>rfl
 rw[this];simp
structure RG(w:World)(B P:Nat)(g n cap:Nat)(ss:List bZ):Prop where
 gy:fe w B P (.slice (some ⟨g,0,none⟩) n cap) ss
 gY:∀t∈ss,∀r∈t.rs,ed w r
 few:ss.length<=12/\∀t∈ss,t.rs.length<=40
theorem RG.below(h:RG w B P g n cap ss)(hb:Below w.heap.size w w'):RG w' B P g n cap ss:=⟨h.gy.below hb,λt ht r hr=>(h.gY t ht r hr).below hb,h.few⟩
theorem RG.keep(h:RG w B P g n cap ss)(hs:w.heap.size<=w'.heap.size)(hk:∀(k:Nat) c t,t≠167->w.heap[k]?=some (.cells c t (0,0))->w'.heap[k]?=some (.cells c t (0,0))):RG w' B P g n cap ss:=
 ⟨h.gy.keep λk c t ht hh=>hk k c t (by rcases ht with rfl|rfl|rfl<;>decide) hh,λt ht r hr=>(h.gY t ht r hr).keep hs λk c t ht hh=>hk k c t (by rcases ht with rfl|rfl|rfl<;>decide) hh,h.few⟩
def xE(w:World)(b n k:Nat)(vi:Value)(wr:World):Prop:=
 ∃j,vi=.int .i64 (j:Nat)/\j+k=n/\Below b w wr/\bW wr b (List.replicate j ((-1:Int),(0:Int))++List.replicate k ((0:Int),(0:Int)))
def xF(n:Nat)(w:World)(e:Ending)(w':World):Prop:=e=.returned (.slice (some ⟨w.heap.size,0,none⟩) n n)/\bW w' w.heap.size (List.replicate n ((-1:Int),(0:Int)))/\Below w.heap.size w w'
set_option maxRecDepth 20000 in
set_option maxHeartbeats 1000000 in
theorem yz(B P g n0 cap:Nat)(ss:List bZ)(i:Nat)(s:bZ)(w:World)(h:RG w B P g n0 cap ss)(hi:ss[i]?=some s):Calls Tryz.prog 87 #[.pointer (some ⟨g,i*3,none⟩)] w (xF s.rs.length w):=by
 obtain ⟨c0,c1,c2,_⟩:=h.gy.at hi;obtain ⟨Xx,kq,lS,_⟩:=h.gy.rules (List.mem_of_getElem? hi);rw[lS]at c1;have hn:=h.few.2 s (List.mem_of_getElem? hi);obtain ⟨n,qM⟩:∃n,n=s.rs.length:=⟨_,rfl⟩;rw[<-qM]at c1 hn ⊢;have hmk:=JL w n (by omega);clear h hi lS qM c0 c2;go_enter Tryz.func87,Tryz.ntmps87;go_wp2_with fail
 have Db:=aa (af w (.cells ((List.replicate n ((0:Int),(0:Int))).flatMap hc).toArray 167));have gR:=aa (show Below w.heap.size w (w.alloc (.cells ((List.replicate n ((0:Int),(0:Int))).flatMap hc).toArray 167)) from (Below.refl _ _).alloc (Nat.le_refl _) _);obtain ⟨b,hb⟩:∃b,b=w.heap.size:=⟨_,rfl⟩;rw[<-hb]at Db gR ⊢;have HG:=aa hb
 clear hmk hb c1;generalize w.alloc (.cells ((List.replicate n ((0:Int),(0:Int))).flatMap hc).toArray 167)=w1 at *;go_loopg [4] n (λk vi wr=>xE w b n k vi wr)
 case atStart=>exact ⟨0,rfl,by omega,gR.out,by rw[List.replicate_zero,List.nil_append];exact Db.out⟩
 case round=>
  obtain ⟨j,rfl,hj,hb,hr⟩:=hrel;have HB:=aa hb;have HR:=aa hr
  cases gk with
  | zero=>
   have kt:¬j<n:=by omega
   have hg1:decide (j<n)=false:=by simpa using kt
   have ai:=aa (show xF n w (.returned (.slice (some ⟨b,0,none⟩) n n)) wr from ⟨by rw[HG.out],by
    have h:=HR.out;rw[HG.out]at h;obtain rfl:j=n:=by omega
    simpa using h,by have h:=HB.out;rwa [HG.out]at h⟩)
   clear hb hr;go_wp2_with fail;go_ret;exact ai.out
  | succ k=>
   have pP:j<n:=by omega
   have hg1:decide ((j:Int)<(n:Int))=true:=by simpa using pP
   have zl:(List.replicate j ((-1:Int),(0:Int))++List.replicate (k+1) ((0:Int),(0:Int)))[j]?=some (0,0):=by rw[List.getElem?_append_right (by simp),List.length_replicate,Nat.sub_self,List.replicate_succ];rfl
   obtain ⟨e1,_,e3,_⟩:=hr.cell zl
   have HST:=aa (show xE w b n k (.int .i64 ((j+1:Nat):Int)) (wr.setCell ⟨b,j*2,none⟩ (.int .i64 (-1))) from ⟨j+1,rfl,by omega,hb.setCell (Nat.le_refl _) _,by have:=hr.abD zl (-1);rw[List.set_append_right _ _ (by simp),List.length_replicate,Nat.sub_self,List.replicate_succ,List.set_cons_zero]at this;rw[List.replicate_succ',List.append_assoc];exact this⟩)
   clear hb hr;go_wp2_with fail;go_roundg k
   case measure=>omega
   case rel=>exact HST.out
def Zv(s:bZ)(rs:List GR):Prop:=s.rs.length=rs.length/\∀(k:Nat) q r,s.rs[k]?=some q->rs[k]?=some r->bc q.p.data.toList (some (r.a.re,[]))
theorem FW{q:dW}(h:ed w q)(hp:bc q.p.data.toList (some (r.a.re,[]))):∃P B ls first,q.n=.pointer (some ⟨P,0,none⟩)/\Ref.iY w B P ls first r.a.re/\B<=w.heap.size:=by obtain ⟨P,B,ls,first,re,h1,h2,h3,h4⟩:=h;have:=h2.cS hp;simp at this;subst this;exact ⟨P,B,ls,first,h1,h3,h4⟩
theorem bW.off{Y:Nat->Prop}(h:bW w b hs)(ho:aN Y w w')(hy:¬Y b):bW w' b hs:=ho.same h hy
def NU(rs:List GR)(T:List UInt8)(at_ b:Nat)(w:World)(e:Ending)(w':World):Prop:=
 (∃v,e=.returned v)/\∃hs,bW w' b hs/\pC rs T at_ hs/\aN (λk=>k=b) w w'
def zm(rs:List GR)(T:List UInt8)(at_ b n:Nat)(w:World)(k:Nat)(vi:Value)(wr:World):Prop:=
 ∃(j:Nat) (hs:List (Int×Int)),vi=.int .i64 j/\j+k=n/\bW wr b hs/\nI rs T at_ hs/\(∀(i:Nat) r h,i<j->rs[i]?=some r->hs[i]?=some h->lO r.a.re T at_ h.1 h.2)/\aN (λk=>k=b) w wr
theorem GC{rs:List GR}{T:List UInt8}{at_:Nat}{j:Nat}{a c:Int}(eA:nI rs T at_ hs)(p7:∀(i:Nat) r h,i<j->rs[i]?=some r->hs[i]?=some h->lO r.a.re T at_ h.1 h.2)(hr:rs[j]?=some r)(hn:lO r.a.re T at_ a c):nI rs T at_ (hs.set j (a,c))/\∀(i:Nat) r h,i<j+1->rs[i]?=some r->(hs.set j (a,c))[i]?=some h->lO r.a.re T at_ h.1 h.2:=by
 refine ⟨⟨by rw[List.length_set];exact eA.1,λi r' h h1 h2=>?_⟩,λi r' h hi h1 h2=>?_⟩
 ·rcases fF h2 with ⟨rfl,rfl⟩|⟨_,h2⟩
  ·rw[hr]at h1;cases h1;exact hn.ok (Nat.le_refl _)
  ·exact eA.2 i r' h h1 h2
 ·rcases fF h2 with ⟨rfl,rfl⟩|⟨hne,h2⟩
  ·rw[hr]at h1;cases h1;exact hn
  ·exact p7 i r' h (by omega) h1 h2
set_option maxRecDepth 20000 in
set_option maxHeartbeats 2000000 in
theorem H9(B P g n0 cap:Nat)(ss:List bZ)(i:Nat)(s:bZ)(rs:List GR)(text:ByteArray)(at_ b:Nat)(hs:List (Int×Int))(w:World)(h:RG w B P g n0 cap ss)(hi:ss[i]?=some s)(dc:Zv s rs)(hat:at_<=text.size)(hz:text.size<=3000)(hh:bW w b hs)(eA:nI rs text.data.toList at_ hs):
  Calls Tryz.prog 88 #[.pointer (some ⟨g,i*3,none⟩),.string text,.int .i64 at_,.slice (some ⟨b,0,none⟩) rs.length rs.length] w (NU rs text.data.toList at_ b w):=by
 have hn:=h.few.2 s (List.mem_of_getElem? hi);rw[dc.1]at hn;have GL:=aa (λ(wr:World) (ho:aN (λk=>k=b) w wr)=>show RG wr B P g n0 cap ss from h.keep ho.size λk c t ht hk=>ho.same hk (λe=>by rw[e,hh]at hk;cases hk;exact ht rfl));have Tb:=aa dc;have HH:=aa hh;have xP:=aa eA;have HI:=aa hi;clear h hi dc hh eA
 go_enter Tryz.func88,Tryz.ntmps88;go_wp2_with fail;go_loopg [8] rs.length (λk vi wr=>zm rs text.data.toList at_ b rs.length w k vi wr)
 case atStart=>exact ⟨0,hs,rfl,by omega,HH.out,xP.out,λi r h hi=>by omega,aN.refl _ _⟩
 case round=>
  obtain ⟨j,hs,rfl,hj,yA,eA,p7,aX⟩:=hrel;by_cases pP:j<rs.length
  ·have g1:decide ((j:Int)<(rs.length:Int))=true:=decide_eq_true (by omega);obtain ⟨r,hr⟩:∃r,rs[j]?=some r:=⟨_,List.getElem?_eq_getElem pP⟩;obtain ⟨p,hp⟩:∃p,hs[j]?=some p:=⟨_,List.getElem?_eq_getElem (by rw[eA.1];exact pP)⟩;obtain ⟨e1,e2,e3,e4⟩:=yA.cell hp;have hwr:IntKind.i64.wrap ((j:Int)+1)=(j:Int)+1:=by rw[IntKind.wrap_i64];omega
   by_cases kt:(at_:Int)<=p.1
   ·have g2:decide ((at_:Int)<=p.1)=true:=decide_eq_true kt
    have HST:=aa (show zm rs text.data.toList at_ b rs.length w (rs.length - (j+1)) (.int .i64 ((j:Int)+1)) wr from ⟨j+1,hs,by simp,by omega,yA,eA,λi r' h' h1 h2 h3=>by
     rcases Nat.lt_or_ge i j with h4|h4
     ·exact p7 i r' h' h4 h2 h3
     ·obtain rfl:i=j:=by omega
      rw[hp]at h3;cases h3;exact (eA.2 i r' p h2 hp).now kt,aX⟩)
    clear yA eA p7 aX;go_wp2_with fail;go_roundg (rs.length - (j+1))
    case measure=>omega
    case rel=>exact HST.out
   ·have g2:decide ((at_:Int)<=p.1)=false:=decide_eq_false kt;have VM:=GL.out wr aX;obtain ⟨q,hq⟩:∃q,s.rs[j]?=some q:=⟨_,List.getElem?_eq_getElem (by rw[Tb.out.1];exact pP)⟩;obtain ⟨c0,c1,c2,_⟩:=VM.gy.at HI.out
    obtain ⟨rg,rn,kq,lS⟩:∃rg rn kq,s.rv=.slice (some ⟨rg,0,none⟩) rn kq:=by obtain ⟨Xx,kq,h1,h2⟩:=VM.gy.rules (List.mem_of_getElem? HI.out);obtain ⟨rg,h3⟩:=h2 (by have:=au hq;omega);exact ⟨rg,_,kq,by rw[h1,h3]⟩
    have d4:=VM.gy.rule (List.mem_of_getElem? HI.out) lS hq 4 (by omega) rfl;obtain ⟨PP,PB,cu,first,Xy,hpl,hPB⟩:=FW (VM.gY s (List.mem_of_getElem? HI.out) q (List.mem_of_getElem? hq)) (Tb.out.2 j q r hq hr);rw[Xy]at d4;rw[lS]at c1;have hrn:rn=s.rs.length:=by obtain ⟨Xx,abL,h1,h2⟩:=VM.gy.rules (List.mem_of_getElem? HI.out);rw[lS]at h1;cases h1;rfl
    have N1:j<rn:=by rw[hrn];exact au hq
    have IB:=aa (Ref.ll wr PB PP cu first r.a.re hpl hPB text at_ hat (by omega));have FV:=aa yA;have QL:=aa eA;have vI:=aa p7;have QM:=aa aX;have d4c:=d4.1;clear yA eA p7 aX VM hpl d4 c0 c2;go_wp2_with fail;refine IB.out.mono ?_;rintro e2' w2 ⟨o,hm,rfl,hb2⟩;have QN:bW w2 b hs:=(hb2.block _ (ae FV.out)).trans FV.out
    obtain ⟨e1',e2',e3',e4'⟩:=QN.cell hp
    cases o with
    | none=>
     have HST:=aa (show zm rs text.data.toList at_ b rs.length w (rs.length - (j+1)) (.int .i64 ((j:Int)+1)) ((w2.setCell ⟨b,j*2,none⟩ (.int .i64 1000000)).setCell ⟨b,j*2+1,none⟩ (.int .i64 0)) from by
      obtain ⟨s1,s2⟩:=GC (a:=1000000) (c:=0) QL.out vI.out hr (.inl ⟨rfl,hm⟩);refine ⟨j+1,_,by simp,by omega,QN.put hp _ _,s1,s2,?_⟩;exact ((QM.out.trans (aN.ar hb2)).trans (aN.setCell (Y:=λk=>k=b) (p:=⟨b,j*2,none⟩) rfl QN (by decide) _)).trans (aN.setCell (Y:=λk=>k=b) (p:=⟨b,j*2+1,none⟩) rfl (heap_setCell_same w2 b (j*2) _ QN) (by decide) _))
     unfold found;clear hm hb2 QN IB FV QL vI QM;go_wp2_with fail;go_roundg (rs.length - (j+1))
     case measure=>omega
     case rel=>exact HST.out
    | some se=>
     obtain ⟨s1,e1x⟩:=se
     have HST:=aa (show zm rs text.data.toList at_ b rs.length w (rs.length - (j+1)) (.int .i64 ((j:Int)+1)) ((w2.setCell ⟨b,j*2,none⟩ (.int .i64 s1)).setCell ⟨b,j*2+1,none⟩ (.int .i64 e1x)) from by
      obtain ⟨s1,s2⟩:=GC (a:=s1) (c:=e1x) QL.out vI.out hr (.inr ⟨s1,e1x,rfl,rfl,hm⟩);refine ⟨j+1,_,by simp,by omega,QN.put hp _ _,s1,s2,?_⟩;exact ((QM.out.trans (aN.ar hb2)).trans (aN.setCell (Y:=λk=>k=b) (p:=⟨b,j*2,none⟩) rfl QN (by decide) _)).trans (aN.setCell (Y:=λk=>k=b) (p:=⟨b,j*2+1,none⟩) rfl (heap_setCell_same w2 b (j*2) _ QN) (by decide) _))
     unfold found;clear hm hb2 QN IB FV QL vI QM;go_wp2_with fail;go_roundg (rs.length - (j+1))
     case measure=>omega
     case rel=>exact HST.out
  ·have g1:decide ((j:Int)<(rs.length:Int))=false:=decide_eq_false (by omega);obtain rfl:j=rs.length:=by omega
   have ai:=aa (show NU rs text.data.toList at_ b w (.returned (.tuple #[])) wr from ⟨⟨_,rfl⟩,hs,yA,⟨eA.1,λi r h h1 h2=>p7 i r h (au h1) h1 h2⟩,aX⟩);clear yA eA p7 aX;go_wp2_with fail;go_end0;exact ai.out
end Go.Proofs.YtgncgdkpkkdaeaaGreatDoor
