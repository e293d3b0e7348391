import Derived.Test.YtgncgdkpkkdaeaaGreatDoorMX
import Derived.Test.YtgncgdkpkkdaeaaGreatDoorMTE
import Derived.Test.YtgncgdkpkkdaeaaGreatDoorMVG
namespace Go.Proofs.YtgncgdkpkkdaeaaGreatDoor
open Go.RowKit aO Go.Maps
variable {r:GR} {p:Int×Int} {hs:List (Int×Int)} {ss:List cd} {B P b cap g i n:Nat} {w w':World}
def hc(p:Int×Int):List Value:=[.int .i64 p.1,.int .i64 p.2]
def cg(w:World)(b:Nat)(hs:List (Int×Int)):Prop:=w.heap[b]?=some (.cells (hs.flatMap hc).toArray 167 (0,0))
theorem wu(h:hs[i]?=some p)(j:Nat)(hj:j<2):(hs.flatMap hc)[i*2+j]?=(hc p)[j]?:=by rw[List.flatMap_def];exact j5 (si:=2) (by intro r hr;obtain ⟨x,_,rfl⟩:=List.mem_map.1 hr;rfl) (by rw[List.getElem?_map,h];rfl) j hj
theorem cg.cell(h:cg w b hs)(hi:hs[i]?=some p):w.cell? ⟨b,i*2,none⟩=some (.int .i64 p.1)/\w.cell? ⟨b,i*2+1,none⟩=some (.int .i64 p.2)/\w.frozen? ⟨b,i*2,none⟩=false/\w.frozen? ⟨b,i*2+1,none⟩=false:=by
 unfold cg at h;refine ⟨ag h ?_,ag h ?_,by simp[World.frozen?,h],by simp[World.frozen?,h]⟩
 ·rw[List.getElem?_toArray];exact wu hi 0 (by omega)
 ·rw[List.getElem?_toArray];exact wu hi 1 (by omega)
theorem DB(h:hs[i]?=some p)(a c:Int):((hs.flatMap hc).set (i*2) (.int .i64 a)).set (i*2+1) (.int .i64 c)=(hs.set i (a,c)).flatMap hc:=by
 have hsz:∀(l:List (Int×Int)),∀r∈l.map hc,r.length=2:=λl r hr=>by obtain ⟨x,_,rfl⟩:=List.mem_map.1 hr;rfl
 have h1:(hs.map hc)[i]?=some (hc p):=by rw[List.getElem?_map,h];rfl
 have e1:=mC (hsz hs) h1 (o:=0) (by omega) (.int .i64 a);have h2:((hs.map hc).set i ((hc p).set 0 (.int .i64 a)))[i]?=some ((hc p).set 0 (.int .i64 a)):=by rw[List.getElem?_set_self (aw h1)]
 have e2:=mC (rs:=(hs.map hc).set i ((hc p).set 0 (.int .i64 a))) (si:=2) (λr hr=>by
  rcases List.mem_or_eq_of_mem_set hr with hr|rfl
  ·exact hsz hs r hr
  ·rfl) h2 (o:=1) (by omega) (.int .i64 c)
 rw[Nat.add_zero]at e1;rw[List.flatMap_def,List.flatMap_def,<-e1,<-e2,List.set_set,List.map_set];rfl
theorem cg.put(h:cg w b hs)(hi:hs[i]?=some p)(a c:Int):cg ((w.setCell ⟨b,i*2,none⟩ (.int .i64 a)).setCell ⟨b,i*2+1,none⟩ (.int .i64 c)) b (hs.set i (a,c)):=by unfold cg at *;rw[heap_setCell_same _ b (i*2+1) _ (heap_setCell_same w b (i*2) _ h),List.setIfInBounds_toArray,List.setIfInBounds_toArray,DB hi]
theorem cg.acH(h:cg w b hs)(hi:hs[i]?=some p)(a:Int):cg (w.setCell ⟨b,i*2,none⟩ (.int .i64 a)) b (hs.set i (a,p.2)):=by
 unfold cg at *;have e:=DB hi a p.2;have h1:((hs.flatMap hc).set (i*2) (.int .i64 a))[i*2+1]?=some (.int .i64 p.2):=by rw[List.getElem?_set_ne (by omega),wu hi 1 (by omega)];rfl
 rw[lY h1]at e;rw[heap_setCell_same w b (i*2) _ h,List.setIfInBounds_toArray,e]
theorem Po:(Tryz.prog.info? 167).map (λi=>(i.zero,i.size,i.bytes))=some (some (.agg #[.int .i64 0,.int .i64 0]),2,16):=by kernel_rfl
theorem K3(w:World)(n:Nat)(hn:n<=1000):(Instr.makeSlice 162 (.int .i64 n) (.int .i64 n)).run Tryz.prog w=.ok (.slice (some ⟨w.heap.size,0,none⟩) n n) (w.alloc (.cells ((List.replicate n ((0:Int),(0:Int))).flatMap hc).toArray 167)):=by
 obtain ⟨i,hi,h0,h1,h2⟩:=info_parts Po;rw[run_make w 162 167 i (.agg #[.int .i64 0,.int .i64 0]) Tryz.underlying162 hi h0 .i64 .i64 n n (by omega) (by omega) (by rw[h2];omega) (by omega)]
 have:madeCells (Value.agg #[.int .i64 0,.int .i64 0]).cells ((n:Int).toNat *i.size)=((List.replicate n ((0:Int),(0:Int))).flatMap hc).toArray:=by
  rw[h1]
  have hl:∀n:Nat,(List.replicate n ((0:Int),(0:Int))).flatMap hc=List.replicate (n*2) (.int .i64 0):=by
   intro n
   induction n with
   | zero=>rfl
   | succ n ih=>rw[List.replicate_succ,List.flatMap_cons,ih,show (n+1)*2=n*2+1+1 by omega,List.replicate_succ,List.replicate_succ];rfl
  rw[hl];apply Array.ext
  ·simp[size_madeCells]
  ·intro k h3 h4;simp only[madeCells,Array.getElem_map,Array.getElem_range,List.getElem_toArray,List.getElem_replicate];have:k % (Value.agg #[.int .i64 0,.int .i64 0]).cells.size=0∨k % (Value.agg #[.int .i64 0,.int .i64 0]).cells.size=1:=by show k % 2=0∨k % 2=1;omega
   rcases this with e|e<;>rw[e]<;>rfl
 rw[this];simp
structure RG(w:World)(B P:Nat)(g n cap:Nat)(ss:List cd):Prop where
 gC:fD w B P (.slice (some ⟨g,0,none⟩) n cap) ss
 gX:∀t∈ss,∀r∈t.rs,ez w r
 few:ss.length<=12/\∀t∈ss,t.rs.length<=40
theorem RG.below(h:RG w B P g n cap ss)(hb:Below w.heap.size w w'):RG w' B P g n cap ss:=⟨h.gC.below hb,λt ht r hr=>(h.gX t ht r hr).below hb,h.few⟩
theorem RG.keep(h:RG w B P g n cap ss)(hs:w.heap.size<=w'.heap.size)(hk:∀(k:Nat) c t,t≠167->w.heap[k]?=some (.cells c t (0,0))->w'.heap[k]?=some (.cells c t (0,0))):RG w' B P g n cap ss:=
 ⟨h.gC.keep λk c t ht hh=>hk k c t (by rcases ht with rfl|rfl|rfl<;>decide) hh,λt ht r hr=>(h.gX t ht r hr).keep hs λk c t ht hh=>hk k c t (by rcases ht with rfl|rfl|rfl<;>decide) hh,h.few⟩
def yK(w:World)(b n k:Nat)(vi:Value)(wr:World):Prop:=
 ∃j,vi=.int .i64 (j:Nat)/\j+k=n/\Below b w wr/\cg wr b (List.replicate j ((-1:Int),(0:Int))++List.replicate k ((0:Int),(0:Int)))
def yL(n:Nat)(w:World)(e:Ending)(w':World):Prop:=e=.returned (.slice (some ⟨w.heap.size,0,none⟩) n n)/\cg w' w.heap.size (List.replicate n ((-1:Int),(0:Int)))/\Below w.heap.size w w'
set_option maxRecDepth 20000 in
set_option maxHeartbeats 1000000 in
theorem zG(B P g n0 cap:Nat)(ss:List cd)(i:Nat)(s:cd)(w:World)(h:RG w B P g n0 cap ss)(hi:ss[i]?=some s):Calls Tryz.prog 87 #[.pointer (some ⟨g,i*3,none⟩)] w (yL s.rs.length w):=by
 obtain ⟨c0,c1,c2,_⟩:=h.gC.at hi;obtain ⟨Zj,kV,mG,_⟩:=h.gC.rules (List.mem_of_getElem? hi);rw[mG]at c1;have hn:=h.few.2 s (List.mem_of_getElem? hi);obtain ⟨n,rU⟩:∃n,n=s.rs.length:=⟨_,rfl⟩;rw[<-rU]at c1 hn ⊢;have hmk:=K3 w n (by omega);clear h hi mG rU c0 c2;go_enter Tryz.func87,Tryz.ntmps87;go_wp2_with fail
 have Ej:=aa (af w (.cells ((List.replicate n ((0:Int),(0:Int))).flatMap hc).toArray 167));have gW:=aa (show Below w.heap.size w (w.alloc (.cells ((List.replicate n ((0:Int),(0:Int))).flatMap hc).toArray 167)) from (Below.refl _ _).alloc (Nat.le_refl _) _);obtain ⟨b,hb⟩:∃b,b=w.heap.size:=⟨_,rfl⟩;rw[<-hb]at Ej gW ⊢;have HG:=aa hb
 clear hmk hb c1;generalize w.alloc (.cells ((List.replicate n ((0:Int),(0:Int))).flatMap hc).toArray 167)=w1 at *;go_loopg [4] n (λk vi wr=>yK w b n k vi wr)
 case atStart=>exact ⟨0,rfl,by omega,gW.out,by rw[List.replicate_zero,List.nil_append];exact Ej.out⟩
 case round=>
  obtain ⟨j,rfl,hj,hb,hr⟩:=hrel;have HB:=aa hb;have HR:=aa hr
  cases gk with
  | zero=>
   have kg:¬j<n:=by omega
   have hg1:decide (j<n)=false:=by simpa using kg
   have ai:=aa (show yL n w (.returned (.slice (some ⟨b,0,none⟩) n n)) wr from ⟨by rw[HG.out],by
    have h:=HR.out;rw[HG.out]at h;obtain rfl:j=n:=by omega
    simpa using h,by have h:=HB.out;rwa [HG.out]at h⟩)
   clear hb hr;go_wp2_with fail;go_ret;exact ai.out
  | succ k=>
   have qF:j<n:=by omega
   have hg1:decide ((j:Int)<(n:Int))=true:=by simpa using qF
   have rG:(List.replicate j ((-1:Int),(0:Int))++List.replicate (k+1) ((0:Int),(0:Int)))[j]?=some (0,0):=by rw[List.getElem?_append_right (by simp),List.length_replicate,Nat.sub_self,List.replicate_succ];rfl
   obtain ⟨e1,_,e3,_⟩:=hr.cell rG
   have HST:=aa (show yK w b n k (.int .i64 ((j+1:Nat):Int)) (wr.setCell ⟨b,j*2,none⟩ (.int .i64 (-1))) from ⟨j+1,rfl,by omega,hb.setCell (Nat.le_refl _) _,by have:=hr.acH rG (-1);rw[List.set_append_right _ _ (by simp),List.length_replicate,Nat.sub_self,List.replicate_succ,List.set_cons_zero]at this;rw[List.replicate_succ',List.append_assoc];exact this⟩)
   clear hb hr;go_wp2_with fail;go_roundg k
   case measure=>omega
   case rel=>exact HST.out
def aa1(s:cd)(rs:List GR):Prop:=s.rs.length=rs.length/\∀(k:Nat) q r,s.rs[k]?=some q->rs[k]?=some r->bh q.p.data.toList (some (r.a.re,[]))
theorem He{q:eo}(h:ez w q)(hp:bh q.p.data.toList (some (r.a.re,[]))):∃P B ls first,q.n=.pointer (some ⟨P,0,none⟩)/\Ref.jx w B P ls first r.a.re/\B<=w.heap.size:=by obtain ⟨P,B,ls,first,re,h1,h2,h3,h4⟩:=h;have:=h2.cX hp;simp at this;subst this;exact ⟨P,B,ls,first,h1,h3,h4⟩
theorem cg.off{Y:Nat->Prop}(h:cg w b hs)(ho:aK Y w w')(hy:¬Y b):cg w' b hs:=ho.same h hy
def Pp(rs:List GR)(T:List UInt8)(at_ b:Nat)(w:World)(e:Ending)(w':World):Prop:=
 (∃v,e=.returned v)/\∃hs,cg w' b hs/\qu rs T at_ hs/\aK (λk=>k=b) w w'
def Ay(rs:List GR)(T:List UInt8)(at_ b n:Nat)(w:World)(k:Nat)(vi:Value)(wr:World):Prop:=
 ∃(j:Nat) (hs:List (Int×Int)),vi=.int .i64 j/\j+k=n/\cg wr b hs/\oG rs T at_ hs/\(∀(i:Nat) r h,i<j->rs[i]?=some r->hs[i]?=some h->mE r.a.re T at_ h.1 h.2)/\aK (λk=>k=b) w wr
theorem Iz{rs:List GR}{T:List UInt8}{at_:Nat}{j:Nat}{a c:Int}(dZ:oG rs T at_ hs)(qV:∀(i:Nat) r h,i<j->rs[i]?=some r->hs[i]?=some h->mE r.a.re T at_ h.1 h.2)(hr:rs[j]?=some r)(hn:mE r.a.re T at_ a c):oG rs T at_ (hs.set j (a,c))/\∀(i:Nat) r h,i<j+1->rs[i]?=some r->(hs.set j (a,c))[i]?=some h->mE r.a.re T at_ h.1 h.2:=by
 refine ⟨⟨by rw[List.length_set];exact dZ.1,λi r' h h1 h2=>?_⟩,λi r' h hi h1 h2=>?_⟩
 ·rcases fQ h2 with ⟨rfl,rfl⟩|⟨_,h2⟩
  ·rw[hr]at h1;cases h1;exact hn.ok (Nat.le_refl _)
  ·exact dZ.2 i r' h h1 h2
 ·rcases fQ h2 with ⟨rfl,rfl⟩|⟨hne,h2⟩
  ·rw[hr]at h1;cases h1;exact hn
  ·exact qV i r' h (by omega) h1 h2
set_option maxRecDepth 20000 in
set_option maxHeartbeats 2000000 in
theorem Jr(B P g n0 cap:Nat)(ss:List cd)(i:Nat)(s:cd)(rs:List GR)(text:ByteArray)(at_ b:Nat)(hs:List (Int×Int))(w:World)(h:RG w B P g n0 cap ss)(hi:ss[i]?=some s)(dr:aa1 s rs)(hat:at_<=text.size)(hz:text.size<=3000)(hh:cg w b hs)(dZ:oG rs text.data.toList at_ hs):
  Calls Tryz.prog 88 #[.pointer (some ⟨g,i*3,none⟩),.string text,.int .i64 at_,.slice (some ⟨b,0,none⟩) rs.length rs.length] w (Pp rs text.data.toList at_ b w):=by
 have hn:=h.few.2 s (List.mem_of_getElem? hi);rw[dr.1]at hn;have II:=aa (λ(wr:World) (ho:aK (λk=>k=b) w wr)=>show RG wr B P g n0 cap ss from h.keep ho.size λk c t ht hk=>ho.same hk (λe=>by rw[e,hh]at hk;cases hk;exact ht rfl));have UN:=aa dr;have HH:=aa hh;have yV:=aa dZ;have HI:=aa hi;clear h hi dr hh dZ
 go_enter Tryz.func88,Tryz.ntmps88;go_wp2_with fail;go_loopg [8] rs.length (λk vi wr=>Ay rs text.data.toList at_ b rs.length w k vi wr)
 case atStart=>exact ⟨0,hs,rfl,by omega,HH.out,yV.out,λi r h hi=>by omega,aK.refl _ _⟩
 case round=>
  obtain ⟨j,hs,rfl,hj,hha,dZ,qV,aR⟩:=hrel;by_cases qF:j<rs.length
  ·have g1:decide ((j:Int)<(rs.length:Int))=true:=decide_eq_true (by omega);obtain ⟨r,hr⟩:∃r,rs[j]?=some r:=⟨_,List.getElem?_eq_getElem qF⟩;obtain ⟨p,hp⟩:∃p,hs[j]?=some p:=⟨_,List.getElem?_eq_getElem (by rw[dZ.1];exact qF)⟩;obtain ⟨e1,e2,e3,e4⟩:=hha.cell hp;have hwr:IntKind.i64.wrap ((j:Int)+1)=(j:Int)+1:=by rw[IntKind.wrap_i64];omega
   by_cases kg:(at_:Int)<=p.1
   ·have g2:decide ((at_:Int)<=p.1)=true:=decide_eq_true kg
    have HST:=aa (show Ay rs text.data.toList at_ b rs.length w (rs.length - (j+1)) (.int .i64 ((j:Int)+1)) wr from ⟨j+1,hs,by simp,by omega,hha,dZ,λi r' h' h1 h2 h3=>by
     rcases Nat.lt_or_ge i j with h4|h4
     ·exact qV i r' h' h4 h2 h3
     ·obtain rfl:i=j:=by omega
      rw[hp]at h3;cases h3;exact (dZ.2 i r' p h2 hp).now kg,aR⟩)
    clear hha dZ qV aR;go_wp2_with fail;go_roundg (rs.length - (j+1))
    case measure=>omega
    case rel=>exact HST.out
   ·have g2:decide ((at_:Int)<=p.1)=false:=decide_eq_false kg;have XK:=II.out wr aR;obtain ⟨q,hq⟩:∃q,s.rs[j]?=some q:=⟨_,List.getElem?_eq_getElem (by rw[UN.out.1];exact qF)⟩;obtain ⟨c0,c1,c2,_⟩:=XK.gC.at HI.out
    obtain ⟨rg,rn,kV,mG⟩:∃rg rn kV,s.rv=.slice (some ⟨rg,0,none⟩) rn kV:=by obtain ⟨Zj,kV,h1,h2⟩:=XK.gC.rules (List.mem_of_getElem? HI.out);obtain ⟨rg,h3⟩:=h2 (by have:=aw hq;omega);exact ⟨rg,_,kV,by rw[h1,h3]⟩
    have d4:=XK.gC.rule (List.mem_of_getElem? HI.out) mG hq 4 (by omega) rfl;obtain ⟨PP,PB,cC,first,Zk,hpl,hPB⟩:=He (XK.gX s (List.mem_of_getElem? HI.out) q (List.mem_of_getElem? hq)) (UN.out.2 j q r hq hr);rw[Zk]at d4;rw[mG]at c1;have hrn:rn=s.rs.length:=by obtain ⟨Zj,acR,h1,h2⟩:=XK.gC.rules (List.mem_of_getElem? HI.out);rw[mG]at h1;cases h1;rfl
    have Pw:j<rn:=by rw[hrn];exact aw hq
    have JN:=aa (Ref.lX wr PB PP cC first r.a.re hpl hPB text at_ hat (by omega));have Hd:=aa hha;have Sy:=aa dZ;have xk:=aa qV;have Sz:=aa aR;have d4c:=d4.1;clear hha dZ qV aR XK hpl d4 c0 c2;go_wp2_with fail;refine JN.out.mono ?_;rintro e2' w2 ⟨o,hm,rfl,hb2⟩;have SA:cg w2 b hs:=(hb2.block _ (ae Hd.out)).trans Hd.out
    obtain ⟨e1',e2',e3',e4'⟩:=SA.cell hp
    cases o with
    | none=>
     have HST:=aa (show Ay rs text.data.toList at_ b rs.length w (rs.length - (j+1)) (.int .i64 ((j:Int)+1)) ((w2.setCell ⟨b,j*2,none⟩ (.int .i64 1000000)).setCell ⟨b,j*2+1,none⟩ (.int .i64 0)) from by
      obtain ⟨s1,s2⟩:=Iz (a:=1000000) (c:=0) Sy.out xk.out hr (.inl ⟨rfl,hm⟩);refine ⟨j+1,_,by simp,by omega,SA.put hp _ _,s1,s2,?_⟩;exact ((Sz.out.trans (aK.au hb2)).trans (aK.setCell (Y:=λk=>k=b) (p:=⟨b,j*2,none⟩) rfl SA (by decide) _)).trans (aK.setCell (Y:=λk=>k=b) (p:=⟨b,j*2+1,none⟩) rfl (heap_setCell_same w2 b (j*2) _ SA) (by decide) _))
     unfold found;clear hm hb2 SA JN Hd Sy xk Sz;go_wp2_with fail;go_roundg (rs.length - (j+1))
     case measure=>omega
     case rel=>exact HST.out
    | some se=>
     obtain ⟨s1,e1x⟩:=se
     have HST:=aa (show Ay rs text.data.toList at_ b rs.length w (rs.length - (j+1)) (.int .i64 ((j:Int)+1)) ((w2.setCell ⟨b,j*2,none⟩ (.int .i64 s1)).setCell ⟨b,j*2+1,none⟩ (.int .i64 e1x)) from by
      obtain ⟨s1,s2⟩:=Iz (a:=s1) (c:=e1x) Sy.out xk.out hr (.inr ⟨s1,e1x,rfl,rfl,hm⟩);refine ⟨j+1,_,by simp,by omega,SA.put hp _ _,s1,s2,?_⟩;exact ((Sz.out.trans (aK.au hb2)).trans (aK.setCell (Y:=λk=>k=b) (p:=⟨b,j*2,none⟩) rfl SA (by decide) _)).trans (aK.setCell (Y:=λk=>k=b) (p:=⟨b,j*2+1,none⟩) rfl (heap_setCell_same w2 b (j*2) _ SA) (by decide) _))
     unfold found;clear hm hb2 SA JN Hd Sy xk Sz;go_wp2_with fail;go_roundg (rs.length - (j+1))
     case measure=>omega
     case rel=>exact HST.out
  ·have g1:decide ((j:Int)<(rs.length:Int))=false:=decide_eq_false (by omega);obtain rfl:j=rs.length:=by omega
   have ai:=aa (show Pp rs text.data.toList at_ b w (.returned (.tuple #[])) wr from ⟨⟨_,rfl⟩,hs,hha,⟨dZ.1,λi r h h1 h2=>qV i r h (aw h1) h1 h2⟩,aR⟩);clear hha dZ qV aR;go_wp2_with fail;go_end0;exact ai.out
end Go.Proofs.YtgncgdkpkkdaeaaGreatDoor
