import Derived.Test.YtgncgdkpkkdaeaaGreatDoorAX
import Derived.Test.YtgncgdkpkkdaeaaGreatDoorAVG
set_option maxRecDepth 20000
set_option maxHeartbeats 2000000
namespace Go.Proofs.YtgncgdkpkkdaeaaGreatDoor
open Go.RowKit bu Go.Maps
variable {r:GR} {p:Int×Int} {hs:List (Int×Int)} {ss:List cH} {B P b cap g i n:Nat} {w w':World}
def hc(p:Int×Int):List Value:=[.int .i64 p.1,.int .i64 p.2]
def cZ(w:World)(b:Nat)(hs:List (Int×Int)):Prop:=w.heap[b]?=some (.cells (hs.flatMap hc).toArray 167 (0,0))
theorem xo(h:hs[i]?=some p)(j:Nat)(hj:j<2):(hs.flatMap hc)[i*2+j]?=(hc p)[j]?:=by rw[List.flatMap_def];exact kH (si:=2) (by intro r hr;obtain ⟨x,_,rfl⟩:=List.mem_map.1 hr;rfl) (by rw[fX,h];rfl) j hj
theorem cZ.cell(h:cZ w b hs)(hi:hs[i]?=some p):w.cell? ⟨b,i*2,none⟩=some (.int .i64 p.1)/\w.cell? ⟨b,i*2+1,none⟩=some (.int .i64 p.2)/\w.frozen? ⟨b,i*2,none⟩=false/\w.frozen? ⟨b,i*2+1,none⟩=false:=by
 unfold cZ at h;refine ⟨ai h ?_,ai h ?_,by simp[World.frozen?,h],by simp[World.frozen?,h]⟩
 ·rw[List.getElem?_toArray];exact xo hi 0 (by omega)
 ·rw[List.getElem?_toArray];exact xo hi 1 (by omega)
theorem Et(h:hs[i]?=some p)(a c:Int):((hs.flatMap hc).set (i*2) (.int .i64 a)).set (i*2+1) (.int .i64 c)=(hs.set i (a,c)).flatMap hc:=by
 have hsz:∀(l:List (Int×Int)),∀r∈l.map hc,r.length=2:=λl r hr=>by obtain ⟨x,_,rfl⟩:=List.mem_map.1 hr;rfl
 have h1:(hs.map hc)[i]?=some (hc p):=by rw[fX,h];rfl
 have e1:=nu (hsz hs) h1 (o:=0) (by omega) (.int .i64 a);have h2:((hs.map hc).set i ((hc p).set 0 (.int .i64 a)))[i]?=some ((hc p).set 0 (.int .i64 a)):=by rw[List.getElem?_set_self (az h1)]
 have e2:=nu (rs:=(hs.map hc).set i ((hc p).set 0 (.int .i64 a))) (si:=2) (λr hr=>by
  rcases List.mem_or_eq_of_mem_set hr with hr|rfl
  ·exact hsz hs r hr
  ·rfl) h2 (o:=1) (by omega) (.int .i64 c)
 rw[Nat.add_zero]at e1;rw[List.flatMap_def,List.flatMap_def,<-e1,<-e2,List.set_set,List.map_set];rfl
theorem cZ.put(h:cZ w b hs)(hi:hs[i]?=some p)(a c:Int):cZ ((w.setCell ⟨b,i*2,none⟩ (.int .i64 a)).setCell ⟨b,i*2+1,none⟩ (.int .i64 c)) b (hs.set i (a,c)):=by unfold cZ at *;rw[ah _ b (i*2+1) _ (ah w b (i*2) _ h),List.setIfInBounds_toArray,List.setIfInBounds_toArray,Et hi]
theorem cZ.ada(h:cZ w b hs)(hi:hs[i]?=some p)(a:Int):cZ (w.setCell ⟨b,i*2,none⟩ (.int .i64 a)) b (hs.set i (a,p.2)):=by
 unfold cZ at *;have e:=Et hi a p.2;have h1:((hs.flatMap hc).set (i*2) (.int .i64 a))[i*2+1]?=some (.int .i64 p.2):=by rw[List.getElem?_set_ne (by omega),xo hi 1 (by omega)];rfl
 rw[wu h1]at e;rw[ah w b (i*2) _ h,List.setIfInBounds_toArray,e]
theorem Qi:(Tryz.prog.info? 167).map (λi=>(i.zero,i.size,i.bytes))=some (some (.agg #[.int .i64 0,.int .i64 0]),2,16):=by kernel_rfl
theorem LR(w:World)(n:Nat)(hn:n<=1000):(Instr.makeSlice 162 (.int .i64 n) (.int .i64 n)).run Tryz.prog w=.ok (.slice (some ⟨w.heap.size,0,none⟩) n n) (w.alloc (.cells ((List.replicate n ((0:Int),(0:Int))).flatMap hc).toArray 167)):=by
 obtain ⟨i,hi,h0,h1,h2⟩:=info_parts Qi;rw[run_make w 162 167 i (.agg #[.int .i64 0,.int .i64 0]) Tryz.underlying162 hi h0 .i64 .i64 n n (by omega) (by omega) (by rw[h2];omega) (by omega)]
 have:madeCells (Value.agg #[.int .i64 0,.int .i64 0]).cells ((n:Int).toNat *i.size)=((List.replicate n ((0:Int),(0:Int))).flatMap hc).toArray:=by
  rw[h1]
  have hl:∀n:Nat,(List.replicate n ((0:Int),(0:Int))).flatMap hc=List.replicate (n*2) (.int .i64 0):=by
   intro n
   induction n with
   | zero=>rfl
   | succ n ih=>rw[List.replicate_succ,List.flatMap_cons,ih,show (n+1)*2=n*2+1+1 by omega,List.replicate_succ,List.replicate_succ];rfl
  rw[hl];apply Array.ext
  ·simp[size_madeCells]
  ·intro k h3 h4;simp only[madeCells,Array.getElem_map,Array.getElem_range,List.getElem_toArray,List.getElem_replicate];have:k % (Value.agg #[.int .i64 0,.int .i64 0]).cells.size=0∨k % (Value.agg #[.int .i64 0,.int .i64 0]).cells.size=1:=by show k % 2=0∨k % 2=1;omega
   rcases this with e|e<;>rw[e]<;>rfl
 rw[this];simp
structure RG(w:World)(B P:Nat)(g n cap:Nat)(ss:List cH):Prop where
 ia:fY w B P (.slice (some ⟨g,0,none⟩) n cap) ss
 iB:∀t∈ss,∀r∈t.rs,eN w r
 few:ss.length<=12/\∀t∈ss,t.rs.length<=40
theorem RG.below(h:RG w B P g n cap ss)(hb:Below w.heap.size w w'):RG w' B P g n cap ss:=⟨h.ia.below hb,λt ht r hr=>(h.iB t ht r hr).below hb,h.few⟩
theorem RG.keep(h:RG w B P g n cap ss)(hs:w.heap.size<=w'.heap.size)(hk:∀(k:Nat) c t,t≠167->w.heap[k]?=some (.cells c t (0,0))->w'.heap[k]?=some (.cells c t (0,0))):RG w' B P g n cap ss:=
 ⟨h.ia.keep λk c t ht hh=>hk k c t (by rcases ht with rfl|rfl|rfl<;>decide) hh,λt ht r hr=>(h.iB t ht r hr).keep hs λk c t ht hh=>hk k c t (by rcases ht with rfl|rfl|rfl<;>decide) hh,h.few⟩
def zE(w:World)(b n k:Nat)(vi:Value)(wr:World):Prop:=
 ∃j,vi=.int .i64 (j:Nat)/\j+k=n/\Below b w wr/\cZ wr b (List.replicate j ((-1:Int),(0:Int))++List.replicate k ((0:Int),(0:Int)))
def zF(n:Nat)(w:World)(e:Ending)(w':World):Prop:=e=.returned (.slice (some ⟨w.heap.size,0,none⟩) n n)/\cZ w' w.heap.size (List.replicate n ((-1:Int),(0:Int)))/\Below w.heap.size w w'
theorem AB(B P g n0 cap:Nat)(ss:List cH)(i:Nat)(s:cH)(w:World)(h:RG w B P g n0 cap ss)(hi:ss[i]?=some s):Calls Tryz.prog 87 #[.pointer (some ⟨g,i*3,none⟩)] w (zF s.rs.length w):=by
 obtain ⟨c0,c1,c2,_⟩:=h.ia.at hi;obtain ⟨Z2,lM,nB,_⟩:=h.ia.rules (bn hi);rw[nB]at c1;have hn:=h.few.2 s (bn hi);obtain ⟨n,sY⟩:∃n,n=s.rs.length:=⟨_,rfl⟩;rw[<-sY]at c1 hn ⊢;have hmk:=LR w n (by omega);clear h hi nB sY c0 c2;go_enter Tryz.func87,Tryz.ntmps87;go_wp2_with fail
 have E6:=aa (ag w (.cells ((List.replicate n ((0:Int),(0:Int))).flatMap hc).toArray 167));have gZ:=aa (show Below w.heap.size w (w.alloc (.cells ((List.replicate n ((0:Int),(0:Int))).flatMap hc).toArray 167)) from cq _ _);obtain ⟨b,hb⟩:∃b,b=w.heap.size:=⟨_,rfl⟩;rw[<-hb]at E6 gZ ⊢;have HG:=aa hb
 clear hmk hb c1;generalize w.alloc (.cells ((List.replicate n ((0:Int),(0:Int))).flatMap hc).toArray 167)=w1 at *;go_loopg [4] n (λk vi wr=>zE w b n k vi wr)
 case atStart=>exact ⟨0,rfl,by omega,gZ.out,by rw[List.replicate_zero,List.nil_append];exact E6.out⟩
 case round=>
  obtain ⟨j,rfl,hj,hb,hr⟩:=hrel;have HB:=aa hb;have HR:=aa hr
  cases gk with
  | zero=>
   have kO:¬j<n:=by omega
   have hg1:decide (j<n)=false:=by simpa using kO
   have aq:=aa (show zF n w (.returned (.slice (some ⟨b,0,none⟩) n n)) wr from ⟨by rw[HG.out],by
    have h:=HR.out;rw[HG.out]at h;obtain rfl:j=n:=by omega
    simpa using h,by have h:=HB.out;rwa [HG.out]at h⟩)
   clear hb hr;go_wp2_with fail;go_ret;exact aq.out
  | succ k=>
   have rE:j<n:=by omega
   have hg1:decide ((j:Int)<(n:Int))=true:=by simpa using rE
   have sL:(List.replicate j ((-1:Int),(0:Int))++List.replicate (k+1) ((0:Int),(0:Int)))[j]?=some (0,0):=by rw[pS (by simp),List.length_replicate,Nat.sub_self,List.replicate_succ];rfl
   obtain ⟨e1,_,e3,_⟩:=hr.cell sL
   have HST:=aa (show zE w b n k (.int .i64 ((j+1:Nat):Int)) (wr.setCell ⟨b,j*2,none⟩ (.int .i64 (-1))) from ⟨j+1,rfl,by omega,hb.setCell (bc _) _,by have:=hr.ada sL (-1);rw[List.set_append_right _ _ (by simp),List.length_replicate,Nat.sub_self,List.replicate_succ,List.set_cons_zero]at this;rw[List.replicate_succ',fP];exact this⟩)
   clear hb hr;go_wp2_with fail;go_roundg k
   case measure=>omega
   case rel=>exact HST.out
def abA(s:cH)(rs:List GR):Prop:=s.rs.length=rs.length/\∀(k:Nat) q r,s.rs[k]?=some q->rs[k]?=some r->bH q.p.data.toList (some (r.a.re,[]))
theorem IK{q:eJ}(h:eN w q)(hp:bH q.p.data.toList (some (r.a.re,[]))):∃P B ls first,q.n=.pointer (some ⟨P,0,none⟩)/\Ref.jQ w B P ls first r.a.re/\B<=w.heap.size:=by obtain ⟨P,B,ls,first,re,h1,h2,h3,h4⟩:=h;have:=h2.dz hp;simp at this;subst this;exact ⟨P,B,ls,first,h1,h3,h4⟩
def Qj(rs:List GR)(T:List UInt8)(at_ b:Nat)(w:World)(e:Ending)(w':World):Prop:=
 (∃v,e=.returned v)/\∃hs,cZ w' b hs/\rj rs T at_ hs/\aM (λk=>k=b) w w'
def BA(rs:List GR)(T:List UInt8)(at_ b n:Nat)(w:World)(k:Nat)(vi:Value)(wr:World):Prop:=
 ∃(j:Nat) (hs:List (Int×Int)),vi=.int .i64 j/\j+k=n/\cZ wr b hs/\pB rs T at_ hs/\(∀(i:Nat) r h,i<j->rs[i]?=some r->hs[i]?=some h->ny r.a.re T at_ h.1 h.2)/\aM (λk=>k=b) w wr
theorem Jo{rs:List GR}{T:List UInt8}{at_:Nat}{j:Nat}{a c:Int}(eM:pB rs T at_ hs)(rS:∀(i:Nat) r h,i<j->rs[i]?=some r->hs[i]?=some h->ny r.a.re T at_ h.1 h.2)(hr:rs[j]?=some r)(hn:ny r.a.re T at_ a c):pB rs T at_ (hs.set j (a,c))/\∀(i:Nat) r h,i<j+1->rs[i]?=some r->(hs.set j (a,c))[i]?=some h->ny r.a.re T at_ h.1 h.2:=by
 refine ⟨⟨by rw[List.length_set];exact eM.1,λi r' h h1 h2=>?_⟩,λi r' h hi h1 h2=>?_⟩
 ·rcases gA h2 with ⟨rfl,rfl⟩|⟨_,h2⟩
  ·rw[hr]at h1;cases h1;exact hn.ok (bc _)
  ·exact eM.2 i r' h h1 h2
 ·rcases gA h2 with ⟨rfl,rfl⟩|⟨hne,h2⟩
  ·rw[hr]at h1;cases h1;exact hn
  ·exact rS i r' h (by omega) h1 h2
theorem Kf(B P g n0 cap:Nat)(ss:List cH)(i:Nat)(s:cH)(rs:List GR)(text:ByteArray)(at_ b:Nat)(hs:List (Int×Int))(w:World)(h:RG w B P g n0 cap ss)(hi:ss[i]?=some s)(dC:abA s rs)(hat:at_<=text.size)(hz:text.size<=3000)(hh:cZ w b hs)(eM:pB rs text.data.toList at_ hs):
  Calls Tryz.prog 88 #[.pointer (some ⟨g,i*3,none⟩),.string text,.int .i64 at_,.slice (some ⟨b,0,none⟩) rs.length rs.length] w (Qj rs text.data.toList at_ b w):=by
 have hn:=h.few.2 s (bn hi);rw[dC.1]at hn;have Jw:=aa (λ(wr:World) (ho:aM (λk=>k=b) w wr)=>show RG wr B P g n0 cap ss from h.keep ho.size λk c t ht hk=>ho.same hk (λe=>by rw[e,hh]at hk;cases hk;exact ht rfl));have VH:=aa dC;have HH:=aa hh;have zP:=aa eM;have HI:=aa hi;clear h hi dC hh eM
 go_enter Tryz.func88,Tryz.ntmps88;go_wp2_with fail;go_loopg [8] rs.length (λk vi wr=>BA rs text.data.toList at_ b rs.length w k vi wr)
 case atStart=>exact ⟨0,hs,rfl,by omega,HH.out,zP.out,λi r h hi=>by omega,aM.refl _ _⟩
 case round=>
  obtain ⟨j,hs,rfl,hj,hha,eM,rS,aR⟩:=hrel;by_cases rE:j<rs.length
  ·have g1:decide ((j:Int)<(rs.length:Int))=true:=cF (by omega);obtain ⟨r,hr⟩:∃r,rs[j]?=some r:=⟨_,cB rE⟩;obtain ⟨p,hp⟩:∃p,hs[j]?=some p:=⟨_,cB (by rw[eM.1];exact rE)⟩;obtain ⟨e1,e2,e3,e4⟩:=hha.cell hp;have hwr:IntKind.i64.wrap ((j:Int)+1)=(j:Int)+1:=by rw[IntKind.wrap_i64];omega
   by_cases kO:(at_:Int)<=p.1
   ·have g2:decide ((at_:Int)<=p.1)=true:=cF kO
    have HST:=aa (show BA rs text.data.toList at_ b rs.length w (rs.length - (j+1)) (.int .i64 ((j:Int)+1)) wr from ⟨j+1,hs,by simp,by omega,hha,eM,λi r' h' h1 h2 h3=>by
     rcases ed i j with h4|h4
     ·exact rS i r' h' h4 h2 h3
     ·obtain rfl:i=j:=by omega
      rw[hp]at h3;cases h3;exact (eM.2 i r' p h2 hp).now kO,aR⟩)
    clear hha eM rS aR;go_wp2_with fail;go_roundg (rs.length - (j+1))
    case measure=>omega
    case rel=>exact HST.out
   ·have g2:decide ((at_:Int)<=p.1)=false:=bV kO;have Yv:=Jw.out wr aR;obtain ⟨q,hq⟩:∃q,s.rs[j]?=some q:=⟨_,cB (by rw[VH.out.1];exact rE)⟩;obtain ⟨c0,c1,c2,_⟩:=Yv.ia.at HI.out
    obtain ⟨rg,rn,lM,nB⟩:∃rg rn lM,s.rv=.slice (some ⟨rg,0,none⟩) rn lM:=by obtain ⟨Z2,lM,h1,h2⟩:=Yv.ia.rules (bn HI.out);obtain ⟨rg,h3⟩:=h2 (by have:=az hq;omega);exact ⟨rg,_,lM,by rw[h1,h3]⟩
    have d4:=Yv.ia.rule (bn HI.out) nB hq 4 (by omega) rfl;obtain ⟨PP,PB,cM,first,Z3,hpl,hPB⟩:=IK (Yv.iB s (bn HI.out) q (bn hq)) (VH.out.2 j q r hq hr);rw[Z3]at d4;rw[nB]at c1;have hrn:rn=s.rs.length:=by obtain ⟨Z2,adl,h1,h2⟩:=Yv.ia.rules (bn HI.out);rw[nB]at h1;cases h1;rfl
    have Qp:j<rn:=by rw[hrn];exact az hq
    have KC:=aa (Ref.mP wr PB PP cM first r.a.re hpl hPB text at_ hat (by omega));have II:=aa hha;have Tr:=aa eM;have xT:=aa rS;have Ts:=aa aR;have d4c:=d4.1;clear hha eM rS aR Yv hpl d4 c0 c2;go_wp2_with fail;refine KC.out.mono ?_;rintro e2' w2 ⟨o,hm,rfl,hb2⟩;have Tt:cZ w2 b hs:=(hb2.block _ (ae II.out)).trans II.out
    obtain ⟨e1',e2',e3',e4'⟩:=Tt.cell hp
    cases o with
    | none=>
     have HST:=aa (show BA rs text.data.toList at_ b rs.length w (rs.length - (j+1)) (.int .i64 ((j:Int)+1)) ((w2.setCell ⟨b,j*2,none⟩ (.int .i64 1000000)).setCell ⟨b,j*2+1,none⟩ (.int .i64 0)) from by
      obtain ⟨s1,s2⟩:=Jo (a:=1000000) (c:=0) Tr.out xT.out hr (.inl ⟨rfl,hm⟩);refine ⟨j+1,_,by simp,by omega,Tt.put hp _ _,s1,s2,?_⟩;exact ((Ts.out.trans (aM.ay hb2)).trans (aM.setCell (Y:=λk=>k=b) (p:=⟨b,j*2,none⟩) rfl Tt (by decide) _)).trans (aM.setCell (Y:=λk=>k=b) (p:=⟨b,j*2+1,none⟩) rfl (ah w2 b (j*2) _ Tt) (by decide) _))
     unfold found;clear hm hb2 Tt KC II Tr xT Ts;go_wp2_with fail;go_roundg (rs.length - (j+1))
     case measure=>omega
     case rel=>exact HST.out
    | some se=>
     obtain ⟨s1,e1x⟩:=se
     have HST:=aa (show BA rs text.data.toList at_ b rs.length w (rs.length - (j+1)) (.int .i64 ((j:Int)+1)) ((w2.setCell ⟨b,j*2,none⟩ (.int .i64 s1)).setCell ⟨b,j*2+1,none⟩ (.int .i64 e1x)) from by
      obtain ⟨s1,s2⟩:=Jo (a:=s1) (c:=e1x) Tr.out xT.out hr (.inr ⟨s1,e1x,rfl,rfl,hm⟩);refine ⟨j+1,_,by simp,by omega,Tt.put hp _ _,s1,s2,?_⟩;exact ((Ts.out.trans (aM.ay hb2)).trans (aM.setCell (Y:=λk=>k=b) (p:=⟨b,j*2,none⟩) rfl Tt (by decide) _)).trans (aM.setCell (Y:=λk=>k=b) (p:=⟨b,j*2+1,none⟩) rfl (ah w2 b (j*2) _ Tt) (by decide) _))
     unfold found;clear hm hb2 Tt KC II Tr xT Ts;go_wp2_with fail;go_roundg (rs.length - (j+1))
     case measure=>omega
     case rel=>exact HST.out
  ·have g1:decide ((j:Int)<(rs.length:Int))=false:=bV (by omega);obtain rfl:j=rs.length:=by omega
   have aq:=aa (show Qj rs text.data.toList at_ b w (.returned (.tuple #[])) wr from ⟨⟨_,rfl⟩,hs,hha,⟨eM.1,λi r h h1 h2=>rS i r h (az h1) h1 h2⟩,aR⟩);clear hha eM rS aR;go_wp2_with fail;go_end0;exact aq.out
end Go.Proofs.YtgncgdkpkkdaeaaGreatDoor
