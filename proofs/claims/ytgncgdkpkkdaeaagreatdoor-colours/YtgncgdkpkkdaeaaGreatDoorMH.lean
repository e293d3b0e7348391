import Derived.Test.YtgncgdkpkkdaeaaGreatDoorMV1
import Derived.Test.YtgncgdkpkkdaeaaGreatDoorMN3
namespace Go.Proofs.YtgncgdkpkkdaeaaGreatDoor
open Go.RowKit aQ
variable {p:List UInt8} {B R fl wh:Nat} {lv:Value} {w w':World}
def eX(w:World)(B:Nat)(p:List UInt8)(lv:Value)(wh fl:Nat):Prop:=
 (60<p.length/\lv=.slice none 0 0/\wh=0/\fl=1) ∨
 (p.length<=60/\(bc p none∨∃r s',s'≠[]/\bc p (some (r,s')))/\lv=.slice none 0 0/\wh=0/\fl=6) ∨
 (p.length<=60/\fl=0/\∃(a:aM) (ns:List (Nd Value)) (g cap:Nat),lv=.slice (some ⟨g,0,none⟩) ns.length cap/\wh=a.ix/\bc p (some (a.re,[]))/\bb w B lv ns/\dH (aB w) ns a/\dH (aB w) ns .cW/\ns.length<=200)
theorem eX.keep(h:eX w B p lv wh fl)(hk:∀(k:Nat) c t,(t=292∨t=5∨t=290)->w.heap[k]?=some (.cells c t (0,0))->w'.heap[k]?=some (.cells c t (0,0))):eX w' B p lv wh fl:=by
 have hst:bu w w':=λk c t ht hh=>hk k c t (.inr ht) hh
 rcases h with h|h|⟨h1,h2,a,ns,g,cap,h3,h4,h5,h6,h7,h8,h9⟩
 ·exact .inl h
 ·exact .inr (.inl h)
 ·exact .inr (.inr ⟨h1,h2,a,ns,g,cap,h3,h4,h5,h6.keep λk hb=>by obtain ⟨_,cur,hc⟩:=h6.block hb;rw[hc];exact hk k _ _ (.inl rfl) hc,h7.world hst,h8.world hst,h9⟩)
theorem eX.below(h:eX w B p lv wh fl)(hb:Below w.heap.size w w'):eX w' B p lv wh fl:=
 h.keep λk _ _ _ hh=>(hb.block k (ae hh)).trans hh
structure cw(R:Nat)(w w':World):Prop where
 below:Below R w w'
 size:w'.heap.size=w.heap.size
 other:∀k,k≠R->w'.heap[k]?=w.heap[k]?
theorem cw.refl(R:Nat)(w:World):cw R w w:=⟨Below.refl _ _,rfl,λ_ _=>rfl⟩
theorem cw.set(h:cw R w w')(j:Nat)(v:Value):cw R w (w'.setCell ⟨R,j,none⟩ v):=
 ⟨h.below.setCell (Nat.le_refl _) _,by rw[<-h.size];simp[World.setCell],λk hk=>(Below.heap_setCell _ _ _ _ hk).trans (h.other k hk)⟩
theorem cw.drew(h:cw R w w'):cw R w w'.drew:=⟨h.below.drew,h.size,h.other⟩
theorem eX.only{c0:Array Value}{t0:TypeId}{fz:Nat×Nat}(h:eX w B p lv wh fl)(ho:cw R w w')(hR:w.heap[R]?=some (.cells c0 t0 fz))(h1:t0≠292)(h2:t0≠5)(h3:t0≠290):eX w' B p lv wh fl:=
 h.keep λk c t ht hh=>by
  rw[ho.other k (λe=>by
   rw[e,hR]at hh;simp only[Option.some.injEq,Obj.cells.injEq]at hh;rcases ht with rfl|rfl|rfl
   ·exact h1 hh.2.1
   ·exact h2 hh.2.1
   ·exact h3 hh.2.1)]
  exact hh
theorem eX.mono{B':Nat}(h:eX w B p lv wh fl)(hB:B'<=B):eX w B' p lv wh fl:=by
 rcases h with h|h|⟨h1,h2,a,ns,g,cap,h3,h4,h5,h6,h7,h8,h9⟩
 ·exact .inl h
 ·exact .inr (.inl h)
 ·refine .inr (.inr ⟨h1,h2,a,ns,g,cap,h3,h4,h5,⟨⟨h6.1.1,?_⟩,h6.2⟩,h7,h8,h9⟩);rcases h6.1.2 with hh|⟨g',cap',cur,e1,e2,e3⟩
  ·exact .inl hh
  ·exact .inr ⟨g',cap',cur,e1,Nat.le_trans hB e2,e3⟩
theorem ew(h:w.heap[R]?=some (.cells #[.int .i64 0,.int .i64 0,.string ⟨#[]⟩,.int .i64 0,.string ⟨#[]⟩,.slice none 0 0,.int .i64 0,.int .i64 0] 219 (0,0))):(w.cell? ⟨R,0,none⟩=some (.int .i64 0)/\w.cell? ⟨R,1,none⟩=some (.int .i64 0)/\w.cell? ⟨R,2,none⟩=some (.string ⟨#[]⟩)/\w.cell? ⟨R,3,none⟩=some (.int .i64 0)/\w.cell? ⟨R,4,none⟩=some (.string ⟨#[]⟩)/\w.cell? ⟨R,5,none⟩=some (.slice none 0 0)/\w.cell? ⟨R,6,none⟩=some (.int .i64 0)/\w.cell? ⟨R,7,none⟩=some (.int .i64 0)) /\
  w.frozen? ⟨R,0,none⟩=false/\w.frozen? ⟨R,1,none⟩=false/\w.frozen? ⟨R,2,none⟩=false/\w.frozen? ⟨R,3,none⟩=false/\w.frozen? ⟨R,4,none⟩=false/\w.frozen? ⟨R,5,none⟩=false/\w.frozen? ⟨R,6,none⟩=false/\w.frozen? ⟨R,7,none⟩=false:=by
 simp[World.cell?,World.frozen?,h]
theorem cw.eight(a b c d e f g h:Value):cw R w ((((((((w.setCell ⟨R,0,none⟩ a).setCell ⟨R,1,none⟩ b).setCell ⟨R,2,none⟩ c).setCell ⟨R,3,none⟩ d).setCell ⟨R,4,none⟩ e).setCell ⟨R,5,none⟩ f).setCell ⟨R,6,none⟩ g).setCell ⟨R,7,none⟩ h):=
 ((((((((cw.refl R w).set 0 a).set 1 b).set 2 c).set 3 d).set 4 e).set 5 f).set 6 g).set 7 h
theorem cw.more{w0:World}(hx:cw R w0 w)(a b c d e f g h:Value):cw R w0 ((((((((w.setCell ⟨R,0,none⟩ a).setCell ⟨R,1,none⟩ b).setCell ⟨R,2,none⟩ c).setCell ⟨R,3,none⟩ d).setCell ⟨R,4,none⟩ e).setCell ⟨R,5,none⟩ f).setCell ⟨R,6,none⟩ g).setCell ⟨R,7,none⟩ h):=
 (((((((hx.set 0 a).set 1 b).set 2 c).set 3 d).set 4 e).set 5 f).set 6 g).set 7 h
def yw(d:Nat)(t:List UInt8)(w:World)(e:Ending)(w':World):Prop:=
 Below w.heap.size w w'/\((e=.returned (.tuple #[.agg #[.int .i64 0,.int .i64 0,.string ⟨#[]⟩,.int .i64 0,.string ⟨#[]⟩,.slice none 0 0,.int .i64 0,.int .i64 0],.bool false])/\bj t=none) ∨
  ∃(co:ByteArray) (p:List UInt8) (ao:Option Addr) (ln cp wh fl:Nat),e=.returned (.tuple #[.agg #[.int .i64 0,.int .i64 2,.string ⟨#[]⟩,.int .i64 d,.string co,.slice ao ln cp,.int .i64 wh,.int .i64 fl],.bool true])/\bj t=some (co.data.toList,p)/\eX w' w.heap.size p (.slice ao ln cp) wh fl)
set_option maxRecDepth 20000 in
set_option maxHeartbeats 1000000 in
theorem jY(d:Nat)(t:ByteArray)(w:World)(hz:t.size<=2000)(hm:Mx w):
  Calls Tryz.prog 148 #[.int .i64 d,.string t] w (yw d t.data.toList w):=by
 have HM:=aa hm;clear hm;have HR:=aa (af w (.cells #[.int .i64 0,.int .i64 0,.string ⟨#[]⟩,.int .i64 0,.string ⟨#[]⟩,.slice none 0 0,.int .i64 0,.int .i64 0] 219))
 have HB:=aa (show Below w.heap.size w (w.alloc (.cells #[.int .i64 0,.int .i64 0,.string ⟨#[]⟩,.int .i64 0,.string ⟨#[]⟩,.slice none 0 0,.int .i64 0,.int .i64 0] 219)) from (Below.refl _ _).alloc (Nat.le_refl _) _);go_enter Tryz.func148,Tryz.ntmps148;go_wp2_with fail
 generalize w.alloc (.cells #[.int .i64 0,.int .i64 0,.string ⟨#[]⟩,.int .i64 0,.string ⟨#[]⟩,.slice none 0 0,.int .i64 0,.int .i64 0] 219)=W at *;obtain ⟨R,zC⟩:∃R,R=w.heap.size:=⟨_,rfl⟩;rw[<-zC]at HR ⊢;have JZ:=aa zC;clear zC;refine (A8 t W (by omega) (HM.out.below HB.out)).mono ?_;rintro e w1 ⟨⟨n1,rfl⟩,co,so,o,rfl,FI,hsz,iN⟩
 have br:=aa (Below.drewN' HB.out n1);have ez:=aa (show (W.drewN n1).heap[R]?=_ from HR.out);generalize W.drewN n1=W1 at *;rcases iN with ⟨rfl,gj,CD⟩|⟨CD,ho⟩
 ·have iU:=aa (jZ co W1 (by omega));have Tq:=aa CD;rw[gj]at iU;clear CD gj;go_wp2_with fail;refine iU.out.mono ?_;rintro e w2 ⟨rfl,fc⟩;have cM:=aa (br.out.trans (fc.mono br.out.size));have kR:=aa ((fc.block R (ae ez.out)).trans ez.out);clear fc iU;go_wp2_with fail;refine (wI so w2 (by unfold maxLen;omega)).mono ?_;rintro e w3 ⟨gG,iN⟩
  have eY:=aa (cM.out.trans (gG.mono cM.out.size));have FC:=aa ((gG.block R (ae kR.out)).trans kR.out)
  obtain ⟨ao,ln,cp,wh,fl,rfl,tU⟩:∃(ao:Option Addr) (ln cp wh fl:Nat),e=.returned (.tuple #[.agg #[.slice ao ln cp,.int .i64 wh],.int .i64 fl])/\eX w3 w2.heap.size so.data.toList (.slice ao ln cp) wh fl:=by
   rcases iN with ⟨h1,rfl⟩|⟨h1,h2,rfl⟩|⟨h1,sv,a,ns,rfl,h2,h3,h4,h5,h6⟩
   ·exact ⟨none,0,0,0,1,rfl,.inl ⟨h1,rfl,rfl,rfl⟩⟩
   ·exact ⟨none,0,0,0,6,rfl,.inr (.inl ⟨h1,h2,rfl,rfl,rfl⟩)⟩
   ·have h0:0<ns.length:=by obtain ⟨x,hx⟩:=h5;exact au hx
    obtain ⟨g,cap,rfl⟩:=aC h3.1 h0;exact ⟨some ⟨g,0,none⟩,ns.length,cap,a.ix,0,rfl,.inr (.inr ⟨h1,rfl,a,ns,g,cap,rfl,rfl,h2,h3,h4,h5,h6⟩)⟩
  obtain ⟨⟨c0,c1,c2,c3,c4,c5,c6,c7⟩,f0,f1,f2,f3,f4,f5,f6,f7⟩:=ew (heap_alloc_old (o:=.cells #[.slice ao ln cp,.int .i64 wh] 184) FC.out)
  have ai:=aa (λw' (ho:cw R (w3.alloc (.cells #[.slice ao ln cp,.int .i64 wh] 184)) w')=>show yw d t.data.toList w (.returned (.tuple #[.agg #[.int .i64 0,.int .i64 2,.string ⟨#[]⟩,.int .i64 d,.string co,.slice ao ln cp,.int .i64 wh,.int .i64 fl],.bool true])) w' from
   ⟨(eY.out.alloc eY.out.size _).trans (by rw[<-JZ.out];exact ho.below),.inr ⟨co,so.data.toList,ao,ln,cp,wh,fl,rfl,Tq.out,((tU.mono cM.out.size).below ((Below.refl _ _).alloc (Nat.le_refl _) _)).only ho (heap_alloc_old FC.out) (by decide) (by decide) (by decide)⟩⟩)
  clear tU gG iN FC kR ez HR eY cM br HB Tq;go_wp2_with fail;exact bodyPost_ret (v:=.tuple #[.agg #[.int .i64 0,.int .i64 2,.string ⟨#[]⟩,.int .i64 d,.string co,.slice ao ln cp,.int .i64 wh,.int .i64 fl],.bool true]) (by simp[results,Tryz.results148,go_sem, *]) rfl (ai.out _ (cw.eight _ _ _ _ _ _ _ _))
 ·have Tq:=aa CD;clear CD;by_cases ho0:o=true
  ·subst ho0;have gj:isName co.data.toList=false:=by rcases ho with h|h;cases h;exact h
   have iU:=aa (jZ co W1 (by omega));rw[gj]at iU;clear gj ho;go_wp2_with fail;refine iU.out.mono ?_;rintro e w2 ⟨rfl,fc⟩;obtain ⟨⟨c0,c1,c2,c3,c4,c5,c6,c7⟩,f0,f1,f2,f3,f4,f5,f6,f7⟩:=ew ((fc.block R (ae ez.out)).trans ez.out)
   have ai:=aa (λw' (hx:cw R w2 w')=>show yw d t.data.toList w (.returned (.tuple #[.agg #[.int .i64 0,.int .i64 0,.string ⟨#[]⟩,.int .i64 0,.string ⟨#[]⟩,.slice none 0 0,.int .i64 0,.int .i64 0],.bool false])) w' from ⟨(br.out.trans (fc.mono br.out.size)).trans (by rw[<-JZ.out];exact hx.below),.inl ⟨rfl,Tq.out⟩⟩);clear fc iU ez HR br HB Tq;go_wp2_with fail
   exact bodyPost_ret (v:=.tuple #[.agg #[.int .i64 0,.int .i64 0,.string ⟨#[]⟩,.int .i64 0,.string ⟨#[]⟩,.slice none 0 0,.int .i64 0,.int .i64 0],.bool false]) (by simp[results,Tryz.results148,go_sem, *]) rfl (ai.out _ (cw.eight _ _ _ _ _ _ _ _))
  ·obtain rfl:o=false:=by simpa using ho0
   obtain ⟨⟨c0,c1,c2,c3,c4,c5,c6,c7⟩,f0,f1,f2,f3,f4,f5,f6,f7⟩:=ew ez.out;have ai:=aa (λw' (hx:cw R W1 w')=>show yw d t.data.toList w (.returned (.tuple #[.agg #[.int .i64 0,.int .i64 0,.string ⟨#[]⟩,.int .i64 0,.string ⟨#[]⟩,.slice none 0 0,.int .i64 0,.int .i64 0],.bool false])) w' from ⟨br.out.trans (by rw[<-JZ.out];exact hx.below),.inl ⟨rfl,Tq.out⟩⟩)
   clear ez HR br HB Tq ho ho0;go_wp2_with fail;exact bodyPost_ret (v:=.tuple #[.agg #[.int .i64 0,.int .i64 0,.string ⟨#[]⟩,.int .i64 0,.string ⟨#[]⟩,.slice none 0 0,.int .i64 0,.int .i64 0],.bool false]) (by simp[results,Tryz.results148,go_sem, *]) rfl (ai.out _ (cw.eight _ _ _ _ _ _ _ _))
def fQ(w:World)(B:Nat)(kd d:Nat)(st co:ByteArray)(lv:Value)(wh fl:Nat):Ln->Prop
 | .blank=>kd=0/\d=0/\lv=.slice none 0 0/\wh=0/\fl=0
 | .state n=>kd=1/\d=0/\st.data.toList=n/\lv=.slice none 0 0/\wh=0/\fl=0
 | .rule d' o c p=>kd=2/\d'=d/\d<=2/\st.data.toList=o/\co.data.toList=c/\eX w B p lv wh fl
theorem fQ.keep{kd d:Nat}{st co:ByteArray}{x:Ln}(h:fQ w B kd d st co lv wh fl x)(hk:∀{p:List UInt8},eX w B p lv wh fl->eX w' B p lv wh fl):fQ w' B kd d st co lv wh fl x:=by
 cases x with
 | blank=>exact h
 | state n=>exact h
 | rule d' o c p=>exact ⟨h.1,h.2.1,h.2.2.1,h.2.2.2.1,h.2.2.2.2.1,hk h.2.2.2.2.2⟩
def iX(s:List UInt8)(w:World)(e:Ending)(w':World):Prop:=
 Below w.heap.size w w'/\∃(kd d wh fl:Nat) (st co:ByteArray) (ao:Option Addr) (ln cp:Nat) (ok:Bool),e=.returned (.tuple #[.agg #[.int .i64 0,.int .i64 kd,.string st,.int .i64 d,.string co,.slice ao ln cp,.int .i64 wh,.int .i64 fl],.bool ok]) /\
  ((ok=true/\∃x,cC s=some x/\fQ w' w.heap.size kd d st co (.slice ao ln cp) wh fl x)∨(ok=false/\cC s=none))
theorem Py(h:Below w.drew.heap.size w.drew w'):Below w.heap.size w w':=⟨h.os,h.tape,h.output,h.size,h.block⟩
theorem DU(w:List UInt8):fB w []=none:=by
 unfold fB;split
 ·rfl
 ·split
  ·rfl
  ·split
   ·rfl
   ·split
    ·rfl
    ·rfl
theorem DV{s:List UInt8}(h:s≠[]):(∀a b,s=a++32::b->(32:UInt8)∉a->cC s=fB a b)/\((32:UInt8)∉s->cC s=fB s []):=by
 constructor
 ·intro a b e hn;unfold cC;rw[if_neg h,e,dK b hn]
 ·intro hn;unfold cC;rw[if_neg h,fN hn,DU]
set_option maxRecDepth 20000 in
set_option maxHeartbeats 2000000 in
theorem yx(t:ByteArray)(w:World)(hz:t.size<=2000)(hm:Mx w):
  Calls Tryz.prog 109 #[.string t] w (iX t.data.toList w):=by
 have HM:=aa hm;clear hm;have HR:=aa (af w (.cells #[.int .i64 0,.int .i64 0,.string ⟨#[]⟩,.int .i64 0,.string ⟨#[]⟩,.slice none 0 0,.int .i64 0,.int .i64 0] 219))
 have HB:=aa (show Below w.heap.size w (w.alloc (.cells #[.int .i64 0,.int .i64 0,.string ⟨#[]⟩,.int .i64 0,.string ⟨#[]⟩,.slice none 0 0,.int .i64 0,.int .i64 0] 219)) from (Below.refl _ _).alloc (Nat.le_refl _) _);by_cases h0:t.data.toList=[]
 ·obtain rfl:t=⟨#[]⟩:=oN h0;have q0:((⟨#[]⟩:ByteArray).toList == [])=true:=by rw[ByteArray.toList_eq];rfl
  have ai:=aa (show iX (⟨#[]⟩:ByteArray).data.toList w (.returned (.tuple #[.agg #[.int .i64 0,.int .i64 (0:Nat),.string ⟨#[]⟩,.int .i64 (0:Nat),.string ⟨#[]⟩,.slice none 0 0,.int .i64 (0:Nat),.int .i64 (0:Nat)],.bool true])) (w.alloc (.cells #[.int .i64 0,.int .i64 0,.string ⟨#[]⟩,.int .i64 0,.string ⟨#[]⟩,.slice none 0 0,.int .i64 0,.int .i64 0] 219)) from
   ⟨HB.out,0,0,0,0,⟨#[]⟩,⟨#[]⟩,none,0,0,true,rfl,.inl ⟨rfl,.blank,rfl,rfl,rfl,rfl,rfl,rfl⟩⟩)
  clear HR HB HM;go_enter Tryz.func109,Tryz.ntmps109;go_wp2_with fail;exact bodyPost_ret (v:=.tuple #[.agg #[.int .i64 0,.int .i64 (0:Nat),.string ⟨#[]⟩,.int .i64 (0:Nat),.string ⟨#[]⟩,.slice none 0 0,.int .i64 (0:Nat),.int .i64 (0:Nat)],.bool true]) (by simp[results,Tryz.results109,go_sem, *]) rfl ai.out
 ·have q0:(t.toList == [])=false:=by rw[beq_eq_false_iff_ne,ByteArray.toList_eq];exact h0
  have HLC:=aa (DV h0);clear h0;go_enter Tryz.func109,Tryz.ntmps109;go_wp2_with fail;generalize w.alloc (.cells #[.int .i64 0,.int .i64 0,.string ⟨#[]⟩,.int .i64 0,.string ⟨#[]⟩,.slice none 0 0,.int .i64 0,.int .i64 0] 219)=W at *;obtain ⟨R,zC⟩:∃R,R=w.heap.size:=⟨_,rfl⟩;rw[<-zC]at HR ⊢;have JZ:=aa zC;clear zC
  refine (rZ t 32 W (by omega) (HM.out.below HB.out)).mono ?_;rintro e w1 ⟨⟨n1,rfl⟩,iN⟩;have br:=aa (Below.drewN' HB.out n1);have ez:=aa (show (W.drewN n1).heap[R]?=_ from HR.out);generalize W.drewN n1=W1 at *
  obtain ⟨wd,rs,o,rfl,GU,hL⟩:∃(wd rs:ByteArray) (o:Bool),e=.returned (.tuple #[.string wd,.string rs,.bool o])/\rs.size<=2000/\cC t.data.toList=fB wd.data.toList rs.data.toList:=by
   rcases iN with ⟨a,b,h1,h2,rfl⟩|⟨h1,rfl⟩
   ·exact ⟨a,b,true,rfl,by have:=congrArg List.length h1;rw[List.length_append,List.length_cons,aK,aK,aK]at this;omega,HLC.out.1 _ _ h1 h2⟩
   ·exact ⟨t,⟨#[]⟩,false,rfl,by decide,HLC.out.2 h1⟩
  have HL:=aa hL;clear iN hL HLC HB HR;by_cases h1:wd.data.toList=qi
  ·obtain rfl:wd=⟨#[115,116,97,116,101]⟩:=oN h1;have q1:((⟨#[115,116,97,116,101]⟩:ByteArray).toList == [115,116,97,116,101])=true:=by rw[ByteArray.toList_eq];rfl
   have iU:=aa (jZ rs W1 (by omega));clear h1;go_wp2_with fail;refine iU.out.mono ?_;rintro e w2 ⟨rfl,fc⟩;obtain ⟨⟨c0,c1,c2,c3,c4,c5,c6,c7⟩,f0,f1,f2,f3,f4,f5,f6,f7⟩:=ew ((fc.block R (ae ez.out)).trans ez.out)
   have ai:=aa (λw' (hx:cw R w2 w')=>show iX t.data.toList w (.returned (.tuple #[.agg #[.int .i64 0,.int .i64 (1:Nat),.string rs,.int .i64 (0:Nat),.string ⟨#[]⟩,.slice none 0 0,.int .i64 (0:Nat),.int .i64 (0:Nat)],.bool (isName rs.data.toList)])) w' from ⟨(br.out.trans (fc.mono br.out.size)).trans (by rw[<-JZ.out];exact hx.below),1,0,0,0,rs,⟨#[]⟩,none,0,0,isName rs.data.toList,rfl,by
    have hw:cC t.data.toList=if isName rs.data.toList=true then some (.state rs.data.toList) else none:=HL.out
    cases gj:isName rs.data.toList with
    | true=>rw[gj]at hw;exact .inl ⟨rfl,.state rs.data.toList,hw,rfl,rfl,rfl,rfl,rfl,rfl⟩
    | false=>rw[gj]at hw;exact .inr ⟨rfl,hw⟩⟩)
   clear fc iU HL ez br;go_wp2_with fail;exact bodyPost_ret (v:=.tuple #[.agg #[.int .i64 0,.int .i64 (1:Nat),.string rs,.int .i64 (0:Nat),.string ⟨#[]⟩,.slice none 0 0,.int .i64 (0:Nat),.int .i64 (0:Nat)],.bool (isName rs.data.toList)]) (by simp[results,Tryz.results109,go_sem, *]) rfl (ai.out _ (cw.eight _ _ _ _ _ _ _ _))
  ·by_cases h2:wd.data.toList=jX
   ·clear h1;have h1:=h2;clear h2;obtain rfl:wd=⟨#[116,111,107,101,110]⟩:=oN h1;have q1:((⟨#[116,111,107,101,110]⟩:ByteArray).toList == [115,116,97,116,101])=false:=by rw[ByteArray.toList_eq];rfl
    have q2:((⟨#[116,111,107,101,110]⟩:ByteArray).toList == [116,111,107,101,110])=true:=by rw[ByteArray.toList_eq];rfl
    have iI:=aa (jY 0 rs W1 GU (HM.out.below br.out));clear h1;go_wp2_with fail;refine iI.out.mono ?_;rintro e w2 ⟨fc,⟨rfl,hno⟩|⟨co,p,ao,ln,cp,wh,fl,rfl,A9,tU⟩⟩
    ·obtain ⟨⟨c0,c1,c2,c3,c4,c5,c6,c7⟩,f0,f1,f2,f3,f4,f5,f6,f7⟩:=ew ((fc.block R (ae ez.out)).trans ez.out)
     have ai:=aa (λw' (hx:cw R w2 w')=>show iX t.data.toList w (.returned (.tuple #[.agg #[.int .i64 0,.int .i64 (0:Nat),.string ⟨#[]⟩,.int .i64 (0:Nat),.string ⟨#[]⟩,.slice none 0 0,.int .i64 (0:Nat),.int .i64 (0:Nat)],.bool false])) w' from ⟨(br.out.trans (fc.mono br.out.size)).trans (by rw[<-JZ.out];exact hx.below),0,0,0,0,⟨#[]⟩,⟨#[]⟩,none,0,0,false,rfl,.inr ⟨rfl,by
      rw[HL.out,show fB [116,111,107,101,110] rs.data.toList=cd 0 [] rs.data.toList from rfl,cd,hno];rfl⟩⟩)
     clear fc hno iI HL ez br;go_wp2_with fail;exact bodyPost_ret (v:=.tuple #[.agg #[.int .i64 0,.int .i64 (0:Nat),.string ⟨#[]⟩,.int .i64 (0:Nat),.string ⟨#[]⟩,.slice none 0 0,.int .i64 (0:Nat),.int .i64 (0:Nat)],.bool false]) (by simp[results,Tryz.results109,go_sem, *]) rfl (ai.out _ (cw.eight _ _ _ _ _ _ _ _))
    ·have wH:=(fc.block R (ae ez.out)).trans ez.out;obtain ⟨⟨c0,c1,c2,c3,c4,c5,c6,c7⟩,f0,f1,f2,f3,f4,f5,f6,f7⟩:=ew wH
     have ai:=aa (λw' (hx:cw R w2 w')=>show iX t.data.toList w (.returned (.tuple #[.agg #[.int .i64 0,.int .i64 (2:Nat),.string ⟨#[]⟩,.int .i64 (0:Nat),.string co,.slice ao ln cp,.int .i64 wh,.int .i64 fl],.bool true])) w' from ⟨(br.out.trans (fc.mono br.out.size)).trans (by rw[<-JZ.out];exact hx.below),2,0,wh,fl,⟨#[]⟩,co,ao,ln,cp,true,rfl,.inl ⟨rfl,.rule 0 [] co.data.toList p,by
      rw[HL.out,show fB [116,111,107,101,110] rs.data.toList=cd 0 [] rs.data.toList from rfl,cd,A9];rfl,rfl,rfl,by omega,rfl,rfl,(tU.mono br.out.size).only hx wH (by decide) (by decide) (by decide)⟩⟩)
     clear fc A9 tU wH iI HL ez br;go_wp2_with fail;exact bodyPost_ret (v:=.tuple #[.agg #[.int .i64 0,.int .i64 (2:Nat),.string ⟨#[]⟩,.int .i64 (0:Nat),.string co,.slice ao ln cp,.int .i64 wh,.int .i64 fl],.bool true]) (by simp[results,Tryz.results109,go_sem, *]) rfl (ai.out _ (cw.eight _ _ _ _ _ _ _ _))
   ·by_cases h3:wd.data.toList=yt
    ·clear h1 h2;have h1:=h3;clear h3;obtain rfl:wd=⟨#[112,111,112]⟩:=oN h1;have q1:((⟨#[112,111,112]⟩:ByteArray).toList == [115,116,97,116,101])=false:=by rw[ByteArray.toList_eq];rfl
     have q2:((⟨#[112,111,112]⟩:ByteArray).toList == [116,111,107,101,110])=false:=by rw[ByteArray.toList_eq];rfl
     have q3:((⟨#[112,111,112]⟩:ByteArray).toList == [112,111,112])=true:=by rw[ByteArray.toList_eq];rfl
     have iI:=aa (jY 2 rs W1 GU (HM.out.below br.out));clear h1;go_wp2_with fail;refine iI.out.mono ?_;rintro e w2 ⟨fc,⟨rfl,hno⟩|⟨co,p,ao,ln,cp,wh,fl,rfl,A9,tU⟩⟩
     ·obtain ⟨⟨c0,c1,c2,c3,c4,c5,c6,c7⟩,f0,f1,f2,f3,f4,f5,f6,f7⟩:=ew ((fc.block R (ae ez.out)).trans ez.out)
      have ai:=aa (λw' (hx:cw R w2 w')=>show iX t.data.toList w (.returned (.tuple #[.agg #[.int .i64 0,.int .i64 (0:Nat),.string ⟨#[]⟩,.int .i64 (0:Nat),.string ⟨#[]⟩,.slice none 0 0,.int .i64 (0:Nat),.int .i64 (0:Nat)],.bool false])) w' from ⟨(br.out.trans (fc.mono br.out.size)).trans (by rw[<-JZ.out];exact hx.below),0,0,0,0,⟨#[]⟩,⟨#[]⟩,none,0,0,false,rfl,.inr ⟨rfl,by
       rw[HL.out,show fB [112,111,112] rs.data.toList=cd 2 [] rs.data.toList from rfl,cd,hno];rfl⟩⟩)
      clear fc hno iI HL ez br;go_wp2_with fail;exact bodyPost_ret (v:=.tuple #[.agg #[.int .i64 0,.int .i64 (0:Nat),.string ⟨#[]⟩,.int .i64 (0:Nat),.string ⟨#[]⟩,.slice none 0 0,.int .i64 (0:Nat),.int .i64 (0:Nat)],.bool false]) (by simp[results,Tryz.results109,go_sem, *]) rfl (ai.out _ (cw.eight _ _ _ _ _ _ _ _))
     ·have wH:=(fc.block R (ae ez.out)).trans ez.out;obtain ⟨⟨c0,c1,c2,c3,c4,c5,c6,c7⟩,f0,f1,f2,f3,f4,f5,f6,f7⟩:=ew wH
      have ai:=aa (λw' (hx:cw R w2 w')=>show iX t.data.toList w (.returned (.tuple #[.agg #[.int .i64 0,.int .i64 (2:Nat),.string ⟨#[]⟩,.int .i64 (2:Nat),.string co,.slice ao ln cp,.int .i64 wh,.int .i64 fl],.bool true])) w' from ⟨(br.out.trans (fc.mono br.out.size)).trans (by rw[<-JZ.out];exact hx.below),2,2,wh,fl,⟨#[]⟩,co,ao,ln,cp,true,rfl,.inl ⟨rfl,.rule 2 [] co.data.toList p,by
       rw[HL.out,show fB [112,111,112] rs.data.toList=cd 2 [] rs.data.toList from rfl,cd,A9];rfl,rfl,rfl,by omega,rfl,rfl,(tU.mono br.out.size).only hx wH (by decide) (by decide) (by decide)⟩⟩)
      clear fc A9 tU wH iI HL ez br;go_wp2_with fail;exact bodyPost_ret (v:=.tuple #[.agg #[.int .i64 0,.int .i64 (2:Nat),.string ⟨#[]⟩,.int .i64 (2:Nat),.string co,.slice ao ln cp,.int .i64 wh,.int .i64 fl],.bool true]) (by simp[results,Tryz.results109,go_sem, *]) rfl (ai.out _ (cw.eight _ _ _ _ _ _ _ _))
    ·by_cases h4:wd.data.toList=jo
     ·obtain rfl:wd=⟨#[112,117,115,104]⟩:=oN h4;have q1:((⟨#[112,117,115,104]⟩:ByteArray).toList == [115,116,97,116,101])=false:=by rw[ByteArray.toList_eq];rfl
      have q2:((⟨#[112,117,115,104]⟩:ByteArray).toList == [116,111,107,101,110])=false:=by rw[ByteArray.toList_eq];rfl
      have q3:((⟨#[112,117,115,104]⟩:ByteArray).toList == [112,111,112])=false:=by rw[ByteArray.toList_eq];rfl
      have q4:((⟨#[112,117,115,104]⟩:ByteArray).toList == [112,117,115,104])=true:=by rw[ByteArray.toList_eq];rfl
      clear h1 h2 h3 h4;go_wp2_with fail;refine (rZ rs 32 W1 (by omega) (HM.out.below br.out)).mono ?_;rintro e w2 ⟨⟨n2,rfl⟩,iN⟩;have cM:=aa (Below.drewN' br.out n2);have kR:=aa (show (W1.drewN n2).heap[R]?=_ from ez.out);generalize W1.drewN n2=W2 at *
      obtain ⟨st,r2,o2,rfl,aaB,abY,hL2⟩:∃(st r2:ByteArray) (o:Bool),e=.returned (.tuple #[.string st,.string r2,.bool o])/\r2.size<=2000/\st.size<=2000/\cC t.data.toList=if isName st.data.toList=true then cd 1 st.data.toList r2.data.toList else none:=by
       have hw:cC t.data.toList=il rs.data.toList:=HL.out;rcases iN with ⟨a,b,h1,h2,rfl⟩|⟨h1,rfl⟩
       ·have hl:=congrArg List.length h1;rw[List.length_append,List.length_cons,aK,aK,aK]at hl;exact ⟨a,b,true,rfl,by omega,by omega,by rw[hw,tV h1 h2]⟩
       ·exact ⟨rs,⟨#[]⟩,false,rfl,by decide,GU,by rw[hw,qT h1];split<;>rfl⟩
      have kC:=aa hL2;clear iN hL2 HL br ez;go_wp2_with fail;refine (jY 1 r2 W2 aaB (HM.out.below cM.out)).mono ?_;rintro e w3 ⟨gG,⟨rfl,hno⟩|⟨co,p,ao,ln,cp,wh,fl,rfl,A9,tU⟩⟩
      ·have eY:=aa (cM.out.trans (gG.mono cM.out.size));have FC:=aa ((gG.block R (ae kR.out)).trans kR.out);have jC:=aa (eY.out.alloc eY.out.size (.cells #[.int .i64 0,.int .i64 0,.string st,.int .i64 0,.string ⟨#[]⟩,.slice none 0 0,.int .i64 0,.int .i64 0] 219))
       have G6:=aa (heap_alloc_old (o:=(.cells #[.int .i64 0,.int .i64 0,.string st,.int .i64 0,.string ⟨#[]⟩,.slice none 0 0,.int .i64 0,.int .i64 0] 219)) FC.out);have Ba:=aa (af w3 (.cells #[.int .i64 0,.int .i64 0,.string st,.int .i64 0,.string ⟨#[]⟩,.slice none 0 0,.int .i64 0,.int .i64 0] 219));have Xp:=aa hno
       obtain ⟨L,Xq⟩:∃L,L=w3.heap.size:=⟨_,rfl⟩;clear gG hno cM kR eY FC;go_wp2_with fail;rw[<-Xq]at Ba ⊢;clear Xq;generalize w3.alloc (.cells #[.int .i64 0,.int .i64 0,.string st,.int .i64 0,.string ⟨#[]⟩,.slice none 0 0,.int .i64 0,.int .i64 0] 219)=W4 at *;obtain ⟨⟨c0,c1,c2,c3,c4,c5,c6,c7⟩,f0,f1,f2,f3,f4,f5,f6,f7⟩:=ew G6.out;have qF:=Ba.out
       have d0:W4.cell? ⟨L,0,none⟩=some (.int .i64 0):=by simp[World.cell?,qF]
       have d1:W4.cell? ⟨L,1,none⟩=some (.int .i64 0):=by simp[World.cell?,qF]
       have d2:W4.cell? ⟨L,2,none⟩=some (.string st):=by simp[World.cell?,qF]
       have d3:W4.cell? ⟨L,3,none⟩=some (.int .i64 0):=by simp[World.cell?,qF]
       have d4:W4.cell? ⟨L,4,none⟩=some (.string ⟨#[]⟩):=by simp[World.cell?,qF]
       have d5:W4.cell? ⟨L,5,none⟩=some (.slice none 0 0):=by simp[World.cell?,qF]
       have d6:W4.cell? ⟨L,6,none⟩=some (.int .i64 0):=by simp[World.cell?,qF]
       have d7:W4.cell? ⟨L,7,none⟩=some (.int .i64 0):=by simp[World.cell?,qF]
       clear qF
       have ai:=aa (λw' (hx:cw R W4 w')=>show iX t.data.toList w (.returned (.tuple #[.agg #[.int .i64 0,.int .i64 (0:Nat),.string st,.int .i64 (0:Nat),.string ⟨#[]⟩,.slice none 0 0,.int .i64 (0:Nat),.int .i64 (0:Nat)],.bool false])) w' from ⟨jC.out.trans (by rw[<-JZ.out];exact hx.below),0,0,0,0,st,⟨#[]⟩,none,0,0,false,rfl,.inr ⟨rfl,by
        rw[kC.out,cd,Xp.out];split<;>rfl⟩⟩)
       clear Xp kC jC G6 Ba;go_region
       all_goals
        go_wp2_with fail;exact bodyPost_ret (v:=.tuple #[.agg #[.int .i64 0,.int .i64 (0:Nat),.string st,.int .i64 (0:Nat),.string ⟨#[]⟩,.slice none 0 0,.int .i64 (0:Nat),.int .i64 (0:Nat)],.bool false]) (by simp[results,Tryz.results109,go_sem, *]) rfl (ai.out _ (((cw.refl R W4).more _ _ _ _ _ _ _ _).drew))
      ·have eY:=aa (cM.out.trans (gG.mono cM.out.size));have FC:=aa ((gG.block R (ae kR.out)).trans kR.out);have Xr:=aa ((tU.mono cM.out.size).below ((Below.refl _ _).alloc (Nat.le_refl _) (.cells #[.int .i64 0,.int .i64 2,.string st,.int .i64 1,.string co,.slice ao ln cp,.int .i64 wh,.int .i64 fl] 219)))
       have jC:=aa (eY.out.alloc eY.out.size (.cells #[.int .i64 0,.int .i64 2,.string st,.int .i64 1,.string co,.slice ao ln cp,.int .i64 wh,.int .i64 fl] 219));have G6:=aa (heap_alloc_old (o:=.cells #[.int .i64 0,.int .i64 2,.string st,.int .i64 1,.string co,.slice ao ln cp,.int .i64 wh,.int .i64 fl] 219) FC.out)
       have Ba:=aa (af w3 (.cells #[.int .i64 0,.int .i64 2,.string st,.int .i64 1,.string co,.slice ao ln cp,.int .i64 wh,.int .i64 fl] 219));have Xs:=aa A9;clear gG A9 tU cM kR eY FC;obtain ⟨L,Xq⟩:∃L,L=w3.heap.size:=⟨_,rfl⟩;go_wp2_with fail;rw[<-Xq]at Ba ⊢;clear Xq
       generalize w3.alloc (.cells #[.int .i64 0,.int .i64 2,.string st,.int .i64 1,.string co,.slice ao ln cp,.int .i64 wh,.int .i64 fl] 219)=W4 at *
       have zq:=aa (λ(w5:World) (hh:w5.heap[L]?=some (.cells #[.int .i64 0,.int .i64 2,.string st,.int .i64 1,.string co,.slice ao ln cp,.int .i64 wh,.int .i64 fl] 219 (0,0)))=>show w5.cell? ⟨L,0,none⟩=some (.int .i64 0)/\w5.cell? ⟨L,1,none⟩=some (.int .i64 2)/\w5.cell? ⟨L,2,none⟩=some (.string st)/\w5.cell? ⟨L,3,none⟩=some (.int .i64 1)/\w5.cell? ⟨L,4,none⟩=some (.string co)/\w5.cell? ⟨L,5,none⟩=some (.slice ao ln cp)/\w5.cell? ⟨L,6,none⟩=some (.int .i64 wh)/\w5.cell? ⟨L,7,none⟩=some (.int .i64 fl) from by simp[World.cell?,hh])
       obtain ⟨d0,d1,d2,d3,d4,d5,d6,d7⟩:=zq.out W4 Ba.out;have iU:=aa (jZ st W4.drew (by omega))
       have ai:=aa (λ(w5 w':World) (vz:Below W4.heap.size W4 w5) (hx:cw R w5 w')=>show iX t.data.toList w (.returned (.tuple #[.agg #[.int .i64 0,.int .i64 (2:Nat),.string st,.int .i64 (1:Nat),.string co,.slice ao ln cp,.int .i64 wh,.int .i64 fl],.bool (isName st.data.toList)])) w' from ⟨(jC.out.trans (vz.mono jC.out.size)).trans (by rw[<-JZ.out];exact hx.below),2,1,wh,fl,st,co,ao,ln,cp,isName st.data.toList,rfl,by
        have hw:=kC.out
        cases gj:isName st.data.toList with
        | true=>
         rw[gj,if_pos rfl,cd,Xs.out]at hw;exact .inl ⟨rfl,_,hw,rfl,rfl,by omega,rfl,rfl,(Xr.out.below vz).only hx ((vz.block R (ae G6.out)).trans G6.out) (by decide) (by decide) (by decide)⟩
        | false=>
         rw[gj]at hw;exact .inr ⟨rfl,hw⟩⟩)
       have HZL:=aa (λ(w5:World) (vz:Below W4.heap.size W4 w5)=>And.intro (zq.out w5 ((vz.block L (ae Ba.out)).trans Ba.out)) (ew ((vz.block R (ae G6.out)).trans G6.out)));clear Xr jC G6 Ba Xs kC zq
       go_region_with (first
        | (go_at_call 147;refine iU.out.mono ?_;rintro e w5 ⟨rfl,vz⟩;have Tr:=Py vz;obtain ⟨⟨x0,x1,x2,x3,x4,x5,x6,x7⟩,⟨c0,c1,c2,c3,c4,c5,c6,c7⟩,f0,f1,f2,f3,f4,f5,f6,f7⟩:=HZL.out w5 Tr;have Aj:=aa Tr;clear vz Tr))
       all_goals
        go_wp2_with fail;exact bodyPost_ret (v:=.tuple #[.agg #[.int .i64 0,.int .i64 (2:Nat),.string st,.int .i64 (1:Nat),.string co,.slice ao ln cp,.int .i64 wh,.int .i64 fl],.bool (isName st.data.toList)]) (by simp[results,Tryz.results109,go_sem, *]) rfl (ai.out _ _ Aj.out (cw.eight _ _ _ _ _ _ _ _))
     ·have q1:=lf h1;have q2:=lf h2;have q3:=lf h3;have q4:=lf h4;unfold qi at q1;unfold jX at q2;unfold yt at q3;unfold jo at q4;obtain ⟨⟨c0,c1,c2,c3,c4,c5,c6,c7⟩,f0,f1,f2,f3,f4,f5,f6,f7⟩:=ew ez.out
      have ai:=aa (λw' (hx:cw R W1 w')=>show iX t.data.toList w (.returned (.tuple #[.agg #[.int .i64 0,.int .i64 (0:Nat),.string ⟨#[]⟩,.int .i64 (0:Nat),.string ⟨#[]⟩,.slice none 0 0,.int .i64 (0:Nat),.int .i64 (0:Nat)],.bool false])) w' from ⟨br.out.trans (by rw[<-JZ.out];exact hx.below),0,0,0,0,⟨#[]⟩,⟨#[]⟩,none,0,0,false,rfl,.inr ⟨rfl,by
       rw[HL.out,fB,if_neg h1,if_neg h2,if_neg h3,if_neg h4]⟩⟩)
      clear h1 h2 h3 h4 HL ez br;go_wp2_with fail;exact bodyPost_ret (v:=.tuple #[.agg #[.int .i64 0,.int .i64 (0:Nat),.string ⟨#[]⟩,.int .i64 (0:Nat),.string ⟨#[]⟩,.slice none 0 0,.int .i64 (0:Nat),.int .i64 (0:Nat)],.bool false]) (by simp[results,Tryz.results109,go_sem, *]) rfl (ai.out _ (cw.eight _ _ _ _ _ _ _ _))
end Go.Proofs.YtgncgdkpkkdaeaaGreatDoor
