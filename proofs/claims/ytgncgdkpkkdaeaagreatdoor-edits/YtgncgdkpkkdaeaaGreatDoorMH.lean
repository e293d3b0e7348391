import Derived.Test.YtgncgdkpkkdaeaaGreatDoorMV1
import Derived.Test.YtgncgdkpkkdaeaaGreatDoorMN3
namespace Go.Proofs.YtgncgdkpkkdaeaaGreatDoor
open Go.RowKit aO
variable {p:List UInt8} {B R fl wh:Nat} {lv:Value} {w w':World}
def fA(w:World)(B:Nat)(p:List UInt8)(lv:Value)(wh fl:Nat):Prop:=
 (60<p.length/\lv=.slice none 0 0/\wh=0/\fl=1) ∨
 (p.length<=60/\(bh p none∨∃r s',s'≠[]/\bh p (some (r,s')))/\lv=.slice none 0 0/\wh=0/\fl=6) ∨
 (p.length<=60/\fl=0/\∃(a:aN) (ns:List (Nd Value)) (g cap:Nat),lv=.slice (some ⟨g,0,none⟩) ns.length cap/\wh=a.ix/\bh p (some (a.re,[]))/\bj w B lv ns/\dR (aF w) ns a/\dR (aF w) ns .dh/\ns.length<=200)
theorem fA.keep(h:fA w B p lv wh fl)(hk:∀(k:Nat) c t,(t=292∨t=5∨t=290)->w.heap[k]?=some (.cells c t (0,0))->w'.heap[k]?=some (.cells c t (0,0))):fA w' B p lv wh fl:=by
 have hst:bH w w':=λk c t ht hh=>hk k c t (.inr ht) hh
 rcases h with h|h|⟨h1,h2,a,ns,g,cap,h3,h4,h5,h6,h7,h8,h9⟩
 ·exact .inl h
 ·exact .inr (.inl h)
 ·exact .inr (.inr ⟨h1,h2,a,ns,g,cap,h3,h4,h5,h6.keep λk hb=>by obtain ⟨_,cur,hc⟩:=h6.block hb;rw[hc];exact hk k _ _ (.inl rfl) hc,h7.world hst,h8.world hst,h9⟩)
theorem fA.below(h:fA w B p lv wh fl)(hb:Below w.heap.size w w'):fA w' B p lv wh fl:=
 h.keep λk _ _ _ hh=>(hb.block k (ae hh)).trans hh
structure cD(R:Nat)(w w':World):Prop where
 below:Below R w w'
 size:w'.heap.size=w.heap.size
 other:∀k,k≠R->w'.heap[k]?=w.heap[k]?
theorem cD.refl(R:Nat)(w:World):cD R w w:=⟨Below.refl _ _,rfl,λ_ _=>rfl⟩
theorem cD.set(h:cD R w w')(j:Nat)(v:Value):cD R w (w'.setCell ⟨R,j,none⟩ v):=
 ⟨h.below.setCell (Nat.le_refl _) _,by rw[<-h.size];simp[World.setCell],λk hk=>(Below.heap_setCell _ _ _ _ hk).trans (h.other k hk)⟩
theorem cD.drew(h:cD R w w'):cD R w w'.drew:=⟨h.below.drew,h.size,h.other⟩
theorem fA.only{c0:Array Value}{t0:TypeId}{fz:Nat×Nat}(h:fA w B p lv wh fl)(ho:cD R w w')(hR:w.heap[R]?=some (.cells c0 t0 fz))(h1:t0≠292)(h2:t0≠5)(h3:t0≠290):fA w' B p lv wh fl:=
 h.keep λk c t ht hh=>by
  rw[ho.other k (λe=>by
   rw[e,hR]at hh;simp only[Option.some.injEq,Obj.cells.injEq]at hh;rcases ht with rfl|rfl|rfl
   ·exact h1 hh.2.1
   ·exact h2 hh.2.1
   ·exact h3 hh.2.1)]
  exact hh
theorem fA.mono{B':Nat}(h:fA w B p lv wh fl)(hB:B'<=B):fA w B' p lv wh fl:=by
 rcases h with h|h|⟨h1,h2,a,ns,g,cap,h3,h4,h5,h6,h7,h8,h9⟩
 ·exact .inl h
 ·exact .inr (.inl h)
 ·refine .inr (.inr ⟨h1,h2,a,ns,g,cap,h3,h4,h5,⟨⟨h6.1.1,?_⟩,h6.2⟩,h7,h8,h9⟩);rcases h6.1.2 with hh|⟨g',cap',cur,e1,e2,e3⟩
  ·exact .inl hh
  ·exact .inr ⟨g',cap',cur,e1,Nat.le_trans hB e2,e3⟩
theorem eI(h:w.heap[R]?=some (.cells #[.int .i64 0,.int .i64 0,.string ⟨#[]⟩,.int .i64 0,.string ⟨#[]⟩,.slice none 0 0,.int .i64 0,.int .i64 0] 219 (0,0))):(w.cell? ⟨R,0,none⟩=some (.int .i64 0)/\w.cell? ⟨R,1,none⟩=some (.int .i64 0)/\w.cell? ⟨R,2,none⟩=some (.string ⟨#[]⟩)/\w.cell? ⟨R,3,none⟩=some (.int .i64 0)/\w.cell? ⟨R,4,none⟩=some (.string ⟨#[]⟩)/\w.cell? ⟨R,5,none⟩=some (.slice none 0 0)/\w.cell? ⟨R,6,none⟩=some (.int .i64 0)/\w.cell? ⟨R,7,none⟩=some (.int .i64 0)) /\
  w.frozen? ⟨R,0,none⟩=false/\w.frozen? ⟨R,1,none⟩=false/\w.frozen? ⟨R,2,none⟩=false/\w.frozen? ⟨R,3,none⟩=false/\w.frozen? ⟨R,4,none⟩=false/\w.frozen? ⟨R,5,none⟩=false/\w.frozen? ⟨R,6,none⟩=false/\w.frozen? ⟨R,7,none⟩=false:=by
 simp[World.cell?,World.frozen?,h]
theorem cD.eight(a b c d e f g h:Value):cD R w ((((((((w.setCell ⟨R,0,none⟩ a).setCell ⟨R,1,none⟩ b).setCell ⟨R,2,none⟩ c).setCell ⟨R,3,none⟩ d).setCell ⟨R,4,none⟩ e).setCell ⟨R,5,none⟩ f).setCell ⟨R,6,none⟩ g).setCell ⟨R,7,none⟩ h):=
 ((((((((cD.refl R w).set 0 a).set 1 b).set 2 c).set 3 d).set 4 e).set 5 f).set 6 g).set 7 h
theorem cD.more{w0:World}(hx:cD R w0 w)(a b c d e f g h:Value):cD R w0 ((((((((w.setCell ⟨R,0,none⟩ a).setCell ⟨R,1,none⟩ b).setCell ⟨R,2,none⟩ c).setCell ⟨R,3,none⟩ d).setCell ⟨R,4,none⟩ e).setCell ⟨R,5,none⟩ f).setCell ⟨R,6,none⟩ g).setCell ⟨R,7,none⟩ h):=
 (((((((hx.set 0 a).set 1 b).set 2 c).set 3 d).set 4 e).set 5 f).set 6 g).set 7 h
def zD(d:Nat)(t:List UInt8)(w:World)(e:Ending)(w':World):Prop:=
 Below w.heap.size w w'/\((e=.returned (.tuple #[.agg #[.int .i64 0,.int .i64 0,.string ⟨#[]⟩,.int .i64 0,.string ⟨#[]⟩,.slice none 0 0,.int .i64 0,.int .i64 0],.bool false])/\bq t=none) ∨
  ∃(co:ByteArray) (p:List UInt8) (ao:Option Addr) (ln cp wh fl:Nat),e=.returned (.tuple #[.agg #[.int .i64 0,.int .i64 2,.string ⟨#[]⟩,.int .i64 d,.string co,.slice ao ln cp,.int .i64 wh,.int .i64 fl],.bool true])/\bq t=some (co.data.toList,p)/\fA w' w.heap.size p (.slice ao ln cp) wh fl)
set_option maxRecDepth 20000 in
set_option maxHeartbeats 1000000 in
theorem kA(d:Nat)(t:ByteArray)(w:World)(hz:t.size<=2000)(hm:Mx w):
  Calls Tryz.prog 148 #[.int .i64 d,.string t] w (zD d t.data.toList w):=by
 have HM:=aa hm;clear hm;have HR:=aa (af w (.cells #[.int .i64 0,.int .i64 0,.string ⟨#[]⟩,.int .i64 0,.string ⟨#[]⟩,.slice none 0 0,.int .i64 0,.int .i64 0] 219))
 have HB:=aa (show Below w.heap.size w (w.alloc (.cells #[.int .i64 0,.int .i64 0,.string ⟨#[]⟩,.int .i64 0,.string ⟨#[]⟩,.slice none 0 0,.int .i64 0,.int .i64 0] 219)) from (Below.refl _ _).alloc (Nat.le_refl _) _);go_enter Tryz.func148,Tryz.ntmps148;go_wp2_with fail
 generalize w.alloc (.cells #[.int .i64 0,.int .i64 0,.string ⟨#[]⟩,.int .i64 0,.string ⟨#[]⟩,.slice none 0 0,.int .i64 0,.int .i64 0] 219)=W at *;obtain ⟨R,AO⟩:∃R,R=w.heap.size:=⟨_,rfl⟩;rw[<-AO]at HR ⊢;have Lg:=aa AO;clear AO;refine (Ch t W (by omega) (HM.out.below HB.out)).mono ?_;rintro e w1 ⟨⟨n1,rfl⟩,co,so,o,rfl,G0,hsz,jk⟩
 have bA:=aa (Below.drewN' HB.out n1);have eK:=aa (show (W.drewN n1).heap[R]?=_ from HR.out);generalize W.drewN n1=W1 at *;rcases jk with ⟨rfl,fS,DJ⟩|⟨DJ,ho⟩
 ·have iT:=aa (kB co W1 (by omega));have U6:=aa DJ;rw[fS]at iT;clear DJ fS;go_wp2_with fail;refine iT.out.mono ?_;rintro e w2 ⟨rfl,dW⟩;have cL:=aa (bA.out.trans (dW.mono bA.out.size));have lF:=aa ((dW.block R (ae eK.out)).trans eK.out);clear dW iT;go_wp2_with fail;refine (xO so w2 (by unfold maxLen;omega)).mono ?_;rintro e w3 ⟨gY,jk⟩
  have fB:=aa (cL.out.trans (gY.mono cL.out.size));have GW:=aa ((gY.block R (ae lF.out)).trans lF.out)
  obtain ⟨ao,ln,cp,wh,fl,rfl,uX⟩:∃(ao:Option Addr) (ln cp wh fl:Nat),e=.returned (.tuple #[.agg #[.slice ao ln cp,.int .i64 wh],.int .i64 fl])/\fA w3 w2.heap.size so.data.toList (.slice ao ln cp) wh fl:=by
   rcases jk with ⟨h1,rfl⟩|⟨h1,h2,rfl⟩|⟨h1,sv,a,ns,rfl,h2,h3,h4,h5,h6⟩
   ·exact ⟨none,0,0,0,1,rfl,.inl ⟨h1,rfl,rfl,rfl⟩⟩
   ·exact ⟨none,0,0,0,6,rfl,.inr (.inl ⟨h1,h2,rfl,rfl,rfl⟩)⟩
   ·have h0:0<ns.length:=by obtain ⟨x,hx⟩:=h5;exact aw hx
    obtain ⟨g,cap,rfl⟩:=az h3.1 h0;exact ⟨some ⟨g,0,none⟩,ns.length,cap,a.ix,0,rfl,.inr (.inr ⟨h1,rfl,a,ns,g,cap,rfl,rfl,h2,h3,h4,h5,h6⟩)⟩
  obtain ⟨⟨c0,c1,c2,c3,c4,c5,c6,c7⟩,f0,f1,f2,f3,f4,f5,f6,f7⟩:=eI (heap_alloc_old (o:=.cells #[.slice ao ln cp,.int .i64 wh] 184) GW.out)
  have ai:=aa (λw' (ho:cD R (w3.alloc (.cells #[.slice ao ln cp,.int .i64 wh] 184)) w')=>show zD d t.data.toList w (.returned (.tuple #[.agg #[.int .i64 0,.int .i64 2,.string ⟨#[]⟩,.int .i64 d,.string co,.slice ao ln cp,.int .i64 wh,.int .i64 fl],.bool true])) w' from
   ⟨(fB.out.alloc fB.out.size _).trans (by rw[<-Lg.out];exact ho.below),.inr ⟨co,so.data.toList,ao,ln,cp,wh,fl,rfl,U6.out,((uX.mono cL.out.size).below ((Below.refl _ _).alloc (Nat.le_refl _) _)).only ho (heap_alloc_old GW.out) (by decide) (by decide) (by decide)⟩⟩)
  clear uX gY jk GW lF eK HR fB cL bA HB U6;go_wp2_with fail;exact bodyPost_ret (v:=.tuple #[.agg #[.int .i64 0,.int .i64 2,.string ⟨#[]⟩,.int .i64 d,.string co,.slice ao ln cp,.int .i64 wh,.int .i64 fl],.bool true]) (by simp[results,Tryz.results148,go_sem, *]) rfl (ai.out _ (cD.eight _ _ _ _ _ _ _ _))
 ·have U6:=aa DJ;clear DJ;by_cases ho0:o=true
  ·subst ho0;have fS:isName co.data.toList=false:=by rcases ho with h|h;cases h;exact h
   have iT:=aa (kB co W1 (by omega));rw[fS]at iT;clear fS ho;go_wp2_with fail;refine iT.out.mono ?_;rintro e w2 ⟨rfl,dW⟩;obtain ⟨⟨c0,c1,c2,c3,c4,c5,c6,c7⟩,f0,f1,f2,f3,f4,f5,f6,f7⟩:=eI ((dW.block R (ae eK.out)).trans eK.out)
   have ai:=aa (λw' (hx:cD R w2 w')=>show zD d t.data.toList w (.returned (.tuple #[.agg #[.int .i64 0,.int .i64 0,.string ⟨#[]⟩,.int .i64 0,.string ⟨#[]⟩,.slice none 0 0,.int .i64 0,.int .i64 0],.bool false])) w' from ⟨(bA.out.trans (dW.mono bA.out.size)).trans (by rw[<-Lg.out];exact hx.below),.inl ⟨rfl,U6.out⟩⟩);clear dW iT eK HR bA HB U6;go_wp2_with fail
   exact bodyPost_ret (v:=.tuple #[.agg #[.int .i64 0,.int .i64 0,.string ⟨#[]⟩,.int .i64 0,.string ⟨#[]⟩,.slice none 0 0,.int .i64 0,.int .i64 0],.bool false]) (by simp[results,Tryz.results148,go_sem, *]) rfl (ai.out _ (cD.eight _ _ _ _ _ _ _ _))
  ·obtain rfl:o=false:=by simpa using ho0
   obtain ⟨⟨c0,c1,c2,c3,c4,c5,c6,c7⟩,f0,f1,f2,f3,f4,f5,f6,f7⟩:=eI eK.out;have ai:=aa (λw' (hx:cD R W1 w')=>show zD d t.data.toList w (.returned (.tuple #[.agg #[.int .i64 0,.int .i64 0,.string ⟨#[]⟩,.int .i64 0,.string ⟨#[]⟩,.slice none 0 0,.int .i64 0,.int .i64 0],.bool false])) w' from ⟨bA.out.trans (by rw[<-Lg.out];exact hx.below),.inl ⟨rfl,U6.out⟩⟩)
   clear eK HR bA HB U6 ho ho0;go_wp2_with fail;exact bodyPost_ret (v:=.tuple #[.agg #[.int .i64 0,.int .i64 0,.string ⟨#[]⟩,.int .i64 0,.string ⟨#[]⟩,.slice none 0 0,.int .i64 0,.int .i64 0],.bool false]) (by simp[results,Tryz.results148,go_sem, *]) rfl (ai.out _ (cD.eight _ _ _ _ _ _ _ _))
def gh(w:World)(B:Nat)(kd d:Nat)(st co:ByteArray)(lv:Value)(wh fl:Nat):Ln->Prop
 | .blank=>kd=0/\d=0/\lv=.slice none 0 0/\wh=0/\fl=0
 | .state n=>kd=1/\d=0/\st.data.toList=n/\lv=.slice none 0 0/\wh=0/\fl=0
 | .rule d' o c p=>kd=2/\d'=d/\d<=2/\st.data.toList=o/\co.data.toList=c/\fA w B p lv wh fl
theorem gh.keep{kd d:Nat}{st co:ByteArray}{x:Ln}(h:gh w B kd d st co lv wh fl x)(hk:∀{p:List UInt8},fA w B p lv wh fl->fA w' B p lv wh fl):gh w' B kd d st co lv wh fl x:=by
 cases x with
 | blank=>exact h
 | state n=>exact h
 | rule d' o c p=>exact ⟨h.1,h.2.1,h.2.2.1,h.2.2.2.1,h.2.2.2.2.1,hk h.2.2.2.2.2⟩
def jw(s:List UInt8)(w:World)(e:Ending)(w':World):Prop:=
 Below w.heap.size w w'/\∃(kd d wh fl:Nat) (st co:ByteArray) (ao:Option Addr) (ln cp:Nat) (ok:Bool),e=.returned (.tuple #[.agg #[.int .i64 0,.int .i64 kd,.string st,.int .i64 d,.string co,.slice ao ln cp,.int .i64 wh,.int .i64 fl],.bool ok]) /\
  ((ok=true/\∃x,cH s=some x/\gh w' w.heap.size kd d st co (.slice ao ln cp) wh fl x)∨(ok=false/\cH s=none))
theorem Q0(h:Below w.drew.heap.size w.drew w'):Below w.heap.size w w':=⟨h.os,h.tape,h.output,h.size,h.block⟩
theorem EY(w:List UInt8):fK w []=none:=by
 unfold fK;split
 ·rfl
 ·split
  ·rfl
  ·split
   ·rfl
   ·split
    ·rfl
    ·rfl
theorem EZ{s:List UInt8}(h:s≠[]):(∀a b,s=a++32::b->(32:UInt8)∉a->cH s=fK a b)/\((32:UInt8)∉s->cH s=fK s []):=by
 constructor
 ·intro a b e hn;unfold cH;rw[if_neg h,e,dU b hn]
 ·intro hn;unfold cH;rw[if_neg h,fX hn,EY]
set_option maxRecDepth 20000 in
set_option maxHeartbeats 2000000 in
theorem zE(t:ByteArray)(w:World)(hz:t.size<=2000)(hm:Mx w):
  Calls Tryz.prog 109 #[.string t] w (jw t.data.toList w):=by
 have HM:=aa hm;clear hm;have HR:=aa (af w (.cells #[.int .i64 0,.int .i64 0,.string ⟨#[]⟩,.int .i64 0,.string ⟨#[]⟩,.slice none 0 0,.int .i64 0,.int .i64 0] 219))
 have HB:=aa (show Below w.heap.size w (w.alloc (.cells #[.int .i64 0,.int .i64 0,.string ⟨#[]⟩,.int .i64 0,.string ⟨#[]⟩,.slice none 0 0,.int .i64 0,.int .i64 0] 219)) from (Below.refl _ _).alloc (Nat.le_refl _) _);by_cases h0:t.data.toList=[]
 ·obtain rfl:t=⟨#[]⟩:=pQ h0;have q0:((⟨#[]⟩:ByteArray).toList == [])=true:=by rw[ByteArray.toList_eq];rfl
  have ai:=aa (show jw (⟨#[]⟩:ByteArray).data.toList w (.returned (.tuple #[.agg #[.int .i64 0,.int .i64 (0:Nat),.string ⟨#[]⟩,.int .i64 (0:Nat),.string ⟨#[]⟩,.slice none 0 0,.int .i64 (0:Nat),.int .i64 (0:Nat)],.bool true])) (w.alloc (.cells #[.int .i64 0,.int .i64 0,.string ⟨#[]⟩,.int .i64 0,.string ⟨#[]⟩,.slice none 0 0,.int .i64 0,.int .i64 0] 219)) from
   ⟨HB.out,0,0,0,0,⟨#[]⟩,⟨#[]⟩,none,0,0,true,rfl,.inl ⟨rfl,.blank,rfl,rfl,rfl,rfl,rfl,rfl⟩⟩)
  clear HR HB HM;go_enter Tryz.func109,Tryz.ntmps109;go_wp2_with fail;exact bodyPost_ret (v:=.tuple #[.agg #[.int .i64 0,.int .i64 (0:Nat),.string ⟨#[]⟩,.int .i64 (0:Nat),.string ⟨#[]⟩,.slice none 0 0,.int .i64 (0:Nat),.int .i64 (0:Nat)],.bool true]) (by simp[results,Tryz.results109,go_sem, *]) rfl ai.out
 ·have q0:(t.toList == [])=false:=by rw[beq_eq_false_iff_ne,ByteArray.toList_eq];exact h0
  have HLC:=aa (EZ h0);clear h0;go_enter Tryz.func109,Tryz.ntmps109;go_wp2_with fail;generalize w.alloc (.cells #[.int .i64 0,.int .i64 0,.string ⟨#[]⟩,.int .i64 0,.string ⟨#[]⟩,.slice none 0 0,.int .i64 0,.int .i64 0] 219)=W at *;obtain ⟨R,AO⟩:∃R,R=w.heap.size:=⟨_,rfl⟩;rw[<-AO]at HR ⊢;have Lg:=aa AO;clear AO
  refine (tJ t 32 W (by omega) (HM.out.below HB.out)).mono ?_;rintro e w1 ⟨⟨n1,rfl⟩,jk⟩;have bA:=aa (Below.drewN' HB.out n1);have eK:=aa (show (W.drewN n1).heap[R]?=_ from HR.out);generalize W.drewN n1=W1 at *
  obtain ⟨wd,rs,o,rfl,IQ,hL⟩:∃(wd rs:ByteArray) (o:Bool),e=.returned (.tuple #[.string wd,.string rs,.bool o])/\rs.size<=2000/\cH t.data.toList=fK wd.data.toList rs.data.toList:=by
   rcases jk with ⟨a,b,h1,h2,rfl⟩|⟨h1,rfl⟩
   ·exact ⟨a,b,true,rfl,by have:=congrArg List.length h1;rw[List.length_append,List.length_cons,aM,aM,aM]at this;omega,HLC.out.1 _ _ h1 h2⟩
   ·exact ⟨t,⟨#[]⟩,false,rfl,by decide,HLC.out.2 h1⟩
  have HL:=aa hL;clear jk hL HLC HB HR;by_cases h1:wd.data.toList=rj
  ·obtain rfl:wd=⟨#[115,116,97,116,101]⟩:=pQ h1;have q1:((⟨#[115,116,97,116,101]⟩:ByteArray).toList == [115,116,97,116,101])=true:=by rw[ByteArray.toList_eq];rfl
   have iT:=aa (kB rs W1 (by omega));clear h1;go_wp2_with fail;refine iT.out.mono ?_;rintro e w2 ⟨rfl,dW⟩;obtain ⟨⟨c0,c1,c2,c3,c4,c5,c6,c7⟩,f0,f1,f2,f3,f4,f5,f6,f7⟩:=eI ((dW.block R (ae eK.out)).trans eK.out)
   have ai:=aa (λw' (hx:cD R w2 w')=>show jw t.data.toList w (.returned (.tuple #[.agg #[.int .i64 0,.int .i64 (1:Nat),.string rs,.int .i64 (0:Nat),.string ⟨#[]⟩,.slice none 0 0,.int .i64 (0:Nat),.int .i64 (0:Nat)],.bool (isName rs.data.toList)])) w' from ⟨(bA.out.trans (dW.mono bA.out.size)).trans (by rw[<-Lg.out];exact hx.below),1,0,0,0,rs,⟨#[]⟩,none,0,0,isName rs.data.toList,rfl,by
    have hw:cH t.data.toList=if isName rs.data.toList=true then some (.state rs.data.toList) else none:=HL.out
    cases fS:isName rs.data.toList with
    | true=>rw[fS]at hw;exact .inl ⟨rfl,.state rs.data.toList,hw,rfl,rfl,rfl,rfl,rfl,rfl⟩
    | false=>rw[fS]at hw;exact .inr ⟨rfl,hw⟩⟩)
   clear dW iT HL eK bA;go_wp2_with fail;exact bodyPost_ret (v:=.tuple #[.agg #[.int .i64 0,.int .i64 (1:Nat),.string rs,.int .i64 (0:Nat),.string ⟨#[]⟩,.slice none 0 0,.int .i64 (0:Nat),.int .i64 (0:Nat)],.bool (isName rs.data.toList)]) (by simp[results,Tryz.results109,go_sem, *]) rfl (ai.out _ (cD.eight _ _ _ _ _ _ _ _))
  ·by_cases h2:wd.data.toList=kz
   ·clear h1;have h1:=h2;clear h2;obtain rfl:wd=⟨#[116,111,107,101,110]⟩:=pQ h1;have q1:((⟨#[116,111,107,101,110]⟩:ByteArray).toList == [115,116,97,116,101])=false:=by rw[ByteArray.toList_eq];rfl
    have q2:((⟨#[116,111,107,101,110]⟩:ByteArray).toList == [116,111,107,101,110])=true:=by rw[ByteArray.toList_eq];rfl
    have jd:=aa (kA 0 rs W1 IQ (HM.out.below bA.out));clear h1;go_wp2_with fail;refine jd.out.mono ?_;rintro e w2 ⟨dW,⟨rfl,hno⟩|⟨co,p,ao,ln,cp,wh,fl,rfl,Ci,uX⟩⟩
    ·obtain ⟨⟨c0,c1,c2,c3,c4,c5,c6,c7⟩,f0,f1,f2,f3,f4,f5,f6,f7⟩:=eI ((dW.block R (ae eK.out)).trans eK.out)
     have ai:=aa (λw' (hx:cD R w2 w')=>show jw t.data.toList w (.returned (.tuple #[.agg #[.int .i64 0,.int .i64 (0:Nat),.string ⟨#[]⟩,.int .i64 (0:Nat),.string ⟨#[]⟩,.slice none 0 0,.int .i64 (0:Nat),.int .i64 (0:Nat)],.bool false])) w' from ⟨(bA.out.trans (dW.mono bA.out.size)).trans (by rw[<-Lg.out];exact hx.below),0,0,0,0,⟨#[]⟩,⟨#[]⟩,none,0,0,false,rfl,.inr ⟨rfl,by
      rw[HL.out,show fK [116,111,107,101,110] rs.data.toList=cu 0 [] rs.data.toList from rfl,cu,hno];rfl⟩⟩)
     clear dW hno jd HL eK bA;go_wp2_with fail;exact bodyPost_ret (v:=.tuple #[.agg #[.int .i64 0,.int .i64 (0:Nat),.string ⟨#[]⟩,.int .i64 (0:Nat),.string ⟨#[]⟩,.slice none 0 0,.int .i64 (0:Nat),.int .i64 (0:Nat)],.bool false]) (by simp[results,Tryz.results109,go_sem, *]) rfl (ai.out _ (cD.eight _ _ _ _ _ _ _ _))
    ·have xN:=(dW.block R (ae eK.out)).trans eK.out;obtain ⟨⟨c0,c1,c2,c3,c4,c5,c6,c7⟩,f0,f1,f2,f3,f4,f5,f6,f7⟩:=eI xN
     have ai:=aa (λw' (hx:cD R w2 w')=>show jw t.data.toList w (.returned (.tuple #[.agg #[.int .i64 0,.int .i64 (2:Nat),.string ⟨#[]⟩,.int .i64 (0:Nat),.string co,.slice ao ln cp,.int .i64 wh,.int .i64 fl],.bool true])) w' from ⟨(bA.out.trans (dW.mono bA.out.size)).trans (by rw[<-Lg.out];exact hx.below),2,0,wh,fl,⟨#[]⟩,co,ao,ln,cp,true,rfl,.inl ⟨rfl,.rule 0 [] co.data.toList p,by
      rw[HL.out,show fK [116,111,107,101,110] rs.data.toList=cu 0 [] rs.data.toList from rfl,cu,Ci];rfl,rfl,rfl,by omega,rfl,rfl,(uX.mono bA.out.size).only hx xN (by decide) (by decide) (by decide)⟩⟩)
     clear dW Ci uX xN jd HL eK bA;go_wp2_with fail;exact bodyPost_ret (v:=.tuple #[.agg #[.int .i64 0,.int .i64 (2:Nat),.string ⟨#[]⟩,.int .i64 (0:Nat),.string co,.slice ao ln cp,.int .i64 wh,.int .i64 fl],.bool true]) (by simp[results,Tryz.results109,go_sem, *]) rfl (ai.out _ (cD.eight _ _ _ _ _ _ _ _))
   ·by_cases h3:wd.data.toList=zA
    ·clear h1 h2;have h1:=h3;clear h3;obtain rfl:wd=⟨#[112,111,112]⟩:=pQ h1;have q1:((⟨#[112,111,112]⟩:ByteArray).toList == [115,116,97,116,101])=false:=by rw[ByteArray.toList_eq];rfl
     have q2:((⟨#[112,111,112]⟩:ByteArray).toList == [116,111,107,101,110])=false:=by rw[ByteArray.toList_eq];rfl
     have q3:((⟨#[112,111,112]⟩:ByteArray).toList == [112,111,112])=true:=by rw[ByteArray.toList_eq];rfl
     have jd:=aa (kA 2 rs W1 IQ (HM.out.below bA.out));clear h1;go_wp2_with fail;refine jd.out.mono ?_;rintro e w2 ⟨dW,⟨rfl,hno⟩|⟨co,p,ao,ln,cp,wh,fl,rfl,Ci,uX⟩⟩
     ·obtain ⟨⟨c0,c1,c2,c3,c4,c5,c6,c7⟩,f0,f1,f2,f3,f4,f5,f6,f7⟩:=eI ((dW.block R (ae eK.out)).trans eK.out)
      have ai:=aa (λw' (hx:cD R w2 w')=>show jw t.data.toList w (.returned (.tuple #[.agg #[.int .i64 0,.int .i64 (0:Nat),.string ⟨#[]⟩,.int .i64 (0:Nat),.string ⟨#[]⟩,.slice none 0 0,.int .i64 (0:Nat),.int .i64 (0:Nat)],.bool false])) w' from ⟨(bA.out.trans (dW.mono bA.out.size)).trans (by rw[<-Lg.out];exact hx.below),0,0,0,0,⟨#[]⟩,⟨#[]⟩,none,0,0,false,rfl,.inr ⟨rfl,by
       rw[HL.out,show fK [112,111,112] rs.data.toList=cu 2 [] rs.data.toList from rfl,cu,hno];rfl⟩⟩)
      clear dW hno jd HL eK bA;go_wp2_with fail;exact bodyPost_ret (v:=.tuple #[.agg #[.int .i64 0,.int .i64 (0:Nat),.string ⟨#[]⟩,.int .i64 (0:Nat),.string ⟨#[]⟩,.slice none 0 0,.int .i64 (0:Nat),.int .i64 (0:Nat)],.bool false]) (by simp[results,Tryz.results109,go_sem, *]) rfl (ai.out _ (cD.eight _ _ _ _ _ _ _ _))
     ·have xN:=(dW.block R (ae eK.out)).trans eK.out;obtain ⟨⟨c0,c1,c2,c3,c4,c5,c6,c7⟩,f0,f1,f2,f3,f4,f5,f6,f7⟩:=eI xN
      have ai:=aa (λw' (hx:cD R w2 w')=>show jw t.data.toList w (.returned (.tuple #[.agg #[.int .i64 0,.int .i64 (2:Nat),.string ⟨#[]⟩,.int .i64 (2:Nat),.string co,.slice ao ln cp,.int .i64 wh,.int .i64 fl],.bool true])) w' from ⟨(bA.out.trans (dW.mono bA.out.size)).trans (by rw[<-Lg.out];exact hx.below),2,2,wh,fl,⟨#[]⟩,co,ao,ln,cp,true,rfl,.inl ⟨rfl,.rule 2 [] co.data.toList p,by
       rw[HL.out,show fK [112,111,112] rs.data.toList=cu 2 [] rs.data.toList from rfl,cu,Ci];rfl,rfl,rfl,by omega,rfl,rfl,(uX.mono bA.out.size).only hx xN (by decide) (by decide) (by decide)⟩⟩)
      clear dW Ci uX xN jd HL eK bA;go_wp2_with fail;exact bodyPost_ret (v:=.tuple #[.agg #[.int .i64 0,.int .i64 (2:Nat),.string ⟨#[]⟩,.int .i64 (2:Nat),.string co,.slice ao ln cp,.int .i64 wh,.int .i64 fl],.bool true]) (by simp[results,Tryz.results109,go_sem, *]) rfl (ai.out _ (cD.eight _ _ _ _ _ _ _ _))
    ·by_cases h4:wd.data.toList=jM
     ·obtain rfl:wd=⟨#[112,117,115,104]⟩:=pQ h4;have q1:((⟨#[112,117,115,104]⟩:ByteArray).toList == [115,116,97,116,101])=false:=by rw[ByteArray.toList_eq];rfl
      have q2:((⟨#[112,117,115,104]⟩:ByteArray).toList == [116,111,107,101,110])=false:=by rw[ByteArray.toList_eq];rfl
      have q3:((⟨#[112,117,115,104]⟩:ByteArray).toList == [112,111,112])=false:=by rw[ByteArray.toList_eq];rfl
      have q4:((⟨#[112,117,115,104]⟩:ByteArray).toList == [112,117,115,104])=true:=by rw[ByteArray.toList_eq];rfl
      clear h1 h2 h3 h4;go_wp2_with fail;refine (tJ rs 32 W1 (by omega) (HM.out.below bA.out)).mono ?_;rintro e w2 ⟨⟨n2,rfl⟩,jk⟩;have cL:=aa (Below.drewN' bA.out n2);have lF:=aa (show (W1.drewN n2).heap[R]?=_ from eK.out);generalize W1.drewN n2=W2 at *
      obtain ⟨st,r2,o2,rfl,abv,ac4,hL2⟩:∃(st r2:ByteArray) (o:Bool),e=.returned (.tuple #[.string st,.string r2,.bool o])/\r2.size<=2000/\st.size<=2000/\cH t.data.toList=if isName st.data.toList=true then cu 1 st.data.toList r2.data.toList else none:=by
       have hw:cH t.data.toList=iI rs.data.toList:=HL.out;rcases jk with ⟨a,b,h1,h2,rfl⟩|⟨h1,rfl⟩
       ·have hl:=congrArg List.length h1;rw[List.length_append,List.length_cons,aM,aM,aM]at hl;exact ⟨a,b,true,rfl,by omega,by omega,by rw[hw,uY h1 h2]⟩
       ·exact ⟨rs,⟨#[]⟩,false,rfl,by decide,IQ,by rw[hw,r9 h1];split<;>rfl⟩
      have ld:=aa hL2;clear jk hL2 HL bA eK;go_wp2_with fail;refine (kA 1 r2 W2 abv (HM.out.below cL.out)).mono ?_;rintro e w3 ⟨gY,⟨rfl,hno⟩|⟨co,p,ao,ln,cp,wh,fl,rfl,Ci,uX⟩⟩
      ·have fB:=aa (cL.out.trans (gY.mono cL.out.size));have GW:=aa ((gY.block R (ae lF.out)).trans lF.out);have jY:=aa (fB.out.alloc fB.out.size (.cells #[.int .i64 0,.int .i64 0,.string st,.int .i64 0,.string ⟨#[]⟩,.slice none 0 0,.int .i64 0,.int .i64 0] 219))
       have I3:=aa (heap_alloc_old (o:=(.cells #[.int .i64 0,.int .i64 0,.string st,.int .i64 0,.string ⟨#[]⟩,.slice none 0 0,.int .i64 0,.int .i64 0] 219)) GW.out);have uZ:=aa (af w3 (.cells #[.int .i64 0,.int .i64 0,.string st,.int .i64 0,.string ⟨#[]⟩,.slice none 0 0,.int .i64 0,.int .i64 0] 219));have Za:=aa hno
       obtain ⟨L,Zb⟩:∃L,L=w3.heap.size:=⟨_,rfl⟩;clear gY hno cL lF fB GW;go_wp2_with fail;rw[<-Zb]at uZ ⊢;clear Zb;generalize w3.alloc (.cells #[.int .i64 0,.int .i64 0,.string st,.int .i64 0,.string ⟨#[]⟩,.slice none 0 0,.int .i64 0,.int .i64 0] 219)=W4 at *;obtain ⟨⟨c0,c1,c2,c3,c4,c5,c6,c7⟩,f0,f1,f2,f3,f4,f5,f6,f7⟩:=eI I3.out;have oX:=uZ.out
       have d0:W4.cell? ⟨L,0,none⟩=some (.int .i64 0):=by simp[World.cell?,oX]
       have d1:W4.cell? ⟨L,1,none⟩=some (.int .i64 0):=by simp[World.cell?,oX]
       have d2:W4.cell? ⟨L,2,none⟩=some (.string st):=by simp[World.cell?,oX]
       have d3:W4.cell? ⟨L,3,none⟩=some (.int .i64 0):=by simp[World.cell?,oX]
       have d4:W4.cell? ⟨L,4,none⟩=some (.string ⟨#[]⟩):=by simp[World.cell?,oX]
       have d5:W4.cell? ⟨L,5,none⟩=some (.slice none 0 0):=by simp[World.cell?,oX]
       have d6:W4.cell? ⟨L,6,none⟩=some (.int .i64 0):=by simp[World.cell?,oX]
       have d7:W4.cell? ⟨L,7,none⟩=some (.int .i64 0):=by simp[World.cell?,oX]
       clear oX
       have ai:=aa (λw' (hx:cD R W4 w')=>show jw t.data.toList w (.returned (.tuple #[.agg #[.int .i64 0,.int .i64 (0:Nat),.string st,.int .i64 (0:Nat),.string ⟨#[]⟩,.slice none 0 0,.int .i64 (0:Nat),.int .i64 (0:Nat)],.bool false])) w' from ⟨jY.out.trans (by rw[<-Lg.out];exact hx.below),0,0,0,0,st,⟨#[]⟩,none,0,0,false,rfl,.inr ⟨rfl,by
        rw[ld.out,cu,Za.out];split<;>rfl⟩⟩)
       clear Za ld jY I3 uZ;go_region
       all_goals
        go_wp2_with fail;exact bodyPost_ret (v:=.tuple #[.agg #[.int .i64 0,.int .i64 (0:Nat),.string st,.int .i64 (0:Nat),.string ⟨#[]⟩,.slice none 0 0,.int .i64 (0:Nat),.int .i64 (0:Nat)],.bool false]) (by simp[results,Tryz.results109,go_sem, *]) rfl (ai.out _ (((cD.refl R W4).more _ _ _ _ _ _ _ _).drew))
      ·have fB:=aa (cL.out.trans (gY.mono cL.out.size));have GW:=aa ((gY.block R (ae lF.out)).trans lF.out);have Zc:=aa ((uX.mono cL.out.size).below ((Below.refl _ _).alloc (Nat.le_refl _) (.cells #[.int .i64 0,.int .i64 2,.string st,.int .i64 1,.string co,.slice ao ln cp,.int .i64 wh,.int .i64 fl] 219)))
       have jY:=aa (fB.out.alloc fB.out.size (.cells #[.int .i64 0,.int .i64 2,.string st,.int .i64 1,.string co,.slice ao ln cp,.int .i64 wh,.int .i64 fl] 219));have I3:=aa (heap_alloc_old (o:=.cells #[.int .i64 0,.int .i64 2,.string st,.int .i64 1,.string co,.slice ao ln cp,.int .i64 wh,.int .i64 fl] 219) GW.out)
       have uZ:=aa (af w3 (.cells #[.int .i64 0,.int .i64 2,.string st,.int .i64 1,.string co,.slice ao ln cp,.int .i64 wh,.int .i64 fl] 219));have Zd:=aa Ci;clear gY Ci uX cL lF fB GW;obtain ⟨L,Zb⟩:∃L,L=w3.heap.size:=⟨_,rfl⟩;go_wp2_with fail;rw[<-Zb]at uZ ⊢;clear Zb
       generalize w3.alloc (.cells #[.int .i64 0,.int .i64 2,.string st,.int .i64 1,.string co,.slice ao ln cp,.int .i64 wh,.int .i64 fl] 219)=W4 at *
       have AA:=aa (λ(w5:World) (hh:w5.heap[L]?=some (.cells #[.int .i64 0,.int .i64 2,.string st,.int .i64 1,.string co,.slice ao ln cp,.int .i64 wh,.int .i64 fl] 219 (0,0)))=>show w5.cell? ⟨L,0,none⟩=some (.int .i64 0)/\w5.cell? ⟨L,1,none⟩=some (.int .i64 2)/\w5.cell? ⟨L,2,none⟩=some (.string st)/\w5.cell? ⟨L,3,none⟩=some (.int .i64 1)/\w5.cell? ⟨L,4,none⟩=some (.string co)/\w5.cell? ⟨L,5,none⟩=some (.slice ao ln cp)/\w5.cell? ⟨L,6,none⟩=some (.int .i64 wh)/\w5.cell? ⟨L,7,none⟩=some (.int .i64 fl) from by simp[World.cell?,hh])
       obtain ⟨d0,d1,d2,d3,d4,d5,d6,d7⟩:=AA.out W4 uZ.out;have iT:=aa (kB st W4.drew (by omega))
       have ai:=aa (λ(w5 w':World) (wY:Below W4.heap.size W4 w5) (hx:cD R w5 w')=>show jw t.data.toList w (.returned (.tuple #[.agg #[.int .i64 0,.int .i64 (2:Nat),.string st,.int .i64 (1:Nat),.string co,.slice ao ln cp,.int .i64 wh,.int .i64 fl],.bool (isName st.data.toList)])) w' from ⟨(jY.out.trans (wY.mono jY.out.size)).trans (by rw[<-Lg.out];exact hx.below),2,1,wh,fl,st,co,ao,ln,cp,isName st.data.toList,rfl,by
        have hw:=ld.out
        cases fS:isName st.data.toList with
        | true=>
         rw[fS,if_pos rfl,cu,Zd.out]at hw;exact .inl ⟨rfl,_,hw,rfl,rfl,by omega,rfl,rfl,(Zc.out.below wY).only hx ((wY.block R (ae I3.out)).trans I3.out) (by decide) (by decide) (by decide)⟩
        | false=>
         rw[fS]at hw;exact .inr ⟨rfl,hw⟩⟩)
       have HZL:=aa (λ(w5:World) (wY:Below W4.heap.size W4 w5)=>And.intro (AA.out w5 ((wY.block L (ae uZ.out)).trans uZ.out)) (eI ((wY.block R (ae I3.out)).trans I3.out)));clear Zc jY I3 uZ Zd ld AA
       go_region_with (first
        | (go_at_call 147;refine iT.out.mono ?_;rintro e w5 ⟨rfl,wY⟩;have U7:=Q0 wY;obtain ⟨⟨x0,x1,x2,x3,x4,x5,x6,x7⟩,⟨c0,c1,c2,c3,c4,c5,c6,c7⟩,f0,f1,f2,f3,f4,f5,f6,f7⟩:=HZL.out w5 U7;have BB:=aa U7;clear wY U7))
       all_goals
        go_wp2_with fail;exact bodyPost_ret (v:=.tuple #[.agg #[.int .i64 0,.int .i64 (2:Nat),.string st,.int .i64 (1:Nat),.string co,.slice ao ln cp,.int .i64 wh,.int .i64 fl],.bool (isName st.data.toList)]) (by simp[results,Tryz.results109,go_sem, *]) rfl (ai.out _ _ BB.out (cD.eight _ _ _ _ _ _ _ _))
     ·have q1:=lS h1;have q2:=lS h2;have q3:=lS h3;have q4:=lS h4;unfold rj at q1;unfold kz at q2;unfold zA at q3;unfold jM at q4;obtain ⟨⟨c0,c1,c2,c3,c4,c5,c6,c7⟩,f0,f1,f2,f3,f4,f5,f6,f7⟩:=eI eK.out
      have ai:=aa (λw' (hx:cD R W1 w')=>show jw t.data.toList w (.returned (.tuple #[.agg #[.int .i64 0,.int .i64 (0:Nat),.string ⟨#[]⟩,.int .i64 (0:Nat),.string ⟨#[]⟩,.slice none 0 0,.int .i64 (0:Nat),.int .i64 (0:Nat)],.bool false])) w' from ⟨bA.out.trans (by rw[<-Lg.out];exact hx.below),0,0,0,0,⟨#[]⟩,⟨#[]⟩,none,0,0,false,rfl,.inr ⟨rfl,by
       rw[HL.out,fK,if_neg h1,if_neg h2,if_neg h3,if_neg h4]⟩⟩)
      clear h1 h2 h3 h4 HL eK bA;go_wp2_with fail;exact bodyPost_ret (v:=.tuple #[.agg #[.int .i64 0,.int .i64 (0:Nat),.string ⟨#[]⟩,.int .i64 (0:Nat),.string ⟨#[]⟩,.slice none 0 0,.int .i64 (0:Nat),.int .i64 (0:Nat)],.bool false]) (by simp[results,Tryz.results109,go_sem, *]) rfl (ai.out _ (cD.eight _ _ _ _ _ _ _ _))
end Go.Proofs.YtgncgdkpkkdaeaaGreatDoor
