import Derived.Test.YtgncgdkpkkdaeaaGreatDoorSh
import Derived.Test.YtgncgdkpkkdaeaaGreatDoorAN3
set_option maxRecDepth 20000
set_option maxHeartbeats 2000000
namespace Go.Proofs.YtgncgdkpkkdaeaaGreatDoor
open Go.RowKit bu
variable {p:List UInt8} {B R fl wh:Nat} {lv:Value} {w w':World}
def Mx(w:World):Prop:=∃m,w.cell? ⟨0,0,none⟩=some (.int .i64 m)
theorem Mx.below(h:Mx w)(hb:Below w.heap.size w w'):Mx w':=by obtain ⟨m,hm⟩:=h;exact ⟨m,(hb.cell (World.block_lt_of_cell? w _ hm)).trans hm⟩
def R4(s:ByteArray)(c:UInt8)(w:World)(e:Ending)(w':World):Prop:=
 (∃n,w'=w.drewN n)/\((∃a b:ByteArray,s.data.toList=a.data.toList++c::b.data.toList/\c∉a.data.toList/\e=.returned (.tuple #[.string a,.string b,.bool true]))∨(c∉s.data.toList/\e=.returned (.tuple #[.string s,.string ⟨#[]⟩,.bool false])))
theorem uz(s:ByteArray)(c:UInt8)(w:World)(hs:s.size<=1000000000)(hm:Mx w):Calls Tryz.prog 108 #[.string s,.string ⟨#[c]⟩] w (R4 s c w):=by
 obtain ⟨m,hm⟩:=hm;refine (Tryz.strings_Cut s ⟨#[c]⟩ m w (by omega) hm).mono ?_;rintro e w' ⟨rfl,hn⟩;refine ⟨hn,?_⟩;rcases R3 c s.data.toList with ⟨a,b,h1,h2,-,h3⟩|⟨h1,-,h3⟩
 ·refine .inl ⟨⟨a.toArray⟩,⟨b.toArray⟩,h1,h2,?_⟩;rw[show (⟨#[c]⟩:ByteArray).data.toList=[c] from rfl,h3]
 ·refine .inr ⟨h1,?_⟩;rw[show (⟨#[c]⟩:ByteArray).data.toList=[c] from rfl,h3]
def C7(s:ByteArray)(w:World)(e:Ending)(w':World):Prop:=
 (∃n,w'=w.drewN n)/\∃(a b:ByteArray) (o:Bool),e=.returned (.tuple #[.string a,.string b,.bool o])/\a.size<=s.size/\b.size<=s.size /\
  ((o=true/\isName a.data.toList=true/\bA s.data.toList=some (a.data.toList,b.data.toList))∨(bA s.data.toList=none/\(o=false∨isName a.data.toList=false)))
theorem Kd(s sep:List UInt8):(Lib.cut s sep).1.length<=s.length/\(Lib.cut s sep).2.1.length<=s.length:=by
 unfold Lib.cut;split
 ·simp only[List.length_take,List.length_drop];omega
 ·simp
theorem C8(s:ByteArray)(w:World)(hs:s.size<=1000000000)(hm:Mx w):Calls Tryz.prog 108 #[.string s,.string ⟨#[32,61,32]⟩] w (C7 s w):=by
 obtain ⟨m,hm⟩:=hm;refine (Tryz.strings_Cut s ⟨#[32,61,32]⟩ m w (by omega) hm).mono ?_;rintro e w' ⟨rfl,hn⟩;have hz:=Kd s.data.toList [32,61,32];refine ⟨hn,⟨(Lib.cut s.data.toList [32,61,32]).1.toArray⟩,⟨(Lib.cut s.data.toList [32,61,32]).2.1.toArray⟩,(Lib.cut s.data.toList [32,61,32]).2.2,rfl,?_,?_,?_⟩
 ·show (Lib.cut s.data.toList [32,61,32]).1.toArray.size<=_;simpa using hz.1
 ·show (Lib.cut s.data.toList [32,61,32]).2.1.toArray.size<=_;simpa using hz.2
 rcases N1 s.data.toList with ⟨c,p,h1,h2,h3⟩|⟨h1,h2⟩
 ·rw[h3];exact .inl ⟨rfl,h2,h1⟩
 ·exact .inr ⟨h1,h2⟩
theorem FU(w:World)(t:ByteArray)(j:Nat)(h:j<t.size)(cp:Nat)(fz:Nat×Nat):(w.alloc (.cells (bytesRow t cp) 5 fz)).drew.cell? ⟨w.heap.size,j,none⟩=some (.int .u8 t[j].toNat):=by
 have hh:(w.alloc (.cells (bytesRow t cp) 5 fz)).drew.heap[w.heap.size]?=some (.cells (bytesRow t cp) 5 fz):=by show (w.heap.push _)[w.heap.size]?=_;simp
 have hb:(bytesRow t cp)[j]?=some (.int .u8 t[j].toNat):=bytesRow_at t cp j h;unfold World.cell?;simp only[hh];exact hb
def N7(t:ByteArray)(w:World)(k:Nat)(i:Value)(wr:World):Prop:=
 ∃j:Nat,i=.int .i64 j/\j+k=t.size/\wr=w/\∀(m:Nat) (x:UInt8),m<j->t.data.toList[m]?=some x->letter x=true
theorem lh(t:ByteArray)(w:World)(hz:t.size<=1000000000):
  Calls Tryz.prog 147 #[.string t] w λe w'=>e=.returned (.bool (isName t.data.toList))/\Below w.heap.size w w':=by
 have hcv:=run_bytes_of_string (P:=Tryz.prog) w 9 147 5 t Tryz.underlying9 Tryz.underlying147 Tryz.underlying5;go_enter Tryz.func147,Tryz.ntmps147;go_wp2_with fail
 have HB:=aa (show Below w.heap.size w (w.alloc (.cells (bytesRow t (grownCap w t.size 0 5)) 5 ((bytesRow t (grownCap w t.size 0 5)).size,(bytesRow t (grownCap w t.size 0 5)).size+1))).drew from (cq _ _).drew)
 have HC:=aa (λ(j:Nat) (h:j<t.size)=>show (w.alloc (.cells (bytesRow t (grownCap w t.size 0 5)) 5 ((bytesRow t (grownCap w t.size 0 5)).size,(bytesRow t (grownCap w t.size 0 5)).size+1))).drew.cell? ⟨w.heap.size,j,none⟩=some (.int .u8 t[j].toNat) from FU w t j h _ _);clear hcv;generalize grownCap w t.size 0 5=cp at *
 obtain ⟨q,hq⟩:∃q,q=w.heap.size:=⟨_,rfl⟩;rw[<-hq]at HC ⊢;clear hq;generalize (w.alloc (.cells (bytesRow t cp) 5 ((bytesRow t cp).size,(bytesRow t cp).size+1))).drew=W at *;go_loopg [8] t.size (λk i wr=>N7 t W k i wr)
 case atStart=>exact ⟨0,rfl,by omega,rfl,λm x h=>by omega⟩
 case round=>
  obtain ⟨j,rfl,hk,rfl,hall⟩:=hrel;by_cases hlt:j<t.size
  ·have g1:decide ((j:Int)<(t.size:Int))=true:=cF (by omega);have hc:=HC.out j hlt;have HG:=aa (qA hlt);have gN:=aa hall;clear hall;by_cases h1:t[j].toNat<97
   ·have HE:=aa (all_false HG.out (show letter t[j]=false by simp[letter];omega));have q1:decide (((t[j].toNat:Nat):Int)<97)=true:=cF (by omega);go_wp2_with fail;go_ret;exact ⟨by rw[HE.out];rfl,HB.out⟩
   ·by_cases h2:122<t[j].toNat
    ·have HE:=aa (all_false HG.out (show letter t[j]=false by simp[letter];omega));have q1:decide (((t[j].toNat:Nat):Int)<97)=false:=bV (by omega);have q2:decide ((122:Int)<((t[j].toNat:Nat):Int))=true:=cF (by omega);go_wp2_with fail;go_ret;exact ⟨by rw[HE.out];rfl,HB.out⟩
    ·have q1:decide (((t[j].toNat:Nat):Int)<97)=false:=bV (by omega);have q2:decide ((122:Int)<((t[j].toNat:Nat):Int))=false:=bV (by omega);have HL:=aa (show letter t[j]=true by simp[letter];omega);obtain ⟨k',rfl⟩:∃k',gk=k'+1:=⟨gk - 1,by omega⟩;have hi:j+1<=9223372036854775807:=by omega
     go_wp2_with fail;go_roundg k'
     case measure=>omega
     case rel=>
      refine ⟨j+1,rfl,by omega,rfl,λm x hm hx=>?_⟩;rcases ed m j with h|h
      ·exact gN.out m x h hx
      ·have:m=j:=by omega
       subst this;rw[HG.out]at hx;cases hx;exact HL.out
  ·have g1:decide ((j:Int)<(t.size:Int))=false:=bV (by omega);have HE:=aa (all_true (l:=t.data.toList) (λm x hx=>hall m x (by have:=az hx;rw[aO]at this;omega) hx));rw[aO]at HE;clear hall;by_cases h1:1<=t.size
   ·by_cases h2:t.size<=12
    ·have q1:decide ((1:Int)<=(t.size:Int))=true:=cF (by omega);have q2:decide ((t.size:Int)<=12)=true:=cF (by omega);go_wp2_with fail;go_ret;exact ⟨by rw[HE.out,cF h1,cF h2];rfl,HB.out⟩
    ·have q1:decide ((1:Int)<=(t.size:Int))=true:=cF (by omega);have q2:decide ((t.size:Int)<=12)=false:=bV (by omega);go_wp2_with fail;go_ret;exact ⟨by rw[HE.out,cF h1,bV h2];rfl,HB.out⟩
   ·have q1:decide ((1:Int)<=(t.size:Int))=false:=bV (by omega);go_wp2_with fail;go_ret;exact ⟨by rw[HE.out,bV h1];rfl,HB.out⟩
def fT(w:World)(B:Nat)(p:List UInt8)(lv:Value)(wh fl:Nat):Prop:=
 (60<p.length/\lv=.slice none 0 0/\wh=0/\fl=1) ∨
 (p.length<=60/\(bH p none∨∃r s',s'≠[]/\bH p (some (r,s')))/\lv=.slice none 0 0/\wh=0/\fl=6) ∨
 (p.length<=60/\fl=0/\∃(a:aP) (ns:List (Nd Value)) (g cap:Nat),lv=.slice (some ⟨g,0,none⟩) ns.length cap/\wh=a.ix/\bH p (some (a.re,[]))/\bm w B lv ns/\ei (aH w) ns a/\ei (aH w) ns .dE/\ns.length<=200)
theorem fT.keep(h:fT w B p lv wh fl)(hk:∀(k:Nat) c t,(t=292∨t=5∨t=290)->w.heap[k]?=some (.cells c t (0,0))->w'.heap[k]?=some (.cells c t (0,0))):fT w' B p lv wh fl:=by
 have hst:bN w w':=λk c t ht hh=>hk k c t (.inr ht) hh
 rcases h with h|h|⟨h1,h2,a,ns,g,cap,h3,h4,h5,h6,h7,h8,h9⟩
 ·exact .inl h
 ·exact .inr (.inl h)
 ·exact .inr (.inr ⟨h1,h2,a,ns,g,cap,h3,h4,h5,h6.keep λk hb=>by obtain ⟨_,cur,hc⟩:=h6.block hb;rw[hc];exact hk k _ _ (.inl rfl) hc,h7.world hst,h8.world hst,h9⟩)
theorem fT.below(h:fT w B p lv wh fl)(hb:Below w.heap.size w w'):fT w' B p lv wh fl:=
 h.keep λk _ _ _ hh=>(hb.block k (ae hh)).trans hh
structure cN(R:Nat)(w w':World):Prop where
 below:Below R w w'
 size:w'.heap.size=w.heap.size
 other:∀k,k≠R->w'.heap[k]?=w.heap[k]?
theorem cN.refl(R:Nat)(w:World):cN R w w:=⟨Below.refl _ _,rfl,λ_ _=>rfl⟩
theorem cN.set(h:cN R w w')(j:Nat)(v:Value):cN R w (w'.setCell ⟨R,j,none⟩ v):=
 ⟨h.below.setCell (bc _) _,by rw[<-h.size];simp[World.setCell],λk hk=>(eV _ _ _ _ hk).trans (h.other k hk)⟩
theorem cN.drew(h:cN R w w'):cN R w w'.drew:=⟨h.below.drew,h.size,h.other⟩
theorem fT.only{c0:Array Value}{t0:TypeId}{fz:Nat×Nat}(h:fT w B p lv wh fl)(ho:cN R w w')(hR:w.heap[R]?=some (.cells c0 t0 fz))(h1:t0≠292)(h2:t0≠5)(h3:t0≠290):fT w' B p lv wh fl:=
 h.keep λk c t ht hh=>by
  rw[ho.other k (λe=>by
   rw[e,hR]at hh;simp only[fA,Obj.cells.injEq]at hh;rcases ht with rfl|rfl|rfl
   ·exact h1 hh.2.1
   ·exact h2 hh.2.1
   ·exact h3 hh.2.1)]
  exact hh
theorem fT.mono{B':Nat}(h:fT w B p lv wh fl)(hB:B'<=B):fT w B' p lv wh fl:=by
 rcases h with h|h|⟨h1,h2,a,ns,g,cap,h3,h4,h5,h6,h7,h8,h9⟩
 ·exact .inl h
 ·exact .inr (.inl h)
 ·refine .inr (.inr ⟨h1,h2,a,ns,g,cap,h3,h4,h5,⟨⟨h6.1.1,?_⟩,h6.2⟩,h7,h8,h9⟩);rcases h6.1.2 with hh|⟨g',cap',cur,e1,e2,e3⟩
  ·exact .inl hh
  ·exact .inr ⟨g',cap',cur,e1,bJ hB e2,e3⟩
theorem eX(h:w.heap[R]?=some (.cells #[.int .i64 0,.int .i64 0,.string ⟨#[]⟩,.int .i64 0,.string ⟨#[]⟩,.slice none 0 0,.int .i64 0,.int .i64 0] 219 (0,0))):(w.cell? ⟨R,0,none⟩=some (.int .i64 0)/\w.cell? ⟨R,1,none⟩=some (.int .i64 0)/\w.cell? ⟨R,2,none⟩=some (.string ⟨#[]⟩)/\w.cell? ⟨R,3,none⟩=some (.int .i64 0)/\w.cell? ⟨R,4,none⟩=some (.string ⟨#[]⟩)/\w.cell? ⟨R,5,none⟩=some (.slice none 0 0)/\w.cell? ⟨R,6,none⟩=some (.int .i64 0)/\w.cell? ⟨R,7,none⟩=some (.int .i64 0)) /\
  w.frozen? ⟨R,0,none⟩=false/\w.frozen? ⟨R,1,none⟩=false/\w.frozen? ⟨R,2,none⟩=false/\w.frozen? ⟨R,3,none⟩=false/\w.frozen? ⟨R,4,none⟩=false/\w.frozen? ⟨R,5,none⟩=false/\w.frozen? ⟨R,6,none⟩=false/\w.frozen? ⟨R,7,none⟩=false:=by
 simp[World.cell?,World.frozen?,h]
theorem cN.eight(a b c d e f g h:Value):cN R w ((((((((w.setCell ⟨R,0,none⟩ a).setCell ⟨R,1,none⟩ b).setCell ⟨R,2,none⟩ c).setCell ⟨R,3,none⟩ d).setCell ⟨R,4,none⟩ e).setCell ⟨R,5,none⟩ f).setCell ⟨R,6,none⟩ g).setCell ⟨R,7,none⟩ h):=
 ((((((((cN.refl R w).set 0 a).set 1 b).set 2 c).set 3 d).set 4 e).set 5 f).set 6 g).set 7 h
theorem cN.more{w0:World}(hx:cN R w0 w)(a b c d e f g h:Value):cN R w0 ((((((((w.setCell ⟨R,0,none⟩ a).setCell ⟨R,1,none⟩ b).setCell ⟨R,2,none⟩ c).setCell ⟨R,3,none⟩ d).setCell ⟨R,4,none⟩ e).setCell ⟨R,5,none⟩ f).setCell ⟨R,6,none⟩ g).setCell ⟨R,7,none⟩ h):=
 (((((((hx.set 0 a).set 1 b).set 2 c).set 3 d).set 4 e).set 5 f).set 6 g).set 7 h
def Ay(d:Nat)(t:List UInt8)(w:World)(e:Ending)(w':World):Prop:=
 Below w.heap.size w w'/\((e=.returned (.tuple #[.agg #[.int .i64 0,.int .i64 0,.string ⟨#[]⟩,.int .i64 0,.string ⟨#[]⟩,.slice none 0 0,.int .i64 0,.int .i64 0],.bool false])/\bA t=none) ∨
  ∃(co:ByteArray) (p:List UInt8) (ao:Option Addr) (ln cp wh fl:Nat),e=.returned (.tuple #[.agg #[.int .i64 0,.int .i64 2,.string ⟨#[]⟩,.int .i64 d,.string co,.slice ao ln cp,.int .i64 wh,.int .i64 fl],.bool true])/\bA t=some (co.data.toList,p)/\fT w' w.heap.size p (.slice ao ln cp) wh fl)
theorem lj(d:Nat)(t:ByteArray)(w:World)(hz:t.size<=2000)(hm:Mx w):
  Calls Tryz.prog 148 #[.int .i64 d,.string t] w (Ay d t.data.toList w):=by
 have HM:=aa hm;clear hm;have HR:=aa (ag w (.cells #[.int .i64 0,.int .i64 0,.string ⟨#[]⟩,.int .i64 0,.string ⟨#[]⟩,.slice none 0 0,.int .i64 0,.int .i64 0] 219))
 have HB:=aa (show Below w.heap.size w (w.alloc (.cells #[.int .i64 0,.int .i64 0,.string ⟨#[]⟩,.int .i64 0,.string ⟨#[]⟩,.slice none 0 0,.int .i64 0,.int .i64 0] 219)) from cq _ _);go_enter Tryz.func148,Tryz.ntmps148;go_wp2_with fail
 generalize w.alloc (.cells #[.int .i64 0,.int .i64 0,.string ⟨#[]⟩,.int .i64 0,.string ⟨#[]⟩,.slice none 0 0,.int .i64 0,.int .i64 0] 219)=W at *;obtain ⟨R,BM⟩:∃R,R=w.heap.size:=⟨_,rfl⟩;rw[<-BM]at HR ⊢;have L9:=aa BM;clear BM;refine (C8 t W (by omega) (HM.out.below HB.out)).mono ?_;rintro e w1 ⟨⟨n1,rfl⟩,co,so,o,rfl,Ir,hsz,jG⟩
 have bM:=aa (Below.drewN' HB.out n1);have eZ:=aa (show (W.drewN n1).heap[R]?=_ from HR.out);generalize W.drewN n1=W1 at *;rcases jG with ⟨rfl,gF,Ez⟩|⟨Ez,ho⟩
 ·have jm:=aa (lh co W1 (by omega));have VU:=aa Ez;rw[gF]at jm;clear Ez gF;go_wp2_with fail;refine jm.out.mono ?_;rintro e w2 ⟨rfl,eE⟩;have cW:=aa (bM.out.trans (eE.mono bM.out.size));have mA:=aa ((eE.block R (ae eZ.out)).trans eZ.out);clear eE jm;go_wp2_with fail;refine (yF so w2 (by unfold maxLen;omega)).mono ?_;rintro e w3 ⟨iC,jG⟩
  have fV:=aa (cW.out.trans (iC.mono cW.out.size));have Io:=aa ((iC.block R (ae mA.out)).trans mA.out)
  obtain ⟨ao,ln,cp,wh,fl,rfl,vX⟩:∃(ao:Option Addr) (ln cp wh fl:Nat),e=.returned (.tuple #[.agg #[.slice ao ln cp,.int .i64 wh],.int .i64 fl])/\fT w3 w2.heap.size so.data.toList (.slice ao ln cp) wh fl:=by
   rcases jG with ⟨h1,rfl⟩|⟨h1,h2,rfl⟩|⟨h1,sv,a,ns,rfl,h2,h3,h4,h5,h6⟩
   ·exact ⟨none,0,0,0,1,rfl,.inl ⟨h1,rfl,rfl,rfl⟩⟩
   ·exact ⟨none,0,0,0,6,rfl,.inr (.inl ⟨h1,h2,rfl,rfl,rfl⟩)⟩
   ·have h0:0<ns.length:=by obtain ⟨x,hx⟩:=h5;exact az hx
    obtain ⟨g,cap,rfl⟩:=aB h3.1 h0;exact ⟨some ⟨g,0,none⟩,ns.length,cap,a.ix,0,rfl,.inr (.inr ⟨h1,rfl,a,ns,g,cap,rfl,rfl,h2,h3,h4,h5,h6⟩)⟩
  obtain ⟨⟨c0,c1,c2,c3,c4,c5,c6,c7⟩,f0,f1,f2,f3,f4,f5,f6,f7⟩:=eX (af (o:=.cells #[.slice ao ln cp,.int .i64 wh] 184) Io.out)
  have aq:=aa (λw' (ho:cN R (w3.alloc (.cells #[.slice ao ln cp,.int .i64 wh] 184)) w')=>show Ay d t.data.toList w (.returned (.tuple #[.agg #[.int .i64 0,.int .i64 2,.string ⟨#[]⟩,.int .i64 d,.string co,.slice ao ln cp,.int .i64 wh,.int .i64 fl],.bool true])) w' from
   ⟨(fV.out.alloc fV.out.size _).trans (by rw[<-L9.out];exact ho.below),.inr ⟨co,so.data.toList,ao,ln,cp,wh,fl,rfl,VU.out,((vX.mono cW.out.size).below (cq _ _)).only ho (af Io.out) (by decide) (by decide) (by decide)⟩⟩)
  clear vX iC jG Io mA eZ HR fV cW bM HB VU;go_wp2_with fail;exact bodyPost_ret (v:=.tuple #[.agg #[.int .i64 0,.int .i64 2,.string ⟨#[]⟩,.int .i64 d,.string co,.slice ao ln cp,.int .i64 wh,.int .i64 fl],.bool true]) (by simp[results,Tryz.results148,go_sem, *]) rfl (aq.out _ (cN.eight _ _ _ _ _ _ _ _))
 ·have VU:=aa Ez;clear Ez;by_cases ho0:o=true
  ·subst ho0;have gF:isName co.data.toList=false:=by rcases ho with h|h;cases h;exact h
   have jm:=aa (lh co W1 (by omega));rw[gF]at jm;clear gF ho;go_wp2_with fail;refine jm.out.mono ?_;rintro e w2 ⟨rfl,eE⟩;obtain ⟨⟨c0,c1,c2,c3,c4,c5,c6,c7⟩,f0,f1,f2,f3,f4,f5,f6,f7⟩:=eX ((eE.block R (ae eZ.out)).trans eZ.out)
   have aq:=aa (λw' (hx:cN R w2 w')=>show Ay d t.data.toList w (.returned (.tuple #[.agg #[.int .i64 0,.int .i64 0,.string ⟨#[]⟩,.int .i64 0,.string ⟨#[]⟩,.slice none 0 0,.int .i64 0,.int .i64 0],.bool false])) w' from ⟨(bM.out.trans (eE.mono bM.out.size)).trans (by rw[<-L9.out];exact hx.below),.inl ⟨rfl,VU.out⟩⟩);clear eE jm eZ HR bM HB VU;go_wp2_with fail
   exact bodyPost_ret (v:=.tuple #[.agg #[.int .i64 0,.int .i64 0,.string ⟨#[]⟩,.int .i64 0,.string ⟨#[]⟩,.slice none 0 0,.int .i64 0,.int .i64 0],.bool false]) (by simp[results,Tryz.results148,go_sem, *]) rfl (aq.out _ (cN.eight _ _ _ _ _ _ _ _))
  ·obtain rfl:o=false:=by simpa using ho0
   obtain ⟨⟨c0,c1,c2,c3,c4,c5,c6,c7⟩,f0,f1,f2,f3,f4,f5,f6,f7⟩:=eX eZ.out;have aq:=aa (λw' (hx:cN R W1 w')=>show Ay d t.data.toList w (.returned (.tuple #[.agg #[.int .i64 0,.int .i64 0,.string ⟨#[]⟩,.int .i64 0,.string ⟨#[]⟩,.slice none 0 0,.int .i64 0,.int .i64 0],.bool false])) w' from ⟨bM.out.trans (by rw[<-L9.out];exact hx.below),.inl ⟨rfl,VU.out⟩⟩)
   clear eZ HR bM HB VU ho ho0;go_wp2_with fail;exact bodyPost_ret (v:=.tuple #[.agg #[.int .i64 0,.int .i64 0,.string ⟨#[]⟩,.int .i64 0,.string ⟨#[]⟩,.slice none 0 0,.int .i64 0,.int .i64 0],.bool false]) (by simp[results,Tryz.results148,go_sem, *]) rfl (aq.out _ (cN.eight _ _ _ _ _ _ _ _))
def gO(w:World)(B:Nat)(kd d:Nat)(st co:ByteArray)(lv:Value)(wh fl:Nat):Ln->Prop
 | .blank=>kd=0/\d=0/\lv=.slice none 0 0/\wh=0/\fl=0
 | .state n=>kd=1/\d=0/\st.data.toList=n/\lv=.slice none 0 0/\wh=0/\fl=0
 | .rule d' o c p=>kd=2/\d'=d/\d<=2/\st.data.toList=o/\co.data.toList=c/\fT w B p lv wh fl
theorem gO.keep{kd d:Nat}{st co:ByteArray}{x:Ln}(h:gO w B kd d st co lv wh fl x)(hk:∀{p:List UInt8},fT w B p lv wh fl->fT w' B p lv wh fl):gO w' B kd d st co lv wh fl x:=by
 cases x with
 | blank=>exact h
 | state n=>exact h
 | rule d' o c p=>exact ⟨h.1,h.2.1,h.2.2.1,h.2.2.2.1,h.2.2.2.2.1,hk h.2.2.2.2.2⟩
def jP(s:List UInt8)(w:World)(e:Ending)(w':World):Prop:=
 Below w.heap.size w w'/\∃(kd d wh fl:Nat) (st co:ByteArray) (ao:Option Addr) (ln cp:Nat) (ok:Bool),e=.returned (.tuple #[.agg #[.int .i64 0,.int .i64 kd,.string st,.int .i64 d,.string co,.slice ao ln cp,.int .i64 wh,.int .i64 fl],.bool ok]) /\
  ((ok=true/\∃x,cS s=some x/\gO w' w.heap.size kd d st co (.slice ao ln cp) wh fl x)∨(ok=false/\cS s=none))
theorem R5(h:Below w.drew.heap.size w.drew w'):Below w.heap.size w w':=⟨h.os,h.tape,h.output,h.size,h.block⟩
theorem FV(w:List UInt8):gq w []=none:=by
 unfold gq;split
 ·rfl
 ·split
  ·rfl
  ·split
   ·rfl
   ·split
    ·rfl
    ·rfl
theorem FW{s:List UInt8}(h:s≠[]):(∀a b,s=a++32::b->(32:UInt8)∉a->cS s=gq a b)/\((32:UInt8)∉s->cS s=gq s []):=by
 constructor
 ·intro a b e hn;unfold cS;rw[if_neg h,e,eo b hn]
 ·intro hn;unfold cS;rw[if_neg h,gL hn,FV]
theorem Az(t:ByteArray)(w:World)(hz:t.size<=2000)(hm:Mx w):
  Calls Tryz.prog 109 #[.string t] w (jP t.data.toList w):=by
 have HM:=aa hm;clear hm;have HR:=aa (ag w (.cells #[.int .i64 0,.int .i64 0,.string ⟨#[]⟩,.int .i64 0,.string ⟨#[]⟩,.slice none 0 0,.int .i64 0,.int .i64 0] 219))
 have HB:=aa (show Below w.heap.size w (w.alloc (.cells #[.int .i64 0,.int .i64 0,.string ⟨#[]⟩,.int .i64 0,.string ⟨#[]⟩,.slice none 0 0,.int .i64 0,.int .i64 0] 219)) from cq _ _);by_cases h0:t.data.toList=[]
 ·obtain rfl:t=⟨#[]⟩:=qB h0;have q0:((⟨#[]⟩:ByteArray).toList == [])=true:=by rw[ByteArray.toList_eq];rfl
  have aq:=aa (show jP (⟨#[]⟩:ByteArray).data.toList w (.returned (.tuple #[.agg #[.int .i64 0,.int .i64 (0:Nat),.string ⟨#[]⟩,.int .i64 (0:Nat),.string ⟨#[]⟩,.slice none 0 0,.int .i64 (0:Nat),.int .i64 (0:Nat)],.bool true])) (w.alloc (.cells #[.int .i64 0,.int .i64 0,.string ⟨#[]⟩,.int .i64 0,.string ⟨#[]⟩,.slice none 0 0,.int .i64 0,.int .i64 0] 219)) from
   ⟨HB.out,0,0,0,0,⟨#[]⟩,⟨#[]⟩,none,0,0,true,rfl,.inl ⟨rfl,.blank,rfl,rfl,rfl,rfl,rfl,rfl⟩⟩)
  clear HR HB HM;go_enter Tryz.func109,Tryz.ntmps109;go_wp2_with fail;exact bodyPost_ret (v:=.tuple #[.agg #[.int .i64 0,.int .i64 (0:Nat),.string ⟨#[]⟩,.int .i64 (0:Nat),.string ⟨#[]⟩,.slice none 0 0,.int .i64 (0:Nat),.int .i64 (0:Nat)],.bool true]) (by simp[results,Tryz.results109,go_sem, *]) rfl aq.out
 ·have q0:(t.toList == [])=false:=by rw[er,ByteArray.toList_eq];exact h0
  have HLC:=aa (FW h0);clear h0;go_enter Tryz.func109,Tryz.ntmps109;go_wp2_with fail;generalize w.alloc (.cells #[.int .i64 0,.int .i64 0,.string ⟨#[]⟩,.int .i64 0,.string ⟨#[]⟩,.slice none 0 0,.int .i64 0,.int .i64 0] 219)=W at *;obtain ⟨R,BM⟩:∃R,R=w.heap.size:=⟨_,rfl⟩;rw[<-BM]at HR ⊢;have L9:=aa BM;clear BM
  refine (uz t 32 W (by omega) (HM.out.below HB.out)).mono ?_;rintro e w1 ⟨⟨n1,rfl⟩,jG⟩;have bM:=aa (Below.drewN' HB.out n1);have eZ:=aa (show (W.drewN n1).heap[R]?=_ from HR.out);generalize W.drewN n1=W1 at *
  obtain ⟨wd,rs,o,rfl,JC,hL⟩:∃(wd rs:ByteArray) (o:Bool),e=.returned (.tuple #[.string wd,.string rs,.bool o])/\rs.size<=2000/\cS t.data.toList=gq wd.data.toList rs.data.toList:=by
   rcases jG with ⟨a,b,h1,h2,rfl⟩|⟨h1,rfl⟩
   ·exact ⟨a,b,true,rfl,by have:=congrArg List.length h1;rw[dG,fe,aO,aO,aO]at this;omega,HLC.out.1 _ _ h1 h2⟩
   ·exact ⟨t,⟨#[]⟩,false,rfl,by decide,HLC.out.2 h1⟩
  have HL:=aa hL;clear jG hL HLC HB HR;by_cases h1:wd.data.toList=sq
  ·obtain rfl:wd=⟨#[115,116,97,116,101]⟩:=qB h1;have q1:((⟨#[115,116,97,116,101]⟩:ByteArray).toList == [115,116,97,116,101])=true:=by rw[ByteArray.toList_eq];rfl
   have jm:=aa (lh rs W1 (by omega));clear h1;go_wp2_with fail;refine jm.out.mono ?_;rintro e w2 ⟨rfl,eE⟩;obtain ⟨⟨c0,c1,c2,c3,c4,c5,c6,c7⟩,f0,f1,f2,f3,f4,f5,f6,f7⟩:=eX ((eE.block R (ae eZ.out)).trans eZ.out)
   have aq:=aa (λw' (hx:cN R w2 w')=>show jP t.data.toList w (.returned (.tuple #[.agg #[.int .i64 0,.int .i64 (1:Nat),.string rs,.int .i64 (0:Nat),.string ⟨#[]⟩,.slice none 0 0,.int .i64 (0:Nat),.int .i64 (0:Nat)],.bool (isName rs.data.toList)])) w' from ⟨(bM.out.trans (eE.mono bM.out.size)).trans (by rw[<-L9.out];exact hx.below),1,0,0,0,rs,⟨#[]⟩,none,0,0,isName rs.data.toList,rfl,by
    have hw:cS t.data.toList=if isName rs.data.toList=true then some (.state rs.data.toList) else none:=HL.out
    cases gF:isName rs.data.toList with
    | true=>rw[gF]at hw;exact .inl ⟨rfl,.state rs.data.toList,hw,rfl,rfl,rfl,rfl,rfl,rfl⟩
    | false=>rw[gF]at hw;exact .inr ⟨rfl,hw⟩⟩)
   clear eE jm HL eZ bM;go_wp2_with fail;exact bodyPost_ret (v:=.tuple #[.agg #[.int .i64 0,.int .i64 (1:Nat),.string rs,.int .i64 (0:Nat),.string ⟨#[]⟩,.slice none 0 0,.int .i64 (0:Nat),.int .i64 (0:Nat)],.bool (isName rs.data.toList)]) (by simp[results,Tryz.results109,go_sem, *]) rfl (aq.out _ (cN.eight _ _ _ _ _ _ _ _))
  ·by_cases h2:wd.data.toList=ld
   ·clear h1;have h1:=h2;clear h2;obtain rfl:wd=⟨#[116,111,107,101,110]⟩:=qB h1;have q1:((⟨#[116,111,107,101,110]⟩:ByteArray).toList == [115,116,97,116,101])=false:=by rw[ByteArray.toList_eq];rfl
    have q2:((⟨#[116,111,107,101,110]⟩:ByteArray).toList == [116,111,107,101,110])=true:=by rw[ByteArray.toList_eq];rfl
    have jA:=aa (lj 0 rs W1 JC (HM.out.below bM.out));clear h1;go_wp2_with fail;refine jA.out.mono ?_;rintro e w2 ⟨eE,⟨rfl,hno⟩|⟨co,p,ao,ln,cp,wh,fl,rfl,C9,vX⟩⟩
    ·obtain ⟨⟨c0,c1,c2,c3,c4,c5,c6,c7⟩,f0,f1,f2,f3,f4,f5,f6,f7⟩:=eX ((eE.block R (ae eZ.out)).trans eZ.out)
     have aq:=aa (λw' (hx:cN R w2 w')=>show jP t.data.toList w (.returned (.tuple #[.agg #[.int .i64 0,.int .i64 (0:Nat),.string ⟨#[]⟩,.int .i64 (0:Nat),.string ⟨#[]⟩,.slice none 0 0,.int .i64 (0:Nat),.int .i64 (0:Nat)],.bool false])) w' from ⟨(bM.out.trans (eE.mono bM.out.size)).trans (by rw[<-L9.out];exact hx.below),0,0,0,0,⟨#[]⟩,⟨#[]⟩,none,0,0,false,rfl,.inr ⟨rfl,by
      rw[HL.out,show gq [116,111,107,101,110] rs.data.toList=cI 0 [] rs.data.toList from rfl,cI,hno];rfl⟩⟩)
     clear eE hno jA HL eZ bM;go_wp2_with fail;exact bodyPost_ret (v:=.tuple #[.agg #[.int .i64 0,.int .i64 (0:Nat),.string ⟨#[]⟩,.int .i64 (0:Nat),.string ⟨#[]⟩,.slice none 0 0,.int .i64 (0:Nat),.int .i64 (0:Nat)],.bool false]) (by simp[results,Tryz.results109,go_sem, *]) rfl (aq.out _ (cN.eight _ _ _ _ _ _ _ _))
    ·have yE:=(eE.block R (ae eZ.out)).trans eZ.out;obtain ⟨⟨c0,c1,c2,c3,c4,c5,c6,c7⟩,f0,f1,f2,f3,f4,f5,f6,f7⟩:=eX yE
     have aq:=aa (λw' (hx:cN R w2 w')=>show jP t.data.toList w (.returned (.tuple #[.agg #[.int .i64 0,.int .i64 (2:Nat),.string ⟨#[]⟩,.int .i64 (0:Nat),.string co,.slice ao ln cp,.int .i64 wh,.int .i64 fl],.bool true])) w' from ⟨(bM.out.trans (eE.mono bM.out.size)).trans (by rw[<-L9.out];exact hx.below),2,0,wh,fl,⟨#[]⟩,co,ao,ln,cp,true,rfl,.inl ⟨rfl,.rule 0 [] co.data.toList p,by
      rw[HL.out,show gq [116,111,107,101,110] rs.data.toList=cI 0 [] rs.data.toList from rfl,cI,C9];rfl,rfl,rfl,by omega,rfl,rfl,(vX.mono bM.out.size).only hx yE (by decide) (by decide) (by decide)⟩⟩)
     clear eE C9 vX yE jA HL eZ bM;go_wp2_with fail;exact bodyPost_ret (v:=.tuple #[.agg #[.int .i64 0,.int .i64 (2:Nat),.string ⟨#[]⟩,.int .i64 (0:Nat),.string co,.slice ao ln cp,.int .i64 wh,.int .i64 fl],.bool true]) (by simp[results,Tryz.results109,go_sem, *]) rfl (aq.out _ (cN.eight _ _ _ _ _ _ _ _))
   ·by_cases h3:wd.data.toList=Ar
    ·clear h1 h2;have h1:=h3;clear h3;obtain rfl:wd=⟨#[112,111,112]⟩:=qB h1;have q1:((⟨#[112,111,112]⟩:ByteArray).toList == [115,116,97,116,101])=false:=by rw[ByteArray.toList_eq];rfl
     have q2:((⟨#[112,111,112]⟩:ByteArray).toList == [116,111,107,101,110])=false:=by rw[ByteArray.toList_eq];rfl
     have q3:((⟨#[112,111,112]⟩:ByteArray).toList == [112,111,112])=true:=by rw[ByteArray.toList_eq];rfl
     have jA:=aa (lj 2 rs W1 JC (HM.out.below bM.out));clear h1;go_wp2_with fail;refine jA.out.mono ?_;rintro e w2 ⟨eE,⟨rfl,hno⟩|⟨co,p,ao,ln,cp,wh,fl,rfl,C9,vX⟩⟩
     ·obtain ⟨⟨c0,c1,c2,c3,c4,c5,c6,c7⟩,f0,f1,f2,f3,f4,f5,f6,f7⟩:=eX ((eE.block R (ae eZ.out)).trans eZ.out)
      have aq:=aa (λw' (hx:cN R w2 w')=>show jP t.data.toList w (.returned (.tuple #[.agg #[.int .i64 0,.int .i64 (0:Nat),.string ⟨#[]⟩,.int .i64 (0:Nat),.string ⟨#[]⟩,.slice none 0 0,.int .i64 (0:Nat),.int .i64 (0:Nat)],.bool false])) w' from ⟨(bM.out.trans (eE.mono bM.out.size)).trans (by rw[<-L9.out];exact hx.below),0,0,0,0,⟨#[]⟩,⟨#[]⟩,none,0,0,false,rfl,.inr ⟨rfl,by
       rw[HL.out,show gq [112,111,112] rs.data.toList=cI 2 [] rs.data.toList from rfl,cI,hno];rfl⟩⟩)
      clear eE hno jA HL eZ bM;go_wp2_with fail;exact bodyPost_ret (v:=.tuple #[.agg #[.int .i64 0,.int .i64 (0:Nat),.string ⟨#[]⟩,.int .i64 (0:Nat),.string ⟨#[]⟩,.slice none 0 0,.int .i64 (0:Nat),.int .i64 (0:Nat)],.bool false]) (by simp[results,Tryz.results109,go_sem, *]) rfl (aq.out _ (cN.eight _ _ _ _ _ _ _ _))
     ·have yE:=(eE.block R (ae eZ.out)).trans eZ.out;obtain ⟨⟨c0,c1,c2,c3,c4,c5,c6,c7⟩,f0,f1,f2,f3,f4,f5,f6,f7⟩:=eX yE
      have aq:=aa (λw' (hx:cN R w2 w')=>show jP t.data.toList w (.returned (.tuple #[.agg #[.int .i64 0,.int .i64 (2:Nat),.string ⟨#[]⟩,.int .i64 (2:Nat),.string co,.slice ao ln cp,.int .i64 wh,.int .i64 fl],.bool true])) w' from ⟨(bM.out.trans (eE.mono bM.out.size)).trans (by rw[<-L9.out];exact hx.below),2,2,wh,fl,⟨#[]⟩,co,ao,ln,cp,true,rfl,.inl ⟨rfl,.rule 2 [] co.data.toList p,by
       rw[HL.out,show gq [112,111,112] rs.data.toList=cI 2 [] rs.data.toList from rfl,cI,C9];rfl,rfl,rfl,by omega,rfl,rfl,(vX.mono bM.out.size).only hx yE (by decide) (by decide) (by decide)⟩⟩)
      clear eE C9 vX yE jA HL eZ bM;go_wp2_with fail;exact bodyPost_ret (v:=.tuple #[.agg #[.int .i64 0,.int .i64 (2:Nat),.string ⟨#[]⟩,.int .i64 (2:Nat),.string co,.slice ao ln cp,.int .i64 wh,.int .i64 fl],.bool true]) (by simp[results,Tryz.results109,go_sem, *]) rfl (aq.out _ (cN.eight _ _ _ _ _ _ _ _))
    ·by_cases h4:wd.data.toList=ki
     ·obtain rfl:wd=⟨#[112,117,115,104]⟩:=qB h4;have q1:((⟨#[112,117,115,104]⟩:ByteArray).toList == [115,116,97,116,101])=false:=by rw[ByteArray.toList_eq];rfl
      have q2:((⟨#[112,117,115,104]⟩:ByteArray).toList == [116,111,107,101,110])=false:=by rw[ByteArray.toList_eq];rfl
      have q3:((⟨#[112,117,115,104]⟩:ByteArray).toList == [112,111,112])=false:=by rw[ByteArray.toList_eq];rfl
      have q4:((⟨#[112,117,115,104]⟩:ByteArray).toList == [112,117,115,104])=true:=by rw[ByteArray.toList_eq];rfl
      clear h1 h2 h3 h4;go_wp2_with fail;refine (uz rs 32 W1 (by omega) (HM.out.below bM.out)).mono ?_;rintro e w2 ⟨⟨n2,rfl⟩,jG⟩;have cW:=aa (Below.drewN' bM.out n2);have mA:=aa (show (W1.drewN n2).heap[R]?=_ from eZ.out);generalize W1.drewN n2=W2 at *
      obtain ⟨st,r2,o2,rfl,ab0,adx,hL2⟩:∃(st r2:ByteArray) (o:Bool),e=.returned (.tuple #[.string st,.string r2,.bool o])/\r2.size<=2000/\st.size<=2000/\cS t.data.toList=if isName st.data.toList=true then cI 1 st.data.toList r2.data.toList else none:=by
       have hw:cS t.data.toList=jb rs.data.toList:=HL.out;rcases jG with ⟨a,b,h1,h2,rfl⟩|⟨h1,rfl⟩
       ·have hl:=congrArg List.length h1;rw[dG,fe,aO,aO,aO]at hl;exact ⟨a,b,true,rfl,by omega,by omega,by rw[hw,vY h1 h2]⟩
       ·exact ⟨rs,⟨#[]⟩,false,rfl,by decide,JC,by rw[hw,tu h1];split<;>rfl⟩
      have lW:=aa hL2;clear jG hL2 HL bM eZ;go_wp2_with fail;refine (lj 1 r2 W2 ab0 (HM.out.below cW.out)).mono ?_;rintro e w3 ⟨iC,⟨rfl,hno⟩|⟨co,p,ao,ln,cp,wh,fl,rfl,C9,vX⟩⟩
      ·have fV:=aa (cW.out.trans (iC.mono cW.out.size));have Io:=aa ((iC.block R (ae mA.out)).trans mA.out);have kC:=aa (fV.out.alloc fV.out.size (.cells #[.int .i64 0,.int .i64 0,.string st,.int .i64 0,.string ⟨#[]⟩,.slice none 0 0,.int .i64 0,.int .i64 0] 219))
       have JS:=aa (af (o:=(.cells #[.int .i64 0,.int .i64 0,.string st,.int .i64 0,.string ⟨#[]⟩,.slice none 0 0,.int .i64 0,.int .i64 0] 219)) Io.out);have vZ:=aa (ag w3 (.cells #[.int .i64 0,.int .i64 0,.string st,.int .i64 0,.string ⟨#[]⟩,.slice none 0 0,.int .i64 0,.int .i64 0] 219));have ZT:=aa hno
       obtain ⟨L,ZU⟩:∃L,L=w3.heap.size:=⟨_,rfl⟩;clear iC hno cW mA fV Io;go_wp2_with fail;rw[<-ZU]at vZ ⊢;clear ZU;generalize w3.alloc (.cells #[.int .i64 0,.int .i64 0,.string st,.int .i64 0,.string ⟨#[]⟩,.slice none 0 0,.int .i64 0,.int .i64 0] 219)=W4 at *;obtain ⟨⟨c0,c1,c2,c3,c4,c5,c6,c7⟩,f0,f1,f2,f3,f4,f5,f6,f7⟩:=eX JS.out;have pO:=vZ.out
       have d0:W4.cell? ⟨L,0,none⟩=some (.int .i64 0):=by simp[World.cell?,pO]
       have d1:W4.cell? ⟨L,1,none⟩=some (.int .i64 0):=by simp[World.cell?,pO]
       have d2:W4.cell? ⟨L,2,none⟩=some (.string st):=by simp[World.cell?,pO]
       have d3:W4.cell? ⟨L,3,none⟩=some (.int .i64 0):=by simp[World.cell?,pO]
       have d4:W4.cell? ⟨L,4,none⟩=some (.string ⟨#[]⟩):=by simp[World.cell?,pO]
       have d5:W4.cell? ⟨L,5,none⟩=some (.slice none 0 0):=by simp[World.cell?,pO]
       have d6:W4.cell? ⟨L,6,none⟩=some (.int .i64 0):=by simp[World.cell?,pO]
       have d7:W4.cell? ⟨L,7,none⟩=some (.int .i64 0):=by simp[World.cell?,pO]
       clear pO
       have aq:=aa (λw' (hx:cN R W4 w')=>show jP t.data.toList w (.returned (.tuple #[.agg #[.int .i64 0,.int .i64 (0:Nat),.string st,.int .i64 (0:Nat),.string ⟨#[]⟩,.slice none 0 0,.int .i64 (0:Nat),.int .i64 (0:Nat)],.bool false])) w' from ⟨kC.out.trans (by rw[<-L9.out];exact hx.below),0,0,0,0,st,⟨#[]⟩,none,0,0,false,rfl,.inr ⟨rfl,by
        rw[lW.out,cI,ZT.out];split<;>rfl⟩⟩)
       clear ZT lW kC JS vZ;go_region
       all_goals
        go_wp2_with fail;exact bodyPost_ret (v:=.tuple #[.agg #[.int .i64 0,.int .i64 (0:Nat),.string st,.int .i64 (0:Nat),.string ⟨#[]⟩,.slice none 0 0,.int .i64 (0:Nat),.int .i64 (0:Nat)],.bool false]) (by simp[results,Tryz.results109,go_sem, *]) rfl (aq.out _ (((cN.refl R W4).more _ _ _ _ _ _ _ _).drew))
      ·have fV:=aa (cW.out.trans (iC.mono cW.out.size));have Io:=aa ((iC.block R (ae mA.out)).trans mA.out);have ZV:=aa ((vX.mono cW.out.size).below ((Below.refl _ _).alloc (bc _) (.cells #[.int .i64 0,.int .i64 2,.string st,.int .i64 1,.string co,.slice ao ln cp,.int .i64 wh,.int .i64 fl] 219)))
       have kC:=aa (fV.out.alloc fV.out.size (.cells #[.int .i64 0,.int .i64 2,.string st,.int .i64 1,.string co,.slice ao ln cp,.int .i64 wh,.int .i64 fl] 219));have JS:=aa (af (o:=.cells #[.int .i64 0,.int .i64 2,.string st,.int .i64 1,.string co,.slice ao ln cp,.int .i64 wh,.int .i64 fl] 219) Io.out)
       have vZ:=aa (ag w3 (.cells #[.int .i64 0,.int .i64 2,.string st,.int .i64 1,.string co,.slice ao ln cp,.int .i64 wh,.int .i64 fl] 219));have ZW:=aa C9;clear iC C9 vX cW mA fV Io;obtain ⟨L,ZU⟩:∃L,L=w3.heap.size:=⟨_,rfl⟩;go_wp2_with fail;rw[<-ZU]at vZ ⊢;clear ZU
       generalize w3.alloc (.cells #[.int .i64 0,.int .i64 2,.string st,.int .i64 1,.string co,.slice ao ln cp,.int .i64 wh,.int .i64 fl] 219)=W4 at *
       have BC:=aa (λ(w5:World) (hh:w5.heap[L]?=some (.cells #[.int .i64 0,.int .i64 2,.string st,.int .i64 1,.string co,.slice ao ln cp,.int .i64 wh,.int .i64 fl] 219 (0,0)))=>show w5.cell? ⟨L,0,none⟩=some (.int .i64 0)/\w5.cell? ⟨L,1,none⟩=some (.int .i64 2)/\w5.cell? ⟨L,2,none⟩=some (.string st)/\w5.cell? ⟨L,3,none⟩=some (.int .i64 1)/\w5.cell? ⟨L,4,none⟩=some (.string co)/\w5.cell? ⟨L,5,none⟩=some (.slice ao ln cp)/\w5.cell? ⟨L,6,none⟩=some (.int .i64 wh)/\w5.cell? ⟨L,7,none⟩=some (.int .i64 fl) from by simp[World.cell?,hh])
       obtain ⟨d0,d1,d2,d3,d4,d5,d6,d7⟩:=BC.out W4 vZ.out;have jm:=aa (lh st W4.drew (by omega))
       have aq:=aa (λ(w5 w':World) (xL:Below W4.heap.size W4 w5) (hx:cN R w5 w')=>show jP t.data.toList w (.returned (.tuple #[.agg #[.int .i64 0,.int .i64 (2:Nat),.string st,.int .i64 (1:Nat),.string co,.slice ao ln cp,.int .i64 wh,.int .i64 fl],.bool (isName st.data.toList)])) w' from ⟨(kC.out.trans (xL.mono kC.out.size)).trans (by rw[<-L9.out];exact hx.below),2,1,wh,fl,st,co,ao,ln,cp,isName st.data.toList,rfl,by
        have hw:=lW.out
        cases gF:isName st.data.toList with
        | true=>
         rw[gF,if_pos rfl,cI,ZW.out]at hw;exact .inl ⟨rfl,_,hw,rfl,rfl,by omega,rfl,rfl,(ZV.out.below xL).only hx ((xL.block R (ae JS.out)).trans JS.out) (by decide) (by decide) (by decide)⟩
        | false=>
         rw[gF]at hw;exact .inr ⟨rfl,hw⟩⟩)
       have HZL:=aa (λ(w5:World) (xL:Below W4.heap.size W4 w5)=>And.intro (BC.out w5 ((xL.block L (ae vZ.out)).trans vZ.out)) (eX ((xL.block R (ae JS.out)).trans JS.out)));clear ZV kC JS vZ ZW lW BC
       go_region_with (first
        | (go_at_call 147;refine jm.out.mono ?_;rintro e w5 ⟨rfl,xL⟩;have VV:=R5 xL;obtain ⟨⟨x0,x1,x2,x3,x4,x5,x6,x7⟩,⟨c0,c1,c2,c3,c4,c5,c6,c7⟩,f0,f1,f2,f3,f4,f5,f6,f7⟩:=HZL.out w5 VV;have CA:=aa VV;clear xL VV))
       all_goals
        go_wp2_with fail;exact bodyPost_ret (v:=.tuple #[.agg #[.int .i64 0,.int .i64 (2:Nat),.string st,.int .i64 (1:Nat),.string co,.slice ao ln cp,.int .i64 wh,.int .i64 fl],.bool (isName st.data.toList)]) (by simp[results,Tryz.results109,go_sem, *]) rfl (aq.out _ _ CA.out (cN.eight _ _ _ _ _ _ _ _))
     ·have q1:=mL h1;have q2:=mL h2;have q3:=mL h3;have q4:=mL h4;unfold sq at q1;unfold ld at q2;unfold Ar at q3;unfold ki at q4;obtain ⟨⟨c0,c1,c2,c3,c4,c5,c6,c7⟩,f0,f1,f2,f3,f4,f5,f6,f7⟩:=eX eZ.out
      have aq:=aa (λw' (hx:cN R W1 w')=>show jP t.data.toList w (.returned (.tuple #[.agg #[.int .i64 0,.int .i64 (0:Nat),.string ⟨#[]⟩,.int .i64 (0:Nat),.string ⟨#[]⟩,.slice none 0 0,.int .i64 (0:Nat),.int .i64 (0:Nat)],.bool false])) w' from ⟨bM.out.trans (by rw[<-L9.out];exact hx.below),0,0,0,0,⟨#[]⟩,⟨#[]⟩,none,0,0,false,rfl,.inr ⟨rfl,by
       rw[HL.out,gq,if_neg h1,if_neg h2,if_neg h3,if_neg h4]⟩⟩)
      clear h1 h2 h3 h4 HL eZ bM;go_wp2_with fail;exact bodyPost_ret (v:=.tuple #[.agg #[.int .i64 0,.int .i64 (0:Nat),.string ⟨#[]⟩,.int .i64 (0:Nat),.string ⟨#[]⟩,.slice none 0 0,.int .i64 (0:Nat),.int .i64 (0:Nat)],.bool false]) (by simp[results,Tryz.results109,go_sem, *]) rfl (aq.out _ (cN.eight _ _ _ _ _ _ _ _))
end Go.Proofs.YtgncgdkpkkdaeaaGreatDoor
