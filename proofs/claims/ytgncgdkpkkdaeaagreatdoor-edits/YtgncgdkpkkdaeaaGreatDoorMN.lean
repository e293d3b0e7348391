import Derived.Test.YtgncgdkpkkdaeaaGreatDoorMM
import Derived.Deep.RegionHeld3
namespace Go.Proofs.YtgncgdkpkkdaeaaGreatDoor
open Go.RowKit aO
variable {names:List ByteArray} {pre:List aV} {B cap DX g k PY m t:Nat} {px:Option Addr} {l:aV} {a0 a1 a2 a3 a4 sv:Value} {W w w3:World}
theorem j3(s:ByteArray)(w:World)(h:s.size<=281474976710656):Calls Tryz.prog 68 #[.string s] w λe w'=>e=.returned (.string s)/\Below w.heap.size w w':=by
 have HC:=aa (Tryz.stringslite_Clone s w h);go_enter Tryz.func68,Tryz.ntmps68;go_wp2_with fail;refine HC.out.mono ?_;rintro e w1 ⟨rfl,hb⟩;have HB:=aa hb;clear hb;go_wp2_with fail;go_ret;exact ⟨rfl,HB.out⟩
structure wI where
 k:Nat
 op:Nat
 co:ByteArray
 ao:Option Addr
 ln:Nat
 cp:Nat
 wh:Nat
def wI.cells(r:wI):List Value:=[.int .i64 r.k,.int .i64 r.op,.string r.co,.slice r.ao r.ln r.cp,.int .i64 r.wh]
structure mS where
 nm:ByteArray
 ao:Option Addr
 ln:Nat
 cp:Nat
 rs:List wI
def mS.el(s:mS):El:=⟨[.string s.nm],.slice s.ao s.ln s.cp,[],s.rs.map wI.cells⟩
def cw(w:World)(B:Nat)(sv:Value)(ss:List mS):Prop:=fC w B 213 231 2 5 sv (ss.map mS.el)
variable {ss:List mS}
theorem cw.below{w':World}(h:cw w B sv ss)(hb:Below w.heap.size w w'):cw w' B sv ss:=fC.below h hb
theorem cw.form(h:cw w B sv ss):∃ao cap,sv=.slice ao ss.length cap/\(0<ss.length->∃g,ao=some ⟨g,0,none⟩):=by
 have h1:=h.outer;rw[List.length_map]at h1;rcases h1.2 with ⟨h1,h0⟩|⟨g,cap,cur,h1,_⟩
 ·exact ⟨none,0,by rw[h1,h0],λh=>by omega⟩
 ·exact ⟨some ⟨g,0,none⟩,cap,h1,λ_=>⟨g,rfl⟩⟩
variable {s:mS}
theorem cw.cells(h:cw w B (.slice (some ⟨g,0,none⟩) ss.length cap) ss){i:Nat}(hi:ss[i]?=some s):
  w.cell? ⟨g,i*2,none⟩=some (.string s.nm)/\w.cell? ⟨g,i*2+1,none⟩=some (.slice s.ao s.ln s.cp):=by
 have h1:=h.outer;rw[List.length_map]at h1;have hi':(ss.map mS.el)[i]?=some s.el:=by rw[List.getElem?_map,hi];rfl
 have f:=λj (hj:j<2) (u:Value) (hu:s.el.cells[j]?=some u)=>(bG h1 (show ((ss.map mS.el).flatMap El.cells)[i*2+j]?=some u by rw[lV h.sized hi' j hj];exact hu)).1
 exact ⟨f 0 (by omega) _ rfl,f 1 (by omega) _ rfl⟩
set_option maxRecDepth 20000 in
set_option maxHeartbeats 1000000 in
theorem Rk(L:Nat)(st:ByteArray)(s:mS)(w:World)(c:w.cell? ⟨L,2,none⟩=some (.string st)):
  Calls Tryz.prog 158 #[.agg #[.string s.nm,.slice s.ao s.ln s.cp],.pointer (some ⟨L,0,none⟩)] w (dY (Below w.heap.size w) (s.nm.data.toList=st.data.toList)):=by
 have c':=ar c (.cells #[.string s.nm,.slice s.ao s.ln s.cp] 213);have HG:=aa ((Below.refl w.heap.size w).alloc (Nat.le_refl _) (.cells #[.string s.nm,.slice s.ao s.ln s.cp] 213));by_cases hq:s.nm.data.toList=st.data.toList
 ·have q2:(s.nm.toList==st.toList)=true:=by rw[ByteArray.toList_eq,ByteArray.toList_eq,hq];simp
  have HX:=aa hq;clear hq;go_enter Tryz.func158,Tryz.ntmps158;go_wp2_with fail;go_ret;exact dY.yes HX.out HG.out
 ·have q2:(s.nm.toList==st.toList)=false:=by rw[beq_eq_false_iff_ne,ByteArray.toList_eq,ByteArray.toList_eq];exact hq
  have HX:=aa hq;clear hq;go_enter Tryz.func158,Tryz.ntmps158;go_wp2_with fail;go_ret;exact dY.no HX.out HG.out
set_option maxRecDepth 20000 in
theorem Fo:Enters 158:=λ_ _=>by rfl
def Fp(w:World)(ss:List mS)(st:ByteArray)(e:Ending)(w':World):Prop:=
 Below w.heap.size w w'/\((∃(j:Nat) (s:mS),e=.returned (.int .i64 j)/\ss[j]?=some s/\s.nm.data.toList=st.data.toList)∨(e=.returned (.int .i64 (-1))/\∀s∈ss,s.nm.data.toList≠st.data.toList))
def NF(w:World)(ss:List mS)(st:ByteArray)(k:Nat)(i:Value)(wr:World):Prop:=
 ∃j:Nat,i=.int .i64 j/\j+k=ss.length/\Below w.heap.size w wr/\∀s∈ss.take j,s.nm.data.toList≠st.data.toList
set_option maxRecDepth 20000 in
set_option maxHeartbeats 2000000 in
theorem CB(B L:Nat)(sv:Value)(ss:List mS)(st:ByteArray)(w:World)(hL:cw w B sv ss)(c:w.cell? ⟨L,2,none⟩=some (.string st))(hb:∃o,w.heap[L]?=some o)(hz:ss.length<=1000000):
  Calls Tryz.prog 157 #[sv,.func (.func 158) #[] #[.pointer (some ⟨L,0,none⟩)]] w (Fp w ss st):=by
 obtain ⟨ao,cap,rfl,hao⟩:=hL.form;have HL:=aa hL;have Cb:=aa hao;have HC:=aa (λ(w':World) (qw:Below w.heap.size w w')=>show w'.cell? ⟨L,2,none⟩=some (.string st) by obtain ⟨o,ho⟩:=hb;have:=qw.block L (ae ho);rw[<-c];simp only[World.cell?,this])
 have he:=Fo;unfold Enters at he;clear hL hao c hb;go_enter Tryz.func157,Tryz.ntmps157;go_wp2_with fail;go_loopg [8] ss.length (λk i wr=>NF w ss st k i wr)
 case atStart=>exact ⟨0,rfl,by omega,Below.refl _ _,λs hs=>by simp at hs⟩
 case round=>
  obtain ⟨j,rfl,hk,kZ,hf⟩:=hrel;by_cases hlt:j<ss.length
  ·have g1:decide ((j:Int)<(ss.length:Int))=true:=decide_eq_true (by omega);obtain ⟨q,rfl⟩:=Cb.out (by omega);obtain ⟨s,hs⟩:∃s,ss[j]?=some s:=⟨ss[j],List.getElem?_eq_getElem hlt⟩;have iv:ss.take (j+1)=ss.take j++[s]:=by have hl':=hs;rw[List.getElem?_eq_getElem hlt]at hl';rw[List.take_succ_eq_append_getElem hlt,Option.some.inj hl']
   obtain ⟨c0,c1⟩:=(HL.out.below kZ).cells hs;have zj:=aa (Rk L st s wr (HC.out wr kZ));have HF:=aa hf;have HS:=aa hs;have AK:=aa iv;have uw:=aa kZ;have xG:j+1<=9223372036854775807:=by omega
   clear hf hs iv kZ;go_wp2_with fail;refine zj.out.mono ?_;rintro e w1 ⟨b,rfl,hb,eR⟩;have vx:=uw.out.trans (eR.mono uw.out.size)
   cases b with
   | true=>
    have ai:=aa (show Fp w ss st (.returned (.int .i64 j)) w1 from ⟨vx,.inl ⟨j,s,rfl,HS.out,hb.1 rfl⟩⟩);clear hb eR vx zj HF HS AK uw;go_wp2_with fail;go_ret;exact ai.out
   | false=>
    have HST:=aa (show NF w ss st (gk - 1) (.int .i64 ((j+1:Nat):Int)) w1 from ⟨j+1,rfl,by omega,vx,by
     rw[AK.out];intro s' hs';rcases List.mem_append.1 hs' with h|h
     ·exact HF.out s' h
     ·rw[List.mem_singleton.1 h];exact λh=>by have:=hb.2 h;cases this⟩)
    clear hb eR vx zj HF HS AK uw;go_wp2_with fail;go_roundg (gk - 1)
    case measure=>omega
    case rel=>exact HST.out
  ·have g1:decide ((j:Int)<(ss.length:Int))=false:=decide_eq_false (by omega);have ai:=aa (show Fp w ss st (.returned (.int .i64 (-1))) wr from ⟨kZ,.inr ⟨rfl,by rw[List.take_of_length_le (by omega)]at hf;exact hf⟩⟩);clear hf kZ;go_wp2_with fail;go_ret;exact ai.out
def Fq(w:World)(ss:List mS)(l:aV)(e:Ending)(w':World):Prop:=
 Below w.heap.size w w'/\∃op:Nat,e=.returned (.agg #[.int .i64 l.d,.int .i64 op,.string l.co,.slice l.ao l.ln l.cp,.int .i64 l.wh])/\(l.d=1->∃s,ss[op]?=some s/\s.nm.data.toList=l.st.data.toList)/\(l.d≠1->op=0)
theorem Vr(h:w.heap[k]?=some (.cells #[a0,a1,a2,a3,a4] t (0,0)))(b0 b1 b2 b3 b4:Value):
  let X:=((((w.setCell ⟨k,0,none⟩ b0).setCell ⟨k,1,none⟩ b1).setCell ⟨k,2,none⟩ b2).setCell ⟨k,3,none⟩ b3).setCell ⟨k,4,none⟩ b4
  X.heap[k]?=some (.cells #[b0,b1,b2,b3,b4] t (0,0))/\(∀j,j≠k->X.heap[j]?=w.heap[j]?)/\(∀B,B<=k->Below B w X)/\X.heap.size=w.heap.size:=by
 refine ⟨?_,λj hj=>?_,λB hB=>?_,by simp[World.setCell]⟩
 ·exact heap_setCell_same _ k 4 _ (heap_setCell_same _ k 3 _ (heap_setCell_same _ k 2 _ (heap_setCell_same _ k 1 _ (heap_setCell_same _ k 0 _ h))))
 ·rw[Below.heap_setCell _ _ _ _ hj,Below.heap_setCell _ _ _ _ hj,Below.heap_setCell _ _ _ _ hj,Below.heap_setCell _ _ _ _ hj,Below.heap_setCell _ _ _ _ hj]
 ·exact (((((Below.refl B w).setCell hB _).setCell hB _).setCell hB _).setCell hB _).setCell hB _
theorem cells5(h:w.heap[k]?=some (.cells #[a0,a1,a2,a3,a4] t (0,0))):
  w.cell? ⟨k,0,none⟩=some a0/\w.cell? ⟨k,1,none⟩=some a1/\w.cell? ⟨k,2,none⟩=some a2/\w.cell? ⟨k,3,none⟩=some a3/\w.cell? ⟨k,4,none⟩=some a4/\w.frozen? ⟨k,0,none⟩=false/\w.frozen? ⟨k,1,none⟩=false/\w.frozen? ⟨k,2,none⟩=false/\w.frozen? ⟨k,3,none⟩=false/\w.frozen? ⟨k,4,none⟩=false:=by
 simp[World.cell?,World.frozen?,h]
set_option maxRecDepth 20000 in
set_option maxHeartbeats 4000000 in
theorem zT(B:Nat)(sv:Value)(ss:List mS)(l:aV)(w:World)(hL:cw w B sv ss)(hz:ss.length<=1000000)(K4:l.co.size<=281474976710656)(hop:l.d=1->∃s∈ss,s.nm.data.toList=l.st.data.toList):
  Calls Tryz.prog 116 #[l.agg,sv] w (Fq w ss l):=by
 obtain ⟨ao,cap,rfl,hao⟩:=hL.form;unfold aV.agg;have HL:=aa hL;have PC:=aa hop;clear hL hao hop;go_enter Tryz.func116,Tryz.ntmps116;go_wp2_with fail;obtain ⟨q,hq⟩:∃q,q=w.heap.size:=⟨_,rfl⟩;rw[<-hq]
 have gW:=aa (show Below w.heap.size w ((w.alloc (.cells #[.int .i64 l.at_,.int .i64 l.kd,.string l.st,.int .i64 l.d,.string l.co,.slice l.ao l.ln l.cp,.int .i64 l.wh,.int .i64 l.fl] 219)).alloc (.cells #[.int .i64 0,.int .i64 0,.string ⟨#[]⟩,.slice none 0 0,.int .i64 0] 231)) from ((Below.refl _ _).alloc (Nat.le_refl _) _).alloc (by simp) _)
 have pu:((w.alloc (.cells #[.int .i64 l.at_,.int .i64 l.kd,.string l.st,.int .i64 l.d,.string l.co,.slice l.ao l.ln l.cp,.int .i64 l.wh,.int .i64 l.fl] 219)).alloc (.cells #[.int .i64 0,.int .i64 0,.string ⟨#[]⟩,.slice none 0 0,.int .i64 0] 231)).heap[q]?=some (.cells #[.int .i64 l.at_,.int .i64 l.kd,.string l.st,.int .i64 l.d,.string l.co,.slice l.ao l.ln l.cp,.int .i64 l.wh,.int .i64 l.fl] 219):=by subst hq;exact heap_alloc_old (af _ _)
 have DO:((w.alloc (.cells #[.int .i64 l.at_,.int .i64 l.kd,.string l.st,.int .i64 l.d,.string l.co,.slice l.ao l.ln l.cp,.int .i64 l.wh,.int .i64 l.fl] 219)).alloc (.cells #[.int .i64 0,.int .i64 0,.string ⟨#[]⟩,.slice none 0 0,.int .i64 0] 231)).heap[q+1]?=some (.cells #[.int .i64 0,.int .i64 0,.string ⟨#[]⟩,.slice none 0 0,.int .i64 0] 231):=aA _ _ _ (by rw[hq];simp)
 have Hq:=aa (show ((w.alloc (.cells #[.int .i64 l.at_,.int .i64 l.kd,.string l.st,.int .i64 l.d,.string l.co,.slice l.ao l.ln l.cp,.int .i64 l.wh,.int .i64 l.fl] 219)).alloc (.cells #[.int .i64 0,.int .i64 0,.string ⟨#[]⟩,.slice none 0 0,.int .i64 0] 231)).heap.size=q+2 by rw[hq];simp)
 generalize ((w.alloc (.cells #[.int .i64 l.at_,.int .i64 l.kd,.string l.st,.int .i64 l.d,.string l.co,.slice l.ao l.ln l.cp,.int .i64 l.wh,.int .i64 l.fl] 219)).alloc (.cells #[.int .i64 0,.int .i64 0,.string ⟨#[]⟩,.slice none 0 0,.int .i64 0] 231))=W at *;have HQ:=aa hq;clear hq;have d1:W.cell? ⟨q,1,none⟩=some (.int .i64 l.kd):=by simp[World.cell?,pu]
 have d2:W.cell? ⟨q,2,none⟩=some (.string l.st):=by simp[World.cell?,pu]
 have d3:W.cell? ⟨q,3,none⟩=some (.int .i64 l.d):=by simp[World.cell?,pu]
 have d4:W.cell? ⟨q,4,none⟩=some (.string l.co):=by simp[World.cell?,pu]
 have d5:W.cell? ⟨q,5,none⟩=some (.slice l.ao l.ln l.cp):=by simp[World.cell?,pu]
 have d6:W.cell? ⟨q,6,none⟩=some (.int .i64 l.wh):=by simp[World.cell?,pu]
 have Qe:=aa pu;have QR:=aa DO;clear pu DO
 have HBK:=aa (λ(w5:World) (hb:Below (W.alloc (.cells #[.int .i64 0,.int .i64 0,.string ⟨#[]⟩,.slice none 0 0,.int .i64 0] 231)).drew.heap.size (W.alloc (.cells #[.int .i64 0,.int .i64 0,.string ⟨#[]⟩,.slice none 0 0,.int .i64 0] 231)).drew w5)=>show Below w.heap.size w w5/\q+3<=w5.heap.size/\(w5.cell? ⟨q,3,none⟩=some (.int .i64 l.d)/\w5.cell? ⟨q,4,none⟩=some (.string l.co)/\w5.cell? ⟨q,5,none⟩=some (.slice l.ao l.ln l.cp)/\w5.cell? ⟨q,6,none⟩=some (.int .i64 l.wh))/\(w5.heap[q]?=W.heap[q]?/\w5.heap[q+1]?=W.heap[q+1]?)/\w5.heap[W.heap.size]?=some (.cells #[.int .i64 0,.int .i64 0,.string ⟨#[]⟩,.slice none 0 0,.int .i64 0] 231)/\(w5.cell? ⟨W.heap.size,0,none⟩=some (.int .i64 0)/\w5.cell? ⟨W.heap.size,1,none⟩=some (.int .i64 0)/\w5.cell? ⟨W.heap.size,2,none⟩=some (.string ⟨#[]⟩)/\w5.cell? ⟨W.heap.size,3,none⟩=some (.slice none 0 0)/\w5.cell? ⟨W.heap.size,4,none⟩=some (.int .i64 0)/\w5.frozen? ⟨W.heap.size,0,none⟩=false/\w5.frozen? ⟨W.heap.size,1,none⟩=false/\w5.frozen? ⟨W.heap.size,2,none⟩=false/\w5.frozen? ⟨W.heap.size,3,none⟩=false/\w5.frozen? ⟨W.heap.size,4,none⟩=false) from by
  have h0:=(hb.block q (show q<(W.alloc (.cells #[.int .i64 0,.int .i64 0,.string ⟨#[]⟩,.slice none 0 0,.int .i64 0] 231)).heap.size by have:=Hq.out;simp;omega)).trans (Below.heap_alloc _ _ _ (by have:=Hq.out;omega));have I0:=h0.trans Qe.out
  have h0b:=(hb.block (q+1) (show q+1<(W.alloc (.cells #[.int .i64 0,.int .i64 0,.string ⟨#[]⟩,.slice none 0 0,.int .i64 0] 231)).heap.size by have:=Hq.out;simp;omega)).trans (Below.heap_alloc _ _ _ (by have:=Hq.out;omega))
  have h1:w5.heap[W.heap.size]?=some (.cells #[.int .i64 0,.int .i64 0,.string ⟨#[]⟩,.slice none 0 0,.int .i64 0] 231):=(hb.block W.heap.size (show W.heap.size<(W.alloc (.cells #[.int .i64 0,.int .i64 0,.string ⟨#[]⟩,.slice none 0 0,.int .i64 0] 231)).heap.size by simp)).trans (af _ _)
  exact ⟨(gW.out.alloc gW.out.size _).drew.trans (hb.mono (by have:=(gW.out.alloc gW.out.size (.cells #[.int .i64 0,.int .i64 0,.string ⟨#[]⟩,.slice none 0 0,.int .i64 0] 231)).size;exact this)),by have:=hb.size;have h2:=Hq.out;simp at this;omega,by simp[World.cell?,I0],⟨h0,h0b⟩,h1,by simp[World.cell?,World.frozen?,h1]⟩)
 have HBM:=aa (λ(w5:World) (hb:Below W.drew.heap.size W.drew w5)=>show Below w.heap.size w w5/\q+2<=w5.heap.size/\(w5.cell? ⟨q,3,none⟩=some (.int .i64 l.d)/\w5.cell? ⟨q,4,none⟩=some (.string l.co)/\w5.cell? ⟨q,5,none⟩=some (.slice l.ao l.ln l.cp)/\w5.cell? ⟨q,6,none⟩=some (.int .i64 l.wh))/\w5.heap[q]?=W.heap[q]?/\w5.heap[q+1]?=W.heap[q+1]? from by
  have h0:=(hb.block q (show q<W.heap.size by have:=Hq.out;omega));have I0:=h0.trans Qe.out;exact ⟨gW.out.drew.trans (hb.mono gW.out.size),by have:=hb.size;have h2:=Hq.out;simp at this;omega,by simp[World.cell?,I0],h0,hb.block (q+1) (show q+1<W.heap.size by have:=Hq.out;omega)⟩)
 have ZH:W.heap.size≠q:=by have:=Hq.out;omega
 have ZI:q≠W.heap.size:=by have:=Hq.out;omega
 go_region_held3 (λw'=>w'.cell? ⟨q,3,none⟩=some (.int .i64 l.d)/\w'.cell? ⟨q,4,none⟩=some (.string l.co)/\w'.cell? ⟨q,5,none⟩=some (.slice l.ao l.ln l.cp)/\w'.cell? ⟨q,6,none⟩=some (.int .i64 l.wh))
  (first
   | with_reducible exact AE
   | go_keep)
  (first
   | (
     go_at_call 68;refine (j3 l.co _ K4).mono ?_;rintro e w5 ⟨rfl,gM⟩;first
     | ((with_reducible have hX:=HBK.out w5 gM);obtain ⟨NG,NH,AE,NI,ZJ,r0,r1,r2,r3,r4,f0,f1,f2,f3,f4⟩:=hX;have BB:=aa NG;have DF:=aa NH;have JO:=aa NI;have ZK:=aa ZJ;clear gM NG NH NI ZJ)
     | ((with_reducible have hX:=HBM.out w5 gM);obtain ⟨NG,NH,AE,NI⟩:=hX;have BB:=aa NG;have DF:=aa NH;have JO:=aa NI;clear gM NG NH NI)))
 all_goals first
  | (
    
    obtain ⟨x1,x2,x3,x4⟩:=Vr ZK.out (.int .i64 l.d) (.int .i64 0) (.string l.co) (.slice l.ao l.ln l.cp) (.int .i64 l.wh)
    generalize hX:((((w5.setCell ⟨W.heap.size,0,none⟩ (.int .i64 l.d)).setCell ⟨W.heap.size,1,none⟩ (.int .i64 0)).setCell ⟨W.heap.size,2,none⟩ (.string l.co)).setCell ⟨W.heap.size,3,none⟩ (.slice l.ao l.ln l.cp)).setCell ⟨W.heap.size,4,none⟩ (.int .i64 l.wh)=X at *
    have Vs:=aa (show X.heap[q]?=some (.cells #[.int .i64 l.at_,.int .i64 l.kd,.string l.st,.int .i64 l.d,.string l.co,.slice l.ao l.ln l.cp,.int .i64 l.wh,.int .i64 l.fl] 219)/\X.heap[W.heap.size]?=some (.cells #[.int .i64 l.d,.int .i64 0,.string l.co,.slice l.ao l.ln l.cp,.int .i64 l.wh] 231)/\Below w.heap.size w X/\W.heap.size≠q/\w.heap.size<=W.heap.size/\W.heap.size<X.heap.size/\X.heap[q+1]?=some (.cells #[.int .i64 0,.int .i64 0,.string ⟨#[]⟩,.slice none 0 0,.int .i64 0] 231)/\W.heap.size≠q+1 from ⟨(x2 q ZI).trans (JO.out.1.trans Qe.out),x1,BB.out.trans (x3 _ gW.out.size),ZH,gW.out.size,by have:=DF.out;have h2:=Hq.out;omega,(x2 (q+1) (by have h2:=Hq.out;omega)).trans (JO.out.2.trans QR.out),by have h2:=Hq.out;omega⟩)
    clear x1 x2 x3 x4 hX r0 r1 r2 r3 r4 f0 f1 f2 f3 f4 ZK;obtain ⟨R,hR⟩:∃R,R=W.heap.size:=⟨_,rfl⟩;rw[<-hR]at Vs ⊢
    have HX:Hid (X.heap[q]?=some (.cells #[.int .i64 l.at_,.int .i64 l.kd,.string l.st,.int .i64 l.d,.string l.co,.slice l.ao l.ln l.cp,.int .i64 l.wh,.int .i64 l.fl] 219)/\X.heap[R]?=some (.cells #[.int .i64 l.d,.int .i64 0,.string l.co,.slice l.ao l.ln l.cp,.int .i64 l.wh] 231)/\Below w.heap.size w X/\R≠q/\w.heap.size<=R/\R<X.heap.size/\X.heap[q+1]?=some (.cells #[.int .i64 0,.int .i64 0,.string ⟨#[]⟩,.slice none 0 0,.int .i64 0] 231)/\R≠q+1):=Vs
    clear Vs hR)
  | (
    
    have Vs:=aa (show (w5.alloc (.cells #[.int .i64 l.d,.int .i64 0,.string l.co,.slice l.ao l.ln l.cp,.int .i64 l.wh] 231)).heap[q]?=some (.cells #[.int .i64 l.at_,.int .i64 l.kd,.string l.st,.int .i64 l.d,.string l.co,.slice l.ao l.ln l.cp,.int .i64 l.wh,.int .i64 l.fl] 219)/\(w5.alloc (.cells #[.int .i64 l.d,.int .i64 0,.string l.co,.slice l.ao l.ln l.cp,.int .i64 l.wh] 231)).heap[w5.heap.size]?=some (.cells #[.int .i64 l.d,.int .i64 0,.string l.co,.slice l.ao l.ln l.cp,.int .i64 l.wh] 231)/\Below w.heap.size w (w5.alloc (.cells #[.int .i64 l.d,.int .i64 0,.string l.co,.slice l.ao l.ln l.cp,.int .i64 l.wh] 231))/\w5.heap.size≠q/\w.heap.size<=w5.heap.size/\w5.heap.size<(w5.alloc (.cells #[.int .i64 l.d,.int .i64 0,.string l.co,.slice l.ao l.ln l.cp,.int .i64 l.wh] 231)).heap.size/\(w5.alloc (.cells #[.int .i64 l.d,.int .i64 0,.string l.co,.slice l.ao l.ln l.cp,.int .i64 l.wh] 231)).heap[q+1]?=some (.cells #[.int .i64 0,.int .i64 0,.string ⟨#[]⟩,.slice none 0 0,.int .i64 0] 231)/\w5.heap.size≠q+1 from ⟨heap_alloc_old (JO.out.1.trans Qe.out),af _ _,BB.out.alloc BB.out.size _,by have:=DF.out;omega,BB.out.size,by simp,heap_alloc_old (JO.out.2.trans QR.out),by have:=DF.out;omega⟩)
    obtain ⟨R,hR⟩:∃R,R=w5.heap.size:=⟨_,rfl⟩;rw[<-hR]at Vs ⊢;generalize w5.alloc (.cells #[.int .i64 l.d,.int .i64 0,.string l.co,.slice l.ao l.ln l.cp,.int .i64 l.wh] 231)=X at *
    have HX:Hid (X.heap[q]?=some (.cells #[.int .i64 l.at_,.int .i64 l.kd,.string l.st,.int .i64 l.d,.string l.co,.slice l.ao l.ln l.cp,.int .i64 l.wh,.int .i64 l.fl] 219)/\X.heap[R]?=some (.cells #[.int .i64 l.d,.int .i64 0,.string l.co,.slice l.ao l.ln l.cp,.int .i64 l.wh] 231)/\Below w.heap.size w X/\R≠q/\w.heap.size<=R/\R<X.heap.size/\X.heap[q+1]?=some (.cells #[.int .i64 0,.int .i64 0,.string ⟨#[]⟩,.slice none 0 0,.int .i64 0] 231)/\R≠q+1):=Vs
    clear Vs hR)
 all_goals
  clear HBK HBM Qe QR gW Hq BB DF JO AE d1 d2 d3 d4 d5 d6 ZH ZI;have hx0:=HX.out.1;have d3:X.cell? ⟨q,3,none⟩=some (.int .i64 l.d):=by simp[World.cell?,hx0]
  obtain ⟨r0,r1,r2,r3,r4,-⟩:=cells5 HX.out.2.1;obtain ⟨s0,s1,s2,s3,s4,f0,f1,f2,f3,f4⟩:=cells5 HX.out.2.2.2.2.2.2.1;clear hx0;by_cases hd:l.d=1
  ·have q1:((l.d:Int)==1)=true:=by rw[hd];rfl
   have HD:=aa hd;have YL:=aa (HL.out.below HX.out.2.2.1);have d2:X.cell? ⟨q,2,none⟩=some (.string l.st):=by have hx0:=HX.out.1;simp[World.cell?,hx0]
   have wG:=aa (CB B q (.slice ao ss.length cap) ss l.st X YL.out d2 ⟨_,HX.out.1⟩ hz);clear hd d2 YL;go_wp2_with fail;refine wG.out.mono ?_;rintro e X1 ⟨hb1,⟨j,t,rfl,ht,fS⟩|⟨rfl,hno⟩⟩
   ·have tF:=(hb1.block R HX.out.2.2.2.2.2.1).trans HX.out.2.1;have zz:=(hb1.block (q+1) (ae HX.out.2.2.2.2.2.2.1)).trans HX.out.2.2.2.2.2.2.1;have sX:=HX.out.2.2.2.2.2.2.2;have pF:=Ne.symm sX;have HW1:=aa (HX.out.2.2.1.trans (hb1.mono HX.out.2.2.1.size))
    have ai:=aa (show Fq w ss l (.returned (.agg #[.int .i64 l.d,.int .i64 j,.string l.co,.slice l.ao l.ln l.cp,.int .i64 l.wh])) ((((((X1.setCell ⟨R,1,none⟩ (.int .i64 j)).setCell ⟨q+1,0,none⟩ (.int .i64 l.d)).setCell ⟨q+1,1,none⟩ (.int .i64 j)).setCell ⟨q+1,2,none⟩ (.string l.co)).setCell ⟨q+1,3,none⟩ (.slice l.ao l.ln l.cp)).setCell ⟨q+1,4,none⟩ (.int .i64 l.wh)) from ⟨(HW1.out.setCell HX.out.2.2.2.2.1 _).trans ((Vr ((Below.heap_setCell _ _ _ _ pF).trans zz) _ _ _ _ _).2.2.1 _ (by have:=HQ.out;omega)),j,rfl,λ_=>⟨t,ht,fS⟩,λh=>absurd HD.out h⟩)
    clear r0 r1 r2 r3 r4 s0 s1 s2 s3 s4 f0 f1 f2 f3 f4;obtain ⟨r0,r1,r2,r3,r4,-,e1,-⟩:=cells5 tF;obtain ⟨s0,s1,s2,s3,s4,f0,f1,f2,f3,f4⟩:=cells5 zz;clear hb1 ht fS tF zz HX wG HW1 d3;go_wp2_with fail;exact bodyPost_ret (v:=.agg #[.int .i64 l.d,.int .i64 j,.string l.co,.slice l.ao l.ln l.cp,.int .i64 l.wh]) (by simp[results,Tryz.results116,go_sem, *]) rfl ai.out
   ·obtain ⟨t,ht,fS⟩:=PC.out HD.out;exact absurd fS (hno t ht)
  ·have q1:((l.d:Int)==1)=false:=by rw[beq_eq_false_iff_ne];omega
   have ai:=aa (show Fq w ss l (.returned (.agg #[.int .i64 l.d,.int .i64 (0:Nat),.string l.co,.slice l.ao l.ln l.cp,.int .i64 l.wh])) (((((X.setCell ⟨q+1,0,none⟩ (.int .i64 l.d)).setCell ⟨q+1,1,none⟩ (.int .i64 0)).setCell ⟨q+1,2,none⟩ (.string l.co)).setCell ⟨q+1,3,none⟩ (.slice l.ao l.ln l.cp)).setCell ⟨q+1,4,none⟩ (.int .i64 l.wh)) from ⟨HX.out.2.2.1.trans ((Vr HX.out.2.2.2.2.2.2.1 _ _ _ _ _).2.2.1 _ (by have:=HQ.out;omega)),0,rfl,λh=>absurd h hd,λ_=>rfl⟩)
   clear hd HX;go_wp2_with fail;exact bodyPost_ret (v:=.agg #[.int .i64 l.d,.int .i64 0,.string l.co,.slice l.ao l.ln l.cp,.int .i64 l.wh]) (by simp[results,Tryz.results116,go_sem, *]) rfl ai.out
theorem Fu:(Tryz.prog.info? 213).map (λi=>(i.zero,i.size,i.bytes))=some (some (.agg #[.string ⟨#[]⟩,.slice none 0 0]),2,40):=by kernel_rfl
theorem JP:(Tryz.prog.info? 231).map (λi=>(i.zero,i.size,i.bytes))=some (some (.agg #[.int .i64 0,.int .i64 0,.string ⟨#[]⟩,.slice none 0 0,.int .i64 0]),5,64):=by kernel_rfl
def vy(n:ByteArray):mS:=⟨n,none,0,0,[]⟩
theorem cw.row(h:cw w B sv ss):w.ownsRow B 213 2 sv ss.length ((ss.map mS.el).flatMap El.cells):=by
 have:=h.outer
 rwa [List.length_map]at this
theorem cw.push{v':Value}{n:ByteArray}(h:cw W B sv ss)(hB:B<=W.heap.size)
  (hown:w3.ownsRow B 213 2 v' (ss.length+1) ((ss.map mS.el).flatMap El.cells++[.string n,.slice none 0 0])) (hg:W.grownBy w3 sv.ownBlock):cw w3 B v' (ss++[vy n])/\Below B W w3:=by
 refine ⟨?_,eE hB hg λk e=>(aj h.outer e).1⟩;have:=fC.push (x:=(vy n).el) h (by decide) rfl rfl rfl (by rw[List.length_map];exact hown) hg;unfold cw;rw[List.map_append];exact this
def Fv(w:World)(ls:List aV)(k:Nat)(vs:Value)(i:Value)(wr:World):Prop:=
 ∃(j:Nat) (ss:List mS),i=.int .i64 j/\j+k=ls.length/\Below w.heap.size w wr/\cw wr w.heap.size vs ss/\ss=(aI (ls.take j)).map vy
variable {r:wI}
theorem cw.grow{n:Nat}(h:cw W B (.slice (some ⟨g,0,none⟩) n cap) ss)(hB:B<=W.heap.size)(hi:ss[m]?=some s)
  (hown:w3.ownsRow B 231 5 (.slice px PY DX) (s.rs.length+1) ((s.rs.map wI.cells).flatten++r.cells)) (hg:W.grownBy w3 (Value.slice s.ao s.ln s.cp).ownBlock) (eW:(Value.slice px PY DX).ownBlock=(Value.slice s.ao s.ln s.cp).ownBlock∨(Value.slice px PY DX).ownBlock=some W.heap.size):
  cw (w3.setCell ⟨g,m*2+1,none⟩ (.slice px PY DX)) B (.slice (some ⟨g,0,none⟩) n cap) (ss.set m ⟨s.nm,px,PY,DX,s.rs++[r]⟩)/\Below B W (w3.setCell ⟨g,m*2+1,none⟩ (.slice px PY DX))/\w3.cell? ⟨g,m*2+1,none⟩=some (.slice s.ao s.ln s.cp)/\w3.frozen? ⟨g,m*2+1,none⟩=false:=by
 have Q9:(ss.map mS.el)[m]?=some s.el:=by rw[List.getElem?_map,hi];rfl
 have hm:s.el∈ss.map mS.el:=List.mem_of_getElem? Q9;obtain ⟨hgB,c2,hgc⟩:=aj (k:=g) h.outer rfl;have hN:=fC.grow (w':=w3) (v':=.slice px PY DX) (r:=r.cells) h (by decide) Q9 rfl (by rw[show s.el.rs.length=s.rs.length from List.length_map ..];exact hown) hg eW;have hb:Below B W w3:=eE hB hg (λk e=>(aj (h.inner _ hm) e).1)
 have Ra:some g≠(Value.slice s.ao s.ln s.cp).ownBlock:=λe=>by obtain ⟨_,c1,h1⟩:=aj (h.inner _ hm) e.symm;rw[h1]at hgc;simp only[Option.some.injEq,Obj.cells.injEq]at hgc;exact absurd hgc.2.1 (by decide)
 have h3:w3.heap[g]?=W.heap[g]?:=hg.block g (ae hgc) Ra;have hrow:=h.row
 have hn:n=ss.length:=by
  rcases hrow.2 with ⟨h0,_⟩|⟨g',cap',cur,e1,_⟩
  ·cases h0
  ·cases e1;rfl
 subst hn;have hc:=bG hrow (j:=m*2+1) (u:=.slice s.ao s.ln s.cp) (by rw[lV h.sized Q9 1 (by omega)];rfl);refine ⟨?_,hb.setCell hgB _,?_,?_⟩
 ·have e2:((ss.set m ⟨s.nm,px,PY,DX,s.rs++[r]⟩).map mS.el)=(ss.map mS.el).set m { s.el with rv:=.slice px PY DX,rs:=s.el.rs++[r.cells] }:=by rw[List.map_set];simp[mS.el]
  unfold cw;rw[e2];exact hN
 ·rw[<-hc.1];simp only[World.cell?,h3]
 ·rw[<-hc.2];simp only[World.frozen?,h3]
def Vt(names:List ByteArray)(l:aV)(r:wI):Prop:=
 r.k=l.d/\r.co=l.co/\r.ao=l.ao/\r.ln=l.ln/\r.cp=l.cp/\r.wh=l.wh/\(l.d=1->∃n,names[r.op]?=some n/\n.data.toList=l.st.data.toList)/\(l.d≠1->r.op=0)
def sec:Nat->List aV->Nat->List aV
 | _,[],_=>[]
 | c,l::t,i=>if l.kd=1 then sec (c+1) t i else if l.kd=2/\i+1=c then l::sec c t i else sec c t i
theorem CC(pre:List aV)(l:aV)(i:Nat):∀c,sec c (pre++[l]) i=sec c pre i++(if l.kd=2/\i+1=c+(aI pre).length then [l] else []):=by
 induction pre with
 | nil=>
  intro c;have hs:(aI []).length=0:=rfl;rw[hs,Nat.add_zero];simp only[List.nil_append,sec];by_cases h1:l.kd=1
  ·rw[if_pos h1,if_neg (λh=>by omega)]
  ·rw[if_neg h1];simp
 | cons a t ih=>
  intro c;have hs:(aI (a::t)).length=(if a.kd=1 then 1 else 0)+(aI t).length:=by unfold aI;rw[List.filterMap_cons];by_cases h:a.kd=1<;>simp[h];omega
  simp only[List.cons_append,sec];rw[hs];by_cases h1:a.kd=1
  ·rw[if_pos h1,if_pos h1,if_pos h1,ih];simp only[Nat.add_assoc]
  ·rw[if_neg h1,if_neg h1,if_neg h1,Nat.zero_add];by_cases h2:a.kd=2/\i+1=c
   ·rw[if_pos h2,if_pos h2,ih];rfl
   ·rw[if_neg h2,if_neg h2,ih]
def Zip(R:aV->wI->Prop)(xs:List aV)(bs:List wI):Prop:=xs.length=bs.length/\∀(j:Nat) a b,xs[j]?=some a->bs[j]?=some b->R a b
theorem Zip.snoc{R:aV->wI->Prop}{xs:List aV}{bs:List wI}{a:aV}{b:wI}(h:Zip R xs bs)(hab:R a b):Zip R (xs++[a]) (bs++[b]):=by
 refine ⟨by simp[h.1],λj x y hx hy=>?_⟩;rcases Nat.lt_or_ge j xs.length with hj|hj
 ·rw[List.getElem?_append_left hj]at hx;rw[List.getElem?_append_left (by rw[<-h.1];exact hj)]at hy;exact h.2 j x y hx hy
 ·rw[List.getElem?_append_right hj]at hx;rw[List.getElem?_append_right (by rw[<-h.1];exact hj)]at hy;have h1:=List.mem_singleton.1 (List.mem_of_getElem? hx);have h2:=List.mem_singleton.1 (List.mem_of_getElem? hy);rw[h1,h2];exact hab
def rA(names:List ByteArray)(pre:List aV)(ss:List mS):Prop:=
 ss.map mS.nm=names/\∀i s,ss[i]?=some s->Zip (Vt names) (sec 0 pre i) s.rs
theorem rA.start(names:List ByteArray):rA names [] (names.map vy):=by
 refine ⟨by rw[List.map_map];exact List.map_id' _,λi s hs=>?_⟩;rw[List.getElem?_map]at hs
 cases hn:names[i]? with
 | none=>rw[hn]at hs;cases hs
 | some n=>rw[hn]at hs;cases hs;exact ⟨rfl,λj a b h=>by simp[sec]at h⟩
theorem rA.other(h:rA names pre ss)(hk:l.kd≠2):rA names (pre++[l]) ss:=
 ⟨h.1,λi s hs=>by rw[CC,if_neg (λh=>hk h.1),List.append_nil];exact h.2 i s hs⟩
theorem rA.rule(h:rA names pre ss)(hk:l.kd=2)(hm:(aI pre).length=m+1)(hi:ss[m]?=some s)(hr:Vt names l r):rA names (pre++[l]) (ss.set m ⟨s.nm,px,PY,DX,s.rs++[r]⟩):=by
 refine ⟨?_,λi t ht=>?_⟩
 ·rw[List.map_set];rw[<-h.1];refine List.ext_getElem? λj=>?_
  rw[List.getElem?_set];split
  ·rename_i e;subst e;have:=aw hi;rw[if_pos (by simpa using this),List.getElem?_map,hi];rfl
  ·rfl
 ·rw[CC];rw[List.getElem?_set]at ht;by_cases e:m=i
  ·subst e;rw[if_pos rfl,if_pos (aw hi)]at ht;cases ht;rw[if_pos ⟨hk,by omega⟩];exact (h.2 m s hi).snoc hr
  ·rw[if_neg e]at ht;rw[if_neg (λh=>e (by omega)),List.append_nil];exact h.2 i t ht
def cv:Nat->Value
 | 0=>.int .i64 (-1)
 | m+1=>.int .i64 m
def vz(w:World)(ls:List aV)(sv:Value)(k:Nat)(vc:Value)(i:Value)(wr:World):Prop:=
 ∃(j:Nat) (ss:List mS),i=.int .i64 j/\j+k=ls.length/\vc=cv (aI (ls.take j)).length/\Below w.heap.size w wr/\cw wr w.heap.size sv ss/\rA (aI ls) (ls.take j) ss
def yh(w:World)(ls:List aV)(e:Ending)(w':World):Prop:=
 Below w.heap.size w w'/\∃(sv:Value) (ss:List mS),e=.returned sv/\cw w' w.heap.size sv ss/\rA (aI ls) ls ss
set_option maxRecDepth 20000 in
set_option maxHeartbeats 2000000 in
theorem JQ(B:Nat)(sv:Value)(ls:List aV)(w:World)(hL:Lines w B sv ls)(hz:ls.length<=1000000)(K4:∀l∈ls,(l.kd=2->l.co.size<=281474976710656)/\(l.kd=1->l.st.size<=281474976710656))(NJ:∀pre l post,ls=pre++l::post->l.kd=2->0<(aI pre).length)(hop:∀l∈ls,l.d=1->∃n∈aI ls,n.data.toList=l.st.data.toList):
  Calls Tryz.prog 83 #[sv] w (yh w ls):=by
 obtain ⟨ao,cap,rfl,hao⟩:=hL.form;have HL:=aa hL;have Cb:=aa hao;have SF:=aa K4;have abD:=aa NJ;have PC:=aa hop;clear hL hao K4 NJ hop;go_enter Tryz.func83,Tryz.ntmps83;go_wp2_with fail;go_loopg [3,11] ls.length (λk vs i wr=>Fv w ls k vs i wr)
 case atStart=>exact ⟨0,[],rfl,by omega,Below.refl _ _,fC.nil _ _ _ _ _ _,rfl⟩
 case round=>
  obtain ⟨j,ss,rfl,hk,kZ,hS,AB⟩:=hrel;have adf:ss.length<=1000000:=by rw[AB,List.length_map];have h1:(aI (ls.take j)).length<=(ls.take j).length:=List.length_filterMap_le ..;rw[List.length_take]at h1;omega
  by_cases hlt:j<ls.length
  ·have g1:decide ((j:Int)<(ls.length:Int))=true:=decide_eq_true (by omega);obtain ⟨q,rfl⟩:=Cb.out (by omega);obtain ⟨l,hl⟩:∃l,ls[j]?=some l:=⟨ls[j],List.getElem?_eq_getElem hlt⟩;have iv:ls.take (j+1)=ls.take j++[l]:=by have hl':=hl;rw[List.getElem?_eq_getElem hlt]at hl';rw[List.take_succ_eq_append_getElem hlt,Option.some.inj hl']
   obtain ⟨c0,c1,c2,c3,c4,c5,c6,c7⟩:=(HL.out.below kZ).cells hl;have xG:j+1<=9223372036854775807:=by omega
   have wQ:=aa (kZ.alloc kZ.size (.cells #[.int .i64 l.at_,.int .i64 l.kd,.string l.st,.int .i64 l.d,.string l.co,.slice l.ao l.ln l.cp,.int .i64 l.wh,.int .i64 l.fl] 219))
   have Fw:=aa (hS.below ((Below.refl wr.heap.size wr).alloc (Nat.le_refl _) (.cells #[.int .i64 l.at_,.int .i64 l.kd,.string l.st,.int .i64 l.d,.string l.co,.slice l.ao l.ln l.cp,.int .i64 l.wh,.int .i64 l.fl] 219)));have vA:=aa (SF.out l (List.mem_of_getElem? hl)).2
   have Jh:=aa (show (aI (ls.take (j+1))).map vy=if l.kd=1 then ss++[vy l.st] else ss from by rw[iv,ig,List.map_append,<-AB];split<;>simp);clear hl iv kZ hS AB;by_cases eJ:l.kd=1
   ·have q1:((l.kd:Int)==1)=true:=by rw[eJ];rfl
    rw[if_pos eJ]at Jh;have AA:=aa (j3 l.st (wr.alloc (.cells #[.int .i64 l.at_,.int .i64 l.kd,.string l.st,.int .i64 l.d,.string l.co,.slice l.ao l.ln l.cp,.int .i64 l.wh,.int .i64 l.fl] 219)) (vA.out eJ));clear eJ vA;go_wp2_with fail;refine AA.out.mono ?_;rintro e w1 ⟨rfl,hb1⟩;obtain ⟨i0,hi,hz0,hz1,hz3⟩:=info_parts Fu
    have bA:=aa (wQ.out.trans (hb1.mono wQ.out.size));have sT:=aa ((Fw.out.below hb1).below ((Below.refl w1.heap.size w1).alloc (Nat.le_refl _) (.cells #[.string l.st,.slice none 0 0] 213)));have CD:w.heap.size<=w1.heap.size:=bA.out.size;have ba:=aa sT.out.row
    have HKEY:=aa (λ(v':Value) (w3:World) (hown:w3.ownsRow w.heap.size 213 2 v' (ss.length+1) ((ss.map mS.el).flatMap El.cells++[.string l.st,.slice none 0 0])) (hg:(w1.alloc (.cells #[.string l.st,.slice none 0 0] 213)).grownBy w3 u3.ownBlock)=>show Fv w ls (gk - 1) v' (.int .i64 ((j+1:Nat):Int)) w3 from by
     obtain ⟨h1,h2⟩:=sT.out.push (by simp;omega) hown hg;exact ⟨j+1,ss++[vy l.st],rfl,by omega,(bA.out.alloc bA.out.size _).trans h2,h1,Jh.out.symm⟩)
    have ea:=aa (λj u hj=>aD w1 #[.string l.st,.slice none 0 0] 213 j u hj);have HO:Hid (∀u∈([.string l.st,.slice none 0 0]:List Value),u.oneCell'=true):=by intro u hu;simp only[List.mem_cons,List.not_mem_nil,or_false]at hu;rcases hu with rfl|rfl<;>rfl
    have ZL:ss.length+1<=maxLen:=by unfold maxLen;omega
    have QE:(ss.length+1)*40<=140737488355328:=by omega
    clear hb1 AA wQ Fw bA sT
    go_wp2_with (at_builtin;refine wpList_append_own _ rfl (.tmp 18) (.tmp 23) 36 rfl w.heap.size 213 i0 (.agg #[.string ⟨#[]⟩,.slice none 0 0]) 2 40 Tryz.underlying36 hi hz0 hz1 hz3 rfl (by decide) u3 ss.length ((ss.map mS.el).flatMap El.cells) rfl ba.out ⟨w1.heap.size,0,none⟩ 1 1 [.string l.st,.slice none 0 0] rfl rfl ea.out HO.out ZL QE (by simp;omega) ?_;intro v' w3 hown hg _;have HST:=aa (HKEY.out v' w3 hown hg);obtain ⟨g',cap',rfl⟩:=az hown (by omega);clear hown hg)
    go_roundg (gk - 1)
    case measure=>omega
    case rel=>exact HST.out
   ·have q1:((l.kd:Int)==1)=false:=by rw[beq_eq_false_iff_ne];omega
    rw[if_neg eJ]at Jh;have HST:=aa (show Fv w ls (gk - 1) u3 (.int .i64 ((j+1:Nat):Int)) (wr.alloc (.cells #[.int .i64 l.at_,.int .i64 l.kd,.string l.st,.int .i64 l.d,.string l.co,.slice l.ao l.ln l.cp,.int .i64 l.wh,.int .i64 l.fl] 219)) from ⟨j+1,ss,rfl,by omega,wQ.out,Fw.out,Jh.out.symm⟩);clear eJ wQ Fw vA Jh;go_wp2_with fail;go_roundg (gk - 1)
    case measure=>omega
    case rel=>exact HST.out
  ·have g1:decide ((j:Int)<(ls.length:Int))=false:=decide_eq_false (by omega);rw[List.take_of_length_le (by omega)]at AB;obtain ⟨sa,oL,rfl,ZM⟩:=hS.form;have fq:(aI ls).length=ss.length:=by rw[AB,List.length_map]
   have abE:=aa ZM;have Bj:=aa (show vz w ls (.slice sa ss.length oL) ls.length (.int .i64 (-1)) (.int .i64 0) wr from ⟨0,ss,rfl,by omega,rfl,kZ,hS,by rw[AB];exact rA.start _⟩);clear hS AB kZ ZM;go_wp2_with fail;generalize ss.length=nS at *;clear hk g1 hlt;go_loopg [6,28] ls.length (λk vc i wr=>vz w ls (.slice sa nS oL) k vc i wr)
   case atStart=>exact Bj.out
   case round=>
    obtain ⟨j,ss,rfl,hk,rfl,kZ,hS,hI⟩:=hrel;have Ps:ss.length=nS:=by rw[<-fq,<-hI.1,List.length_map]
    by_cases hlt:j<ls.length
    ·have g1:decide ((j:Int)<(ls.length:Int))=true:=decide_eq_true (by omega);obtain ⟨q,rfl⟩:=Cb.out (by omega);obtain ⟨l,hl⟩:∃l,ls[j]?=some l:=⟨ls[j],List.getElem?_eq_getElem hlt⟩;have iv:ls.take (j+1)=ls.take j++[l]:=by have hl':=hl;rw[List.getElem?_eq_getElem hlt]at hl';rw[List.take_succ_eq_append_getElem hlt,Option.some.inj hl']
     have hsp:ls=ls.take j++l::ls.drop (j+1):=by have hl':=hl;rw[List.getElem?_eq_getElem hlt]at hl';rw[<-Option.some.inj hl',<-List.drop_eq_getElem_cons hlt,List.take_append_drop]
     obtain ⟨c0,c1,c2,c3,c4,c5,c6,c7⟩:=(HL.out.below kZ).cells hl;have xG:j+1<=9223372036854775807:=by omega
     have wQ:=aa (kZ.alloc kZ.size (.cells #[.int .i64 l.at_,.int .i64 l.kd,.string l.st,.int .i64 l.d,.string l.co,.slice l.ao l.ln l.cp,.int .i64 l.wh,.int .i64 l.fl] 219))
     have Fw:=aa (hS.below ((Below.refl wr.heap.size wr).alloc (Nat.le_refl _) (.cells #[.int .i64 l.at_,.int .i64 l.kd,.string l.st,.int .i64 l.d,.string l.co,.slice l.ao l.ln l.cp,.int .i64 l.wh,.int .i64 l.fl] 219)));have HI:=aa hI;have Lh:=ig (ls.take j) l;rw[<-iv]at Lh
     have gL:(aI (ls.take j)).length<=1000000:=by have h1:(aI (ls.take j)).length<=(ls.take j).length:=List.length_filterMap_le ..;rw[List.length_take]at h1;omega
     by_cases eJ:l.kd=1
     ·have q1:((l.kd:Int)==1)=true:=by rw[eJ];rfl
      rw[if_pos eJ]at Lh
      have HST:=aa (show ∀c,cv ((aI (ls.take j)).length+1)=c->vz w ls (.slice sa nS oL) (gk - 1) c (.int .i64 ((j+1:Nat):Int)) (wr.alloc (.cells #[.int .i64 l.at_,.int .i64 l.kd,.string l.st,.int .i64 l.d,.string l.co,.slice l.ao l.ln l.cp,.int .i64 l.wh,.int .i64 l.fl] 219)) from λc hc=>⟨j+1,ss,rfl,by omega,by rw[Lh,List.length_append,<-hc];rfl,wQ.out,Fw.out,by rw[iv];exact hI.other (by omega)⟩)
      clear hl iv hsp kZ hS hI HI Lh eJ wQ Fw Ps;generalize (aI (ls.take j)).length=c at *
      cases c with
      | zero=>
       have Fy:=aa (HST.out _ rfl);clear HST gL;simp only[cv]at Fy ⊢;go_wp2_with fail;go_roundg (gk - 1)
       case measure=>omega
       case rel=>exact Fy.out
      | succ m=>
       have ZL:m+1<=9223372036854775807:=by omega
       have Fy:=aa (HST.out _ rfl);clear HST gL;simp only[cv]at Fy ⊢;go_wp2_with fail;go_roundg (gk - 1)
       case measure=>omega
       case rel=>exact Fy.out
     ·have q1:((l.kd:Int)==1)=false:=by rw[beq_eq_false_iff_ne];omega
      rw[if_neg eJ,List.append_nil]at Lh;by_cases hk2:l.kd=2
      ·have q2:((l.kd:Int)==2)=true:=by rw[hk2];rfl
       obtain ⟨m,hm⟩:∃m,(aI (ls.take j)).length=m+1:=⟨(aI (ls.take j)).length - 1,by have:=abD.out _ _ _ hsp hk2;omega⟩
       have S8:m<nS:=by
        have h1:aI ls=aI (ls.take j)++aI (ls.drop j):=by unfold aI;rw[<-List.filterMap_append,List.take_append_drop]
        rw[<-fq,h1,List.length_append,hm];omega
       obtain ⟨s,hs⟩:∃s,ss[m]?=some s:=⟨ss[m]'(by omega),List.getElem?_eq_getElem (by omega)⟩;obtain ⟨g,rfl⟩:=abE.out (by omega)
       have IQ:s.rs.length<=1000000:=by
        have h1:=(hI.2 m s hs).1
        have h2:∀(c:Nat) (t:List aV) (i:Nat),(sec c t i).length<=t.length:=by
         intro c t i
         induction t generalizing c with
         | nil=>simp[sec]
         | cons a t ih=>
          have h3:=ih (c+1);have h4:=ih c;unfold sec;split
          ·simp only[List.length_cons];omega
          ·split<;>simp only[List.length_cons]<;>omega
        have h3:=h2 0 (ls.take j) m;rw[List.length_take]at h3;omega
       have lU:=aa (zT w.heap.size (.slice (some ⟨g,0,none⟩) nS oL) ss l (wr.alloc (.cells #[.int .i64 l.at_,.int .i64 l.kd,.string l.st,.int .i64 l.d,.string l.co,.slice l.ao l.ln l.cp,.int .i64 l.wh,.int .i64 l.fl] 219)).drew (Fw.out.below ((Below.refl _ _).drew)) (by omega) ((SF.out l (List.mem_of_getElem? hl)).1 hk2) (λhd=>by
        obtain ⟨n,hn,he⟩:=PC.out l (List.mem_of_getElem? hl) hd;rw[<-hI.1]at hn;obtain ⟨t,ht,rfl⟩:=List.mem_map.1 hn;exact ⟨t,ht,he⟩))
       have HKEY:=aa (show ∀(w5:World) (op:Nat),Below (wr.alloc (.cells #[.int .i64 l.at_,.int .i64 l.kd,.string l.st,.int .i64 l.d,.string l.co,.slice l.ao l.ln l.cp,.int .i64 l.wh,.int .i64 l.fl] 219)).drew.heap.size (wr.alloc (.cells #[.int .i64 l.at_,.int .i64 l.kd,.string l.st,.int .i64 l.d,.string l.co,.slice l.ao l.ln l.cp,.int .i64 l.wh,.int .i64 l.fl] 219)).drew w5->(l.d=1->∃s,ss[op]?=some s/\s.nm.data.toList=l.st.data.toList)->(l.d≠1->op=0) ->
         w5.cell? ⟨g,m*2+1,none⟩=some (.slice s.ao s.ln s.cp)/\(w5.alloc (.cells #[.int .i64 l.d,.int .i64 op,.string l.co,.slice l.ao l.ln l.cp,.int .i64 l.wh] 231)).cell? ⟨g,m*2+1,none⟩=some (.slice s.ao s.ln s.cp)/\Hid ((w5.alloc (.cells #[.int .i64 l.d,.int .i64 op,.string l.co,.slice l.ao l.ln l.cp,.int .i64 l.wh] 231)).ownsRow w.heap.size 231 5 (.slice s.ao s.ln s.cp) s.rs.length (s.rs.map wI.cells).flatten)/\Hid (∀j u,([.int .i64 l.d,.int .i64 op,.string l.co,.slice l.ao l.ln l.cp,.int .i64 l.wh]:List Value)[j]?=some u->(w5.alloc (.cells #[.int .i64 l.d,.int .i64 op,.string l.co,.slice l.ao l.ln l.cp,.int .i64 l.wh] 231)).cell? ((⟨w5.heap.size,0,none⟩:Addr).add j)=some u)/\w.heap.size<=w5.heap.size+1 /\
         Hid (∀W' v' w3,(W'=(w5.alloc (.cells #[.int .i64 l.d,.int .i64 op,.string l.co,.slice l.ao l.ln l.cp,.int .i64 l.wh] 231))∨W'=(w5.alloc (.cells #[.int .i64 l.d,.int .i64 op,.string l.co,.slice l.ao l.ln l.cp,.int .i64 l.wh] 231)).drew)->w3.ownsRow w.heap.size 231 5 v' (s.rs.length+1) ((s.rs.map wI.cells).flatten++[.int .i64 l.d,.int .i64 op,.string l.co,.slice l.ao l.ln l.cp,.int .i64 l.wh])->W'.grownBy w3 (Value.slice s.ao s.ln s.cp).ownBlock->(v'.ownBlock=(Value.slice s.ao s.ln s.cp).ownBlock∨v'.ownBlock=some W'.heap.size) ->
          ∃g' cap',v'=.slice (some ⟨g',0,none⟩) (s.rs.length+1) cap'/\w3.cell? ⟨g,m*2+1,none⟩=some (.slice s.ao s.ln s.cp)/\w3.frozen? ⟨g,m*2+1,none⟩=false/\Hid (vz w ls (.slice (some ⟨g,0,none⟩) nS oL) (gk - 1) (.int .i64 m) (.int .i64 ((j+1:Nat):Int)) (w3.setCell ⟨g,m*2+1,none⟩ v'))) from by
        intro w5 op gM uM Vq;have hs5:cw w5 w.heap.size (.slice (some ⟨g,0,none⟩) nS oL) ss:=(Fw.out.below ((Below.refl _ _).drew)).below gM;have Fz:Below w.heap.size w w5:=wQ.out.drew.trans (gM.mono wQ.out.size)
        have PI:=hs5.below ((Below.refl w5.heap.size w5).alloc (Nat.le_refl _) (.cells #[.int .i64 l.d,.int .i64 op,.string l.co,.slice l.ao l.ln l.cp,.int .i64 l.wh] 231));have XU:=((show cw w5 w.heap.size (.slice (some ⟨g,0,none⟩) ss.length oL) ss by rw[Ps];exact hs5).cells hs).2
        refine ⟨XU,ar XU _,?_,aD w5 #[.int .i64 l.d,.int .i64 op,.string l.co,.slice l.ao l.ln l.cp,.int .i64 l.wh] _,by have:=Fz.size;omega,λW' v' w3 hW hown hg eW=>?_⟩
        ·have:=PI.inner s.el (List.mem_map_of_mem (List.mem_of_getElem? hs));rw[show s.el.rs.length=s.rs.length from List.length_map ..]at this;exact this
        ·obtain ⟨g',cap',rfl⟩:=az hown (by omega)
         have hsW:cw W' w.heap.size (.slice (some ⟨g,0,none⟩) nS oL) ss/\w.heap.size<=W'.heap.size/\Below w.heap.size w W':=by
          rcases hW with rfl|rfl
          ·exact ⟨PI,by have:=Fz.size;simp;omega,Fz.alloc Fz.size _⟩
          ·exact ⟨PI.below ((Below.refl _ _).drew),by have:=Fz.size;simp;omega,(Fz.alloc Fz.size _).drew⟩
         obtain ⟨h1,h2,h3,h4⟩:=cw.grow (r:=⟨l.d,op,l.co,l.ao,l.ln,l.cp,l.wh⟩) hsW.1 hsW.2.1 hs hown hg eW;refine ⟨g',cap',rfl,h3,h4,⟨j+1,_,rfl,by omega,by rw[Lh,hm];rfl,hsW.2.2.trans h2,h1,?_⟩⟩;rw[iv];refine hI.rule hk2 hm hs ⟨rfl,rfl,rfl,rfl,rfl,rfl,λhd=>?_,Vq⟩;obtain ⟨t,ht,hn⟩:=uM hd;exact ⟨t.nm,by rw[<-hI.1,List.getElem?_map,ht];rfl,hn⟩)
       obtain ⟨i0,hi,hz0,hz1,hz3⟩:=info_parts JP;have hb1:s.rs.length+1<=maxLen:=by unfold maxLen;omega
       have hb2:(s.rs.length+1)*64<=140737488355328:=by omega
       have HO:Hid (∀op:Nat,∀u∈([.int .i64 l.d,.int .i64 op,.string l.co,.slice l.ao l.ln l.cp,.int .i64 l.wh]:List Value),u.oneCell'=true):=by intro op u hu;simp only[List.mem_cons,List.not_mem_nil,or_false]at hu;rcases hu with rfl|rfl|rfl|rfl|rfl<;>rfl
       have E7:m<nS:=S8;have hgi:(m:Int)<(nS:Int):=by omega
       have hc0:=((show cw (wr.alloc (.cells #[.int .i64 l.at_,.int .i64 l.kd,.string l.st,.int .i64 l.d,.string l.co,.slice l.ao l.ln l.cp,.int .i64 l.wh,.int .i64 l.fl] 219)) w.heap.size (.slice (some ⟨g,0,none⟩) ss.length oL) ss by rw[Ps];exact Fw.out).cells hs).2
       have zU:=aa (af wr (.cells #[.int .i64 l.at_,.int .i64 l.kd,.string l.st,.int .i64 l.d,.string l.co,.slice l.ao l.ln l.cp,.int .i64 l.wh,.int .i64 l.fl] 219));rw[hm];simp only[cv];unfold aV.agg at lU;clear hl iv hsp kZ hS hI HI Lh eJ hk2 wQ Fw Ps hs hm S8 gL;go_wp2_with fail;obtain ⟨p,hp⟩:∃p,p=wr.heap.size:=⟨_,rfl⟩;rw[<-hp]at zU ⊢
       generalize wr.alloc (.cells #[.int .i64 l.at_,.int .i64 l.kd,.string l.st,.int .i64 l.d,.string l.co,.slice l.ao l.ln l.cp,.int .i64 l.wh,.int .i64 l.fl] 219)=W at *;have hW0:=zU.out;have e0:W.cell? ⟨p,0,none⟩=some (.int .i64 l.at_):=by simp[World.cell?,hW0]
       have e1:W.cell? ⟨p,1,none⟩=some (.int .i64 l.kd):=by simp[World.cell?,hW0]
       have e2:W.cell? ⟨p,2,none⟩=some (.string l.st):=by simp[World.cell?,hW0]
       have e3:W.cell? ⟨p,3,none⟩=some (.int .i64 l.d):=by simp[World.cell?,hW0]
       have e4:W.cell? ⟨p,4,none⟩=some (.string l.co):=by simp[World.cell?,hW0]
       have e5:W.cell? ⟨p,5,none⟩=some (.slice l.ao l.ln l.cp):=by simp[World.cell?,hW0]
       have e6:W.cell? ⟨p,6,none⟩=some (.int .i64 l.wh):=by simp[World.cell?,hW0]
       have e7:W.cell? ⟨p,7,none⟩=some (.int .i64 l.fl):=by simp[World.cell?,hW0]
       clear hW0 zU hp
       go_region_law (first
        | (refine cO rfl (.tmp 46) (.tmp 50) 211 rfl w.heap.size 231 i0 (.agg #[.int .i64 0,.int .i64 0,.string ⟨#[]⟩,.slice none 0 0,.int .i64 0]) 5 64 Tryz.underlying211 hi hz0 hz1 hz3 rfl (by decide) (.slice s.ao s.ln s.cp) s.rs.length (s.rs.map wI.cells).flatten (by rfl) j0.out ⟨w5.heap.size,0,none⟩ 1 1 [.int .i64 l.d,.int .i64 op,.string l.co,.slice l.ao l.ln l.cp,.int .i64 l.wh] (by rfl) (by rfl) ea.out HOO.out hb1 hb2 (by simpa using x5) ?_;intro v' w3 hown hg eW;obtain ⟨g',cap',rfl,y1,y2,HST⟩:=HK.out _ _ _ (by first|exact .inl rfl|exact .inr rfl) hown hg eW;clear hown hg eW)
        | (go_simp;go_at_call 116;refine lU.out.mono ?_;rintro e w5 ⟨gM,op,rfl,uM,Vq⟩;obtain ⟨x1,x2,j0,ea,x5,HK⟩:=HKEY.out w5 op gM uM Vq;have HOO:=aa (HO.out op);clear gM uM Vq))
       all_goals
        clear HKEY j0 ea HO HOO lU HK hi hz0 hz1 hz3 e0 e1 e2 e3 e4 e5 e6 e7 x1 x2 x5 y1 y2 hc0;go_wp2_with fail;go_roundg (gk - 1)
        case measure=>omega
        case rel=>exact HST.out
      ·have q2:((l.kd:Int)==2)=false:=by rw[beq_eq_false_iff_ne];omega
       have HST:=aa (show vz w ls (.slice sa nS oL) (gk - 1) (cv (aI (ls.take j)).length) (.int .i64 ((j+1:Nat):Int)) (wr.alloc (.cells #[.int .i64 l.at_,.int .i64 l.kd,.string l.st,.int .i64 l.d,.string l.co,.slice l.ao l.ln l.cp,.int .i64 l.wh,.int .i64 l.fl] 219)) from ⟨j+1,ss,rfl,by omega,by rw[Lh],wQ.out,Fw.out,by rw[iv];exact hI.other hk2⟩)
       clear hl iv hsp kZ hS hI HI Lh eJ hk2 wQ Fw Ps;generalize cv (aI (ls.take j)).length=vc at *;go_wp2_with fail;go_roundg (gk - 1)
       case measure=>omega
       case rel=>exact HST.out
    ·have g1:decide ((j:Int)<(ls.length:Int))=false:=decide_eq_false (by omega);rw[List.take_of_length_le (by omega)]at hI;have ai:=aa (show yh w ls (.returned (.slice sa nS oL)) wr from ⟨kZ,_,ss,rfl,hS,hI⟩);clear hI hS kZ;go_wp2_with fail;go_ret;exact ai.out
end Go.Proofs.YtgncgdkpkkdaeaaGreatDoor
