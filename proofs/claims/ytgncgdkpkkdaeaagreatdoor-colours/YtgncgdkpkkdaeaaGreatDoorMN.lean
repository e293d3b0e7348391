import Derived.Test.YtgncgdkpkkdaeaaGreatDoorMM
import Derived.Deep.RegionHeld3
namespace Go.Proofs.YtgncgdkpkkdaeaaGreatDoor
open Go.RowKit aQ
variable {names:List ByteArray} {pre:List aU} {B cap CP g k Oq m t:Nat} {pE:Option Addr} {l:aU} {a0 a1 a2 a3 a4 sv:Value} {W w w3:World}
theorem jE(s:ByteArray)(w:World)(h:s.size<=281474976710656):Calls Tryz.prog 68 #[.string s] w λe w'=>e=.returned (.string s)/\Below w.heap.size w w':=by
 have HC:=aa (Tryz.stringslite_Clone s w h);go_enter Tryz.func68,Tryz.ntmps68;go_wp2_with fail;refine HC.out.mono ?_;rintro e w1 ⟨rfl,hb⟩;have HB:=aa hb;clear hb;go_wp2_with fail;go_ret;exact ⟨rfl,HB.out⟩
structure uV where
 k:Nat
 op:Nat
 co:ByteArray
 ao:Option Addr
 ln:Nat
 cp:Nat
 wh:Nat
def uV.cells(r:uV):List Value:=[.int .i64 r.k,.int .i64 r.op,.string r.co,.slice r.ao r.ln r.cp,.int .i64 r.wh]
structure mg where
 nm:ByteArray
 ao:Option Addr
 ln:Nat
 cp:Nat
 rs:List uV
def mg.el(s:mg):El:=⟨[.string s.nm],.slice s.ao s.ln s.cp,[],s.rs.map uV.cells⟩
def cg(w:World)(B:Nat)(sv:Value)(ss:List mg):Prop:=eZ w B 213 231 2 5 sv (ss.map mg.el)
variable {ss:List mg}
theorem cg.below{w':World}(h:cg w B sv ss)(hb:Below w.heap.size w w'):cg w' B sv ss:=eZ.below h hb
theorem cg.form(h:cg w B sv ss):∃ao cap,sv=.slice ao ss.length cap/\(0<ss.length->∃g,ao=some ⟨g,0,none⟩):=by
 have h1:=h.outer;rw[List.length_map]at h1;rcases h1.2 with ⟨h1,h0⟩|⟨g,cap,cur,h1,_⟩
 ·exact ⟨none,0,by rw[h1,h0],λh=>by omega⟩
 ·exact ⟨some ⟨g,0,none⟩,cap,h1,λ_=>⟨g,rfl⟩⟩
variable {s:mg}
theorem cg.cells(h:cg w B (.slice (some ⟨g,0,none⟩) ss.length cap) ss){i:Nat}(hi:ss[i]?=some s):
  w.cell? ⟨g,i*2,none⟩=some (.string s.nm)/\w.cell? ⟨g,i*2+1,none⟩=some (.slice s.ao s.ln s.cp):=by
 have h1:=h.outer;rw[List.length_map]at h1;have hi':(ss.map mg.el)[i]?=some s.el:=by rw[List.getElem?_map,hi];rfl
 have f:=λj (hj:j<2) (u:Value) (hu:s.el.cells[j]?=some u)=>(bU h1 (show ((ss.map mg.el).flatMap El.cells)[i*2+j]?=some u by rw[lh h.sized hi' j hj];exact hu)).1
 exact ⟨f 0 (by omega) _ rfl,f 1 (by omega) _ rfl⟩
set_option maxRecDepth 20000 in
set_option maxHeartbeats 1000000 in
theorem PO(L:Nat)(st:ByteArray)(s:mg)(w:World)(c:w.cell? ⟨L,2,none⟩=some (.string st)):
  Calls Tryz.prog 158 #[.agg #[.string s.nm,.slice s.ao s.ln s.cp],.pointer (some ⟨L,0,none⟩)] w (dO (Below w.heap.size w) (s.nm.data.toList=st.data.toList)):=by
 have c':=aq c (.cells #[.string s.nm,.slice s.ao s.ln s.cp] 213);have HG:=aa ((Below.refl w.heap.size w).alloc (Nat.le_refl _) (.cells #[.string s.nm,.slice s.ao s.ln s.cp] 213));by_cases hq:s.nm.data.toList=st.data.toList
 ·have q2:(s.nm.toList==st.toList)=true:=by rw[ByteArray.toList_eq,ByteArray.toList_eq,hq];simp
  have HX:=aa hq;clear hq;go_enter Tryz.func158,Tryz.ntmps158;go_wp2_with fail;go_ret;exact dO.yes HX.out HG.out
 ·have q2:(s.nm.toList==st.toList)=false:=by rw[beq_eq_false_iff_ne,ByteArray.toList_eq,ByteArray.toList_eq];exact hq
  have HX:=aa hq;clear hq;go_enter Tryz.func158,Tryz.ntmps158;go_wp2_with fail;go_ret;exact dO.no HX.out HG.out
set_option maxRecDepth 20000 in
theorem Eh:Enters 158:=λ_ _=>by rfl
def Ei(w:World)(ss:List mg)(st:ByteArray)(e:Ending)(w':World):Prop:=
 Below w.heap.size w w'/\((∃(j:Nat) (s:mg),e=.returned (.int .i64 j)/\ss[j]?=some s/\s.nm.data.toList=st.data.toList)∨(e=.returned (.int .i64 (-1))/\∀s∈ss,s.nm.data.toList≠st.data.toList))
def Mi(w:World)(ss:List mg)(st:ByteArray)(k:Nat)(i:Value)(wr:World):Prop:=
 ∃j:Nat,i=.int .i64 j/\j+k=ss.length/\Below w.heap.size w wr/\∀s∈ss.take j,s.nm.data.toList≠st.data.toList
set_option maxRecDepth 20000 in
set_option maxHeartbeats 2000000 in
theorem Bt(B L:Nat)(sv:Value)(ss:List mg)(st:ByteArray)(w:World)(hL:cg w B sv ss)(c:w.cell? ⟨L,2,none⟩=some (.string st))(hb:∃o,w.heap[L]?=some o)(hz:ss.length<=1000000):
  Calls Tryz.prog 157 #[sv,.func (.func 158) #[] #[.pointer (some ⟨L,0,none⟩)]] w (Ei w ss st):=by
 obtain ⟨ao,cap,rfl,hao⟩:=hL.form;have HL:=aa hL;have AW:=aa hao;have HC:=aa (λ(w':World) (pD:Below w.heap.size w w')=>show w'.cell? ⟨L,2,none⟩=some (.string st) by obtain ⟨o,ho⟩:=hb;have:=pD.block L (ae ho);rw[<-c];simp only[World.cell?,this])
 have he:=Eh;unfold Enters at he;clear hL hao c hb;go_enter Tryz.func157,Tryz.ntmps157;go_wp2_with fail;go_loopg [8] ss.length (λk i wr=>Mi w ss st k i wr)
 case atStart=>exact ⟨0,rfl,by omega,Below.refl _ _,λs hs=>by simp at hs⟩
 case round=>
  obtain ⟨j,rfl,hk,kz,hf⟩:=hrel;by_cases hlt:j<ss.length
  ·have g1:decide ((j:Int)<(ss.length:Int))=true:=decide_eq_true (by omega);obtain ⟨q,rfl⟩:=AW.out (by omega);obtain ⟨s,hs⟩:∃s,ss[j]?=some s:=⟨ss[j],List.getElem?_eq_getElem hlt⟩;have gX:ss.take (j+1)=ss.take j++[s]:=by have hl':=hs;rw[List.getElem?_eq_getElem hlt]at hl';rw[List.take_succ_eq_append_getElem hlt,Option.some.inj hl']
   obtain ⟨c0,c1⟩:=(HL.out.below kz).cells hs;have x9:=aa (PO L st s wr (HC.out wr kz));have HF:=aa hf;have HS:=aa hs;have zA:=aa gX;have tk:=aa kz;have wy:j+1<=9223372036854775807:=by omega
   clear hf hs gX kz;go_wp2_with fail;refine x9.out.mono ?_;rintro e w1 ⟨b,rfl,hb,eF⟩;have ue:=tk.out.trans (eF.mono tk.out.size)
   cases b with
   | true=>
    have ai:=aa (show Ei w ss st (.returned (.int .i64 j)) w1 from ⟨ue,.inl ⟨j,s,rfl,HS.out,hb.1 rfl⟩⟩);clear hb eF ue x9 HF HS zA tk;go_wp2_with fail;go_ret;exact ai.out
   | false=>
    have HST:=aa (show Mi w ss st (gk - 1) (.int .i64 ((j+1:Nat):Int)) w1 from ⟨j+1,rfl,by omega,ue,by
     rw[zA.out];intro s' hs';rcases List.mem_append.1 hs' with h|h
     ·exact HF.out s' h
     ·rw[List.mem_singleton.1 h];exact λh=>by have:=hb.2 h;cases this⟩)
    clear hb eF ue x9 HF HS zA tk;go_wp2_with fail;go_roundg (gk - 1)
    case measure=>omega
    case rel=>exact HST.out
  ·have g1:decide ((j:Int)<(ss.length:Int))=false:=decide_eq_false (by omega);have ai:=aa (show Ei w ss st (.returned (.int .i64 (-1))) wr from ⟨kz,.inr ⟨rfl,by rw[List.take_of_length_le (by omega)]at hf;exact hf⟩⟩);clear hf kz;go_wp2_with fail;go_ret;exact ai.out
def Ej(w:World)(ss:List mg)(l:aU)(e:Ending)(w':World):Prop:=
 Below w.heap.size w w'/\∃op:Nat,e=.returned (.agg #[.int .i64 l.d,.int .i64 op,.string l.co,.slice l.ao l.ln l.cp,.int .i64 l.wh])/\(l.d=1->∃s,ss[op]?=some s/\s.nm.data.toList=l.st.data.toList)/\(l.d≠1->op=0)
theorem TL(h:w.heap[k]?=some (.cells #[a0,a1,a2,a3,a4] t (0,0)))(b0 b1 b2 b3 b4:Value):
  let X:=((((w.setCell ⟨k,0,none⟩ b0).setCell ⟨k,1,none⟩ b1).setCell ⟨k,2,none⟩ b2).setCell ⟨k,3,none⟩ b3).setCell ⟨k,4,none⟩ b4
  X.heap[k]?=some (.cells #[b0,b1,b2,b3,b4] t (0,0))/\(∀j,j≠k->X.heap[j]?=w.heap[j]?)/\(∀B,B<=k->Below B w X)/\X.heap.size=w.heap.size:=by
 refine ⟨?_,λj hj=>?_,λB hB=>?_,by simp[World.setCell]⟩
 ·exact heap_setCell_same _ k 4 _ (heap_setCell_same _ k 3 _ (heap_setCell_same _ k 2 _ (heap_setCell_same _ k 1 _ (heap_setCell_same _ k 0 _ h))))
 ·rw[Below.heap_setCell _ _ _ _ hj,Below.heap_setCell _ _ _ _ hj,Below.heap_setCell _ _ _ _ hj,Below.heap_setCell _ _ _ _ hj,Below.heap_setCell _ _ _ _ hj]
 ·exact (((((Below.refl B w).setCell hB _).setCell hB _).setCell hB _).setCell hB _).setCell hB _
theorem cells5(h:w.heap[k]?=some (.cells #[a0,a1,a2,a3,a4] t (0,0))):
  w.cell? ⟨k,0,none⟩=some a0/\w.cell? ⟨k,1,none⟩=some a1/\w.cell? ⟨k,2,none⟩=some a2/\w.cell? ⟨k,3,none⟩=some a3/\w.cell? ⟨k,4,none⟩=some a4/\w.frozen? ⟨k,0,none⟩=false/\w.frozen? ⟨k,1,none⟩=false/\w.frozen? ⟨k,2,none⟩=false/\w.frozen? ⟨k,3,none⟩=false/\w.frozen? ⟨k,4,none⟩=false:=by
 simp[World.cell?,World.frozen?,h]
set_option maxRecDepth 20000 in
set_option maxHeartbeats 4000000 in
theorem yL(B:Nat)(sv:Value)(ss:List mg)(l:aU)(w:World)(hL:cg w B sv ss)(hz:ss.length<=1000000)(JM:l.co.size<=281474976710656)(hop:l.d=1->∃s∈ss,s.nm.data.toList=l.st.data.toList):
  Calls Tryz.prog 116 #[l.agg,sv] w (Ej w ss l):=by
 obtain ⟨ao,cap,rfl,hao⟩:=hL.form;unfold aU.agg;have HL:=aa hL;have SE:=aa hop;clear hL hao hop;go_enter Tryz.func116,Tryz.ntmps116;go_wp2_with fail;obtain ⟨q,hq⟩:∃q,q=w.heap.size:=⟨_,rfl⟩;rw[<-hq]
 have gR:=aa (show Below w.heap.size w ((w.alloc (.cells #[.int .i64 l.at_,.int .i64 l.kd,.string l.st,.int .i64 l.d,.string l.co,.slice l.ao l.ln l.cp,.int .i64 l.wh,.int .i64 l.fl] 219)).alloc (.cells #[.int .i64 0,.int .i64 0,.string ⟨#[]⟩,.slice none 0 0,.int .i64 0] 231)) from ((Below.refl _ _).alloc (Nat.le_refl _) _).alloc (by simp) _)
 have oq:((w.alloc (.cells #[.int .i64 l.at_,.int .i64 l.kd,.string l.st,.int .i64 l.d,.string l.co,.slice l.ao l.ln l.cp,.int .i64 l.wh,.int .i64 l.fl] 219)).alloc (.cells #[.int .i64 0,.int .i64 0,.string ⟨#[]⟩,.slice none 0 0,.int .i64 0] 231)).heap[q]?=some (.cells #[.int .i64 l.at_,.int .i64 l.kd,.string l.st,.int .i64 l.d,.string l.co,.slice l.ao l.ln l.cp,.int .i64 l.wh,.int .i64 l.fl] 219):=by subst hq;exact heap_alloc_old (af _ _)
 have CI:((w.alloc (.cells #[.int .i64 l.at_,.int .i64 l.kd,.string l.st,.int .i64 l.d,.string l.co,.slice l.ao l.ln l.cp,.int .i64 l.wh,.int .i64 l.fl] 219)).alloc (.cells #[.int .i64 0,.int .i64 0,.string ⟨#[]⟩,.slice none 0 0,.int .i64 0] 231)).heap[q+1]?=some (.cells #[.int .i64 0,.int .i64 0,.string ⟨#[]⟩,.slice none 0 0,.int .i64 0] 231):=az _ _ _ (by rw[hq];simp)
 have F0:=aa (show ((w.alloc (.cells #[.int .i64 l.at_,.int .i64 l.kd,.string l.st,.int .i64 l.d,.string l.co,.slice l.ao l.ln l.cp,.int .i64 l.wh,.int .i64 l.fl] 219)).alloc (.cells #[.int .i64 0,.int .i64 0,.string ⟨#[]⟩,.slice none 0 0,.int .i64 0] 231)).heap.size=q+2 by rw[hq];simp)
 generalize ((w.alloc (.cells #[.int .i64 l.at_,.int .i64 l.kd,.string l.st,.int .i64 l.d,.string l.co,.slice l.ao l.ln l.cp,.int .i64 l.wh,.int .i64 l.fl] 219)).alloc (.cells #[.int .i64 0,.int .i64 0,.string ⟨#[]⟩,.slice none 0 0,.int .i64 0] 231))=W at *;have HQ:=aa hq;clear hq;have d1:W.cell? ⟨q,1,none⟩=some (.int .i64 l.kd):=by simp[World.cell?,oq]
 have d2:W.cell? ⟨q,2,none⟩=some (.string l.st):=by simp[World.cell?,oq]
 have d3:W.cell? ⟨q,3,none⟩=some (.int .i64 l.d):=by simp[World.cell?,oq]
 have d4:W.cell? ⟨q,4,none⟩=some (.string l.co):=by simp[World.cell?,oq]
 have d5:W.cell? ⟨q,5,none⟩=some (.slice l.ao l.ln l.cp):=by simp[World.cell?,oq]
 have d6:W.cell? ⟨q,6,none⟩=some (.int .i64 l.wh):=by simp[World.cell?,oq]
 have OH:=aa oq;have Po:=aa CI;clear oq CI
 have HBK:=aa (λ(w5:World) (hb:Below (W.alloc (.cells #[.int .i64 0,.int .i64 0,.string ⟨#[]⟩,.slice none 0 0,.int .i64 0] 231)).drew.heap.size (W.alloc (.cells #[.int .i64 0,.int .i64 0,.string ⟨#[]⟩,.slice none 0 0,.int .i64 0] 231)).drew w5)=>show Below w.heap.size w w5/\q+3<=w5.heap.size/\(w5.cell? ⟨q,3,none⟩=some (.int .i64 l.d)/\w5.cell? ⟨q,4,none⟩=some (.string l.co)/\w5.cell? ⟨q,5,none⟩=some (.slice l.ao l.ln l.cp)/\w5.cell? ⟨q,6,none⟩=some (.int .i64 l.wh))/\(w5.heap[q]?=W.heap[q]?/\w5.heap[q+1]?=W.heap[q+1]?)/\w5.heap[W.heap.size]?=some (.cells #[.int .i64 0,.int .i64 0,.string ⟨#[]⟩,.slice none 0 0,.int .i64 0] 231)/\(w5.cell? ⟨W.heap.size,0,none⟩=some (.int .i64 0)/\w5.cell? ⟨W.heap.size,1,none⟩=some (.int .i64 0)/\w5.cell? ⟨W.heap.size,2,none⟩=some (.string ⟨#[]⟩)/\w5.cell? ⟨W.heap.size,3,none⟩=some (.slice none 0 0)/\w5.cell? ⟨W.heap.size,4,none⟩=some (.int .i64 0)/\w5.frozen? ⟨W.heap.size,0,none⟩=false/\w5.frozen? ⟨W.heap.size,1,none⟩=false/\w5.frozen? ⟨W.heap.size,2,none⟩=false/\w5.frozen? ⟨W.heap.size,3,none⟩=false/\w5.frozen? ⟨W.heap.size,4,none⟩=false) from by
  have h0:=(hb.block q (show q<(W.alloc (.cells #[.int .i64 0,.int .i64 0,.string ⟨#[]⟩,.slice none 0 0,.int .i64 0] 231)).heap.size by have:=F0.out;simp;omega)).trans (Below.heap_alloc _ _ _ (by have:=F0.out;omega));have G3:=h0.trans OH.out
  have h0b:=(hb.block (q+1) (show q+1<(W.alloc (.cells #[.int .i64 0,.int .i64 0,.string ⟨#[]⟩,.slice none 0 0,.int .i64 0] 231)).heap.size by have:=F0.out;simp;omega)).trans (Below.heap_alloc _ _ _ (by have:=F0.out;omega))
  have h1:w5.heap[W.heap.size]?=some (.cells #[.int .i64 0,.int .i64 0,.string ⟨#[]⟩,.slice none 0 0,.int .i64 0] 231):=(hb.block W.heap.size (show W.heap.size<(W.alloc (.cells #[.int .i64 0,.int .i64 0,.string ⟨#[]⟩,.slice none 0 0,.int .i64 0] 231)).heap.size by simp)).trans (af _ _)
  exact ⟨(gR.out.alloc gR.out.size _).drew.trans (hb.mono (by have:=(gR.out.alloc gR.out.size (.cells #[.int .i64 0,.int .i64 0,.string ⟨#[]⟩,.slice none 0 0,.int .i64 0] 231)).size;exact this)),by have:=hb.size;have h2:=F0.out;simp at this;omega,by simp[World.cell?,G3],⟨h0,h0b⟩,h1,by simp[World.cell?,World.frozen?,h1]⟩)
 have HBM:=aa (λ(w5:World) (hb:Below W.drew.heap.size W.drew w5)=>show Below w.heap.size w w5/\q+2<=w5.heap.size/\(w5.cell? ⟨q,3,none⟩=some (.int .i64 l.d)/\w5.cell? ⟨q,4,none⟩=some (.string l.co)/\w5.cell? ⟨q,5,none⟩=some (.slice l.ao l.ln l.cp)/\w5.cell? ⟨q,6,none⟩=some (.int .i64 l.wh))/\w5.heap[q]?=W.heap[q]?/\w5.heap[q+1]?=W.heap[q+1]? from by
  have h0:=(hb.block q (show q<W.heap.size by have:=F0.out;omega));have G3:=h0.trans OH.out;exact ⟨gR.out.drew.trans (hb.mono gR.out.size),by have:=hb.size;have h2:=F0.out;simp at this;omega,by simp[World.cell?,G3],h0,hb.block (q+1) (show q+1<W.heap.size by have:=F0.out;omega)⟩)
 have XT:W.heap.size≠q:=by have:=F0.out;omega
 have XU:q≠W.heap.size:=by have:=F0.out;omega
 go_region_held3 (λw'=>w'.cell? ⟨q,3,none⟩=some (.int .i64 l.d)/\w'.cell? ⟨q,4,none⟩=some (.string l.co)/\w'.cell? ⟨q,5,none⟩=some (.slice l.ao l.ln l.cp)/\w'.cell? ⟨q,6,none⟩=some (.int .i64 l.wh))
  (first
   | with_reducible exact zu
   | go_keep)
  (first
   | (
     go_at_call 68;refine (jE l.co _ JM).mono ?_;rintro e w5 ⟨rfl,gw⟩;first
     | ((with_reducible have hX:=HBK.out w5 gw);obtain ⟨Mj,Mk,zu,Ml,XV,r0,r1,r2,r3,r4,f0,f1,f2,f3,f4⟩:=hX;have Aj:=aa Mj;have CA:=aa Mk;have IC:=aa Ml;have XW:=aa XV;clear gw Mj Mk Ml XV)
     | ((with_reducible have hX:=HBM.out w5 gw);obtain ⟨Mj,Mk,zu,Ml⟩:=hX;have Aj:=aa Mj;have CA:=aa Mk;have IC:=aa Ml;clear gw Mj Mk Ml)))
 all_goals first
  | (
    
    obtain ⟨x1,x2,x3,x4⟩:=TL XW.out (.int .i64 l.d) (.int .i64 0) (.string l.co) (.slice l.ao l.ln l.cp) (.int .i64 l.wh)
    generalize hX:((((w5.setCell ⟨W.heap.size,0,none⟩ (.int .i64 l.d)).setCell ⟨W.heap.size,1,none⟩ (.int .i64 0)).setCell ⟨W.heap.size,2,none⟩ (.string l.co)).setCell ⟨W.heap.size,3,none⟩ (.slice l.ao l.ln l.cp)).setCell ⟨W.heap.size,4,none⟩ (.int .i64 l.wh)=X at *
    have TM:=aa (show X.heap[q]?=some (.cells #[.int .i64 l.at_,.int .i64 l.kd,.string l.st,.int .i64 l.d,.string l.co,.slice l.ao l.ln l.cp,.int .i64 l.wh,.int .i64 l.fl] 219)/\X.heap[W.heap.size]?=some (.cells #[.int .i64 l.d,.int .i64 0,.string l.co,.slice l.ao l.ln l.cp,.int .i64 l.wh] 231)/\Below w.heap.size w X/\W.heap.size≠q/\w.heap.size<=W.heap.size/\W.heap.size<X.heap.size/\X.heap[q+1]?=some (.cells #[.int .i64 0,.int .i64 0,.string ⟨#[]⟩,.slice none 0 0,.int .i64 0] 231)/\W.heap.size≠q+1 from ⟨(x2 q XU).trans (IC.out.1.trans OH.out),x1,Aj.out.trans (x3 _ gR.out.size),XT,gR.out.size,by have:=CA.out;have h2:=F0.out;omega,(x2 (q+1) (by have h2:=F0.out;omega)).trans (IC.out.2.trans Po.out),by have h2:=F0.out;omega⟩)
    clear x1 x2 x3 x4 hX r0 r1 r2 r3 r4 f0 f1 f2 f3 f4 XW;obtain ⟨R,hR⟩:∃R,R=W.heap.size:=⟨_,rfl⟩;rw[<-hR]at TM ⊢
    have HX:Hid (X.heap[q]?=some (.cells #[.int .i64 l.at_,.int .i64 l.kd,.string l.st,.int .i64 l.d,.string l.co,.slice l.ao l.ln l.cp,.int .i64 l.wh,.int .i64 l.fl] 219)/\X.heap[R]?=some (.cells #[.int .i64 l.d,.int .i64 0,.string l.co,.slice l.ao l.ln l.cp,.int .i64 l.wh] 231)/\Below w.heap.size w X/\R≠q/\w.heap.size<=R/\R<X.heap.size/\X.heap[q+1]?=some (.cells #[.int .i64 0,.int .i64 0,.string ⟨#[]⟩,.slice none 0 0,.int .i64 0] 231)/\R≠q+1):=TM
    clear TM hR)
  | (
    
    have TM:=aa (show (w5.alloc (.cells #[.int .i64 l.d,.int .i64 0,.string l.co,.slice l.ao l.ln l.cp,.int .i64 l.wh] 231)).heap[q]?=some (.cells #[.int .i64 l.at_,.int .i64 l.kd,.string l.st,.int .i64 l.d,.string l.co,.slice l.ao l.ln l.cp,.int .i64 l.wh,.int .i64 l.fl] 219)/\(w5.alloc (.cells #[.int .i64 l.d,.int .i64 0,.string l.co,.slice l.ao l.ln l.cp,.int .i64 l.wh] 231)).heap[w5.heap.size]?=some (.cells #[.int .i64 l.d,.int .i64 0,.string l.co,.slice l.ao l.ln l.cp,.int .i64 l.wh] 231)/\Below w.heap.size w (w5.alloc (.cells #[.int .i64 l.d,.int .i64 0,.string l.co,.slice l.ao l.ln l.cp,.int .i64 l.wh] 231))/\w5.heap.size≠q/\w.heap.size<=w5.heap.size/\w5.heap.size<(w5.alloc (.cells #[.int .i64 l.d,.int .i64 0,.string l.co,.slice l.ao l.ln l.cp,.int .i64 l.wh] 231)).heap.size/\(w5.alloc (.cells #[.int .i64 l.d,.int .i64 0,.string l.co,.slice l.ao l.ln l.cp,.int .i64 l.wh] 231)).heap[q+1]?=some (.cells #[.int .i64 0,.int .i64 0,.string ⟨#[]⟩,.slice none 0 0,.int .i64 0] 231)/\w5.heap.size≠q+1 from ⟨heap_alloc_old (IC.out.1.trans OH.out),af _ _,Aj.out.alloc Aj.out.size _,by have:=CA.out;omega,Aj.out.size,by simp,heap_alloc_old (IC.out.2.trans Po.out),by have:=CA.out;omega⟩)
    obtain ⟨R,hR⟩:∃R,R=w5.heap.size:=⟨_,rfl⟩;rw[<-hR]at TM ⊢;generalize w5.alloc (.cells #[.int .i64 l.d,.int .i64 0,.string l.co,.slice l.ao l.ln l.cp,.int .i64 l.wh] 231)=X at *
    have HX:Hid (X.heap[q]?=some (.cells #[.int .i64 l.at_,.int .i64 l.kd,.string l.st,.int .i64 l.d,.string l.co,.slice l.ao l.ln l.cp,.int .i64 l.wh,.int .i64 l.fl] 219)/\X.heap[R]?=some (.cells #[.int .i64 l.d,.int .i64 0,.string l.co,.slice l.ao l.ln l.cp,.int .i64 l.wh] 231)/\Below w.heap.size w X/\R≠q/\w.heap.size<=R/\R<X.heap.size/\X.heap[q+1]?=some (.cells #[.int .i64 0,.int .i64 0,.string ⟨#[]⟩,.slice none 0 0,.int .i64 0] 231)/\R≠q+1):=TM
    clear TM hR)
 all_goals
  clear HBK HBM OH Po gR F0 Aj CA IC zu d1 d2 d3 d4 d5 d6 XT XU;have hx0:=HX.out.1;have d3:X.cell? ⟨q,3,none⟩=some (.int .i64 l.d):=by simp[World.cell?,hx0]
  obtain ⟨r0,r1,r2,r3,r4,-⟩:=cells5 HX.out.2.1;obtain ⟨s0,s1,s2,s3,s4,f0,f1,f2,f3,f4⟩:=cells5 HX.out.2.2.2.2.2.2.1;clear hx0;by_cases hd:l.d=1
  ·have q1:((l.d:Int)==1)=true:=by rw[hd];rfl
   have HD:=aa hd;have WR:=aa (HL.out.below HX.out.2.2.1);have d2:X.cell? ⟨q,2,none⟩=some (.string l.st):=by have hx0:=HX.out.1;simp[World.cell?,hx0]
   have uT:=aa (Bt B q (.slice ao ss.length cap) ss l.st X WR.out d2 ⟨_,HX.out.1⟩ hz);clear hd d2 WR;go_wp2_with fail;refine uT.out.mono ?_;rintro e X1 ⟨hb1,⟨j,t,rfl,ht,gj⟩|⟨rfl,hno⟩⟩
   ·have rV:=(hb1.block R HX.out.2.2.2.2.2.1).trans HX.out.2.1;have yr:=(hb1.block (q+1) (ae HX.out.2.2.2.2.2.2.1)).trans HX.out.2.2.2.2.2.2.1;have rJ:=HX.out.2.2.2.2.2.2.2;have pH:=Ne.symm rJ;have HW1:=aa (HX.out.2.2.1.trans (hb1.mono HX.out.2.2.1.size))
    have ai:=aa (show Ej w ss l (.returned (.agg #[.int .i64 l.d,.int .i64 j,.string l.co,.slice l.ao l.ln l.cp,.int .i64 l.wh])) ((((((X1.setCell ⟨R,1,none⟩ (.int .i64 j)).setCell ⟨q+1,0,none⟩ (.int .i64 l.d)).setCell ⟨q+1,1,none⟩ (.int .i64 j)).setCell ⟨q+1,2,none⟩ (.string l.co)).setCell ⟨q+1,3,none⟩ (.slice l.ao l.ln l.cp)).setCell ⟨q+1,4,none⟩ (.int .i64 l.wh)) from ⟨(HW1.out.setCell HX.out.2.2.2.2.1 _).trans ((TL ((Below.heap_setCell _ _ _ _ pH).trans yr) _ _ _ _ _).2.2.1 _ (by have:=HQ.out;omega)),j,rfl,λ_=>⟨t,ht,gj⟩,λh=>absurd HD.out h⟩)
    clear r0 r1 r2 r3 r4 s0 s1 s2 s3 s4 f0 f1 f2 f3 f4;obtain ⟨r0,r1,r2,r3,r4,-,e1,-⟩:=cells5 rV;obtain ⟨s0,s1,s2,s3,s4,f0,f1,f2,f3,f4⟩:=cells5 yr;clear hb1 ht gj rV yr HX uT HW1 d3;go_wp2_with fail;exact bodyPost_ret (v:=.agg #[.int .i64 l.d,.int .i64 j,.string l.co,.slice l.ao l.ln l.cp,.int .i64 l.wh]) (by simp[results,Tryz.results116,go_sem, *]) rfl ai.out
   ·obtain ⟨t,ht,gj⟩:=SE.out HD.out;exact absurd gj (hno t ht)
  ·have q1:((l.d:Int)==1)=false:=by rw[beq_eq_false_iff_ne];omega
   have ai:=aa (show Ej w ss l (.returned (.agg #[.int .i64 l.d,.int .i64 (0:Nat),.string l.co,.slice l.ao l.ln l.cp,.int .i64 l.wh])) (((((X.setCell ⟨q+1,0,none⟩ (.int .i64 l.d)).setCell ⟨q+1,1,none⟩ (.int .i64 0)).setCell ⟨q+1,2,none⟩ (.string l.co)).setCell ⟨q+1,3,none⟩ (.slice l.ao l.ln l.cp)).setCell ⟨q+1,4,none⟩ (.int .i64 l.wh)) from ⟨HX.out.2.2.1.trans ((TL HX.out.2.2.2.2.2.2.1 _ _ _ _ _).2.2.1 _ (by have:=HQ.out;omega)),0,rfl,λh=>absurd h hd,λ_=>rfl⟩)
   clear hd HX;go_wp2_with fail;exact bodyPost_ret (v:=.agg #[.int .i64 l.d,.int .i64 0,.string l.co,.slice l.ao l.ln l.cp,.int .i64 l.wh]) (by simp[results,Tryz.results116,go_sem, *]) rfl ai.out
theorem Ek:(Tryz.prog.info? 213).map (λi=>(i.zero,i.size,i.bytes))=some (some (.agg #[.string ⟨#[]⟩,.slice none 0 0]),2,40):=by kernel_rfl
theorem ID:(Tryz.prog.info? 231).map (λi=>(i.zero,i.size,i.bytes))=some (some (.agg #[.int .i64 0,.int .i64 0,.string ⟨#[]⟩,.slice none 0 0,.int .i64 0]),5,64):=by kernel_rfl
def uf(n:ByteArray):mg:=⟨n,none,0,0,[]⟩
theorem cg.row(h:cg w B sv ss):w.ownsRow B 213 2 sv ss.length ((ss.map mg.el).flatMap El.cells):=by
 have:=h.outer
 rwa [List.length_map]at this
theorem cg.push{v':Value}{n:ByteArray}(h:cg W B sv ss)(hB:B<=W.heap.size)
  (hown:w3.ownsRow B 213 2 v' (ss.length+1) ((ss.map mg.el).flatMap El.cells++[.string n,.slice none 0 0])) (hg:W.grownBy w3 sv.ownBlock):cg w3 B v' (ss++[uf n])/\Below B W w3:=by
 refine ⟨?_,ek hB hg λk e=>(aw h.outer e).1⟩;have:=eZ.push (x:=(uf n).el) h (by decide) rfl rfl rfl (by rw[List.length_map];exact hown) hg;unfold cg;rw[List.map_append];exact this
def Em(w:World)(ls:List aU)(k:Nat)(vs:Value)(i:Value)(wr:World):Prop:=
 ∃(j:Nat) (ss:List mg),i=.int .i64 j/\j+k=ls.length/\Below w.heap.size w wr/\cg wr w.heap.size vs ss/\ss=(aG (ls.take j)).map uf
variable {r:uV}
theorem cg.grow{n:Nat}(h:cg W B (.slice (some ⟨g,0,none⟩) n cap) ss)(hB:B<=W.heap.size)(hi:ss[m]?=some s)
  (hown:w3.ownsRow B 231 5 (.slice pE Oq CP) (s.rs.length+1) ((s.rs.map uV.cells).flatten++r.cells)) (hg:W.grownBy w3 (Value.slice s.ao s.ln s.cp).ownBlock) (fL:(Value.slice pE Oq CP).ownBlock=(Value.slice s.ao s.ln s.cp).ownBlock∨(Value.slice pE Oq CP).ownBlock=some W.heap.size):
  cg (w3.setCell ⟨g,m*2+1,none⟩ (.slice pE Oq CP)) B (.slice (some ⟨g,0,none⟩) n cap) (ss.set m ⟨s.nm,pE,Oq,CP,s.rs++[r]⟩)/\Below B W (w3.setCell ⟨g,m*2+1,none⟩ (.slice pE Oq CP))/\w3.cell? ⟨g,m*2+1,none⟩=some (.slice s.ao s.ln s.cp)/\w3.frozen? ⟨g,m*2+1,none⟩=false:=by
 have PE:(ss.map mg.el)[m]?=some s.el:=by rw[List.getElem?_map,hi];rfl
 have hm:s.el∈ss.map mg.el:=List.mem_of_getElem? PE;obtain ⟨hgB,c2,hgc⟩:=aw (k:=g) h.outer rfl;have hN:=eZ.grow (w':=w3) (v':=.slice pE Oq CP) (r:=r.cells) h (by decide) PE rfl (by rw[show s.el.rs.length=s.rs.length from List.length_map ..];exact hown) hg fL;have hb:Below B W w3:=ek hB hg (λk e=>(aw (h.inner _ hm) e).1)
 have PF:some g≠(Value.slice s.ao s.ln s.cp).ownBlock:=λe=>by obtain ⟨_,c1,h1⟩:=aw (h.inner _ hm) e.symm;rw[h1]at hgc;simp only[Option.some.injEq,Obj.cells.injEq]at hgc;exact absurd hgc.2.1 (by decide)
 have h3:w3.heap[g]?=W.heap[g]?:=hg.block g (ae hgc) PF;have hrow:=h.row
 have hn:n=ss.length:=by
  rcases hrow.2 with ⟨h0,_⟩|⟨g',cap',cur,e1,_⟩
  ·cases h0
  ·cases e1;rfl
 subst hn;have hc:=bU hrow (j:=m*2+1) (u:=.slice s.ao s.ln s.cp) (by rw[lh h.sized PE 1 (by omega)];rfl);refine ⟨?_,hb.setCell hgB _,?_,?_⟩
 ·have e2:((ss.set m ⟨s.nm,pE,Oq,CP,s.rs++[r]⟩).map mg.el)=(ss.map mg.el).set m { s.el with rv:=.slice pE Oq CP,rs:=s.el.rs++[r.cells] }:=by rw[List.map_set];simp[mg.el]
  unfold cg;rw[e2];exact hN
 ·rw[<-hc.1];simp only[World.cell?,h3]
 ·rw[<-hc.2];simp only[World.frozen?,h3]
def TN(names:List ByteArray)(l:aU)(r:uV):Prop:=
 r.k=l.d/\r.co=l.co/\r.ao=l.ao/\r.ln=l.ln/\r.cp=l.cp/\r.wh=l.wh/\(l.d=1->∃n,names[r.op]?=some n/\n.data.toList=l.st.data.toList)/\(l.d≠1->r.op=0)
def sec:Nat->List aU->Nat->List aU
 | _,[],_=>[]
 | c,l::t,i=>if l.kd=1 then sec (c+1) t i else if l.kd=2/\i+1=c then l::sec c t i else sec c t i
theorem Bu(pre:List aU)(l:aU)(i:Nat):∀c,sec c (pre++[l]) i=sec c pre i++(if l.kd=2/\i+1=c+(aG pre).length then [l] else []):=by
 induction pre with
 | nil=>
  intro c;have hs:(aG []).length=0:=rfl;rw[hs,Nat.add_zero];simp only[List.nil_append,sec];by_cases h1:l.kd=1
  ·rw[if_pos h1,if_neg (λh=>by omega)]
  ·rw[if_neg h1];simp
 | cons a t ih=>
  intro c;have hs:(aG (a::t)).length=(if a.kd=1 then 1 else 0)+(aG t).length:=by unfold aG;rw[List.filterMap_cons];by_cases h:a.kd=1<;>simp[h];omega
  simp only[List.cons_append,sec];rw[hs];by_cases h1:a.kd=1
  ·rw[if_pos h1,if_pos h1,if_pos h1,ih];simp only[Nat.add_assoc]
  ·rw[if_neg h1,if_neg h1,if_neg h1,Nat.zero_add];by_cases h2:a.kd=2/\i+1=c
   ·rw[if_pos h2,if_pos h2,ih];rfl
   ·rw[if_neg h2,if_neg h2,ih]
def Zip(R:aU->uV->Prop)(xs:List aU)(bs:List uV):Prop:=xs.length=bs.length/\∀(j:Nat) a b,xs[j]?=some a->bs[j]?=some b->R a b
theorem Zip.snoc{R:aU->uV->Prop}{xs:List aU}{bs:List uV}{a:aU}{b:uV}(h:Zip R xs bs)(hab:R a b):Zip R (xs++[a]) (bs++[b]):=by
 refine ⟨by simp[h.1],λj x y hx hy=>?_⟩;rcases Nat.lt_or_ge j xs.length with hj|hj
 ·rw[List.getElem?_append_left hj]at hx;rw[List.getElem?_append_left (by rw[<-h.1];exact hj)]at hy;exact h.2 j x y hx hy
 ·rw[List.getElem?_append_right hj]at hx;rw[List.getElem?_append_right (by rw[<-h.1];exact hj)]at hy;have h1:=List.mem_singleton.1 (List.mem_of_getElem? hx);have h2:=List.mem_singleton.1 (List.mem_of_getElem? hy);rw[h1,h2];exact hab
def qu(names:List ByteArray)(pre:List aU)(ss:List mg):Prop:=
 ss.map mg.nm=names/\∀i s,ss[i]?=some s->Zip (TN names) (sec 0 pre i) s.rs
theorem qu.start(names:List ByteArray):qu names [] (names.map uf):=by
 refine ⟨by rw[List.map_map];exact List.map_id' _,λi s hs=>?_⟩;rw[List.getElem?_map]at hs
 cases hn:names[i]? with
 | none=>rw[hn]at hs;cases hs
 | some n=>rw[hn]at hs;cases hs;exact ⟨rfl,λj a b h=>by simp[sec]at h⟩
theorem qu.other(h:qu names pre ss)(hk:l.kd≠2):qu names (pre++[l]) ss:=
 ⟨h.1,λi s hs=>by rw[Bu,if_neg (λh=>hk h.1),List.append_nil];exact h.2 i s hs⟩
theorem qu.rule(h:qu names pre ss)(hk:l.kd=2)(hm:(aG pre).length=m+1)(hi:ss[m]?=some s)(hr:TN names l r):qu names (pre++[l]) (ss.set m ⟨s.nm,pE,Oq,CP,s.rs++[r]⟩):=by
 refine ⟨?_,λi t ht=>?_⟩
 ·rw[List.map_set];rw[<-h.1];refine List.ext_getElem? λj=>?_
  rw[List.getElem?_set];split
  ·rename_i e;subst e;have:=au hi;rw[if_pos (by simpa using this),List.getElem?_map,hi];rfl
  ·rfl
 ·rw[Bu];rw[List.getElem?_set]at ht;by_cases e:m=i
  ·subst e;rw[if_pos rfl,if_pos (au hi)]at ht;cases ht;rw[if_pos ⟨hk,by omega⟩];exact (h.2 m s hi).snoc hr
  ·rw[if_neg e]at ht;rw[if_neg (λh=>e (by omega)),List.append_nil];exact h.2 i t ht
def cv:Nat->Value
 | 0=>.int .i64 (-1)
 | m+1=>.int .i64 m
def ug(w:World)(ls:List aU)(sv:Value)(k:Nat)(vc:Value)(i:Value)(wr:World):Prop:=
 ∃(j:Nat) (ss:List mg),i=.int .i64 j/\j+k=ls.length/\vc=cv (aG (ls.take j)).length/\Below w.heap.size w wr/\cg wr w.heap.size sv ss/\qu (aG ls) (ls.take j) ss
def xc(w:World)(ls:List aU)(e:Ending)(w':World):Prop:=
 Below w.heap.size w w'/\∃(sv:Value) (ss:List mg),e=.returned sv/\cg w' w.heap.size sv ss/\qu (aG ls) ls ss
set_option maxRecDepth 20000 in
set_option maxHeartbeats 2000000 in
theorem IE(B:Nat)(sv:Value)(ls:List aU)(w:World)(hL:Lines w B sv ls)(hz:ls.length<=1000000)(JM:∀l∈ls,(l.kd=2->l.co.size<=281474976710656)/\(l.kd=1->l.st.size<=281474976710656))(Mm:∀pre l post,ls=pre++l::post->l.kd=2->0<(aG pre).length)(hop:∀l∈ls,l.d=1->∃n∈aG ls,n.data.toList=l.st.data.toList):
  Calls Tryz.prog 83 #[sv] w (xc w ls):=by
 obtain ⟨ao,cap,rfl,hao⟩:=hL.form;have HL:=aa hL;have AW:=aa hao;have QR:=aa JM;have aaJ:=aa Mm;have SE:=aa hop;clear hL hao JM Mm hop;go_enter Tryz.func83,Tryz.ntmps83;go_wp2_with fail;go_loopg [3,11] ls.length (λk vs i wr=>Em w ls k vs i wr)
 case atStart=>exact ⟨0,[],rfl,by omega,Below.refl _ _,eZ.nil _ _ _ _ _ _,rfl⟩
 case round=>
  obtain ⟨j,ss,rfl,hk,kz,hS,zr⟩:=hrel;have ab7:ss.length<=1000000:=by rw[zr,List.length_map];have h1:(aG (ls.take j)).length<=(ls.take j).length:=List.length_filterMap_le ..;rw[List.length_take]at h1;omega
  by_cases hlt:j<ls.length
  ·have g1:decide ((j:Int)<(ls.length:Int))=true:=decide_eq_true (by omega);obtain ⟨q,rfl⟩:=AW.out (by omega);obtain ⟨l,hl⟩:∃l,ls[j]?=some l:=⟨ls[j],List.getElem?_eq_getElem hlt⟩;have gX:ls.take (j+1)=ls.take j++[l]:=by have hl':=hl;rw[List.getElem?_eq_getElem hlt]at hl';rw[List.take_succ_eq_append_getElem hlt,Option.some.inj hl']
   obtain ⟨c0,c1,c2,c3,c4,c5,c6,c7⟩:=(HL.out.below kz).cells hl;have wy:j+1<=9223372036854775807:=by omega
   have u7:=aa (kz.alloc kz.size (.cells #[.int .i64 l.at_,.int .i64 l.kd,.string l.st,.int .i64 l.d,.string l.co,.slice l.ao l.ln l.cp,.int .i64 l.wh,.int .i64 l.fl] 219))
   have En:=aa (hS.below ((Below.refl wr.heap.size wr).alloc (Nat.le_refl _) (.cells #[.int .i64 l.at_,.int .i64 l.kd,.string l.st,.int .i64 l.d,.string l.co,.slice l.ao l.ln l.cp,.int .i64 l.wh,.int .i64 l.fl] 219)));have uh:=aa (QR.out l (List.mem_of_getElem? hl)).2
   have Hu:=aa (show (aG (ls.take (j+1))).map uf=if l.kd=1 then ss++[uf l.st] else ss from by rw[gX,gO,List.map_append,<-zr];split<;>simp);clear hl gX kz hS zr;by_cases ey:l.kd=1
   ·have q1:((l.kd:Int)==1)=true:=by rw[ey];rfl
    rw[if_pos ey]at Hu;have zq:=aa (jE l.st (wr.alloc (.cells #[.int .i64 l.at_,.int .i64 l.kd,.string l.st,.int .i64 l.d,.string l.co,.slice l.ao l.ln l.cp,.int .i64 l.wh,.int .i64 l.fl] 219)) (uh.out ey));clear ey uh;go_wp2_with fail;refine zq.out.mono ?_;rintro e w1 ⟨rfl,hb1⟩;obtain ⟨i0,hi,hz0,hz1,hz3⟩:=info_parts Ek
    have br:=aa (u7.out.trans (hb1.mono u7.out.size));have rF:=aa ((En.out.below hb1).below ((Below.refl w1.heap.size w1).alloc (Nat.le_refl _) (.cells #[.string l.st,.slice none 0 0] 213)));have Bv:w.heap.size<=w1.heap.size:=br.out.size;have bE:=aa rF.out.row
    have HKEY:=aa (λ(v':Value) (w3:World) (hown:w3.ownsRow w.heap.size 213 2 v' (ss.length+1) ((ss.map mg.el).flatMap El.cells++[.string l.st,.slice none 0 0])) (hg:(w1.alloc (.cells #[.string l.st,.slice none 0 0] 213)).grownBy w3 u3.ownBlock)=>show Em w ls (gk - 1) v' (.int .i64 ((j+1:Nat):Int)) w3 from by
     obtain ⟨h1,h2⟩:=rF.out.push (by simp;omega) hown hg;exact ⟨j+1,ss++[uf l.st],rfl,by omega,(br.out.alloc br.out.size _).trans h2,h1,Hu.out.symm⟩)
    have fp:=aa (λj u hj=>aF w1 #[.string l.st,.slice none 0 0] 213 j u hj);have HO:Hid (∀u∈([.string l.st,.slice none 0 0]:List Value),u.oneCell'=true):=by intro u hu;simp only[List.mem_cons,List.not_mem_nil,or_false]at hu;rcases hu with rfl|rfl<;>rfl
    have XX:ss.length+1<=maxLen:=by unfold maxLen;omega
    have O9:(ss.length+1)*40<=140737488355328:=by omega
    clear hb1 zq u7 En br rF
    go_wp2_with (at_builtin;refine wpList_append_own _ rfl (.tmp 18) (.tmp 23) 36 rfl w.heap.size 213 i0 (.agg #[.string ⟨#[]⟩,.slice none 0 0]) 2 40 Tryz.underlying36 hi hz0 hz1 hz3 rfl (by decide) u3 ss.length ((ss.map mg.el).flatMap El.cells) rfl bE.out ⟨w1.heap.size,0,none⟩ 1 1 [.string l.st,.slice none 0 0] rfl rfl fp.out HO.out XX O9 (by simp;omega) ?_;intro v' w3 hown hg _;have HST:=aa (HKEY.out v' w3 hown hg);obtain ⟨g',cap',rfl⟩:=aC hown (by omega);clear hown hg)
    go_roundg (gk - 1)
    case measure=>omega
    case rel=>exact HST.out
   ·have q1:((l.kd:Int)==1)=false:=by rw[beq_eq_false_iff_ne];omega
    rw[if_neg ey]at Hu;have HST:=aa (show Em w ls (gk - 1) u3 (.int .i64 ((j+1:Nat):Int)) (wr.alloc (.cells #[.int .i64 l.at_,.int .i64 l.kd,.string l.st,.int .i64 l.d,.string l.co,.slice l.ao l.ln l.cp,.int .i64 l.wh,.int .i64 l.fl] 219)) from ⟨j+1,ss,rfl,by omega,u7.out,En.out,Hu.out.symm⟩);clear ey u7 En uh Hu;go_wp2_with fail;go_roundg (gk - 1)
    case measure=>omega
    case rel=>exact HST.out
  ·have g1:decide ((j:Int)<(ls.length:Int))=false:=decide_eq_false (by omega);rw[List.take_of_length_le (by omega)]at zr;obtain ⟨sa,nP,rfl,XY⟩:=hS.form;have eT:(aG ls).length=ss.length:=by rw[zr,List.length_map]
   have aaK:=aa XY;have zX:=aa (show ug w ls (.slice sa ss.length nP) ls.length (.int .i64 (-1)) (.int .i64 0) wr from ⟨0,ss,rfl,by omega,rfl,kz,hS,by rw[zr];exact qu.start _⟩);clear hS zr kz XY;go_wp2_with fail;generalize ss.length=nS at *;clear hk g1 hlt;go_loopg [6,28] ls.length (λk vc i wr=>ug w ls (.slice sa nS nP) k vc i wr)
   case atStart=>exact zX.out
   case round=>
    obtain ⟨j,ss,rfl,hk,rfl,kz,hS,hI⟩:=hrel;have NW:ss.length=nS:=by rw[<-eT,<-hI.1,List.length_map]
    by_cases hlt:j<ls.length
    ·have g1:decide ((j:Int)<(ls.length:Int))=true:=decide_eq_true (by omega);obtain ⟨q,rfl⟩:=AW.out (by omega);obtain ⟨l,hl⟩:∃l,ls[j]?=some l:=⟨ls[j],List.getElem?_eq_getElem hlt⟩;have gX:ls.take (j+1)=ls.take j++[l]:=by have hl':=hl;rw[List.getElem?_eq_getElem hlt]at hl';rw[List.take_succ_eq_append_getElem hlt,Option.some.inj hl']
     have hsp:ls=ls.take j++l::ls.drop (j+1):=by have hl':=hl;rw[List.getElem?_eq_getElem hlt]at hl';rw[<-Option.some.inj hl',<-List.drop_eq_getElem_cons hlt,List.take_append_drop]
     obtain ⟨c0,c1,c2,c3,c4,c5,c6,c7⟩:=(HL.out.below kz).cells hl;have wy:j+1<=9223372036854775807:=by omega
     have u7:=aa (kz.alloc kz.size (.cells #[.int .i64 l.at_,.int .i64 l.kd,.string l.st,.int .i64 l.d,.string l.co,.slice l.ao l.ln l.cp,.int .i64 l.wh,.int .i64 l.fl] 219))
     have En:=aa (hS.below ((Below.refl wr.heap.size wr).alloc (Nat.le_refl _) (.cells #[.int .i64 l.at_,.int .i64 l.kd,.string l.st,.int .i64 l.d,.string l.co,.slice l.ao l.ln l.cp,.int .i64 l.wh,.int .i64 l.fl] 219)));have HI:=aa hI;have J0:=gO (ls.take j) l;rw[<-gX]at J0
     have jb:(aG (ls.take j)).length<=1000000:=by have h1:(aG (ls.take j)).length<=(ls.take j).length:=List.length_filterMap_le ..;rw[List.length_take]at h1;omega
     by_cases ey:l.kd=1
     ·have q1:((l.kd:Int)==1)=true:=by rw[ey];rfl
      rw[if_pos ey]at J0
      have HST:=aa (show ∀c,cv ((aG (ls.take j)).length+1)=c->ug w ls (.slice sa nS nP) (gk - 1) c (.int .i64 ((j+1:Nat):Int)) (wr.alloc (.cells #[.int .i64 l.at_,.int .i64 l.kd,.string l.st,.int .i64 l.d,.string l.co,.slice l.ao l.ln l.cp,.int .i64 l.wh,.int .i64 l.fl] 219)) from λc hc=>⟨j+1,ss,rfl,by omega,by rw[J0,List.length_append,<-hc];rfl,u7.out,En.out,by rw[gX];exact hI.other (by omega)⟩)
      clear hl gX hsp kz hS hI HI J0 ey u7 En NW;generalize (aG (ls.take j)).length=c at *
      cases c with
      | zero=>
       have Eo:=aa (HST.out _ rfl);clear HST jb;simp only[cv]at Eo ⊢;go_wp2_with fail;go_roundg (gk - 1)
       case measure=>omega
       case rel=>exact Eo.out
      | succ m=>
       have XX:m+1<=9223372036854775807:=by omega
       have Eo:=aa (HST.out _ rfl);clear HST jb;simp only[cv]at Eo ⊢;go_wp2_with fail;go_roundg (gk - 1)
       case measure=>omega
       case rel=>exact Eo.out
     ·have q1:((l.kd:Int)==1)=false:=by rw[beq_eq_false_iff_ne];omega
      rw[if_neg ey,List.append_nil]at J0;by_cases hk2:l.kd=2
      ·have q2:((l.kd:Int)==2)=true:=by rw[hk2];rfl
       obtain ⟨m,hm⟩:∃m,(aG (ls.take j)).length=m+1:=⟨(aG (ls.take j)).length - 1,by have:=aaJ.out _ _ _ hsp hk2;omega⟩
       have Rm:m<nS:=by
        have h1:aG ls=aG (ls.take j)++aG (ls.drop j):=by unfold aG;rw[<-List.filterMap_append,List.take_append_drop]
        rw[<-eT,h1,List.length_append,hm];omega
       obtain ⟨s,hs⟩:∃s,ss[m]?=some s:=⟨ss[m]'(by omega),List.getElem?_eq_getElem (by omega)⟩;obtain ⟨g,rfl⟩:=aaK.out (by omega)
       have GU:s.rs.length<=1000000:=by
        have h1:=(hI.2 m s hs).1
        have h2:∀(c:Nat) (t:List aU) (i:Nat),(sec c t i).length<=t.length:=by
         intro c t i
         induction t generalizing c with
         | nil=>simp[sec]
         | cons a t ih=>
          have h3:=ih (c+1);have h4:=ih c;unfold sec;split
          ·simp only[List.length_cons];omega
          ·split<;>simp only[List.length_cons]<;>omega
        have h3:=h2 0 (ls.take j) m;rw[List.length_take]at h3;omega
       have uS:=aa (yL w.heap.size (.slice (some ⟨g,0,none⟩) nS nP) ss l (wr.alloc (.cells #[.int .i64 l.at_,.int .i64 l.kd,.string l.st,.int .i64 l.d,.string l.co,.slice l.ao l.ln l.cp,.int .i64 l.wh,.int .i64 l.fl] 219)).drew (En.out.below ((Below.refl _ _).drew)) (by omega) ((QR.out l (List.mem_of_getElem? hl)).1 hk2) (λhd=>by
        obtain ⟨n,hn,he⟩:=SE.out l (List.mem_of_getElem? hl) hd;rw[<-hI.1]at hn;obtain ⟨t,ht,rfl⟩:=List.mem_map.1 hn;exact ⟨t,ht,he⟩))
       have HKEY:=aa (show ∀(w5:World) (op:Nat),Below (wr.alloc (.cells #[.int .i64 l.at_,.int .i64 l.kd,.string l.st,.int .i64 l.d,.string l.co,.slice l.ao l.ln l.cp,.int .i64 l.wh,.int .i64 l.fl] 219)).drew.heap.size (wr.alloc (.cells #[.int .i64 l.at_,.int .i64 l.kd,.string l.st,.int .i64 l.d,.string l.co,.slice l.ao l.ln l.cp,.int .i64 l.wh,.int .i64 l.fl] 219)).drew w5->(l.d=1->∃s,ss[op]?=some s/\s.nm.data.toList=l.st.data.toList)->(l.d≠1->op=0) ->
         w5.cell? ⟨g,m*2+1,none⟩=some (.slice s.ao s.ln s.cp)/\(w5.alloc (.cells #[.int .i64 l.d,.int .i64 op,.string l.co,.slice l.ao l.ln l.cp,.int .i64 l.wh] 231)).cell? ⟨g,m*2+1,none⟩=some (.slice s.ao s.ln s.cp)/\Hid ((w5.alloc (.cells #[.int .i64 l.d,.int .i64 op,.string l.co,.slice l.ao l.ln l.cp,.int .i64 l.wh] 231)).ownsRow w.heap.size 231 5 (.slice s.ao s.ln s.cp) s.rs.length (s.rs.map uV.cells).flatten)/\Hid (∀j u,([.int .i64 l.d,.int .i64 op,.string l.co,.slice l.ao l.ln l.cp,.int .i64 l.wh]:List Value)[j]?=some u->(w5.alloc (.cells #[.int .i64 l.d,.int .i64 op,.string l.co,.slice l.ao l.ln l.cp,.int .i64 l.wh] 231)).cell? ((⟨w5.heap.size,0,none⟩:Addr).add j)=some u)/\w.heap.size<=w5.heap.size+1 /\
         Hid (∀W' v' w3,(W'=(w5.alloc (.cells #[.int .i64 l.d,.int .i64 op,.string l.co,.slice l.ao l.ln l.cp,.int .i64 l.wh] 231))∨W'=(w5.alloc (.cells #[.int .i64 l.d,.int .i64 op,.string l.co,.slice l.ao l.ln l.cp,.int .i64 l.wh] 231)).drew)->w3.ownsRow w.heap.size 231 5 v' (s.rs.length+1) ((s.rs.map uV.cells).flatten++[.int .i64 l.d,.int .i64 op,.string l.co,.slice l.ao l.ln l.cp,.int .i64 l.wh])->W'.grownBy w3 (Value.slice s.ao s.ln s.cp).ownBlock->(v'.ownBlock=(Value.slice s.ao s.ln s.cp).ownBlock∨v'.ownBlock=some W'.heap.size) ->
          ∃g' cap',v'=.slice (some ⟨g',0,none⟩) (s.rs.length+1) cap'/\w3.cell? ⟨g,m*2+1,none⟩=some (.slice s.ao s.ln s.cp)/\w3.frozen? ⟨g,m*2+1,none⟩=false/\Hid (ug w ls (.slice (some ⟨g,0,none⟩) nS nP) (gk - 1) (.int .i64 m) (.int .i64 ((j+1:Nat):Int)) (w3.setCell ⟨g,m*2+1,none⟩ v'))) from by
        intro w5 op gw tL TK;have hs5:cg w5 w.heap.size (.slice (some ⟨g,0,none⟩) nS nP) ss:=(En.out.below ((Below.refl _ _).drew)).below gw;have Ep:Below w.heap.size w w5:=u7.out.drew.trans (gw.mono u7.out.size)
        have N9:=hs5.below ((Below.refl w5.heap.size w5).alloc (Nat.le_refl _) (.cells #[.int .i64 l.d,.int .i64 op,.string l.co,.slice l.ao l.ln l.cp,.int .i64 l.wh] 231));have VW:=((show cg w5 w.heap.size (.slice (some ⟨g,0,none⟩) ss.length nP) ss by rw[NW];exact hs5).cells hs).2
        refine ⟨VW,aq VW _,?_,aF w5 #[.int .i64 l.d,.int .i64 op,.string l.co,.slice l.ao l.ln l.cp,.int .i64 l.wh] _,by have:=Ep.size;omega,λW' v' w3 hW hown hg fL=>?_⟩
        ·have:=N9.inner s.el (List.mem_map_of_mem (List.mem_of_getElem? hs));rw[show s.el.rs.length=s.rs.length from List.length_map ..]at this;exact this
        ·obtain ⟨g',cap',rfl⟩:=aC hown (by omega)
         have hsW:cg W' w.heap.size (.slice (some ⟨g,0,none⟩) nS nP) ss/\w.heap.size<=W'.heap.size/\Below w.heap.size w W':=by
          rcases hW with rfl|rfl
          ·exact ⟨N9,by have:=Ep.size;simp;omega,Ep.alloc Ep.size _⟩
          ·exact ⟨N9.below ((Below.refl _ _).drew),by have:=Ep.size;simp;omega,(Ep.alloc Ep.size _).drew⟩
         obtain ⟨h1,h2,h3,h4⟩:=cg.grow (r:=⟨l.d,op,l.co,l.ao,l.ln,l.cp,l.wh⟩) hsW.1 hsW.2.1 hs hown hg fL;refine ⟨g',cap',rfl,h3,h4,⟨j+1,_,rfl,by omega,by rw[J0,hm];rfl,hsW.2.2.trans h2,h1,?_⟩⟩;rw[gX];refine hI.rule hk2 hm hs ⟨rfl,rfl,rfl,rfl,rfl,rfl,λhd=>?_,TK⟩;obtain ⟨t,ht,hn⟩:=tL hd;exact ⟨t.nm,by rw[<-hI.1,List.getElem?_map,ht];rfl,hn⟩)
       obtain ⟨i0,hi,hz0,hz1,hz3⟩:=info_parts ID;have hb1:s.rs.length+1<=maxLen:=by unfold maxLen;omega
       have hb2:(s.rs.length+1)*64<=140737488355328:=by omega
       have HO:Hid (∀op:Nat,∀u∈([.int .i64 l.d,.int .i64 op,.string l.co,.slice l.ao l.ln l.cp,.int .i64 l.wh]:List Value),u.oneCell'=true):=by intro op u hu;simp only[List.mem_cons,List.not_mem_nil,or_false]at hu;rcases hu with rfl|rfl|rfl|rfl|rfl<;>rfl
       have D2:m<nS:=Rm;have hgi:(m:Int)<(nS:Int):=by omega
       have hc0:=((show cg (wr.alloc (.cells #[.int .i64 l.at_,.int .i64 l.kd,.string l.st,.int .i64 l.d,.string l.co,.slice l.ao l.ln l.cp,.int .i64 l.wh,.int .i64 l.fl] 219)) w.heap.size (.slice (some ⟨g,0,none⟩) ss.length nP) ss by rw[NW];exact En.out).cells hs).2
       have yM:=aa (af wr (.cells #[.int .i64 l.at_,.int .i64 l.kd,.string l.st,.int .i64 l.d,.string l.co,.slice l.ao l.ln l.cp,.int .i64 l.wh,.int .i64 l.fl] 219));rw[hm];simp only[cv];unfold aU.agg at uS;clear hl gX hsp kz hS hI HI J0 ey hk2 u7 En NW hs hm Rm jb;go_wp2_with fail;obtain ⟨p,hp⟩:∃p,p=wr.heap.size:=⟨_,rfl⟩;rw[<-hp]at yM ⊢
       generalize wr.alloc (.cells #[.int .i64 l.at_,.int .i64 l.kd,.string l.st,.int .i64 l.d,.string l.co,.slice l.ao l.ln l.cp,.int .i64 l.wh,.int .i64 l.fl] 219)=W at *;have hW0:=yM.out;have e0:W.cell? ⟨p,0,none⟩=some (.int .i64 l.at_):=by simp[World.cell?,hW0]
       have e1:W.cell? ⟨p,1,none⟩=some (.int .i64 l.kd):=by simp[World.cell?,hW0]
       have e2:W.cell? ⟨p,2,none⟩=some (.string l.st):=by simp[World.cell?,hW0]
       have e3:W.cell? ⟨p,3,none⟩=some (.int .i64 l.d):=by simp[World.cell?,hW0]
       have e4:W.cell? ⟨p,4,none⟩=some (.string l.co):=by simp[World.cell?,hW0]
       have e5:W.cell? ⟨p,5,none⟩=some (.slice l.ao l.ln l.cp):=by simp[World.cell?,hW0]
       have e6:W.cell? ⟨p,6,none⟩=some (.int .i64 l.wh):=by simp[World.cell?,hW0]
       have e7:W.cell? ⟨p,7,none⟩=some (.int .i64 l.fl):=by simp[World.cell?,hW0]
       clear hW0 yM hp
       go_region_law (first
        | (refine cH rfl (.tmp 46) (.tmp 50) 211 rfl w.heap.size 231 i0 (.agg #[.int .i64 0,.int .i64 0,.string ⟨#[]⟩,.slice none 0 0,.int .i64 0]) 5 64 Tryz.underlying211 hi hz0 hz1 hz3 rfl (by decide) (.slice s.ao s.ln s.cp) s.rs.length (s.rs.map uV.cells).flatten (by rfl) uR.out ⟨w5.heap.size,0,none⟩ 1 1 [.int .i64 l.d,.int .i64 op,.string l.co,.slice l.ao l.ln l.cp,.int .i64 l.wh] (by rfl) (by rfl) fp.out HOO.out hb1 hb2 (by simpa using x5) ?_;intro v' w3 hown hg fL;obtain ⟨g',cap',rfl,y1,y2,HST⟩:=HK.out _ _ _ (by first|exact .inl rfl|exact .inr rfl) hown hg fL;clear hown hg fL)
        | (go_simp;go_at_call 116;refine uS.out.mono ?_;rintro e w5 ⟨gw,op,rfl,tL,TK⟩;obtain ⟨x1,x2,uR,fp,x5,HK⟩:=HKEY.out w5 op gw tL TK;have HOO:=aa (HO.out op);clear gw tL TK))
       all_goals
        clear HKEY uR fp HO HOO uS HK hi hz0 hz1 hz3 e0 e1 e2 e3 e4 e5 e6 e7 x1 x2 x5 y1 y2 hc0;go_wp2_with fail;go_roundg (gk - 1)
        case measure=>omega
        case rel=>exact HST.out
      ·have q2:((l.kd:Int)==2)=false:=by rw[beq_eq_false_iff_ne];omega
       have HST:=aa (show ug w ls (.slice sa nS nP) (gk - 1) (cv (aG (ls.take j)).length) (.int .i64 ((j+1:Nat):Int)) (wr.alloc (.cells #[.int .i64 l.at_,.int .i64 l.kd,.string l.st,.int .i64 l.d,.string l.co,.slice l.ao l.ln l.cp,.int .i64 l.wh,.int .i64 l.fl] 219)) from ⟨j+1,ss,rfl,by omega,by rw[J0],u7.out,En.out,by rw[gX];exact hI.other hk2⟩)
       clear hl gX hsp kz hS hI HI J0 ey hk2 u7 En NW;generalize cv (aG (ls.take j)).length=vc at *;go_wp2_with fail;go_roundg (gk - 1)
       case measure=>omega
       case rel=>exact HST.out
    ·have g1:decide ((j:Int)<(ls.length:Int))=false:=decide_eq_false (by omega);rw[List.take_of_length_le (by omega)]at hI;have ai:=aa (show xc w ls (.returned (.slice sa nS nP)) wr from ⟨kz,_,ss,rfl,hS,hI⟩);clear hI hS kz;go_wp2_with fail;go_ret;exact ai.out
end Go.Proofs.YtgncgdkpkkdaeaaGreatDoor
