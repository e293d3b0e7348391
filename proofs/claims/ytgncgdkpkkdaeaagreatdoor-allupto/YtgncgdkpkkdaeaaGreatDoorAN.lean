import Derived.Test.YtgncgdkpkkdaeaaGreatDoorAM
import Derived.Deep.RegionHeld3
set_option maxRecDepth 20000
set_option maxHeartbeats 4000000
namespace Go.Proofs.YtgncgdkpkkdaeaaGreatDoor
open Go.RowKit bu
variable {names:List ByteArray} {pre:List aW} {B cap EJ g k QM m t:Nat} {pW:Option Addr} {l:aW} {a0 a1 a2 a3 a4 sv:Value} {W w w3:World}
theorem kF(s:ByteArray)(w:World)(h:s.size<=281474976710656):Calls Tryz.prog 68 #[.string s] w λe w'=>e=.returned (.string s)/\Below w.heap.size w w':=by
 have HC:=aa (Tryz.stringslite_Clone s w h);go_enter Tryz.func68,Tryz.ntmps68;go_wp2_with fail;refine HC.out.mono ?_;rintro e w1 ⟨rfl,hb⟩;have HB:=aa hb;clear hb;go_wp2_with fail;go_ret;exact ⟨rfl,HB.out⟩
structure xx where
 k:Nat
 op:Nat
 co:ByteArray
 ao:Option Addr
 ln:Nat
 cp:Nat
 wh:Nat
def xx.cells(r:xx):List Value:=[.int .i64 r.k,.int .i64 r.op,.string r.co,.slice r.ao r.ln r.cp,.int .i64 r.wh]
structure nO where
 nm:ByteArray
 ao:Option Addr
 ln:Nat
 cp:Nat
 rs:List xx
def nO.el(s:nO):El:=⟨[.string s.nm],.slice s.ao s.ln s.cp,[],s.rs.map xx.cells⟩
def cJ(w:World)(B:Nat)(sv:Value)(ss:List nO):Prop:=fW w B 213 231 2 5 sv (ss.map nO.el)
variable {ss:List nO}
theorem cJ.below{w':World}(h:cJ w B sv ss)(hb:Below w.heap.size w w'):cJ w' B sv ss:=fW.below h hb
theorem cJ.form(h:cJ w B sv ss):∃ao cap,sv=.slice ao ss.length cap/\(0<ss.length->∃g,ao=some ⟨g,0,none⟩):=by
 have h1:=h.outer;rw[fy]at h1;rcases h1.2 with ⟨h1,h0⟩|⟨g,cap,cur,h1,_⟩
 ·exact ⟨none,0,by rw[h1,h0],λh=>by omega⟩
 ·exact ⟨some ⟨g,0,none⟩,cap,h1,λ_=>⟨g,rfl⟩⟩
variable {s:nO}
theorem cJ.cells(h:cJ w B (.slice (some ⟨g,0,none⟩) ss.length cap) ss){i:Nat}(hi:ss[i]?=some s):
  w.cell? ⟨g,i*2,none⟩=some (.string s.nm)/\w.cell? ⟨g,i*2+1,none⟩=some (.slice s.ao s.ln s.cp):=by
 have h1:=h.outer;rw[fy]at h1;have hi':(ss.map nO.el)[i]?=some s.el:=by rw[fX,hi];rfl
 have f:=λj (hj:j<2) (u:Value) (hu:s.el.cells[j]?=some u)=>(bG h1 (show ((ss.map nO.el).flatMap El.cells)[i*2+j]?=some u by rw[mN h.sized hi' j hj];exact hu)).1
 exact ⟨f 0 (by omega) _ rfl,f 1 (by omega) _ rfl⟩
theorem Sk(L:Nat)(st:ByteArray)(s:nO)(w:World)(c:w.cell? ⟨L,2,none⟩=some (.string st)):
  Calls Tryz.prog 158 #[.agg #[.string s.nm,.slice s.ao s.ln s.cp],.pointer (some ⟨L,0,none⟩)] w (ew (Below w.heap.size w) (s.nm.data.toList=st.data.toList)):=by
 have c':=aw c (.cells #[.string s.nm,.slice s.ao s.ln s.cp] 213);have HG:=aa ((Below.refl w.heap.size w).alloc (bc _) (.cells #[.string s.nm,.slice s.ao s.ln s.cp] 213));by_cases hq:s.nm.data.toList=st.data.toList
 ·have q2:(s.nm.toList==st.toList)=true:=by rw[ByteArray.toList_eq,ByteArray.toList_eq,hq];simp
  have HX:=aa hq;clear hq;go_enter Tryz.func158,Tryz.ntmps158;go_wp2_with fail;go_ret;exact ew.yes HX.out HG.out
 ·have q2:(s.nm.toList==st.toList)=false:=by rw[er,ByteArray.toList_eq,ByteArray.toList_eq];exact hq
  have HX:=aa hq;clear hq;go_enter Tryz.func158,Tryz.ntmps158;go_wp2_with fail;go_ret;exact ew.no HX.out HG.out
theorem Gl:Enters 158:=λ_ _=>by rfl
def Gm(w:World)(ss:List nO)(st:ByteArray)(e:Ending)(w':World):Prop:=
 Below w.heap.size w w'/\((∃(j:Nat) (s:nO),e=.returned (.int .i64 j)/\ss[j]?=some s/\s.nm.data.toList=st.data.toList)∨(e=.returned (.int .i64 (-1))/\∀s∈ss,s.nm.data.toList≠st.data.toList))
def OD(w:World)(ss:List nO)(st:ByteArray)(k:Nat)(i:Value)(wr:World):Prop:=
 ∃j:Nat,i=.int .i64 j/\j+k=ss.length/\Below w.heap.size w wr/\∀s∈ss.take j,s.nm.data.toList≠st.data.toList
theorem Dp(B L:Nat)(sv:Value)(ss:List nO)(st:ByteArray)(w:World)(hL:cJ w B sv ss)(c:w.cell? ⟨L,2,none⟩=some (.string st))(hb:∃o,w.heap[L]?=some o)(hz:ss.length<=1000000):
  Calls Tryz.prog 157 #[sv,.func (.func 158) #[] #[.pointer (some ⟨L,0,none⟩)]] w (Gm w ss st):=by
 obtain ⟨ao,cap,rfl,hao⟩:=hL.form;have HL:=aa hL;have CZ:=aa hao;have HC:=aa (λ(w':World) (rq:Below w.heap.size w w')=>show w'.cell? ⟨L,2,none⟩=some (.string st) by obtain ⟨o,ho⟩:=hb;have:=rq.block L (ae ho);rw[<-c];simp only[World.cell?,this])
 have he:=Gl;unfold Enters at he;clear hL hao c hb;go_enter Tryz.func157,Tryz.ntmps157;go_wp2_with fail;go_loopg [8] ss.length (λk i wr=>OD w ss st k i wr)
 case atStart=>exact ⟨0,rfl,by omega,Below.refl _ _,λs hs=>by simp at hs⟩
 case round=>
  obtain ⟨j,rfl,hk,lS,hf⟩:=hrel;by_cases hlt:j<ss.length
  ·have g1:decide ((j:Int)<(ss.length:Int))=true:=cF (by omega);obtain ⟨q,rfl⟩:=CZ.out (by omega);obtain ⟨s,hs⟩:∃s,ss[j]?=some s:=⟨ss[j],cB hlt⟩;have iP:ss.take (j+1)=ss.take j++[s]:=by have hl':=hs;rw[cB hlt]at hl';rw[List.take_succ_eq_append_getElem hlt,Option.some.inj hl']
   obtain ⟨c0,c1⟩:=(HL.out.below lS).cells hs;have Ad:=aa (Sk L st s wr (HC.out wr lS));have HF:=aa hf;have HS:=aa hs;have BK:=aa iP;have vu:=aa lS;have yv:j+1<=9223372036854775807:=by omega
   clear hf hs iP lS;go_wp2_with fail;refine Ad.out.mono ?_;rintro e w1 ⟨b,rfl,hb,fu⟩;have wF:=vu.out.trans (fu.mono vu.out.size)
   cases b with
   | true=>
    have aq:=aa (show Gm w ss st (.returned (.int .i64 j)) w1 from ⟨wF,.inl ⟨j,s,rfl,HS.out,hb.1 rfl⟩⟩);clear hb fu wF Ad HF HS BK vu;go_wp2_with fail;go_ret;exact aq.out
   | false=>
    have HST:=aa (show OD w ss st (gk - 1) (.int .i64 ((j+1:Nat):Int)) w1 from ⟨j+1,rfl,by omega,wF,by
     rw[BK.out];intro s' hs';rcases List.mem_append.1 hs' with h|h
     ·exact HF.out s' h
     ·rw[List.mem_singleton.1 h];exact λh=>by have:=hb.2 h;cases this⟩)
    clear hb fu wF Ad HF HS BK vu;go_wp2_with fail;go_roundg (gk - 1)
    case measure=>omega
    case rel=>exact HST.out
  ·have g1:decide ((j:Int)<(ss.length:Int))=false:=bV (by omega);have aq:=aa (show Gm w ss st (.returned (.int .i64 (-1))) wr from ⟨lS,.inr ⟨rfl,by rw[List.take_of_length_le (by omega)]at hf;exact hf⟩⟩);clear hf lS;go_wp2_with fail;go_ret;exact aq.out
def Gn(w:World)(ss:List nO)(l:aW)(e:Ending)(w':World):Prop:=
 Below w.heap.size w w'/\∃op:Nat,e=.returned (.agg #[.int .i64 l.d,.int .i64 op,.string l.co,.slice l.ao l.ln l.cp,.int .i64 l.wh])/\(l.d=1->∃s,ss[op]?=some s/\s.nm.data.toList=l.st.data.toList)/\(l.d≠1->op=0)
theorem Wf(h:w.heap[k]?=some (.cells #[a0,a1,a2,a3,a4] t (0,0)))(b0 b1 b2 b3 b4:Value):
  let X:=((((w.setCell ⟨k,0,none⟩ b0).setCell ⟨k,1,none⟩ b1).setCell ⟨k,2,none⟩ b2).setCell ⟨k,3,none⟩ b3).setCell ⟨k,4,none⟩ b4
  X.heap[k]?=some (.cells #[b0,b1,b2,b3,b4] t (0,0))/\(∀j,j≠k->X.heap[j]?=w.heap[j]?)/\(∀B,B<=k->Below B w X)/\X.heap.size=w.heap.size:=by
 refine ⟨?_,λj hj=>?_,λB hB=>?_,by simp[World.setCell]⟩
 ·exact ah _ k 4 _ (ah _ k 3 _ (ah _ k 2 _ (ah _ k 1 _ (ah _ k 0 _ h))))
 ·rw[eV _ _ _ _ hj,eV _ _ _ _ hj,eV _ _ _ _ hj,eV _ _ _ _ hj,eV _ _ _ _ hj]
 ·exact (((((Below.refl B w).setCell hB _).setCell hB _).setCell hB _).setCell hB _).setCell hB _
theorem cells5(h:w.heap[k]?=some (.cells #[a0,a1,a2,a3,a4] t (0,0))):
  w.cell? ⟨k,0,none⟩=some a0/\w.cell? ⟨k,1,none⟩=some a1/\w.cell? ⟨k,2,none⟩=some a2/\w.cell? ⟨k,3,none⟩=some a3/\w.cell? ⟨k,4,none⟩=some a4/\w.frozen? ⟨k,0,none⟩=false/\w.frozen? ⟨k,1,none⟩=false/\w.frozen? ⟨k,2,none⟩=false/\w.frozen? ⟨k,3,none⟩=false/\w.frozen? ⟨k,4,none⟩=false:=by
 simp[World.cell?,World.frozen?,h]
theorem AV(B:Nat)(sv:Value)(ss:List nO)(l:aW)(w:World)(hL:cJ w B sv ss)(hz:ss.length<=1000000)(LS:l.co.size<=281474976710656)(hop:l.d=1->∃s∈ss,s.nm.data.toList=l.st.data.toList):
  Calls Tryz.prog 116 #[l.agg,sv] w (Gn w ss l):=by
 obtain ⟨ao,cap,rfl,hao⟩:=hL.form;unfold aW.agg;have HL:=aa hL;have Qt:=aa hop;clear hL hao hop;go_enter Tryz.func116,Tryz.ntmps116;go_wp2_with fail;obtain ⟨q,hq⟩:∃q,q=w.heap.size:=⟨_,rfl⟩;rw[<-hq]
 have gZ:=aa (show Below w.heap.size w ((w.alloc (.cells #[.int .i64 l.at_,.int .i64 l.kd,.string l.st,.int .i64 l.d,.string l.co,.slice l.ao l.ln l.cp,.int .i64 l.wh,.int .i64 l.fl] 219)).alloc (.cells #[.int .i64 0,.int .i64 0,.string ⟨#[]⟩,.slice none 0 0,.int .i64 0] 231)) from (cq _ _).alloc (by simp) _)
 have pV:((w.alloc (.cells #[.int .i64 l.at_,.int .i64 l.kd,.string l.st,.int .i64 l.d,.string l.co,.slice l.ao l.ln l.cp,.int .i64 l.wh,.int .i64 l.fl] 219)).alloc (.cells #[.int .i64 0,.int .i64 0,.string ⟨#[]⟩,.slice none 0 0,.int .i64 0] 231)).heap[q]?=some (.cells #[.int .i64 l.at_,.int .i64 l.kd,.string l.st,.int .i64 l.d,.string l.co,.slice l.ao l.ln l.cp,.int .i64 l.wh,.int .i64 l.fl] 219):=by subst hq;exact af (ag _ _)
 have ED:((w.alloc (.cells #[.int .i64 l.at_,.int .i64 l.kd,.string l.st,.int .i64 l.d,.string l.co,.slice l.ao l.ln l.cp,.int .i64 l.wh,.int .i64 l.fl] 219)).alloc (.cells #[.int .i64 0,.int .i64 0,.string ⟨#[]⟩,.slice none 0 0,.int .i64 0] 231)).heap[q+1]?=some (.cells #[.int .i64 0,.int .i64 0,.string ⟨#[]⟩,.slice none 0 0,.int .i64 0] 231):=aD _ _ _ (by rw[hq];simp)
 have IQ:=aa (show ((w.alloc (.cells #[.int .i64 l.at_,.int .i64 l.kd,.string l.st,.int .i64 l.d,.string l.co,.slice l.ao l.ln l.cp,.int .i64 l.wh,.int .i64 l.fl] 219)).alloc (.cells #[.int .i64 0,.int .i64 0,.string ⟨#[]⟩,.slice none 0 0,.int .i64 0] 231)).heap.size=q+2 by rw[hq];simp)
 generalize ((w.alloc (.cells #[.int .i64 l.at_,.int .i64 l.kd,.string l.st,.int .i64 l.d,.string l.co,.slice l.ao l.ln l.cp,.int .i64 l.wh,.int .i64 l.fl] 219)).alloc (.cells #[.int .i64 0,.int .i64 0,.string ⟨#[]⟩,.slice none 0 0,.int .i64 0] 231))=W at *;have HQ:=aa hq;clear hq;have d1:W.cell? ⟨q,1,none⟩=some (.int .i64 l.kd):=by simp[World.cell?,pV]
 have d2:W.cell? ⟨q,2,none⟩=some (.string l.st):=by simp[World.cell?,pV]
 have d3:W.cell? ⟨q,3,none⟩=some (.int .i64 l.d):=by simp[World.cell?,pV]
 have d4:W.cell? ⟨q,4,none⟩=some (.string l.co):=by simp[World.cell?,pV]
 have d5:W.cell? ⟨q,5,none⟩=some (.slice l.ao l.ln l.cp):=by simp[World.cell?,pV]
 have d6:W.cell? ⟨q,6,none⟩=some (.int .i64 l.wh):=by simp[World.cell?,pV]
 have Q0:=aa pV;have RT:=aa ED;clear pV ED
 have HBK:=aa (λ(w5:World) (hb:Below (W.alloc (.cells #[.int .i64 0,.int .i64 0,.string ⟨#[]⟩,.slice none 0 0,.int .i64 0] 231)).drew.heap.size (W.alloc (.cells #[.int .i64 0,.int .i64 0,.string ⟨#[]⟩,.slice none 0 0,.int .i64 0] 231)).drew w5)=>show Below w.heap.size w w5/\q+3<=w5.heap.size/\(w5.cell? ⟨q,3,none⟩=some (.int .i64 l.d)/\w5.cell? ⟨q,4,none⟩=some (.string l.co)/\w5.cell? ⟨q,5,none⟩=some (.slice l.ao l.ln l.cp)/\w5.cell? ⟨q,6,none⟩=some (.int .i64 l.wh))/\(w5.heap[q]?=W.heap[q]?/\w5.heap[q+1]?=W.heap[q+1]?)/\w5.heap[W.heap.size]?=some (.cells #[.int .i64 0,.int .i64 0,.string ⟨#[]⟩,.slice none 0 0,.int .i64 0] 231)/\(w5.cell? ⟨W.heap.size,0,none⟩=some (.int .i64 0)/\w5.cell? ⟨W.heap.size,1,none⟩=some (.int .i64 0)/\w5.cell? ⟨W.heap.size,2,none⟩=some (.string ⟨#[]⟩)/\w5.cell? ⟨W.heap.size,3,none⟩=some (.slice none 0 0)/\w5.cell? ⟨W.heap.size,4,none⟩=some (.int .i64 0)/\w5.frozen? ⟨W.heap.size,0,none⟩=false/\w5.frozen? ⟨W.heap.size,1,none⟩=false/\w5.frozen? ⟨W.heap.size,2,none⟩=false/\w5.frozen? ⟨W.heap.size,3,none⟩=false/\w5.frozen? ⟨W.heap.size,4,none⟩=false) from by
  have h0:=(hb.block q (show q<(W.alloc (.cells #[.int .i64 0,.int .i64 0,.string ⟨#[]⟩,.slice none 0 0,.int .i64 0] 231)).heap.size by have:=IQ.out;simp;omega)).trans (Below.heap_alloc _ _ _ (by have:=IQ.out;omega));have JL:=h0.trans Q0.out
  have h0b:=(hb.block (q+1) (show q+1<(W.alloc (.cells #[.int .i64 0,.int .i64 0,.string ⟨#[]⟩,.slice none 0 0,.int .i64 0] 231)).heap.size by have:=IQ.out;simp;omega)).trans (Below.heap_alloc _ _ _ (by have:=IQ.out;omega))
  have h1:w5.heap[W.heap.size]?=some (.cells #[.int .i64 0,.int .i64 0,.string ⟨#[]⟩,.slice none 0 0,.int .i64 0] 231):=(hb.block W.heap.size (show W.heap.size<(W.alloc (.cells #[.int .i64 0,.int .i64 0,.string ⟨#[]⟩,.slice none 0 0,.int .i64 0] 231)).heap.size by simp)).trans (ag _ _)
  exact ⟨(gZ.out.alloc gZ.out.size _).drew.trans (hb.mono (by have:=(gZ.out.alloc gZ.out.size (.cells #[.int .i64 0,.int .i64 0,.string ⟨#[]⟩,.slice none 0 0,.int .i64 0] 231)).size;exact this)),by have:=hb.size;have h2:=IQ.out;simp at this;omega,by simp[World.cell?,JL],⟨h0,h0b⟩,h1,by simp[World.cell?,World.frozen?,h1]⟩)
 have HBM:=aa (λ(w5:World) (hb:Below W.drew.heap.size W.drew w5)=>show Below w.heap.size w w5/\q+2<=w5.heap.size/\(w5.cell? ⟨q,3,none⟩=some (.int .i64 l.d)/\w5.cell? ⟨q,4,none⟩=some (.string l.co)/\w5.cell? ⟨q,5,none⟩=some (.slice l.ao l.ln l.cp)/\w5.cell? ⟨q,6,none⟩=some (.int .i64 l.wh))/\w5.heap[q]?=W.heap[q]?/\w5.heap[q+1]?=W.heap[q+1]? from by
  have h0:=(hb.block q (show q<W.heap.size by have:=IQ.out;omega));have JL:=h0.trans Q0.out;exact ⟨gZ.out.drew.trans (hb.mono gZ.out.size),by have:=hb.size;have h2:=IQ.out;simp at this;omega,by simp[World.cell?,JL],h0,hb.block (q+1) (show q+1<W.heap.size by have:=IQ.out;omega)⟩)
 have aai:W.heap.size≠q:=by have:=IQ.out;omega
 have aaj:q≠W.heap.size:=by have:=IQ.out;omega
 go_region_held3 (λw'=>w'.cell? ⟨q,3,none⟩=some (.int .i64 l.d)/\w'.cell? ⟨q,4,none⟩=some (.string l.co)/\w'.cell? ⟨q,5,none⟩=some (.slice l.ao l.ln l.cp)/\w'.cell? ⟨q,6,none⟩=some (.int .i64 l.wh))
  (first
   | with_reducible exact BG
   | go_keep)
  (first
   | (
     go_at_call 68;refine (kF l.co _ LS).mono ?_;rintro e w5 ⟨rfl,iq⟩;first
     | ((with_reducible have hX:=HBK.out w5 iq);obtain ⟨OE,OG,BG,OH,aak,r0,r1,r2,r3,r4,f0,f1,f2,f3,f4⟩:=hX;have CA:=aa OE;have Ev:=aa OG;have KD:=aa OH;have aal:=aa aak;clear iq OE OG OH aak)
     | ((with_reducible have hX:=HBM.out w5 iq);obtain ⟨OE,OG,BG,OH⟩:=hX;have CA:=aa OE;have Ev:=aa OG;have KD:=aa OH;clear iq OE OG OH)))
 all_goals first
  | (
    
    obtain ⟨x1,x2,x3,x4⟩:=Wf aal.out (.int .i64 l.d) (.int .i64 0) (.string l.co) (.slice l.ao l.ln l.cp) (.int .i64 l.wh)
    generalize hX:((((w5.setCell ⟨W.heap.size,0,none⟩ (.int .i64 l.d)).setCell ⟨W.heap.size,1,none⟩ (.int .i64 0)).setCell ⟨W.heap.size,2,none⟩ (.string l.co)).setCell ⟨W.heap.size,3,none⟩ (.slice l.ao l.ln l.cp)).setCell ⟨W.heap.size,4,none⟩ (.int .i64 l.wh)=X at *
    have Wh:=aa (show X.heap[q]?=some (.cells #[.int .i64 l.at_,.int .i64 l.kd,.string l.st,.int .i64 l.d,.string l.co,.slice l.ao l.ln l.cp,.int .i64 l.wh,.int .i64 l.fl] 219)/\X.heap[W.heap.size]?=some (.cells #[.int .i64 l.d,.int .i64 0,.string l.co,.slice l.ao l.ln l.cp,.int .i64 l.wh] 231)/\Below w.heap.size w X/\W.heap.size≠q/\w.heap.size<=W.heap.size/\W.heap.size<X.heap.size/\X.heap[q+1]?=some (.cells #[.int .i64 0,.int .i64 0,.string ⟨#[]⟩,.slice none 0 0,.int .i64 0] 231)/\W.heap.size≠q+1 from ⟨(x2 q aaj).trans (KD.out.1.trans Q0.out),x1,CA.out.trans (x3 _ gZ.out.size),aai,gZ.out.size,by have:=Ev.out;have h2:=IQ.out;omega,(x2 (q+1) (by have h2:=IQ.out;omega)).trans (KD.out.2.trans RT.out),by have h2:=IQ.out;omega⟩)
    clear x1 x2 x3 x4 hX r0 r1 r2 r3 r4 f0 f1 f2 f3 f4 aal;obtain ⟨R,hR⟩:∃R,R=W.heap.size:=⟨_,rfl⟩;rw[<-hR]at Wh ⊢
    have HX:Hid (X.heap[q]?=some (.cells #[.int .i64 l.at_,.int .i64 l.kd,.string l.st,.int .i64 l.d,.string l.co,.slice l.ao l.ln l.cp,.int .i64 l.wh,.int .i64 l.fl] 219)/\X.heap[R]?=some (.cells #[.int .i64 l.d,.int .i64 0,.string l.co,.slice l.ao l.ln l.cp,.int .i64 l.wh] 231)/\Below w.heap.size w X/\R≠q/\w.heap.size<=R/\R<X.heap.size/\X.heap[q+1]?=some (.cells #[.int .i64 0,.int .i64 0,.string ⟨#[]⟩,.slice none 0 0,.int .i64 0] 231)/\R≠q+1):=Wh
    clear Wh hR)
  | (
    
    have Wh:=aa (show (w5.alloc (.cells #[.int .i64 l.d,.int .i64 0,.string l.co,.slice l.ao l.ln l.cp,.int .i64 l.wh] 231)).heap[q]?=some (.cells #[.int .i64 l.at_,.int .i64 l.kd,.string l.st,.int .i64 l.d,.string l.co,.slice l.ao l.ln l.cp,.int .i64 l.wh,.int .i64 l.fl] 219)/\(w5.alloc (.cells #[.int .i64 l.d,.int .i64 0,.string l.co,.slice l.ao l.ln l.cp,.int .i64 l.wh] 231)).heap[w5.heap.size]?=some (.cells #[.int .i64 l.d,.int .i64 0,.string l.co,.slice l.ao l.ln l.cp,.int .i64 l.wh] 231)/\Below w.heap.size w (w5.alloc (.cells #[.int .i64 l.d,.int .i64 0,.string l.co,.slice l.ao l.ln l.cp,.int .i64 l.wh] 231))/\w5.heap.size≠q/\w.heap.size<=w5.heap.size/\w5.heap.size<(w5.alloc (.cells #[.int .i64 l.d,.int .i64 0,.string l.co,.slice l.ao l.ln l.cp,.int .i64 l.wh] 231)).heap.size/\(w5.alloc (.cells #[.int .i64 l.d,.int .i64 0,.string l.co,.slice l.ao l.ln l.cp,.int .i64 l.wh] 231)).heap[q+1]?=some (.cells #[.int .i64 0,.int .i64 0,.string ⟨#[]⟩,.slice none 0 0,.int .i64 0] 231)/\w5.heap.size≠q+1 from ⟨af (KD.out.1.trans Q0.out),ag _ _,CA.out.alloc CA.out.size _,by have:=Ev.out;omega,CA.out.size,by simp,af (KD.out.2.trans RT.out),by have:=Ev.out;omega⟩)
    obtain ⟨R,hR⟩:∃R,R=w5.heap.size:=⟨_,rfl⟩;rw[<-hR]at Wh ⊢;generalize w5.alloc (.cells #[.int .i64 l.d,.int .i64 0,.string l.co,.slice l.ao l.ln l.cp,.int .i64 l.wh] 231)=X at *
    have HX:Hid (X.heap[q]?=some (.cells #[.int .i64 l.at_,.int .i64 l.kd,.string l.st,.int .i64 l.d,.string l.co,.slice l.ao l.ln l.cp,.int .i64 l.wh,.int .i64 l.fl] 219)/\X.heap[R]?=some (.cells #[.int .i64 l.d,.int .i64 0,.string l.co,.slice l.ao l.ln l.cp,.int .i64 l.wh] 231)/\Below w.heap.size w X/\R≠q/\w.heap.size<=R/\R<X.heap.size/\X.heap[q+1]?=some (.cells #[.int .i64 0,.int .i64 0,.string ⟨#[]⟩,.slice none 0 0,.int .i64 0] 231)/\R≠q+1):=Wh
    clear Wh hR)
 all_goals
  clear HBK HBM Q0 RT gZ IQ CA Ev KD BG d1 d2 d3 d4 d5 d6 aai aaj;have hx0:=HX.out.1;have d3:X.cell? ⟨q,3,none⟩=some (.int .i64 l.d):=by simp[World.cell?,hx0]
  obtain ⟨r0,r1,r2,r3,r4,-⟩:=cells5 HX.out.2.1;obtain ⟨s0,s1,s2,s3,s4,f0,f1,f2,f3,f4⟩:=cells5 HX.out.2.2.2.2.2.2.1;clear hx0;by_cases hd:l.d=1
  ·have q1:((l.d:Int)==1)=true:=by rw[hd];rfl
   have HD:=aa hd;have Zv:=aa (HL.out.below HX.out.2.2.1);have d2:X.cell? ⟨q,2,none⟩=some (.string l.st):=by have hx0:=HX.out.1;simp[World.cell?,hx0]
   have xu:=aa (Dp B q (.slice ao ss.length cap) ss l.st X Zv.out d2 ⟨_,HX.out.1⟩ hz);clear hd d2 Zv;go_wp2_with fail;refine xu.out.mono ?_;rintro e X1 ⟨hb1,⟨j,t,rfl,ht,gF⟩|⟨rfl,hno⟩⟩
   ·have uu:=(hb1.block R HX.out.2.2.2.2.2.1).trans HX.out.2.1;have Aq:=(hb1.block (q+1) (ae HX.out.2.2.2.2.2.2.1)).trans HX.out.2.2.2.2.2.2.1;have tX:=HX.out.2.2.2.2.2.2.2;have qh:=Ne.symm tX;have HW1:=aa (HX.out.2.2.1.trans (hb1.mono HX.out.2.2.1.size))
    have aq:=aa (show Gn w ss l (.returned (.agg #[.int .i64 l.d,.int .i64 j,.string l.co,.slice l.ao l.ln l.cp,.int .i64 l.wh])) ((((((X1.setCell ⟨R,1,none⟩ (.int .i64 j)).setCell ⟨q+1,0,none⟩ (.int .i64 l.d)).setCell ⟨q+1,1,none⟩ (.int .i64 j)).setCell ⟨q+1,2,none⟩ (.string l.co)).setCell ⟨q+1,3,none⟩ (.slice l.ao l.ln l.cp)).setCell ⟨q+1,4,none⟩ (.int .i64 l.wh)) from ⟨(HW1.out.setCell HX.out.2.2.2.2.1 _).trans ((Wf ((eV _ _ _ _ qh).trans Aq) _ _ _ _ _).2.2.1 _ (by have:=HQ.out;omega)),j,rfl,λ_=>⟨t,ht,gF⟩,λh=>absurd HD.out h⟩)
    clear r0 r1 r2 r3 r4 s0 s1 s2 s3 s4 f0 f1 f2 f3 f4;obtain ⟨r0,r1,r2,r3,r4,-,e1,-⟩:=cells5 uu;obtain ⟨s0,s1,s2,s3,s4,f0,f1,f2,f3,f4⟩:=cells5 Aq;clear hb1 ht gF uu Aq HX xu HW1 d3;go_wp2_with fail;exact bodyPost_ret (v:=.agg #[.int .i64 l.d,.int .i64 j,.string l.co,.slice l.ao l.ln l.cp,.int .i64 l.wh]) (by simp[results,Tryz.results116,go_sem, *]) rfl aq.out
   ·obtain ⟨t,ht,gF⟩:=Qt.out HD.out;exact absurd gF (hno t ht)
  ·have q1:((l.d:Int)==1)=false:=by rw[er];omega
   have aq:=aa (show Gn w ss l (.returned (.agg #[.int .i64 l.d,.int .i64 (0:Nat),.string l.co,.slice l.ao l.ln l.cp,.int .i64 l.wh])) (((((X.setCell ⟨q+1,0,none⟩ (.int .i64 l.d)).setCell ⟨q+1,1,none⟩ (.int .i64 0)).setCell ⟨q+1,2,none⟩ (.string l.co)).setCell ⟨q+1,3,none⟩ (.slice l.ao l.ln l.cp)).setCell ⟨q+1,4,none⟩ (.int .i64 l.wh)) from ⟨HX.out.2.2.1.trans ((Wf HX.out.2.2.2.2.2.2.1 _ _ _ _ _).2.2.1 _ (by have:=HQ.out;omega)),0,rfl,λh=>absurd h hd,λ_=>rfl⟩)
   clear hd HX;go_wp2_with fail;exact bodyPost_ret (v:=.agg #[.int .i64 l.d,.int .i64 0,.string l.co,.slice l.ao l.ln l.cp,.int .i64 l.wh]) (by simp[results,Tryz.results116,go_sem, *]) rfl aq.out
theorem Gp:(Tryz.prog.info? 213).map (λi=>(i.zero,i.size,i.bytes))=some (some (.agg #[.string ⟨#[]⟩,.slice none 0 0]),2,40):=by kernel_rfl
theorem KE:(Tryz.prog.info? 231).map (λi=>(i.zero,i.size,i.bytes))=some (some (.agg #[.int .i64 0,.int .i64 0,.string ⟨#[]⟩,.slice none 0 0,.int .i64 0]),5,64):=by kernel_rfl
def wG(n:ByteArray):nO:=⟨n,none,0,0,[]⟩
theorem cJ.row(h:cJ w B sv ss):w.ownsRow B 213 2 sv ss.length ((ss.map nO.el).flatMap El.cells):=by
 have:=h.outer
 rwa [fy]at this
theorem cJ.push{v':Value}{n:ByteArray}(h:cJ W B sv ss)(hB:B<=W.heap.size)
  (hown:w3.ownsRow B 213 2 v' (ss.length+1) ((ss.map nO.el).flatMap El.cells++[.string n,.slice none 0 0])) (hg:W.grownBy w3 sv.ownBlock):cJ w3 B v' (ss++[wG n])/\Below B W w3:=by
 refine ⟨?_,eR hB hg λk e=>(ar h.outer e).1⟩;have:=fW.push (x:=(wG n).el) h (by decide) rfl rfl rfl (by rw[fy];exact hown) hg;unfold cJ;rw[List.map_append];exact this
def Gq(w:World)(ls:List aW)(k:Nat)(vs:Value)(i:Value)(wr:World):Prop:=
 ∃(j:Nat) (ss:List nO),i=.int .i64 j/\j+k=ls.length/\Below w.heap.size w wr/\cJ wr w.heap.size vs ss/\ss=(aK (ls.take j)).map wG
variable {r:xx}
theorem cJ.grow{n:Nat}(h:cJ W B (.slice (some ⟨g,0,none⟩) n cap) ss)(hB:B<=W.heap.size)(hi:ss[m]?=some s)
  (hown:w3.ownsRow B 231 5 (.slice pW QM EJ) (s.rs.length+1) ((s.rs.map xx.cells).flatten++r.cells)) (hg:W.grownBy w3 (Value.slice s.ao s.ln s.cp).ownBlock) (fD:(Value.slice pW QM EJ).ownBlock=(Value.slice s.ao s.ln s.cp).ownBlock∨(Value.slice pW QM EJ).ownBlock=some W.heap.size):
  cJ (w3.setCell ⟨g,m*2+1,none⟩ (.slice pW QM EJ)) B (.slice (some ⟨g,0,none⟩) n cap) (ss.set m ⟨s.nm,pW,QM,EJ,s.rs++[r]⟩)/\Below B W (w3.setCell ⟨g,m*2+1,none⟩ (.slice pW QM EJ))/\w3.cell? ⟨g,m*2+1,none⟩=some (.slice s.ao s.ln s.cp)/\w3.frozen? ⟨g,m*2+1,none⟩=false:=by
 have R9:(ss.map nO.el)[m]?=some s.el:=by rw[fX,hi];rfl
 have hm:s.el∈ss.map nO.el:=bn R9;obtain ⟨hgB,c2,hgc⟩:=ar (k:=g) h.outer rfl;have hN:=fW.grow (w':=w3) (v':=.slice pW QM EJ) (r:=r.cells) h (by decide) R9 rfl (by rw[show s.el.rs.length=s.rs.length from fy ..];exact hown) hg fD;have hb:Below B W w3:=eR hB hg (λk e=>(ar (h.inner _ hm) e).1)
 have Sa:some g≠(Value.slice s.ao s.ln s.cp).ownBlock:=λe=>by obtain ⟨_,c1,h1⟩:=ar (h.inner _ hm) e.symm;rw[h1]at hgc;simp only[fA,Obj.cells.injEq]at hgc;exact absurd hgc.2.1 (by decide)
 have h3:w3.heap[g]?=W.heap[g]?:=hg.block g (ae hgc) Sa;have hrow:=h.row
 have hn:n=ss.length:=by
  rcases hrow.2 with ⟨h0,_⟩|⟨g',cap',cur,e1,_⟩
  ·cases h0
  ·cases e1;rfl
 subst hn;have hc:=bG hrow (j:=m*2+1) (u:=.slice s.ao s.ln s.cp) (by rw[mN h.sized R9 1 (by omega)];rfl);refine ⟨?_,hb.setCell hgB _,?_,?_⟩
 ·have e2:((ss.set m ⟨s.nm,pW,QM,EJ,s.rs++[r]⟩).map nO.el)=(ss.map nO.el).set m { s.el with rv:=.slice pW QM EJ,rs:=s.el.rs++[r.cells] }:=by rw[List.map_set];simp[nO.el]
  unfold cJ;rw[e2];exact hN
 ·rw[<-hc.1];simp only[World.cell?,h3]
 ·rw[<-hc.2];simp only[World.frozen?,h3]
def Wi(names:List ByteArray)(l:aW)(r:xx):Prop:=
 r.k=l.d/\r.co=l.co/\r.ao=l.ao/\r.ln=l.ln/\r.cp=l.cp/\r.wh=l.wh/\(l.d=1->∃n,names[r.op]?=some n/\n.data.toList=l.st.data.toList)/\(l.d≠1->r.op=0)
def sec:Nat->List aW->Nat->List aW
 | _,[],_=>[]
 | c,l::t,i=>if l.kd=1 then sec (c+1) t i else if l.kd=2/\i+1=c then l::sec c t i else sec c t i
theorem Dq(pre:List aW)(l:aW)(i:Nat):∀c,sec c (pre++[l]) i=sec c pre i++(if l.kd=2/\i+1=c+(aK pre).length then [l] else []):=by
 induction pre with
 | nil=>
  intro c;have hs:(aK []).length=0:=rfl;rw[hs,Nat.add_zero];simp only[List.nil_append,sec];by_cases h1:l.kd=1
  ·rw[if_pos h1,if_neg (λh=>by omega)]
  ·rw[if_neg h1];simp
 | cons a t ih=>
  intro c;have hs:(aK (a::t)).length=(if a.kd=1 then 1 else 0)+(aK t).length:=by unfold aK;rw[List.filterMap_cons];by_cases h:a.kd=1<;>simp[h];omega
  simp only[List.cons_append,sec];rw[hs];by_cases h1:a.kd=1
  ·rw[if_pos h1,if_pos h1,if_pos h1,ih];simp only[Nat.add_assoc]
  ·rw[if_neg h1,if_neg h1,if_neg h1,Nat.zero_add];by_cases h2:a.kd=2/\i+1=c
   ·rw[if_pos h2,if_pos h2,ih];rfl
   ·rw[if_neg h2,if_neg h2,ih]
def Zip(R:aW->xx->Prop)(xs:List aW)(bs:List xx):Prop:=xs.length=bs.length/\∀(j:Nat) a b,xs[j]?=some a->bs[j]?=some b->R a b
theorem Zip.snoc{R:aW->xx->Prop}{xs:List aW}{bs:List xx}{a:aW}{b:xx}(h:Zip R xs bs)(hab:R a b):Zip R (xs++[a]) (bs++[b]):=by
 refine ⟨by simp[h.1],λj x y hx hy=>?_⟩;rcases ed j xs.length with hj|hj
 ·rw[nz hj]at hx;rw[nz (by rw[<-h.1];exact hj)]at hy;exact h.2 j x y hx hy
 ·rw[pS hj]at hx;rw[pS (by rw[<-h.1];exact hj)]at hy;have h1:=List.mem_singleton.1 (bn hx);have h2:=List.mem_singleton.1 (bn hy);rw[h1,h2];exact hab
def sD(names:List ByteArray)(pre:List aW)(ss:List nO):Prop:=
 ss.map nO.nm=names/\∀i s,ss[i]?=some s->Zip (Wi names) (sec 0 pre i) s.rs
theorem sD.start(names:List ByteArray):sD names [] (names.map wG):=by
 refine ⟨by rw[List.map_map];exact List.map_id' _,λi s hs=>?_⟩;rw[fX]at hs
 cases hn:names[i]? with
 | none=>rw[hn]at hs;cases hs
 | some n=>rw[hn]at hs;cases hs;exact ⟨rfl,λj a b h=>by simp[sec]at h⟩
theorem sD.other(h:sD names pre ss)(hk:l.kd≠2):sD names (pre++[l]) ss:=
 ⟨h.1,λi s hs=>by rw[Dq,if_neg (λh=>hk h.1),List.append_nil];exact h.2 i s hs⟩
theorem sD.rule(h:sD names pre ss)(hk:l.kd=2)(hm:(aK pre).length=m+1)(hi:ss[m]?=some s)(hr:Wi names l r):sD names (pre++[l]) (ss.set m ⟨s.nm,pW,QM,EJ,s.rs++[r]⟩):=by
 refine ⟨?_,λi t ht=>?_⟩
 ·rw[List.map_set];rw[<-h.1];refine List.ext_getElem? λj=>?_
  rw[List.getElem?_set];split
  ·rename_i e;subst e;have:=az hi;rw[if_pos (by simpa using this),fX,hi];rfl
  ·rfl
 ·rw[Dq];rw[List.getElem?_set]at ht;by_cases e:m=i
  ·subst e;rw[if_pos rfl,if_pos (az hi)]at ht;cases ht;rw[if_pos ⟨hk,by omega⟩];exact (h.2 m s hi).snoc hr
  ·rw[if_neg e]at ht;rw[if_neg (λh=>e (by omega)),List.append_nil];exact h.2 i t ht
def cv:Nat->Value
 | 0=>.int .i64 (-1)
 | m+1=>.int .i64 m
def wH(w:World)(ls:List aW)(sv:Value)(k:Nat)(vc:Value)(i:Value)(wr:World):Prop:=
 ∃(j:Nat) (ss:List nO),i=.int .i64 j/\j+k=ls.length/\vc=cv (aK (ls.take j)).length/\Below w.heap.size w wr/\cJ wr w.heap.size sv ss/\sD (aK ls) (ls.take j) ss
def yY(w:World)(ls:List aW)(e:Ending)(w':World):Prop:=
 Below w.heap.size w w'/\∃(sv:Value) (ss:List nO),e=.returned sv/\cJ w' w.heap.size sv ss/\sD (aK ls) ls ss
theorem KF(B:Nat)(sv:Value)(ls:List aW)(w:World)(hL:Lines w B sv ls)(hz:ls.length<=1000000)(LS:∀l∈ls,(l.kd=2->l.co.size<=281474976710656)/\(l.kd=1->l.st.size<=281474976710656))(OI:∀pre l post,ls=pre++l::post->l.kd=2->0<(aK pre).length)(hop:∀l∈ls,l.d=1->∃n∈aK ls,n.data.toList=l.st.data.toList):
  Calls Tryz.prog 83 #[sv] w (yY w ls):=by
 obtain ⟨ao,cap,rfl,hao⟩:=hL.form;have HL:=aa hL;have CZ:=aa hao;have Tx:=aa LS;have ab8:=aa OI;have Qt:=aa hop;clear hL hao LS OI hop;go_enter Tryz.func83,Tryz.ntmps83;go_wp2_with fail;go_loopg [3,11] ls.length (λk vs i wr=>Gq w ls k vs i wr)
 case atStart=>exact ⟨0,[],rfl,by omega,Below.refl _ _,fW.nil _ _ _ _ _ _,rfl⟩
 case round=>
  obtain ⟨j,ss,rfl,hk,lS,hS,BF⟩:=hrel;have adG:ss.length<=1000000:=by rw[BF,fy];have h1:(aK (ls.take j)).length<=(ls.take j).length:=List.length_filterMap_le ..;rw[List.length_take]at h1;omega
  by_cases hlt:j<ls.length
  ·have g1:decide ((j:Int)<(ls.length:Int))=true:=cF (by omega);obtain ⟨q,rfl⟩:=CZ.out (by omega);obtain ⟨l,hl⟩:∃l,ls[j]?=some l:=⟨ls[j],cB hlt⟩;have iP:ls.take (j+1)=ls.take j++[l]:=by have hl':=hl;rw[cB hlt]at hl';rw[List.take_succ_eq_append_getElem hlt,Option.some.inj hl']
   obtain ⟨c0,c1,c2,c3,c4,c5,c6,c7⟩:=(HL.out.below lS).cells hl;have yv:j+1<=9223372036854775807:=by omega
   have xC:=aa (lS.alloc lS.size (.cells #[.int .i64 l.at_,.int .i64 l.kd,.string l.st,.int .i64 l.d,.string l.co,.slice l.ao l.ln l.cp,.int .i64 l.wh,.int .i64 l.fl] 219))
   have Gs:=aa (hS.below ((Below.refl wr.heap.size wr).alloc (bc _) (.cells #[.int .i64 l.at_,.int .i64 l.kd,.string l.st,.int .i64 l.d,.string l.co,.slice l.ao l.ln l.cp,.int .i64 l.wh,.int .i64 l.fl] 219)));have wI:=aa (Tx.out l (bn hl)).2
   have J6:=aa (show (aK (ls.take (j+1))).map wG=if l.kd=1 then ss++[wG l.st] else ss from by rw[iP,iH,List.map_append,<-BF];split<;>simp);clear hl iP lS hS BF;by_cases eY:l.kd=1
   ·have q1:((l.kd:Int)==1)=true:=by rw[eY];rfl
    rw[if_pos eY]at J6;have BC:=aa (kF l.st (wr.alloc (.cells #[.int .i64 l.at_,.int .i64 l.kd,.string l.st,.int .i64 l.d,.string l.co,.slice l.ao l.ln l.cp,.int .i64 l.wh,.int .i64 l.fl] 219)) (wI.out eY));clear eY wI;go_wp2_with fail;refine BC.out.mono ?_;rintro e w1 ⟨rfl,hb1⟩;obtain ⟨i0,hi,hz0,hz1,hz3⟩:=info_parts Gp
    have bM:=aa (xC.out.trans (hb1.mono xC.out.size));have pN:=aa ((Gs.out.below hb1).below ((Below.refl w1.heap.size w1).alloc (bc _) (.cells #[.string l.st,.slice none 0 0] 213)));have Dr:w.heap.size<=w1.heap.size:=bM.out.size;have bj:=aa pN.out.row
    have HKEY:=aa (λ(v':Value) (w3:World) (hown:w3.ownsRow w.heap.size 213 2 v' (ss.length+1) ((ss.map nO.el).flatMap El.cells++[.string l.st,.slice none 0 0])) (hg:(w1.alloc (.cells #[.string l.st,.slice none 0 0] 213)).grownBy w3 u3.ownBlock)=>show Gq w ls (gk - 1) v' (.int .i64 ((j+1:Nat):Int)) w3 from by
     obtain ⟨h1,h2⟩:=pN.out.push (by simp;omega) hown hg;exact ⟨j+1,ss++[wG l.st],rfl,by omega,(bM.out.alloc bM.out.size _).trans h2,h1,J6.out.symm⟩)
    have ey:=aa (λj u hj=>aG w1 #[.string l.st,.slice none 0 0] 213 j u hj);have HO:Hid (∀u∈([.string l.st,.slice none 0 0]:List Value),u.oneCell'=true):=by intro u hu;simp only[List.mem_cons,List.not_mem_nil,or_false]at hu;rcases hu with rfl|rfl<;>rfl
    have hm1:ss.length+1<=maxLen:=by unfold maxLen;omega
    have RA:(ss.length+1)*40<=140737488355328:=by omega
    clear hb1 BC xC Gs bM pN
    go_wp2_with (at_builtin;refine wpList_append_own _ rfl (.tmp 18) (.tmp 23) 36 rfl w.heap.size 213 i0 (.agg #[.string ⟨#[]⟩,.slice none 0 0]) 2 40 Tryz.underlying36 hi hz0 hz1 hz3 rfl (by decide) u3 ss.length ((ss.map nO.el).flatMap El.cells) rfl bj.out ⟨w1.heap.size,0,none⟩ 1 1 [.string l.st,.slice none 0 0] rfl rfl ey.out HO.out hm1 RA (by simp;omega) ?_;intro v' w3 hown hg _;have HST:=aa (HKEY.out v' w3 hown hg);obtain ⟨g',cap',rfl⟩:=aB hown (by omega);clear hown hg)
    go_roundg (gk - 1)
    case measure=>omega
    case rel=>exact HST.out
   ·have q1:((l.kd:Int)==1)=false:=by rw[er];omega
    rw[if_neg eY]at J6;have HST:=aa (show Gq w ls (gk - 1) u3 (.int .i64 ((j+1:Nat):Int)) (wr.alloc (.cells #[.int .i64 l.at_,.int .i64 l.kd,.string l.st,.int .i64 l.d,.string l.co,.slice l.ao l.ln l.cp,.int .i64 l.wh,.int .i64 l.fl] 219)) from ⟨j+1,ss,rfl,by omega,xC.out,Gs.out,J6.out.symm⟩);clear eY xC Gs wI J6;go_wp2_with fail;go_roundg (gk - 1)
    case measure=>omega
    case rel=>exact HST.out
  ·have g1:decide ((j:Int)<(ls.length:Int))=false:=bV (by omega);rw[List.take_of_length_le (by omega)]at BF;obtain ⟨sa,pE,rfl,hsa⟩:=hS.form;have fO:(aK ls).length=ss.length:=by rw[BF,fy]
   have ab9:=aa hsa;have Cg:=aa (show wH w ls (.slice sa ss.length pE) ls.length (.int .i64 (-1)) (.int .i64 0) wr from ⟨0,ss,rfl,by omega,rfl,lS,hS,by rw[BF];exact sD.start _⟩);clear hS BF lS hsa;go_wp2_with fail;generalize ss.length=nS at *;clear hk g1 hlt;go_loopg [6,28] ls.length (λk vc i wr=>wH w ls (.slice sa nS pE) k vc i wr)
   case atStart=>exact Cg.out
   case round=>
    obtain ⟨j,ss,rfl,hk,rfl,lS,hS,hI⟩:=hrel;have Ql:ss.length=nS:=by rw[<-fO,<-hI.1,fy]
    by_cases hlt:j<ls.length
    ·have g1:decide ((j:Int)<(ls.length:Int))=true:=cF (by omega);obtain ⟨q,rfl⟩:=CZ.out (by omega);obtain ⟨l,hl⟩:∃l,ls[j]?=some l:=⟨ls[j],cB hlt⟩;have iP:ls.take (j+1)=ls.take j++[l]:=by have hl':=hl;rw[cB hlt]at hl';rw[List.take_succ_eq_append_getElem hlt,Option.some.inj hl']
     have hsp:ls=ls.take j++l::ls.drop (j+1):=by have hl':=hl;rw[cB hlt]at hl';rw[<-Option.some.inj hl',<-List.drop_eq_getElem_cons hlt,List.take_append_drop]
     obtain ⟨c0,c1,c2,c3,c4,c5,c6,c7⟩:=(HL.out.below lS).cells hl;have yv:j+1<=9223372036854775807:=by omega
     have xC:=aa (lS.alloc lS.size (.cells #[.int .i64 l.at_,.int .i64 l.kd,.string l.st,.int .i64 l.d,.string l.co,.slice l.ao l.ln l.cp,.int .i64 l.wh,.int .i64 l.fl] 219))
     have Gs:=aa (hS.below ((Below.refl wr.heap.size wr).alloc (bc _) (.cells #[.int .i64 l.at_,.int .i64 l.kd,.string l.st,.int .i64 l.d,.string l.co,.slice l.ao l.ln l.cp,.int .i64 l.wh,.int .i64 l.fl] 219)));have HI:=aa hI;have Ma:=iH (ls.take j) l;rw[<-iP]at Ma
     have il:(aK (ls.take j)).length<=1000000:=by have h1:(aK (ls.take j)).length<=(ls.take j).length:=List.length_filterMap_le ..;rw[List.length_take]at h1;omega
     by_cases eY:l.kd=1
     ·have q1:((l.kd:Int)==1)=true:=by rw[eY];rfl
      rw[if_pos eY]at Ma
      have HST:=aa (show ∀c,cv ((aK (ls.take j)).length+1)=c->wH w ls (.slice sa nS pE) (gk - 1) c (.int .i64 ((j+1:Nat):Int)) (wr.alloc (.cells #[.int .i64 l.at_,.int .i64 l.kd,.string l.st,.int .i64 l.d,.string l.co,.slice l.ao l.ln l.cp,.int .i64 l.wh,.int .i64 l.fl] 219)) from λc hc=>⟨j+1,ss,rfl,by omega,by rw[Ma,dG,<-hc];rfl,xC.out,Gs.out,by rw[iP];exact hI.other (by omega)⟩)
      clear hl iP hsp lS hS hI HI Ma eY xC Gs Ql;generalize (aK (ls.take j)).length=c at *
      cases c with
      | zero=>
       have Gt:=aa (HST.out _ rfl);clear HST il;simp only[cv]at Gt ⊢;go_wp2_with fail;go_roundg (gk - 1)
       case measure=>omega
       case rel=>exact Gt.out
      | succ m=>
       have hm1:m+1<=9223372036854775807:=by omega
       have Gt:=aa (HST.out _ rfl);clear HST il;simp only[cv]at Gt ⊢;go_wp2_with fail;go_roundg (gk - 1)
       case measure=>omega
       case rel=>exact Gt.out
     ·have q1:((l.kd:Int)==1)=false:=by rw[er];omega
      rw[if_neg eY,List.append_nil]at Ma;by_cases hk2:l.kd=2
      ·have q2:((l.kd:Int)==2)=true:=by rw[hk2];rfl
       obtain ⟨m,hm⟩:∃m,(aK (ls.take j)).length=m+1:=⟨(aK (ls.take j)).length - 1,by have:=ab8.out _ _ _ hsp hk2;omega⟩
       have TX:m<nS:=by
        have h1:aK ls=aK (ls.take j)++aK (ls.drop j):=by unfold aK;rw[<-List.filterMap_append,List.take_append_drop]
        rw[<-fO,h1,dG,hm];omega
       obtain ⟨s,hs⟩:∃s,ss[m]?=some s:=⟨ss[m]'(by omega),cB (by omega)⟩;obtain ⟨g,rfl⟩:=ab9.out (by omega)
       have JC:s.rs.length<=1000000:=by
        have h1:=(hI.2 m s hs).1
        have h2:∀(c:Nat) (t:List aW) (i:Nat),(sec c t i).length<=t.length:=by
         intro c t i
         induction t generalizing c with
         | nil=>simp[sec]
         | cons a t ih=>
          have h3:=ih (c+1);have h4:=ih c;unfold sec;split
          ·simp only[fe];omega
          ·split<;>simp only[fe]<;>omega
        have h3:=h2 0 (ls.take j) m;rw[List.length_take]at h3;omega
       have ll:=aa (AV w.heap.size (.slice (some ⟨g,0,none⟩) nS pE) ss l (wr.alloc (.cells #[.int .i64 l.at_,.int .i64 l.kd,.string l.st,.int .i64 l.d,.string l.co,.slice l.ao l.ln l.cp,.int .i64 l.wh,.int .i64 l.fl] 219)).drew (Gs.out.below ((Below.refl _ _).drew)) (by omega) ((Tx.out l (bn hl)).1 hk2) (λhd=>by
        obtain ⟨n,hn,he⟩:=Qt.out l (bn hl) hd;rw[<-hI.1]at hn;obtain ⟨t,ht,rfl⟩:=List.mem_map.1 hn;exact ⟨t,ht,he⟩))
       have HKEY:=aa (show ∀(w5:World) (op:Nat),Below (wr.alloc (.cells #[.int .i64 l.at_,.int .i64 l.kd,.string l.st,.int .i64 l.d,.string l.co,.slice l.ao l.ln l.cp,.int .i64 l.wh,.int .i64 l.fl] 219)).drew.heap.size (wr.alloc (.cells #[.int .i64 l.at_,.int .i64 l.kd,.string l.st,.int .i64 l.d,.string l.co,.slice l.ao l.ln l.cp,.int .i64 l.wh,.int .i64 l.fl] 219)).drew w5->(l.d=1->∃s,ss[op]?=some s/\s.nm.data.toList=l.st.data.toList)->(l.d≠1->op=0) ->
         w5.cell? ⟨g,m*2+1,none⟩=some (.slice s.ao s.ln s.cp)/\(w5.alloc (.cells #[.int .i64 l.d,.int .i64 op,.string l.co,.slice l.ao l.ln l.cp,.int .i64 l.wh] 231)).cell? ⟨g,m*2+1,none⟩=some (.slice s.ao s.ln s.cp)/\Hid ((w5.alloc (.cells #[.int .i64 l.d,.int .i64 op,.string l.co,.slice l.ao l.ln l.cp,.int .i64 l.wh] 231)).ownsRow w.heap.size 231 5 (.slice s.ao s.ln s.cp) s.rs.length (s.rs.map xx.cells).flatten)/\Hid (∀j u,([.int .i64 l.d,.int .i64 op,.string l.co,.slice l.ao l.ln l.cp,.int .i64 l.wh]:List Value)[j]?=some u->(w5.alloc (.cells #[.int .i64 l.d,.int .i64 op,.string l.co,.slice l.ao l.ln l.cp,.int .i64 l.wh] 231)).cell? ((⟨w5.heap.size,0,none⟩:Addr).add j)=some u)/\w.heap.size<=w5.heap.size+1 /\
         Hid (∀W' v' w3,(W'=(w5.alloc (.cells #[.int .i64 l.d,.int .i64 op,.string l.co,.slice l.ao l.ln l.cp,.int .i64 l.wh] 231))∨W'=(w5.alloc (.cells #[.int .i64 l.d,.int .i64 op,.string l.co,.slice l.ao l.ln l.cp,.int .i64 l.wh] 231)).drew)->w3.ownsRow w.heap.size 231 5 v' (s.rs.length+1) ((s.rs.map xx.cells).flatten++[.int .i64 l.d,.int .i64 op,.string l.co,.slice l.ao l.ln l.cp,.int .i64 l.wh])->W'.grownBy w3 (Value.slice s.ao s.ln s.cp).ownBlock->(v'.ownBlock=(Value.slice s.ao s.ln s.cp).ownBlock∨v'.ownBlock=some W'.heap.size) ->
          ∃g' cap',v'=.slice (some ⟨g',0,none⟩) (s.rs.length+1) cap'/\w3.cell? ⟨g,m*2+1,none⟩=some (.slice s.ao s.ln s.cp)/\w3.frozen? ⟨g,m*2+1,none⟩=false/\Hid (wH w ls (.slice (some ⟨g,0,none⟩) nS pE) (gk - 1) (.int .i64 m) (.int .i64 ((j+1:Nat):Int)) (w3.setCell ⟨g,m*2+1,none⟩ v'))) from by
        intro w5 op iq vM We;have hs5:cJ w5 w.heap.size (.slice (some ⟨g,0,none⟩) nS pE) ss:=(Gs.out.below ((Below.refl _ _).drew)).below iq;have Gu:Below w.heap.size w w5:=xC.out.drew.trans (iq.mono xC.out.size)
        have Qy:=hs5.below ((Below.refl w5.heap.size w5).alloc (bc _) (.cells #[.int .i64 l.d,.int .i64 op,.string l.co,.slice l.ao l.ln l.cp,.int .i64 l.wh] 231));have YF:=((show cJ w5 w.heap.size (.slice (some ⟨g,0,none⟩) ss.length pE) ss by rw[Ql];exact hs5).cells hs).2
        refine ⟨YF,aw YF _,?_,aG w5 #[.int .i64 l.d,.int .i64 op,.string l.co,.slice l.ao l.ln l.cp,.int .i64 l.wh] _,by have:=Gu.size;omega,λW' v' w3 hW hown hg fD=>?_⟩
        ·have:=Qy.inner s.el (List.mem_map_of_mem (bn hs));rw[show s.el.rs.length=s.rs.length from fy ..]at this;exact this
        ·obtain ⟨g',cap',rfl⟩:=aB hown (by omega)
         have hsW:cJ W' w.heap.size (.slice (some ⟨g,0,none⟩) nS pE) ss/\w.heap.size<=W'.heap.size/\Below w.heap.size w W':=by
          rcases hW with rfl|rfl
          ·exact ⟨Qy,by have:=Gu.size;simp;omega,Gu.alloc Gu.size _⟩
          ·exact ⟨Qy.below ((Below.refl _ _).drew),by have:=Gu.size;simp;omega,(Gu.alloc Gu.size _).drew⟩
         obtain ⟨h1,h2,h3,h4⟩:=cJ.grow (r:=⟨l.d,op,l.co,l.ao,l.ln,l.cp,l.wh⟩) hsW.1 hsW.2.1 hs hown hg fD;refine ⟨g',cap',rfl,h3,h4,⟨j+1,_,rfl,by omega,by rw[Ma,hm];rfl,hsW.2.2.trans h2,h1,?_⟩⟩;rw[iP];refine hI.rule hk2 hm hs ⟨rfl,rfl,rfl,rfl,rfl,rfl,λhd=>?_,We⟩;obtain ⟨t,ht,hn⟩:=vM hd;exact ⟨t.nm,by rw[<-hI.1,fX,ht];rfl,hn⟩)
       obtain ⟨i0,hi,hz0,hz1,hz3⟩:=info_parts KE;have hb1:s.rs.length+1<=maxLen:=by unfold maxLen;omega
       have hb2:(s.rs.length+1)*64<=140737488355328:=by omega
       have HO:Hid (∀op:Nat,∀u∈([.int .i64 l.d,.int .i64 op,.string l.co,.slice l.ao l.ln l.cp,.int .i64 l.wh]:List Value),u.oneCell'=true):=by intro op u hu;simp only[List.mem_cons,List.not_mem_nil,or_false]at hu;rcases hu with rfl|rfl|rfl|rfl|rfl<;>rfl
       have F6:m<nS:=TX;have hgi:(m:Int)<(nS:Int):=by omega
       have hc0:=((show cJ (wr.alloc (.cells #[.int .i64 l.at_,.int .i64 l.kd,.string l.st,.int .i64 l.d,.string l.co,.slice l.ao l.ln l.cp,.int .i64 l.wh,.int .i64 l.fl] 219)) w.heap.size (.slice (some ⟨g,0,none⟩) ss.length pE) ss by rw[Ql];exact Gs.out).cells hs).2
       have AW:=aa (ag wr (.cells #[.int .i64 l.at_,.int .i64 l.kd,.string l.st,.int .i64 l.d,.string l.co,.slice l.ao l.ln l.cp,.int .i64 l.wh,.int .i64 l.fl] 219));rw[hm];simp only[cv];unfold aW.agg at ll;clear hl iP hsp lS hS hI HI Ma eY hk2 xC Gs Ql hs hm TX il;go_wp2_with fail;obtain ⟨p,hp⟩:∃p,p=wr.heap.size:=⟨_,rfl⟩;rw[<-hp]at AW ⊢
       generalize wr.alloc (.cells #[.int .i64 l.at_,.int .i64 l.kd,.string l.st,.int .i64 l.d,.string l.co,.slice l.ao l.ln l.cp,.int .i64 l.wh,.int .i64 l.fl] 219)=W at *;have hW0:=AW.out;have e0:W.cell? ⟨p,0,none⟩=some (.int .i64 l.at_):=by simp[World.cell?,hW0]
       have e1:W.cell? ⟨p,1,none⟩=some (.int .i64 l.kd):=by simp[World.cell?,hW0]
       have e2:W.cell? ⟨p,2,none⟩=some (.string l.st):=by simp[World.cell?,hW0]
       have e3:W.cell? ⟨p,3,none⟩=some (.int .i64 l.d):=by simp[World.cell?,hW0]
       have e4:W.cell? ⟨p,4,none⟩=some (.string l.co):=by simp[World.cell?,hW0]
       have e5:W.cell? ⟨p,5,none⟩=some (.slice l.ao l.ln l.cp):=by simp[World.cell?,hW0]
       have e6:W.cell? ⟨p,6,none⟩=some (.int .i64 l.wh):=by simp[World.cell?,hW0]
       have e7:W.cell? ⟨p,7,none⟩=some (.int .i64 l.fl):=by simp[World.cell?,hW0]
       clear hW0 AW hp
       go_region_law (first
        | (refine cY rfl (.tmp 46) (.tmp 50) 211 rfl w.heap.size 231 i0 (.agg #[.int .i64 0,.int .i64 0,.string ⟨#[]⟩,.slice none 0 0,.int .i64 0]) 5 64 Tryz.underlying211 hi hz0 hz1 hz3 rfl (by decide) (.slice s.ao s.ln s.cp) s.rs.length (s.rs.map xx.cells).flatten (by rfl) kE.out ⟨w5.heap.size,0,none⟩ 1 1 [.int .i64 l.d,.int .i64 op,.string l.co,.slice l.ao l.ln l.cp,.int .i64 l.wh] (by rfl) (by rfl) ey.out HOO.out hb1 hb2 (by simpa using x5) ?_;intro v' w3 hown hg fD;obtain ⟨g',cap',rfl,y1,y2,HST⟩:=HK.out _ _ _ (by first|exact .inl rfl|exact .inr rfl) hown hg fD;clear hown hg fD)
        | (go_simp;go_at_call 116;refine ll.out.mono ?_;rintro e w5 ⟨iq,op,rfl,vM,We⟩;obtain ⟨x1,x2,kE,ey,x5,HK⟩:=HKEY.out w5 op iq vM We;have HOO:=aa (HO.out op);clear iq vM We))
       all_goals
        clear HKEY kE ey HO HOO ll HK hi hz0 hz1 hz3 e0 e1 e2 e3 e4 e5 e6 e7 x1 x2 x5 y1 y2 hc0;go_wp2_with fail;go_roundg (gk - 1)
        case measure=>omega
        case rel=>exact HST.out
      ·have q2:((l.kd:Int)==2)=false:=by rw[er];omega
       have HST:=aa (show wH w ls (.slice sa nS pE) (gk - 1) (cv (aK (ls.take j)).length) (.int .i64 ((j+1:Nat):Int)) (wr.alloc (.cells #[.int .i64 l.at_,.int .i64 l.kd,.string l.st,.int .i64 l.d,.string l.co,.slice l.ao l.ln l.cp,.int .i64 l.wh,.int .i64 l.fl] 219)) from ⟨j+1,ss,rfl,by omega,by rw[Ma],xC.out,Gs.out,by rw[iP];exact hI.other hk2⟩)
       clear hl iP hsp lS hS hI HI Ma eY hk2 xC Gs Ql;generalize cv (aK (ls.take j)).length=vc at *;go_wp2_with fail;go_roundg (gk - 1)
       case measure=>omega
       case rel=>exact HST.out
    ·have g1:decide ((j:Int)<(ls.length:Int))=false:=bV (by omega);rw[List.take_of_length_le (by omega)]at hI;have aq:=aa (show yY w ls (.returned (.slice sa nS pE)) wr from ⟨lS,_,ss,rfl,hS,hI⟩);clear hI hS lS;go_wp2_with fail;go_ret;exact aq.out
end Go.Proofs.YtgncgdkpkkdaeaaGreatDoor
