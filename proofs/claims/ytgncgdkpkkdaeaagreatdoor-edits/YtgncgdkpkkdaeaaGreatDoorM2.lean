import Derived.Test.YtgncgdkpkkdaeaaGreatDoorMS21
import Derived.Test.YtgncgdkpkkdaeaaGreatDoorSh2
import Derived.Test.YtgncgdkpkkdaeaaGreatDoorMN
import Derived.Deep.RegionHeld3
namespace Go.Proofs.YtgncgdkpkkdaeaaGreatDoor
open Go.RowKit aO Go.Maps Go.Shelf
structure bQ(w:World)(B bS g n cap:Nat)(text:ByteArray)(lv:Value)(ls:List LE)(work:Nat):Prop where
 sh:w.heap[bS]?=some (.cells #[.slice (some ⟨g,0,none⟩) n cap,.string text,lv,.int .i64 work] 134 (0,0))
 eT:cB w B lv ls
 base:B<=bS
 size:text.size<=3000
def A6(g n cap:Nat)(G:List GS)(text:ByteArray)(w:World)(e:Ending)(w':World):Prop:=
 ∃bS lv ls st,e=.returned (.pointer (some ⟨bS,0,none⟩))/\Below w.heap.size w w'/\bQ w' w.heap.size bS g n cap text lv ls ls.length/\dz G [0] (aB text.data.toList) (ls.map LE.pr) st
set_option maxRecDepth 20000 in
set_option maxHeartbeats 4000000 in
theorem yN(N g n cap:Nat)(G:List GS)(text:ByteArray)(w:World)(dZ:xD G)(qA:0<G.length)(hz:text.size<=3000)(hT:kK w)(h0:1 < N)(hG:∀w',Below N w w'->bR w' g n cap G)(hN:N<=w.heap.size)(hM:Mx w)(A8:0 < N):
  Calls Tryz.prog 40 #[.slice (some ⟨g,0,none⟩) n cap,.string text] w (A6 g n cap G text w):=by
 have AA:=aa (j3 text w (by omega));go_enter Tryz.func40,Tryz.ntmps40;go_wp2_with fail;refine AA.out.mono ?_;rintro e1 w1 ⟨rfl,hb1⟩;obtain ⟨bS,SE⟩:∃bS,bS=w1.heap.size:=⟨_,rfl⟩;obtain ⟨w2,hw2⟩:∃w2,w1.alloc (.cells #[.slice (some ⟨g,0,none⟩) n cap,.string text,.slice none 0 0,.int .i64 0] 134)=w2:=⟨_,rfl⟩
 have hb2:Below w.heap.size w w2:=by rw[<-hw2];exact hb1.alloc hb1.size _
 have j4:w2.heap[bS]?=some (.cells #[.slice (some ⟨g,0,none⟩) n cap,.string text,.slice none 0 0,.int .i64 0] 134 (0,0)):=by rw[<-hw2];exact aA _ _ _ SE
 have s1:w2.cell? ⟨bS,1,none⟩=some (.string text):=ag j4 rfl;clear AA;go_wp2_with fail;rw[<-SE];obtain ⟨c,hc⟩:∃c,c=Lib.countByte text.data.toList 10:=⟨_,rfl⟩;obtain ⟨tc,Wv⟩:∃tc,tc=1+c:=⟨_,rfl⟩;have hcc:c<=text.size:=by rw[hc,<-ah];exact List.count_le_length
 have hwr:IntKind.i64.wrap (1+(c:Int))=(tc:Int):=by rw[IntKind.wrap_i64,Wv];omega
 have HBT:=aa (D8 w2.drew);have D9:=aa (λw3=>Tryz.strings_Count_one text 10 w3);rw[<-hc]at D9;have cq:Good G [0]:=⟨⟨by simp,by simp⟩,λx hx=>by rw[List.mem_singleton.1 hx];exact qA⟩;have hlen:(aB text.data.toList).length=tc+([]:List (List Nat)).length:=by rw[aS,Wv,hc];rfl
 have SF:=aa (λ(w3:World) (hb3:Below w2.drew.heap.size w2.drew w3)=>show (w3.cell? ⟨bS,1,none⟩=some (.string text))/\Calls Tryz.prog 69 #[.pointer (some ⟨bS,0,none⟩),.string text,k9 [0],.int .i64 tc,.slice none 0 0] w3 (yM bS g n cap G text.data.toList [0] tc [] text (.slice none 0 0) 0 w3) from by
  have Ea:Below w2.heap.size w2 w3:=⟨hb3.os,hb3.tape,hb3.output,hb3.size,hb3.block⟩;have qw:Below w.heap.size w w3:=hb2.trans (Ea.mono hb2.size);have nD:=(Ea.block _ (ae j4)).trans j4;have hM3:=hM.below qw
  refine ⟨ag nD rfl,tT N bS g n cap G text [0] tc (.slice none 0 0) [] text (.slice none 0 0) 0 w3 dZ cq hz (by omega) (hT.keep (qw.block _ (by omega))) h0 (λw' hb=>hG w' ((qw.mono hN).trans hb)) (by have:=hb1.size;omega) hM3 A8 nD ⟨none,0,rfl,by simp,λj st h=>by simp at h⟩ hlen⟩)
 have cL:=aa hb2;have HLEN:=aa hlen;have tE:w.heap.size<=bS:=by rw[SE];exact hb1.size
 clear hb2 hb1 j4 SE hw2 hc Wv hlen hG hM hT cq
 go_region_held3 (λw'=>w'.cell? ⟨bS,1,none⟩=some (.string text))
  (first
   | with_reducible exact z3
   | with_reducible exact z1
   | with_reducible exact t1
   | go_keep)
  (first
   | (go_at_call 70;refine HBT.out.mono ?_;clear HBT;rintro e3 w3 ⟨rfl,hb3⟩;obtain ⟨t1,K4⟩:=SF.out w3 hb3;have XO:=aa K4;have fB:=aa hb3;clear SF K4 hb3)
   | (go_at_call 71;refine (D9.out w3).mono ?_;clear D9;rintro e4 w4 ⟨rfl,h4⟩;subst h4)
   | (go_at_call 69;refine XO.out.mono ?_;clear XO;rintro e5 w5 ⟨v,ls,st,rfl,Qc,hr5,sQ,XP,hs5,ho5,_,hf5⟩;have z1:w5.cell? ⟨bS,1,none⟩=some (.string text):=(ag hs5 rfl);have z2:w5.cell? ⟨bS,2,none⟩=some (.slice none 0 0):=(ag hs5 rfl);have z2f:w5.frozen? ⟨bS,2,none⟩=false:=(by simp[World.frozen?,hs5]);obtain ⟨wK,vc,hv⟩:=aC Qc.row;subst hv;have z3:(w5.setCell ⟨bS,2,none⟩ (.slice wK ls.length vc)).cell? ⟨bS,1,none⟩=some (.string text):=(ag (heap_setCell_same w5 bS 2 (.slice wK ls.length vc) hs5) rfl);have Pt:=aa Qc;have HR5:=aa hr5;have aa5:=aa XP;have DF:=aa hs5;have K5:=aa ho5;have LJ:=aa hf5;clear Qc hr5 sQ XP hs5 ho5 hf5))
 all_goals
  have ai:=aa (show A6 g n cap G text w (.returned (.pointer (some ⟨bS,0,none⟩))) (w5.setCell ⟨bS,2,none⟩ (.slice wK ls.length vc)) from by
   have hb3:Below w2.heap.size w2 w4:=⟨fB.out.os,fB.out.tape,fB.out.output,fB.out.size,fB.out.block⟩;have ow:Below w.heap.size w w4:=cL.out.trans (hb3.mono cL.out.size)
   have Pu:ls.length=(aB text.data.toList).length:=by
    rcases LJ.out with h|⟨_,h⟩
    ·exact h
    ·simp at h
   have o5:aK (λk=>k=bS) w5 (w5.setCell ⟨bS,2,none⟩ (.slice wK ls.length vc)):=aK.setCell (Y:=λk=>k=bS) (p:=⟨bS,2,none⟩) rfl DF.out (by decide) _;have oo:=K5.out.trans o5;have hs:=heap_setCell_same w5 bS 2 (.slice wK ls.length vc) DF.out
   refine ⟨bS,.slice wK ls.length vc,ls,st,rfl,⟨oo.os.trans ow.os,oo.tape.trans ow.tape,oo.output.trans ow.output,Nat.le_trans ow.size oo.size,λk hk=>(oo.keep k ⟨Nat.lt_of_lt_of_le hk ow.size,by omega⟩).trans (ow.block k hk)⟩,⟨by simpa using hs,?_,tE,hz⟩,?_⟩
   ·have hl:=(Pt.out.off o5 (λk hk=>by rw[hk];exact Pt.out.other DF.out (λc=>⟨by simp,by simp⟩)));exact ⟨dn hl.row ow.size,λx hx=>⟨(hl.each x hx).1,dn (hl.each x hx).2 ow.size⟩⟩
   ·have hr:=HR5.out;rw[Pu,List.take_length]at hr;exact hr)
  clear Pt HR5 aa5 DF K5 LJ fB z1 z2 z2f z3;go_wp2_with fail;go_ret;exact ai.out
def A9(g n cap:Nat)(G:List GS)(text:ByteArray)(w:World)(e:Ending)(w':World):Prop:=
 Below w.heap.size w w'/\((3000<text.size/\e=.returned (.tuple #[.pointer none,.int .i64 1])) ∨
  (text.size<=3000/\∃bX bS lv ls st,e=.returned (.tuple #[.pointer (some ⟨bX,0,none⟩),.int .i64 0])/\w'.heap[bX]?=some (.cells #[.pointer (some ⟨bS,0,none⟩)] 46 (0,0))/\w.heap.size<=bX/\bQ w' w.heap.size bS g n cap text lv ls ls.length/\dz G [0] (aB text.data.toList) (ls.map LE.pr) st))
set_option maxHeartbeats 1000000 in
theorem LK(N P g n cap:Nat)(G:List GS)(text:ByteArray)(w:World)(hP:w.heap[P]?=some (.cells #[.slice (some ⟨g,0,none⟩) n cap] 38 (0,0)))(hn:0<n)(dZ:xD G)(qA:0<G.length)(hT:kK w)(h0:1 < N)(hG:∀w',Below N w w'->bR w' g n cap G)(hN:N<=w.heap.size)(hM:Mx w)(A8:0 < N):
  Calls Tryz.prog 15 #[.pointer (some ⟨P,0,none⟩),.string text] w (A9 g n cap G text w):=by
 have c0:=ay hP;have g0:((n:Int)==0)=false:=by rw[beq_eq_false_iff_ne];omega
 by_cases hz:text.size<=3000
 ·have g1:decide ((3000:Int)<(text.size:Int))=false:=decide_eq_false (by omega);have ea:=aa (yN N g n cap G text w dZ qA hz hT h0 hG hN hM A8);clear hP dZ hT hG hM;go_enter Tryz.func15,Tryz.ntmps15;go_wp2_with fail;refine ea.out.mono ?_;rintro e1 w1 ⟨bS,lv,ls,st,rfl,hb,hs,hr⟩
  have ai:=aa (show A9 g n cap G text w (.returned (.tuple #[.pointer (some ⟨w1.heap.size,0,none⟩),.int .i64 0])) (w1.alloc (.cells #[.pointer (some ⟨bS,0,none⟩)] 46)) from by
   have hb1:Below w1.heap.size w1 (w1.alloc (.cells #[.pointer (some ⟨bS,0,none⟩)] 46)):=(Below.refl _ _).alloc (Nat.le_refl _) _;exact ⟨hb.alloc hb.size _,.inr ⟨hz,w1.heap.size,bS,lv,ls,st,rfl,af _ _,hb.size,⟨heap_alloc_old hs.sh,hs.eT.below hb1,hs.base,hs.size⟩,hr⟩⟩)
  clear hb hs hr ea;go_wp2_with fail;go_ret2;exact ai.out
 ·have g1:decide ((3000:Int)<(text.size:Int))=true:=decide_eq_true (by omega);clear hP dZ hT hG hM;go_enter Tryz.func15,Tryz.ntmps15;go_wp2_with fail;go_ret2;exact ⟨Below.refl _ _,.inl ⟨by omega,rfl⟩⟩
theorem tU(bX bS:Nat)(w:World)(h:w.heap[bX]?=some (.cells #[.pointer (some ⟨bS,0,none⟩)] 46 (0,0))):Calls Tryz.prog 49 #[.pointer (some ⟨bX,0,none⟩)] w λe w'=>e=.returned (.bool false)/\w'=w:=by have c0:=ay h;go_enter Tryz.func49,Tryz.ntmps49;go_wp2_with fail;go_ret;exact ⟨rfl,rfl⟩
section
variable {w:World} {B bX bS g n cap:Nat} {text:ByteArray} {lv:Value} {ls:List LE} {work:Nat}
theorem Ec(h:bQ w B bS g n cap text lv ls work)(hx:w.heap[bX]?=some (.cells #[.pointer (some ⟨bS,0,none⟩)] 46 (0,0))):Calls Tryz.prog 28 #[.pointer (some ⟨bX,0,none⟩)] w λe w'=>e=.returned (.string text)/\w'=w:=by
 have c0:=ay hx;have c1:w.cell? ⟨bS,1,none⟩=some (.string text):=ag h.sh rfl;go_enter Tryz.func28,Tryz.ntmps28;go_wp2;go_ret;exact ⟨rfl,rfl⟩
theorem ox(h:bQ w B bS g n cap text lv ls work)(hx:w.heap[bX]?=some (.cells #[.pointer (some ⟨bS,0,none⟩)] 46 (0,0))):Calls Tryz.prog 31 #[.pointer (some ⟨bX,0,none⟩)] w λe w'=>e=.returned (.int .i64 work)/\w'=w:=by
 have c0:=ay hx;have c1:w.cell? ⟨bS,3,none⟩=some (.int .i64 work):=ag h.sh rfl;go_enter Tryz.func31,Tryz.ntmps31;go_wp2;go_ret;exact ⟨rfl,rfl⟩
theorem Ba(h:bQ w B bS g n cap text lv ls work)(hx:w.heap[bX]?=some (.cells #[.pointer (some ⟨bS,0,none⟩)] 46 (0,0))):Calls Tryz.prog 23 #[.pointer (some ⟨bX,0,none⟩)] w λe w'=>e=.returned (.int .i64 ls.length)/\w'=w:=by
 have c0:=ay hx;obtain ⟨ao,c,hv⟩:=aC h.eT.row;subst hv;have c1:w.cell? ⟨bS,2,none⟩=some (.slice ao ls.length c):=ag h.sh rfl;go_enter Tryz.func23,Tryz.ntmps23;go_wp2;go_ret;exact ⟨rfl,rfl⟩
theorem nE(i:Int)(h:bQ w B bS g n cap text lv ls work)(hx:w.heap[bX]?=some (.cells #[.pointer (some ⟨bS,0,none⟩)] 46 (0,0))):Calls Tryz.prog 51 #[.pointer (some ⟨bX,0,none⟩),.int .i64 i] w λe w'=>e=.returned (.int .i64 (if 0<=i/\i<ls.length then 0 else 8))/\w'=w:=by
 have c0:=ay hx;obtain ⟨ao,c,hv⟩:=aC h.eT.row;subst hv;have c1:w.cell? ⟨bS,2,none⟩=some (.slice ao ls.length c):=ag h.sh rfl;by_cases h0:i<0
 ·have g0:decide (i<0)=true:=decide_eq_true h0;rw[if_neg (by omega)];go_enter Tryz.func51,Tryz.ntmps51;go_wp2;go_ret;exact ⟨rfl,rfl⟩
 ·have g0:decide (i<0)=false:=decide_eq_false h0;by_cases h1:i<ls.length
  ·have g1:decide ((ls.length:Int)<=i)=false:=decide_eq_false (by omega);rw[if_pos (by omega)];go_enter Tryz.func51,Tryz.ntmps51;go_wp2;go_ret;exact ⟨rfl,rfl⟩
  ·have g1:decide ((ls.length:Int)<=i)=true:=decide_eq_true (by omega);rw[if_neg (by omega)];go_enter Tryz.func51,Tryz.ntmps51;go_wp2;go_ret;exact ⟨rfl,rfl⟩
end
end Go.Proofs.YtgncgdkpkkdaeaaGreatDoor
