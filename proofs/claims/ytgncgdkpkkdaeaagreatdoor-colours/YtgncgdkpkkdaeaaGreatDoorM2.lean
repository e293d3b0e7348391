import Derived.Test.YtgncgdkpkkdaeaaGreatDoorMS21
import Derived.Test.YtgncgdkpkkdaeaaGreatDoorSh2
import Derived.Test.YtgncgdkpkkdaeaaGreatDoorMN
import Derived.Deep.RegionHeld3
namespace Go.Proofs.YtgncgdkpkkdaeaaGreatDoor
open Go.RowKit aQ Go.Maps Go.Shelf
structure bK(w:World)(B bS g n cap:Nat)(text:ByteArray)(lv:Value)(ls:List LE)(work:Nat):Prop where
 sh:w.heap[bS]?=some (.cells #[.slice (some ⟨g,0,none⟩) n cap,.string text,lv,.int .i64 work] 134 (0,0))
 eQ:cq w B lv ls
 base:B<=bS
 size:text.size<=3000
def zL(g n cap:Nat)(G:List GS)(text:ByteArray)(w:World)(e:Ending)(w':World):Prop:=
 ∃bS lv ls st,e=.returned (.pointer (some ⟨bS,0,none⟩))/\Below w.heap.size w w'/\bK w' w.heap.size bS g n cap text lv ls ls.length/\dn G [0] (aA text.data.toList) (ls.map LE.pr) st
set_option maxRecDepth 20000 in
set_option maxHeartbeats 4000000 in
theorem xH(N g n cap:Nat)(G:List GS)(text:ByteArray)(w:World)(eA:vY G)(pJ:0<G.length)(hz:text.size<=3000)(hT:kB w)(h0:1 < N)(hG:∀w',Below N w w'->cP w' g n cap G)(hN:N<=w.heap.size)(hM:Mx w)(zM:0 < N):
  Calls Tryz.prog 40 #[.slice (some ⟨g,0,none⟩) n cap,.string text] w (zL g n cap G text w):=by
 have zq:=aa (jE text w (by omega));go_enter Tryz.func40,Tryz.ntmps40;go_wp2_with fail;refine zq.out.mono ?_;rintro e1 w1 ⟨rfl,hb1⟩;obtain ⟨bS,QQ⟩:∃bS,bS=w1.heap.size:=⟨_,rfl⟩;obtain ⟨w2,hw2⟩:∃w2,w1.alloc (.cells #[.slice (some ⟨g,0,none⟩) n cap,.string text,.slice none 0 0,.int .i64 0] 134)=w2:=⟨_,rfl⟩
 have hb2:Below w.heap.size w w2:=by rw[<-hw2];exact hb1.alloc hb1.size _
 have jF:w2.heap[bS]?=some (.cells #[.slice (some ⟨g,0,none⟩) n cap,.string text,.slice none 0 0,.int .i64 0] 134 (0,0)):=by rw[<-hw2];exact az _ _ _ QQ
 have s1:w2.cell? ⟨bS,1,none⟩=some (.string text):=ah jF rfl;clear zq;go_wp2_with fail;rw[<-QQ];obtain ⟨c,hc⟩:∃c,c=Lib.countByte text.data.toList 10:=⟨_,rfl⟩;obtain ⟨tc,UL⟩:∃tc,tc=1+c:=⟨_,rfl⟩;have hcc:c<=text.size:=by rw[hc,<-ag];exact List.count_le_length
 have hwr:IntKind.i64.wrap (1+(c:Int))=(tc:Int):=by rw[IntKind.wrap_i64,UL];omega
 have HBT:=aa (CZ w2.drew);have C0:=aa (λw3=>Tryz.strings_Count_one text 10 w3);rw[<-hc]at C0;have b9:Good G [0]:=⟨⟨by simp,by simp⟩,λx hx=>by rw[List.mem_singleton.1 hx];exact pJ⟩;have hlen:(aA text.data.toList).length=tc+([]:List (List Nat)).length:=by rw[aR,UL,hc];rfl
 have QR:=aa (λ(w3:World) (hb3:Below w2.drew.heap.size w2.drew w3)=>show (w3.cell? ⟨bS,1,none⟩=some (.string text))/\Calls Tryz.prog 69 #[.pointer (some ⟨bS,0,none⟩),.string text,kA [0],.int .i64 tc,.slice none 0 0] w3 (xG bS g n cap G text.data.toList [0] tc [] text (.slice none 0 0) 0 w3) from by
  have C2:Below w2.heap.size w2 w3:=⟨hb3.os,hb3.tape,hb3.output,hb3.size,hb3.block⟩;have pD:Below w.heap.size w w3:=hb2.trans (C2.mono hb2.size);have mK:=(C2.block _ (ae jF)).trans jF;have hM3:=hM.below pD
  refine ⟨ah mK rfl,sD N bS g n cap G text [0] tc (.slice none 0 0) [] text (.slice none 0 0) 0 w3 eA b9 hz (by omega) (hT.keep (pD.block _ (by omega))) h0 (λw' hb=>hG w' ((pD.mono hN).trans hb)) (by have:=hb1.size;omega) hM3 zM mK ⟨none,0,rfl,by simp,λj st h=>by simp at h⟩ hlen⟩)
 have cM:=aa hb2;have HLEN:=aa hlen;have wo:w.heap.size<=bS:=by rw[QQ];exact hb1.size
 clear hb2 hb1 jF QQ hw2 hc UL hlen hG hM hT b9
 go_region_held3 (λw'=>w'.cell? ⟨bS,1,none⟩=some (.string text))
  (first
   | with_reducible exact z3
   | with_reducible exact z1
   | with_reducible exact t1
   | go_keep)
  (first
   | (go_at_call 70;refine HBT.out.mono ?_;clear HBT;rintro e3 w3 ⟨rfl,hb3⟩;obtain ⟨t1,JM⟩:=QR.out w3 hb3;have VQ:=aa JM;have eY:=aa hb3;clear QR JM hb3)
   | (go_at_call 71;refine (C0.out w3).mono ?_;clear C0;rintro e4 w4 ⟨rfl,h4⟩;subst h4)
   | (go_at_call 69;refine VQ.out.mono ?_;clear VQ;rintro e5 w5 ⟨v,ls,st,rfl,OE,hr5,rD,VR,hs5,ho5,_,hf5⟩;have z1:w5.cell? ⟨bS,1,none⟩=some (.string text):=(ah hs5 rfl);have z2:w5.cell? ⟨bS,2,none⟩=some (.slice none 0 0):=(ah hs5 rfl);have z2f:w5.frozen? ⟨bS,2,none⟩=false:=(by simp[World.frozen?,hs5]);obtain ⟨uX,vc,hv⟩:=aI OE.row;subst hv;have z3:(w5.setCell ⟨bS,2,none⟩ (.slice uX ls.length vc)).cell? ⟨bS,1,none⟩=some (.string text):=(ah (heap_setCell_same w5 bS 2 (.slice uX ls.length vc) hs5) rfl);have NX:=aa OE;have ZA:=aa hr5;have aad:=aa VR;have CA:=aa hs5;have JN:=aa ho5;have Kk:=aa hf5;clear OE hr5 rD VR hs5 ho5 hf5))
 all_goals
  have ai:=aa (show zL g n cap G text w (.returned (.pointer (some ⟨bS,0,none⟩))) (w5.setCell ⟨bS,2,none⟩ (.slice uX ls.length vc)) from by
   have hb3:Below w2.heap.size w2 w4:=⟨eY.out.os,eY.out.tape,eY.out.output,eY.out.size,eY.out.block⟩;have ny:Below w.heap.size w w4:=cM.out.trans (hb3.mono cM.out.size)
   have NY:ls.length=(aA text.data.toList).length:=by
    rcases Kk.out with h|⟨_,h⟩
    ·exact h
    ·simp at h
   have o5:aN (λk=>k=bS) w5 (w5.setCell ⟨bS,2,none⟩ (.slice uX ls.length vc)):=aN.setCell (Y:=λk=>k=bS) (p:=⟨bS,2,none⟩) rfl CA.out (by decide) _;have oo:=JN.out.trans o5;have hs:=heap_setCell_same w5 bS 2 (.slice uX ls.length vc) CA.out
   refine ⟨bS,.slice uX ls.length vc,ls,st,rfl,⟨oo.os.trans ny.os,oo.tape.trans ny.tape,oo.output.trans ny.output,Nat.le_trans ny.size oo.size,λk hk=>(oo.keep k ⟨Nat.lt_of_lt_of_le hk ny.size,by omega⟩).trans (ny.block k hk)⟩,⟨by simpa using hs,?_,wo,hz⟩,?_⟩
   ·have hl:=(NX.out.off o5 (λk hk=>by rw[hk];exact NX.out.other CA.out (λc=>⟨by simp,by simp⟩)));exact ⟨cY hl.row ny.size,λx hx=>⟨(hl.each x hx).1,cY (hl.each x hx).2 ny.size⟩⟩
   ·have hr:=ZA.out;rw[NY,List.take_length]at hr;exact hr)
  clear NX ZA aad CA JN Kk eY z1 z2 z2f z3;go_wp2_with fail;go_ret;exact ai.out
def zN(g n cap:Nat)(G:List GS)(text:ByteArray)(w:World)(e:Ending)(w':World):Prop:=
 Below w.heap.size w w'/\((3000<text.size/\e=.returned (.tuple #[.pointer none,.int .i64 1])) ∨
  (text.size<=3000/\∃bX bS lv ls st,e=.returned (.tuple #[.pointer (some ⟨bX,0,none⟩),.int .i64 0])/\w'.heap[bX]?=some (.cells #[.pointer (some ⟨bS,0,none⟩)] 46 (0,0))/\w.heap.size<=bX/\bK w' w.heap.size bS g n cap text lv ls ls.length/\dn G [0] (aA text.data.toList) (ls.map LE.pr) st))
set_option maxHeartbeats 1000000 in
theorem Kl(N P g n cap:Nat)(G:List GS)(text:ByteArray)(w:World)(hP:w.heap[P]?=some (.cells #[.slice (some ⟨g,0,none⟩) n cap] 38 (0,0)))(hn:0<n)(eA:vY G)(pJ:0<G.length)(hT:kB w)(h0:1 < N)(hG:∀w',Below N w w'->cP w' g n cap G)(hN:N<=w.heap.size)(hM:Mx w)(zM:0 < N):
  Calls Tryz.prog 15 #[.pointer (some ⟨P,0,none⟩),.string text] w (zN g n cap G text w):=by
 have c0:=ay hP;have g0:((n:Int)==0)=false:=by rw[beq_eq_false_iff_ne];omega
 by_cases hz:text.size<=3000
 ·have g1:decide ((3000:Int)<(text.size:Int))=false:=decide_eq_false (by omega);have fp:=aa (xH N g n cap G text w eA pJ hz hT h0 hG hN hM zM);clear hP eA hT hG hM;go_enter Tryz.func15,Tryz.ntmps15;go_wp2_with fail;refine fp.out.mono ?_;rintro e1 w1 ⟨bS,lv,ls,st,rfl,hb,hs,hr⟩
  have ai:=aa (show zN g n cap G text w (.returned (.tuple #[.pointer (some ⟨w1.heap.size,0,none⟩),.int .i64 0])) (w1.alloc (.cells #[.pointer (some ⟨bS,0,none⟩)] 46)) from by
   have hb1:Below w1.heap.size w1 (w1.alloc (.cells #[.pointer (some ⟨bS,0,none⟩)] 46)):=(Below.refl _ _).alloc (Nat.le_refl _) _;exact ⟨hb.alloc hb.size _,.inr ⟨hz,w1.heap.size,bS,lv,ls,st,rfl,af _ _,hb.size,⟨heap_alloc_old hs.sh,hs.eQ.below hb1,hs.base,hs.size⟩,hr⟩⟩)
  clear hb hs hr fp;go_wp2_with fail;go_ret2;exact ai.out
 ·have g1:decide ((3000:Int)<(text.size:Int))=true:=decide_eq_true (by omega);clear hP eA hT hG hM;go_enter Tryz.func15,Tryz.ntmps15;go_wp2_with fail;go_ret2;exact ⟨Below.refl _ _,.inl ⟨by omega,rfl⟩⟩
theorem sG(bX bS:Nat)(w:World)(h:w.heap[bX]?=some (.cells #[.pointer (some ⟨bS,0,none⟩)] 46 (0,0))):Calls Tryz.prog 49 #[.pointer (some ⟨bX,0,none⟩)] w λe w'=>e=.returned (.bool false)/\w'=w:=by have c0:=ay h;go_enter Tryz.func49,Tryz.ntmps49;go_wp2_with fail;go_ret;exact ⟨rfl,rfl⟩
section
variable {w:World} {B bX bS g n cap:Nat} {text:ByteArray} {lv:Value} {ls:List LE} {work:Nat}
theorem C3(h:bK w B bS g n cap text lv ls work)(hx:w.heap[bX]?=some (.cells #[.pointer (some ⟨bS,0,none⟩)] 46 (0,0))):Calls Tryz.prog 28 #[.pointer (some ⟨bX,0,none⟩)] w λe w'=>e=.returned (.string text)/\w'=w:=by
 have c0:=ay hx;have c1:w.cell? ⟨bS,1,none⟩=some (.string text):=ah h.sh rfl;go_enter Tryz.func28,Tryz.ntmps28;go_wp2;go_ret;exact ⟨rfl,rfl⟩
theorem nz(h:bK w B bS g n cap text lv ls work)(hx:w.heap[bX]?=some (.cells #[.pointer (some ⟨bS,0,none⟩)] 46 (0,0))):Calls Tryz.prog 31 #[.pointer (some ⟨bX,0,none⟩)] w λe w'=>e=.returned (.int .i64 work)/\w'=w:=by
 have c0:=ay hx;have c1:w.cell? ⟨bS,3,none⟩=some (.int .i64 work):=ah h.sh rfl;go_enter Tryz.func31,Tryz.ntmps31;go_wp2;go_ret;exact ⟨rfl,rfl⟩
theorem zO(h:bK w B bS g n cap text lv ls work)(hx:w.heap[bX]?=some (.cells #[.pointer (some ⟨bS,0,none⟩)] 46 (0,0))):Calls Tryz.prog 23 #[.pointer (some ⟨bX,0,none⟩)] w λe w'=>e=.returned (.int .i64 ls.length)/\w'=w:=by
 have c0:=ay hx;obtain ⟨ao,c,hv⟩:=aI h.eQ.row;subst hv;have c1:w.cell? ⟨bS,2,none⟩=some (.slice ao ls.length c):=ah h.sh rfl;go_enter Tryz.func23,Tryz.ntmps23;go_wp2;go_ret;exact ⟨rfl,rfl⟩
theorem mL(i:Int)(h:bK w B bS g n cap text lv ls work)(hx:w.heap[bX]?=some (.cells #[.pointer (some ⟨bS,0,none⟩)] 46 (0,0))):Calls Tryz.prog 51 #[.pointer (some ⟨bX,0,none⟩),.int .i64 i] w λe w'=>e=.returned (.int .i64 (if 0<=i/\i<ls.length then 0 else 8))/\w'=w:=by
 have c0:=ay hx;obtain ⟨ao,c,hv⟩:=aI h.eQ.row;subst hv;have c1:w.cell? ⟨bS,2,none⟩=some (.slice ao ls.length c):=ah h.sh rfl;by_cases h0:i<0
 ·have g0:decide (i<0)=true:=decide_eq_true h0;rw[if_neg (by omega)];go_enter Tryz.func51,Tryz.ntmps51;go_wp2;go_ret;exact ⟨rfl,rfl⟩
 ·have g0:decide (i<0)=false:=decide_eq_false h0;by_cases h1:i<ls.length
  ·have g1:decide ((ls.length:Int)<=i)=false:=decide_eq_false (by omega);rw[if_pos (by omega)];go_enter Tryz.func51,Tryz.ntmps51;go_wp2;go_ret;exact ⟨rfl,rfl⟩
  ·have g1:decide ((ls.length:Int)<=i)=true:=decide_eq_true (by omega);rw[if_neg (by omega)];go_enter Tryz.func51,Tryz.ntmps51;go_wp2;go_ret;exact ⟨rfl,rfl⟩
end
end Go.Proofs.YtgncgdkpkkdaeaaGreatDoor
