import Derived.Test.YtgncgdkpkkdaeaaGreatDoorMH4
import Derived.Test.YtgncgdkpkkdaeaaGreatDoorM3
namespace Go.Proofs.YtgncgdkpkkdaeaaGreatDoor
open Go.RowKit aQ Go.Maps Go.Shelf
variable {o:Obj}
structure RE where
 st:List Nat
 sb:Nat
 eR:Nat
 lv:Value
 ba:List Sp
def RE.ov(e:RE):Value:=.slice (some ⟨e.sb,0,none⟩) e.st.length e.eR
theorem GK:(Tryz.prog.info? 57).map (λi=>(i.zero,i.size,i.bytes))=some (some (.slice none 0 0),1,24):=by kernel_rfl
theorem C7:(Tryz.prog.info? 64).map (λi=>(i.zero,i.size,i.bytes))=some (some (.slice none 0 0),1,24):=by kernel_rfl
structure Ku(w:World)(G:List GS)(T:List UInt8)(vl:Value)(cZ:List ByteArray)(j:Nat)(st:List Nat)(sb eR:Nat)(vo vs:Value)(no:Nat)(os:List Value)(es:List RE)(W:World):Prop where
 pO:W.ownsRow w.heap.size 57 1 vo no os
 sL:W.ownsRow w.heap.size 64 1 vs es.length (es.map RE.lv)
 OI:jg W w.heap.size vl cZ
 each:∀e∈es,cF W e.sb e.st/\bN W w.heap.size e.lv e.ba/\e.st.length<=e.eR
 ints:cF W sb st
 good:Good G st
 cp:st.length<=eR
 runs:dn G [0] ((aA T).take j) (es.map λe=>(e.st,e.ba)) st
 kE:Below w.heap.size w W
theorem cj{w w':World}{B:Nat}{e:TypeId}{size:Nat}{v:Value}{n:Nat}{xs:List Value}(h:w.ownsRow B e size v n xs)(hk:∀(k:Nat) c,w.heap[k]?=some (.cells c e (0,0))->w'.heap[k]?=some (.cells c e (0,0))):w'.ownsRow B e size v n xs:=aJ h λk hk'=>by obtain ⟨_,c,hc⟩:=aw h hk';rw[hc];exact hk k c hc
section
variable {w W W4:World} {G:List GS} {T:List UInt8} {vl:Value} {cZ:List ByteArray} {j:Nat} {st:List Nat} {sb eR:Nat} {vo vs:Value} {no:Nat} {os:List Value} {es:List RE}
theorem Ku.below(h:Ku w G T vl cZ j st sb eR vo vs no os es W)(hb:Below W.heap.size W W4):Ku w G T vl cZ j st sb eR vo vs no os es W4:=by
 have key:∀(t:TypeId) (k:Nat) c,W.heap[k]?=some (.cells c t (0,0))->W4.heap[k]?=some (.cells c t (0,0)):=λt k c hh=>(hb.block k (ae hh)).trans hh
 exact ⟨cj h.pO (key _),cj h.sL (key _),cj h.OI (key _),λe he=>⟨(h.each e he).1.below hb,cj (h.each e he).2.1 (key _),(h.each e he).2.2⟩,h.ints.below hb,h.good,h.cp,h.runs,h.kE.trans (hb.mono h.kE.size)⟩
theorem Ku.out{vo':Value}{u:Value}(h:Ku w G T vl cZ j st sb eR vo vs no os es W)(hrow:W4.ownsRow w.heap.size 57 1 vo' (no+1) (os++[u]))(hg:(W.alloc o).grownBy W4 vo.ownBlock):Ku w G T vl cZ j st sb eR vo' vs (no+1) (os++[u]) es W4:=by
 have h2:=h.below ((Below.refl _ _).alloc (o:=o) (Nat.le_refl _));have o1:aN (λk=>vo.ownBlock=some k) (W.alloc o) W4:=aN.gh h2.pO (by decide) hg;have key:∀(t:TypeId) (k:Nat) c fz,t≠57->(W.alloc o).heap[k]?=some (.cells c t fz)->W4.heap[k]?=some (.cells c t fz):=λt k c fz ht hh=>o1.same hh (λe=>by obtain ⟨_,c',hc'⟩:=aw h2.pO e;rw[hh]at hc';cases hc';exact ht rfl)
 exact ⟨hrow,cj h2.sL (λk c=>key _ k c _ (by decide)),cj h2.OI (λk c=>key _ k c _ (by decide)),λe he=>⟨(h2.each e he).1.keep (λc fz=>key _ _ c fz (by decide)),cj (h2.each e he).2.1 (λk c=>key _ k c _ (by decide)),(h2.each e he).2.2⟩,h2.ints.keep (λc fz=>key _ _ c fz (by decide)),h2.good,h2.cp,h2.runs,h2.kE.trans ⟨o1.os,o1.tape,o1.output,o1.size,λk hk=>o1.keep k ⟨Nat.lt_of_lt_of_le hk h2.kE.size,λe=>by have:=(aw h2.pO e).1;omega⟩⟩⟩
theorem Ku.aaf{W5:World}{body:List UInt8}{lv:Value}{ba:List Sp}{xN xO:Nat}{st':List Nat}{vs':Value}(h:Ku w G T vl cZ j st sb eR vo vs no os es W)(eA:vY G)(gw:Below W.heap.size W W5)(je:(aA T)[j]?=some body)(ht:sw G body st ba st')(hsp:bN W5 W.heap.size lv ba)(hi:cF W5 xN st')(hc:st'.length<=xO)
  (hrow:W4.ownsRow w.heap.size 64 1 vs' (es.length+1) (es.map RE.lv++[lv])) (hg:(W5.alloc o).grownBy W4 vs.ownBlock):Ku w G T vl cZ (j+1) st' xN xO vo vs' no os (es++[⟨st,sb,eR,lv,ba⟩]) W4:=by
 have h5:=h.below gw;have hbo:Below W5.heap.size W5 (W5.alloc o):=(Below.refl _ _).alloc (Nat.le_refl _) _;have h2:=h5.below hbo;have o1:aN (λk=>vs.ownBlock=some k) (W5.alloc o) W4:=aN.gh h2.sL (by decide) hg
 have key:∀(t:TypeId) (k:Nat) c fz,t≠64->(W5.alloc o).heap[k]?=some (.cells c t fz)->W4.heap[k]?=some (.cells c t fz):=λt k c fz ht hh=>o1.same hh (λe=>by obtain ⟨_,c',hc'⟩:=aw h2.sL e;rw[hh]at hc';cases hc';exact ht rfl)
 have rC:bN W4 w.heap.size lv ba:=cY (cj (aJ hsp λk hk=>hbo.block k (by obtain ⟨_,c,hc⟩:=aw hsp hk;exact ae hc)) (λk c=>key _ k c _ (by decide))) h.kE.size
 refine ⟨cj h2.pO (λk c=>key _ k c _ (by decide)),?_,cj h2.OI (λk c=>key _ k c _ (by decide)),λe he=>?_,(hi.below hbo).keep (λc fz=>key _ _ c fz (by decide)),ht.good eA h.good,hc,?_,h2.kE.trans ⟨o1.os,o1.tape,o1.output,o1.size,λk hk=>o1.keep k ⟨Nat.lt_of_lt_of_le hk h2.kE.size,λe=>by have:=(aw h2.sL e).1;omega⟩⟩⟩
 ·rw[List.length_append,List.map_append];exact hrow
 ·rcases List.mem_append.1 he with he|he
  ·exact ⟨(h2.each e he).1.keep (λc fz=>key _ _ c fz (by decide)),cj (h2.each e he).2.1 (λk c=>key _ k c _ (by decide)),(h2.each e he).2.2⟩
  ·obtain rfl:=List.mem_singleton.1 he;exact ⟨h2.ints.keep (λc fz=>key _ _ c fz (by decide)),rC,h.cp⟩
 ·rw[List.take_add_one,je,List.map_append];exact h.runs.snoc ht
end
def Kv(G:List GS)(T:List UInt8)(w:World)(e:Ending)(W:World):Prop:=
 ∃(vo vs:Value) (es:List RE) (st:List Nat),e=.returned (.tuple #[vo,vs])/\W.ownsRow w.heap.size 57 1 vo es.length (es.map RE.ov)/\W.ownsRow w.heap.size 64 1 vs es.length (es.map RE.lv) /\
  (∀e∈es,cF W e.sb e.st/\bN W w.heap.size e.lv e.ba/\e.st.length<=e.eR)/\dn G [0] (aA T) (es.map λe=>(e.st,e.ba)) st/\Below w.heap.size w W
def Kw(w:World)(G:List GS)(T:List UInt8)(vl:Value)(cZ:List ByteArray)(k:Nat)(vo vs vt vi:Value)(W:World):Prop:=
 ∃(j:Nat) (st:List Nat) (sb eR:Nat) (ao:Option Addr) (c:Nat) (so:Option Addr) (sc:Nat) (es:List RE),vo=.slice ao j c/\vs=.slice so j sc/\vt=.slice (some ⟨sb,0,none⟩) st.length eR/\vi=.int .i64 j/\j+k=cZ.length/\es.length=j /\
  Ku w G T vl cZ j st sb eR (.slice ao j c) (.slice so j sc) j (es.map RE.ov) es W
set_option maxRecDepth 20000 in
set_option maxHeartbeats 2000000 in
theorem mN(B P g n0 cap:Nat)(ss:List bZ)(G:List GS)(text:ByteArray)(w:World)(h:RG w B P g n0 cap ss)(dc:wu G ss)(eA:vY G)(hG:0<G.length)(hz:text.size<=3000):
  Calls Tryz.prog 35 #[.pointer (some ⟨P,0,none⟩),.string text] w (Kv G text.data.toList w):=by
 have GL:=aa h;have N3:=aa dc;have xP:=aa eA;have iI:=aa (xL text w hz);obtain ⟨i0,Ks,hz0,hz1,hz3⟩:=info_parts GK;obtain ⟨i1,wy,ZC,UN,ZE⟩:=info_parts C7;clear h dc eA;go_enter Tryz.func35,Tryz.ntmps35;go_wp2_with fail;refine iI.out.mono ?_;rintro e w1 ⟨vl,cZ,rfl,QU,gj,hb1⟩
 have eT:cZ.length=(aA text.data.toList).length:=by rw[<-gj,List.length_map]
 have pJ:0<cZ.length:=by rw[eT];exact List.length_pos_iff.2 (gS _)
 obtain ⟨lb,lc,rfl⟩:=aC QU pJ;have Sm:cZ.length<=3001:=by rw[eT,aR];have:=List.count_le_length (a:=(10:UInt8)) (l:=text.data.toList);rw[ag]at this;omega
 have iU:=aa gj
 have UO:=aa (show Ku w G text.data.toList (.slice (some ⟨lb,0,none⟩) cZ.length lc) cZ 0 [0] w1.heap.size 1 (.slice none 0 0) (.slice none 0 0) 0 [] [] (w1.alloc (.cells #[.int .i64 0] 3)) from
  ⟨World.ownsRow_nil _ _ _ _,World.ownsRow_nil _ _ _ _,aJ QU λk hk=>((Below.refl _ _).alloc (Nat.le_refl _) _).block k (by obtain ⟨_,c,hc⟩:=aw QU hk;exact ae hc),λe he=>by simp at he,
   ⟨_,_,af _ _,λj x hj=>by
    cases j with
    | zero=>simp at hj;subst hj;rfl
    | succ j=>simp at hj⟩,⟨by simp,λx hx=>by simp at hx;omega⟩,Nat.le_refl _,.nil,hb1.alloc hb1.size _⟩)
 have rE:=aa eT;clear QU gj hb1 iI eT;go_wp2_with fail;go_loopg [7,8,9,10] cZ.length (λk vo vs vt vi W=>Kw w G text.data.toList (.slice (some ⟨lb,0,none⟩) cZ.length lc) cZ k vo vs vt vi W)
 case atStart=>exact ⟨0,[0],_,1,none,0,none,0,[],rfl,rfl,rfl,rfl,by omega,rfl,UO.out⟩
 case round=>
  obtain ⟨j,st,sb,eR,ao,c,so,sc,es,rfl,rfl,rfl,rfl,hk,hes,hJ⟩:=hrel;have HJ:=aa hJ;have HES:=aa hes;by_cases hlt:j<cZ.length
  ·have g1:decide ((j:Int)<(cZ.length:Int))=true:=decide_eq_true (by omega);have hwr:IntKind.i64.wrap ((j:Int)+1)=(j:Int)+1:=by rw[IntKind.wrap_i64];omega
   obtain ⟨x,hx⟩:∃x,cZ[j]?=some x:=⟨_,List.getElem?_eq_getElem hlt⟩;have je:(aA text.data.toList)[j]?=some x.data.toList:=by rw[<-iU.out,List.getElem?_map,hx];rfl
   have hxz:x.size<=3000:=by have:=jH (List.mem_of_getElem? je);rw[ag,ag]at this;omega
   have VV:=aa je;have bE:=aa (show (wr.alloc (.cells #[.slice (some ⟨sb,0,none⟩) st.length eR] 57)).ownsRow w.heap.size 57 1 (.slice ao j c) j (es.map RE.ov) from (hJ.below ((Below.refl _ _).alloc (Nat.le_refl _) _)).pO)
   have fp:=aa (λ(y:Nat) u (h:([.slice (some ⟨sb,0,none⟩) st.length eR]:List Value)[y]?=some u)=>show (wr.alloc (.cells #[.slice (some ⟨sb,0,none⟩) st.length eR] 57)).cell? ((⟨wr.heap.size,0,none⟩:Addr).add y)=some u from aF wr #[.slice (some ⟨sb,0,none⟩) st.length eR] _ y u h)
   have hbase:w.heap.size<=(wr.alloc (.cells #[.slice (some ⟨sb,0,none⟩) st.length eR] 57)).heap.size:=by rw[World.size_alloc];have:=hJ.kE.size;omega
   have iB:=aa (λ(v':Value) (W4:World) (hr:W4.ownsRow w.heap.size 57 1 v' (j+1) (es.map RE.ov++[.slice (some ⟨sb,0,none⟩) st.length eR])) (hg:(wr.alloc (.cells #[.slice (some ⟨sb,0,none⟩) st.length eR] 57)).grownBy W4 (Value.slice ao j c).ownBlock)=>HJ.out.out hr hg);clear hJ je
   go_wp2_with (at_builtin;go_loud (refine wpList_append_own_at _ rfl (.tmp 22) (.tmp 24) 87 rfl w.heap.size 57 i0 (.slice none 0 0) 1 24 Tryz.underlying87 Ks hz0 hz1 hz3 rfl (by decide) (.slice ao j c) j (es.map RE.ov) (by rfl) bE.out ⟨wr.heap.size,0,none⟩ 1 1 [.slice (some ⟨sb,0,none⟩) st.length eR] (by rfl) rfl fp.out (by simp[Value.oneCell']) (by unfold maxLen;omega) (by omega) hbase ?_;intro v' W4 hown hg _ _;have jf:=aa (iB.out v' W4 hown hg);obtain ⟨g',cap',rfl⟩:=aC hown (by omega);have hlc:=(bU jf.out.OI (j:=j) (u:=.string x) (by rw[List.getElem?_map,hx];rfl)).1;clear hown hg iB bE fp HJ))
   have Ky:=aa (zS B P g n0 cap ss G x st sb eR W4 (GL.out.below jf.out.kE) N3.out xP.out jf.out.good hxz jf.out.ints jf.out.cp);refine Ky.out.mono ?_;rintro e w5 ⟨lv,ba,xN,st',xO,rfl,ht5,OJ,hi5,VW,gw⟩;obtain ⟨mO,nA,rfl⟩:=aI OJ;obtain ⟨JP,VX⟩:∃JP,JP=ba.length:=⟨_,rfl⟩;rw[<-VX]at OJ ⊢;have hs5:=jf.out.below gw
   have bE:=aa (show (w5.alloc (.cells #[.slice mO JP nA] 64)).ownsRow w.heap.size 64 1 (.slice so j sc) j (es.map RE.lv) from by have:=(hs5.below ((Below.refl _ _).alloc (o:=.cells #[.slice mO JP nA] 64) (Nat.le_refl _))).sL;rw[HES.out]at this;exact this)
   have fp:=aa (λ(y:Nat) u (h:([.slice mO JP nA]:List Value)[y]?=some u)=>show (w5.alloc (.cells #[.slice mO JP nA] 64)).cell? ((⟨w5.heap.size,0,none⟩:Addr).add y)=some u from aF w5 #[.slice mO JP nA] _ y u h);have C8:w.heap.size<=(w5.alloc (.cells #[.slice mO JP nA] 64)).heap.size:=by rw[World.size_alloc];have:=hs5.kE.size;omega
   have iB:=aa (λ(v':Value) (W6:World) (hr:W6.ownsRow w.heap.size 64 1 v' (j+1) (es.map RE.lv++[.slice mO JP nA])) (hg:(w5.alloc (.cells #[.slice mO JP nA] 64)).grownBy W6 (Value.slice so j sc).ownBlock)=>show Kw w G text.data.toList (.slice (some ⟨lb,0,none⟩) cZ.length lc) cZ (cZ.length - (j+1)) (.slice (some ⟨g',0,none⟩) (j+1) cap') v' (.slice (some ⟨xN,0,none⟩) st'.length xO) (.int .i64 ((j:Int)+1)) W6 from by
    have VY:=HES.out;have h6:=jf.out.aaf xP.out gw VV.out ht5 OJ hi5 VW (by rw[VY];exact hr) hg;obtain ⟨so',sc',hv'⟩:=aI hr;subst hv';refine ⟨j+1,st',xN,xO,some ⟨g',0,none⟩,cap',so',sc',es++[⟨st,sb,eR,.slice mO JP nA,ba⟩],rfl,rfl,rfl,by simp,by omega,by simp[VY],?_⟩;rw[List.map_append];exact h6)
   clear OJ ht5 hi5 VW gw hs5 jf Ky VX
   go_wp2_with (at_builtin;go_loud (refine wpList_append_own_at _ rfl (.tmp 36) (.tmp 38) 52 rfl w.heap.size 64 i1 (.slice none 0 0) 1 24 Tryz.underlying52 wy ZC UN ZE rfl (by decide) (.slice so j sc) j (es.map RE.lv) (by rfl) bE.out ⟨w5.heap.size,0,none⟩ 1 1 [.slice mO JP nA] (by rfl) rfl fp.out (by simp[Value.oneCell']) (by unfold maxLen;omega) (by omega) C8 ?_;intro v6 W6 Kz ZF _ _;have HST:=aa (iB.out v6 W6 Kz ZF);obtain ⟨g6,abO,rfl⟩:=aC Kz (by omega);clear Kz ZF iB bE fp))
   go_wp2_with fail;go_roundg (cZ.length - (j+1))
   case measure=>omega
   case rel=>exact HST.out
  ·have g1:decide ((j:Int)<(cZ.length:Int))=false:=decide_eq_false (by omega);obtain rfl:j=cZ.length:=by omega
   have ai:=aa (show Kv G text.data.toList w (.returned (.tuple #[.slice ao cZ.length c,.slice so cZ.length sc])) wr from ⟨_,_,es,st,rfl,by rw[hes];exact hJ.pO,by have:=hJ.sL;exact this,hJ.each,by have:=hJ.runs;rw[List.take_of_length_le (by rw[rE.out];exact Nat.le_refl _)]at this;exact this,hJ.kE⟩);clear hJ;go_wp2_with fail;go_ret2;exact ai.out
end Go.Proofs.YtgncgdkpkkdaeaaGreatDoor
