import Derived.Test.YtgncgdkpkkdaeaaGreatDoorMH4
import Derived.Test.YtgncgdkpkkdaeaaGreatDoorM3
namespace Go.Proofs.YtgncgdkpkkdaeaaGreatDoor
open Go.RowKit aO Go.Maps Go.Shelf
variable {o:Obj}
structure RE where
 st:List Nat
 sb:Nat
 fk:Nat
 lv:Value
 bc:List Sp
def RE.ov(e:RE):Value:=.slice (some ⟨e.sb,0,none⟩) e.st.length e.fk
theorem IH:(Tryz.prog.info? 57).map (λi=>(i.zero,i.size,i.bytes))=some (some (.slice none 0 0),1,24):=by kernel_rfl
theorem ua:(Tryz.prog.info? 64).map (λi=>(i.zero,i.size,i.bytes))=some (some (.slice none 0 0),1,24):=by kernel_rfl
structure LR(w:World)(G:List GS)(T:List UInt8)(vl:Value)(dp:List ByteArray)(j:Nat)(st:List Nat)(sb fk:Nat)(vo vs:Value)(no:Nat)(os:List Value)(es:List RE)(W:World):Prop where
 py:W.ownsRow w.heap.size 57 1 vo no os
 lm:W.ownsRow w.heap.size 64 1 vs es.length (es.map RE.lv)
 Qf:jE W w.heap.size vl dp
 each:∀e∈es,cN W e.sb e.st/\bV W w.heap.size e.lv e.bc/\e.st.length<=e.fk
 ints:cN W sb st
 good:Good G st
 cp:st.length<=fk
 runs:dz G [0] ((aB T).take j) (es.map λe=>(e.st,e.bc)) st
 lh:Below w.heap.size w W
theorem bm{w w':World}{B:Nat}{e:TypeId}{size:Nat}{v:Value}{n:Nat}{xs:List Value}(h:w.ownsRow B e size v n xs)(hk:∀(k:Nat) c,w.heap[k]?=some (.cells c e (0,0))->w'.heap[k]?=some (.cells c e (0,0))):w'.ownsRow B e size v n xs:=aG h λk hk'=>by obtain ⟨_,c,hc⟩:=aj h hk';rw[hc];exact hk k c hc
section
variable {w W W4:World} {G:List GS} {T:List UInt8} {vl:Value} {dp:List ByteArray} {j:Nat} {st:List Nat} {sb fk:Nat} {vo vs:Value} {no:Nat} {os:List Value} {es:List RE}
theorem LR.below(h:LR w G T vl dp j st sb fk vo vs no os es W)(hb:Below W.heap.size W W4):LR w G T vl dp j st sb fk vo vs no os es W4:=by
 have key:∀(t:TypeId) (k:Nat) c,W.heap[k]?=some (.cells c t (0,0))->W4.heap[k]?=some (.cells c t (0,0)):=λt k c hh=>(hb.block k (ae hh)).trans hh
 exact ⟨bm h.py (key _),bm h.lm (key _),bm h.Qf (key _),λe he=>⟨(h.each e he).1.below hb,bm (h.each e he).2.1 (key _),(h.each e he).2.2⟩,h.ints.below hb,h.good,h.cp,h.runs,h.lh.trans (hb.mono h.lh.size)⟩
theorem LR.out{vo':Value}{u:Value}(h:LR w G T vl dp j st sb fk vo vs no os es W)(hrow:W4.ownsRow w.heap.size 57 1 vo' (no+1) (os++[u]))(hg:(W.alloc o).grownBy W4 vo.ownBlock):LR w G T vl dp j st sb fk vo' vs (no+1) (os++[u]) es W4:=by
 have h2:=h.below ((Below.refl _ _).alloc (o:=o) (Nat.le_refl _));have o1:aK (λk=>vo.ownBlock=some k) (W.alloc o) W4:=aK.gA h2.py (by decide) hg;have key:∀(t:TypeId) (k:Nat) c fz,t≠57->(W.alloc o).heap[k]?=some (.cells c t fz)->W4.heap[k]?=some (.cells c t fz):=λt k c fz ht hh=>o1.same hh (λe=>by obtain ⟨_,c',hc'⟩:=aj h2.py e;rw[hh]at hc';cases hc';exact ht rfl)
 exact ⟨hrow,bm h2.lm (λk c=>key _ k c _ (by decide)),bm h2.Qf (λk c=>key _ k c _ (by decide)),λe he=>⟨(h2.each e he).1.keep (λc fz=>key _ _ c fz (by decide)),bm (h2.each e he).2.1 (λk c=>key _ k c _ (by decide)),(h2.each e he).2.2⟩,h2.ints.keep (λc fz=>key _ _ c fz (by decide)),h2.good,h2.cp,h2.runs,h2.lh.trans ⟨o1.os,o1.tape,o1.output,o1.size,λk hk=>o1.keep k ⟨Nat.lt_of_lt_of_le hk h2.lh.size,λe=>by have:=(aj h2.py e).1;omega⟩⟩⟩
theorem LR.aa7{W5:World}{body:List UInt8}{lv:Value}{bc:List Sp}{yT yU:Nat}{st':List Nat}{vs':Value}(h:LR w G T vl dp j st sb fk vo vs no os es W)(dZ:xD G)(gM:Below W.heap.size W W5)(jC:(aB T)[j]?=some body)(ht:tQ G body st bc st')(hsp:bV W5 W.heap.size lv bc)(hi:cN W5 yT st')(hc:st'.length<=yU)
  (hrow:W4.ownsRow w.heap.size 64 1 vs' (es.length+1) (es.map RE.lv++[lv])) (hg:(W5.alloc o).grownBy W4 vs.ownBlock):LR w G T vl dp (j+1) st' yT yU vo vs' no os (es++[⟨st,sb,fk,lv,bc⟩]) W4:=by
 have h5:=h.below gM;have hbo:Below W5.heap.size W5 (W5.alloc o):=(Below.refl _ _).alloc (Nat.le_refl _) _;have h2:=h5.below hbo;have o1:aK (λk=>vs.ownBlock=some k) (W5.alloc o) W4:=aK.gA h2.lm (by decide) hg
 have key:∀(t:TypeId) (k:Nat) c fz,t≠64->(W5.alloc o).heap[k]?=some (.cells c t fz)->W4.heap[k]?=some (.cells c t fz):=λt k c fz ht hh=>o1.same hh (λe=>by obtain ⟨_,c',hc'⟩:=aj h2.lm e;rw[hh]at hc';cases hc';exact ht rfl)
 have sP:bV W4 w.heap.size lv bc:=dn (bm (aG hsp λk hk=>hbo.block k (by obtain ⟨_,c,hc⟩:=aj hsp hk;exact ae hc)) (λk c=>key _ k c _ (by decide))) h.lh.size
 refine ⟨bm h2.py (λk c=>key _ k c _ (by decide)),?_,bm h2.Qf (λk c=>key _ k c _ (by decide)),λe he=>?_,(hi.below hbo).keep (λc fz=>key _ _ c fz (by decide)),ht.good dZ h.good,hc,?_,h2.lh.trans ⟨o1.os,o1.tape,o1.output,o1.size,λk hk=>o1.keep k ⟨Nat.lt_of_lt_of_le hk h2.lh.size,λe=>by have:=(aj h2.lm e).1;omega⟩⟩⟩
 ·rw[List.length_append,List.map_append];exact hrow
 ·rcases List.mem_append.1 he with he|he
  ·exact ⟨(h2.each e he).1.keep (λc fz=>key _ _ c fz (by decide)),bm (h2.each e he).2.1 (λk c=>key _ k c _ (by decide)),(h2.each e he).2.2⟩
  ·obtain rfl:=List.mem_singleton.1 he;exact ⟨h2.ints.keep (λc fz=>key _ _ c fz (by decide)),sP,h.cp⟩
 ·rw[List.take_add_one,jC,List.map_append];exact h.runs.snoc ht
end
def LS(G:List GS)(T:List UInt8)(w:World)(e:Ending)(W:World):Prop:=
 ∃(vo vs:Value) (es:List RE) (st:List Nat),e=.returned (.tuple #[vo,vs])/\W.ownsRow w.heap.size 57 1 vo es.length (es.map RE.ov)/\W.ownsRow w.heap.size 64 1 vs es.length (es.map RE.lv) /\
  (∀e∈es,cN W e.sb e.st/\bV W w.heap.size e.lv e.bc/\e.st.length<=e.fk)/\dz G [0] (aB T) (es.map λe=>(e.st,e.bc)) st/\Below w.heap.size w W
def LU(w:World)(G:List GS)(T:List UInt8)(vl:Value)(dp:List ByteArray)(k:Nat)(vo vs vt vi:Value)(W:World):Prop:=
 ∃(j:Nat) (st:List Nat) (sb fk:Nat) (ao:Option Addr) (c:Nat) (so:Option Addr) (sc:Nat) (es:List RE),vo=.slice ao j c/\vs=.slice so j sc/\vt=.slice (some ⟨sb,0,none⟩) st.length fk/\vi=.int .i64 j/\j+k=dp.length/\es.length=j /\
  LR w G T vl dp j st sb fk (.slice ao j c) (.slice so j sc) j (es.map RE.ov) es W
set_option maxRecDepth 20000 in
set_option maxHeartbeats 2000000 in
theorem nG(B P g n0 cap:Nat)(ss:List cd)(G:List GS)(text:ByteArray)(w:World)(h:RG w B P g n0 cap ss)(dr:xF G ss)(dZ:xD G)(hG:0<G.length)(hz:text.size<=3000):
  Calls Tryz.prog 35 #[.pointer (some ⟨P,0,none⟩),.string text] w (LS G text.data.toList w):=by
 have II:=aa h;have Py:=aa dr;have yV:=aa dZ;have jd:=aa (yR text w hz);obtain ⟨i0,tX,hz0,hz1,hz3⟩:=info_parts IH;obtain ⟨i1,xG,hy0,Wx,hy3⟩:=info_parts ua;clear h dr dZ;go_enter Tryz.func35,Tryz.ntmps35;go_wp2_with fail;refine jd.out.mono ?_;rintro e w1 ⟨vl,dp,rfl,SI,fS,hb1⟩
 have fq:dp.length=(aB text.data.toList).length:=by rw[<-fS,List.length_map]
 have qA:0<dp.length:=by rw[fq];exact List.length_pos_iff.2 (ik _)
 obtain ⟨lb,lc,rfl⟩:=az SI qA;have T5:dp.length<=3001:=by rw[fq,aS];have:=List.count_le_length (a:=(10:UInt8)) (l:=text.data.toList);rw[ah]at this;omega
 have iT:=aa fS
 have Pz:=aa (show LR w G text.data.toList (.slice (some ⟨lb,0,none⟩) dp.length lc) dp 0 [0] w1.heap.size 1 (.slice none 0 0) (.slice none 0 0) 0 [] [] (w1.alloc (.cells #[.int .i64 0] 3)) from
  ⟨World.ownsRow_nil _ _ _ _,World.ownsRow_nil _ _ _ _,aG SI λk hk=>((Below.refl _ _).alloc (Nat.le_refl _) _).block k (by obtain ⟨_,c,hc⟩:=aj SI hk;exact ae hc),λe he=>by simp at he,
   ⟨_,_,af _ _,λj x hj=>by
    cases j with
    | zero=>simp at hj;subst hj;rfl
    | succ j=>simp at hj⟩,⟨by simp,λx hx=>by simp at hx;omega⟩,Nat.le_refl _,.nil,hb1.alloc hb1.size _⟩)
 have sR:=aa fq;clear SI fS hb1 jd fq;go_wp2_with fail;go_loopg [7,8,9,10] dp.length (λk vo vs vt vi W=>LU w G text.data.toList (.slice (some ⟨lb,0,none⟩) dp.length lc) dp k vo vs vt vi W)
 case atStart=>exact ⟨0,[0],_,1,none,0,none,0,[],rfl,rfl,rfl,rfl,by omega,rfl,Pz.out⟩
 case round=>
  obtain ⟨j,st,sb,fk,ao,c,so,sc,es,rfl,rfl,rfl,rfl,hk,hes,hJ⟩:=hrel;have HJ:=aa hJ;have HES:=aa hes;by_cases hlt:j<dp.length
  ·have g1:decide ((j:Int)<(dp.length:Int))=true:=decide_eq_true (by omega);have hwr:IntKind.i64.wrap ((j:Int)+1)=(j:Int)+1:=by rw[IntKind.wrap_i64];omega
   obtain ⟨x,hx⟩:∃x,dp[j]?=some x:=⟨_,List.getElem?_eq_getElem hlt⟩;have jC:(aB text.data.toList)[j]?=some x.data.toList:=by rw[<-iT.out,List.getElem?_map,hx];rfl
   have hxz:x.size<=3000:=by have:=j6 (List.mem_of_getElem? jC);rw[ah,ah]at this;omega
   have XT:=aa jC;have ba:=aa (show (wr.alloc (.cells #[.slice (some ⟨sb,0,none⟩) st.length fk] 57)).ownsRow w.heap.size 57 1 (.slice ao j c) j (es.map RE.ov) from (hJ.below ((Below.refl _ _).alloc (Nat.le_refl _) _)).py)
   have ea:=aa (λ(y:Nat) u (h:([.slice (some ⟨sb,0,none⟩) st.length fk]:List Value)[y]?=some u)=>show (wr.alloc (.cells #[.slice (some ⟨sb,0,none⟩) st.length fk] 57)).cell? ((⟨wr.heap.size,0,none⟩:Addr).add y)=some u from aD wr #[.slice (some ⟨sb,0,none⟩) st.length fk] _ y u h)
   have hbase:w.heap.size<=(wr.alloc (.cells #[.slice (some ⟨sb,0,none⟩) st.length fk] 57)).heap.size:=by rw[World.size_alloc];have:=hJ.lh.size;omega
   have eM:=aa (λ(v':Value) (W4:World) (hr:W4.ownsRow w.heap.size 57 1 v' (j+1) (es.map RE.ov++[.slice (some ⟨sb,0,none⟩) st.length fk])) (hg:(wr.alloc (.cells #[.slice (some ⟨sb,0,none⟩) st.length fk] 57)).grownBy W4 (Value.slice ao j c).ownBlock)=>HJ.out.out hr hg);clear hJ jC
   go_wp2_with (at_builtin;go_loud (refine wpList_append_own_at _ rfl (.tmp 22) (.tmp 24) 87 rfl w.heap.size 57 i0 (.slice none 0 0) 1 24 Tryz.underlying87 tX hz0 hz1 hz3 rfl (by decide) (.slice ao j c) j (es.map RE.ov) (by rfl) ba.out ⟨wr.heap.size,0,none⟩ 1 1 [.slice (some ⟨sb,0,none⟩) st.length fk] (by rfl) rfl ea.out (by simp[Value.oneCell']) (by unfold maxLen;omega) (by omega) hbase ?_;intro v' W4 hown hg _ _;have jD:=aa (eM.out v' W4 hown hg);obtain ⟨g',cap',rfl⟩:=az hown (by omega);have hlc:=(bG jD.out.Qf (j:=j) (u:=.string x) (by rw[List.getElem?_map,hx];rfl)).1;clear hown hg eM ba ea HJ))
   have LV:=aa (Be B P g n0 cap ss G x st sb fk W4 (II.out.below jD.out.lh) Py.out yV.out jD.out.good hxz jD.out.ints jD.out.cp);refine LV.out.mono ?_;rintro e w5 ⟨lv,bc,yT,st',yU,rfl,ht5,Qg,hi5,XU,gM⟩;obtain ⟨nH,oy,rfl⟩:=aC Qg;obtain ⟨K7,XV⟩:∃K7,K7=bc.length:=⟨_,rfl⟩;rw[<-XV]at Qg ⊢;have hs5:=jD.out.below gM
   have ba:=aa (show (w5.alloc (.cells #[.slice nH K7 oy] 64)).ownsRow w.heap.size 64 1 (.slice so j sc) j (es.map RE.lv) from by have:=(hs5.below ((Below.refl _ _).alloc (o:=.cells #[.slice nH K7 oy] 64) (Nat.le_refl _))).lm;rw[HES.out]at this;exact this)
   have ea:=aa (λ(y:Nat) u (h:([.slice nH K7 oy]:List Value)[y]?=some u)=>show (w5.alloc (.cells #[.slice nH K7 oy] 64)).cell? ((⟨w5.heap.size,0,none⟩:Addr).add y)=some u from aD w5 #[.slice nH K7 oy] _ y u h);have Eg:w.heap.size<=(w5.alloc (.cells #[.slice nH K7 oy] 64)).heap.size:=by rw[World.size_alloc];have:=hs5.lh.size;omega
   have eM:=aa (λ(v':Value) (W6:World) (hr:W6.ownsRow w.heap.size 64 1 v' (j+1) (es.map RE.lv++[.slice nH K7 oy])) (hg:(w5.alloc (.cells #[.slice nH K7 oy] 64)).grownBy W6 (Value.slice so j sc).ownBlock)=>show LU w G text.data.toList (.slice (some ⟨lb,0,none⟩) dp.length lc) dp (dp.length - (j+1)) (.slice (some ⟨g',0,none⟩) (j+1) cap') v' (.slice (some ⟨yT,0,none⟩) st'.length yU) (.int .i64 ((j:Int)+1)) W6 from by
    have XW:=HES.out;have h6:=jD.out.aa7 yV.out gM XT.out ht5 Qg hi5 XU (by rw[XW];exact hr) hg;obtain ⟨so',sc',hv'⟩:=aC hr;subst hv';refine ⟨j+1,st',yT,yU,some ⟨g',0,none⟩,cap',so',sc',es++[⟨st,sb,fk,.slice nH K7 oy,bc⟩],rfl,rfl,rfl,by simp,by omega,by simp[XW],?_⟩;rw[List.map_append];exact h6)
   clear Qg ht5 hi5 XU gM hs5 jD LV XV
   go_wp2_with (at_builtin;go_loud (refine wpList_append_own_at _ rfl (.tmp 36) (.tmp 38) 52 rfl w.heap.size 64 i1 (.slice none 0 0) 1 24 Tryz.underlying52 xG hy0 Wx hy3 rfl (by decide) (.slice so j sc) j (es.map RE.lv) (by rfl) ba.out ⟨w5.heap.size,0,none⟩ 1 1 [.slice nH K7 oy] (by rfl) rfl ea.out (by simp[Value.oneCell']) (by unfold maxLen;omega) (by omega) Eg ?_;intro v6 W6 LW hg6 _ _;have HST:=aa (eM.out v6 W6 LW hg6);obtain ⟨g6,acU,rfl⟩:=az LW (by omega);clear LW hg6 eM ba ea))
   go_wp2_with fail;go_roundg (dp.length - (j+1))
   case measure=>omega
   case rel=>exact HST.out
  ·have g1:decide ((j:Int)<(dp.length:Int))=false:=decide_eq_false (by omega);obtain rfl:j=dp.length:=by omega
   have ai:=aa (show LS G text.data.toList w (.returned (.tuple #[.slice ao dp.length c,.slice so dp.length sc])) wr from ⟨_,_,es,st,rfl,by rw[hes];exact hJ.py,by have:=hJ.lm;exact this,hJ.each,by have:=hJ.runs;rw[List.take_of_length_le (by rw[sR.out];exact Nat.le_refl _)]at this;exact this,hJ.lh⟩);clear hJ;go_wp2_with fail;go_ret2;exact ai.out
end Go.Proofs.YtgncgdkpkkdaeaaGreatDoor
