import Derived.Test.YtgncgdkpkkdaeaaGreatDoorAH4
set_option maxRecDepth 20000
set_option maxHeartbeats 2000000
namespace Go.Proofs.YtgncgdkpkkdaeaaGreatDoor
open Go.RowKit bu Go.Maps Go.Shelf
variable {o:Obj}
structure RE where
 st:List Nat
 sb:Nat
 fL:Nat
 lv:Value
 bh:List Sp
def RE.ov(e:RE):Value:=.slice (some ⟨e.sb,0,none⟩) e.st.length e.fL
theorem Jv:(Tryz.prog.info? 57).map (λi=>(i.zero,i.size,i.bytes))=some (some (.slice none 0 0),1,24):=by kernel_rfl
theorem uO:(Tryz.prog.info? 64).map (λi=>(i.zero,i.size,i.bytes))=some (some (.slice none 0 0),1,24):=by kernel_rfl
structure ME(w:World)(G:List GS)(T:List UInt8)(vl:Value)(dx:List ByteArray)(j:Nat)(st:List Nat)(sb fL:Nat)(vo vs:Value)(no:Nat)(os:List Value)(es:List RE)(W:World):Prop where
 pX:W.ownsRow w.heap.size 57 1 vo no os
 mf:W.ownsRow w.heap.size 64 1 vs es.length (es.map RE.lv)
 Q6:jW W w.heap.size vl dx
 each:∀e∈es,cX W e.sb e.st/\ck W w.heap.size e.lv e.bh/\e.st.length<=e.fL
 ints:cX W sb st
 good:Good G st
 cp:st.length<=fL
 runs:dZ G [0] ((aF T).take j) (es.map λe=>(e.st,e.bh)) st
 lZ:Below w.heap.size w W
theorem bq{w w':World}{B:Nat}{e:TypeId}{size:Nat}{v:Value}{n:Nat}{xs:List Value}(h:w.ownsRow B e size v n xs)(hk:∀(k:Nat) c,w.heap[k]?=some (.cells c e (0,0))->w'.heap[k]?=some (.cells c e (0,0))):w'.ownsRow B e size v n xs:=aI h λk hk'=>by obtain ⟨_,c,hc⟩:=ar h hk';rw[hc];exact hk k c hc
section
variable {w W W4:World} {G:List GS} {T:List UInt8} {vl:Value} {dx:List ByteArray} {j:Nat} {st:List Nat} {sb fL:Nat} {vo vs:Value} {no:Nat} {os:List Value} {es:List RE}
theorem ME.below(h:ME w G T vl dx j st sb fL vo vs no os es W)(hb:Below W.heap.size W W4):ME w G T vl dx j st sb fL vo vs no os es W4:=by
 have key:∀(t:TypeId) (k:Nat) c,W.heap[k]?=some (.cells c t (0,0))->W4.heap[k]?=some (.cells c t (0,0)):=λt k c hh=>(hb.block k (ae hh)).trans hh
 exact ⟨bq h.pX (key _),bq h.mf (key _),bq h.Q6 (key _),λe he=>⟨(h.each e he).1.below hb,bq (h.each e he).2.1 (key _),(h.each e he).2.2⟩,h.ints.below hb,h.good,h.cp,h.runs,h.lZ.trans (hb.mono h.lZ.size)⟩
theorem ME.out{vo':Value}{u:Value}(h:ME w G T vl dx j st sb fL vo vs no os es W)(hrow:W4.ownsRow w.heap.size 57 1 vo' (no+1) (os++[u]))(hg:(W.alloc o).grownBy W4 vo.ownBlock):ME w G T vl dx j st sb fL vo' vs (no+1) (os++[u]) es W4:=by
 have h2:=h.below ((Below.refl _ _).alloc (o:=o) (bc _));have o1:aM (λk=>vo.ownBlock=some k) (W.alloc o) W4:=aM.gY h2.pX (by decide) hg;have key:∀(t:TypeId) (k:Nat) c fz,t≠57->(W.alloc o).heap[k]?=some (.cells c t fz)->W4.heap[k]?=some (.cells c t fz):=λt k c fz ht hh=>o1.same hh (λe=>by obtain ⟨_,c',hc'⟩:=ar h2.pX e;rw[hh]at hc';cases hc';exact ht rfl)
 exact ⟨hrow,bq h2.mf (λk c=>key _ k c _ (by decide)),bq h2.Q6 (λk c=>key _ k c _ (by decide)),λe he=>⟨(h2.each e he).1.keep (λc fz=>key _ _ c fz (by decide)),bq (h2.each e he).2.1 (λk c=>key _ k c _ (by decide)),(h2.each e he).2.2⟩,h2.ints.keep (λc fz=>key _ _ c fz (by decide)),h2.good,h2.cp,h2.runs,h2.lZ.trans ⟨o1.os,o1.tape,o1.output,o1.size,λk hk=>o1.keep k ⟨dw hk h2.lZ.size,λe=>by have:=(ar h2.pX e).1;omega⟩⟩⟩
theorem ME.abF{W5:World}{body:List UInt8}{lv:Value}{bh:List Sp}{zN zO:Nat}{st':List Nat}{vs':Value}(h:ME w G T vl dx j st sb fL vo vs no os es W)(eM:yq G)(iq:Below W.heap.size W W5)(jU:(aF T)[j]?=some body)(ht:uE G body st bh st')(hsp:ck W5 W.heap.size lv bh)(hi:cX W5 zN st')(hc:st'.length<=zO)
  (hrow:W4.ownsRow w.heap.size 64 1 vs' (es.length+1) (es.map RE.lv++[lv])) (hg:(W5.alloc o).grownBy W4 vs.ownBlock):ME w G T vl dx (j+1) st' zN zO vo vs' no os (es++[⟨st,sb,fL,lv,bh⟩]) W4:=by
 have h5:=h.below iq;have hbo:Below W5.heap.size W5 (W5.alloc o):=cq _ _;have h2:=h5.below hbo;have o1:aM (λk=>vs.ownBlock=some k) (W5.alloc o) W4:=aM.gY h2.mf (by decide) hg
 have key:∀(t:TypeId) (k:Nat) c fz,t≠64->(W5.alloc o).heap[k]?=some (.cells c t fz)->W4.heap[k]?=some (.cells c t fz):=λt k c fz ht hh=>o1.same hh (λe=>by obtain ⟨_,c',hc'⟩:=ar h2.mf e;rw[hh]at hc';cases hc';exact ht rfl)
 have tQ:ck W4 w.heap.size lv bh:=dB (bq (aI hsp λk hk=>hbo.block k (by obtain ⟨_,c,hc⟩:=ar hsp hk;exact ae hc)) (λk c=>key _ k c _ (by decide))) h.lZ.size
 refine ⟨bq h2.pX (λk c=>key _ k c _ (by decide)),?_,bq h2.Q6 (λk c=>key _ k c _ (by decide)),λe he=>?_,(hi.below hbo).keep (λc fz=>key _ _ c fz (by decide)),ht.good eM h.good,hc,?_,h2.lZ.trans ⟨o1.os,o1.tape,o1.output,o1.size,λk hk=>o1.keep k ⟨dw hk h2.lZ.size,λe=>by have:=(ar h2.mf e).1;omega⟩⟩⟩
 ·rw[dG,List.map_append];exact hrow
 ·rcases List.mem_append.1 he with he|he
  ·exact ⟨(h2.each e he).1.keep (λc fz=>key _ _ c fz (by decide)),bq (h2.each e he).2.1 (λk c=>key _ k c _ (by decide)),(h2.each e he).2.2⟩
  ·obtain rfl:=List.mem_singleton.1 he;exact ⟨h2.ints.keep (λc fz=>key _ _ c fz (by decide)),tQ,h.cp⟩
 ·rw[List.take_add_one,jU,List.map_append];exact h.runs.snoc ht
end
def MF(G:List GS)(T:List UInt8)(w:World)(e:Ending)(W:World):Prop:=
 ∃(vo vs:Value) (es:List RE) (st:List Nat),e=.returned (.tuple #[vo,vs])/\W.ownsRow w.heap.size 57 1 vo es.length (es.map RE.ov)/\W.ownsRow w.heap.size 64 1 vs es.length (es.map RE.lv) /\
  (∀e∈es,cX W e.sb e.st/\ck W w.heap.size e.lv e.bh/\e.st.length<=e.fL)/\dZ G [0] (aF T) (es.map λe=>(e.st,e.bh)) st/\Below w.heap.size w W
def MG(w:World)(G:List GS)(T:List UInt8)(vl:Value)(dx:List ByteArray)(k:Nat)(vo vs vt vi:Value)(W:World):Prop:=
 ∃(j:Nat) (st:List Nat) (sb fL:Nat) (ao:Option Addr) (c:Nat) (so:Option Addr) (sc:Nat) (es:List RE),vo=.slice ao j c/\vs=.slice so j sc/\vt=.slice (some ⟨sb,0,none⟩) st.length fL/\vi=.int .i64 j/\j+k=dx.length/\es.length=j /\
  ME w G T vl dx j st sb fL (.slice ao j c) (.slice so j sc) j (es.map RE.ov) es W
theorem oB(B P g n0 cap:Nat)(ss:List cH)(G:List GS)(text:ByteArray)(w:World)(h:RG w B P g n0 cap ss)(dC:yu G ss)(eM:yq G)(hG:0<G.length)(hz:text.size<=3000):
  Calls Tryz.prog 35 #[.pointer (some ⟨P,0,none⟩),.string text] w (MF G text.data.toList w):=by
 have Jw:=aa h;have Qr:=aa dC;have zP:=aa eM;have jA:=aa (zL text w hz);obtain ⟨i0,uL,hz0,hz1,hz3⟩:=info_parts Jv;obtain ⟨i1,yv,hy0,Xx,hy3⟩:=info_parts uO;clear h dC eM;go_enter Tryz.func35,Tryz.ntmps35;go_wp2_with fail;refine jA.out.mono ?_;rintro e w1 ⟨vl,dx,rfl,TA,gF,hb1⟩
 have fO:dx.length=(aF text.data.toList).length:=by rw[<-gF,fy]
 have lY:0<dx.length:=by rw[fO];exact List.length_pos_iff.2 (iK _)
 obtain ⟨lb,lc,rfl⟩:=aB TA lY;have UX:dx.length<=3001:=by rw[fO,aT];have:=List.count_le_length (a:=(10:UInt8)) (l:=text.data.toList);rw[aj]at this;omega
 have jm:=aa gF
 have Q7:=aa (show ME w G text.data.toList (.slice (some ⟨lb,0,none⟩) dx.length lc) dx 0 [0] w1.heap.size 1 (.slice none 0 0) (.slice none 0 0) 0 [] [] (w1.alloc (.cells #[.int .i64 0] 3)) from
  ⟨World.ownsRow_nil _ _ _ _,World.ownsRow_nil _ _ _ _,aI TA λk hk=>(cq _ _).block k (by obtain ⟨_,c,hc⟩:=ar TA hk;exact ae hc),λe he=>by simp at he,
   ⟨_,_,ag _ _,λj x hj=>by
    cases j with
    | zero=>simp at hj;subst hj;rfl
    | succ j=>simp at hj⟩,⟨by simp,λx hx=>by simp at hx;omega⟩,bc _,.nil,hb1.alloc hb1.size _⟩)
 have tS:=aa fO;clear TA gF hb1 jA fO;go_wp2_with fail;go_loopg [7,8,9,10] dx.length (λk vo vs vt vi W=>MG w G text.data.toList (.slice (some ⟨lb,0,none⟩) dx.length lc) dx k vo vs vt vi W)
 case atStart=>exact ⟨0,[0],_,1,none,0,none,0,[],rfl,rfl,rfl,rfl,by omega,rfl,Q7.out⟩
 case round=>
  obtain ⟨j,st,sb,fL,ao,c,so,sc,es,rfl,rfl,rfl,rfl,hk,hes,hJ⟩:=hrel;have HJ:=aa hJ;have HES:=aa hes;by_cases hlt:j<dx.length
  ·have g1:decide ((j:Int)<(dx.length:Int))=true:=cF (by omega);have hwr:IntKind.i64.wrap ((j:Int)+1)=(j:Int)+1:=by rw[IntKind.wrap_i64];omega
   obtain ⟨x,hx⟩:∃x,dx[j]?=some x:=⟨_,cB hlt⟩;have jU:(aF text.data.toList)[j]?=some x.data.toList:=by rw[<-jm.out,fX,hx];rfl
   have hxz:x.size<=3000:=by have:=kI (bn jU);rw[aj,aj]at this;omega
   have YE:=aa jU;have bj:=aa (show (wr.alloc (.cells #[.slice (some ⟨sb,0,none⟩) st.length fL] 57)).ownsRow w.heap.size 57 1 (.slice ao j c) j (es.map RE.ov) from (hJ.below (cq _ _)).pX)
   have ey:=aa (λ(y:Nat) u (h:([.slice (some ⟨sb,0,none⟩) st.length fL]:List Value)[y]?=some u)=>show (wr.alloc (.cells #[.slice (some ⟨sb,0,none⟩) st.length fL] 57)).cell? ((⟨wr.heap.size,0,none⟩:Addr).add y)=some u from aG wr #[.slice (some ⟨sb,0,none⟩) st.length fL] _ y u h)
   have hbase:w.heap.size<=(wr.alloc (.cells #[.slice (some ⟨sb,0,none⟩) st.length fL] 57)).heap.size:=by rw[World.size_alloc];have:=hJ.lZ.size;omega
   have fk:=aa (λ(v':Value) (W4:World) (hr:W4.ownsRow w.heap.size 57 1 v' (j+1) (es.map RE.ov++[.slice (some ⟨sb,0,none⟩) st.length fL])) (hg:(wr.alloc (.cells #[.slice (some ⟨sb,0,none⟩) st.length fL] 57)).grownBy W4 (Value.slice ao j c).ownBlock)=>HJ.out.out hr hg);clear hJ jU
   go_wp2_with (at_builtin;go_loud (refine wpList_append_own_at _ rfl (.tmp 22) (.tmp 24) 87 rfl w.heap.size 57 i0 (.slice none 0 0) 1 24 Tryz.underlying87 uL hz0 hz1 hz3 rfl (by decide) (.slice ao j c) j (es.map RE.ov) (by rfl) bj.out ⟨wr.heap.size,0,none⟩ 1 1 [.slice (some ⟨sb,0,none⟩) st.length fL] (by rfl) rfl ey.out (by simp[Value.oneCell']) (by unfold maxLen;omega) (by omega) hbase ?_;intro v' W4 hown hg _ _;have jV:=aa (fk.out v' W4 hown hg);obtain ⟨g',cap',rfl⟩:=aB hown (by omega);have hlc:=(bG jV.out.Q6 (j:=j) (u:=.string x) (by rw[fX,hx];rfl)).1;clear hown hg fk bj ey HJ))
   have MH:=aa (B9 B P g n0 cap ss G x st sb fL W4 (Jw.out.below jV.out.lZ) Qr.out zP.out jV.out.good hxz jV.out.ints jV.out.cp);refine MH.out.mono ?_;rintro e w5 ⟨lv,bh,zN,st',zO,rfl,ht5,Q8,hi5,YF,iq⟩;obtain ⟨oC,pn,rfl⟩:=aC Q8;obtain ⟨LW,YG⟩:∃LW,LW=bh.length:=⟨_,rfl⟩;rw[<-YG]at Q8 ⊢;have hs5:=jV.out.below iq
   have bj:=aa (show (w5.alloc (.cells #[.slice oC LW pn] 64)).ownsRow w.heap.size 64 1 (.slice so j sc) j (es.map RE.lv) from by have:=(hs5.below ((Below.refl _ _).alloc (o:=.cells #[.slice oC LW pn] 64) (bc _))).mf;rw[HES.out]at this;exact this)
   have ey:=aa (λ(y:Nat) u (h:([.slice oC LW pn]:List Value)[y]?=some u)=>show (w5.alloc (.cells #[.slice oC LW pn] 64)).cell? ((⟨w5.heap.size,0,none⟩:Addr).add y)=some u from aG w5 #[.slice oC LW pn] _ y u h);have E3:w.heap.size<=(w5.alloc (.cells #[.slice oC LW pn] 64)).heap.size:=by rw[World.size_alloc];have:=hs5.lZ.size;omega
   have fk:=aa (λ(v':Value) (W6:World) (hr:W6.ownsRow w.heap.size 64 1 v' (j+1) (es.map RE.lv++[.slice oC LW pn])) (hg:(w5.alloc (.cells #[.slice oC LW pn] 64)).grownBy W6 (Value.slice so j sc).ownBlock)=>show MG w G text.data.toList (.slice (some ⟨lb,0,none⟩) dx.length lc) dx (dx.length - (j+1)) (.slice (some ⟨g',0,none⟩) (j+1) cap') v' (.slice (some ⟨zN,0,none⟩) st'.length zO) (.int .i64 ((j:Int)+1)) W6 from by
    have YH:=HES.out;have h6:=jV.out.abF zP.out iq YE.out ht5 Q8 hi5 YF (by rw[YH];exact hr) hg;obtain ⟨so',sc',hv'⟩:=aC hr;subst hv';refine ⟨j+1,st',zN,zO,some ⟨g',0,none⟩,cap',so',sc',es++[⟨st,sb,fL,.slice oC LW pn,bh⟩],rfl,rfl,rfl,by simp,by omega,by simp[YH],?_⟩;rw[List.map_append];exact h6)
   clear Q8 ht5 hi5 YF iq hs5 jV MH YG
   go_wp2_with (at_builtin;go_loud (refine wpList_append_own_at _ rfl (.tmp 36) (.tmp 38) 52 rfl w.heap.size 64 i1 (.slice none 0 0) 1 24 Tryz.underlying52 yv hy0 Xx hy3 rfl (by decide) (.slice so j sc) j (es.map RE.lv) (by rfl) bj.out ⟨w5.heap.size,0,none⟩ 1 1 [.slice oC LW pn] (by rfl) rfl ey.out (by simp[Value.oneCell']) (by unfold maxLen;omega) (by omega) E3 ?_;intro v6 W6 MI hg6 _ _;have HST:=aa (fk.out v6 W6 MI hg6);obtain ⟨g6,ado,rfl⟩:=aB MI (by omega);clear MI hg6 fk bj ey))
   go_wp2_with fail;go_roundg (dx.length - (j+1))
   case measure=>omega
   case rel=>exact HST.out
  ·have g1:decide ((j:Int)<(dx.length:Int))=false:=bV (by omega);obtain rfl:j=dx.length:=by omega
   have aq:=aa (show MF G text.data.toList w (.returned (.tuple #[.slice ao dx.length c,.slice so dx.length sc])) wr from ⟨_,_,es,st,rfl,by rw[hes];exact hJ.pX,by have:=hJ.mf;exact this,hJ.each,by have:=hJ.runs;rw[List.take_of_length_le (by rw[tS.out];exact bc _)]at this;exact this,hJ.lZ⟩);clear hJ;go_wp2_with fail;go_ret2;exact aq.out
end Go.Proofs.YtgncgdkpkkdaeaaGreatDoor
