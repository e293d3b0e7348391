import Derived.Test.YtgncgdkpkkdaeaaGreatDoorAZ
namespace Go.Proofs.YtgncgdkpkkdaeaaGreatDoor
open Go.RowKit bu Go.Maps Go.Shelf
variable {st QW:List Nat} {pre:List Sp} {xs:List Value} {BS:Loop} {B bl n q size:Nat} {A0 Cl:Nat->Prop} {e:TypeId} {v:Value} {A B2 w:World}
theorem aM.gY{w':World}{t:TypeId}{sz:Nat}(h:w.ownsRow B t sz v n xs)(ht:jK t=false)(hg:w.grownBy w' v.ownBlock):aM (λk=>v.ownBlock=some k) w w':=
 ⟨hg.os,hg.tape,hg.output,hg.size,λk hk=>hg.block k hk.1 (λe=>hk.2 e.symm),λk c t' jo hh=>by refine (hg.block k (ae hh) (λe=>?_)).trans hh;obtain ⟨_,c',hc'⟩:=ar h e.symm;rw[hh]at hc';cases hc';rw[ht]at jo;cases jo⟩
def IJ(B2:World)(A0:Nat->Prop)(q bl:Nat)(QW:List Nat)(BS:Loop)(Cl:Nat->Prop)(pre:List Sp)(st:List Nat)(A:World):Prop:=
 ∃sv,(∀k,Cl k<->(k=q+1∨k=bl∨k=bl+4∨sv.ownBlock=some k))/\A.heap[q+1]?=some (.cells (aL st).toArray 138 (0,0))/\A.heap[bl]?=some (.cells (aL QW++[sv]).toArray 151 (0,0))/\A.heap[bl+4]?=some (.loop BS)/\ck A (bl+5) sv pre/\aM (λk=>A0 k∨k=q+1∨bl<=k) B2 A/\bl+5<=A.heap.size/\st.length<=8
theorem IJ.keep{B:World}(h:IJ B2 A0 q bl QW BS Cl pre st A)(ho:aM (λk=>(A0 k∨bl+5<=k)/\¬Cl k) A B):IJ B2 A0 q bl QW BS Cl pre st B:=by
 obtain ⟨sv,h1,h2,h3,h4,h5,h6,h7,h8⟩:=h;refine ⟨sv,h1,ho.same h2 (λe=>e.2 ((h1 _).2 (.inl rfl))),ho.same h3 (λe=>e.2 ((h1 _).2 (.inr (.inl rfl)))),ho.same h4 (λe=>e.2 ((h1 _).2 (.inr (.inr (.inl rfl))))),aI h5 λk hk=>?_,?_,bJ h7 ho.size,h8⟩
 ·obtain ⟨_,c,hc⟩:=ar h5 hk;exact ho.keep k ⟨ae hc,λe=>e.2 ((h1 _).2 (.inr (.inr (.inr hk))))⟩
 ·exact h6.then ho (λk _ hk=>hk.1.imp id λh=>.inr (by omega))
theorem IJ.next{Qk:Loop}{st':List Nat}{x:Sp}{A3 A4:World}{sv':Value}(h:IJ B2 A0 q bl QW BS Cl pre st A)(hq:q+1<bl)(hj8:QW.length<=8)(UK:st'.length<=8)(h3:aM (λk=>k=bl+4) A A3)(yn:A3.heap[bl+4]?=some (.loop Qk))
  (oX:∀sv,A.heap[bl]?=some (.cells (aL QW++[sv]).toArray 151 (0,0))->A4.ownsRow (bl+5) 70 5 sv' (pre.length+1) (pre.flatMap Sp.cells++x.cells)/\A3.grownBy A4 sv.ownBlock/\(sv'.ownBlock=sv.ownBlock∨sv'.ownBlock=some A3.heap.size)) (A7:World) (hA7:A7=((A4.setCell ⟨bl,9,none⟩ sv').setRow (q+1) (aL st').toArray).putObj (bl+4) (.loop BS)):
  ((A4.setCell ⟨bl,9,none⟩ sv').setRow (q+1) (aL st').toArray).heap[bl+4]?=some (.loop Qk)/\∃xq,aM Cl A A7/\(∀k,xq k->k<A7.heap.size/\(Cl k∨A.heap.size<=k))/\IJ B2 A0 q bl QW BS xq (pre++[x]) st' A7:=by
 obtain ⟨sv,h1,h2,Tu,h4,h5,h6,h7,-⟩:=h;obtain ⟨hrow,hg,hv⟩:=oX sv Tu;have hb:∀k,sv.ownBlock=some k->bl+5<=k/\k<A.heap.size:=λk hk=>by obtain ⟨a,c,hc⟩:=ar h5 hk;exact ⟨a,ae hc⟩
 have h5':ck A3 (bl+5) sv pre:=aI h5 λk hk=>h3.keep k ⟨(hb k hk).2,by have:=(hb k hk).1;omega⟩
 have Mq:aM (λk=>sv.ownBlock=some k) A3 A4:=aM.gY h5' (by decide) hg;have b3:=h3.same Tu (by omega);have b4:=Mq.same b3 (λe=>by have:=(hb _ e).1;omega);have Mr:aM (λk=>k=bl) A4 (A4.setCell ⟨bl,9,none⟩ sv'):=aM.setCell (Y:=λk=>k=bl) (p:=⟨bl,9,none⟩) rfl b4 (by decide) _;have k3:=h3.same h2 (by omega);have k4:=Mq.same k3 (λe=>by have:=(hb _ e).1;omega)
 have k5:=Mr.same k4 (by omega);have QX:aM (λk=>k=q+1) (A4.setCell ⟨bl,9,none⟩ sv') ((A4.setCell ⟨bl,9,none⟩ sv').setRow (q+1) (aL st').toArray):=aM.setRow (Y:=λk=>k=q+1) _ k5 (by decide) rfl;have l4:=Mq.same yn (λe=>by have:=(hb _ e).1;omega);have l6:=QX.same (Mr.same l4 (by omega)) (by omega)
 have Yw:aM (λk=>k=bl+4) ((A4.setCell ⟨bl,9,none⟩ sv').setRow (q+1) (aL st').toArray) A7:=by rw[hA7];exact aM.putObj _ l6 rfl
 refine ⟨l6,?_⟩;have UL:aM Cl A A7:=(((h3.sub (Z:=Cl) λk _ e=>(h1 k).2 (.inr (.inr (.inl e)))).then (Mq.sub (Z:=Cl) λk _ e=>(h1 k).2 (.inr (.inr (.inr e)))) (λ_ _ h=>h)).then (Mr.sub (Z:=Cl) λk _ e=>(h1 k).2 (.inr (.inl e))) (λ_ _ h=>h)).then ((QX.sub (Z:=Cl) λk _ e=>(h1 k).2 (.inl e)).then (Yw.sub (Z:=Cl) λk _ e=>(h1 k).2 (.inr (.inr (.inl e)))) (λ_ _ h=>h)) (λ_ _ h=>h)
 have b5:=ah A4 bl 9 sv' b4;have b7:=Yw.same (QX.same b5 (by omega)) (by omega);have k6:((A4.setCell ⟨bl,9,none⟩ sv').setRow (q+1) (aL st').toArray).heap[q+1]?=some (.cells (aL st').toArray 138 (0,0)):=setRow_heap _ _ _ _ _ _ k5;have k7:=Yw.same k6 (by omega);have l7:A7.heap[bl+4]?=some (.loop BS):=by rw[hA7];exact World.putObj_heap_same (ae l6)
 have hb':∀k,sv'.ownBlock=some k->bl+5<=k/\k<A4.heap.size:=λk hk=>by obtain ⟨a,c,hc⟩:=ar hrow hk;exact ⟨a,ae hc⟩
 have s47:A4.heap.size<=A7.heap.size:=bJ Mr.size (bJ QX.size Yw.size)
 have Ms:ck A7 (bl+5) sv' (pre++[x]):=by refine ck.snoc (aI hrow λk hk=>?_);have:=hb' k hk;refine (Yw.keep k ⟨dw this.2 (bJ Mr.size QX.size),by omega⟩).trans ((QX.keep k ⟨dw this.2 Mr.size,by omega⟩).trans (Mr.keep k ⟨this.2,by omega⟩))
 refine ⟨λk=>k=q+1∨k=bl∨k=bl+4∨sv'.ownBlock=some k,UL,λk hk=>?_,sv',λk=>Iff.rfl,k7,?_,l7,Ms,?_,bJ h7 UL.size,UK⟩
 ·rcases hk with rfl|rfl|rfl|hk
  ·exact ⟨ae k7,.inl ((h1 _).2 (.inl rfl))⟩
  ·exact ⟨ae b7,.inl ((h1 _).2 (.inr (.inl rfl)))⟩
  ·exact ⟨ae l7,.inl ((h1 _).2 (.inr (.inr (.inl rfl))))⟩
  ·refine ⟨dw (hb' k hk).2 s47,?_⟩;rcases hv with hv|hv
   ·exact .inl ((h1 _).2 (.inr (.inr (.inr (hv▸hk)))))
   ·rw[hv]at hk;cases hk;exact .inr h3.size
 ·rw[b7];have UM:=dA hj8;congr 2;simp only[List.setIfInBounds_toArray];rw[show 9=(aL QW).length by omega,List.set_append_right _ _ (bc _),Nat.sub_self,List.set_cons_zero]
 ·refine h6.then UL (λk _ hk=>?_);rcases (h1 k).1 hk with rfl|rfl|rfl|hk
  ·exact .inr (.inl rfl)
  ·exact .inr (.inr (bc _))
  ·exact .inr (.inr (by omega))
  ·exact .inr (.inr (by have:=(hb k hk).1;omega))
theorem fc:(Tryz.prog.info? 70).map (λi=>(i.zero,i.size,i.bytes))=some (some (.agg #[.int .i64 0,.int .i64 0,.string ⟨#[]⟩,.int .i64 0,.string ⟨#[]⟩]),5,56):=by kernel_rfl
theorem BU:(Tryz.prog.info? 151).map (λi=>(i.zero,i.size,i.bytes))=some (some (.agg #[.int .i64 0,.int .i64 0,.int .i64 0,.int .i64 0,.int .i64 0,.int .i64 0,.int .i64 0,.int .i64 0,.int .i64 0,.slice none 0 0]),10,96):=by kernel_rfl
theorem EP(w7:World)(o1 o2 o3 o4:Obj)(bl:Nat)(hbl:bl=w7.heap.size)(w9:World)(UN:w9=(((w7.alloc o1).alloc o2).alloc o3).alloc o4):Below w7.heap.size w7 w9/\w9.heap.size=bl+4/\w9.heap[bl]?=some o1/\w9.heap[bl+1]?=some o2/\w9.heap[bl+1+1]?=some o3/\w9.heap[bl+1+2]?=some o4:=by
 subst UN;refine ⟨(((cq _ _).alloc (by simp) _).alloc (by simp;omega) _).alloc (by simp;omega) _,by rw[hbl];simp,af (af (af (aD _ _ _ hbl))),af (af (aD _ _ _ (by rw[hbl];simp))),af (aD _ _ _ (by rw[hbl];simp)),aD _ _ _ (by rw[hbl];simp)⟩
theorem EQ{w9:World}{N bS g cap:Nat}{G:List GS}{d:PD}{T:List UInt8}{st0:List Nat}{touched:Nat}{bv:Value}{bs:List (List Nat)}{tx body:ByteArray}{lv:Value}{work p0:Nat}{rb:Loop}{j:Nat}{ls:List LE}{A1:Nat->Prop}{f1:Nat->Option Value}{F1:Nat->List FD}(h9:CJ w N bS g n cap G d T st0 touched bv bs tx lv work q p0 rb j st ls v A1 f1 F1 w9)(eM:yq G)(hz:body.size<=3000)(hA:∀k,A1 k->k<bl)(Xt:p0+5<=bl)(UO:w9.heap.size=bl+4)
  (b0:w9.heap[bl]?=some (.cells (aL st++[Value.slice none 0 0]).toArray 151 (0,0))) (b1:w9.heap[bl+1]?=some (.cells #[.slice (some ⟨g,0,none⟩) n cap,jx d] 171 (0,0))) (b2:w9.heap[bl+1+1]?=some (.cells #[.string body] 9 (0,0))) (b3:w9.heap[bl+1+2]?=some (.cells (aL st).toArray 138 (0,0))) (rc:LoopState->Option Code->Loop) (K:Ending->World->Prop)
  (fZ:∀Cl pre lU x st' A,IJ (w9.alloc (.loop (rc .ready none))) A1 q bl st (rc .ready none) Cl pre lU A->Good G st'->pre.length<=7000->YieldAt Fence.wide 5 Tryz.prog (bl+4) #[Sp.v x,lV st'] A λe B=>(e=.returned (.bool true)/\∃xq,aM Cl A B/\(∀k,xq k->k<B.heap.size/\(Cl k∨A.heap.size<=k))/\IJ (w9.alloc (.loop (rc .ready none))) A1 q bl st (rc .ready none) xq (pre++[x]) st' B)∨(e=.returned (.bool false)/\False))
  (hend:∀r W bh lU Cl A' f' F',uE G body.data.toList st bh lU->IJ (w9.alloc (.loop (rc .ready none))) A1 q bl st (rc .ready none) Cl bh lU W->aJ W N A' g n cap G d f' F'->(∀k,A' k->A1 k∨bl+5<=k)->(∀k,Cl k->¬A' k)->K (.returned r) W):
  CallsIn Fence.wide 6 Tryz.prog 122 #[.func (.yield (bl+4)) #[] #[],.pointer (some ⟨bl+1+2,0,none⟩),.pointer (some ⟨bl+1,0,none⟩),.pointer (some ⟨bl+1+1,0,none⟩)] (w9.alloc (.loop (rc .ready none))) K:=by
 obtain ⟨o1,o2,o3,o4,o5⟩:=h9.ord;have UQ:(w9.alloc (.loop (rc .ready none))).heap.size=bl+5:=by rw[World.size_alloc,UO]
 have hap:=h9.apart;have ER:Below w9.heap.size w9 (w9.alloc (.loop (rc .ready none))):=cq _ _
 refine (ES 6 N A1 (λk=>k=q+1∨k=bl∨k=bl+4) g n cap G d f1 F1 body st (bl+1+2) (bl+1) (bl+1+1) (bl+4) (IJ (w9.alloc (.loop (rc .ready none))) A1 q bl st (rc .ready none)) (λ_=>False) _ (h9.Tv.below ER) eM h9.good hz (af b3) (af b1) (af b2) ⟨λh=>by have:=hA _ h;omega,λh=>by have:=hA _ h;omega⟩ ?_ ?_ (λCl pre lU x st' A h1 h2 h3=>fZ Cl pre lU x st' A h1 h2 h3) ?_).mono ?_
 ·rw[UQ];rintro k (rfl|rfl|rfl)
  ·exact ⟨by omega,by omega,λh=>by have:=(hap _ h).1;omega,by omega,by omega⟩
  ·exact ⟨by omega,by omega,λh=>by have:=hA _ h;omega,by omega,by omega⟩
  ·exact ⟨by omega,by omega,λh=>by have:=hA _ h;omega,by omega,by omega⟩
 ·rw[UQ];intro Cl pre lU A B h1 ho;exact h1.keep ho
 ·refine ⟨.slice none 0 0,λk=>?_,af h9.kv,af b0,aD _ _ _ UO.symm,World.ownsRow_nil _ _ _ _,aM.refl _ _,by omega,h9.good.1.2⟩;simp[Value.ownBlock]
 ·rintro e W ⟨⟨r,rfl⟩,(⟨bh,lU,Cl,A',f',F',h1,h2,h3,h4,h5⟩|h)⟩
  ·rw[UQ]at h4;exact hend r W bh lU Cl A' f' F' h1 h2 h3 h4 h5
  ·exact h.elim
theorem aM.trans'{Y Z:Nat->Prop}{a b c:World}(h:aM Y a b)(k:aM Z b c):aM (λx=>Y x∨Z x) a c:=(h.sub λ_ _=>.inl).then k λ_ _=>.inr
def zG(bS g n cap:Nat)(G:List GS)(T:List UInt8)(st0:List Nat)(touched:Nat)(bs:List (List Nat))(tx:ByteArray)(lv:Value)(work:Nat)(w:World)(e:Ending)(W:World):Prop:=
 ∃(v:Value) (ls:List LE) (st:List Nat),e=.returned v/\cL W w.heap.size v ls/\dZ G st0 ((aF T).take ls.length) (ls.map LE.pr) st/\Good G st/\ls.length<=(aF T).length /\
  W.heap[bS]?=some (.cells #[.slice (some ⟨g,0,none⟩) n cap,.string tx,lv,.int .i64 ((work+ls.length:Nat):Int)] 134 (0,0))/\aM (λk=>k=bS) w W /\
  (∀(i:Nat) x,touched<=i->ls[i]?=some x->bs[i - touched]?≠some x.st)/\(ls.length=(aF T).length∨(touched<=ls.length/\bs[ls.length - touched]?=some st))
theorem dB{B':Nat}(h:w.ownsRow B e size v n xs)(hB:B'<=B):w.ownsRow B' e size v n xs:=by
 refine ⟨h.1,?_⟩;rcases h.2 with h1|⟨g,cap,cur,h1,h2,h3⟩
 ·exact .inl h1
 ·exact .inr ⟨g,cap,cur,h1,bJ hB h2,h3⟩
theorem aC(h:w.ownsRow B e size v n xs):∃ao c,v=.slice ao n c:=by
 rcases h.2 with ⟨h1,h2⟩|⟨g,cap,cur,h1,_⟩
 ·exact ⟨none,0,by rw[h1,h2]⟩
 ·exact ⟨_,_,h1⟩
section
variable {w w9:World} {N bS g n cap:Nat} {G:List GS} {d:PD} {T:List UInt8} {st0:List Nat} {touched:Nat} {bv:Value} {bs:List (List Nat)} {tx:ByteArray} {lv:Value} {work q p0 bl:Nat} {rb BS:Loop} {j:Nat} {st lU:List Nat} {ls:List LE} {v sv:Value} {A1 A' Cl:Nat->Prop} {f1 f':Nat->Option Value} {F1 F':Nat->List FD} {bh:List Sp} {body:List UInt8} {W W1:World}
structure Mid(w9:World)(A1 A':Nat->Prop)(N g n cap:Nat)(G:List GS)(d:PD)(f':Nat->Option Value)(F':Nat->List FD)(q bl:Nat)(st lU:List Nat)(sv:Value)(bh:List Sp)(W1:World):Prop where
 kv:W1.heap[q+1]?=some (.cells (aL lU).toArray 138 (0,0))
 line:W1.heap[bl]?=some (.cells (aL st++[sv]).toArray 151 (0,0))
 row:ck W1 (bl+5) sv bh
 off:aM (λk=>A1 k∨k=q+1∨bl<=k) w9 W1
 Tv:aJ W1 N A' g n cap G d f' F'
 sub:∀k,A' k->A1 k∨bl+5<=k
 free:(¬A' bl/\¬A' (q+1))/\∀k,sv.ownBlock=some k->¬A' k
 size:bl+5<=W1.heap.size
theorem UR(nZ:IJ (w9.alloc (.loop BS)) A1 q bl st BS Cl bh lU W)(UO:w9.heap.size=bl+4)(hq:q+1<bl)(hN:N<=bl)(hp:aJ W N A' g n cap G d f' F')(oY:∀k,A' k->A1 k∨bl+5<=k)(il:∀k,Cl k->¬A' k)(ro:Loop):W.heap[bl+4]?=some (.loop BS)/\∃sv,Mid w9 A1 A' N g n cap G d f' F' q bl st lU sv bh (W.putObj (bl+4) (.loop ro)):=by
 obtain ⟨sv,h1,h2,h3,h4,h5,h6,h7,h8⟩:=nZ;have ho:aM (λk=>k=bl+4) W (W.putObj (bl+4) (.loop ro)):=aM.putObj _ h4 rfl;have hb:∀k,sv.ownBlock=some k->bl+5<=k:=λk hk=>(ar h5 hk).1
 refine ⟨h4,sv,ho.same h2 (by omega),ho.same h3 (by omega),aI h5 λk hk=>?_,?_,hp.off ho (λk hk=>⟨by omega,by rw[hk];exact il _ ((h1 _).2 (.inr (.inr (.inl rfl))))⟩),oY,⟨⟨il _ ((h1 _).2 (.inr (.inl rfl))),il _ ((h1 _).2 (.inl rfl))⟩,λk hk=>il _ ((h1 _).2 (.inr (.inr (.inr hk))))⟩,bJ h7 ho.size⟩
 ·obtain ⟨_,c,hc⟩:=ar h5 hk;rw[hc];exact ho.same hc (by have:=hb k hk;omega)
 ·have h0:aM (λk=>A1 k∨k=q+1∨bl<=k) w9 (w9.alloc (.loop BS)):=aM.ay (cq _ _);exact (h0.trans h6).then ho (λk _ e=>.inr (.inr (by omega)))
theorem Mid.reads(hm:Mid w9 A1 A' N g n cap G d f' F' q bl st lU sv bh W1)(h9:CJ w N bS g n cap G d T st0 touched bv bs tx lv work q p0 rb j st ls v A1 f1 F1 w9)(Xt:p0+5<=bl)(gh:∀k,bl<=k->iE v ls k):W1.heap[p0+1]?=some (.cells #[v] 132 (0,0))/\cL W1 q v ls/\∃ao c,sv=.slice ao bh.length c:=by
 obtain ⟨o1,o2,o3,o4,o5⟩:=h9.ord;refine ⟨hm.off.same h9.av ?_,h9.fU.off hm.off ?_,aC hm.row⟩
 ·rintro (h|h|h)
  ·have:=h9.apart _ h;omega
  ·omega
  ·omega
 ·rintro k (h|h|h)
  ·exact (h9.apart k h).2.2
  ·rw[h];exact h9.fU.other h9.kv (λc=>⟨by simp,by simp⟩)
  ·exact gh k h
theorem CJ.next(hm:Mid w9 A1 A' N g n cap G d f' F' q bl st lU sv bh W1)(h9:CJ w N bS g n cap G d T st0 touched bv bs tx lv (work+1) q p0 rb j st ls v A1 f1 F1 w9)(Xt:p0+5<=bl)(gh:∀k,bl<=k->iE v ls k)(eM:yq G)(jU:(aF T)[j]?=some body)(BV:uE G body st bh lU)(UT:ls.length=j)(Ql:touched<=j->bs[j - touched]?≠some st)
  {o:Obj} {W3:World} {v':Value} (hrow:W3.ownsRow q 151 10 v' (ls.length+1) (ls.flatMap LE.cells++(aL st++[sv]))) (hg:(W1.alloc o).grownBy W3 v.ownBlock) (hv:v'.ownBlock=v.ownBlock∨v'.ownBlock=some (W1.alloc o).heap.size):
  (W3.heap[p0+1]?=some (.cells #[v] 132 (0,0)))/\CJ w N bS g n cap G d T st0 touched bv bs tx lv work q p0 rb (j+1) lU (ls++[⟨st,sv,bh⟩]) v' A' f' F' (W3.setCell ⟨p0+1,0,none⟩ v'):=by
 obtain ⟨o1,o2,o3,o4,o5⟩:=h9.ord;obtain ⟨hav,oa,-⟩:=hm.reads h9 Xt gh;have hb2:Below W1.heap.size W1 (W1.alloc o):=cq _ _;have l2:=oa.below hb2;have o23:aM (λk=>v.ownBlock=some k) (W1.alloc o) W3:=aM.gY l2.row (by decide) hg;have Xu:aM (λk=>v.ownBlock=some k) W1 W3:=(aM.ay hb2).trans o23
 have jq:∀k,A1 k->q+4<=k/\(k<p0∨p0+5<=k):=λk hk=>⟨(h9.apart k hk).1,(h9.apart k hk).2.1⟩
 have BW:=Xu.same hav (h9.fU.other h9.av (λc=>⟨by simp,by simp⟩)).1;have Mq:aM (λk=>k=p0+1) W3 (W3.setCell ⟨p0+1,0,none⟩ v'):=aM.setCell (Y:=λk=>k=p0+1) (p:=⟨p0+1,0,none⟩) rfl BW (by decide) _
 have key:∀(k:Nat) o',w9.heap[k]?=some o'->(∀c,o'≠.cells c 151 (0,0)/\o'≠.cells c 70 (0,0))->(k<q+4∨(p0<=k/\k<p0+5))->k≠q+1->k≠p0+1->(W3.setCell ⟨p0+1,0,none⟩ v').heap[k]?=some o':=λk o' hk yt hr h1 h2=>by
  refine Mq.same (Xu.same (hm.off.same hk ?_) (h9.fU.other hk yt).1) h2;rintro (h|h|h)
  ·have:=jq k h;omega
  ·omega
  ·omega
 have hvq:∀k,v.ownBlock=some k->q<=k/\k<bl:=λk hk=>by refine ⟨(ar oa.row hk).1,Nat.lt_of_not_le λh=>(gh k h).1 hk⟩
 have abC:∀k,sv.ownBlock=some k->bl+5<=k/\k<W1.heap.size:=λk hk=>by obtain ⟨a,c,hc⟩:=ar hm.row hk;exact ⟨a,ae hc⟩
 have tQ:ck (W1.alloc o) q sv bh:=dB (aI hm.row λk hk=>hb2.block k (abC k hk).2) (by omega);have l3:cL W3 q v' (ls++[⟨st,sv,bh⟩]):=l2.snoc (x:=⟨st,sv,bh⟩) h9.good.1.2 tQ hrow hg
 have UU:∀k,A' k->v.ownBlock≠some k/\(∀x∈ls,x.sv.ownBlock≠some k):=λk hk=>by
  rcases hm.sub k hk with h|h
  ·exact (h9.apart k h).2.2
  ·exact gh k (by omega)
 have Yx:∀k,A' k->k<W1.heap.size:=λk hk=>(hm.Tv.old k hk).2
 have kv4:(W3.setCell ⟨p0+1,0,none⟩ v').heap[q+1]?=some (.cells (aL lU).toArray 138 (0,0)):=Mq.same (Xu.same hm.kv (oa.other hm.kv (λc=>⟨by simp,by simp⟩)).1) (by omega);have av4:=ah W3 (p0+1) 0 v' BW;have s13:=Xu.size;have s34:=Mq.size;have s91:=hm.off.size
 refine ⟨BW,⟨key _ _ h9.sv (λc=>⟨by simp,by simp⟩) (by omega) (by omega) (by omega),kv4,key _ _ h9.tv (λc=>⟨by simp,by simp⟩) (by omega) (by omega) (by omega),key _ _ h9.Yy (λc=>⟨by simp,by simp⟩) (by omega) (by omega) (by omega),key _ _ h9.pv (λc=>⟨by simp,by simp⟩) (by omega) (by omega) (by omega),by simpa using av4,key _ _ h9.uF (λc=>⟨by simp,by simp⟩) (by omega) (by omega) (by omega),key _ _ h9.iJ (λc=>⟨by simp,by simp⟩) (by omega) (by omega) (by omega),?_,l3.off Mq (λk hk=>by rw[hk];exact l3.other BW (λc=>⟨by simp,by simp⟩)),?_,BV.good eM h9.good,?_,?_,?_,?_,o1,o2,by omega,o4,o5⟩⟩
 ·have h:=key _ _ h9.sh (λc=>⟨by simp,by simp⟩) (by omega) (by omega) (by omega);rw[h];have e:work+1+j=work+(j+1):=by omega
  rw[e]
 ·rw[List.take_add_one,jU,List.map_append];exact h9.runs.snoc BV
 ·refine (hm.Tv.off Xu (λk hk=>⟨by have:=(hvq k hk).1;omega,λha=>(UU k ha).1 hk⟩)).off Mq (λk hk=>⟨by omega,λha=>?_⟩);rcases hm.sub k ha with h|h
  ·have:=jq k h;omega
  ·omega
 ·intro k hk;refine ⟨?_,?_,?_,λx hx=>?_⟩
  ·rcases hm.sub k hk with h|h
   ·exact (jq k h).1
   ·omega
  ·rcases hm.sub k hk with h|h
   ·exact (jq k h).2
   ·omega
  ·rcases hv with hv|hv
   ·rw[hv];exact (UU k hk).1
   ·rw[hv];intro e;have:=Yx k hk;rw[World.size_alloc]at e;cases e;omega
  ·rcases List.mem_append.1 hx with hx|hx
   ·exact (UU k hk).2 x hx
   ·obtain rfl:=List.mem_singleton.1 hx;exact λe=>hm.free.2 k e hk
 ·intro i x hi hx;rcases ed i ls.length with hl|hl
  ·rw[nz hl]at hx;exact h9.uG i x hi hx
  ·rw[pS hl]at hx;have h1:=az hx;simp at h1;have h2:i=j:=by omega
   obtain rfl:=List.mem_singleton.1 (bn hx);subst h2;exact Ql hi
 ·refine (h9.off.then hm.off (λk hk h=>?_)).then (Xu.trans' Mq) (λk hk h=>?_)
  ·rcases h with h|h|h
   ·have:=(jq k h).1;omega
   ·omega
   ·omega
  ·rcases h with h|h
   ·have:=(hvq k h).1;omega
   ·omega
theorem CJ.done(h:CJ w N bS g n cap G d T st0 touched bv bs tx lv work q p0 rb ls.length st ls v A1 f1 F1 W)(hl:ls.length<=(aF T).length)(hf:ls.length=(aF T).length∨(touched<=ls.length/\bs[ls.length - touched]?=some st)):zG bS g n cap G T st0 touched bs tx lv work w (.returned v) (W.putObj (p0+3) (.deferred none)):=by
 obtain ⟨o1,o2,o3,o4,o5⟩:=h.ord;have ho:aM (λk=>k=p0+3) W (W.putObj (p0+3) (.deferred none)):=aM.uo _ h.uF (λ_ _ _ h=>by cases h) rfl;refine ⟨v,ls,st,rfl,?_,h.runs,h.good,hl,ho.same h.sh (by omega),h.off.then ho (λk hk e=>by omega),h.uG,hf⟩;rw[<-o1];exact h.fU.off ho (λk hk=>by rw[hk];exact h.fU.other h.uF (λc=>⟨by simp,by simp⟩))
end
theorem Mu(w:World)(x0 x1 x2 x3 x4 x5 x6 x7 y0 y1 y2 y3 y4 y5 y6 y7:Nat):
  (Op.equalIn 9999 136 (.agg #[.int .i64 x0,.int .i64 x1,.int .i64 x2,.int .i64 x3,.int .i64 x4,.int .i64 x5,.int .i64 x6,.int .i64 x7]) (.agg #[.int .i64 y0,.int .i64 y1,.int .i64 y2,.int .i64 y3,.int .i64 y4,.int .i64 y5,.int .i64 y6,.int .i64 y7])).run Tryz.prog w=.ok (decide (x0=y0/\x1=y1/\x2=y2/\x3=y3/\x4=y4/\x5=y5/\x6=y6/\x7=y7)) w:=by
 obtain ⟨i0,hi,-⟩:=info_parts lX;have hc:Tryz.prog.cellsOf 3=1:=by kernel_rfl
 rw[run_equalIn_array w 9998 _ _ Tryz.underlying136 hi,hc];rw[show List.range 8=[0,1,2,3,4,5,6,7] from rfl];by_cases h0:x0=y0
 case neg=>(simp[Op.eqItems,go_sem,h0];omega)
 by_cases h1:x1=y1
 case neg=>(simp[Op.eqItems,go_sem,h0,h1];omega)
 by_cases h2:x2=y2
 case neg=>(simp[Op.eqItems,go_sem,h0,h1,h2];omega)
 by_cases h3:x3=y3
 case neg=>(simp[Op.eqItems,go_sem,h0,h1,h2,h3];omega)
 by_cases h4:x4=y4
 case neg=>(simp[Op.eqItems,go_sem,h0,h1,h2,h3,h4];omega)
 by_cases h5:x5=y5
 case neg=>(simp[Op.eqItems,go_sem,h0,h1,h2,h3,h4,h5];omega)
 by_cases h6:x6=y6
 case neg=>(simp[Op.eqItems,go_sem,h0,h1,h2,h3,h4,h5,h6];omega)
 by_cases h7:x7=y7
 case neg=>(simp[Op.eqItems,go_sem,h0,h1,h2,h3,h4,h5,h6,h7];omega)
 simp[Op.eqItems,go_sem,h0,h1,h2,h3,h4,h5,h6,h7]
theorem Mv(w:World)(x0 x1 x2 x3 x4 x5 x6 x7 x8 y0 y1 y2 y3 y4 y5 y6 y7 y8:Nat):
  (binOp .eql 138 (.agg #[.int .i64 x0,.int .i64 x1,.int .i64 x2,.int .i64 x3,.int .i64 x4,.int .i64 x5,.int .i64 x6,.int .i64 x7,.int .i64 x8]) (.agg #[.int .i64 y0,.int .i64 y1,.int .i64 y2,.int .i64 y3,.int .i64 y4,.int .i64 y5,.int .i64 y6,.int .i64 y7,.int .i64 y8])).run Tryz.prog w=.ok (.bool (decide (x0=y0/\x1=y1/\x2=y2/\x3=y3/\x4=y4/\x5=y5/\x6=y6/\x7=y7/\x8=y8))) w:=by
 rw[run_eql_struct,run_equalIn_agg w 9999 _ _ _ (by kernel_rfl) (by kernel_rfl)];simp[go_sem];rw[Mu];by_cases h8:x8=y8
 ·by_cases h:x0=y0/\x1=y1/\x2=y2/\x3=y3/\x4=y4/\x5=y5/\x6=y6/\x7=y7
  ·simp[h,h8]
  ·simp[h,h8];omega
 ·simp[h8];omega
theorem oy(w:World)(x0 x1 x2 x3 x4 x5 x6 x7 x8 y0 y1 y2 y3 y4 y5 y6 y7 y8:Nat)(ρ:Operand->Value)(o:Oper)(x y:Operand)(ho:o.op=.binOp .eql 138 x y 138)(hx:ρ x=.agg #[.int .i64 x0,.int .i64 x1,.int .i64 x2,.int .i64 x3,.int .i64 x4,.int .i64 x5,.int .i64 x6,.int .i64 x7,.int .i64 x8])(hy:ρ y=.agg #[.int .i64 y0,.int .i64 y1,.int .i64 y2,.int .i64 y3,.int .i64 y4,.int .i64 y5,.int .i64 y6,.int .i64 y7,.int .i64 y8]):
  (execOp ρ o).run Tryz.prog w=.ok (.value (.bool (decide (x0=y0/\x1=y1/\x2=y2/\x3=y3/\x4=y4/\x5=y5/\x6=y6/\x7=y7/\x8=y8)))) w:=by
 have hg:Tryz.prog.eqGuardType Tryz.prog.depth 138=false:=by kernel_rfl
 unfold execOp;simp only[ho,hx,hy,Sem.run_bind,run_eqGuard_agg (P:=Tryz.prog) w .eql 138 x y _ _ hg,Result.andThen_ok,Mv,Sem.run_pure]
end Go.Proofs.YtgncgdkpkkdaeaaGreatDoor
