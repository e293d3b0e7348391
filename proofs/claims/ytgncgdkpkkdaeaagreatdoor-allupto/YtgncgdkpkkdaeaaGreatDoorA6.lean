import Derived.Test.YtgncgdkpkkdaeaaGreatDoorA5
set_option maxRecDepth 20000
set_option maxHeartbeats 4000000
namespace Go.Proofs.YtgncgdkpkkdaeaaGreatDoor
open Go.RowKit bu Go.Maps Go.Shelf
variable {G:List GS} {st:List Nat} {w:World}
theorem dp(n:Nat)(w:World):Calls Tryz.prog 17 #[.int .i64 n] w λe w'=>e=.returned (.int .i64 n)/\w'=w:=by go_enter Tryz.func17,Tryz.ntmps17;go_wp2_with fail;go_ret;exact ⟨rfl,rfl⟩
structure SD where
 bD:Nat
 bX:Nat
 bS:Nat
 g:Nat
 n:Nat
 cap:Nat
 P:Nat
 gr:Nat
 nr:Nat
 cr:Nat
 Br:Nat
 B:Nat
 N:Nat
 text:ByteArray
 lv:Value
 vo:Value
 vs:Value
 ls:List LE
 es:List RE
 work:Nat
 ss:List cH
 G:List GS
structure cP(w:World)(d:SD):Prop where
 cell:w.heap[d.bD]?=some (.cells #[.pointer (some ⟨d.bX,0,none⟩),.pointer (some ⟨d.P,0,none⟩),.string d.text,d.vo,d.vs,.int .i64 d.work] 89 (0,0))
 tx:w.heap[d.bX]?=some (.cells #[.pointer (some ⟨d.bS,0,none⟩)] 46 (0,0))
 sheet:bZ w d.B d.bS d.g d.n d.cap d.text d.lv d.ls d.work
 pX:w.ownsRow d.B 57 1 d.vo d.es.length (d.es.map RE.ov)
 mf:w.ownsRow d.B 64 1 d.vs d.es.length (d.es.map RE.lv)
 each:∀e∈d.es,cX w e.sb e.st/\ck w d.B e.lv e.bh/\e.st.length<=e.fL
 runs:∃st,dZ d.G [0] (aF d.text.data.toList) (d.ls.map LE.pr) st
 Rc:∃st,dZ d.G [0] (aF d.text.data.toList) (d.es.map λe=>(e.st,e.bh)) st
 ib:∀w',Below d.N w w'->cd w' d.g d.n d.cap d.G
 rg:∀w',Below d.N w w'->RG w' d.Br d.P d.gr d.nr d.cr d.ss
 hN:d.N<=w.heap.size
 same:yu d.G d.ss
 ok:yq d.G
 pos:0<d.G.length
variable {d:SD}
theorem cP.below{w':World}(h:cP w d)(hb:Below w.heap.size w w'):cP w' d:=by
 have key:∀(t:TypeId) (k:Nat) c,w.heap[k]?=some (.cells c t (0,0))->w'.heap[k]?=some (.cells c t (0,0)):=λt k c hh=>(hb.block k (ae hh)).trans hh
 exact ⟨key _ _ _ h.cell,key _ _ _ h.tx,⟨key _ _ _ h.sheet.sh,h.sheet.fU.below hb,h.sheet.base,h.sheet.size⟩,bq h.pX (key _),bq h.mf (key _),λe he=>⟨(h.each e he).1.below hb,bq (h.each e he).2.1 (key _),(h.each e he).2.2⟩,h.runs,h.Rc,
  λw2 hb2=>h.ib w2 ((hb.mono h.hN).trans hb2),λw2 hb2=>h.rg w2 ((hb.mono h.hN).trans hb2),bJ h.hN hb.size,h.same,h.ok,h.pos⟩
theorem cP.drew(h:cP w d)(n:Nat):cP (w.drewN n) d:=h.below (Below.drewN' (Below.refl _ _) n)
theorem cP.agree(h:cP w d):d.ls.map LE.pr=d.es.map λe=>(e.st,e.bh):=by obtain ⟨_,h1⟩:=h.runs;obtain ⟨_,h2⟩:=h.Rc;exact (h1.dz h2).1
theorem cP.len(h:cP w d):d.ls.length=d.es.length/\d.ls.length<=3001/\0<d.ls.length:=by have h1:=congrArg List.length h.agree;obtain ⟨_,h2⟩:=h.runs;have h3:=h2.length;simp only[fy]at h1 h3;have h4:=List.count_le_length (a:=(10:UInt8)) (l:=d.text.data.toList);rw[aj]at h4;have:=h.sheet.size;rw[aT]at h3;omega
theorem cP.at(h:cP w d){i:Nat}{x:LE}{e:RE}(hx:d.ls[i]?=some x)(he:d.es[i]?=some e):x.st=e.st/\x.bh=e.bh:=by have h1:=congrArg (·[i]?) h.agree;simp only[fX,hx,he,Option.map_some,fA,LE.pr,Prod.mk.injEq]at h1;exact h1
theorem dZ.good(eM:yq G){ls:List (List UInt8)}{out:List (List Nat×List Sp)}{st':List Nat}(h:dZ G st ls out st')(hg:Good G st):∀y∈out,Good G y.1:=by
 induction h with
 | nil=>intro y hy;simp at hy
 | cons ht _ ih=>
  intro y hy;rcases List.mem_cons.1 hy with rfl|hy
  ·exact hg
  ·exact ih (ht.good eM hg) y hy
theorem cP.good(h:cP w d):(∀x∈d.ls,Good d.G x.st)/\∀x∈d.ls,x.bh.length<=7000:=by
 obtain ⟨_,h2⟩:=h.runs;have hg:Good d.G [0]:=⟨⟨by simp,by simp⟩,λx hx=>by rw[List.mem_singleton.1 hx];exact h.pos⟩;refine ⟨λx hx=>h2.good h.ok hg x.pr (List.mem_map_of_mem hx),λx hx=>h2.short h.ok (λl hl=>?_) x.pr (List.mem_map_of_mem hx)⟩;have:=kI hl;rw[aj]at this;have:=h.sheet.size;omega
theorem jX(w:World)(d:SD)(h:cP w d):Calls Tryz.prog 65 #[.pointer (some ⟨d.bD,0,none⟩)] w λe w'=>e=.returned (.bool true)/\Below w.heap.size w w':=by
 have c0:w.cell? ⟨d.bD,0,none⟩=some (.pointer (some ⟨d.bX,0,none⟩)):=ai h.cell rfl;have c5:w.cell? ⟨d.bD,5,none⟩=some (.int .i64 d.work):=ai h.cell rfl;have h':=h.below (Below.refl _ _).drew;have HW:=aa (pg h'.sheet h'.tx);clear h h';go_enter Tryz.func65,Tryz.ntmps65;go_wp2_with fail
 go_region_held3 (λw'=>w'.cell? ⟨d.bD,0,none⟩=some (.pointer (some ⟨d.bX,0,none⟩))/\w'.cell? ⟨d.bD,5,none⟩=some (.int .i64 d.work))
  (go_keep)
  (first|(go_at_call 31;refine HW.out.mono ?_;clear HW;rintro e w1 ⟨rfl,h1⟩;subst h1))
 all_goals
  go_wp2_with fail;go_ret;exact ⟨rfl,(Below.refl _ _).drew⟩
def E8(w:World)(e:Ending)(w':World):Prop:=Below w.heap.size w w'/\∃v bh,e=.returned (.tuple #[v,.bool true])/\ck w' w.heap.size v bh/\bh.length<=7000
def U3(w:World)(n k:Nat)(vi:Value)(W:World):Prop:=∃j:Nat,vi=.int .i64 j/\j+k=n/\Below w.heap.size w W
theorem kL(w:World)(d:SD)(i:Int)(h:cP w d):Calls Tryz.prog 36 #[.pointer (some ⟨d.bD,0,none⟩),.int .i64 i] w (E8 w):=by
 have c0:w.cell? ⟨d.bD,0,none⟩=some (.pointer (some ⟨d.bX,0,none⟩)):=ai h.cell rfl;have HL:=aa (E7 i h.good.2 h.sheet h.tx);obtain ⟨so,sc,zK⟩:=aC h.mf;obtain ⟨iF,hl2,yn⟩:=h.len;have HS:=aa h;have HVS:=aa zK;obtain ⟨nl,fO⟩:∃nl,nl=d.es.length:=⟨_,rfl⟩;rw[iF,<-fO]at hl2 yn;clear h
 go_enter Tryz.func36,Tryz.ntmps36;go_wp2_with fail;refine HL.out.mono ?_;rintro e w1 ⟨hb1,⟨hout,rfl⟩|⟨k,x,v,rfl,hx,rfl,hsp⟩⟩
 ·have c4:w1.cell? ⟨d.bD,4,none⟩=some (.slice so nl sc):=by rw[fO,<-zK];exact ai (HS.out.below hb1).cell rfl
  have HN:=aa (dp 8 w1);have aq:=aa (show E8 w (.returned (.tuple #[.slice none 0 0,.bool true])) w1 from ⟨hb1,_,[],rfl,World.ownsRow_nil _ _ _ _,Nat.zero_le _⟩);rw[iF,<-fO]at hout;clear HL HS HVS zK fO iF hb1;by_cases iw:i<0
  ·have g1:decide (i<0)=true:=cF iw;go_wp2_with fail;refine HN.out.mono ?_;rintro e w2 ⟨rfl,rfl⟩;go_wp2_with fail;go_ret2;exact aq.out
  ·have g1:decide (i<0)=false:=bV iw;have g2:decide ((nl:Int)<=i)=true:=cF (by omega);go_wp2_with fail;refine HN.out.mono ?_;rintro e w2 ⟨rfl,rfl⟩;go_wp2_with fail;go_ret2;exact aq.out
 ·have hS1:=HS.out.below hb1;have c4:w1.cell? ⟨d.bD,4,none⟩=some (.slice so nl sc):=by rw[fO,<-zK];exact ai hS1.cell rfl
  have hk:k<nl:=by rw[fO,<-iF];exact az hx
  have g1:decide ((k:Int)<0)=false:=bV (by omega);have g2:decide ((nl:Int)<=(k:Int))=false:=bV (by omega);obtain ⟨y,hy⟩:∃y,d.es[k]?=some y:=⟨_,cB (by rw[<-fO];exact hk)⟩;obtain ⟨-,U4⟩:=hS1.at hx hy;have Rf:=hS1.mf;rw[zK]at Rf;obtain ⟨sg,sc',Ey⟩:=aB Rf (by rw[<-fO];omega);cases Ey
  have cl:w1.cell? ⟨sg,k,none⟩=some y.lv:=(bG Rf (j:=k) (by rw[fX,hy];rfl)).1;have YQ:=(hS1.each y (bn hy)).2.1;obtain ⟨yo,yc,hyv⟩:=aC YQ;rw[U4]at hsp;obtain ⟨vo,vc,hv⟩:=aC hsp;subst hv;obtain ⟨bh,U5⟩:∃bh,bh=y.bh:=⟨_,rfl⟩;rw[<-U5]at hsp YQ hyv ⊢;rw[hyv]at cl YQ
  have Ew:bh.length<=7000:=by rw[U5,<-U4];exact hS1.good.2 x (bn hx)
  have HN:=aa (dp 0 w1);have bM:=aa hb1;have pN:=aa hS1;have pY:=aa hsp;have HYR:=aa YQ;clear HL HS HVS zK fO iF hb1 hS1 Rf YQ hsp hyv U4 U5 hx hy;go_wp2_with fail;refine HN.out.mono ?_;rintro e w2 ⟨rfl,h2⟩;subst h2;clear HN;go_wp2_with fail;go_loopg [8] bh.length (λk' vi W=>U3 w2 bh.length k' vi W)
  case atStart=>exact ⟨0,rfl,by omega,Below.refl _ _⟩
  case round=>
   obtain ⟨j,rfl,hjk,hbr⟩:=hrel;by_cases hlt:j<bh.length
   ·have e1:decide ((j:Int)<(bh.length:Int))=true:=cF (by omega);have hwr:IntKind.i64.wrap ((j:Int)+1)=(j:Int)+1:=by rw[IntKind.wrap_i64];omega
    obtain ⟨z,hz⟩:∃z,bh[j]?=some z:=⟨_,cB hlt⟩;obtain ⟨lb,pO,_,hlc⟩:=pY.out.cells hz;obtain ⟨yb,hyb,_,XD⟩:=HYR.out.cells hz;subst pO hyb;have d4:=ax c4 hbr;have dl:=ax cl hbr;have y0:=ax (XD 0 (.int .i64 z.fr) rfl) hbr;have y1:=ax (XD 1 (.int .i64 z.to) rfl) hbr;have y2:=ax (XD 2 (.string z.nm) rfl) hbr
    have y3:=ax (XD 3 (.int .i64 z.jL) rfl) hbr;have y4:=ax (XD 4 (.string z.co) rfl) hbr;rw[Nat.add_zero]at y0;obtain ⟨w6,Ib⟩:∃w6,wr.alloc (.cells #[.int .i64 z.fr,.int .i64 z.to,.string z.nm,.int .i64 z.jL,.string z.co] 70)=w6:=⟨_,rfl⟩
    have Qs:w6.heap[wr.heap.size]?=some (.cells #[.int .i64 z.fr,.int .i64 z.to,.string z.nm,.int .i64 z.jL,.string z.co] 70 (0,0)):=by rw[<-Ib];exact ag _ _
    have Ic:Below w2.heap.size w2 w6:=by rw[<-Ib];exact hbr.alloc hbr.size _
    have l0:=ax (hlc 0 (.int .i64 z.fr) rfl) Ic;have l1:=ax (hlc 1 (.int .i64 z.to) rfl) Ic;have l2:=ax (hlc 2 (.string z.nm) rfl) Ic;have l3:=ax (hlc 3 (.int .i64 z.jL) rfl) Ic;have l4:=ax (hlc 4 (.string z.co) rfl) Ic;rw[Nat.add_zero]at l0;have x0:w6.cell? ⟨wr.heap.size,0,none⟩=some (.int .i64 z.fr):=ai Qs rfl
    have x1:w6.cell? ⟨wr.heap.size,1,none⟩=some (.int .i64 z.to):=ai Qs rfl;have x2:w6.cell? ⟨wr.heap.size,2,none⟩=some (.string z.nm):=ai Qs rfl;have x3:w6.cell? ⟨wr.heap.size,3,none⟩=some (.int .i64 z.jL):=ai Qs rfl;have x4:w6.cell? ⟨wr.heap.size,4,none⟩=some (.string z.co):=ai Qs rfl;have HB6:=aa Ic;clear hbr Ic Qs hlc XD
    go_wp2_with (refine wpList_store_row rfl _ _ _ rfl _ #[.int .i64 z.fr,.int .i64 z.to,.string z.nm,.int .i64 z.jL,.string z.co] rfl rfl 70 _ (aD _ _ _ rfl) rfl rfl (by simp[Value.oneCell']) ?_;rw[et _ _ _ _ _ rfl]);rw[Ib];obtain ⟨rb,Ez⟩:∃rb,rb=wr.heap.size:=⟨_,rfl⟩;rw[<-Ez]at x0 x1 x2 x3 x4 ⊢;clear Ez Ib y0 y1 y2 y3 y4 d4 dl;go_quiet (fail)
    go_wp2_with fail;go_roundg (bh.length - (j+1))
    case measure=>omega
    case rel=>exact ⟨j+1,by simp,by omega,Below.drewN' HB6.out _⟩
   ·have e1:decide ((j:Int)<(bh.length:Int))=false:=bV (by omega);have HST:=aa (jX wr d (pN.out.below hbr));have rr:=aa hbr;clear hbr;go_wp2_with fail;refine HST.out.mono ?_;rintro e w3 ⟨rfl,hb3⟩
    have aq:=aa (show E8 w (.returned (.tuple #[.slice vo bh.length vc,.bool true])) w3 from by have hb:=rr.out.trans (hb3.mono rr.out.size);exact ⟨bM.out.trans (hb.mono bM.out.size),_,bh,rfl,aI pY.out (λk hk=>hb.block k (by obtain ⟨_,c,hc⟩:=ar pY.out hk;exact ae hc)),Ew⟩);clear HST rr hb3;go_wp2_with fail;go_ret2;exact aq.out
def E9(w:World)(e:Ending)(w':World):Prop:=Below w.heap.size w w'/\∃v dx,e=.returned (.tuple #[v,.bool true])/\jW w' w.heap.size v dx/\dx.length<=7000
def MT(w:World)(n k:Nat)(vi:Value)(W:World):Prop:=∃j:Nat,vi=.int .i64 j/\j+k=n/\Below w.heap.size w W
theorem MU(hg:Good G st):(fC G st).length=st.length/\∀(j:Nat) x s,st[j]?=some x->G[x]?=some s->(fC G st)[j]?=some s.nm:=by
 have hall:=hg.2;clear hg
 induction st with
 | nil=>exact ⟨rfl,λj x s h=>by simp at h⟩
 | cons a t ih=>
  obtain ⟨i1,i2⟩:=ih (λx hx=>hall x (List.mem_cons_of_mem _ hx));have ha:=hall a List.mem_cons_self;have e:fC G (a::t)=G[a].nm::fC G t:=by unfold fC;simp[cB ha]
  rw[e];refine ⟨by simp[i1],λj x s hj hs=>?_⟩
  cases j with
  | zero=>
   simp at hj;subst hj;rw[cB ha]at hs;simp at hs;simp[hs]
  | succ j=>simpa using i2 j x s (by simpa using hj) hs
theorem jN(w:World)(d:SD)(i:Int)(h:cP w d):Calls Tryz.prog 37 #[.pointer (some ⟨d.bD,0,none⟩),.int .i64 i] w (E9 w):=by
 have c0:w.cell? ⟨d.bD,0,none⟩=some (.pointer (some ⟨d.bX,0,none⟩)):=ai h.cell rfl;have HL:=aa (Ck i d.G h.good.1 (h.ib w (Below.refl _ _)) h.sheet h.tx);obtain ⟨so,sc,LZ⟩:=aC h.pX;obtain ⟨iF,hl2,yn⟩:=h.len;have HS:=aa h;obtain ⟨nl,fO⟩:∃nl,nl=d.es.length:=⟨_,rfl⟩;rw[iF,<-fO]at hl2 yn;clear h
 go_enter Tryz.func37,Tryz.ntmps37;go_wp2_with fail;refine HL.out.mono ?_;rintro e w1 ⟨hb1,⟨hout,rfl⟩|⟨k,x,v,rfl,hx,rfl,hsp⟩⟩
 ·have c4:w1.cell? ⟨d.bD,3,none⟩=some (.slice so nl sc):=by rw[fO,<-LZ];exact ai (HS.out.below hb1).cell rfl
  have HN:=aa (dp 8 w1);have aq:=aa (show E9 w (.returned (.tuple #[.slice none 0 0,.bool true])) w1 from ⟨hb1,_,[],rfl,World.ownsRow_nil _ _ _ _,Nat.zero_le _⟩);rw[iF,<-fO]at hout;clear HL HS LZ fO iF hb1;by_cases iw:i<0
  ·have g1:decide (i<0)=true:=cF iw;go_wp2_with fail;refine HN.out.mono ?_;rintro e w2 ⟨rfl,rfl⟩;go_wp2_with fail;go_ret2;exact aq.out
  ·have g1:decide (i<0)=false:=bV iw;have g2:decide ((nl:Int)<=i)=true:=cF (by omega);go_wp2_with fail;refine HN.out.mono ?_;rintro e w2 ⟨rfl,rfl⟩;go_wp2_with fail;go_ret2;exact aq.out
 ·have hS1:=HS.out.below hb1;have c4:w1.cell? ⟨d.bD,3,none⟩=some (.slice so nl sc):=by rw[fO,<-LZ];exact ai hS1.cell rfl
  have hk:k<nl:=by rw[fO,<-iF];exact az hx
  have g1:decide ((k:Int)<0)=false:=bV (by omega);have g2:decide ((nl:Int)<=(k:Int))=false:=bV (by omega);obtain ⟨y,hy⟩:∃y,d.es[k]?=some y:=⟨_,cB (by rw[<-fO];exact hk)⟩;obtain ⟨hst,-⟩:=hS1.at hx hy;have cE:=hS1.good.1 x (bn hx);rw[hst]at hsp cE;have Rf:=hS1.pX;rw[LZ]at Rf
  obtain ⟨sg,sc',Ey⟩:=aB Rf (by rw[<-fO];omega);cases Ey;have cl:w1.cell? ⟨sg,k,none⟩=some (.slice (some ⟨y.sb,0,none⟩) y.st.length y.fL):=(bG Rf (j:=k) (by rw[fX,hy];rfl)).1;obtain ⟨hints,_,XE⟩:=hS1.each y (bn hy);obtain ⟨dx,Rg⟩:∃dx,dx=fC d.G y.st:=⟨_,rfl⟩;obtain ⟨st,YR⟩:∃st,st=y.st:=⟨_,rfl⟩
  rw[<-Rg]at hsp;rw[<-YR]at hints XE cE cl Rg;obtain ⟨U6,U7⟩:=MU cE;rw[<-Rg]at U6 U7;obtain ⟨vo,vc,hv⟩:=aC hsp;subst hv;have hrg:=hS1.rg w1 (Below.refl _ _);have HN:=aa (dp 0 w1);have bM:=aa hb1;have pN:=aa hS1;have pY:=aa hsp;have HI:=aa hints;have abG:=aa U7;have MV:=aa cE;have UK:=cE.1
  have YS:((dx.length:Int) != (st.length:Int))=false:=by rw[U6];simp
  have d1:w1.cell? ⟨d.bD,1,none⟩=some (.pointer (some ⟨d.P,0,none⟩)):=ai hS1.cell rfl;have dP:=hrg.ia.eA.1;have TA:d.nr=d.ss.length:=by obtain ⟨pW,cap',h1,_⟩:=hrg.ia.form;simp at h1;exact h1.2.1
  have BF:=hS1.same.len;have YT:dx.length<=st.length:=by omega
  have Fb:st.length<=dx.length:=by omega
  have U8:d.G.length<=d.ss.length/\d.ss.length<=d.nr:=by omega
  clear HL HS LZ fO iF hb1 hS1 Rf hsp hst YR hx hy hints Rg U7 cE hrg BF TA U6;go_wp2_with fail;refine HN.out.mono ?_;rintro e w2 ⟨rfl,h2⟩;subst h2;clear HN;go_wp2_with fail;go_loopg [8] dx.length (λk' vi W=>MT w2 dx.length k' vi W)
  case atStart=>exact ⟨0,rfl,by omega,Below.refl _ _⟩
  case round=>
   obtain ⟨j,rfl,hjk,hbr⟩:=hrel;by_cases hlt:j<dx.length
   ·have e1:decide ((j:Int)<(dx.length:Int))=true:=cF (by omega);have hwr:IntKind.i64.wrap ((j:Int)+1)=(j:Int)+1:=by rw[IntKind.wrap_i64];omega
    obtain ⟨z,hz⟩:∃z,st[j]?=some z:=⟨_,cB (by omega)⟩;have hzG:=MV.out.2 z (bn hz);obtain ⟨s,hs⟩:∃s,d.G[z]?=some s:=⟨_,cB hzG⟩;obtain ⟨t,ht⟩:∃t,d.ss[z]?=some t:=⟨_,cB (by omega)⟩;have gF:=(pN.out.same.st z s t hs ht).1;have MW:=abG.out j z s hz hs
    have hrow:w2.ownsRow w.heap.size 9 1 (.slice vo dx.length vc) dx.length (dx.map Value.string):=pY.out;obtain ⟨lb,vc',pO⟩:=aB hrow (by omega);cases pO;have l0:=ax ((bG hrow (j:=j) (u:=.string s.nm) (by rw[fX,MW];rfl)).1) hbr;rw[gF]at l0;have hrg:=pN.out.rg w2 (Below.refl _ _);have a0:=ax (hrg.ia.at ht).1 hbr
    have i0:=ax (HI.out.cell hz) hbr;have k4:=ax c4 hbr;have kl:=ax cl hbr;have k1:=ax d1 hbr;have kP:=ax dP hbr;have hzn:z<d.nr:=by omega
    have hjs:j<st.length:=by omega
    have rr:=aa hbr;clear hbr hrow hrg MW gF hs ht hz;go_wp2_with fail;go_quiet (fail);go_wp2_with fail;go_roundg (dx.length - (j+1))
    case measure=>omega
    case rel=>exact ⟨j+1,by simp,by omega,Below.drewN' rr.out _⟩
   ·have e1:decide ((j:Int)<(dx.length:Int))=false:=bV (by omega);have HST:=aa (jX wr d (pN.out.below hbr));have rr:=aa hbr;clear hbr;go_wp2_with fail;refine HST.out.mono ?_;rintro e w3 ⟨rfl,hb3⟩
    have aq:=aa (show E9 w (.returned (.tuple #[.slice vo dx.length vc,.bool true])) w3 from by have hb:=rr.out.trans (hb3.mono rr.out.size);exact ⟨bM.out.trans (hb.mono bM.out.size),_,dx,rfl,aI pY.out (λk hk=>hb.block k (by obtain ⟨_,c,hc⟩:=ar pY.out hk;exact ae hc)),by omega⟩);clear HST rr hb3;go_wp2_with fail;go_ret2;exact aq.out
end Go.Proofs.YtgncgdkpkkdaeaaGreatDoor
