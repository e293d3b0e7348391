import Derived.Test.YtgncgdkpkkdaeaaGreatDoorM5
namespace Go.Proofs.YtgncgdkpkkdaeaaGreatDoor
open Go.RowKit aO Go.Maps Go.Shelf
variable {G:List GS} {st:List Nat} {w:World}
theorem dc(n:Nat)(w:World):Calls Tryz.prog 17 #[.int .i64 n] w λe w'=>e=.returned (.int .i64 n)/\w'=w:=by go_enter Tryz.func17,Tryz.ntmps17;go_wp2_with fail;go_ret;exact ⟨rfl,rfl⟩
structure SD where
 bD:Nat
 bX:Nat
 bS:Nat
 g:Nat
 n:Nat
 cap:Nat
 P:Nat
 gr:Nat
 nr:Nat
 cr:Nat
 Br:Nat
 B:Nat
 N:Nat
 text:ByteArray
 lv:Value
 vo:Value
 vs:Value
 ls:List LE
 es:List RE
 work:Nat
 ss:List cd
 G:List GS
structure cF(w:World)(d:SD):Prop where
 cell:w.heap[d.bD]?=some (.cells #[.pointer (some ⟨d.bX,0,none⟩),.pointer (some ⟨d.P,0,none⟩),.string d.text,d.vo,d.vs,.int .i64 d.work] 89 (0,0))
 tx:w.heap[d.bX]?=some (.cells #[.pointer (some ⟨d.bS,0,none⟩)] 46 (0,0))
 sheet:bQ w d.B d.bS d.g d.n d.cap d.text d.lv d.ls d.work
 py:w.ownsRow d.B 57 1 d.vo d.es.length (d.es.map RE.ov)
 lm:w.ownsRow d.B 64 1 d.vs d.es.length (d.es.map RE.lv)
 each:∀e∈d.es,cN w e.sb e.st/\bV w d.B e.lv e.bc/\e.st.length<=e.fk
 runs:∃st,dz d.G [0] (aB d.text.data.toList) (d.ls.map LE.pr) st
 Qk:∃st,dz d.G [0] (aB d.text.data.toList) (d.es.map λe=>(e.st,e.bc)) st
 gD:∀w',Below d.N w w'->bR w' d.g d.n d.cap d.G
 rg:∀w',Below d.N w w'->RG w' d.Br d.P d.gr d.nr d.cr d.ss
 hN:d.N<=w.heap.size
 same:xF d.G d.ss
 ok:xD d.G
 pos:0<d.G.length
variable {d:SD}
theorem cF.below{w':World}(h:cF w d)(hb:Below w.heap.size w w'):cF w' d:=by
 have key:∀(t:TypeId) (k:Nat) c,w.heap[k]?=some (.cells c t (0,0))->w'.heap[k]?=some (.cells c t (0,0)):=λt k c hh=>(hb.block k (ae hh)).trans hh
 exact ⟨key _ _ _ h.cell,key _ _ _ h.tx,⟨key _ _ _ h.sheet.sh,h.sheet.eT.below hb,h.sheet.base,h.sheet.size⟩,bm h.py (key _),bm h.lm (key _),λe he=>⟨(h.each e he).1.below hb,bm (h.each e he).2.1 (key _),(h.each e he).2.2⟩,h.runs,h.Qk,
  λw2 hb2=>h.gD w2 ((hb.mono h.hN).trans hb2),λw2 hb2=>h.rg w2 ((hb.mono h.hN).trans hb2),Nat.le_trans h.hN hb.size,h.same,h.ok,h.pos⟩
theorem cF.drew(h:cF w d)(n:Nat):cF (w.drewN n) d:=h.below (Below.drewN' (Below.refl _ _) n)
theorem cF.agree(h:cF w d):d.ls.map LE.pr=d.es.map λe=>(e.st,e.bc):=by obtain ⟨_,h1⟩:=h.runs;obtain ⟨_,h2⟩:=h.Qk;exact (h1.cX h2).1
theorem cF.len(h:cF w d):d.ls.length=d.es.length/\d.ls.length<=3001/\0<d.ls.length:=by have h1:=congrArg List.length h.agree;obtain ⟨_,h2⟩:=h.runs;have h3:=h2.length;simp only[List.length_map]at h1 h3;have h4:=List.count_le_length (a:=(10:UInt8)) (l:=d.text.data.toList);rw[ah]at h4;have:=h.sheet.size;rw[aS]at h3;omega
theorem cF.at(h:cF w d){i:Nat}{x:LE}{e:RE}(hx:d.ls[i]?=some x)(he:d.es[i]?=some e):x.st=e.st/\x.bc=e.bc:=by have h1:=congrArg (·[i]?) h.agree;simp only[List.getElem?_map,hx,he,Option.map_some,Option.some.injEq,LE.pr,Prod.mk.injEq]at h1;exact h1
theorem dz.good(dZ:xD G){ls:List (List UInt8)}{out:List (List Nat×List Sp)}{st':List Nat}(h:dz G st ls out st')(hg:Good G st):∀y∈out,Good G y.1:=by
 induction h with
 | nil=>intro y hy;simp at hy
 | cons ht _ ih=>
  intro y hy;rcases List.mem_cons.1 hy with rfl|hy
  ·exact hg
  ·exact ih (ht.good dZ hg) y hy
theorem cF.good(h:cF w d):(∀x∈d.ls,Good d.G x.st)/\∀x∈d.ls,x.bc.length<=7000:=by
 obtain ⟨_,h2⟩:=h.runs;have hg:Good d.G [0]:=⟨⟨by simp,by simp⟩,λx hx=>by rw[List.mem_singleton.1 hx];exact h.pos⟩;refine ⟨λx hx=>h2.good h.ok hg x.pr (List.mem_map_of_mem hx),λx hx=>h2.short h.ok (λl hl=>?_) x.pr (List.mem_map_of_mem hx)⟩;have:=j6 hl;rw[ah]at this;have:=h.sheet.size;omega
theorem jF(w:World)(d:SD)(h:cF w d):Calls Tryz.prog 65 #[.pointer (some ⟨d.bD,0,none⟩)] w λe w'=>e=.returned (.bool true)/\Below w.heap.size w w':=by
 have c0:w.cell? ⟨d.bD,0,none⟩=some (.pointer (some ⟨d.bX,0,none⟩)):=ag h.cell rfl;have c5:w.cell? ⟨d.bD,5,none⟩=some (.int .i64 d.work):=ag h.cell rfl;have h':=h.below (Below.refl _ _).drew;have HW:=aa (ox h'.sheet h'.tx);clear h h';go_enter Tryz.func65,Tryz.ntmps65;go_wp2_with fail
 go_region_held3 (λw'=>w'.cell? ⟨d.bD,0,none⟩=some (.pointer (some ⟨d.bX,0,none⟩))/\w'.cell? ⟨d.bD,5,none⟩=some (.int .i64 d.work))
  (go_keep)
  (first|(go_at_call 31;refine HW.out.mono ?_;clear HW;rintro e w1 ⟨rfl,h1⟩;subst h1))
 all_goals
  go_wp2_with fail;go_ret;exact ⟨rfl,(Below.refl _ _).drew⟩
def Em(w:World)(e:Ending)(w':World):Prop:=Below w.heap.size w w'/\∃v bc,e=.returned (.tuple #[v,.bool true])/\bV w' w.heap.size v bc/\bc.length<=7000
def Uc(w:World)(n k:Nat)(vi:Value)(W:World):Prop:=∃j:Nat,vi=.int .i64 j/\j+k=n/\Below w.heap.size w W
set_option maxRecDepth 20000 in
set_option maxHeartbeats 4000000 in
theorem pz(w:World)(d:SD)(i:Int)(h:cF w d):Calls Tryz.prog 36 #[.pointer (some ⟨d.bD,0,none⟩),.int .i64 i] w (Em w):=by
 have c0:w.cell? ⟨d.bD,0,none⟩=some (.pointer (some ⟨d.bX,0,none⟩)):=ag h.cell rfl;have HL:=aa (Ek i h.good.2 h.sheet h.tx);obtain ⟨so,sc,yQ⟩:=aC h.lm;obtain ⟨ie,hl2,xC⟩:=h.len;have HS:=aa h;have HVS:=aa yQ;obtain ⟨nl,fq⟩:∃nl,nl=d.es.length:=⟨_,rfl⟩;rw[ie,<-fq]at hl2 xC;clear h
 go_enter Tryz.func36,Tryz.ntmps36;go_wp2_with fail;refine HL.out.mono ?_;rintro e w1 ⟨hb1,⟨hout,rfl⟩|⟨k,x,v,rfl,hx,rfl,hsp⟩⟩
 ·have c4:w1.cell? ⟨d.bD,4,none⟩=some (.slice so nl sc):=by rw[fq,<-yQ];exact ag (HS.out.below hb1).cell rfl
  have HN:=aa (dc 8 w1);have ai:=aa (show Em w (.returned (.tuple #[.slice none 0 0,.bool true])) w1 from ⟨hb1,_,[],rfl,World.ownsRow_nil _ _ _ _,Nat.zero_le _⟩);rw[ie,<-fq]at hout;clear HL HS HVS yQ fq ie hb1;by_cases gR:i<0
  ·have g1:decide (i<0)=true:=decide_eq_true gR;go_wp2_with fail;refine HN.out.mono ?_;rintro e w2 ⟨rfl,rfl⟩;go_wp2_with fail;go_ret2;exact ai.out
  ·have g1:decide (i<0)=false:=decide_eq_false gR;have g2:decide ((nl:Int)<=i)=true:=decide_eq_true (by omega);go_wp2_with fail;refine HN.out.mono ?_;rintro e w2 ⟨rfl,rfl⟩;go_wp2_with fail;go_ret2;exact ai.out
 ·have hS1:=HS.out.below hb1;have c4:w1.cell? ⟨d.bD,4,none⟩=some (.slice so nl sc):=by rw[fq,<-yQ];exact ag hS1.cell rfl
  have hk:k<nl:=by rw[fq,<-ie];exact aw hx
  have g1:decide ((k:Int)<0)=false:=decide_eq_false (by omega);have g2:decide ((nl:Int)<=(k:Int))=false:=decide_eq_false (by omega);obtain ⟨y,hy⟩:∃y,d.es[k]?=some y:=⟨_,List.getElem?_eq_getElem (by rw[<-fq];exact hk)⟩;obtain ⟨-,Ud⟩:=hS1.at hx hy;have Ql:=hS1.lm;rw[yQ]at Ql;obtain ⟨sg,sc',DI⟩:=az Ql (by rw[<-fq];omega);cases DI
  have cl:w1.cell? ⟨sg,k,none⟩=some y.lv:=(bG Ql (j:=k) (by rw[List.getElem?_map,hy];rfl)).1;have X6:=(hS1.each y (List.mem_of_getElem? hy)).2.1;obtain ⟨yo,yc,hyv⟩:=aC X6;rw[Ud]at hsp;obtain ⟨vo,vc,hv⟩:=aC hsp;subst hv;obtain ⟨bc,Ue⟩:∃bc,bc=y.bc:=⟨_,rfl⟩;rw[<-Ue]at hsp X6 hyv ⊢;rw[hyv]at cl X6
  have LO:bc.length<=7000:=by rw[Ue,<-Ud];exact hS1.good.2 x (List.mem_of_getElem? hx)
  have HN:=aa (dc 0 w1);have bA:=aa hb1;have sT:=aa hS1;have rO:=aa hsp;have HYR:=aa X6;clear HL HS HVS yQ fq ie hb1 hS1 Ql X6 hsp hyv Ud Ue hx hy;go_wp2_with fail;refine HN.out.mono ?_;rintro e w2 ⟨rfl,h2⟩;subst h2;clear HN;go_wp2_with fail;go_loopg [8] bc.length (λk' vi W=>Uc w2 bc.length k' vi W)
  case atStart=>exact ⟨0,rfl,by omega,Below.refl _ _⟩
  case round=>
   obtain ⟨j,rfl,hjk,hbr⟩:=hrel;by_cases hlt:j<bc.length
   ·have e1:decide ((j:Int)<(bc.length:Int))=true:=decide_eq_true (by omega);have hwr:IntKind.i64.wrap ((j:Int)+1)=(j:Int)+1:=by rw[IntKind.wrap_i64];omega
    obtain ⟨z,hz⟩:∃z,bc[j]?=some z:=⟨_,List.getElem?_eq_getElem hlt⟩;obtain ⟨lb,oX,_,hlc⟩:=rO.out.cells hz;obtain ⟨yb,hyb,_,WD⟩:=HYR.out.cells hz;subst oX hyb;have d4:=ax c4 hbr;have dl:=ax cl hbr;have y0:=ax (WD 0 (.int .i64 z.fr) rfl) hbr;have y1:=ax (WD 1 (.int .i64 z.to) rfl) hbr;have y2:=ax (WD 2 (.string z.nm) rfl) hbr
    have y3:=ax (WD 3 (.int .i64 z.jr) rfl) hbr;have y4:=ax (WD 4 (.string z.co) rfl) hbr;rw[Nat.add_zero]at y0;obtain ⟨w6,GH⟩:∃w6,wr.alloc (.cells #[.int .i64 z.fr,.int .i64 z.to,.string z.nm,.int .i64 z.jr,.string z.co] 70)=w6:=⟨_,rfl⟩
    have PA:w6.heap[wr.heap.size]?=some (.cells #[.int .i64 z.fr,.int .i64 z.to,.string z.nm,.int .i64 z.jr,.string z.co] 70 (0,0)):=by rw[<-GH];exact af _ _
    have GI:Below w2.heap.size w2 w6:=by rw[<-GH];exact hbr.alloc hbr.size _
    have l0:=ax (hlc 0 (.int .i64 z.fr) rfl) GI;have l1:=ax (hlc 1 (.int .i64 z.to) rfl) GI;have l2:=ax (hlc 2 (.string z.nm) rfl) GI;have l3:=ax (hlc 3 (.int .i64 z.jr) rfl) GI;have l4:=ax (hlc 4 (.string z.co) rfl) GI;rw[Nat.add_zero]at l0;have x0:w6.cell? ⟨wr.heap.size,0,none⟩=some (.int .i64 z.fr):=ag PA rfl
    have x1:w6.cell? ⟨wr.heap.size,1,none⟩=some (.int .i64 z.to):=ag PA rfl;have x2:w6.cell? ⟨wr.heap.size,2,none⟩=some (.string z.nm):=ag PA rfl;have x3:w6.cell? ⟨wr.heap.size,3,none⟩=some (.int .i64 z.jr):=ag PA rfl;have x4:w6.cell? ⟨wr.heap.size,4,none⟩=some (.string z.co):=ag PA rfl;have HB6:=aa GI;clear hbr GI PA hlc WD
    go_wp2_with (refine wpList_store_row rfl _ _ _ rfl _ #[.int .i64 z.fr,.int .i64 z.to,.string z.nm,.int .i64 z.jr,.string z.co] rfl rfl 70 _ (aA _ _ _ rfl) rfl rfl (by simp[Value.oneCell']) ?_;rw[dV _ _ _ _ _ rfl]);rw[GH];obtain ⟨rb,DJ⟩:∃rb,rb=wr.heap.size:=⟨_,rfl⟩;rw[<-DJ]at x0 x1 x2 x3 x4 ⊢;clear DJ GH y0 y1 y2 y3 y4 d4 dl;go_quiet (fail)
    go_wp2_with fail;go_roundg (bc.length - (j+1))
    case measure=>omega
    case rel=>exact ⟨j+1,by simp,by omega,Below.drewN' HB6.out _⟩
   ·have e1:decide ((j:Int)<(bc.length:Int))=false:=decide_eq_false (by omega);have HST:=aa (jF wr d (sT.out.below hbr));have qH:=aa hbr;clear hbr;go_wp2_with fail;refine HST.out.mono ?_;rintro e w3 ⟨rfl,hb3⟩
    have ai:=aa (show Em w (.returned (.tuple #[.slice vo bc.length vc,.bool true])) w3 from by have hb:=qH.out.trans (hb3.mono qH.out.size);exact ⟨bA.out.trans (hb.mono bA.out.size),_,bc,rfl,aG rO.out (λk hk=>hb.block k (by obtain ⟨_,c,hc⟩:=aj rO.out hk;exact ae hc)),LO⟩);clear HST qH hb3;go_wp2_with fail;go_ret2;exact ai.out
def En(w:World)(e:Ending)(w':World):Prop:=Below w.heap.size w w'/\∃v dp,e=.returned (.tuple #[v,.bool true])/\jE w' w.heap.size v dp/\dp.length<=7000
def L8(w:World)(n k:Nat)(vi:Value)(W:World):Prop:=∃j:Nat,vi=.int .i64 j/\j+k=n/\Below w.heap.size w W
theorem L9(hg:Good G st):(eV G st).length=st.length/\∀(j:Nat) x s,st[j]?=some x->G[x]?=some s->(eV G st)[j]?=some s.nm:=by
 have hall:=hg.2;clear hg
 induction st with
 | nil=>exact ⟨rfl,λj x s h=>by simp at h⟩
 | cons a t ih=>
  obtain ⟨i1,i2⟩:=ih (λx hx=>hall x (List.mem_cons_of_mem _ hx));have ha:=hall a List.mem_cons_self;have e:eV G (a::t)=G[a].nm::eV G t:=by unfold eV;simp[List.getElem?_eq_getElem ha]
  rw[e];refine ⟨by simp[i1],λj x s hj hs=>?_⟩
  cases j with
  | zero=>
   simp at hj;subst hj;rw[List.getElem?_eq_getElem ha]at hs;simp at hs;simp[hs]
  | succ j=>simpa using i2 j x s (by simpa using hj) hs
set_option maxRecDepth 20000 in
set_option maxHeartbeats 4000000 in
theorem nI(w:World)(d:SD)(i:Int)(h:cF w d):Calls Tryz.prog 37 #[.pointer (some ⟨d.bD,0,none⟩),.int .i64 i] w (En w):=by
 have c0:w.cell? ⟨d.bD,0,none⟩=some (.pointer (some ⟨d.bX,0,none⟩)):=ag h.cell rfl;have HL:=aa (Bo i d.G h.good.1 (h.gD w (Below.refl _ _)) h.sheet h.tx);obtain ⟨so,sc,La⟩:=aC h.py;obtain ⟨ie,hl2,xC⟩:=h.len;have HS:=aa h;obtain ⟨nl,fq⟩:∃nl,nl=d.es.length:=⟨_,rfl⟩;rw[ie,<-fq]at hl2 xC;clear h
 go_enter Tryz.func37,Tryz.ntmps37;go_wp2_with fail;refine HL.out.mono ?_;rintro e w1 ⟨hb1,⟨hout,rfl⟩|⟨k,x,v,rfl,hx,rfl,hsp⟩⟩
 ·have c4:w1.cell? ⟨d.bD,3,none⟩=some (.slice so nl sc):=by rw[fq,<-La];exact ag (HS.out.below hb1).cell rfl
  have HN:=aa (dc 8 w1);have ai:=aa (show En w (.returned (.tuple #[.slice none 0 0,.bool true])) w1 from ⟨hb1,_,[],rfl,World.ownsRow_nil _ _ _ _,Nat.zero_le _⟩);rw[ie,<-fq]at hout;clear HL HS La fq ie hb1;by_cases gR:i<0
  ·have g1:decide (i<0)=true:=decide_eq_true gR;go_wp2_with fail;refine HN.out.mono ?_;rintro e w2 ⟨rfl,rfl⟩;go_wp2_with fail;go_ret2;exact ai.out
  ·have g1:decide (i<0)=false:=decide_eq_false gR;have g2:decide ((nl:Int)<=i)=true:=decide_eq_true (by omega);go_wp2_with fail;refine HN.out.mono ?_;rintro e w2 ⟨rfl,rfl⟩;go_wp2_with fail;go_ret2;exact ai.out
 ·have hS1:=HS.out.below hb1;have c4:w1.cell? ⟨d.bD,3,none⟩=some (.slice so nl sc):=by rw[fq,<-La];exact ag hS1.cell rfl
  have hk:k<nl:=by rw[fq,<-ie];exact aw hx
  have g1:decide ((k:Int)<0)=false:=decide_eq_false (by omega);have g2:decide ((nl:Int)<=(k:Int))=false:=decide_eq_false (by omega);obtain ⟨y,hy⟩:∃y,d.es[k]?=some y:=⟨_,List.getElem?_eq_getElem (by rw[<-fq];exact hk)⟩;obtain ⟨hst,-⟩:=hS1.at hx hy;have cq:=hS1.good.1 x (List.mem_of_getElem? hx);rw[hst]at hsp cq;have Ql:=hS1.py;rw[La]at Ql
  obtain ⟨sg,sc',DI⟩:=az Ql (by rw[<-fq];omega);cases DI;have cl:w1.cell? ⟨sg,k,none⟩=some (.slice (some ⟨y.sb,0,none⟩) y.st.length y.fk):=(bG Ql (j:=k) (by rw[List.getElem?_map,hy];rfl)).1;obtain ⟨hints,_,WE⟩:=hS1.each y (List.mem_of_getElem? hy);obtain ⟨dp,Qm⟩:∃dp,dp=eV d.G y.st:=⟨_,rfl⟩;obtain ⟨st,X7⟩:∃st,st=y.st:=⟨_,rfl⟩
  rw[<-Qm]at hsp;rw[<-X7]at hints WE cq cl Qm;obtain ⟨Uf,Ug⟩:=L9 cq;rw[<-Qm]at Uf Ug;obtain ⟨vo,vc,hv⟩:=aC hsp;subst hv;have hrg:=hS1.rg w1 (Below.refl _ _);have HN:=aa (dc 0 w1);have bA:=aa hb1;have sT:=aa hS1;have rO:=aa hsp;have HI:=aa hints;have aa8:=aa Ug;have Ma:=aa cq;have TS:=cq.1
  have X8:((dp.length:Int) != (st.length:Int))=false:=by rw[Uf];simp
  have d1:w1.cell? ⟨d.bD,1,none⟩=some (.pointer (some ⟨d.P,0,none⟩)):=ag hS1.cell rfl;have dP:=hrg.gC.eh.1;have SI:d.nr=d.ss.length:=by obtain ⟨px,cap',h1,_⟩:=hrg.gC.form;simp at h1;exact h1.2.1
  have AB:=hS1.same.len;have X9:dp.length<=st.length:=by omega
  have Mb:st.length<=dp.length:=by omega
  have acW:d.G.length<=d.ss.length/\d.ss.length<=d.nr:=by omega
  clear HL HS La fq ie hb1 hS1 Ql hsp hst X7 hx hy hints Qm Ug cq hrg AB SI Uf;go_wp2_with fail;refine HN.out.mono ?_;rintro e w2 ⟨rfl,h2⟩;subst h2;clear HN;go_wp2_with fail;go_loopg [8] dp.length (λk' vi W=>L8 w2 dp.length k' vi W)
  case atStart=>exact ⟨0,rfl,by omega,Below.refl _ _⟩
  case round=>
   obtain ⟨j,rfl,hjk,hbr⟩:=hrel;by_cases hlt:j<dp.length
   ·have e1:decide ((j:Int)<(dp.length:Int))=true:=decide_eq_true (by omega);have hwr:IntKind.i64.wrap ((j:Int)+1)=(j:Int)+1:=by rw[IntKind.wrap_i64];omega
    obtain ⟨z,hz⟩:∃z,st[j]?=some z:=⟨_,List.getElem?_eq_getElem (by omega)⟩;have hzG:=Ma.out.2 z (List.mem_of_getElem? hz);obtain ⟨s,hs⟩:∃s,d.G[z]?=some s:=⟨_,List.getElem?_eq_getElem hzG⟩;obtain ⟨t,ht⟩:∃t,d.ss[z]?=some t:=⟨_,List.getElem?_eq_getElem (by omega)⟩;have fS:=(sT.out.same.st z s t hs ht).1;have Mc:=aa8.out j z s hz hs
    have hrow:w2.ownsRow w.heap.size 9 1 (.slice vo dp.length vc) dp.length (dp.map Value.string):=rO.out;obtain ⟨lb,vc',oX⟩:=az hrow (by omega);cases oX;have l0:=ax ((bG hrow (j:=j) (u:=.string s.nm) (by rw[List.getElem?_map,Mc];rfl)).1) hbr;rw[fS]at l0;have hrg:=sT.out.rg w2 (Below.refl _ _);have a0:=ax (hrg.gC.at ht).1 hbr
    have i0:=ax (HI.out.cell hz) hbr;have k4:=ax c4 hbr;have kl:=ax cl hbr;have k1:=ax d1 hbr;have kP:=ax dP hbr;have hzn:z<d.nr:=by omega
    have hjs:j<st.length:=by omega
    have qH:=aa hbr;clear hbr hrow hrg Mc fS hs ht hz;go_wp2_with fail;go_quiet (fail);go_wp2_with fail;go_roundg (dp.length - (j+1))
    case measure=>omega
    case rel=>exact ⟨j+1,by simp,by omega,Below.drewN' qH.out _⟩
   ·have e1:decide ((j:Int)<(dp.length:Int))=false:=decide_eq_false (by omega);have HST:=aa (jF wr d (sT.out.below hbr));have qH:=aa hbr;clear hbr;go_wp2_with fail;refine HST.out.mono ?_;rintro e w3 ⟨rfl,hb3⟩
    have ai:=aa (show En w (.returned (.tuple #[.slice vo dp.length vc,.bool true])) w3 from by have hb:=qH.out.trans (hb3.mono qH.out.size);exact ⟨bA.out.trans (hb.mono bA.out.size),_,dp,rfl,aG rO.out (λk hk=>hb.block k (by obtain ⟨_,c,hc⟩:=aj rO.out hk;exact ae hc)),by omega⟩);clear HST qH hb3;go_wp2_with fail;go_ret2;exact ai.out
end Go.Proofs.YtgncgdkpkkdaeaaGreatDoor
