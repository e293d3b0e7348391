import Derived.Test.YtgncgdkpkkdaeaaGreatDoorM5
namespace Go.Proofs.YtgncgdkpkkdaeaaGreatDoor
open Go.RowKit aQ Go.Maps Go.Shelf
variable {G:List GS} {st:List Nat} {w:World}
theorem cT(n:Nat)(w:World):Calls Tryz.prog 17 #[.int .i64 n] w λe w'=>e=.returned (.int .i64 n)/\w'=w:=by go_enter Tryz.func17,Tryz.ntmps17;go_wp2_with fail;go_ret;exact ⟨rfl,rfl⟩
structure SD where
 bD:Nat
 bX:Nat
 bS:Nat
 g:Nat
 n:Nat
 cap:Nat
 P:Nat
 gr:Nat
 nr:Nat
 cr:Nat
 Br:Nat
 B:Nat
 N:Nat
 text:ByteArray
 lv:Value
 vo:Value
 vs:Value
 ls:List LE
 es:List RE
 work:Nat
 ss:List bZ
 G:List GS
structure cG(w:World)(d:SD):Prop where
 cell:w.heap[d.bD]?=some (.cells #[.pointer (some ⟨d.bX,0,none⟩),.pointer (some ⟨d.P,0,none⟩),.string d.text,d.vo,d.vs,.int .i64 d.work] 89 (0,0))
 tx:w.heap[d.bX]?=some (.cells #[.pointer (some ⟨d.bS,0,none⟩)] 46 (0,0))
 sheet:bK w d.B d.bS d.g d.n d.cap d.text d.lv d.ls d.work
 pO:w.ownsRow d.B 57 1 d.vo d.es.length (d.es.map RE.ov)
 sL:w.ownsRow d.B 64 1 d.vs d.es.length (d.es.map RE.lv)
 each:∀e∈d.es,cF w e.sb e.st/\bN w d.B e.lv e.ba/\e.st.length<=e.eR
 runs:∃st,dn d.G [0] (aA d.text.data.toList) (d.ls.map LE.pr) st
 Sv:∃st,dn d.G [0] (aA d.text.data.toList) (d.es.map λe=>(e.st,e.ba)) st
 gN:∀w',Below d.N w w'->cP w' d.g d.n d.cap d.G
 rg:∀w',Below d.N w w'->RG w' d.Br d.P d.gr d.nr d.cr d.ss
 hN:d.N<=w.heap.size
 same:wu d.G d.ss
 ok:vY d.G
 pos:0<d.G.length
variable {d:SD}
theorem cG.below{w':World}(h:cG w d)(hb:Below w.heap.size w w'):cG w' d:=by
 have key:∀(t:TypeId) (k:Nat) c,w.heap[k]?=some (.cells c t (0,0))->w'.heap[k]?=some (.cells c t (0,0)):=λt k c hh=>(hb.block k (ae hh)).trans hh
 exact ⟨key _ _ _ h.cell,key _ _ _ h.tx,⟨key _ _ _ h.sheet.sh,h.sheet.eQ.below hb,h.sheet.base,h.sheet.size⟩,cj h.pO (key _),cj h.sL (key _),λe he=>⟨(h.each e he).1.below hb,cj (h.each e he).2.1 (key _),(h.each e he).2.2⟩,h.runs,h.Sv,
  λw2 hb2=>h.gN w2 ((hb.mono h.hN).trans hb2),λw2 hb2=>h.rg w2 ((hb.mono h.hN).trans hb2),Nat.le_trans h.hN hb.size,h.same,h.ok,h.pos⟩
theorem cG.drew(h:cG w d)(n:Nat):cG (w.drewN n) d:=h.below (Below.drewN' (Below.refl _ _) n)
theorem cG.agree(h:cG w d):d.ls.map LE.pr=d.es.map λe=>(e.st,e.ba):=by obtain ⟨_,h1⟩:=h.runs;obtain ⟨_,h2⟩:=h.Sv;exact (h1.cS h2).1
theorem cG.len(h:cG w d):d.ls.length=d.es.length/\d.ls.length<=3001/\0<d.ls.length:=by have h1:=congrArg List.length h.agree;obtain ⟨_,h2⟩:=h.runs;have h3:=h2.length;simp only[List.length_map]at h1 h3;have h4:=List.count_le_length (a:=(10:UInt8)) (l:=d.text.data.toList);rw[ag]at h4;have:=h.sheet.size;rw[aR]at h3;omega
theorem cG.at(h:cG w d){i:Nat}{x:LE}{e:RE}(hx:d.ls[i]?=some x)(he:d.es[i]?=some e):x.st=e.st/\x.ba=e.ba:=by have h1:=congrArg (·[i]?) h.agree;simp only[List.getElem?_map,hx,he,Option.map_some,Option.some.injEq,LE.pr,Prod.mk.injEq]at h1;exact h1
theorem dn.good(eA:vY G){ls:List (List UInt8)}{out:List (List Nat×List Sp)}{st':List Nat}(h:dn G st ls out st')(hg:Good G st):∀y∈out,Good G y.1:=by
 induction h with
 | nil=>intro y hy;simp at hy
 | cons ht _ ih=>
  intro y hy;rcases List.mem_cons.1 hy with rfl|hy
  ·exact hg
  ·exact ih (ht.good eA hg) y hy
theorem cG.good(h:cG w d):(∀x∈d.ls,Good d.G x.st)/\∀x∈d.ls,x.ba.length<=7000:=by
 obtain ⟨_,h2⟩:=h.runs;have hg:Good d.G [0]:=⟨⟨by simp,by simp⟩,λx hx=>by rw[List.mem_singleton.1 hx];exact h.pos⟩;refine ⟨λx hx=>h2.good h.ok hg x.pr (List.mem_map_of_mem hx),λx hx=>h2.short h.ok (λl hl=>?_) x.pr (List.mem_map_of_mem hx)⟩;have:=jH hl;rw[ag]at this;have:=h.sheet.size;omega
theorem jh(w:World)(d:SD)(h:cG w d):Calls Tryz.prog 65 #[.pointer (some ⟨d.bD,0,none⟩)] w λe w'=>e=.returned (.bool true)/\Below w.heap.size w w':=by
 have c0:w.cell? ⟨d.bD,0,none⟩=some (.pointer (some ⟨d.bX,0,none⟩)):=ah h.cell rfl;have c5:w.cell? ⟨d.bD,5,none⟩=some (.int .i64 d.work):=ah h.cell rfl;have h':=h.below (Below.refl _ _).drew;have HW:=aa (nz h'.sheet h'.tx);clear h h';go_enter Tryz.func65,Tryz.ntmps65;go_wp2_with fail
 go_region_held3 (λw'=>w'.cell? ⟨d.bD,0,none⟩=some (.pointer (some ⟨d.bX,0,none⟩))/\w'.cell? ⟨d.bD,5,none⟩=some (.int .i64 d.work))
  (go_keep)
  (first|(go_at_call 31;refine HW.out.mono ?_;clear HW;rintro e w1 ⟨rfl,h1⟩;subst h1))
 all_goals
  go_wp2_with fail;go_ret;exact ⟨rfl,(Below.refl _ _).drew⟩
def Dd(w:World)(e:Ending)(w':World):Prop:=Below w.heap.size w w'/\∃v ba,e=.returned (.tuple #[v,.bool true])/\bN w' w.heap.size v ba
def Sw(w:World)(n k:Nat)(vi:Value)(W:World):Prop:=∃j:Nat,vi=.int .i64 j/\j+k=n/\Below w.heap.size w W
set_option maxRecDepth 20000 in
set_option maxHeartbeats 4000000 in
theorem ou(w:World)(d:SD)(i:Int)(h:cG w d):Calls Tryz.prog 36 #[.pointer (some ⟨d.bD,0,none⟩),.int .i64 i] w (Dd w):=by
 have c0:w.cell? ⟨d.bD,0,none⟩=some (.pointer (some ⟨d.bX,0,none⟩)):=ah h.cell rfl;have HL:=aa (Dc i h.good.2 h.sheet h.tx);obtain ⟨so,sc,xK⟩:=aI h.sL;obtain ⟨gM,hl2,vX⟩:=h.len;have HS:=aa h;have HVS:=aa xK;obtain ⟨nl,eT⟩:∃nl,nl=d.es.length:=⟨_,rfl⟩;rw[gM,<-eT]at hl2 vX;clear h
 go_enter Tryz.func36,Tryz.ntmps36;go_wp2_with fail;refine HL.out.mono ?_;rintro e w1 ⟨hb1,⟨hout,rfl⟩|⟨k,x,v,rfl,hx,rfl,hsp⟩⟩
 ·have c4:w1.cell? ⟨d.bD,4,none⟩=some (.slice so nl sc):=by rw[eT,<-xK];exact ah (HS.out.below hb1).cell rfl
  have HN:=aa (cT 8 w1);have ai:=aa (show Dd w (.returned (.tuple #[.slice none 0 0,.bool true])) w1 from ⟨hb1,_,[],rfl,World.ownsRow_nil _ _ _ _⟩);rw[gM,<-eT]at hout;clear HL HS HVS xK eT gM hb1;by_cases gC:i<0
  ·have g1:decide (i<0)=true:=decide_eq_true gC;go_wp2_with fail;refine HN.out.mono ?_;rintro e w2 ⟨rfl,rfl⟩;go_wp2_with fail;go_ret2;exact ai.out
  ·have g1:decide (i<0)=false:=decide_eq_false gC;have g2:decide ((nl:Int)<=i)=true:=decide_eq_true (by omega);go_wp2_with fail;refine HN.out.mono ?_;rintro e w2 ⟨rfl,rfl⟩;go_wp2_with fail;go_ret2;exact ai.out
 ·have hS1:=HS.out.below hb1;have c4:w1.cell? ⟨d.bD,4,none⟩=some (.slice so nl sc):=by rw[eT,<-xK];exact ah hS1.cell rfl
  have hk:k<nl:=by rw[eT,<-gM];exact au hx
  have g1:decide ((k:Int)<0)=false:=decide_eq_false (by omega);have g2:decide ((nl:Int)<=(k:Int))=false:=decide_eq_false (by omega);obtain ⟨y,hy⟩:∃y,d.es[k]?=some y:=⟨_,List.getElem?_eq_getElem (by rw[<-eT];exact hk)⟩;obtain ⟨-,Sx⟩:=hS1.at hx hy;have OP:=hS1.sL;rw[xK]at OP;obtain ⟨sg,sc',CC⟩:=aC OP (by rw[<-eT];omega);cases CC
  have cl:w1.cell? ⟨sg,k,none⟩=some y.lv:=(bU OP (j:=k) (by rw[List.getElem?_map,hy];rfl)).1;have V8:=(hS1.each y (List.mem_of_getElem? hy)).2.1;obtain ⟨yo,yc,hyv⟩:=aI V8;rw[Sx]at hsp;obtain ⟨vo,vc,hv⟩:=aI hsp;subst hv;obtain ⟨ba,Sy⟩:∃ba,ba=y.ba:=⟨_,rfl⟩;rw[<-Sy]at hsp V8 hyv ⊢;rw[hyv]at cl V8
  have Kq:ba.length<=7000:=by rw[Sy,<-Sx];exact hS1.good.2 x (List.mem_of_getElem? hx)
  have HN:=aa (cT 0 w1);have br:=aa hb1;have rF:=aa hS1;have qE:=aa hsp;have HYR:=aa V8;clear HL HS HVS xK eT gM hb1 hS1 OP V8 hsp hyv Sx Sy hx hy;go_wp2_with fail;refine HN.out.mono ?_;rintro e w2 ⟨rfl,h2⟩;subst h2;clear HN;go_wp2_with fail;go_loopg [8] ba.length (λk' vi W=>Sw w2 ba.length k' vi W)
  case atStart=>exact ⟨0,rfl,by omega,Below.refl _ _⟩
  case round=>
   obtain ⟨j,rfl,hjk,hbr⟩:=hrel;by_cases hlt:j<ba.length
   ·have e1:decide ((j:Int)<(ba.length:Int))=true:=decide_eq_true (by omega);have hwr:IntKind.i64.wrap ((j:Int)+1)=(j:Int)+1:=by rw[IntKind.wrap_i64];omega
    obtain ⟨z,hz⟩:∃z,ba[j]?=some z:=⟨_,List.getElem?_eq_getElem hlt⟩;obtain ⟨lb,qF,_,hlc⟩:=qE.out.cells hz;obtain ⟨yb,hyb,_,UX⟩:=HYR.out.cells hz;subst qF hyb;have d4:=ax c4 hbr;have dl:=ax cl hbr;have y0:=ax (UX 0 (.int .i64 z.fr) rfl) hbr;have y1:=ax (UX 1 (.int .i64 z.to) rfl) hbr;have y2:=ax (UX 2 (.string z.nm) rfl) hbr
    have y3:=ax (UX 3 (.int .i64 z.iT) rfl) hbr;have y4:=ax (UX 4 (.string z.co) rfl) hbr;rw[Nat.add_zero]at y0;obtain ⟨w6,Fm⟩:∃w6,wr.alloc (.cells #[.int .i64 z.fr,.int .i64 z.to,.string z.nm,.int .i64 z.iT,.string z.co] 70)=w6:=⟨_,rfl⟩
    have N4:w6.heap[wr.heap.size]?=some (.cells #[.int .i64 z.fr,.int .i64 z.to,.string z.nm,.int .i64 z.iT,.string z.co] 70 (0,0)):=by rw[<-Fm];exact af _ _
    have Fo:Below w2.heap.size w2 w6:=by rw[<-Fm];exact hbr.alloc hbr.size _
    have l0:=ax (hlc 0 (.int .i64 z.fr) rfl) Fo;have l1:=ax (hlc 1 (.int .i64 z.to) rfl) Fo;have l2:=ax (hlc 2 (.string z.nm) rfl) Fo;have l3:=ax (hlc 3 (.int .i64 z.iT) rfl) Fo;have l4:=ax (hlc 4 (.string z.co) rfl) Fo;rw[Nat.add_zero]at l0;have x0:w6.cell? ⟨wr.heap.size,0,none⟩=some (.int .i64 z.fr):=ah N4 rfl
    have x1:w6.cell? ⟨wr.heap.size,1,none⟩=some (.int .i64 z.to):=ah N4 rfl;have x2:w6.cell? ⟨wr.heap.size,2,none⟩=some (.string z.nm):=ah N4 rfl;have x3:w6.cell? ⟨wr.heap.size,3,none⟩=some (.int .i64 z.iT):=ah N4 rfl;have x4:w6.cell? ⟨wr.heap.size,4,none⟩=some (.string z.co):=ah N4 rfl;have ZK:=aa Fo;clear hbr Fo N4 hlc UX
    go_wp2_with (refine wpList_store_row rfl _ _ _ rfl _ #[.int .i64 z.fr,.int .i64 z.to,.string z.nm,.int .i64 z.iT,.string z.co] rfl rfl 70 _ (az _ _ _ rfl) rfl rfl (by simp[Value.oneCell']) ?_;rw[dL _ _ _ _ _ rfl]);rw[Fm];obtain ⟨rb,CD⟩:∃rb,rb=wr.heap.size:=⟨_,rfl⟩;rw[<-CD]at x0 x1 x2 x3 x4 ⊢;clear CD Fm y0 y1 y2 y3 y4 d4 dl;go_quiet (fail)
    go_wp2_with fail;go_roundg (ba.length - (j+1))
    case measure=>omega
    case rel=>exact ⟨j+1,by simp,by omega,Below.drewN' ZK.out _⟩
   ·have e1:decide ((j:Int)<(ba.length:Int))=false:=decide_eq_false (by omega);have HST:=aa (jh wr d (rF.out.below hbr));have pR:=aa hbr;clear hbr;go_wp2_with fail;refine HST.out.mono ?_;rintro e w3 ⟨rfl,hb3⟩
    have ai:=aa (show Dd w (.returned (.tuple #[.slice vo ba.length vc,.bool true])) w3 from by have hb:=pR.out.trans (hb3.mono pR.out.size);exact ⟨br.out.trans (hb.mono br.out.size),_,ba,rfl,aJ qE.out λk hk=>hb.block k (by obtain ⟨_,c,hc⟩:=aw qE.out hk;exact ae hc)⟩);clear HST pR hb3;go_wp2_with fail;go_ret2;exact ai.out
def De(w:World)(e:Ending)(w':World):Prop:=Below w.heap.size w w'/\∃v cZ,e=.returned (.tuple #[v,.bool true])/\jg w' w.heap.size v cZ
def KL(w:World)(n k:Nat)(vi:Value)(W:World):Prop:=∃j:Nat,vi=.int .i64 j/\j+k=n/\Below w.heap.size w W
theorem KM(hg:Good G st):(eH G st).length=st.length/\∀(j:Nat) x s,st[j]?=some x->G[x]?=some s->(eH G st)[j]?=some s.nm:=by
 have hall:=hg.2;clear hg
 induction st with
 | nil=>exact ⟨rfl,λj x s h=>by simp at h⟩
 | cons a t ih=>
  obtain ⟨i1,i2⟩:=ih (λx hx=>hall x (List.mem_cons_of_mem _ hx));have ha:=hall a List.mem_cons_self;have e:eH G (a::t)=G[a].nm::eH G t:=by unfold eH;simp[List.getElem?_eq_getElem ha]
  rw[e];refine ⟨by simp[i1],λj x s hj hs=>?_⟩
  cases j with
  | zero=>
   simp at hj;subst hj;rw[List.getElem?_eq_getElem ha]at hs;simp at hs;simp[hs]
  | succ j=>simpa using i2 j x s (by simpa using hj) hs
set_option maxRecDepth 20000 in
set_option maxHeartbeats 4000000 in
theorem mP(w:World)(d:SD)(i:Int)(h:cG w d):Calls Tryz.prog 37 #[.pointer (some ⟨d.bD,0,none⟩),.int .i64 i] w (De w):=by
 have c0:w.cell? ⟨d.bD,0,none⟩=some (.pointer (some ⟨d.bX,0,none⟩)):=ah h.cell rfl;have HL:=aa (z6 i d.G h.good.1 (h.gN w (Below.refl _ _)) h.sheet h.tx);obtain ⟨so,sc,JS⟩:=aI h.pO;obtain ⟨gM,hl2,vX⟩:=h.len;have HS:=aa h;obtain ⟨nl,eT⟩:∃nl,nl=d.es.length:=⟨_,rfl⟩;rw[gM,<-eT]at hl2 vX;clear h
 go_enter Tryz.func37,Tryz.ntmps37;go_wp2_with fail;refine HL.out.mono ?_;rintro e w1 ⟨hb1,⟨hout,rfl⟩|⟨k,x,v,rfl,hx,rfl,hsp⟩⟩
 ·have c4:w1.cell? ⟨d.bD,3,none⟩=some (.slice so nl sc):=by rw[eT,<-JS];exact ah (HS.out.below hb1).cell rfl
  have HN:=aa (cT 8 w1);have ai:=aa (show De w (.returned (.tuple #[.slice none 0 0,.bool true])) w1 from ⟨hb1,_,[],rfl,World.ownsRow_nil _ _ _ _⟩);rw[gM,<-eT]at hout;clear HL HS JS eT gM hb1;by_cases gC:i<0
  ·have g1:decide (i<0)=true:=decide_eq_true gC;go_wp2_with fail;refine HN.out.mono ?_;rintro e w2 ⟨rfl,rfl⟩;go_wp2_with fail;go_ret2;exact ai.out
  ·have g1:decide (i<0)=false:=decide_eq_false gC;have g2:decide ((nl:Int)<=i)=true:=decide_eq_true (by omega);go_wp2_with fail;refine HN.out.mono ?_;rintro e w2 ⟨rfl,rfl⟩;go_wp2_with fail;go_ret2;exact ai.out
 ·have hS1:=HS.out.below hb1;have c4:w1.cell? ⟨d.bD,3,none⟩=some (.slice so nl sc):=by rw[eT,<-JS];exact ah hS1.cell rfl
  have hk:k<nl:=by rw[eT,<-gM];exact au hx
  have g1:decide ((k:Int)<0)=false:=decide_eq_false (by omega);have g2:decide ((nl:Int)<=(k:Int))=false:=decide_eq_false (by omega);obtain ⟨y,hy⟩:∃y,d.es[k]?=some y:=⟨_,List.getElem?_eq_getElem (by rw[<-eT];exact hk)⟩;obtain ⟨hst,-⟩:=hS1.at hx hy;have b9:=hS1.good.1 x (List.mem_of_getElem? hx);rw[hst]at hsp b9;have OP:=hS1.pO;rw[JS]at OP
  obtain ⟨sg,sc',CC⟩:=aC OP (by rw[<-eT];omega);cases CC;have cl:w1.cell? ⟨sg,k,none⟩=some (.slice (some ⟨y.sb,0,none⟩) y.st.length y.eR):=(bU OP (j:=k) (by rw[List.getElem?_map,hy];rfl)).1;obtain ⟨hints,_,UY⟩:=hS1.each y (List.mem_of_getElem? hy);obtain ⟨cZ,OQ⟩:∃cZ,cZ=eH d.G y.st:=⟨_,rfl⟩;obtain ⟨st,V9⟩:∃st,st=y.st:=⟨_,rfl⟩
  rw[<-OQ]at hsp;rw[<-V9]at hints UY b9 cl OQ;obtain ⟨Sz,SA⟩:=KM b9;rw[<-OQ]at Sz SA;obtain ⟨vo,vc,hv⟩:=aI hsp;subst hv;have hrg:=hS1.rg w1 (Below.refl _ _);have HN:=aa (cT 0 w1);have br:=aa hb1;have rF:=aa hS1;have qE:=aa hsp;have HI:=aa hints;have aag:=aa SA;have KN:=aa b9;have Sa:=b9.1
  have Wa:((cZ.length:Int) != (st.length:Int))=false:=by rw[Sz];simp
  have d1:w1.cell? ⟨d.bD,1,none⟩=some (.pointer (some ⟨d.P,0,none⟩)):=ah hS1.cell rfl;have dP:=hrg.gy.dR.1;have QU:d.nr=d.ss.length:=by obtain ⟨pE,cap',h1,_⟩:=hrg.gy.form;simp at h1;exact h1.2.1
  have zr:=hS1.same.len;have Wb:cZ.length<=st.length:=by omega
  have KO:st.length<=cZ.length:=by omega
  have abQ:d.G.length<=d.ss.length/\d.ss.length<=d.nr:=by omega
  clear HL HS JS eT gM hb1 hS1 OP hsp hst V9 hx hy hints OQ SA b9 hrg zr QU Sz;go_wp2_with fail;refine HN.out.mono ?_;rintro e w2 ⟨rfl,h2⟩;subst h2;clear HN;go_wp2_with fail;go_loopg [8] cZ.length (λk' vi W=>KL w2 cZ.length k' vi W)
  case atStart=>exact ⟨0,rfl,by omega,Below.refl _ _⟩
  case round=>
   obtain ⟨j,rfl,hjk,hbr⟩:=hrel;by_cases hlt:j<cZ.length
   ·have e1:decide ((j:Int)<(cZ.length:Int))=true:=decide_eq_true (by omega);have hwr:IntKind.i64.wrap ((j:Int)+1)=(j:Int)+1:=by rw[IntKind.wrap_i64];omega
    obtain ⟨z,hz⟩:∃z,st[j]?=some z:=⟨_,List.getElem?_eq_getElem (by omega)⟩;have hzG:=KN.out.2 z (List.mem_of_getElem? hz);obtain ⟨s,hs⟩:∃s,d.G[z]?=some s:=⟨_,List.getElem?_eq_getElem hzG⟩;obtain ⟨t,ht⟩:∃t,d.ss[z]?=some t:=⟨_,List.getElem?_eq_getElem (by omega)⟩;have gj:=(rF.out.same.st z s t hs ht).1;have KP:=aag.out j z s hz hs
    have hrow:w2.ownsRow w.heap.size 9 1 (.slice vo cZ.length vc) cZ.length (cZ.map Value.string):=qE.out;obtain ⟨lb,vc',qF⟩:=aC hrow (by omega);cases qF;have l0:=ax ((bU hrow (j:=j) (u:=.string s.nm) (by rw[List.getElem?_map,KP];rfl)).1) hbr;rw[gj]at l0;have hrg:=rF.out.rg w2 (Below.refl _ _);have a0:=ax (hrg.gy.at ht).1 hbr
    have i0:=ax (HI.out.cell hz) hbr;have k4:=ax c4 hbr;have kl:=ax cl hbr;have k1:=ax d1 hbr;have kP:=ax dP hbr;have hzn:z<d.nr:=by omega
    have hjs:j<st.length:=by omega
    have pR:=aa hbr;clear hbr hrow hrg KP gj hs ht hz;go_wp2_with fail;go_quiet (fail);go_wp2_with fail;go_roundg (cZ.length - (j+1))
    case measure=>omega
    case rel=>exact ⟨j+1,by simp,by omega,Below.drewN' pR.out _⟩
   ·have e1:decide ((j:Int)<(cZ.length:Int))=false:=decide_eq_false (by omega);have HST:=aa (jh wr d (rF.out.below hbr));have pR:=aa hbr;clear hbr;go_wp2_with fail;refine HST.out.mono ?_;rintro e w3 ⟨rfl,hb3⟩
    have ai:=aa (show De w (.returned (.tuple #[.slice vo cZ.length vc,.bool true])) w3 from by have hb:=pR.out.trans (hb3.mono pR.out.size);exact ⟨br.out.trans (hb.mono br.out.size),_,cZ,rfl,aJ qE.out λk hk=>hb.block k (by obtain ⟨_,c,hc⟩:=aw qE.out hk;exact ae hc)⟩);clear HST pR hb3;go_wp2_with fail;go_ret2;exact ai.out
end Go.Proofs.YtgncgdkpkkdaeaaGreatDoor
