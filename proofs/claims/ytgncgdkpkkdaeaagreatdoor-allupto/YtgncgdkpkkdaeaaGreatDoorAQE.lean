import Derived.Test.YtgncgdkpkkdaeaaGreatDoorAQC
set_option maxRecDepth 20000
set_option maxHeartbeats 4000000
namespace Go.Proofs.YtgncgdkpkkdaeaaGreatDoor
open Go.RowKit bu Go.Maps Go.Shelf
structure O4(w:World)(a:AD)(t:Nat)(kd k ka:Int)(tx more:ByteArray):Prop where
 ww:WW w a
 cnt:uk a t
 few:t<=2000000
 txz:tx.size<=reachBytes
 moz:more.size<=reachBytes
 wk:(Lit.int .i64 k).wf=true
 wa:(Lit.int .i64 ka).wf=true
 some:kd=8->0<a.bs.length
theorem WA(w:World)(a:AD)(t:Nat)(k ka b:Int)(tx more:ByteArray)(h:O4 w a t 7 k ka tx more):
  Calls Tryz.prog 18 #[.pointer (some ⟨a.bW,0,none⟩),.agg #[.int .i64 7,.int .i64 k,.int .i64 ka,.int .i64 b,.string tx,.string more]] w (bI w a t 7 tx):=by
 obtain ⟨i0,uL,hz0,hz1,hz3⟩:=info_parts KU;obtain ⟨W0,hW0⟩:∃W0,w.alloc (.cells #[.int .i64 7,.int .i64 k,.int .i64 ka,.int .i64 b,.string tx,.string more] 33)=W0:=⟨_,rfl⟩;have hb0:Below w.heap.size w W0:=by rw[<-hW0];exact cq _ _
 have hc:=ag w (.cells #[.int .i64 7,.int .i64 k,.int .i64 ka,.int .i64 b,.string tx,.string more] 33);rw[hW0]at hc;have z0:W0.cell? ⟨w.heap.size,0,none⟩=some (.int .i64 7):=ai hc rfl;have z4:W0.cell? ⟨w.heap.size,4,none⟩=some (.string tx):=ai hc rfl;have h0:=h.ww.below hb0
 have HF:=aa (λw' (hp:bI W0 a t 7 tx (.returned (.bool true)) w')=>hp.from hb0 h.ww.hB);have HL:=aa (uW tx W0 h0.mx (bJ h.txz (by decide)));obtain ⟨go,gc,IU⟩:=aC h0.gs.1;rw[fy]at IU;obtain ⟨nb,iX⟩:∃nb,nb=a.bs.length:=⟨_,rfl⟩;rw[<-iX]at IU;have acp:nb<=2000000:=by have:=h.cnt.bs;have:=h.few;omega
 have H0:=aa (And.intro h0 h.cnt);have Mi:=aa IU;have vP:=aa iX;clear h h0 hb0 hc IU iX;go_enter Tryz.func18,Tryz.ntmps18;go_wp2_with fail;refine HL.out.mono ?_;rintro e w1 ⟨hb1,⟨rfl,hld⟩|⟨bb,rfl,hB,hN,hNB⟩⟩
 ·have aq:=aa (HF.out w1 (bI.same H0.out.1 H0.out.2 hb1 (λ_=>hld) (λe=>absurd e (by decide))));clear hb1 hld HL;go_wp2_with fail;go_ret;exact aq.out
 ·have h1:=H0.out.1.below hb1;have c0:w1.cell? ⟨a.bW,0,none⟩=some (.slice go nb gc):=by rw[<-Mi.out];exact ai h1.cell rfl
  obtain ⟨wb,WB⟩:∃wb,w1.alloc (.cells #[.pointer (some ⟨bb.bB,0,none⟩)] 22)=wb:=⟨_,rfl⟩;have jr:Below w1.heap.size w1 wb:=by rw[<-WB];exact cq _ _
  have bj:=aa (show wb.ownsRow 0 22 1 (.slice go nb gc) nb (a.bs.map Bd) from by
   have:=bq h1.gs.1 λk cc hh=>(jr.block k (ae hh)).trans hh
   rw[fy,<-vP.out,Mi.out]at this;exact this)
  have ey:=aa (λ(y:Nat) u (hy:([.pointer (some ⟨bb.bB,0,none⟩)]:List Value)[y]?=some u)=>show wb.cell? ((⟨w1.heap.size,0,none⟩:Addr).add y)=some u from by rw[<-WB];exact aG w1 #[.pointer (some ⟨bb.bB,0,none⟩)] _ y u hy)
  have fk:=aa (λ(v':Value) (W:World) (hr:W.ownsRow 0 22 1 v' (nb+1) (a.bs.map Bd++[.pointer (some ⟨bb.bB,0,none⟩)])) (hg:wb.grownBy W (Value.slice go nb gc).ownBlock) (hat:v'.ownBlock=(Value.slice go nb gc).ownBlock∨v'.ownBlock=some wb.heap.size)=>show W.cell? ⟨a.bW,0,none⟩=some (.slice go nb gc)/\W.frozen? ⟨a.bW,0,none⟩=false/\bI w a t 7 tx (.returned (.bool true)) (W.setCell ⟨a.bW,0,none⟩ v') from by
   rw[<-Mi.out]at hg hat
   obtain ⟨q1,q2,q3⟩:=qN.done (T:=70) (R:=22) (z:=5) (mk:=[]) (F:=λx=>#[x,a.tv,a.sv,a.nv]) (idx:=0) (u:=Bd bb) (.inl ⟨_,rfl⟩) (W:=W) (wa:=wb) (wr:=w1) (v':=v') (n:=0) (ao:=none) ⟨h1.cell,h1.gs,.inl rfl,by omega,by rw[fy,<-vP.out];omega⟩ (by decide) (by decide) (by decide) (by decide) (λ_ _=>⟨rfl,rfl⟩) (aM.refl _ _) rfl (λg o cur hn=>absurd hn (by omega)) jr (by rw[fy,<-vP.out];exact hr) hg hat
   exact ⟨by rw[<-Mi.out];exact q1,q2,HF.out _ (bI.load H0.out.1 H0.out.2 hb1 hB hN q3)⟩)
  clear hb1 hB hN hNB h1 jr HL
  go_wp2_with (at_builtin;go_loud (refine wpList_append_own_at _ rfl _ _ 50 rfl 0 22 i0 (.pointer none) 1 8 Tryz.underlying50 uL hz0 hz1 hz3 rfl (by decide) (.slice go nb gc) nb (a.bs.map Bd) (by rfl) bj.out ⟨w1.heap.size,0,none⟩ 1 1 [.pointer (some ⟨bb.bB,0,none⟩)] (by rfl) rfl ey.out (by simp[Value.oneCell']) (by unfold maxLen;omega) (by omega) (Nat.zero_le _) ?_;intro v' W hown hg _ hat;obtain ⟨k2,f2,HST⟩:=fk.out v' W hown hg hat;obtain ⟨g',cap',rfl⟩:=aB hown (by omega);clear hown hg fk bj ey hat WB c0))
  have HST:=aa HST;go_wp2_with fail;go_ret;exact HST.out
theorem WC(w:World)(a:AD)(t:Nat)(k ka b:Int)(tx more:ByteArray)(h:O4 w a t 8 k ka tx more):
  Calls Tryz.prog 18 #[.pointer (some ⟨a.bW,0,none⟩),.agg #[.int .i64 8,.int .i64 k,.int .i64 ka,.int .i64 b,.string tx,.string more]] w (bI w a t 8 tx):=by
 obtain ⟨i0,uL,hz0,hz1,hz3⟩:=info_parts KV;obtain ⟨W0,hW0⟩:∃W0,w.alloc (.cells #[.int .i64 8,.int .i64 k,.int .i64 ka,.int .i64 b,.string tx,.string more] 33)=W0:=⟨_,rfl⟩;have hb0:Below w.heap.size w W0:=by rw[<-hW0];exact cq _ _
 have hc:=ag w (.cells #[.int .i64 8,.int .i64 k,.int .i64 ka,.int .i64 b,.string tx,.string more] 33);rw[hW0]at hc;have z0:W0.cell? ⟨w.heap.size,0,none⟩=some (.int .i64 8):=ai hc rfl;have z2:W0.cell? ⟨w.heap.size,2,none⟩=some (.int .i64 ka):=ai hc rfl;have z4:W0.cell? ⟨w.heap.size,4,none⟩=some (.string tx):=ai hc rfl;have h0:=h.ww.below hb0
 have eF:=h.some rfl;have HF:=aa (λw' (hp:bI W0 a t 8 tx (.returned (.bool true)) w')=>hp.from hb0 h.ww.hB);obtain ⟨go,gc,IU⟩:=aB h0.gs.1 (by rw[fy];exact eF);rw[fy]at IU;obtain ⟨ro,rc,DG⟩:=aC h0.ts.1;rw[fy]at DG;obtain ⟨nb,iX⟩:∃nb,nb=a.bs.length:=⟨_,rfl⟩;obtain ⟨nd,hnd⟩:∃nd,nd=a.ds.length:=⟨_,rfl⟩
 rw[<-iX]at IU eF;rw[<-hnd]at DG;have acq:nd<=2000000:=by have:=h.cnt.ds;have:=h.few;omega
 have acp:nb<=2000000:=by have:=h.cnt.bs;have:=h.few;omega
 have c0:W0.cell? ⟨a.bW,0,none⟩=some (.slice (some ⟨go,0,none⟩) nb gc):=by rw[<-IU];exact ai h0.cell rfl
 obtain ⟨r,hr⟩:∃r,r=pk ka nb:=⟨_,rfl⟩;have od:r<nb:=by rw[hr];exact Nat.mod_lt _ eF
 obtain ⟨bb,uq⟩:∃bb,a.bs[r]?=some bb:=⟨_,cB (by rw[<-iX];exact od)⟩;have cr:W0.cell? ⟨go,r,none⟩=some (.pointer (some ⟨bb.bB,0,none⟩)):=by have hg:=h0.gs.1;rw[fy,<-iX,IU]at hg;exact (bG hg (j:=r) (by rw[fX,uq];rfl)).1
 have Yc:=aa (λW=>zf ka nb W h.wa eF (by omega));rw[<-hr]at Yc;obtain ⟨hBo,hBt,hBm⟩:=h0.both bb (bn uq)
 have Qt:=aa (show ∀W,Below W0.heap.size W0 W->Calls Tryz.prog 12 #[.pointer (some ⟨bb.bB,0,none⟩),.string tx] W λe w'=>Below W.heap.size W w'/\∃o:Option Addr,e=.returned (.tuple #[.pointer o,.bool true])/\jC W bb tx (.returned (.tuple #[.pointer o,.bool true])) w' from λW hb=>(Cm W bb tx (hBo.below hb) (h0.tab.below hb) (h0.mx.below hb) hBt hBm).mono λe w' hp=>by
  refine ⟨hp.1,?_⟩;have hp':=hp;obtain ⟨-,⟨rfl,-⟩|⟨d,rfl,-⟩⟩:=hp
  ·exact ⟨none,rfl,hp'⟩
  ·exact ⟨_,rfl,hp'⟩)
 have Ch:=aa (And.intro hBo (And.intro hBt hBm));have H0:=aa (And.intro h0 h.cnt);have HTV:=aa DG;have Mh:=aa hnd;clear h h0 hb0 hc IU iX DG hnd hr hBo hBt hBm uq;go_enter Tryz.func18,Tryz.ntmps18;go_wp2_with fail
 go_region_held3 (λw'=>w'.cell? ⟨a.bW,0,none⟩=some (.slice (some ⟨go,0,none⟩) nb gc)/\w'.cell? ⟨w.heap.size,2,none⟩=some (.int .i64 ka)/\w'.cell? ⟨w.heap.size,4,none⟩=some (.string tx)/\w'.cell? ⟨go,r,none⟩=some (.pointer (some ⟨bb.bB,0,none⟩)))
  (first
   | with_reducible exact y0
   | with_reducible exact y2
   | with_reducible exact y4
   | with_reducible exact yr
   | go_keep)
  (first
   | (go_at_call 43;refine (Yc.out _).mono ?_;rintro e w1 ⟨rfl,h1⟩;subst h1)
   | (go_at_call 12;refine (Qt.out _ (Below.refl _ _).drew).mono ?_;clear Qt;rintro e W2 ⟨hb2,o,rfl,hop⟩;have y0:=ax (w:=W0.drew) c0 hb2;have y2:=ax (w:=W0.drew) z2 hb2;have y4:=ax (w:=W0.drew) z4 hb2;have yr:=ax (w:=W0.drew) cr hb2;have aaA:=aa hop;clear hop hb2))
 all_goals
  obtain ⟨Yd,acr⟩:=aaA.out;have hb1:Below W0.heap.size W0 W2:=⟨Yd.os,Yd.tape,Yd.output,Yd.size,Yd.block⟩;clear aaA Yd;rcases acr with ⟨e,hz⟩|⟨d,e,hS,hdN,-,hdB,hdD,hdX,-,hdw⟩
  ·simp only[Ending.returned.injEq,Value.tuple.injEq,Array.mk.injEq,List.cons.injEq,Value.pointer.injEq,and_true]at e;subst e;have aq:=aa (HF.out W2 (bI.same H0.out.1 H0.out.2 hb1 (λe=>absurd e (by decide)) (λ_=>hz)));clear hb1 y0 y2 y4 yr;go_wp2_with fail;go_ret;exact aq.out
  ·simp only[Ending.returned.injEq,Value.tuple.injEq,Array.mk.injEq,List.cons.injEq,Value.pointer.injEq,and_true]at e;subst e;have h1:=H0.out.1.below hb1;have c1:W2.cell? ⟨a.bW,1,none⟩=some (.slice ro nd rc):=by rw[<-HTV.out];exact ai h1.cell rfl
   obtain ⟨wb,WB⟩:∃wb,W2.alloc (.cells #[.pointer (some ⟨d.bD,0,none⟩)] 25)=wb:=⟨_,rfl⟩;have jr:Below W2.heap.size W2 wb:=by rw[<-WB];exact cq _ _
   have bj:=aa (show wb.ownsRow 0 25 1 (.slice ro nd rc) nd (a.ds.map sK) from by
    have:=bq h1.ts.1 λk cc hh=>(jr.block k (ae hh)).trans hh
    rw[fy,<-Mh.out,HTV.out]at this;exact this)
   have ey:=aa (λ(y:Nat) u (hy:([.pointer (some ⟨d.bD,0,none⟩)]:List Value)[y]?=some u)=>show wb.cell? ((⟨W2.heap.size,0,none⟩:Addr).add y)=some u from by rw[<-WB];exact aG W2 #[.pointer (some ⟨d.bD,0,none⟩)] _ y u hy)
   have fk:=aa (λ(v':Value) (W:World) (hr:W.ownsRow 0 25 1 v' (nd+1) (a.ds.map sK++[.pointer (some ⟨d.bD,0,none⟩)])) (hg:wb.grownBy W (Value.slice ro nd rc).ownBlock) (hat:v'.ownBlock=(Value.slice ro nd rc).ownBlock∨v'.ownBlock=some wb.heap.size)=>show W.cell? ⟨a.bW,1,none⟩=some (.slice ro nd rc)/\W.frozen? ⟨a.bW,1,none⟩=false/\bI w a t 8 tx (.returned (.bool true)) (W.setCell ⟨a.bW,1,none⟩ v') from by
    rw[<-HTV.out]at hg hat
    obtain ⟨q1,q2,q3⟩:=qN.done (T:=70) (R:=25) (z:=5) (mk:=[]) (F:=λx=>#[a.gv,x,a.sv,a.nv]) (idx:=1) (u:=sK d) (.inl ⟨_,rfl⟩) (W:=W) (wa:=wb) (wr:=W2) (v':=v') (n:=0) (ao:=none) ⟨h1.cell,h1.ts,.inl rfl,by omega,by rw[fy,<-Mh.out];omega⟩ (by decide) (by decide) (by decide) (by decide) (λ_ _=>⟨rfl,rfl⟩) (aM.refl _ _) rfl (λg o cur hn=>absurd hn (by omega)) jr (by rw[fy,<-Mh.out];exact hr) hg hat
    exact ⟨by rw[<-HTV.out];exact q1,q2,HF.out _ (bI.opened H0.out.1 H0.out.2 hb1 hS hdB (by rw[hdN];exact bJ Ch.out.1.hN hdB) (by rw[hdN];exact Ch.out.2) hdD hdX hdw q3)⟩)
   clear hb1 hS hdN hdB hdD hdX hdw h1 jr y0 y2 y4 yr
   go_wp2_with (at_builtin;go_loud (refine wpList_append_own_at _ rfl _ _ 51 rfl 0 25 i0 (.pointer none) 1 8 Tryz.underlying51 uL hz0 hz1 hz3 rfl (by decide) (.slice ro nd rc) nd (a.ds.map sK) (by rfl) bj.out ⟨W2.heap.size,0,none⟩ 1 1 [.pointer (some ⟨d.bD,0,none⟩)] (by rfl) rfl ey.out (by simp[Value.oneCell']) (by unfold maxLen;omega) (by omega) (Nat.zero_le _) ?_;intro v' W hown hg _ hat;obtain ⟨k2,f2,HST⟩:=fk.out v' W hown hg hat;obtain ⟨g',cap',rfl⟩:=aB hown (by omega);clear hown hg fk bj ey hat WB c1))
   have HST:=aa HST;go_wp2_with fail;go_ret;exact HST.out
theorem WD(w:World)(a:AD)(t:Nat)(k ka b:Int)(tx more:ByteArray)(h:O4 w a t 9 k ka tx more):
  Calls Tryz.prog 18 #[.pointer (some ⟨a.bW,0,none⟩),.agg #[.int .i64 9,.int .i64 k,.int .i64 ka,.int .i64 b,.string tx,.string more]] w (bI w a t 9 tx):=by
 obtain ⟨W0,hW0⟩:∃W0,w.alloc (.cells #[.int .i64 9,.int .i64 k,.int .i64 ka,.int .i64 b,.string tx,.string more] 33)=W0:=⟨_,rfl⟩;have hb0:Below w.heap.size w W0:=by rw[<-hW0];exact cq _ _
 have hc:=ag w (.cells #[.int .i64 9,.int .i64 k,.int .i64 ka,.int .i64 b,.string tx,.string more] 33);rw[hW0]at hc;have z0:W0.cell? ⟨w.heap.size,0,none⟩=some (.int .i64 9):=ai hc rfl;have z2:W0.cell? ⟨w.heap.size,2,none⟩=some (.int .i64 ka):=ai hc rfl;have z4:W0.cell? ⟨w.heap.size,4,none⟩=some (.string tx):=ai hc rfl
 have z5:W0.cell? ⟨w.heap.size,5,none⟩=some (.string more):=ai hc rfl;have h0:=h.ww.below hb0;have HF:=aa (λw' (hb:Below W0.heap.size W0 w')=>(bI.same (kd:=9) (tx:=tx) h0 h.cnt hb (λe=>absurd e (by decide)) (λe=>absurd e (by decide))).from hb0 h.ww.hB);have HM:=aa (Ref.AU tx more ka W0 h0.tab (fh (h0.tab 0 (by decide))) h.txz h.moz h.wa);clear h h0 hb0 hc
 go_enter Tryz.func18,Tryz.ntmps18;go_wp2_with fail;refine HM.out.mono ?_;rintro e w1 ⟨rfl,hb1⟩;have aq:=aa (HF.out w1 hb1);clear hb1 HM;go_wp2_with fail;go_ret;exact aq.out
theorem WE(w:World)(a:AD)(t:Nat)(kd k ka b:Int)(tx more:ByteArray)(h:O4 w a t kd k ka tx more)(h7:kd≠7)(h8:kd≠8)(h9:kd≠9):
  Calls Tryz.prog 18 #[.pointer (some ⟨a.bW,0,none⟩),.agg #[.int .i64 kd,.int .i64 k,.int .i64 ka,.int .i64 b,.string tx,.string more]] w (bI w a t kd tx):=by
 obtain ⟨W0,hW0⟩:∃W0,w.alloc (.cells #[.int .i64 kd,.int .i64 k,.int .i64 ka,.int .i64 b,.string tx,.string more] 33)=W0:=⟨_,rfl⟩;have hb0:Below w.heap.size w W0:=by rw[<-hW0];exact cq _ _
 have hc:=ag w (.cells #[.int .i64 kd,.int .i64 k,.int .i64 ka,.int .i64 b,.string tx,.string more] 33);rw[hW0]at hc;have z0:W0.cell? ⟨w.heap.size,0,none⟩=some (.int .i64 kd):=ai hc rfl;have z1:W0.cell? ⟨w.heap.size,1,none⟩=some (.int .i64 k):=ai hc rfl;have z2:W0.cell? ⟨w.heap.size,2,none⟩=some (.int .i64 ka):=ai hc rfl
 have z3:W0.cell? ⟨w.heap.size,3,none⟩=some (.int .i64 b):=ai hc rfl;have z4:W0.cell? ⟨w.heap.size,4,none⟩=some (.string tx):=ai hc rfl;have z5:W0.cell? ⟨w.heap.size,5,none⟩=some (.string more):=ai hc rfl;have h0:=h.ww.below hb0;have HF:=aa (λe w' (hp:bI W0 a t kd tx e w')=>hp.from hb0 h.ww.hB);have q7:(kd==7)=false:=by rw[er];exact h7
 have q8:(kd==8)=false:=by rw[er];exact h8
 have q9:(kd==9)=false:=by rw[er];exact h9
 obtain ⟨ro,rc,DG⟩:=aC h0.ts.1;rw[fy]at DG;obtain ⟨nd,hnd⟩:∃nd,nd=a.ds.length:=⟨_,rfl⟩;rw[<-hnd]at DG;have acq:nd<=2000000:=by have:=h.cnt.ds;have:=h.few;omega
 have c1:W0.cell? ⟨a.bW,1,none⟩=some (.slice ro nd rc):=by rw[<-DG];exact ai h0.cell rfl
 have H0:=aa (And.intro h0 h.cnt);have H7:=aa (And.intro h7 h8);rcases Nat.eq_zero_or_pos nd with hz|lY
 ·subst hz;have aq:=aa (HF.out _ _ (bI.same h0 h.cnt (Below.refl _ _) (λe=>absurd e h7) (λe=>absurd e h8)));clear h h0 hb0 hc DG hnd h7 h8 h9;go_enter Tryz.func18,Tryz.ntmps18;go_wp2_with fail;go_ret;exact aq.out
 ·have qz:((nd:Int)==0)=false:=by rw[er];omega
  obtain ⟨r,hr⟩:∃r,r=pk k nd:=⟨_,rfl⟩;have od:r<nd:=by rw[hr];exact Nat.mod_lt _ lY
  obtain ⟨d,hd⟩:∃d,a.ds[r]?=some d:=⟨_,cB (by rw[<-hnd];exact od)⟩;have L6:=h0.ts.1;rw[fy,<-hnd,DG]at L6;obtain ⟨tg,tc,e⟩:=aB L6 lY;cases e;have cr:W0.cell? ⟨tg,r,none⟩=some (.pointer (some ⟨d.bD,0,none⟩)):=(bG L6 (j:=r) (by rw[fX,hd];rfl)).1;have Yc:=aa (λW=>zf k nd W h.wk lY (by omega))
  rw[<-hr]at Yc;have Iz:=bn hd;have hSd:=h0.side d Iz;have pY:=aa (λW (hb:Below W0.heap.size W0 W)=>NL W d kd k ka b tx more (hSd.below hb) (by have:=h.cnt.wk d Iz;have:=h.few;omega) (bJ h.txz (by decide)));have L0:=aa (λW (hb:Below W0.heap.size W0 W)=>kL W d ka (hSd.below hb).is)
  have RQ:=aa (λW (hb:Below W0.heap.size W0 W)=>jN W d ka (hSd.below hb).is);have HD:=aa hd;have VI:a.ms.length<=90000000/\a.ns.length<=90000000:=by have:=h.cnt.ms;have:=h.cnt.ns;have:=h.few;omega
  have HMZ:=aa VI;clear h h0 hb0 hc DG hnd hr hd Iz hSd L6 VI h7 h8 h9;go_enter Tryz.func18,Tryz.ntmps18;go_wp2_with fail
  go_region_held3 (λw'=>w'.cell? ⟨a.bW,1,none⟩=some (.slice (some ⟨tg,0,none⟩) nd rc)/\w'.cell? ⟨w.heap.size,1,none⟩=some (.int .i64 k)/\w'.cell? ⟨tg,r,none⟩=some (.pointer (some ⟨d.bD,0,none⟩)))
   (go_keep)
   (first|(go_at_call 43;refine (Yc.out _).mono ?_;rintro e w1 ⟨rfl,h1⟩;subst h1))
  all_goals
   obtain ⟨W1,hW1⟩:∃W1,W1=W0.drew:=⟨_,rfl⟩;have hb1:Below W0.heap.size W0 W1:=by rw[hW1];exact (Below.refl _ _).drew
   rw[<-hW1];have y0:=ax z0 hb1;have y1:=ax z1 hb1;have y2:=ax z2 hb1;have y3:=ax z3 hb1;have y4:=ax z4 hb1;have y5:=ax z5 hb1;have rN:=aa (L0.out W1 hb1);have pN:=aa (RQ.out W1 hb1);have gD:=aa (pY.out W1 hb1);have h1:=H0.out.1.below hb1;have HG:=aa (λe w' (hp:bI W1 a t kd tx e w')=>HF.out e w' (hp.from hb1 H0.out.1.hB))
   have H1:=aa h1;clear hb1 h1 hW1 L0 RQ pY HF Yc z0 z1 z2 z3 z4 z5 c1 cr;by_cases k3:kd=3
   ·have q3:(kd==3)=true:=by rw[k3];rfl
    go_wp2_with fail;refine rN.out.mono ?_;rintro e w2 ⟨hb2,v,bh,rfl,hsp,Ew⟩;obtain ⟨vo,vc,hv⟩:=aC hsp;subst hv;have hj:=H1.out.owS hb2 hsp;have HOW:=aa (Ba a.bW W1.heap.size a.gv a.tv a.sv a.nv _ bh.length a.ms w2 hj Ew HMZ.out.1);have cW:=aa hb2;clear hb2 hsp hj rN pN gD;go_wp2_with fail;refine HOW.out.mono ?_;rintro e w3 ⟨rfl,lv,N,x,ms,QL,yL⟩
    have aq:=aa (HG.out _ _ (bI.aaz H1.out H0.out.2 cW.out QL yL H7.out.1 H7.out.2));clear yL QL HOW;go_wp2_with fail;go_ret;exact aq.out
   ·have q3:(kd==3)=false:=by rw[er];exact k3
    by_cases k4:kd=4
    ·have q4:(kd==4)=true:=by rw[k4];rfl
     go_wp2_with fail;refine pN.out.mono ?_;rintro e w2 ⟨hb2,v,dx,rfl,hsp,Ew⟩;obtain ⟨vo,vc,hv⟩:=aC hsp;subst hv;have hj:=H1.out.owN hb2 hsp;have HOW:=aa (Bb a.bW W1.heap.size a.gv a.tv a.sv a.nv _ dx.length a.ns w2 hj Ew HMZ.out.2);have cW:=aa hb2;clear hb2 hsp hj rN pN gD;go_wp2_with fail;refine HOW.out.mono ?_;rintro e w3 ⟨rfl,lv,N,x,ms,QL,yL⟩
     have aq:=aa (HG.out _ _ (bI.names H1.out H0.out.2 cW.out QL yL H7.out.1 H7.out.2));clear yL QL HOW;go_wp2_with fail;go_ret;exact aq.out
    ·have q4:(kd==4)=false:=by rw[er];exact k4
     go_wp2_with fail;refine gD.out.mono ?_;rintro e w2 hp;have aq:=aa (HG.out _ _ (bI.step H1.out H0.out.2 HD.out hp H7.out.1 H7.out.2));obtain ⟨rfl,-⟩:=hp;clear gD rN pN;go_wp2_with fail;go_ret;exact aq.out
theorem sM(w:World)(a:AD)(t:Nat)(kd k ka b:Int)(tx more:ByteArray)(h:O4 w a t kd k ka tx more):
  Calls Tryz.prog 18 #[.pointer (some ⟨a.bW,0,none⟩),.agg #[.int .i64 kd,.int .i64 k,.int .i64 ka,.int .i64 b,.string tx,.string more]] w (bI w a t kd tx):=by
 by_cases h7:kd=7
 ·subst h7;exact WA w a t k ka b tx more h
 ·by_cases h8:kd=8
  ·subst h8;exact WC w a t k ka b tx more h
  ·by_cases h9:kd=9
   ·subst h9;exact WD w a t k ka b tx more h
   ·exact WE w a t kd k ka b tx more h h7 h8 h9
theorem WW.start{w:World}(hT:lC w)(hm:Mx w):WW (w.alloc (.cells #[.slice none 0 0,.slice none 0 0,.slice none 0 0,.slice none 0 0] 55)) ⟨w.heap.size,w.heap.size,.slice none 0 0,.slice none 0 0,.slice none 0 0,.slice none 0 0,[],[],[],[]⟩:=by
 have hb:Below w.heap.size w (w.alloc (.cells #[.slice none 0 0,.slice none 0 0,.slice none 0 0,.slice none 0 0] 55)):=cq _ _;have nr:∀{W:World} {T:TypeId},ik W T (.slice none 0 0) []:=⟨World.ownsRow_nil _ _ _ _,λ_=>rfl,λx hx=>by simp at hx⟩
 exact ⟨ag _ _,nr,nr,nr,nr,λb hb=>by simp at hb,λd hd=>by simp at hd,λi j d e h=>by simp at h,λd hd=>by simp at hd,λk v h=>by simp at h,λk v h=>by simp at h,hT.below hb,hm.below hb,(λk hk=>by
  rcases hk with hk|hk|hk|hk|hk
  ·exact Nat.le_of_eq hk.symm
  all_goals cases hk),λd hd=>by simp at hd,hb.size⟩
def Be(w:World)(bW n:Nat)(k:Nat)(vi:Value)(wr:World):Prop:=
 ∃(j:Nat) (a:AD),vi=.int .i64 j/\j+k=n/\WW wr a/\a.bW=bW/\a.B=w.heap.size/\uk a (j+2)/\0<a.bs.length/\Below w.heap.size w wr
theorem Nh(v:Value)(n:Nat)(w:World)(hT:lC w)(hm:Mx w)(hv:Cv w v n)(hn:n<=1500000):Calls Tryz.prog 6 #[v] w λe w'=>e=.returned (.bool true)/\Below w.heap.size w w':=by
 obtain ⟨-,LY,fL,rfl,aaB⟩:=hv;have acs:=aa aaB;obtain ⟨W0,hW0⟩:∃W0,w.alloc (.cells #[.slice none 0 0,.slice none 0 0,.slice none 0 0,.slice none 0 0] 55)=W0:=⟨_,rfl⟩;have h0:=WW.start hT hm;rw[hW0]at h0;have hb0:Below w.heap.size w W0:=by rw[<-hW0];exact cq _ _
 have HW1:=aa (sM W0 _ 0 7 0 0 0 ⟨First.Aw.toArray⟩ ⟨#[]⟩ ⟨h0,⟨Nat.zero_le _,Nat.zero_le _,Nat.zero_le _,Nat.zero_le _,λd hd=>by simp at hd⟩,by omega,by decide,by decide,rfl,rfl,λe=>absurd e (by decide)⟩);have gZ:=aa hb0;clear aaB hT hm h0 hb0;go_enter Tryz.func6,Tryz.ntmps6;go_wp2_with fail;refine HW1.out.mono ?_
 rintro e w1 ⟨rfl,a1,JH,Sw,aaC,aaD,hc1,-,h17,-⟩;obtain ⟨aaE,O5⟩:=h17 rfl;have O5:a1.bs.length=1:=O5.resolve_right λ⟨ec,at_,TF,zU⟩=>TF (zU.dz First.FT).1
 have hb1:Below w.heap.size w w1:=gZ.out.trans aaD;obtain ⟨go,gc,IU⟩:=aC JH.gs.1;rw[fy,O5]at IU;have c0:w1.cell? ⟨w.heap.size,0,none⟩=some (.slice go 1 gc):=by have:=ai (j:=0) (v:=a1.gv) JH.cell rfl;rw[IU,Sw]at this;exact this
 have Ud:=aa (sM w1 a1 1 8 0 0 0 ⟨#[49,32,60,50,62,32,51,32,60,10,52,62]⟩ ⟨#[]⟩ ⟨JH,hc1,by omega,by decide,by decide,rfl,rfl,λ_=>by omega⟩);rw[Sw]at Ud;have bM:=aa (And.intro hb1 aaC);have HDS:=aa (And.intro aaE O5);have H1W:=aa Sw;clear JH aaD hc1 h17 aaE O5 hb1 aaC HW1 gZ IU Sw;go_wp2_with fail;refine Ud.out.mono ?_
 rintro e w2 ⟨rfl,a2,hw2,O6,aaF,aaG,hc2,Fb,-,h28⟩;have O6:=O6.trans H1W.out;obtain ⟨aaH,Sx⟩:=h28 rfl
 have Sx:a2.ds.length=1:=by
  rcases Sx with h|h
  ·rw[h,HDS.out.1];rfl
  ·exact absurd h (by decide)
 have hb2:Below w.heap.size w w2:=by have:=bM.out.1.trans (aaG.mono (Nat.le_of_eq bM.out.2.symm));exact this
 obtain ⟨ro,rc,DG⟩:=aC hw2.ts.1;rw[fy,Sx]at DG;have c1:w2.cell? ⟨w.heap.size,1,none⟩=some (.slice ro 1 rc):=by have:=ai (j:=1) (v:=a2.tv) hw2.cell rfl;rw[DG,O6]at this;exact this
 have Q7:=aa (show Be w w.heap.size n n (.int .i64 0) w2 from ⟨0,a2,rfl,by omega,hw2,O6,aaF.trans bM.out.2,hc2,by rw[aaH,HDS.out.2];omega,hb2⟩);clear hw2 O6 aaF aaG hc2 Fb h28 aaH Sx hb2 DG Ud bM HDS c0;go_wp2_with fail;go_loopg [6] n (λk vi wr=>Be w w.heap.size n k vi wr)
 case atStart=>exact Q7.out
 case round=>
  obtain ⟨j,a,rfl,hjk,hww,haW,haB,hcn,eF,hbr⟩:=hrel;by_cases hlt:j<n
  ·have g1:decide ((j:Int)<(n:Int))=true:=cF (by omega);have hwr:IntKind.i64.wrap ((j:Int)+1)=(j:Int)+1:=by rw[IntKind.wrap_i64];omega
   obtain ⟨sb,of,hao,hop⟩:=acs.out j hlt;subst hao;obtain ⟨kd,k,ka,b',tx,more,⟨VA,VI,ub,xH⟩,y0,y1,y2,y3,y4,y5⟩:=hop.below hbr;have pY:=aa (sM wr a (j+2) kd k ka b' tx more ⟨hww,hcn,by omega,VA,VI,ub,xH,λ_=>eF⟩);rw[haW]at pY;have rr:=aa (And.intro hbr (And.intro haB eF));clear hww hcn hbr hop haB eF;go_wp2_with fail;refine pY.out.mono ?_
   rintro e w3 ⟨rfl,a3,hw3,h3W,h3B,aaI,hc3,U8,-⟩;rw[haW]at h3W
   have HST:=aa (show ∀w4,Below w3.heap.size w3 w4->Be w w.heap.size n (n - (j+1)) (.int .i64 ((j:Int)+1)) w4 from λw4 hb4=>by have hb3:Below w.heap.size w w3:=rr.out.1.trans (aaI.mono (Nat.le_of_eq rr.out.2.1.symm));refine ⟨j+1,a3,by simp,by omega,hw3.below hb4,h3W,h3B.trans rr.out.2.1,hc3,dw rr.out.2.2 U8,hb3.trans (hb4.mono hb3.size)⟩)
   have ll:=aa (GF a3.bW a3.gv a3.tv a3.sv a3.nv a3.ms a3.ns w3 hw3.cell hw3.ss hw3.nn hw3.sm hw3.nm (by have:=hc3.ms;omega) (by have:=hc3.ns;omega));rw[h3W]at ll;clear hw3 h3W h3B aaI hc3 U8 pY y0 y1 y2 y3 y4 y5;go_wp2_with fail;refine ll.out.mono ?_;rintro e w4 ⟨rfl,hb4⟩;have fk:=aa (HST.out w4 hb4);clear hb4 ll HST;go_wp2_with fail;go_roundg (n - (j+1))
   case measure=>omega
   case rel=>exact fk.out
  ·have g1:decide ((j:Int)<(n:Int))=false:=bV (by omega);have aq:=aa hbr;clear hww hcn hbr;go_wp2_with fail;go_ret;exact ⟨rfl,aq.out⟩
end Go.Proofs.YtgncgdkpkkdaeaaGreatDoor
