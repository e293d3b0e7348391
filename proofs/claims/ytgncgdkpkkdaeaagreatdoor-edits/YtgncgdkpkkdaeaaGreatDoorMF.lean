import Derived.Test.YtgncgdkpkkdaeaaGreatDoorME
import Derived.Laws.Bits64b
import Derived.Lib.TrailingZeros
namespace Go.Proofs.YtgncgdkpkkdaeaaGreatDoor
open Go.RowKit aO Go.Maps
variable {root:aN} {a:Act} {ops:Array Oper} {ms ns:List (Nd Value)} {Q ts:List D} {js Y5 cC:List Nat} {S en k n0:Nat} {C X:Nat->Prop} {o:Oper} {v v2:Value} {w w' w2 w4:World}
theorem rh{K:Act->World->Prop}{Q:Exit->Act->World->Prop}{E:Prop}(hg:o.guard=none)(s x:Operand)
  (hop:o.op=Op.call { callee:=Callee.builtin Builtin.append,args:=#[s,x],argTypes:=#[57,57] }) (v u:Value) (xs ys:List Nat) (hs:a.eval s=v) (hx:a.eval x=u) (hv:Ints w 0 v xs) (hu:Ints w 0 u ys) (hn:xs.length+ys.length<=1000000000000)
  (hK:∀v' w',Ints w' 0 v' (xs++ys)->w.grownBy w' v.ownBlock->(v'.ownBlock=v.ownBlock∨v'.ownBlock=some w.heap.size)->K (a.put o.dst v') w'):
  if Region.wanted o (yielded ops a.tmps)=true then Oper.wp Tryz.prog o a w K Q else E:=by
 have hw:Region.wanted o (yielded ops a.tmps)=true:=by simp[Region.wanted,hg]
 rw[if_pos hw];obtain ⟨v',w',hr,r2,r3,r5⟩:=kO w o.type v u xs ys hv hu hn;unfold Oper.wp execOp;simp only[hop,resolve,invoke,builtin,Sem.run_bind,Sem.run_pure,Result.andThen_ok,List.map_toArray,List.map_cons,List.map_nil,hs,hx,hr];exact hK v' w' r2 r3 r5
theorem iH(w:World){rest:List Oper}{Q:Exit->Act->World->Prop}(hg:o.guard=none)(s x:Operand)
  (hop:o.op=Op.call { callee:=Callee.builtin Builtin.append,args:=#[s,x],argTypes:=#[57,57] }) (v u:Value) (xs ys:List Nat) (hs:a.eval s=v) (hx:a.eval x=u) (hv:Ints w 0 v xs) (hu:Ints w 0 u ys) (hn:xs.length+ys.length<=1000000000000)
  (hK:∀v' w',Ints w' 0 v' (xs++ys)->w.grownBy w' v.ownBlock->(v'.ownBlock=v.ownBlock∨v'.ownBlock=some w.heap.size)->wpList Tryz.prog ops Q rest (a.put o.dst v') w'):wpList Tryz.prog ops Q (o::rest) a w:=by
 refine wpList_plain hg λK hK'=>?_
 obtain ⟨v',w',hr,r2,r3,r5⟩:=kO w o.type v u xs ys hv hu hn;unfold Oper.wp execOp;simp only[hop,resolve,invoke,builtin,Sem.run_bind,Sem.run_pure,Result.andThen_ok,List.map_toArray,List.map_cons,List.map_nil,hs,hx,hr];exact hK' _ _ (hK v' w' r2 r3 r5)
theorem nQ{w5:World}{v5:Value}(hX:ia X w)(hF:Fx X w w4)(hS:Shelf w4 X S n0 (ns++ms) Q)(hv:Row w4 X v2 Y5)(hI:Ints w5 0 v5 js)(hg:w4.grownBy w5 v2.ownBlock)
  (hloc:v5.ownBlock=v2.ownBlock∨v5.ownBlock=some w4.heap.size) (h2:F2 (aU (aF w4) n0 (ns++ms)) ts js):bI X S n0 ns Q ts w (.returned v5) w5:=by
 have xE:∀k,v2.ownBlock=some k->∀c t fz,w4.heap[k]?=some (.cells c t fz)->t=3:=λk hk c t fz h=>by obtain ⟨c',hc⟩:=hv.1.block hk;rw[hc]at h;cases h;rfl
 have BC:Fx X w4 w5:=(Fx.refl X w4).grown hg (hX.fx hF) hv.2 (λk hk c t fz h=>by rw[xE k hk c t fz h];rfl);have hst:=BC.cS;refine ⟨v5,js,ms,rfl,hF.trans BC,?_,⟨hI,?_⟩,h2.mono λd k h=>aU.world hst h⟩
 ·refine hS.keep hst (λk o hk ho hc=>?_) (λk hk=>.inl hk);rw[hg.block k (ae ho) (λe=>by obtain ⟨c',hc'⟩:=hv.1.block e.symm;rw[ho]at hc';cases hc';rcases hc _ _ _ rfl with h|h<;>cases h)];exact ho
 ·intro k hk QQ;rcases hloc with e|e
  ·rw[e]at hk;exact hv.2 k hk QQ
  ·rw[e]at hk;have h1:=hX k QQ;have h2:=hF.size;have h3:w4.heap.size=k:=Option.some.inj hk;omega
theorem nR(h:Shelf w X S n0 ns Q)(hv:Ints w 0 v js):Shelf w (dx X v) S n0 ns Q:=
 h.keep (bH.refl w) (λ_ _ _ ho _=>ho) (λk hk=>by
  rcases hk with hk|hk
  ·exact .inl hk
  ·refine .inr λo ho=>?_
   obtain ⟨c,hc⟩:=hv.block hk;rw[hc]at ho;cases ho;exact ⟨_,_,_,rfl,by decide,by decide⟩)
theorem second{us:List D}{v4:Value}(hF:Fx X w w2)(hv:Row w2 X v2 Y5)(h2:F2 (aU (aF w2) n0 (ns++ms)) ts Y5)(hp:bI (dx X v2) S n0 (ns++ms) Q us w2 (.returned v4) w4):
  ∃M4 ks,Fx X w w4/\Shelf w4 X S n0 (ns++(ms++ks)) Q/\Row w4 X v2 Y5/\Ints w4 0 v4 M4/\F2 (aU (aF w4) n0 (ns++(ms++ks))) (ts++us) (Y5++M4)/\M4.length=us.length:=by
 obtain ⟨v,M4,ks,e,mK,hS4,PR,hf4⟩:=hp;cases e;refine ⟨M4,ks,hF.trans (mK.sub λ_ h=>.inl h),?_,⟨hv.1.iF λk hk=>mK.keep k (.inr hk),hv.2⟩,PR.1,?_,hf4.length.symm⟩
 ·rw[<-List.append_assoc];exact hS4.keep (bH.refl _) (λ_ _ _ h _=>h) (λ_ h=>.inl (.inl h))
 ·rw[<-List.append_assoc];exact (h2.mono λd k h=>(aU.world mK.cS h).append).append hf4
set_option maxHeartbeats 4000000 in
theorem tj(b:UInt8)(k l r:Nat)(hv:Value)(e:Bool)(d d':D)(hd:QT b d)(Up:QT b d')(X:Nat->Prop)(S n0:Nat)(ns:List (Nd Value))(Q:List D)(w:World)(hX:ia X w)(hS:Shelf w X S n0 ns Q)
  (hn:ns[k]?=some ⟨3,hv,l,r,e⟩) (hR:aU (aF w) n0 ns d l) (hR':aU (aF w) n0 ns d' r) (zz:∀t∈ey d,t∈Q) (Le:∀t∈ey d',t∈Q) (hsz:d.sz<=1000000) (hsz':d'.sz<=1000000):
  Calls Tryz.prog 178 #[.pointer (some ⟨S,0,none⟩),.int .i64 k,.int .u8 b.toNat] w (bI X S n0 ns Q (pd b d++pd b d') w):=by
 obtain ⟨g,cap,c0,m0,m1,m2,m3,m4,mL⟩:=hS.at hn;have lL:=aw hn;have hlen:=hS.length;have hst:=eH mL;have HX:=aa hX;have hb:Below w.heap.size w (w.alloc (.cells #[.int .i64 3,hv,.int .i64 l,.int .i64 r,.bool e] 292)):=(Below.refl _ _).alloc (Nat.le_refl _) _
 have sT:=aa (iG hS (.cells #[.int .i64 3,hv,.int .i64 l,.int .i64 r,.bool e] 292));have qz:=aa (lQ hX (.cells #[.int .i64 3,hv,.int .i64 l,.int .i64 r,.bool e] 292));have HB:=aa hb;have HE:=aa (af w (.cells #[.int .i64 3,hv,.int .i64 l,.int .i64 r,.bool e] 292))
 have HD:=aa (hd _ S n0 ns Q l (w.alloc (.cells #[.int .i64 3,hv,.int .i64 l,.int .i64 r,.bool e] 292)).drew qz.out sT.out.drew (aU.world (bH.au hb.drew) hR) zz hsz)
 have HD':=aa (λ(w2:World) (v2:Value) (js:List Nat) (ms:List (Nd Value)) (hF2:Fx (jv X w.heap.size) (w.alloc (.cells #[.int .i64 3,hv,.int .i64 l,.int .i64 r,.bool e] 292)) w2) (j4:Shelf w2 (jv X w.heap.size) S n0 (ns++ms) Q) (kN:Row w2 (jv X w.heap.size) v2 js)=>
  Up (dx (jv X w.heap.size) v2) S n0 (ns++ms) Q r w2 ((qz.out.fx hF2).dx kN.1) (nR j4 kN.1) ((aU.world ((bH.au hb).trans hF2.cS) hR').append) Le hsz')
 have HFB:=aa (Fx.au hX hb);clear hX hS hn hR hR' zz Le mL hb;go_enter Tryz.func178,Tryz.ntmps178;go_wp2_with fail
 go_region_law (first
  | (go_simp;go_at_call_of 178 (Value.int IntKind.i64 (l:Int));refine HD.out.mono ?_;rintro e2 w2 ⟨v2,js,ms,rfl,hF2,j4,kN,ed⟩;have eG:=aa hF2.gT;have xT:=aa j4;have zq:=aa kN;have jD:=aa ed;clear hF2 j4 kN ed;obtain ⟨q2,q3⟩:=tH HE.out eG.out)
  | (go_simp;go_at_call_of 178 (Value.int IntKind.i64 (r:Int));refine (HD'.out w2 v2 js ms eG.out xT.out zq.out).mono ?_;rintro e4 w4 hp;obtain ⟨v4,-,-,rfl,-⟩:=id hp;obtain ⟨M4,ks,PS,jX,Y6,xJ,Y7,hl4⟩:=second eG.out zq.out jD.out hp;have rU:js.length+M4.length<=1000000000000:=(by have h1:=jD.out.length;have h2:=fy b d;have h3:=fy b d';omega);have WZ:=aa PS;have jY:=aa jX;have Y8:=aa Y6;have HD4:=aa xJ;have WL:=aa Y7;clear hp PS jX Y6 xJ Y7 hl4)
  | (refine rh rfl (.tmp 59) (.tmp 64) rfl v2 v4 js M4 (by rfl) (by rfl) Y8.out.1 HD4.out rU ?_;intro v5 w5 Y9 sQ Qc;have ai:=aa (nQ qz.out (WZ.out) jY.out Y8.out Y9 sQ Qc WL.out);clear Y9 sQ Qc))
 all_goals
  have hend:bI X S n0 ns Q (pd b d++pd b d') w (.returned v5) w5:=by obtain ⟨_,js5,ms5,e5,f5,s5,r5,g5⟩:=ai.out;cases e5;exact ⟨_,js5,ms5,rfl,HFB.out.trans (f5.sub λ_ h=>.inl h),s5.less,r5.less,g5⟩
  have HF:=aa hend;clear hend;go_wp2_with fail;go_ret;exact HF.out
theorem Shelf.flag(h:Shelf w X S n0 ns Q){d:D}(hk:aU (aF w) n0 ns d k):
  ∃g len cap,w.cell? ⟨S,0,none⟩=some (.slice (some ⟨g,0,none⟩) len cap)/\k<len/\len<=100000000200/\w.cell? ⟨g,k*5+4,none⟩=some (.bool d.re.aq):=by
 obtain ⟨nd,h1,h2⟩:=hk.empty;obtain ⟨g,cap,c0,-,-,-,-,c4,-⟩:=h.at h1;exact ⟨g,_,cap,c0,aw h1,h.length,by rw[<-h2];exact c4⟩
set_option maxHeartbeats 4000000 in
theorem kQ(b:UInt8)(k l:Nat)(hv:Value)(r:Nat)(e:Bool)(d:D)(a:aN)(hd:QT b d)(Up:QT b (.base a))(X:Nat->Prop)(S n0:Nat)(ns:List (Nd Value))(Q:List D)(w:World)(hX:ia X w)(hS:Shelf w X S n0 ns Q)
  (hn:ns[k]?=some ⟨2,hv,l,r,e⟩) (Lc:a.ix=r) (hR:aU (aF w) n0 ns d l) (ha:a.lt n0) (GP:dR (aF w) ns a) (zz:∀t∈ey d,t∈Q) (Le:∀x∈pd b d,cG x a∈Q) (hQ3:∀t∈dD a,t∈Q) (hsz:d.sz<=1000000) (hsz':a.sz<=1000000)
  (ts:List D) (U1:ts=(pd b d).map (cG · a)++(if d.re.aq then ke b a else [])):
  Calls Tryz.prog 178 #[.pointer (some ⟨S,0,none⟩),.int .i64 k,.int .u8 b.toNat] w (bI X S n0 ns Q ts w):=by
 obtain ⟨g,cap,c0,m0,m1,m2,m3,m4,mL⟩:=hS.at hn;have lL:=aw hn;have hlen:=hS.length;have hst:=eH mL;subst Lc;have U2:=aa U1;have HX:=aa hX;obtain ⟨r,hr⟩:∃r,r=a.ix:=⟨_,rfl⟩;rw[<-hr]at m3;have hb:Below w.heap.size w (w.alloc (.cells #[.int .i64 2,hv,.int .i64 l,.int .i64 r,.bool e] 292)):=(Below.refl _ _).alloc (Nat.le_refl _) _
 have sT:=aa (iG hS (.cells #[.int .i64 2,hv,.int .i64 l,.int .i64 r,.bool e] 292));have qz:=aa (lQ hX (.cells #[.int .i64 2,hv,.int .i64 l,.int .i64 r,.bool e] 292));have HE:=aa (af w (.cells #[.int .i64 2,hv,.int .i64 l,.int .i64 r,.bool e] 292))
 have HD:=aa (hd _ S n0 ns Q l (w.alloc (.cells #[.int .i64 2,hv,.int .i64 l,.int .i64 r,.bool e] 292)).drew qz.out sT.out.drew (aU.world (bH.au hb.drew) hR) zz hsz)
 have HJ:=aa (λ(w2:World) (v2:Value) (js:List Nat) (ms:List (Nd Value)) (hF2:Fx (jv X w.heap.size) (w.alloc (.cells #[.int .i64 2,hv,.int .i64 l,.int .i64 r,.bool e] 292)) w2) (j4:Shelf w2 (jv X w.heap.size) S n0 (ns++ms) Q) (kN:Row w2 (jv X w.heap.size) v2 js) (ed:F2 (aU (aF w2) n0 (ns++ms)) (pd b d) js)=>by
  have qF:js.length<=1000000000:=by have h1:=ed.length;have h2:=fy b d;omega
  have jK:=(bH.au hb).trans hF2.cS;have:=ku _ S n0 (ns++ms) Q (pd b d) a v2 js w2 (qz.out.fx hF2) j4 kN.1 ed ha ((GP.world jK).append) Le qF;rw[<-hr]at this;exact this)
 have HL:=aa (λ(w3:World) (ms:List (Nd Value)) (dB:Fx (jv X w.heap.size) (w.alloc (.cells #[.int .i64 2,hv,.int .i64 l,.int .i64 r,.bool e] 292)) w3)=>(aU.world ((bH.au hb).trans dB.cS) hR).append (ms:=ms))
 have HD':=aa (λ(w3:World) (v3:Value) (js:List Nat) (ms:List (Nd Value)) (dB:Fx (jv X w.heap.size) (w.alloc (.cells #[.int .i64 2,hv,.int .i64 l,.int .i64 r,.bool e] 292)) w3) (nD:Shelf w3 (jv X w.heap.size) S n0 (ns++ms) Q) (wF:Row w3 (jv X w.heap.size) v3 js)=>
  Up (dx (jv X w.heap.size) v3) S n0 (ns++ms) Q r w3 ((qz.out.fx dB).dx wF.1) (nR nD wF.1) (show aU _ _ _ (.base a) r from ⟨hr,ha,(GP.world ((bH.au hb).trans dB.cS)).append⟩) hQ3 hsz')
 have HFB:=aa (Fx.au hX hb);clear hX hS hn hR GP zz Le hQ3 mL hb ha hr U1;go_enter Tryz.func178,Tryz.ntmps178;go_wp2_with fail
 go_region_with (first
  | (go_at_call 178;refine HD.out.mono ?_;rintro e2 w2 ⟨v2,js,ms,rfl,hF2,j4,kN,ed⟩;have eG:=aa hF2.gT;have xT:=aa j4;have zq:=aa kN;have jD:=aa ed;clear hF2 j4 kN ed;obtain ⟨q2,q3⟩:=tH HE.out eG.out)
  | (go_at_call 199;refine (HJ.out w2 v2 js ms eG.out xT.out zq.out jD.out).mono ?_;rintro e3 w3 ⟨v3,PO,Tc,rfl,dB,nD,wF,G9⟩;have gN:=aa (eG.out.trans dB);have QB:=aa nD;have Mv:=aa wF;have PQ:=aa G9;clear dB nD wF G9))
 all_goals
  rw[List.append_assoc]at QB PQ;obtain ⟨p2,p3⟩:=tH HE.out gN.out;obtain ⟨g3,ac2,EN,f0,f1,f2,f4⟩:=QB.out.flag (HL.out w3 (ms++Tc) gN.out);clear q2 q3 m0 m1 m2 m3 m4 c0
  cases fq:d.re.aq with
  | false=>
   rw[fq]at f4;have ai:=aa (show ∀nq,bI X S n0 ns Q ts w (.returned v3) (w3.drewN nq) from λnq=>by rw[U2.out,fq];simp only[Bool.false_eq_true,if_false,List.append_nil];exact ⟨v3,PO,ms++Tc,rfl,(HFB.out.trans (gN.out.sub λ_ h=>.inl h)).drewN nq,QB.out.less.drewN nq,Mv.out.less,PQ.out.mono λd k h=>aU.world (w:=w3) (w':=w3.drewN nq) (λ_ _ _ _ h=>h) h⟩)
   clear fq;go_wp2_with fail;go_quiet (fail);go_wp2_with fail;go_ret;exact ai.out nq
  | true=>
   rw[fq]at f4;have abt:=aa (show ts=(pd b d).map (cG · a)++pd b (.base a) from by rw[U2.out,fq];rfl);have HJ4:=aa (show ∀nq,F2 (aU (aF (w3.drewN nq)) n0 (ns++(ms++Tc))) ((pd b d).map (cG · a)) PO from λnq=>PQ.out.mono λd k h=>aU.world (w:=w3) (w':=w3.drewN nq) (λ_ _ _ _ h=>h) h)
   have Td:=aa (show ∀nq,Row (w3.drewN nq) (jv X w.heap.size) v3 PO from λnq=>Mv.out);clear fq;go_wp2_with fail;go_quiet (fail);go_wp2_with fail;refine (HD'.out (w3.drewN nq) v3 PO (ms++Tc) (gN.out.drewN nq) (QB.out.drewN nq) (Td.out nq)).mono ?_;rintro e4 w4 hp;obtain ⟨v4,-,-,rfl,-⟩:=id hp
   obtain ⟨M4,ks,PS,jX,Y6,xJ,Y7,hl4⟩:=second (gN.out.drewN nq) (Td.out nq) (HJ4.out nq) hp;have rU:PO.length+M4.length<=1000000000000:=by have h1:=PQ.out.length;have h2:=fy b d;have h3:=fy b (.base a);simp only[List.length_map]at h1;simp only[D.sz]at h3;omega
   have WZ:=aa PS;have jY:=aa jX;have Y8:=aa Y6;have HD4:=aa xJ;have WL:=aa Y7;clear hp PS jX Y6 xJ Y7 hl4 f0 f1 f2 f4 p2 p3
   go_wp2_with (at_builtin;refine iH w4 rfl (.tmp 45) (.tmp 50) rfl v3 v4 PO M4 (by rfl) (by rfl) Y8.out.1 HD4.out rU ?_;intro v5 w5 Y9 sQ Qc;have ai:=aa (nQ qz.out (WZ.out) jY.out Y8.out Y9 sQ Qc WL.out);clear Y9 sQ Qc)
   have hend:bI X S n0 ns Q ts w (.returned v5) w5:=by obtain ⟨_,js5,ms5,e5,f5,s5,r5,g5⟩:=ai.out;cases e5;rw[abt.out];exact ⟨_,js5,ms5,rfl,HFB.out.trans (f5.sub λ_ h=>.inl h),s5.less,r5.less,g5⟩
   have HF:=aa hend;clear hend;go_wp2_with fail;go_ret;exact HF.out
theorem rY(b:UInt8)(a:aN):QT b (.base a):=by
 induction a with
 | dh=>
  intro X S n0 ns Q k w hX hS hR hQ hsz;obtain ⟨rfl,hl,h,hn⟩:=hR;exact th b _ _ _ _ _ X S n0 ns Q w hX hS hn
 | cY i c=>
  intro X S n0 ns Q k w hX hS hR hQ hsz;obtain ⟨rfl,hl,_,h,hn,hc⟩:=hR;exact q8 b _ _ _ _ _ c X S n0 ns Q w hX hS hn hc
 | seq i x y um uo=>
  intro X S n0 ns Q k w hX hS hR hQ hsz;obtain ⟨rfl,⟨hl,hlx,UO⟩,_,⟨h,hn⟩,hx,hy⟩:=hR;simp only[D.sz,aN.sz]at hsz;simp only[ey,dD,List.mem_append]at hQ
  exact kQ b _ _ _ _ _ (.base x) y um uo X S n0 ns Q w hX hS hn rfl ⟨rfl,hlx,hx⟩ UO hy (λt ht=>hQ t (.inl (.inl ht))) (pM (d:=.base x) λt ht=>hQ t (.inl (.inr ht))) (λt ht=>hQ t (.inr ht)) (by simp only[D.sz];omega) (by omega) _ rfl
 | alt i x y um uo=>
  intro X S n0 ns Q k w hX hS hR hQ hsz;obtain ⟨rfl,⟨hl,hlx,UO⟩,_,⟨h,hn⟩,hx,hy⟩:=hR;simp only[D.sz,aN.sz]at hsz;simp only[ey,dD,List.mem_append]at hQ;exact tj b _ _ _ _ _ (.base x) (.base y) um uo X S n0 ns Q w hX hS hn ⟨rfl,hlx,hx⟩ ⟨rfl,UO,hy⟩ (λt ht=>hQ t (.inl ht)) (λt ht=>hQ t (.inr ht)) (by simp only[D.sz];omega) (by simp only[D.sz];omega)
 | star i x ih=>
  intro X S n0 ns Q k w hX hS hR hQ hsz;obtain ⟨rfl,hl,hr⟩:=hR;obtain ⟨_,⟨h,hn⟩,hx⟩:=id hr;simp only[D.sz,aN.sz]at hsz;simp only[ey,dD,List.mem_append]at hQ;exact qZ b _ _ _ _ _ (.base x) (.star _ x) ih X S n0 ns Q w hX hS hn rfl ⟨rfl,hl.2,hx⟩ hl hr (λt ht=>hQ t (.inl ht)) (pM (d:=.base x) λt ht=>hQ t (.inr ht)) (by simp only[D.sz];omega)
 | plus i j x ih=>
  intro X S n0 ns Q k w hX hS hR hQ hsz;obtain ⟨rfl,⟨hl,TZ,hlx⟩,_,hj0,⟨h,hn⟩,hj,hx⟩:=hR;simp only[D.sz,aN.sz]at hsz;simp only[ey,dD,List.mem_append]at hQ
  exact q9 b _ _ _ _ _ (.base x) (.star j x) ih X S n0 ns Q w hX hS hn rfl ⟨rfl,hlx,hx⟩ ⟨TZ,hlx⟩ ⟨hj0,hj,hx⟩ (λt ht=>hQ t (.inl ht)) (pM (d:=.base x) λt ht=>hQ t (.inr ht)) (by simp only[D.sz];omega)
 | eU i x ih=>
  intro X S n0 ns Q k w hX hS hR hQ hsz;obtain ⟨rfl,⟨hl,hlx⟩,_,⟨h,hn⟩,hx⟩:=hR;simp only[D.sz,aN.sz]at hsz;exact td b _ _ _ _ _ (.base x) ih X S n0 ns Q w hX hS hn ⟨rfl,hlx,hx⟩ hQ (by simp only[D.sz];omega)
theorem EO(b:UInt8)(d:D):QT b d:=by
 induction d with
 | base a=>exact rY b a
 | snoc d a ih=>
  intro X S n0 ns Q k w hX hS hR hQ hsz;obtain ⟨hk,hl,ha,m,hm,hd,h,hn⟩:=hR;simp only[D.sz]at hsz;simp only[ey,List.mem_append]at hQ;exact kQ b _ _ _ _ _ d a ih (rY b a) X S n0 ns Q w hX hS hn rfl hd hl ha (λt ht=>hQ t (.inl (.inl ht))) (pM λt ht=>hQ t (.inl (.inr ht))) (λt ht=>hQ t (.inr ht)) (by omega) (by omega) _ rfl
theorem Ints.form{B:Nat}{xs:List Nat}(h:Ints w B v xs):∃ao cap,v=.slice ao xs.length cap:=by
 rcases h.2 with ⟨rfl,h0⟩|⟨g,cap,_,rfl,_⟩
 ·exact ⟨none,0,by rw[h0]⟩
 ·exact ⟨_,cap,rfl⟩
structure kR(C:Nat->Prop)(w w':World):Prop where
 os:w'.os=w.os
 tape:w'.tape=w.tape
 output:w'.output=w.output
 size:w.heap.size<=w'.heap.size
 keep:∀k,k<w.heap.size->¬C k->w'.heap[k]?=w.heap[k]?
theorem kR.refl(C:Nat->Prop)(w:World):kR C w w:=⟨rfl,rfl,rfl,Nat.le_refl _,λ_ _ _=>rfl⟩
theorem kR.au(h:Below w.heap.size w w'):kR C w w':=⟨h.os,h.tape,h.output,h.size,λk hk _=>h.block k hk⟩
theorem kR.drewN(h:kR C w w')(n:Nat):kR C w (w'.drewN n):=⟨h.os,h.tape,h.output,h.size,h.keep⟩
structure kw(w:World)(M pl:Nat)(pv:Value)(cC:List Nat):Prop where
 var:w.heap[pl]?=some (.cells #[pv] 57 (0,0))
 row:Ints w 0 pv cC
 map:∃m f,bY ny 3 .i64 w M m f/\m<=cC.length/\∀k c,f k=some c<->∃n:Nat,c=n/\cC[n]?=some k
 nodup:cC.Nodup
 small:∀k∈cC,k<=1000000000000
def QU(M pl:Nat)(pv:Value):Nat->Prop:=λk=>k=M∨k=pl∨pv.ownBlock=some k
def pN(M pl:Nat)(pv:Value)(cC:List Nat)(k:Nat)(w:World)(e:Ending)(w':World):Prop:=
 ∃(n:Nat) (AL:Value) (eY:List Nat),e=.returned (.int .i64 n)/\kR (QU M pl pv) w w'/\kw w' M pl AL eY/\eY[n]?=some k/\(eY=cC∨eY=cC++[k])/\(AL.ownBlock=pv.ownBlock∨∃b,AL.ownBlock=some b/\w.heap.size<=b)
theorem Jo{l:List Nat}(hn:l.Nodup){i j x:Nat}(h1:l[i]?=some x)(h2:l[j]?=some x):i=j:=by have l1:=aw h1;have l2:=aw h2;rw[List.getElem?_eq_getElem l1]at h1;rw[List.getElem?_eq_getElem l2]at h2;exact (List.getElem_inj hn).1 ((Option.some.inj h1).trans (Option.some.inj h2).symm)
set_option maxHeartbeats 1000000 in
theorem EP(M pl mv:Nat)(pv:Value)(cC:List Nat)(k n:Nat)(w:World)(hN:kw w M pl pv cC)(QV:w.heap[mv]?=some (.cells #[.map (some M)] 318 (0,0)))(hk:k<=1000000000000)(h:cC[n]?=some k):
  Calls Tryz.prog 196 #[.int .i64 k,.pointer (some ⟨mv,0,none⟩),.pointer (some ⟨pl,0,none⟩)] w (pN M pl pv cC k w):=by
 obtain ⟨m,f,hM,hm,hf⟩:=hN.map;have c0:=ay QV;have hlk:=hM.look (t:=318) Tryz.underlying318 Tryz.underlying3 pL k hk;rw[(hf k n).2 ⟨n,rfl,h⟩]at hlk;have xh:(Instr.lookup 318 (.map (some M)) (.int .i64 k) true).run Tryz.prog w=.ok (.tuple #[.int .i64 n,.bool true]) w:=hlk
 have ai:=aa (show pN M pl pv cC k w (.returned (.int .i64 n)) w from ⟨n,pv,cC,rfl,kR.refl _ _,hN,h,.inl rfl,.inl rfl⟩);clear hN hM hm hf hlk QV h;go_enter Tryz.func196,Tryz.ntmps196;go_wp2;go_ret;exact ai.out
theorem EQ{M pl m:Nat}{pv AL:Value}{f:Nat->Option Int}{w1:World}{c:Array Value}(hN:kw w M pl pv cC)(hk:k<=1000000000000)(eW:k∉cC)(hm:m<=cC.length)(hf:∀k c,f k=some c<->∃n:Nat,c=n/\cC[n]?=some k)
  (Lf:bY ny 3 .i64 w1 M (m+1) (λy=>if y=k then some (cC.length:Int) else f y)) (hg1:w.grownBy w1 (some M)) (kN:Ints w2 0 AL (cC++[k])) (hg2:(w1.alloc (.cells c 3)).grownBy w2 pv.ownBlock)
  (hl2:AL.ownBlock=pv.ownBlock∨AL.ownBlock=some (w1.alloc (.cells c 3)).heap.size):
  w2.heap[pl]?=some (.cells #[pv] 57 (0,0))/\pN M pl pv cC k w (.returned (.int .i64 cC.length)) (w2.setCell ⟨pl,0,none⟩ AL):=by
 obtain ⟨es,kY,Ha⟩:∃es kY,w.heap[M]?=some (.map es kY):=by obtain ⟨_,_,h,_⟩:=hN.map;exact h.obj
 obtain ⟨es1,abu,U3⟩:=Lf.obj;have QW:pl≠M:=by rintro rfl;rw[hN.var]at Ha;cases Ha
 have M5:w1.heap[pl]?=some (.cells #[pv] 57 (0,0)):=by rw[hg1.block pl (ae hN.var) (λe=>QW (Option.some.inj e))];exact hN.var
 have hrow:∀j,pv.ownBlock=some j->∃cur,w.heap[j]?=some (.cells cur 3 (0,0)):=λj hj=>hN.row.block hj
 have M6:w2.heap[pl]?=some (.cells #[pv] 57 (0,0)):=by rw[hg2.block pl (by have:=ae M5;simp;omega) (λe=>by obtain ⟨cur,hc⟩:=hrow pl e.symm;rw[hN.var]at hc;simp at hc)];exact heap_alloc_old M5
 have Ce:w2.heap[M]?=some (.map es1 abu):=by rw[hg2.block M (by have:=ae U3;simp;omega) (λe=>by obtain ⟨cur,hc⟩:=hrow M e.symm;rw[Ha]at hc;cases hc)];exact heap_alloc_old U3
 refine ⟨M6,cC.length,AL,cC++[k],rfl,⟨hg2.os.trans hg1.os,hg2.tape.trans hg1.tape,hg2.output.trans hg1.output,?_,?_⟩,⟨heap_setCell_same w2 pl 0 _ M6,?_,⟨m+1,(λy=>if y=k then some (cC.length:Int) else f y),?_,?_,?_⟩,?_,?_⟩,?_,.inr rfl,?_⟩
 ·have h1:=hg1.size;have h2:=hg2.size;simp[World.setCell]at h2 ⊢;omega
 ·intro j hj hC;have hjM:j≠M:=λe=>hC (.inl e)
  have hjp:j≠pl:=λe=>hC (.inr (.inl e))
  rw[Below.heap_setCell _ _ _ _ (by exact hjp),hg2.block j (by have:=hg1.size;simp;omega) (λe=>hC (.inr (.inr e.symm))),Below.heap_alloc _ _ _ (by have:=hg1.size;omega),hg1.block j hj (λe=>hjM (Option.some.inj e))]
 ·refine kN.iF λj hj=>Below.heap_setCell _ _ _ _ ?_
  obtain ⟨cur,hc⟩:=kN.block hj;rintro rfl;rw[M6]at hc;simp at hc
 ·refine Lf.keep ?_;rw[Below.heap_setCell _ _ _ _ (by exact λe=>QW e.symm),Ce,U3]
 ·simp;omega
 ·intro x c;show (if x=k then some (cC.length:Int) else f x)=some c<->_;by_cases e:x=k
  ·subst e;rw[if_pos rfl];constructor
   ·intro h;refine ⟨cC.length,by simpa using h.symm,by simp⟩
   ·rintro ⟨n,rfl,h⟩;rcases Nat.lt_or_ge n cC.length with hl|hl
    ·rw[List.getElem?_append_left hl]at h;exact absurd (List.mem_of_getElem? h) eW
    ·have:=aw h;simp at this;rw[show n=cC.length by omega]
  ·rw[if_neg e,hf];constructor
   ·rintro ⟨n,rfl,h⟩;exact ⟨n,rfl,bM h⟩
   ·rintro ⟨n,rfl,h⟩;rcases Nat.lt_or_ge n cC.length with hl|hl
    ·rw[List.getElem?_append_left hl]at h;exact ⟨n,rfl,h⟩
    ·have:=aw h;simp at this;rw[show n=cC.length by omega]at h;simp at h;exact absurd h.symm e
 ·exact List.nodup_append.2 ⟨hN.nodup,by simp,λa ha b hb=>by simp at hb;subst hb;rintro rfl;exact eW ha⟩
 ·intro x hx;rcases List.mem_append.1 hx with h|h
  ·exact hN.small x h
  ·simp at h;omega
 ·simp
 ·rcases hl2 with e|e
  ·exact .inl e
  ·refine .inr ⟨_,e,?_⟩;have:=hg1.size;simp;omega
set_option maxHeartbeats 1000000 in
theorem ER(M pl mv:Nat)(pv:Value)(cC:List Nat)(k:Nat)(w:World)(hN:kw w M pl pv cC)(QV:w.heap[mv]?=some (.cells #[.map (some M)] 318 (0,0)))(hk:k<=1000000000000)(hl:cC.length<=1000000)(h:k∉cC):
  Calls Tryz.prog 196 #[.int .i64 k,.pointer (some ⟨mv,0,none⟩),.pointer (some ⟨pl,0,none⟩)] w (pN M pl pv cC k w):=by
 obtain ⟨m,f,hM,hm,hf⟩:=hN.map;have c0:=ay QV;have c1:=ay hN.var;have hlk:=hM.look (t:=318) Tryz.underlying318 Tryz.underlying3 pL k hk
 have hnone:f k=none:=by
  cases QX:f k with
  | none=>rfl
  | some c=>obtain ⟨n,_,h2⟩:=(hf k c).1 QX;exact absurd (List.mem_of_getElem? h2) h
 rw[hnone]at hlk;have xh:(Instr.lookup 318 (.map (some M)) (.int .i64 k) true).run Tryz.prog w=.ok (.tuple #[.int .i64 0,.bool false]) w:=hlk;obtain ⟨w1,hrun,Lf,hg1⟩:=hM.store (t:=318) Tryz.underlying318 Tryz.underlying3 (by omega) k hk (cC.length:Int) (lJ _ (by omega))
 have G8:(Instr.mapUpdate 318 (.map (some M)) (.int .i64 k) (.int .i64 cC.length)).run Tryz.prog w=.ok () w1:=hrun;obtain ⟨es,kY,Ha⟩:=hM.obj;have QW:pl≠M:=by rintro rfl;rw[hN.var]at Ha;cases Ha
 have ac3:mv≠M:=by rintro rfl;rw[QV]at Ha;cases Ha
 have M5:w1.heap[pl]?=some (.cells #[pv] 57 (0,0)):=by rw[hg1.block pl (ae hN.var) (λe=>QW (Option.some.inj e))];exact hN.var
 have d1:=ay M5;have PT:Ints w1 0 pv cC:=hN.row.iF λj hj=>hg1.block j (ae (hN.row.block hj).choose_spec) (λe=>by obtain ⟨cur,hc⟩:=hN.row.block hj;rw[Option.some.inj e,Ha]at hc;cases hc)
 have M0:∃ao cap,pv=.slice ao cC.length cap:=by
  rcases hN.row.2 with ⟨rfl,h0⟩|⟨g,cap,_,rfl,_⟩
  ·exact ⟨none,0,by rw[h0]⟩
  ·exact ⟨_,cap,rfl⟩
 obtain ⟨ao,cap,rfl⟩:=M0
 have B9:Ints (w1.alloc (.cells #[.int .i64 k] 3)) 0 (.slice (some ⟨w1.heap.size,0,none⟩) 1 1) [k]:=
  ⟨by simp,.inr ⟨w1.heap.size,1,#[.int .i64 k],rfl,Nat.zero_le _,af _ _,Nat.le_refl _,by unfold maxLen;omega,rfl,rfl⟩⟩
 have UX:=aa B9;have HI1:=aa (PT.iF (w':=w1.alloc (.cells #[.int .i64 k] 3)) λj hj=>Below.heap_alloc _ _ _ (ae (PT.block hj).choose_spec));have HN:=aa hN;have HH:=aa h;have HM:=aa hm;have HF:=aa hf;have HM1:=aa Lf;have tq:=aa hg1;clear hN hM hm hf hlk QV h PT Lf hg1 hrun Ha hnone M5 B9
 go_enter Tryz.func196,Tryz.ntmps196
 go_wp2_with (at_builtin;refine iH _ rfl (.tmp 20) (.tmp 22) rfl _ _ cC [k] (by rfl) (by rfl) HI1.out UX.out (by simp;omega) ?_;intro v' w2 kN hg2 hl2;obtain ⟨WM,iB⟩:=EQ HN.out hk HH.out HM.out HF.out HM1.out tq.out kN hg2 hl2;have p0:=ay WM;have pf:w2.frozen? ⟨pl,0,none⟩=false:=(by simp[World.frozen?,WM]);obtain ⟨ao2,qK,rfl⟩:=kN.form;rw[List.length_append,List.length_cons,List.length_nil]at iB;have HP:=aa iB;clear kN hg2 hl2 WM iB)
 go_ret;exact HP.out
theorem ES(M pl mv:Nat)(pv:Value)(cC:List Nat)(k:Nat)(w:World)(hN:kw w M pl pv cC)(QV:w.heap[mv]?=some (.cells #[.map (some M)] 318 (0,0)))(hk:k<=1000000000000)(hl:cC.length<=1000000):
  Calls Tryz.prog 196 #[.int .i64 k,.pointer (some ⟨mv,0,none⟩),.pointer (some ⟨pl,0,none⟩)] w (pN M pl pv cC k w):=by
 by_cases h:k∈cC
 ·obtain ⟨n,hn⟩:=List.mem_iff_getElem?.1 h;exact EP M pl mv pv cC k n w hN QV hk hn
 ·exact ER M pl mv pv cC k w hN QV hk hl h
set_option maxHeartbeats 1000000 in
theorem ri(M pl:Nat)(pv:Value)(cC:List Nat)(k n:Nat)(w:World)(hN:kw w M pl pv cC)(h:cC[n]?=some k):
  Calls Tryz.prog 197 #[.int .i64 n,.pointer (some ⟨pl,0,none⟩)] w λe w'=>e=.returned (.int .i64 k)/\w'=w:=by
 have c1:=ay hN.var;obtain ⟨g,cap,rfl,hc⟩:=hN.row.at h;have hlt:=aw h;clear hN h;go_enter Tryz.func197,Tryz.ntmps197;go_wp2;go_ret;exact ⟨rfl,rfl⟩
set_option maxHeartbeats 1000000 in
theorem QY(x k idx:Nat)(w:World)(hx0:((x:Int)==0)=false)
  (key:IntKind.u64.wrap (bits BinOp.and IntKind.u64 (x:Int) (IntKind.u64.wrap (-(x:Int)))*285870213051353865) / 288230376151711744=(idx:Int))
  (hi:idx<64) (hk:k<64) (hcell:w.cell? ⟨1,idx,none⟩=some (.int .u8 k)):
  Calls Tryz.prog 200 #[.int .u64 x] w λe w'=>e=.returned (.int .i64 k)/\w'=w:=by
 go_enter Tryz.func200,Tryz.ntmps200;go_wp2_with (simp only[key]);go_ret;exact ⟨rfl,rfl⟩
def kK(w:World):Prop:=∀j,j<64->w.cell? ⟨1,j,none⟩=some (.int .u8 (Lib.deBruijn64tab.getD j 0))
theorem kK.keep(h:kK w)(hk:w'.heap[1]?=w.heap[1]?):kK w':=λj hj=>(World.cell?_of_block (w:=w) hk).trans (h j hj)
theorem U4(x a:Nat)(hx:x<18446744073709551616)(hx0:x≠0)(h:x &&& (18446744073709551616 - x)=a):
  IntKind.u64.wrap (bits BinOp.and IntKind.u64 (x:Int) (IntKind.u64.wrap (-(x:Int)))*285870213051353865) / 288230376151711744=((a*285870213051353865 % 18446744073709551616 / 288230376151711744:Nat):Int):=by
 have gR:IntKind.u64.wrap (-(x:Int))=((18446744073709551616 - x:Nat):Int):=by rw[IntKind.wrap_u64];omega
 rw[gR,bits_and_u64_nat x _ hx (by omega),h,IntKind.wrap_u64];omega
theorem U5(x:Nat)(w:World)(hx:x<18446744073709551616)(hx0:x≠0)(hT:kK w):
  Calls Tryz.prog 200 #[.int .u64 x] w λe w'=>e=.returned (.int .i64 (Lib.ctz 64 x))/\w'=w:=by
 obtain ⟨h1,h2⟩:=Lib.lowest_bit 64 x hx0 hx;obtain ⟨h3,h4⟩:=Lib.deBruijn64_at _ h2;have hc:=hT _ h3;rw[h4]at hc;exact QY x (Lib.ctz 64 x) _ w (by rw[beq_eq_false_iff_ne];omega) (U4 x _ hx hx0 h1) h3 h2 hc
theorem Hb(x:Nat)(hx:x<18446744073709551616)(hx0:x≠0):Lib.ctz 64 x<64/\x.testBit (Lib.ctz 64 x)=true/\(∀i,(x &&& (x - 1)).testBit i=(x.testBit i&&decide (i≠Lib.ctz 64 x)))/\x &&& (x - 1)<x:=by
 obtain ⟨m,hm,hk⟩:=Lib.ctzFrom_spec 64 x (by omega) (by omega);have e:Lib.ctz 64 x=Lib.ctzFrom 64 x:=by simp[Lib.ctz,hx0]
 rw[e];generalize Lib.ctzFrom 64 x=k at hm hk;have hp:0<2 ^ k:=Nat.two_pow_pos k;have h1:x=2 ^ k*(2*m+1)+0:=by omega
 have h2:x - 1=2 ^ k*(2*m)+(2 ^ k - 1):=by rw[hm,Nat.mul_add,Nat.mul_one];omega
 have b1:∀i,x.testBit i=if i<k then false else (2*m+1).testBit (i - k):=λi=>by rw[h1,Nat.testBit_two_pow_mul_add _ hp];simp
 have b2:∀i,(x - 1).testBit i=if i<k then true else (2*m).testBit (i - k):=λi=>by rw[h2,Nat.testBit_two_pow_mul_add _ (by omega),Nat.testBit_two_pow_sub_one];by_cases h:i<k<;>simp[h]
 refine ⟨hk,by rw[b1];simp[Nat.testBit_zero],λi=>?_,?_⟩
 ·rw[Nat.testBit_and,b1,b2];by_cases h:i<k
  ·simp[h]
  ·by_cases h':i=k
   ·subst h';simp[Nat.testBit_zero]
   ·obtain ⟨j,rfl⟩:∃j,i=k+(j+1):=⟨i - k - 1,by omega⟩;have e3:k+(j+1) - k=j+1:=by omega
    rw[if_neg h,if_neg h,e3,Nat.testBit_succ,Nat.testBit_succ];have d1:(2*m+1) / 2=m:=by omega
    have d2:2*m / 2=m:=by omega
    rw[d1,d2];simp
 ·have:x &&& (x - 1)<=x - 1:=Nat.and_le_right;omega
structure Rd where
 S:Nat
 sv:Nat
 M:Nat
 mv:Nat
 pl:Nat
 nv:Nat
 xv:Nat
 ev:Nat
 kk:Nat
 wk:Nat
 K:Nat
 kv:Nat
 av:Nat
structure PU(w:World)(ρ:Rd):Prop where
 sv:w.heap[ρ.sv]?=some (.cells #[.pointer (some ⟨ρ.S,0,none⟩)] 295 (0,0))
 mv:w.heap[ρ.mv]?=some (.cells #[.map (some ρ.M)] 318 (0,0))
 nv:w.heap[ρ.nv]?=some (.cells #[.func (.func 196) #[] #[.pointer (some ⟨ρ.mv,0,none⟩),.pointer (some ⟨ρ.pl,0,none⟩)]] 284 (0,0))
 xv:w.heap[ρ.xv]?=some (.cells #[.func (.func 197) #[] #[.pointer (some ⟨ρ.pl,0,none⟩)]] 284 (0,0))
 kk:w.heap[ρ.kk]?=some (.cells #[.func (.func 175) #[] #[.pointer (some ⟨ρ.nv,0,none⟩),.pointer (some ⟨ρ.sv,0,none⟩),.pointer (some ⟨ρ.ev,0,none⟩)]] 301 (0,0))
 wk:w.heap[ρ.wk]?=some (.cells #[.func (.func 177) #[] #[.pointer (some ⟨ρ.sv,0,none⟩),.pointer (some ⟨ρ.xv,0,none⟩),.pointer (some ⟨ρ.kk,0,none⟩)]] 302 (0,0))
 kv:w.heap[ρ.kv]?=some (.cells #[.map (some ρ.K)] 319 (0,0))
 av:w.heap[ρ.av]?=some (.cells #[.func (.func 198) #[] #[.pointer (some ⟨ρ.kv,0,none⟩),.pointer (some ⟨ρ.wk,0,none⟩)]] 302 (0,0))
variable {ρ:Rd}
theorem PU.fx(h:PU w ρ)(hF:Fx X w w'):PU w' ρ:=
 ⟨hF.stay _ _ _ (by decide) h.sv,hF.stay _ _ _ (by decide) h.mv,hF.stay _ _ _ (by decide) h.nv,hF.stay _ _ _ (by decide) h.xv,hF.stay _ _ _ (by decide) h.kk,hF.stay _ _ _ (by decide) h.wk,hF.stay _ _ _ (by decide) h.kv,hF.stay _ _ _ (by decide) h.av⟩
def plus(X:Nat->Prop)(ρ:Rd):Nat->Prop:=λk=>X k∨k=ρ.M∨k=ρ.K
structure mP(w:World)(X:Nat->Prop)(ρ:Rd)(n0:Nat)(root:aN)(ns:List (Nd Value))(ts:List D)(cC:List Nat)(en:Nat):Prop where
 shelf:Shelf w (plus X ρ) ρ.S n0 ns (gy root)
 uW:∃pv,kw w ρ.M ρ.pl pv cC/\∀k,pv.ownBlock=some k->¬X k
 ev:w.heap[ρ.ev]?=some (.cells #[.int .u64 en] 188 (0,0))
 nX:¬X ρ.M/\¬X ρ.pl/\¬X ρ.ev
 jL:F2 (aU (aF w) n0 ns) ts cC
 met:∀t∈ts,t∈met root
 bits:∀n,en.testBit n=true<->∃t,ts[n]?=some t/\t.re.aq=true
 sz:root.sz<=200
 leaves:root.leaves<=60
theorem mP.few(h:mP w X ρ n0 root ns ts cC en):cC.length<=61:=by
 obtain ⟨pv,hN,_⟩:=h.uW;have h1:=MD (R:=λd k=>aU (aF w) n0 ns d k) (λd b b' r r'=>r.func h.shelf.YV r') (P:=aO.met root) hN.nodup (λk hk=>by obtain ⟨i,hi⟩:=List.mem_iff_getElem?.1 hk;obtain ⟨t,ht,hr⟩:=h.jL.get hi;exact ⟨t,h.met t (List.mem_of_getElem? ht),hr⟩);rw[uq]at h1;have:=h.leaves;omega
theorem mP.Te(h:mP w X ρ n0 root ns ts cC en):en<18446744073709551616:=by
 have h1:=h.few;rw[<-h.jL.length]at h1;refine Nat.lt_pow_two_of_testBit (n:=64) en λi hi=>?_
 cases hb:en.testBit i with
 | false=>rfl
 | true=>
  obtain ⟨t,ht,_⟩:=(h.bits i).1 hb;have:=aw ht;omega
end Go.Proofs.YtgncgdkpkkdaeaaGreatDoor
