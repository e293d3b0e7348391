import Derived.Test.YtgncgdkpkkdaeaaGreatDoorAE
import Derived.Lib.TrailingZeros
set_option maxHeartbeats 4000000
namespace Go.Proofs.YtgncgdkpkkdaeaaGreatDoor
open Go.RowKit bu Go.Maps
variable {root:aP} {a:Act} {ops:Array Oper} {ms ns:List (Nd Value)} {Q ts:List D} {js ZN cM:List Nat} {S en k n0:Nat} {X:Nat->Prop} {o:Oper} {v v2:Value} {w w' w2 w4:World}
theorem rZ{K:Act->World->Prop}{Q:Exit->Act->World->Prop}{E:Prop}(hg:o.guard=none)(s x:Operand)
  (hop:o.op=Op.call { callee:=Callee.builtin Builtin.append,args:=#[s,x],argTypes:=#[57,57] }) (v u:Value) (xs ys:List Nat) (hs:a.eval s=v) (hx:a.eval x=u) (hv:Ints w 0 v xs) (hu:Ints w 0 u ys) (hn:xs.length+ys.length<=1000000000000)
  (hK:∀v' w',Ints w' 0 v' (xs++ys)->w.grownBy w' v.ownBlock->(v'.ownBlock=v.ownBlock∨v'.ownBlock=some w.heap.size)->K (a.put o.dst v') w'):
  if Region.wanted o (yielded ops a.tmps)=true then Oper.wp Tryz.prog o a w K Q else E:=by
 have hw:Region.wanted o (yielded ops a.tmps)=true:=by simp[Region.wanted,hg]
 rw[if_pos hw];obtain ⟨v',w',hr,r2,r3,r5⟩:=lG w o.type v u xs ys hv hu hn;unfold Oper.wp execOp;simp only[hop,resolve,invoke,builtin,Sem.run_bind,Sem.run_pure,Result.andThen_ok,List.map_toArray,List.map_cons,List.map_nil,hs,hx,hr];exact hK v' w' r2 r3 r5
theorem ja(w:World){rest:List Oper}{Q:Exit->Act->World->Prop}(hg:o.guard=none)(s x:Operand)
  (hop:o.op=Op.call { callee:=Callee.builtin Builtin.append,args:=#[s,x],argTypes:=#[57,57] }) (v u:Value) (xs ys:List Nat) (hs:a.eval s=v) (hx:a.eval x=u) (hv:Ints w 0 v xs) (hu:Ints w 0 u ys) (hn:xs.length+ys.length<=1000000000000)
  (hK:∀v' w',Ints w' 0 v' (xs++ys)->w.grownBy w' v.ownBlock->(v'.ownBlock=v.ownBlock∨v'.ownBlock=some w.heap.size)->wpList Tryz.prog ops Q rest (a.put o.dst v') w'):wpList Tryz.prog ops Q (o::rest) a w:=by
 refine wpList_plain hg λK hK'=>?_
 obtain ⟨v',w',hr,r2,r3,r5⟩:=lG w o.type v u xs ys hv hu hn;unfold Oper.wp execOp;simp only[hop,resolve,invoke,builtin,Sem.run_bind,Sem.run_pure,Result.andThen_ok,List.map_toArray,List.map_cons,List.map_nil,hs,hx,hr];exact hK' _ _ (hK v' w' r2 r3 r5)
theorem oI{w5:World}{v5:Value}(hX:iG X w)(hF:Fx X w w4)(hS:Shelf w4 X S n0 (ns++ms) Q)(hv:Row w4 X v2 ZN)(hI:Ints w5 0 v5 js)(hg:w4.grownBy w5 v2.ownBlock)
  (hloc:v5.ownBlock=v2.ownBlock∨v5.ownBlock=some w4.heap.size) (h2:F2 (aU (aH w4) n0 (ns++ms)) ts js):bO X S n0 ns Q ts w (.returned v5) w5:=by
 have yt:∀k,v2.ownBlock=some k->∀c t fz,w4.heap[k]?=some (.cells c t fz)->t=3:=λk hk c t fz h=>by obtain ⟨c',hc⟩:=hv.1.block hk;rw[hc]at h;cases h;rfl
 have CB:Fx X w4 w5:=(Fx.refl X w4).grown hg (hX.fx hF) hv.2 (λk hk c t fz h=>by rw[yt k hk c t fz h];rfl);have hst:=CB.dg;refine ⟨v5,js,ms,rfl,hF.trans CB,?_,⟨hI,?_⟩,h2.mono λd k h=>aU.world hst h⟩
 ·refine hS.keep hst (λk o hk ho hc=>?_) (λk hk=>.inl hk);rw[hg.block k (ae ho) (λe=>by obtain ⟨c',hc'⟩:=hv.1.block e.symm;rw[ho]at hc';cases hc';rcases hc _ _ _ rfl with h|h<;>cases h)];exact ho
 ·intro k hk RS;rcases hloc with e|e
  ·rw[e]at hk;exact hv.2 k hk RS
  ·rw[e]at hk;have h1:=hX k RS;have h2:=hF.size;have h3:w4.heap.size=k:=Option.some.inj hk;omega
theorem oJ(h:Shelf w X S n0 ns Q)(hv:Ints w 0 v js):Shelf w (dH X v) S n0 ns Q:=
 h.keep (bN.refl w) (λ_ _ _ ho _=>ho) (λk hk=>by
  rcases hk with hk|hk
  ·exact .inl hk
  ·refine .inr λo ho=>?_
   obtain ⟨c,hc⟩:=hv.block hk;rw[hc]at ho;cases ho;exact ⟨_,_,_,rfl,by decide,by decide⟩)
theorem second{us:List D}{v4:Value}(hF:Fx X w w2)(hv:Row w2 X v2 ZN)(h2:F2 (aU (aH w2) n0 (ns++ms)) ts ZN)(hp:bO (dH X v2) S n0 (ns++ms) Q us w2 (.returned v4) w4):
  ∃NW ks,Fx X w w4/\Shelf w4 X S n0 (ns++(ms++ks)) Q/\Row w4 X v2 ZN/\Ints w4 0 v4 NW/\F2 (aU (aH w4) n0 (ns++(ms++ks))) (ts++us) (ZN++NW)/\NW.length=us.length:=by
 obtain ⟨v,NW,ks,e,nE,hS4,QF,hf4⟩:=hp;cases e;refine ⟨NW,ks,hF.trans (nE.sub λ_ h=>.inl h),?_,⟨hv.1.iY λk hk=>nE.keep k (.inr hk),hv.2⟩,QF.1,?_,hf4.length.symm⟩
 ·rw[<-fP];exact hS4.keep (bN.refl _) (λ_ _ _ h _=>h) (λ_ h=>.inl (.inl h))
 ·rw[<-fP];exact (h2.mono λd k h=>(aU.world nE.dg h).append).append hf4
theorem uf(b:UInt8)(k l r:Nat)(hv:Value)(e:Bool)(d d':D)(hd:RV b d)(Vh:RV b d')(X:Nat->Prop)(S n0:Nat)(ns:List (Nd Value))(Q:List D)(w:World)(hX:iG X w)(hS:Shelf w X S n0 ns Q)
  (hn:ns[k]?=some ⟨3,hv,l,r,e⟩) (hR:aU (aH w) n0 ns d l) (hR':aU (aH w) n0 ns d' r) (Aq:∀t∈eL d,t∈Q) (L5:∀t∈eL d',t∈Q) (hsz:d.sz<=1000000) (hsz':d'.sz<=1000000):
  Calls Tryz.prog 178 #[.pointer (some ⟨S,0,none⟩),.int .i64 k,.int .u8 b.toNat] w (bO X S n0 ns Q (pd b d++pd b d') w):=by
 obtain ⟨g,cap,c0,m0,m1,m2,m3,m4,nG⟩:=hS.at hn;have mG:=az hn;have hlen:=hS.length;have hst:=eW nG;have HX:=aa hX;have hb:Below w.heap.size w (w.alloc (.cells #[.int .i64 3,hv,.int .i64 l,.int .i64 r,.bool e] 292)):=cq _ _
 have pN:=aa (iZ hS (.cells #[.int .i64 3,hv,.int .i64 l,.int .i64 r,.bool e] 292));have rz:=aa (mK hX (.cells #[.int .i64 3,hv,.int .i64 l,.int .i64 r,.bool e] 292));have HB:=aa hb;have HE:=aa (ag w (.cells #[.int .i64 3,hv,.int .i64 l,.int .i64 r,.bool e] 292))
 have HD:=aa (hd _ S n0 ns Q l (w.alloc (.cells #[.int .i64 3,hv,.int .i64 l,.int .i64 r,.bool e] 292)).drew rz.out pN.out.drew (aU.world (bN.ay hb.drew) hR) Aq hsz)
 have HD':=aa (λ(w2:World) (v2:Value) (js:List Nat) (ms:List (Nd Value)) (hF2:Fx (jO X w.heap.size) (w.alloc (.cells #[.int .i64 3,hv,.int .i64 l,.int .i64 r,.bool e] 292)) w2) (kG:Shelf w2 (jO X w.heap.size) S n0 (ns++ms) Q) (lF:Row w2 (jO X w.heap.size) v2 js)=>
  Vh (dH (jO X w.heap.size) v2) S n0 (ns++ms) Q r w2 ((rz.out.fx hF2).dH lF.1) (oJ kG lF.1) ((aU.world ((bN.ay hb).trans hF2.dg) hR').append) L5 hsz')
 have HFB:=aa (Fx.ay hX hb);clear hX hS hn hR hR' Aq L5 nG hb;go_enter Tryz.func178,Tryz.ntmps178;go_wp2_with fail
 go_region_law (first
  | (go_simp;go_at_call_of 178 (Value.int IntKind.i64 (l:Int));refine HD.out.mono ?_;rintro e2 w2 ⟨v2,js,ms,rfl,hF2,kG,lF,ez⟩;have eU:=aa hF2.iz;have yK:=aa kG;have Ai:=aa lF;have jV:=aa ez;clear hF2 kG lF ez;obtain ⟨q2,q3⟩:=uw HE.out eU.out)
  | (go_simp;go_at_call_of 178 (Value.int IntKind.i64 (r:Int));refine (HD'.out w2 v2 js ms eU.out yK.out Ai.out).mono ?_;rintro e4 w4 hp;obtain ⟨v4,-,-,rfl,-⟩:=id hp;obtain ⟨NW,ks,QG,kB,ZO,yz,ZP,hl4⟩:=second eU.out Ai.out jV.out hp;have sY:js.length+NW.length<=1000000000000:=(by have h1:=jV.out.length;have h2:=fS b d;have h3:=fS b d';omega);have XU:=aa QG;have kC:=aa kB;have ZQ:=aa ZO;have HD4:=aa yz;have XJ:=aa ZP;clear hp QG kB ZO yz ZP hl4)
  | (refine rZ rfl (.tmp 59) (.tmp 64) rfl v2 v4 js NW (by rfl) (by rfl) ZQ.out.1 HD4.out sY ?_;intro v5 w5 ZR tR QY;have aq:=aa (oI rz.out (XU.out) kC.out ZQ.out ZR tR QY XJ.out);clear ZR tR QY))
 all_goals
  have hend:bO X S n0 ns Q (pd b d++pd b d') w (.returned v5) w5:=by obtain ⟨_,js5,ms5,e5,f5,s5,r5,g5⟩:=aq.out;cases e5;exact ⟨_,js5,ms5,rfl,HFB.out.trans (f5.sub λ_ h=>.inl h),s5.less,r5.less,g5⟩
  have HF:=aa hend;clear hend;go_wp2_with fail;go_ret;exact HF.out
theorem Shelf.flag(h:Shelf w X S n0 ns Q){d:D}(hk:aU (aH w) n0 ns d k):
  ∃g len cap,w.cell? ⟨S,0,none⟩=some (.slice (some ⟨g,0,none⟩) len cap)/\k<len/\len<=100000000200/\w.cell? ⟨g,k*5+4,none⟩=some (.bool d.re.au):=by
 obtain ⟨nd,h1,h2⟩:=hk.empty;obtain ⟨g,cap,c0,-,-,-,-,c4,-⟩:=h.at h1;exact ⟨g,_,cap,c0,az h1,h.length,by rw[<-h2];exact c4⟩
theorem lH(b:UInt8)(k l:Nat)(hv:Value)(r:Nat)(e:Bool)(d:D)(a:aP)(hd:RV b d)(Vh:RV b (.base a))(X:Nat->Prop)(S n0:Nat)(ns:List (Nd Value))(Q:List D)(w:World)(hX:iG X w)(hS:Shelf w X S n0 ns Q)
  (hn:ns[k]?=some ⟨2,hv,l,r,e⟩) (L4:a.ix=r) (hR:aU (aH w) n0 ns d l) (ha:a.lt n0) (Ij:ei (aH w) ns a) (Aq:∀t∈eL d,t∈Q) (L5:∀x∈pd b d,cQ x a∈Q) (hQ3:∀t∈dM a,t∈Q) (hsz:d.sz<=1000000) (hsz':a.sz<=1000000)
  (ts:List D) (L6:ts=(pd b d).map (cQ · a)++(if d.re.au then kM b a else [])):
  Calls Tryz.prog 178 #[.pointer (some ⟨S,0,none⟩),.int .i64 k,.int .u8 b.toNat] w (bO X S n0 ns Q ts w):=by
 obtain ⟨g,cap,c0,m0,m1,m2,m3,m4,nG⟩:=hS.at hn;have mG:=az hn;have hlen:=hS.length;have hst:=eW nG;subst L4;have VQ:=aa L6;have HX:=aa hX;obtain ⟨r,hr⟩:∃r,r=a.ix:=⟨_,rfl⟩;rw[<-hr]at m3;have hb:Below w.heap.size w (w.alloc (.cells #[.int .i64 2,hv,.int .i64 l,.int .i64 r,.bool e] 292)):=cq _ _
 have pN:=aa (iZ hS (.cells #[.int .i64 2,hv,.int .i64 l,.int .i64 r,.bool e] 292));have rz:=aa (mK hX (.cells #[.int .i64 2,hv,.int .i64 l,.int .i64 r,.bool e] 292));have HE:=aa (ag w (.cells #[.int .i64 2,hv,.int .i64 l,.int .i64 r,.bool e] 292))
 have HD:=aa (hd _ S n0 ns Q l (w.alloc (.cells #[.int .i64 2,hv,.int .i64 l,.int .i64 r,.bool e] 292)).drew rz.out pN.out.drew (aU.world (bN.ay hb.drew) hR) Aq hsz)
 have HJ:=aa (λ(w2:World) (v2:Value) (js:List Nat) (ms:List (Nd Value)) (hF2:Fx (jO X w.heap.size) (w.alloc (.cells #[.int .i64 2,hv,.int .i64 l,.int .i64 r,.bool e] 292)) w2) (kG:Shelf w2 (jO X w.heap.size) S n0 (ns++ms) Q) (lF:Row w2 (jO X w.heap.size) v2 js) (ez:F2 (aU (aH w2) n0 (ns++ms)) (pd b d) js)=>by
  have rE:js.length<=1000000000:=by have h1:=ez.length;have h2:=fS b d;omega
  have kg:=(bN.ay hb).trans hF2.dg;have:=kY _ S n0 (ns++ms) Q (pd b d) a v2 js w2 (rz.out.fx hF2) kG lF.1 ez ha ((Ij.world kg).append) L5 rE;rw[<-hr]at this;exact this)
 have HL:=aa (λ(w3:World) (ms:List (Nd Value)) (dJ:Fx (jO X w.heap.size) (w.alloc (.cells #[.int .i64 2,hv,.int .i64 l,.int .i64 r,.bool e] 292)) w3)=>(aU.world ((bN.ay hb).trans dJ.dg) hR).append (ms:=ms))
 have HD':=aa (λ(w3:World) (v3:Value) (js:List Nat) (ms:List (Nd Value)) (dJ:Fx (jO X w.heap.size) (w.alloc (.cells #[.int .i64 2,hv,.int .i64 l,.int .i64 r,.bool e] 292)) w3) (oz:Shelf w3 (jO X w.heap.size) S n0 (ns++ms) Q) (xt:Row w3 (jO X w.heap.size) v3 js)=>
  Vh (dH (jO X w.heap.size) v3) S n0 (ns++ms) Q r w3 ((rz.out.fx dJ).dH xt.1) (oJ oz xt.1) (show aU _ _ _ (.base a) r from ⟨hr,ha,(Ij.world ((bN.ay hb).trans dJ.dg)).append⟩) hQ3 hsz')
 have HFB:=aa (Fx.ay hX hb);clear hX hS hn hR Ij Aq L5 hQ3 nG hb ha hr L6;go_enter Tryz.func178,Tryz.ntmps178;go_wp2_with fail
 go_region_with (first
  | (go_at_call 178;refine HD.out.mono ?_;rintro e2 w2 ⟨v2,js,ms,rfl,hF2,kG,lF,ez⟩;have eU:=aa hF2.iz;have yK:=aa kG;have Ai:=aa lF;have jV:=aa ez;clear hF2 kG lF ez;obtain ⟨q2,q3⟩:=uw HE.out eU.out)
  | (go_at_call 199;refine (HJ.out w2 v2 js ms eU.out yK.out Ai.out jV.out).mono ?_;rintro e3 w3 ⟨v3,QD,T3,rfl,dJ,oz,xt,yL⟩;have ir:=aa (eU.out.trans dJ);have Rx:=aa oz;have Nt:=aa xt;have QE:=aa yL;clear dJ oz xt yL))
 all_goals
  rw[fP]at Rx QE;obtain ⟨p2,p3⟩:=uw HE.out ir.out;obtain ⟨g3,adv,FH,f0,f1,f2,f4⟩:=Rx.out.flag (HL.out w3 (ms++T3) ir.out);clear q2 q3 m0 m1 m2 m3 m4 c0
  cases fO:d.re.au with
  | false=>
   rw[fO]at f4;have aq:=aa (show ∀nq,bO X S n0 ns Q ts w (.returned v3) (w3.drewN nq) from λnq=>by rw[VQ.out,fO];simp only[Bool.false_eq_true,if_false,List.append_nil];exact ⟨v3,QD,ms++T3,rfl,(HFB.out.trans (ir.out.sub λ_ h=>.inl h)).drewN nq,Rx.out.less.drewN nq,Nt.out.less,QE.out.mono λd k h=>aU.world (w:=w3) (w':=w3.drewN nq) (λ_ _ _ _ h=>h) h⟩)
   clear fO;go_wp2_with fail;go_quiet (fail);go_wp2_with fail;go_ret;exact aq.out nq
  | true=>
   rw[fO]at f4;have abY:=aa (show ts=(pd b d).map (cQ · a)++pd b (.base a) from by rw[VQ.out,fO];rfl);have HJ4:=aa (show ∀nq,F2 (aU (aH (w3.drewN nq)) n0 (ns++(ms++T3))) ((pd b d).map (cQ · a)) QD from λnq=>QE.out.mono λd k h=>aU.world (w:=w3) (w':=w3.drewN nq) (λ_ _ _ _ h=>h) h)
   have T4:=aa (show ∀nq,Row (w3.drewN nq) (jO X w.heap.size) v3 QD from λnq=>Nt.out);clear fO;go_wp2_with fail;go_quiet (fail);go_wp2_with fail;refine (HD'.out (w3.drewN nq) v3 QD (ms++T3) (ir.out.drewN nq) (Rx.out.drewN nq) (T4.out nq)).mono ?_;rintro e4 w4 hp;obtain ⟨v4,-,-,rfl,-⟩:=id hp
   obtain ⟨NW,ks,QG,kB,ZO,yz,ZP,hl4⟩:=second (ir.out.drewN nq) (T4.out nq) (HJ4.out nq) hp;have sY:QD.length+NW.length<=1000000000000:=by have h1:=QE.out.length;have h2:=fS b d;have h3:=fS b (.base a);simp only[fy]at h1;simp only[D.sz]at h3;omega
   have XU:=aa QG;have kC:=aa kB;have ZQ:=aa ZO;have HD4:=aa yz;have XJ:=aa ZP;clear hp QG kB ZO yz ZP hl4 f0 f1 f2 f4 p2 p3
   go_wp2_with (at_builtin;refine ja w4 rfl (.tmp 45) (.tmp 50) rfl v3 v4 QD NW (by rfl) (by rfl) ZQ.out.1 HD4.out sY ?_;intro v5 w5 ZR tR QY;have aq:=aa (oI rz.out (XU.out) kC.out ZQ.out ZR tR QY XJ.out);clear ZR tR QY)
   have hend:bO X S n0 ns Q ts w (.returned v5) w5:=by obtain ⟨_,js5,ms5,e5,f5,s5,r5,g5⟩:=aq.out;cases e5;rw[abY.out];exact ⟨_,js5,ms5,rfl,HFB.out.trans (f5.sub λ_ h=>.inl h),s5.less,r5.less,g5⟩
   have HF:=aa hend;clear hend;go_wp2_with fail;go_ret;exact HF.out
theorem tj(b:UInt8)(a:aP):RV b (.base a):=by
 induction a with
 | dE=>
  intro X S n0 ns Q k w hX hS hR hQ hsz;obtain ⟨rfl,hl,h,hn⟩:=hR;exact ue b _ _ _ _ _ X S n0 ns Q w hX hS hn
 | dr i c=>
  intro X S n0 ns Q k w hX hS hR hQ hsz;obtain ⟨rfl,hl,_,h,hn,hc⟩:=hR;exact rX b _ _ _ _ _ c X S n0 ns Q w hX hS hn hc
 | seq i x y uY uZ=>
  intro X S n0 ns Q k w hX hS hR hQ hsz;obtain ⟨rfl,⟨hl,hlx,VJ⟩,_,⟨h,hn⟩,hx,hy⟩:=hR;simp only[D.sz,aP.sz]at hsz;simp only[eL,dM,List.mem_append]at hQ
  exact lH b _ _ _ _ _ (.base x) y uY uZ X S n0 ns Q w hX hS hn rfl ⟨rfl,hlx,hx⟩ VJ hy (λt ht=>hQ t (.inl (.inl ht))) (qw (d:=.base x) λt ht=>hQ t (.inl (.inr ht))) (λt ht=>hQ t (.inr ht)) (by simp only[D.sz];omega) (by omega) _ rfl
 | alt i x y uY uZ=>
  intro X S n0 ns Q k w hX hS hR hQ hsz;obtain ⟨rfl,⟨hl,hlx,VJ⟩,_,⟨h,hn⟩,hx,hy⟩:=hR;simp only[D.sz,aP.sz]at hsz;simp only[eL,dM,List.mem_append]at hQ;exact uf b _ _ _ _ _ (.base x) (.base y) uY uZ X S n0 ns Q w hX hS hn ⟨rfl,hlx,hx⟩ ⟨rfl,VJ,hy⟩ (λt ht=>hQ t (.inl ht)) (λt ht=>hQ t (.inr ht)) (by simp only[D.sz];omega) (by simp only[D.sz];omega)
 | star i x ih=>
  intro X S n0 ns Q k w hX hS hR hQ hsz;obtain ⟨rfl,hl,hr⟩:=hR;obtain ⟨_,⟨h,hn⟩,hx⟩:=id hr;simp only[D.sz,aP.sz]at hsz;simp only[eL,dM,List.mem_append]at hQ;exact rW b _ _ _ _ _ (.base x) (.star _ x) ih X S n0 ns Q w hX hS hn rfl ⟨rfl,hl.2,hx⟩ hl hr (λt ht=>hQ t (.inl ht)) (qw (d:=.base x) λt ht=>hQ t (.inr ht)) (by simp only[D.sz];omega)
 | plus i j x ih=>
  intro X S n0 ns Q k w hX hS hR hQ hsz;obtain ⟨rfl,⟨hl,UT,hlx⟩,_,hj0,⟨h,hn⟩,hj,hx⟩:=hR;simp only[D.sz,aP.sz]at hsz;simp only[eL,dM,List.mem_append]at hQ
  exact rY b _ _ _ _ _ (.base x) (.star j x) ih X S n0 ns Q w hX hS hn rfl ⟨rfl,hlx,hx⟩ ⟨UT,hlx⟩ ⟨hj0,hj,hx⟩ (λt ht=>hQ t (.inl ht)) (qw (d:=.base x) λt ht=>hQ t (.inr ht)) (by simp only[D.sz];omega)
 | fB i x ih=>
  intro X S n0 ns Q k w hX hS hR hQ hsz;obtain ⟨rfl,⟨hl,hlx⟩,_,⟨h,hn⟩,hx⟩:=hR;simp only[D.sz,aP.sz]at hsz;exact ud b _ _ _ _ _ (.base x) ih X S n0 ns Q w hX hS hn ⟨rfl,hlx,hx⟩ hQ (by simp only[D.sz];omega)
theorem FI(b:UInt8)(d:D):RV b d:=by
 induction d with
 | base a=>exact tj b a
 | snoc d a ih=>
  intro X S n0 ns Q k w hX hS hR hQ hsz;obtain ⟨hk,hl,ha,m,hm,hd,h,hn⟩:=hR;simp only[D.sz]at hsz;simp only[eL,List.mem_append]at hQ;exact lH b _ _ _ _ _ d a ih (tj b a) X S n0 ns Q w hX hS hn rfl hd hl ha (λt ht=>hQ t (.inl (.inl ht))) (qw λt ht=>hQ t (.inl (.inr ht))) (λt ht=>hQ t (.inr ht)) (by omega) (by omega) _ rfl
theorem Ints.form{B:Nat}{xs:List Nat}(h:Ints w B v xs):∃ao cap,v=.slice ao xs.length cap:=by
 rcases h.2 with ⟨rfl,h0⟩|⟨g,cap,_,rfl,_⟩
 ·exact ⟨none,0,by rw[h0]⟩
 ·exact ⟨_,cap,rfl⟩
structure vV(C:Nat->Prop)(w w':World):Prop where
 os:w'.os=w.os
 tape:w'.tape=w.tape
 output:w'.output=w.output
 size:w.heap.size<=w'.heap.size
 keep:∀k,k<w.heap.size->¬C k->w'.heap[k]?=w.heap[k]?
theorem vV.refl(C:Nat->Prop)(w:World):vV C w w:=⟨rfl,rfl,rfl,bc _,λ_ _ _=>rfl⟩
structure kZ(w:World)(M pl:Nat)(pv:Value)(cM:List Nat):Prop where
 var:w.heap[pl]?=some (.cells #[pv] 57 (0,0))
 row:Ints w 0 pv cM
 map:∃m f,cu oq 3 .i64 w M m f/\m<=cM.length/\∀k c,f k=some c<->∃n:Nat,c=n/\cM[n]?=some k
 nodup:cM.Nodup
 small:∀k∈cM,k<=1000000000000
def RX(M pl:Nat)(pv:Value):Nat->Prop:=λk=>k=M∨k=pl∨pv.ownBlock=some k
def qx(M pl:Nat)(pv:Value)(cM:List Nat)(k:Nat)(w:World)(e:Ending)(w':World):Prop:=
 ∃(n:Nat) (BL:Value) (fF:List Nat),e=.returned (.int .i64 n)/\vV (RX M pl pv) w w'/\kZ w' M pl BL fF/\fF[n]?=some k/\(fF=cM∨fF=cM++[k])/\(BL.ownBlock=pv.ownBlock∨∃b,BL.ownBlock=some b/\w.heap.size<=b)
theorem Kb{l:List Nat}(hn:l.Nodup){i j x:Nat}(h1:l[i]?=some x)(h2:l[j]?=some x):i=j:=by have l1:=az h1;have l2:=az h2;rw[cB l1]at h1;rw[cB l2]at h2;exact (List.getElem_inj hn).1 ((Option.some.inj h1).trans (Option.some.inj h2).symm)
theorem FJ(M pl mv:Nat)(pv:Value)(cM:List Nat)(k n:Nat)(w:World)(hN:kZ w M pl pv cM)(RY:w.heap[mv]?=some (.cells #[.map (some M)] 318 (0,0)))(hk:k<=1000000000000)(h:cM[n]?=some k):
  Calls Tryz.prog 196 #[.int .i64 k,.pointer (some ⟨mv,0,none⟩),.pointer (some ⟨pl,0,none⟩)] w (qx M pl pv cM k w):=by
 obtain ⟨m,f,hM,hm,hf⟩:=hN.map;have c0:=aA RY;have hlk:=hM.look (t:=318) Tryz.underlying318 Tryz.underlying3 qu k hk;rw[(hf k n).2 ⟨n,rfl,h⟩]at hlk;have xR:(Instr.lookup 318 (.map (some M)) (.int .i64 k) true).run Tryz.prog w=.ok (.tuple #[.int .i64 n,.bool true]) w:=hlk
 have aq:=aa (show qx M pl pv cM k w (.returned (.int .i64 n)) w from ⟨n,pv,cM,rfl,vV.refl _ _,hN,h,.inl rfl,.inl rfl⟩);clear hN hM hm hf hlk RY h;go_enter Tryz.func196,Tryz.ntmps196;go_wp2;go_ret;exact aq.out
theorem FK{M pl m:Nat}{pv BL:Value}{f:Nat->Option Int}{w1:World}{c:Array Value}(hN:kZ w M pl pv cM)(hk:k<=1000000000000)(fD:k∉cM)(hm:m<=cM.length)(hf:∀k c,f k=some c<->∃n:Nat,c=n/\cM[n]?=some k)
  (L8:cu oq 3 .i64 w1 M (m+1) (λy=>if y=k then some (cM.length:Int) else f y)) (hg1:w.grownBy w1 (some M)) (lF:Ints w2 0 BL (cM++[k])) (hg2:(w1.alloc (.cells c 3)).grownBy w2 pv.ownBlock)
  (hl2:BL.ownBlock=pv.ownBlock∨BL.ownBlock=some (w1.alloc (.cells c 3)).heap.size):
  w2.heap[pl]?=some (.cells #[pv] 57 (0,0))/\qx M pl pv cM k w (.returned (.int .i64 cM.length)) (w2.setCell ⟨pl,0,none⟩ BL):=by
 obtain ⟨es,lQ,ID⟩:∃es lQ,w.heap[M]?=some (.map es lQ):=by obtain ⟨_,_,h,_⟩:=hN.map;exact h.obj
 obtain ⟨es1,abZ,VR⟩:=L8.obj;have RZ:pl≠M:=by rintro rfl;rw[hN.var]at ID;cases ID
 have NX:w1.heap[pl]?=some (.cells #[pv] 57 (0,0)):=by rw[hg1.block pl (ae hN.var) (λe=>RZ (Option.some.inj e))];exact hN.var
 have hrow:∀j,pv.ownBlock=some j->∃cur,w.heap[j]?=some (.cells cur 3 (0,0)):=λj hj=>hN.row.block hj
 have NY:w2.heap[pl]?=some (.cells #[pv] 57 (0,0)):=by rw[hg2.block pl (by have:=ae NX;simp;omega) (λe=>by obtain ⟨cur,hc⟩:=hrow pl e.symm;rw[hN.var]at hc;simp at hc)];exact af NX
 have C2:w2.heap[M]?=some (.map es1 abZ):=by rw[hg2.block M (by have:=ae VR;simp;omega) (λe=>by obtain ⟨cur,hc⟩:=hrow M e.symm;rw[ID]at hc;cases hc)];exact af VR
 refine ⟨NY,cM.length,BL,cM++[k],rfl,⟨hg2.os.trans hg1.os,hg2.tape.trans hg1.tape,hg2.output.trans hg1.output,?_,?_⟩,⟨ah w2 pl 0 _ NY,?_,⟨m+1,(λy=>if y=k then some (cM.length:Int) else f y),?_,?_,?_⟩,?_,?_⟩,?_,.inr rfl,?_⟩
 ·have h1:=hg1.size;have h2:=hg2.size;simp[World.setCell]at h2 ⊢;omega
 ·intro j hj hC;have hjM:j≠M:=λe=>hC (.inl e)
  have hjp:j≠pl:=λe=>hC (.inr (.inl e))
  rw[eV _ _ _ _ (by exact hjp),hg2.block j (by have:=hg1.size;simp;omega) (λe=>hC (.inr (.inr e.symm))),Below.heap_alloc _ _ _ (by have:=hg1.size;omega),hg1.block j hj (λe=>hjM (Option.some.inj e))]
 ·refine lF.iY λj hj=>eV _ _ _ _ ?_
  obtain ⟨cur,hc⟩:=lF.block hj;rintro rfl;rw[NY]at hc;simp at hc
 ·refine L8.keep ?_;rw[eV _ _ _ _ (by exact λe=>RZ e.symm),C2,VR]
 ·simp;omega
 ·intro x c;show (if x=k then some (cM.length:Int) else f x)=some c<->_;by_cases e:x=k
  ·subst e;rw[if_pos rfl];constructor
   ·intro h;refine ⟨cM.length,by simpa using h.symm,by simp⟩
   ·rintro ⟨n,rfl,h⟩;rcases ed n cM.length with hl|hl
    ·rw[nz hl]at h;exact absurd (bn h) fD
    ·have:=az h;simp at this;rw[show n=cM.length by omega]
  ·rw[if_neg e,hf];constructor
   ·rintro ⟨n,rfl,h⟩;exact ⟨n,rfl,bU h⟩
   ·rintro ⟨n,rfl,h⟩;rcases ed n cM.length with hl|hl
    ·rw[nz hl]at h;exact ⟨n,rfl,h⟩
    ·have:=az h;simp at this;rw[show n=cM.length by omega]at h;simp at h;exact absurd h.symm e
 ·exact List.nodup_append.2 ⟨hN.nodup,by simp,λa ha b hb=>by simp at hb;subst hb;rintro rfl;exact fD ha⟩
 ·intro x hx;rcases List.mem_append.1 hx with h|h
  ·exact hN.small x h
  ·simp at h;omega
 ·simp
 ·rcases hl2 with e|e
  ·exact .inl e
  ·refine .inr ⟨_,e,?_⟩;have:=hg1.size;simp;omega
theorem FL(M pl mv:Nat)(pv:Value)(cM:List Nat)(k:Nat)(w:World)(hN:kZ w M pl pv cM)(RY:w.heap[mv]?=some (.cells #[.map (some M)] 318 (0,0)))(hk:k<=1000000000000)(hl:cM.length<=1000000)(h:k∉cM):
  Calls Tryz.prog 196 #[.int .i64 k,.pointer (some ⟨mv,0,none⟩),.pointer (some ⟨pl,0,none⟩)] w (qx M pl pv cM k w):=by
 obtain ⟨m,f,hM,hm,hf⟩:=hN.map;have c0:=aA RY;have c1:=aA hN.var;have hlk:=hM.look (t:=318) Tryz.underlying318 Tryz.underlying3 qu k hk
 have hnone:f k=none:=by
  cases R1:f k with
  | none=>rfl
  | some c=>obtain ⟨n,_,h2⟩:=(hf k c).1 R1;exact absurd (bn h2) h
 rw[hnone]at hlk;have xR:(Instr.lookup 318 (.map (some M)) (.int .i64 k) true).run Tryz.prog w=.ok (.tuple #[.int .i64 0,.bool false]) w:=hlk;obtain ⟨w1,hrun,L8,hg1⟩:=hM.store (t:=318) Tryz.underlying318 Tryz.underlying3 (by omega) k hk (cM.length:Int) (mE _ (by omega))
 have IC:(Instr.mapUpdate 318 (.map (some M)) (.int .i64 k) (.int .i64 cM.length)).run Tryz.prog w=.ok () w1:=hrun;obtain ⟨es,lQ,ID⟩:=hM.obj;have RZ:pl≠M:=by rintro rfl;rw[hN.var]at ID;cases ID
 have adw:mv≠M:=by rintro rfl;rw[RY]at ID;cases ID
 have NX:w1.heap[pl]?=some (.cells #[pv] 57 (0,0)):=by rw[hg1.block pl (ae hN.var) (λe=>RZ (Option.some.inj e))];exact hN.var
 have d1:=aA NX;have QH:Ints w1 0 pv cM:=hN.row.iY λj hj=>hg1.block j (ae (hN.row.block hj).choose_spec) (λe=>by obtain ⟨cur,hc⟩:=hN.row.block hj;rw[Option.some.inj e,ID]at hc;cases hc)
 have NV:∃ao cap,pv=.slice ao cM.length cap:=by
  rcases hN.row.2 with ⟨rfl,h0⟩|⟨g,cap,_,rfl,_⟩
  ·exact ⟨none,0,by rw[h0]⟩
  ·exact ⟨_,cap,rfl⟩
 obtain ⟨ao,cap,rfl⟩:=NV
 have CX:Ints (w1.alloc (.cells #[.int .i64 k] 3)) 0 (.slice (some ⟨w1.heap.size,0,none⟩) 1 1) [k]:=
  ⟨by simp,.inr ⟨w1.heap.size,1,#[.int .i64 k],rfl,Nat.zero_le _,ag _ _,bc _,by unfold maxLen;omega,rfl,rfl⟩⟩
 have VN:=aa CX;have HI1:=aa (QH.iY (w':=w1.alloc (.cells #[.int .i64 k] 3)) λj hj=>Below.heap_alloc _ _ _ (ae (QH.block hj).choose_spec));have HN:=aa hN;have HH:=aa h;have HM:=aa hm;have HF:=aa hf;have HM1:=aa L8;have ug:=aa hg1;clear hN hM hm hf hlk RY h QH L8 hg1 hrun ID hnone NX CX
 go_enter Tryz.func196,Tryz.ntmps196
 go_wp2_with (at_builtin;refine ja _ rfl (.tmp 20) (.tmp 22) rfl _ _ cM [k] (by rfl) (by rfl) HI1.out VN.out (by simp;omega) ?_;intro v' w2 lF hg2 hl2;obtain ⟨XK,iU⟩:=FK HN.out hk HH.out HM.out HF.out HM1.out ug.out lF hg2 hl2;have p0:=aA XK;have pf:w2.frozen? ⟨pl,0,none⟩=false:=(by simp[World.frozen?,XK]);obtain ⟨ao2,rI,rfl⟩:=lF.form;rw[dG,fe,List.length_nil]at iU;have HP:=aa iU;clear lF hg2 hl2 XK iU)
 go_ret;exact HP.out
theorem FM(M pl mv:Nat)(pv:Value)(cM:List Nat)(k:Nat)(w:World)(hN:kZ w M pl pv cM)(RY:w.heap[mv]?=some (.cells #[.map (some M)] 318 (0,0)))(hk:k<=1000000000000)(hl:cM.length<=1000000):
  Calls Tryz.prog 196 #[.int .i64 k,.pointer (some ⟨mv,0,none⟩),.pointer (some ⟨pl,0,none⟩)] w (qx M pl pv cM k w):=by
 by_cases h:k∈cM
 ·obtain ⟨n,hn⟩:=List.mem_iff_getElem?.1 h;exact FJ M pl mv pv cM k n w hN RY hk hn
 ·exact FL M pl mv pv cM k w hN RY hk hl h
theorem sk(M pl:Nat)(pv:Value)(cM:List Nat)(k n:Nat)(w:World)(hN:kZ w M pl pv cM)(h:cM[n]?=some k):
  Calls Tryz.prog 197 #[.int .i64 n,.pointer (some ⟨pl,0,none⟩)] w λe w'=>e=.returned (.int .i64 k)/\w'=w:=by
 have c1:=aA hN.var;obtain ⟨g,cap,rfl,hc⟩:=hN.row.at h;have hlt:=az h;clear hN h;go_enter Tryz.func197,Tryz.ntmps197;go_wp2;go_ret;exact ⟨rfl,rfl⟩
theorem R2(x k idx:Nat)(w:World)(hx0:((x:Int)==0)=false)
  (key:IntKind.u64.wrap (bits BinOp.and IntKind.u64 (x:Int) (IntKind.u64.wrap (-(x:Int)))*285870213051353865) / 288230376151711744=(idx:Int))
  (hi:idx<64) (hk:k<64) (hcell:w.cell? ⟨1,idx,none⟩=some (.int .u8 k)):
  Calls Tryz.prog 200 #[.int .u64 x] w λe w'=>e=.returned (.int .i64 k)/\w'=w:=by
 go_enter Tryz.func200,Tryz.ntmps200;go_wp2_with (simp only[key]);go_ret;exact ⟨rfl,rfl⟩
def lC(w:World):Prop:=∀j,j<64->w.cell? ⟨1,j,none⟩=some (.int .u8 (Lib.deBruijn64tab.getD j 0))
theorem lC.keep(h:lC w)(hk:w'.heap[1]?=w.heap[1]?):lC w':=λj hj=>(World.cell?_of_block (w:=w) hk).trans (h j hj)
theorem VS(x a:Nat)(hx:x<18446744073709551616)(hx0:x≠0)(h:x &&& (18446744073709551616 - x)=a):
  IntKind.u64.wrap (bits BinOp.and IntKind.u64 (x:Int) (IntKind.u64.wrap (-(x:Int)))*285870213051353865) / 288230376151711744=((a*285870213051353865 % 18446744073709551616 / 288230376151711744:Nat):Int):=by
 have iw:IntKind.u64.wrap (-(x:Int))=((18446744073709551616 - x:Nat):Int):=by rw[IntKind.wrap_u64];omega
 rw[iw,bits_and_u64_nat x _ hx (by omega),h,IntKind.wrap_u64];omega
theorem VT(x:Nat)(w:World)(hx:x<18446744073709551616)(hx0:x≠0)(hT:lC w):
  Calls Tryz.prog 200 #[.int .u64 x] w λe w'=>e=.returned (.int .i64 (Lib.ctz 64 x))/\w'=w:=by
 obtain ⟨h1,h2⟩:=Lib.lowest_bit 64 x hx0 hx;obtain ⟨h3,h4⟩:=Lib.deBruijn64_at _ h2;have hc:=hT _ h3;rw[h4]at hc;exact R2 x (Lib.ctz 64 x) _ w (by rw[er];omega) (VS x _ hx hx0 h1) h3 h2 hc
theorem IE(x:Nat)(hx:x<18446744073709551616)(hx0:x≠0):Lib.ctz 64 x<64/\x.testBit (Lib.ctz 64 x)=true/\(∀i,(x &&& (x - 1)).testBit i=(x.testBit i&&decide (i≠Lib.ctz 64 x)))/\x &&& (x - 1)<x:=by
 obtain ⟨m,hm,hk⟩:=Lib.ctzFrom_spec 64 x (by omega) (by omega);have e:Lib.ctz 64 x=Lib.ctzFrom 64 x:=by simp[Lib.ctz,hx0]
 rw[e];generalize Lib.ctzFrom 64 x=k at hm hk;have hp:0<2 ^ k:=Nat.two_pow_pos k;have h1:x=2 ^ k*(2*m+1)+0:=by omega
 have h2:x - 1=2 ^ k*(2*m)+(2 ^ k - 1):=by rw[hm,Nat.mul_add,Nat.mul_one];omega
 have b1:∀i,x.testBit i=if i<k then false else (2*m+1).testBit (i - k):=λi=>by rw[h1,Nat.testBit_two_pow_mul_add _ hp];simp
 have b2:∀i,(x - 1).testBit i=if i<k then true else (2*m).testBit (i - k):=λi=>by rw[h2,Nat.testBit_two_pow_mul_add _ (by omega),Nat.testBit_two_pow_sub_one];by_cases h:i<k<;>simp[h]
 refine ⟨hk,by rw[b1];simp[Nat.testBit_zero],λi=>?_,?_⟩
 ·rw[Nat.testBit_and,b1,b2];by_cases h:i<k
  ·simp[h]
  ·by_cases h':i=k
   ·subst h';simp[Nat.testBit_zero]
   ·obtain ⟨j,rfl⟩:∃j,i=k+(j+1):=⟨i - k - 1,by omega⟩;have e3:k+(j+1) - k=j+1:=by omega
    rw[if_neg h,if_neg h,e3,Nat.testBit_succ,Nat.testBit_succ];have d1:(2*m+1) / 2=m:=by omega
    have d2:2*m / 2=m:=by omega
    rw[d1,d2];simp
 ·have:x &&& (x - 1)<=x - 1:=Nat.and_le_right;omega
structure Rd where
 S:Nat
 sv:Nat
 M:Nat
 mv:Nat
 pl:Nat
 nv:Nat
 xv:Nat
 ev:Nat
 kk:Nat
 wk:Nat
 K:Nat
 kv:Nat
 av:Nat
structure QI(w:World)(ρ:Rd):Prop where
 sv:w.heap[ρ.sv]?=some (.cells #[.pointer (some ⟨ρ.S,0,none⟩)] 295 (0,0))
 mv:w.heap[ρ.mv]?=some (.cells #[.map (some ρ.M)] 318 (0,0))
 nv:w.heap[ρ.nv]?=some (.cells #[.func (.func 196) #[] #[.pointer (some ⟨ρ.mv,0,none⟩),.pointer (some ⟨ρ.pl,0,none⟩)]] 284 (0,0))
 xv:w.heap[ρ.xv]?=some (.cells #[.func (.func 197) #[] #[.pointer (some ⟨ρ.pl,0,none⟩)]] 284 (0,0))
 kk:w.heap[ρ.kk]?=some (.cells #[.func (.func 175) #[] #[.pointer (some ⟨ρ.nv,0,none⟩),.pointer (some ⟨ρ.sv,0,none⟩),.pointer (some ⟨ρ.ev,0,none⟩)]] 301 (0,0))
 wk:w.heap[ρ.wk]?=some (.cells #[.func (.func 177) #[] #[.pointer (some ⟨ρ.sv,0,none⟩),.pointer (some ⟨ρ.xv,0,none⟩),.pointer (some ⟨ρ.kk,0,none⟩)]] 302 (0,0))
 kv:w.heap[ρ.kv]?=some (.cells #[.map (some ρ.K)] 319 (0,0))
 av:w.heap[ρ.av]?=some (.cells #[.func (.func 198) #[] #[.pointer (some ⟨ρ.kv,0,none⟩),.pointer (some ⟨ρ.wk,0,none⟩)]] 302 (0,0))
variable {ρ:Rd}
theorem QI.fx(h:QI w ρ)(hF:Fx X w w'):QI w' ρ:=
 ⟨hF.stay _ _ _ (by decide) h.sv,hF.stay _ _ _ (by decide) h.mv,hF.stay _ _ _ (by decide) h.nv,hF.stay _ _ _ (by decide) h.xv,hF.stay _ _ _ (by decide) h.kk,hF.stay _ _ _ (by decide) h.wk,hF.stay _ _ _ (by decide) h.kv,hF.stay _ _ _ (by decide) h.av⟩
def plus(X:Nat->Prop)(ρ:Rd):Nat->Prop:=λk=>X k∨k=ρ.M∨k=ρ.K
structure nJ(w:World)(X:Nat->Prop)(ρ:Rd)(n0:Nat)(root:aP)(ns:List (Nd Value))(ts:List D)(cM:List Nat)(en:Nat):Prop where
 shelf:Shelf w (plus X ρ) ρ.S n0 ns (gW root)
 vW:∃pv,kZ w ρ.M ρ.pl pv cM/\∀k,pv.ownBlock=some k->¬X k
 ev:w.heap[ρ.ev]?=some (.cells #[.int .u64 en] 188 (0,0))
 nX:¬X ρ.M/\¬X ρ.pl/\¬X ρ.ev
 kh:F2 (aU (aH w) n0 ns) ts cM
 met:∀t∈ts,t∈met root
 bits:∀n,en.testBit n=true<->∃t,ts[n]?=some t/\t.re.au=true
 sz:root.sz<=200
 leaves:root.leaves<=60
theorem nJ.few(h:nJ w X ρ n0 root ns ts cM en):cM.length<=61:=by
 obtain ⟨pv,hN,_⟩:=h.vW;have h1:=NA (R:=λd k=>aU (aH w) n0 ns d k) (λd b b' r r'=>r.func h.shelf.ZE r') (P:=bu.met root) hN.nodup (λk hk=>by obtain ⟨i,hi⟩:=List.mem_iff_getElem?.1 hk;obtain ⟨t,ht,hr⟩:=h.kh.get hi;exact ⟨t,h.met t (bn ht),hr⟩);rw[vd]at h1;have:=h.leaves;omega
theorem nJ.T5(h:nJ w X ρ n0 root ns ts cM en):en<18446744073709551616:=by
 have h1:=h.few;rw[<-h.kh.length]at h1;refine Nat.lt_pow_two_of_testBit (n:=64) en λi hi=>?_
 cases hb:en.testBit i with
 | false=>rfl
 | true=>
  obtain ⟨t,ht,_⟩:=(h.bits i).1 hb;have:=az ht;omega
end Go.Proofs.YtgncgdkpkkdaeaaGreatDoor
