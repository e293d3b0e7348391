import Derived.Test.YtgncgdkpkkdaeaaGreatDoorME
import Derived.Laws.Bits64b
import Derived.Lib.TrailingZeros
namespace Go.Proofs.YtgncgdkpkkdaeaaGreatDoor
open Go.RowKit aQ Go.Maps
variable {root:aM} {a:Act} {ops:Array Oper} {ms ns:List (Nd Value)} {Q ts:List D} {js Xk cu:List Nat} {S en k n0:Nat} {C X:Nat->Prop} {o:Oper} {v v2:Value} {w w' w2 w4:World}
theorem qg{K:Act->World->Prop}{Q:Exit->Act->World->Prop}{E:Prop}(hg:o.guard=none)(s x:Operand)
  (hop:o.op=Op.call { callee:=Callee.builtin Builtin.append,args:=#[s,x],argTypes:=#[57,57] }) (v u:Value) (xs ys:List Nat) (hs:a.eval s=v) (hx:a.eval x=u) (hv:Ints w 0 v xs) (hu:Ints w 0 u ys) (hn:xs.length+ys.length<=1000000000000)
  (hK:∀v' w',Ints w' 0 v' (xs++ys)->w.grownBy w' v.ownBlock->(v'.ownBlock=v.ownBlock∨v'.ownBlock=some w.heap.size)->K (a.put o.dst v') w'):
  if Region.wanted o (yielded ops a.tmps)=true then Oper.wp Tryz.prog o a w K Q else E:=by
 have hw:Region.wanted o (yielded ops a.tmps)=true:=by simp[Region.wanted,hg]
 rw[if_pos hw];obtain ⟨v',w',hr,r2,r3,r5⟩:=kh w o.type v u xs ys hv hu hn;unfold Oper.wp execOp;simp only[hop,resolve,invoke,builtin,Sem.run_bind,Sem.run_pure,Result.andThen_ok,List.map_toArray,List.map_cons,List.map_nil,hs,hx,hr];exact hK v' w' r2 r3 r5
theorem ik(w:World){rest:List Oper}{Q:Exit->Act->World->Prop}(hg:o.guard=none)(s x:Operand)
  (hop:o.op=Op.call { callee:=Callee.builtin Builtin.append,args:=#[s,x],argTypes:=#[57,57] }) (v u:Value) (xs ys:List Nat) (hs:a.eval s=v) (hx:a.eval x=u) (hv:Ints w 0 v xs) (hu:Ints w 0 u ys) (hn:xs.length+ys.length<=1000000000000)
  (hK:∀v' w',Ints w' 0 v' (xs++ys)->w.grownBy w' v.ownBlock->(v'.ownBlock=v.ownBlock∨v'.ownBlock=some w.heap.size)->wpList Tryz.prog ops Q rest (a.put o.dst v') w'):wpList Tryz.prog ops Q (o::rest) a w:=by
 refine wpList_plain hg λK hK'=>?_
 obtain ⟨v',w',hr,r2,r3,r5⟩:=kh w o.type v u xs ys hv hu hn;unfold Oper.wp execOp;simp only[hop,resolve,invoke,builtin,Sem.run_bind,Sem.run_pure,Result.andThen_ok,List.map_toArray,List.map_cons,List.map_nil,hs,hx,hr];exact hK' _ _ (hK v' w' r2 r3 r5)
theorem mW{w5:World}{v5:Value}(hX:gI X w)(hF:Fx X w w4)(hS:Shelf w4 X S n0 (ns++ms) Q)(hv:Row w4 X v2 Xk)(hI:Ints w5 0 v5 js)(hg:w4.grownBy w5 v2.ownBlock)
  (hloc:v5.ownBlock=v2.ownBlock∨v5.ownBlock=some w4.heap.size) (h2:F2 (aS (aB w4) n0 (ns++ms)) ts js):bA X S n0 ns Q ts w (.returned v5) w5:=by
 have wm:∀k,v2.ownBlock=some k->∀c t fz,w4.heap[k]?=some (.cells c t fz)->t=3:=λk hk c t fz h=>by obtain ⟨c',hc⟩:=hv.1.block hk;rw[hc]at h;cases h;rfl
 have Ak:Fx X w4 w5:=(Fx.refl X w4).grown hg (hX.fx hF) hv.2 (λk hk c t fz h=>by rw[wm k hk c t fz h];rfl);have hst:=Ak.dh;refine ⟨v5,js,ms,rfl,hF.trans Ak,?_,⟨hI,?_⟩,h2.mono λd k h=>aS.world hst h⟩
 ·refine hS.keep hst (λk o hk ho hc=>?_) (λk hk=>.inl hk);rw[hg.block k (ae ho) (λe=>by obtain ⟨c',hc'⟩:=hv.1.block e.symm;rw[ho]at hc';cases hc';rcases hc _ _ _ rfl with h|h<;>cases h)];exact ho
 ·intro k hk Pn;rcases hloc with e|e
  ·rw[e]at hk;exact hv.2 k hk Pn
  ·rw[e]at hk;have h1:=hX k Pn;have h2:=hF.size;have h3:w4.heap.size=k:=Option.some.inj hk;omega
theorem mX(h:Shelf w X S n0 ns Q)(hv:Ints w 0 v js):Shelf w (di X v) S n0 ns Q:=
 h.keep (bu.refl w) (λ_ _ _ ho _=>ho) (λk hk=>by
  rcases hk with hk|hk
  ·exact .inl hk
  ·refine .inr λo ho=>?_
   obtain ⟨c,hc⟩:=hv.block hk;rw[hc]at ho;cases ho;exact ⟨_,_,_,rfl,by decide,by decide⟩)
theorem second{us:List D}{v4:Value}(hF:Fx X w w2)(hv:Row w2 X v2 Xk)(h2:F2 (aS (aB w2) n0 (ns++ms)) ts Xk)(hp:bA (di X v2) S n0 (ns++ms) Q us w2 (.returned v4) w4):
  ∃LJ ks,Fx X w w4/\Shelf w4 X S n0 (ns++(ms++ks)) Q/\Row w4 X v2 Xk/\Ints w4 0 v4 LJ/\F2 (aS (aB w4) n0 (ns++(ms++ks))) (ts++us) (Xk++LJ)/\LJ.length=us.length:=by
 obtain ⟨v,LJ,ks,e,lX,hS4,Oi,Z6⟩:=hp;cases e;refine ⟨LJ,ks,hF.trans (lX.sub λ_ h=>.inl h),?_,⟨hv.1.ig λk hk=>lX.keep k (.inr hk),hv.2⟩,Oi.1,?_,Z6.length.symm⟩
 ·rw[<-List.append_assoc];exact hS4.keep (bu.refl _) (λ_ _ _ h _=>h) (λ_ h=>.inl (.inl h))
 ·rw[<-List.append_assoc];exact (h2.mono λd k h=>(aS.world lX.dh h).append).append Z6
set_option maxHeartbeats 4000000 in
theorem rP(b:UInt8)(k l r:Nat)(hv:Value)(e:Bool)(d d':D)(hd:Pq b d)(SL:Pq b d')(X:Nat->Prop)(S n0:Nat)(ns:List (Nd Value))(Q:List D)(w:World)(hX:gI X w)(hS:Shelf w X S n0 ns Q)
  (hn:ns[k]?=some ⟨3,hv,l,r,e⟩) (hR:aS (aB w) n0 ns d l) (Z3:aS (aB w) n0 ns d' r) (yr:∀t∈ea d,t∈Q) (JX:∀t∈ea d',t∈Q) (hsz:d.sz<=1000000) (hsz':d'.sz<=1000000):
  Calls Tryz.prog 178 #[.pointer (some ⟨S,0,none⟩),.int .i64 k,.int .u8 b.toNat] w (bA X S n0 ns Q (pd b d++pd b d') w):=by
 obtain ⟨g,cap,c0,m0,m1,m2,m3,m4,lY⟩:=hS.at hn;have kX:=au hn;have hlen:=hS.length;have hst:=eu lY;have HX:=aa hX;have hb:Below w.heap.size w (w.alloc (.cells #[.int .i64 3,hv,.int .i64 l,.int .i64 r,.bool e] 292)):=(Below.refl _ _).alloc (Nat.le_refl _) _
 have rF:=aa (ij hS (.cells #[.int .i64 3,hv,.int .i64 l,.int .i64 r,.bool e] 292));have pI:=aa (ld hX (.cells #[.int .i64 3,hv,.int .i64 l,.int .i64 r,.bool e] 292));have HB:=aa hb;have HE:=aa (af w (.cells #[.int .i64 3,hv,.int .i64 l,.int .i64 r,.bool e] 292))
 have HD:=aa (hd _ S n0 ns Q l (w.alloc (.cells #[.int .i64 3,hv,.int .i64 l,.int .i64 r,.bool e] 292)).drew pI.out rF.out.drew (aS.world (bu.ar hb.drew) hR) yr hsz)
 have HD':=aa (λ(w2:World) (v2:Value) (js:List Nat) (ms:List (Nd Value)) (hF2:Fx (iW X w.heap.size) (w.alloc (.cells #[.int .i64 3,hv,.int .i64 l,.int .i64 r,.bool e] 292)) w2) (jF:Shelf w2 (iW X w.heap.size) S n0 (ns++ms) Q) (kf:Row w2 (iW X w.heap.size) v2 js)=>
  SL (di (iW X w.heap.size) v2) S n0 (ns++ms) Q r w2 ((pI.out.fx hF2).di kf.1) (mX jF kf.1) ((aS.world ((bu.ar hb).trans hF2.dh) Z3).append) JX hsz')
 have Z7:=aa (Fx.ar hX hb);clear hX hS hn hR Z3 yr JX lY hb;go_enter Tryz.func178,Tryz.ntmps178;go_wp2_with fail
 go_region_law (first
  | (go_simp;go_at_call_of 178 (Value.int IntKind.i64 (l:Int));refine HD.out.mono ?_;rintro e2 w2 ⟨v2,js,ms,rfl,hF2,jF,kf,dQ⟩;have et:=aa hF2.gD;have wN:=aa jF;have yh:=aa kf;have jf:=aa dQ;clear hF2 jF kf dQ;obtain ⟨q2,q3⟩:=rX HE.out et.out)
  | (go_simp;go_at_call_of 178 (Value.int IntKind.i64 (r:Int));refine (HD'.out w2 v2 js ms et.out wN.out yh.out).mono ?_;rintro e4 w4 hp;obtain ⟨v4,-,-,rfl,-⟩:=id hp;obtain ⟨LJ,ks,Oj,jB,Xl,wE,Xm,hl4⟩:=second et.out yh.out jf.out hp;have qM:js.length+LJ.length<=1000000000000:=(by have h1:=jf.out.length;have h2:=eW b d;have h3:=eW b d';omega);have Ve:=aa Oj;have jC:=aa jB;have Xn:=aa Xl;have HD4:=aa wE;have U3:=aa Xm;clear hp Oj jB Xl wE Xm hl4)
  | (refine qg rfl (.tmp 59) (.tmp 64) rfl v2 v4 js LJ (by rfl) (by rfl) Xn.out.1 HD4.out qM ?_;intro v5 w5 Xo rD OE;have ai:=aa (mW pI.out (Ve.out) jC.out Xn.out Xo rD OE U3.out);clear Xo rD OE))
 all_goals
  have hend:bA X S n0 ns Q (pd b d++pd b d') w (.returned v5) w5:=by obtain ⟨_,js5,ms5,e5,f5,s5,r5,g5⟩:=ai.out;cases e5;exact ⟨_,js5,ms5,rfl,Z7.out.trans (f5.sub λ_ h=>.inl h),s5.less,r5.less,g5⟩
  have HF:=aa hend;clear hend;go_wp2_with fail;go_ret;exact HF.out
theorem Shelf.flag(h:Shelf w X S n0 ns Q){d:D}(hk:aS (aB w) n0 ns d k):
  ∃g len cap,w.cell? ⟨S,0,none⟩=some (.slice (some ⟨g,0,none⟩) len cap)/\k<len/\len<=100000000200/\w.cell? ⟨g,k*5+4,none⟩=some (.bool d.re.aj):=by
 obtain ⟨nd,h1,h2⟩:=hk.empty;obtain ⟨g,cap,c0,-,-,-,-,c4,-⟩:=h.at h1;exact ⟨g,_,cap,c0,au h1,h.length,by rw[<-h2];exact c4⟩
set_option maxHeartbeats 4000000 in
theorem ki(b:UInt8)(k l:Nat)(hv:Value)(r:Nat)(e:Bool)(d:D)(a:aM)(hd:Pq b d)(SL:Pq b (.base a))(X:Nat->Prop)(S n0:Nat)(ns:List (Nd Value))(Q:List D)(w:World)(hX:gI X w)(hS:Shelf w X S n0 ns Q)
  (hn:ns[k]?=some ⟨2,hv,l,r,e⟩) (JV:a.ix=r) (hR:aS (aB w) n0 ns d l) (ha:a.lt n0) (Fy:dH (aB w) ns a) (yr:∀t∈ea d,t∈Q) (JX:∀x∈pd b d,cB x a∈Q) (hQ3:∀t∈dr a,t∈Q) (hsz:d.sz<=1000000) (hsz':a.sz<=1000000)
  (ts:List D) (Tk:ts=(pd b d).map (cB · a)++(if d.re.aj then jL b a else [])):
  Calls Tryz.prog 178 #[.pointer (some ⟨S,0,none⟩),.int .i64 k,.int .u8 b.toNat] w (bA X S n0 ns Q ts w):=by
 obtain ⟨g,cap,c0,m0,m1,m2,m3,m4,lY⟩:=hS.at hn;have kX:=au hn;have hlen:=hS.length;have hst:=eu lY;subst JV;have Tl:=aa Tk;have HX:=aa hX;obtain ⟨r,hr⟩:∃r,r=a.ix:=⟨_,rfl⟩;rw[<-hr]at m3;have hb:Below w.heap.size w (w.alloc (.cells #[.int .i64 2,hv,.int .i64 l,.int .i64 r,.bool e] 292)):=(Below.refl _ _).alloc (Nat.le_refl _) _
 have rF:=aa (ij hS (.cells #[.int .i64 2,hv,.int .i64 l,.int .i64 r,.bool e] 292));have pI:=aa (ld hX (.cells #[.int .i64 2,hv,.int .i64 l,.int .i64 r,.bool e] 292));have HE:=aa (af w (.cells #[.int .i64 2,hv,.int .i64 l,.int .i64 r,.bool e] 292))
 have HD:=aa (hd _ S n0 ns Q l (w.alloc (.cells #[.int .i64 2,hv,.int .i64 l,.int .i64 r,.bool e] 292)).drew pI.out rF.out.drew (aS.world (bu.ar hb.drew) hR) yr hsz)
 have HJ:=aa (λ(w2:World) (v2:Value) (js:List Nat) (ms:List (Nd Value)) (hF2:Fx (iW X w.heap.size) (w.alloc (.cells #[.int .i64 2,hv,.int .i64 l,.int .i64 r,.bool e] 292)) w2) (jF:Shelf w2 (iW X w.heap.size) S n0 (ns++ms) Q) (kf:Row w2 (iW X w.heap.size) v2 js) (dQ:F2 (aS (aB w2) n0 (ns++ms)) (pd b d) js)=>by
  have pP:js.length<=1000000000:=by have h1:=dQ.length;have h2:=eW b d;omega
  have jm:=(bu.ar hb).trans hF2.dh;have:=jV _ S n0 (ns++ms) Q (pd b d) a v2 js w2 (pI.out.fx hF2) jF kf.1 dQ ha ((Fy.world jm).append) JX pP;rw[<-hr]at this;exact this)
 have HL:=aa (λ(w3:World) (ms:List (Nd Value)) (dp:Fx (iW X w.heap.size) (w.alloc (.cells #[.int .i64 2,hv,.int .i64 l,.int .i64 r,.bool e] 292)) w3)=>(aS.world ((bu.ar hb).trans dp.dh) hR).append (ms:=ms))
 have HD':=aa (λ(w3:World) (v3:Value) (js:List Nat) (ms:List (Nd Value)) (dp:Fx (iW X w.heap.size) (w.alloc (.cells #[.int .i64 2,hv,.int .i64 l,.int .i64 r,.bool e] 292)) w3) (mK:Shelf w3 (iW X w.heap.size) S n0 (ns++ms) Q) (uQ:Row w3 (iW X w.heap.size) v3 js)=>
  SL (di (iW X w.heap.size) v3) S n0 (ns++ms) Q r w3 ((pI.out.fx dp).di uQ.1) (mX mK uQ.1) (show aS _ _ _ (.base a) r from ⟨hr,ha,(Fy.world ((bu.ar hb).trans dp.dh)).append⟩) hQ3 hsz')
 have Z7:=aa (Fx.ar hX hb);clear hX hS hn hR Fy yr JX hQ3 lY hb ha hr Tk;go_enter Tryz.func178,Tryz.ntmps178;go_wp2_with fail
 go_region_with (first
  | (go_at_call 178;refine HD.out.mono ?_;rintro e2 w2 ⟨v2,js,ms,rfl,hF2,jF,kf,dQ⟩;have et:=aa hF2.gD;have wN:=aa jF;have yh:=aa kf;have jf:=aa dQ;clear hF2 jF kf dQ;obtain ⟨q2,q3⟩:=rX HE.out et.out)
  | (go_at_call 199;refine (HJ.out w2 v2 js ms et.out wN.out yh.out jf.out).mono ?_;rintro e3 w3 ⟨v3,Og,Rp,rfl,dp,mK,uQ,FQ⟩;have gz:=aa (et.out.trans dp);have O6:=aa mK;have K8:=aa uQ;have Oh:=aa FQ;clear dp mK uQ FQ))
 all_goals
  rw[List.append_assoc]at O6 Oh;obtain ⟨p2,p3⟩:=rX HE.out gz.out;obtain ⟨g3,abW,DG,f0,f1,f2,f4⟩:=O6.out.flag (HL.out w3 (ms++Rp) gz.out);clear q2 q3 m0 m1 m2 m3 m4 c0
  cases eT:d.re.aj with
  | false=>
   rw[eT]at f4;have ai:=aa (show ∀nq,bA X S n0 ns Q ts w (.returned v3) (w3.drewN nq) from λnq=>by rw[Tl.out,eT];simp only[Bool.false_eq_true,if_false,List.append_nil];exact ⟨v3,Og,ms++Rp,rfl,(Z7.out.trans (gz.out.sub λ_ h=>.inl h)).drewN nq,O6.out.less.drewN nq,K8.out.less,Oh.out.mono λd k h=>aS.world (w:=w3) (w':=w3.drewN nq) (λ_ _ _ _ h=>h) h⟩)
   clear eT;go_wp2_with fail;go_quiet (fail);go_wp2_with fail;go_ret;exact ai.out nq
  | true=>
   rw[eT]at f4;have aaz:=aa (show ts=(pd b d).map (cB · a)++pd b (.base a) from by rw[Tl.out,eT];rfl);have HJ4:=aa (show ∀nq,F2 (aS (aB (w3.drewN nq)) n0 (ns++(ms++Rp))) ((pd b d).map (cB · a)) Og from λnq=>Oh.out.mono λd k h=>aS.world (w:=w3) (w':=w3.drewN nq) (λ_ _ _ _ h=>h) h)
   have Rq:=aa (show ∀nq,Row (w3.drewN nq) (iW X w.heap.size) v3 Og from λnq=>K8.out);clear eT;go_wp2_with fail;go_quiet (fail);go_wp2_with fail;refine (HD'.out (w3.drewN nq) v3 Og (ms++Rp) (gz.out.drewN nq) (O6.out.drewN nq) (Rq.out nq)).mono ?_;rintro e4 w4 hp;obtain ⟨v4,-,-,rfl,-⟩:=id hp
   obtain ⟨LJ,ks,Oj,jB,Xl,wE,Xm,hl4⟩:=second (gz.out.drewN nq) (Rq.out nq) (HJ4.out nq) hp;have qM:Og.length+LJ.length<=1000000000000:=by have h1:=Oh.out.length;have h2:=eW b d;have h3:=eW b (.base a);simp only[List.length_map]at h1;simp only[D.sz]at h3;omega
   have Ve:=aa Oj;have jC:=aa jB;have Xn:=aa Xl;have HD4:=aa wE;have U3:=aa Xm;clear hp Oj jB Xl wE Xm hl4 f0 f1 f2 f4 p2 p3
   go_wp2_with (at_builtin;refine ik w4 rfl (.tmp 45) (.tmp 50) rfl v3 v4 Og LJ (by rfl) (by rfl) Xn.out.1 HD4.out qM ?_;intro v5 w5 Xo rD OE;have ai:=aa (mW pI.out (Ve.out) jC.out Xn.out Xo rD OE U3.out);clear Xo rD OE)
   have hend:bA X S n0 ns Q ts w (.returned v5) w5:=by obtain ⟨_,js5,ms5,e5,f5,s5,r5,g5⟩:=ai.out;cases e5;rw[aaz.out];exact ⟨_,js5,ms5,rfl,Z7.out.trans (f5.sub λ_ h=>.inl h),s5.less,r5.less,g5⟩
   have HF:=aa hend;clear hend;go_wp2_with fail;go_ret;exact HF.out
theorem qQ(b:UInt8)(a:aM):Pq b (.base a):=by
 induction a with
 | cW=>
  intro X S n0 ns Q k w hX hS hR hQ hsz;obtain ⟨rfl,hl,h,hn⟩:=hR;exact rO b _ _ _ _ _ X S n0 ns Q w hX hS hn
 | cV i c=>
  intro X S n0 ns Q k w hX hS hR hQ hsz;obtain ⟨rfl,hl,_,h,hn,hc⟩:=hR;exact qd b _ _ _ _ _ c X S n0 ns Q w hX hS hn hc
 | seq i x y sX sY=>
  intro X S n0 ns Q k w hX hS hR hQ hsz;obtain ⟨rfl,⟨hl,hlx,Tc⟩,_,⟨h,hn⟩,hx,hy⟩:=hR;simp only[D.sz,aM.sz]at hsz;simp only[ea,dr,List.mem_append]at hQ
  exact ki b _ _ _ _ _ (.base x) y sX sY X S n0 ns Q w hX hS hn rfl ⟨rfl,hlx,hx⟩ Tc hy (λt ht=>hQ t (.inl (.inl ht))) (oJ (d:=.base x) λt ht=>hQ t (.inl (.inr ht))) (λt ht=>hQ t (.inr ht)) (by simp only[D.sz];omega) (by omega) _ rfl
 | alt i x y sX sY=>
  intro X S n0 ns Q k w hX hS hR hQ hsz;obtain ⟨rfl,⟨hl,hlx,Tc⟩,_,⟨h,hn⟩,hx,hy⟩:=hR;simp only[D.sz,aM.sz]at hsz;simp only[ea,dr,List.mem_append]at hQ;exact rP b _ _ _ _ _ (.base x) (.base y) sX sY X S n0 ns Q w hX hS hn ⟨rfl,hlx,hx⟩ ⟨rfl,Tc,hy⟩ (λt ht=>hQ t (.inl ht)) (λt ht=>hQ t (.inr ht)) (by simp only[D.sz];omega) (by simp only[D.sz];omega)
 | star i x ih=>
  intro X S n0 ns Q k w hX hS hR hQ hsz;obtain ⟨rfl,hl,hr⟩:=hR;obtain ⟨_,⟨h,hn⟩,hx⟩:=id hr;simp only[D.sz,aM.sz]at hsz;simp only[ea,dr,List.mem_append]at hQ;exact qc b _ _ _ _ _ (.base x) (.star _ x) ih X S n0 ns Q w hX hS hn rfl ⟨rfl,hl.2,hx⟩ hl hr (λt ht=>hQ t (.inl ht)) (oJ (d:=.base x) λt ht=>hQ t (.inr ht)) (by simp only[D.sz];omega)
 | plus i j x ih=>
  intro X S n0 ns Q k w hX hS hR hQ hsz;obtain ⟨rfl,⟨hl,Sj,hlx⟩,_,hj0,⟨h,hn⟩,hj,hx⟩:=hR;simp only[D.sz,aM.sz]at hsz;simp only[ea,dr,List.mem_append]at hQ
  exact qf b _ _ _ _ _ (.base x) (.star j x) ih X S n0 ns Q w hX hS hn rfl ⟨rfl,hlx,hx⟩ ⟨Sj,hlx⟩ ⟨hj0,hj,hx⟩ (λt ht=>hQ t (.inl ht)) (oJ (d:=.base x) λt ht=>hQ t (.inr ht)) (by simp only[D.sz];omega)
 | eG i x ih=>
  intro X S n0 ns Q k w hX hS hR hQ hsz;obtain ⟨rfl,⟨hl,hlx⟩,_,⟨h,hn⟩,hx⟩:=hR;simp only[D.sz,aM.sz]at hsz;exact rN b _ _ _ _ _ (.base x) ih X S n0 ns Q w hX hS hn ⟨rfl,hlx,hx⟩ hQ (by simp only[D.sz];omega)
theorem DI(b:UInt8)(d:D):Pq b d:=by
 induction d with
 | base a=>exact qQ b a
 | snoc d a ih=>
  intro X S n0 ns Q k w hX hS hR hQ hsz;obtain ⟨hk,hl,ha,m,hm,hd,h,hn⟩:=hR;simp only[D.sz]at hsz;simp only[ea,List.mem_append]at hQ;exact ki b _ _ _ _ _ d a ih (qQ b a) X S n0 ns Q w hX hS hn rfl hd hl ha (λt ht=>hQ t (.inl (.inl ht))) (oJ λt ht=>hQ t (.inl (.inr ht))) (λt ht=>hQ t (.inr ht)) (by omega) (by omega) _ rfl
theorem Ints.form{B:Nat}{xs:List Nat}(h:Ints w B v xs):∃ao cap,v=.slice ao xs.length cap:=by
 rcases h.2 with ⟨rfl,h0⟩|⟨g,cap,_,rfl,_⟩
 ·exact ⟨none,0,by rw[h0]⟩
 ·exact ⟨_,cap,rfl⟩
structure kj(C:Nat->Prop)(w w':World):Prop where
 os:w'.os=w.os
 tape:w'.tape=w.tape
 output:w'.output=w.output
 size:w.heap.size<=w'.heap.size
 keep:∀k,k<w.heap.size->¬C k->w'.heap[k]?=w.heap[k]?
theorem kj.refl(C:Nat->Prop)(w:World):kj C w w:=⟨rfl,rfl,rfl,Nat.le_refl _,λ_ _ _=>rfl⟩
theorem kj.ar(h:Below w.heap.size w w'):kj C w w':=⟨h.os,h.tape,h.output,h.size,λk hk _=>h.block k hk⟩
theorem kj.drewN(h:kj C w w')(n:Nat):kj C w (w'.drewN n):=⟨h.os,h.tape,h.output,h.size,h.keep⟩
structure jW(w:World)(M pl:Nat)(pv:Value)(cu:List Nat):Prop where
 var:w.heap[pl]?=some (.cells #[pv] 57 (0,0))
 row:Ints w 0 pv cu
 map:∃m f,bO mE 3 .i64 w M m f/\m<=cu.length/\∀k c,f k=some c<->∃n:Nat,c=n/\cu[n]?=some k
 nodup:cu.Nodup
 small:∀k∈cu,k<=1000000000000
def Ps(M pl:Nat)(pv:Value):Nat->Prop:=λk=>k=M∨k=pl∨pv.ownBlock=some k
def oK(M pl:Nat)(pv:Value)(cu:List Nat)(k:Nat)(w:World)(e:Ending)(w':World):Prop:=
 ∃(n:Nat) (zB:Value) (eK:List Nat),e=.returned (.int .i64 n)/\kj (Ps M pl pv) w w'/\jW w' M pl zB eK/\eK[n]?=some k/\(eK=cu∨eK=cu++[k])/\(zB.ownBlock=pv.ownBlock∨∃b,zB.ownBlock=some b/\w.heap.size<=b)
theorem H6{l:List Nat}(hn:l.Nodup){i j x:Nat}(h1:l[i]?=some x)(h2:l[j]?=some x):i=j:=by have l1:=au h1;have l2:=au h2;rw[List.getElem?_eq_getElem l1]at h1;rw[List.getElem?_eq_getElem l2]at h2;exact (List.getElem_inj hn).1 ((Option.some.inj h1).trans (Option.some.inj h2).symm)
set_option maxHeartbeats 1000000 in
theorem DJ(M pl mv:Nat)(pv:Value)(cu:List Nat)(k n:Nat)(w:World)(hN:jW w M pl pv cu)(Pt:w.heap[mv]?=some (.cells #[.map (some M)] 318 (0,0)))(hk:k<=1000000000000)(h:cu[n]?=some k):
  Calls Tryz.prog 196 #[.int .i64 k,.pointer (some ⟨mv,0,none⟩),.pointer (some ⟨pl,0,none⟩)] w (oK M pl pv cu k w):=by
 obtain ⟨m,f,hM,hm,hf⟩:=hN.map;have c0:=ay Pt;have hlk:=hM.look (t:=318) Tryz.underlying318 Tryz.underlying3 oI k hk;rw[(hf k n).2 ⟨n,rfl,h⟩]at hlk;have vG:(Instr.lookup 318 (.map (some M)) (.int .i64 k) true).run Tryz.prog w=.ok (.tuple #[.int .i64 n,.bool true]) w:=hlk
 have ai:=aa (show oK M pl pv cu k w (.returned (.int .i64 n)) w from ⟨n,pv,cu,rfl,kj.refl _ _,hN,h,.inl rfl,.inl rfl⟩);clear hN hM hm hf hlk Pt h;go_enter Tryz.func196,Tryz.ntmps196;go_wp2;go_ret;exact ai.out
theorem DK{M pl m:Nat}{pv zB:Value}{f:Nat->Option Int}{w1:World}{c:Array Value}(hN:jW w M pl pv cu)(hk:k<=1000000000000)(fL:k∉cu)(hm:m<=cu.length)(hf:∀k c,f k=some c<->∃n:Nat,c=n/\cu[n]?=some k)
  (JY:bO mE 3 .i64 w1 M (m+1) (λy=>if y=k then some (cu.length:Int) else f y)) (hg1:w.grownBy w1 (some M)) (kf:Ints w2 0 zB (cu++[k])) (hg2:(w1.alloc (.cells c 3)).grownBy w2 pv.ownBlock)
  (hl2:zB.ownBlock=pv.ownBlock∨zB.ownBlock=some (w1.alloc (.cells c 3)).heap.size):
  w2.heap[pl]?=some (.cells #[pv] 57 (0,0))/\oK M pl pv cu k w (.returned (.int .i64 cu.length)) (w2.setCell ⟨pl,0,none⟩ zB):=by
 obtain ⟨es,kw,FR⟩:∃es kw,w.heap[M]?=some (.map es kw):=by obtain ⟨_,_,h,_⟩:=hN.map;exact h.obj
 obtain ⟨es1,aaA,Tm⟩:=JY.obj;have Pu:pl≠M:=by rintro rfl;rw[hN.var]at FR;cases FR
 have LK:w1.heap[pl]?=some (.cells #[pv] 57 (0,0)):=by rw[hg1.block pl (ae hN.var) (λe=>Pu (Option.some.inj e))];exact hN.var
 have hrow:∀j,pv.ownBlock=some j->∃cur,w.heap[j]?=some (.cells cur 3 (0,0)):=λj hj=>hN.row.block hj
 have LL:w2.heap[pl]?=some (.cells #[pv] 57 (0,0)):=by rw[hg2.block pl (by have:=ae LK;simp;omega) (λe=>by obtain ⟨cur,hc⟩:=hrow pl e.symm;rw[hN.var]at hc;simp at hc)];exact heap_alloc_old LK
 have AY:w2.heap[M]?=some (.map es1 aaA):=by rw[hg2.block M (by have:=ae Tm;simp;omega) (λe=>by obtain ⟨cur,hc⟩:=hrow M e.symm;rw[FR]at hc;cases hc)];exact heap_alloc_old Tm
 refine ⟨LL,cu.length,zB,cu++[k],rfl,⟨hg2.os.trans hg1.os,hg2.tape.trans hg1.tape,hg2.output.trans hg1.output,?_,?_⟩,⟨heap_setCell_same w2 pl 0 _ LL,?_,⟨m+1,(λy=>if y=k then some (cu.length:Int) else f y),?_,?_,?_⟩,?_,?_⟩,?_,.inr rfl,?_⟩
 ·have h1:=hg1.size;have h2:=hg2.size;simp[World.setCell]at h2 ⊢;omega
 ·intro j hj hC;have hjM:j≠M:=λe=>hC (.inl e)
  have hjp:j≠pl:=λe=>hC (.inr (.inl e))
  rw[Below.heap_setCell _ _ _ _ (by exact hjp),hg2.block j (by have:=hg1.size;simp;omega) (λe=>hC (.inr (.inr e.symm))),Below.heap_alloc _ _ _ (by have:=hg1.size;omega),hg1.block j hj (λe=>hjM (Option.some.inj e))]
 ·refine kf.ig λj hj=>Below.heap_setCell _ _ _ _ ?_
  obtain ⟨cur,hc⟩:=kf.block hj;rintro rfl;rw[LL]at hc;simp at hc
 ·refine JY.keep ?_;rw[Below.heap_setCell _ _ _ _ (by exact λe=>Pu e.symm),AY,Tm]
 ·simp;omega
 ·intro x c;show (if x=k then some (cu.length:Int) else f x)=some c<->_;by_cases e:x=k
  ·subst e;rw[if_pos rfl];constructor
   ·intro h;refine ⟨cu.length,by simpa using h.symm,by simp⟩
   ·rintro ⟨n,rfl,h⟩;rcases Nat.lt_or_ge n cu.length with hl|hl
    ·rw[List.getElem?_append_left hl]at h;exact absurd (List.mem_of_getElem? h) fL
    ·have:=au h;simp at this;rw[show n=cu.length by omega]
  ·rw[if_neg e,hf];constructor
   ·rintro ⟨n,rfl,h⟩;exact ⟨n,rfl,bI h⟩
   ·rintro ⟨n,rfl,h⟩;rcases Nat.lt_or_ge n cu.length with hl|hl
    ·rw[List.getElem?_append_left hl]at h;exact ⟨n,rfl,h⟩
    ·have:=au h;simp at this;rw[show n=cu.length by omega]at h;simp at h;exact absurd h.symm e
 ·exact List.nodup_append.2 ⟨hN.nodup,by simp,λa ha b hb=>by simp at hb;subst hb;rintro rfl;exact fL ha⟩
 ·intro x hx;rcases List.mem_append.1 hx with h|h
  ·exact hN.small x h
  ·simp at h;omega
 ·simp
 ·rcases hl2 with e|e
  ·exact .inl e
  ·refine .inr ⟨_,e,?_⟩;have:=hg1.size;simp;omega
set_option maxHeartbeats 1000000 in
theorem DL(M pl mv:Nat)(pv:Value)(cu:List Nat)(k:Nat)(w:World)(hN:jW w M pl pv cu)(Pt:w.heap[mv]?=some (.cells #[.map (some M)] 318 (0,0)))(hk:k<=1000000000000)(hl:cu.length<=1000000)(h:k∉cu):
  Calls Tryz.prog 196 #[.int .i64 k,.pointer (some ⟨mv,0,none⟩),.pointer (some ⟨pl,0,none⟩)] w (oK M pl pv cu k w):=by
 obtain ⟨m,f,hM,hm,hf⟩:=hN.map;have c0:=ay Pt;have c1:=ay hN.var;have hlk:=hM.look (t:=318) Tryz.underlying318 Tryz.underlying3 oI k hk
 have hnone:f k=none:=by
  cases Pv:f k with
  | none=>rfl
  | some c=>obtain ⟨n,_,h2⟩:=(hf k c).1 Pv;exact absurd (List.mem_of_getElem? h2) h
 rw[hnone]at hlk;have vG:(Instr.lookup 318 (.map (some M)) (.int .i64 k) true).run Tryz.prog w=.ok (.tuple #[.int .i64 0,.bool false]) w:=hlk;obtain ⟨w1,hrun,JY,hg1⟩:=hM.store (t:=318) Tryz.underlying318 Tryz.underlying3 (by omega) k hk (cu.length:Int) (kV _ (by omega))
 have FP:(Instr.mapUpdate 318 (.map (some M)) (.int .i64 k) (.int .i64 cu.length)).run Tryz.prog w=.ok () w1:=hrun;obtain ⟨es,kw,FR⟩:=hM.obj;have Pu:pl≠M:=by rintro rfl;rw[hN.var]at FR;cases FR
 have abX:mv≠M:=by rintro rfl;rw[Pt]at FR;cases FR
 have LK:w1.heap[pl]?=some (.cells #[pv] 57 (0,0)):=by rw[hg1.block pl (ae hN.var) (λe=>Pu (Option.some.inj e))];exact hN.var
 have d1:=ay LK;have Ok:Ints w1 0 pv cu:=hN.row.ig λj hj=>hg1.block j (ae (hN.row.block hj).choose_spec) (λe=>by obtain ⟨cur,hc⟩:=hN.row.block hj;rw[Option.some.inj e,FR]at hc;cases hc)
 have LG:∃ao cap,pv=.slice ao cu.length cap:=by
  rcases hN.row.2 with ⟨rfl,h0⟩|⟨g,cap,_,rfl,_⟩
  ·exact ⟨none,0,by rw[h0]⟩
  ·exact ⟨_,cap,rfl⟩
 obtain ⟨ao,cap,rfl⟩:=LG
 have AU:Ints (w1.alloc (.cells #[.int .i64 k] 3)) 0 (.slice (some ⟨w1.heap.size,0,none⟩) 1 1) [k]:=
  ⟨by simp,.inr ⟨w1.heap.size,1,#[.int .i64 k],rfl,Nat.zero_le _,af _ _,Nat.le_refl _,by unfold maxLen;omega,rfl,rfl⟩⟩
 have Tg:=aa AU;have HI1:=aa (Ok.ig (w':=w1.alloc (.cells #[.int .i64 k] 3)) λj hj=>Below.heap_alloc _ _ _ (ae (Ok.block hj).choose_spec));have HN:=aa hN;have HH:=aa h;have HM:=aa hm;have HF:=aa hf;have HM1:=aa JY;have rQ:=aa hg1;clear hN hM hm hf hlk Pt h Ok JY hg1 hrun FR hnone LK AU
 go_enter Tryz.func196,Tryz.ntmps196
 go_wp2_with (at_builtin;refine ik _ rfl (.tmp 20) (.tmp 22) rfl _ _ cu [k] (by rfl) (by rfl) HI1.out Tg.out (by simp;omega) ?_;intro v' w2 kf hg2 hl2;obtain ⟨U4,ic⟩:=DK HN.out hk HH.out HM.out HF.out HM1.out rQ.out kf hg2 hl2;have p0:=ay U4;have pf:w2.frozen? ⟨pl,0,none⟩=false:=(by simp[World.frozen?,U4]);obtain ⟨ZB,s9,rfl⟩:=kf.form;rw[List.length_append,List.length_cons,List.length_nil]at ic;have HP:=aa ic;clear kf hg2 hl2 U4 ic)
 go_ret;exact HP.out
theorem DM(M pl mv:Nat)(pv:Value)(cu:List Nat)(k:Nat)(w:World)(hN:jW w M pl pv cu)(Pt:w.heap[mv]?=some (.cells #[.map (some M)] 318 (0,0)))(hk:k<=1000000000000)(hl:cu.length<=1000000):
  Calls Tryz.prog 196 #[.int .i64 k,.pointer (some ⟨mv,0,none⟩),.pointer (some ⟨pl,0,none⟩)] w (oK M pl pv cu k w):=by
 by_cases h:k∈cu
 ·obtain ⟨n,hn⟩:=List.mem_iff_getElem?.1 h;exact DJ M pl mv pv cu k n w hN Pt hk hn
 ·exact DL M pl mv pv cu k w hN Pt hk hl h
set_option maxHeartbeats 1000000 in
theorem qh(M pl:Nat)(pv:Value)(cu:List Nat)(k n:Nat)(w:World)(hN:jW w M pl pv cu)(h:cu[n]?=some k):
  Calls Tryz.prog 197 #[.int .i64 n,.pointer (some ⟨pl,0,none⟩)] w λe w'=>e=.returned (.int .i64 k)/\w'=w:=by
 have c1:=ay hN.var;obtain ⟨g,cap,rfl,hc⟩:=hN.row.at h;have hlt:=au h;clear hN h;go_enter Tryz.func197,Tryz.ntmps197;go_wp2;go_ret;exact ⟨rfl,rfl⟩
set_option maxHeartbeats 1000000 in
theorem Pw(x k idx:Nat)(w:World)(hx0:((x:Int)==0)=false)
  (key:IntKind.u64.wrap (bits BinOp.and IntKind.u64 (x:Int) (IntKind.u64.wrap (-(x:Int)))*285870213051353865) / 288230376151711744=(idx:Int))
  (hi:idx<64) (hk:k<64) (hcell:w.cell? ⟨1,idx,none⟩=some (.int .u8 k)):
  Calls Tryz.prog 200 #[.int .u64 x] w λe w'=>e=.returned (.int .i64 k)/\w'=w:=by
 go_enter Tryz.func200,Tryz.ntmps200;go_wp2_with (simp only[key]);go_ret;exact ⟨rfl,rfl⟩
def kB(w:World):Prop:=∀j,j<64->w.cell? ⟨1,j,none⟩=some (.int .u8 (Lib.deBruijn64tab.getD j 0))
theorem kB.keep(h:kB w)(hk:w'.heap[1]?=w.heap[1]?):kB w':=λj hj=>(World.cell?_of_block (w:=w) hk).trans (h j hj)
theorem Tn(x a:Nat)(hx:x<18446744073709551616)(hx0:x≠0)(h:x &&& (18446744073709551616 - x)=a):
  IntKind.u64.wrap (bits BinOp.and IntKind.u64 (x:Int) (IntKind.u64.wrap (-(x:Int)))*285870213051353865) / 288230376151711744=((a*285870213051353865 % 18446744073709551616 / 288230376151711744:Nat):Int):=by
 have gC:IntKind.u64.wrap (-(x:Int))=((18446744073709551616 - x:Nat):Int):=by rw[IntKind.wrap_u64];omega
 rw[gC,bits_and_u64_nat x _ hx (by omega),h,IntKind.wrap_u64];omega
theorem Tp(x:Nat)(w:World)(hx:x<18446744073709551616)(hx0:x≠0)(hT:kB w):
  Calls Tryz.prog 200 #[.int .u64 x] w λe w'=>e=.returned (.int .i64 (Lib.ctz 64 x))/\w'=w:=by
 obtain ⟨h1,h2⟩:=Lib.lowest_bit 64 x hx0 hx;obtain ⟨h3,h4⟩:=Lib.deBruijn64_at _ h2;have hc:=hT _ h3;rw[h4]at hc;exact Pw x (Lib.ctz 64 x) _ w (by rw[beq_eq_false_iff_ne];omega) (Tn x _ hx hx0 h1) h3 h2 hc
theorem FT(x:Nat)(hx:x<18446744073709551616)(hx0:x≠0):Lib.ctz 64 x<64/\x.testBit (Lib.ctz 64 x)=true/\(∀i,(x &&& (x - 1)).testBit i=(x.testBit i&&decide (i≠Lib.ctz 64 x)))/\x &&& (x - 1)<x:=by
 obtain ⟨m,hm,hk⟩:=Lib.ctzFrom_spec 64 x (by omega) (by omega);have e:Lib.ctz 64 x=Lib.ctzFrom 64 x:=by simp[Lib.ctz,hx0]
 rw[e];generalize Lib.ctzFrom 64 x=k at hm hk;have hp:0<2 ^ k:=Nat.two_pow_pos k;have h1:x=2 ^ k*(2*m+1)+0:=by omega
 have h2:x - 1=2 ^ k*(2*m)+(2 ^ k - 1):=by rw[hm,Nat.mul_add,Nat.mul_one];omega
 have b1:∀i,x.testBit i=if i<k then false else (2*m+1).testBit (i - k):=λi=>by rw[h1,Nat.testBit_two_pow_mul_add _ hp];simp
 have b2:∀i,(x - 1).testBit i=if i<k then true else (2*m).testBit (i - k):=λi=>by rw[h2,Nat.testBit_two_pow_mul_add _ (by omega),Nat.testBit_two_pow_sub_one];by_cases h:i<k<;>simp[h]
 refine ⟨hk,by rw[b1];simp[Nat.testBit_zero],λi=>?_,?_⟩
 ·rw[Nat.testBit_and,b1,b2];by_cases h:i<k
  ·simp[h]
  ·by_cases h':i=k
   ·subst h';simp[Nat.testBit_zero]
   ·obtain ⟨j,rfl⟩:∃j,i=k+(j+1):=⟨i - k - 1,by omega⟩;have e3:k+(j+1) - k=j+1:=by omega
    rw[if_neg h,if_neg h,e3,Nat.testBit_succ,Nat.testBit_succ];have d1:(2*m+1) / 2=m:=by omega
    have d2:2*m / 2=m:=by omega
    rw[d1,d2];simp
 ·have:x &&& (x - 1)<=x - 1:=Nat.and_le_right;omega
structure Rd where
 S:Nat
 sv:Nat
 M:Nat
 mv:Nat
 pl:Nat
 nv:Nat
 xv:Nat
 ev:Nat
 kk:Nat
 wk:Nat
 K:Nat
 kv:Nat
 av:Nat
structure Ol(w:World)(ρ:Rd):Prop where
 sv:w.heap[ρ.sv]?=some (.cells #[.pointer (some ⟨ρ.S,0,none⟩)] 295 (0,0))
 mv:w.heap[ρ.mv]?=some (.cells #[.map (some ρ.M)] 318 (0,0))
 nv:w.heap[ρ.nv]?=some (.cells #[.func (.func 196) #[] #[.pointer (some ⟨ρ.mv,0,none⟩),.pointer (some ⟨ρ.pl,0,none⟩)]] 284 (0,0))
 xv:w.heap[ρ.xv]?=some (.cells #[.func (.func 197) #[] #[.pointer (some ⟨ρ.pl,0,none⟩)]] 284 (0,0))
 kk:w.heap[ρ.kk]?=some (.cells #[.func (.func 175) #[] #[.pointer (some ⟨ρ.nv,0,none⟩),.pointer (some ⟨ρ.sv,0,none⟩),.pointer (some ⟨ρ.ev,0,none⟩)]] 301 (0,0))
 wk:w.heap[ρ.wk]?=some (.cells #[.func (.func 177) #[] #[.pointer (some ⟨ρ.sv,0,none⟩),.pointer (some ⟨ρ.xv,0,none⟩),.pointer (some ⟨ρ.kk,0,none⟩)]] 302 (0,0))
 kv:w.heap[ρ.kv]?=some (.cells #[.map (some ρ.K)] 319 (0,0))
 av:w.heap[ρ.av]?=some (.cells #[.func (.func 198) #[] #[.pointer (some ⟨ρ.kv,0,none⟩),.pointer (some ⟨ρ.wk,0,none⟩)]] 302 (0,0))
variable {ρ:Rd}
theorem Ol.fx(h:Ol w ρ)(hF:Fx X w w'):Ol w' ρ:=
 ⟨hF.stay _ _ _ (by decide) h.sv,hF.stay _ _ _ (by decide) h.mv,hF.stay _ _ _ (by decide) h.nv,hF.stay _ _ _ (by decide) h.xv,hF.stay _ _ _ (by decide) h.kk,hF.stay _ _ _ (by decide) h.wk,hF.stay _ _ _ (by decide) h.kv,hF.stay _ _ _ (by decide) h.av⟩
def plus(X:Nat->Prop)(ρ:Rd):Nat->Prop:=λk=>X k∨k=ρ.M∨k=ρ.K
structure ma(w:World)(X:Nat->Prop)(ρ:Rd)(n0:Nat)(root:aM)(ns:List (Nd Value))(ts:List D)(cu:List Nat)(en:Nat):Prop where
 shelf:Shelf w (plus X ρ) ρ.S n0 ns (fY root)
 tT:∃pv,jW w ρ.M ρ.pl pv cu/\∀k,pv.ownBlock=some k->¬X k
 ev:w.heap[ρ.ev]?=some (.cells #[.int .u64 en] 188 (0,0))
 nX:¬X ρ.M/\¬X ρ.pl/\¬X ρ.ev
 jn:F2 (aS (aB w) n0 ns) ts cu
 met:∀t∈ts,t∈met root
 bits:∀n,en.testBit n=true<->∃t,ts[n]?=some t/\t.re.aj=true
 sz:root.sz<=200
 leaves:root.leaves<=60
theorem ma.few(h:ma w X ρ n0 root ns ts cu en):cu.length<=61:=by
 obtain ⟨pv,hN,_⟩:=h.tT;have h1:=Lf (R:=λd k=>aS (aB w) n0 ns d k) (λd b b' r r'=>r.func h.shelf.Xa r') (P:=aQ.met root) hN.nodup (λk hk=>by obtain ⟨i,hi⟩:=List.mem_iff_getElem?.1 hk;obtain ⟨t,ht,hr⟩:=h.jn.get hi;exact ⟨t,h.met t (List.mem_of_getElem? ht),hr⟩);rw[sZ]at h1;have:=h.leaves;omega
theorem ma.Rs(h:ma w X ρ n0 root ns ts cu en):en<18446744073709551616:=by
 have h1:=h.few;rw[<-h.jn.length]at h1;refine Nat.lt_pow_two_of_testBit (n:=64) en λi hi=>?_
 cases hb:en.testBit i with
 | false=>rfl
 | true=>
  obtain ⟨t,ht,_⟩:=(h.bits i).1 hb;have:=au ht;omega
end Go.Proofs.YtgncgdkpkkdaeaaGreatDoor
