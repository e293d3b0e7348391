import Derived.Test.YtgncgdkpkkdaeaaGreatDoorAP
import Derived.Deep.RegionHeld3
set_option maxRecDepth 20000
set_option maxHeartbeats 2000000
namespace Go.Proofs.YtgncgdkpkkdaeaaGreatDoor
open Go.RowKit bu Go.Maps
variable {root:aP} {t:D} {ns:List (Nd Value)} {L ts us:List D} {js cM fF:List Nat} {R en eG j k n n0:Nat} {X:Nat->Prop} {ρ:Rd} {b:UInt8} {pv v:Value} {w w' w0 w3 wr:World}
def eB(ts L:List D)(R:Nat):Prop:=(∀t∈L,∃m,ts[m]?=some t/\R.testBit m=true)/\∀m,R.testBit m=true->∃t∈L,ts[m]?=some t
theorem eB.append(h:eB ts L R):eB (ts++us) L R:=
 ⟨λt ht=>let ⟨m,h1,h2⟩:=h.1 t ht;⟨m,bU h1,h2⟩,λm hm=>let ⟨t,h1,h2⟩:=h.2 m hm;⟨t,h1,bU h2⟩⟩
theorem eB.snoc(h:eB ts L R)(hn:ts[n]?=some t):eB ts (L++[t]) (R ||| 2 ^ n):=by
 refine ⟨λx hx=>?_,λm hm=>?_⟩
 ·rcases List.mem_append.1 hx with hx|hx
  ·obtain ⟨m,h1,h2⟩:=h.1 x hx;exact ⟨m,h1,by rw[Nat.testBit_or,h2];rfl⟩
  ·simp at hx;subst hx;exact ⟨n,hn,by rw[Nat.testBit_or,Nat.testBit_two_pow];simp⟩
 ·rw[Nat.testBit_or,Bool.or_eq_true]at hm;rcases hm with hm|hm
  ·obtain ⟨x,h1,h2⟩:=h.2 m hm;exact ⟨x,List.mem_append.2 (.inl h1),h2⟩
  ·rw[Nat.testBit_two_pow]at hm;simp at hm;subst hm;exact ⟨t,by simp,hn⟩
theorem eB.lt(h:eB ts L R)(hl:ts.length<=64):R<18446744073709551616:=by
 refine Nat.lt_pow_two_of_testBit (n:=64) R λi hi=>?_
 cases hb:R.testBit i with
 | false=>rfl
 | true=>
  obtain ⟨t,_,ht⟩:=h.2 i hb;have:=az ht;omega
def A8(X:Nat->Prop)(ρ:Rd)(pv:Value):Nat->Prop:=λk=>plus X ρ k∨RX ρ.M ρ.pl pv k∨k=ρ.ev
theorem nJ.beside(h:nJ w X ρ n0 root ns ts cM en)(hN:kZ w ρ.M ρ.pl pv cM):Shelf w (A8 X ρ pv) ρ.S n0 ns (gW root):=
 h.shelf.keep (bN.refl w) (λ_ _ _ ho _=>ho) (λk hk=>by
  rcases hk with hk|hk|rfl
  ·exact .inl hk
  ·rcases hk with rfl|hk
   ·exact .inl (.inr (.inl rfl))
   ·refine .inr λo ho=>?_
    cases o with
    | cells c t fz=>
     rcases hN.types (.inr hk) c t fz ho with rfl|rfl
     ·exact ⟨_,_,_,rfl,by decide,by decide⟩
     ·exact ⟨_,_,_,rfl,by decide,by decide⟩
    | _=>
     rcases hk with rfl|hk
     ·rw[hN.var]at ho;cases ho
     ·obtain ⟨c',hc'⟩:=hN.row.block hk;rw[hc']at ho;cases ho
  ·refine .inr λo ho=>?_
   rw[h.ev]at ho;cases ho;exact ⟨_,_,_,rfl,by decide,by decide⟩)
theorem OQ(hX:iG X w)(hK:ρ.K<w.heap.size)(hN:kZ w ρ.M ρ.pl pv cM)(he:w.heap[ρ.ev]?=some (.cells #[.int .u64 en] 188 (0,0))):iG (A8 X ρ pv) w:=by
 have hM:ρ.M<w.heap.size:=by obtain ⟨m,f,hm,_⟩:=hN.map;exact hm.lt
 rintro k ((hk|rfl|rfl)|(rfl|rfl|hk)|rfl)
 ·exact hX k hk
 ·exact hM
 ·exact hK
 ·exact hM
 ·exact ae hN.var
 ·obtain ⟨c,hc⟩:=hN.row.block hk;exact ae hc
 ·exact ae he
theorem nJ.Sq{ms:List (Nd Value)}(h:nJ w X ρ n0 root ns ts cM en)(hN:kZ w ρ.M ρ.pl pv cM)(hv:∀k,pv.ownBlock=some k->¬X k)(hF:Fx (A8 X ρ pv) w w')
  (hS:Shelf w' (A8 X ρ pv) ρ.S n0 (ns++ms) (gW root)) (hr:Row w' (A8 X ρ pv) v js):nJ w' (dH X v) ρ n0 root (ns++ms) ts cM en:=by
 have hst:=hF.dg;have hN':kZ w' ρ.M ρ.pl pv cM:=by refine ⟨(hF.keep _ (.inr (.inl (.inr (.inl rfl))))).trans hN.var,hN.row.iY λk hk=>hF.keep k (.inr (.inl (.inr (.inr hk)))),?_,hN.nodup,hN.small⟩;obtain ⟨m,f,hm,h1,h2⟩:=hN.map;exact ⟨m,f,hm.keep (hF.keep _ (.inr (.inl (.inl rfl)))),h1,h2⟩
 have he:=(hF.keep ρ.ev (.inr (.inr rfl))).trans h.ev;have hne:∀k,A8 X ρ pv k->v.ownBlock≠some k:=λk hk e=>hr.2 k e hk
 refine ⟨hS.keep (bN.refl _) (λ_ _ _ ho _=>ho) (λk hk=>?_),⟨pv,hN',?_⟩,he,⟨?_,?_,?_⟩,h.kh.mono λd k hh=>(aU.world hst hh).append,h.met,h.bits,h.sz,h.leaves⟩
 ·rcases hk with (hk|hk)|hk
  ·exact .inl (.inl (.inl hk))
  ·refine .inr λo ho=>?_
   obtain ⟨c,hc⟩:=hr.1.block hk;rw[hc]at ho;cases ho;exact ⟨_,_,_,rfl,by decide,by decide⟩
  ·exact .inl (.inl (.inr hk))
 ·rintro k hk (h1|h1)
  ·exact hv k hk h1
  ·exact hne k (.inr (.inl (.inr (.inr hk)))) h1
 ·rintro (h1|h1)
  ·exact h.nX.1 h1
  ·exact hne _ (.inr (.inl (.inl rfl))) h1
 ·rintro (h1|h1)
  ·exact h.nX.2.1 h1
  ·exact hne _ (.inr (.inl (.inr (.inl rfl)))) h1
 ·rintro (h1|h1)
  ·exact h.nX.2.2 h1
  ·exact hne _ (.inr (.inr rfl)) h1
theorem nJ.less(h:nJ w (dH X v) ρ n0 root ns ts cM en):nJ w X ρ n0 root ns ts cM en:=by obtain ⟨pv,hN,hv⟩:=h.vW;exact ⟨h.shelf.keep (bN.refl _) (λ_ _ _ h _=>h) (λk hk=>.inl (hk.elim (λh=>.inl (.inl h)) .inr)),⟨pv,hN,λk hk hx=>hv k hk (.inl hx)⟩,h.ev,⟨λhx=>h.nX.1 (.inl hx),λhx=>h.nX.2.1 (.inl hx),λhx=>h.nX.2.2 (.inl hx)⟩,h.kh,h.met,h.bits,h.sz,h.leaves⟩
def kt(X:Nat->Prop)(ρ:Rd)(n0:Nat)(root:aP)(ts L:List D)(w:World)(e:Ending)(w':World):Prop:=
 ∃(R:Nat) (Cp:List (Nd Value)) (us:List D) (fF:List Nat) (eG:Nat),e=.returned (.int .u64 R)/\Fx X w w'/\nJ w' X ρ n0 root Cp (ts++us) fF eG/\eB (ts++us) L R
def Dy(X:Nat->Prop)(ρ:Rd)(n0:Nat)(root:aP)(ns:List (Nd Value))(ts L:List D)(v:Value)(js:List Nat)(w:World)(k:Nat)(left i:Value)(wr:World):Prop:=
 ∃(j R:Nat) (us:List D) (fF:List Nat) (eG:Nat),i=.int .i64 j/\left=.int .u64 R/\j+k=js.length/\Fx (dH X v) w wr/\QI wr ρ/\Ints wr 0 v js/\F2 (aU (aH wr) n0 ns) L js/\nJ wr (dH X v) ρ n0 root ns (ts++us) fF eG/\eB (ts++us) (L.take j) R
theorem KM{x:D}{eH:List D}{Wq:List Nat}{Ug:Nat}
  (hj:j+(k+1)=js.length) (hF:Fx (dH X v) w wr) (hs:QI wr ρ) (hI:Ints wr 0 v js) (hL:F2 (aU (aH wr) n0 ns) L js) (dO:eB (ts++us) (L.take j) R) (hx:L[j]?=some x)
  (dJ:Fx (dH X v) wr w3) (sU:nJ w3 (dH X v) ρ n0 root ns eH Wq Ug) (hn:eH[n]?=some x) (jo:eH=ts++us∨eH=ts++us++[x]):
  Dy X ρ n0 root ns ts L v js w k (.int .u64 ((R ||| 2 ^ n:Nat):Int)) (.int .i64 ((j+1:Nat):Int)) w3:=by
 have Vi:=az hx;have etk:L.take (j+1)=L.take j++[x]:=by rw[List.take_succ_eq_append_getElem Vi];rw[cB Vi]at hx;rw[Option.some.inj hx]
 obtain ⟨wO,rfl,aaq⟩:∃wO,eH=ts++wO/\eB (ts++wO) (L.take j) R:=by
  rcases jo with rfl|rfl
  ·exact ⟨us,rfl,dO⟩
  ·exact ⟨us++[x],by simp,by rw[<-fP];exact dO.append⟩
 exact ⟨j+1,R ||| 2 ^ n,wO,Wq,Ug,rfl,rfl,by omega,hF.trans dJ,hs.fx dJ,hI.iY λb hb=>dJ.keep b (.inr hb),hL.mono λd k h=>aU.world dJ.dg h,sU,by rw[etk];exact aaq.snoc hn⟩
theorem OS
  (Ag:Fx X w0 w) (hj:j=js.length) (hF:Fx (dH X v) w wr) (hL:F2 (aU (aH wr) n0 ns) L js) (hD:nJ wr (dH X v) ρ n0 root ns (ts++us) fF eG) (dO:eB (ts++us) (L.take j) R):
  kt X ρ n0 root ts L w0 (.returned (.int .u64 (R:Int))) wr:=by
 have e:=hL.length;rw[List.take_of_length_le (by omega)]at dO;exact ⟨R,ns,us,fF,eG,rfl,Ag.trans (hF.sub λ_ h=>.inl h),hD.less,dO⟩
theorem eB.nil(ts:List D):eB ts [] 0:=⟨λ_ h=>by simp at h,λm hm=>by simp at hm⟩
theorem nJ.below(hD:nJ w X ρ n0 root ns ts cM en)(hb:Below w.heap.size w w'):nJ w' X ρ n0 root ns ts cM en:=by
 have hc:∀(k:Nat) o,w.heap[k]?=some o->w'.heap[k]?=some o:=λk o hh=>(hb.block k (ae hh)).trans hh
 have hst:bN w w':=bN.ay hb;obtain ⟨pv,hN,hv⟩:=hD.vW;refine ⟨hD.shelf.below hb,⟨pv,⟨hc _ _ hN.var,hN.row.iY λk hk=>?_,?_,hN.nodup,hN.small⟩,hv⟩,hc _ _ hD.ev,hD.nX,hD.kh.mono λd k hh=>aU.world hst hh,hD.met,hD.bits,hD.sz,hD.leaves⟩
 ·obtain ⟨c,hcc⟩:=hN.row.block hk;rw[hcc];exact hc _ _ hcc
 ·obtain ⟨m,f,hm,h1,h2⟩:=hN.map;exact ⟨m,f,hm.keep (hb.block _ hm.lt),h1,h2⟩
theorem kt.back{e:Ending}(hF:Fx X w w0)(h:kt X ρ n0 root ts L w0 e w'):kt X ρ n0 root ts L w e w':=by obtain ⟨R,Cp,us,fF,eG,h1,h2,h3⟩:=h;exact ⟨R,Cp,us,fF,eG,h1,hF.trans h2,h3⟩
theorem OT(X:Nat->Prop)(ρ:Rd)(n0:Nat)(root:aP)(ns:List (Nd Value))(ts:List D)(cM:List Nat)(en:Nat)(t:D)(n:Nat)(b:UInt8)(w:World)(hX:iG X w)(hK:ρ.K<w.heap.size)(hD:nJ w X ρ n0 root ns ts cM en)(hs:QI w ρ)(ht:ts[n]?=some t):
  Calls Tryz.prog 177 #[.agg #[.int .i64 n,.int .u8 b.toNat],.pointer (some ⟨ρ.sv,0,none⟩),.pointer (some ⟨ρ.xv,0,none⟩),.pointer (some ⟨ρ.kk,0,none⟩)] w (kt X ρ n0 root ts (pd b t) w):=by
 have X7:Below w.heap.size w (w.alloc (.cells #[.int .i64 n,.int .u8 b.toNat] 305)):=cq _ _
 suffices aar:Calls Tryz.prog 177 #[.agg #[.int .i64 n,.int .u8 b.toNat],.pointer (some ⟨ρ.sv,0,none⟩),.pointer (some ⟨ρ.xv,0,none⟩),.pointer (some ⟨ρ.kk,0,none⟩)] w (kt X ρ n0 root ts (pd b t) (w.alloc (.cells #[.int .i64 n,.int .u8 b.toNat] 305))) from aar.mono λe w' h=>h.back (Fx.ay hX X7)
 replace hs:=hs.fx (Fx.ay hX X7);replace hX:=hX.mono X7.size;replace hK:=dw hK X7.size;replace hD:=hD.below X7;have hG:=ag w (.cells #[.int .i64 n,.int .u8 b.toNat] 305);have pV:(w.alloc (.cells #[.int .i64 n,.int .u8 b.toNat] 305)).cell? ⟨w.heap.size,0,none⟩=some (.int .i64 n):=by rw[World.cell?,hG];rfl
 have ED:(w.alloc (.cells #[.int .i64 n,.int .u8 b.toNat] 305)).cell? ⟨w.heap.size,1,none⟩=some (.int .u8 b.toNat):=by rw[World.cell?,hG];rfl
 have HG:=aa hG;clear hG X7;obtain ⟨pv,hN,hv⟩:=hD.vW;obtain ⟨k,hk⟩:∃k,cM[n]?=some k:=by have h1:=az ht;rw[hD.kh.length]at h1;exact ⟨cM[n],cB h1⟩
 obtain ⟨t',jo,hr⟩:=hD.kh.get hk;rw[ht]at jo;cases jo;have htm:=hD.met t (bn ht)
 have hsz:t.sz<=1000000:=by
  have abL:root.sz*root.sz<=200*200:=Nat.mul_le_mul hD.sz hD.sz;simp only[met,List.mem_cons]at htm;rcases htm with rfl|h
  ·have:=hD.sz;simp only[D.sz];omega
  ·have:=Iq root t h;omega
 have s0:=aA hs.sv;have x0:=aA hs.xv;have HEX:=aa (sk ρ.M ρ.pl pv cM k n (w.alloc (.cells #[.int .i64 n,.int .u8 b.toNat] 305)).drew ⟨hN.var,hN.row,(let ⟨m,f,h1,h2⟩:=hN.map;⟨m,f,h1.keep rfl,h2⟩),hN.nodup,hN.small⟩ hk)
 have HDV:=aa (FI b t (A8 X ρ pv) ρ.S n0 ns (gW root) k (w.alloc (.cells #[.int .i64 n,.int .u8 b.toNat] 305)).drew (show iG (A8 X ρ pv) (w.alloc (.cells #[.int .i64 n,.int .u8 b.toNat] 305)).drew from OQ (w:=w.alloc (.cells #[.int .i64 n,.int .u8 b.toNat] 305)) hX hK hN hD.ev) (hD.beside hN).drew (aU.world (w:=w.alloc (.cells #[.int .i64 n,.int .u8 b.toNat] 305)) (w':=(w.alloc (.cells #[.int .i64 n,.int .u8 b.toNat] 305)).drew) (λ_ _ _ _ h=>h) hr) (xQ htm) hsz)
 have HX:=aa hX;have HD:=aa hD;have HS:=aa hs;have HN:=aa hN;have HV:=aa hv;have HTM:=aa htm;clear hX hD hs ht hN hv hk hr htm hK;obtain ⟨q,hq⟩:∃q,q=w.heap.size:=⟨_,rfl⟩;go_enter Tryz.func177,Tryz.ntmps177;go_wp2_with fail;rw[<-hq]at pV ED HG ⊢;clear hq;generalize w.alloc (.cells #[.int .i64 n,.int .u8 b.toNat] 305)=W at *
 have xG:=aa (λ(w2:World) (hF:Fx (A8 X ρ pv) W w2)=>show w2.cell? ⟨q,0,none⟩=some (.int .i64 n)/\w2.cell? ⟨q,1,none⟩=some (.int .u8 b.toNat)/\w2.cell? ⟨ρ.sv,0,none⟩=some (.pointer (some ⟨ρ.S,0,none⟩))/\w2.cell? ⟨ρ.xv,0,none⟩=some (.func (.func 197) #[] #[.pointer (some ⟨ρ.pl,0,none⟩)]) from
  have h1:=hF.stay _ _ _ (by decide) HG.out
  ⟨by simp[World.cell?,h1],by simp[World.cell?,h1],aA (HS.out.fx hF).sv,aA (HS.out.fx hF).xv⟩)
 go_region_held3 (λw'=>w'.cell? ⟨q,0,none⟩=some (.int .i64 n)/\w'.cell? ⟨q,1,none⟩=some (.int .u8 b.toNat)/\w'.cell? ⟨ρ.sv,0,none⟩=some (.pointer (some ⟨ρ.S,0,none⟩))/\w'.cell? ⟨ρ.xv,0,none⟩=some (.func (.func 197) #[] #[.pointer (some ⟨ρ.pl,0,none⟩)]))
  (first
   | with_reducible exact BG
   | go_keep)
  (first
   | (go_at_call 197;refine HEX.out.mono ?_;rintro e1 w1 ⟨rfl,rfl⟩)
   | (go_at_call 178;refine HDV.out.mono ?_;rintro e2 w2 ⟨v2,js,ms,rfl,hF2,kG,lF,ez⟩;obtain ⟨ao,cap,rfl⟩:=lF.1.form;have eU:=aa hF2.iz;have BG:=xG.out w2 eU.out;have yK:=aa kG;have Ai:=aa lF;have jV:=aa ez;clear hF2 kG lF ez))
 all_goals
  have hF2:=eU.out;have hs2:=HS.out.fx hF2;have L3:=HD.out.Sq HN.out HV.out hF2 yK.out Ai.out;have rE:js.length<=1000000:=by have h1:=jV.out.length;have h2:=fS b t;omega
  have HOX:=aa ((HX.out.fx hF2).dH Ai.out.1);have HI:=aa Ai.out.1;have HJ:=aa jV.out;have HD2:=aa L3;have HSC:=aa hs2;have HFX:=aa (hF2.sub (Y:=X) λ_ h=>.inl (.inl h));have BC:=aa (λx (hx:x∈pd b t)=>Fe root b t HTM.out x hx);clear eU yK Ai jV HX HD HS HN HV HTM hF2 hs2 L3 HEX HDV;go_wp2_with fail
  go_loopg [6,18] js.length (λk left i wr=>Dy X ρ n0 root (ns++ms) ts (pd b t) (.slice ao js.length cap) js w2 k left i wr)
  case atStart=>exact ⟨0,0,[],cM,en,by simp,by simp,by simp,Fx.refl _ _,HSC.out,HI.out,HJ.out,by simpa using HD2.out,by simpa using eB.nil _⟩
  case round=>
   obtain ⟨j,R,us,fF,eG,rfl,rfl,hj,ou,hs,hI,hL,Ws,dO⟩:=hrel;have Wt:=dO.lt (by have h1:=Ws.few;have h2:=Ws.kh.length;omega);by_cases hlt:j<js.length
   ·obtain ⟨f,hf⟩:∃f,js[j]?=some f:=⟨js[j],cB hlt⟩;obtain ⟨g',cap',e',Ty⟩:=hI.at hf;cases e';obtain ⟨xj,NT,ZM⟩:=hL.get hf;have c0:=aA hs.kk;have ll:=aa (Dx _ ρ n0 root (ns++ms) (ts++us) fF eG xj f wr (HOX.out.fx ou) Ws hs ZM (BC.out xj (bn NT)));have HFr:=aa ou;have Hsr:=aa hs;have HIr:=aa hI
    have Dz:=aa hL;have HDr:=aa Ws;have ace:=aa dO;have HXJ:=aa NT;clear ou hs hI hL Ws dO NT ZM hf;go_wp2_with fail;refine ll.out.mono ?_;rintro e w3 ⟨n3,eH,Wq,Ug,rfl,dJ,sU,T9,ht3⟩;have KL:n3<64:=by have h1:=az T9;have h2:=sU.few;have h3:=sU.kh.length;omega
    obtain ⟨k',rfl⟩:∃k',gk=k'+1:=⟨gk - 1,by omega⟩;have hstep:=KM hj HFr.out Hsr.out HIr.out Dz.out ace.out HXJ.out dJ sU T9 ht3;have Sn:=aa (bits_or_u64_nat R (2 ^ n3) Wt (pH KL));have HST:=aa hstep;clear hstep dJ sU T9 ht3 KL;go_wp2_with fail;go_roundg k'
    case measure=>omega
    case rel=>
     have hst:=HST.out;rw[<-Sn.out]at hst;have e2:((2 ^ n3:Nat):Int)=(2:Int) ^ n3:=by simp
     rw[e2]at hst;exact hst
   ·have aq:=aa (OS HFX.out (by omega) ou hL Ws dO);clear ou hs hI hL Ws dO;go_wp2_with fail;go_ret;exact aq.out
def EL(X:Nat->Prop)(ρ:Rd):Nat->Prop:=λk=>X k∨k=ρ.K
theorem OU(w:World):(zeroValue 188).run Tryz.prog w=.ok (.int .u64 0) w:=by kernel_rfl
structure Full(w:World)(X:Nat->Prop)(ρ:Rd)(n0:Nat)(root:aP)(ts:List D)(en:Nat):Prop where
 dyn:∃ns cM,nJ w (EL X ρ) ρ n0 root ns ts cM en
 X8:QI w ρ
 nK:¬X ρ.K
 known:∃(m:Nat) (f:Nat×UInt8->Option Int) (ks:List (Nat×UInt8)),cu iV 188 .u64 w ρ.K m f/\m<=ks.length/\ks.Nodup/\(∀x∈ks,x.1<ts.length/\(f x).isSome=true)/\∀n b c,f (n,b)=some c->∃(R:Nat) (t:D),c=R/\ts[n]?=some t/\eB ts (pd b t) R
def sG(X:Nat->Prop)(ρ:Rd)(n0:Nat)(root:aP)(ts L:List D)(w:World)(e:Ending)(w':World):Prop:=
 ∃(R:Nat) (us:List D) (eG:Nat),e=.returned (.int .u64 R)/\Fx X w w'/\Full w' X ρ n0 root (ts++us) eG/\eB (ts++us) L R
theorem Full.few(h:Full w X ρ n0 root ts en):ts.length<=61:=by obtain ⟨ns,cM,hD⟩:=h.dyn;rw[hD.kh.length];exact hD.few
theorem OV(ks:List (Nat×UInt8))(hn:ks.Nodup)(h:∀x∈ks,x.1<64):ks.length<=16384:=by
 have h1:=lD (l:=ks) (m:=(List.range 64).flatMap λn=>(List.range 256).map λb=>(n,b.toUInt8)) hn (λx hx=>by refine List.mem_flatMap.2 ⟨x.1,List.mem_range.2 (h x hx),List.mem_map.2 ⟨x.2.toNat,List.mem_range.2 x.2.toNat_lt,?_⟩⟩;refine Prod.ext rfl ?_;simp)
 have h2:((List.range 64).flatMap λn=>(List.range 256).map λb=>(n,b.toUInt8)).length<=(List.range 64).length*256:=gp _ 256 _ (λx _=>by simp);simp only[List.length_range]at h2;omega
theorem nJ.Wu{es:Array _}{lQ:Nat}(h:nJ w (EL X ρ) ρ n0 root ns ts cM en)(ho:w.heap[ρ.K]?=some (.map es lQ))(hg:w.grownBy w' (some ρ.K)):nJ w' (EL X ρ) ρ n0 root ns ts cM en:=by
 have hb:∀k:Nat,k<w.heap.size->k≠ρ.K->w'.heap[k]?=w.heap[k]?:=λk hk hne=>hg.block k hk (λe=>hne (Option.some.inj e))
 have hc:∀(k:Nat) c t fz,w.heap[k]?=some (.cells c t fz)->w'.heap[k]?=some (.cells c t fz):=λk c t fz hh=>by rw[hb k (ae hh) (by rintro rfl;rw[ho]at hh;cases hh)];exact hh
 have hst:bN w w':=λk c t _ hh=>hc k c t _ hh
 obtain ⟨pv,hN,hv⟩:=h.vW;refine ⟨h.shelf.keep hst (λk o XY hk _=>?_) (λ_ h=>.inl h),⟨pv,⟨hc _ _ _ _ hN.var,hN.row.iY λk hk=>?_,?_,hN.nodup,hN.small⟩,hv⟩,hc _ _ _ _ h.ev,h.nX,h.kh.mono λd k hh=>aU.world hst hh,h.met,h.bits,h.sz,h.leaves⟩
 ·rw[hb k (ae hk) (λe=>XY (.inr (.inr e)))];exact hk
 ·obtain ⟨c,hcc⟩:=hN.row.block hk;rw[hcc];exact hc _ _ _ _ hcc
 ·obtain ⟨m,f,hm,h1,h2⟩:=hN.map;exact ⟨m,f,hm.keep (hb _ hm.lt (λe=>h.nX.1 (.inr e))),h1,h2⟩
theorem Full.below(h:Full w X ρ n0 root ts en)(hb:Below w.heap.size w w'):Full w' X ρ n0 root ts en:=by
 obtain ⟨⟨ns,cM,hD⟩,hs,hk,m,f,ks,hm,h1,h2,h3,h4⟩:=h;have hc:∀(k:Nat) o,w.heap[k]?=some o->w'.heap[k]?=some o:=λk o hh=>(hb.block k (ae hh)).trans hh
 have hst:bN w w':=bN.ay hb;obtain ⟨pv,hN,hv⟩:=hD.vW
 refine ⟨⟨ns,cM,hD.shelf.below hb,⟨pv,⟨hc _ _ hN.var,hN.row.iY λk hk=>?_,?_,hN.nodup,hN.small⟩,hv⟩,hc _ _ hD.ev,hD.nX,hD.kh.mono λd k hh=>aU.world hst hh,hD.met,hD.bits,hD.sz,hD.leaves⟩,⟨hc _ _ hs.sv,hc _ _ hs.mv,hc _ _ hs.nv,hc _ _ hs.xv,hc _ _ hs.kk,hc _ _ hs.wk,hc _ _ hs.kv,hc _ _ hs.av⟩,hk,m,f,ks,hm.keep (hb.block _ hm.lt),h1,h2,h3,h4⟩
 ·obtain ⟨c,hcc⟩:=hN.row.block hk;rw[hcc];exact hc _ _ hcc
 ·obtain ⟨m,f,hm,h1,h2⟩:=hN.map;exact ⟨m,f,hm.keep (hb.block _ hm.lt),h1,h2⟩
theorem KN{m:Nat}{w1 w2:World}{Cp:List (Nd Value)}{f:Nat×UInt8->Option Int}{ks:List (Nat×UInt8)}
  (hX:iG X w) (hF:Full w X ρ n0 root ts en) (hB:Below w.heap.size w w0) (hm:m<=ks.length) (hn:ks.Nodup) (qG:∀x∈ks,x.1<ts.length/\(f x).isSome=true) (hf:∀n b c,f (n,b)=some c->∃(R:Nat) (t:D),c=R/\ts[n]?=some t/\eB ts (pd b t) R)
  (ht:ts[n]?=some t) (hnone:f (n,b)=none) (gG:Fx (EL X ρ) w0 w1) (X9:nJ w1 (EL X ρ) ρ n0 root Cp (ts++us) fF eG) (hs1:eB (ts++us) (pd b t) R) (L8:cu iV 188 .u64 w1 ρ.K m f)
  (C2:cu iV 188 .u64 w2 ρ.K (m+1) (λy=>if y=(n,b) then some (R:Int) else f y)) (hg:w1.grownBy w2 (some ρ.K)):sG X ρ n0 root ts (pd b t) w (.returned (.int .u64 R)) w2:=by
 obtain ⟨es,lQ,ho⟩:=L8.obj;have Ag:Fx X w w1:=(Fx.ay hX hB).trans (gG.sub λ_ h=>.inl h);have hF2:Fx X w w2:=Ag.grown hg (hX.fx Ag) (λk e=>by cases e;exact hF.nK) (λk e c t fz hh=>by cases e;rw[ho]at hh;cases hh);refine ⟨R,us,eG,rfl,hF2,⟨⟨Cp,fF,X9.Wu ho hg⟩,hF.X8.fx hF2,hF.nK,m+1,_,(n,b)::ks,C2,by simp;omega,List.nodup_cons.2 ⟨λhx=>?_,hn⟩,?_,?_⟩,hs1⟩
 ·have:=(qG _ hx).2;rw[hnone]at this;cases this
 ·intro x hx;have hl:=az ht;rcases List.mem_cons.1 hx with rfl|hx
  ·exact ⟨by simp;omega,by simp⟩
  ·obtain ⟨h1,h2⟩:=qG x hx;refine ⟨by simp;omega,?_⟩;by_cases e:x=(n,b)
   ·simp[e]
   ·simp[e,h2]
 ·intro n' b' c hc;by_cases e:(n',b')=(n,b)
  ·rw[if_pos e]at hc;simp only[Prod.mk.injEq]at e;obtain ⟨rfl,rfl⟩:=e;exact ⟨R,t,(Option.some.inj hc).symm,bU ht,hs1⟩
  ·rw[if_neg e]at hc;obtain ⟨R',t',h1,h2,h3⟩:=hf n' b' c hc;exact ⟨R',t',h1,bU h2,h3.append⟩
theorem wf_u64(h:R<18446744073709551616):(Lit.int .u64 (R:Int)).wf=true:=by simp only[Lit.wf,IntKind.min,IntKind.max,IntKind.signed,IntKind.bits];simp;omega
theorem KO(X:Nat->Prop)(ρ:Rd)(n0:Nat)(root:aP)(ts:List D)(en:Nat)(t:D)(n:Nat)(b:UInt8)(w:World)(hX:iG X w)(hF:Full w X ρ n0 root ts en)(ht:ts[n]?=some t):
  Calls Tryz.prog 198 #[.agg #[.int .i64 n,.int .u8 b.toNat],.pointer (some ⟨ρ.kv,0,none⟩),.pointer (some ⟨ρ.wk,0,none⟩)] w (sG X ρ n0 root ts (pd b t) w):=by
 obtain ⟨m,f,ks,hM,hm,hnd,qG,hf⟩:=hF.known;have hl:=az ht;have tT:=hF.few;have c0:=aA hF.X8.kv;have VM:=aw c0
 have hlk:(Instr.lookup 319 (.map (some ρ.K)) (.agg #[.int .i64 n,.int .u8 b.toNat]) true).run Tryz.prog (w.alloc (.cells #[.int .i64 n,.int .u8 b.toNat] 305))=.ok (.tuple #[.int .u64 ((f (n,b)).getD 0),.bool (f (n,b)).isSome]) (w.alloc (.cells #[.int .i64 n,.int .u8 b.toNat] 305)):=by
  have h5:cu iV 188 .u64 (w.alloc (.cells #[.int .i64 n,.int .u8 b.toNat] 305)) ρ.K m f:=hM.keep (Below.heap_alloc _ _ _ hM.lt);exact h5.look (t:=319) Tryz.underlying319 Tryz.underlying188 OU (n,b) (by show n<=_;omega)
 cases hfn:f (n,b) with
 | some c=>
  obtain ⟨R,t',rfl,jo,dO⟩:=hf n b c hfn;rw[ht]at jo;cases jo;rw[hfn]at hlk;have xR:(Instr.lookup 319 (.map (some ρ.K)) (.agg #[.int .i64 n,.int .u8 b.toNat]) true).run Tryz.prog (w.alloc (.cells #[.int .i64 n,.int .u8 b.toNat] 305))=.ok (.tuple #[.int .u64 R,.bool true]) (w.alloc (.cells #[.int .i64 n,.int .u8 b.toNat] 305)):=hlk
  clear hlk
  have aq:=aa (show sG X ρ n0 root ts (pd b t) w (.returned (.int .u64 R)) (w.alloc (.cells #[.int .i64 n,.int .u8 b.toNat] 305)) from
   have hb:Below w.heap.size w (w.alloc (.cells #[.int .i64 n,.int .u8 b.toNat] 305)):=cq _ _
   ⟨R,[],en,rfl,Fx.ay hX hb,by simpa using hF.below hb,by simpa using dO⟩)
  clear hF hX hM hm hnd qG hf dO hfn ht;go_enter Tryz.func198,Tryz.ntmps198;go_wp2;go_ret;exact aq.out
 | none=>
  rw[hfn]at hlk;have xR:(Instr.lookup 319 (.map (some ρ.K)) (.agg #[.int .i64 n,.int .u8 b.toNat]) true).run Tryz.prog (w.alloc (.cells #[.int .i64 n,.int .u8 b.toNat] 305))=.ok (.tuple #[.int .u64 0,.bool false]) (w.alloc (.cells #[.int .i64 n,.int .u8 b.toNat] 305)):=hlk;clear hlk
  have hb:Below w.heap.size w (w.alloc (.cells #[.int .i64 n,.int .u8 b.toNat] 305)):=cq _ _;have HB:=aa hb;have Wv:=hM.lt;have Ag:=hF.below hb;obtain ⟨ns,cM,hD0⟩:=Ag.dyn
  have hX0:iG (EL X ρ) (w.alloc (.cells #[.int .i64 n,.int .u8 b.toNat] 305)):=by
   rintro k (hk|rfl)
   ·exact (hX.mono hb.size) k hk
   ·exact dw hM.lt hb.size
  have JK:=aa (OT (EL X ρ) ρ n0 root ns ts cM en t n b _ hX0 (hX0 _ (.inr rfl)) hD0 Ag.X8 ht);have c1:=aA Ag.X8.wk;have HT:=aa (ag w (.cells #[.int .i64 n,.int .u8 b.toNat] 305));have HX:=aa hX;have HF:=aa hF;have HM:=aa hM;have Hm:=aa hm;have Mh:=aa hnd;have HKS:=aa qG;have Hf:=aa hf;have HFN:=aa hfn;have Ht:=aa ht
  clear hF hX hM hm hnd qG hf hfn ht hD0 Ag hX0 hb Wv;go_enter Tryz.func198,Tryz.ntmps198;go_wp2_with fail;refine JK.out.mono ?_;rintro e w1 ⟨R,Cp,us,fF,eG,rfl,gG,X9,hs1⟩;have Wt:=hs1.lt (by have h1:=X9.few;have h2:=X9.kh.length;omega)
  have hM0:cu iV 188 .u64 (w.alloc (.cells #[.int .i64 n,.int .u8 b.toNat] 305)) ρ.K m f:=HM.out.keep (Below.heap_alloc _ _ _ HM.out.lt);have L8:cu iV 188 .u64 w1 ρ.K m f:=hM0.keep (gG.keep _ (.inr rfl));have Ya:=gG.stay _ _ _ (by decide) HT.out;have adO:=aA (gG.stay _ _ _ (by decide) (HF.out.below HB.out).X8.kv)
  have k0:w1.cell? ⟨w.heap.size,0,none⟩=some (.int .i64 n):=by simp[World.cell?,Ya]
  have k1:w1.cell? ⟨w.heap.size,1,none⟩=some (.int .u8 b.toNat):=by simp[World.cell?,Ya]
  have hmk:m<1000000000000:=by have h1:=OV ks Mh.out (λx hx=>by have:=(HKS.out x hx).1;omega);have h2:=Hm.out;omega
  obtain ⟨w2,hrun,C2,hg⟩:=L8.store (t:=319) Tryz.underlying319 Tryz.underlying188 hmk (n,b) (by show n<=_;omega) (R:Int) (wf_u64 Wt);have IC:(Instr.mapUpdate 319 (.map (some ρ.K)) (.agg #[.int .i64 n,.int .u8 b.toNat]) (.int .u64 R)).run Tryz.prog w1=.ok () w2:=hrun
  have aq:=aa (KN HX.out HF.out HB.out Hm.out Mh.out HKS.out Hf.out Ht.out HFN.out gG X9 hs1 L8 C2 hg);clear gG X9 hs1 hM0 L8 Ya hrun C2 hg JK c1 xR HM HB HT HX HF Hm Mh HKS Hf HFN Ht;go_wp2;go_ret;exact aq.out
def di(ts:List D)(L:Nat)(u:List UInt8):Prop:=∃(m:Nat) (t:D),L.testBit m=true/\ts[m]?=some t/\Mt t.re u
def oM(ts:List D)(L:Nat):Prop:=∀m,L.testBit m=true->m<ts.length
theorem oM.append{L:Nat}(h:oM ts L):oM (ts++us) L:=λm hm=>by have:=h m hm;simp;omega
theorem oM.or{L:Nat}(h:oM ts L)(h':oM ts R):oM ts (L ||| R):=λm hm=>by rw[Nat.testBit_or,Bool.or_eq_true]at hm;exact hm.elim (h m) (h' m)
theorem oM.lt{L:Nat}(h:oM ts L)(hl:ts.length<=64):L<18446744073709551616:=by
 refine Nat.lt_pow_two_of_testBit (n:=64) L λi hi=>?_
 cases hb:L.testBit i with
 | false=>rfl
 | true=>have:=h i hb;omega
theorem di.append{L:Nat}(h:oM ts L)(u:List UInt8):di (ts++us) L u<->di ts L u:=by
 constructor
 ·rintro ⟨m,t,h1,h2,h3⟩;rw[nz (h m h1)]at h2;exact ⟨m,t,h1,h2,h3⟩
 ·rintro ⟨m,t,h1,h2,h3⟩;exact ⟨m,t,h1,bU h2,h3⟩
theorem di.or{L:Nat}{u:List UInt8}:di ts (L ||| R) u<->di ts L u∨di ts R u:=by
 constructor
 ·rintro ⟨m,t,h1,h2,h3⟩;rw[Nat.testBit_or,Bool.or_eq_true]at h1;exact h1.elim (λh=>.inl ⟨m,t,h,h2,h3⟩) (λh=>.inr ⟨m,t,h,h2,h3⟩)
 ·rintro (⟨m,t,h1,h2,h3⟩|⟨m,t,h1,h2,h3⟩)
  ·exact ⟨m,t,by rw[Nat.testBit_or,h1];rfl,h2,h3⟩
  ·exact ⟨m,t,by rw[Nat.testBit_or,h1];simp,h2,h3⟩
theorem eB.inr(h:eB ts L R):oM ts R:=λm hm=>let ⟨_,_,h2⟩:=h.2 m hm;az h2
theorem eB.acf(h:eB ts L R)(u:List UInt8):di ts R u<->∃d∈L,Mt d.re u:=by
 constructor
 ·rintro ⟨m,t,h1,h2,h3⟩;obtain ⟨t',h4,h5⟩:=h.2 m h1;rw[h2]at h5;cases h5;exact ⟨t,h4,h3⟩
 ·rintro ⟨d,h1,h2⟩;obtain ⟨m,h3,h4⟩:=h.1 d h1;exact ⟨m,d,h4,h3,h2⟩
def qM(X:Nat->Prop)(ρ:Rd)(n0:Nat)(root:aP)(ts:List D)(L:Nat)(b:UInt8)(w:World)(e:Ending)(w':World):Prop:=
 ∃(R:Nat) (us:List D) (eG:Nat),e=.returned (.int .u64 R)/\Fx X w w'/\Full w' X ρ n0 root (ts++us) eG/\oM (ts++us) R/\∀u,di (ts++us) R u<->di ts L (b::u)
def DA(X:Nat->Prop)(ρ:Rd)(n0:Nat)(root:aP)(ts:List D)(L:Nat)(b:UInt8)(w:World)(k:Nat)(left out:Value)(wr:World):Prop:=
 ∃(o:Nat) (us:List D) (eG:Nat),left=.int .u64 k/\out=.int .u64 o/\Fx X w wr/\Full wr X ρ n0 root (ts++us) eG/\oM ts k/\oM (ts++us) o/\(∀i,k.testBit i=true->L.testBit i=true) /\
  ∀u,di (ts++us) o u<->∃i t,L.testBit i=true/\k.testBit i=false/\ts[i]?=some t/\Mt t.re (b::u)
theorem KP{wO:List D}{L o:Nat}(hX:Fx X w wr)(hk:oM ts k)(xE:k≠0)(KQ:k<18446744073709551616)(ho:oM (ts++us) o)(hs:∀i,k.testBit i=true->L.testBit i=true)
  (hl:∀u,di (ts++us) o u<->∃i t,L.testBit i=true/\k.testBit i=false/\ts[i]?=some t/\Mt t.re (b::u)) (ht:ts[Lib.ctz 64 k]?=some t) (dJ:Fx X wr w3) (oN:Full w3 X ρ n0 root (ts++us++wO) eG) (dO:eB (ts++us++wO) (pd b t) R):
  DA X ρ n0 root ts L b w (k &&& (k - 1)) (.int .u64 ((k &&& (k - 1):Nat):Int)) (.int .u64 ((o ||| R:Nat):Int)) w3:=by
 obtain ⟨h1,h2,h3,h4⟩:=IE k KQ xE;generalize Lib.ctz 64 k=c at *;rw[fP]at oN dO;refine ⟨o ||| R,us++wO,eG,rfl,rfl,hX.trans dJ,oN,λm hm=>hk m ?_,?_,λi hi=>hs i ?_,λu=>?_⟩
 ·rw[h3]at hm;simp at hm;exact hm.1
 ·rw[<-fP];rw[<-fP]at dO;exact ho.append.or dO.inr
 ·rw[h3]at hi;simp at hi;exact hi.1
 ·rw[di.or,<-fP,di.append ho,hl];rw[<-fP]at dO;rw[dO.acf,<-Rn];constructor
  ·rintro (⟨i,t',a1,a2,a3,a4⟩|h)
   ·exact ⟨i,t',a1,by rw[h3,a2];rfl,a3,a4⟩
   ·exact ⟨c,t,hs c h2,by rw[h3];simp,ht,h⟩
  ·rintro ⟨i,t',a1,a2,a3,a4⟩;rw[h3]at a2;simp at a2
   cases hki:k.testBit i with
   | false=>exact .inl ⟨i,t',a1,hki,a3,a4⟩
   | true=>
    have e:=a2 hki;subst e;rw[ht]at a3;cases a3;exact .inr a4
theorem OW(X:Nat->Prop)(ρ:Rd)(n0:Nat)(root:aP)(ts:List D)(en:Nat)(L:Nat)(b:UInt8)(w:World)(hX:iG X w)(h0:X 1)(hT:lC w)(hF:Full w X ρ n0 root ts en)(hL:oM ts L):
  Calls Tryz.prog 180 #[.func (.func 198) #[] #[.pointer (some ⟨ρ.kv,0,none⟩),.pointer (some ⟨ρ.wk,0,none⟩)],.int .u64 L,.int .u8 b.toNat] w (qM X ρ n0 root ts L b w):=by
 have HX:=aa hX;have H0:=aa h0;have HT:=aa hT;have HF:=aa hF;have HL:=aa hL;clear hX h0 hT hF hL;go_enter Tryz.func180,Tryz.ntmps180;go_wp2_with fail;go_loopg [1,7] L (λk left out wr=>DA X ρ n0 root ts L b w k left out wr)
 case atStart=>
  refine ⟨0,[],en,rfl,rfl,Fx.refl _ _,by simpa using HF.out,HL.out,by intro m hm;simp at hm,λi hi=>hi,λu=>?_⟩;constructor
  ·rintro ⟨m,t,h1,_⟩;simp at h1
  ·rintro ⟨i,t,h1,h2,_⟩;rw[h1]at h2;cases h2
 case round=>
  obtain ⟨o,us,eG,rfl,rfl,ou,oN,hk,ho,oY,hl⟩:=hrel;have tT:=oN.few;have KQ:=hk.lt (by simp at tT;omega);have acg:=ho.lt (by omega);by_cases xE:gk=0
  ·have aq:=aa (show qM X ρ n0 root ts L b w (.returned (.int .u64 o)) wr from ⟨o,us,eG,rfl,ou,oN,ho,λu=>(by
    rw[hl u];subst xE;constructor
    ·rintro ⟨i,t,h1,_,h3,h4⟩;exact ⟨i,t,h1,h3,h4⟩
    ·rintro ⟨i,t,h1,h3,h4⟩;exact ⟨i,t,h1,by simp,h3,h4⟩)⟩)
   subst xE;clear ou oN hk ho oY hl;go_wp2_with fail;go_ret;exact aq.out
  ·have adP:((gk:Int)==0)=false:=by rw[er];omega
   obtain ⟨adQ,hcb,il,ach⟩:=IE gk KQ xE;obtain ⟨t,ht⟩:∃t,ts[Lib.ctz 64 gk]?=some t:=⟨_,cB (hk _ hcb)⟩;have HTZ:=aa (VT gk wr KQ xE (HT.out.keep (ou.keep 1 H0.out)));have Ww:=aa (KO X ρ n0 root (ts++us) eG t (Lib.ctz 64 gk) b wr (HX.out.fx ou) oN (bU ht));have EE:=aa ou;have Hk:=aa hk
   have Ho:=aa ho;have Hs:=aa oY;have Hl:=aa hl;have Ht:=aa ht;clear ou oN hk ho oY hl ht hcb il;go_wp2_with fail;refine HTZ.out.mono ?_;rintro e w1 ⟨rfl,rfl⟩;go_wp2_with fail;refine Ww.out.mono ?_;rintro e w3 ⟨R,wO,Ug,rfl,dJ,mQ,OX⟩;have aci:=OX.inr.lt (by have h1:=mQ.few;omega)
   have HST:=aa (KP EE.out Hk.out xE KQ Ho.out Hs.out Hl.out Ht.out dJ mQ OX);have Sn:=aa (bits_or_u64_nat o R acg aci);have Zg:=aa (bits_and_u64_nat gk (gk - 1) KQ (by omega));have HM1:=aa (show ((gk:Int) - 1)=((gk - 1:Nat):Int) from by omega);clear dJ mQ OX HTZ Ww;go_wp2_with fail;go_roundg (gk &&& (gk - 1))
   case measure=>exact ach
   case rel=>have hst:=HST.out;rw[<-Sn.out,<-Zg.out,<-HM1.out]at hst;exact hst
theorem nR(X:Nat->Prop)(ρ:Rd)(n0:Nat)(root:aP)(ts:List D)(en:Nat)(L:Nat)(b:UInt8)(w:World)(hX:iG X w)(h0:X 1)(hT:lC w)(hF:Full w X ρ n0 root ts en)(hL:oM ts L):
  Calls Tryz.prog 179 #[.int .u64 L,.int .u8 b.toNat,.pointer (some ⟨ρ.av,0,none⟩)] w (qM X ρ n0 root ts L b w):=by
 have c0:=aA hF.X8.av;have HG:=aa (OW X ρ n0 root ts en L b w hX h0 hT hF hL);clear hX h0 hT hF hL;go_enter Tryz.func179,Tryz.ntmps179;go_wp2_with fail;refine HG.out.mono ?_;rintro e w1 ⟨R,us,eG,rfl,h1,h2,h3,h4⟩;have aq:=aa (show qM X ρ n0 root ts L b w (.returned (.int .u64 R)) w1 from ⟨R,us,eG,rfl,h1,h2,h3,h4⟩)
 clear h1 h2 h3 h4;go_wp2;go_ret;exact aq.out
theorem OY(h:nJ w X ρ n0 root ns ts cM en)(L:Nat):L &&& en≠0<->di ts L []:=by
 constructor
 ·intro hne;obtain ⟨i,hi⟩:=Nat.exists_testBit_of_ne_zero hne;rw[Nat.testBit_and,Bool.and_eq_true]at hi;obtain ⟨t,h1,h2⟩:=(h.bits i).1 hi.2;exact ⟨i,t,hi.1,h1,(mj _).2 h2⟩
 ·rintro ⟨m,t,h1,h2,h3⟩ h0;have hb:=(h.bits m).2 ⟨t,h2,(mj _).1 h3⟩;have:(L &&& en).testBit m=true:=by rw[Nat.testBit_and,h1,hb];rfl
  rw[h0]at this;simp at this
def OZ(ts:List D)(L:Nat)(w:World)(e:Ending)(w':World):Prop:=∃x,e=.returned (.bool x)/\w'=w/\(x=true<->di ts L [])
theorem zb(X:Nat->Prop)(ρ:Rd)(n0:Nat)(root:aP)(ts:List D)(en:Nat)(L:Nat)(w:World)(hF:Full w X ρ n0 root ts en)(hL:oM ts L):
  Calls Tryz.prog 181 #[.int .u64 L,.pointer (some ⟨ρ.ev,0,none⟩)] w (OZ ts L w):=by
 have tT:=hF.few;obtain ⟨ns,cM,hD⟩:=hF.dyn;have c0:=aA hD.ev;have HB:=aa (bits_and_u64_nat L en (hL.lt (by omega)) hD.T5);have HE:=aa (OY hD L);clear hF hL hD;go_enter Tryz.func181,Tryz.ntmps181;go_wp2;go_ret;refine ⟨_,rfl,rfl,?_⟩;rw[<-HE.out,HB.out];simp only[bne_iff_ne,ne_eq];omega
def rdv(ρ:Rd)(start:Nat):Value:=.agg #[.int .u64 start,.func (.func 179) #[] #[.pointer (some ⟨ρ.av,0,none⟩)],.func (.func 181) #[] #[.pointer (some ⟨ρ.ev,0,none⟩)]]
end Go.Proofs.YtgncgdkpkkdaeaaGreatDoor
