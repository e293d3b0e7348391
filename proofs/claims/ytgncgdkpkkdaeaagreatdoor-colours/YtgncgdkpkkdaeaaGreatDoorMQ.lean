import Derived.Test.YtgncgdkpkkdaeaaGreatDoorMP
import Derived.Maps.RangeWalk
import Derived.Deep.RegionHeld3
namespace Go.Proofs.YtgncgdkpkkdaeaaGreatDoor
open Go.RowKit aQ Go.Maps
variable {root:aM} {t:D} {ns:List (Nd Value)} {L ts us:List D} {js cu eK:List Nat} {R en dX j k n n0:Nat} {X:Nat->Prop} {ρ:Rd} {b:UInt8} {pv v:Value} {w w' w0 w3 wr:World}
def dT(ts L:List D)(R:Nat):Prop:=(∀t∈L,∃m,ts[m]?=some t/\R.testBit m=true)/\∀m,R.testBit m=true->∃t∈L,ts[m]?=some t
theorem dT.append(h:dT ts L R):dT (ts++us) L R:=
 ⟨λt ht=>let ⟨m,h1,h2⟩:=h.1 t ht;⟨m,bI h1,h2⟩,λm hm=>let ⟨t,h1,h2⟩:=h.2 m hm;⟨t,h1,bI h2⟩⟩
theorem dT.snoc(h:dT ts L R)(hn:ts[n]?=some t):dT ts (L++[t]) (R ||| 2 ^ n):=by
 refine ⟨λx hx=>?_,λm hm=>?_⟩
 ·rcases List.mem_append.1 hx with hx|hx
  ·obtain ⟨m,h1,h2⟩:=h.1 x hx;exact ⟨m,h1,by rw[Nat.testBit_or,h2];rfl⟩
  ·simp at hx;subst hx;exact ⟨n,hn,by rw[Nat.testBit_or,Nat.testBit_two_pow];simp⟩
 ·rw[Nat.testBit_or,Bool.or_eq_true]at hm;rcases hm with hm|hm
  ·obtain ⟨x,h1,h2⟩:=h.2 m hm;exact ⟨x,List.mem_append.2 (.inl h1),h2⟩
  ·rw[Nat.testBit_two_pow]at hm;simp at hm;subst hm;exact ⟨t,by simp,hn⟩
theorem dT.lt(h:dT ts L R)(hl:ts.length<=64):R<18446744073709551616:=by
 refine Nat.lt_pow_two_of_testBit (n:=64) R λi hi=>?_
 cases hb:R.testBit i with
 | false=>rfl
 | true=>
  obtain ⟨t,_,ht⟩:=h.2 i hb;have:=au ht;omega
def yR(X:Nat->Prop)(ρ:Rd)(pv:Value):Nat->Prop:=λk=>plus X ρ k∨Ps ρ.M ρ.pl pv k∨k=ρ.ev
theorem ma.beside(h:ma w X ρ n0 root ns ts cu en)(hN:jW w ρ.M ρ.pl pv cu):Shelf w (yR X ρ pv) ρ.S n0 ns (fY root):=
 h.shelf.keep (bu.refl w) (λ_ _ _ ho _=>ho) (λk hk=>by
  rcases hk with hk|hk|rfl
  ·exact .inl hk
  ·rcases hk with rfl|hk
   ·exact .inl (.inr (.inl rfl))
   ·refine .inr λo ho=>?_
    cases o with
    | cells c t fz=>
     rcases hN.types (.inr hk) c t fz ho with rfl|rfl
     ·exact ⟨_,_,_,rfl,by decide,by decide⟩
     ·exact ⟨_,_,_,rfl,by decide,by decide⟩
    | _=>
     rcases hk with rfl|hk
     ·rw[hN.var]at ho;cases ho
     ·obtain ⟨c',hc'⟩:=hN.row.block hk;rw[hc']at ho;cases ho
  ·refine .inr λo ho=>?_
   rw[h.ev]at ho;cases ho;exact ⟨_,_,_,rfl,by decide,by decide⟩)
theorem Mu(hX:gI X w)(hK:ρ.K<w.heap.size)(hN:jW w ρ.M ρ.pl pv cu)(he:w.heap[ρ.ev]?=some (.cells #[.int .u64 en] 188 (0,0))):gI (yR X ρ pv) w:=by
 have hM:ρ.M<w.heap.size:=by obtain ⟨m,f,hm,_⟩:=hN.map;exact hm.lt
 rintro k ((hk|rfl|rfl)|(rfl|rfl|hk)|rfl)
 ·exact hX k hk
 ·exact hM
 ·exact hK
 ·exact hM
 ·exact ae hN.var
 ·obtain ⟨c,hc⟩:=hN.row.block hk;exact ae hc
 ·exact ae he
theorem ma.PT{ms:List (Nd Value)}(h:ma w X ρ n0 root ns ts cu en)(hN:jW w ρ.M ρ.pl pv cu)(hv:∀k,pv.ownBlock=some k->¬X k)(hF:Fx (yR X ρ pv) w w')
  (hS:Shelf w' (yR X ρ pv) ρ.S n0 (ns++ms) (fY root)) (hr:Row w' (yR X ρ pv) v js):ma w' (di X v) ρ n0 root (ns++ms) ts cu en:=by
 have hst:=hF.dh;have hN':jW w' ρ.M ρ.pl pv cu:=by refine ⟨(hF.keep _ (.inr (.inl (.inr (.inl rfl))))).trans hN.var,hN.row.ig λk hk=>hF.keep k (.inr (.inl (.inr (.inr hk)))),?_,hN.nodup,hN.small⟩;obtain ⟨m,f,hm,h1,h2⟩:=hN.map;exact ⟨m,f,hm.keep (hF.keep _ (.inr (.inl (.inl rfl)))),h1,h2⟩
 have he:=(hF.keep ρ.ev (.inr (.inr rfl))).trans h.ev;have hne:∀k,yR X ρ pv k->v.ownBlock≠some k:=λk hk e=>hr.2 k e hk
 refine ⟨hS.keep (bu.refl _) (λ_ _ _ ho _=>ho) (λk hk=>?_),⟨pv,hN',?_⟩,he,⟨?_,?_,?_⟩,h.jn.mono λd k hh=>(aS.world hst hh).append,h.met,h.bits,h.sz,h.leaves⟩
 ·rcases hk with (hk|hk)|hk
  ·exact .inl (.inl (.inl hk))
  ·refine .inr λo ho=>?_
   obtain ⟨c,hc⟩:=hr.1.block hk;rw[hc]at ho;cases ho;exact ⟨_,_,_,rfl,by decide,by decide⟩
  ·exact .inl (.inl (.inr hk))
 ·rintro k hk (h1|h1)
  ·exact hv k hk h1
  ·exact hne k (.inr (.inl (.inr (.inr hk)))) h1
 ·rintro (h1|h1)
  ·exact h.nX.1 h1
  ·exact hne _ (.inr (.inl (.inl rfl))) h1
 ·rintro (h1|h1)
  ·exact h.nX.2.1 h1
  ·exact hne _ (.inr (.inl (.inr (.inl rfl)))) h1
 ·rintro (h1|h1)
  ·exact h.nX.2.2 h1
  ·exact hne _ (.inr (.inr rfl)) h1
theorem ma.less(h:ma w (di X v) ρ n0 root ns ts cu en):ma w X ρ n0 root ns ts cu en:=by obtain ⟨pv,hN,hv⟩:=h.tT;exact ⟨h.shelf.keep (bu.refl _) (λ_ _ _ h _=>h) (λk hk=>.inl (hk.elim (λh=>.inl (.inl h)) .inr)),⟨pv,hN,λk hk hx=>hv k hk (.inl hx)⟩,h.ev,⟨λhx=>h.nX.1 (.inl hx),λhx=>h.nX.2.1 (.inl hx),λhx=>h.nX.2.2 (.inl hx)⟩,h.jn,h.met,h.bits,h.sz,h.leaves⟩
def jx(X:Nat->Prop)(ρ:Rd)(n0:Nat)(root:aM)(ts L:List D)(w:World)(e:Ending)(w':World):Prop:=
 ∃(R:Nat) (Ad:List (Nd Value)) (us:List D) (eK:List Nat) (dX:Nat),e=.returned (.int .u64 R)/\Fx X w w'/\ma w' X ρ n0 root Ad (ts++us) eK dX/\dT (ts++us) L R
def BF(X:Nat->Prop)(ρ:Rd)(n0:Nat)(root:aM)(ns:List (Nd Value))(ts L:List D)(v:Value)(js:List Nat)(w:World)(k:Nat)(left i:Value)(wr:World):Prop:=
 ∃(j R:Nat) (us:List D) (eK:List Nat) (dX:Nat),i=.int .i64 j/\left=.int .u64 R/\j+k=js.length/\Fx (di X v) w wr/\Ol wr ρ/\Ints wr 0 v js/\F2 (aS (aB wr) n0 ns) L js/\ma wr (di X v) ρ n0 root ns (ts++us) eK dX/\dT (ts++us) (L.take j) R
theorem IL{x:D}{dY:List D}{TW:List Nat}{RA:Nat}
  (hj:j+(k+1)=js.length) (hF:Fx (di X v) w wr) (hs:Ol wr ρ) (hI:Ints wr 0 v js) (hL:F2 (aS (aB wr) n0 ns) L js) (dS:dT (ts++us) (L.take j) R) (hx:L[j]?=some x)
  (dp:Fx (di X v) wr w3) (qH:ma w3 (di X v) ρ n0 root ns dY TW RA) (hn:dY[n]?=some x) (gJ:dY=ts++us∨dY=ts++us++[x]):
  BF X ρ n0 root ns ts L v js w k (.int .u64 ((R ||| 2 ^ n:Nat):Int)) (.int .i64 ((j+1:Nat):Int)) w3:=by
 have Tj:=au hx;have etk:L.take (j+1)=L.take j++[x]:=by rw[List.take_succ_eq_append_getElem Tj];rw[List.getElem?_eq_getElem Tj]at hx;rw[Option.some.inj hx]
 obtain ⟨um,rfl,X5⟩:∃um,dY=ts++um/\dT (ts++um) (L.take j) R:=by
  rcases gJ with rfl|rfl
  ·exact ⟨us,rfl,dS⟩
  ·exact ⟨us++[x],by simp,by rw[<-List.append_assoc];exact dS.append⟩
 exact ⟨j+1,R ||| 2 ^ n,um,TW,RA,rfl,rfl,by omega,hF.trans dp,hs.fx dp,hI.ig λb hb=>dp.keep b (.inr hb),hL.mono λd k h=>aS.world dp.dh h,qH,by rw[etk];exact X5.snoc hn⟩
theorem Mv
  (yf:Fx X w0 w) (hj:j=js.length) (hF:Fx (di X v) w wr) (hL:F2 (aS (aB wr) n0 ns) L js) (hD:ma wr (di X v) ρ n0 root ns (ts++us) eK dX) (dS:dT (ts++us) (L.take j) R):
  jx X ρ n0 root ts L w0 (.returned (.int .u64 (R:Int))) wr:=by
 have e:=hL.length;rw[List.take_of_length_le (by omega)]at dS;exact ⟨R,ns,us,eK,dX,rfl,yf.trans (hF.sub λ_ h=>.inl h),hD.less,dS⟩
theorem dT.nil(ts:List D):dT ts [] 0:=⟨λ_ h=>by simp at h,λm hm=>by simp at hm⟩
theorem ma.below(hD:ma w X ρ n0 root ns ts cu en)(hb:Below w.heap.size w w'):ma w' X ρ n0 root ns ts cu en:=by
 have hc:∀(k:Nat) o,w.heap[k]?=some o->w'.heap[k]?=some o:=λk o hh=>(hb.block k (ae hh)).trans hh
 have hst:bu w w':=bu.ar hb;obtain ⟨pv,hN,hv⟩:=hD.tT;refine ⟨hD.shelf.below hb,⟨pv,⟨hc _ _ hN.var,hN.row.ig λk hk=>?_,?_,hN.nodup,hN.small⟩,hv⟩,hc _ _ hD.ev,hD.nX,hD.jn.mono λd k hh=>aS.world hst hh,hD.met,hD.bits,hD.sz,hD.leaves⟩
 ·obtain ⟨c,hcc⟩:=hN.row.block hk;rw[hcc];exact hc _ _ hcc
 ·obtain ⟨m,f,hm,h1,h2⟩:=hN.map;exact ⟨m,f,hm.keep (hb.block _ hm.lt),h1,h2⟩
theorem jx.back{e:Ending}(hF:Fx X w w0)(h:jx X ρ n0 root ts L w0 e w'):jx X ρ n0 root ts L w e w':=by obtain ⟨R,Ad,us,eK,dX,h1,h2,h3⟩:=h;exact ⟨R,Ad,us,eK,dX,h1,hF.trans h2,h3⟩
set_option maxHeartbeats 2000000 in
theorem Mw(X:Nat->Prop)(ρ:Rd)(n0:Nat)(root:aM)(ns:List (Nd Value))(ts:List D)(cu:List Nat)(en:Nat)(t:D)(n:Nat)(b:UInt8)(w:World)(hX:gI X w)(hK:ρ.K<w.heap.size)(hD:ma w X ρ n0 root ns ts cu en)(hs:Ol w ρ)(ht:ts[n]?=some t):
  Calls Tryz.prog 177 #[.agg #[.int .i64 n,.int .u8 b.toNat],.pointer (some ⟨ρ.sv,0,none⟩),.pointer (some ⟨ρ.xv,0,none⟩),.pointer (some ⟨ρ.kk,0,none⟩)] w (jx X ρ n0 root ts (pd b t) w):=by
 have Vq:Below w.heap.size w (w.alloc (.cells #[.int .i64 n,.int .u8 b.toNat] 305)):=(Below.refl _ _).alloc (Nat.le_refl _) _
 suffices X6:Calls Tryz.prog 177 #[.agg #[.int .i64 n,.int .u8 b.toNat],.pointer (some ⟨ρ.sv,0,none⟩),.pointer (some ⟨ρ.xv,0,none⟩),.pointer (some ⟨ρ.kk,0,none⟩)] w (jx X ρ n0 root ts (pd b t) (w.alloc (.cells #[.int .i64 n,.int .u8 b.toNat] 305))) from X6.mono λe w' h=>h.back (Fx.ar hX Vq)
 replace hs:=hs.fx (Fx.ar hX Vq);replace hX:=hX.mono Vq.size;replace hK:=Nat.lt_of_lt_of_le hK Vq.size;replace hD:=hD.below Vq;have hG:=af w (.cells #[.int .i64 n,.int .u8 b.toNat] 305);have oq:(w.alloc (.cells #[.int .i64 n,.int .u8 b.toNat] 305)).cell? ⟨w.heap.size,0,none⟩=some (.int .i64 n):=by rw[World.cell?,hG];rfl
 have CI:(w.alloc (.cells #[.int .i64 n,.int .u8 b.toNat] 305)).cell? ⟨w.heap.size,1,none⟩=some (.int .u8 b.toNat):=by rw[World.cell?,hG];rfl
 have HG:=aa hG;clear hG Vq;obtain ⟨pv,hN,hv⟩:=hD.tT;obtain ⟨k,hk⟩:∃k,cu[n]?=some k:=by have h1:=au ht;rw[hD.jn.length]at h1;exact ⟨cu[n],List.getElem?_eq_getElem h1⟩
 obtain ⟨t',gJ,hr⟩:=hD.jn.get hk;rw[ht]at gJ;cases gJ;have X7:=hD.met t (List.mem_of_getElem? ht)
 have hsz:t.sz<=1000000:=by
  have aak:root.sz*root.sz<=200*200:=Nat.mul_le_mul hD.sz hD.sz;simp only[met,List.mem_cons]at X7;rcases X7 with rfl|h
  ·have:=hD.sz;simp only[D.sz];omega
  ·have:=FH root t h;omega
 have s0:=ay hs.sv;have x0:=ay hs.xv;have HEX:=aa (qh ρ.M ρ.pl pv cu k n (w.alloc (.cells #[.int .i64 n,.int .u8 b.toNat] 305)).drew ⟨hN.var,hN.row,(let ⟨m,f,h1,h2⟩:=hN.map;⟨m,f,h1.keep rfl,h2⟩),hN.nodup,hN.small⟩ hk)
 have HDV:=aa (DI b t (yR X ρ pv) ρ.S n0 ns (fY root) k (w.alloc (.cells #[.int .i64 n,.int .u8 b.toNat] 305)).drew (show gI (yR X ρ pv) (w.alloc (.cells #[.int .i64 n,.int .u8 b.toNat] 305)).drew from Mu (w:=w.alloc (.cells #[.int .i64 n,.int .u8 b.toNat] 305)) hX hK hN hD.ev) (hD.beside hN).drew (aS.world (w:=w.alloc (.cells #[.int .i64 n,.int .u8 b.toNat] 305)) (w':=(w.alloc (.cells #[.int .i64 n,.int .u8 b.toNat] 305)).drew) (λ_ _ _ _ h=>h) hr) (vE X7) hsz)
 have HX:=aa hX;have HD:=aa hD;have HS:=aa hs;have HN:=aa hN;have HV:=aa hv;have HTM:=aa X7;clear hX hD hs ht hN hv hk hr X7 hK;obtain ⟨q,hq⟩:∃q,q=w.heap.size:=⟨_,rfl⟩;go_enter Tryz.func177,Tryz.ntmps177;go_wp2_with fail;rw[<-hq]at oq CI HG ⊢;clear hq;generalize w.alloc (.cells #[.int .i64 n,.int .u8 b.toNat] 305)=W at *
 have vq:=aa (λ(w2:World) (hF:Fx (yR X ρ pv) W w2)=>show w2.cell? ⟨q,0,none⟩=some (.int .i64 n)/\w2.cell? ⟨q,1,none⟩=some (.int .u8 b.toNat)/\w2.cell? ⟨ρ.sv,0,none⟩=some (.pointer (some ⟨ρ.S,0,none⟩))/\w2.cell? ⟨ρ.xv,0,none⟩=some (.func (.func 197) #[] #[.pointer (some ⟨ρ.pl,0,none⟩)]) from
  have h1:=hF.stay _ _ _ (by decide) HG.out
  ⟨by simp[World.cell?,h1],by simp[World.cell?,h1],ay (HS.out.fx hF).sv,ay (HS.out.fx hF).xv⟩)
 go_region_held3 (λw'=>w'.cell? ⟨q,0,none⟩=some (.int .i64 n)/\w'.cell? ⟨q,1,none⟩=some (.int .u8 b.toNat)/\w'.cell? ⟨ρ.sv,0,none⟩=some (.pointer (some ⟨ρ.S,0,none⟩))/\w'.cell? ⟨ρ.xv,0,none⟩=some (.func (.func 197) #[] #[.pointer (some ⟨ρ.pl,0,none⟩)]))
  (first
   | with_reducible exact zu
   | go_keep)
  (first
   | (go_at_call 197;refine HEX.out.mono ?_;rintro e1 w1 ⟨rfl,rfl⟩)
   | (go_at_call 178;refine HDV.out.mono ?_;rintro e2 w2 ⟨v2,js,ms,rfl,hF2,jF,kf,dQ⟩;obtain ⟨ao,cap,rfl⟩:=kf.1.form;have et:=aa hF2.gD;have zu:=vq.out w2 et.out;have wN:=aa jF;have yh:=aa kf;have jf:=aa dQ;clear hF2 jF kf dQ))
 all_goals
  have hF2:=et.out;have hs2:=HS.out.fx hF2;have CH:=HD.out.PT HN.out HV.out hF2 wN.out yh.out;have pP:js.length<=1000000:=by have h1:=jf.out.length;have h2:=eW b t;omega
  have HOX:=aa ((HX.out.fx hF2).di yh.out.1);have HI:=aa yh.out.1;have HJ:=aa jf.out;have HD2:=aa CH;have HSC:=aa hs2;have HFX:=aa (hF2.sub (Y:=X) λ_ h=>.inl (.inl h));have zq:=aa (λx (hx:x∈pd b t)=>Dh root b t HTM.out x hx);clear et wN yh jf HX HD HS HN HV HTM hF2 hs2 CH HEX HDV;go_wp2_with fail
  go_loopg [6,18] js.length (λk left i wr=>BF X ρ n0 root (ns++ms) ts (pd b t) (.slice ao js.length cap) js w2 k left i wr)
  case atStart=>exact ⟨0,0,[],cu,en,by simp,by simp,by simp,Fx.refl _ _,HSC.out,HI.out,HJ.out,by simpa using HD2.out,by simpa using dT.nil _⟩
  case round=>
   obtain ⟨j,R,us,eK,dX,rfl,rfl,hj,mG,hs,hI,hL,TX,dS⟩:=hrel;have TY:=dS.lt (by have h1:=TX.few;have h2:=TX.jn.length;omega);by_cases hlt:j<js.length
   ·obtain ⟨f,hf⟩:∃f,js[j]?=some f:=⟨js[j],List.getElem?_eq_getElem hlt⟩;obtain ⟨g',cap',e',QS⟩:=hI.at hf;cases e';obtain ⟨xj,LD,Xi⟩:=hL.get hf;have c0:=ay hs.kk;have uS:=aa (BC _ ρ n0 root (ns++ms) (ts++us) eK dX xj f wr (HOX.out.fx mG) TX hs Xi (zq.out xj (List.mem_of_getElem? LD)));have HFr:=aa mG;have Hsr:=aa hs;have HIr:=aa hI
    have BG:=aa hL;have HDr:=aa TX;have aaO:=aa dS;have HXJ:=aa LD;clear mG hs hI hL TX dS LD Xi hf;go_wp2_with fail;refine uS.out.mono ?_;rintro e w3 ⟨n3,dY,TW,RA,rfl,dp,qH,Ru,ht3⟩;have IK:n3<64:=by have h1:=au Ru;have h2:=qH.few;have h3:=qH.jn.length;omega
    obtain ⟨k',rfl⟩:∃k',gk=k'+1:=⟨gk - 1,by omega⟩;have hstep:=IL hj HFr.out Hsr.out HIr.out BG.out aaO.out HXJ.out dp qH Ru ht3;have PS:=aa (bits_or_u64_nat R (2 ^ n3) TY (nT IK));have HST:=aa hstep;clear hstep dp qH Ru ht3 IK;go_wp2_with fail;go_roundg k'
    case measure=>omega
    case rel=>
     have hst:=HST.out;rw[<-PS.out]at hst;have e2:((2 ^ n3:Nat):Int)=(2:Int) ^ n3:=by simp
     rw[e2]at hst;exact hst
   ·have ai:=aa (Mv HFX.out (by omega) mG hL TX dS);clear mG hs hI hL TX dS;go_wp2_with fail;go_ret;exact ai.out
def CR(X:Nat->Prop)(ρ:Rd):Nat->Prop:=λk=>X k∨k=ρ.K
theorem My(w:World):(zeroValue 188).run Tryz.prog w=.ok (.int .u64 0) w:=by kernel_rfl
structure Full(w:World)(X:Nat->Prop)(ρ:Rd)(n0:Nat)(root:aM)(ts:List D)(en:Nat):Prop where
 dyn:∃ns cu,ma w (CR X ρ) ρ n0 root ns ts cu en
 Vr:Ol w ρ
 nK:¬X ρ.K
 known:∃(m:Nat) (f:Nat×UInt8->Option Int) (ks:List (Nat×UInt8)),bO ie 188 .u64 w ρ.K m f/\m<=ks.length/\ks.Nodup/\(∀x∈ks,x.1<ts.length/\(f x).isSome=true)/\∀n b c,f (n,b)=some c->∃(R:Nat) (t:D),c=R/\ts[n]?=some t/\dT ts (pd b t) R
def qw(X:Nat->Prop)(ρ:Rd)(n0:Nat)(root:aM)(ts L:List D)(w:World)(e:Ending)(w':World):Prop:=
 ∃(R:Nat) (us:List D) (dX:Nat),e=.returned (.int .u64 R)/\Fx X w w'/\Full w' X ρ n0 root (ts++us) dX/\dT (ts++us) L R
theorem Full.few(h:Full w X ρ n0 root ts en):ts.length<=61:=by obtain ⟨ns,cu,hD⟩:=h.dyn;rw[hD.jn.length];exact hD.few
theorem Mz(ks:List (Nat×UInt8))(hn:ks.Nodup)(h:∀x∈ks,x.1<64):ks.length<=16384:=by
 have h1:=ke (l:=ks) (m:=(List.range 64).flatMap λn=>(List.range 256).map λb=>(n,b.toUInt8)) hn (λx hx=>by refine List.mem_flatMap.2 ⟨x.1,List.mem_range.2 (h x hx),List.mem_map.2 ⟨x.2.toNat,List.mem_range.2 x.2.toNat_lt,?_⟩⟩;refine Prod.ext rfl ?_;simp)
 have h2:((List.range 64).flatMap λn=>(List.range 256).map λb=>(n,b.toUInt8)).length<=(List.range 64).length*256:=fy _ 256 _ (λx _=>by simp);simp only[List.length_range]at h2;omega
theorem ma.TZ{es:Array _}{kw:Nat}(h:ma w (CR X ρ) ρ n0 root ns ts cu en)(ho:w.heap[ρ.K]?=some (.map es kw))(hg:w.grownBy w' (some ρ.K)):ma w' (CR X ρ) ρ n0 root ns ts cu en:=by
 have hb:∀k:Nat,k<w.heap.size->k≠ρ.K->w'.heap[k]?=w.heap[k]?:=λk hk hne=>hg.block k hk (λe=>hne (Option.some.inj e))
 have hc:∀(k:Nat) c t fz,w.heap[k]?=some (.cells c t fz)->w'.heap[k]?=some (.cells c t fz):=λk c t fz hh=>by rw[hb k (ae hh) (by rintro rfl;rw[ho]at hh;cases hh)];exact hh
 have hst:bu w w':=λk c t _ hh=>hc k c t _ hh
 obtain ⟨pv,hN,hv⟩:=h.tT;refine ⟨h.shelf.keep hst (λk o Vi hk _=>?_) (λ_ h=>.inl h),⟨pv,⟨hc _ _ _ _ hN.var,hN.row.ig λk hk=>?_,?_,hN.nodup,hN.small⟩,hv⟩,hc _ _ _ _ h.ev,h.nX,h.jn.mono λd k hh=>aS.world hst hh,h.met,h.bits,h.sz,h.leaves⟩
 ·rw[hb k (ae hk) (λe=>Vi (.inr (.inr e)))];exact hk
 ·obtain ⟨c,hcc⟩:=hN.row.block hk;rw[hcc];exact hc _ _ _ _ hcc
 ·obtain ⟨m,f,hm,h1,h2⟩:=hN.map;exact ⟨m,f,hm.keep (hb _ hm.lt (λe=>h.nX.1 (.inr e))),h1,h2⟩
theorem Full.below(h:Full w X ρ n0 root ts en)(hb:Below w.heap.size w w'):Full w' X ρ n0 root ts en:=by
 obtain ⟨⟨ns,cu,hD⟩,hs,hk,m,f,ks,hm,h1,h2,h3,h4⟩:=h;have hc:∀(k:Nat) o,w.heap[k]?=some o->w'.heap[k]?=some o:=λk o hh=>(hb.block k (ae hh)).trans hh
 have hst:bu w w':=bu.ar hb;obtain ⟨pv,hN,hv⟩:=hD.tT
 refine ⟨⟨ns,cu,hD.shelf.below hb,⟨pv,⟨hc _ _ hN.var,hN.row.ig λk hk=>?_,?_,hN.nodup,hN.small⟩,hv⟩,hc _ _ hD.ev,hD.nX,hD.jn.mono λd k hh=>aS.world hst hh,hD.met,hD.bits,hD.sz,hD.leaves⟩,⟨hc _ _ hs.sv,hc _ _ hs.mv,hc _ _ hs.nv,hc _ _ hs.xv,hc _ _ hs.kk,hc _ _ hs.wk,hc _ _ hs.kv,hc _ _ hs.av⟩,hk,m,f,ks,hm.keep (hb.block _ hm.lt),h1,h2,h3,h4⟩
 ·obtain ⟨c,hcc⟩:=hN.row.block hk;rw[hcc];exact hc _ _ hcc
 ·obtain ⟨m,f,hm,h1,h2⟩:=hN.map;exact ⟨m,f,hm.keep (hb.block _ hm.lt),h1,h2⟩
theorem IM{m:Nat}{w1 w2:World}{Ad:List (Nd Value)}{f:Nat×UInt8->Option Int}{ks:List (Nat×UInt8)}
  (hX:gI X w) (hF:Full w X ρ n0 root ts en) (hB:Below w.heap.size w w0) (hm:m<=ks.length) (hn:ks.Nodup) (oU:∀x∈ks,x.1<ts.length/\(f x).isSome=true) (hf:∀n b c,f (n,b)=some c->∃(R:Nat) (t:D),c=R/\ts[n]?=some t/\dT ts (pd b t) R)
  (ht:ts[n]?=some t) (hnone:f (n,b)=none) (fH:Fx (CR X ρ) w0 w1) (Vs:ma w1 (CR X ρ) ρ n0 root Ad (ts++us) eK dX) (hs1:dT (ts++us) (pd b t) R) (JY:bO ie 188 .u64 w1 ρ.K m f)
  (AY:bO ie 188 .u64 w2 ρ.K (m+1) (λy=>if y=(n,b) then some (R:Int) else f y)) (hg:w1.grownBy w2 (some ρ.K)):qw X ρ n0 root ts (pd b t) w (.returned (.int .u64 R)) w2:=by
 obtain ⟨es,kw,ho⟩:=JY.obj;have yf:Fx X w w1:=(Fx.ar hX hB).trans (fH.sub λ_ h=>.inl h);have hF2:Fx X w w2:=yf.grown hg (hX.fx yf) (λk e=>by cases e;exact hF.nK) (λk e c t fz hh=>by cases e;rw[ho]at hh;cases hh);refine ⟨R,us,dX,rfl,hF2,⟨⟨Ad,eK,Vs.TZ ho hg⟩,hF.Vr.fx hF2,hF.nK,m+1,_,(n,b)::ks,AY,by simp;omega,List.nodup_cons.2 ⟨λhx=>?_,hn⟩,?_,?_⟩,hs1⟩
 ·have:=(oU _ hx).2;rw[hnone]at this;cases this
 ·intro x hx;have hl:=au ht;rcases List.mem_cons.1 hx with rfl|hx
  ·exact ⟨by simp;omega,by simp⟩
  ·obtain ⟨h1,h2⟩:=oU x hx;refine ⟨by simp;omega,?_⟩;by_cases e:x=(n,b)
   ·simp[e]
   ·simp[e,h2]
 ·intro n' b' c hc;by_cases e:(n',b')=(n,b)
  ·rw[if_pos e]at hc;simp only[Prod.mk.injEq]at e;obtain ⟨rfl,rfl⟩:=e;exact ⟨R,t,(Option.some.inj hc).symm,bI ht,hs1⟩
  ·rw[if_neg e]at hc;obtain ⟨R',t',h1,h2,h3⟩:=hf n' b' c hc;exact ⟨R',t',h1,bI h2,h3.append⟩
theorem wf_u64(h:R<18446744073709551616):(Lit.int .u64 (R:Int)).wf=true:=by simp only[Lit.wf,IntKind.min,IntKind.max,IntKind.signed,IntKind.bits];simp;omega
set_option maxRecDepth 20000 in
set_option maxHeartbeats 2000000 in
theorem IP(X:Nat->Prop)(ρ:Rd)(n0:Nat)(root:aM)(ts:List D)(en:Nat)(t:D)(n:Nat)(b:UInt8)(w:World)(hX:gI X w)(hF:Full w X ρ n0 root ts en)(ht:ts[n]?=some t):
  Calls Tryz.prog 198 #[.agg #[.int .i64 n,.int .u8 b.toNat],.pointer (some ⟨ρ.kv,0,none⟩),.pointer (some ⟨ρ.wk,0,none⟩)] w (qw X ρ n0 root ts (pd b t) w):=by
 obtain ⟨m,f,ks,hM,hm,hnd,oU,hf⟩:=hF.known;have hl:=au ht;have vp:=hF.few;have c0:=ay hF.Vr.kv;have Tf:=aq c0
 have hlk:(Instr.lookup 319 (.map (some ρ.K)) (.agg #[.int .i64 n,.int .u8 b.toNat]) true).run Tryz.prog (w.alloc (.cells #[.int .i64 n,.int .u8 b.toNat] 305))=.ok (.tuple #[.int .u64 ((f (n,b)).getD 0),.bool (f (n,b)).isSome]) (w.alloc (.cells #[.int .i64 n,.int .u8 b.toNat] 305)):=by
  have h5:bO ie 188 .u64 (w.alloc (.cells #[.int .i64 n,.int .u8 b.toNat] 305)) ρ.K m f:=hM.keep (Below.heap_alloc _ _ _ hM.lt);exact h5.look (t:=319) Tryz.underlying319 Tryz.underlying188 My (n,b) (by show n<=_;omega)
 cases hfn:f (n,b) with
 | some c=>
  obtain ⟨R,t',rfl,gJ,dS⟩:=hf n b c hfn;rw[ht]at gJ;cases gJ;rw[hfn]at hlk;have vG:(Instr.lookup 319 (.map (some ρ.K)) (.agg #[.int .i64 n,.int .u8 b.toNat]) true).run Tryz.prog (w.alloc (.cells #[.int .i64 n,.int .u8 b.toNat] 305))=.ok (.tuple #[.int .u64 R,.bool true]) (w.alloc (.cells #[.int .i64 n,.int .u8 b.toNat] 305)):=hlk
  clear hlk
  have ai:=aa (show qw X ρ n0 root ts (pd b t) w (.returned (.int .u64 R)) (w.alloc (.cells #[.int .i64 n,.int .u8 b.toNat] 305)) from
   have hb:Below w.heap.size w (w.alloc (.cells #[.int .i64 n,.int .u8 b.toNat] 305)):=(Below.refl _ _).alloc (Nat.le_refl _) _
   ⟨R,[],en,rfl,Fx.ar hX hb,by simpa using hF.below hb,by simpa using dS⟩)
  clear hF hX hM hm hnd oU hf dS hfn ht;go_enter Tryz.func198,Tryz.ntmps198;go_wp2;go_ret;exact ai.out
 | none=>
  rw[hfn]at hlk;have vG:(Instr.lookup 319 (.map (some ρ.K)) (.agg #[.int .i64 n,.int .u8 b.toNat]) true).run Tryz.prog (w.alloc (.cells #[.int .i64 n,.int .u8 b.toNat] 305))=.ok (.tuple #[.int .u64 0,.bool false]) (w.alloc (.cells #[.int .i64 n,.int .u8 b.toNat] 305)):=hlk;clear hlk
  have hb:Below w.heap.size w (w.alloc (.cells #[.int .i64 n,.int .u8 b.toNat] 305)):=(Below.refl _ _).alloc (Nat.le_refl _) _;have HB:=aa hb;have T3:=hM.lt;have yf:=hF.below hb;obtain ⟨ns,cu,hD0⟩:=yf.dyn
  have hX0:gI (CR X ρ) (w.alloc (.cells #[.int .i64 n,.int .u8 b.toNat] 305)):=by
   rintro k (hk|rfl)
   ·exact (hX.mono hb.size) k hk
   ·exact Nat.lt_of_lt_of_le hM.lt hb.size
  have G1:=aa (Mw (CR X ρ) ρ n0 root ns ts cu en t n b _ hX0 (hX0 _ (.inr rfl)) hD0 yf.Vr ht);have c1:=ay yf.Vr.wk;have HT:=aa (af w (.cells #[.int .i64 n,.int .u8 b.toNat] 305));have HX:=aa hX;have HF:=aa hF;have HM:=aa hM;have Hm:=aa hm;have RB:=aa hnd;have HKS:=aa oU;have Hf:=aa hf;have XP:=aa hfn;have Ht:=aa ht
  clear hF hX hM hm hnd oU hf hfn ht hD0 yf hX0 hb T3;go_enter Tryz.func198,Tryz.ntmps198;go_wp2_with fail;refine G1.out.mono ?_;rintro e w1 ⟨R,Ad,us,eK,dX,rfl,fH,Vs,hs1⟩;have TY:=hs1.lt (by have h1:=Vs.few;have h2:=Vs.jn.length;omega)
  have hM0:bO ie 188 .u64 (w.alloc (.cells #[.int .i64 n,.int .u8 b.toNat] 305)) ρ.K m f:=HM.out.keep (Below.heap_alloc _ _ _ HM.out.lt);have JY:bO ie 188 .u64 w1 ρ.K m f:=hM0.keep (fH.keep _ (.inr rfl));have Vt:=fH.stay _ _ _ (by decide) HT.out;have acg:=ay (fH.stay _ _ _ (by decide) (HF.out.below HB.out).Vr.kv)
  have k0:w1.cell? ⟨w.heap.size,0,none⟩=some (.int .i64 n):=by simp[World.cell?,Vt]
  have k1:w1.cell? ⟨w.heap.size,1,none⟩=some (.int .u8 b.toNat):=by simp[World.cell?,Vt]
  have hmk:m<1000000000000:=by have h1:=Mz ks RB.out (λx hx=>by have:=(HKS.out x hx).1;omega);have h2:=Hm.out;omega
  obtain ⟨w2,hrun,AY,hg⟩:=JY.store (t:=319) Tryz.underlying319 Tryz.underlying188 hmk (n,b) (by show n<=_;omega) (R:Int) (wf_u64 TY);have FP:(Instr.mapUpdate 319 (.map (some ρ.K)) (.agg #[.int .i64 n,.int .u8 b.toNat]) (.int .u64 R)).run Tryz.prog w1=.ok () w2:=hrun
  have ai:=aa (IM HX.out HF.out HB.out Hm.out RB.out HKS.out Hf.out Ht.out XP.out fH Vs hs1 JY AY hg);clear fH Vs hs1 hM0 JY Vt hrun AY hg G1 c1 vG HM HB HT HX HF Hm RB HKS Hf XP Ht;go_wp2;go_ret;exact ai.out
def cO(ts:List D)(L:Nat)(u:List UInt8):Prop:=∃(m:Nat) (t:D),L.testBit m=true/\ts[m]?=some t/\Mt t.re u
def nc(ts:List D)(L:Nat):Prop:=∀m,L.testBit m=true->m<ts.length
theorem nc.append{L:Nat}(h:nc ts L):nc (ts++us) L:=λm hm=>by have:=h m hm;simp;omega
theorem nc.or{L:Nat}(h:nc ts L)(h':nc ts R):nc ts (L ||| R):=λm hm=>by rw[Nat.testBit_or,Bool.or_eq_true]at hm;exact hm.elim (h m) (h' m)
theorem nc.lt{L:Nat}(h:nc ts L)(hl:ts.length<=64):L<18446744073709551616:=by
 refine Nat.lt_pow_two_of_testBit (n:=64) L λi hi=>?_
 cases hb:L.testBit i with
 | false=>rfl
 | true=>have:=h i hb;omega
theorem cO.append{L:Nat}(h:nc ts L)(u:List UInt8):cO (ts++us) L u<->cO ts L u:=by
 constructor
 ·rintro ⟨m,t,h1,h2,h3⟩;rw[List.getElem?_append_left (h m h1)]at h2;exact ⟨m,t,h1,h2,h3⟩
 ·rintro ⟨m,t,h1,h2,h3⟩;exact ⟨m,t,h1,bI h2,h3⟩
theorem cO.or{L:Nat}{u:List UInt8}:cO ts (L ||| R) u<->cO ts L u∨cO ts R u:=by
 constructor
 ·rintro ⟨m,t,h1,h2,h3⟩;rw[Nat.testBit_or,Bool.or_eq_true]at h1;exact h1.elim (λh=>.inl ⟨m,t,h,h2,h3⟩) (λh=>.inr ⟨m,t,h,h2,h3⟩)
 ·rintro (⟨m,t,h1,h2,h3⟩|⟨m,t,h1,h2,h3⟩)
  ·exact ⟨m,t,by rw[Nat.testBit_or,h1];rfl,h2,h3⟩
  ·exact ⟨m,t,by rw[Nat.testBit_or,h1];simp,h2,h3⟩
theorem dT.inr(h:dT ts L R):nc ts R:=λm hm=>let ⟨_,_,h2⟩:=h.2 m hm;au h2
theorem dT.aaP(h:dT ts L R)(u:List UInt8):cO ts R u<->∃d∈L,Mt d.re u:=by
 constructor
 ·rintro ⟨m,t,h1,h2,h3⟩;obtain ⟨t',h4,h5⟩:=h.2 m h1;rw[h2]at h5;cases h5;exact ⟨t,h4,h3⟩
 ·rintro ⟨d,h1,h2⟩;obtain ⟨m,h3,h4⟩:=h.1 d h1;exact ⟨m,d,h4,h3,h2⟩
def pg(X:Nat->Prop)(ρ:Rd)(n0:Nat)(root:aM)(ts:List D)(L:Nat)(b:UInt8)(w:World)(e:Ending)(w':World):Prop:=
 ∃(R:Nat) (us:List D) (dX:Nat),e=.returned (.int .u64 R)/\Fx X w w'/\Full w' X ρ n0 root (ts++us) dX/\nc (ts++us) R/\∀u,cO (ts++us) R u<->cO ts L (b::u)
def BH(X:Nat->Prop)(ρ:Rd)(n0:Nat)(root:aM)(ts:List D)(L:Nat)(b:UInt8)(w:World)(k:Nat)(left out:Value)(wr:World):Prop:=
 ∃(o:Nat) (us:List D) (dX:Nat),left=.int .u64 k/\out=.int .u64 o/\Fx X w wr/\Full wr X ρ n0 root (ts++us) dX/\nc ts k/\nc (ts++us) o/\(∀i,k.testBit i=true->L.testBit i=true) /\
  ∀u,cO (ts++us) o u<->∃i t,L.testBit i=true/\k.testBit i=false/\ts[i]?=some t/\Mt t.re (b::u)
theorem IQ{um:List D}{L o:Nat}(hX:Fx X w wr)(hk:nc ts k)(vd:k≠0)(IR:k<18446744073709551616)(ho:nc (ts++us) o)(hs:∀i,k.testBit i=true->L.testBit i=true)
  (hl:∀u,cO (ts++us) o u<->∃i t,L.testBit i=true/\k.testBit i=false/\ts[i]?=some t/\Mt t.re (b::u)) (ht:ts[Lib.ctz 64 k]?=some t) (dp:Fx X wr w3) (ng:Full w3 X ρ n0 root (ts++us++um) dX) (dS:dT (ts++us++um) (pd b t) R):
  BH X ρ n0 root ts L b w (k &&& (k - 1)) (.int .u64 ((k &&& (k - 1):Nat):Int)) (.int .u64 ((o ||| R:Nat):Int)) w3:=by
 obtain ⟨h1,h2,h3,h4⟩:=FT k IR vd;generalize Lib.ctz 64 k=c at *;rw[List.append_assoc]at ng dS;refine ⟨o ||| R,us++um,dX,rfl,rfl,hX.trans dp,ng,λm hm=>hk m ?_,?_,λi hi=>hs i ?_,λu=>?_⟩
 ·rw[h3]at hm;simp at hm;exact hm.1
 ·rw[<-List.append_assoc];rw[<-List.append_assoc]at dS;exact ho.append.or dS.inr
 ·rw[h3]at hi;simp at hi;exact hi.1
 ·rw[cO.or,<-List.append_assoc,cO.append ho,hl];rw[<-List.append_assoc]at dS;rw[dS.aaP,<-Fq];constructor
  ·rintro (⟨i,t',a1,a2,a3,a4⟩|h)
   ·exact ⟨i,t',a1,by rw[h3,a2];rfl,a3,a4⟩
   ·exact ⟨c,t,hs c h2,by rw[h3];simp,ht,h⟩
  ·rintro ⟨i,t',a1,a2,a3,a4⟩;rw[h3]at a2;simp at a2
   cases X8:k.testBit i with
   | false=>exact .inl ⟨i,t',a1,X8,a3,a4⟩
   | true=>
    have e:=a2 X8;subst e;rw[ht]at a3;cases a3;exact .inr a4
set_option maxHeartbeats 2000000 in
theorem MA(X:Nat->Prop)(ρ:Rd)(n0:Nat)(root:aM)(ts:List D)(en:Nat)(L:Nat)(b:UInt8)(w:World)(hX:gI X w)(h0:X 1)(hT:kB w)(hF:Full w X ρ n0 root ts en)(hL:nc ts L):
  Calls Tryz.prog 180 #[.func (.func 198) #[] #[.pointer (some ⟨ρ.kv,0,none⟩),.pointer (some ⟨ρ.wk,0,none⟩)],.int .u64 L,.int .u8 b.toNat] w (pg X ρ n0 root ts L b w):=by
 have HX:=aa hX;have H0:=aa h0;have HT:=aa hT;have HF:=aa hF;have HL:=aa hL;clear hX h0 hT hF hL;go_enter Tryz.func180,Tryz.ntmps180;go_wp2_with fail;go_loopg [1,7] L (λk left out wr=>BH X ρ n0 root ts L b w k left out wr)
 case atStart=>
  refine ⟨0,[],en,rfl,rfl,Fx.refl _ _,by simpa using HF.out,HL.out,by intro m hm;simp at hm,λi hi=>hi,λu=>?_⟩;constructor
  ·rintro ⟨m,t,h1,_⟩;simp at h1
  ·rintro ⟨i,t,h1,h2,_⟩;rw[h1]at h2;cases h2
 case round=>
  obtain ⟨o,us,dX,rfl,rfl,mG,ng,hk,ho,nw,hl⟩:=hrel;have vp:=ng.few;have IR:=hk.lt (by simp at vp;omega);have aaQ:=ho.lt (by omega);by_cases vd:gk=0
  ·have ai:=aa (show pg X ρ n0 root ts L b w (.returned (.int .u64 o)) wr from ⟨o,us,dX,rfl,mG,ng,ho,λu=>(by
    rw[hl u];subst vd;constructor
    ·rintro ⟨i,t,h1,_,h3,h4⟩;exact ⟨i,t,h1,h3,h4⟩
    ·rintro ⟨i,t,h1,h3,h4⟩;exact ⟨i,t,h1,by simp,h3,h4⟩)⟩)
   subst vd;clear mG ng hk ho nw hl;go_wp2_with fail;go_ret;exact ai.out
  ·have ach:((gk:Int)==0)=false:=by rw[beq_eq_false_iff_ne];omega
   obtain ⟨aci,hcb,jb,aaR⟩:=FT gk IR vd;obtain ⟨t,ht⟩:∃t,ts[Lib.ctz 64 gk]?=some t:=⟨_,List.getElem?_eq_getElem (hk _ hcb)⟩;have HTZ:=aa (Tp gk wr IR vd (HT.out.keep (mG.keep 1 H0.out)));have T4:=aa (IP X ρ n0 root (ts++us) dX t (Lib.ctz 64 gk) b wr (HX.out.fx mG) ng (bI ht));have CK:=aa mG;have Hk:=aa hk
   have Ho:=aa ho;have Hs:=aa nw;have Hl:=aa hl;have Ht:=aa ht;clear mG ng hk ho nw hl ht hcb jb;go_wp2_with fail;refine HTZ.out.mono ?_;rintro e w1 ⟨rfl,rfl⟩;go_wp2_with fail;refine T4.out.mono ?_;rintro e w3 ⟨R,um,RA,rfl,dp,lr,MB⟩;have aaS:=MB.inr.lt (by have h1:=lr.few;omega)
   have HST:=aa (IQ CK.out Hk.out vd IR Ho.out Hs.out Hl.out Ht.out dp lr MB);have PS:=aa (bits_or_u64_nat o R aaQ aaS);have Wz:=aa (bits_and_u64_nat gk (gk - 1) IR (by omega));have HM1:=aa (show ((gk:Int) - 1)=((gk - 1:Nat):Int) from by omega);clear dp lr MB HTZ T4;go_wp2_with fail;go_roundg (gk &&& (gk - 1))
   case measure=>exact aaR
   case rel=>have hst:=HST.out;rw[<-PS.out,<-Wz.out,<-HM1.out]at hst;exact hst
set_option maxHeartbeats 1000000 in
theorem mj(X:Nat->Prop)(ρ:Rd)(n0:Nat)(root:aM)(ts:List D)(en:Nat)(L:Nat)(b:UInt8)(w:World)(hX:gI X w)(h0:X 1)(hT:kB w)(hF:Full w X ρ n0 root ts en)(hL:nc ts L):
  Calls Tryz.prog 179 #[.int .u64 L,.int .u8 b.toNat,.pointer (some ⟨ρ.av,0,none⟩)] w (pg X ρ n0 root ts L b w):=by
 have c0:=ay hF.Vr.av;have HG:=aa (MA X ρ n0 root ts en L b w hX h0 hT hF hL);clear hX h0 hT hF hL;go_enter Tryz.func179,Tryz.ntmps179;go_wp2_with fail;refine HG.out.mono ?_;rintro e w1 ⟨R,us,dX,rfl,h1,h2,h3,h4⟩;have ai:=aa (show pg X ρ n0 root ts L b w (.returned (.int .u64 R)) w1 from ⟨R,us,dX,rfl,h1,h2,h3,h4⟩)
 clear h1 h2 h3 h4;go_wp2;go_ret;exact ai.out
theorem MC(h:ma w X ρ n0 root ns ts cu en)(L:Nat):L &&& en≠0<->cO ts L []:=by
 constructor
 ·intro hne;obtain ⟨i,hi⟩:=Nat.exists_testBit_of_ne_zero hne;rw[Nat.testBit_and,Bool.and_eq_true]at hi;obtain ⟨t,h1,h2⟩:=(h.bits i).1 hi.2;exact ⟨i,t,hi.1,h1,(jK _).2 h2⟩
 ·rintro ⟨m,t,h1,h2,h3⟩ h0;have hb:=(h.bits m).2 ⟨t,h2,(jK _).1 h3⟩;have:(L &&& en).testBit m=true:=by rw[Nat.testBit_and,h1,hb];rfl
  rw[h0]at this;simp at this
def MD(ts:List D)(L:Nat)(w:World)(e:Ending)(w':World):Prop:=∃x,e=.returned (.bool x)/\w'=w/\(x=true<->cO ts L [])
set_option maxHeartbeats 1000000 in
theorem xg(X:Nat->Prop)(ρ:Rd)(n0:Nat)(root:aM)(ts:List D)(en:Nat)(L:Nat)(w:World)(hF:Full w X ρ n0 root ts en)(hL:nc ts L):
  Calls Tryz.prog 181 #[.int .u64 L,.pointer (some ⟨ρ.ev,0,none⟩)] w (MD ts L w):=by
 have vp:=hF.few;obtain ⟨ns,cu,hD⟩:=hF.dyn;have c0:=ay hD.ev;have HB:=aa (bits_and_u64_nat L en (hL.lt (by omega)) hD.Rs);have HE:=aa (MC hD L);clear hF hL hD;go_enter Tryz.func181,Tryz.ntmps181;go_wp2;go_ret;refine ⟨_,rfl,rfl,?_⟩;rw[<-HE.out,HB.out];simp only[bne_iff_ne,ne_eq];omega
def rdv(ρ:Rd)(start:Nat):Value:=.agg #[.int .u64 start,.func (.func 179) #[] #[.pointer (some ⟨ρ.av,0,none⟩)],.func (.func 181) #[] #[.pointer (some ⟨ρ.ev,0,none⟩)]]
end Go.Proofs.YtgncgdkpkkdaeaaGreatDoor
