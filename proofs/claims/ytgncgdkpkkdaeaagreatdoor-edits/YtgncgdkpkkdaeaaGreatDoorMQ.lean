import Derived.Test.YtgncgdkpkkdaeaaGreatDoorMP
import Derived.Maps.RangeWalk
import Derived.Deep.RegionHeld3
namespace Go.Proofs.YtgncgdkpkkdaeaaGreatDoor
open Go.RowKit aO Go.Maps
variable {root:aN} {t:D} {ns:List (Nd Value)} {L ts us:List D} {js cC eY:List Nat} {R en er j k n n0:Nat} {X:Nat->Prop} {ρ:Rd} {b:UInt8} {pv v:Value} {w w' w0 w3 wr:World}
def ei(ts L:List D)(R:Nat):Prop:=(∀t∈L,∃m,ts[m]?=some t/\R.testBit m=true)/\∀m,R.testBit m=true->∃t∈L,ts[m]?=some t
theorem ei.append(h:ei ts L R):ei (ts++us) L R:=
 ⟨λt ht=>let ⟨m,h1,h2⟩:=h.1 t ht;⟨m,bM h1,h2⟩,λm hm=>let ⟨t,h1,h2⟩:=h.2 m hm;⟨t,h1,bM h2⟩⟩
theorem ei.snoc(h:ei ts L R)(hn:ts[n]?=some t):ei ts (L++[t]) (R ||| 2 ^ n):=by
 refine ⟨λx hx=>?_,λm hm=>?_⟩
 ·rcases List.mem_append.1 hx with hx|hx
  ·obtain ⟨m,h1,h2⟩:=h.1 x hx;exact ⟨m,h1,by rw[Nat.testBit_or,h2];rfl⟩
  ·simp at hx;subst hx;exact ⟨n,hn,by rw[Nat.testBit_or,Nat.testBit_two_pow];simp⟩
 ·rw[Nat.testBit_or,Bool.or_eq_true]at hm;rcases hm with hm|hm
  ·obtain ⟨x,h1,h2⟩:=h.2 m hm;exact ⟨x,List.mem_append.2 (.inl h1),h2⟩
  ·rw[Nat.testBit_two_pow]at hm;simp at hm;subst hm;exact ⟨t,by simp,hn⟩
theorem ei.lt(h:ei ts L R)(hl:ts.length<=64):R<18446744073709551616:=by
 refine Nat.lt_pow_two_of_testBit (n:=64) R λi hi=>?_
 cases hb:R.testBit i with
 | false=>rfl
 | true=>
  obtain ⟨t,_,ht⟩:=h.2 i hb;have:=aw ht;omega
def zZ(X:Nat->Prop)(ρ:Rd)(pv:Value):Nat->Prop:=λk=>plus X ρ k∨QU ρ.M ρ.pl pv k∨k=ρ.ev
theorem mP.beside(h:mP w X ρ n0 root ns ts cC en)(hN:kw w ρ.M ρ.pl pv cC):Shelf w (zZ X ρ pv) ρ.S n0 ns (gy root):=
 h.shelf.keep (bH.refl w) (λ_ _ _ ho _=>ho) (λk hk=>by
  rcases hk with hk|hk|rfl
  ·exact .inl hk
  ·rcases hk with rfl|hk
   ·exact .inl (.inr (.inl rfl))
   ·refine .inr λo ho=>?_
    cases o with
    | cells c t fz=>
     rcases hN.types (.inr hk) c t fz ho with rfl|rfl
     ·exact ⟨_,_,_,rfl,by decide,by decide⟩
     ·exact ⟨_,_,_,rfl,by decide,by decide⟩
    | _=>
     rcases hk with rfl|hk
     ·rw[hN.var]at ho;cases ho
     ·obtain ⟨c',hc'⟩:=hN.row.block hk;rw[hc']at ho;cases ho
  ·refine .inr λo ho=>?_
   rw[h.ev]at ho;cases ho;exact ⟨_,_,_,rfl,by decide,by decide⟩)
theorem NQ(hX:ia X w)(hK:ρ.K<w.heap.size)(hN:kw w ρ.M ρ.pl pv cC)(he:w.heap[ρ.ev]?=some (.cells #[.int .u64 en] 188 (0,0))):ia (zZ X ρ pv) w:=by
 have hM:ρ.M<w.heap.size:=by obtain ⟨m,f,hm,_⟩:=hN.map;exact hm.lt
 rintro k ((hk|rfl|rfl)|(rfl|rfl|hk)|rfl)
 ·exact hX k hk
 ·exact hM
 ·exact hK
 ·exact hM
 ·exact ae hN.var
 ·obtain ⟨c,hc⟩:=hN.row.block hk;exact ae hc
 ·exact ae he
theorem mP.Ro{ms:List (Nd Value)}(h:mP w X ρ n0 root ns ts cC en)(hN:kw w ρ.M ρ.pl pv cC)(hv:∀k,pv.ownBlock=some k->¬X k)(hF:Fx (zZ X ρ pv) w w')
  (hS:Shelf w' (zZ X ρ pv) ρ.S n0 (ns++ms) (gy root)) (hr:Row w' (zZ X ρ pv) v js):mP w' (dx X v) ρ n0 root (ns++ms) ts cC en:=by
 have hst:=hF.cS;have hN':kw w' ρ.M ρ.pl pv cC:=by refine ⟨(hF.keep _ (.inr (.inl (.inr (.inl rfl))))).trans hN.var,hN.row.iF λk hk=>hF.keep k (.inr (.inl (.inr (.inr hk)))),?_,hN.nodup,hN.small⟩;obtain ⟨m,f,hm,h1,h2⟩:=hN.map;exact ⟨m,f,hm.keep (hF.keep _ (.inr (.inl (.inl rfl)))),h1,h2⟩
 have he:=(hF.keep ρ.ev (.inr (.inr rfl))).trans h.ev;have hne:∀k,zZ X ρ pv k->v.ownBlock≠some k:=λk hk e=>hr.2 k e hk
 refine ⟨hS.keep (bH.refl _) (λ_ _ _ ho _=>ho) (λk hk=>?_),⟨pv,hN',?_⟩,he,⟨?_,?_,?_⟩,h.jL.mono λd k hh=>(aU.world hst hh).append,h.met,h.bits,h.sz,h.leaves⟩
 ·rcases hk with (hk|hk)|hk
  ·exact .inl (.inl (.inl hk))
  ·refine .inr λo ho=>?_
   obtain ⟨c,hc⟩:=hr.1.block hk;rw[hc]at ho;cases ho;exact ⟨_,_,_,rfl,by decide,by decide⟩
  ·exact .inl (.inl (.inr hk))
 ·rintro k hk (h1|h1)
  ·exact hv k hk h1
  ·exact hne k (.inr (.inl (.inr (.inr hk)))) h1
 ·rintro (h1|h1)
  ·exact h.nX.1 h1
  ·exact hne _ (.inr (.inl (.inl rfl))) h1
 ·rintro (h1|h1)
  ·exact h.nX.2.1 h1
  ·exact hne _ (.inr (.inl (.inr (.inl rfl)))) h1
 ·rintro (h1|h1)
  ·exact h.nX.2.2 h1
  ·exact hne _ (.inr (.inr rfl)) h1
theorem mP.less(h:mP w (dx X v) ρ n0 root ns ts cC en):mP w X ρ n0 root ns ts cC en:=by obtain ⟨pv,hN,hv⟩:=h.uW;exact ⟨h.shelf.keep (bH.refl _) (λ_ _ _ h _=>h) (λk hk=>.inl (hk.elim (λh=>.inl (.inl h)) .inr)),⟨pv,hN,λk hk hx=>hv k hk (.inl hx)⟩,h.ev,⟨λhx=>h.nX.1 (.inl hx),λhx=>h.nX.2.1 (.inl hx),λhx=>h.nX.2.2 (.inl hx)⟩,h.jL,h.met,h.bits,h.sz,h.leaves⟩
def jS(X:Nat->Prop)(ρ:Rd)(n0:Nat)(root:aN)(ts L:List D)(w:World)(e:Ending)(w':World):Prop:=
 ∃(R:Nat) (Bu:List (Nd Value)) (us:List D) (eY:List Nat) (er:Nat),e=.returned (.int .u64 R)/\Fx X w w'/\mP w' X ρ n0 root Bu (ts++us) eY er/\ei (ts++us) L R
def CL(X:Nat->Prop)(ρ:Rd)(n0:Nat)(root:aN)(ns:List (Nd Value))(ts L:List D)(v:Value)(js:List Nat)(w:World)(k:Nat)(left i:Value)(wr:World):Prop:=
 ∃(j R:Nat) (us:List D) (eY:List Nat) (er:Nat),i=.int .i64 j/\left=.int .u64 R/\j+k=js.length/\Fx (dx X v) w wr/\PU wr ρ/\Ints wr 0 v js/\F2 (aU (aF wr) n0 ns) L js/\mP wr (dx X v) ρ n0 root ns (ts++us) eY er/\ei (ts++us) (L.take j) R
theorem JW{x:D}{et:List D}{VB:List Nat}{Tn:Nat}
  (hj:j+(k+1)=js.length) (hF:Fx (dx X v) w wr) (hs:PU wr ρ) (hI:Ints wr 0 v js) (hL:F2 (aU (aF wr) n0 ns) L js) (dE:ei (ts++us) (L.take j) R) (hx:L[j]?=some x)
  (dB:Fx (dx X v) wr w3) (rP:mP w3 (dx X v) ρ n0 root ns et VB Tn) (hn:et[n]?=some x) (ib:et=ts++us∨et=ts++us++[x]):
  CL X ρ n0 root ns ts L v js w k (.int .u64 ((R ||| 2 ^ n:Nat):Int)) (.int .i64 ((j+1:Nat):Int)) w3:=by
 have U0:=aw hx;have etk:L.take (j+1)=L.take j++[x]:=by rw[List.take_succ_eq_append_getElem U0];rw[List.getElem?_eq_getElem U0]at hx;rw[Option.some.inj hx]
 obtain ⟨vF,rfl,ZT⟩:∃vF,et=ts++vF/\ei (ts++vF) (L.take j) R:=by
  rcases ib with rfl|rfl
  ·exact ⟨us,rfl,dE⟩
  ·exact ⟨us++[x],by simp,by rw[<-List.append_assoc];exact dE.append⟩
 exact ⟨j+1,R ||| 2 ^ n,vF,VB,Tn,rfl,rfl,by omega,hF.trans dB,hs.fx dB,hI.iF λb hb=>dB.keep b (.inr hb),hL.mono λd k h=>aU.world dB.cS h,rP,by rw[etk];exact ZT.snoc hn⟩
theorem NR
  (zm:Fx X w0 w) (hj:j=js.length) (hF:Fx (dx X v) w wr) (hL:F2 (aU (aF wr) n0 ns) L js) (hD:mP wr (dx X v) ρ n0 root ns (ts++us) eY er) (dE:ei (ts++us) (L.take j) R):
  jS X ρ n0 root ts L w0 (.returned (.int .u64 (R:Int))) wr:=by
 have e:=hL.length;rw[List.take_of_length_le (by omega)]at dE;exact ⟨R,ns,us,eY,er,rfl,zm.trans (hF.sub λ_ h=>.inl h),hD.less,dE⟩
theorem ei.nil(ts:List D):ei ts [] 0:=⟨λ_ h=>by simp at h,λm hm=>by simp at hm⟩
theorem mP.below(hD:mP w X ρ n0 root ns ts cC en)(hb:Below w.heap.size w w'):mP w' X ρ n0 root ns ts cC en:=by
 have hc:∀(k:Nat) o,w.heap[k]?=some o->w'.heap[k]?=some o:=λk o hh=>(hb.block k (ae hh)).trans hh
 have hst:bH w w':=bH.au hb;obtain ⟨pv,hN,hv⟩:=hD.uW;refine ⟨hD.shelf.below hb,⟨pv,⟨hc _ _ hN.var,hN.row.iF λk hk=>?_,?_,hN.nodup,hN.small⟩,hv⟩,hc _ _ hD.ev,hD.nX,hD.jL.mono λd k hh=>aU.world hst hh,hD.met,hD.bits,hD.sz,hD.leaves⟩
 ·obtain ⟨c,hcc⟩:=hN.row.block hk;rw[hcc];exact hc _ _ hcc
 ·obtain ⟨m,f,hm,h1,h2⟩:=hN.map;exact ⟨m,f,hm.keep (hb.block _ hm.lt),h1,h2⟩
theorem jS.back{e:Ending}(hF:Fx X w w0)(h:jS X ρ n0 root ts L w0 e w'):jS X ρ n0 root ts L w e w':=by obtain ⟨R,Bu,us,eY,er,h1,h2,h3⟩:=h;exact ⟨R,Bu,us,eY,er,h1,hF.trans h2,h3⟩
set_option maxHeartbeats 2000000 in
theorem NS(X:Nat->Prop)(ρ:Rd)(n0:Nat)(root:aN)(ns:List (Nd Value))(ts:List D)(cC:List Nat)(en:Nat)(t:D)(n:Nat)(b:UInt8)(w:World)(hX:ia X w)(hK:ρ.K<w.heap.size)(hD:mP w X ρ n0 root ns ts cC en)(hs:PU w ρ)(ht:ts[n]?=some t):
  Calls Tryz.prog 177 #[.agg #[.int .i64 n,.int .u8 b.toNat],.pointer (some ⟨ρ.sv,0,none⟩),.pointer (some ⟨ρ.xv,0,none⟩),.pointer (some ⟨ρ.kk,0,none⟩)] w (jS X ρ n0 root ts (pd b t) w):=by
 have Xl:Below w.heap.size w (w.alloc (.cells #[.int .i64 n,.int .u8 b.toNat] 305)):=(Below.refl _ _).alloc (Nat.le_refl _) _
 suffices ZU:Calls Tryz.prog 177 #[.agg #[.int .i64 n,.int .u8 b.toNat],.pointer (some ⟨ρ.sv,0,none⟩),.pointer (some ⟨ρ.xv,0,none⟩),.pointer (some ⟨ρ.kk,0,none⟩)] w (jS X ρ n0 root ts (pd b t) (w.alloc (.cells #[.int .i64 n,.int .u8 b.toNat] 305))) from ZU.mono λe w' h=>h.back (Fx.au hX Xl)
 replace hs:=hs.fx (Fx.au hX Xl);replace hX:=hX.mono Xl.size;replace hK:=Nat.lt_of_lt_of_le hK Xl.size;replace hD:=hD.below Xl;have hG:=af w (.cells #[.int .i64 n,.int .u8 b.toNat] 305);have pu:(w.alloc (.cells #[.int .i64 n,.int .u8 b.toNat] 305)).cell? ⟨w.heap.size,0,none⟩=some (.int .i64 n):=by rw[World.cell?,hG];rfl
 have DO:(w.alloc (.cells #[.int .i64 n,.int .u8 b.toNat] 305)).cell? ⟨w.heap.size,1,none⟩=some (.int .u8 b.toNat):=by rw[World.cell?,hG];rfl
 have HG:=aa hG;clear hG Xl;obtain ⟨pv,hN,hv⟩:=hD.uW;obtain ⟨k,hk⟩:∃k,cC[n]?=some k:=by have h1:=aw ht;rw[hD.jL.length]at h1;exact ⟨cC[n],List.getElem?_eq_getElem h1⟩
 obtain ⟨t',ib,hr⟩:=hD.jL.get hk;rw[ht]at ib;cases ib;have ZV:=hD.met t (List.mem_of_getElem? ht)
 have hsz:t.sz<=1000000:=by
  have abd:root.sz*root.sz<=200*200:=Nat.mul_le_mul hD.sz hD.sz;simp only[met,List.mem_cons]at ZV;rcases ZV with rfl|h
  ·have:=hD.sz;simp only[D.sz];omega
  ·have:=GZ root t h;omega
 have s0:=ay hs.sv;have x0:=ay hs.xv;have HEX:=aa (ri ρ.M ρ.pl pv cC k n (w.alloc (.cells #[.int .i64 n,.int .u8 b.toNat] 305)).drew ⟨hN.var,hN.row,(let ⟨m,f,h1,h2⟩:=hN.map;⟨m,f,h1.keep rfl,h2⟩),hN.nodup,hN.small⟩ hk)
 have HDV:=aa (EO b t (zZ X ρ pv) ρ.S n0 ns (gy root) k (w.alloc (.cells #[.int .i64 n,.int .u8 b.toNat] 305)).drew (show ia (zZ X ρ pv) (w.alloc (.cells #[.int .i64 n,.int .u8 b.toNat] 305)).drew from NQ (w:=w.alloc (.cells #[.int .i64 n,.int .u8 b.toNat] 305)) hX hK hN hD.ev) (hD.beside hN).drew (aU.world (w:=w.alloc (.cells #[.int .i64 n,.int .u8 b.toNat] 305)) (w':=(w.alloc (.cells #[.int .i64 n,.int .u8 b.toNat] 305)).drew) (λ_ _ _ _ h=>h) hr) (xg ZV) hsz)
 have HX:=aa hX;have HD:=aa hD;have HS:=aa hs;have HN:=aa hN;have HV:=aa hv;have HTM:=aa ZV;clear hX hD hs ht hN hv hk hr ZV hK;obtain ⟨q,hq⟩:∃q,q=w.heap.size:=⟨_,rfl⟩;go_enter Tryz.func177,Tryz.ntmps177;go_wp2_with fail;rw[<-hq]at pu DO HG ⊢;clear hq;generalize w.alloc (.cells #[.int .i64 n,.int .u8 b.toNat] 305)=W at *
 have wU:=aa (λ(w2:World) (hF:Fx (zZ X ρ pv) W w2)=>show w2.cell? ⟨q,0,none⟩=some (.int .i64 n)/\w2.cell? ⟨q,1,none⟩=some (.int .u8 b.toNat)/\w2.cell? ⟨ρ.sv,0,none⟩=some (.pointer (some ⟨ρ.S,0,none⟩))/\w2.cell? ⟨ρ.xv,0,none⟩=some (.func (.func 197) #[] #[.pointer (some ⟨ρ.pl,0,none⟩)]) from
  have h1:=hF.stay _ _ _ (by decide) HG.out
  ⟨by simp[World.cell?,h1],by simp[World.cell?,h1],ay (HS.out.fx hF).sv,ay (HS.out.fx hF).xv⟩)
 go_region_held3 (λw'=>w'.cell? ⟨q,0,none⟩=some (.int .i64 n)/\w'.cell? ⟨q,1,none⟩=some (.int .u8 b.toNat)/\w'.cell? ⟨ρ.sv,0,none⟩=some (.pointer (some ⟨ρ.S,0,none⟩))/\w'.cell? ⟨ρ.xv,0,none⟩=some (.func (.func 197) #[] #[.pointer (some ⟨ρ.pl,0,none⟩)]))
  (first
   | with_reducible exact AE
   | go_keep)
  (first
   | (go_at_call 197;refine HEX.out.mono ?_;rintro e1 w1 ⟨rfl,rfl⟩)
   | (go_at_call 178;refine HDV.out.mono ?_;rintro e2 w2 ⟨v2,js,ms,rfl,hF2,j4,kN,ed⟩;obtain ⟨ao,cap,rfl⟩:=kN.1.form;have eG:=aa hF2.gT;have AE:=wU.out w2 eG.out;have xT:=aa j4;have zq:=aa kN;have jD:=aa ed;clear hF2 j4 kN ed))
 all_goals
  have hF2:=eG.out;have hs2:=HS.out.fx hF2;have DN:=HD.out.Ro HN.out HV.out hF2 xT.out zq.out;have qF:js.length<=1000000:=by have h1:=jD.out.length;have h2:=fy b t;omega
  have HOX:=aa ((HX.out.fx hF2).dx zq.out.1);have HI:=aa zq.out.1;have HJ:=aa jD.out;have HD2:=aa DN;have HSC:=aa hs2;have HFX:=aa (hF2.sub (Y:=X) λ_ h=>.inl (.inl h));have AA:=aa (λx (hx:x∈pd b t)=>Er root b t HTM.out x hx);clear eG xT zq jD HX HD HS HN HV HTM hF2 hs2 DN HEX HDV;go_wp2_with fail
  go_loopg [6,18] js.length (λk left i wr=>CL X ρ n0 root (ns++ms) ts (pd b t) (.slice ao js.length cap) js w2 k left i wr)
  case atStart=>exact ⟨0,0,[],cC,en,by simp,by simp,by simp,Fx.refl _ _,HSC.out,HI.out,HJ.out,by simpa using HD2.out,by simpa using ei.nil _⟩
  case round=>
   obtain ⟨j,R,us,eY,er,rfl,rfl,hj,nz,hs,hI,hL,VC,dE⟩:=hrel;have VD:=dE.lt (by have h1:=VC.few;have h2:=VC.jL.length;omega);by_cases hlt:j<js.length
   ·obtain ⟨f,hf⟩:∃f,js[j]?=some f:=⟨js[j],List.getElem?_eq_getElem hlt⟩;obtain ⟨g',cap',e',SG⟩:=hI.at hf;cases e';obtain ⟨xj,MX,Y3⟩:=hL.get hf;have c0:=ay hs.kk;have lU:=aa (CK _ ρ n0 root (ns++ms) (ts++us) eY er xj f wr (HOX.out.fx nz) VC hs Y3 (AA.out xj (List.mem_of_getElem? MX)));have HFr:=aa nz;have Hsr:=aa hs;have HIr:=aa hI
    have CM:=aa hL;have HDr:=aa VC;have abI:=aa dE;have HXJ:=aa MX;clear nz hs hI hL VC dE MX Y3 hf;go_wp2_with fail;refine lU.out.mono ?_;rintro e w3 ⟨n3,et,VB,Tn,rfl,dB,rP,Th,ht3⟩;have JV:n3<64:=by have h1:=aw Th;have h2:=rP.few;have h3:=rP.jL.length;omega
    obtain ⟨k',rfl⟩:∃k',gk=k'+1:=⟨gk - 1,by omega⟩;have hstep:=JW hj HFr.out Hsr.out HIr.out CM.out abI.out HXJ.out dB rP Th ht3;have Rn:=aa (bits_or_u64_nat R (2 ^ n3) VD (oO JV));have HST:=aa hstep;clear hstep dB rP Th ht3 JV;go_wp2_with fail;go_roundg k'
    case measure=>omega
    case rel=>
     have hst:=HST.out;rw[<-Rn.out]at hst;have e2:((2 ^ n3:Nat):Int)=(2:Int) ^ n3:=by simp
     rw[e2]at hst;exact hst
   ·have ai:=aa (NR HFX.out (by omega) nz hL VC dE);clear nz hs hI hL VC dE;go_wp2_with fail;go_ret;exact ai.out
def DZ(X:Nat->Prop)(ρ:Rd):Nat->Prop:=λk=>X k∨k=ρ.K
theorem NT(w:World):(zeroValue 188).run Tryz.prog w=.ok (.int .u64 0) w:=by kernel_rfl
structure Full(w:World)(X:Nat->Prop)(ρ:Rd)(n0:Nat)(root:aN)(ts:List D)(en:Nat):Prop where
 dyn:∃ns cC,mP w (DZ X ρ) ρ n0 root ns ts cC en
 Xm:PU w ρ
 nK:¬X ρ.K
 known:∃(m:Nat) (f:Nat×UInt8->Option Int) (ks:List (Nat×UInt8)),bY iC 188 .u64 w ρ.K m f/\m<=ks.length/\ks.Nodup/\(∀x∈ks,x.1<ts.length/\(f x).isSome=true)/\∀n b c,f (n,b)=some c->∃(R:Nat) (t:D),c=R/\ts[n]?=some t/\ei ts (pd b t) R
def rB(X:Nat->Prop)(ρ:Rd)(n0:Nat)(root:aN)(ts L:List D)(w:World)(e:Ending)(w':World):Prop:=
 ∃(R:Nat) (us:List D) (er:Nat),e=.returned (.int .u64 R)/\Fx X w w'/\Full w' X ρ n0 root (ts++us) er/\ei (ts++us) L R
theorem Full.few(h:Full w X ρ n0 root ts en):ts.length<=61:=by obtain ⟨ns,cC,hD⟩:=h.dyn;rw[hD.jL.length];exact hD.few
theorem NU(ks:List (Nat×UInt8))(hn:ks.Nodup)(h:∀x∈ks,x.1<64):ks.length<=16384:=by
 have h1:=kM (l:=ks) (m:=(List.range 64).flatMap λn=>(List.range 256).map λb=>(n,b.toUInt8)) hn (λx hx=>by refine List.mem_flatMap.2 ⟨x.1,List.mem_range.2 (h x hx),List.mem_map.2 ⟨x.2.toNat,List.mem_range.2 x.2.toNat_lt,?_⟩⟩;refine Prod.ext rfl ?_;simp)
 have h2:((List.range 64).flatMap λn=>(List.range 256).map λb=>(n,b.toUInt8)).length<=(List.range 64).length*256:=fJ _ 256 _ (λx _=>by simp);simp only[List.length_range]at h2;omega
theorem mP.VE{es:Array _}{kY:Nat}(h:mP w (DZ X ρ) ρ n0 root ns ts cC en)(ho:w.heap[ρ.K]?=some (.map es kY))(hg:w.grownBy w' (some ρ.K)):mP w' (DZ X ρ) ρ n0 root ns ts cC en:=by
 have hb:∀k:Nat,k<w.heap.size->k≠ρ.K->w'.heap[k]?=w.heap[k]?:=λk hk hne=>hg.block k hk (λe=>hne (Option.some.inj e))
 have hc:∀(k:Nat) c t fz,w.heap[k]?=some (.cells c t fz)->w'.heap[k]?=some (.cells c t fz):=λk c t fz hh=>by rw[hb k (ae hh) (by rintro rfl;rw[ho]at hh;cases hh)];exact hh
 have hst:bH w w':=λk c t _ hh=>hc k c t _ hh
 obtain ⟨pv,hN,hv⟩:=h.uW;refine ⟨h.shelf.keep hst (λk o Xd hk _=>?_) (λ_ h=>.inl h),⟨pv,⟨hc _ _ _ _ hN.var,hN.row.iF λk hk=>?_,?_,hN.nodup,hN.small⟩,hv⟩,hc _ _ _ _ h.ev,h.nX,h.jL.mono λd k hh=>aU.world hst hh,h.met,h.bits,h.sz,h.leaves⟩
 ·rw[hb k (ae hk) (λe=>Xd (.inr (.inr e)))];exact hk
 ·obtain ⟨c,hcc⟩:=hN.row.block hk;rw[hcc];exact hc _ _ _ _ hcc
 ·obtain ⟨m,f,hm,h1,h2⟩:=hN.map;exact ⟨m,f,hm.keep (hb _ hm.lt (λe=>h.nX.1 (.inr e))),h1,h2⟩
theorem Full.below(h:Full w X ρ n0 root ts en)(hb:Below w.heap.size w w'):Full w' X ρ n0 root ts en:=by
 obtain ⟨⟨ns,cC,hD⟩,hs,hk,m,f,ks,hm,h1,h2,h3,h4⟩:=h;have hc:∀(k:Nat) o,w.heap[k]?=some o->w'.heap[k]?=some o:=λk o hh=>(hb.block k (ae hh)).trans hh
 have hst:bH w w':=bH.au hb;obtain ⟨pv,hN,hv⟩:=hD.uW
 refine ⟨⟨ns,cC,hD.shelf.below hb,⟨pv,⟨hc _ _ hN.var,hN.row.iF λk hk=>?_,?_,hN.nodup,hN.small⟩,hv⟩,hc _ _ hD.ev,hD.nX,hD.jL.mono λd k hh=>aU.world hst hh,hD.met,hD.bits,hD.sz,hD.leaves⟩,⟨hc _ _ hs.sv,hc _ _ hs.mv,hc _ _ hs.nv,hc _ _ hs.xv,hc _ _ hs.kk,hc _ _ hs.wk,hc _ _ hs.kv,hc _ _ hs.av⟩,hk,m,f,ks,hm.keep (hb.block _ hm.lt),h1,h2,h3,h4⟩
 ·obtain ⟨c,hcc⟩:=hN.row.block hk;rw[hcc];exact hc _ _ hcc
 ·obtain ⟨m,f,hm,h1,h2⟩:=hN.map;exact ⟨m,f,hm.keep (hb.block _ hm.lt),h1,h2⟩
theorem JX{m:Nat}{w1 w2:World}{Bu:List (Nd Value)}{f:Nat×UInt8->Option Int}{ks:List (Nat×UInt8)}
  (hX:ia X w) (hF:Full w X ρ n0 root ts en) (hB:Below w.heap.size w w0) (hm:m<=ks.length) (hn:ks.Nodup) (pV:∀x∈ks,x.1<ts.length/\(f x).isSome=true) (hf:∀n b c,f (n,b)=some c->∃(R:Nat) (t:D),c=R/\ts[n]?=some t/\ei ts (pd b t) R)
  (ht:ts[n]?=some t) (hnone:f (n,b)=none) (fT:Fx (DZ X ρ) w0 w1) (Xn:mP w1 (DZ X ρ) ρ n0 root Bu (ts++us) eY er) (hs1:ei (ts++us) (pd b t) R) (Lf:bY iC 188 .u64 w1 ρ.K m f)
  (Ce:bY iC 188 .u64 w2 ρ.K (m+1) (λy=>if y=(n,b) then some (R:Int) else f y)) (hg:w1.grownBy w2 (some ρ.K)):rB X ρ n0 root ts (pd b t) w (.returned (.int .u64 R)) w2:=by
 obtain ⟨es,kY,ho⟩:=Lf.obj;have zm:Fx X w w1:=(Fx.au hX hB).trans (fT.sub λ_ h=>.inl h);have hF2:Fx X w w2:=zm.grown hg (hX.fx zm) (λk e=>by cases e;exact hF.nK) (λk e c t fz hh=>by cases e;rw[ho]at hh;cases hh);refine ⟨R,us,er,rfl,hF2,⟨⟨Bu,eY,Xn.VE ho hg⟩,hF.Xm.fx hF2,hF.nK,m+1,_,(n,b)::ks,Ce,by simp;omega,List.nodup_cons.2 ⟨λhx=>?_,hn⟩,?_,?_⟩,hs1⟩
 ·have:=(pV _ hx).2;rw[hnone]at this;cases this
 ·intro x hx;have hl:=aw ht;rcases List.mem_cons.1 hx with rfl|hx
  ·exact ⟨by simp;omega,by simp⟩
  ·obtain ⟨h1,h2⟩:=pV x hx;refine ⟨by simp;omega,?_⟩;by_cases e:x=(n,b)
   ·simp[e]
   ·simp[e,h2]
 ·intro n' b' c hc;by_cases e:(n',b')=(n,b)
  ·rw[if_pos e]at hc;simp only[Prod.mk.injEq]at e;obtain ⟨rfl,rfl⟩:=e;exact ⟨R,t,(Option.some.inj hc).symm,bM ht,hs1⟩
  ·rw[if_neg e]at hc;obtain ⟨R',t',h1,h2,h3⟩:=hf n' b' c hc;exact ⟨R',t',h1,bM h2,h3.append⟩
theorem wf_u64(h:R<18446744073709551616):(Lit.int .u64 (R:Int)).wf=true:=by simp only[Lit.wf,IntKind.min,IntKind.max,IntKind.signed,IntKind.bits];simp;omega
set_option maxRecDepth 20000 in
set_option maxHeartbeats 2000000 in
theorem JY(X:Nat->Prop)(ρ:Rd)(n0:Nat)(root:aN)(ts:List D)(en:Nat)(t:D)(n:Nat)(b:UInt8)(w:World)(hX:ia X w)(hF:Full w X ρ n0 root ts en)(ht:ts[n]?=some t):
  Calls Tryz.prog 198 #[.agg #[.int .i64 n,.int .u8 b.toNat],.pointer (some ⟨ρ.kv,0,none⟩),.pointer (some ⟨ρ.wk,0,none⟩)] w (rB X ρ n0 root ts (pd b t) w):=by
 obtain ⟨m,f,ks,hM,hm,hnd,pV,hf⟩:=hF.known;have hl:=aw ht;have sS:=hF.few;have c0:=ay hF.Xm.kv;have UW:=ar c0
 have hlk:(Instr.lookup 319 (.map (some ρ.K)) (.agg #[.int .i64 n,.int .u8 b.toNat]) true).run Tryz.prog (w.alloc (.cells #[.int .i64 n,.int .u8 b.toNat] 305))=.ok (.tuple #[.int .u64 ((f (n,b)).getD 0),.bool (f (n,b)).isSome]) (w.alloc (.cells #[.int .i64 n,.int .u8 b.toNat] 305)):=by
  have h5:bY iC 188 .u64 (w.alloc (.cells #[.int .i64 n,.int .u8 b.toNat] 305)) ρ.K m f:=hM.keep (Below.heap_alloc _ _ _ hM.lt);exact h5.look (t:=319) Tryz.underlying319 Tryz.underlying188 NT (n,b) (by show n<=_;omega)
 cases hfn:f (n,b) with
 | some c=>
  obtain ⟨R,t',rfl,ib,dE⟩:=hf n b c hfn;rw[ht]at ib;cases ib;rw[hfn]at hlk;have xh:(Instr.lookup 319 (.map (some ρ.K)) (.agg #[.int .i64 n,.int .u8 b.toNat]) true).run Tryz.prog (w.alloc (.cells #[.int .i64 n,.int .u8 b.toNat] 305))=.ok (.tuple #[.int .u64 R,.bool true]) (w.alloc (.cells #[.int .i64 n,.int .u8 b.toNat] 305)):=hlk
  clear hlk
  have ai:=aa (show rB X ρ n0 root ts (pd b t) w (.returned (.int .u64 R)) (w.alloc (.cells #[.int .i64 n,.int .u8 b.toNat] 305)) from
   have hb:Below w.heap.size w (w.alloc (.cells #[.int .i64 n,.int .u8 b.toNat] 305)):=(Below.refl _ _).alloc (Nat.le_refl _) _
   ⟨R,[],en,rfl,Fx.au hX hb,by simpa using hF.below hb,by simpa using dE⟩)
  clear hF hX hM hm hnd pV hf dE hfn ht;go_enter Tryz.func198,Tryz.ntmps198;go_wp2;go_ret;exact ai.out
 | none=>
  rw[hfn]at hlk;have xh:(Instr.lookup 319 (.map (some ρ.K)) (.agg #[.int .i64 n,.int .u8 b.toNat]) true).run Tryz.prog (w.alloc (.cells #[.int .i64 n,.int .u8 b.toNat] 305))=.ok (.tuple #[.int .u64 0,.bool false]) (w.alloc (.cells #[.int .i64 n,.int .u8 b.toNat] 305)):=hlk;clear hlk
  have hb:Below w.heap.size w (w.alloc (.cells #[.int .i64 n,.int .u8 b.toNat] 305)):=(Below.refl _ _).alloc (Nat.le_refl _) _;have HB:=aa hb;have VF:=hM.lt;have zm:=hF.below hb;obtain ⟨ns,cC,hD0⟩:=zm.dyn
  have hX0:ia (DZ X ρ) (w.alloc (.cells #[.int .i64 n,.int .u8 b.toNat] 305)):=by
   rintro k (hk|rfl)
   ·exact (hX.mono hb.size) k hk
   ·exact Nat.lt_of_lt_of_le hM.lt hb.size
  have IZ:=aa (NS (DZ X ρ) ρ n0 root ns ts cC en t n b _ hX0 (hX0 _ (.inr rfl)) hD0 zm.Xm ht);have c1:=ay zm.Xm.wk;have HT:=aa (af w (.cells #[.int .i64 n,.int .u8 b.toNat] 305));have HX:=aa hX;have HF:=aa hF;have HM:=aa hM;have Hm:=aa hm;have Lq:=aa hnd;have HKS:=aa pV;have Hf:=aa hf;have ZC:=aa hfn;have Ht:=aa ht
  clear hF hX hM hm hnd pV hf hfn ht hD0 zm hX0 hb VF;go_enter Tryz.func198,Tryz.ntmps198;go_wp2_with fail;refine IZ.out.mono ?_;rintro e w1 ⟨R,Bu,us,eY,er,rfl,fT,Xn,hs1⟩;have VD:=hs1.lt (by have h1:=Xn.few;have h2:=Xn.jL.length;omega)
  have hM0:bY iC 188 .u64 (w.alloc (.cells #[.int .i64 n,.int .u8 b.toNat] 305)) ρ.K m f:=HM.out.keep (Below.heap_alloc _ _ _ HM.out.lt);have Lf:bY iC 188 .u64 w1 ρ.K m f:=hM0.keep (fT.keep _ (.inr rfl));have Xo:=fT.stay _ _ _ (by decide) HT.out;have adn:=ay (fT.stay _ _ _ (by decide) (HF.out.below HB.out).Xm.kv)
  have k0:w1.cell? ⟨w.heap.size,0,none⟩=some (.int .i64 n):=by simp[World.cell?,Xo]
  have k1:w1.cell? ⟨w.heap.size,1,none⟩=some (.int .u8 b.toNat):=by simp[World.cell?,Xo]
  have hmk:m<1000000000000:=by have h1:=NU ks Lq.out (λx hx=>by have:=(HKS.out x hx).1;omega);have h2:=Hm.out;omega
  obtain ⟨w2,hrun,Ce,hg⟩:=Lf.store (t:=319) Tryz.underlying319 Tryz.underlying188 hmk (n,b) (by show n<=_;omega) (R:Int) (wf_u64 VD);have G8:(Instr.mapUpdate 319 (.map (some ρ.K)) (.agg #[.int .i64 n,.int .u8 b.toNat]) (.int .u64 R)).run Tryz.prog w1=.ok () w2:=hrun
  have ai:=aa (JX HX.out HF.out HB.out Hm.out Lq.out HKS.out Hf.out Ht.out ZC.out fT Xn hs1 Lf Ce hg);clear fT Xn hs1 hM0 Lf Xo hrun Ce hg IZ c1 xh HM HB HT HX HF Hm Lq HKS Hf ZC Ht;go_wp2;go_ret;exact ai.out
def cW(ts:List D)(L:Nat)(u:List UInt8):Prop:=∃(m:Nat) (t:D),L.testBit m=true/\ts[m]?=some t/\Mt t.re u
def nV(ts:List D)(L:Nat):Prop:=∀m,L.testBit m=true->m<ts.length
theorem nV.append{L:Nat}(h:nV ts L):nV (ts++us) L:=λm hm=>by have:=h m hm;simp;omega
theorem nV.or{L:Nat}(h:nV ts L)(h':nV ts R):nV ts (L ||| R):=λm hm=>by rw[Nat.testBit_or,Bool.or_eq_true]at hm;exact hm.elim (h m) (h' m)
theorem nV.lt{L:Nat}(h:nV ts L)(hl:ts.length<=64):L<18446744073709551616:=by
 refine Nat.lt_pow_two_of_testBit (n:=64) L λi hi=>?_
 cases hb:L.testBit i with
 | false=>rfl
 | true=>have:=h i hb;omega
theorem cW.append{L:Nat}(h:nV ts L)(u:List UInt8):cW (ts++us) L u<->cW ts L u:=by
 constructor
 ·rintro ⟨m,t,h1,h2,h3⟩;rw[List.getElem?_append_left (h m h1)]at h2;exact ⟨m,t,h1,h2,h3⟩
 ·rintro ⟨m,t,h1,h2,h3⟩;exact ⟨m,t,h1,bM h2,h3⟩
theorem cW.or{L:Nat}{u:List UInt8}:cW ts (L ||| R) u<->cW ts L u∨cW ts R u:=by
 constructor
 ·rintro ⟨m,t,h1,h2,h3⟩;rw[Nat.testBit_or,Bool.or_eq_true]at h1;exact h1.elim (λh=>.inl ⟨m,t,h,h2,h3⟩) (λh=>.inr ⟨m,t,h,h2,h3⟩)
 ·rintro (⟨m,t,h1,h2,h3⟩|⟨m,t,h1,h2,h3⟩)
  ·exact ⟨m,t,by rw[Nat.testBit_or,h1];rfl,h2,h3⟩
  ·exact ⟨m,t,by rw[Nat.testBit_or,h1];simp,h2,h3⟩
theorem ei.inr(h:ei ts L R):nV ts R:=λm hm=>let ⟨_,_,h2⟩:=h.2 m hm;aw h2
theorem ei.abJ(h:ei ts L R)(u:List UInt8):cW ts R u<->∃d∈L,Mt d.re u:=by
 constructor
 ·rintro ⟨m,t,h1,h2,h3⟩;obtain ⟨t',h4,h5⟩:=h.2 m h1;rw[h2]at h5;cases h5;exact ⟨t,h4,h3⟩
 ·rintro ⟨d,h1,h2⟩;obtain ⟨m,h3,h4⟩:=h.1 d h1;exact ⟨m,d,h4,h3,h2⟩
def p7(X:Nat->Prop)(ρ:Rd)(n0:Nat)(root:aN)(ts:List D)(L:Nat)(b:UInt8)(w:World)(e:Ending)(w':World):Prop:=
 ∃(R:Nat) (us:List D) (er:Nat),e=.returned (.int .u64 R)/\Fx X w w'/\Full w' X ρ n0 root (ts++us) er/\nV (ts++us) R/\∀u,cW (ts++us) R u<->cW ts L (b::u)
def CN(X:Nat->Prop)(ρ:Rd)(n0:Nat)(root:aN)(ts:List D)(L:Nat)(b:UInt8)(w:World)(k:Nat)(left out:Value)(wr:World):Prop:=
 ∃(o:Nat) (us:List D) (er:Nat),left=.int .u64 k/\out=.int .u64 o/\Fx X w wr/\Full wr X ρ n0 root (ts++us) er/\nV ts k/\nV (ts++us) o/\(∀i,k.testBit i=true->L.testBit i=true) /\
  ∀u,cW (ts++us) o u<->∃i t,L.testBit i=true/\k.testBit i=false/\ts[i]?=some t/\Mt t.re (b::u)
theorem JZ{vF:List D}{L o:Nat}(hX:Fx X w wr)(hk:nV ts k)(wS:k≠0)(J0:k<18446744073709551616)(ho:nV (ts++us) o)(hs:∀i,k.testBit i=true->L.testBit i=true)
  (hl:∀u,cW (ts++us) o u<->∃i t,L.testBit i=true/\k.testBit i=false/\ts[i]?=some t/\Mt t.re (b::u)) (ht:ts[Lib.ctz 64 k]?=some t) (dB:Fx X wr w3) (nW:Full w3 X ρ n0 root (ts++us++vF) er) (dE:ei (ts++us++vF) (pd b t) R):
  CN X ρ n0 root ts L b w (k &&& (k - 1)) (.int .u64 ((k &&& (k - 1):Nat):Int)) (.int .u64 ((o ||| R:Nat):Int)) w3:=by
 obtain ⟨h1,h2,h3,h4⟩:=Hb k J0 wS;generalize Lib.ctz 64 k=c at *;rw[List.append_assoc]at nW dE;refine ⟨o ||| R,us++vF,er,rfl,rfl,hX.trans dB,nW,λm hm=>hk m ?_,?_,λi hi=>hs i ?_,λu=>?_⟩
 ·rw[h3]at hm;simp at hm;exact hm.1
 ·rw[<-List.append_assoc];rw[<-List.append_assoc]at dE;exact ho.append.or dE.inr
 ·rw[h3]at hi;simp at hi;exact hi.1
 ·rw[cW.or,<-List.append_assoc,cW.append ho,hl];rw[<-List.append_assoc]at dE;rw[dE.abJ,<-GK];constructor
  ·rintro (⟨i,t',a1,a2,a3,a4⟩|h)
   ·exact ⟨i,t',a1,by rw[h3,a2];rfl,a3,a4⟩
   ·exact ⟨c,t,hs c h2,by rw[h3];simp,ht,h⟩
  ·rintro ⟨i,t',a1,a2,a3,a4⟩;rw[h3]at a2;simp at a2
   cases ZW:k.testBit i with
   | false=>exact .inl ⟨i,t',a1,ZW,a3,a4⟩
   | true=>
    have e:=a2 ZW;subst e;rw[ht]at a3;cases a3;exact .inr a4
set_option maxHeartbeats 2000000 in
theorem NV(X:Nat->Prop)(ρ:Rd)(n0:Nat)(root:aN)(ts:List D)(en:Nat)(L:Nat)(b:UInt8)(w:World)(hX:ia X w)(h0:X 1)(hT:kK w)(hF:Full w X ρ n0 root ts en)(hL:nV ts L):
  Calls Tryz.prog 180 #[.func (.func 198) #[] #[.pointer (some ⟨ρ.kv,0,none⟩),.pointer (some ⟨ρ.wk,0,none⟩)],.int .u64 L,.int .u8 b.toNat] w (p7 X ρ n0 root ts L b w):=by
 have HX:=aa hX;have H0:=aa h0;have HT:=aa hT;have HF:=aa hF;have HL:=aa hL;clear hX h0 hT hF hL;go_enter Tryz.func180,Tryz.ntmps180;go_wp2_with fail;go_loopg [1,7] L (λk left out wr=>CN X ρ n0 root ts L b w k left out wr)
 case atStart=>
  refine ⟨0,[],en,rfl,rfl,Fx.refl _ _,by simpa using HF.out,HL.out,by intro m hm;simp at hm,λi hi=>hi,λu=>?_⟩;constructor
  ·rintro ⟨m,t,h1,_⟩;simp at h1
  ·rintro ⟨i,t,h1,h2,_⟩;rw[h1]at h2;cases h2
 case round=>
  obtain ⟨o,us,er,rfl,rfl,nz,nW,hk,ho,ou,hl⟩:=hrel;have sS:=nW.few;have J0:=hk.lt (by simp at sS;omega);have abK:=ho.lt (by omega);by_cases wS:gk=0
  ·have ai:=aa (show p7 X ρ n0 root ts L b w (.returned (.int .u64 o)) wr from ⟨o,us,er,rfl,nz,nW,ho,λu=>(by
    rw[hl u];subst wS;constructor
    ·rintro ⟨i,t,h1,_,h3,h4⟩;exact ⟨i,t,h1,h3,h4⟩
    ·rintro ⟨i,t,h1,h3,h4⟩;exact ⟨i,t,h1,by simp,h3,h4⟩)⟩)
   subst wS;clear nz nW hk ho ou hl;go_wp2_with fail;go_ret;exact ai.out
  ·have ado:((gk:Int)==0)=false:=by rw[beq_eq_false_iff_ne];omega
   obtain ⟨adp,hcb,gL,abL⟩:=Hb gk J0 wS;obtain ⟨t,ht⟩:∃t,ts[Lib.ctz 64 gk]?=some t:=⟨_,List.getElem?_eq_getElem (hk _ hcb)⟩;have HTZ:=aa (U5 gk wr J0 wS (HT.out.keep (nz.keep 1 H0.out)));have VG:=aa (JY X ρ n0 root (ts++us) er t (Lib.ctz 64 gk) b wr (HX.out.fx nz) nW (bM ht));have DR:=aa nz;have Hk:=aa hk
   have Ho:=aa ho;have Hs:=aa ou;have Hl:=aa hl;have Ht:=aa ht;clear nz nW hk ho ou hl ht hcb gL;go_wp2_with fail;refine HTZ.out.mono ?_;rintro e w1 ⟨rfl,rfl⟩;go_wp2_with fail;refine VG.out.mono ?_;rintro e w3 ⟨R,vF,Tn,rfl,dB,ma,NW⟩;have abM:=NW.inr.lt (by have h1:=ma.few;omega)
   have HST:=aa (JZ DR.out Hk.out wS J0 Ho.out Hs.out Hl.out Ht.out dB ma NW);have Rn:=aa (bits_or_u64_nat o R abK abM);have Yu:=aa (bits_and_u64_nat gk (gk - 1) J0 (by omega));have HM1:=aa (show ((gk:Int) - 1)=((gk - 1:Nat):Int) from by omega);clear dB ma NW HTZ VG;go_wp2_with fail;go_roundg (gk &&& (gk - 1))
   case measure=>exact abL
   case rel=>have hst:=HST.out;rw[<-Rn.out,<-Yu.out,<-HM1.out]at hst;exact hst
set_option maxHeartbeats 1000000 in
theorem mW(X:Nat->Prop)(ρ:Rd)(n0:Nat)(root:aN)(ts:List D)(en:Nat)(L:Nat)(b:UInt8)(w:World)(hX:ia X w)(h0:X 1)(hT:kK w)(hF:Full w X ρ n0 root ts en)(hL:nV ts L):
  Calls Tryz.prog 179 #[.int .u64 L,.int .u8 b.toNat,.pointer (some ⟨ρ.av,0,none⟩)] w (p7 X ρ n0 root ts L b w):=by
 have c0:=ay hF.Xm.av;have HG:=aa (NV X ρ n0 root ts en L b w hX h0 hT hF hL);clear hX h0 hT hF hL;go_enter Tryz.func179,Tryz.ntmps179;go_wp2_with fail;refine HG.out.mono ?_;rintro e w1 ⟨R,us,er,rfl,h1,h2,h3,h4⟩;have ai:=aa (show p7 X ρ n0 root ts L b w (.returned (.int .u64 R)) w1 from ⟨R,us,er,rfl,h1,h2,h3,h4⟩)
 clear h1 h2 h3 h4;go_wp2;go_ret;exact ai.out
theorem NX(h:mP w X ρ n0 root ns ts cC en)(L:Nat):L &&& en≠0<->cW ts L []:=by
 constructor
 ·intro hne;obtain ⟨i,hi⟩:=Nat.exists_testBit_of_ne_zero hne;rw[Nat.testBit_and,Bool.and_eq_true]at hi;obtain ⟨t,h1,h2⟩:=(h.bits i).1 hi.2;exact ⟨i,t,hi.1,h1,(j9 _).2 h2⟩
 ·rintro ⟨m,t,h1,h2,h3⟩ h0;have hb:=(h.bits m).2 ⟨t,h2,(j9 _).1 h3⟩;have:(L &&& en).testBit m=true:=by rw[Nat.testBit_and,h1,hb];rfl
  rw[h0]at this;simp at this
def NY(ts:List D)(L:Nat)(w:World)(e:Ending)(w':World):Prop:=∃x,e=.returned (.bool x)/\w'=w/\(x=true<->cW ts L [])
set_option maxHeartbeats 1000000 in
theorem yl(X:Nat->Prop)(ρ:Rd)(n0:Nat)(root:aN)(ts:List D)(en:Nat)(L:Nat)(w:World)(hF:Full w X ρ n0 root ts en)(hL:nV ts L):
  Calls Tryz.prog 181 #[.int .u64 L,.pointer (some ⟨ρ.ev,0,none⟩)] w (NY ts L w):=by
 have sS:=hF.few;obtain ⟨ns,cC,hD⟩:=hF.dyn;have c0:=ay hD.ev;have HB:=aa (bits_and_u64_nat L en (hL.lt (by omega)) hD.Te);have HE:=aa (NX hD L);clear hF hL hD;go_enter Tryz.func181,Tryz.ntmps181;go_wp2;go_ret;refine ⟨_,rfl,rfl,?_⟩;rw[<-HE.out,HB.out];simp only[bne_iff_ne,ne_eq];omega
def rdv(ρ:Rd)(start:Nat):Value:=.agg #[.int .u64 start,.func (.func 179) #[] #[.pointer (some ⟨ρ.av,0,none⟩)],.func (.func 181) #[] #[.pointer (some ⟨ρ.ev,0,none⟩)]]
end Go.Proofs.YtgncgdkpkkdaeaaGreatDoor
