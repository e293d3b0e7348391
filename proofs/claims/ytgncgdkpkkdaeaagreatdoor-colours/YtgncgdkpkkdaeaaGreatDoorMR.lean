import Derived.Test.YtgncgdkpkkdaeaaGreatDoorMQ
import Derived.RangeFuncNested
import Derived.Test.YtgncgdkpkkdaeaaGreatDoorMK
import Derived.Maps.AppendAt
import Derived.Lib.BufferMore
namespace Go.Proofs.YtgncgdkpkkdaeaaGreatDoor
open Go.RowKit aQ Go.Maps
variable {a root:aM} {ns:List (Nd Value)} {ts us:List D} {T:List UInt8} {B L N cap en dX g i j k l n0 p p' s st:Nat} {O X Y Z:Nat->Prop} {nd:Nd Value} {ρ:Rd} {W w w' wr:World}
def wZ(ρ:Rd)(st:Nat)(ρb:Rd)(sb:Nat):Value:=.agg #[.int .u64 st,.func (.func 179) #[] #[.pointer (some ⟨ρ.av,0,none⟩)],.func (.func 181) #[] #[.pointer (some ⟨ρ.ev,0,none⟩)],.int .u64 sb,.func (.func 179) #[] #[.pointer (some ⟨ρb.av,0,none⟩)],.func (.func 181) #[] #[.pointer (some ⟨ρb.ev,0,none⟩)]]
def aN(Y:Nat->Prop)(w w':World):Prop:=Fx (λk=>k<w.heap.size/\¬Y k) w w'
theorem aN.refl(Y:Nat->Prop)(w:World):aN Y w w:=Fx.refl _ _
theorem aN.trans{a b c:World}(h:aN Y a b)(k:aN Y b c):aN Y a c:=
 ⟨k.os.trans h.os,k.tape.trans h.tape,k.output.trans h.output,Nat.le_trans h.size k.size,λi hi=>(k.keep i ⟨Nat.lt_of_lt_of_le hi.1 h.size,hi.2⟩).trans (h.keep i hi),λi x t ht hh=>k.stay i x t ht (h.stay i x t ht hh)⟩
theorem aN.sub(h:aN Y w w')(hs:∀k,k<w.heap.size->Y k->Z k):aN Z w w':=Fx.sub h λk hk=>⟨hk.1,λhy=>hk.2 (hs k hk.1 hy)⟩
theorem aN.same(h:aN Y w w'){o:Obj}(hk:w.heap[k]?=some o)(hy:¬Y k):w'.heap[k]?=some o:=(h.keep k ⟨ae hk,hy⟩).trans hk
theorem aN.ar(h:Below w.heap.size w w'):aN Y w w':=Fx.ar (λ_ hk=>hk.1) h
theorem aN.putObj{r:Loop}(o:Obj)(hl:w.heap[l]?=some (.loop r))(hy:Y l):aN Y w (w.putObj l o):=
 ⟨rfl,rfl,rfl,by simp,λk hk=>World.putObj_heap_other (λe=>hk.2 (e▸hy)),λk c t _ hh=>(World.putObj_heap_other (λe=>by rw[e,hl]at hh;cases hh)).trans hh⟩
theorem aN.setCell{p:Addr}{c:Array Value}{t:TypeId}{fz:Nat×Nat}(hp:Y p.block)(hb:w.heap[p.block]?=some (.cells c t fz))(ht:nu t=false)(u:Value):aN Y w (w.setCell p u):=
 (Fx.refl _ _).setCell (λhk=>hk.2 hp) hb ht u
theorem Full.off(h:Full w X ρ n0 root ts en)(ho:aN X w w'):Full w' X ρ n0 root ts en:=by
 obtain ⟨⟨ns,cu,hD⟩,hs,hK,m,f,ks,hm,h1,h2,h3,h4⟩:=h;have hk:∀(k:Nat) o,¬X k->w.heap[k]?=some o->w'.heap[k]?=some o:=λk o hx hh=>ho.same hh hx
 have hst:bu w w':=Fx.dh ho;obtain ⟨pv,hN,hv⟩:=hD.tT
 refine ⟨⟨ns,cu,hD.shelf.keep hst (λk o Vi ho _=>hk k o (λhx=>Vi (.inl (.inl hx))) ho) (λ_ h=>.inl h),⟨pv,⟨hk _ _ (λhx=>hD.nX.2.1 (.inl hx)) hN.var,hN.row.ig λk hb=>?_,?_,hN.nodup,hN.small⟩,hv⟩,hk _ _ (λhx=>hD.nX.2.2 (.inl hx)) hD.ev,hD.nX,hD.jn.mono λd k hh=>aS.world hst hh,hD.met,hD.bits,hD.sz,hD.leaves⟩,hs.fx ho,hK,m,f,ks,hm.keep (ho.keep _ ⟨hm.lt,hK⟩),h1,h2,h3,h4⟩
 ·obtain ⟨c,hcc⟩:=hN.row.block hb;rw[hcc];exact hk _ _ (λhx=>hv k hb (.inl hx)) hcc
 ·obtain ⟨m,f,hm,h1,h2⟩:=hN.map;exact ⟨m,f,hm.keep (ho.keep _ ⟨hm.lt,λhx=>hD.nX.1 (.inl hx)⟩),h1,h2⟩
theorem Full.uo(h:Full w X ρ n0 root ts en)(hZ:∀k,Z k->X k∨w.heap.size<=k):Full w Z ρ n0 root ts en:=by
 obtain ⟨⟨ns,cu,hD⟩,hs,hK,m,f,ks,hm,h1⟩:=h;have hno:∀(k:Nat) o,w.heap[k]?=some o->¬X k->¬Z k:=λk o hh hx hz=>(hZ k hz).elim hx (λh=>by have:=ae hh;omega)
 have hKl:=hm.lt;have hnK:¬Z ρ.K:=λhz=>(hZ _ hz).elim hK (λh=>by omega)
 have TV:∀(k:Nat) o,w.heap[k]?=some o->¬CR X ρ k->¬CR Z ρ k:=λk o hh hx hz=>by
  rcases hz with hz|hz
  ·exact hno k o hh (λh=>hx (.inl h)) hz
  ·exact hx (.inr hz)
 obtain ⟨pv,hN,hv⟩:=hD.tT;obtain ⟨mM,fM,hmM,_⟩:=hN.map;obtain ⟨es,kw,FR⟩:=hmM.obj;refine ⟨⟨ns,cu,hD.shelf.keep (bu.refl _) (λ_ _ _ h _=>h) (λk hk=>?_),⟨pv,hN,λk hk=>?_⟩,hD.ev,⟨TV _ _ FR hD.nX.1,TV _ _ hN.var hD.nX.2.1,TV _ _ hD.ev hD.nX.2.2⟩,hD.jn,hD.met,hD.bits,hD.sz,hD.leaves⟩,hs,hnK,m,f,ks,hm,h1⟩
 ·rcases hk with (hk|hk)|hk
  ·rcases hZ k hk with h|h
   ·exact .inl (.inl (.inl h))
   ·exact .inr λo ho=>absurd (ae ho) (by omega)
  ·exact .inl (.inl (.inr hk))
  ·exact .inl (.inr hk)
 ·obtain ⟨c,hcc⟩:=hN.row.block hk;exact TV _ _ hcc (hv k hk)
def ME(O:Nat->Prop)(w:World):Nat->Prop:=λk=>k<w.heap.size/\¬O k
def grow(O:Nat->Prop)(w w':World):Nat->Prop:=λk=>O k∨(w.heap.size<=k/\k<w'.heap.size)
structure pj(w:World)(O:Nat->Prop)(a:aM)(ρ:Rd)(st:Nat):Prop where
 old:∀k,O k->k<w.heap.size
 tab:¬O 1/\1 < w.heap.size
 full:∃n0 ts en,Full w (ME O w) ρ n0 a ts en/\nc ts st/\∀u,cO ts st u<->Mt a.re u
theorem F5(O:Nat->Prop)(w:World):gI (ME O w) w:=λ_ hk=>hk.1
theorem aN.MF(h:Fx (ME O w) w w'):aN O w w':=h
theorem pj.off(h:pj w O a ρ st)(ho:aN Y w w')(hd:∀k,O k->¬Y k):pj w' O a ρ st:=by
 obtain ⟨n0,ts,en,hF,hi,hl⟩:=h.full
 have hw:Full w (ME O w') ρ n0 a ts en:=hF.uo λk hk=>by
  rcases Nat.lt_or_ge k w.heap.size with hlt|kt
  ·exact .inl ⟨hlt,hk.2⟩
  ·exact .inr kt
 exact ⟨λk hk=>Nat.lt_of_lt_of_le (h.old k hk) ho.size,⟨h.tab.1,Nat.lt_of_lt_of_le h.tab.2 ho.size⟩,n0,ts,en,hw.off (ho.sub λk hk hy=>⟨Nat.lt_of_lt_of_le hk ho.size,λh=>hd k h hy⟩),hi,hl⟩
theorem pj.grown(h:pj w O a ρ st)(hF:Fx (ME O w) w w')(ng:Full w' (ME O w) ρ n0 a (ts++us) en)(hi:nc ts st)(hl:∀u,cO ts st u<->Mt a.re u):pj w' (grow O w w') a ρ st:=by
 refine ⟨λk hk=>hk.elim (λh1=>Nat.lt_of_lt_of_le (h.old k h1) hF.size) (λh=>h.2),⟨λhk=>hk.elim h.tab.1 (λh1=>by have:=h.tab.2;omega),Nat.lt_of_lt_of_le h.tab.2 hF.size⟩,n0,ts++us,en,ng.uo λk hk=>?_,hi.append,λu=>(cO.append hi u).trans (hl u)⟩;refine .inl ⟨?_,λh=>hk.2 (.inl h)⟩;rcases Nat.lt_or_ge k w.heap.size with hlt|kt
 ·exact hlt
 ·exact absurd (.inr ⟨kt,hk.1⟩) hk.2
def lu(X:Nat->Prop)(ρ:Rd)(n0:Nat)(root:aM)(ts:List D)(T:List UInt8)(s:Nat)(w:World)(e:Ending)(w':World):Prop:=
 ∃(stop:Nat) (us:List D) (dX:Nat),e=.returned (.int .i64 stop)/\Fx X w w'/\Full w' X ρ n0 root (ts++us) dX/\s<=stop/\stop<=T.length/\(stop=s∨Mt root.re (iD T s stop))/\∀j,stop<j->j<=T.length->¬Mt root.re (iD T s j)
def BI(X:Nat->Prop)(ρ:Rd)(n0:Nat)(root:aM)(ts:List D)(T:List UInt8)(s:Nat)(w:World)(k:Nat)(stop left at_:Value)(wr:World):Prop:=
 ∃(p L i:Nat) (us:List D) (dX:Nat),stop=.int .i64 p/\left=.int .u64 L/\at_=.int .i64 i/\i+k=T.length/\s<=i/\Fx X w wr/\Full wr X ρ n0 root (ts++us) dX/\nc (ts++us) L/\(∀u,cO (ts++us) L u<->Mt root.re (iD T s i++u)) /\
  s<=p/\p<=i/\(p=s∨Mt root.re (iD T s p))/\∀j,p<j->j<i->¬Mt root.re (iD T s j)
theorem xh{um:List D}{R:Nat}{b:UInt8}{w3:World}(hk:i+(k+1)=T.length)(hs:s<=i)(hF:Fx X w wr)(hl:∀u,cO (ts++us) L u<->Mt root.re (iD T s i++u))(hp:s<=p)(yE:p<=i)(hm:p=s∨Mt root.re (iD T s p))(hn:∀j,p<j->j<i->¬Mt root.re (iD T s j))
  (hx:(cO (ts++us) L []->p'=i)/\(¬cO (ts++us) L []->p'=p)) (hb:T[i]?=some b) (dp:Fx X wr w3) (ng:Full w3 X ρ n0 root (ts++us++um) dX) (hR:nc (ts++us++um) R) (X9:∀u,cO (ts++us++um) R u<->cO (ts++us) L (b::u)):
  BI X ρ n0 root ts T s w k (.int .i64 p') (.int .u64 R) (.int .i64 ((i+1:Nat):Int)) w3:=by
 have e1:∀u,iD T s (i+1)++u=iD T s i++b::u:=λu=>by rw[iu T hs (Nat.le_succ i),yD T hb];simp
 have e0:cO (ts++us) L []<->Mt root.re (iD T s i):=by rw[hl];simp
 rw[List.append_assoc]at ng hR X9;refine ⟨p',R,i+1,us++um,dX,rfl,rfl,rfl,by omega,by omega,hF.trans dp,ng,hR,λu=>?_,?_⟩
 ·rw[X9,hl,e1]
 ·by_cases hc:cO (ts++us) L []
  ·have hx:=hx.1 hc;subst hx;exact ⟨hs,by omega,.inr (e0.1 hc),λj h1 h2=>by omega⟩
  ·have hx:=hx.2 hc;subst hx;refine ⟨hp,by omega,hm,λj h1 h2=>?_⟩;rcases Nat.lt_or_ge j i with h|h
   ·exact hn j h1 h
   ·have:j=i:=by omega
    subst this;exact λh=>hc (e0.2 h)
theorem uq(hk:i+k=T.length)(hs:s<=i)(hF:Fx X w wr)(ng:Full wr X ρ n0 root (ts++us) dX)(hl:∀u,cO (ts++us) L u<->Mt root.re (iD T s i++u))(hp:s<=p)(yE:p<=i)(hm:p=s∨Mt root.re (iD T s p))(hn:∀j,p<j->j<i->¬Mt root.re (iD T s j))
  (hx:(cO (ts++us) L []->p'=i)/\(¬cO (ts++us) L []->p'=p)) (hend:L=0∨i=T.length):lu X ρ n0 root ts T s w (.returned (.int .i64 p')) wr:=by
 have e0:cO (ts++us) L []<->Mt root.re (iD T s i):=by rw[hl];simp
 have CN:∀j,i<j->j<=T.length->¬Mt root.re (iD T s j):=λj h1 h2 h3=>by
  rcases hend with rfl|rfl
  ·rw[iu T hs (Nat.le_of_lt h1),<-hl]at h3;obtain ⟨m,t,h4,_⟩:=h3;simp at h4
  ·omega
 refine ⟨p',us,dX,rfl,hF,ng,?_⟩;by_cases hc:cO (ts++us) L []
 ·have hx:=hx.1 hc;subst hx;exact ⟨hs,by omega,.inr (e0.1 hc),CN⟩
 ·have hx:=hx.2 hc;subst hx;refine ⟨hp,by omega,hm,λj h1 h2=>?_⟩;rcases Nat.lt_trichotomy j i with h|h|h
  ·exact hn j h1 h
  ·subst h;exact λh=>hc (e0.2 h)
  ·exact CN j h h2
theorem lu.below{w0:World}{e:Ending}(h:lu X ρ n0 root ts T s w0 e wr)(hX:gI X w)(hb:Below w.heap.size w w0):lu X ρ n0 root ts T s w e wr:=by obtain ⟨stop,us,dX,h1,h2,h3⟩:=h;exact ⟨stop,us,dX,h1,(Fx.ar hX hb).trans h2,h3⟩
set_option maxHeartbeats 2000000 in
theorem BJ(X:Nat->Prop)(ρ:Rd)(n0:Nat)(root:aM)(ts:List D)(en:Nat)(st:Nat)(ρb:Rd)(sb:Nat)(text:ByteArray)(s:Nat)(w:World)(hX:gI X w)(h0:X 1)(hT:kB w)(hF:Full w X ρ n0 root ts en)(hi:nc ts st)(hl:∀u,cO ts st u<->Mt root.re u)(hs:s<=text.size)(hsz:text.size<=maxLen):
  Calls Tryz.prog 129 #[wZ ρ st ρb sb,.string text,.int .i64 s] w (lu X ρ n0 root ts text.data.toList s w):=by
 have hb:Below w.heap.size w (w.alloc (.cells #[.int .u64 st,.func (.func 179) #[] #[.pointer (some ⟨ρ.av,0,none⟩)],.func (.func 181) #[] #[.pointer (some ⟨ρ.ev,0,none⟩)],.int .u64 sb,.func (.func 179) #[] #[.pointer (some ⟨ρb.av,0,none⟩)],.func (.func 181) #[] #[.pointer (some ⟨ρb.ev,0,none⟩)]] 194)):=(Below.refl _ _).alloc (Nat.le_refl _) _
 have HB:=aa hb
 have HO:=aa (af w (.cells #[.int .u64 st,.func (.func 179) #[] #[.pointer (some ⟨ρ.av,0,none⟩)],.func (.func 181) #[] #[.pointer (some ⟨ρ.ev,0,none⟩)],.int .u64 sb,.func (.func 179) #[] #[.pointer (some ⟨ρb.av,0,none⟩)],.func (.func 181) #[] #[.pointer (some ⟨ρb.ev,0,none⟩)]] 194))
 have HX:=aa hX;have pI:=aa (hX.mono hb.size);have H0:=aa h0;have HT:=aa (hT.keep (hb.block 1 (hX 1 h0)));have HF:=aa (hF.below hb);have HI:=aa hi;have HL:=aa hl;clear hX h0 hT hF hi hl hb;unfold wZ;go_enter Tryz.func129,Tryz.ntmps129;go_wp2_with fail
 generalize hW:w.alloc (.cells #[.int .u64 st,.func (.func 179) #[] #[.pointer (some ⟨ρ.av,0,none⟩)],.func (.func 181) #[] #[.pointer (some ⟨ρ.ev,0,none⟩)],.int .u64 sb,.func (.func 179) #[] #[.pointer (some ⟨ρb.av,0,none⟩)],.func (.func 181) #[] #[.pointer (some ⟨ρb.ev,0,none⟩)]] 194)=w0
 rw[hW]at HB HO pI HT HF;clear hW;go_loopg [7,8,9] (text.size - s) (λk stop left at_ wr=>BI X ρ n0 root ts text.data.toList s w0 k stop left at_ wr)
 case atStart=>exact ⟨s,st,s,[],en,rfl,rfl,rfl,by rw[ag];omega,Nat.le_refl _,Fx.refl _ _,by simpa using HF.out,by simpa using HI.out,by simpa [fC] using HL.out,Nat.le_refl _,Nat.le_refl _,.inl rfl,λj h1 h2=>by omega⟩
 case round=>
  obtain ⟨p,L,i,us,dX,rfl,rfl,rfl,hk,Ya,mG,ng,hL,hl,hp,yE,hm,hn⟩:=hrel;have PU:=mG.stay _ _ _ (by decide) HO.out;have r1:wr.cell? ⟨w.heap.size,1,none⟩=some (.func (.func 179) #[] #[.pointer (some ⟨ρ.av,0,none⟩)]):=by simp[World.cell?,PU]
  have r2:wr.cell? ⟨w.heap.size,2,none⟩=some (.func (.func 181) #[] #[.pointer (some ⟨ρ.ev,0,none⟩)]):=by simp[World.cell?,PU]
  have eT:L=0->¬cO (ts++us) L []:=by rintro rfl ⟨m,t,h4,_⟩;simp at h4
  by_cases hL0:L=0
  ·have ai:=aa ((uq hk Ya mG ng hl hp yE hm hn (p':=p) ⟨λh=>absurd h (eT hL0),λ_=>rfl⟩ (.inl hL0)).below HX.out HB.out);subst hL0;clear mG ng hL hl hp yE hm hn PU;go_wp2_with fail;go_ret;exact ai.out
  ·have acj:((L:Int)==0)=false:=by rw[beq_eq_false_iff_ne];omega
   have nG:=aa (xg X ρ n0 root (ts++us) dX L wr ng hL);have hk':i<=text.size:=by rw[ag]at hk;omega
   have HK:=aa hk;have CK:=aa mG;have MG:=aa ng;have BG:=aa hL;have Hl:=aa hl;have Hp:=aa hp;have Vu:=aa yE;have Hm:=aa hm;have Hn:=aa hn;clear mG ng hL hl hp yE hm hn PU hk eT;go_wp2_with fail;refine nG.out.mono ?_;rintro e w1 ⟨x,rfl,rfl,hx⟩
   cases x with
   | true=>
    by_cases hat:i=text.size
    ·have ai:=aa ((uq HK.out Ya CK.out MG.out Hl.out Hp.out Vu.out Hm.out Hn.out (p':=i) ⟨λ_=>rfl,λh=>absurd (hx.1 rfl) h⟩ (.inr (by rw[ag];exact hat))).below HX.out HB.out);have hat':((i:Int)==(text.size:Int))=true:=by rw[beq_iff_eq];omega
     clear nG HK CK MG BG Hl Hp Vu Hm Hn hx hat;go_wp2_with fail;go_ret;exact ai.out
    ·have hlt:i<text.size:=by omega
     have hat':((i:Int)==(text.size:Int))=false:=by rw[beq_eq_false_iff_ne];omega
     have wy:i+1<=9223372036854775807:=by unfold maxLen at hsz;omega
     have T5:=aa (mj X ρ n0 root (ts++us) dX L text[i] w1.drew (pI.out.fx CK.out.drew) H0.out (HT.out.keep (CK.out.drew.keep 1 H0.out)) (MG.out.below (Below.refl _ _).drew) BG.out);have T6:=aa (oW hlt);have HXX:=aa (hx.1 rfl);clear nG hx hat;go_wp2_with fail
     go_region_with (first
      | (go_at_call 179;refine T5.out.mono ?_;rintro e3 w3 ⟨R,um,RA,rfl,dp,lr,Av,vX⟩;obtain ⟨k',hk3⟩:∃k',gk=k'+1:=⟨gk - 1,by have:=HK.out;rw[ag]at this;omega⟩;have HST:=aa (xh (hk3▸HK.out) Ya CK.out Hl.out Hp.out Vu.out Hm.out Hn.out (p':=i) ⟨λ_=>rfl,λh=>absurd HXX.out h⟩ T6.out dp.gD lr Av vX);clear dp lr Av vX))
     all_goals
      go_wp2_with fail;go_roundg k'
      case measure=>omega
      case rel=>exact HST.out
   | false=>
    by_cases hat:i=text.size
    ·have ai:=aa ((uq HK.out Ya CK.out MG.out Hl.out Hp.out Vu.out Hm.out Hn.out (p':=p) ⟨λh=>absurd (hx.2 h) (by simp),λ_=>rfl⟩ (.inr (by rw[ag];exact hat))).below HX.out HB.out);have hat':((i:Int)==(text.size:Int))=true:=by rw[beq_iff_eq];omega
     clear nG HK CK MG BG Hl Hp Vu Hm Hn hx hat;go_wp2_with fail;go_ret;exact ai.out
    ·have hlt:i<text.size:=by omega
     have hat':((i:Int)==(text.size:Int))=false:=by rw[beq_eq_false_iff_ne];omega
     have wy:i+1<=9223372036854775807:=by unfold maxLen at hsz;omega
     have T5:=aa (mj X ρ n0 root (ts++us) dX L text[i] w1.drew (pI.out.fx CK.out.drew) H0.out (HT.out.keep (CK.out.drew.keep 1 H0.out)) (MG.out.below (Below.refl _ _).drew) BG.out);have T6:=aa (oW hlt);have HXX:=aa (show ¬cO (ts++us) L [] from λh=>by simpa using hx.2 h);clear nG hx hat;go_wp2_with fail
     go_region_with (first
      | (go_at_call 179;refine T5.out.mono ?_;rintro e3 w3 ⟨R,um,RA,rfl,dp,lr,Av,vX⟩;obtain ⟨k',hk3⟩:∃k',gk=k'+1:=⟨gk - 1,by have:=HK.out;rw[ag]at this;omega⟩;have HST:=aa (xh (hk3▸HK.out) Ya CK.out Hl.out Hp.out Vu.out Hm.out Hn.out (p':=p) ⟨λh=>absurd h HXX.out,λ_=>rfl⟩ T6.out dp.gD lr Av vX);clear dp lr Av vX))
     all_goals
      go_wp2_with fail;go_roundg k'
      case measure=>omega
      case rel=>exact HST.out
def xi(ns:List (Nd Value))(w:World)(e:Ending)(w':World):Prop:=∃sv',e=.returned sv'/\Below w.heap.size w w'/\bb w' w.heap.size sv' ns
theorem PV(h:∀nd∈ns,Form nd.has):∀u∈bH ns,u.oneCell'=true:=by
 intro u hu;obtain ⟨nd,h1,h2⟩:=List.mem_flatMap.1 hu;simp only[eN,List.mem_cons,List.not_mem_nil,or_false]at h2;rcases h2 with rfl|rfl|rfl|rfl|rfl
 ·rfl
 ·exact (h nd h1).one
 ·rfl
 ·rfl
 ·rfl
theorem Below.grownBy'{v:Value}(h:w.grownBy w' v.ownBlock)(hB:B<=w.heap.size)(hv:∀k,v.ownBlock=some k->B<=k):Below B w w':=
 ⟨h.os,h.tape,h.output,h.size,λk hk=>h.block k (by omega) (λe=>by have:=hv k e.symm;omega)⟩
theorem not_nil(a:Addr)(n c:Nat)(w:World):(binOp BinOp.eql 182 (Value.slice (some a) n c) (Value.slice none 0 0)).run Tryz.prog w=.ok (.bool false) w:=by exact Lib.run_eql_slice_some_nil w _ _ _ Tryz.underlying182
set_option maxRecDepth 20000 in
set_option maxHeartbeats 1000000 in
theorem xk(sv:Value)(ns:List (Nd Value))(w:World)(hL:bb w 0 sv ns)(h0:0<ns.length)(hn:ns.length<=200):
  Calls Tryz.prog 173 #[sv] w (xi ns w):=by
 obtain ⟨g,cap,rfl⟩:=aC hL.1 h0;obtain ⟨i0,hi,hz0,hz1,hz3⟩:=info_parts pX;have HL:=aa hL;have qM:=not_nil ⟨g,0,none⟩ ns.length cap w;clear hL;go_enter Tryz.func173,Tryz.ntmps173
 have HO:=aa (show bb (w.alloc (.cells #[] 292)) w.heap.size (.slice (some ⟨w.heap.size,0,none⟩) 0 0) [] from ⟨⟨rfl,.inr ⟨w.heap.size,0,#[],rfl,Nat.le_refl _,af _ _,Nat.le_refl _,by unfold maxLen;omega,rfl,rfl⟩⟩,by simp⟩)
 have HC:=aa (λ(j:Nat) u (h:(bH ns)[j]?=some u)=>show (w.alloc (.cells #[] 292)).cell? ((⟨g,0,none⟩:Addr).add j)=some u from aq (HL.out.1.cells rfl j u h) _)
 go_wp2_with (at_builtin;go_loud (refine wpList_append_own_at _ rfl (.tmp 5) (.tmp 6) 182 rfl w.heap.size 292 i0 (.agg #[.int .i64 0,.nilFunc,.int .i64 0,.int .i64 0,.bool false]) 5 40 Tryz.underlying182 hi hz0 hz1 hz3 rfl (by decide) (.slice (some ⟨w.heap.size,0,none⟩) 0 0) 0 [] (by rfl) (by exact HO.out.1) ⟨g,0,none⟩ ns.length cap (bH ns) (by rfl) (by exact kS ns) HC.out (PV HL.out.2) (by unfold maxLen;omega) (by omega) (by simp) ?_;intro v' w2 hown hgr _ _;rw[List.nil_append,Nat.zero_add]at hown;have HP:=aa (show xi ns w (.returned v') w2 from ⟨v',rfl,((Below.refl _ _).alloc (Nat.le_refl _) _).trans (Below.grownBy' hgr (by simp) (λk hk=>by cases hk;exact Nat.le_refl _)),hown,HL.out.2⟩);obtain ⟨g',cap',rfl⟩:=aC hown (by omega);clear hown hgr))
 go_ret;exact HP.out
def swp(nd:Nd Value):Nd Value:=if nd.kind=2 then ⟨nd.kind,nd.has,nd.right,nd.left,nd.empty⟩ else nd
theorem BK(ns:List (Nd Value))(j l r:Nat)(nd:Nd Value)(h:ns[j]?=some nd):bH (ns.set j ⟨nd.kind,nd.has,l,r,nd.empty⟩)=((bH ns).set (j*5+2) (.int .i64 l)).set (j*5+3) (.int .i64 r):=by
 induction ns generalizing j with
 | nil=>simp at h
 | cons x xs ih=>
  cases j with
  | zero=>
   simp at h;subst h;simp[bH,eN]
  | succ j=>
   simp only[List.getElem?_cons_succ]at h;have e1:(j+1)*5+2=(j*5+2)+1+1+1+1+1:=by omega
   have e2:(j+1)*5+3=(j*5+3)+1+1+1+1+1:=by omega
   have ih:=ih j h;simp only[bH]at ih;rw[e1,e2];simp only[List.set_cons_succ,bH,List.flatMap_cons,eN,List.cons_append,List.nil_append];rw[ih]
theorem IU{r:Nat}(h:bb w B (.slice (some ⟨g,0,none⟩) ns.length cap) ns)(hj:ns[j]?=some nd):
  bb ((w.setCell ⟨g,j*5+2,none⟩ (.int .i64 l)).setCell ⟨g,j*5+3,none⟩ (.int .i64 r)) B (.slice (some ⟨g,0,none⟩) ns.length cap) (ns.set j ⟨nd.kind,nd.has,l,r,nd.empty⟩):=by
 obtain ⟨⟨h1,h2⟩,h3⟩:=h;have pP:=au hj;rcases h2 with ⟨h2,_⟩|⟨g',cap',cur,e,hB,hh,a1,a2,a3,a4⟩
 ·cases h2
 ·cases e;have e1:=heap_setCell_same w g (j*5+2) (.int .i64 l) hh;have e2:=heap_setCell_same (w.setCell ⟨g,j*5+2,none⟩ (.int .i64 l)) g (j*5+3) (.int .i64 r) e1;refine ⟨⟨by rw[kS,List.length_set],.inr ⟨g,cap,_,by rw[List.length_set],hB,e2,by rw[List.length_set];exact a1,a2,by simpa using a3,?_⟩⟩,?_⟩
  ·rw[List.length_set,BK ns j l r nd hj,<-a4];simp only[Array.toList_setIfInBounds,List.take_set]
  ·intro x hx;rcases List.mem_or_eq_of_mem_set hx with hx|rfl
   ·exact h3 x hx
   ·exact h3 nd (List.mem_of_getElem? hj)
def half(ns:List (Nd Value))(j:Nat):List (Nd Value):=(ns.take j).map swp++ns.drop j
theorem lz(ns:List (Nd Value))(h:j<=ns.length):(half ns j).length=ns.length:=by simp[half];omega
theorem MH(ns:List (Nd Value))(j:Nat)(h:j<=ns.length):(half ns j)[j]?=ns[j]?:=by unfold half;rw[List.getElem?_append_right (by simp;omega)];simp;congr 1;omega
theorem IV(ns:List (Nd Value))(h:ns[j]?=some nd):(half ns j).set j (swp nd)=half ns (j+1):=by
 have hl:=au h;rw[List.getElem?_eq_getElem hl]at h;unfold half;rw[List.set_append_right _ _ (by simp;omega),List.take_succ_eq_append_getElem hl,List.drop_eq_getElem_cons hl,Option.some.inj h];have e:j - (List.map swp (List.take j ns)).length=0:=by simp;omega
 rw[e];simp
def F6(ns:List (Nd Value))(w:World)(e:Ending)(w':World):Prop:=∃sv',e=.returned sv'/\Below w.heap.size w w'/\bb w' w.heap.size sv' (ns.map swp)
def yS(ns:List (Nd Value))(B g cap:Nat)(w:World)(k:Nat)(i:Value)(wr:World):Prop:=
 ∃j:Nat,i=.int .i64 j/\j+k=ns.length/\Below B w wr/\bb wr B (.slice (some ⟨g,0,none⟩) ns.length cap) (half ns j)
theorem BL(hk:j+(k+1)=ns.length)(hnd:ns[j]?=some nd)(hb:Below B w wr)(hb2:Below B wr w')(hL:bb w' B (.slice (some ⟨g,0,none⟩) ns.length cap) ((half ns j).set j (swp nd))):
  yS ns B g cap w k (.int .i64 ((j+1:Nat):Int)) w':=by
 rw[IV ns hnd]at hL;exact ⟨j+1,rfl,by omega,hb.trans hb2,hL⟩
set_option maxRecDepth 20000 in
set_option maxHeartbeats 1000000 in
theorem yT(sv:Value)(ns:List (Nd Value))(w:World)(hL:bb w 0 sv ns)(h0:0<ns.length)(hn:ns.length<=200):
  Calls Tryz.prog 141 #[sv] w (F6 ns w):=by
 have HC:=aa (xk sv ns w hL h0 hn);obtain ⟨g0,ack,rfl⟩:=aC hL.1 h0;clear hL;go_enter Tryz.func141,Tryz.ntmps141;go_wp2_with fail;refine HC.out.mono ?_;rintro e w1 ⟨sv',rfl,eF,Eg⟩;obtain ⟨g,cap,rfl⟩:=aC Eg.1 h0;have br:=aa eF;have uP:=aa Eg;clear eF Eg HC;go_wp2_with fail
 go_loopg [10] ns.length (λk i wr=>yS ns w.heap.size g cap w k i wr)
 case atStart=>exact ⟨0,by simp,by simp,br.out,by simpa [half] using uP.out⟩
 case round=>
  obtain ⟨j,rfl,hk,hb,hl⟩:=hrel;by_cases hlt:j<ns.length
  ·obtain ⟨nd,hnd⟩:∃nd,ns[j]?=some nd:=⟨ns[j],List.getElem?_eq_getElem hlt⟩;have MI:=MH ns j (by omega);rw[hnd]at MI;obtain ⟨g',cap',e',m0,m1,m2,m3,m4⟩:=hl.at MI;rw[lz ns (by omega)]at e';cases e';have lY:=hl.2 nd (List.mem_of_getElem? MI);have hst:=eu lY;have Vv:=aa hb;have BG:=aa hl;have RB:=aa hnd;have IW:=aa MI;clear hb hl hnd MI
   obtain ⟨k,hv,l,r,em⟩:=nd;by_cases hk2:k=2
   ·subst hk2;go_wp2_with fail;obtain ⟨W,hW⟩:∃W,W=wr.alloc (.cells #[.int .i64 2,hv,.int .i64 l,.int .i64 r,.bool em] 292):=⟨_,rfl⟩;have mF:Below wr.heap.size wr W:=hW▸(Below.refl _ _).alloc (Nat.le_refl _) _;have Yb:W.heap[wr.heap.size]?=some (.cells #[.int .i64 2,hv,.int .i64 l,.int .i64 r,.bool em] 292 (0,0)):=hW▸af _ _;rw[<-hW]
    clear hW;have MJ:=BG.out.keep (λk hk=>mF.block k (ae (BG.out.block hk).2.choose_spec));obtain ⟨gB,cur,pK⟩:=MJ.block (k:=g) rfl;obtain ⟨g',cap',e',n0,n1,n2,n3,n4⟩:=MJ.at IW.out;rw[lz ns (by omega)]at e';cases e';have z2:W.frozen? ⟨g,j*5+2,none⟩=false:=by simp[World.frozen?,pK]
    have z3:W.frozen? ⟨g,j*5+3,none⟩=false:=by simp[World.frozen?,pK]
    have y2:W.cell? ⟨wr.heap.size,2,none⟩=some (.int .i64 l):=by simp[World.cell?,Yb]
    have y3:W.cell? ⟨wr.heap.size,3,none⟩=some (.int .i64 r):=by simp[World.cell?,Yb]
    have D2:g<wr.heap.size:=ae (BG.out.block (k:=g) rfl).2.choose_spec;have hne:∀off v,(W.setCell ⟨g,off,none⟩ v).heap[wr.heap.size]?=W.heap[wr.heap.size]?:=λoff v=>Below.heap_setCell _ _ _ _ (by show wr.heap.size≠g;omega)
    have y2':∀off v,(W.setCell ⟨g,off,none⟩ v).cell? ⟨wr.heap.size,2,none⟩=some (.int .i64 l):=λoff v=>by simp[World.cell?,hne,Yb]
    have y3':∀off v,(W.setCell ⟨g,off,none⟩ v).cell? ⟨wr.heap.size,3,none⟩=some (.int .i64 r):=λoff v=>by simp[World.cell?,hne,Yb]
    have tk:=aa mF;have HLW:=aa MJ;clear hne mF Yb MJ pK n0 n1 n4 m0 m1 m2 m3 m4 hst lY;have hgB:w.heap.size<=g:=gB;obtain ⟨k',rfl⟩:∃k',gk=k'+1:=⟨gk - 1,by omega⟩
    have HST:=aa (show yS ns w.heap.size g cap w k' (.int .i64 ((j+1:Nat):Int)) ((W.setCell ⟨g,j*5+2,none⟩ (.int .i64 r)).setCell ⟨g,j*5+3,none⟩ (.int .i64 l)).drew from
     BL (w':=((W.setCell ⟨g,j*5+2,none⟩ (.int .i64 r)).setCell ⟨g,j*5+3,none⟩ (.int .i64 l)).drew) hk RB.out Vv.out ((((tk.out.mono Vv.out.size).setCell hgB _).setCell hgB _).drew) (by have RD:(half ns j).length=ns.length:=lz ns (by omega);have h0:=HLW.out;rw[<-RD]at h0;have h1:=IU (l:=r) (r:=l) h0 IW.out;rw[RD]at h1;exact h1))
    clear RB IW Vv BG tk HLW;go_region;go_wp2_with fail;go_roundg k'
    case measure=>omega
    case rel=>exact HST.out
   ·have acm:((k:Int)==2)=false:=by rw[beq_eq_false_iff_ne];omega
    have dc:(half ns j).set j (swp ⟨k,hv,l,r,em⟩)=half ns j:=by
     have e1:swp ⟨k,hv,l,r,em⟩=⟨k,hv,l,r,em⟩:=by simp[swp,hk2]
     have gM:=au IW.out;have h2:=IW.out;rw[List.getElem?_eq_getElem gM]at h2;rw[e1,<-Option.some.inj h2,List.set_getElem_self]
    have mF:Below wr.heap.size wr (wr.alloc (.cells #[.int .i64 k,hv,.int .i64 l,.int .i64 r,.bool em] 292)):=(Below.refl _ _).alloc (Nat.le_refl _) _;obtain ⟨k',rfl⟩:∃k',gk=k'+1:=⟨gk - 1,by omega⟩;have HST:=aa (BL hk RB.out Vv.out (mF.mono Vv.out.size) (by rw[dc];exact BG.out.keep (λk hk=>mF.block k (ae (BG.out.block hk).2.choose_spec))))
    clear RB IW Vv BG dc mF hk2;go_wp2_with fail;go_roundg k'
    case measure=>omega
    case rel=>exact HST.out
  ·have hj:j=ns.length:=by omega
   have ai:=aa (show F6 ns w (.returned (.slice (some ⟨g,0,none⟩) ns.length cap)) wr from ⟨_,rfl,hb,by subst hj;simpa [half,bb] using hl⟩);clear hb hl;go_wp2_with fail;go_ret;exact ai.out
def vR(w:World)(e:Ending)(w':World):Prop:=
 ∃M mv pl,e=.returned (.tuple #[.func (.func 196) #[] #[.pointer (some ⟨mv,0,none⟩),.pointer (some ⟨pl,0,none⟩)],.func (.func 197) #[] #[.pointer (some ⟨pl,0,none⟩)]])/\Below w.heap.size w w'/\w.heap.size<=M/\w.heap.size<=mv/\w.heap.size<=pl /\
  w'.heap[mv]?=some (.cells #[.map (some M)] 318 (0,0))/\jW w' M pl (.slice none 0 0) []
set_option maxRecDepth 20000 in
set_option maxHeartbeats 1000000 in
theorem vS(w:World):Calls Tryz.prog 174 #[] w (vR w):=by
 have Du:=@run_makeMap Tryz.prog;go_enter Tryz.func174,Tryz.ntmps174;go_wp2_with fail
 refine bodyPost_ret (v:=.tuple #[.func (.func 196) #[] #[.pointer (some ⟨w.heap.size+1,0,none⟩),.pointer (some ⟨w.heap.size+1+1,0,none⟩)],.func (.func 197) #[] #[.pointer (some ⟨w.heap.size+1+1,0,none⟩)]]) (by simp[results,Tryz.results174,go_sem, *]) rfl ?_;have hM:=bO.made mE 3 .i64 w
 have h1:=af (w.alloc (.map #[] 0)) (.cells #[.map (some w.heap.size)] 318);have h2:=af ((w.alloc (.map #[] 0)).alloc (.cells #[.map (some w.heap.size)] 318)) (.cells #[.slice none 0 0] 57);have b1:Below w.heap.size w (w.alloc (.map #[] 0)):=(Below.refl _ _).alloc (Nat.le_refl _) _
 have b2:=b1.alloc (o:=.cells #[.map (some w.heap.size)] 318) (by simp);have b3:=b2.alloc (o:=.cells #[.slice none 0 0] 57) (by simp;omega)
 refine ⟨w.heap.size,w.heap.size+1,w.heap.size+1+1,rfl,b3,Nat.le_refl _,by omega,by omega,heap_alloc_old (by simpa using h1),⟨by simpa using h2,⟨by simp,.inl ⟨rfl,rfl⟩⟩,⟨0,λ_=>none,hM.keep ?_,Nat.le_refl _,λk c=>?_⟩,by simp,by simp⟩⟩
 ·obtain ⟨es,kw,ho⟩:=hM.obj;rw[ho];exact heap_alloc_old (heap_alloc_old ho)
 ·simp
def yU(v:Array Value)(w:World)(e:Ending)(w':World):Prop:=
 ∃K kv wk,e=.returned (.func (.func 198) #[] #[.pointer (some ⟨kv,0,none⟩),.pointer (some ⟨wk,0,none⟩)])/\Below w.heap.size w w'/\w.heap.size<=K/\w'.heap[kv]?=some (.cells #[.map (some K)] 319 (0,0)) /\
  w'.heap[wk]?=some (.cells #[.func (.func 177) #[] v] 302 (0,0))/\bO ie 188 .u64 w' K 0 (λ_=>none)
set_option maxRecDepth 20000 in
set_option maxHeartbeats 1000000 in
theorem yV(v:Array Value)(w:World):Calls Tryz.prog 176 #[.func (.func 177) #[] v] w (yU v w):=by
 have Du:=@run_makeMap Tryz.prog;go_enter Tryz.func176,Tryz.ntmps176;go_wp2_with fail;go_ret;have hM:=bO.made ie 188 .u64 (w.alloc (.cells #[.func (.func 177) #[] v] 302))
 have h1:=af w (.cells #[.func (.func 177) #[] v] 302);have h2:=af ((w.alloc (.cells #[.func (.func 177) #[] v] 302)).alloc (.map #[] 0)) (.cells #[.map (some (w.heap.size+1))] 319)
 have b1:Below w.heap.size w (w.alloc (.cells #[.func (.func 177) #[] v] 302)):=(Below.refl _ _).alloc (Nat.le_refl _) _;have b2:=b1.alloc (o:=.map #[] 0) (by simp);have b3:=b2.alloc (o:=.cells #[.map (some (w.heap.size+1))] 319) (by simp;omega)
 refine ⟨w.heap.size+1,w.heap.size+1+1,w.heap.size,rfl,b3,by omega,by simpa using h2,heap_alloc_old (heap_alloc_old h1),?_⟩;rw[show (w.alloc (.cells #[.func (.func 177) #[] v] 302)).heap.size=w.heap.size+1 by simp]at hM;refine hM.keep ?_;obtain ⟨es,kw,ho⟩:=hM.obj;rw[ho];exact heap_alloc_old ho
def old(N:Nat):Nat->Prop:=λk=>k<N
theorem Ew{sv1:Value}{J:Nat}(hS:W.heap[ρ.S]?=some (.cells #[sv1,.map (some J)] 298 (0,0)))(hSN:N<=ρ.S)(hL:bb W N sv1 ns)(hJ:bO pairT 3 .i64 W J 0 (λ_=>none))(hJN:N<=J)(hJM:J≠ρ.M)(hJK:J≠ρ.K)
  (hN:jW W ρ.M ρ.pl (.slice none 0 0) []) (zM:N<=ρ.M) (hpN:N<=ρ.pl) (hev:W.heap[ρ.ev]?=some (.cells #[.int .u64 (0:Nat)] 188 (0,0))) (heN:N<=ρ.ev) (hK:bO ie 188 .u64 W ρ.K 0 (λ_=>none)) (hMK:ρ.M≠ρ.K)
  (h0:0<ns.length) (hn:ns.length<=200) (he:dH (aB W) ns .cW) (hz:root.sz<=200) (hl:root.leaves<=60):ma W (CR (old N) ρ) ρ ns.length root ns [] [] 0:=by
 obtain ⟨es,kw,Ou⟩:=hK.obj;obtain ⟨mM,fM,hMm,_⟩:=hN.map;obtain ⟨es',acn,FR⟩:=hMm.obj
 have hc:∀k c t fz,W.heap[k]?=some (.cells c t fz)->N<=k->¬plus (CR (old N) ρ) ρ k:=by
  rintro k c t fz hk hN ((h|rfl)|rfl|rfl)
  ·exact absurd h (by show ¬k<N;omega)
  ·rw[Ou]at hk;cases hk
  ·rw[FR]at hk;cases hk
  ·rw[Ou]at hk;cases hk
 have hc':∀k c t fz,W.heap[k]?=some (.cells c t fz)->N<=k->¬CR (old N) ρ k:=λk c t fz h1 h2 h3=>hc k c t fz h1 h2 (.inl h3)
 refine ⟨⟨hc _ _ _ _ hS hSN,⟨sv1,J,0,λ_=>none,hS,?_,λk hk=>?_,hJ,?_,by omega,λ_ _ _ h=>(by cases h),λj nd hj hnd=>?_⟩,h0,Nat.le_refl _,hn,he,λj h1 h2=>(by omega),tH root hz hl⟩,⟨.slice none 0 0,hN,λk hk=>(by cases hk)⟩,hev,⟨?_,hc' _ _ _ _ hN.var hpN,hc' _ _ _ _ hev heN⟩,.nil,λt ht=>(by simp at ht),λn=>(by simp),hz,hl⟩
 ·obtain ⟨⟨h1,h2⟩,h3⟩:=hL;refine ⟨⟨h1,?_⟩,h3⟩;rcases h2 with h2|⟨g,cap,cur,a1,a2,a3⟩
  ·exact .inl h2
  ·exact .inr ⟨g,cap,cur,a1,Nat.zero_le _,a3⟩
 ·obtain ⟨h1,cur,h2⟩:=hL.block hk;exact hc _ _ _ _ h2 h1
 ·rintro ((h|h)|h|h)
  ·exact absurd h (by show ¬J<N;omega)
  ·exact hJK h
  ·exact hJM h
  ·exact hJK h
 ·have:=au hnd;omega
 ·rintro (h|h)
  ·exact absurd h (by show ¬ρ.M<N;omega)
  ·exact hMK h
theorem Full.other(h:Full w X ρ n0 root ts en)(hk:∀(k:Nat) o,w.heap[k]?=some o->(∀c fz,o≠.cells c 192 fz)->w'.heap[k]?=some o):Full w' X ρ n0 root ts en:=by
 obtain ⟨⟨ns,cu,hD⟩,hs,hK,m,f,ks,hm,h1,h2,h3,h4⟩:=h;have hc:∀(k:Nat) c t fz,t≠192->w.heap[k]?=some (.cells c t fz)->w'.heap[k]?=some (.cells c t fz):=λk c t fz ht hh=>hk k _ hh (λc' ZL e=>by cases e;exact ht rfl)
 have hmap:∀(k:Nat) es kw,w.heap[k]?=some (.map es kw)->w'.heap[k]?=some (.map es kw):=λk es kw hh=>hk k _ hh (λc' ZL e=>by cases e)
 have hst:bu w w':=λk c t ht hh=>hc k c t _ (by rcases ht with rfl|rfl<;>decide) hh
 obtain ⟨pv,hN,hv⟩:=hD.tT
 refine ⟨⟨ns,cu,hD.shelf.keep hst (λk o _ ho wm=>hk k o ho (λc fz e=>?_)) (λ_ h=>.inl h),⟨pv,⟨hc _ _ _ _ (by decide) hN.var,hN.row.ig λk hk=>?_,?_,hN.nodup,hN.small⟩,hv⟩,hc _ _ _ _ (by decide) hD.ev,hD.nX,hD.jn.mono λd k hh=>aS.world hst hh,hD.met,hD.bits,hD.sz,hD.leaves⟩,⟨hc _ _ _ _ (by decide) hs.sv,hc _ _ _ _ (by decide) hs.mv,hc _ _ _ _ (by decide) hs.nv,hc _ _ _ _ (by decide) hs.xv,hc _ _ _ _ (by decide) hs.kk,hc _ _ _ _ (by decide) hs.wk,hc _ _ _ _ (by decide) hs.kv,hc _ _ _ _ (by decide) hs.av⟩,hK,m,f,ks,hm.keep ?_,h1,h2,h3,h4⟩
 ·rcases wm _ _ _ e with h|h<;>cases h
 ·obtain ⟨c,hcc⟩:=hN.row.block hk;rw[hcc];exact hc _ _ _ _ (by decide) hcc
 ·obtain ⟨m,f,hm,h1,h2⟩:=hN.map;obtain ⟨es,kw,ho⟩:=hm.obj;exact ⟨m,f,hm.keep ((hmap _ _ _ ho).trans ho.symm),h1,h2⟩
 ·obtain ⟨es,kw,ho⟩:=hm.obj;exact (hmap _ _ _ ho).trans ho.symm
def Ex(ns:List (Nd Value))(root:aM)(w:World)(e:Ending)(w':World):Prop:=
 ∃(ρ:Rd) (st:Nat) (ts:List D) (en:Nat),e=.returned (rdv ρ st)/\Below w.heap.size w w'/\Full w' (old w.heap.size) ρ ns.length root ts en/\nc ts st/\∀u,cO ts st u<->Mt root.re u
theorem Ey{w4:World}{n:Nat}{dY:List D}{eK:List Nat}(hF:Fx (CR (old N) ρ) W w4)(hD:ma w4 (CR (old N) ρ) ρ n0 root ns dY eK dX)(hs:Ol W ρ)(hKN:N<=ρ.K)(hK:bO ie 188 .u64 W ρ.K 0 (λ_=>none))(hn:dY[n]?=some (.base root)):
  Full w4 (old N) ρ n0 root dY dX/\nc dY (2 ^ n)/\∀u,cO dY (2 ^ n) u<->Mt root.re u:=by
 have AU:∀m,(2 ^ n).testBit m=true<->m=n:=λm=>by rw[Nat.testBit_two_pow];simp[eq_comm]
 refine ⟨⟨⟨ns,eK,hD⟩,hs.fx hF,λh=>absurd h (by show ¬ρ.K<N;omega),0,λ_=>none,[],hK.keep (hF.keep _ (.inr rfl)),Nat.le_refl _,List.nodup_nil,λx hx=>(by simp at hx),λ_ _ _ h=>(by cases h)⟩,λm hm=>?_,λu=>⟨?_,λh=>⟨n,_,(AU n).2 rfl,hn,h⟩⟩⟩
 ·rw[(AU m).1 hm];exact au hn
 ·rintro ⟨m,t,h1,h2,h3⟩;rw[(AU m).1 h1,hn]at h2;cases h2;exact h3
theorem four(w:World)(o1 o2 o3 o4:Obj):((((w.alloc o1).alloc o2).alloc o3).alloc o4).heap[w.heap.size]?=some o1/\((((w.alloc o1).alloc o2).alloc o3).alloc o4).heap[w.heap.size+1]?=some o2/\((((w.alloc o1).alloc o2).alloc o3).alloc o4).heap[w.heap.size+1+1]?=some o3/\((((w.alloc o1).alloc o2).alloc o3).alloc o4).heap[w.heap.size+1+1+1]?=some o4 /\
  Below w.heap.size w ((((w.alloc o1).alloc o2).alloc o3).alloc o4)/\((((w.alloc o1).alloc o2).alloc o3).alloc o4).heap.size=w.heap.size+4:=by
 have h1:=af w o1;have h2:=af (w.alloc o1) o2;have h3:=af ((w.alloc o1).alloc o2) o3;have h4:=af (((w.alloc o1).alloc o2).alloc o3) o4;rw[show (w.alloc o1).heap.size=w.heap.size+1 by simp]at h2;rw[show ((w.alloc o1).alloc o2).heap.size=w.heap.size+1+1 by simp]at h3
 rw[show (((w.alloc o1).alloc o2).alloc o3).heap.size=w.heap.size+1+1+1 by simp]at h4;exact ⟨heap_alloc_old (heap_alloc_old (heap_alloc_old h1)),heap_alloc_old (heap_alloc_old h2),heap_alloc_old h3,h4,((((Below.refl _ _).alloc (Nat.le_refl _) _).alloc (by simp) _).alloc (by simp;omega) _).alloc (by simp;omega) _,by simp⟩
set_option maxRecDepth 20000 in
set_option maxHeartbeats 2000000 in
theorem nh(sv:Value)(ns:List (Nd Value))(root:aM)(w:World)(hL:bb w 0 sv ns)(hr:dH (aB w) ns root)(he:dH (aB w) ns .cW)(h0:0<ns.length)(hn:ns.length<=200)(hz:root.sz<=200)(hl:root.leaves<=60)(k:Nat)(hk:k=root.ix):
  Calls Tryz.prog 140 #[sv,.int .i64 k] w (Ex ns root w):=by
 have Du:=@run_makeMap Tryz.prog;obtain ⟨g,cap,rfl⟩:=aC hL.1 h0;have hb0:Below w.heap.size w (w.alloc (.cells #[.int .u64 0,.nilFunc,.nilFunc] 192)):=(Below.refl _ _).alloc (Nat.le_refl _) _;have gR:=aa hb0;have Db:=aa (af w (.cells #[.int .u64 0,.nilFunc,.nilFunc] 192))
 have HC:=aa (xk (.slice (some ⟨g,0,none⟩) ns.length cap) ns (w.alloc (.cells #[.int .u64 0,.nilFunc,.nilFunc] 192)) (hL.alloc _) h0 hn);have HR:=aa hr;have HE:=aa he;have CG:=aa hk;clear hL hr he hb0 hk;go_enter Tryz.func140,Tryz.ntmps140;go_wp2_with fail
 generalize hW:w.alloc (.cells #[.int .u64 0,.nilFunc,.nilFunc] 192)=w0;rw[hW]at gR Db HC;have Xj:w0.heap.size=w.heap.size+1:=by rw[<-hW];simp
 clear hW;refine HC.out.mono ?_;rintro e w1 ⟨sv1,rfl,eF,Eg⟩;obtain ⟨g1,mB,rfl⟩:=aC Eg.1 h0;have br:=aa eF;have uP:=aa Eg;clear eF Eg HC;go_wp2_with fail;have hJ:=bO.made pairT 3 .i64 w1;have hSb:=af (w1.alloc (.map #[] 0)) (.cells #[.slice (some ⟨g1,0,none⟩) ns.length mB,.map (some w1.heap.size)] 298)
 have MK:=af ((w1.alloc (.map #[] 0)).alloc (.cells #[.slice (some ⟨g1,0,none⟩) ns.length mB,.map (some w1.heap.size)] 298)) (.cells #[.pointer (some ⟨w1.heap.size+1,0,none⟩)] 295)
 have hb1:Below w1.heap.size w1 (((w1.alloc (.map #[] 0)).alloc (.cells #[.slice (some ⟨g1,0,none⟩) ns.length mB,.map (some w1.heap.size)] 298)).alloc (.cells #[.pointer (some ⟨w1.heap.size+1,0,none⟩)] 295)):=(((Below.refl _ _).alloc (Nat.le_refl _) _).alloc (by simp) _).alloc (by simp;omega) _
 generalize hW:((w1.alloc (.map #[] 0)).alloc (.cells #[.slice (some ⟨g1,0,none⟩) ns.length mB,.map (some w1.heap.size)] 298)).alloc (.cells #[.pointer (some ⟨w1.heap.size+1,0,none⟩)] 295)=wB at hb1 MK
 have hJB:bO pairT 3 .i64 wB w1.heap.size 0 (λ_=>none):=by refine hJ.keep ?_;obtain ⟨es,kw,ho⟩:=hJ.obj;rw[ho,<-hW];exact heap_alloc_old (heap_alloc_old ho)
 have hSB:wB.heap[w1.heap.size+1]?=some (.cells #[.slice (some ⟨g1,0,none⟩) ns.length mB,.map (some w1.heap.size)] 298 (0,0)):=by rw[<-hW];exact heap_alloc_old (by simpa using hSb)
 have hvB:wB.heap[w1.heap.size+1+1]?=some (.cells #[.pointer (some ⟨w1.heap.size+1,0,none⟩)] 295 (0,0)):=by simpa using MK
 have aco:wB.heap.size=w1.heap.size+3:=by rw[<-hW];simp
 clear hW hJ hSb MK;have Fk:=aa hb1;have HJB:=aa hJB;have Yc:=aa hSB;have HVB:=aa hvB;clear hb1 hJB hSB hvB;refine (vS _).mono ?_;rintro e w2 ⟨M,mv,pl,rfl,fc,JY,AY,hM3,Xh,Rk⟩;have cM:=aa fc;have Vd:=aa Xh;have HM5:=aa Rk;clear fc Rk Xh;go_wp2_with fail
 obtain ⟨q1,q2,q3,q4,q5,q6⟩:=four w2 (.cells #[.func (.func 196) #[] #[.pointer (some ⟨mv,0,none⟩),.pointer (some ⟨pl,0,none⟩)]] 284) (.cells #[.func (.func 197) #[] #[.pointer (some ⟨pl,0,none⟩)]] 284) (.cells #[.int .u64 0] 188) (.cells #[.func (.func 175) #[] #[.pointer (some ⟨w2.heap.size,0,none⟩),.pointer (some ⟨w1.heap.size+1+1,0,none⟩),.pointer (some ⟨w2.heap.size+1+1,0,none⟩)]] 301)
 generalize hW:(((w2.alloc (.cells #[.func (.func 196) #[] #[.pointer (some ⟨mv,0,none⟩),.pointer (some ⟨pl,0,none⟩)]] 284)).alloc (.cells #[.func (.func 197) #[] #[.pointer (some ⟨pl,0,none⟩)]] 284)).alloc (.cells #[.int .u64 0] 188)).alloc (.cells #[.func (.func 175) #[] #[.pointer (some ⟨w2.heap.size,0,none⟩),.pointer (some ⟨w1.heap.size+1+1,0,none⟩),.pointer (some ⟨w2.heap.size+1+1,0,none⟩)]] 301)=wC at q1 q2 q3 q4 q5 q6
 clear hW;have Q1:=aa q1;have Q2:=aa q2;have Q3:=aa q3;have Q4:=aa q4;have Q5:=aa q5;clear q1 q2 q3 q4 q5;refine (yV _ _).mono ?_;rintro e w3 ⟨K,kv,wk,rfl,gG,Hq,hK2,hK3,hK4⟩;have eY:=aa gG;have XG:=aa hK2;have HK3:=aa hK3;have HK4:=aa hK4;have c4:=ay ((gG.block _ (ae Q4.out)).trans Q4.out);have c4':=aq c4;clear gG hK4 hK2 hK3
 go_wp2_with fail;have T8:=af w3 (.cells #[.func (.func 198) #[] #[.pointer (some ⟨kv,0,none⟩),.pointer (some ⟨wk,0,none⟩)]] 302)
 have Df:Below w3.heap.size w3 (w3.alloc (.cells #[.func (.func 198) #[] #[.pointer (some ⟨kv,0,none⟩),.pointer (some ⟨wk,0,none⟩)]] 302)):=(Below.refl _ _).alloc (Nat.le_refl _) _
 generalize hW:w3.alloc (.cells #[.func (.func 198) #[] #[.pointer (some ⟨kv,0,none⟩),.pointer (some ⟨wk,0,none⟩)]] 302)=W at T8 Df;clear hW c4 c4';have bC:=eY.out.trans (Df.mono eY.out.size);have b2:=Q5.out.trans (bC.mono Q5.out.size);have bB:=cM.out.trans (b2.mono cM.out.size)
 have b1:=Fk.out.trans (bB.mono Fk.out.size);have b0:=br.out.trans (b1.mono br.out.size);have bw:=gR.out.trans (b0.mono gR.out.size);have s01:=br.out.size;have s1B:=Fk.out.size;have sB2:=cM.out.size;have s2C:=Q5.out.size;have sC3:=eY.out.size;have ML:bu w W:=bu.ar bw
 obtain ⟨ρ,hρ⟩:∃ρ:Rd,ρ=⟨w1.heap.size+1,w1.heap.size+1+1,M,mv,pl,w2.heap.size,w2.heap.size+1,w2.heap.size+1+1,w2.heap.size+1+1+1,wk,K,kv,w3.heap.size⟩:=⟨_,rfl⟩;have Ms:=HM5.out;have abI:M<w2.heap.size:=by obtain ⟨m,f,hm,_⟩:=Ms.map;exact hm.lt
 have hNW:jW W M pl (.slice none 0 0) []:=by refine ⟨(b2.block _ (ae Ms.var)).trans Ms.var,Ms.row.ig (λk hk=>by cases hk),?_,Ms.nodup,Ms.small⟩;obtain ⟨m,f,hm,h1,h2⟩:=Ms.map;exact ⟨m,f,hm.keep (b2.block _ hm.lt),h1,h2⟩
 have Eg:=uP.out
 have MJ:bb W w.heap.size (.slice (some ⟨g1,0,none⟩) ns.length mB) ns:=by
  have h1:=Eg.keep (λk hk=>b1.block k (ae (Eg.block hk).2.choose_spec));obtain ⟨⟨h2,h3⟩,h4⟩:=h1;refine ⟨⟨h2,?_⟩,h4⟩;rcases h3 with h3|⟨g,cap,cur,a1,a2,a3⟩
  ·exact .inl h3
  ·exact .inr ⟨g,cap,cur,a1,by omega,a3⟩
 have T3:=HK4.out.lt;have hKW:bO ie 188 .u64 W K 0 (λ_=>none):=HK4.out.keep (Df.block _ T3)
 have Yd:ma W (CR (old w.heap.size) ρ) ρ ns.length root ns [] [] 0:=by
  subst hρ
  exact Ew (J:=w1.heap.size) ((bB.block _ (ae Yc.out)).trans Yc.out) (by show w.heap.size<=w1.heap.size+1;omega) MJ (HJB.out.keep (bB.block _ HJB.out.lt)) (by omega) (by show w1.heap.size≠M;omega) (by show w1.heap.size≠K;omega) hNW (by show w.heap.size<=M;omega) (by show w.heap.size<=pl;omega) ((bC.block _ (ae Q3.out)).trans Q3.out) (by show w.heap.size<=w2.heap.size+1+1;omega) hKW (by show M≠K;omega) h0 hn (HE.out.world ML) hz hl
 have T9:Ol W ρ:=by subst hρ;exact ⟨(bB.block _ (ae HVB.out)).trans HVB.out,(b2.block _ (ae Vd.out)).trans Vd.out,(bC.block _ (ae Q1.out)).trans Q1.out,(bC.block _ (ae Q2.out)).trans Q2.out,(bC.block _ (ae Q4.out)).trans Q4.out,(Df.block _ (ae HK3.out)).trans HK3.out,(Df.block _ (ae XG.out)).trans XG.out,T8⟩
 have hKρ:ρ.K=K:=by rw[hρ]
 have Ye:gI (CR (old w.heap.size) ρ) W:=by
  rintro j (hj|rfl)
  ·exact Nat.lt_of_lt_of_le hj bw.size
  ·rw[hKρ];exact hKW.lt
 have hRt:=HR.out.world ML;have uS:=aa (BC _ ρ ns.length root ns [] [] 0 (.base root) k W Ye Yd T9 (by rw[CG.out];exact ⟨rfl,hRt.SZ,hRt⟩) (by simp[met]));have G6:=aa ((b0.block _ (ae Db.out)).trans Db.out);have aaT:=aa T9;have HKW:=aa (hKρ▸hKW);have tk:=aa bw;have hKN:w.heap.size<=ρ.K:=by rw[hKρ];omega
 have hρ1:ρ.nv=w2.heap.size:=by rw[hρ]
 have hρ2:ρ.sv=w1.heap.size+1+1:=by rw[hρ]
 have hρ3:ρ.ev=w2.heap.size+1+1:=by rw[hρ]
 have hρ4:ρ.av=w3.heap.size:=by rw[hρ]
 rw[<-hρ3,<-hρ1,<-hρ2,<-hρ4];clear hρ Yd T9 hKW MJ Eg hNW Ms hRt Ye ML bw b0 b1 bB b2 bC Df T8;refine uS.out.mono ?_;rintro e w4 ⟨n,dY,eK,dX,rfl,lX,wE,hn4,-⟩;have Oi:=lX.stay _ _ _ (by decide) G6.out;have g0:w4.cell? ⟨w.heap.size,0,none⟩=some (.int .u64 0):=by simp[World.cell?,Oi]
 have g1':w4.cell? ⟨w.heap.size,1,none⟩=some .nilFunc:=by simp[World.cell?,Oi]
 have g2:w4.cell? ⟨w.heap.size,2,none⟩=some .nilFunc:=by simp[World.cell?,Oi]
 have z0:w4.frozen? ⟨w.heap.size,0,none⟩=false:=by simp[World.frozen?,Oi]
 have z1:w4.frozen? ⟨w.heap.size,1,none⟩=false:=by simp[World.frozen?,Oi]
 have z2:w4.frozen? ⟨w.heap.size,2,none⟩=false:=by simp[World.frozen?,Oi]
 have ai:=aa (Ey lX wE aaT.out hKN HKW.out hn4);have mD:=aa lX;have ZA:=aa Oi;clear lX wE hn4 Oi uS;go_wp2_with fail
 refine bodyPost_ret (v:=.agg #[.int .u64 (2 ^ n),.func (.func 179) #[] #[.pointer (some ⟨w3.heap.size,0,none⟩)],.func (.func 181) #[] #[.pointer (some ⟨w2.heap.size+1+1,0,none⟩)]]) (by simp[results,Tryz.results140,go_sem, *]) rfl ?_;refine ⟨ρ,2 ^ n,dY,dX,by simp[rdv,hρ3,hρ4],?_,ai.out.1.other (λj o ho hne=>?_),ai.out.2⟩
 ·have j3:Below w.heap.size W w4:=⟨mD.out.os,mD.out.tape,mD.out.output,mD.out.size,λj hj=>mD.out.keep j (.inl hj)⟩;exact (((tk.out.trans j3).setCell (Nat.le_refl _) _).setCell (Nat.le_refl _) _).setCell (Nat.le_refl _) _
 ·have hj:j≠w.heap.size:=by rintro rfl;rw[ZA.out]at ho;cases ho;exact hne _ _ rfl
  rw[Below.heap_setCell _ _ _ _ (by exact hj),Below.heap_setCell _ _ _ _ (by exact hj),Below.heap_setCell _ _ _ _ (by exact hj)];exact ho
end Go.Proofs.YtgncgdkpkkdaeaaGreatDoor
