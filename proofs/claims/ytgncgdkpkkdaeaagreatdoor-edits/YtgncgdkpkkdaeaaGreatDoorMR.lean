import Derived.Test.YtgncgdkpkkdaeaaGreatDoorMQ
import Derived.RangeFuncNested
import Derived.Test.YtgncgdkpkkdaeaaGreatDoorMK
import Derived.Maps.AppendAt
import Derived.Lib.BufferMore
namespace Go.Proofs.YtgncgdkpkkdaeaaGreatDoor
open Go.RowKit aO Go.Maps
variable {a root:aN} {ns:List (Nd Value)} {ts us:List D} {T:List UInt8} {B L N cap en er g i j k l n0 p p' s st:Nat} {O X Y Z:Nat->Prop} {nd:Nd Value} {ρ:Rd} {W w w' wr:World}
def yg(ρ:Rd)(st:Nat)(ρb:Rd)(sb:Nat):Value:=.agg #[.int .u64 st,.func (.func 179) #[] #[.pointer (some ⟨ρ.av,0,none⟩)],.func (.func 181) #[] #[.pointer (some ⟨ρ.ev,0,none⟩)],.int .u64 sb,.func (.func 179) #[] #[.pointer (some ⟨ρb.av,0,none⟩)],.func (.func 181) #[] #[.pointer (some ⟨ρb.ev,0,none⟩)]]
def aK(Y:Nat->Prop)(w w':World):Prop:=Fx (λk=>k<w.heap.size/\¬Y k) w w'
theorem aK.refl(Y:Nat->Prop)(w:World):aK Y w w:=Fx.refl _ _
theorem aK.trans{a b c:World}(h:aK Y a b)(k:aK Y b c):aK Y a c:=
 ⟨k.os.trans h.os,k.tape.trans h.tape,k.output.trans h.output,Nat.le_trans h.size k.size,λi hi=>(k.keep i ⟨Nat.lt_of_lt_of_le hi.1 h.size,hi.2⟩).trans (h.keep i hi),λi x t ht hh=>k.stay i x t ht (h.stay i x t ht hh)⟩
theorem aK.sub(h:aK Y w w')(hs:∀k,k<w.heap.size->Y k->Z k):aK Z w w':=Fx.sub h λk hk=>⟨hk.1,λhy=>hk.2 (hs k hk.1 hy)⟩
theorem aK.same(h:aK Y w w'){o:Obj}(hk:w.heap[k]?=some o)(hy:¬Y k):w'.heap[k]?=some o:=(h.keep k ⟨ae hk,hy⟩).trans hk
theorem aK.au(h:Below w.heap.size w w'):aK Y w w':=Fx.au (λ_ hk=>hk.1) h
theorem aK.putObj{r:Loop}(o:Obj)(hl:w.heap[l]?=some (.loop r))(hy:Y l):aK Y w (w.putObj l o):=
 ⟨rfl,rfl,rfl,by simp,λk hk=>World.putObj_heap_other (λe=>hk.2 (e▸hy)),λk c t _ hh=>(World.putObj_heap_other (λe=>by rw[e,hl]at hh;cases hh)).trans hh⟩
theorem aK.setCell{p:Addr}{c:Array Value}{t:TypeId}{fz:Nat×Nat}(hp:Y p.block)(hb:w.heap[p.block]?=some (.cells c t fz))(ht:jq t=false)(u:Value):aK Y w (w.setCell p u):=
 (Fx.refl _ _).setCell (λhk=>hk.2 hp) hb ht u
theorem Full.off(h:Full w X ρ n0 root ts en)(ho:aK X w w'):Full w' X ρ n0 root ts en:=by
 obtain ⟨⟨ns,cC,hD⟩,hs,hK,m,f,ks,hm,h1,h2,h3,h4⟩:=h;have hk:∀(k:Nat) o,¬X k->w.heap[k]?=some o->w'.heap[k]?=some o:=λk o hx hh=>ho.same hh hx
 have hst:bH w w':=Fx.cS ho;obtain ⟨pv,hN,hv⟩:=hD.uW
 refine ⟨⟨ns,cC,hD.shelf.keep hst (λk o Xd ho _=>hk k o (λhx=>Xd (.inl (.inl hx))) ho) (λ_ h=>.inl h),⟨pv,⟨hk _ _ (λhx=>hD.nX.2.1 (.inl hx)) hN.var,hN.row.iF λk hb=>?_,?_,hN.nodup,hN.small⟩,hv⟩,hk _ _ (λhx=>hD.nX.2.2 (.inl hx)) hD.ev,hD.nX,hD.jL.mono λd k hh=>aU.world hst hh,hD.met,hD.bits,hD.sz,hD.leaves⟩,hs.fx ho,hK,m,f,ks,hm.keep (ho.keep _ ⟨hm.lt,hK⟩),h1,h2,h3,h4⟩
 ·obtain ⟨c,hcc⟩:=hN.row.block hb;rw[hcc];exact hk _ _ (λhx=>hv k hb (.inl hx)) hcc
 ·obtain ⟨m,f,hm,h1,h2⟩:=hN.map;exact ⟨m,f,hm.keep (ho.keep _ ⟨hm.lt,λhx=>hD.nX.1 (.inl hx)⟩),h1,h2⟩
theorem Full.vI(h:Full w X ρ n0 root ts en)(hZ:∀k,Z k->X k∨w.heap.size<=k):Full w Z ρ n0 root ts en:=by
 obtain ⟨⟨ns,cC,hD⟩,hs,hK,m,f,ks,hm,h1⟩:=h;have hno:∀(k:Nat) o,w.heap[k]?=some o->¬X k->¬Z k:=λk o hh hx hz=>(hZ k hz).elim hx (λh=>by have:=ae hh;omega)
 have hKl:=hm.lt;have hnK:¬Z ρ.K:=λhz=>(hZ _ hz).elim hK (λh=>by omega)
 have VA:∀(k:Nat) o,w.heap[k]?=some o->¬DZ X ρ k->¬DZ Z ρ k:=λk o hh hx hz=>by
  rcases hz with hz|hz
  ·exact hno k o hh (λh=>hx (.inl h)) hz
  ·exact hx (.inr hz)
 obtain ⟨pv,hN,hv⟩:=hD.uW;obtain ⟨mM,fM,hmM,_⟩:=hN.map;obtain ⟨es,kY,Ha⟩:=hmM.obj;refine ⟨⟨ns,cC,hD.shelf.keep (bH.refl _) (λ_ _ _ h _=>h) (λk hk=>?_),⟨pv,hN,λk hk=>?_⟩,hD.ev,⟨VA _ _ Ha hD.nX.1,VA _ _ hN.var hD.nX.2.1,VA _ _ hD.ev hD.nX.2.2⟩,hD.jL,hD.met,hD.bits,hD.sz,hD.leaves⟩,hs,hnK,m,f,ks,hm,h1⟩
 ·rcases hk with (hk|hk)|hk
  ·rcases hZ k hk with h|h
   ·exact .inl (.inl (.inl h))
   ·exact .inr λo ho=>absurd (ae ho) (by omega)
  ·exact .inl (.inl (.inr hk))
  ·exact .inl (.inr hk)
 ·obtain ⟨c,hcc⟩:=hN.row.block hk;exact VA _ _ hcc (hv k hk)
def N7(O:Nat->Prop)(w:World):Nat->Prop:=λk=>k<w.heap.size/\¬O k
def grow(O:Nat->Prop)(w w':World):Nat->Prop:=λk=>O k∨(w.heap.size<=k/\k<w'.heap.size)
structure qc(w:World)(O:Nat->Prop)(a:aN)(ρ:Rd)(st:Nat):Prop where
 old:∀k,O k->k<w.heap.size
 tab:¬O 1/\1 < w.heap.size
 full:∃n0 ts en,Full w (N7 O w) ρ n0 a ts en/\nV ts st/\∀u,cW ts st u<->Mt a.re u
theorem Hv(O:Nat->Prop)(w:World):ia (N7 O w) w:=λ_ hk=>hk.1
theorem aK.N8(h:Fx (N7 O w) w w'):aK O w w':=h
theorem qc.off(h:qc w O a ρ st)(ho:aK Y w w')(hd:∀k,O k->¬Y k):qc w' O a ρ st:=by
 obtain ⟨n0,ts,en,hF,hi,hl⟩:=h.full
 have hw:Full w (N7 O w') ρ n0 a ts en:=hF.vI λk hk=>by
  rcases Nat.lt_or_ge k w.heap.size with hlt|kg
  ·exact .inl ⟨hlt,hk.2⟩
  ·exact .inr kg
 exact ⟨λk hk=>Nat.lt_of_lt_of_le (h.old k hk) ho.size,⟨h.tab.1,Nat.lt_of_lt_of_le h.tab.2 ho.size⟩,n0,ts,en,hw.off (ho.sub λk hk hy=>⟨Nat.lt_of_lt_of_le hk ho.size,λh=>hd k h hy⟩),hi,hl⟩
theorem qc.grown(h:qc w O a ρ st)(hF:Fx (N7 O w) w w')(nW:Full w' (N7 O w) ρ n0 a (ts++us) en)(hi:nV ts st)(hl:∀u,cW ts st u<->Mt a.re u):qc w' (grow O w w') a ρ st:=by
 refine ⟨λk hk=>hk.elim (λh1=>Nat.lt_of_lt_of_le (h.old k h1) hF.size) (λh=>h.2),⟨λhk=>hk.elim h.tab.1 (λh1=>by have:=h.tab.2;omega),Nat.lt_of_lt_of_le h.tab.2 hF.size⟩,n0,ts++us,en,nW.vI λk hk=>?_,hi.append,λu=>(cW.append hi u).trans (hl u)⟩;refine .inl ⟨?_,λh=>hk.2 (.inl h)⟩;rcases Nat.lt_or_ge k w.heap.size with hlt|kg
 ·exact hlt
 ·exact absurd (.inr ⟨kg,hk.1⟩) hk.2
def mg(X:Nat->Prop)(ρ:Rd)(n0:Nat)(root:aN)(ts:List D)(T:List UInt8)(s:Nat)(w:World)(e:Ending)(w':World):Prop:=
 ∃(stop:Nat) (us:List D) (er:Nat),e=.returned (.int .i64 stop)/\Fx X w w'/\Full w' X ρ n0 root (ts++us) er/\s<=stop/\stop<=T.length/\(stop=s∨Mt root.re (iY T s stop))/\∀j,stop<j->j<=T.length->¬Mt root.re (iY T s j)
def CT(X:Nat->Prop)(ρ:Rd)(n0:Nat)(root:aN)(ts:List D)(T:List UInt8)(s:Nat)(w:World)(k:Nat)(stop left at_:Value)(wr:World):Prop:=
 ∃(p L i:Nat) (us:List D) (er:Nat),stop=.int .i64 p/\left=.int .u64 L/\at_=.int .i64 i/\i+k=T.length/\s<=i/\Fx X w wr/\Full wr X ρ n0 root (ts++us) er/\nV (ts++us) L/\(∀u,cW (ts++us) L u<->Mt root.re (iY T s i++u)) /\
  s<=p/\p<=i/\(p=s∨Mt root.re (iY T s p))/\∀j,p<j->j<i->¬Mt root.re (iY T s j)
theorem yn{vF:List D}{R:Nat}{b:UInt8}{w3:World}(hk:i+(k+1)=T.length)(hs:s<=i)(hF:Fx X w wr)(hl:∀u,cW (ts++us) L u<->Mt root.re (iY T s i++u))(hp:s<=p)(zL:p<=i)(hm:p=s∨Mt root.re (iY T s p))(hn:∀j,p<j->j<i->¬Mt root.re (iY T s j))
  (hx:(cW (ts++us) L []->p'=i)/\(¬cW (ts++us) L []->p'=p)) (hb:T[i]?=some b) (dB:Fx X wr w3) (nW:Full w3 X ρ n0 root (ts++us++vF) er) (hR:nV (ts++us++vF) R) (Z8:∀u,cW (ts++us++vF) R u<->cW (ts++us) L (b::u)):
  CT X ρ n0 root ts T s w k (.int .i64 p') (.int .u64 R) (.int .i64 ((i+1:Nat):Int)) w3:=by
 have e1:∀u,iY T s (i+1)++u=iY T s i++b::u:=λu=>by rw[iL T hs (Nat.le_succ i),zK T hb];simp
 have e0:cW (ts++us) L []<->Mt root.re (iY T s i):=by rw[hl];simp
 rw[List.append_assoc]at nW hR Z8;refine ⟨p',R,i+1,us++vF,er,rfl,rfl,rfl,by omega,by omega,hF.trans dB,nW,hR,λu=>?_,?_⟩
 ·rw[Z8,hl,e1]
 ·by_cases hc:cW (ts++us) L []
  ·have hx:=hx.1 hc;subst hx;exact ⟨hs,by omega,.inr (e0.1 hc),λj h1 h2=>by omega⟩
  ·have hx:=hx.2 hc;subst hx;refine ⟨hp,by omega,hm,λj h1 h2=>?_⟩;rcases Nat.lt_or_ge j i with h|h
   ·exact hn j h1 h
   ·have:j=i:=by omega
    subst this;exact λh=>hc (e0.2 h)
theorem vJ(hk:i+k=T.length)(hs:s<=i)(hF:Fx X w wr)(nW:Full wr X ρ n0 root (ts++us) er)(hl:∀u,cW (ts++us) L u<->Mt root.re (iY T s i++u))(hp:s<=p)(zL:p<=i)(hm:p=s∨Mt root.re (iY T s p))(hn:∀j,p<j->j<i->¬Mt root.re (iY T s j))
  (hx:(cW (ts++us) L []->p'=i)/\(¬cW (ts++us) L []->p'=p)) (hend:L=0∨i=T.length):mg X ρ n0 root ts T s w (.returned (.int .i64 p')) wr:=by
 have e0:cW (ts++us) L []<->Mt root.re (iY T s i):=by rw[hl];simp
 have DV:∀j,i<j->j<=T.length->¬Mt root.re (iY T s j):=λj h1 h2 h3=>by
  rcases hend with rfl|rfl
  ·rw[iL T hs (Nat.le_of_lt h1),<-hl]at h3;obtain ⟨m,t,h4,_⟩:=h3;simp at h4
  ·omega
 refine ⟨p',us,er,rfl,hF,nW,?_⟩;by_cases hc:cW (ts++us) L []
 ·have hx:=hx.1 hc;subst hx;exact ⟨hs,by omega,.inr (e0.1 hc),DV⟩
 ·have hx:=hx.2 hc;subst hx;refine ⟨hp,by omega,hm,λj h1 h2=>?_⟩;rcases Nat.lt_trichotomy j i with h|h|h
  ·exact hn j h1 h
  ·subst h;exact λh=>hc (e0.2 h)
  ·exact DV j h h2
theorem mg.below{w0:World}{e:Ending}(h:mg X ρ n0 root ts T s w0 e wr)(hX:ia X w)(hb:Below w.heap.size w w0):mg X ρ n0 root ts T s w e wr:=by obtain ⟨stop,us,er,h1,h2,h3⟩:=h;exact ⟨stop,us,er,h1,(Fx.au hX hb).trans h2,h3⟩
set_option maxHeartbeats 2000000 in
theorem CU(X:Nat->Prop)(ρ:Rd)(n0:Nat)(root:aN)(ts:List D)(en:Nat)(st:Nat)(ρb:Rd)(sb:Nat)(text:ByteArray)(s:Nat)(w:World)(hX:ia X w)(h0:X 1)(hT:kK w)(hF:Full w X ρ n0 root ts en)(hi:nV ts st)(hl:∀u,cW ts st u<->Mt root.re u)(hs:s<=text.size)(hsz:text.size<=maxLen):
  Calls Tryz.prog 129 #[yg ρ st ρb sb,.string text,.int .i64 s] w (mg X ρ n0 root ts text.data.toList s w):=by
 have hb:Below w.heap.size w (w.alloc (.cells #[.int .u64 st,.func (.func 179) #[] #[.pointer (some ⟨ρ.av,0,none⟩)],.func (.func 181) #[] #[.pointer (some ⟨ρ.ev,0,none⟩)],.int .u64 sb,.func (.func 179) #[] #[.pointer (some ⟨ρb.av,0,none⟩)],.func (.func 181) #[] #[.pointer (some ⟨ρb.ev,0,none⟩)]] 194)):=(Below.refl _ _).alloc (Nat.le_refl _) _
 have HB:=aa hb
 have HO:=aa (af w (.cells #[.int .u64 st,.func (.func 179) #[] #[.pointer (some ⟨ρ.av,0,none⟩)],.func (.func 181) #[] #[.pointer (some ⟨ρ.ev,0,none⟩)],.int .u64 sb,.func (.func 179) #[] #[.pointer (some ⟨ρb.av,0,none⟩)],.func (.func 181) #[] #[.pointer (some ⟨ρb.ev,0,none⟩)]] 194))
 have HX:=aa hX;have qz:=aa (hX.mono hb.size);have H0:=aa h0;have HT:=aa (hT.keep (hb.block 1 (hX 1 h0)));have HF:=aa (hF.below hb);have HI:=aa hi;have HL:=aa hl;clear hX h0 hT hF hi hl hb;unfold yg;go_enter Tryz.func129,Tryz.ntmps129;go_wp2_with fail
 generalize hW:w.alloc (.cells #[.int .u64 st,.func (.func 179) #[] #[.pointer (some ⟨ρ.av,0,none⟩)],.func (.func 181) #[] #[.pointer (some ⟨ρ.ev,0,none⟩)],.int .u64 sb,.func (.func 179) #[] #[.pointer (some ⟨ρb.av,0,none⟩)],.func (.func 181) #[] #[.pointer (some ⟨ρb.ev,0,none⟩)]] 194)=w0
 rw[hW]at HB HO qz HT HF;clear hW;go_loopg [7,8,9] (text.size - s) (λk stop left at_ wr=>CT X ρ n0 root ts text.data.toList s w0 k stop left at_ wr)
 case atStart=>exact ⟨s,st,s,[],en,rfl,rfl,rfl,by rw[ah];omega,Nat.le_refl _,Fx.refl _ _,by simpa using HF.out,by simpa using HI.out,by simpa [fL] using HL.out,Nat.le_refl _,Nat.le_refl _,.inl rfl,λj h1 h2=>by omega⟩
 case round=>
  obtain ⟨p,L,i,us,er,rfl,rfl,rfl,hk,Z9,nz,nW,hL,hl,hp,zL,hm,hn⟩:=hrel;have Rw:=nz.stay _ _ _ (by decide) HO.out;have r1:wr.cell? ⟨w.heap.size,1,none⟩=some (.func (.func 179) #[] #[.pointer (some ⟨ρ.av,0,none⟩)]):=by simp[World.cell?,Rw]
  have r2:wr.cell? ⟨w.heap.size,2,none⟩=some (.func (.func 181) #[] #[.pointer (some ⟨ρ.ev,0,none⟩)]):=by simp[World.cell?,Rw]
  have fq:L=0->¬cW (ts++us) L []:=by rintro rfl ⟨m,t,h4,_⟩;simp at h4
  by_cases hL0:L=0
  ·have ai:=aa ((vJ hk Z9 nz nW hl hp zL hm hn (p':=p) ⟨λh=>absurd h (fq hL0),λ_=>rfl⟩ (.inl hL0)).below HX.out HB.out);subst hL0;clear nz nW hL hl hp zL hm hn Rw;go_wp2_with fail;go_ret;exact ai.out
  ·have ads:((L:Int)==0)=false:=by rw[beq_eq_false_iff_ne];omega
   have oD:=aa (yl X ρ n0 root (ts++us) er L wr nW hL);have hk':i<=text.size:=by rw[ah]at hk;omega
   have HK:=aa hk;have DR:=aa nz;have N9:=aa nW;have CM:=aa hL;have Hl:=aa hl;have Hp:=aa hp;have Xs:=aa zL;have Hm:=aa hm;have Hn:=aa hn;clear nz nW hL hl hp zL hm hn Rw hk fq;go_wp2_with fail;refine oD.out.mono ?_;rintro e w1 ⟨x,rfl,rfl,hx⟩
   cases x with
   | true=>
    by_cases hat:i=text.size
    ·have ai:=aa ((vJ HK.out Z9 DR.out N9.out Hl.out Hp.out Xs.out Hm.out Hn.out (p':=i) ⟨λ_=>rfl,λh=>absurd (hx.1 rfl) h⟩ (.inr (by rw[ah];exact hat))).below HX.out HB.out);have hat':((i:Int)==(text.size:Int))=true:=by rw[beq_iff_eq];omega
     clear oD HK DR N9 CM Hl Hp Xs Hm Hn hx hat;go_wp2_with fail;go_ret;exact ai.out
    ·have hlt:i<text.size:=by omega
     have hat':((i:Int)==(text.size:Int))=false:=by rw[beq_eq_false_iff_ne];omega
     have xG:i+1<=9223372036854775807:=by unfold maxLen at hsz;omega
     have Lr:=aa (mW X ρ n0 root (ts++us) er L text[i] w1.drew (qz.out.fx DR.out.drew) H0.out (HT.out.keep (DR.out.drew.keep 1 H0.out)) (N9.out.below (Below.refl _ _).drew) CM.out);have VO:=aa (pX hlt);have HXX:=aa (hx.1 rfl);clear oD hx hat;go_wp2_with fail
     go_region_with (first
      | (go_at_call 179;refine Lr.out.mono ?_;rintro e3 w3 ⟨R,vF,Tn,rfl,dB,ma,BL,xC⟩;obtain ⟨k',hk3⟩:∃k',gk=k'+1:=⟨gk - 1,by have:=HK.out;rw[ah]at this;omega⟩;have HST:=aa (yn (hk3▸HK.out) Z9 DR.out Hl.out Hp.out Xs.out Hm.out Hn.out (p':=i) ⟨λ_=>rfl,λh=>absurd HXX.out h⟩ VO.out dB.gT ma BL xC);clear dB ma BL xC))
     all_goals
      go_wp2_with fail;go_roundg k'
      case measure=>omega
      case rel=>exact HST.out
   | false=>
    by_cases hat:i=text.size
    ·have ai:=aa ((vJ HK.out Z9 DR.out N9.out Hl.out Hp.out Xs.out Hm.out Hn.out (p':=p) ⟨λh=>absurd (hx.2 h) (by simp),λ_=>rfl⟩ (.inr (by rw[ah];exact hat))).below HX.out HB.out);have hat':((i:Int)==(text.size:Int))=true:=by rw[beq_iff_eq];omega
     clear oD HK DR N9 CM Hl Hp Xs Hm Hn hx hat;go_wp2_with fail;go_ret;exact ai.out
    ·have hlt:i<text.size:=by omega
     have hat':((i:Int)==(text.size:Int))=false:=by rw[beq_eq_false_iff_ne];omega
     have xG:i+1<=9223372036854775807:=by unfold maxLen at hsz;omega
     have Lr:=aa (mW X ρ n0 root (ts++us) er L text[i] w1.drew (qz.out.fx DR.out.drew) H0.out (HT.out.keep (DR.out.drew.keep 1 H0.out)) (N9.out.below (Below.refl _ _).drew) CM.out);have VO:=aa (pX hlt);have HXX:=aa (show ¬cW (ts++us) L [] from λh=>by simpa using hx.2 h);clear oD hx hat;go_wp2_with fail
     go_region_with (first
      | (go_at_call 179;refine Lr.out.mono ?_;rintro e3 w3 ⟨R,vF,Tn,rfl,dB,ma,BL,xC⟩;obtain ⟨k',hk3⟩:∃k',gk=k'+1:=⟨gk - 1,by have:=HK.out;rw[ah]at this;omega⟩;have HST:=aa (yn (hk3▸HK.out) Z9 DR.out Hl.out Hp.out Xs.out Hm.out Hn.out (p':=p) ⟨λh=>absurd h HXX.out,λ_=>rfl⟩ VO.out dB.gT ma BL xC);clear dB ma BL xC))
     all_goals
      go_wp2_with fail;go_roundg k'
      case measure=>omega
      case rel=>exact HST.out
def yq(ns:List (Nd Value))(w:World)(e:Ending)(w':World):Prop:=∃sv',e=.returned sv'/\Below w.heap.size w w'/\bj w' w.heap.size sv' ns
theorem Rx(h:∀nd∈ns,Form nd.has):∀u∈bK ns,u.oneCell'=true:=by
 intro u hu;obtain ⟨nd,h1,h2⟩:=List.mem_flatMap.1 hu;simp only[fe,List.mem_cons,List.not_mem_nil,or_false]at h2;rcases h2 with rfl|rfl|rfl|rfl|rfl
 ·rfl
 ·exact (h nd h1).one
 ·rfl
 ·rfl
 ·rfl
theorem Below.grownBy'{v:Value}(h:w.grownBy w' v.ownBlock)(hB:B<=w.heap.size)(hv:∀k,v.ownBlock=some k->B<=k):Below B w w':=
 ⟨h.os,h.tape,h.output,h.size,λk hk=>h.block k (by omega) (λe=>by have:=hv k e.symm;omega)⟩
theorem not_nil(a:Addr)(n c:Nat)(w:World):(binOp BinOp.eql 182 (Value.slice (some a) n c) (Value.slice none 0 0)).run Tryz.prog w=.ok (.bool false) w:=by exact Lib.run_eql_slice_some_nil w _ _ _ Tryz.underlying182
set_option maxRecDepth 20000 in
set_option maxHeartbeats 1000000 in
theorem yt(sv:Value)(ns:List (Nd Value))(w:World)(hL:bj w 0 sv ns)(h0:0<ns.length)(hn:ns.length<=200):
  Calls Tryz.prog 173 #[sv] w (yq ns w):=by
 obtain ⟨g,cap,rfl⟩:=az hL.1 h0;obtain ⟨i0,hi,hz0,hz1,hz3⟩:=info_parts qO;have HL:=aa hL;have rU:=not_nil ⟨g,0,none⟩ ns.length cap w;clear hL;go_enter Tryz.func173,Tryz.ntmps173
 have HO:=aa (show bj (w.alloc (.cells #[] 292)) w.heap.size (.slice (some ⟨w.heap.size,0,none⟩) 0 0) [] from ⟨⟨rfl,.inr ⟨w.heap.size,0,#[],rfl,Nat.le_refl _,af _ _,Nat.le_refl _,by unfold maxLen;omega,rfl,rfl⟩⟩,by simp⟩)
 have HC:=aa (λ(j:Nat) u (h:(bK ns)[j]?=some u)=>show (w.alloc (.cells #[] 292)).cell? ((⟨g,0,none⟩:Addr).add j)=some u from ar (HL.out.1.cells rfl j u h) _)
 go_wp2_with (at_builtin;go_loud (refine wpList_append_own_at _ rfl (.tmp 5) (.tmp 6) 182 rfl w.heap.size 292 i0 (.agg #[.int .i64 0,.nilFunc,.int .i64 0,.int .i64 0,.bool false]) 5 40 Tryz.underlying182 hi hz0 hz1 hz3 rfl (by decide) (.slice (some ⟨w.heap.size,0,none⟩) 0 0) 0 [] (by rfl) (by exact HO.out.1) ⟨g,0,none⟩ ns.length cap (bK ns) (by rfl) (by exact lG ns) HC.out (Rx HL.out.2) (by unfold maxLen;omega) (by omega) (by simp) ?_;intro v' w2 hown hgr _ _;rw[List.nil_append,Nat.zero_add]at hown;have HP:=aa (show yq ns w (.returned v') w2 from ⟨v',rfl,((Below.refl _ _).alloc (Nat.le_refl _) _).trans (Below.grownBy' hgr (by simp) (λk hk=>by cases hk;exact Nat.le_refl _)),hown,HL.out.2⟩);obtain ⟨g',cap',rfl⟩:=az hown (by omega);clear hown hgr))
 go_ret;exact HP.out
def swp(nd:Nd Value):Nd Value:=if nd.kind=2 then ⟨nd.kind,nd.has,nd.right,nd.left,nd.empty⟩ else nd
theorem CV(ns:List (Nd Value))(j l r:Nat)(nd:Nd Value)(h:ns[j]?=some nd):bK (ns.set j ⟨nd.kind,nd.has,l,r,nd.empty⟩)=((bK ns).set (j*5+2) (.int .i64 l)).set (j*5+3) (.int .i64 r):=by
 induction ns generalizing j with
 | nil=>simp at h
 | cons x xs ih=>
  cases j with
  | zero=>
   simp at h;subst h;simp[bK,fe]
  | succ j=>
   simp only[List.getElem?_cons_succ]at h;have e1:(j+1)*5+2=(j*5+2)+1+1+1+1+1:=by omega
   have e2:(j+1)*5+3=(j*5+3)+1+1+1+1+1:=by omega
   have ih:=ih j h;simp only[bK]at ih;rw[e1,e2];simp only[List.set_cons_succ,bK,List.flatMap_cons,fe,List.cons_append,List.nil_append];rw[ih]
theorem J7{r:Nat}(h:bj w B (.slice (some ⟨g,0,none⟩) ns.length cap) ns)(hj:ns[j]?=some nd):
  bj ((w.setCell ⟨g,j*5+2,none⟩ (.int .i64 l)).setCell ⟨g,j*5+3,none⟩ (.int .i64 r)) B (.slice (some ⟨g,0,none⟩) ns.length cap) (ns.set j ⟨nd.kind,nd.has,l,r,nd.empty⟩):=by
 obtain ⟨⟨h1,h2⟩,h3⟩:=h;have qF:=aw hj;rcases h2 with ⟨h2,_⟩|⟨g',cap',cur,e,hB,hh,a1,a2,a3,a4⟩
 ·cases h2
 ·cases e;have e1:=heap_setCell_same w g (j*5+2) (.int .i64 l) hh;have e2:=heap_setCell_same (w.setCell ⟨g,j*5+2,none⟩ (.int .i64 l)) g (j*5+3) (.int .i64 r) e1;refine ⟨⟨by rw[lG,List.length_set],.inr ⟨g,cap,_,by rw[List.length_set],hB,e2,by rw[List.length_set];exact a1,a2,by simpa using a3,?_⟩⟩,?_⟩
  ·rw[List.length_set,CV ns j l r nd hj,<-a4];simp only[Array.toList_setIfInBounds,List.take_set]
  ·intro x hx;rcases List.mem_or_eq_of_mem_set hx with hx|rfl
   ·exact h3 x hx
   ·exact h3 nd (List.mem_of_getElem? hj)
def half(ns:List (Nd Value))(j:Nat):List (Nd Value):=(ns.take j).map swp++ns.drop j
theorem mh(ns:List (Nd Value))(h:j<=ns.length):(half ns j).length=ns.length:=by simp[half];omega
theorem Oa(ns:List (Nd Value))(j:Nat)(h:j<=ns.length):(half ns j)[j]?=ns[j]?:=by unfold half;rw[List.getElem?_append_right (by simp;omega)];simp;congr 1;omega
theorem J8(ns:List (Nd Value))(h:ns[j]?=some nd):(half ns j).set j (swp nd)=half ns (j+1):=by
 have hl:=aw h;rw[List.getElem?_eq_getElem hl]at h;unfold half;rw[List.set_append_right _ _ (by simp;omega),List.take_succ_eq_append_getElem hl,List.drop_eq_getElem_cons hl,Option.some.inj h];have e:j - (List.map swp (List.take j ns)).length=0:=by simp;omega
 rw[e];simp
def Hw(ns:List (Nd Value))(w:World)(e:Ending)(w':World):Prop:=∃sv',e=.returned sv'/\Below w.heap.size w w'/\bj w' w.heap.size sv' (ns.map swp)
def Ad(ns:List (Nd Value))(B g cap:Nat)(w:World)(k:Nat)(i:Value)(wr:World):Prop:=
 ∃j:Nat,i=.int .i64 j/\j+k=ns.length/\Below B w wr/\bj wr B (.slice (some ⟨g,0,none⟩) ns.length cap) (half ns j)
theorem CW(hk:j+(k+1)=ns.length)(hnd:ns[j]?=some nd)(hb:Below B w wr)(hb2:Below B wr w')(hL:bj w' B (.slice (some ⟨g,0,none⟩) ns.length cap) ((half ns j).set j (swp nd))):
  Ad ns B g cap w k (.int .i64 ((j+1:Nat):Int)) w':=by
 rw[J8 ns hnd]at hL;exact ⟨j+1,rfl,by omega,hb.trans hb2,hL⟩
set_option maxRecDepth 20000 in
set_option maxHeartbeats 1000000 in
theorem Ae(sv:Value)(ns:List (Nd Value))(w:World)(hL:bj w 0 sv ns)(h0:0<ns.length)(hn:ns.length<=200):
  Calls Tryz.prog 141 #[sv] w (Hw ns w):=by
 have HC:=aa (yt sv ns w hL h0 hn);obtain ⟨g0,adt,rfl⟩:=az hL.1 h0;clear hL;go_enter Tryz.func141,Tryz.ntmps141;go_wp2_with fail;refine HC.out.mono ?_;rintro e w1 ⟨sv',rfl,eR,Fm⟩;obtain ⟨g,cap,rfl⟩:=az Fm.1 h0;have bA:=aa eR;have wE:=aa Fm;clear eR Fm HC;go_wp2_with fail
 go_loopg [10] ns.length (λk i wr=>Ad ns w.heap.size g cap w k i wr)
 case atStart=>exact ⟨0,by simp,by simp,bA.out,by simpa [half] using wE.out⟩
 case round=>
  obtain ⟨j,rfl,hk,hb,hl⟩:=hrel;by_cases hlt:j<ns.length
  ·obtain ⟨nd,hnd⟩:∃nd,ns[j]?=some nd:=⟨ns[j],List.getElem?_eq_getElem hlt⟩;have Oc:=Oa ns j (by omega);rw[hnd]at Oc;obtain ⟨g',cap',e',m0,m1,m2,m3,m4⟩:=hl.at Oc;rw[mh ns (by omega)]at e';cases e';have mL:=hl.2 nd (List.mem_of_getElem? Oc);have hst:=eH mL;have Xt:=aa hb;have CM:=aa hl;have Lq:=aa hnd;have J9:=aa Oc;clear hb hl hnd Oc
   obtain ⟨k,hv,l,r,em⟩:=nd;by_cases hk2:k=2
   ·subst hk2;go_wp2_with fail;obtain ⟨W,hW⟩:∃W,W=wr.alloc (.cells #[.int .i64 2,hv,.int .i64 l,.int .i64 r,.bool em] 292):=⟨_,rfl⟩;have jJ:Below wr.heap.size wr W:=hW▸(Below.refl _ _).alloc (Nat.le_refl _) _;have hEW:W.heap[wr.heap.size]?=some (.cells #[.int .i64 2,hv,.int .i64 l,.int .i64 r,.bool em] 292 (0,0)):=hW▸af _ _;rw[<-hW]
    clear hW;have Od:=CM.out.keep (λk hk=>jJ.block k (ae (CM.out.block hk).2.choose_spec));obtain ⟨gB,cur,gO⟩:=Od.block (k:=g) rfl;obtain ⟨g',cap',e',n0,n1,n2,n3,n4⟩:=Od.at J9.out;rw[mh ns (by omega)]at e';cases e';have z2:W.frozen? ⟨g,j*5+2,none⟩=false:=by simp[World.frozen?,gO]
    have z3:W.frozen? ⟨g,j*5+3,none⟩=false:=by simp[World.frozen?,gO]
    have y2:W.cell? ⟨wr.heap.size,2,none⟩=some (.int .i64 l):=by simp[World.cell?,hEW]
    have y3:W.cell? ⟨wr.heap.size,3,none⟩=some (.int .i64 r):=by simp[World.cell?,hEW]
    have E7:g<wr.heap.size:=ae (CM.out.block (k:=g) rfl).2.choose_spec;have hne:∀off v,(W.setCell ⟨g,off,none⟩ v).heap[wr.heap.size]?=W.heap[wr.heap.size]?:=λoff v=>Below.heap_setCell _ _ _ _ (by show wr.heap.size≠g;omega)
    have y2':∀off v,(W.setCell ⟨g,off,none⟩ v).cell? ⟨wr.heap.size,2,none⟩=some (.int .i64 l):=λoff v=>by simp[World.cell?,hne,hEW]
    have y3':∀off v,(W.setCell ⟨g,off,none⟩ v).cell? ⟨wr.heap.size,3,none⟩=some (.int .i64 r):=λoff v=>by simp[World.cell?,hne,hEW]
    have uw:=aa jJ;have HLW:=aa Od;clear hne jJ hEW Od gO n0 n1 n4 m0 m1 m2 m3 m4 hst mL;have hgB:w.heap.size<=g:=gB;obtain ⟨k',rfl⟩:∃k',gk=k'+1:=⟨gk - 1,by omega⟩
    have HST:=aa (show Ad ns w.heap.size g cap w k' (.int .i64 ((j+1:Nat):Int)) ((W.setCell ⟨g,j*5+2,none⟩ (.int .i64 r)).setCell ⟨g,j*5+3,none⟩ (.int .i64 l)).drew from
     CW (w':=((W.setCell ⟨g,j*5+2,none⟩ (.int .i64 r)).setCell ⟨g,j*5+3,none⟩ (.int .i64 l)).drew) hk Lq.out Xt.out ((((uw.out.mono Xt.out.size).setCell hgB _).setCell hgB _).drew) (by have Tr:(half ns j).length=ns.length:=mh ns (by omega);have h0:=HLW.out;rw[<-Tr]at h0;have h1:=J7 (l:=r) (r:=l) h0 J9.out;rw[Tr]at h1;exact h1))
    clear Lq J9 Xt CM uw HLW;go_region;go_wp2_with fail;go_roundg k'
    case measure=>omega
    case rel=>exact HST.out
   ·have adu:((k:Int)==2)=false:=by rw[beq_eq_false_iff_ne];omega
    have dr:(half ns j).set j (swp ⟨k,hv,l,r,em⟩)=half ns j:=by
     have e1:swp ⟨k,hv,l,r,em⟩=⟨k,hv,l,r,em⟩:=by simp[swp,hk2]
     have ie:=aw J9.out;have h2:=J9.out;rw[List.getElem?_eq_getElem ie]at h2;rw[e1,<-Option.some.inj h2,List.set_getElem_self]
    have jJ:Below wr.heap.size wr (wr.alloc (.cells #[.int .i64 k,hv,.int .i64 l,.int .i64 r,.bool em] 292)):=(Below.refl _ _).alloc (Nat.le_refl _) _;obtain ⟨k',rfl⟩:∃k',gk=k'+1:=⟨gk - 1,by omega⟩;have HST:=aa (CW hk Lq.out Xt.out (jJ.mono Xt.out.size) (by rw[dr];exact CM.out.keep (λk hk=>jJ.block k (ae (CM.out.block hk).2.choose_spec))))
    clear Lq J9 Xt CM dr jJ hk2;go_wp2_with fail;go_roundg k'
    case measure=>omega
    case rel=>exact HST.out
  ·have hj:j=ns.length:=by omega
   have ai:=aa (show Hw ns w (.returned (.slice (some ⟨g,0,none⟩) ns.length cap)) wr from ⟨_,rfl,hb,by subst hj;simpa [half,bj] using hl⟩);clear hb hl;go_wp2_with fail;go_ret;exact ai.out
def xw(w:World)(e:Ending)(w':World):Prop:=
 ∃M mv pl,e=.returned (.tuple #[.func (.func 196) #[] #[.pointer (some ⟨mv,0,none⟩),.pointer (some ⟨pl,0,none⟩)],.func (.func 197) #[] #[.pointer (some ⟨pl,0,none⟩)]])/\Below w.heap.size w w'/\w.heap.size<=M/\w.heap.size<=mv/\w.heap.size<=pl /\
  w'.heap[mv]?=some (.cells #[.map (some M)] 318 (0,0))/\kw w' M pl (.slice none 0 0) []
set_option maxRecDepth 20000 in
set_option maxHeartbeats 1000000 in
theorem xx(w:World):Calls Tryz.prog 174 #[] w (xw w):=by
 have ED:=@run_makeMap Tryz.prog;go_enter Tryz.func174,Tryz.ntmps174;go_wp2_with fail
 refine bodyPost_ret (v:=.tuple #[.func (.func 196) #[] #[.pointer (some ⟨w.heap.size+1,0,none⟩),.pointer (some ⟨w.heap.size+1+1,0,none⟩)],.func (.func 197) #[] #[.pointer (some ⟨w.heap.size+1+1,0,none⟩)]]) (by simp[results,Tryz.results174,go_sem, *]) rfl ?_;have hM:=bY.made ny 3 .i64 w
 have h1:=af (w.alloc (.map #[] 0)) (.cells #[.map (some w.heap.size)] 318);have h2:=af ((w.alloc (.map #[] 0)).alloc (.cells #[.map (some w.heap.size)] 318)) (.cells #[.slice none 0 0] 57);have b1:Below w.heap.size w (w.alloc (.map #[] 0)):=(Below.refl _ _).alloc (Nat.le_refl _) _
 have b2:=b1.alloc (o:=.cells #[.map (some w.heap.size)] 318) (by simp);have b3:=b2.alloc (o:=.cells #[.slice none 0 0] 57) (by simp;omega)
 refine ⟨w.heap.size,w.heap.size+1,w.heap.size+1+1,rfl,b3,Nat.le_refl _,by omega,by omega,heap_alloc_old (by simpa using h1),⟨by simpa using h2,⟨by simp,.inl ⟨rfl,rfl⟩⟩,⟨0,λ_=>none,hM.keep ?_,Nat.le_refl _,λk c=>?_⟩,by simp,by simp⟩⟩
 ·obtain ⟨es,kY,ho⟩:=hM.obj;rw[ho];exact heap_alloc_old (heap_alloc_old ho)
 ·simp
def Af(v:Array Value)(w:World)(e:Ending)(w':World):Prop:=
 ∃K kv wk,e=.returned (.func (.func 198) #[] #[.pointer (some ⟨kv,0,none⟩),.pointer (some ⟨wk,0,none⟩)])/\Below w.heap.size w w'/\w.heap.size<=K/\w'.heap[kv]?=some (.cells #[.map (some K)] 319 (0,0)) /\
  w'.heap[wk]?=some (.cells #[.func (.func 177) #[] v] 302 (0,0))/\bY iC 188 .u64 w' K 0 (λ_=>none)
set_option maxRecDepth 20000 in
set_option maxHeartbeats 1000000 in
theorem Ag(v:Array Value)(w:World):Calls Tryz.prog 176 #[.func (.func 177) #[] v] w (Af v w):=by
 have ED:=@run_makeMap Tryz.prog;go_enter Tryz.func176,Tryz.ntmps176;go_wp2_with fail;go_ret;have hM:=bY.made iC 188 .u64 (w.alloc (.cells #[.func (.func 177) #[] v] 302))
 have h1:=af w (.cells #[.func (.func 177) #[] v] 302);have h2:=af ((w.alloc (.cells #[.func (.func 177) #[] v] 302)).alloc (.map #[] 0)) (.cells #[.map (some (w.heap.size+1))] 319)
 have b1:Below w.heap.size w (w.alloc (.cells #[.func (.func 177) #[] v] 302)):=(Below.refl _ _).alloc (Nat.le_refl _) _;have b2:=b1.alloc (o:=.map #[] 0) (by simp);have b3:=b2.alloc (o:=.cells #[.map (some (w.heap.size+1))] 319) (by simp;omega)
 refine ⟨w.heap.size+1,w.heap.size+1+1,w.heap.size,rfl,b3,by omega,by simpa using h2,heap_alloc_old (heap_alloc_old h1),?_⟩;rw[show (w.alloc (.cells #[.func (.func 177) #[] v] 302)).heap.size=w.heap.size+1 by simp]at hM;refine hM.keep ?_;obtain ⟨es,kY,ho⟩:=hM.obj;rw[ho];exact heap_alloc_old ho
def old(N:Nat):Nat->Prop:=λk=>k<N
theorem FN{sv1:Value}{J:Nat}(hS:W.heap[ρ.S]?=some (.cells #[sv1,.map (some J)] 298 (0,0)))(hSN:N<=ρ.S)(hL:bj W N sv1 ns)(hJ:bY pairT 3 .i64 W J 0 (λ_=>none))(hJN:N<=J)(hJM:J≠ρ.M)(hJK:J≠ρ.K)
  (hN:kw W ρ.M ρ.pl (.slice none 0 0) []) (A8:N<=ρ.M) (hpN:N<=ρ.pl) (hev:W.heap[ρ.ev]?=some (.cells #[.int .u64 (0:Nat)] 188 (0,0))) (heN:N<=ρ.ev) (hK:bY iC 188 .u64 W ρ.K 0 (λ_=>none)) (hMK:ρ.M≠ρ.K)
  (h0:0<ns.length) (hn:ns.length<=200) (he:dR (aF W) ns .dh) (hz:root.sz<=200) (hl:root.leaves<=60):mP W (DZ (old N) ρ) ρ ns.length root ns [] [] 0:=by
 obtain ⟨es,kY,P2⟩:=hK.obj;obtain ⟨mM,fM,hMm,_⟩:=hN.map;obtain ⟨es',adv,Ha⟩:=hMm.obj
 have hc:∀k c t fz,W.heap[k]?=some (.cells c t fz)->N<=k->¬plus (DZ (old N) ρ) ρ k:=by
  rintro k c t fz hk hN ((h|rfl)|rfl|rfl)
  ·exact absurd h (by show ¬k<N;omega)
  ·rw[P2]at hk;cases hk
  ·rw[Ha]at hk;cases hk
  ·rw[P2]at hk;cases hk
 have hc':∀k c t fz,W.heap[k]?=some (.cells c t fz)->N<=k->¬DZ (old N) ρ k:=λk c t fz h1 h2 h3=>hc k c t fz h1 h2 (.inl h3)
 refine ⟨⟨hc _ _ _ _ hS hSN,⟨sv1,J,0,λ_=>none,hS,?_,λk hk=>?_,hJ,?_,by omega,λ_ _ _ h=>(by cases h),λj nd hj hnd=>?_⟩,h0,Nat.le_refl _,hn,he,λj h1 h2=>(by omega),uI root hz hl⟩,⟨.slice none 0 0,hN,λk hk=>(by cases hk)⟩,hev,⟨?_,hc' _ _ _ _ hN.var hpN,hc' _ _ _ _ hev heN⟩,.nil,λt ht=>(by simp at ht),λn=>(by simp),hz,hl⟩
 ·obtain ⟨⟨h1,h2⟩,h3⟩:=hL;refine ⟨⟨h1,?_⟩,h3⟩;rcases h2 with h2|⟨g,cap,cur,a1,a2,a3⟩
  ·exact .inl h2
  ·exact .inr ⟨g,cap,cur,a1,Nat.zero_le _,a3⟩
 ·obtain ⟨h1,cur,h2⟩:=hL.block hk;exact hc _ _ _ _ h2 h1
 ·rintro ((h|h)|h|h)
  ·exact absurd h (by show ¬J<N;omega)
  ·exact hJK h
  ·exact hJM h
  ·exact hJK h
 ·have:=aw hnd;omega
 ·rintro (h|h)
  ·exact absurd h (by show ¬ρ.M<N;omega)
  ·exact hMK h
theorem Full.other(h:Full w X ρ n0 root ts en)(hk:∀(k:Nat) o,w.heap[k]?=some o->(∀c fz,o≠.cells c 192 fz)->w'.heap[k]?=some o):Full w' X ρ n0 root ts en:=by
 obtain ⟨⟨ns,cC,hD⟩,hs,hK,m,f,ks,hm,h1,h2,h3,h4⟩:=h;have hc:∀(k:Nat) c t fz,t≠192->w.heap[k]?=some (.cells c t fz)->w'.heap[k]?=some (.cells c t fz):=λk c t fz ht hh=>hk k _ hh (λc' WJ e=>by cases e;exact ht rfl)
 have hmap:∀(k:Nat) es kY,w.heap[k]?=some (.map es kY)->w'.heap[k]?=some (.map es kY):=λk es kY hh=>hk k _ hh (λc' WJ e=>by cases e)
 have hst:bH w w':=λk c t ht hh=>hc k c t _ (by rcases ht with rfl|rfl<;>decide) hh
 obtain ⟨pv,hN,hv⟩:=hD.uW
 refine ⟨⟨ns,cC,hD.shelf.keep hst (λk o _ ho xE=>hk k o ho (λc fz e=>?_)) (λ_ h=>.inl h),⟨pv,⟨hc _ _ _ _ (by decide) hN.var,hN.row.iF λk hk=>?_,?_,hN.nodup,hN.small⟩,hv⟩,hc _ _ _ _ (by decide) hD.ev,hD.nX,hD.jL.mono λd k hh=>aU.world hst hh,hD.met,hD.bits,hD.sz,hD.leaves⟩,⟨hc _ _ _ _ (by decide) hs.sv,hc _ _ _ _ (by decide) hs.mv,hc _ _ _ _ (by decide) hs.nv,hc _ _ _ _ (by decide) hs.xv,hc _ _ _ _ (by decide) hs.kk,hc _ _ _ _ (by decide) hs.wk,hc _ _ _ _ (by decide) hs.kv,hc _ _ _ _ (by decide) hs.av⟩,hK,m,f,ks,hm.keep ?_,h1,h2,h3,h4⟩
 ·rcases xE _ _ _ e with h|h<;>cases h
 ·obtain ⟨c,hcc⟩:=hN.row.block hk;rw[hcc];exact hc _ _ _ _ (by decide) hcc
 ·obtain ⟨m,f,hm,h1,h2⟩:=hN.map;obtain ⟨es,kY,ho⟩:=hm.obj;exact ⟨m,f,hm.keep ((hmap _ _ _ ho).trans ho.symm),h1,h2⟩
 ·obtain ⟨es,kY,ho⟩:=hm.obj;exact (hmap _ _ _ ho).trans ho.symm
def FO(ns:List (Nd Value))(root:aN)(w:World)(e:Ending)(w':World):Prop:=
 ∃(ρ:Rd) (st:Nat) (ts:List D) (en:Nat),e=.returned (rdv ρ st)/\Below w.heap.size w w'/\Full w' (old w.heap.size) ρ ns.length root ts en/\nV ts st/\∀u,cW ts st u<->Mt root.re u
theorem FP{w4:World}{n:Nat}{et:List D}{eY:List Nat}(hF:Fx (DZ (old N) ρ) W w4)(hD:mP w4 (DZ (old N) ρ) ρ n0 root ns et eY er)(hs:PU W ρ)(hKN:N<=ρ.K)(hK:bY iC 188 .u64 W ρ.K 0 (λ_=>none))(hn:et[n]?=some (.base root)):
  Full w4 (old N) ρ n0 root et er/\nV et (2 ^ n)/\∀u,cW et (2 ^ n) u<->Mt root.re u:=by
 have B9:∀m,(2 ^ n).testBit m=true<->m=n:=λm=>by rw[Nat.testBit_two_pow];simp[eq_comm]
 refine ⟨⟨⟨ns,eY,hD⟩,hs.fx hF,λh=>absurd h (by show ¬ρ.K<N;omega),0,λ_=>none,[],hK.keep (hF.keep _ (.inr rfl)),Nat.le_refl _,List.nodup_nil,λx hx=>(by simp at hx),λ_ _ _ h=>(by cases h)⟩,λm hm=>?_,λu=>⟨?_,λh=>⟨n,_,(B9 n).2 rfl,hn,h⟩⟩⟩
 ·rw[(B9 m).1 hm];exact aw hn
 ·rintro ⟨m,t,h1,h2,h3⟩;rw[(B9 m).1 h1,hn]at h2;cases h2;exact h3
theorem four(w:World)(o1 o2 o3 o4:Obj):((((w.alloc o1).alloc o2).alloc o3).alloc o4).heap[w.heap.size]?=some o1/\((((w.alloc o1).alloc o2).alloc o3).alloc o4).heap[w.heap.size+1]?=some o2/\((((w.alloc o1).alloc o2).alloc o3).alloc o4).heap[w.heap.size+1+1]?=some o3/\((((w.alloc o1).alloc o2).alloc o3).alloc o4).heap[w.heap.size+1+1+1]?=some o4 /\
  Below w.heap.size w ((((w.alloc o1).alloc o2).alloc o3).alloc o4)/\((((w.alloc o1).alloc o2).alloc o3).alloc o4).heap.size=w.heap.size+4:=by
 have h1:=af w o1;have h2:=af (w.alloc o1) o2;have h3:=af ((w.alloc o1).alloc o2) o3;have h4:=af (((w.alloc o1).alloc o2).alloc o3) o4;rw[show (w.alloc o1).heap.size=w.heap.size+1 by simp]at h2;rw[show ((w.alloc o1).alloc o2).heap.size=w.heap.size+1+1 by simp]at h3
 rw[show (((w.alloc o1).alloc o2).alloc o3).heap.size=w.heap.size+1+1+1 by simp]at h4;exact ⟨heap_alloc_old (heap_alloc_old (heap_alloc_old h1)),heap_alloc_old (heap_alloc_old h2),heap_alloc_old h3,h4,((((Below.refl _ _).alloc (Nat.le_refl _) _).alloc (by simp) _).alloc (by simp;omega) _).alloc (by simp;omega) _,by simp⟩
set_option maxRecDepth 20000 in
set_option maxHeartbeats 2000000 in
theorem od(sv:Value)(ns:List (Nd Value))(root:aN)(w:World)(hL:bj w 0 sv ns)(hr:dR (aF w) ns root)(he:dR (aF w) ns .dh)(h0:0<ns.length)(hn:ns.length<=200)(hz:root.sz<=200)(hl:root.leaves<=60)(k:Nat)(hk:k=root.ix):
  Calls Tryz.prog 140 #[sv,.int .i64 k] w (FO ns root w):=by
 have ED:=@run_makeMap Tryz.prog;obtain ⟨g,cap,rfl⟩:=az hL.1 h0;have hb0:Below w.heap.size w (w.alloc (.cells #[.int .u64 0,.nilFunc,.nilFunc] 192)):=(Below.refl _ _).alloc (Nat.le_refl _) _;have gW:=aa hb0;have Ej:=aa (af w (.cells #[.int .u64 0,.nilFunc,.nilFunc] 192))
 have HC:=aa (yt (.slice (some ⟨g,0,none⟩) ns.length cap) ns (w.alloc (.cells #[.int .u64 0,.nilFunc,.nilFunc] 192)) (hL.alloc _) h0 hn);have HR:=aa hr;have HE:=aa he;have DM:=aa hk;clear hL hr he hb0 hk;go_enter Tryz.func140,Tryz.ntmps140;go_wp2_with fail
 generalize hW:w.alloc (.cells #[.int .u64 0,.nilFunc,.nilFunc] 192)=w0;rw[hW]at gW Ej HC;have Y4:w0.heap.size=w.heap.size+1:=by rw[<-hW];simp
 clear hW;refine HC.out.mono ?_;rintro e w1 ⟨sv1,rfl,eR,Fm⟩;obtain ⟨g1,nk,rfl⟩:=az Fm.1 h0;have bA:=aa eR;have wE:=aa Fm;clear eR Fm HC;go_wp2_with fail;have hJ:=bY.made pairT 3 .i64 w1;have hSb:=af (w1.alloc (.map #[] 0)) (.cells #[.slice (some ⟨g1,0,none⟩) ns.length nk,.map (some w1.heap.size)] 298)
 have Oe:=af ((w1.alloc (.map #[] 0)).alloc (.cells #[.slice (some ⟨g1,0,none⟩) ns.length nk,.map (some w1.heap.size)] 298)) (.cells #[.pointer (some ⟨w1.heap.size+1,0,none⟩)] 295)
 have hb1:Below w1.heap.size w1 (((w1.alloc (.map #[] 0)).alloc (.cells #[.slice (some ⟨g1,0,none⟩) ns.length nk,.map (some w1.heap.size)] 298)).alloc (.cells #[.pointer (some ⟨w1.heap.size+1,0,none⟩)] 295)):=(((Below.refl _ _).alloc (Nat.le_refl _) _).alloc (by simp) _).alloc (by simp;omega) _
 generalize hW:((w1.alloc (.map #[] 0)).alloc (.cells #[.slice (some ⟨g1,0,none⟩) ns.length nk,.map (some w1.heap.size)] 298)).alloc (.cells #[.pointer (some ⟨w1.heap.size+1,0,none⟩)] 295)=wB at hb1 Oe
 have hJB:bY pairT 3 .i64 wB w1.heap.size 0 (λ_=>none):=by refine hJ.keep ?_;obtain ⟨es,kY,ho⟩:=hJ.obj;rw[ho,<-hW];exact heap_alloc_old (heap_alloc_old ho)
 have hSB:wB.heap[w1.heap.size+1]?=some (.cells #[.slice (some ⟨g1,0,none⟩) ns.length nk,.map (some w1.heap.size)] 298 (0,0)):=by rw[<-hW];exact heap_alloc_old (by simpa using hSb)
 have hvB:wB.heap[w1.heap.size+1+1]?=some (.cells #[.pointer (some ⟨w1.heap.size+1,0,none⟩)] 295 (0,0)):=by simpa using Oe
 have adw:wB.heap.size=w1.heap.size+3:=by rw[<-hW];simp
 clear hW hJ hSb Oe;have Bk:=aa hb1;have HJB:=aa hJB;have HSB:=aa hSB;have HVB:=aa hvB;clear hb1 hJB hSB hvB;refine (xx _).mono ?_;rintro e w2 ⟨M,mv,pl,rfl,dW,Lf,Ce,hM3,Y2,S6⟩;have cL:=aa dW;have WY:=aa Y2;have HM5:=aa S6;clear dW S6 Y2;go_wp2_with fail
 obtain ⟨q1,q2,q3,q4,q5,q6⟩:=four w2 (.cells #[.func (.func 196) #[] #[.pointer (some ⟨mv,0,none⟩),.pointer (some ⟨pl,0,none⟩)]] 284) (.cells #[.func (.func 197) #[] #[.pointer (some ⟨pl,0,none⟩)]] 284) (.cells #[.int .u64 0] 188) (.cells #[.func (.func 175) #[] #[.pointer (some ⟨w2.heap.size,0,none⟩),.pointer (some ⟨w1.heap.size+1+1,0,none⟩),.pointer (some ⟨w2.heap.size+1+1,0,none⟩)]] 301)
 generalize hW:(((w2.alloc (.cells #[.func (.func 196) #[] #[.pointer (some ⟨mv,0,none⟩),.pointer (some ⟨pl,0,none⟩)]] 284)).alloc (.cells #[.func (.func 197) #[] #[.pointer (some ⟨pl,0,none⟩)]] 284)).alloc (.cells #[.int .u64 0] 188)).alloc (.cells #[.func (.func 175) #[] #[.pointer (some ⟨w2.heap.size,0,none⟩),.pointer (some ⟨w1.heap.size+1+1,0,none⟩),.pointer (some ⟨w2.heap.size+1+1,0,none⟩)]] 301)=wC at q1 q2 q3 q4 q5 q6
 clear hW;have Q1:=aa q1;have Q2:=aa q2;have Q3:=aa q3;have Q4:=aa q4;have Q5:=aa q5;clear q1 q2 q3 q4 q5;refine (Ag _ _).mono ?_;rintro e w3 ⟨K,kv,wk,rfl,gY,Jf,hK2,hK3,hK4⟩;have fB:=aa gY;have Zs:=aa hK2;have HK3:=aa hK3;have HK4:=aa hK4;have c4:=ay ((gY.block _ (ae Q4.out)).trans Q4.out);have c4':=ar c4;clear gY hK4 hK2 hK3
 go_wp2_with fail;have VP:=af w3 (.cells #[.func (.func 198) #[] #[.pointer (some ⟨kv,0,none⟩),.pointer (some ⟨wk,0,none⟩)]] 302)
 have Eo:Below w3.heap.size w3 (w3.alloc (.cells #[.func (.func 198) #[] #[.pointer (some ⟨kv,0,none⟩),.pointer (some ⟨wk,0,none⟩)]] 302)):=(Below.refl _ _).alloc (Nat.le_refl _) _
 generalize hW:w3.alloc (.cells #[.func (.func 198) #[] #[.pointer (some ⟨kv,0,none⟩),.pointer (some ⟨wk,0,none⟩)]] 302)=W at VP Eo;clear hW c4 c4';have bC:=fB.out.trans (Eo.mono fB.out.size);have b2:=Q5.out.trans (bC.mono Q5.out.size);have bB:=cL.out.trans (b2.mono cL.out.size)
 have b1:=Bk.out.trans (bB.mono Bk.out.size);have b0:=bA.out.trans (b1.mono bA.out.size);have bw:=gW.out.trans (b0.mono gW.out.size);have s01:=bA.out.size;have s1B:=Bk.out.size;have sB2:=cL.out.size;have s2C:=Q5.out.size;have sC3:=fB.out.size;have Og:bH w W:=bH.au bw
 obtain ⟨ρ,hρ⟩:∃ρ:Rd,ρ=⟨w1.heap.size+1,w1.heap.size+1+1,M,mv,pl,w2.heap.size,w2.heap.size+1,w2.heap.size+1+1,w2.heap.size+1+1+1,wk,K,kv,w3.heap.size⟩:=⟨_,rfl⟩;have JU:=HM5.out;have acO:M<w2.heap.size:=by obtain ⟨m,f,hm,_⟩:=JU.map;exact hm.lt
 have hNW:kw W M pl (.slice none 0 0) []:=by refine ⟨(b2.block _ (ae JU.var)).trans JU.var,JU.row.iF (λk hk=>by cases hk),?_,JU.nodup,JU.small⟩;obtain ⟨m,f,hm,h1,h2⟩:=JU.map;exact ⟨m,f,hm.keep (b2.block _ hm.lt),h1,h2⟩
 have Fm:=wE.out
 have Od:bj W w.heap.size (.slice (some ⟨g1,0,none⟩) ns.length nk) ns:=by
  have h1:=Fm.keep (λk hk=>b1.block k (ae (Fm.block hk).2.choose_spec));obtain ⟨⟨h2,h3⟩,h4⟩:=h1;refine ⟨⟨h2,?_⟩,h4⟩;rcases h3 with h3|⟨g,cap,cur,a1,a2,a3⟩
  ·exact .inl h3
  ·exact .inr ⟨g,cap,cur,a1,by omega,a3⟩
 have VF:=HK4.out.lt;have hKW:bY iC 188 .u64 W K 0 (λ_=>none):=HK4.out.keep (Eo.block _ VF)
 have aab:mP W (DZ (old w.heap.size) ρ) ρ ns.length root ns [] [] 0:=by
  subst hρ
  exact FN (J:=w1.heap.size) ((bB.block _ (ae HSB.out)).trans HSB.out) (by show w.heap.size<=w1.heap.size+1;omega) Od (HJB.out.keep (bB.block _ HJB.out.lt)) (by omega) (by show w1.heap.size≠M;omega) (by show w1.heap.size≠K;omega) hNW (by show w.heap.size<=M;omega) (by show w.heap.size<=pl;omega) ((bC.block _ (ae Q3.out)).trans Q3.out) (by show w.heap.size<=w2.heap.size+1+1;omega) hKW (by show M≠K;omega) h0 hn (HE.out.world Og) hz hl
 have VQ:PU W ρ:=by subst hρ;exact ⟨(bB.block _ (ae HVB.out)).trans HVB.out,(b2.block _ (ae WY.out)).trans WY.out,(bC.block _ (ae Q1.out)).trans Q1.out,(bC.block _ (ae Q2.out)).trans Q2.out,(bC.block _ (ae Q4.out)).trans Q4.out,(Eo.block _ (ae HK3.out)).trans HK3.out,(Eo.block _ (ae Zs.out)).trans Zs.out,VP⟩
 have hKρ:ρ.K=K:=by rw[hρ]
 have aac:ia (DZ (old w.heap.size) ρ) W:=by
  rintro j (hj|rfl)
  ·exact Nat.lt_of_lt_of_le hj bw.size
  ·rw[hKρ];exact hKW.lt
 have hRt:=HR.out.world Og;have lU:=aa (CK _ ρ ns.length root ns [] [] 0 (.base root) k W aac aab VQ (by rw[DM.out];exact ⟨rfl,hRt.Uz,hRt⟩) (by simp[met]));have I3:=aa ((b0.block _ (ae Ej.out)).trans Ej.out);have abX:=aa VQ;have HKW:=aa (hKρ▸hKW);have uw:=aa bw;have hKN:w.heap.size<=ρ.K:=by rw[hKρ];omega
 have hρ1:ρ.nv=w2.heap.size:=by rw[hρ]
 have hρ2:ρ.sv=w1.heap.size+1+1:=by rw[hρ]
 have hρ3:ρ.ev=w2.heap.size+1+1:=by rw[hρ]
 have hρ4:ρ.av=w3.heap.size:=by rw[hρ]
 rw[<-hρ3,<-hρ1,<-hρ2,<-hρ4];clear hρ aab VQ hKW Od Fm hNW JU hRt aac Og bw b0 b1 bB b2 bC Eo VP;refine lU.out.mono ?_;rintro e w4 ⟨n,et,eY,er,rfl,mK,xJ,hn4,-⟩;have PR:=mK.stay _ _ _ (by decide) I3.out;have g0:w4.cell? ⟨w.heap.size,0,none⟩=some (.int .u64 0):=by simp[World.cell?,PR]
 have g1':w4.cell? ⟨w.heap.size,1,none⟩=some .nilFunc:=by simp[World.cell?,PR]
 have g2:w4.cell? ⟨w.heap.size,2,none⟩=some .nilFunc:=by simp[World.cell?,PR]
 have z0:w4.frozen? ⟨w.heap.size,0,none⟩=false:=by simp[World.frozen?,PR]
 have z1:w4.frozen? ⟨w.heap.size,1,none⟩=false:=by simp[World.frozen?,PR]
 have z2:w4.frozen? ⟨w.heap.size,2,none⟩=false:=by simp[World.frozen?,PR]
 have ai:=aa (FP mK xJ abX.out hKN HKW.out hn4);have nw:=aa mK;have HR5:=aa PR;clear mK xJ hn4 PR lU;go_wp2_with fail
 refine bodyPost_ret (v:=.agg #[.int .u64 (2 ^ n),.func (.func 179) #[] #[.pointer (some ⟨w3.heap.size,0,none⟩)],.func (.func 181) #[] #[.pointer (some ⟨w2.heap.size+1+1,0,none⟩)]]) (by simp[results,Tryz.results140,go_sem, *]) rfl ?_;refine ⟨ρ,2 ^ n,et,er,by simp[rdv,hρ3,hρ4],?_,ai.out.1.other (λj o ho hne=>?_),ai.out.2⟩
 ·have kD:Below w.heap.size W w4:=⟨nw.out.os,nw.out.tape,nw.out.output,nw.out.size,λj hj=>nw.out.keep j (.inl hj)⟩;exact (((uw.out.trans kD).setCell (Nat.le_refl _) _).setCell (Nat.le_refl _) _).setCell (Nat.le_refl _) _
 ·have hj:j≠w.heap.size:=by rintro rfl;rw[HR5.out]at ho;cases ho;exact hne _ _ rfl
  rw[Below.heap_setCell _ _ _ _ (by exact hj),Below.heap_setCell _ _ _ _ (by exact hj),Below.heap_setCell _ _ _ _ (by exact hj)];exact ho
end Go.Proofs.YtgncgdkpkkdaeaaGreatDoor
