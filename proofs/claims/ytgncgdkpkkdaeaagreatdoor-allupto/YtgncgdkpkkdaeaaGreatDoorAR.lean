import Derived.Test.YtgncgdkpkkdaeaaGreatDoorAQ
import Derived.RangeFuncNested
import Derived.Test.YtgncgdkpkkdaeaaGreatDoorAK
import Derived.Lib.BufferMore
set_option maxRecDepth 20000
set_option maxHeartbeats 2000000
namespace Go.Proofs.YtgncgdkpkkdaeaaGreatDoor
open Go.RowKit bu Go.Maps
variable {a root:aP} {ns:List (Nd Value)} {ts us:List D} {T:List UInt8} {B L N cap en eG g i j k l n0 p p' s st:Nat} {O X Y Z:Nat->Prop} {nd:Nd Value} {ρ:Rd} {W w w' wr:World}
def yX(ρ:Rd)(st:Nat)(ρb:Rd)(sb:Nat):Value:=.agg #[.int .u64 st,.func (.func 179) #[] #[.pointer (some ⟨ρ.av,0,none⟩)],.func (.func 181) #[] #[.pointer (some ⟨ρ.ev,0,none⟩)],.int .u64 sb,.func (.func 179) #[] #[.pointer (some ⟨ρb.av,0,none⟩)],.func (.func 181) #[] #[.pointer (some ⟨ρb.ev,0,none⟩)]]
def aM(Y:Nat->Prop)(w w':World):Prop:=Fx (λk=>k<w.heap.size/\¬Y k) w w'
theorem aM.refl(Y:Nat->Prop)(w:World):aM Y w w:=Fx.refl _ _
theorem aM.trans{a b c:World}(h:aM Y a b)(k:aM Y b c):aM Y a c:=
 ⟨k.os.trans h.os,k.tape.trans h.tape,k.output.trans h.output,bJ h.size k.size,λi hi=>(k.keep i ⟨dw hi.1 h.size,hi.2⟩).trans (h.keep i hi),λi x t ht hh=>k.stay i x t ht (h.stay i x t ht hh)⟩
theorem aM.sub(h:aM Y w w')(hs:∀k,k<w.heap.size->Y k->Z k):aM Z w w':=Fx.sub h λk hk=>⟨hk.1,λhy=>hk.2 (hs k hk.1 hy)⟩
theorem aM.same(h:aM Y w w'){o:Obj}(hk:w.heap[k]?=some o)(hy:¬Y k):w'.heap[k]?=some o:=(h.keep k ⟨ae hk,hy⟩).trans hk
theorem aM.ay(h:Below w.heap.size w w'):aM Y w w':=Fx.ay (λ_ hk=>hk.1) h
theorem aM.putObj{r:Loop}(o:Obj)(hl:w.heap[l]?=some (.loop r))(hy:Y l):aM Y w (w.putObj l o):=
 ⟨rfl,rfl,rfl,by simp,λk hk=>World.putObj_heap_other (λe=>hk.2 (e▸hy)),λk c t _ hh=>(World.putObj_heap_other (λe=>by rw[e,hl]at hh;cases hh)).trans hh⟩
theorem aM.setCell{p:Addr}{c:Array Value}{t:TypeId}{fz:Nat×Nat}(hp:Y p.block)(hb:w.heap[p.block]?=some (.cells c t fz))(ht:jK t=false)(u:Value):aM Y w (w.setCell p u):=
 (Fx.refl _ _).setCell (λhk=>hk.2 hp) hb ht u
theorem Full.off(h:Full w X ρ n0 root ts en)(ho:aM X w w'):Full w' X ρ n0 root ts en:=by
 obtain ⟨⟨ns,cM,hD⟩,hs,hK,m,f,ks,hm,h1,h2,h3,h4⟩:=h;have hk:∀(k:Nat) o,¬X k->w.heap[k]?=some o->w'.heap[k]?=some o:=λk o hx hh=>ho.same hh hx
 have hst:bN w w':=Fx.dg ho;obtain ⟨pv,hN,hv⟩:=hD.vW
 refine ⟨⟨ns,cM,hD.shelf.keep hst (λk o XY ho _=>hk k o (λhx=>XY (.inl (.inl hx))) ho) (λ_ h=>.inl h),⟨pv,⟨hk _ _ (λhx=>hD.nX.2.1 (.inl hx)) hN.var,hN.row.iY λk hb=>?_,?_,hN.nodup,hN.small⟩,hv⟩,hk _ _ (λhx=>hD.nX.2.2 (.inl hx)) hD.ev,hD.nX,hD.kh.mono λd k hh=>aU.world hst hh,hD.met,hD.bits,hD.sz,hD.leaves⟩,hs.fx ho,hK,m,f,ks,hm.keep (ho.keep _ ⟨hm.lt,hK⟩),h1,h2,h3,h4⟩
 ·obtain ⟨c,hcc⟩:=hN.row.block hb;rw[hcc];exact hk _ _ (λhx=>hv k hb (.inl hx)) hcc
 ·obtain ⟨m,f,hm,h1,h2⟩:=hN.map;exact ⟨m,f,hm.keep (ho.keep _ ⟨hm.lt,λhx=>hD.nX.1 (.inl hx)⟩),h1,h2⟩
theorem Full.zg(h:Full w X ρ n0 root ts en)(hZ:∀k,Z k->X k∨w.heap.size<=k):Full w Z ρ n0 root ts en:=by
 obtain ⟨⟨ns,cM,hD⟩,hs,hK,m,f,ks,hm,h1⟩:=h;have hno:∀(k:Nat) o,w.heap[k]?=some o->¬X k->¬Z k:=λk o hh hx hz=>(hZ k hz).elim hx (λh=>by have:=ae hh;omega)
 have hKl:=hm.lt;have hnK:¬Z ρ.K:=λhz=>(hZ _ hz).elim hK (λh=>by omega)
 have Wp:∀(k:Nat) o,w.heap[k]?=some o->¬EL X ρ k->¬EL Z ρ k:=λk o hh hx hz=>by
  rcases hz with hz|hz
  ·exact hno k o hh (λh=>hx (.inl h)) hz
  ·exact hx (.inr hz)
 obtain ⟨pv,hN,hv⟩:=hD.vW;obtain ⟨mM,fM,hmM,_⟩:=hN.map;obtain ⟨es,lQ,ID⟩:=hmM.obj;refine ⟨⟨ns,cM,hD.shelf.keep (bN.refl _) (λ_ _ _ h _=>h) (λk hk=>?_),⟨pv,hN,λk hk=>?_⟩,hD.ev,⟨Wp _ _ ID hD.nX.1,Wp _ _ hN.var hD.nX.2.1,Wp _ _ hD.ev hD.nX.2.2⟩,hD.kh,hD.met,hD.bits,hD.sz,hD.leaves⟩,hs,hnK,m,f,ks,hm,h1⟩
 ·rcases hk with (hk|hk)|hk
  ·rcases hZ k hk with h|h
   ·exact .inl (.inl (.inl h))
   ·exact .inr λo ho=>absurd (ae ho) (by omega)
  ·exact .inl (.inl (.inr hk))
  ·exact .inl (.inr hk)
 ·obtain ⟨c,hcc⟩:=hN.row.block hk;exact Wp _ _ hcc (hv k hk)
def O7(O:Nat->Prop)(w:World):Nat->Prop:=λk=>k<w.heap.size/\¬O k
def grow(O:Nat->Prop)(w w':World):Nat->Prop:=λk=>O k∨(w.heap.size<=k/\k<w'.heap.size)
structure qQ(w:World)(O:Nat->Prop)(a:aP)(ρ:Rd)(st:Nat):Prop where
 old:∀k,O k->k<w.heap.size
 tab:¬O 1/\1 < w.heap.size
 full:∃n0 ts en,Full w (O7 O w) ρ n0 a ts en/\oM ts st/\∀u,di ts st u<->Mt a.re u
theorem IV(O:Nat->Prop)(w:World):iG (O7 O w) w:=λ_ hk=>hk.1
theorem aM.O8(h:Fx (O7 O w) w w'):aM O w w':=h
theorem qQ.off(h:qQ w O a ρ st)(ho:aM Y w w')(hd:∀k,O k->¬Y k):qQ w' O a ρ st:=by
 obtain ⟨n0,ts,en,hF,hi,hl⟩:=h.full
 have hw:Full w (O7 O w') ρ n0 a ts en:=hF.zg λk hk=>by
  rcases ed k w.heap.size with hlt|kO
  ·exact .inl ⟨hlt,hk.2⟩
  ·exact .inr kO
 exact ⟨λk hk=>dw (h.old k hk) ho.size,⟨h.tab.1,dw h.tab.2 ho.size⟩,n0,ts,en,hw.off (ho.sub λk hk hy=>⟨dw hk ho.size,λh=>hd k h hy⟩),hi,hl⟩
theorem qQ.grown(h:qQ w O a ρ st)(hF:Fx (O7 O w) w w')(oN:Full w' (O7 O w) ρ n0 a (ts++us) en)(hi:oM ts st)(hl:∀u,di ts st u<->Mt a.re u):qQ w' (grow O w w') a ρ st:=by
 refine ⟨λk hk=>hk.elim (λh1=>dw (h.old k h1) hF.size) (λh=>h.2),⟨λhk=>hk.elim h.tab.1 (λh1=>by have:=h.tab.2;omega),dw h.tab.2 hF.size⟩,n0,ts++us,en,oN.zg λk hk=>?_,hi.append,λu=>(di.append hi u).trans (hl u)⟩;refine .inl ⟨?_,λh=>hk.2 (.inl h)⟩;rcases ed k w.heap.size with hlt|kO
 ·exact hlt
 ·exact absurd (.inr ⟨kO,hk.1⟩) hk.2
def mU(X:Nat->Prop)(ρ:Rd)(n0:Nat)(root:aP)(ts:List D)(T:List UInt8)(s:Nat)(w:World)(e:Ending)(w':World):Prop:=
 ∃(stop:Nat) (us:List D) (eG:Nat),e=.returned (.int .i64 stop)/\Fx X w w'/\Full w' X ρ n0 root (ts++us) eG/\s<=stop/\stop<=T.length/\(stop=s∨Mt root.re (jv T s stop))/\∀j,stop<j->j<=T.length->¬Mt root.re (jv T s j)
def DI(X:Nat->Prop)(ρ:Rd)(n0:Nat)(root:aP)(ts:List D)(T:List UInt8)(s:Nat)(w:World)(k:Nat)(stop left at_:Value)(wr:World):Prop:=
 ∃(p L i:Nat) (us:List D) (eG:Nat),stop=.int .i64 p/\left=.int .u64 L/\at_=.int .i64 i/\i+k=T.length/\s<=i/\Fx X w wr/\Full wr X ρ n0 root (ts++us) eG/\oM (ts++us) L/\(∀u,di (ts++us) L u<->Mt root.re (jv T s i++u)) /\
  s<=p/\p<=i/\(p=s∨Mt root.re (jv T s p))/\∀j,p<j->j<i->¬Mt root.re (jv T s j)
theorem zh{wO:List D}{R:Nat}{b:UInt8}{w3:World}(hk:i+(k+1)=T.length)(hs:s<=i)(hF:Fx X w wr)(hl:∀u,di (ts++us) L u<->Mt root.re (jv T s i++u))(hp:s<=p)(AK:p<=i)(hm:p=s∨Mt root.re (jv T s p))(hn:∀j,p<j->j<i->¬Mt root.re (jv T s j))
  (hx:(di (ts++us) L []->p'=i)/\(¬di (ts++us) L []->p'=p)) (hb:T[i]?=some b) (dJ:Fx X wr w3) (oN:Full w3 X ρ n0 root (ts++us++wO) eG) (hR:oM (ts++us++wO) R) (hRl:∀u,di (ts++us++wO) R u<->di (ts++us) L (b::u)):
  DI X ρ n0 root ts T s w k (.int .i64 p') (.int .u64 R) (.int .i64 ((i+1:Nat):Int)) w3:=by
 have e1:∀u,jv T s (i+1)++u=jv T s i++b::u:=λu=>by rw[je T hs (Nat.le_succ i),AJ T hb];simp
 have e0:di (ts++us) L []<->Mt root.re (jv T s i):=by rw[hl];simp
 rw[fP]at oN hR hRl;refine ⟨p',R,i+1,us++wO,eG,rfl,rfl,rfl,by omega,by omega,hF.trans dJ,oN,hR,λu=>?_,?_⟩
 ·rw[hRl,hl,e1]
 ·by_cases hc:di (ts++us) L []
  ·have hx:=hx.1 hc;subst hx;exact ⟨hs,by omega,.inr (e0.1 hc),λj h1 h2=>by omega⟩
  ·have hx:=hx.2 hc;subst hx;refine ⟨hp,by omega,hm,λj h1 h2=>?_⟩;rcases ed j i with h|h
   ·exact hn j h1 h
   ·have:j=i:=by omega
    subst this;exact λh=>hc (e0.2 h)
theorem wR(hk:i+k=T.length)(hs:s<=i)(hF:Fx X w wr)(oN:Full wr X ρ n0 root (ts++us) eG)(hl:∀u,di (ts++us) L u<->Mt root.re (jv T s i++u))(hp:s<=p)(AK:p<=i)(hm:p=s∨Mt root.re (jv T s p))(hn:∀j,p<j->j<i->¬Mt root.re (jv T s j))
  (hx:(di (ts++us) L []->p'=i)/\(¬di (ts++us) L []->p'=p)) (hend:L=0∨i=T.length):mU X ρ n0 root ts T s w (.returned (.int .i64 p')) wr:=by
 have e0:di (ts++us) L []<->Mt root.re (jv T s i):=by rw[hl];simp
 have EH:∀j,i<j->j<=T.length->¬Mt root.re (jv T s j):=λj h1 h2 h3=>by
  rcases hend with rfl|rfl
  ·rw[je T hs (Nat.le_of_lt h1),<-hl]at h3;obtain ⟨m,t,h4,_⟩:=h3;simp at h4
  ·omega
 refine ⟨p',us,eG,rfl,hF,oN,?_⟩;by_cases hc:di (ts++us) L []
 ·have hx:=hx.1 hc;subst hx;exact ⟨hs,by omega,.inr (e0.1 hc),EH⟩
 ·have hx:=hx.2 hc;subst hx;refine ⟨hp,by omega,hm,λj h1 h2=>?_⟩;rcases Nat.lt_trichotomy j i with h|h|h
  ·exact hn j h1 h
  ·subst h;exact λh=>hc (e0.2 h)
  ·exact EH j h h2
theorem mU.below{w0:World}{e:Ending}(h:mU X ρ n0 root ts T s w0 e wr)(hX:iG X w)(hb:Below w.heap.size w w0):mU X ρ n0 root ts T s w e wr:=by obtain ⟨stop,us,eG,h1,h2,h3⟩:=h;exact ⟨stop,us,eG,h1,(Fx.ay hX hb).trans h2,h3⟩
theorem DJ(X:Nat->Prop)(ρ:Rd)(n0:Nat)(root:aP)(ts:List D)(en:Nat)(st:Nat)(ρb:Rd)(sb:Nat)(text:ByteArray)(s:Nat)(w:World)(hX:iG X w)(h0:X 1)(hT:lC w)(hF:Full w X ρ n0 root ts en)(hi:oM ts st)(hl:∀u,di ts st u<->Mt root.re u)(hs:s<=text.size)(hsz:text.size<=maxLen):
  Calls Tryz.prog 129 #[yX ρ st ρb sb,.string text,.int .i64 s] w (mU X ρ n0 root ts text.data.toList s w):=by
 have hb:Below w.heap.size w (w.alloc (.cells #[.int .u64 st,.func (.func 179) #[] #[.pointer (some ⟨ρ.av,0,none⟩)],.func (.func 181) #[] #[.pointer (some ⟨ρ.ev,0,none⟩)],.int .u64 sb,.func (.func 179) #[] #[.pointer (some ⟨ρb.av,0,none⟩)],.func (.func 181) #[] #[.pointer (some ⟨ρb.ev,0,none⟩)]] 194)):=cq _ _
 have HB:=aa hb
 have HO:=aa (ag w (.cells #[.int .u64 st,.func (.func 179) #[] #[.pointer (some ⟨ρ.av,0,none⟩)],.func (.func 181) #[] #[.pointer (some ⟨ρ.ev,0,none⟩)],.int .u64 sb,.func (.func 179) #[] #[.pointer (some ⟨ρb.av,0,none⟩)],.func (.func 181) #[] #[.pointer (some ⟨ρb.ev,0,none⟩)]] 194))
 have HX:=aa hX;have rz:=aa (hX.mono hb.size);have H0:=aa h0;have HT:=aa (hT.keep (hb.block 1 (hX 1 h0)));have HF:=aa (hF.below hb);have HI:=aa hi;have HL:=aa hl;clear hX h0 hT hF hi hl hb;unfold yX;go_enter Tryz.func129,Tryz.ntmps129;go_wp2_with fail
 generalize hW:w.alloc (.cells #[.int .u64 st,.func (.func 179) #[] #[.pointer (some ⟨ρ.av,0,none⟩)],.func (.func 181) #[] #[.pointer (some ⟨ρ.ev,0,none⟩)],.int .u64 sb,.func (.func 179) #[] #[.pointer (some ⟨ρb.av,0,none⟩)],.func (.func 181) #[] #[.pointer (some ⟨ρb.ev,0,none⟩)]] 194)=w0
 rw[hW]at HB HO rz HT HF;clear hW;go_loopg [7,8,9] (text.size - s) (λk stop left at_ wr=>DI X ρ n0 root ts text.data.toList s w0 k stop left at_ wr)
 case atStart=>exact ⟨s,st,s,[],en,rfl,rfl,rfl,by rw[aj];omega,bc _,Fx.refl _ _,by simpa using HF.out,by simpa using HI.out,by simpa [gu] using HL.out,bc _,bc _,.inl rfl,λj h1 h2=>by omega⟩
 case round=>
  obtain ⟨p,L,i,us,eG,rfl,rfl,rfl,hk,hsi,ou,oN,hL,hl,hp,AK,hm,hn⟩:=hrel;have Sy:=ou.stay _ _ _ (by decide) HO.out;have r1:wr.cell? ⟨w.heap.size,1,none⟩=some (.func (.func 179) #[] #[.pointer (some ⟨ρ.av,0,none⟩)]):=by simp[World.cell?,Sy]
  have r2:wr.cell? ⟨w.heap.size,2,none⟩=some (.func (.func 181) #[] #[.pointer (some ⟨ρ.ev,0,none⟩)]):=by simp[World.cell?,Sy]
  have fO:L=0->¬di (ts++us) L []:=by rintro rfl ⟨m,t,h4,_⟩;simp at h4
  by_cases hL0:L=0
  ·have aq:=aa ((wR hk hsi ou oN hl hp AK hm hn (p':=p) ⟨λh=>absurd h (fO hL0),λ_=>rfl⟩ (.inl hL0)).below HX.out HB.out);subst hL0;clear ou oN hL hl hp AK hm hn Sy;go_wp2_with fail;go_ret;exact aq.out
  ·have adS:((L:Int)==0)=false:=by rw[er];omega
   have py:=aa (zb X ρ n0 root (ts++us) eG L wr oN hL);have hk':i<=text.size:=by rw[aj]at hk;omega
   have HK:=aa hk;have EE:=aa ou;have O9:=aa oN;have Dz:=aa hL;have Hl:=aa hl;have Hp:=aa hp;have Ye:=aa AK;have Hm:=aa hm;have Hn:=aa hn;clear ou oN hL hl hp AK hm hn Sy hk fO;go_wp2_with fail;refine py.out.mono ?_;rintro e w1 ⟨x,rfl,rfl,hx⟩
   cases x with
   | true=>
    by_cases hat:i=text.size
    ·have aq:=aa ((wR HK.out hsi EE.out O9.out Hl.out Hp.out Ye.out Hm.out Hn.out (p':=i) ⟨λ_=>rfl,λh=>absurd (hx.1 rfl) h⟩ (.inr (by rw[aj];exact hat))).below HX.out HB.out);have hat':((i:Int)==(text.size:Int))=true:=by rw[beq_iff_eq];omega
     clear py HK EE O9 Dz Hl Hp Ye Hm Hn hx hat;go_wp2_with fail;go_ret;exact aq.out
    ·have hlt:i<text.size:=by omega
     have hat':((i:Int)==(text.size:Int))=false:=by rw[er];omega
     have yv:i+1<=9223372036854775807:=by unfold maxLen at hsz;omega
     have Mi:=aa (nR X ρ n0 root (ts++us) eG L text[i] w1.drew (rz.out.fx EE.out.drew) H0.out (HT.out.keep (EE.out.drew.keep 1 H0.out)) (O9.out.below (Below.refl _ _).drew) Dz.out);have WG:=aa (qI hlt);have HXX:=aa (hx.1 rfl);clear py hx hat;go_wp2_with fail
     go_region_with (first
      | (go_at_call 179;refine Mi.out.mono ?_;rintro e3 w3 ⟨R,wO,Ug,rfl,dJ,mQ,CG,yn⟩;obtain ⟨k',hk3⟩:∃k',gk=k'+1:=⟨gk - 1,by have:=HK.out;rw[aj]at this;omega⟩;have HST:=aa (zh (hk3▸HK.out) hsi EE.out Hl.out Hp.out Ye.out Hm.out Hn.out (p':=i) ⟨λ_=>rfl,λh=>absurd HXX.out h⟩ WG.out dJ.iz mQ CG yn);clear dJ mQ CG yn))
     all_goals
      go_wp2_with fail;go_roundg k'
      case measure=>omega
      case rel=>exact HST.out
   | false=>
    by_cases hat:i=text.size
    ·have aq:=aa ((wR HK.out hsi EE.out O9.out Hl.out Hp.out Ye.out Hm.out Hn.out (p':=p) ⟨λh=>absurd (hx.2 h) (by simp),λ_=>rfl⟩ (.inr (by rw[aj];exact hat))).below HX.out HB.out);have hat':((i:Int)==(text.size:Int))=true:=by rw[beq_iff_eq];omega
     clear py HK EE O9 Dz Hl Hp Ye Hm Hn hx hat;go_wp2_with fail;go_ret;exact aq.out
    ·have hlt:i<text.size:=by omega
     have hat':((i:Int)==(text.size:Int))=false:=by rw[er];omega
     have yv:i+1<=9223372036854775807:=by unfold maxLen at hsz;omega
     have Mi:=aa (nR X ρ n0 root (ts++us) eG L text[i] w1.drew (rz.out.fx EE.out.drew) H0.out (HT.out.keep (EE.out.drew.keep 1 H0.out)) (O9.out.below (Below.refl _ _).drew) Dz.out);have WG:=aa (qI hlt);have HXX:=aa (show ¬di (ts++us) L [] from λh=>by simpa using hx.2 h);clear py hx hat;go_wp2_with fail
     go_region_with (first
      | (go_at_call 179;refine Mi.out.mono ?_;rintro e3 w3 ⟨R,wO,Ug,rfl,dJ,mQ,CG,yn⟩;obtain ⟨k',hk3⟩:∃k',gk=k'+1:=⟨gk - 1,by have:=HK.out;rw[aj]at this;omega⟩;have HST:=aa (zh (hk3▸HK.out) hsi EE.out Hl.out Hp.out Ye.out Hm.out Hn.out (p':=p) ⟨λh=>absurd h HXX.out,λ_=>rfl⟩ WG.out dJ.iz mQ CG yn);clear dJ mQ CG yn))
     all_goals
      go_wp2_with fail;go_roundg k'
      case measure=>omega
      case rel=>exact HST.out
def zi(ns:List (Nd Value))(w:World)(e:Ending)(w':World):Prop:=∃sv',e=.returned sv'/\Below w.heap.size w w'/\bm w' w.heap.size sv' ns
theorem Sz(h:∀nd∈ns,Form nd.has):∀u∈bR ns,u.oneCell'=true:=by
 intro u hu;obtain ⟨nd,h1,h2⟩:=List.mem_flatMap.1 hu;simp only[fI,List.mem_cons,List.not_mem_nil,or_false]at h2;rcases h2 with rfl|rfl|rfl|rfl|rfl
 ·rfl
 ·exact (h nd h1).one
 ·rfl
 ·rfl
 ·rfl
theorem Below.grownBy'{v:Value}(h:w.grownBy w' v.ownBlock)(hB:B<=w.heap.size)(hv:∀k,v.ownBlock=some k->B<=k):Below B w w':=
 ⟨h.os,h.tape,h.output,h.size,λk hk=>h.block k (by omega) (λe=>by have:=hv k e.symm;omega)⟩
theorem not_nil(a:Addr)(n c:Nat)(w:World):(binOp BinOp.eql 182 (Value.slice (some a) n c) (Value.slice none 0 0)).run Tryz.prog w=.ok (.bool false) w:=by exact Lib.run_eql_slice_some_nil w _ _ _ Tryz.underlying182
theorem zj(sv:Value)(ns:List (Nd Value))(w:World)(hL:bm w 0 sv ns)(h0:0<ns.length)(hn:ns.length<=200):
  Calls Tryz.prog 173 #[sv] w (zi ns w):=by
 obtain ⟨g,cap,rfl⟩:=aB hL.1 h0;obtain ⟨i0,hi,hz0,hz1,hz3⟩:=info_parts rM;have HL:=aa hL;have sY:=not_nil ⟨g,0,none⟩ ns.length cap w;clear hL;go_enter Tryz.func173,Tryz.ntmps173
 have HO:=aa (show bm (w.alloc (.cells #[] 292)) w.heap.size (.slice (some ⟨w.heap.size,0,none⟩) 0 0) [] from ⟨⟨rfl,.inr ⟨w.heap.size,0,#[],rfl,bc _,ag _ _,bc _,by unfold maxLen;omega,rfl,rfl⟩⟩,by simp⟩)
 have HC:=aa (λ(j:Nat) u (h:(bR ns)[j]?=some u)=>show (w.alloc (.cells #[] 292)).cell? ((⟨g,0,none⟩:Addr).add j)=some u from aw (HL.out.1.cells rfl j u h) _)
 go_wp2_with (at_builtin;go_loud (refine wpList_append_own_at _ rfl (.tmp 5) (.tmp 6) 182 rfl w.heap.size 292 i0 (.agg #[.int .i64 0,.nilFunc,.int .i64 0,.int .i64 0,.bool false]) 5 40 Tryz.underlying182 hi hz0 hz1 hz3 rfl (by decide) (.slice (some ⟨w.heap.size,0,none⟩) 0 0) 0 [] (by rfl) (by exact HO.out.1) ⟨g,0,none⟩ ns.length cap (bR ns) (by rfl) (by exact mB ns) HC.out (Sz HL.out.2) (by unfold maxLen;omega) (by omega) (by simp) ?_;intro v' w2 hown hgr _ _;rw[List.nil_append,Nat.zero_add]at hown;have HP:=aa (show zi ns w (.returned v') w2 from ⟨v',rfl,(cq _ _).trans (Below.grownBy' hgr (by simp) (λk hk=>by cases hk;exact bc _)),hown,HL.out.2⟩);obtain ⟨g',cap',rfl⟩:=aB hown (by omega);clear hown hgr))
 go_ret;exact HP.out
def swp(nd:Nd Value):Nd Value:=if nd.kind=2 then ⟨nd.kind,nd.has,nd.right,nd.left,nd.empty⟩ else nd
theorem DK(ns:List (Nd Value))(j l r:Nat)(nd:Nd Value)(h:ns[j]?=some nd):bR (ns.set j ⟨nd.kind,nd.has,l,r,nd.empty⟩)=((bR ns).set (j*5+2) (.int .i64 l)).set (j*5+3) (.int .i64 r):=by
 induction ns generalizing j with
 | nil=>simp at h
 | cons x xs ih=>
  cases j with
  | zero=>
   simp at h;subst h;simp[bR,fI]
  | succ j=>
   simp only[List.getElem?_cons_succ]at h;have e1:(j+1)*5+2=(j*5+2)+1+1+1+1+1:=by omega
   have e2:(j+1)*5+3=(j*5+3)+1+1+1+1+1:=by omega
   have ih:=ih j h;simp only[bR]at ih;rw[e1,e2];simp only[List.set_cons_succ,bR,List.flatMap_cons,fI,List.cons_append,List.nil_append];rw[ih]
theorem KW{r:Nat}(h:bm w B (.slice (some ⟨g,0,none⟩) ns.length cap) ns)(hj:ns[j]?=some nd):
  bm ((w.setCell ⟨g,j*5+2,none⟩ (.int .i64 l)).setCell ⟨g,j*5+3,none⟩ (.int .i64 r)) B (.slice (some ⟨g,0,none⟩) ns.length cap) (ns.set j ⟨nd.kind,nd.has,l,r,nd.empty⟩):=by
 obtain ⟨⟨h1,h2⟩,h3⟩:=h;have rE:=az hj;rcases h2 with ⟨h2,_⟩|⟨g',cap',cur,e,hB,hh,a1,a2,a3,a4⟩
 ·cases h2
 ·cases e;have e1:=ah w g (j*5+2) (.int .i64 l) hh;have e2:=ah (w.setCell ⟨g,j*5+2,none⟩ (.int .i64 l)) g (j*5+3) (.int .i64 r) e1;refine ⟨⟨by rw[mB,List.length_set],.inr ⟨g,cap,_,by rw[List.length_set],hB,e2,by rw[List.length_set];exact a1,a2,by simpa using a3,?_⟩⟩,?_⟩
  ·rw[List.length_set,DK ns j l r nd hj,<-a4];simp only[Array.toList_setIfInBounds,List.take_set]
  ·intro x hx;rcases List.mem_or_eq_of_mem_set hx with hx|rfl
   ·exact h3 x hx
   ·exact h3 nd (bn hj)
def half(ns:List (Nd Value))(j:Nat):List (Nd Value):=(ns.take j).map swp++ns.drop j
theorem mV(ns:List (Nd Value))(h:j<=ns.length):(half ns j).length=ns.length:=by simp[half];omega
theorem Pa(ns:List (Nd Value))(j:Nat)(h:j<=ns.length):(half ns j)[j]?=ns[j]?:=by unfold half;rw[pS (by simp;omega)];simp;congr 1;omega
theorem KX(ns:List (Nd Value))(h:ns[j]?=some nd):(half ns j).set j (swp nd)=half ns (j+1):=by
 have hl:=az h;rw[cB hl]at h;unfold half;rw[List.set_append_right _ _ (by simp;omega),List.take_succ_eq_append_getElem hl,List.drop_eq_getElem_cons hl,Option.some.inj h];have e:j - (List.map swp (List.take j ns)).length=0:=by simp;omega
 rw[e];simp
def IW(ns:List (Nd Value))(w:World)(e:Ending)(w':World):Prop:=∃sv',e=.returned sv'/\Below w.heap.size w w'/\bm w' w.heap.size sv' (ns.map swp)
def Bf(ns:List (Nd Value))(B g cap:Nat)(w:World)(k:Nat)(i:Value)(wr:World):Prop:=
 ∃j:Nat,i=.int .i64 j/\j+k=ns.length/\Below B w wr/\bm wr B (.slice (some ⟨g,0,none⟩) ns.length cap) (half ns j)
theorem DL(hk:j+(k+1)=ns.length)(hnd:ns[j]?=some nd)(hb:Below B w wr)(hb2:Below B wr w')(hL:bm w' B (.slice (some ⟨g,0,none⟩) ns.length cap) ((half ns j).set j (swp nd))):
  Bf ns B g cap w k (.int .i64 ((j+1:Nat):Int)) w':=by
 rw[KX ns hnd]at hL;exact ⟨j+1,rfl,by omega,hb.trans hb2,hL⟩
theorem Bg(sv:Value)(ns:List (Nd Value))(w:World)(hL:bm w 0 sv ns)(h0:0<ns.length)(hn:ns.length<=200):
  Calls Tryz.prog 141 #[sv] w (IW ns w):=by
 have HC:=aa (zj sv ns w hL h0 hn);obtain ⟨g0,adT,rfl⟩:=aB hL.1 h0;clear hL;go_enter Tryz.func141,Tryz.ntmps141;go_wp2_with fail;refine HC.out.mono ?_;rintro e w1 ⟨sv',rfl,fu,Gj⟩;obtain ⟨g,cap,rfl⟩:=aB Gj.1 h0;have bM:=aa fu;have rN:=aa Gj;clear fu Gj HC;go_wp2_with fail
 go_loopg [10] ns.length (λk i wr=>Bf ns w.heap.size g cap w k i wr)
 case atStart=>exact ⟨0,by simp,by simp,bM.out,by simpa [half] using rN.out⟩
 case round=>
  obtain ⟨j,rfl,hk,hb,hl⟩:=hrel;by_cases hlt:j<ns.length
  ·obtain ⟨nd,hnd⟩:∃nd,ns[j]?=some nd:=⟨ns[j],cB hlt⟩;have Pb:=Pa ns j (by omega);rw[hnd]at Pb;obtain ⟨g',cap',e',m0,m1,m2,m3,m4⟩:=hl.at Pb;rw[mV ns (by omega)]at e';cases e';have nG:=hl.2 nd (bn Pb);have hst:=eW nG;have Yf:=aa hb;have Dz:=aa hl;have Mh:=aa hnd;have KY:=aa Pb;clear hb hl hnd Pb
   obtain ⟨k,hv,l,r,em⟩:=nd;by_cases hk2:k=2
   ·subst hk2;go_wp2_with fail;obtain ⟨W,hW⟩:∃W,W=wr.alloc (.cells #[.int .i64 2,hv,.int .i64 l,.int .i64 r,.bool em] 292):=⟨_,rfl⟩;have kf:Below wr.heap.size wr W:=hW▸cq _ _;have hEW:W.heap[wr.heap.size]?=some (.cells #[.int .i64 2,hv,.int .i64 l,.int .i64 r,.bool em] 292 (0,0)):=hW▸ag _ _;rw[<-hW]
    clear hW;have Pc:=Dz.out.keep (λk hk=>kf.block k (ae (Dz.out.block hk).2.choose_spec));obtain ⟨gB,cur,iu⟩:=Pc.block (k:=g) rfl;obtain ⟨g',cap',e',n0,n1,n2,n3,n4⟩:=Pc.at KY.out;rw[mV ns (by omega)]at e';cases e';have z2:W.frozen? ⟨g,j*5+2,none⟩=false:=by simp[World.frozen?,iu]
    have z3:W.frozen? ⟨g,j*5+3,none⟩=false:=by simp[World.frozen?,iu]
    have y2:W.cell? ⟨wr.heap.size,2,none⟩=some (.int .i64 l):=by simp[World.cell?,hEW]
    have y3:W.cell? ⟨wr.heap.size,3,none⟩=some (.int .i64 r):=by simp[World.cell?,hEW]
    have F6:g<wr.heap.size:=ae (Dz.out.block (k:=g) rfl).2.choose_spec;have hne:∀off v,(W.setCell ⟨g,off,none⟩ v).heap[wr.heap.size]?=W.heap[wr.heap.size]?:=λoff v=>eV _ _ _ _ (by show wr.heap.size≠g;omega)
    have y2':∀off v,(W.setCell ⟨g,off,none⟩ v).cell? ⟨wr.heap.size,2,none⟩=some (.int .i64 l):=λoff v=>by simp[World.cell?,hne,hEW]
    have y3':∀off v,(W.setCell ⟨g,off,none⟩ v).cell? ⟨wr.heap.size,3,none⟩=some (.int .i64 r):=λoff v=>by simp[World.cell?,hne,hEW]
    have vu:=aa kf;have HLW:=aa Pc;clear hne kf hEW Pc iu n0 n1 n4 m0 m1 m2 m3 m4 hst nG;have hgB:w.heap.size<=g:=gB;obtain ⟨k',rfl⟩:∃k',gk=k'+1:=⟨gk - 1,by omega⟩
    have HST:=aa (show Bf ns w.heap.size g cap w k' (.int .i64 ((j+1:Nat):Int)) ((W.setCell ⟨g,j*5+2,none⟩ (.int .i64 r)).setCell ⟨g,j*5+3,none⟩ (.int .i64 l)).drew from
     DL (w':=((W.setCell ⟨g,j*5+2,none⟩ (.int .i64 r)).setCell ⟨g,j*5+3,none⟩ (.int .i64 l)).drew) hk Mh.out Yf.out ((((vu.out.mono Yf.out.size).setCell hgB _).setCell hgB _).drew) (by have Uj:(half ns j).length=ns.length:=mV ns (by omega);have h0:=HLW.out;rw[<-Uj]at h0;have h1:=KW (l:=r) (r:=l) h0 KY.out;rw[Uj]at h1;exact h1))
    clear Mh KY Yf Dz vu HLW;go_region;go_wp2_with fail;go_roundg k'
    case measure=>omega
    case rel=>exact HST.out
   ·have adU:((k:Int)==2)=false:=by rw[er];omega
    have dC:(half ns j).set j (swp ⟨k,hv,l,r,em⟩)=half ns j:=by
     have e1:swp ⟨k,hv,l,r,em⟩=⟨k,hv,l,r,em⟩:=by simp[swp,hk2]
     have iF:=az KY.out;have h2:=KY.out;rw[cB iF]at h2;rw[e1,<-Option.some.inj h2,List.set_getElem_self]
    have kf:Below wr.heap.size wr (wr.alloc (.cells #[.int .i64 k,hv,.int .i64 l,.int .i64 r,.bool em] 292)):=cq _ _;obtain ⟨k',rfl⟩:∃k',gk=k'+1:=⟨gk - 1,by omega⟩;have HST:=aa (DL hk Mh.out Yf.out (kf.mono Yf.out.size) (by rw[dC];exact Dz.out.keep (λk hk=>kf.block k (ae (Dz.out.block hk).2.choose_spec))))
    clear Mh KY Yf Dz dC kf hk2;go_wp2_with fail;go_roundg k'
    case measure=>omega
    case rel=>exact HST.out
  ·have hj:j=ns.length:=by omega
   have aq:=aa (show IW ns w (.returned (.slice (some ⟨g,0,none⟩) ns.length cap)) wr from ⟨_,rfl,hb,by subst hj;simpa [half,bm] using hl⟩);clear hb hl;go_wp2_with fail;go_ret;exact aq.out
def yg(w:World)(e:Ending)(w':World):Prop:=
 ∃M mv pl,e=.returned (.tuple #[.func (.func 196) #[] #[.pointer (some ⟨mv,0,none⟩),.pointer (some ⟨pl,0,none⟩)],.func (.func 197) #[] #[.pointer (some ⟨pl,0,none⟩)]])/\Below w.heap.size w w'/\w.heap.size<=M/\w.heap.size<=mv/\w.heap.size<=pl /\
  w'.heap[mv]?=some (.cells #[.map (some M)] 318 (0,0))/\kZ w' M pl (.slice none 0 0) []
theorem yh(w:World):Calls Tryz.prog 174 #[] w (yg w):=by
 have Fg:=@run_makeMap Tryz.prog;go_enter Tryz.func174,Tryz.ntmps174;go_wp2_with fail
 refine bodyPost_ret (v:=.tuple #[.func (.func 196) #[] #[.pointer (some ⟨w.heap.size+1,0,none⟩),.pointer (some ⟨w.heap.size+1+1,0,none⟩)],.func (.func 197) #[] #[.pointer (some ⟨w.heap.size+1+1,0,none⟩)]]) (by simp[results,Tryz.results174,go_sem, *]) rfl ?_;have hM:=cu.made oq 3 .i64 w
 have h1:=ag (w.alloc (.map #[] 0)) (.cells #[.map (some w.heap.size)] 318);have h2:=ag ((w.alloc (.map #[] 0)).alloc (.cells #[.map (some w.heap.size)] 318)) (.cells #[.slice none 0 0] 57);have b1:Below w.heap.size w (w.alloc (.map #[] 0)):=cq _ _
 have b2:=b1.alloc (o:=.cells #[.map (some w.heap.size)] 318) (by simp);have b3:=b2.alloc (o:=.cells #[.slice none 0 0] 57) (by simp;omega)
 refine ⟨w.heap.size,w.heap.size+1,w.heap.size+1+1,rfl,b3,bc _,by omega,by omega,af (by simpa using h1),⟨by simpa using h2,⟨by simp,.inl ⟨rfl,rfl⟩⟩,⟨0,λ_=>none,hM.keep ?_,bc _,λk c=>?_⟩,by simp,by simp⟩⟩
 ·obtain ⟨es,lQ,ho⟩:=hM.obj;rw[ho];exact af (af ho)
 ·simp
def Bh(v:Array Value)(w:World)(e:Ending)(w':World):Prop:=
 ∃K kv wk,e=.returned (.func (.func 198) #[] #[.pointer (some ⟨kv,0,none⟩),.pointer (some ⟨wk,0,none⟩)])/\Below w.heap.size w w'/\w.heap.size<=K/\w'.heap[kv]?=some (.cells #[.map (some K)] 319 (0,0)) /\
  w'.heap[wk]?=some (.cells #[.func (.func 177) #[] v] 302 (0,0))/\cu iV 188 .u64 w' K 0 (λ_=>none)
theorem Bi(v:Array Value)(w:World):Calls Tryz.prog 176 #[.func (.func 177) #[] v] w (Bh v w):=by
 have Fg:=@run_makeMap Tryz.prog;go_enter Tryz.func176,Tryz.ntmps176;go_wp2_with fail;go_ret;have hM:=cu.made iV 188 .u64 (w.alloc (.cells #[.func (.func 177) #[] v] 302))
 have h1:=ag w (.cells #[.func (.func 177) #[] v] 302);have h2:=ag ((w.alloc (.cells #[.func (.func 177) #[] v] 302)).alloc (.map #[] 0)) (.cells #[.map (some (w.heap.size+1))] 319)
 have b1:Below w.heap.size w (w.alloc (.cells #[.func (.func 177) #[] v] 302)):=cq _ _;have b2:=b1.alloc (o:=.map #[] 0) (by simp);have b3:=b2.alloc (o:=.cells #[.map (some (w.heap.size+1))] 319) (by simp;omega)
 refine ⟨w.heap.size+1,w.heap.size+1+1,w.heap.size,rfl,b3,by omega,by simpa using h2,af (af h1),?_⟩;rw[show (w.alloc (.cells #[.func (.func 177) #[] v] 302)).heap.size=w.heap.size+1 by simp]at hM;refine hM.keep ?_;obtain ⟨es,lQ,ho⟩:=hM.obj;rw[ho];exact af ho
def old(N:Nat):Nat->Prop:=λk=>k<N
theorem GG{sv1:Value}{J:Nat}(hS:W.heap[ρ.S]?=some (.cells #[sv1,.map (some J)] 298 (0,0)))(hSN:N<=ρ.S)(hL:bm W N sv1 ns)(hJ:cu pairT 3 .i64 W J 0 (λ_=>none))(hJN:N<=J)(hJM:J≠ρ.M)(hJK:J≠ρ.K)
  (hN:kZ W ρ.M ρ.pl (.slice none 0 0) []) (BZ:N<=ρ.M) (hpN:N<=ρ.pl) (hev:W.heap[ρ.ev]?=some (.cells #[.int .u64 (0:Nat)] 188 (0,0))) (heN:N<=ρ.ev) (hK:cu iV 188 .u64 W ρ.K 0 (λ_=>none)) (hMK:ρ.M≠ρ.K)
  (h0:0<ns.length) (hn:ns.length<=200) (he:ei (aH W) ns .dE) (hz:root.sz<=200) (hl:root.leaves<=60):nJ W (EL (old N) ρ) ρ ns.length root ns [] [] 0:=by
 obtain ⟨es,lQ,QO⟩:=hK.obj;obtain ⟨mM,fM,hMm,_⟩:=hN.map;obtain ⟨es',adV,ID⟩:=hMm.obj
 have hc:∀k c t fz,W.heap[k]?=some (.cells c t fz)->N<=k->¬plus (EL (old N) ρ) ρ k:=by
  rintro k c t fz hk hN ((h|rfl)|rfl|rfl)
  ·exact absurd h (by show ¬k<N;omega)
  ·rw[QO]at hk;cases hk
  ·rw[ID]at hk;cases hk
  ·rw[QO]at hk;cases hk
 have hc':∀k c t fz,W.heap[k]?=some (.cells c t fz)->N<=k->¬EL (old N) ρ k:=λk c t fz h1 h2 h3=>hc k c t fz h1 h2 (.inl h3)
 refine ⟨⟨hc _ _ _ _ hS hSN,⟨sv1,J,0,λ_=>none,hS,?_,λk hk=>?_,hJ,?_,by omega,λ_ _ _ h=>(by cases h),λj nd hj hnd=>?_⟩,h0,bc _,hn,he,λj h1 h2=>(by omega),vI root hz hl⟩,⟨.slice none 0 0,hN,λk hk=>(by cases hk)⟩,hev,⟨?_,hc' _ _ _ _ hN.var hpN,hc' _ _ _ _ hev heN⟩,.nil,λt ht=>(by simp at ht),λn=>(by simp),hz,hl⟩
 ·obtain ⟨⟨h1,h2⟩,h3⟩:=hL;refine ⟨⟨h1,?_⟩,h3⟩;rcases h2 with h2|⟨g,cap,cur,a1,a2,a3⟩
  ·exact .inl h2
  ·exact .inr ⟨g,cap,cur,a1,Nat.zero_le _,a3⟩
 ·obtain ⟨h1,cur,h2⟩:=hL.block hk;exact hc _ _ _ _ h2 h1
 ·rintro ((h|h)|h|h)
  ·exact absurd h (by show ¬J<N;omega)
  ·exact hJK h
  ·exact hJM h
  ·exact hJK h
 ·have:=az hnd;omega
 ·rintro (h|h)
  ·exact absurd h (by show ¬ρ.M<N;omega)
  ·exact hMK h
theorem Full.other(h:Full w X ρ n0 root ts en)(hk:∀(k:Nat) o,w.heap[k]?=some o->(∀c fz,o≠.cells c 192 fz)->w'.heap[k]?=some o):Full w' X ρ n0 root ts en:=by
 obtain ⟨⟨ns,cM,hD⟩,hs,hK,m,f,ks,hm,h1,h2,h3,h4⟩:=h;have hc:∀(k:Nat) c t fz,t≠192->w.heap[k]?=some (.cells c t fz)->w'.heap[k]?=some (.cells c t fz):=λk c t fz ht hh=>hk k _ hh (λc' XH e=>by cases e;exact ht rfl)
 have hmap:∀(k:Nat) es lQ,w.heap[k]?=some (.map es lQ)->w'.heap[k]?=some (.map es lQ):=λk es lQ hh=>hk k _ hh (λc' XH e=>by cases e)
 have hst:bN w w':=λk c t ht hh=>hc k c t _ (by rcases ht with rfl|rfl<;>decide) hh
 obtain ⟨pv,hN,hv⟩:=hD.vW
 refine ⟨⟨ns,cM,hD.shelf.keep hst (λk o _ ho yt=>hk k o ho (λc fz e=>?_)) (λ_ h=>.inl h),⟨pv,⟨hc _ _ _ _ (by decide) hN.var,hN.row.iY λk hk=>?_,?_,hN.nodup,hN.small⟩,hv⟩,hc _ _ _ _ (by decide) hD.ev,hD.nX,hD.kh.mono λd k hh=>aU.world hst hh,hD.met,hD.bits,hD.sz,hD.leaves⟩,⟨hc _ _ _ _ (by decide) hs.sv,hc _ _ _ _ (by decide) hs.mv,hc _ _ _ _ (by decide) hs.nv,hc _ _ _ _ (by decide) hs.xv,hc _ _ _ _ (by decide) hs.kk,hc _ _ _ _ (by decide) hs.wk,hc _ _ _ _ (by decide) hs.kv,hc _ _ _ _ (by decide) hs.av⟩,hK,m,f,ks,hm.keep ?_,h1,h2,h3,h4⟩
 ·rcases yt _ _ _ e with h|h<;>cases h
 ·obtain ⟨c,hcc⟩:=hN.row.block hk;rw[hcc];exact hc _ _ _ _ (by decide) hcc
 ·obtain ⟨m,f,hm,h1,h2⟩:=hN.map;obtain ⟨es,lQ,ho⟩:=hm.obj;exact ⟨m,f,hm.keep ((hmap _ _ _ ho).trans ho.symm),h1,h2⟩
 ·obtain ⟨es,lQ,ho⟩:=hm.obj;exact (hmap _ _ _ ho).trans ho.symm
def GH(ns:List (Nd Value))(root:aP)(w:World)(e:Ending)(w':World):Prop:=
 ∃(ρ:Rd) (st:Nat) (ts:List D) (en:Nat),e=.returned (rdv ρ st)/\Below w.heap.size w w'/\Full w' (old w.heap.size) ρ ns.length root ts en/\oM ts st/\∀u,di ts st u<->Mt root.re u
theorem GI{w4:World}{n:Nat}{eH:List D}{fF:List Nat}(hF:Fx (EL (old N) ρ) W w4)(hD:nJ w4 (EL (old N) ρ) ρ n0 root ns eH fF eG)(hs:QI W ρ)(hKN:N<=ρ.K)(hK:cu iV 188 .u64 W ρ.K 0 (λ_=>none))(hn:eH[n]?=some (.base root)):
  Full w4 (old N) ρ n0 root eH eG/\oM eH (2 ^ n)/\∀u,di eH (2 ^ n) u<->Mt root.re u:=by
 have CX:∀m,(2 ^ n).testBit m=true<->m=n:=λm=>by rw[Nat.testBit_two_pow];simp[eq_comm]
 refine ⟨⟨⟨ns,fF,hD⟩,hs.fx hF,λh=>absurd h (by show ¬ρ.K<N;omega),0,λ_=>none,[],hK.keep (hF.keep _ (.inr rfl)),bc _,List.nodup_nil,λx hx=>(by simp at hx),λ_ _ _ h=>(by cases h)⟩,λm hm=>?_,λu=>⟨?_,λh=>⟨n,_,(CX n).2 rfl,hn,h⟩⟩⟩
 ·rw[(CX m).1 hm];exact az hn
 ·rintro ⟨m,t,h1,h2,h3⟩;rw[(CX m).1 h1,hn]at h2;cases h2;exact h3
theorem four(w:World)(o1 o2 o3 o4:Obj):((((w.alloc o1).alloc o2).alloc o3).alloc o4).heap[w.heap.size]?=some o1/\((((w.alloc o1).alloc o2).alloc o3).alloc o4).heap[w.heap.size+1]?=some o2/\((((w.alloc o1).alloc o2).alloc o3).alloc o4).heap[w.heap.size+1+1]?=some o3/\((((w.alloc o1).alloc o2).alloc o3).alloc o4).heap[w.heap.size+1+1+1]?=some o4 /\
  Below w.heap.size w ((((w.alloc o1).alloc o2).alloc o3).alloc o4)/\((((w.alloc o1).alloc o2).alloc o3).alloc o4).heap.size=w.heap.size+4:=by
 have h1:=ag w o1;have h2:=ag (w.alloc o1) o2;have h3:=ag ((w.alloc o1).alloc o2) o3;have h4:=ag (((w.alloc o1).alloc o2).alloc o3) o4;rw[show (w.alloc o1).heap.size=w.heap.size+1 by simp]at h2;rw[show ((w.alloc o1).alloc o2).heap.size=w.heap.size+1+1 by simp]at h3
 rw[show (((w.alloc o1).alloc o2).alloc o3).heap.size=w.heap.size+1+1+1 by simp]at h4;exact ⟨af (af (af h1)),af (af h2),af h3,h4,(((cq _ _).alloc (by simp) _).alloc (by simp;omega) _).alloc (by simp;omega) _,by simp⟩
theorem oQ(sv:Value)(ns:List (Nd Value))(root:aP)(w:World)(hL:bm w 0 sv ns)(hr:ei (aH w) ns root)(he:ei (aH w) ns .dE)(h0:0<ns.length)(hn:ns.length<=200)(hz:root.sz<=200)(hl:root.leaves<=60)(k:Nat)(hk:k=root.ix):
  Calls Tryz.prog 140 #[sv,.int .i64 k] w (GH ns root w):=by
 have Fg:=@run_makeMap Tryz.prog;obtain ⟨g,cap,rfl⟩:=aB hL.1 h0;have hb0:Below w.heap.size w (w.alloc (.cells #[.int .u64 0,.nilFunc,.nilFunc] 192)):=cq _ _;have gZ:=aa hb0;have E6:=aa (ag w (.cells #[.int .u64 0,.nilFunc,.nilFunc] 192))
 have HC:=aa (zj (.slice (some ⟨g,0,none⟩) ns.length cap) ns (w.alloc (.cells #[.int .u64 0,.nilFunc,.nilFunc] 192)) (hL.alloc _) h0 hn);have HR:=aa hr;have HE:=aa he;have EC:=aa hk;clear hL hr he hb0 hk;go_enter Tryz.func140,Tryz.ntmps140;go_wp2_with fail
 generalize hW:w.alloc (.cells #[.int .u64 0,.nilFunc,.nilFunc] 192)=w0;rw[hW]at gZ E6 HC;have YX:w0.heap.size=w.heap.size+1:=by rw[<-hW];simp
 clear hW;refine HC.out.mono ?_;rintro e w1 ⟨sv1,rfl,fu,Gj⟩;obtain ⟨g1,oh,rfl⟩:=aB Gj.1 h0;have bM:=aa fu;have rN:=aa Gj;clear fu Gj HC;go_wp2_with fail;have hJ:=cu.made pairT 3 .i64 w1;have hSb:=ag (w1.alloc (.map #[] 0)) (.cells #[.slice (some ⟨g1,0,none⟩) ns.length oh,.map (some w1.heap.size)] 298)
 have Pd:=ag ((w1.alloc (.map #[] 0)).alloc (.cells #[.slice (some ⟨g1,0,none⟩) ns.length oh,.map (some w1.heap.size)] 298)) (.cells #[.pointer (some ⟨w1.heap.size+1,0,none⟩)] 295)
 have hb1:Below w1.heap.size w1 (((w1.alloc (.map #[] 0)).alloc (.cells #[.slice (some ⟨g1,0,none⟩) ns.length oh,.map (some w1.heap.size)] 298)).alloc (.cells #[.pointer (some ⟨w1.heap.size+1,0,none⟩)] 295)):=((cq _ _).alloc (by simp) _).alloc (by simp;omega) _
 generalize hW:((w1.alloc (.map #[] 0)).alloc (.cells #[.slice (some ⟨g1,0,none⟩) ns.length oh,.map (some w1.heap.size)] 298)).alloc (.cells #[.pointer (some ⟨w1.heap.size+1,0,none⟩)] 295)=wB at hb1 Pd
 have hJB:cu pairT 3 .i64 wB w1.heap.size 0 (λ_=>none):=by refine hJ.keep ?_;obtain ⟨es,lQ,ho⟩:=hJ.obj;rw[ho,<-hW];exact af (af ho)
 have hSB:wB.heap[w1.heap.size+1]?=some (.cells #[.slice (some ⟨g1,0,none⟩) ns.length oh,.map (some w1.heap.size)] 298 (0,0)):=by rw[<-hW];exact af (by simpa using hSb)
 have hvB:wB.heap[w1.heap.size+1+1]?=some (.cells #[.pointer (some ⟨w1.heap.size+1,0,none⟩)] 295 (0,0)):=by simpa using Pd
 have adW:wB.heap.size=w1.heap.size+3:=by rw[<-hW];simp
 clear hW hJ hSb Pd;have Ch:=aa hb1;have HJB:=aa hJB;have HSB:=aa hSB;have HVB:=aa hvB;clear hb1 hJB hSB hvB;refine (yh _).mono ?_;rintro e w2 ⟨M,mv,pl,rfl,eE,L8,C2,hM3,ZL,TU⟩;have cW:=aa eE;have XT:=aa ZL;have HM5:=aa TU;clear eE TU ZL;go_wp2_with fail
 obtain ⟨q1,q2,q3,q4,q5,q6⟩:=four w2 (.cells #[.func (.func 196) #[] #[.pointer (some ⟨mv,0,none⟩),.pointer (some ⟨pl,0,none⟩)]] 284) (.cells #[.func (.func 197) #[] #[.pointer (some ⟨pl,0,none⟩)]] 284) (.cells #[.int .u64 0] 188) (.cells #[.func (.func 175) #[] #[.pointer (some ⟨w2.heap.size,0,none⟩),.pointer (some ⟨w1.heap.size+1+1,0,none⟩),.pointer (some ⟨w2.heap.size+1+1,0,none⟩)]] 301)
 generalize hW:(((w2.alloc (.cells #[.func (.func 196) #[] #[.pointer (some ⟨mv,0,none⟩),.pointer (some ⟨pl,0,none⟩)]] 284)).alloc (.cells #[.func (.func 197) #[] #[.pointer (some ⟨pl,0,none⟩)]] 284)).alloc (.cells #[.int .u64 0] 188)).alloc (.cells #[.func (.func 175) #[] #[.pointer (some ⟨w2.heap.size,0,none⟩),.pointer (some ⟨w1.heap.size+1+1,0,none⟩),.pointer (some ⟨w2.heap.size+1+1,0,none⟩)]] 301)=wC at q1 q2 q3 q4 q5 q6
 clear hW;have Q1:=aa q1;have Q2:=aa q2;have Q3:=aa q3;have Q4:=aa q4;have Q5:=aa q5;clear q1 q2 q3 q4 q5;refine (Bi _ _).mono ?_;rintro e w3 ⟨K,kv,wk,rfl,iC,J4,hK2,hK3,hK4⟩;have fV:=aa iC;have Ax:=aa hK2;have HK3:=aa hK3;have HK4:=aa hK4;have c4:=aA ((iC.block _ (ae Q4.out)).trans Q4.out);have c4':=aw c4;clear iC hK4 hK2 hK3
 go_wp2_with fail;have WH:=ag w3 (.cells #[.func (.func 198) #[] #[.pointer (some ⟨kv,0,none⟩),.pointer (some ⟨wk,0,none⟩)]] 302)
 have M0:Below w3.heap.size w3 (w3.alloc (.cells #[.func (.func 198) #[] #[.pointer (some ⟨kv,0,none⟩),.pointer (some ⟨wk,0,none⟩)]] 302)):=cq _ _
 generalize hW:w3.alloc (.cells #[.func (.func 198) #[] #[.pointer (some ⟨kv,0,none⟩),.pointer (some ⟨wk,0,none⟩)]] 302)=W at WH M0;clear hW c4 c4';have bC:=fV.out.trans (M0.mono fV.out.size);have b2:=Q5.out.trans (bC.mono Q5.out.size);have bB:=cW.out.trans (b2.mono cW.out.size)
 have b1:=Ch.out.trans (bB.mono Ch.out.size);have b0:=bM.out.trans (b1.mono bM.out.size);have bw:=gZ.out.trans (b0.mono gZ.out.size);have s01:=bM.out.size;have s1B:=Ch.out.size;have sB2:=cW.out.size;have s2C:=Q5.out.size;have sC3:=fV.out.size;have Pe:bN w W:=bN.ay bw
 obtain ⟨ρ,hρ⟩:∃ρ:Rd,ρ=⟨w1.heap.size+1,w1.heap.size+1+1,M,mv,pl,w2.heap.size,w2.heap.size+1,w2.heap.size+1+1,w2.heap.size+1+1+1,wk,K,kv,w3.heap.size⟩:=⟨_,rfl⟩;have KJ:=HM5.out;have adi:M<w2.heap.size:=by obtain ⟨m,f,hm,_⟩:=KJ.map;exact hm.lt
 have hNW:kZ W M pl (.slice none 0 0) []:=by refine ⟨(b2.block _ (ae KJ.var)).trans KJ.var,KJ.row.iY (λk hk=>by cases hk),?_,KJ.nodup,KJ.small⟩;obtain ⟨m,f,hm,h1,h2⟩:=KJ.map;exact ⟨m,f,hm.keep (b2.block _ hm.lt),h1,h2⟩
 have Gj:=rN.out
 have Pc:bm W w.heap.size (.slice (some ⟨g1,0,none⟩) ns.length oh) ns:=by
  have h1:=Gj.keep (λk hk=>b1.block k (ae (Gj.block hk).2.choose_spec));obtain ⟨⟨h2,h3⟩,h4⟩:=h1;refine ⟨⟨h2,?_⟩,h4⟩;rcases h3 with h3|⟨g,cap,cur,a1,a2,a3⟩
  ·exact .inl h3
  ·exact .inr ⟨g,cap,cur,a1,by omega,a3⟩
 have Wv:=HK4.out.lt;have hKW:cu iV 188 .u64 W K 0 (λ_=>none):=HK4.out.keep (M0.block _ Wv)
 have aaJ:nJ W (EL (old w.heap.size) ρ) ρ ns.length root ns [] [] 0:=by
  subst hρ
  exact GG (J:=w1.heap.size) ((bB.block _ (ae HSB.out)).trans HSB.out) (by show w.heap.size<=w1.heap.size+1;omega) Pc (HJB.out.keep (bB.block _ HJB.out.lt)) (by omega) (by show w1.heap.size≠M;omega) (by show w1.heap.size≠K;omega) hNW (by show w.heap.size<=M;omega) (by show w.heap.size<=pl;omega) ((bC.block _ (ae Q3.out)).trans Q3.out) (by show w.heap.size<=w2.heap.size+1+1;omega) hKW (by show M≠K;omega) h0 hn (HE.out.world Pe) hz hl
 have WI:QI W ρ:=by subst hρ;exact ⟨(bB.block _ (ae HVB.out)).trans HVB.out,(b2.block _ (ae XT.out)).trans XT.out,(bC.block _ (ae Q1.out)).trans Q1.out,(bC.block _ (ae Q2.out)).trans Q2.out,(bC.block _ (ae Q4.out)).trans Q4.out,(M0.block _ (ae HK3.out)).trans HK3.out,(M0.block _ (ae Ax.out)).trans Ax.out,WH⟩
 have hKρ:ρ.K=K:=by rw[hρ]
 have aaK:iG (EL (old w.heap.size) ρ) W:=by
  rintro j (hj|rfl)
  ·exact dw hj bw.size
  ·rw[hKρ];exact hKW.lt
 have hRt:=HR.out.world Pe;have ll:=aa (Dx _ ρ ns.length root ns [] [] 0 (.base root) k W aaK aaJ WI (by rw[EC.out];exact ⟨rfl,hRt.Vs,hRt⟩) (by simp[met]));have JS:=aa ((b0.block _ (ae E6.out)).trans E6.out);have acu:=aa WI;have HKW:=aa (hKρ▸hKW);have vu:=aa bw;have hKN:w.heap.size<=ρ.K:=by rw[hKρ];omega
 have hρ1:ρ.nv=w2.heap.size:=by rw[hρ]
 have hρ2:ρ.sv=w1.heap.size+1+1:=by rw[hρ]
 have hρ3:ρ.ev=w2.heap.size+1+1:=by rw[hρ]
 have hρ4:ρ.av=w3.heap.size:=by rw[hρ]
 rw[<-hρ3,<-hρ1,<-hρ2,<-hρ4];clear hρ aaJ WI hKW Pc Gj hNW KJ hRt aaK Pe bw b0 b1 bB b2 bC M0 WH;refine ll.out.mono ?_;rintro e w4 ⟨n,eH,fF,eG,rfl,nE,yz,hn4,-⟩;have QF:=nE.stay _ _ _ (by decide) JS.out;have g0:w4.cell? ⟨w.heap.size,0,none⟩=some (.int .u64 0):=by simp[World.cell?,QF]
 have g1':w4.cell? ⟨w.heap.size,1,none⟩=some .nilFunc:=by simp[World.cell?,QF]
 have g2:w4.cell? ⟨w.heap.size,2,none⟩=some .nilFunc:=by simp[World.cell?,QF]
 have z0:w4.frozen? ⟨w.heap.size,0,none⟩=false:=by simp[World.frozen?,QF]
 have z1:w4.frozen? ⟨w.heap.size,1,none⟩=false:=by simp[World.frozen?,QF]
 have z2:w4.frozen? ⟨w.heap.size,2,none⟩=false:=by simp[World.frozen?,QF]
 have aq:=aa (GI nE yz acu.out hKN HKW.out hn4);have om:=aa nE;have HR5:=aa QF;clear nE yz hn4 QF ll;go_wp2_with fail
 refine bodyPost_ret (v:=.agg #[.int .u64 (2 ^ n),.func (.func 179) #[] #[.pointer (some ⟨w3.heap.size,0,none⟩)],.func (.func 181) #[] #[.pointer (some ⟨w2.heap.size+1+1,0,none⟩)]]) (by simp[results,Tryz.results140,go_sem, *]) rfl ?_;refine ⟨ρ,2 ^ n,eH,eG,by simp[rdv,hρ3,hρ4],?_,aq.out.1.other (λj o ho hne=>?_),aq.out.2⟩
 ·have lp:Below w.heap.size W w4:=⟨om.out.os,om.out.tape,om.out.output,om.out.size,λj hj=>om.out.keep j (.inl hj)⟩;exact (((vu.out.trans lp).setCell (bc _) _).setCell (bc _) _).setCell (bc _) _
 ·have hj:j≠w.heap.size:=by rintro rfl;rw[HR5.out]at ho;cases ho;exact hne _ _ rfl
  rw[eV _ _ _ _ (by exact hj),eV _ _ _ _ (by exact hj),eV _ _ _ _ (by exact hj)];exact ho
end Go.Proofs.YtgncgdkpkkdaeaaGreatDoor
