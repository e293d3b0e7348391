import Derived.Test.YtgncgdkpkkdaeaaGreatDoorABase
import Derived.Lib.IndexAny
import Derived.Deep.LoopGhost
set_option maxHeartbeats 1000000
namespace Go.Proofs.YtgncgdkpkkdaeaaGreatDoor
open Go.RowKit bu
variable {s t:List UInt8} {i:Nat} {b:UInt8} {v:Value} {w:World}
theorem ic(b:UInt8)(s:List UInt8)(B P:Nat)(text:ByteArray)(at_:Nat)(ns:List (Nd Value))(w:World)(hP:gm w B P text at_ ns)(hb:rest text at_=b::s):
  Calls Tryz.prog 171 #[.pointer (some ⟨P,0,none⟩),.int .u8 b.toNat] w λe w'=>
   e=.returned (.bool true)/\gm w' B P text (at_+1) ns/\eu B w w'/\rest text (at_+1)=s:=by
 have Ni:=hP;obtain ⟨⟨sv,h1,h2⟩,hle,hs,hB⟩:=hP
 have hlt:at_<text.size:=by
  rcases ed at_ text.size with h|h
  ·exact h
  ·rw[dF h]at hb;cases hb
 rw[bE hlt]at hb;simp only[List.cons.injEq]at hb;obtain ⟨hb,hr⟩:=hb;have c0:w.cell? ⟨P,0,none⟩=some (.string text):=by simp[World.cell?,h1]
 have c1:w.cell? ⟨P,1,none⟩=some (.int .i64 at_):=by simp[World.cell?,h1]
 have f1:w.frozen? ⟨P,1,none⟩=false:=by simp[World.frozen?,h1]
 have hg:decide ((at_:Int)<(text.size:Int))=true:=by simpa using hlt
 have HP:=aa Ni;have HR:=aa hr;clear h1 h2 Ni hr;go_enter Tryz.func171,Tryz.ntmps171;go_wp2_with fail;go_quiet (fail);go_wp2;go_ret;refine ⟨rfl,?_,?_,HR.out⟩
 ·exact (HP.out.drewN nq).move (at_+1) hlt
 ·exact ((eu.refl B w).drewN nq).setCell (HP.out.drewN nq).mine _
theorem ek(b:UInt8)(B P:Nat)(text:ByteArray)(at_:Nat)(ns:List (Nd Value))(w:World)(hP:gm w B P text at_ ns)(hb:(rest text at_).head?≠some b):
  Calls Tryz.prog 171 #[.pointer (some ⟨P,0,none⟩),.int .u8 b.toNat] w λe w'=>
   e=.returned (.bool false)/\gm w' B P text at_ ns/\eu B w w':=by
 have HP:=aa hP;obtain ⟨⟨sv,h1,h2⟩,hle,hs,hB⟩:=hP;have c0:w.cell? ⟨P,0,none⟩=some (.string text):=by simp[World.cell?,h1]
 have c1:w.cell? ⟨P,1,none⟩=some (.int .i64 at_):=by simp[World.cell?,h1]
 clear h1 h2;rcases ed at_ text.size with hlt|kO
 ·rw[bE hlt]at hb;simp only[List.head?_cons,ne_eq,fA]at hb;have hg:decide ((at_:Int)<(text.size:Int))=true:=by simpa using hlt
  have hb2:(((text[at_]).toNat:Int)==(b.toNat:Int))=false:=by rw[er];intro h;exact hb (UInt8.toNat_inj.1 (by omega))
  clear hb;go_enter Tryz.func171,Tryz.ntmps171;go_wp2_with fail;go_quiet (fail);go_wp2;go_ret;exact ⟨rfl,HP.out.drewN nq,(eu.refl B w).drewN nq⟩
 ·have hg:decide (at_<text.size)=false:=by simp;omega
  clear hb;go_enter Tryz.func171,Tryz.ntmps171;go_wp2_with fail;go_quiet (fail);go_wp2;go_ret;exact ⟨rfl,HP.out.drewN nq,(eu.refl B w).drewN nq⟩
theorem head_cons(h:t.head?=some b):∃s,t=b::s:=by
 cases t with
 | nil=>cases h
 | cons c s=>simp at h;exact ⟨s,by rw[h]⟩
theorem iR(b:UInt8)(B P:Nat)(text:ByteArray)(at_:Nat)(ns:List (Nd Value))(w:World)(hP:gm w B P text at_ ns):
  Calls Tryz.prog 171 #[.pointer (some ⟨P,0,none⟩),.int .u8 b.toNat] w λe w'=>
   ∃(r:Bool) (at':Nat),e=.returned (.bool r)/\gm w' B P text at' ns/\eu B w w' /\
    ((r=true/\rest text at_=b::rest text at')∨(r=false/\at'=at_/\(rest text at_).head?≠some b)):=by
 by_cases h:(rest text at_).head?=some b
 ·obtain ⟨s,hs⟩:=head_cons h;refine (ic b s B P text at_ ns w hP hs).mono ?_;rintro e w' ⟨rfl,h1,h2,h3⟩;exact ⟨true,_,rfl,h1,h2,.inl ⟨rfl,by rw[h3];exact hs⟩⟩
 ·refine (ek b B P text at_ ns w hP h).mono ?_;rintro e w' ⟨rfl,h1,h2⟩;exact ⟨false,_,rfl,h1,h2,.inr ⟨rfl,rfl,h⟩⟩
theorem og(s:ByteArray)(b:UInt8)(w:World):
  Sem.run Tryz.prog (callFunc 188 #[.string s,.int .u8 b.toNat]) w=.ok (.value (.int .i64 (Lib.indexByte s.data.toList b))) w:=by
 rw[run_callFunc_indexByte (fn:=Tryz.f188) Tryz.func188 (by kernel_rfl) (by kernel_rfl) (by kernel_rfl) (by kernel_rfl)];rw[Lib.run_indexByteString];simp[Result.andThen]
theorem xJ(s:ByteArray)(b:UInt8)(w:World):
  Calls Tryz.prog 205 #[.string s,.int .u8 b.toNat] w λe w'=>
   e=.returned (.int .i64 (Lib.indexByte s.data.toList b))/\w'=w:=by
 have hrun:=og s b;go_enter Tryz.func205,Tryz.ntmps205;go_wp2;go_ret;exact ⟨rfl,rfl⟩
theorem Cw(s:ByteArray)(B P:Nat)(text:ByteArray)(at_:Nat)(ns:List (Nd Value))(w:World)(hP:gm w B P text at_ ns):
  Calls Tryz.prog 192 #[.pointer (some ⟨P,0,none⟩),.string s] w λe w'=>
   e=.returned (.bool (match (rest text at_).head? with|none=>false|some b=>s.data.toList.contains b))/\∃n,w'=w.drewN n:=by
 obtain ⟨⟨sv,h1,h2⟩,hle,hs,hB⟩:=hP;have c0:w.cell? ⟨P,0,none⟩=some (.string text):=by simp[World.cell?,h1]
 have c1:w.cell? ⟨P,1,none⟩=some (.int .i64 at_):=by simp[World.cell?,h1]
 clear h1 h2;rcases ed at_ text.size with hlt|kO
 ·rw[bE hlt];have hg:decide ((at_:Int)<(text.size:Int))=true:=by simpa using hlt
  simp only[List.head?_cons];rw[Lib.contains_iff_indexByte];generalize hb:text[at_]=b;go_enter Tryz.func192,Tryz.ntmps192
  go_wp2_with fail;go_quiet ((go_at_call 205;exact Calls.quiet_of_same (xJ _ _ _)));go_wp2;go_ret;exact ⟨rfl,nq,rfl⟩
 ·have hg:decide (at_<text.size)=false:=by simp;omega
  rw[dF kO];go_enter Tryz.func192,Tryz.ntmps192
  go_wp2_with fail;go_quiet (fail);go_wp2;go_ret;exact ⟨rfl,nq,rfl⟩
def signs:ByteArray:=⟨#[92,40,41,91,93,124,42,43,63,46,94,45]⟩
theorem pu:∀b:UInt8,ej b=true->32<=b.toNat/\b.toNat<=126:=by intro b h;simp only[ej,List.contains_cons,List.contains_nil,Bool.or_false,Bool.or_eq_true,beq_iff_eq]at h;rcases h with h|h|h|h|h|h|h|h|h|h|h|h<;>subst h<;>decide
theorem kQ(d:UInt8)(s:List UInt8)(B P:Nat)(text:ByteArray)(at_:Nat)(ns:List (Nd Value))(w:World)(hP:gm w B P text at_ ns)(h:rest text at_=d::s)(f:Bool)(hf:ej d=f):
  Calls Tryz.prog 192 #[.pointer (some ⟨P,0,none⟩),.string ⟨#[92,40,41,91,93,124,42,43,63,46,94,45]⟩] w λe w'=>e=.returned (.bool f)/\∃n,w'=w.drewN n:=by
 refine (Cw signs B P text at_ ns w hP).mono ?_;rintro e w' ⟨rfl,n,rfl⟩;refine ⟨?_,n,rfl⟩;rw[h];simp only[List.head?_cons];rw[<-hf];rfl
theorem Ig(B P:Nat)(text:ByteArray)(at_:Nat)(ns:List (Nd Value))(w:World)(hP:gm w B P text at_ ns)(h:rest text at_=[]∨rest text at_=[92]):
  Calls Tryz.prog 211 #[.pointer (some ⟨P,0,none⟩)] w λe w'=>
   eu B w w'/\(∃at',gm w' B P text at' ns)/\e=.returned (.tuple #[.int .u8 0,.bool false]):=by
 have HP:=aa hP;rcases h with h|h
 ·have he:=my hP.le h;subst he;have hh:(rest text text.size).head?≠some 92:=by rw[h];simp
  clear hP h;go_enter Tryz.func211,Tryz.ntmps211;go_wp2_with fail;refine (ek 92 B P text text.size ns w HP.out hh).mono ?_;rintro e w' ⟨rfl,kR,hF⟩;obtain ⟨c0,c1,f1⟩:=kR.cells;have Cx:=aa kR;have HF:=aa hF;clear kR hF;go_wp2_with fail;go_quiet (fail);go_wp2;go_ret2;exact ⟨HF.out.drewN nq,⟨_,Cx.out.drewN nq⟩,rfl⟩
 ·obtain ⟨hlt,_,hn⟩:=dR h;have he:at_+1=text.size:=my hlt hn;have HH:=aa h;have HE:=aa he;clear hP h hn he;go_enter Tryz.func211,Tryz.ntmps211;go_wp2_with fail;refine (ic 92 [] B P text at_ ns w HP.out HH.out).mono ?_;rintro e w' ⟨rfl,kR,hF,hX⟩;rw[HE.out]at kR;obtain ⟨c0,c1,f1⟩:=kR.cells;have Cx:=aa kR
  have HF:=aa hF;clear kR hF hX;go_wp2_with fail;go_quiet (fail);go_wp2;go_ret2;exact ⟨HF.out.drewN nq,⟨_,Cx.out.drewN nq⟩,rfl⟩
theorem Fh(d:UInt8)(s:List UInt8)(B P:Nat)(text:ByteArray)(at_:Nat)(ns:List (Nd Value))(w:World)(hP:gm w B P text at_ ns)(h:rest text at_=92::d::s)(hs:ej d=true):
  Calls Tryz.prog 211 #[.pointer (some ⟨P,0,none⟩)] w λe w'=>
   eu B w w'/\e=.returned (.tuple #[.int .u8 d.toNat,.bool true])/\gm w' B P text (at_+2) ns/\rest text (at_+2)=s:=by
 have HP:=aa hP;have HH:=aa h;have hr:=pu d hs;have HS:=aa hs;clear hP h hs;go_enter Tryz.func211,Tryz.ntmps211;go_wp2_with fail;refine (ic 92 (d::s) B P text at_ ns w HP.out HH.out).mono ?_;rintro e w' ⟨rfl,kR,hF,hX⟩;obtain ⟨j,hj⟩:∃j,j=at_+1:=⟨_,rfl⟩;have HJ:=aa hj;rw[<-hj]at kR hX;clear hj
 obtain ⟨c0,c1,f1⟩:=kR.cells;obtain ⟨YY,hd,tX⟩:=dR hX;have hg:((j:Int)==(text.size:Int))=false:=by rw[er];omega
 have hsm:=kR.small;have Cx:=aa kR;have HF:=aa hF;have HX:=aa hX;have HN:=aa tX;clear kR hF hX tX;go_wp2_with fail;go_quiet ((go_at_call 192;exact Calls.quiet_of (kQ d s B P text j ns _ (Cx.out.drewN _) HX.out true HS.out)))
 rename Nat=>YZ
 go_wp2_with fail;go_quiet (fail);go_wp2;go_ret2;have hJ:=HJ.out;refine ⟨(HF.out.drewN _).setCell (Cx.out.drewN _).mine _,by simp;omega,?_,?_⟩
 ·have:=(Cx.out.drewN (YZ+nq)).move (j+1) (by omega);rw[show at_+2=j+1 by omega];exact this
 ·rw[show at_+2=j+1 by omega];exact HN.out
theorem Cy(d:UInt8)(s:List UInt8)(B P:Nat)(text:ByteArray)(at_:Nat)(ns:List (Nd Value))(w:World)(hP:gm w B P text at_ ns)(h:rest text at_=92::d::s)(hs:ej d=false):
  Calls Tryz.prog 211 #[.pointer (some ⟨P,0,none⟩)] w λe w'=>
   eu B w w'/\(∃at',gm w' B P text at' ns)/\e=.returned (.tuple #[.int .u8 0,.bool false]):=by
 have HP:=aa hP;have HH:=aa h;have HS:=aa hs;clear hP h hs;go_enter Tryz.func211,Tryz.ntmps211;go_wp2_with fail;refine (ic 92 (d::s) B P text at_ ns w HP.out HH.out).mono ?_;rintro e w' ⟨rfl,kR,hF,hX⟩;obtain ⟨j,hj⟩:∃j,j=at_+1:=⟨_,rfl⟩;rw[<-hj]at kR hX;clear hj;obtain ⟨c0,c1,f1⟩:=kR.cells
 obtain ⟨YY,hd,tX⟩:=dR hX;have hg:((j:Int)==(text.size:Int))=false:=by rw[er];omega
 have Cx:=aa kR;have HF:=aa hF;have HX:=aa hX;clear kR hF hX tX;go_wp2_with fail;go_quiet ((go_at_call 192;exact Calls.quiet_of (kQ d s B P text j ns _ (Cx.out.drewN _) HX.out false HS.out)));go_wp2;go_ret2;exact ⟨HF.out.drewN nq,⟨_,Cx.out.drewN nq⟩,rfl⟩
theorem Nj(c:UInt8)(s:List UInt8)(B P:Nat)(text:ByteArray)(at_:Nat)(ns:List (Nd Value))(w:World)(hP:gm w B P text at_ ns)(h:rest text at_=c::s)(xr:c≠92)(hs:ej c=true):
  Calls Tryz.prog 211 #[.pointer (some ⟨P,0,none⟩)] w λe w'=>
   eu B w w'/\(∃at',gm w' B P text at' ns)/\e=.returned (.tuple #[.int .u8 0,.bool false]):=by
 have HP:=aa hP;have HH:=aa h;have HS:=aa hs;have h9:=aa (show (rest text at_).head?≠some 92 by rw[h];simpa using xr);obtain ⟨hlt,hc,hn⟩:=dR h;have hg:((at_:Int)==(text.size:Int))=false:=by rw[er];omega
 clear hP h hs hn xr;go_enter Tryz.func211,Tryz.ntmps211;go_wp2_with fail;refine (ek 92 B P text at_ ns w HP.out h9.out).mono ?_;rintro e w' ⟨rfl,kR,hF⟩;obtain ⟨c0,c1,f1⟩:=kR.cells;have Cx:=aa kR;have HF:=aa hF;clear kR hF;go_wp2_with fail
 go_quiet ((go_at_call 192;exact Calls.quiet_of (kQ c s B P text at_ ns _ (Cx.out.drewN _) HH.out true HS.out)));go_wp2;go_ret2;exact ⟨HF.out.drewN nq,⟨_,Cx.out.drewN nq⟩,rfl⟩
theorem JQ(c:UInt8)(s:List UInt8)(B P:Nat)(text:ByteArray)(at_:Nat)(ns:List (Nd Value))(w:World)(hP:gm w B P text at_ ns)(h:rest text at_=c::s)(xr:c≠92)(hs:ej c=false):
  Calls Tryz.prog 211 #[.pointer (some ⟨P,0,none⟩)] w λe w'=>
   eu B w w'/\e=.returned (.tuple #[.int .u8 c.toNat,.bool (decide (32<=c.toNat/\c.toNat<=126))])/\gm w' B P text (at_+1) ns/\rest text (at_+1)=s:=by
 have HP:=aa hP;have HH:=aa h;have HS:=aa hs;have h9:=aa (show (rest text at_).head?≠some 92 by rw[h];simpa using xr);obtain ⟨hlt,hc,hn⟩:=dR h;have hg:((at_:Int)==(text.size:Int))=false:=by rw[er];omega
 have hsm:=hP.small;have HN:=aa hn;clear hP h hs hn xr;go_enter Tryz.func211,Tryz.ntmps211;go_wp2_with fail;refine (ek 92 B P text at_ ns w HP.out h9.out).mono ?_;rintro e w' ⟨rfl,kR,hF⟩;obtain ⟨c0,c1,f1⟩:=kR.cells;have Cx:=aa kR;have HF:=aa hF;clear kR hF;go_wp2_with fail
 go_quiet ((go_at_call 192;exact Calls.quiet_of (kQ c s B P text at_ ns _ (Cx.out.drewN _) HH.out false HS.out)))
 rename Nat=>YZ
 go_wp2_with fail;go_quiet (fail);go_wp2
 all_goals
  go_ret2;have jn:=(Cx.out.drewN (YZ+nq)).move (at_+1) hlt;refine ⟨(HF.out.drewN (YZ+nq)).setCell (Cx.out.drewN (YZ+nq)).mine _,?_,jn,HN.out⟩;rename_i h32;simp
  first|omega|(rw[Bool.eq_iff_iff];simp;omega)
theorem kS(B P:Nat)(text:ByteArray)(at_:Nat)(ns:List (Nd Value))(w:World)(hP:gm w B P text at_ ns):
  Calls Tryz.prog 211 #[.pointer (some ⟨P,0,none⟩)] w λe w'=>
   eu B w w'/\∃(b:UInt8) (at':Nat),gm w' B P text at' ns /\
    ((dK (rest text at_)=some (b,rest text at')/\e=.returned (.tuple #[.int .u8 b.toNat,.bool true])) ∨
     (dK (rest text at_)=none/\e=.returned (.tuple #[.int .u8 b.toNat,.bool false]))):=by
 cases hr:rest text at_ with
 | nil=>
  refine (Ig B P text at_ ns w hP (.inl hr)).mono ?_;rintro e w' ⟨hF,⟨at',kR⟩,rfl⟩;exact ⟨hF,0,at',kR,.inr ⟨rfl,rfl⟩⟩
 | cons c s=>
  by_cases xr:c=92
  ·subst xr
   cases s with
   | nil=>
    refine (Ig B P text at_ ns w hP (.inr hr)).mono ?_;rintro e w' ⟨hF,⟨at',kR⟩,rfl⟩;exact ⟨hF,0,at',kR,.inr ⟨rfl,rfl⟩⟩
   | cons d s=>
    cases hs:ej d with
    | true=>
     refine (Fh d s B P text at_ ns w hP hr hs).mono ?_;rintro e w' ⟨hF,rfl,kR,h2⟩;exact ⟨hF,d,at_+2,kR,.inl ⟨by simp[dK,hs,h2],rfl⟩⟩
    | false=>
     refine (Cy d s B P text at_ ns w hP hr hs).mono ?_;rintro e w' ⟨hF,⟨at',kR⟩,rfl⟩;exact ⟨hF,0,at',kR,.inr ⟨by simp[dK,hs],rfl⟩⟩
  ·cases hs:ej c with
   | true=>
    refine (Nj c s B P text at_ ns w hP hr xr hs).mono ?_;rintro e w' ⟨hF,⟨at',kR⟩,rfl⟩;exact ⟨hF,0,at',kR,.inr ⟨by simp[dK,hs,xr],rfl⟩⟩
   | false=>
    refine (JQ c s B P text at_ ns w hP hr xr hs).mono ?_;rintro e w' ⟨hF,rfl,kR,h2⟩;refine ⟨hF,c,at_+1,kR,?_⟩;by_cases hc:32<=c.toNat/\c.toNat<=126
    ·exact .inl ⟨by simp[dK,hs,xr,h2,hc],by simp[hc]⟩
    ·exact .inr ⟨by simp[dK,hs,xr];omega,by simp[hc]⟩
theorem aH.shape{c:eO}(h:aH w v c):∃g cap,v=.func (.func g) #[] cap:=by
 cases c with
 | any=>exact ⟨_,_,h⟩
 | range lo hi=>obtain ⟨p,q,e,_⟩:=h;exact ⟨_,_,e⟩
 | union a b=>obtain ⟨p,q,va,vb,e,_⟩:=h;exact ⟨_,_,e⟩
 | iQ a=>obtain ⟨p,va,e,_⟩:=h;exact ⟨_,_,e⟩
theorem ie(lo hi:UInt8)(w:World):
  Calls Tryz.prog 212 #[.int .u8 lo.toNat,.int .u8 hi.toNat] w λe w'=>
   ∃v,e=.returned v/\aH w' v (.range lo hi)/\Below w.heap.size w w':=by
 go_enter Tryz.func212,Tryz.ntmps212;go_wp2;go_ret;refine ⟨_,rfl,⟨_,_,rfl,?_,?_⟩,?_⟩
 ·exact af (ag w _)
 ·have:=ag (w.alloc (.cells #[.int .u8 lo.toNat] 5)) (.cells #[.int .u8 hi.toNat] 5);simpa using this
 ·exact (cq _ _).alloc (by simp) _
theorem Fi(a b:eO)(va vb:Value)(w:World)(ha:aH w va a)(hb:aH w vb b):
  Calls Tryz.prog 214 #[va,vb] w λe w'=>
   ∃v,e=.returned v/\aH w' v (.union a b)/\Below w.heap.size w w':=by
 obtain ⟨g1,oh,e1⟩:=ha.shape;obtain ⟨g2,rI,e2⟩:=hb.shape;subst e1 e2;have HA:=aa ha;have HB:=aa hb;clear ha hb;go_enter Tryz.func214,Tryz.ntmps214;go_wp2;go_ret
 have hbl:Below w.heap.size w ((w.alloc (.cells #[.func (.func g1) #[] oh] 290)).alloc (.cells #[.func (.func g2) #[] rI] 290)):=(cq _ _).alloc (by simp) _;refine ⟨_,rfl,⟨_,_,_,_,rfl,?_,?_,HA.out.stay (bN.ay hbl),HB.out.stay (bN.ay hbl)⟩,hbl⟩
 ·exact af (ag w _)
 ·have:=ag (w.alloc (.cells #[.func (.func g1) #[] oh] 290)) (.cells #[.func (.func g2) #[] rI] 290);simpa using this
theorem vg(a:eO)(va:Value)(w:World)(ha:aH w va a):
  Calls Tryz.prog 215 #[va] w λe w'=>
   ∃v,e=.returned v/\aH w' v (.iQ a)/\Below w.heap.size w w':=by
 obtain ⟨g1,oh,e1⟩:=ha.shape;subst e1;have HA:=aa ha;clear ha;go_enter Tryz.func215,Tryz.ntmps215;go_wp2;go_ret;have hbl:Below w.heap.size w (w.alloc (.cells #[.func (.func g1) #[] oh] 290)):=cq _ _;exact ⟨_,rfl,⟨_,_,rfl,ag w _,HA.out.stay (bN.ay hbl)⟩,hbl⟩
theorem Fj(h:dK s=none):br s=none:=by simp[br,h]
theorem xK(h:dK s=some (b,t))(ht:t.head?≠some 45):br s=some (.range b b,t):=by
 cases t with
 | nil=>simp[br,h]
 | cons c t=>simp at ht;simp[br,h,ht]
theorem tY(h:dK s=some (b,45::t))(h2:dK t=none):br s=none:=by simp[br,h,h2]
theorem mz{u:List UInt8}{c:UInt8}(h:dK s=some (b,45::t))(h2:dK t=some (c,u)):
  br s=if b.toNat<=c.toNat then some (.range b c,u) else none:=by simp[br,h,h2]
-- ade: the class,or that it is none.
theorem Ab(B P:Nat)(text:ByteArray)(at_:Nat)(ns:List (Nd Value))(w:World)(hP:gm w B P text at_ ns):
  Calls Tryz.prog 213 #[.pointer (some ⟨P,0,none⟩)] w λe w'=>
   eu B w w'/\∃(v:Value) (at':Nat) (c:eO),gm w' B P text at' ns/\aH w' v c /\
    ((br (rest text at_)=some (c,rest text at')/\e=.returned (.tuple #[v,.bool true])) ∨
     (br (rest text at_)=none/\e=.returned (.tuple #[v,.bool false]))):=by
 have HP:=aa hP;clear hP;go_enter Tryz.func213,Tryz.ntmps213;go_wp2_with fail;refine (kS B P text at_ ns w HP.out).mono ?_;rintro e w1 ⟨gG,b,kT,ol,⟨h1,rfl⟩|⟨h1,rfl⟩⟩
 ·have gD:=aa ol;have kU:=aa gG;have H1:=aa h1;clear ol gG h1;by_cases hd:(rest text kT).head?=some 45
  ·obtain ⟨s,hs⟩:=head_cons hd;have HS:=aa hs;clear hs hd;go_wp2_with fail;refine (ic 45 s B P text kT ns w1 gD.out HS.out).mono ?_;rintro e w2 ⟨rfl,jn,hF2,hr2⟩;have nD:=aa jn;have eU:=aa hF2;have mA:=aa hr2;clear jn hF2 hr2;go_wp2_with fail;refine (kS B P text (kT+1) ns w2 nD.out).mono ?_;rintro e w3 ⟨dJ,b3,Cz,kD,⟨h3,rfl⟩|⟨h3,rfl⟩⟩
   ·have ru:=aa kD;have ir:=aa dJ;have H3:=aa h3;clear kD dJ h3;go_wp2_with fail;refine (ie b b3 w3).mono ?_;rintro e w4 ⟨v,rfl,hv,kB⟩;have HV:=aa hv;have kC:=aa kB;clear hv kB;go_wp2_with fail;go_ret2;have JR:=mz (HS.out▸H1.out) (mA.out▸H3.out)
    refine ⟨((kU.out.trans eU.out).trans ir.out).trans (eu.ay kC.out),v,Cz,_,ru.out.below kC.out,HV.out,?_⟩;by_cases hle:b.toNat<=b3.toNat
    ·exact .inl ⟨by rw[JR,if_pos hle],by simp[hle]⟩
    ·exact .inr ⟨by rw[JR,if_neg hle],by simp[hle]⟩
   ·have ru:=aa kD;have ir:=aa dJ;have H3:=aa h3;clear kD dJ h3;go_wp2_with fail;refine (ie b b3 w3).mono ?_;rintro e w4 ⟨v,rfl,hv,kB⟩;have HV:=aa hv;have kC:=aa kB;clear hv kB;go_wp2_with fail;go_ret2;have JR:=tY (HS.out▸H1.out) (mA.out▸H3.out)
    exact ⟨((kU.out.trans eU.out).trans ir.out).trans (eu.ay kC.out),v,Cz,_,ru.out.below kC.out,HV.out,.inr ⟨JR,by simp⟩⟩
  ·have HD:=aa hd;clear hd;go_wp2_with fail;refine (ek 45 B P text kT ns w1 gD.out HD.out).mono ?_;rintro e w2 ⟨rfl,jn,hF2⟩;have nD:=aa jn;have eU:=aa hF2;clear jn hF2;go_wp2_with fail;refine (ie b b w2).mono ?_;rintro e w4 ⟨v,rfl,hv,kB⟩;have HV:=aa hv;have kC:=aa kB;clear hv kB;go_wp2_with fail;go_ret2
   exact ⟨(kU.out.trans eU.out).trans (eu.ay kC.out),v,kT,_,nD.out.below kC.out,HV.out,.inl ⟨xK H1.out HD.out,by simp⟩⟩
 ·have gD:=aa ol;have kU:=aa gG;have H1:=aa h1;clear ol gG h1;go_wp2_with fail;refine (ie b b w1).mono ?_;rintro e w4 ⟨v,rfl,hv,kB⟩;have HV:=aa hv;have kC:=aa kB;clear hv kB;go_wp2_with fail;go_ret2;exact ⟨kU.out.trans (eu.ay kC.out),v,kT,_,gD.out.below kC.out,HV.out,.inr ⟨Fj H1.out,by simp⟩⟩
theorem vp(B P:Nat)(text:ByteArray)(at_:Nat)(ns:List (Nd Value))(w:World)(hP:gm w B P text at_ ns):
  Calls Tryz.prog 213 #[.pointer (some ⟨P,0,none⟩)] w λe w'=>
   ∃(v:Value) (ok:Bool) (at':Nat) (c:eO),e=.returned (.tuple #[v,.bool ok])/\eu B w w'/\gm w' B P text at' ns/\aH w' v c /\
    ((ok=true/\br (rest text at_)=some (c,rest text at'))∨(ok=false/\br (rest text at_)=none)):=by
 refine (Ab B P text at_ ns w hP).mono ?_;rintro e w' ⟨hF,v,at',c,h1,h2,⟨h3,rfl⟩|⟨h3,rfl⟩⟩
 ·exact ⟨v,true,at',c,rfl,hF,h1,h2,.inl ⟨rfl,h3⟩⟩
 ·exact ⟨v,false,at',c,rfl,hF,h1,h2,.inr ⟨rfl,h3⟩⟩
def Ac(B P:Nat)(text:ByteArray)(ns:List (Nd Value))(w2:World)(ry:Nat)(c2:eO)(ok:Bool)(k:Nat)(has Qu:Value)(wr:World):Prop:=
 eu B w2 wr/\∃at' c,gm wr B P text at' ns/\aH wr has c /\
   ((Qu=.bool true/\ok=true/\k=1+(rest text at').length/\∀o,Cq c (rest text at') o->Cq c2 (rest text ry) o) ∨
    (Qu=.bool false/\k=0/\(ok=true->Cq c2 (rest text ry) none)))
def Rp(B P:Nat)(text:ByteArray)(at_:Nat)(ns:List (Nd Value))(w:World)(e:Ending)(w':World):Prop:=
 eu B w w'/\∃(v:Value) (at':Nat) (c:eO),gm w' B P text at' ns/\aH w' v c /\
  ((eK (rest text at_) (some (c,rest text at'))/\e=.returned (.tuple #[v,.bool true])) ∨
   (eK (rest text at_) none/\e=.returned (.tuple #[v,.bool false])))
theorem rJ(B P:Nat)(text:ByteArray)(at_:Nat)(ns:List (Nd Value))(w:World)(hP:gm w B P text at_ ns):
  Calls Tryz.prog 210 #[.pointer (some ⟨P,0,none⟩)] w λe w'=>
   Rp B P text at_ ns w e w':=by
 have HP:=aa hP;clear hP;go_enter Tryz.func210,Tryz.ntmps210;go_wp2_with fail;refine (iR 94 B P text at_ ns w HP.out).mono ?_;rintro e w1 ⟨r,kT,rfl,ol,gG,hr1⟩;have gD:=aa ol;have kU:=aa gG;have eZ:=aa hr1;clear ol gG hr1;go_wp2_with fail;refine (vp B P text kT ns w1 gD.out).mono ?_
 rintro e w2 ⟨v,ok,ry,c2,rfl,hF2,jn,hv2,h2⟩;have eU:=aa hF2;have nD:=aa jn;have XF:=aa hv2;have H2:=aa h2;clear hF2 jn hv2 h2;go_wp2_with fail;go_loopg [5,6] (if ok then 1+(rest text ry).length else 0) (λk has Qu wr=>Ac B P text ns w2 ry c2 ok k has Qu wr)
 case atStart=>
  refine ⟨eu.refl _ _,ry,c2,nD.out,XF.out,?_⟩;rcases H2.out with ⟨rfl,h⟩|⟨rfl,h⟩
  ·exact .inl ⟨rfl,rfl,rfl,λo h=>h⟩
  ·exact .inr ⟨rfl,rfl,λh=>by cases h⟩
 case round=>
  obtain ⟨dJ,Cz,c3,kD,hv3,⟨rfl,eM,hk,JR⟩|⟨rfl,hk,JR⟩⟩:=hrel
  ·have ru:=aa kD;have ir:=aa dJ;have XG:=aa hv3;have HK:=aa hk;have Ad:=aa JR;have zP:=aa eM;clear kD dJ hv3 hk JR eM;go_wp2_with fail;refine (iR 93 B P text Cz ns wr ru.out).mono ?_;rintro e w4 ⟨r4,TG,rfl,yC,nE,⟨rfl,hr4⟩|⟨rfl,he4,hr4⟩⟩
   ·have Ih:=aa yC;have om:=aa nE;have tZ:Cq c2 (rest text ry) (some (c3,rest text TG)):=Ad.out _ (by rw[hr4];exact .stop);have kV:=aa tZ;clear yC nE hr4 tZ
    have h2:br (rest text kT)=some (c2,rest text ry):=by
     rcases H2.out with h|h
     ·exact h.2
     ·rw[zP.out]at h;cases h.1
    have H3:=aa h2;clear h2;rcases eZ.out with ⟨rfl,hR⟩|⟨rfl,hR⟩
    ·have HR:=aa hR;clear hR;go_wp2_with fail;refine (vg c3 u5 w4 (XG.out.stay om.out.stay)).mono ?_;rintro e w5 ⟨v5,rfl,TH,xL⟩;have Y0:=aa TH;have CA:=aa xL;clear TH xL;go_wp2_with fail;go_ret2;refine ⟨(((kU.out.trans eU.out).trans ir.out).trans om.out).trans (eu.ay CA.out),v5,TG,_,Ih.out.below CA.out,Y0.out,.inl ⟨?_,by simp⟩⟩;rw[HR.out]
     exact .neg H3.out kV.out
    ·have HR:=aa hR;clear hR;go_wp2_with fail;go_ret2;refine ⟨((kU.out.trans eU.out).trans ir.out).trans om.out,u5,TG,c3,Ih.out,XG.out.stay om.out.stay,.inl ⟨?_,by simp⟩⟩;have h3:=H3.out;rw[HR.out.1]at h3;exact .pos HR.out.2 h3 kV.out
   ·subst he4;have Ih:=aa yC;have om:=aa nE;have JS:=aa hr4;clear yC nE hr4;go_wp2_with fail;refine (vp B P text TG ns w4 Ih.out).mono ?_;rintro e w5 ⟨v5,ok5,at5,c5,rfl,CB,TI,TH,h5⟩;have Mw:=aa CB;have Y1:=aa TI;have Y0:=aa TH;have H5:=aa h5;clear CB TI TH h5;go_wp2_with fail
    refine (Fi c3 c5 u5 v5 w5 (XG.out.stay (om.out.stay.trans Mw.out.stay)) Y0.out).mono ?_;rintro e w6 ⟨v6,rfl,hv6,hB6⟩;have HV6:=aa hv6;have HB6:=aa hB6;clear hv6 hB6;go_wp2_with fail;go_roundg (if ok5 then 1+(rest text at5).length else 0)
    case measure=>
     rw[HK.out];rcases H5.out with ⟨rfl,h⟩|⟨rfl,h⟩
     ·have:=kN h;simp;omega
     ·simp;omega
    case rel=>
     refine ⟨((ir.out.trans om.out).trans Mw.out).trans (eu.ay HB6.out),at5,_,Y1.out.below HB6.out,HV6.out,?_⟩;rcases H5.out with ⟨rfl,h⟩|⟨rfl,h⟩
     ·exact .inl ⟨rfl,zP.out,rfl,λo ho=>Ad.out o (.more JS.out h ho)⟩
     ·exact .inr ⟨rfl,rfl,λ_=>Ad.out _ (.bad JS.out h)⟩
  ·have ru:=aa kD;have ir:=aa dJ;have XG:=aa hv3;have Ad:=aa JR;clear kD dJ hv3 JR hk;rcases eZ.out with ⟨rfl,hR⟩|⟨rfl,hR⟩
   ·have HR:=aa hR;clear hR;go_wp2_with fail;refine (vg c3 u5 wr XG.out).mono ?_;rintro e w5 ⟨v5,rfl,TH,xL⟩;have Y0:=aa TH;have CA:=aa xL;clear TH xL;go_wp2_with fail;go_ret2;refine ⟨((kU.out.trans eU.out).trans ir.out).trans (eu.ay CA.out),v5,Cz,_,ru.out.below CA.out,Y0.out,.inr ⟨?_,by simp⟩⟩;rw[HR.out];rcases H2.out with ⟨h,h2⟩|⟨h,h2⟩
    ·exact .neg h2 (Ad.out h)
    ·exact .mq h2
   ·have HR:=aa hR;clear hR;go_wp2_with fail;go_ret2;refine ⟨(kU.out.trans eU.out).trans ir.out,u5,Cz,c3,ru.out,XG.out,.inr ⟨?_,by simp⟩⟩;rcases H2.out with ⟨h,h2⟩|⟨h,h2⟩
    ·rw[HR.out.1]at h2;exact .pos HR.out.2 h2 (Ad.out h)
    ·rw[HR.out.1]at h2;exact .mm HR.out.2 h2
theorem bm.at{B:Nat}{sv:Value}{ns:List (Nd Value)}(h:bm w B sv ns){nd:Nd Value}(hi:ns[i]?=some nd):
  ∃g cap,sv=.slice (some ⟨g,0,none⟩) ns.length cap/\w.cell? ⟨g,i*5,none⟩=some (.int .i64 nd.kind)/\w.cell? ⟨g,i*5+1,none⟩=some nd.has /\
   w.cell? ⟨g,i*5+2,none⟩=some (.int .i64 nd.left)/\w.cell? ⟨g,i*5+3,none⟩=some (.int .i64 nd.right)/\w.cell? ⟨g,i*5+4,none⟩=some (.bool nd.empty):=by
 have hlt:i<ns.length:=by
  rcases ed i ns.length with h' | h'
  ·exact h'
  ·rw[List.getElem?_eq_none h']at hi;cases hi
 obtain ⟨⟨h1,h2⟩,_⟩:=h;rcases h2 with ⟨rfl,h0⟩|⟨g,cap,cur,rfl,hg,hh,hn,hc,hs,ht⟩
 ·omega
 ·refine ⟨g,cap,rfl,?_⟩
  have key:∀j,j<5->w.cell? ⟨g,i*5+j,none⟩=(fI nd)[j]?:=by
   intro j hj;rw[<-sW hi j hj,<-ht];have hb:i*5+j<ns.length*5:=by omega
   rw[List.getElem?_take_of_lt hb];simp[World.cell?,hh]
  refine ⟨key 0 (by omega),key 1 (by omega),key 2 (by omega),key 3 (by omega),key 4 (by omega)⟩
theorem aw{a:Addr}(h:w.cell? a=some v)(o:Obj):(w.alloc o).cell? a=some v:=by rw[World.cell?_of_block (w:=w) (Below.heap_alloc _ _ _ (World.block_lt_of_cell? w a h))];exact h
theorem az{α:Type}{l:List α}{x:α}(h:l[i]?=some x):i<l.length:=by
 rcases ed i l.length with h' | h'
 ·exact h'
 ·rw[List.getElem?_eq_none h']at h;cases h
theorem rK(B:Nat)(sv:Value)(ns:List (Nd Value))(l r:Nat)(x y:Nd Value)(h:Value)(em:Bool)(w:World)(hL:bm w B sv ns)(hx:ns[l]?=some x)(hy:ns[r]?=some y):
  Calls Tryz.prog 195 #[sv,.agg #[.int .i64 2,h,.int .i64 l,.int .i64 r,.bool em]] w λe w'=>
   e=.returned (.bool (x.empty&&y.empty))/\Below w.heap.size w w':=by
 obtain ⟨g,cap,rfl,-,-,-,-,TJ⟩:=hL.at hx;obtain ⟨g',cap',e',-,-,-,-,Y2⟩:=hL.at hy;cases e';have yD:=aw TJ;have hya:=aw Y2;have hl:=az hx;have hr:=az hy;clear hL hx hy TJ Y2;go_enter Tryz.func195,Tryz.ntmps195;go_wp2
 all_goals
  go_ret;exact ⟨by simp[*],cq _ _⟩
theorem rL(B:Nat)(sv:Value)(ns:List (Nd Value))(l r:Nat)(x y:Nd Value)(h:Value)(em:Bool)(w:World)(hL:bm w B sv ns)(hx:ns[l]?=some x)(hy:ns[r]?=some y):
  Calls Tryz.prog 195 #[sv,.agg #[.int .i64 3,h,.int .i64 l,.int .i64 r,.bool em]] w λe w'=>
   e=.returned (.bool (x.empty||y.empty))/\Below w.heap.size w w':=by
 obtain ⟨g,cap,rfl,-,-,-,-,TJ⟩:=hL.at hx;obtain ⟨g',cap',e',-,-,-,-,Y2⟩:=hL.at hy;cases e';have yD:=aw TJ;have hya:=aw Y2;have hl:=az hx;have hr:=az hy;clear hL hx hy TJ Y2;go_enter Tryz.func195,Tryz.ntmps195;go_wp2
 all_goals
  go_ret;exact ⟨by simp[*],cq _ _⟩
theorem qg(B:Nat)(sv:Value)(ns:List (Nd Value))(l:Nat)(r:Int)(x:Nd Value)(h:Value)(em:Bool)(w:World)(hL:bm w B sv ns)(hx:ns[l]?=some x):
  Calls Tryz.prog 195 #[sv,.agg #[.int .i64 5,h,.int .i64 l,.int .i64 r,.bool em]] w λe w'=>
   e=.returned (.bool x.empty)/\Below w.heap.size w w':=by
 obtain ⟨g,cap,rfl,-,-,-,-,TJ⟩:=hL.at hx;have yD:=aw TJ;have hl:=az hx;clear hL hx TJ;go_enter Tryz.func195,Tryz.ntmps195;go_wp2;go_ret;exact ⟨by simp[*],cq _ _⟩
theorem iT(sv:Value)(k:Nat)(l r:Int)(h:Value)(em b:Bool)(w:World)(hk:(k=1/\b=false)∨((k=4∨k=6)/\b=true)):
  Calls Tryz.prog 195 #[sv,.agg #[.int .i64 k,h,.int .i64 l,.int .i64 r,.bool em]] w λe w'=>
   e=.returned (.bool b)/\Below w.heap.size w w':=by
 rcases hk with ⟨rfl,rfl⟩|⟨rfl|rfl,rfl⟩
 all_goals
  go_enter Tryz.func195,Tryz.ntmps195;go_wp2;go_ret;exact ⟨rfl,cq _ _⟩
def Nk(ns:List (Nd Value))(k l r:Nat)(b:Bool):Prop:=
 (k=1/\b=false)∨((k=4∨k=6)/\b=true)∨(k=5/\∃x,ns[l]?=some x/\b=x.empty) ∨
 (k=2/\∃x y,ns[l]?=some x/\ns[r]?=some y/\b=(x.empty&&y.empty)) ∨
 (k=3/\∃x y,ns[l]?=some x/\ns[r]?=some y/\b=(x.empty||y.empty))
theorem jY(B:Nat)(sv:Value)(ns:List (Nd Value))(k l r:Nat)(h:Value)(em b:Bool)(w:World)(hL:bm w B sv ns)(hE:Nk ns k l r b):
  Calls Tryz.prog 195 #[sv,.agg #[.int .i64 k,h,.int .i64 l,.int .i64 r,.bool em]] w λe w'=>
   e=.returned (.bool b)/\Below w.heap.size w w':=by
 rcases hE with hE|hE|⟨rfl,x,hx,rfl⟩|⟨rfl,x,y,hx,hy,rfl⟩|⟨rfl,x,y,hx,hy,rfl⟩
 ·exact iT sv k l r h em b w (.inl hE)
 ·exact iT sv k l r h em b w (.inr hE)
 ·exact qg B sv ns l r x h em w hL hx
 ·exact rK B sv ns l r x y h em w hL hx hy
 ·exact rL B sv ns l r x y h em w hL hx hy
end Go.Proofs.YtgncgdkpkkdaeaaGreatDoor
