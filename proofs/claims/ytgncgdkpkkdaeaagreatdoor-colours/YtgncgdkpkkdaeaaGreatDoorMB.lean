import Derived.Test.YtgncgdkpkkdaeaaGreatDoorMBase
import Derived.Lib.IndexAny
import Derived.Laws.StandIn
import Derived.Deep.LoopGhost
namespace Go.Proofs.YtgncgdkpkkdaeaaGreatDoor
open Go.RowKit aQ
variable {s t:List UInt8} {i:Nat} {b:UInt8} {v:Value} {w:World}
set_option maxHeartbeats 400000 in
theorem gl(b:UInt8)(s:List UInt8)(B P:Nat)(text:ByteArray)(at_:Nat)(ns:List (Nd Value))(w:World)(hP:fu w B P text at_ ns)(hb:rest text at_=b::s):
  Calls Tryz.prog 171 #[.pointer (some ⟨P,0,none⟩),.int .u8 b.toNat] w λe w'=>
   e=.returned (.bool true)/\fu w' B P text (at_+1) ns/\dN B w w'/\rest text (at_+1)=s:=by
 have KY:=hP;obtain ⟨⟨sv,h1,h2⟩,hle,hs,hB⟩:=hP
 have hlt:at_<text.size:=by
  rcases Nat.lt_or_ge at_ text.size with h|h
  ·exact h
  ·rw[dg h]at hb;cases hb
 rw[bm hlt]at hb;simp only[List.cons.injEq]at hb;obtain ⟨hb,hr⟩:=hb;have c0:w.cell? ⟨P,0,none⟩=some (.string text):=by simp[World.cell?,h1]
 have c1:w.cell? ⟨P,1,none⟩=some (.int .i64 at_):=by simp[World.cell?,h1]
 have f1:w.frozen? ⟨P,1,none⟩=false:=by simp[World.frozen?,h1]
 have hg:decide ((at_:Int)<(text.size:Int))=true:=by simpa using hlt
 have HP:=aa KY;have HR:=aa hr;clear h1 h2 KY hr;go_enter Tryz.func171,Tryz.ntmps171;go_wp2_with fail;go_quiet (fail);go_wp2;go_ret;refine ⟨rfl,?_,?_,HR.out⟩
 ·exact (HP.out.drewN nq).move (at_+1) hlt
 ·exact ((dN.refl B w).drewN nq).setCell (HP.out.drewN nq).mine _
set_option maxHeartbeats 400000 in
theorem dJ(b:UInt8)(B P:Nat)(text:ByteArray)(at_:Nat)(ns:List (Nd Value))(w:World)(hP:fu w B P text at_ ns)(hb:(rest text at_).head?≠some b):
  Calls Tryz.prog 171 #[.pointer (some ⟨P,0,none⟩),.int .u8 b.toNat] w λe w'=>
   e=.returned (.bool false)/\fu w' B P text at_ ns/\dN B w w':=by
 have HP:=aa hP;obtain ⟨⟨sv,h1,h2⟩,hle,hs,hB⟩:=hP;have c0:w.cell? ⟨P,0,none⟩=some (.string text):=by simp[World.cell?,h1]
 have c1:w.cell? ⟨P,1,none⟩=some (.int .i64 at_):=by simp[World.cell?,h1]
 clear h1 h2;rcases Nat.lt_or_ge at_ text.size with hlt|kt
 ·rw[bm hlt]at hb;simp only[List.head?_cons,ne_eq,Option.some.injEq]at hb;have hg:decide ((at_:Int)<(text.size:Int))=true:=by simpa using hlt
  have hb2:(((text[at_]).toNat:Int)==(b.toNat:Int))=false:=by rw[beq_eq_false_iff_ne];intro h;exact hb (UInt8.toNat_inj.1 (by omega))
  clear hb;go_enter Tryz.func171,Tryz.ntmps171;go_wp2_with fail;go_quiet (fail);go_wp2;go_ret;exact ⟨rfl,HP.out.drewN nq,(dN.refl B w).drewN nq⟩
 ·have hg:decide (at_<text.size)=false:=by simp;omega
  clear hb;go_enter Tryz.func171,Tryz.ntmps171;go_wp2_with fail;go_quiet (fail);go_wp2;go_ret;exact ⟨rfl,HP.out.drewN nq,(dN.refl B w).drewN nq⟩
theorem head_cons(h:t.head?=some b):∃s,t=b::s:=by
 cases t with
 | nil=>cases h
 | cons c s=>simp at h;exact ⟨s,by rw[h]⟩
theorem ia(b:UInt8)(B P:Nat)(text:ByteArray)(at_:Nat)(ns:List (Nd Value))(w:World)(hP:fu w B P text at_ ns):
  Calls Tryz.prog 171 #[.pointer (some ⟨P,0,none⟩),.int .u8 b.toNat] w λe w'=>
   ∃(r:Bool) (at':Nat),e=.returned (.bool r)/\fu w' B P text at' ns/\dN B w w' /\
    ((r=true/\rest text at_=b::rest text at')∨(r=false/\at'=at_/\(rest text at_).head?≠some b)):=by
 by_cases h:(rest text at_).head?=some b
 ·obtain ⟨s,hs⟩:=head_cons h;refine (gl b s B P text at_ ns w hP hs).mono ?_;rintro e w' ⟨rfl,h1,h2,h3⟩;exact ⟨true,_,rfl,h1,h2,.inl ⟨rfl,by rw[h3];exact hs⟩⟩
 ·refine (dJ b B P text at_ ns w hP h).mono ?_;rintro e w' ⟨rfl,h1,h2⟩;exact ⟨false,_,rfl,h1,h2,.inr ⟨rfl,rfl,h⟩⟩
theorem mA(s:ByteArray)(b:UInt8)(w:World):
  Sem.run Tryz.prog (callFunc 188 #[.string s,.int .u8 b.toNat]) w=.ok (.value (.int .i64 (Lib.indexByte s.data.toList b))) w:=by
 rw[run_callFunc_indexByte (fn:=Tryz.f188) Tryz.func188 (by kernel_rfl) (by kernel_rfl) (by kernel_rfl) (by kernel_rfl)];rw[Lib.run_indexByteString];simp[Result.andThen]
set_option maxHeartbeats 400000 in
theorem vx(s:ByteArray)(b:UInt8)(w:World):
  Calls Tryz.prog 205 #[.string s,.int .u8 b.toNat] w λe w'=>
   e=.returned (.int .i64 (Lib.indexByte s.data.toList b))/\w'=w:=by
 have hrun:=mA s b;go_enter Tryz.func205,Tryz.ntmps205;go_wp2;go_ret;exact ⟨rfl,rfl⟩
set_option maxHeartbeats 400000 in
theorem Af(s:ByteArray)(B P:Nat)(text:ByteArray)(at_:Nat)(ns:List (Nd Value))(w:World)(hP:fu w B P text at_ ns):
  Calls Tryz.prog 192 #[.pointer (some ⟨P,0,none⟩),.string s] w λe w'=>
   e=.returned (.bool (match (rest text at_).head? with|none=>false|some b=>s.data.toList.contains b))/\∃n,w'=w.drewN n:=by
 obtain ⟨⟨sv,h1,h2⟩,hle,hs,hB⟩:=hP;have c0:w.cell? ⟨P,0,none⟩=some (.string text):=by simp[World.cell?,h1]
 have c1:w.cell? ⟨P,1,none⟩=some (.int .i64 at_):=by simp[World.cell?,h1]
 clear h1 h2;rcases Nat.lt_or_ge at_ text.size with hlt|kt
 ·rw[bm hlt];have hg:decide ((at_:Int)<(text.size:Int))=true:=by simpa using hlt
  simp only[List.head?_cons];rw[Lib.contains_iff_indexByte];generalize hb:text[at_]=b;go_enter Tryz.func192,Tryz.ntmps192
  go_wp2_with fail;go_quiet ((go_at_call 205;exact Calls.quiet_of_same (vx _ _ _)));go_wp2;go_ret;exact ⟨rfl,nq,rfl⟩
 ·have hg:decide (at_<text.size)=false:=by simp;omega
  rw[dg kt];go_enter Tryz.func192,Tryz.ntmps192
  go_wp2_with fail;go_quiet (fail);go_wp2;go_ret;exact ⟨rfl,nq,rfl⟩
def signs:ByteArray:=⟨#[92,40,41,91,93,124,42,43,63,46,94,45]⟩
theorem nC:∀b:UInt8,dI b=true->32<=b.toNat/\b.toNat<=126:=by intro b h;simp only[dI,List.contains_cons,List.contains_nil,Bool.or_false,Bool.or_eq_true,beq_iff_eq]at h;rcases h with h|h|h|h|h|h|h|h|h|h|h|h<;>subst h<;>decide
theorem jN(d:UInt8)(s:List UInt8)(B P:Nat)(text:ByteArray)(at_:Nat)(ns:List (Nd Value))(w:World)(hP:fu w B P text at_ ns)(h:rest text at_=d::s)(f:Bool)(hf:dI d=f):
  Calls Tryz.prog 192 #[.pointer (some ⟨P,0,none⟩),.string ⟨#[92,40,41,91,93,124,42,43,63,46,94,45]⟩] w λe w'=>e=.returned (.bool f)/\∃n,w'=w.drewN n:=by
 refine (Af signs B P text at_ ns w hP).mono ?_;rintro e w' ⟨rfl,n,rfl⟩;refine ⟨?_,n,rfl⟩;rw[h];simp only[List.head?_cons];rw[<-hf];rfl
set_option maxHeartbeats 400000 in
theorem Fu(B P:Nat)(text:ByteArray)(at_:Nat)(ns:List (Nd Value))(w:World)(hP:fu w B P text at_ ns)(h:rest text at_=[]∨rest text at_=[92]):
  Calls Tryz.prog 211 #[.pointer (some ⟨P,0,none⟩)] w λe w'=>
   dN B w w'/\(∃at',fu w' B P text at' ns)/\e=.returned (.tuple #[.int .u8 0,.bool false]):=by
 have HP:=aa hP;rcases h with h|h
 ·have he:=kO hP.le h;subst he;have hh:(rest text text.size).head?≠some 92:=by rw[h];simp
  clear hP h;go_enter Tryz.func211,Tryz.ntmps211;go_wp2_with fail;refine (dJ 92 B P text text.size ns w HP.out hh).mono ?_;rintro e w' ⟨rfl,jO,hF⟩;obtain ⟨c0,c1,f1⟩:=jO.cells;have Ag:=aa jO;have HF:=aa hF;clear jO hF;go_wp2_with fail;go_quiet (fail);go_wp2;go_ret2;exact ⟨HF.out.drewN nq,⟨_,Ag.out.drewN nq⟩,rfl⟩
 ·obtain ⟨hlt,_,hn⟩:=dw h;have he:at_+1=text.size:=kO hlt hn;have HH:=aa h;have HE:=aa he;clear hP h hn he;go_enter Tryz.func211,Tryz.ntmps211;go_wp2_with fail;refine (gl 92 [] B P text at_ ns w HP.out HH.out).mono ?_;rintro e w' ⟨rfl,jO,hF,hX⟩;rw[HE.out]at jO;obtain ⟨c0,c1,f1⟩:=jO.cells;have Ag:=aa jO
  have HF:=aa hF;clear jO hF hX;go_wp2_with fail;go_quiet (fail);go_wp2;go_ret2;exact ⟨HF.out.drewN nq,⟨_,Ag.out.drewN nq⟩,rfl⟩
set_option maxHeartbeats 400000 in
theorem Di(d:UInt8)(s:List UInt8)(B P:Nat)(text:ByteArray)(at_:Nat)(ns:List (Nd Value))(w:World)(hP:fu w B P text at_ ns)(h:rest text at_=92::d::s)(hs:dI d=true):
  Calls Tryz.prog 211 #[.pointer (some ⟨P,0,none⟩)] w λe w'=>
   dN B w w'/\e=.returned (.tuple #[.int .u8 d.toNat,.bool true])/\fu w' B P text (at_+2) ns/\rest text (at_+2)=s:=by
 have HP:=aa hP;have HH:=aa h;have hr:=nC d hs;have HS:=aa hs;clear hP h hs;go_enter Tryz.func211,Tryz.ntmps211;go_wp2_with fail;refine (gl 92 (d::s) B P text at_ ns w HP.out HH.out).mono ?_;rintro e w' ⟨rfl,jO,hF,hX⟩;obtain ⟨j,hj⟩:∃j,j=at_+1:=⟨_,rfl⟩;have HJ:=aa hj;rw[<-hj]at jO hX;clear hj
 obtain ⟨c0,c1,f1⟩:=jO.cells;obtain ⟨We,hd,rJ⟩:=dw hX;have hg:((j:Int)==(text.size:Int))=false:=by rw[beq_eq_false_iff_ne];omega
 have hsm:=jO.small;have Ag:=aa jO;have HF:=aa hF;have HX:=aa hX;have HN:=aa rJ;clear jO hF hX rJ;go_wp2_with fail;go_quiet ((go_at_call 192;exact Calls.quiet_of (jN d s B P text j ns _ (Ag.out.drewN _) HX.out true HS.out)))
 rename Nat=>Wf
 go_wp2_with fail;go_quiet (fail);go_wp2;go_ret2;have hJ:=HJ.out;refine ⟨(HF.out.drewN _).setCell (Ag.out.drewN _).mine _,by simp;omega,?_,?_⟩
 ·have:=(Ag.out.drewN (Wf+nq)).move (j+1) (by omega);rw[show at_+2=j+1 by omega];exact this
 ·rw[show at_+2=j+1 by omega];exact HN.out
set_option maxHeartbeats 400000 in
theorem Ah(d:UInt8)(s:List UInt8)(B P:Nat)(text:ByteArray)(at_:Nat)(ns:List (Nd Value))(w:World)(hP:fu w B P text at_ ns)(h:rest text at_=92::d::s)(hs:dI d=false):
  Calls Tryz.prog 211 #[.pointer (some ⟨P,0,none⟩)] w λe w'=>
   dN B w w'/\(∃at',fu w' B P text at' ns)/\e=.returned (.tuple #[.int .u8 0,.bool false]):=by
 have HP:=aa hP;have HH:=aa h;have HS:=aa hs;clear hP h hs;go_enter Tryz.func211,Tryz.ntmps211;go_wp2_with fail;refine (gl 92 (d::s) B P text at_ ns w HP.out HH.out).mono ?_;rintro e w' ⟨rfl,jO,hF,hX⟩;obtain ⟨j,hj⟩:∃j,j=at_+1:=⟨_,rfl⟩;rw[<-hj]at jO hX;clear hj;obtain ⟨c0,c1,f1⟩:=jO.cells
 obtain ⟨We,hd,rJ⟩:=dw hX;have hg:((j:Int)==(text.size:Int))=false:=by rw[beq_eq_false_iff_ne];omega
 have Ag:=aa jO;have HF:=aa hF;have HX:=aa hX;clear jO hF hX rJ;go_wp2_with fail;go_quiet ((go_at_call 192;exact Calls.quiet_of (jN d s B P text j ns _ (Ag.out.drewN _) HX.out false HS.out)));go_wp2;go_ret2;exact ⟨HF.out.drewN nq,⟨_,Ag.out.drewN nq⟩,rfl⟩
set_option maxHeartbeats 400000 in
theorem KZ(c:UInt8)(s:List UInt8)(B P:Nat)(text:ByteArray)(at_:Nat)(ns:List (Nd Value))(w:World)(hP:fu w B P text at_ ns)(h:rest text at_=c::s)(uO:c≠92)(hs:dI c=true):
  Calls Tryz.prog 211 #[.pointer (some ⟨P,0,none⟩)] w λe w'=>
   dN B w w'/\(∃at',fu w' B P text at' ns)/\e=.returned (.tuple #[.int .u8 0,.bool false]):=by
 have HP:=aa hP;have HH:=aa h;have HS:=aa hs;have h9:=aa (show (rest text at_).head?≠some 92 by rw[h];simpa using uO);obtain ⟨hlt,hc,hn⟩:=dw h;have hg:((at_:Int)==(text.size:Int))=false:=by rw[beq_eq_false_iff_ne];omega
 clear hP h hs hn uO;go_enter Tryz.func211,Tryz.ntmps211;go_wp2_with fail;refine (dJ 92 B P text at_ ns w HP.out h9.out).mono ?_;rintro e w' ⟨rfl,jO,hF⟩;obtain ⟨c0,c1,f1⟩:=jO.cells;have Ag:=aa jO;have HF:=aa hF;clear jO hF;go_wp2_with fail
 go_quiet ((go_at_call 192;exact Calls.quiet_of (jN c s B P text at_ ns _ (Ag.out.drewN _) HH.out true HS.out)));go_wp2;go_ret2;exact ⟨HF.out.drewN nq,⟨_,Ag.out.drewN nq⟩,rfl⟩
set_option maxHeartbeats 400000 in
theorem G4(c:UInt8)(s:List UInt8)(B P:Nat)(text:ByteArray)(at_:Nat)(ns:List (Nd Value))(w:World)(hP:fu w B P text at_ ns)(h:rest text at_=c::s)(uO:c≠92)(hs:dI c=false):
  Calls Tryz.prog 211 #[.pointer (some ⟨P,0,none⟩)] w λe w'=>
   dN B w w'/\e=.returned (.tuple #[.int .u8 c.toNat,.bool (decide (32<=c.toNat/\c.toNat<=126))])/\fu w' B P text (at_+1) ns/\rest text (at_+1)=s:=by
 have HP:=aa hP;have HH:=aa h;have HS:=aa hs;have h9:=aa (show (rest text at_).head?≠some 92 by rw[h];simpa using uO);obtain ⟨hlt,hc,hn⟩:=dw h;have hg:((at_:Int)==(text.size:Int))=false:=by rw[beq_eq_false_iff_ne];omega
 have hsm:=hP.small;have HN:=aa hn;clear hP h hs hn uO;go_enter Tryz.func211,Tryz.ntmps211;go_wp2_with fail;refine (dJ 92 B P text at_ ns w HP.out h9.out).mono ?_;rintro e w' ⟨rfl,jO,hF⟩;obtain ⟨c0,c1,f1⟩:=jO.cells;have Ag:=aa jO;have HF:=aa hF;clear jO hF;go_wp2_with fail
 go_quiet ((go_at_call 192;exact Calls.quiet_of (jN c s B P text at_ ns _ (Ag.out.drewN _) HH.out false HS.out)))
 rename Nat=>Wf
 go_wp2_with fail;go_quiet (fail);go_wp2
 all_goals
  go_ret2;have iz:=(Ag.out.drewN (Wf+nq)).move (at_+1) hlt;refine ⟨(HF.out.drewN (Wf+nq)).setCell (Ag.out.drewN (Wf+nq)).mine _,?_,iz,HN.out⟩;rename_i h32;simp
  first|omega|(rw[Bool.eq_iff_iff];simp;omega)
theorem jP(B P:Nat)(text:ByteArray)(at_:Nat)(ns:List (Nd Value))(w:World)(hP:fu w B P text at_ ns):
  Calls Tryz.prog 211 #[.pointer (some ⟨P,0,none⟩)] w λe w'=>
   dN B w w'/\∃(b:UInt8) (at':Nat),fu w' B P text at' ns /\
    ((dv (rest text at_)=some (b,rest text at')/\e=.returned (.tuple #[.int .u8 b.toNat,.bool true])) ∨
     (dv (rest text at_)=none/\e=.returned (.tuple #[.int .u8 b.toNat,.bool false]))):=by
 cases hr:rest text at_ with
 | nil=>
  refine (Fu B P text at_ ns w hP (.inl hr)).mono ?_;rintro e w' ⟨hF,⟨at',jO⟩,rfl⟩;exact ⟨hF,0,at',jO,.inr ⟨rfl,rfl⟩⟩
 | cons c s=>
  by_cases uO:c=92
  ·subst uO
   cases s with
   | nil=>
    refine (Fu B P text at_ ns w hP (.inr hr)).mono ?_;rintro e w' ⟨hF,⟨at',jO⟩,rfl⟩;exact ⟨hF,0,at',jO,.inr ⟨rfl,rfl⟩⟩
   | cons d s=>
    cases hs:dI d with
    | true=>
     refine (Di d s B P text at_ ns w hP hr hs).mono ?_;rintro e w' ⟨hF,rfl,jO,h2⟩;exact ⟨hF,d,at_+2,jO,.inl ⟨by simp[dv,hs,h2],rfl⟩⟩
    | false=>
     refine (Ah d s B P text at_ ns w hP hr hs).mono ?_;rintro e w' ⟨hF,⟨at',jO⟩,rfl⟩;exact ⟨hF,0,at',jO,.inr ⟨by simp[dv,hs],rfl⟩⟩
  ·cases hs:dI c with
   | true=>
    refine (KZ c s B P text at_ ns w hP hr uO hs).mono ?_;rintro e w' ⟨hF,⟨at',jO⟩,rfl⟩;exact ⟨hF,0,at',jO,.inr ⟨by simp[dv,hs,uO],rfl⟩⟩
   | false=>
    refine (G4 c s B P text at_ ns w hP hr uO hs).mono ?_;rintro e w' ⟨hF,rfl,jO,h2⟩;refine ⟨hF,c,at_+1,jO,?_⟩;by_cases hc:32<=c.toNat/\c.toNat<=126
    ·exact .inl ⟨by simp[dv,hs,uO,h2,hc],by simp[hc]⟩
    ·exact .inr ⟨by simp[dv,hs,uO];omega,by simp[hc]⟩
theorem aB.shape{c:ej}(h:aB w v c):∃g cap,v=.func (.func g) #[] cap:=by
 cases c with
 | any=>exact ⟨_,_,h⟩
 | range lo hi=>obtain ⟨p,q,e,_⟩:=h;exact ⟨_,_,e⟩
 | union a b=>obtain ⟨p,q,va,vb,e,_⟩:=h;exact ⟨_,_,e⟩
 | gZ a=>obtain ⟨p,va,e,_⟩:=h;exact ⟨_,_,e⟩
set_option maxHeartbeats 400000 in
theorem gm(lo hi:UInt8)(w:World):
  Calls Tryz.prog 212 #[.int .u8 lo.toNat,.int .u8 hi.toNat] w λe w'=>
   ∃v,e=.returned v/\aB w' v (.range lo hi)/\Below w.heap.size w w':=by
 go_enter Tryz.func212,Tryz.ntmps212;go_wp2;go_ret;refine ⟨_,rfl,⟨_,_,rfl,?_,?_⟩,?_⟩
 ·exact heap_alloc_old (af w _)
 ·have:=af (w.alloc (.cells #[.int .u8 lo.toNat] 5)) (.cells #[.int .u8 hi.toNat] 5);simpa using this
 ·exact ((Below.refl _ _).alloc (Nat.le_refl _) _).alloc (by simp) _
set_option maxHeartbeats 400000 in
theorem Dj(a b:ej)(va vb:Value)(w:World)(ha:aB w va a)(hb:aB w vb b):
  Calls Tryz.prog 214 #[va,vb] w λe w'=>
   ∃v,e=.returned v/\aB w' v (.union a b)/\Below w.heap.size w w':=by
 obtain ⟨g1,mB,e1⟩:=ha.shape;obtain ⟨g2,s9,e2⟩:=hb.shape;subst e1 e2;have HA:=aa ha;have HB:=aa hb;clear ha hb;go_enter Tryz.func214,Tryz.ntmps214;go_wp2;go_ret
 have hbl:Below w.heap.size w ((w.alloc (.cells #[.func (.func g1) #[] mB] 290)).alloc (.cells #[.func (.func g2) #[] s9] 290)):=((Below.refl _ _).alloc (Nat.le_refl _) _).alloc (by simp) _;refine ⟨_,rfl,⟨_,_,_,_,rfl,?_,?_,HA.out.stay (bu.ar hbl),HB.out.stay (bu.ar hbl)⟩,hbl⟩
 ·exact heap_alloc_old (af w _)
 ·have:=af (w.alloc (.cells #[.func (.func g1) #[] mB] 290)) (.cells #[.func (.func g2) #[] s9] 290);simpa using this
set_option maxHeartbeats 400000 in
theorem td(a:ej)(va:Value)(w:World)(ha:aB w va a):
  Calls Tryz.prog 215 #[va] w λe w'=>
   ∃v,e=.returned v/\aB w' v (.gZ a)/\Below w.heap.size w w':=by
 obtain ⟨g1,mB,e1⟩:=ha.shape;subst e1;have HA:=aa ha;clear ha;go_enter Tryz.func215,Tryz.ntmps215;go_wp2;go_ret;have hbl:Below w.heap.size w (w.alloc (.cells #[.func (.func g1) #[] mB] 290)):=(Below.refl _ _).alloc (Nat.le_refl _) _;exact ⟨_,rfl,⟨_,_,rfl,af w _,HA.out.stay (bu.ar hbl)⟩,hbl⟩
theorem Dk(h:dv s=none):bh s=none:=by simp[bh,h]
theorem vy(h:dv s=some (b,t))(ht:t.head?≠some 45):bh s=some (.range b b,t):=by
 cases t with
 | nil=>simp[bh,h]
 | cons c t=>simp at ht;simp[bh,h,ht]
theorem rK(h:dv s=some (b,45::t))(h2:dv t=none):bh s=none:=by simp[bh,h,h2]
theorem kQ{u:List UInt8}{c:UInt8}(h:dv s=some (b,45::t))(h2:dv t=some (c,u)):
  bh s=if b.toNat<=c.toNat then some (.range b c,u) else none:=by simp[bh,h,h2]
-- abF: the class,or that it is none.
set_option maxHeartbeats 1000000 in
theorem xY(B P:Nat)(text:ByteArray)(at_:Nat)(ns:List (Nd Value))(w:World)(hP:fu w B P text at_ ns):
  Calls Tryz.prog 213 #[.pointer (some ⟨P,0,none⟩)] w λe w'=>
   dN B w w'/\∃(v:Value) (at':Nat) (c:ej),fu w' B P text at' ns/\aB w' v c /\
    ((bh (rest text at_)=some (c,rest text at')/\e=.returned (.tuple #[v,.bool true])) ∨
     (bh (rest text at_)=none/\e=.returned (.tuple #[v,.bool false]))):=by
 have HP:=aa hP;clear hP;go_enter Tryz.func213,Tryz.ntmps213;go_wp2_with fail;refine (jP B P text at_ ns w HP.out).mono ?_;rintro e w1 ⟨fH,b,jQ,mC,⟨h1,rfl⟩|⟨h1,rfl⟩⟩
 ·have gp:=aa mC;have jR:=aa fH;have H1:=aa h1;clear mC fH h1;by_cases hd:(rest text jQ).head?=some 45
  ·obtain ⟨s,hs⟩:=head_cons hd;have HS:=aa hs;clear hs hd;go_wp2_with fail;refine (gl 45 s B P text jQ ns w1 gp.out HS.out).mono ?_;rintro e w2 ⟨rfl,iz,hF2,hr2⟩;have lW:=aa iz;have et:=aa hF2;have kR:=aa hr2;clear iz hF2 hr2;go_wp2_with fail;refine (jP B P text (jQ+1) ns w2 lW.out).mono ?_;rintro e w3 ⟨dp,b3,Ai,jD,⟨h3,rfl⟩|⟨h3,rfl⟩⟩
   ·have pF:=aa jD;have gz:=aa dp;have H3:=aa h3;clear jD dp h3;go_wp2_with fail;refine (gm b b3 w3).mono ?_;rintro e w4 ⟨v,rfl,hv,jB⟩;have HV:=aa hv;have jC:=aa jB;clear hv jB;go_wp2_with fail;go_ret2;have G5:=kQ (HS.out▸H1.out) (kR.out▸H3.out)
    refine ⟨((jR.out.trans et.out).trans gz.out).trans (dN.ar jC.out),v,Ai,_,pF.out.below jC.out,HV.out,?_⟩;by_cases hle:b.toNat<=b3.toNat
    ·exact .inl ⟨by rw[G5,if_pos hle],by simp[hle]⟩
    ·exact .inr ⟨by rw[G5,if_neg hle],by simp[hle]⟩
   ·have pF:=aa jD;have gz:=aa dp;have H3:=aa h3;clear jD dp h3;go_wp2_with fail;refine (gm b b3 w3).mono ?_;rintro e w4 ⟨v,rfl,hv,jB⟩;have HV:=aa hv;have jC:=aa jB;clear hv jB;go_wp2_with fail;go_ret2;have G5:=rK (HS.out▸H1.out) (kR.out▸H3.out)
    exact ⟨((jR.out.trans et.out).trans gz.out).trans (dN.ar jC.out),v,Ai,_,pF.out.below jC.out,HV.out,.inr ⟨G5,by simp⟩⟩
  ·have HD:=aa hd;clear hd;go_wp2_with fail;refine (dJ 45 B P text jQ ns w1 gp.out HD.out).mono ?_;rintro e w2 ⟨rfl,iz,hF2⟩;have lW:=aa iz;have et:=aa hF2;clear iz hF2;go_wp2_with fail;refine (gm b b w2).mono ?_;rintro e w4 ⟨v,rfl,hv,jB⟩;have HV:=aa hv;have jC:=aa jB;clear hv jB;go_wp2_with fail;go_ret2
   exact ⟨(jR.out.trans et.out).trans (dN.ar jC.out),v,jQ,_,lW.out.below jC.out,HV.out,.inl ⟨vy H1.out HD.out,by simp⟩⟩
 ·have gp:=aa mC;have jR:=aa fH;have H1:=aa h1;clear mC fH h1;go_wp2_with fail;refine (gm b b w1).mono ?_;rintro e w4 ⟨v,rfl,hv,jB⟩;have HV:=aa hv;have jC:=aa jB;clear hv jB;go_wp2_with fail;go_ret2;exact ⟨jR.out.trans (dN.ar jC.out),v,jQ,_,gp.out.below jC.out,HV.out,.inr ⟨Dk H1.out,by simp⟩⟩
theorem th(B P:Nat)(text:ByteArray)(at_:Nat)(ns:List (Nd Value))(w:World)(hP:fu w B P text at_ ns):
  Calls Tryz.prog 213 #[.pointer (some ⟨P,0,none⟩)] w λe w'=>
   ∃(v:Value) (ok:Bool) (at':Nat) (c:ej),e=.returned (.tuple #[v,.bool ok])/\dN B w w'/\fu w' B P text at' ns/\aB w' v c /\
    ((ok=true/\bh (rest text at_)=some (c,rest text at'))∨(ok=false/\bh (rest text at_)=none)):=by
 refine (xY B P text at_ ns w hP).mono ?_;rintro e w' ⟨hF,v,at',c,h1,h2,⟨h3,rfl⟩|⟨h3,rfl⟩⟩
 ·exact ⟨v,true,at',c,rfl,hF,h1,h2,.inl ⟨rfl,h3⟩⟩
 ·exact ⟨v,false,at',c,rfl,hF,h1,h2,.inr ⟨rfl,h3⟩⟩
def xZ(B P:Nat)(text:ByteArray)(ns:List (Nd Value))(w2:World)(pG:Nat)(c2:ej)(ok:Bool)(k:Nat)(has N5:Value)(wr:World):Prop:=
 dN B w2 wr/\∃at' c,fu wr B P text at' ns/\aB wr has c /\
   ((N5=.bool true/\ok=true/\k=1+(rest text at').length/\∀o,Ae c (rest text at') o->Ae c2 (rest text pG) o) ∨
    (N5=.bool false/\k=0/\(ok=true->Ae c2 (rest text pG) none)))
def OZ(B P:Nat)(text:ByteArray)(at_:Nat)(ns:List (Nd Value))(w:World)(e:Ending)(w':World):Prop:=
 dN B w w'/\∃(v:Value) (at':Nat) (c:ej),fu w' B P text at' ns/\aB w' v c /\
  ((er (rest text at_) (some (c,rest text at'))/\e=.returned (.tuple #[v,.bool true])) ∨
   (er (rest text at_) none/\e=.returned (.tuple #[v,.bool false])))
set_option maxHeartbeats 1000000 in
theorem pU(B P:Nat)(text:ByteArray)(at_:Nat)(ns:List (Nd Value))(w:World)(hP:fu w B P text at_ ns):
  Calls Tryz.prog 210 #[.pointer (some ⟨P,0,none⟩)] w λe w'=>
   OZ B P text at_ ns w e w':=by
 have HP:=aa hP;clear hP;go_enter Tryz.func210,Tryz.ntmps210;go_wp2_with fail;refine (ia 94 B P text at_ ns w HP.out).mono ?_;rintro e w1 ⟨r,jQ,rfl,mC,fH,hr1⟩;have gp:=aa mC;have jR:=aa fH;have ez:=aa hr1;clear mC fH hr1;go_wp2_with fail;refine (th B P text jQ ns w1 gp.out).mono ?_
 rintro e w2 ⟨v,ok,pG,c2,rfl,hF2,iz,hv2,h2⟩;have et:=aa hF2;have lW:=aa iz;have U0:=aa hv2;have H2:=aa h2;clear hF2 iz hv2 h2;go_wp2_with fail;go_loopg [5,6] (if ok then 1+(rest text pG).length else 0) (λk has N5 wr=>xZ B P text ns w2 pG c2 ok k has N5 wr)
 case atStart=>
  refine ⟨dN.refl _ _,pG,c2,lW.out,U0.out,?_⟩;rcases H2.out with ⟨rfl,h⟩|⟨rfl,h⟩
  ·exact .inl ⟨rfl,rfl,rfl,λo h=>h⟩
  ·exact .inr ⟨rfl,rfl,λh=>by cases h⟩
 case round=>
  obtain ⟨dp,Ai,c3,jD,hv3,⟨rfl,eA,hk,G5⟩|⟨rfl,hk,G5⟩⟩:=hrel
  ·have pF:=aa jD;have gz:=aa dp;have U1:=aa hv3;have HK:=aa hk;have x9:=aa G5;have xP:=aa eA;clear jD dp hv3 hk G5 eA;go_wp2_with fail;refine (ia 93 B P text Ai ns wr pF.out).mono ?_;rintro e w4 ⟨r4,Q6,rfl,wG,lX,⟨rfl,hr4⟩|⟨rfl,he4,hr4⟩⟩
   ·have Fv:=aa wG;have mD:=aa lX;have rL:Ae c2 (rest text pG) (some (c3,rest text Q6)):=x9.out _ (by rw[hr4];exact .stop);have jS:=aa rL;clear wG lX hr4 rL
    have h2:bh (rest text jQ)=some (c2,rest text pG):=by
     rcases H2.out with h|h
     ·exact h.2
     ·rw[xP.out]at h;cases h.1
    have H3:=aa h2;clear h2;rcases ez.out with ⟨rfl,hR⟩|⟨rfl,hR⟩
    ·have HR:=aa hR;clear hR;go_wp2_with fail;refine (td c3 u5 w4 (U1.out.stay mD.out.stay)).mono ?_;rintro e w5 ⟨v5,rfl,Q7,vz⟩;have Wh:=aa Q7;have Aj:=aa vz;clear Q7 vz;go_wp2_with fail;go_ret2;refine ⟨(((jR.out.trans et.out).trans gz.out).trans mD.out).trans (dN.ar Aj.out),v5,Q6,_,Fv.out.below Aj.out,Wh.out,.inl ⟨?_,by simp⟩⟩;rw[HR.out]
     exact .neg H3.out jS.out
    ·have HR:=aa hR;clear hR;go_wp2_with fail;go_ret2;refine ⟨((jR.out.trans et.out).trans gz.out).trans mD.out,u5,Q6,c3,Fv.out,U1.out.stay mD.out.stay,.inl ⟨?_,by simp⟩⟩;have h3:=H3.out;rw[HR.out.1]at h3;exact .pos HR.out.2 h3 jS.out
   ·subst he4;have Fv:=aa wG;have mD:=aa lX;have G6:=aa hr4;clear wG lX hr4;go_wp2_with fail;refine (th B P text Q6 ns w4 Fv.out).mono ?_;rintro e w5 ⟨v5,ok5,at5,c5,rfl,Ak,Q8,Q7,h5⟩;have Kk:=aa Ak;have Wi:=aa Q8;have Wh:=aa Q7;have H5:=aa h5;clear Ak Q8 Q7 h5;go_wp2_with fail
    refine (Dj c3 c5 u5 v5 w5 (U1.out.stay (mD.out.stay.trans Kk.out.stay)) Wh.out).mono ?_;rintro e w6 ⟨v6,rfl,hv6,hB6⟩;have HV6:=aa hv6;have ZK:=aa hB6;clear hv6 hB6;go_wp2_with fail;go_roundg (if ok5 then 1+(rest text at5).length else 0)
    case measure=>
     rw[HK.out];rcases H5.out with ⟨rfl,h⟩|⟨rfl,h⟩
     ·have:=jM h;simp;omega
     ·simp;omega
    case rel=>
     refine ⟨((gz.out.trans mD.out).trans Kk.out).trans (dN.ar ZK.out),at5,_,Wi.out.below ZK.out,HV6.out,?_⟩;rcases H5.out with ⟨rfl,h⟩|⟨rfl,h⟩
     ·exact .inl ⟨rfl,xP.out,rfl,λo ho=>x9.out o (.more G6.out h ho)⟩
     ·exact .inr ⟨rfl,rfl,λ_=>x9.out _ (.bad G6.out h)⟩
  ·have pF:=aa jD;have gz:=aa dp;have U1:=aa hv3;have x9:=aa G5;clear jD dp hv3 G5 hk;rcases ez.out with ⟨rfl,hR⟩|⟨rfl,hR⟩
   ·have HR:=aa hR;clear hR;go_wp2_with fail;refine (td c3 u5 wr U1.out).mono ?_;rintro e w5 ⟨v5,rfl,Q7,vz⟩;have Wh:=aa Q7;have Aj:=aa vz;clear Q7 vz;go_wp2_with fail;go_ret2;refine ⟨((jR.out.trans et.out).trans gz.out).trans (dN.ar Aj.out),v5,Ai,_,pF.out.below Aj.out,Wh.out,.inr ⟨?_,by simp⟩⟩;rw[HR.out];rcases H2.out with ⟨h,h2⟩|⟨h,h2⟩
    ·exact .neg h2 (x9.out h)
    ·exact .kN h2
   ·have HR:=aa hR;clear hR;go_wp2_with fail;go_ret2;refine ⟨(jR.out.trans et.out).trans gz.out,u5,Ai,c3,pF.out,U1.out,.inr ⟨?_,by simp⟩⟩;rcases H2.out with ⟨h,h2⟩|⟨h,h2⟩
    ·rw[HR.out.1]at h2;exact .pos HR.out.2 h2 (x9.out h)
    ·rw[HR.out.1]at h2;exact .kM HR.out.2 h2
theorem bb.at{B:Nat}{sv:Value}{ns:List (Nd Value)}(h:bb w B sv ns){nd:Nd Value}(hi:ns[i]?=some nd):
  ∃g cap,sv=.slice (some ⟨g,0,none⟩) ns.length cap/\w.cell? ⟨g,i*5,none⟩=some (.int .i64 nd.kind)/\w.cell? ⟨g,i*5+1,none⟩=some nd.has /\
   w.cell? ⟨g,i*5+2,none⟩=some (.int .i64 nd.left)/\w.cell? ⟨g,i*5+3,none⟩=some (.int .i64 nd.right)/\w.cell? ⟨g,i*5+4,none⟩=some (.bool nd.empty):=by
 have hlt:i<ns.length:=by
  rcases Nat.lt_or_ge i ns.length with h' | h'
  ·exact h'
  ·rw[List.getElem?_eq_none h']at hi;cases hi
 obtain ⟨⟨h1,h2⟩,_⟩:=h;rcases h2 with ⟨rfl,h0⟩|⟨g,cap,cur,rfl,hg,hh,hn,hc,hs,ht⟩
 ·omega
 ·refine ⟨g,cap,rfl,?_⟩
  have key:∀j,j<5->w.cell? ⟨g,i*5+j,none⟩=(eN nd)[j]?:=by
   intro j hj;rw[<-qJ hi j hj,<-ht];have hb:i*5+j<ns.length*5:=by omega
   rw[List.getElem?_take_of_lt hb];simp[World.cell?,hh]
  refine ⟨key 0 (by omega),key 1 (by omega),key 2 (by omega),key 3 (by omega),key 4 (by omega)⟩
theorem aq{a:Addr}(h:w.cell? a=some v)(o:Obj):(w.alloc o).cell? a=some v:=by rw[World.cell?_of_block (w:=w) (Below.heap_alloc _ _ _ (World.block_lt_of_cell? w a h))];exact h
theorem au{α:Type}{l:List α}{x:α}(h:l[i]?=some x):i<l.length:=by
 rcases Nat.lt_or_ge i l.length with h' | h'
 ·exact h'
 ·rw[List.getElem?_eq_none h']at h;cases h
set_option maxHeartbeats 400000 in
theorem pV(B:Nat)(sv:Value)(ns:List (Nd Value))(l r:Nat)(x y:Nd Value)(h:Value)(em:Bool)(w:World)(hL:bb w B sv ns)(hx:ns[l]?=some x)(hy:ns[r]?=some y):
  Calls Tryz.prog 195 #[sv,.agg #[.int .i64 2,h,.int .i64 l,.int .i64 r,.bool em]] w λe w'=>
   e=.returned (.bool (x.empty&&y.empty))/\Below w.heap.size w w':=by
 obtain ⟨g,cap,rfl,-,-,-,-,Q9⟩:=hL.at hx;obtain ⟨g',cap',e',-,-,-,-,Wj⟩:=hL.at hy;cases e';have JU:=aq Q9;have hya:=aq Wj;have hl:=au hx;have hr:=au hy;clear hL hx hy Q9 Wj;go_enter Tryz.func195,Tryz.ntmps195;go_wp2
 all_goals
  go_ret;exact ⟨by simp[*],(Below.refl _ _).alloc (Nat.le_refl _) _⟩
set_option maxHeartbeats 400000 in
theorem pW(B:Nat)(sv:Value)(ns:List (Nd Value))(l r:Nat)(x y:Nd Value)(h:Value)(em:Bool)(w:World)(hL:bb w B sv ns)(hx:ns[l]?=some x)(hy:ns[r]?=some y):
  Calls Tryz.prog 195 #[sv,.agg #[.int .i64 3,h,.int .i64 l,.int .i64 r,.bool em]] w λe w'=>
   e=.returned (.bool (x.empty||y.empty))/\Below w.heap.size w w':=by
 obtain ⟨g,cap,rfl,-,-,-,-,Q9⟩:=hL.at hx;obtain ⟨g',cap',e',-,-,-,-,Wj⟩:=hL.at hy;cases e';have JU:=aq Q9;have hya:=aq Wj;have hl:=au hx;have hr:=au hy;clear hL hx hy Q9 Wj;go_enter Tryz.func195,Tryz.ntmps195;go_wp2
 all_goals
  go_ret;exact ⟨by simp[*],(Below.refl _ _).alloc (Nat.le_refl _) _⟩
set_option maxHeartbeats 400000 in
theorem oA(B:Nat)(sv:Value)(ns:List (Nd Value))(l:Nat)(r:Int)(x:Nd Value)(h:Value)(em:Bool)(w:World)(hL:bb w B sv ns)(hx:ns[l]?=some x):
  Calls Tryz.prog 195 #[sv,.agg #[.int .i64 5,h,.int .i64 l,.int .i64 r,.bool em]] w λe w'=>
   e=.returned (.bool x.empty)/\Below w.heap.size w w':=by
 obtain ⟨g,cap,rfl,-,-,-,-,Q9⟩:=hL.at hx;have JU:=aq Q9;have hl:=au hx;clear hL hx Q9;go_enter Tryz.func195,Tryz.ntmps195;go_wp2;go_ret;exact ⟨by simp[*],(Below.refl _ _).alloc (Nat.le_refl _) _⟩
set_option maxHeartbeats 400000 in
theorem ib(sv:Value)(k:Nat)(l r:Int)(h:Value)(em b:Bool)(w:World)(hk:(k=1/\b=false)∨((k=4∨k=6)/\b=true)):
  Calls Tryz.prog 195 #[sv,.agg #[.int .i64 k,h,.int .i64 l,.int .i64 r,.bool em]] w λe w'=>
   e=.returned (.bool b)/\Below w.heap.size w w':=by
 rcases hk with ⟨rfl,rfl⟩|⟨rfl|rfl,rfl⟩
 all_goals
  go_enter Tryz.func195,Tryz.ntmps195;go_wp2;go_ret;exact ⟨rfl,(Below.refl _ _).alloc (Nat.le_refl _) _⟩
def K0(ns:List (Nd Value))(k l r:Nat)(b:Bool):Prop:=
 (k=1/\b=false)∨((k=4∨k=6)/\b=true)∨(k=5/\∃x,ns[l]?=some x/\b=x.empty) ∨
 (k=2/\∃x y,ns[l]?=some x/\ns[r]?=some y/\b=(x.empty&&y.empty)) ∨
 (k=3/\∃x y,ns[l]?=some x/\ns[r]?=some y/\b=(x.empty||y.empty))
theorem ji(B:Nat)(sv:Value)(ns:List (Nd Value))(k l r:Nat)(h:Value)(em b:Bool)(w:World)(hL:bb w B sv ns)(hE:K0 ns k l r b):
  Calls Tryz.prog 195 #[sv,.agg #[.int .i64 k,h,.int .i64 l,.int .i64 r,.bool em]] w λe w'=>
   e=.returned (.bool b)/\Below w.heap.size w w':=by
 rcases hE with hE|hE|⟨rfl,x,hx,rfl⟩|⟨rfl,x,y,hx,hy,rfl⟩|⟨rfl,x,y,hx,hy,rfl⟩
 ·exact ib sv k l r h em b w (.inl hE)
 ·exact ib sv k l r h em b w (.inr hE)
 ·exact oA B sv ns l r x h em w hL hx
 ·exact pV B sv ns l r x y h em w hL hx hy
 ·exact pW B sv ns l r x y h em w hL hx hy
end Go.Proofs.YtgncgdkpkkdaeaaGreatDoor
