import Derived.Test.YtgncgdkpkkdaeaaGreatDoorMBase
import Derived.Lib.IndexAny
import Derived.Laws.StandIn
import Derived.Deep.LoopGhost
namespace Go.Proofs.YtgncgdkpkkdaeaaGreatDoor
open Go.RowKit aO
variable {s t:List UInt8} {i:Nat} {b:UInt8} {v:Value} {w:World}
set_option maxHeartbeats 400000 in
theorem gF(b:UInt8)(s:List UInt8)(B P:Nat)(text:ByteArray)(at_:Nat)(ns:List (Nd Value))(w:World)(hP:fI w B P text at_ ns)(hb:rest text at_=b::s):
  Calls Tryz.prog 171 #[.pointer (some ⟨P,0,none⟩),.int .u8 b.toNat] w λe w'=>
   e=.returned (.bool true)/\fI w' B P text (at_+1) ns/\dX B w w'/\rest text (at_+1)=s:=by
 have Ml:=hP;obtain ⟨⟨sv,h1,h2⟩,hle,hs,hB⟩:=hP
 have hlt:at_<text.size:=by
  rcases Nat.lt_or_ge at_ text.size with h|h
  ·exact h
  ·rw[dv h]at hb;cases hb
 rw[br hlt]at hb;simp only[List.cons.injEq]at hb;obtain ⟨hb,hr⟩:=hb;have c0:w.cell? ⟨P,0,none⟩=some (.string text):=by simp[World.cell?,h1]
 have c1:w.cell? ⟨P,1,none⟩=some (.int .i64 at_):=by simp[World.cell?,h1]
 have f1:w.frozen? ⟨P,1,none⟩=false:=by simp[World.frozen?,h1]
 have hg:decide ((at_:Int)<(text.size:Int))=true:=by simpa using hlt
 have HP:=aa Ml;have HR:=aa hr;clear h1 h2 Ml hr;go_enter Tryz.func171,Tryz.ntmps171;go_wp2_with fail;go_quiet (fail);go_wp2;go_ret;refine ⟨rfl,?_,?_,HR.out⟩
 ·exact (HP.out.drewN nq).move (at_+1) hlt
 ·exact ((dX.refl B w).drewN nq).setCell (HP.out.drewN nq).mine _
set_option maxHeartbeats 400000 in
theorem dT(b:UInt8)(B P:Nat)(text:ByteArray)(at_:Nat)(ns:List (Nd Value))(w:World)(hP:fI w B P text at_ ns)(hb:(rest text at_).head?≠some b):
  Calls Tryz.prog 171 #[.pointer (some ⟨P,0,none⟩),.int .u8 b.toNat] w λe w'=>
   e=.returned (.bool false)/\fI w' B P text at_ ns/\dX B w w':=by
 have HP:=aa hP;obtain ⟨⟨sv,h1,h2⟩,hle,hs,hB⟩:=hP;have c0:w.cell? ⟨P,0,none⟩=some (.string text):=by simp[World.cell?,h1]
 have c1:w.cell? ⟨P,1,none⟩=some (.int .i64 at_):=by simp[World.cell?,h1]
 clear h1 h2;rcases Nat.lt_or_ge at_ text.size with hlt|kg
 ·rw[br hlt]at hb;simp only[List.head?_cons,ne_eq,Option.some.injEq]at hb;have hg:decide ((at_:Int)<(text.size:Int))=true:=by simpa using hlt
  have hb2:(((text[at_]).toNat:Int)==(b.toNat:Int))=false:=by rw[beq_eq_false_iff_ne];intro h;exact hb (UInt8.toNat_inj.1 (by omega))
  clear hb;go_enter Tryz.func171,Tryz.ntmps171;go_wp2_with fail;go_quiet (fail);go_wp2;go_ret;exact ⟨rfl,HP.out.drewN nq,(dX.refl B w).drewN nq⟩
 ·have hg:decide (at_<text.size)=false:=by simp;omega
  clear hb;go_enter Tryz.func171,Tryz.ntmps171;go_wp2_with fail;go_quiet (fail);go_wp2;go_ret;exact ⟨rfl,HP.out.drewN nq,(dX.refl B w).drewN nq⟩
theorem head_cons(h:t.head?=some b):∃s,t=b::s:=by
 cases t with
 | nil=>cases h
 | cons c s=>simp at h;exact ⟨s,by rw[h]⟩
theorem iz(b:UInt8)(B P:Nat)(text:ByteArray)(at_:Nat)(ns:List (Nd Value))(w:World)(hP:fI w B P text at_ ns):
  Calls Tryz.prog 171 #[.pointer (some ⟨P,0,none⟩),.int .u8 b.toNat] w λe w'=>
   ∃(r:Bool) (at':Nat),e=.returned (.bool r)/\fI w' B P text at' ns/\dX B w w' /\
    ((r=true/\rest text at_=b::rest text at')∨(r=false/\at'=at_/\(rest text at_).head?≠some b)):=by
 by_cases h:(rest text at_).head?=some b
 ·obtain ⟨s,hs⟩:=head_cons h;refine (gF b s B P text at_ ns w hP hs).mono ?_;rintro e w' ⟨rfl,h1,h2,h3⟩;exact ⟨true,_,rfl,h1,h2,.inl ⟨rfl,by rw[h3];exact hs⟩⟩
 ·refine (dT b B P text at_ ns w hP h).mono ?_;rintro e w' ⟨rfl,h1,h2⟩;exact ⟨false,_,rfl,h1,h2,.inr ⟨rfl,rfl,h⟩⟩
theorem nj(s:ByteArray)(b:UInt8)(w:World):
  Sem.run Tryz.prog (callFunc 188 #[.string s,.int .u8 b.toNat]) w=.ok (.value (.int .i64 (Lib.indexByte s.data.toList b))) w:=by
 rw[run_callFunc_indexByte (fn:=Tryz.f188) Tryz.func188 (by kernel_rfl) (by kernel_rfl) (by kernel_rfl) (by kernel_rfl)];rw[Lib.run_indexByteString];simp[Result.andThen]
set_option maxHeartbeats 400000 in
theorem wW(s:ByteArray)(b:UInt8)(w:World):
  Calls Tryz.prog 205 #[.string s,.int .u8 b.toNat] w λe w'=>
   e=.returned (.int .i64 (Lib.indexByte s.data.toList b))/\w'=w:=by
 have hrun:=nj s b;go_enter Tryz.func205,Tryz.ntmps205;go_wp2;go_ret;exact ⟨rfl,rfl⟩
set_option maxHeartbeats 400000 in
theorem Bw(s:ByteArray)(B P:Nat)(text:ByteArray)(at_:Nat)(ns:List (Nd Value))(w:World)(hP:fI w B P text at_ ns):
  Calls Tryz.prog 192 #[.pointer (some ⟨P,0,none⟩),.string s] w λe w'=>
   e=.returned (.bool (match (rest text at_).head? with|none=>false|some b=>s.data.toList.contains b))/\∃n,w'=w.drewN n:=by
 obtain ⟨⟨sv,h1,h2⟩,hle,hs,hB⟩:=hP;have c0:w.cell? ⟨P,0,none⟩=some (.string text):=by simp[World.cell?,h1]
 have c1:w.cell? ⟨P,1,none⟩=some (.int .i64 at_):=by simp[World.cell?,h1]
 clear h1 h2;rcases Nat.lt_or_ge at_ text.size with hlt|kg
 ·rw[br hlt];have hg:decide ((at_:Int)<(text.size:Int))=true:=by simpa using hlt
  simp only[List.head?_cons];rw[Lib.contains_iff_indexByte];generalize hb:text[at_]=b;go_enter Tryz.func192,Tryz.ntmps192
  go_wp2_with fail;go_quiet ((go_at_call 205;exact Calls.quiet_of_same (wW _ _ _)));go_wp2;go_ret;exact ⟨rfl,nq,rfl⟩
 ·have hg:decide (at_<text.size)=false:=by simp;omega
  rw[dv kg];go_enter Tryz.func192,Tryz.ntmps192
  go_wp2_with fail;go_quiet (fail);go_wp2;go_ret;exact ⟨rfl,nq,rfl⟩
def signs:ByteArray:=⟨#[92,40,41,91,93,124,42,43,63,46,94,45]⟩
theorem oB:∀b:UInt8,dS b=true->32<=b.toNat/\b.toNat<=126:=by intro b h;simp only[dS,List.contains_cons,List.contains_nil,Bool.or_false,Bool.or_eq_true,beq_iff_eq]at h;rcases h with h|h|h|h|h|h|h|h|h|h|h|h<;>subst h<;>decide
theorem kh(d:UInt8)(s:List UInt8)(B P:Nat)(text:ByteArray)(at_:Nat)(ns:List (Nd Value))(w:World)(hP:fI w B P text at_ ns)(h:rest text at_=d::s)(f:Bool)(hf:dS d=f):
  Calls Tryz.prog 192 #[.pointer (some ⟨P,0,none⟩),.string ⟨#[92,40,41,91,93,124,42,43,63,46,94,45]⟩] w λe w'=>e=.returned (.bool f)/\∃n,w'=w.drewN n:=by
 refine (Bw signs B P text at_ ns w hP).mono ?_;rintro e w' ⟨rfl,n,rfl⟩;refine ⟨?_,n,rfl⟩;rw[h];simp only[List.head?_cons];rw[<-hf];rfl
set_option maxHeartbeats 400000 in
theorem GL(B P:Nat)(text:ByteArray)(at_:Nat)(ns:List (Nd Value))(w:World)(hP:fI w B P text at_ ns)(h:rest text at_=[]∨rest text at_=[92]):
  Calls Tryz.prog 211 #[.pointer (some ⟨P,0,none⟩)] w λe w'=>
   dX B w w'/\(∃at',fI w' B P text at' ns)/\e=.returned (.tuple #[.int .u8 0,.bool false]):=by
 have HP:=aa hP;rcases h with h|h
 ·have he:=lC hP.le h;subst he;have hh:(rest text text.size).head?≠some 92:=by rw[h];simp
  clear hP h;go_enter Tryz.func211,Tryz.ntmps211;go_wp2_with fail;refine (dT 92 B P text text.size ns w HP.out hh).mono ?_;rintro e w' ⟨rfl,ki,hF⟩;obtain ⟨c0,c1,f1⟩:=ki.cells;have Bx:=aa ki;have HF:=aa hF;clear ki hF;go_wp2_with fail;go_quiet (fail);go_wp2;go_ret2;exact ⟨HF.out.drewN nq,⟨_,Bx.out.drewN nq⟩,rfl⟩
 ·obtain ⟨hlt,_,hn⟩:=dG h;have he:at_+1=text.size:=lC hlt hn;have HH:=aa h;have HE:=aa he;clear hP h hn he;go_enter Tryz.func211,Tryz.ntmps211;go_wp2_with fail;refine (gF 92 [] B P text at_ ns w HP.out HH.out).mono ?_;rintro e w' ⟨rfl,ki,hF,hX⟩;rw[HE.out]at ki;obtain ⟨c0,c1,f1⟩:=ki.cells;have Bx:=aa ki
  have HF:=aa hF;clear ki hF hX;go_wp2_with fail;go_quiet (fail);go_wp2;go_ret2;exact ⟨HF.out.drewN nq,⟨_,Bx.out.drewN nq⟩,rfl⟩
set_option maxHeartbeats 400000 in
theorem Es(d:UInt8)(s:List UInt8)(B P:Nat)(text:ByteArray)(at_:Nat)(ns:List (Nd Value))(w:World)(hP:fI w B P text at_ ns)(h:rest text at_=92::d::s)(hs:dS d=true):
  Calls Tryz.prog 211 #[.pointer (some ⟨P,0,none⟩)] w λe w'=>
   dX B w w'/\e=.returned (.tuple #[.int .u8 d.toNat,.bool true])/\fI w' B P text (at_+2) ns/\rest text (at_+2)=s:=by
 have HP:=aa hP;have HH:=aa h;have hr:=oB d hs;have HS:=aa hs;clear hP h hs;go_enter Tryz.func211,Tryz.ntmps211;go_wp2_with fail;refine (gF 92 (d::s) B P text at_ ns w HP.out HH.out).mono ?_;rintro e w' ⟨rfl,ki,hF,hX⟩;obtain ⟨j,hj⟩:∃j,j=at_+1:=⟨_,rfl⟩;have HJ:=aa hj;rw[<-hj]at ki hX;clear hj
 obtain ⟨c0,c1,f1⟩:=ki.cells;obtain ⟨Yc,hd,sX⟩:=dG hX;have hg:((j:Int)==(text.size:Int))=false:=by rw[beq_eq_false_iff_ne];omega
 have hsm:=ki.small;have Bx:=aa ki;have HF:=aa hF;have HX:=aa hX;have HN:=aa sX;clear ki hF hX sX;go_wp2_with fail;go_quiet ((go_at_call 192;exact Calls.quiet_of (kh d s B P text j ns _ (Bx.out.drewN _) HX.out true HS.out)))
 rename Nat=>Yd
 go_wp2_with fail;go_quiet (fail);go_wp2;go_ret2;have hJ:=HJ.out;refine ⟨(HF.out.drewN _).setCell (Bx.out.drewN _).mine _,by simp;omega,?_,?_⟩
 ·have:=(Bx.out.drewN (Yd+nq)).move (j+1) (by omega);rw[show at_+2=j+1 by omega];exact this
 ·rw[show at_+2=j+1 by omega];exact HN.out
set_option maxHeartbeats 400000 in
theorem Bz(d:UInt8)(s:List UInt8)(B P:Nat)(text:ByteArray)(at_:Nat)(ns:List (Nd Value))(w:World)(hP:fI w B P text at_ ns)(h:rest text at_=92::d::s)(hs:dS d=false):
  Calls Tryz.prog 211 #[.pointer (some ⟨P,0,none⟩)] w λe w'=>
   dX B w w'/\(∃at',fI w' B P text at' ns)/\e=.returned (.tuple #[.int .u8 0,.bool false]):=by
 have HP:=aa hP;have HH:=aa h;have HS:=aa hs;clear hP h hs;go_enter Tryz.func211,Tryz.ntmps211;go_wp2_with fail;refine (gF 92 (d::s) B P text at_ ns w HP.out HH.out).mono ?_;rintro e w' ⟨rfl,ki,hF,hX⟩;obtain ⟨j,hj⟩:∃j,j=at_+1:=⟨_,rfl⟩;rw[<-hj]at ki hX;clear hj;obtain ⟨c0,c1,f1⟩:=ki.cells
 obtain ⟨Yc,hd,sX⟩:=dG hX;have hg:((j:Int)==(text.size:Int))=false:=by rw[beq_eq_false_iff_ne];omega
 have Bx:=aa ki;have HF:=aa hF;have HX:=aa hX;clear ki hF hX sX;go_wp2_with fail;go_quiet ((go_at_call 192;exact Calls.quiet_of (kh d s B P text j ns _ (Bx.out.drewN _) HX.out false HS.out)));go_wp2;go_ret2;exact ⟨HF.out.drewN nq,⟨_,Bx.out.drewN nq⟩,rfl⟩
set_option maxHeartbeats 400000 in
theorem Mm(c:UInt8)(s:List UInt8)(B P:Nat)(text:ByteArray)(at_:Nat)(ns:List (Nd Value))(w:World)(hP:fI w B P text at_ ns)(h:rest text at_=c::s)(wD:c≠92)(hs:dS c=true):
  Calls Tryz.prog 211 #[.pointer (some ⟨P,0,none⟩)] w λe w'=>
   dX B w w'/\(∃at',fI w' B P text at' ns)/\e=.returned (.tuple #[.int .u8 0,.bool false]):=by
 have HP:=aa hP;have HH:=aa h;have HS:=aa hs;have h9:=aa (show (rest text at_).head?≠some 92 by rw[h];simpa using wD);obtain ⟨hlt,hc,hn⟩:=dG h;have hg:((at_:Int)==(text.size:Int))=false:=by rw[beq_eq_false_iff_ne];omega
 clear hP h hs hn wD;go_enter Tryz.func211,Tryz.ntmps211;go_wp2_with fail;refine (dT 92 B P text at_ ns w HP.out h9.out).mono ?_;rintro e w' ⟨rfl,ki,hF⟩;obtain ⟨c0,c1,f1⟩:=ki.cells;have Bx:=aa ki;have HF:=aa hF;clear ki hF;go_wp2_with fail
 go_quiet ((go_at_call 192;exact Calls.quiet_of (kh c s B P text at_ ns _ (Bx.out.drewN _) HH.out true HS.out)));go_wp2;go_ret2;exact ⟨HF.out.drewN nq,⟨_,Bx.out.drewN nq⟩,rfl⟩
set_option maxHeartbeats 400000 in
theorem I1(c:UInt8)(s:List UInt8)(B P:Nat)(text:ByteArray)(at_:Nat)(ns:List (Nd Value))(w:World)(hP:fI w B P text at_ ns)(h:rest text at_=c::s)(wD:c≠92)(hs:dS c=false):
  Calls Tryz.prog 211 #[.pointer (some ⟨P,0,none⟩)] w λe w'=>
   dX B w w'/\e=.returned (.tuple #[.int .u8 c.toNat,.bool (decide (32<=c.toNat/\c.toNat<=126))])/\fI w' B P text (at_+1) ns/\rest text (at_+1)=s:=by
 have HP:=aa hP;have HH:=aa h;have HS:=aa hs;have h9:=aa (show (rest text at_).head?≠some 92 by rw[h];simpa using wD);obtain ⟨hlt,hc,hn⟩:=dG h;have hg:((at_:Int)==(text.size:Int))=false:=by rw[beq_eq_false_iff_ne];omega
 have hsm:=hP.small;have HN:=aa hn;clear hP h hs hn wD;go_enter Tryz.func211,Tryz.ntmps211;go_wp2_with fail;refine (dT 92 B P text at_ ns w HP.out h9.out).mono ?_;rintro e w' ⟨rfl,ki,hF⟩;obtain ⟨c0,c1,f1⟩:=ki.cells;have Bx:=aa ki;have HF:=aa hF;clear ki hF;go_wp2_with fail
 go_quiet ((go_at_call 192;exact Calls.quiet_of (kh c s B P text at_ ns _ (Bx.out.drewN _) HH.out false HS.out)))
 rename Nat=>Yd
 go_wp2_with fail;go_quiet (fail);go_wp2
 all_goals
  go_ret2;have iU:=(Bx.out.drewN (Yd+nq)).move (at_+1) hlt;refine ⟨(HF.out.drewN (Yd+nq)).setCell (Bx.out.drewN (Yd+nq)).mine _,?_,iU,HN.out⟩;rename_i h32;simp
  first|omega|(rw[Bool.eq_iff_iff];simp;omega)
theorem kn(B P:Nat)(text:ByteArray)(at_:Nat)(ns:List (Nd Value))(w:World)(hP:fI w B P text at_ ns):
  Calls Tryz.prog 211 #[.pointer (some ⟨P,0,none⟩)] w λe w'=>
   dX B w w'/\∃(b:UInt8) (at':Nat),fI w' B P text at' ns /\
    ((dC (rest text at_)=some (b,rest text at')/\e=.returned (.tuple #[.int .u8 b.toNat,.bool true])) ∨
     (dC (rest text at_)=none/\e=.returned (.tuple #[.int .u8 b.toNat,.bool false]))):=by
 cases hr:rest text at_ with
 | nil=>
  refine (GL B P text at_ ns w hP (.inl hr)).mono ?_;rintro e w' ⟨hF,⟨at',ki⟩,rfl⟩;exact ⟨hF,0,at',ki,.inr ⟨rfl,rfl⟩⟩
 | cons c s=>
  by_cases wD:c=92
  ·subst wD
   cases s with
   | nil=>
    refine (GL B P text at_ ns w hP (.inr hr)).mono ?_;rintro e w' ⟨hF,⟨at',ki⟩,rfl⟩;exact ⟨hF,0,at',ki,.inr ⟨rfl,rfl⟩⟩
   | cons d s=>
    cases hs:dS d with
    | true=>
     refine (Es d s B P text at_ ns w hP hr hs).mono ?_;rintro e w' ⟨hF,rfl,ki,h2⟩;exact ⟨hF,d,at_+2,ki,.inl ⟨by simp[dC,hs,h2],rfl⟩⟩
    | false=>
     refine (Bz d s B P text at_ ns w hP hr hs).mono ?_;rintro e w' ⟨hF,⟨at',ki⟩,rfl⟩;exact ⟨hF,0,at',ki,.inr ⟨by simp[dC,hs],rfl⟩⟩
  ·cases hs:dS c with
   | true=>
    refine (Mm c s B P text at_ ns w hP hr wD hs).mono ?_;rintro e w' ⟨hF,⟨at',ki⟩,rfl⟩;exact ⟨hF,0,at',ki,.inr ⟨by simp[dC,hs,wD],rfl⟩⟩
   | false=>
    refine (I1 c s B P text at_ ns w hP hr wD hs).mono ?_;rintro e w' ⟨hF,rfl,ki,h2⟩;refine ⟨hF,c,at_+1,ki,?_⟩;by_cases hc:32<=c.toNat/\c.toNat<=126
    ·exact .inl ⟨by simp[dC,hs,wD,h2,hc],by simp[hc]⟩
    ·exact .inr ⟨by simp[dC,hs,wD];omega,by simp[hc]⟩
theorem aF.shape{c:eC}(h:aF w v c):∃g cap,v=.func (.func g) #[] cap:=by
 cases c with
 | any=>exact ⟨_,_,h⟩
 | range lo hi=>obtain ⟨p,q,e,_⟩:=h;exact ⟨_,_,e⟩
 | union a b=>obtain ⟨p,q,va,vb,e,_⟩:=h;exact ⟨_,_,e⟩
 | iy a=>obtain ⟨p,va,e,_⟩:=h;exact ⟨_,_,e⟩
set_option maxHeartbeats 400000 in
theorem gG(lo hi:UInt8)(w:World):
  Calls Tryz.prog 212 #[.int .u8 lo.toNat,.int .u8 hi.toNat] w λe w'=>
   ∃v,e=.returned v/\aF w' v (.range lo hi)/\Below w.heap.size w w':=by
 go_enter Tryz.func212,Tryz.ntmps212;go_wp2;go_ret;refine ⟨_,rfl,⟨_,_,rfl,?_,?_⟩,?_⟩
 ·exact heap_alloc_old (af w _)
 ·have:=af (w.alloc (.cells #[.int .u8 lo.toNat] 5)) (.cells #[.int .u8 hi.toNat] 5);simpa using this
 ·exact ((Below.refl _ _).alloc (Nat.le_refl _) _).alloc (by simp) _
set_option maxHeartbeats 400000 in
theorem Et(a b:eC)(va vb:Value)(w:World)(ha:aF w va a)(hb:aF w vb b):
  Calls Tryz.prog 214 #[va,vb] w λe w'=>
   ∃v,e=.returned v/\aF w' v (.union a b)/\Below w.heap.size w w':=by
 obtain ⟨g1,nk,e1⟩:=ha.shape;obtain ⟨g2,qK,e2⟩:=hb.shape;subst e1 e2;have HA:=aa ha;have HB:=aa hb;clear ha hb;go_enter Tryz.func214,Tryz.ntmps214;go_wp2;go_ret
 have hbl:Below w.heap.size w ((w.alloc (.cells #[.func (.func g1) #[] nk] 290)).alloc (.cells #[.func (.func g2) #[] qK] 290)):=((Below.refl _ _).alloc (Nat.le_refl _) _).alloc (by simp) _;refine ⟨_,rfl,⟨_,_,_,_,rfl,?_,?_,HA.out.stay (bH.au hbl),HB.out.stay (bH.au hbl)⟩,hbl⟩
 ·exact heap_alloc_old (af w _)
 ·have:=af (w.alloc (.cells #[.func (.func g1) #[] nk] 290)) (.cells #[.func (.func g2) #[] qK] 290);simpa using this
set_option maxHeartbeats 400000 in
theorem ur(a:eC)(va:Value)(w:World)(ha:aF w va a):
  Calls Tryz.prog 215 #[va] w λe w'=>
   ∃v,e=.returned v/\aF w' v (.iy a)/\Below w.heap.size w w':=by
 obtain ⟨g1,nk,e1⟩:=ha.shape;subst e1;have HA:=aa ha;clear ha;go_enter Tryz.func215,Tryz.ntmps215;go_wp2;go_ret;have hbl:Below w.heap.size w (w.alloc (.cells #[.func (.func g1) #[] nk] 290)):=(Below.refl _ _).alloc (Nat.le_refl _) _;exact ⟨_,rfl,⟨_,_,rfl,af w _,HA.out.stay (bH.au hbl)⟩,hbl⟩
theorem Eu(h:dC s=none):bn s=none:=by simp[bn,h]
theorem wX(h:dC s=some (b,t))(ht:t.head?≠some 45):bn s=some (.range b b,t):=by
 cases t with
 | nil=>simp[bn,h]
 | cons c t=>simp at ht;simp[bn,h,ht]
theorem sY(h:dC s=some (b,45::t))(h2:dC t=none):bn s=none:=by simp[bn,h,h2]
theorem lD{u:List UInt8}{c:UInt8}(h:dC s=some (b,45::t))(h2:dC t=some (c,u)):
  bn s=if b.toNat<=c.toNat then some (.range b c,u) else none:=by simp[bn,h,h2]
-- acJ: the class,or that it is none.
set_option maxHeartbeats 1000000 in
theorem zh(B P:Nat)(text:ByteArray)(at_:Nat)(ns:List (Nd Value))(w:World)(hP:fI w B P text at_ ns):
  Calls Tryz.prog 213 #[.pointer (some ⟨P,0,none⟩)] w λe w'=>
   dX B w w'/\∃(v:Value) (at':Nat) (c:eC),fI w' B P text at' ns/\aF w' v c /\
    ((bn (rest text at_)=some (c,rest text at')/\e=.returned (.tuple #[v,.bool true])) ∨
     (bn (rest text at_)=none/\e=.returned (.tuple #[v,.bool false]))):=by
 have HP:=aa hP;clear hP;go_enter Tryz.func213,Tryz.ntmps213;go_wp2_with fail;refine (kn B P text at_ ns w HP.out).mono ?_;rintro e w1 ⟨fT,b,ko,nu,⟨h1,rfl⟩|⟨h1,rfl⟩⟩
 ·have gH:=aa nu;have kp:=aa fT;have H1:=aa h1;clear nu fT h1;by_cases hd:(rest text ko).head?=some 45
  ·obtain ⟨s,hs⟩:=head_cons hd;have HS:=aa hs;clear hs hd;go_wp2_with fail;refine (gF 45 s B P text ko ns w1 gH.out HS.out).mono ?_;rintro e w2 ⟨rfl,iU,hF2,hr2⟩;have mJ:=aa iU;have eG:=aa hF2;have lF:=aa hr2;clear iU hF2 hr2;go_wp2_with fail;refine (kn B P text (ko+1) ns w2 mJ.out).mono ?_;rintro e w3 ⟨dB,b3,BA,jZ,⟨h3,rfl⟩|⟨h3,rfl⟩⟩
   ·have qx:=aa jZ;have gN:=aa dB;have H3:=aa h3;clear jZ dB h3;go_wp2_with fail;refine (gG b b3 w3).mono ?_;rintro e w4 ⟨v,rfl,hv,jX⟩;have HV:=aa hv;have jY:=aa jX;clear hv jX;go_wp2_with fail;go_ret2;have I2:=lD (HS.out▸H1.out) (lF.out▸H3.out)
    refine ⟨((kp.out.trans eG.out).trans gN.out).trans (dX.au jY.out),v,BA,_,qx.out.below jY.out,HV.out,?_⟩;by_cases hle:b.toNat<=b3.toNat
    ·exact .inl ⟨by rw[I2,if_pos hle],by simp[hle]⟩
    ·exact .inr ⟨by rw[I2,if_neg hle],by simp[hle]⟩
   ·have qx:=aa jZ;have gN:=aa dB;have H3:=aa h3;clear jZ dB h3;go_wp2_with fail;refine (gG b b3 w3).mono ?_;rintro e w4 ⟨v,rfl,hv,jX⟩;have HV:=aa hv;have jY:=aa jX;clear hv jX;go_wp2_with fail;go_ret2;have I2:=sY (HS.out▸H1.out) (lF.out▸H3.out)
    exact ⟨((kp.out.trans eG.out).trans gN.out).trans (dX.au jY.out),v,BA,_,qx.out.below jY.out,HV.out,.inr ⟨I2,by simp⟩⟩
  ·have HD:=aa hd;clear hd;go_wp2_with fail;refine (dT 45 B P text ko ns w1 gH.out HD.out).mono ?_;rintro e w2 ⟨rfl,iU,hF2⟩;have mJ:=aa iU;have eG:=aa hF2;clear iU hF2;go_wp2_with fail;refine (gG b b w2).mono ?_;rintro e w4 ⟨v,rfl,hv,jX⟩;have HV:=aa hv;have jY:=aa jX;clear hv jX;go_wp2_with fail;go_ret2
   exact ⟨(kp.out.trans eG.out).trans (dX.au jY.out),v,ko,_,mJ.out.below jY.out,HV.out,.inl ⟨wX H1.out HD.out,by simp⟩⟩
 ·have gH:=aa nu;have kp:=aa fT;have H1:=aa h1;clear nu fT h1;go_wp2_with fail;refine (gG b b w1).mono ?_;rintro e w4 ⟨v,rfl,hv,jX⟩;have HV:=aa hv;have jY:=aa jX;clear hv jX;go_wp2_with fail;go_ret2;exact ⟨kp.out.trans (dX.au jY.out),v,ko,_,gH.out.below jY.out,HV.out,.inr ⟨Eu H1.out,by simp⟩⟩
theorem uu(B P:Nat)(text:ByteArray)(at_:Nat)(ns:List (Nd Value))(w:World)(hP:fI w B P text at_ ns):
  Calls Tryz.prog 213 #[.pointer (some ⟨P,0,none⟩)] w λe w'=>
   ∃(v:Value) (ok:Bool) (at':Nat) (c:eC),e=.returned (.tuple #[v,.bool ok])/\dX B w w'/\fI w' B P text at' ns/\aF w' v c /\
    ((ok=true/\bn (rest text at_)=some (c,rest text at'))∨(ok=false/\bn (rest text at_)=none)):=by
 refine (zh B P text at_ ns w hP).mono ?_;rintro e w' ⟨hF,v,at',c,h1,h2,⟨h3,rfl⟩|⟨h3,rfl⟩⟩
 ·exact ⟨v,true,at',c,rfl,hF,h1,h2,.inl ⟨rfl,h3⟩⟩
 ·exact ⟨v,false,at',c,rfl,hF,h1,h2,.inr ⟨rfl,h3⟩⟩
def zi(B P:Nat)(text:ByteArray)(ns:List (Nd Value))(w2:World)(qy:Nat)(c2:eC)(ok:Bool)(k:Nat)(has PE:Value)(wr:World):Prop:=
 dX B w2 wr/\∃at' c,fI wr B P text at' ns/\aF wr has c /\
   ((PE=.bool true/\ok=true/\k=1+(rest text at').length/\∀o,Bv c (rest text at') o->Bv c2 (rest text qy) o) ∨
    (PE=.bool false/\k=0/\(ok=true->Bv c2 (rest text qy) none)))
def Qu(B P:Nat)(text:ByteArray)(at_:Nat)(ns:List (Nd Value))(w:World)(e:Ending)(w':World):Prop:=
 dX B w w'/\∃(v:Value) (at':Nat) (c:eC),fI w' B P text at' ns/\aF w' v c /\
  ((ew (rest text at_) (some (c,rest text at'))/\e=.returned (.tuple #[v,.bool true])) ∨
   (ew (rest text at_) none/\e=.returned (.tuple #[v,.bool false])))
set_option maxHeartbeats 1000000 in
theorem qL(B P:Nat)(text:ByteArray)(at_:Nat)(ns:List (Nd Value))(w:World)(hP:fI w B P text at_ ns):
  Calls Tryz.prog 210 #[.pointer (some ⟨P,0,none⟩)] w λe w'=>
   Qu B P text at_ ns w e w':=by
 have HP:=aa hP;clear hP;go_enter Tryz.func210,Tryz.ntmps210;go_wp2_with fail;refine (iz 94 B P text at_ ns w HP.out).mono ?_;rintro e w1 ⟨r,ko,rfl,nu,fT,hr1⟩;have gH:=aa nu;have kp:=aa fT;have eK:=aa hr1;clear nu fT hr1;go_wp2_with fail;refine (uu B P text ko ns w1 gH.out).mono ?_
 rintro e w2 ⟨v,ok,qy,c2,rfl,hF2,iU,hv2,h2⟩;have eG:=aa hF2;have mJ:=aa iU;have WH:=aa hv2;have H2:=aa h2;clear hF2 iU hv2 h2;go_wp2_with fail;go_loopg [5,6] (if ok then 1+(rest text qy).length else 0) (λk has PE wr=>zi B P text ns w2 qy c2 ok k has PE wr)
 case atStart=>
  refine ⟨dX.refl _ _,qy,c2,mJ.out,WH.out,?_⟩;rcases H2.out with ⟨rfl,h⟩|⟨rfl,h⟩
  ·exact .inl ⟨rfl,rfl,rfl,λo h=>h⟩
  ·exact .inr ⟨rfl,rfl,λh=>by cases h⟩
 case round=>
  obtain ⟨dB,BA,c3,jZ,hv3,⟨rfl,dZ,hk,I2⟩|⟨rfl,hk,I2⟩⟩:=hrel
  ·have qx:=aa jZ;have gN:=aa dB;have WI:=aa hv3;have HK:=aa hk;have zj:=aa I2;have yV:=aa dZ;clear jZ dB hv3 hk I2 dZ;go_wp2_with fail;refine (iz 93 B P text BA ns wr qx.out).mono ?_;rintro e w4 ⟨r4,SR,rfl,xL,mK,⟨rfl,hr4⟩|⟨rfl,he4,hr4⟩⟩
   ·have GM:=aa xL;have nw:=aa mK;have sZ:Bv c2 (rest text qy) (some (c3,rest text SR)):=zj.out _ (by rw[hr4];exact .stop);have kq:=aa sZ;clear xL mK hr4 sZ
    have h2:bn (rest text ko)=some (c2,rest text qy):=by
     rcases H2.out with h|h
     ·exact h.2
     ·rw[yV.out]at h;cases h.1
    have H3:=aa h2;clear h2;rcases eK.out with ⟨rfl,hR⟩|⟨rfl,hR⟩
    ·have HR:=aa hR;clear hR;go_wp2_with fail;refine (ur c3 u5 w4 (WI.out.stay nw.out.stay)).mono ?_;rintro e w5 ⟨v5,rfl,SS,wY⟩;have Ye:=aa SS;have BB:=aa wY;clear SS wY;go_wp2_with fail;go_ret2;refine ⟨(((kp.out.trans eG.out).trans gN.out).trans nw.out).trans (dX.au BB.out),v5,SR,_,GM.out.below BB.out,Ye.out,.inl ⟨?_,by simp⟩⟩;rw[HR.out]
     exact .neg H3.out kq.out
    ·have HR:=aa hR;clear hR;go_wp2_with fail;go_ret2;refine ⟨((kp.out.trans eG.out).trans gN.out).trans nw.out,u5,SR,c3,GM.out,WI.out.stay nw.out.stay,.inl ⟨?_,by simp⟩⟩;have h3:=H3.out;rw[HR.out.1]at h3;exact .pos HR.out.2 h3 kq.out
   ·subst he4;have GM:=aa xL;have nw:=aa mK;have I3:=aa hr4;clear xL mK hr4;go_wp2_with fail;refine (uu B P text SR ns w4 GM.out).mono ?_;rintro e w5 ⟨v5,ok5,at5,c5,rfl,BC,SU,SS,h5⟩;have LJ:=aa BC;have Yf:=aa SU;have Ye:=aa SS;have H5:=aa h5;clear BC SU SS h5;go_wp2_with fail
    refine (Et c3 c5 u5 v5 w5 (WI.out.stay (nw.out.stay.trans LJ.out.stay)) Ye.out).mono ?_;rintro e w6 ⟨v6,rfl,hv6,hB6⟩;have HV6:=aa hv6;have HB6:=aa hB6;clear hv6 hB6;go_wp2_with fail;go_roundg (if ok5 then 1+(rest text at5).length else 0)
    case measure=>
     rw[HK.out];rcases H5.out with ⟨rfl,h⟩|⟨rfl,h⟩
     ·have:=kf h;simp;omega
     ·simp;omega
    case rel=>
     refine ⟨((gN.out.trans nw.out).trans LJ.out).trans (dX.au HB6.out),at5,_,Yf.out.below HB6.out,HV6.out,?_⟩;rcases H5.out with ⟨rfl,h⟩|⟨rfl,h⟩
     ·exact .inl ⟨rfl,yV.out,rfl,λo ho=>zj.out o (.more I3.out h ho)⟩
     ·exact .inr ⟨rfl,rfl,λ_=>zj.out _ (.bad I3.out h)⟩
  ·have qx:=aa jZ;have gN:=aa dB;have WI:=aa hv3;have zj:=aa I2;clear jZ dB hv3 I2 hk;rcases eK.out with ⟨rfl,hR⟩|⟨rfl,hR⟩
   ·have HR:=aa hR;clear hR;go_wp2_with fail;refine (ur c3 u5 wr WI.out).mono ?_;rintro e w5 ⟨v5,rfl,SS,wY⟩;have Ye:=aa SS;have BB:=aa wY;clear SS wY;go_wp2_with fail;go_ret2;refine ⟨((kp.out.trans eG.out).trans gN.out).trans (dX.au BB.out),v5,BA,_,qx.out.below BB.out,Ye.out,.inr ⟨?_,by simp⟩⟩;rw[HR.out];rcases H2.out with ⟨h,h2⟩|⟨h,h2⟩
    ·exact .neg h2 (zj.out h)
    ·exact .lB h2
   ·have HR:=aa hR;clear hR;go_wp2_with fail;go_ret2;refine ⟨(kp.out.trans eG.out).trans gN.out,u5,BA,c3,qx.out,WI.out,.inr ⟨?_,by simp⟩⟩;rcases H2.out with ⟨h,h2⟩|⟨h,h2⟩
    ·rw[HR.out.1]at h2;exact .pos HR.out.2 h2 (zj.out h)
    ·rw[HR.out.1]at h2;exact .lz HR.out.2 h2
theorem bj.at{B:Nat}{sv:Value}{ns:List (Nd Value)}(h:bj w B sv ns){nd:Nd Value}(hi:ns[i]?=some nd):
  ∃g cap,sv=.slice (some ⟨g,0,none⟩) ns.length cap/\w.cell? ⟨g,i*5,none⟩=some (.int .i64 nd.kind)/\w.cell? ⟨g,i*5+1,none⟩=some nd.has /\
   w.cell? ⟨g,i*5+2,none⟩=some (.int .i64 nd.left)/\w.cell? ⟨g,i*5+3,none⟩=some (.int .i64 nd.right)/\w.cell? ⟨g,i*5+4,none⟩=some (.bool nd.empty):=by
 have hlt:i<ns.length:=by
  rcases Nat.lt_or_ge i ns.length with h' | h'
  ·exact h'
  ·rw[List.getElem?_eq_none h']at hi;cases hi
 obtain ⟨⟨h1,h2⟩,_⟩:=h;rcases h2 with ⟨rfl,h0⟩|⟨g,cap,cur,rfl,hg,hh,hn,hc,hs,ht⟩
 ·omega
 ·refine ⟨g,cap,rfl,?_⟩
  have key:∀j,j<5->w.cell? ⟨g,i*5+j,none⟩=(fe nd)[j]?:=by
   intro j hj;rw[<-rR hi j hj,<-ht];have hb:i*5+j<ns.length*5:=by omega
   rw[List.getElem?_take_of_lt hb];simp[World.cell?,hh]
  refine ⟨key 0 (by omega),key 1 (by omega),key 2 (by omega),key 3 (by omega),key 4 (by omega)⟩
theorem ar{a:Addr}(h:w.cell? a=some v)(o:Obj):(w.alloc o).cell? a=some v:=by rw[World.cell?_of_block (w:=w) (Below.heap_alloc _ _ _ (World.block_lt_of_cell? w a h))];exact h
theorem aw{α:Type}{l:List α}{x:α}(h:l[i]?=some x):i<l.length:=by
 rcases Nat.lt_or_ge i l.length with h' | h'
 ·exact h'
 ·rw[List.getElem?_eq_none h']at h;cases h
set_option maxHeartbeats 400000 in
theorem qM(B:Nat)(sv:Value)(ns:List (Nd Value))(l r:Nat)(x y:Nd Value)(h:Value)(em:Bool)(w:World)(hL:bj w B sv ns)(hx:ns[l]?=some x)(hy:ns[r]?=some y):
  Calls Tryz.prog 195 #[sv,.agg #[.int .i64 2,h,.int .i64 l,.int .i64 r,.bool em]] w λe w'=>
   e=.returned (.bool (x.empty&&y.empty))/\Below w.heap.size w w':=by
 obtain ⟨g,cap,rfl,-,-,-,-,SV⟩:=hL.at hx;obtain ⟨g',cap',e',-,-,-,-,Yg⟩:=hL.at hy;cases e';have xM:=ar SV;have hya:=ar Yg;have hl:=aw hx;have hr:=aw hy;clear hL hx hy SV Yg;go_enter Tryz.func195,Tryz.ntmps195;go_wp2
 all_goals
  go_ret;exact ⟨by simp[*],(Below.refl _ _).alloc (Nat.le_refl _) _⟩
set_option maxHeartbeats 400000 in
theorem qN(B:Nat)(sv:Value)(ns:List (Nd Value))(l r:Nat)(x y:Nd Value)(h:Value)(em:Bool)(w:World)(hL:bj w B sv ns)(hx:ns[l]?=some x)(hy:ns[r]?=some y):
  Calls Tryz.prog 195 #[sv,.agg #[.int .i64 3,h,.int .i64 l,.int .i64 r,.bool em]] w λe w'=>
   e=.returned (.bool (x.empty||y.empty))/\Below w.heap.size w w':=by
 obtain ⟨g,cap,rfl,-,-,-,-,SV⟩:=hL.at hx;obtain ⟨g',cap',e',-,-,-,-,Yg⟩:=hL.at hy;cases e';have xM:=ar SV;have hya:=ar Yg;have hl:=aw hx;have hr:=aw hy;clear hL hx hy SV Yg;go_enter Tryz.func195,Tryz.ntmps195;go_wp2
 all_goals
  go_ret;exact ⟨by simp[*],(Below.refl _ _).alloc (Nat.le_refl _) _⟩
set_option maxHeartbeats 400000 in
theorem pE(B:Nat)(sv:Value)(ns:List (Nd Value))(l:Nat)(r:Int)(x:Nd Value)(h:Value)(em:Bool)(w:World)(hL:bj w B sv ns)(hx:ns[l]?=some x):
  Calls Tryz.prog 195 #[sv,.agg #[.int .i64 5,h,.int .i64 l,.int .i64 r,.bool em]] w λe w'=>
   e=.returned (.bool x.empty)/\Below w.heap.size w w':=by
 obtain ⟨g,cap,rfl,-,-,-,-,SV⟩:=hL.at hx;have xM:=ar SV;have hl:=aw hx;clear hL hx SV;go_enter Tryz.func195,Tryz.ntmps195;go_wp2;go_ret;exact ⟨by simp[*],(Below.refl _ _).alloc (Nat.le_refl _) _⟩
set_option maxHeartbeats 400000 in
theorem iA(sv:Value)(k:Nat)(l r:Int)(h:Value)(em b:Bool)(w:World)(hk:(k=1/\b=false)∨((k=4∨k=6)/\b=true)):
  Calls Tryz.prog 195 #[sv,.agg #[.int .i64 k,h,.int .i64 l,.int .i64 r,.bool em]] w λe w'=>
   e=.returned (.bool b)/\Below w.heap.size w w':=by
 rcases hk with ⟨rfl,rfl⟩|⟨rfl|rfl,rfl⟩
 all_goals
  go_enter Tryz.func195,Tryz.ntmps195;go_wp2;go_ret;exact ⟨rfl,(Below.refl _ _).alloc (Nat.le_refl _) _⟩
def Mn(ns:List (Nd Value))(k l r:Nat)(b:Bool):Prop:=
 (k=1/\b=false)∨((k=4∨k=6)/\b=true)∨(k=5/\∃x,ns[l]?=some x/\b=x.empty) ∨
 (k=2/\∃x y,ns[l]?=some x/\ns[r]?=some y/\b=(x.empty&&y.empty)) ∨
 (k=3/\∃x y,ns[l]?=some x/\ns[r]?=some y/\b=(x.empty||y.empty))
theorem jG(B:Nat)(sv:Value)(ns:List (Nd Value))(k l r:Nat)(h:Value)(em b:Bool)(w:World)(hL:bj w B sv ns)(hE:Mn ns k l r b):
  Calls Tryz.prog 195 #[sv,.agg #[.int .i64 k,h,.int .i64 l,.int .i64 r,.bool em]] w λe w'=>
   e=.returned (.bool b)/\Below w.heap.size w w':=by
 rcases hE with hE|hE|⟨rfl,x,hx,rfl⟩|⟨rfl,x,y,hx,hy,rfl⟩|⟨rfl,x,y,hx,hy,rfl⟩
 ·exact iA sv k l r h em b w (.inl hE)
 ·exact iA sv k l r h em b w (.inr hE)
 ·exact pE B sv ns l r x h em w hL hx
 ·exact qM B sv ns l r x y h em w hL hx hy
 ·exact qN B sv ns l r x y h em w hL hx hy
end Go.Proofs.YtgncgdkpkkdaeaaGreatDoor
