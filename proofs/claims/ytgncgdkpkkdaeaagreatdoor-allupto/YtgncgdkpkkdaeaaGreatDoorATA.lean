import Derived.Test.YtgncgdkpkkdaeaaGreatDoorAC
set_option maxRecDepth 20000
set_option maxHeartbeats 8000000
namespace Go.Proofs.YtgncgdkpkkdaeaaGreatDoor.Ref
open Go.RowKit bu
variable {p:Addr} {b:Bool} {S:ByteArray} {on tG:List Bool} {s s0 s1 s2 s3:List UInt8} {X at_ i j m:Nat} {o:Option (eO×List UInt8)} {c hi lo:UInt8} {a w:World}
def ba(w:World)(X:Nat)(S:ByteArray)(at_:Nat)(bad:Bool):Prop:=w.heap[X]?=some (.cells #[.string S,.int .i64 at_,.bool bad] 198 (0,0))
structure Ap(X:Nat)(w w':World):Prop where
 os:w'.os=w.os
 tape:w'.tape=w.tape
 output:w'.output=w.output
 size:w.heap.size<=w'.heap.size
 keep:∀k,k<w.heap.size->k≠X->w'.heap[k]?=w.heap[k]?
theorem Ap.refl(X:Nat)(w:World):Ap X w w:=⟨rfl,rfl,rfl,bc _,λ_ _ _=>rfl⟩
theorem Ap.trans{b c:World}(h:Ap X a b)(k:Ap X b c):Ap X a c:=
 ⟨k.os.trans h.os,k.tape.trans h.tape,k.output.trans h.output,bJ h.size k.size,λi hi hn=>(k.keep i (dw hi h.size) hn).trans (h.keep i hi hn)⟩
theorem Ap.drewN(h:Ap X a w)(n:Nat):Ap X a (w.drewN n):=⟨h.os,h.tape,h.output,h.size,h.keep⟩
theorem Ap.alloc(h:Ap X a w)(o:Obj):Ap X a (w.alloc o):=
 h.trans ⟨rfl,rfl,rfl,by simp,λ_ hk _=>Below.heap_alloc _ _ _ hk⟩
theorem Ap.setCell(h:Ap X a w)(hp:p.block=X)(u:Value):Ap X a (w.setCell p u):=
 h.trans ⟨rfl,rfl,rfl,by simp[World.setCell],λ_ _ hn=>eV _ _ _ _ (λe=>hn (e.trans hp))⟩
theorem Ap.mD(h:Ap X a w)(hp:a.heap.size<=p.block)(u:Value):Ap X a (w.setCell p u):=
 ⟨h.os,h.tape,h.output,by simpa [World.setCell] using h.size,λk hk hn=>by rw[eV _ _ _ _ (by omega)];exact h.keep k hk hn⟩
theorem Ap.below{B:Nat}{w':World}(h:Ap X w w')(hB:B<=w.heap.size)(hX:B<=X):Below B w w':=⟨h.os,h.tape,h.output,h.size,λk hk=>h.keep k (by omega) (by omega)⟩
theorem ba.lt{bad:Bool}(h:ba w X S at_ bad):X<w.heap.size:=ae h
theorem ba.cells{bad:Bool}(h:ba w X S at_ bad):
  w.cell? ⟨X,0,none⟩=some (.string S)/\w.cell? ⟨X,1,none⟩=some (.int .i64 at_)/\w.cell? ⟨X,2,none⟩=some (.bool bad)/\w.frozen? ⟨X,1,none⟩=false/\w.frozen? ⟨X,2,none⟩=false:=by
 unfold ba at h;refine ⟨?_,?_,?_,?_,?_⟩
 all_goals simp[World.cell?,World.frozen?,h]
theorem ba.drewN{bad:Bool}(h:ba w X S at_ bad)(n:Nat):ba (w.drewN n) X S at_ bad:=h
theorem ba.alloc{bad:Bool}(h:ba w X S at_ bad)(o:Obj):ba (w.alloc o) X S at_ bad:=af h
theorem ba.move{bad:Bool}(h:ba w X S at_ bad)(m:Nat):ba (w.setCell ⟨X,1,none⟩ (.int .i64 m)) X S m bad:=ah w X 1 _ h
theorem ba.tH{bad:Bool}(h:ba w X S at_ bad)(b:Bool):ba (w.setCell ⟨X,2,none⟩ (.bool b)) X S at_ b:=ah w X 2 _ h
theorem lr(c:UInt8)(X:Nat)(S:ByteArray)(at_:Nat)(bad:Bool)(w:World)(h:ba w X S at_ bad):
  Calls Tryz.prog 144 #[.pointer (some ⟨X,0,none⟩),.int .u8 c.toNat] w λe w'=>e=.returned (.bool ((rest S at_).head? == some c))/\∃n,w'=w.drewN n:=by
 obtain ⟨c0,c1,c2,f1,f2⟩:=h.cells;clear h;rcases ed at_ S.size with hlt|kO
 ·have hg:decide ((at_:Int)<(S.size:Int))=true:=by simpa using hlt
  by_cases hb:S[at_]=c
  ·have hq:(((S[at_]).toNat:Int)==(c.toNat:Int))=true:=by rw[beq_iff_eq,hb]
   have HV:=aa (show ((rest S at_).head? == some c)=true by rw[bE hlt,hb];simp);clear hb;go_enter Tryz.func144,Tryz.ntmps144;go_wp2_with fail;go_quiet (fail);go_wp2;go_ret;exact ⟨by rw[HV.out];rfl,nq,rfl⟩
  ·have hq:(((S[at_]).toNat:Int)==(c.toNat:Int))=false:=by rw[er];intro h;exact hb (UInt8.toNat_inj.1 (by omega))
   have HV:=aa (show ((rest S at_).head? == some c)=false by rw[bE hlt];simpa using hb);clear hb;go_enter Tryz.func144,Tryz.ntmps144;go_wp2_with fail;go_quiet (fail);go_wp2;go_ret;exact ⟨by rw[HV.out];rfl,nq,rfl⟩
 ·have hg:decide (at_<S.size)=false:=by simp;omega
  have HV:=aa (show ((rest S at_).head? == some c)=false by rw[dF kO];rfl);go_enter Tryz.func144,Tryz.ntmps144;go_wp2_with fail;go_quiet (fail);go_wp2;go_ret;exact ⟨by rw[HV.out];rfl,nq,rfl⟩
def gy:List UInt8:=[92,40,41,91,93,124,42,43,63,46,94,45]
def Px(c:UInt8)(w:World)(k:Nat)(vi:Value)(wr:World):Prop:=
 ∃i:Nat,vi=.int .i64 i/\i+k=12/\wr=w/\∀j,j<i->gy[j]?≠some c
theorem Py(h:gy[i]?=some c):ej c=true:=by show gy.contains c=true;rw[List.contains_iff_mem];exact bn h
theorem K6(h:∀j,j<12->gy[j]?≠some c):ej c=false:=by show gy.contains c=false;rw[Bool.eq_false_iff,ne_eq,List.contains_iff_mem];intro hm;obtain ⟨j,hj,he⟩:=List.getElem_of_mem hm;exact h j hj (by rw[cB hj,he])
theorem Pz(c:UInt8)(w:World):Calls Tryz.prog 208 #[.int .u8 c.toNat] w λe w'=>e=.returned (.bool (ej c))/\w'=w:=by
 go_enter Tryz.func208,Tryz.ntmps208;go_wp2_with fail;go_loopg [3] 12 (λk vi wr=>Px c w k vi wr)
 case atStart=>exact ⟨0,rfl,rfl,rfl,λj hj=>by omega⟩
 case round=>
  obtain ⟨i,rfl,hk,rfl,hne⟩:=hrel
  cases gk with
  | zero=>
   obtain rfl:i=12:=by omega
   have Rw:=aa (K6 hne);clear hne;go_wp2_with fail;go_ret;exact ⟨by rw[Rw.out];rfl,rfl⟩
  | succ k=>
   have hi:i<12:=by omega
   have hg:decide ((i:Int)<12)=true:=by simp;omega
   have EK:i<(⟨#[92,40,41,91,93,124,42,43,63,46,94,45]⟩:ByteArray).size:=hi;have hl:gy[i]?=some ((⟨#[92,40,41,91,93,124,42,43,63,46,94,45]⟩:ByteArray)[i]):=by rw[cB (show i<gy.length from hi)];rfl
   by_cases hc:(⟨#[92,40,41,91,93,124,42,43,63,46,94,45]⟩:ByteArray)[i]=c
   ·have hq:(((⟨#[92,40,41,91,93,124,42,43,63,46,94,45]⟩:ByteArray)[i].toNat:Int)==(c.toNat:Int))=true:=by rw[hc,beq_iff_eq]
    have HS:=aa (Py (by rw[hl,hc]:gy[i]?=some c));clear hne hl hc;go_wp2_with fail;go_ret;exact ⟨by rw[HS.out];rfl,rfl⟩
   ·have hq:(((⟨#[92,40,41,91,93,124,42,43,63,46,94,45]⟩:ByteArray)[i].toNat:Int)==(c.toNat:Int))=false:=by rw[er];intro h;exact hc (UInt8.toNat_inj.1 (by omega))
    have Rw:=aa (show ∀j,j<i+1->gy[j]?≠some c from λj hj=>by
     rcases ed j i with h|h
     ·exact hne j h
     ·obtain rfl:j=i:=by omega
      rw[hl];intro e;exact hc (Option.some.inj e))
    clear hne hl hc;go_wp2_with fail;go_roundg k
    case measure=>omega
    case rel=>exact ⟨i+1,rfl,by omega,rfl,Rw.out⟩
def uC(X:Nat)(S:ByteArray)(at_:Nat)(w:World)(e:Ending)(w':World):Prop:=
 Ap X w w'/\∃(b:UInt8) (at':Nat),e=.returned (.int .u8 b.toNat)/\at'<=S.size/\((dK (rest S at_)=some (b,rest S at')/\at_<at'/\ba w' X S at' false)∨(dK (rest S at_)=none/\ba w' X S at' true))
theorem wW(X:Nat)(S:ByteArray)(at_ a1:Nat)(w:World)(eb:Bool)(h:ba w X S at_ false)(pD:S.size<=60)(xr:((rest S at_).head? == some 92)=eb)(ha1:a1=if eb=true then at_+1 else at_)
  (hc:(a1=S.size/\dK (rest S at_)=none)∨∃c s,rest S a1=c::s/\((dK (rest S at_)=none/\(c.toNat<32∨126<c.toNat∨(32<=c.toNat/\c.toNat<=126/\ej c=!eb)))∨(32<=c.toNat/\c.toNat<=126/\ej c=eb/\dK (rest S at_)=some (c,s)))):
  Calls Tryz.prog 202 #[.pointer (some ⟨X,0,none⟩)] w (uC X S at_ w):=by
 have HK:=aa (lr 92 X S at_ false w h);have H:=aa h;have HH:=aa xr;have HC:=aa hc
 have ad1:a1<=S.size:=by
  rcases hc with ⟨h1,_⟩|⟨c,s,h1,_⟩
  ·omega
  ·have:=(dR h1).1;omega
 have hat:at_<=a1:=by rw[ha1];split<;>omega
 have Ik:=aa ha1;clear h xr hc ha1;go_enter Tryz.func202,Tryz.ntmps202;go_wp2_with fail;refine HK.out.mono ?_;rintro e w1 ⟨rfl,n1,rfl⟩;rw[HH.out];obtain ⟨c0,c1,c2,f1,f2⟩:=(H.out.drewN n1).cells;have H1:=aa (H.out.drewN n1);have HA:=aa ((Ap.refl X w).drewN n1);generalize w.drewN n1=w1 at *;clear HK HH H;cases eb
 case' false=>
  obtain rfl:a1=at_:=Ik.out;go_wp2_with fail;generalize w1=w2 at *
 case' true=>
  have Uw:at_<=60:=by omega
  go_wp2_with fail;have H2:=aa (show ba (w1.setCell ⟨X,1,none⟩ (.int .i64 ((at_:Int)+1))) X S a1 false by rw[Ik.out];exact H1.out.move (at_+1));have EB:=aa (HA.out.setCell (p:=⟨X,1,none⟩) rfl (.int .i64 ((at_:Int)+1)));clear c0 c1 c2 f1 f2 H1 HA;generalize w1.setCell ⟨X,1,none⟩ (.int .i64 ((at_:Int)+1))=w2 at *;have H1:=aa H2.out;have HA:=aa EB.out;clear H2 EB
  obtain ⟨c0,c1,c2,f1,f2⟩:=H1.out.cells
 all_goals
  have ad2:a1<=61:=by omega
  rcases HC.out with ⟨hend,ho⟩|⟨c,s,hr,aa6⟩
  ·have hg:decide ((S.size:Int)<=(a1:Int))=true:=cF (by omega);have kO:S.size<=a1:=by omega
   have HO:=aa ho;clear ho hend HC;go_quiet (fail)
   rename Nat=>pQ
   have H3:=aa (H1.out.drewN pQ);have CH:=aa (HA.out.drewN pQ);clear c0 c1 c2 f1 f2 H1 HA;obtain ⟨c0,c1,c2,f1,f2⟩:=H3.out.cells;generalize w2.drewN pQ=w3 at *;go_wp2_with fail;go_ret;exact ⟨CH.out.setCell rfl _,0,a1,rfl,by omega,.inr ⟨HO.out,H3.out.tH true⟩⟩
  ·have HS:=aa (λW=>Pz c W);obtain ⟨hlt,hc,hs'⟩:=dR hr;have HR:=aa hs';have hg:decide ((S.size:Int)<=(a1:Int))=false:=bV (by omega);have hg2:¬S.size<=a1:=by omega
   clear hr hs' HC;rcases aa6 with ⟨ho,h1|h1|⟨h1,h2,hs⟩⟩|⟨h1,h2,hs,ho⟩
   all_goals
    have HO:=aa ho;clear ho
    first|have g1:decide ((c.toNat:Int)<32)=true:=cF (by omega)|have g1:decide ((c.toNat:Int)<32)=false:=bV (by omega)
    first|have g2:decide (126<(c.toNat:Int))=true:=cF (by omega)|have g2:decide (126<(c.toNat:Int))=false:=bV (by omega)
    first|(have Yq:=aa hs;clear hs)|skip
    go_quiet (fail)
    rename Nat=>pQ
    have H3:=aa (H1.out.drewN pQ);have CH:=aa (HA.out.drewN pQ);clear c0 c1 c2 f1 f2 H1 HA;obtain ⟨c0,c1,c2,f1,f2⟩:=H3.out.cells;generalize w2.drewN pQ=w3 at *;go_wp2_with fail;go_quiet (fail)
    rename Nat=>EM
    have H4:=aa (H3.out.drewN EM);have XU:=aa (CH.out.drewN EM);clear c0 c1 c2 f1 f2 H3 CH;obtain ⟨c0,c1,c2,f1,f2⟩:=H4.out.cells;generalize w3.drewN EM=w4 at *;go_wp2_with fail;refine (HS.out _).mono ?_;rintro e w5 ⟨rfl,rfl⟩
    first|rw[Yq.out]|skip
    go_wp2_with fail;go_ret
    first
     | exact ⟨(XU.out.setCell rfl _).setCell rfl _,c,a1+1,rfl,by omega,.inr ⟨HO.out,(H4.out.tH true).move (a1+1)⟩⟩
     | exact ⟨XU.out.setCell rfl _,c,a1+1,rfl,by omega,.inl ⟨by rw[HO.out,HR.out],by omega,H4.out.move (a1+1)⟩⟩
theorem kS(X:Nat)(S:ByteArray)(at_:Nat)(w:World)(h:ba w X S at_ false)(pD:S.size<=60)(hle:at_<=S.size):
  Calls Tryz.prog 202 #[.pointer (some ⟨X,0,none⟩)] w (uC X S at_ w):=by
 rcases ed at_ S.size with hlt|kO
 ·have hr:=bE hlt;generalize S[at_]=c at hr;by_cases xr:c=92
  ·subst xr;refine wW X S at_ (at_+1) w true h pD (by rw[hr];rfl) rfl ?_;rcases ed (at_+1) S.size with iW|acS
   ·have hr2:=bE iW;generalize S[at_+1]=d at hr2;refine .inr ⟨d,_,hr2,?_⟩;by_cases hs:ej d=true
    ·obtain ⟨h1,h2⟩:=pu d hs;exact .inr ⟨h1,h2,hs,by rw[hr,hr2];simp[dK,hs]⟩
    ·have hs':ej d=false:=by simpa using hs
     refine .inl ⟨by rw[hr,hr2];simp[dK,hs],?_⟩;by_cases QB:d.toNat<32
     ·exact .inl QB
     ·by_cases FC:126<d.toNat
      ·exact .inr (.inl FC)
      ·exact .inr (.inr ⟨by omega,by omega,hs'⟩)
   ·exact .inl ⟨by omega,by rw[hr,dF acS];simp[dK]⟩
  ·refine wW X S at_ at_ w false h pD (by rw[hr,er];simpa using xr) rfl (.inr ⟨c,_,hr,?_⟩);by_cases hs:ej c=true
   ·obtain ⟨h1,h2⟩:=pu c hs;exact .inl ⟨by rw[hr];simp[dK,xr,hs],.inr (.inr ⟨h1,h2,hs⟩)⟩
   ·have hs':ej c=false:=by simpa using hs
    by_cases QB:c.toNat<32
    ·exact .inl ⟨by rw[hr];simp[dK,xr,hs'];omega,.inl QB⟩
    ·by_cases FC:126<c.toNat
     ·exact .inl ⟨by rw[hr];simp[dK,xr,hs'];omega,.inr (.inl FC)⟩
     ·exact .inr ⟨by omega,by omega,hs',by rw[hr];simp[dK,xr,hs'];omega⟩
 ·exact wW X S at_ at_ w false h pD (by rw[dF kO];rfl) rfl (.inl ⟨by omega,by rw[dF kO];rfl⟩)
def bools(on:List Bool):Array Value:=(on.map Value.bool).toArray
def cK:List Bool:=List.replicate 256 false
theorem pJ(w:World):(Instr.makeSlice 201 (.int .i64 256) (.int .i64 256)).run Tryz.prog w=.ok (.slice (some ⟨w.heap.size,0,none⟩) 256 256) (w.alloc (.cells (bools cK) 4)):=by
 obtain ⟨i,hi,h0,h1,h2⟩:=info_parts (show (Tryz.prog.info? 4).map (λi=>(i.zero,i.size,i.bytes))=some (some (.bool false),1,1) by kernel_rfl);rw[run_make w 201 4 i (.bool false) Tryz.underlying201 hi h0 .i64 .i64 256 256 (by decide) (by decide) (by rw[h2];decide) (by decide)]
 have:madeCells (Value.bool false).cells ((256:Int).toNat *i.size)=bools cK:=by rw[h1];apply Array.toList_inj.1;show (madeCells #[.bool false] 256).toList=_;rw[toList_madeCells_one];unfold bools cK;rw[List.map_replicate]
 rw[this];rfl
def SR(w:World)(A:Nat)(on:List Bool):Prop:=w.heap[A]?=some (.cells (bools on) 4 (0,0))/\on.length=256
def gX(w:World)(p:Nat)(kind:Nat)(onv lv:Value):Prop:=w.heap[p]?=some (.cells #[.int .u8 kind,onv,lv] 267 (0,0))
structure Cs(X:Nat)(S:ByteArray)(w:World)(A nb:Nat)(wr:World)(a1:Nat)(bad:Bool)(on:List Bool):Prop where
 ap:Ap X w wr
 scan:ba wr X S a1 bad
 node:gX wr nb 99 (.slice (some ⟨A,0,none⟩) 256 256) (.slice none 0 0)
 I5:SR wr A on
 hA:w.heap.size<=A
 iX:w.heap.size<=nb
 Ux:A≠nb
 hX:X<w.heap.size
section
variable {X:Nat} {S:ByteArray} {w:World} {A nb:Nat} {wr:World} {a1:Nat} {bad:Bool} {on:List Bool}
theorem Cs.step(h:Cs X S w A nb wr a1 bad on){wr':World}{a2:Nat}{PA:Bool}(hap:Ap X wr wr')(hs:ba wr' X S a2 PA):Cs X S w A nb wr' a2 PA on:=
 have hx:=h.hX;have ha:=h.hA;have hn:=h.iX
 ⟨h.ap.trans hap,hs,(hap.keep nb (ae h.node) (by omega)).trans h.node,⟨(hap.keep A (ae h.I5.1) (by omega)).trans h.I5.1,h.I5.2⟩,h.hA,h.iX,h.Ux,h.hX⟩
theorem Cs.drewN(h:Cs X S w A nb wr a1 bad on)(n:Nat):Cs X S w A nb (wr.drewN n) a1 bad on:=h.step ((Ap.refl _ _).drewN n) (h.scan.drewN n)
theorem Cs.drew(h:Cs X S w A nb wr a1 bad on):Cs X S w A nb wr.drew a1 bad on:=⟨⟨h.ap.os,h.ap.tape,h.ap.output,h.ap.size,h.ap.keep⟩,h.scan,h.node,h.I5,h.hA,h.iX,h.Ux,h.hX⟩
theorem Cs.move(h:Cs X S w A nb wr a1 bad on)(m:Nat):Cs X S w A nb (wr.setCell ⟨X,1,none⟩ (.int .i64 m)) m bad on:=h.step ((Ap.refl X wr).setCell (p:=⟨X,1,none⟩) rfl _) (h.scan.move m)
theorem Cs.tH(h:Cs X S w A nb wr a1 bad on)(b:Bool):Cs X S w A nb (wr.setCell ⟨X,2,none⟩ (.bool b)) a1 b on:=h.step ((Ap.refl X wr).setCell (p:=⟨X,2,none⟩) rfl _) (h.scan.tH b)
theorem Cs.put(h:Cs X S w A nb wr a1 bad on)(j:Nat)(b:Bool):Cs X S w A nb (wr.setCell ⟨A,j,none⟩ (.bool b)) a1 bad (on.set j b):=by
 have hx:=h.hX;have ha:=h.hA;have hn:=h.iX;refine ⟨h.ap.mD ha _,?_,?_,⟨?_,by rw[List.length_set];exact h.I5.2⟩,ha,hn,h.Ux,hx⟩
 ·exact (eV _ _ _ _ (by show X≠A;omega)).trans h.scan
 ·exact (eV _ _ _ _ (by show nb≠A;exact h.Ux.symm)).trans h.node
 ·rw[ah wr A j _ h.I5.1];congr 2;unfold bools;rw[List.setIfInBounds_toArray,List.map_set]
theorem Cs.cells(h:Cs X S w A nb wr a1 bad on):wr.cell? ⟨X,0,none⟩=some (.string S)/\wr.cell? ⟨X,1,none⟩=some (.int .i64 a1)/\wr.cell? ⟨X,2,none⟩=some (.bool bad)/\wr.frozen? ⟨X,1,none⟩=false/\wr.frozen? ⟨X,2,none⟩=false /\
  wr.cell? ⟨nb,1,none⟩=some (.slice (some ⟨A,0,none⟩) 256 256):=by
 obtain ⟨h1,h2,h3,h4,h5⟩:=h.scan.cells;refine ⟨h1,h2,h3,h4,h5,?_⟩;have hn:=h.node;unfold gX at hn;simp[World.cell?,hn]
theorem Cs.bit(h:Cs X S w A nb wr a1 bad on)(hj:on[j]?=some b):wr.cell? ⟨A,j,none⟩=some (.bool b)/\wr.frozen? ⟨A,j,none⟩=false:=by have hn:=h.I5.1;refine ⟨?_,by simp[World.frozen?,hn]⟩;simp[World.cell?,hn,bools,hj]
end
theorem Cs.start{a1:Nat}(h:ba w X S a1 false):
  Cs X S w w.heap.size (w.heap.size+1) ((w.alloc (.cells (bools cK) 4)).alloc (.cells #[.int .u8 99,.slice (some ⟨w.heap.size,0,none⟩) 256 256,.slice none 0 0] 267)) a1 false cK:=by
 refine ⟨((Ap.refl _ _).alloc _).alloc _,(h.alloc _).alloc _,?_,⟨af (ag _ _),by unfold cK;rw[List.length_replicate]⟩,bc _,by omega,by omega,h.lt⟩;have:=ag (w.alloc (.cells (bools cK) 4)) (.cells #[.int .u8 99,.slice (some ⟨w.heap.size,0,none⟩) 256 256,.slice none 0 0] 267);simpa [gX] using this
def PC(on:List Bool)(c:eO):Prop:=∀b:UInt8,on[b.toNat]?=some (c.has b)
def lK(s:List UInt8)(o:Option (eO×List UInt8)):Prop:=(br s=none/\o=none)∨∃c s',br s=some (c,s')/\Cq c s' o
theorem lK.pos(h:lK s o)(hn:s.head?≠some 94):eK s o:=by
 rcases h with ⟨h1,rfl⟩|⟨c,s',h1,h2⟩
 ·exact .mm hn h1
 ·exact .pos hn h1 h2
theorem lK.neg(h:lK s o):eK (94::s) (o.map λp=>(.iQ p.1,p.2)):=by
 rcases h with ⟨h1,rfl⟩|⟨c,s',h1,h2⟩
 ·exact .mq h1
 ·exact .neg h1 h2
theorem DT(h:dK s=none):br s=none:=by simp[br,h]
theorem Bp(h:dK s=some (lo,s1))(Uy:s1.head?≠some 45):br s=some (.range lo lo,s1):=by
 cases s1 with
 | nil=>simp[br,h]
 | cons c s2=>
  have:c≠45:=λe=>Uy (by rw[e];rfl)
  simp[br,h,this]
theorem sP(h:dK s=some (lo,s1))(h1:s1=45::s2)(h2:dK s2=none):br s=none:=by subst h1;simp[br,h,h2]
theorem mz(h:dK s=some (lo,s1))(h1:s1=45::s2)(h2:dK s2=some (hi,s3))(hl:¬hi.toNat<lo.toNat):br s=some (.range lo hi,s3):=by subst h1;simp[br,h,h2];omega
theorem GV(h:dK s=some (lo,s1))(h1:s1=45::s2)(h2:dK s2=some (hi,s3))(hl:hi.toNat<lo.toNat):br s=none:=by subst h1;simp[br,h,h2];omega
theorem nU{a:Nat}(h:(rest S a).head?=some c):a<S.size/\rest S a=c::rest S (a+1):=by
 rcases ed a S.size with hl|hl
 ·refine ⟨hl,?_⟩;have:=bE hl;rw[this]at h ⊢;simp only[List.head?_cons,fA]at h;rw[h]
 ·rw[dF hl]at h;cases h
def qV(s0:List UInt8)(i:Nat)(on:List Bool)(s:List UInt8):Prop:=
 (i=0/\on=cK/\s0=s)∨(0<i/\∃c,PC on c/\∀o,Cq c s o->lK s0 o)
theorem ng(h:j<256):cK[j]?=some false:=by unfold cK;rw[List.getElem?_replicate,if_pos h]
theorem qV.bad(h:qV s0 i on s)(hr:br s=none)(WY:0<i->s.head?≠some 93):lK s0 none:=by
 rcases h with ⟨_,_,rfl⟩|⟨hi,c,_,h2⟩
 ·exact .inl ⟨hr,rfl⟩
 ·exact h2 _ (.bad (WY hi) hr)
theorem qV.more{s':List UInt8}{Gc:List Bool}(h:qV s0 i on s)(hr:br s=some (.range lo hi,s'))(WY:0<i->s.head?≠some 93)
  (Uz:∀j,j<256->Gc[j]?=(on[j]?).map (λx=>x||decide (lo.toNat<=j/\j<=hi.toNat))):qV s0 (i+1) Gc s':=by
 right;refine ⟨by omega,?_⟩;have hb:∀b:UInt8,b.toNat<256:=λb=>b.toNat_lt
 rcases h with ⟨_,rfl,rfl⟩|⟨h0,c,h1,h2⟩
 ·refine ⟨.range lo hi,λb=>?_,λo ho=>.inr ⟨_,_,hr,ho⟩⟩;rw[Uz _ (hb b),ng (hb b)];simp[eO.has]
 ·refine ⟨.union c (.range lo hi),λb=>?_,λo ho=>h2 o (.more (WY h0) hr ho)⟩;rw[Uz _ (hb b),h1 b];simp[eO.has]
theorem qV.stop(h:qV s0 i on (93::s))(hi:0<i):∃c,PC on c/\lK s0 (some (c,s)):=by
 rcases h with ⟨h0,_⟩|⟨_,c,h1,h2⟩
 ·omega
 ·exact ⟨c,h1,h2 _ .stop⟩
def Ac(X:Nat)(S:ByteArray)(w:World)(A nb:Nat)(s0:List UInt8)(k:Nat)(vk:Value)(wr:World):Prop:=
 ∃(on:List Bool) (i a1:Nat) (bad:Bool),vk=.int .i64 i/\a1<=S.size/\Cs X S w A nb wr a1 bad on/\((bad=false/\i<=a1/\k=1+(S.size - a1)/\qV s0 i on (rest S a1))∨(bad=true/\k=0/\lK s0 none))
def DU(X:Nat)(S:ByteArray)(w:World)(A nb:Nat)(a2 lo hi:Nat)(on:List Bool)(k:Nat)(vc:Value)(wr:World):Prop:=
 ∃(Gc:List Bool) (j:Nat),vc=.int .i64 j/\lo<=j/\j+k=hi+1/\Cs X S w A nb wr a2 false Gc/\∀m,m<256->Gc[m]?=(on[m]?).map (λx=>x||decide (lo<=m/\m<j))
def DV(X:Nat)(S:ByteArray)(w:World)(A nb:Nat)(a2:Nat)(bad:Bool)(on:List Bool)(k:Nat)(vc:Value)(wr:World):Prop:=
 ∃(Gc:List Bool) (j:Nat),vc=.int .i64 j/\j+k=256/\Cs X S w A nb wr a2 bad Gc/\∀m,m<256->Gc[m]?=(on[m]?).map (λx=>if m<j then !x else x)
def K7(X:Nat)(S:ByteArray)(at_:Nat)(w:World)(e:Ending)(w':World):Prop:=
 ∃(A nb a1:Nat) (bad:Bool) (on:List Bool),e=.returned (.pointer (some ⟨nb,0,none⟩))/\a1<=S.size/\Cs X S w A nb w' a1 bad on/\((bad=false/\∃c,PC on c/\eK (rest S at_) (some (c,rest S a1)))∨(bad=true/\eK (rest S at_) none))
theorem zn(m:Nat)(o:Option Bool):o=o.map (λx=>if m<0 then !x else x):=by cases o<;>simp
theorem zq(m lo:Nat)(o:Option Bool):o=o.map (λx=>x||decide (lo<=m/\m<lo)):=by
 have:decide (lo<=m/\m<lo)=false:=by simp
 cases o<;>simp[this]
theorem zr(hm:m<256)(hb:tG[j]?=some b)(h:tG[m]?=(on[m]?).map (λx=>if m<j then !x else x)):(tG.set j (!b))[m]?=(on[m]?).map (λx=>if m<j+1 then !x else x):=by
 rw[List.getElem?_set];have hj:j<tG.length:=(List.getElem?_eq_some_iff.1 hb).1;by_cases UA:j=m
 ·subst UA;rw[if_pos rfl,if_pos hj];rw[hb]at h
  cases ho:on[j]? with
  | none=>rw[ho]at h;cases h
  | some x=>rw[ho]at h;simp at h;simp[h]
 ·rw[if_neg UA,h];have:(m<j+1)<->m<j:=by omega
  simp[this]
theorem turned{c:eO}(h:PC on c)(h2:∀m,m<256->tG[m]?=(on[m]?).map (λx=>if m<256 then !x else x)):PC tG (.iQ c):=λb=>by have hb:b.toNat<256:=b.toNat_lt;rw[h2 _ hb,h b];simp[hb,eO.has]
theorem zu{lo:Nat}(hm:m<256)(hl:lo<=j)(hb:tG[j]?=some b)(h:tG[m]?=(on[m]?).map (λx=>x||decide (lo<=m/\m<j))):(tG.set j true)[m]?=(on[m]?).map (λx=>x||decide (lo<=m/\m<j+1)):=by
 rw[List.getElem?_set];have hj:j<tG.length:=(List.getElem?_eq_some_iff.1 hb).1;by_cases UA:j=m
 ·subst UA;rw[if_pos rfl,if_pos hj];rw[hb]at h
  cases ho:on[j]? with
  | none=>rw[ho]at h;cases h
  | some x=>simp[hl]
 ·rw[if_neg UA,h];have:(lo<=m/\m<j+1)<->(lo<=m/\m<j):=by omega
  simp only[this]
theorem rJ(X:Nat)(S:ByteArray)(at_:Nat)(w:World)(h:ba w X S at_ false)(pD:S.size<=60)(hle:at_<=S.size):
  Calls Tryz.prog 201 #[.pointer (some ⟨X,0,none⟩)] w (K7 X S at_ w):=by
 have hmk:=pJ w;have H0:=aa (Cs.start h);clear h;go_enter Tryz.func201,Tryz.ntmps201;go_wp2_with fail;obtain ⟨nb,iX⟩:∃nb,nb=w.heap.size+1:=⟨_,rfl⟩;obtain ⟨A,hA⟩:∃A,A=w.heap.size:=⟨_,rfl⟩;rw[<-iX,<-hA]
 have H1:=aa (show Cs X S w A nb ((w.alloc (.cells (bools cK) 4)).alloc (.cells #[.int .u8 99,.slice (some ⟨A,0,none⟩) 256 256,.slice none 0 0] 267)) at_ false cK by rw[iX,hA];exact H0.out);clear H0 hmk iX hA
 generalize (w.alloc (.cells (bools cK) 4)).alloc (.cells #[.int .u8 99,.slice (some ⟨A,0,none⟩) 256 256,.slice none 0 0] 267)=w1 at *;refine (lr 94 X S at_ false w1 H1.out.scan).mono ?_;rintro e w2 ⟨rfl,n1,rfl⟩;have H2:=aa (H1.out.drewN n1);clear H1;generalize w1.drewN n1=w2 at *;by_cases iw:(rest S at_).head?=some 94
 case' pos=>
  have hv:((rest S at_).head? == some 94)=true:=by rw[iw];rfl
  rw[hv]
  obtain ⟨hlt,hr⟩:at_<S.size/\rest S at_=94::rest S (at_+1):=by
   rcases ed at_ S.size with h|h
   ·refine ⟨h,?_⟩;have:=bE h;rw[this]at iw ⊢;simp only[List.head?_cons,fA]at iw;rw[iw]
   ·rw[dF h]at iw;cases iw
  obtain ⟨a0,ha0⟩:∃a0,a0=at_+1:=⟨_,rfl⟩;have Cg:=aa (show rest S at_=94::rest S a0 by rw[ha0];exact hr);have zv:a0<=S.size:=by omega
  have HA0:=aa ha0;have Uw:at_<=60:=by omega
  obtain ⟨c0,c1,c2,f1,f2,c3⟩:=H2.out.cells;clear hr iw hv ha0 hlt;go_wp2_with fail;have H3:=aa (show Cs X S w A nb (w2.setCell ⟨X,1,none⟩ (.int .i64 ((at_:Int)+1))) a0 false cK by rw[HA0.out];exact H2.out.move (at_+1));clear H2 c0 c1 c2 f1 f2 c3;generalize w2.setCell ⟨X,1,none⟩ (.int .i64 ((at_:Int)+1))=w2 at *
 case' neg=>
  have hv:((rest S at_).head? == some 94)=false:=by rw[er];exact iw
  rw[hv];have SS:=aa iw;obtain ⟨a0,ha0⟩:∃a0,a0=at_:=⟨_,rfl⟩;have zv:a0<=S.size:=by omega
  have H3:=aa (show Cs X S w A nb w2 a0 false cK by rw[ha0];exact H2.out);have Cg:=aa (show rest S at_=rest S a0 by rw[ha0]);clear iw hv H2 ha0;go_wp2_with fail
 all_goals
  go_loopg [5] (1+(S.size - a0)) (λk vk wr=>Ac X S w A nb (rest S a0) k vk wr)
  case atStart=>exact ⟨cK,0,a0,false,rfl,zv,H3.out,.inl ⟨rfl,Nat.zero_le _,rfl,.inl ⟨rfl,rfl,rfl⟩⟩⟩
  case round=>
   obtain ⟨on,i,a1,bad,rfl,ha1,hcs,⟨rfl,hia,hk,Ey⟩|⟨rfl,hk,Xt⟩⟩:=hrel
   ·have wI:=aa hcs;have EN:=aa Ey;have HK:=aa hk;obtain ⟨c0,c1,c2,f1,f2,c3⟩:=wI.out.cells;clear hcs Ey hk;go_wp2_with fail;refine (lr 93 X S a1 false wr wI.out.scan).mono ?_;rintro e w3 ⟨rfl,n3,rfl⟩;have DW:=aa (wI.out.drewN n3);clear wI c0 c1 c2 f1 f2 c3;generalize wr.drewN n3=w3 at *;obtain ⟨c0,c1,c2,f1,f2,c3⟩:=DW.out.cells
    by_cases h9:(rest S a1).head?=some 93/\0<i
    ·obtain ⟨WY,uL⟩:=h9;have aa7:((rest S a1).head? == some 93)=true:=by rw[WY];rfl
     rw[aa7];have g0:decide (0<(i:Int))=true:=by simp;omega
     obtain ⟨iW,hr2⟩:=nU WY;obtain ⟨a3,Mo⟩:∃a3,a3=a1+1:=⟨_,rfl⟩;have J6:=aa (qV.stop (s:=rest S a3) (by rw[Mo,<-hr2];exact EN.out) uL);have I6:a3<=S.size:=by omega
     have CH:=aa Mo;have aa8:a1<=60:=by omega
     clear aa7 WY hr2 Mo EN;go_wp2_with fail;have DX:=aa (show Cs X S w A nb (w3.setCell ⟨X,1,none⟩ (.int .i64 ((a1:Int)+1))) a3 false on by rw[CH.out];exact DW.out.move (a1+1));clear DW c0 c1 c2 f1 f2 c3;generalize w3.setCell ⟨X,1,none⟩ (.int .i64 ((a1:Int)+1))=w6 at *;obtain ⟨cc,aa9,aba⟩:=J6.out;have HC1:=aa aa9;have HC2:=aa aba;clear aa9 aba J6
     first
      | (
        have _:=SS;go_loopg [11] 0 (λ_ vc wr'=>vc=.int .i64 0/\wr'=w6)
        case atStart=>exact ⟨rfl,rfl⟩
        case round=>
         obtain ⟨rfl,rfl⟩:=hrel;go_wp2_with fail;go_ret;exact ⟨A,nb,a3,false,on,rfl,I6,DX.out,.inl ⟨rfl,⟨cc,HC1.out,(by rw[Cg.out];exact lK.pos HC2.out (by rw[<-Cg.out];exact SS.out))⟩⟩⟩)
      | (
        go_loopg [11] 256 (λk vc wr'=>DV X S w A nb a3 false on k vc wr')
        case atStart=>exact ⟨on,0,rfl,rfl,DX.out,λm _=>zn m _⟩
        case round=>
         obtain ⟨tG,j,rfl,hj,wX,wY⟩:=hrel;have jl:=aa wX;have yl:=aa wY;clear wX wY
         cases gk with
         | zero=>
          obtain rfl:j=256:=by omega
          go_wp2_with fail;go_ret;exact ⟨A,nb,a3,false,tG,rfl,I6,jl.out,.inl ⟨rfl,⟨.iQ cc,turned HC1.out yl.out,(by rw[Cg.out];exact lK.neg HC2.out)⟩⟩⟩
         | succ k=>
          have ez:j<256:=by omega
          have Ys:decide ((j:Int)<256)=true:=by simp;omega
          obtain ⟨b2,hb2⟩:∃b2,tG[j]?=some b2:=⟨_,cB (by rw[jl.out.I5.2];exact ez)⟩;obtain ⟨c0,c1,c2,f1,f2,c3⟩:=jl.out.cells;obtain ⟨o1,o2⟩:=jl.out.bit hb2;have cW:=aa hb2;clear hb2;go_wp2_with fail;go_region;go_wp2_with fail;go_roundg k
          case measure=>omega
          case rel=>exact ⟨tG.set j (!b2),j+1,rfl,by omega,(jl.out.put j (!b2)).drew,λm hm=>zr hm cW.out (yl.out m hm)⟩)
    ·have H93:=aa (show 0<i->(rest S a1).head?≠some 93 from λh e=>h9 ⟨e,h⟩);obtain ⟨q,hq⟩:∃q,((rest S a1).head? == some 93)=q:=⟨_,rfl⟩;have g0:q=true->¬0<i:=λe h=>h9 ⟨by rw[e]at hq;exact beq_iff_eq.1 hq,h⟩
     rw[hq];clear h9 hq;cases q
     all_goals
      first|have g1:decide ((0:Int)<(i:Int))=false:=bV (by have:=g0 rfl;omega)|skip
      first|have g2:decide (0<i)=false:=bV (g0 rfl)|skip
      clear g0;go_wp2_with fail;refine (kS X S a1 w3 DW.out.scan pD ha1).mono ?_;rintro e w4 ⟨hap,lo,a2,rfl,ha2,⟨hp,hlt,hsc⟩|⟨hp,hsc⟩⟩
      ·have WZ:lo.toNat<256:=lo.toNat_lt;have sQ:=aa (DW.out.step hap hsc);have gD:=aa hp;clear hap hsc hp DW c0 c1 c2 f1 f2 c3;obtain ⟨c0,c1,c2,f1,f2,c3⟩:=sQ.out.cells;go_wp2_with fail;refine (lr 45 X S a2 false w4 sQ.out.scan).mono ?_;rintro e w5 ⟨rfl,n5,rfl⟩;have GW:=aa (sQ.out.drewN n5);clear sQ c0 c1 c2 f1 f2 c3;generalize w4.drewN n5=w5 at *
       obtain ⟨c0,c1,c2,f1,f2,c3⟩:=GW.out.cells;by_cases Uy:(rest S a2).head?=some 45
       ·have PE:((rest S a2).head? == some 45)=true:=by rw[Uy];rfl
        rw[PE];obtain ⟨iW,hr2⟩:=nU Uy;obtain ⟨a3,Mo⟩:∃a3,a3=a2+1:=⟨_,rfl⟩;have mA:=aa (show rest S a2=45::rest S a3 by rw[Mo];exact hr2);have I6:a3<=S.size:=by omega
        have CH:=aa Mo;have UB:a2<=60:=by omega
        clear PE Uy hr2 Mo;go_wp2_with fail;have DX:=aa (show Cs X S w A nb (w5.setCell ⟨X,1,none⟩ (.int .i64 ((a2:Int)+1))) a3 false on by rw[CH.out];exact GW.out.move (a2+1));clear GW c0 c1 c2 f1 f2 c3;generalize w5.setCell ⟨X,1,none⟩ (.int .i64 ((a2:Int)+1))=w6 at *;refine (kS X S a3 w6 DX.out.scan pD I6).mono ?_
        rintro e w7 ⟨hap,hi,a4,rfl,ha4,⟨hp,ad3,hsc⟩|⟨hp,hsc⟩⟩
        ·have Xa:hi.toNat<256:=hi.toNat_lt;have Bq:=aa (DX.out.step hap hsc);have nD:=aa hp;have I7:=aa (show i+1<=a4 by have:=CH.out;omega);have CD:=aa (show a1<a4 by have:=CH.out;omega);clear hap hsc hp DX;obtain ⟨c0,c1,c2,f1,f2,c3⟩:=Bq.out.cells;by_cases Uj:hi.toNat<lo.toNat
         ·have g1:decide ((hi.toNat:Int)<(lo.toNat:Int))=true:=by simp;omega
          have K8:=aa (EN.out.bad (GV gD.out mA.out nD.out Uj) H93.out);have Xb:¬lo.toNat<=hi.toNat:=by omega
          have g3:decide (lo.toNat<=hi.toNat)=false:=by simpa using Xb
          go_wp2_with fail;have PF:=aa (Bq.out.tH true);clear Bq c0 c1 c2 f1 f2 c3;generalize w7.setCell ⟨X,2,none⟩ (.bool true)=w8 at *;obtain ⟨c0,c1,c2,f1,f2,c3⟩:=PF.out.cells;go_loopg [10] 0 (λ_ vc wr'=>vc=.int .i64 (lo.toNat:Int)/\wr'=w8)
          case atStart=>exact ⟨rfl,rfl⟩
          case round=>
           obtain ⟨rfl,rfl⟩:=hrel;go_wp2_with fail;go_roundg 0
           case measure=>have:=HK.out;omega
           case rel=>exact ⟨on,i+1,a4,true,rfl,ha4,PF.out,.inr ⟨rfl,rfl,K8.out⟩⟩
         ·have g1:decide (hi.toNat<lo.toNat)=false:=by simpa using Uj
          have Fb:lo.toNat<=hi.toNat:=by omega
          have Ad:=aa (mz gD.out mA.out nD.out Uj);go_wp2_with fail;clear c0 c1 c2 f1 f2 c3;go_loopg [10] ((hi).toNat+1 - (lo).toNat) (λk vc wr'=>DU X S w A nb a4 (lo).toNat (hi).toNat on k vc wr')
          case atStart=>exact ⟨on,(lo).toNat,rfl,bc _,by omega,Bq.out,λm _=>zq m _ _⟩
          case round=>
           obtain ⟨tG,j,rfl,LX,hj,wX,wY⟩:=hrel;have jl:=aa wX;have yl:=aa wY;clear wX wY;obtain ⟨c0,c1,c2,f1,f2,c3⟩:=jl.out.cells
           cases gk with
           | zero=>
            have Qp:¬j<=(hi).toNat:=by omega
            have Ys:decide (j<=(hi).toNat)=false:=by simpa using Qp
            go_wp2_with fail;go_roundg (1+(S.size - a4))
            case measure=>have:=HK.out;have:=CD.out;omega
            case rel=>exact ⟨tG,i+1,a4,false,rfl,ha4,jl.out,.inl ⟨rfl,I7.out,rfl,EN.out.more Ad.out H93.out (λm hm=>by rw[yl.out m hm];congr 1;funext x;congr 2;exact propext ⟨λh=>⟨h.1,by omega⟩,λh=>⟨h.1,by omega⟩⟩)⟩⟩
           | succ k=>
            have rE:j<=(hi).toNat:=by omega
            have ez:j<256:=by have:=(hi).toNat_lt;omega
            have Ys:decide ((j:Int)<=((hi).toNat:Int))=true:=by simp;omega
            obtain ⟨b2,hb2⟩:∃b2,tG[j]?=some b2:=⟨_,cB (by rw[jl.out.I5.2];exact ez)⟩;obtain ⟨o1,o2⟩:=jl.out.bit hb2;have cW:=aa hb2;clear hb2;go_wp2_with fail;go_roundg k
            case measure=>omega
            case rel=>exact ⟨tG.set j true,j+1,rfl,by omega,by omega,jl.out.put j true,λm hm=>zu hm LX cW.out (yl.out m hm)⟩
        ·have Xa:hi.toNat<256:=hi.toNat_lt;have Bq:=aa (DX.out.step hap hsc);have K8:=aa (EN.out.bad (sP gD.out mA.out hp) H93.out);clear hap hsc hp DX;obtain ⟨c0,c1,c2,f1,f2,c3⟩:=Bq.out.cells;by_cases Uj:hi.toNat<lo.toNat
         ·have g1:decide ((hi.toNat:Int)<(lo.toNat:Int))=true:=by simp;omega
          have Xb:¬lo.toNat<=hi.toNat:=by omega
          have g3:decide (lo.toNat<=hi.toNat)=false:=by simpa using Xb
          go_wp2_with fail;have PF:=aa (Bq.out.tH true);clear Bq c0 c1 c2 f1 f2 c3;generalize w7.setCell ⟨X,2,none⟩ (.bool true)=w8 at *;obtain ⟨c0,c1,c2,f1,f2,c3⟩:=PF.out.cells;go_loopg [10] 0 (λ_ vc wr'=>vc=.int .i64 (lo.toNat:Int)/\wr'=w8)
          case atStart=>exact ⟨rfl,rfl⟩
          case round=>
           obtain ⟨rfl,rfl⟩:=hrel;go_wp2_with fail;go_roundg 0
           case measure=>have:=HK.out;omega
           case rel=>exact ⟨on,i+1,a4,true,rfl,ha4,PF.out,.inr ⟨rfl,rfl,K8.out⟩⟩
         ·have g1:decide (hi.toNat<lo.toNat)=false:=by simpa using Uj
          have Fb:lo.toNat<=hi.toNat:=by omega
          have g3:decide ((lo.toNat:Int)<=(hi.toNat:Int))=true:=by simp;omega
          go_wp2_with fail;go_loopg [10] 0 (λ_ vc wr'=>vc=.int .i64 (lo.toNat:Int)/\wr'=w7)
          case atStart=>exact ⟨rfl,rfl⟩
          case round=>
           obtain ⟨rfl,rfl⟩:=hrel;go_wp2_with fail;go_roundg 0
           case measure=>have:=HK.out;omega
           case rel=>exact ⟨on,i+1,a4,true,rfl,ha4,Bq.out,.inr ⟨rfl,rfl,K8.out⟩⟩
       ·have PE:((rest S a2).head? == some 45)=false:=by rw[er];exact Uy
        rw[PE];have Ad:=aa (Bp gD.out Uy);have I7:=aa (show i+1<=a2 by omega);have CD:=aa (show a1<a2 by omega);clear PE Uy;go_wp2_with fail;clear c0 c1 c2 f1 f2 c3;go_loopg [10] ((lo).toNat+1 - (lo).toNat) (λk vc wr'=>DU X S w A nb a2 (lo).toNat (lo).toNat on k vc wr')
        case atStart=>exact ⟨on,(lo).toNat,rfl,bc _,by omega,GW.out,λm _=>zq m _ _⟩
        case round=>
         obtain ⟨tG,j,rfl,LX,hj,wX,wY⟩:=hrel;have jl:=aa wX;have yl:=aa wY;clear wX wY;obtain ⟨c0,c1,c2,f1,f2,c3⟩:=jl.out.cells
         cases gk with
         | zero=>
          have Qp:¬j<=(lo).toNat:=by omega
          have Ys:decide (j<=(lo).toNat)=false:=by simpa using Qp
          go_wp2_with fail;go_roundg (1+(S.size - a2))
          case measure=>have:=HK.out;have:=CD.out;omega
          case rel=>exact ⟨tG,i+1,a2,false,rfl,ha2,jl.out,.inl ⟨rfl,I7.out,rfl,EN.out.more Ad.out H93.out (λm hm=>by rw[yl.out m hm];congr 1;funext x;congr 2;exact propext ⟨λh=>⟨h.1,by omega⟩,λh=>⟨h.1,by omega⟩⟩)⟩⟩
         | succ k=>
          have rE:j<=(lo).toNat:=by omega
          have ez:j<256:=by have:=(lo).toNat_lt;omega
          have Ys:decide ((j:Int)<=((lo).toNat:Int))=true:=by simp;omega
          obtain ⟨b2,hb2⟩:∃b2,tG[j]?=some b2:=⟨_,cB (by rw[jl.out.I5.2];exact ez)⟩;obtain ⟨o1,o2⟩:=jl.out.bit hb2;have cW:=aa hb2;clear hb2;go_wp2_with fail;go_roundg k
          case measure=>omega
          case rel=>exact ⟨tG.set j true,j+1,rfl,by omega,by omega,jl.out.put j true,λm hm=>zu hm LX cW.out (yl.out m hm)⟩
      ·have WZ:lo.toNat<256:=lo.toNat_lt;have sQ:=aa (DW.out.step hap hsc);have K8:=aa (EN.out.bad (DT hp) H93.out);clear hap hsc hp DW c0 c1 c2 f1 f2 c3;obtain ⟨c0,c1,c2,f1,f2,c3⟩:=sQ.out.cells;go_wp2_with fail;refine (lr 45 X S a2 true w4 sQ.out.scan).mono ?_;rintro e w5 ⟨rfl,n5,rfl⟩;have GW:=aa (sQ.out.drewN n5);clear sQ c0 c1 c2 f1 f2 c3
       generalize w4.drewN n5=w5 at *;obtain ⟨c0,c1,c2,f1,f2,c3⟩:=GW.out.cells;obtain ⟨bd,K0⟩:∃bd,((rest S a2).head? == some 45)=bd:=⟨_,rfl⟩;rw[K0];cases bd
       all_goals
        clear K0;go_wp2_with fail;go_loopg [10] 0 (λ_ vc wr'=>vc=.int .i64 (lo.toNat:Int)/\wr'=w5)
        case atStart=>exact ⟨rfl,rfl⟩
        case round=>
         obtain ⟨rfl,rfl⟩:=hrel;go_wp2_with fail;go_roundg 0
         case measure=>have:=HK.out;omega
         case rel=>exact ⟨on,i+1,a2,true,rfl,ha2,GW.out,.inr ⟨rfl,rfl,K8.out⟩⟩
   ·have wI:=aa hcs;have K8:=aa Xt;obtain ⟨c0,c1,c2,f1,f2,c3⟩:=wI.out.cells;clear hcs Xt hk;go_wp2_with fail
    first
     | (
       have _:=SS;go_loopg [11] 0 (λ_ vc wr'=>vc=.int .i64 0/\wr'=wr)
       case atStart=>exact ⟨rfl,rfl⟩
       case round=>
        obtain ⟨rfl,rfl⟩:=hrel;go_wp2_with fail;go_ret;exact ⟨A,nb,a1,true,on,rfl,ha1,wI.out,.inr ⟨rfl,(by rw[Cg.out];exact lK.pos K8.out (by rw[<-Cg.out];exact SS.out))⟩⟩)
     | (
       go_loopg [11] 256 (λk vc wr'=>DV X S w A nb a1 true on k vc wr')
       case atStart=>exact ⟨on,0,rfl,rfl,wI.out,λm _=>zn m _⟩
       case round=>
        obtain ⟨tG,j,rfl,hj,wX,wY⟩:=hrel;have jl:=aa wX;have yl:=aa wY;clear wX wY
        cases gk with
        | zero=>
         obtain rfl:j=256:=by omega
         go_wp2_with fail;go_ret;exact ⟨A,nb,a1,true,tG,rfl,ha1,jl.out,.inr ⟨rfl,(by rw[Cg.out];exact lK.neg (K8.out))⟩⟩
        | succ k=>
         have ez:j<256:=by omega
         have Ys:decide ((j:Int)<256)=true:=by simp;omega
         obtain ⟨b2,hb2⟩:∃b2,tG[j]?=some b2:=⟨_,cB (by rw[jl.out.I5.2];exact ez)⟩;obtain ⟨c0,c1,c2,f1,f2,c3⟩:=jl.out.cells;obtain ⟨o1,o2⟩:=jl.out.bit hb2;have cW:=aa hb2;clear hb2;go_wp2_with fail;go_region;go_wp2_with fail;go_roundg k
         case measure=>omega
         case rel=>exact ⟨tG.set j (!b2),j+1,rfl,by omega,(jl.out.put j (!b2)).drew,λm hm=>zr hm cW.out (yl.out m hm)⟩)
end Go.Proofs.YtgncgdkpkkdaeaaGreatDoor.Ref
