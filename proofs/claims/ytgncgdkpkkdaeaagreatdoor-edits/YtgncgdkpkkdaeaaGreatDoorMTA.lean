import Derived.Test.YtgncgdkpkkdaeaaGreatDoorMC
import Derived.Test.YtgncgdkpkkdaeaaGreatDoorMB
import Derived.Deep.LoopGhost
import Derived.Laws.MakeOwn
import Derived.Laws.OwnMore
namespace Go.Proofs.YtgncgdkpkkdaeaaGreatDoor.Ref
open Go.RowKit aO
variable {p:Addr} {bad:Bool} {S:ByteArray} {X at_:Nat} {c:UInt8} {a w w':World}
def aZ(w:World)(X:Nat)(S:ByteArray)(at_:Nat)(bad:Bool):Prop:=w.heap[X]?=some (.cells #[.string S,.int .i64 at_,.bool bad] 198 (0,0))
structure Ap(X:Nat)(w w':World):Prop where
 os:w'.os=w.os
 tape:w'.tape=w.tape
 output:w'.output=w.output
 size:w.heap.size<=w'.heap.size
 keep:∀k,k<w.heap.size->k≠X->w'.heap[k]?=w.heap[k]?
theorem Ap.refl(X:Nat)(w:World):Ap X w w:=⟨rfl,rfl,rfl,Nat.le_refl _,λ_ _ _=>rfl⟩
theorem Ap.trans{b c:World}(h:Ap X a b)(k:Ap X b c):Ap X a c:=
 ⟨k.os.trans h.os,k.tape.trans h.tape,k.output.trans h.output,Nat.le_trans h.size k.size,λi hi hn=>(k.keep i (Nat.lt_of_lt_of_le hi h.size) hn).trans (h.keep i hi hn)⟩
theorem Ap.drewN(h:Ap X a w)(n:Nat):Ap X a (w.drewN n):=⟨h.os,h.tape,h.output,h.size,h.keep⟩
theorem Ap.alloc(h:Ap X a w)(o:Obj):Ap X a (w.alloc o):=
 h.trans ⟨rfl,rfl,rfl,by simp,λ_ hk _=>Below.heap_alloc _ _ _ hk⟩
theorem Ap.setCell(h:Ap X a w)(hp:p.block=X)(u:Value):Ap X a (w.setCell p u):=
 h.trans ⟨rfl,rfl,rfl,by simp[World.setCell],λ_ _ hn=>Below.heap_setCell _ _ _ _ (λe=>hn (e.trans hp))⟩
theorem Ap.lI(h:Ap X a w)(hp:a.heap.size<=p.block)(u:Value):Ap X a (w.setCell p u):=
 ⟨h.os,h.tape,h.output,by simpa [World.setCell] using h.size,λk hk hn=>by rw[Below.heap_setCell _ _ _ _ (by omega)];exact h.keep k hk hn⟩
theorem Ap.au(h:Below w.heap.size w w'):Ap X w w':=⟨h.os,h.tape,h.output,h.size,λk hk _=>h.block k hk⟩
theorem Ap.below{B:Nat}(h:Ap X w w')(hB:B<=w.heap.size)(hX:B<=X):Below B w w':=⟨h.os,h.tape,h.output,h.size,λk hk=>h.keep k (by omega) (by omega)⟩
theorem aZ.lt(h:aZ w X S at_ bad):X<w.heap.size:=ae h
theorem aZ.cells(h:aZ w X S at_ bad):
  w.cell? ⟨X,0,none⟩=some (.string S)/\w.cell? ⟨X,1,none⟩=some (.int .i64 at_)/\w.cell? ⟨X,2,none⟩=some (.bool bad)/\w.frozen? ⟨X,1,none⟩=false/\w.frozen? ⟨X,2,none⟩=false:=by
 unfold aZ at h;refine ⟨?_,?_,?_,?_,?_⟩
 all_goals simp[World.cell?,World.frozen?,h]
theorem aZ.drewN(h:aZ w X S at_ bad)(n:Nat):aZ (w.drewN n) X S at_ bad:=h
theorem aZ.alloc(h:aZ w X S at_ bad)(o:Obj):aZ (w.alloc o) X S at_ bad:=heap_alloc_old h
theorem aZ.move(h:aZ w X S at_ bad)(m:Nat):aZ (w.setCell ⟨X,1,none⟩ (.int .i64 m)) X S m bad:=heap_setCell_same w X 1 _ h
theorem aZ.sD(h:aZ w X S at_ bad)(b:Bool):aZ (w.setCell ⟨X,2,none⟩ (.bool b)) X S at_ b:=heap_setCell_same w X 2 _ h
set_option maxHeartbeats 400000 in
theorem kG(c:UInt8)(X:Nat)(S:ByteArray)(at_:Nat)(bad:Bool)(w:World)(h:aZ w X S at_ bad):
  Calls Tryz.prog 144 #[.pointer (some ⟨X,0,none⟩),.int .u8 c.toNat] w λe w'=>e=.returned (.bool ((rest S at_).head? == some c))/\∃n,w'=w.drewN n:=by
 obtain ⟨c0,c1,c2,f1,f2⟩:=h.cells;clear h;rcases Nat.lt_or_ge at_ S.size with hlt|kg
 ·have hg:decide ((at_:Int)<(S.size:Int))=true:=by simpa using hlt
  by_cases hb:S[at_]=c
  ·have hq:(((S[at_]).toNat:Int)==(c.toNat:Int))=true:=by rw[beq_iff_eq,hb]
   have HV:=aa (show ((rest S at_).head? == some c)=true by rw[br hlt,hb];simp);clear hb;go_enter Tryz.func144,Tryz.ntmps144;go_wp2_with fail;go_quiet (fail);go_wp2;go_ret;exact ⟨by rw[HV.out];rfl,nq,rfl⟩
  ·have hq:(((S[at_]).toNat:Int)==(c.toNat:Int))=false:=by rw[beq_eq_false_iff_ne];intro h;exact hb (UInt8.toNat_inj.1 (by omega))
   have HV:=aa (show ((rest S at_).head? == some c)=false by rw[br hlt];simpa using hb);clear hb;go_enter Tryz.func144,Tryz.ntmps144;go_wp2_with fail;go_quiet (fail);go_wp2;go_ret;exact ⟨by rw[HV.out];rfl,nq,rfl⟩
 ·have hg:decide (at_<S.size)=false:=by simp;omega
  have HV:=aa (show ((rest S at_).head? == some c)=false by rw[dv kg];rfl);go_enter Tryz.func144,Tryz.ntmps144;go_wp2_with fail;go_quiet (fail);go_wp2;go_ret;exact ⟨by rw[HV.out];rfl,nq,rfl⟩
def fO:List UInt8:=[92,40,41,91,93,124,42,43,63,46,94,45]
def OB(c:UInt8)(w:World)(k:Nat)(vi:Value)(wr:World):Prop:=
 ∃i:Nat,vi=.int .i64 i/\i+k=12/\wr=w/\∀j,j<i->fO[j]?≠some c
theorem OC{i:Nat}(h:fO[i]?=some c):dS c=true:=by show fO.contains c=true;rw[List.contains_iff_mem];exact List.mem_of_getElem? h
theorem Ki(h:∀j,j<12->fO[j]?≠some c):dS c=false:=by show fO.contains c=false;rw[Bool.eq_false_iff,ne_eq,List.contains_iff_mem];intro hm;obtain ⟨j,hj,he⟩:=List.getElem_of_mem hm;exact h j hj (by rw[List.getElem?_eq_getElem hj,he])
set_option maxRecDepth 20000 in
set_option maxHeartbeats 1000000 in
theorem OD(c:UInt8)(w:World):Calls Tryz.prog 208 #[.int .u8 c.toNat] w λe w'=>e=.returned (.bool (dS c))/\w'=w:=by
 go_enter Tryz.func208,Tryz.ntmps208;go_wp2_with fail;go_loopg [3] 12 (λk vi wr=>OB c w k vi wr)
 case atStart=>exact ⟨0,rfl,rfl,rfl,λj hj=>by omega⟩
 case round=>
  obtain ⟨i,rfl,hk,rfl,hne⟩:=hrel
  cases gk with
  | zero=>
   obtain rfl:i=12:=by omega
   have QA:=aa (Ki hne);clear hne;go_wp2_with fail;go_ret;exact ⟨by rw[QA.out];rfl,rfl⟩
  | succ k=>
   have hi:i<12:=by omega
   have hg:decide ((i:Int)<12)=true:=by simp;omega
   have DY:i<(⟨#[92,40,41,91,93,124,42,43,63,46,94,45]⟩:ByteArray).size:=hi;have hl:fO[i]?=some ((⟨#[92,40,41,91,93,124,42,43,63,46,94,45]⟩:ByteArray)[i]):=by rw[List.getElem?_eq_getElem (show i<fO.length from hi)];rfl
   by_cases hc:(⟨#[92,40,41,91,93,124,42,43,63,46,94,45]⟩:ByteArray)[i]=c
   ·have hq:(((⟨#[92,40,41,91,93,124,42,43,63,46,94,45]⟩:ByteArray)[i].toNat:Int)==(c.toNat:Int))=true:=by rw[hc,beq_iff_eq]
    have HS:=aa (OC (by rw[hl,hc]:fO[i]?=some c));clear hne hl hc;go_wp2_with fail;go_ret;exact ⟨by rw[HS.out];rfl,rfl⟩
   ·have hq:(((⟨#[92,40,41,91,93,124,42,43,63,46,94,45]⟩:ByteArray)[i].toNat:Int)==(c.toNat:Int))=false:=by rw[beq_eq_false_iff_ne];intro h;exact hc (UInt8.toNat_inj.1 (by omega))
    have QA:=aa (show ∀j,j<i+1->fO[j]?≠some c from λj hj=>by
     rcases Nat.lt_or_ge j i with h|h
     ·exact hne j h
     ·obtain rfl:j=i:=by omega
      rw[hl];intro e;exact hc (Option.some.inj e))
    clear hne hl hc;go_wp2_with fail;go_roundg k
    case measure=>omega
    case rel=>exact ⟨i+1,rfl,by omega,rfl,QA.out⟩
def tN(X:Nat)(S:ByteArray)(at_:Nat)(w:World)(e:Ending)(w':World):Prop:=
 Ap X w w'/\∃(b:UInt8) (at':Nat),e=.returned (.int .u8 b.toNat)/\at'<=S.size/\((dC (rest S at_)=some (b,rest S at')/\at_<at'/\aZ w' X S at' false)∨(dC (rest S at_)=none/\aZ w' X S at' true))
end Go.Proofs.YtgncgdkpkkdaeaaGreatDoor.Ref
namespace Go.Proofs.YtgncgdkpkkdaeaaGreatDoor.Ref
open Go.RowKit aO
set_option maxHeartbeats 8000000 in
theorem vO(X:Nat)(S:ByteArray)(at_ a1:Nat)(w:World)(eb:Bool)(h:aZ w X S at_ false)(oI:S.size<=60)(wD:((rest S at_).head? == some 92)=eb)(ha1:a1=if eb=true then at_+1 else at_)
  (hc:(a1=S.size/\dC (rest S at_)=none)∨∃c s,rest S a1=c::s/\((dC (rest S at_)=none/\(c.toNat<32∨126<c.toNat∨(32<=c.toNat/\c.toNat<=126/\dS c=!eb)))∨(32<=c.toNat/\c.toNat<=126/\dS c=eb/\dC (rest S at_)=some (c,s)))):
  Calls Tryz.prog 202 #[.pointer (some ⟨X,0,none⟩)] w (tN X S at_ w):=by
 have HK:=aa (kG 92 X S at_ false w h);have H:=aa h;have HH:=aa wD;have HC:=aa hc
 have adB:a1<=S.size:=by
  rcases hc with ⟨h1,_⟩|⟨c,s,h1,_⟩
  ·omega
  ·have:=(dG h1).1;omega
 have hat:at_<=a1:=by rw[ha1];split<;>omega
 have GQ:=aa ha1;clear h wD hc ha1;go_enter Tryz.func202,Tryz.ntmps202;go_wp2_with fail;refine HK.out.mono ?_;rintro e w1 ⟨rfl,n1,rfl⟩;rw[HH.out];obtain ⟨c0,c1,c2,f1,f2⟩:=(H.out.drewN n1).cells;have H1:=aa (H.out.drewN n1);have HA:=aa ((Ap.refl X w).drewN n1);generalize w.drewN n1=w1 at *;clear HK HH H;cases eb
 case' false=>
  obtain rfl:a1=at_:=GQ.out;go_wp2_with fail;generalize w1=w2 at *
 case' true=>
  have TD:at_<=60:=by omega
  go_wp2_with fail;have H2:=aa (show aZ (w1.setCell ⟨X,1,none⟩ (.int .i64 ((at_:Int)+1))) X S a1 false by rw[GQ.out];exact H1.out.move (at_+1));have DL:=aa (HA.out.setCell (p:=⟨X,1,none⟩) rfl (.int .i64 ((at_:Int)+1)));clear c0 c1 c2 f1 f2 H1 HA;generalize w1.setCell ⟨X,1,none⟩ (.int .i64 ((at_:Int)+1))=w2 at *;have H1:=aa H2.out;have HA:=aa DL.out;clear H2 DL
  obtain ⟨c0,c1,c2,f1,f2⟩:=H1.out.cells
 all_goals
  have adC:a1<=61:=by omega
  rcases HC.out with ⟨hend,ho⟩|⟨c,s,hr,aaA⟩
  ·have hg:decide ((S.size:Int)<=(a1:Int))=true:=decide_eq_true (by omega);have kg:S.size<=a1:=by omega
   have HO:=aa ho;clear ho hend HC;go_quiet (fail)
   rename Nat=>oZ
   have H3:=aa (H1.out.drewN oZ);have BM:=aa (HA.out.drewN oZ);clear c0 c1 c2 f1 f2 H1 HA;obtain ⟨c0,c1,c2,f1,f2⟩:=H3.out.cells;generalize w2.drewN oZ=w3 at *;go_wp2_with fail;go_ret;exact ⟨BM.out.setCell rfl _,0,a1,rfl,by omega,.inr ⟨HO.out,H3.out.sD true⟩⟩
  ·have HS:=aa (λW=>OD c W);obtain ⟨hlt,hc,hs'⟩:=dG hr;have HR:=aa hs';have hg:decide ((S.size:Int)<=(a1:Int))=false:=decide_eq_false (by omega);have hg2:¬S.size<=a1:=by omega
   clear hr hs' HC;rcases aaA with ⟨ho,h1|h1|⟨h1,h2,hs⟩⟩|⟨h1,h2,hs,ho⟩
   all_goals
    have HO:=aa ho;clear ho
    first|have g1:decide ((c.toNat:Int)<32)=true:=decide_eq_true (by omega)|have g1:decide ((c.toNat:Int)<32)=false:=decide_eq_false (by omega)
    first|have g2:decide (126<(c.toNat:Int))=true:=decide_eq_true (by omega)|have g2:decide (126<(c.toNat:Int))=false:=decide_eq_false (by omega)
    first|(have XE:=aa hs;clear hs)|skip
    go_quiet (fail)
    rename Nat=>oZ
    have H3:=aa (H1.out.drewN oZ);have BM:=aa (HA.out.drewN oZ);clear c0 c1 c2 f1 f2 H1 HA;obtain ⟨c0,c1,c2,f1,f2⟩:=H3.out.cells;generalize w2.drewN oZ=w3 at *;go_wp2_with fail;go_quiet (fail)
    rename Nat=>D1
    have H4:=aa (H3.out.drewN D1);have WZ:=aa (BM.out.drewN D1);clear c0 c1 c2 f1 f2 H3 BM;obtain ⟨c0,c1,c2,f1,f2⟩:=H4.out.cells;generalize w3.drewN D1=w4 at *;go_wp2_with fail;refine (HS.out _).mono ?_;rintro e w5 ⟨rfl,rfl⟩
    first|rw[XE.out]|skip
    go_wp2_with fail;go_ret
    first
     | exact ⟨(WZ.out.setCell rfl _).setCell rfl _,c,a1+1,rfl,by omega,.inr ⟨HO.out,(H4.out.sD true).move (a1+1)⟩⟩
     | exact ⟨WZ.out.setCell rfl _,c,a1+1,rfl,by omega,.inl ⟨by rw[HO.out,HR.out],by omega,H4.out.move (a1+1)⟩⟩
theorem kn(X:Nat)(S:ByteArray)(at_:Nat)(w:World)(h:aZ w X S at_ false)(oI:S.size<=60)(hle:at_<=S.size):
  Calls Tryz.prog 202 #[.pointer (some ⟨X,0,none⟩)] w (tN X S at_ w):=by
 rcases Nat.lt_or_ge at_ S.size with hlt|kg
 ·have hr:=br hlt;generalize S[at_]=c at hr;by_cases wD:c=92
  ·subst wD;refine vO X S at_ (at_+1) w true h oI (by rw[hr];rfl) rfl ?_;rcases Nat.lt_or_ge (at_+1) S.size with iD|acn
   ·have hr2:=br iD;generalize S[at_+1]=d at hr2;refine .inr ⟨d,_,hr2,?_⟩;by_cases hs:dS d=true
    ·obtain ⟨h1,h2⟩:=oB d hs;exact .inr ⟨h1,h2,hs,by rw[hr,hr2];simp[dC,hs]⟩
    ·have hs':dS d=false:=by simpa using hs
     refine .inl ⟨by rw[hr,hr2];simp[dC,hs],?_⟩;by_cases PM:d.toNat<32
     ·exact .inl PM
     ·by_cases EJ:126<d.toNat
      ·exact .inr (.inl EJ)
      ·exact .inr (.inr ⟨by omega,by omega,hs'⟩)
   ·exact .inl ⟨by omega,by rw[hr,dv acn];simp[dC]⟩
  ·refine vO X S at_ at_ w false h oI (by rw[hr,beq_eq_false_iff_ne];simpa using wD) rfl (.inr ⟨c,_,hr,?_⟩);by_cases hs:dS c=true
   ·obtain ⟨h1,h2⟩:=oB c hs;exact .inl ⟨by rw[hr];simp[dC,wD,hs],.inr (.inr ⟨h1,h2,hs⟩)⟩
   ·have hs':dS c=false:=by simpa using hs
    by_cases PM:c.toNat<32
    ·exact .inl ⟨by rw[hr];simp[dC,wD,hs'];omega,.inl PM⟩
    ·by_cases EJ:126<c.toNat
     ·exact .inl ⟨by rw[hr];simp[dC,wD,hs'];omega,.inr (.inl EJ)⟩
     ·exact .inr ⟨by omega,by omega,hs',by rw[hr];simp[dC,wD,hs'];omega⟩
 ·exact vO X S at_ at_ w false h oI (by rw[dv kg];rfl) rfl (.inl ⟨by omega,by rw[dv kg];rfl⟩)
end Go.Proofs.YtgncgdkpkkdaeaaGreatDoor.Ref
namespace Go.Proofs.YtgncgdkpkkdaeaaGreatDoor.Ref
open Go.RowKit aO
variable {S:ByteArray} {on:List Bool} {s s0 s1 s2 s3:List UInt8} {i j:Nat} {o:Option (eC×List UInt8)} {hi lo:UInt8}
def bools(on:List Bool):Array Value:=(on.map Value.bool).toArray
def cA:List Bool:=List.replicate 256 false
theorem oT(w:World):(Instr.makeSlice 201 (.int .i64 256) (.int .i64 256)).run Tryz.prog w=.ok (.slice (some ⟨w.heap.size,0,none⟩) 256 256) (w.alloc (.cells (bools cA) 4)):=by
 obtain ⟨i,hi,h0,h1,h2⟩:=info_parts (show (Tryz.prog.info? 4).map (λi=>(i.zero,i.size,i.bytes))=some (some (.bool false),1,1) by kernel_rfl);rw[run_make w 201 4 i (.bool false) Tryz.underlying201 hi h0 .i64 .i64 256 256 (by decide) (by decide) (by rw[h2];decide) (by decide)]
 have:madeCells (Value.bool false).cells ((256:Int).toNat *i.size)=bools cA:=by rw[h1];apply Array.toList_inj.1;show (madeCells #[.bool false] 256).toList=_;rw[toList_madeCells_one];unfold bools cA;rw[List.map_replicate]
 rw[this];rfl
def RT(w:World)(A:Nat)(on:List Bool):Prop:=w.heap[A]?=some (.cells (bools on) 4 (0,0))/\on.length=256
def gz(w:World)(p:Nat)(kind:Nat)(onv lv:Value):Prop:=w.heap[p]?=some (.cells #[.int .u8 kind,onv,lv] 267 (0,0))
structure Cs(X:Nat)(S:ByteArray)(w:World)(A nb:Nat)(wr:World)(a1:Nat)(bad:Bool)(on:List Bool):Prop where
 ap:Ap X w wr
 scan:aZ wr X S a1 bad
 node:gz wr nb 99 (.slice (some ⟨A,0,none⟩) 256 256) (.slice none 0 0)
 Ia:RT wr A on
 hA:w.heap.size<=A
 iE:w.heap.size<=nb
 TE:A≠nb
 hX:X<w.heap.size
section
variable {X:Nat} {S:ByteArray} {w:World} {A nb:Nat} {wr:World} {a1:Nat} {bad:Bool} {on:List Bool}
theorem Cs.step(h:Cs X S w A nb wr a1 bad on){wr':World}{a2:Nat}{OE:Bool}(hap:Ap X wr wr')(hs:aZ wr' X S a2 OE):Cs X S w A nb wr' a2 OE on:=
 have hx:=h.hX;have ha:=h.hA;have hn:=h.iE
 ⟨h.ap.trans hap,hs,(hap.keep nb (ae h.node) (by omega)).trans h.node,⟨(hap.keep A (ae h.Ia.1) (by omega)).trans h.Ia.1,h.Ia.2⟩,h.hA,h.iE,h.TE,h.hX⟩
theorem Cs.drewN(h:Cs X S w A nb wr a1 bad on)(n:Nat):Cs X S w A nb (wr.drewN n) a1 bad on:=h.step ((Ap.refl _ _).drewN n) (h.scan.drewN n)
theorem Cs.drew(h:Cs X S w A nb wr a1 bad on):Cs X S w A nb wr.drew a1 bad on:=⟨⟨h.ap.os,h.ap.tape,h.ap.output,h.ap.size,h.ap.keep⟩,h.scan,h.node,h.Ia,h.hA,h.iE,h.TE,h.hX⟩
theorem Cs.move(h:Cs X S w A nb wr a1 bad on)(m:Nat):Cs X S w A nb (wr.setCell ⟨X,1,none⟩ (.int .i64 m)) m bad on:=h.step ((Ap.refl X wr).setCell (p:=⟨X,1,none⟩) rfl _) (h.scan.move m)
theorem Cs.sD(h:Cs X S w A nb wr a1 bad on)(b:Bool):Cs X S w A nb (wr.setCell ⟨X,2,none⟩ (.bool b)) a1 b on:=h.step ((Ap.refl X wr).setCell (p:=⟨X,2,none⟩) rfl _) (h.scan.sD b)
theorem Cs.put(h:Cs X S w A nb wr a1 bad on)(j:Nat)(b:Bool):Cs X S w A nb (wr.setCell ⟨A,j,none⟩ (.bool b)) a1 bad (on.set j b):=by
 have hx:=h.hX;have ha:=h.hA;have hn:=h.iE;refine ⟨h.ap.lI ha _,?_,?_,⟨?_,by rw[List.length_set];exact h.Ia.2⟩,ha,hn,h.TE,hx⟩
 ·exact (Below.heap_setCell _ _ _ _ (by show X≠A;omega)).trans h.scan
 ·exact (Below.heap_setCell _ _ _ _ (by show nb≠A;exact h.TE.symm)).trans h.node
 ·rw[heap_setCell_same wr A j _ h.Ia.1];congr 2;unfold bools;rw[List.setIfInBounds_toArray,List.map_set]
theorem Cs.cells(h:Cs X S w A nb wr a1 bad on):wr.cell? ⟨X,0,none⟩=some (.string S)/\wr.cell? ⟨X,1,none⟩=some (.int .i64 a1)/\wr.cell? ⟨X,2,none⟩=some (.bool bad)/\wr.frozen? ⟨X,1,none⟩=false/\wr.frozen? ⟨X,2,none⟩=false /\
  wr.cell? ⟨nb,1,none⟩=some (.slice (some ⟨A,0,none⟩) 256 256):=by
 obtain ⟨h1,h2,h3,h4,h5⟩:=h.scan.cells;refine ⟨h1,h2,h3,h4,h5,?_⟩;have hn:=h.node;unfold gz at hn;simp[World.cell?,hn]
theorem Cs.bit(h:Cs X S w A nb wr a1 bad on){b:Bool}(hj:on[j]?=some b):wr.cell? ⟨A,j,none⟩=some (.bool b)/\wr.frozen? ⟨A,j,none⟩=false:=by have hn:=h.Ia.1;refine ⟨?_,by simp[World.frozen?,hn]⟩;simp[World.cell?,hn,bools,hj]
end
theorem Cs.start{X:Nat}{w:World}{a1:Nat}(h:aZ w X S a1 false):
  Cs X S w w.heap.size (w.heap.size+1) ((w.alloc (.cells (bools cA) 4)).alloc (.cells #[.int .u8 99,.slice (some ⟨w.heap.size,0,none⟩) 256 256,.slice none 0 0] 267)) a1 false cA:=by
 refine ⟨((Ap.refl _ _).alloc _).alloc _,(h.alloc _).alloc _,?_,⟨heap_alloc_old (af _ _),by unfold cA;rw[List.length_replicate]⟩,Nat.le_refl _,by omega,by omega,h.lt⟩;have:=af (w.alloc (.cells (bools cA) 4)) (.cells #[.int .u8 99,.slice (some ⟨w.heap.size,0,none⟩) 256 256,.slice none 0 0] 267);simpa [gz] using this
def Lz(on:List Bool)(c:eC):Prop:=∀b:UInt8,on[b.toNat]?=some (c.has b)
def jm(s:List UInt8)(o:Option (eC×List UInt8)):Prop:=(bn s=none/\o=none)∨∃c s',bn s=some (c,s')/\Bv c s' o
theorem jm.pos(h:jm s o)(hn:s.head?≠some 94):ew s o:=by
 rcases h with ⟨h1,rfl⟩|⟨c,s',h1,h2⟩
 ·exact .lz hn h1
 ·exact .pos hn h1 h2
theorem jm.neg(h:jm s o):ew (94::s) (o.map λp=>(.iy p.1,p.2)):=by
 rcases h with ⟨h1,rfl⟩|⟨c,s',h1,h2⟩
 ·exact .lB h1
 ·exact .neg h1 h2
theorem C3(h:dC s=none):bn s=none:=by simp[bn,h]
theorem Am(h:dC s=some (lo,s1))(TF:s1.head?≠some 45):bn s=some (.range lo lo,s1):=by
 cases s1 with
 | nil=>simp[bn,h]
 | cons c s2=>
  have:c≠45:=λe=>TF (by rw[e];rfl)
  simp[bn,h,this]
theorem rJ(h:dC s=some (lo,s1))(h1:s1=45::s2)(h2:dC s2=none):bn s=none:=by subst h1;simp[bn,h,h2]
theorem lD(h:dC s=some (lo,s1))(h1:s1=45::s2)(h2:dC s2=some (hi,s3))(hl:¬hi.toNat<lo.toNat):bn s=some (.range lo hi,s3):=by subst h1;simp[bn,h,h2];omega
theorem FZ(h:dC s=some (lo,s1))(h1:s1=45::s2)(h2:dC s2=some (hi,s3))(hl:hi.toNat<lo.toNat):bn s=none:=by subst h1;simp[bn,h,h2];omega
theorem mY{a:Nat}{c:UInt8}(h:(rest S a).head?=some c):a<S.size/\rest S a=c::rest S (a+1):=by
 rcases Nat.lt_or_ge a S.size with hl|hl
 ·refine ⟨hl,?_⟩;have:=br hl;rw[this]at h ⊢;simp only[List.head?_cons,Option.some.injEq]at h;rw[h]
 ·rw[dv hl]at h;cases h
def qh(s0:List UInt8)(i:Nat)(on:List Bool)(s:List UInt8):Prop:=
 (i=0/\on=cA/\s0=s)∨(0<i/\∃c,Lz on c/\∀o,Bv c s o->jm s0 o)
theorem mq(h:j<256):cA[j]?=some false:=by unfold cA;rw[List.getElem?_replicate,if_pos h]
theorem qh.bad(h:qh s0 i on s)(hr:bn s=none)(V5:0<i->s.head?≠some 93):jm s0 none:=by
 rcases h with ⟨_,_,rfl⟩|⟨hi,c,_,h2⟩
 ·exact .inl ⟨hr,rfl⟩
 ·exact h2 _ (.bad (V5 hi) hr)
theorem qh.more{s':List UInt8}{Ff:List Bool}(h:qh s0 i on s)(hr:bn s=some (.range lo hi,s'))(V5:0<i->s.head?≠some 93)
  (TG:∀j,j<256->Ff[j]?=(on[j]?).map (λx=>x||decide (lo.toNat<=j/\j<=hi.toNat))):qh s0 (i+1) Ff s':=by
 right;refine ⟨by omega,?_⟩;have hb:∀b:UInt8,b.toNat<256:=λb=>b.toNat_lt
 rcases h with ⟨_,rfl,rfl⟩|⟨h0,c,h1,h2⟩
 ·refine ⟨.range lo hi,λb=>?_,λo ho=>.inr ⟨_,_,hr,ho⟩⟩;rw[TG _ (hb b),mq (hb b)];simp[eC.has]
 ·refine ⟨.union c (.range lo hi),λb=>?_,λo ho=>h2 o (.more (V5 h0) hr ho)⟩;rw[TG _ (hb b),h1 b];simp[eC.has]
theorem qh.stop(h:qh s0 i on (93::s))(hi:0<i):∃c,Lz on c/\jm s0 (some (c,s)):=by
 rcases h with ⟨h0,_⟩|⟨_,c,h1,h2⟩
 ·omega
 ·exact ⟨c,h1,h2 _ .stop⟩
def aco(s0:List UInt8)(S:ByteArray)(a1:Nat)(bad:Bool)(on:List Bool):Prop:=(bad=false/\∃c,Lz on c/\jm s0 (some (c,rest S a1)))∨(bad=true/\jm s0 none)
def zi(X:Nat)(S:ByteArray)(w:World)(A nb:Nat)(s0:List UInt8)(k:Nat)(vk:Value)(wr:World):Prop:=
 ∃(on:List Bool) (i a1:Nat) (bad:Bool),vk=.int .i64 i/\a1<=S.size/\Cs X S w A nb wr a1 bad on/\((bad=false/\i<=a1/\k=1+(S.size - a1)/\qh s0 i on (rest S a1))∨(bad=true/\k=0/\jm s0 none))
def C4(X:Nat)(S:ByteArray)(w:World)(A nb:Nat)(a2 lo hi:Nat)(on:List Bool)(k:Nat)(vc:Value)(wr:World):Prop:=
 ∃(Ff:List Bool) (j:Nat),vc=.int .i64 j/\lo<=j/\j+k=hi+1/\Cs X S w A nb wr a2 false Ff/\∀m,m<256->Ff[m]?=(on[m]?).map (λx=>x||decide (lo<=m/\m<j))
def C5(X:Nat)(S:ByteArray)(w:World)(A nb:Nat)(a2:Nat)(bad:Bool)(on:List Bool)(k:Nat)(vc:Value)(wr:World):Prop:=
 ∃(Ff:List Bool) (j:Nat),vc=.int .i64 j/\j+k=256/\Cs X S w A nb wr a2 bad Ff/\∀m,m<256->Ff[m]?=(on[m]?).map (λx=>if m<j then !x else x)
end Go.Proofs.YtgncgdkpkkdaeaaGreatDoor.Ref
namespace Go.Proofs.YtgncgdkpkkdaeaaGreatDoor.Ref
open Go.RowKit aO
variable {b:Bool} {on sG:List Bool} {j m:Nat}
def Kj(X:Nat)(S:ByteArray)(at_:Nat)(w:World)(e:Ending)(w':World):Prop:=
 ∃(A nb a1:Nat) (bad:Bool) (on:List Bool),e=.returned (.pointer (some ⟨nb,0,none⟩))/\a1<=S.size/\Cs X S w A nb w' a1 bad on/\((bad=false/\∃c,Lz on c/\ew (rest S at_) (some (c,rest S a1)))∨(bad=true/\ew (rest S at_) none))
theorem yx(m:Nat)(o:Option Bool):o=o.map (λx=>if m<0 then !x else x):=by cases o<;>simp
theorem yy(m lo:Nat)(o:Option Bool):o=o.map (λx=>x||decide (lo<=m/\m<lo)):=by
 have:decide (lo<=m/\m<lo)=false:=by simp
 cases o<;>simp[this]
theorem yz(hm:m<256)(hb:sG[j]?=some b)(h:sG[m]?=(on[m]?).map (λx=>if m<j then !x else x)):(sG.set j (!b))[m]?=(on[m]?).map (λx=>if m<j+1 then !x else x):=by
 rw[List.getElem?_set];have hj:j<sG.length:=(List.getElem?_eq_some_iff.1 hb).1;by_cases TH:j=m
 ·subst TH;rw[if_pos rfl,if_pos hj];rw[hb]at h
  cases ho:on[j]? with
  | none=>rw[ho]at h;cases h
  | some x=>rw[ho]at h;simp at h;simp[h]
 ·rw[if_neg TH,h];have:(m<j+1)<->m<j:=by omega
  simp[this]
theorem turned{c:eC}(h:Lz on c)(h2:∀m,m<256->sG[m]?=(on[m]?).map (λx=>if m<256 then !x else x)):Lz sG (.iy c):=λb=>by have hb:b.toNat<256:=b.toNat_lt;rw[h2 _ hb,h b];simp[hb,eC.has]
theorem yA{lo:Nat}(hm:m<256)(hl:lo<=j)(hb:sG[j]?=some b)(h:sG[m]?=(on[m]?).map (λx=>x||decide (lo<=m/\m<j))):(sG.set j true)[m]?=(on[m]?).map (λx=>x||decide (lo<=m/\m<j+1)):=by
 rw[List.getElem?_set];have hj:j<sG.length:=(List.getElem?_eq_some_iff.1 hb).1;by_cases TH:j=m
 ·subst TH;rw[if_pos rfl,if_pos hj];rw[hb]at h
  cases ho:on[j]? with
  | none=>rw[ho]at h;cases h
  | some x=>simp[hl]
 ·rw[if_neg TH,h];have:(lo<=m/\m<j+1)<->(lo<=m/\m<j):=by omega
  simp only[this]
set_option maxRecDepth 20000 in
set_option maxHeartbeats 4000000 in
theorem qL(X:Nat)(S:ByteArray)(at_:Nat)(w:World)(h:aZ w X S at_ false)(oI:S.size<=60)(hle:at_<=S.size):
  Calls Tryz.prog 201 #[.pointer (some ⟨X,0,none⟩)] w (Kj X S at_ w):=by
 have hmk:=oT w;have H0:=aa (Cs.start h);clear h;go_enter Tryz.func201,Tryz.ntmps201;go_wp2_with fail;obtain ⟨nb,iE⟩:∃nb,nb=w.heap.size+1:=⟨_,rfl⟩;obtain ⟨A,hA⟩:∃A,A=w.heap.size:=⟨_,rfl⟩;rw[<-iE,<-hA]
 have H1:=aa (show Cs X S w A nb ((w.alloc (.cells (bools cA) 4)).alloc (.cells #[.int .u8 99,.slice (some ⟨A,0,none⟩) 256 256,.slice none 0 0] 267)) at_ false cA by rw[iE,hA];exact H0.out);clear H0 hmk iE hA
 generalize (w.alloc (.cells (bools cA) 4)).alloc (.cells #[.int .u8 99,.slice (some ⟨A,0,none⟩) 256 256,.slice none 0 0] 267)=w1 at *;refine (kG 94 X S at_ false w1 H1.out.scan).mono ?_;rintro e w2 ⟨rfl,n1,rfl⟩;have H2:=aa (H1.out.drewN n1);clear H1;generalize w1.drewN n1=w2 at *;by_cases gR:(rest S at_).head?=some 94
 case' pos=>
  have hv:((rest S at_).head? == some 94)=true:=by rw[gR];rfl
  rw[hv]
  obtain ⟨hlt,hr⟩:at_<S.size/\rest S at_=94::rest S (at_+1):=by
   rcases Nat.lt_or_ge at_ S.size with h|h
   ·refine ⟨h,?_⟩;have:=br h;rw[this]at gR ⊢;simp only[List.head?_cons,Option.some.injEq]at gR;rw[gR]
   ·rw[dv h]at gR;cases gR
  obtain ⟨a0,ha0⟩:∃a0,a0=at_+1:=⟨_,rfl⟩;have Bj:=aa (show rest S at_=94::rest S a0 by rw[ha0];exact hr);have yB:a0<=S.size:=by omega
  have HA0:=aa ha0;have TD:at_<=60:=by omega
  obtain ⟨c0,c1,c2,f1,f2,c3⟩:=H2.out.cells;clear hr gR hv ha0 hlt;go_wp2_with fail;have H3:=aa (show Cs X S w A nb (w2.setCell ⟨X,1,none⟩ (.int .i64 ((at_:Int)+1))) a0 false cA by rw[HA0.out];exact H2.out.move (at_+1));clear H2 c0 c1 c2 f1 f2 c3;generalize w2.setCell ⟨X,1,none⟩ (.int .i64 ((at_:Int)+1))=w2 at *
 case' neg=>
  have hv:((rest S at_).head? == some 94)=false:=by rw[beq_eq_false_iff_ne];exact gR
  rw[hv];have RU:=aa gR;obtain ⟨a0,ha0⟩:∃a0,a0=at_:=⟨_,rfl⟩;have yB:a0<=S.size:=by omega
  have H3:=aa (show Cs X S w A nb w2 a0 false cA by rw[ha0];exact H2.out);have Bj:=aa (show rest S at_=rest S a0 by rw[ha0]);clear gR hv H2 ha0;go_wp2_with fail
 all_goals
  go_loopg [5] (1+(S.size - a0)) (λk vk wr=>zi X S w A nb (rest S a0) k vk wr)
  case atStart=>exact ⟨cA,0,a0,false,rfl,yB,H3.out,.inl ⟨rfl,Nat.zero_le _,rfl,.inl ⟨rfl,rfl,rfl⟩⟩⟩
  case round=>
   obtain ⟨on,i,a1,bad,rfl,ha1,hcs,⟨rfl,hia,hk,DI⟩|⟨rfl,hk,Wt⟩⟩:=hrel
   ·have vA:=aa hcs;have D2:=aa DI;have HK:=aa hk;obtain ⟨c0,c1,c2,f1,f2,c3⟩:=vA.out.cells;clear hcs DI hk;go_wp2_with fail;refine (kG 93 X S a1 false wr vA.out.scan).mono ?_;rintro e w3 ⟨rfl,n3,rfl⟩;have C6:=aa (vA.out.drewN n3);clear vA c0 c1 c2 f1 f2 c3;generalize wr.drewN n3=w3 at *;obtain ⟨c0,c1,c2,f1,f2,c3⟩:=C6.out.cells
    by_cases h9:(rest S a1).head?=some 93/\0<i
    ·obtain ⟨V5,tX⟩:=h9;have aaB:((rest S a1).head? == some 93)=true:=by rw[V5];rfl
     rw[aaB];have g0:decide (0<(i:Int))=true:=by simp;omega
     obtain ⟨iD,hr2⟩:=mY V5;obtain ⟨a3,LA⟩:∃a3,a3=a1+1:=⟨_,rfl⟩;have Jh:=aa (qh.stop (s:=rest S a3) (by rw[LA,<-hr2];exact D2.out) tX);have Ib:a3<=S.size:=by omega
     have BM:=aa LA;have aaC:a1<=60:=by omega
     clear aaB V5 hr2 LA D2;go_wp2_with fail;have C7:=aa (show Cs X S w A nb (w3.setCell ⟨X,1,none⟩ (.int .i64 ((a1:Int)+1))) a3 false on by rw[BM.out];exact C6.out.move (a1+1));clear C6 c0 c1 c2 f1 f2 c3;generalize w3.setCell ⟨X,1,none⟩ (.int .i64 ((a1:Int)+1))=w6 at *;obtain ⟨cc,aaD,aaE⟩:=Jh.out;have HC1:=aa aaD;have HC2:=aa aaE;clear aaD aaE Jh
     first
      | (
        have _:=RU;go_loopg [11] 0 (λ_ vc wr'=>vc=.int .i64 0/\wr'=w6)
        case atStart=>exact ⟨rfl,rfl⟩
        case round=>
         obtain ⟨rfl,rfl⟩:=hrel;go_wp2_with fail;go_ret;exact ⟨A,nb,a3,false,on,rfl,Ib,C7.out,.inl ⟨rfl,⟨cc,HC1.out,(by rw[Bj.out];exact jm.pos HC2.out (by rw[<-Bj.out];exact RU.out))⟩⟩⟩)
      | (
        go_loopg [11] 256 (λk vc wr'=>C5 X S w A nb a3 false on k vc wr')
        case atStart=>exact ⟨on,0,rfl,rfl,C7.out,λm _=>yx m _⟩
        case round=>
         obtain ⟨sG,j,rfl,hj,vP,vQ⟩:=hrel;have iR:=aa vP;have xA:=aa vQ;clear vP vQ
         cases gk with
         | zero=>
          obtain rfl:j=256:=by omega
          go_wp2_with fail;go_ret;exact ⟨A,nb,a3,false,sG,rfl,Ib,iR.out,.inl ⟨rfl,⟨.iy cc,turned HC1.out xA.out,(by rw[Bj.out];exact jm.neg HC2.out)⟩⟩⟩
         | succ k=>
          have ed:j<256:=by omega
          have XG:decide ((j:Int)<256)=true:=by simp;omega
          obtain ⟨b2,hb2⟩:∃b2,sG[j]?=some b2:=⟨_,List.getElem?_eq_getElem (by rw[iR.out.Ia.2];exact ed)⟩;obtain ⟨c0,c1,c2,f1,f2,c3⟩:=iR.out.cells;obtain ⟨o1,o2⟩:=iR.out.bit hb2;have cL:=aa hb2;clear hb2;go_wp2_with fail;go_region;go_wp2_with fail;go_roundg k
          case measure=>omega
          case rel=>exact ⟨sG.set j (!b2),j+1,rfl,by omega,(iR.out.put j (!b2)).drew,λm hm=>yz hm cL.out (xA.out m hm)⟩)
    ·have H93:=aa (show 0<i->(rest S a1).head?≠some 93 from λh e=>h9 ⟨e,h⟩);obtain ⟨q,hq⟩:∃q,((rest S a1).head? == some 93)=q:=⟨_,rfl⟩;have g0:q=true->¬0<i:=λe h=>h9 ⟨by rw[e]at hq;exact beq_iff_eq.1 hq,h⟩
     rw[hq];clear h9 hq;cases q
     all_goals
      first|have g1:decide ((0:Int)<(i:Int))=false:=decide_eq_false (by have:=g0 rfl;omega)|skip
      first|have g2:decide (0<i)=false:=decide_eq_false (g0 rfl)|skip
      clear g0;go_wp2_with fail;refine (kn X S a1 w3 C6.out.scan oI ha1).mono ?_;rintro e w4 ⟨hap,lo,a2,rfl,ha2,⟨hp,hlt,hsc⟩|⟨hp,hsc⟩⟩
      ·have V6:lo.toNat<256:=lo.toNat_lt;have rK:=aa (C6.out.step hap hsc);have gH:=aa hp;clear hap hsc hp C6 c0 c1 c2 f1 f2 c3;obtain ⟨c0,c1,c2,f1,f2,c3⟩:=rK.out.cells;go_wp2_with fail;refine (kG 45 X S a2 false w4 rK.out.scan).mono ?_;rintro e w5 ⟨rfl,n5,rfl⟩;have F0:=aa (rK.out.drewN n5);clear rK c0 c1 c2 f1 f2 c3;generalize w4.drewN n5=w5 at *
       obtain ⟨c0,c1,c2,f1,f2,c3⟩:=F0.out.cells;by_cases TF:(rest S a2).head?=some 45
       ·have OG:((rest S a2).head? == some 45)=true:=by rw[TF];rfl
        rw[OG];obtain ⟨iD,hr2⟩:=mY TF;obtain ⟨a3,LA⟩:∃a3,a3=a2+1:=⟨_,rfl⟩;have lF:=aa (show rest S a2=45::rest S a3 by rw[LA];exact hr2);have Ib:a3<=S.size:=by omega
        have BM:=aa LA;have TI:a2<=60:=by omega
        clear OG TF hr2 LA;go_wp2_with fail;have C7:=aa (show Cs X S w A nb (w5.setCell ⟨X,1,none⟩ (.int .i64 ((a2:Int)+1))) a3 false on by rw[BM.out];exact F0.out.move (a2+1));clear F0 c0 c1 c2 f1 f2 c3;generalize w5.setCell ⟨X,1,none⟩ (.int .i64 ((a2:Int)+1))=w6 at *;refine (kn X S a3 w6 C7.out.scan oI Ib).mono ?_
        rintro e w7 ⟨hap,hi,a4,rfl,ha4,⟨hp,adD,hsc⟩|⟨hp,hsc⟩⟩
        ·have V7:hi.toNat<256:=hi.toNat_lt;have Ao:=aa (C7.out.step hap hsc);have mJ:=aa hp;have Ic:=aa (show i+1<=a4 by have:=BM.out;omega);have BG:=aa (show a1<a4 by have:=BM.out;omega);clear hap hsc hp C7;obtain ⟨c0,c1,c2,f1,f2,c3⟩:=Ao.out.cells;by_cases Tr:hi.toNat<lo.toNat
         ·have g1:decide ((hi.toNat:Int)<(lo.toNat:Int))=true:=by simp;omega
          have Kk:=aa (D2.out.bad (FZ gH.out lF.out mJ.out Tr) H93.out);have V8:¬lo.toNat<=hi.toNat:=by omega
          have g3:decide (lo.toNat<=hi.toNat)=false:=by simpa using V8
          go_wp2_with fail;have OH:=aa (Ao.out.sD true);clear Ao c0 c1 c2 f1 f2 c3;generalize w7.setCell ⟨X,2,none⟩ (.bool true)=w8 at *;obtain ⟨c0,c1,c2,f1,f2,c3⟩:=OH.out.cells;go_loopg [10] 0 (λ_ vc wr'=>vc=.int .i64 (lo.toNat:Int)/\wr'=w8)
          case atStart=>exact ⟨rfl,rfl⟩
          case round=>
           obtain ⟨rfl,rfl⟩:=hrel;go_wp2_with fail;go_roundg 0
           case measure=>have:=HK.out;omega
           case rel=>exact ⟨on,i+1,a4,true,rfl,ha4,OH.out,.inr ⟨rfl,rfl,Kk.out⟩⟩
         ·have g1:decide (hi.toNat<lo.toNat)=false:=by simpa using Tr
          have Mb:lo.toNat<=hi.toNat:=by omega
          have zj:=aa (lD gH.out lF.out mJ.out Tr);go_wp2_with fail;clear c0 c1 c2 f1 f2 c3;go_loopg [10] ((hi).toNat+1 - (lo).toNat) (λk vc wr'=>C4 X S w A nb a4 (lo).toNat (hi).toNat on k vc wr')
          case atStart=>exact ⟨on,(lo).toNat,rfl,Nat.le_refl _,by omega,Ao.out,λm _=>yy m _ _⟩
          case round=>
           obtain ⟨sG,j,rfl,K8,hj,vP,vQ⟩:=hrel;have iR:=aa vP;have xA:=aa vQ;clear vP vQ;obtain ⟨c0,c1,c2,f1,f2,c3⟩:=iR.out.cells
           cases gk with
           | zero=>
            have Pw:¬j<=(hi).toNat:=by omega
            have XG:decide (j<=(hi).toNat)=false:=by simpa using Pw
            go_wp2_with fail;go_roundg (1+(S.size - a4))
            case measure=>have:=HK.out;have:=BG.out;omega
            case rel=>exact ⟨sG,i+1,a4,false,rfl,ha4,iR.out,.inl ⟨rfl,Ic.out,rfl,D2.out.more zj.out H93.out (λm hm=>by rw[xA.out m hm];congr 1;funext x;congr 2;exact propext ⟨λh=>⟨h.1,by omega⟩,λh=>⟨h.1,by omega⟩⟩)⟩⟩
           | succ k=>
            have qF:j<=(hi).toNat:=by omega
            have ed:j<256:=by have:=(hi).toNat_lt;omega
            have XG:decide ((j:Int)<=((hi).toNat:Int))=true:=by simp;omega
            obtain ⟨b2,hb2⟩:∃b2,sG[j]?=some b2:=⟨_,List.getElem?_eq_getElem (by rw[iR.out.Ia.2];exact ed)⟩;obtain ⟨o1,o2⟩:=iR.out.bit hb2;have cL:=aa hb2;clear hb2;go_wp2_with fail;go_roundg k
            case measure=>omega
            case rel=>exact ⟨sG.set j true,j+1,rfl,by omega,by omega,iR.out.put j true,λm hm=>yA hm K8 cL.out (xA.out m hm)⟩
        ·have V7:hi.toNat<256:=hi.toNat_lt;have Ao:=aa (C7.out.step hap hsc);have Kk:=aa (D2.out.bad (rJ gH.out lF.out hp) H93.out);clear hap hsc hp C7;obtain ⟨c0,c1,c2,f1,f2,c3⟩:=Ao.out.cells;by_cases Tr:hi.toNat<lo.toNat
         ·have g1:decide ((hi.toNat:Int)<(lo.toNat:Int))=true:=by simp;omega
          have V8:¬lo.toNat<=hi.toNat:=by omega
          have g3:decide (lo.toNat<=hi.toNat)=false:=by simpa using V8
          go_wp2_with fail;have OH:=aa (Ao.out.sD true);clear Ao c0 c1 c2 f1 f2 c3;generalize w7.setCell ⟨X,2,none⟩ (.bool true)=w8 at *;obtain ⟨c0,c1,c2,f1,f2,c3⟩:=OH.out.cells;go_loopg [10] 0 (λ_ vc wr'=>vc=.int .i64 (lo.toNat:Int)/\wr'=w8)
          case atStart=>exact ⟨rfl,rfl⟩
          case round=>
           obtain ⟨rfl,rfl⟩:=hrel;go_wp2_with fail;go_roundg 0
           case measure=>have:=HK.out;omega
           case rel=>exact ⟨on,i+1,a4,true,rfl,ha4,OH.out,.inr ⟨rfl,rfl,Kk.out⟩⟩
         ·have g1:decide (hi.toNat<lo.toNat)=false:=by simpa using Tr
          have Mb:lo.toNat<=hi.toNat:=by omega
          have g3:decide ((lo.toNat:Int)<=(hi.toNat:Int))=true:=by simp;omega
          go_wp2_with fail;go_loopg [10] 0 (λ_ vc wr'=>vc=.int .i64 (lo.toNat:Int)/\wr'=w7)
          case atStart=>exact ⟨rfl,rfl⟩
          case round=>
           obtain ⟨rfl,rfl⟩:=hrel;go_wp2_with fail;go_roundg 0
           case measure=>have:=HK.out;omega
           case rel=>exact ⟨on,i+1,a4,true,rfl,ha4,Ao.out,.inr ⟨rfl,rfl,Kk.out⟩⟩
       ·have OG:((rest S a2).head? == some 45)=false:=by rw[beq_eq_false_iff_ne];exact TF
        rw[OG];have zj:=aa (Am gH.out TF);have Ic:=aa (show i+1<=a2 by omega);have BG:=aa (show a1<a2 by omega);clear OG TF;go_wp2_with fail;clear c0 c1 c2 f1 f2 c3;go_loopg [10] ((lo).toNat+1 - (lo).toNat) (λk vc wr'=>C4 X S w A nb a2 (lo).toNat (lo).toNat on k vc wr')
        case atStart=>exact ⟨on,(lo).toNat,rfl,Nat.le_refl _,by omega,F0.out,λm _=>yy m _ _⟩
        case round=>
         obtain ⟨sG,j,rfl,K8,hj,vP,vQ⟩:=hrel;have iR:=aa vP;have xA:=aa vQ;clear vP vQ;obtain ⟨c0,c1,c2,f1,f2,c3⟩:=iR.out.cells
         cases gk with
         | zero=>
          have Pw:¬j<=(lo).toNat:=by omega
          have XG:decide (j<=(lo).toNat)=false:=by simpa using Pw
          go_wp2_with fail;go_roundg (1+(S.size - a2))
          case measure=>have:=HK.out;have:=BG.out;omega
          case rel=>exact ⟨sG,i+1,a2,false,rfl,ha2,iR.out,.inl ⟨rfl,Ic.out,rfl,D2.out.more zj.out H93.out (λm hm=>by rw[xA.out m hm];congr 1;funext x;congr 2;exact propext ⟨λh=>⟨h.1,by omega⟩,λh=>⟨h.1,by omega⟩⟩)⟩⟩
         | succ k=>
          have qF:j<=(lo).toNat:=by omega
          have ed:j<256:=by have:=(lo).toNat_lt;omega
          have XG:decide ((j:Int)<=((lo).toNat:Int))=true:=by simp;omega
          obtain ⟨b2,hb2⟩:∃b2,sG[j]?=some b2:=⟨_,List.getElem?_eq_getElem (by rw[iR.out.Ia.2];exact ed)⟩;obtain ⟨o1,o2⟩:=iR.out.bit hb2;have cL:=aa hb2;clear hb2;go_wp2_with fail;go_roundg k
          case measure=>omega
          case rel=>exact ⟨sG.set j true,j+1,rfl,by omega,by omega,iR.out.put j true,λm hm=>yA hm K8 cL.out (xA.out m hm)⟩
      ·have V6:lo.toNat<256:=lo.toNat_lt;have rK:=aa (C6.out.step hap hsc);have Kk:=aa (D2.out.bad (C3 hp) H93.out);clear hap hsc hp C6 c0 c1 c2 f1 f2 c3;obtain ⟨c0,c1,c2,f1,f2,c3⟩:=rK.out.cells;go_wp2_with fail;refine (kG 45 X S a2 true w4 rK.out.scan).mono ?_;rintro e w5 ⟨rfl,n5,rfl⟩;have F0:=aa (rK.out.drewN n5);clear rK c0 c1 c2 f1 f2 c3
       generalize w4.drewN n5=w5 at *;obtain ⟨c0,c1,c2,f1,f2,c3⟩:=F0.out.cells;obtain ⟨bd,Kb⟩:∃bd,((rest S a2).head? == some 45)=bd:=⟨_,rfl⟩;rw[Kb];cases bd
       all_goals
        clear Kb;go_wp2_with fail;go_loopg [10] 0 (λ_ vc wr'=>vc=.int .i64 (lo.toNat:Int)/\wr'=w5)
        case atStart=>exact ⟨rfl,rfl⟩
        case round=>
         obtain ⟨rfl,rfl⟩:=hrel;go_wp2_with fail;go_roundg 0
         case measure=>have:=HK.out;omega
         case rel=>exact ⟨on,i+1,a2,true,rfl,ha2,F0.out,.inr ⟨rfl,rfl,Kk.out⟩⟩
   ·have vA:=aa hcs;have Kk:=aa Wt;obtain ⟨c0,c1,c2,f1,f2,c3⟩:=vA.out.cells;clear hcs Wt hk;go_wp2_with fail
    first
     | (
       have _:=RU;go_loopg [11] 0 (λ_ vc wr'=>vc=.int .i64 0/\wr'=wr)
       case atStart=>exact ⟨rfl,rfl⟩
       case round=>
        obtain ⟨rfl,rfl⟩:=hrel;go_wp2_with fail;go_ret;exact ⟨A,nb,a1,true,on,rfl,ha1,vA.out,.inr ⟨rfl,(by rw[Bj.out];exact jm.pos Kk.out (by rw[<-Bj.out];exact RU.out))⟩⟩)
     | (
       go_loopg [11] 256 (λk vc wr'=>C5 X S w A nb a1 true on k vc wr')
       case atStart=>exact ⟨on,0,rfl,rfl,vA.out,λm _=>yx m _⟩
       case round=>
        obtain ⟨sG,j,rfl,hj,vP,vQ⟩:=hrel;have iR:=aa vP;have xA:=aa vQ;clear vP vQ
        cases gk with
        | zero=>
         obtain rfl:j=256:=by omega
         go_wp2_with fail;go_ret;exact ⟨A,nb,a1,true,sG,rfl,ha1,iR.out,.inr ⟨rfl,(by rw[Bj.out];exact jm.neg (Kk.out))⟩⟩
        | succ k=>
         have ed:j<256:=by omega
         have XG:decide ((j:Int)<256)=true:=by simp;omega
         obtain ⟨b2,hb2⟩:∃b2,sG[j]?=some b2:=⟨_,List.getElem?_eq_getElem (by rw[iR.out.Ia.2];exact ed)⟩;obtain ⟨c0,c1,c2,f1,f2,c3⟩:=iR.out.cells;obtain ⟨o1,o2⟩:=iR.out.bit hb2;have cL:=aa hb2;clear hb2;go_wp2_with fail;go_region;go_wp2_with fail;go_roundg k
         case measure=>omega
         case rel=>exact ⟨sG.set j (!b2),j+1,rfl,by omega,(iR.out.put j (!b2)).drew,λm hm=>yz hm cL.out (xA.out m hm)⟩)
end Go.Proofs.YtgncgdkpkkdaeaaGreatDoor.Ref
