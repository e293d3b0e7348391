import Derived.Test.YtgncgdkpkkdaeaaGreatDoorMC
import Derived.Test.YtgncgdkpkkdaeaaGreatDoorMB
import Derived.Deep.LoopGhost
import Derived.Laws.MakeOwn
import Derived.Laws.OwnMore
namespace Go.Proofs.YtgncgdkpkkdaeaaGreatDoor.Ref
open Go.RowKit aQ
variable {p:Addr} {bad:Bool} {S:ByteArray} {X at_:Nat} {c:UInt8} {a w w':World}
def aY(w:World)(X:Nat)(S:ByteArray)(at_:Nat)(bad:Bool):Prop:=w.heap[X]?=some (.cells #[.string S,.int .i64 at_,.bool bad] 198 (0,0))
structure Ap(X:Nat)(w w':World):Prop where
 os:w'.os=w.os
 tape:w'.tape=w.tape
 output:w'.output=w.output
 size:w.heap.size<=w'.heap.size
 keep:∀k,k<w.heap.size->k≠X->w'.heap[k]?=w.heap[k]?
theorem Ap.refl(X:Nat)(w:World):Ap X w w:=⟨rfl,rfl,rfl,Nat.le_refl _,λ_ _ _=>rfl⟩
theorem Ap.trans{b c:World}(h:Ap X a b)(k:Ap X b c):Ap X a c:=
 ⟨k.os.trans h.os,k.tape.trans h.tape,k.output.trans h.output,Nat.le_trans h.size k.size,λi hi hn=>(k.keep i (Nat.lt_of_lt_of_le hi h.size) hn).trans (h.keep i hi hn)⟩
theorem Ap.drewN(h:Ap X a w)(n:Nat):Ap X a (w.drewN n):=⟨h.os,h.tape,h.output,h.size,h.keep⟩
theorem Ap.alloc(h:Ap X a w)(o:Obj):Ap X a (w.alloc o):=
 h.trans ⟨rfl,rfl,rfl,by simp,λ_ hk _=>Below.heap_alloc _ _ _ hk⟩
theorem Ap.setCell(h:Ap X a w)(hp:p.block=X)(u:Value):Ap X a (w.setCell p u):=
 h.trans ⟨rfl,rfl,rfl,by simp[World.setCell],λ_ _ hn=>Below.heap_setCell _ _ _ _ (λe=>hn (e.trans hp))⟩
theorem Ap.kU(h:Ap X a w)(hp:a.heap.size<=p.block)(u:Value):Ap X a (w.setCell p u):=
 ⟨h.os,h.tape,h.output,by simpa [World.setCell] using h.size,λk hk hn=>by rw[Below.heap_setCell _ _ _ _ (by omega)];exact h.keep k hk hn⟩
theorem Ap.ar(h:Below w.heap.size w w'):Ap X w w':=⟨h.os,h.tape,h.output,h.size,λk hk _=>h.block k hk⟩
theorem Ap.below{B:Nat}(h:Ap X w w')(hB:B<=w.heap.size)(hX:B<=X):Below B w w':=⟨h.os,h.tape,h.output,h.size,λk hk=>h.keep k (by omega) (by omega)⟩
theorem aY.lt(h:aY w X S at_ bad):X<w.heap.size:=ae h
theorem aY.cells(h:aY w X S at_ bad):
  w.cell? ⟨X,0,none⟩=some (.string S)/\w.cell? ⟨X,1,none⟩=some (.int .i64 at_)/\w.cell? ⟨X,2,none⟩=some (.bool bad)/\w.frozen? ⟨X,1,none⟩=false/\w.frozen? ⟨X,2,none⟩=false:=by
 unfold aY at h;refine ⟨?_,?_,?_,?_,?_⟩
 all_goals simp[World.cell?,World.frozen?,h]
theorem aY.drewN(h:aY w X S at_ bad)(n:Nat):aY (w.drewN n) X S at_ bad:=h
theorem aY.alloc(h:aY w X S at_ bad)(o:Obj):aY (w.alloc o) X S at_ bad:=heap_alloc_old h
theorem aY.move(h:aY w X S at_ bad)(m:Nat):aY (w.setCell ⟨X,1,none⟩ (.int .i64 m)) X S m bad:=heap_setCell_same w X 1 _ h
theorem aY.q9(h:aY w X S at_ bad)(b:Bool):aY (w.setCell ⟨X,2,none⟩ (.bool b)) X S at_ b:=heap_setCell_same w X 2 _ h
set_option maxHeartbeats 400000 in
theorem j5(c:UInt8)(X:Nat)(S:ByteArray)(at_:Nat)(bad:Bool)(w:World)(h:aY w X S at_ bad):
  Calls Tryz.prog 144 #[.pointer (some ⟨X,0,none⟩),.int .u8 c.toNat] w λe w'=>e=.returned (.bool ((rest S at_).head? == some c))/\∃n,w'=w.drewN n:=by
 obtain ⟨c0,c1,c2,f1,f2⟩:=h.cells;clear h;rcases Nat.lt_or_ge at_ S.size with hlt|kt
 ·have hg:decide ((at_:Int)<(S.size:Int))=true:=by simpa using hlt
  by_cases hb:S[at_]=c
  ·have hq:(((S[at_]).toNat:Int)==(c.toNat:Int))=true:=by rw[beq_iff_eq,hb]
   have HV:=aa (show ((rest S at_).head? == some c)=true by rw[bm hlt,hb];simp);clear hb;go_enter Tryz.func144,Tryz.ntmps144;go_wp2_with fail;go_quiet (fail);go_wp2;go_ret;exact ⟨by rw[HV.out];rfl,nq,rfl⟩
  ·have hq:(((S[at_]).toNat:Int)==(c.toNat:Int))=false:=by rw[beq_eq_false_iff_ne];intro h;exact hb (UInt8.toNat_inj.1 (by omega))
   have HV:=aa (show ((rest S at_).head? == some c)=false by rw[bm hlt];simpa using hb);clear hb;go_enter Tryz.func144,Tryz.ntmps144;go_wp2_with fail;go_quiet (fail);go_wp2;go_ret;exact ⟨by rw[HV.out];rfl,nq,rfl⟩
 ·have hg:decide (at_<S.size)=false:=by simp;omega
  have HV:=aa (show ((rest S at_).head? == some c)=false by rw[dg kt];rfl);go_enter Tryz.func144,Tryz.ntmps144;go_wp2_with fail;go_quiet (fail);go_wp2;go_ret;exact ⟨by rw[HV.out];rfl,nq,rfl⟩
def fD:List UInt8:=[92,40,41,91,93,124,42,43,63,46,94,45]
def M5(c:UInt8)(w:World)(k:Nat)(vi:Value)(wr:World):Prop:=
 ∃i:Nat,vi=.int .i64 i/\i+k=12/\wr=w/\∀j,j<i->fD[j]?≠some c
theorem M6{i:Nat}(h:fD[i]?=some c):dI c=true:=by show fD.contains c=true;rw[List.contains_iff_mem];exact List.mem_of_getElem? h
theorem I3(h:∀j,j<12->fD[j]?≠some c):dI c=false:=by show fD.contains c=false;rw[Bool.eq_false_iff,ne_eq,List.contains_iff_mem];intro hm;obtain ⟨j,hj,he⟩:=List.getElem_of_mem hm;exact h j hj (by rw[List.getElem?_eq_getElem hj,he])
set_option maxRecDepth 20000 in
set_option maxHeartbeats 1000000 in
theorem M7(c:UInt8)(w:World):Calls Tryz.prog 208 #[.int .u8 c.toNat] w λe w'=>e=.returned (.bool (dI c))/\w'=w:=by
 go_enter Tryz.func208,Tryz.ntmps208;go_wp2_with fail;go_loopg [3] 12 (λk vi wr=>M5 c w k vi wr)
 case atStart=>exact ⟨0,rfl,rfl,rfl,λj hj=>by omega⟩
 case round=>
  obtain ⟨i,rfl,hk,rfl,hne⟩:=hrel
  cases gk with
  | zero=>
   obtain rfl:i=12:=by omega
   have O5:=aa (I3 hne);clear hne;go_wp2_with fail;go_ret;exact ⟨by rw[O5.out];rfl,rfl⟩
  | succ k=>
   have hi:i<12:=by omega
   have hg:decide ((i:Int)<12)=true:=by simp;omega
   have CQ:i<(⟨#[92,40,41,91,93,124,42,43,63,46,94,45]⟩:ByteArray).size:=hi;have hl:fD[i]?=some ((⟨#[92,40,41,91,93,124,42,43,63,46,94,45]⟩:ByteArray)[i]):=by rw[List.getElem?_eq_getElem (show i<fD.length from hi)];rfl
   by_cases hc:(⟨#[92,40,41,91,93,124,42,43,63,46,94,45]⟩:ByteArray)[i]=c
   ·have hq:(((⟨#[92,40,41,91,93,124,42,43,63,46,94,45]⟩:ByteArray)[i].toNat:Int)==(c.toNat:Int))=true:=by rw[hc,beq_iff_eq]
    have HS:=aa (M6 (by rw[hl,hc]:fD[i]?=some c));clear hne hl hc;go_wp2_with fail;go_ret;exact ⟨by rw[HS.out];rfl,rfl⟩
   ·have hq:(((⟨#[92,40,41,91,93,124,42,43,63,46,94,45]⟩:ByteArray)[i].toNat:Int)==(c.toNat:Int))=false:=by rw[beq_eq_false_iff_ne];intro h;exact hc (UInt8.toNat_inj.1 (by omega))
    have O5:=aa (show ∀j,j<i+1->fD[j]?≠some c from λj hj=>by
     rcases Nat.lt_or_ge j i with h|h
     ·exact hne j h
     ·obtain rfl:j=i:=by omega
      rw[hl];intro e;exact hc (Option.some.inj e))
    clear hne hl hc;go_wp2_with fail;go_roundg k
    case measure=>omega
    case rel=>exact ⟨i+1,rfl,by omega,rfl,O5.out⟩
def sq(X:Nat)(S:ByteArray)(at_:Nat)(w:World)(e:Ending)(w':World):Prop:=
 Ap X w w'/\∃(b:UInt8) (at':Nat),e=.returned (.int .u8 b.toNat)/\at'<=S.size/\((dv (rest S at_)=some (b,rest S at')/\at_<at'/\aY w' X S at' false)∨(dv (rest S at_)=none/\aY w' X S at' true))
end Go.Proofs.YtgncgdkpkkdaeaaGreatDoor.Ref
namespace Go.Proofs.YtgncgdkpkkdaeaaGreatDoor.Ref
open Go.RowKit aQ
set_option maxHeartbeats 8000000 in
theorem ux(X:Nat)(S:ByteArray)(at_ a1:Nat)(w:World)(eb:Bool)(h:aY w X S at_ false)(nM:S.size<=60)(uO:((rest S at_).head? == some 92)=eb)(ha1:a1=if eb=true then at_+1 else at_)
  (hc:(a1=S.size/\dv (rest S at_)=none)∨∃c s,rest S a1=c::s/\((dv (rest S at_)=none/\(c.toNat<32∨126<c.toNat∨(32<=c.toNat/\c.toNat<=126/\dI c=!eb)))∨(32<=c.toNat/\c.toNat<=126/\dI c=eb/\dv (rest S at_)=some (c,s)))):
  Calls Tryz.prog 202 #[.pointer (some ⟨X,0,none⟩)] w (sq X S at_ w):=by
 have HK:=aa (j5 92 X S at_ false w h);have H:=aa h;have HH:=aa uO;have HC:=aa hc
 have acu:a1<=S.size:=by
  rcases hc with ⟨h1,_⟩|⟨c,s,h1,_⟩
  ·omega
  ·have:=(dw h1).1;omega
 have hat:at_<=a1:=by rw[ha1];split<;>omega
 have Fz:=aa ha1;clear h uO hc ha1;go_enter Tryz.func202,Tryz.ntmps202;go_wp2_with fail;refine HK.out.mono ?_;rintro e w1 ⟨rfl,n1,rfl⟩;rw[HH.out];obtain ⟨c0,c1,c2,f1,f2⟩:=(H.out.drewN n1).cells;have H1:=aa (H.out.drewN n1);have HA:=aa ((Ap.refl X w).drewN n1);generalize w.drewN n1=w1 at *;clear HK HH H;cases eb
 case' false=>
  obtain rfl:a1=at_:=Fz.out;go_wp2_with fail;generalize w1=w2 at *
 case' true=>
  have RU:at_<=60:=by omega
  go_wp2_with fail;have H2:=aa (show aY (w1.setCell ⟨X,1,none⟩ (.int .i64 ((at_:Int)+1))) X S a1 false by rw[Fz.out];exact H1.out.move (at_+1));have CF:=aa (HA.out.setCell (p:=⟨X,1,none⟩) rfl (.int .i64 ((at_:Int)+1)));clear c0 c1 c2 f1 f2 H1 HA;generalize w1.setCell ⟨X,1,none⟩ (.int .i64 ((at_:Int)+1))=w2 at *;have H1:=aa H2.out;have HA:=aa CF.out;clear H2 CF
  obtain ⟨c0,c1,c2,f1,f2⟩:=H1.out.cells
 all_goals
  have acv:a1<=61:=by omega
  rcases HC.out with ⟨hend,ho⟩|⟨c,s,hr,YK⟩
  ·have hg:decide ((S.size:Int)<=(a1:Int))=true:=decide_eq_true (by omega);have kt:S.size<=a1:=by omega
   have HO:=aa ho;clear ho hend HC;go_quiet (fail)
   rename Nat=>og
   have H3:=aa (H1.out.drewN og);have Aw:=aa (HA.out.drewN og);clear c0 c1 c2 f1 f2 H1 HA;obtain ⟨c0,c1,c2,f1,f2⟩:=H3.out.cells;generalize w2.drewN og=w3 at *;go_wp2_with fail;go_ret;exact ⟨Aw.out.setCell rfl _,0,a1,rfl,by omega,.inr ⟨HO.out,H3.out.q9 true⟩⟩
  ·have HS:=aa (λW=>M7 c W);obtain ⟨hlt,hc,hs'⟩:=dw hr;have HR:=aa hs';have hg:decide ((S.size:Int)<=(a1:Int))=false:=decide_eq_false (by omega);have hg2:¬S.size<=a1:=by omega
   clear hr hs' HC;rcases YK with ⟨ho,h1|h1|⟨h1,h2,hs⟩⟩|⟨h1,h2,hs,ho⟩
   all_goals
    have HO:=aa ho;clear ho
    first|have g1:decide ((c.toNat:Int)<32)=true:=decide_eq_true (by omega)|have g1:decide ((c.toNat:Int)<32)=false:=decide_eq_false (by omega)
    first|have g2:decide (126<(c.toNat:Int))=true:=decide_eq_true (by omega)|have g2:decide (126<(c.toNat:Int))=false:=decide_eq_false (by omega)
    first|(have VG:=aa hs;clear hs)|skip
    go_quiet (fail)
    rename Nat=>og
    have H3:=aa (H1.out.drewN og);have Aw:=aa (HA.out.drewN og);clear c0 c1 c2 f1 f2 H1 HA;obtain ⟨c0,c1,c2,f1,f2⟩:=H3.out.cells;generalize w2.drewN og=w3 at *;go_wp2_with fail;go_quiet (fail)
    rename Nat=>CS
    have H4:=aa (H3.out.drewN CS);have Ve:=aa (Aw.out.drewN CS);clear c0 c1 c2 f1 f2 H3 Aw;obtain ⟨c0,c1,c2,f1,f2⟩:=H4.out.cells;generalize w3.drewN CS=w4 at *;go_wp2_with fail;refine (HS.out _).mono ?_;rintro e w5 ⟨rfl,rfl⟩
    first|rw[VG.out]|skip
    go_wp2_with fail;go_ret
    first
     | exact ⟨(Ve.out.setCell rfl _).setCell rfl _,c,a1+1,rfl,by omega,.inr ⟨HO.out,(H4.out.q9 true).move (a1+1)⟩⟩
     | exact ⟨Ve.out.setCell rfl _,c,a1+1,rfl,by omega,.inl ⟨by rw[HO.out,HR.out],by omega,H4.out.move (a1+1)⟩⟩
theorem jP(X:Nat)(S:ByteArray)(at_:Nat)(w:World)(h:aY w X S at_ false)(nM:S.size<=60)(hle:at_<=S.size):
  Calls Tryz.prog 202 #[.pointer (some ⟨X,0,none⟩)] w (sq X S at_ w):=by
 rcases Nat.lt_or_ge at_ S.size with hlt|kt
 ·have hr:=bm hlt;generalize S[at_]=c at hr;by_cases uO:c=92
  ·subst uO;refine ux X S at_ (at_+1) w true h nM (by rw[hr];rfl) rfl ?_;rcases Nat.lt_or_ge (at_+1) S.size with nD|abj
   ·have hr2:=bm nD;generalize S[at_+1]=d at hr2;refine .inr ⟨d,_,hr2,?_⟩;by_cases hs:dI d=true
    ·obtain ⟨h1,h2⟩:=nC d hs;exact .inr ⟨h1,h2,hs,by rw[hr,hr2];simp[dv,hs]⟩
    ·have hs':dI d=false:=by simpa using hs
     refine .inl ⟨by rw[hr,hr2];simp[dv,hs],?_⟩;by_cases Od:d.toNat<32
     ·exact .inl Od
     ·by_cases DA:126<d.toNat
      ·exact .inr (.inl DA)
      ·exact .inr (.inr ⟨by omega,by omega,hs'⟩)
   ·exact .inl ⟨by omega,by rw[hr,dg abj];simp[dv]⟩
  ·refine ux X S at_ at_ w false h nM (by rw[hr,beq_eq_false_iff_ne];simpa using uO) rfl (.inr ⟨c,_,hr,?_⟩);by_cases hs:dI c=true
   ·obtain ⟨h1,h2⟩:=nC c hs;exact .inl ⟨by rw[hr];simp[dv,uO,hs],.inr (.inr ⟨h1,h2,hs⟩)⟩
   ·have hs':dI c=false:=by simpa using hs
    by_cases Od:c.toNat<32
    ·exact .inl ⟨by rw[hr];simp[dv,uO,hs'];omega,.inl Od⟩
    ·by_cases DA:126<c.toNat
     ·exact .inl ⟨by rw[hr];simp[dv,uO,hs'];omega,.inr (.inl DA)⟩
     ·exact .inr ⟨by omega,by omega,hs',by rw[hr];simp[dv,uO,hs'];omega⟩
 ·exact ux X S at_ at_ w false h nM (by rw[dg kt];rfl) rfl (.inl ⟨by omega,by rw[dg kt];rfl⟩)
end Go.Proofs.YtgncgdkpkkdaeaaGreatDoor.Ref
namespace Go.Proofs.YtgncgdkpkkdaeaaGreatDoor.Ref
open Go.RowKit aQ
variable {S:ByteArray} {on:List Bool} {s s0 s1 s2 s3:List UInt8} {i j:Nat} {o:Option (ej×List UInt8)} {hi lo:UInt8}
def bools(on:List Bool):Array Value:=(on.map Value.bool).toArray
def ck:List Bool:=List.replicate 256 false
theorem nV(w:World):(Instr.makeSlice 201 (.int .i64 256) (.int .i64 256)).run Tryz.prog w=.ok (.slice (some ⟨w.heap.size,0,none⟩) 256 256) (w.alloc (.cells (bools ck) 4)):=by
 obtain ⟨i,hi,h0,h1,h2⟩:=info_parts (show (Tryz.prog.info? 4).map (λi=>(i.zero,i.size,i.bytes))=some (some (.bool false),1,1) by kernel_rfl);rw[run_make w 201 4 i (.bool false) Tryz.underlying201 hi h0 .i64 .i64 256 256 (by decide) (by decide) (by rw[h2];decide) (by decide)]
 have:madeCells (Value.bool false).cells ((256:Int).toNat *i.size)=bools ck:=by rw[h1];apply Array.toList_inj.1;show (madeCells #[.bool false] 256).toList=_;rw[toList_madeCells_one];unfold bools ck;rw[List.map_replicate]
 rw[this];rfl
def Qd(w:World)(A:Nat)(on:List Bool):Prop:=w.heap[A]?=some (.cells (bools on) 4 (0,0))/\on.length=256
def fZ(w:World)(p:Nat)(kind:Nat)(onv lv:Value):Prop:=w.heap[p]?=some (.cells #[.int .u8 kind,onv,lv] 267 (0,0))
structure Cs(X:Nat)(S:ByteArray)(w:World)(A nb:Nat)(wr:World)(a1:Nat)(bad:Bool)(on:List Bool):Prop where
 ap:Ap X w wr
 scan:aY wr X S a1 bad
 node:fZ wr nb 99 (.slice (some ⟨A,0,none⟩) 256 256) (.slice none 0 0)
 Gf:Qd wr A on
 hA:w.heap.size<=A
 kg:w.heap.size<=nb
 RV:A≠nb
 hX:X<w.heap.size
section
variable {X:Nat} {S:ByteArray} {w:World} {A nb:Nat} {wr:World} {a1:Nat} {bad:Bool} {on:List Bool}
theorem Cs.step(h:Cs X S w A nb wr a1 bad on){wr':World}{a2:Nat}{M8:Bool}(hap:Ap X wr wr')(hs:aY wr' X S a2 M8):Cs X S w A nb wr' a2 M8 on:=
 have hx:=h.hX;have ha:=h.hA;have hn:=h.kg
 ⟨h.ap.trans hap,hs,(hap.keep nb (ae h.node) (by omega)).trans h.node,⟨(hap.keep A (ae h.Gf.1) (by omega)).trans h.Gf.1,h.Gf.2⟩,h.hA,h.kg,h.RV,h.hX⟩
theorem Cs.drewN(h:Cs X S w A nb wr a1 bad on)(n:Nat):Cs X S w A nb (wr.drewN n) a1 bad on:=h.step ((Ap.refl _ _).drewN n) (h.scan.drewN n)
theorem Cs.drew(h:Cs X S w A nb wr a1 bad on):Cs X S w A nb wr.drew a1 bad on:=⟨⟨h.ap.os,h.ap.tape,h.ap.output,h.ap.size,h.ap.keep⟩,h.scan,h.node,h.Gf,h.hA,h.kg,h.RV,h.hX⟩
theorem Cs.move(h:Cs X S w A nb wr a1 bad on)(m:Nat):Cs X S w A nb (wr.setCell ⟨X,1,none⟩ (.int .i64 m)) m bad on:=h.step ((Ap.refl X wr).setCell (p:=⟨X,1,none⟩) rfl _) (h.scan.move m)
theorem Cs.q9(h:Cs X S w A nb wr a1 bad on)(b:Bool):Cs X S w A nb (wr.setCell ⟨X,2,none⟩ (.bool b)) a1 b on:=h.step ((Ap.refl X wr).setCell (p:=⟨X,2,none⟩) rfl _) (h.scan.q9 b)
theorem Cs.put(h:Cs X S w A nb wr a1 bad on)(j:Nat)(b:Bool):Cs X S w A nb (wr.setCell ⟨A,j,none⟩ (.bool b)) a1 bad (on.set j b):=by
 have hx:=h.hX;have ha:=h.hA;have hn:=h.kg;refine ⟨h.ap.kU ha _,?_,?_,⟨?_,by rw[List.length_set];exact h.Gf.2⟩,ha,hn,h.RV,hx⟩
 ·exact (Below.heap_setCell _ _ _ _ (by show X≠A;omega)).trans h.scan
 ·exact (Below.heap_setCell _ _ _ _ (by show nb≠A;exact h.RV.symm)).trans h.node
 ·rw[heap_setCell_same wr A j _ h.Gf.1];congr 2;unfold bools;rw[List.setIfInBounds_toArray,List.map_set]
theorem Cs.cells(h:Cs X S w A nb wr a1 bad on):wr.cell? ⟨X,0,none⟩=some (.string S)/\wr.cell? ⟨X,1,none⟩=some (.int .i64 a1)/\wr.cell? ⟨X,2,none⟩=some (.bool bad)/\wr.frozen? ⟨X,1,none⟩=false/\wr.frozen? ⟨X,2,none⟩=false /\
  wr.cell? ⟨nb,1,none⟩=some (.slice (some ⟨A,0,none⟩) 256 256):=by
 obtain ⟨h1,h2,h3,h4,h5⟩:=h.scan.cells;refine ⟨h1,h2,h3,h4,h5,?_⟩;have hn:=h.node;unfold fZ at hn;simp[World.cell?,hn]
theorem Cs.bit(h:Cs X S w A nb wr a1 bad on){b:Bool}(hj:on[j]?=some b):wr.cell? ⟨A,j,none⟩=some (.bool b)/\wr.frozen? ⟨A,j,none⟩=false:=by have hn:=h.Gf.1;refine ⟨?_,by simp[World.frozen?,hn]⟩;simp[World.cell?,hn,bools,hj]
end
theorem Cs.start{X:Nat}{w:World}{a1:Nat}(h:aY w X S a1 false):
  Cs X S w w.heap.size (w.heap.size+1) ((w.alloc (.cells (bools ck) 4)).alloc (.cells #[.int .u8 99,.slice (some ⟨w.heap.size,0,none⟩) 256 256,.slice none 0 0] 267)) a1 false ck:=by
 refine ⟨((Ap.refl _ _).alloc _).alloc _,(h.alloc _).alloc _,?_,⟨heap_alloc_old (af _ _),by unfold ck;rw[List.length_replicate]⟩,Nat.le_refl _,by omega,by omega,h.lt⟩;have:=af (w.alloc (.cells (bools ck) 4)) (.cells #[.int .u8 99,.slice (some ⟨w.heap.size,0,none⟩) 256 256,.slice none 0 0] 267);simpa [fZ] using this
def Kc(on:List Bool)(c:ej):Prop:=∀b:UInt8,on[b.toNat]?=some (c.has b)
def iP(s:List UInt8)(o:Option (ej×List UInt8)):Prop:=(bh s=none/\o=none)∨∃c s',bh s=some (c,s')/\Ae c s' o
theorem iP.pos(h:iP s o)(hn:s.head?≠some 94):er s o:=by
 rcases h with ⟨h1,rfl⟩|⟨c,s',h1,h2⟩
 ·exact .kM hn h1
 ·exact .pos hn h1 h2
theorem iP.neg(h:iP s o):er (94::s) (o.map λp=>(.gZ p.1,p.2)):=by
 rcases h with ⟨h1,rfl⟩|⟨c,s',h1,h2⟩
 ·exact .kN h1
 ·exact .neg h1 h2
theorem BR(h:dv s=none):bh s=none:=by simp[bh,h]
theorem zb(h:dv s=some (lo,s1))(RX:s1.head?≠some 45):bh s=some (.range lo lo,s1):=by
 cases s1 with
 | nil=>simp[bh,h]
 | cons c s2=>
  have:c≠45:=λe=>RX (by rw[e];rfl)
  simp[bh,h,this]
theorem qz(h:dv s=some (lo,s1))(h1:s1=45::s2)(h2:dv s2=none):bh s=none:=by subst h1;simp[bh,h,h2]
theorem kQ(h:dv s=some (lo,s1))(h1:s1=45::s2)(h2:dv s2=some (hi,s3))(hl:¬hi.toNat<lo.toNat):bh s=some (.range lo hi,s3):=by subst h1;simp[bh,h,h2];omega
theorem EH(h:dv s=some (lo,s1))(h1:s1=45::s2)(h2:dv s2=some (hi,s3))(hl:hi.toNat<lo.toNat):bh s=none:=by subst h1;simp[bh,h,h2];omega
theorem mm{a:Nat}{c:UInt8}(h:(rest S a).head?=some c):a<S.size/\rest S a=c::rest S (a+1):=by
 rcases Nat.lt_or_ge a S.size with hl|hl
 ·refine ⟨hl,?_⟩;have:=bm hl;rw[this]at h ⊢;simp only[List.head?_cons,Option.some.injEq]at h;rw[h]
 ·rw[dg hl]at h;cases h
def pu(s0:List UInt8)(i:Nat)(on:List Bool)(s:List UInt8):Prop:=
 (i=0/\on=ck/\s0=s)∨(0<i/\∃c,Kc on c/\∀o,Ae c s o->iP s0 o)
theorem lG(h:j<256):ck[j]?=some false:=by unfold ck;rw[List.getElem?_replicate,if_pos h]
theorem pu.bad(h:pu s0 i on s)(hr:bh s=none)(Un:0<i->s.head?≠some 93):iP s0 none:=by
 rcases h with ⟨_,_,rfl⟩|⟨hi,c,_,h2⟩
 ·exact .inl ⟨hr,rfl⟩
 ·exact h2 _ (.bad (Un hi) hr)
theorem pu.more{s':List UInt8}{D8:List Bool}(h:pu s0 i on s)(hr:bh s=some (.range lo hi,s'))(Un:0<i->s.head?≠some 93)
  (RY:∀j,j<256->D8[j]?=(on[j]?).map (λx=>x||decide (lo.toNat<=j/\j<=hi.toNat))):pu s0 (i+1) D8 s':=by
 right;refine ⟨by omega,?_⟩;have hb:∀b:UInt8,b.toNat<256:=λb=>b.toNat_lt
 rcases h with ⟨_,rfl,rfl⟩|⟨h0,c,h1,h2⟩
 ·refine ⟨.range lo hi,λb=>?_,λo ho=>.inr ⟨_,_,hr,ho⟩⟩;rw[RY _ (hb b),lG (hb b)];simp[ej.has]
 ·refine ⟨.union c (.range lo hi),λb=>?_,λo ho=>h2 o (.more (Un h0) hr ho)⟩;rw[RY _ (hb b),h1 b];simp[ej.has]
theorem pu.stop(h:pu s0 i on (93::s))(hi:0<i):∃c,Kc on c/\iP s0 (some (c,s)):=by
 rcases h with ⟨h0,_⟩|⟨_,c,h1,h2⟩
 ·omega
 ·exact ⟨c,h1,h2 _ .stop⟩
def abk(s0:List UInt8)(S:ByteArray)(a1:Nat)(bad:Bool)(on:List Bool):Prop:=(bad=false/\∃c,Kc on c/\iP s0 (some (c,rest S a1)))∨(bad=true/\iP s0 none)
def xZ(X:Nat)(S:ByteArray)(w:World)(A nb:Nat)(s0:List UInt8)(k:Nat)(vk:Value)(wr:World):Prop:=
 ∃(on:List Bool) (i a1:Nat) (bad:Bool),vk=.int .i64 i/\a1<=S.size/\Cs X S w A nb wr a1 bad on/\((bad=false/\i<=a1/\k=1+(S.size - a1)/\pu s0 i on (rest S a1))∨(bad=true/\k=0/\iP s0 none))
def BS(X:Nat)(S:ByteArray)(w:World)(A nb:Nat)(a2 lo hi:Nat)(on:List Bool)(k:Nat)(vc:Value)(wr:World):Prop:=
 ∃(D8:List Bool) (j:Nat),vc=.int .i64 j/\lo<=j/\j+k=hi+1/\Cs X S w A nb wr a2 false D8/\∀m,m<256->D8[m]?=(on[m]?).map (λx=>x||decide (lo<=m/\m<j))
def BU(X:Nat)(S:ByteArray)(w:World)(A nb:Nat)(a2:Nat)(bad:Bool)(on:List Bool)(k:Nat)(vc:Value)(wr:World):Prop:=
 ∃(D8:List Bool) (j:Nat),vc=.int .i64 j/\j+k=256/\Cs X S w A nb wr a2 bad D8/\∀m,m<256->D8[m]?=(on[m]?).map (λx=>if m<j then !x else x)
end Go.Proofs.YtgncgdkpkkdaeaaGreatDoor.Ref
namespace Go.Proofs.YtgncgdkpkkdaeaaGreatDoor.Ref
open Go.RowKit aQ
variable {b:Bool} {on rh:List Bool} {j m:Nat}
def I4(X:Nat)(S:ByteArray)(at_:Nat)(w:World)(e:Ending)(w':World):Prop:=
 ∃(A nb a1:Nat) (bad:Bool) (on:List Bool),e=.returned (.pointer (some ⟨nb,0,none⟩))/\a1<=S.size/\Cs X S w A nb w' a1 bad on/\((bad=false/\∃c,Kc on c/\er (rest S at_) (some (c,rest S a1)))∨(bad=true/\er (rest S at_) none))
theorem xp(m:Nat)(o:Option Bool):o=o.map (λx=>if m<0 then !x else x):=by cases o<;>simp
theorem xq(m lo:Nat)(o:Option Bool):o=o.map (λx=>x||decide (lo<=m/\m<lo)):=by
 have:decide (lo<=m/\m<lo)=false:=by simp
 cases o<;>simp[this]
theorem xr(hm:m<256)(hb:rh[j]?=some b)(h:rh[m]?=(on[m]?).map (λx=>if m<j then !x else x)):(rh.set j (!b))[m]?=(on[m]?).map (λx=>if m<j+1 then !x else x):=by
 rw[List.getElem?_set];have hj:j<rh.length:=(List.getElem?_eq_some_iff.1 hb).1;by_cases RZ:j=m
 ·subst RZ;rw[if_pos rfl,if_pos hj];rw[hb]at h
  cases ho:on[j]? with
  | none=>rw[ho]at h;cases h
  | some x=>rw[ho]at h;simp at h;simp[h]
 ·rw[if_neg RZ,h];have:(m<j+1)<->m<j:=by omega
  simp[this]
theorem turned{c:ej}(h:Kc on c)(h2:∀m,m<256->rh[m]?=(on[m]?).map (λx=>if m<256 then !x else x)):Kc rh (.gZ c):=λb=>by have hb:b.toNat<256:=b.toNat_lt;rw[h2 _ hb,h b];simp[hb,ej.has]
theorem xt{lo:Nat}(hm:m<256)(hl:lo<=j)(hb:rh[j]?=some b)(h:rh[m]?=(on[m]?).map (λx=>x||decide (lo<=m/\m<j))):(rh.set j true)[m]?=(on[m]?).map (λx=>x||decide (lo<=m/\m<j+1)):=by
 rw[List.getElem?_set];have hj:j<rh.length:=(List.getElem?_eq_some_iff.1 hb).1;by_cases RZ:j=m
 ·subst RZ;rw[if_pos rfl,if_pos hj];rw[hb]at h
  cases ho:on[j]? with
  | none=>rw[ho]at h;cases h
  | some x=>simp[hl]
 ·rw[if_neg RZ,h];have:(lo<=m/\m<j+1)<->(lo<=m/\m<j):=by omega
  simp only[this]
set_option maxRecDepth 20000 in
set_option maxHeartbeats 4000000 in
theorem pU(X:Nat)(S:ByteArray)(at_:Nat)(w:World)(h:aY w X S at_ false)(nM:S.size<=60)(hle:at_<=S.size):
  Calls Tryz.prog 201 #[.pointer (some ⟨X,0,none⟩)] w (I4 X S at_ w):=by
 have hmk:=nV w;have H0:=aa (Cs.start h);clear h;go_enter Tryz.func201,Tryz.ntmps201;go_wp2_with fail;obtain ⟨nb,kg⟩:∃nb,nb=w.heap.size+1:=⟨_,rfl⟩;obtain ⟨A,hA⟩:∃A,A=w.heap.size:=⟨_,rfl⟩;rw[<-kg,<-hA]
 have H1:=aa (show Cs X S w A nb ((w.alloc (.cells (bools ck) 4)).alloc (.cells #[.int .u8 99,.slice (some ⟨A,0,none⟩) 256 256,.slice none 0 0] 267)) at_ false ck by rw[kg,hA];exact H0.out);clear H0 hmk kg hA
 generalize (w.alloc (.cells (bools ck) 4)).alloc (.cells #[.int .u8 99,.slice (some ⟨A,0,none⟩) 256 256,.slice none 0 0] 267)=w1 at *;refine (j5 94 X S at_ false w1 H1.out.scan).mono ?_;rintro e w2 ⟨rfl,n1,rfl⟩;have H2:=aa (H1.out.drewN n1);clear H1;generalize w1.drewN n1=w2 at *;by_cases gC:(rest S at_).head?=some 94
 case' pos=>
  have hv:((rest S at_).head? == some 94)=true:=by rw[gC];rfl
  rw[hv]
  obtain ⟨hlt,hr⟩:at_<S.size/\rest S at_=94::rest S (at_+1):=by
   rcases Nat.lt_or_ge at_ S.size with h|h
   ·refine ⟨h,?_⟩;have:=bm h;rw[this]at gC ⊢;simp only[List.head?_cons,Option.some.injEq]at gC;rw[gC]
   ·rw[dg h]at gC;cases gC
  obtain ⟨a0,ha0⟩:∃a0,a0=at_+1:=⟨_,rfl⟩;have zX:=aa (show rest S at_=94::rest S a0 by rw[ha0];exact hr);have xu:a0<=S.size:=by omega
  have YL:=aa ha0;have RU:at_<=60:=by omega
  obtain ⟨c0,c1,c2,f1,f2,c3⟩:=H2.out.cells;clear hr gC hv ha0 hlt;go_wp2_with fail;have H3:=aa (show Cs X S w A nb (w2.setCell ⟨X,1,none⟩ (.int .i64 ((at_:Int)+1))) a0 false ck by rw[YL.out];exact H2.out.move (at_+1));clear H2 c0 c1 c2 f1 f2 c3;generalize w2.setCell ⟨X,1,none⟩ (.int .i64 ((at_:Int)+1))=w2 at *
 case' neg=>
  have hv:((rest S at_).head? == some 94)=false:=by rw[beq_eq_false_iff_ne];exact gC
  rw[hv];have Qe:=aa gC;obtain ⟨a0,ha0⟩:∃a0,a0=at_:=⟨_,rfl⟩;have xu:a0<=S.size:=by omega
  have H3:=aa (show Cs X S w A nb w2 a0 false ck by rw[ha0];exact H2.out);have zX:=aa (show rest S at_=rest S a0 by rw[ha0]);clear gC hv H2 ha0;go_wp2_with fail
 all_goals
  go_loopg [5] (1+(S.size - a0)) (λk vk wr=>xZ X S w A nb (rest S a0) k vk wr)
  case atStart=>exact ⟨ck,0,a0,false,rfl,xu,H3.out,.inl ⟨rfl,Nat.zero_le _,rfl,.inl ⟨rfl,rfl,rfl⟩⟩⟩
  case round=>
   obtain ⟨on,i,a1,bad,rfl,ha1,hcs,⟨rfl,hia,hk,CC⟩|⟨rfl,hk,UJ⟩⟩:=hrel
   ·have uh:=aa hcs;have CT:=aa CC;have HK:=aa hk;obtain ⟨c0,c1,c2,f1,f2,c3⟩:=uh.out.cells;clear hcs CC hk;go_wp2_with fail;refine (j5 93 X S a1 false wr uh.out.scan).mono ?_;rintro e w3 ⟨rfl,n3,rfl⟩;have BV:=aa (uh.out.drewN n3);clear uh c0 c1 c2 f1 f2 c3;generalize wr.drewN n3=w3 at *;obtain ⟨c0,c1,c2,f1,f2,c3⟩:=BV.out.cells
    by_cases h9:(rest S a1).head?=some 93/\0<i
    ·obtain ⟨Un,Ks⟩:=h9;have YM:((rest S a1).head? == some 93)=true:=by rw[Un];rfl
     rw[YM];have g0:decide (0<(i:Int))=true:=by simp;omega
     obtain ⟨nD,hr2⟩:=mm Un;obtain ⟨a3,Kd⟩:∃a3,a3=a1+1:=⟨_,rfl⟩;have Hu:=aa (pu.stop (s:=rest S a3) (by rw[Kd,<-hr2];exact CT.out) Ks);have Gg:a3<=S.size:=by omega
     have Aw:=aa Kd;have YN:a1<=60:=by omega
     clear YM Un hr2 Kd CT;go_wp2_with fail;have BW:=aa (show Cs X S w A nb (w3.setCell ⟨X,1,none⟩ (.int .i64 ((a1:Int)+1))) a3 false on by rw[Aw.out];exact BV.out.move (a1+1));clear BV c0 c1 c2 f1 f2 c3;generalize w3.setCell ⟨X,1,none⟩ (.int .i64 ((a1:Int)+1))=w6 at *;obtain ⟨cc,YO,YP⟩:=Hu.out;have HC1:=aa YO;have HC2:=aa YP;clear YO YP Hu
     first
      | (
        have _:=Qe;go_loopg [11] 0 (λ_ vc wr'=>vc=.int .i64 0/\wr'=w6)
        case atStart=>exact ⟨rfl,rfl⟩
        case round=>
         obtain ⟨rfl,rfl⟩:=hrel;go_wp2_with fail;go_ret;exact ⟨A,nb,a3,false,on,rfl,Gg,BW.out,.inl ⟨rfl,⟨cc,HC1.out,(by rw[zX.out];exact iP.pos HC2.out (by rw[<-zX.out];exact Qe.out))⟩⟩⟩)
      | (
        go_loopg [11] 256 (λk vc wr'=>BU X S w A nb a3 false on k vc wr')
        case atStart=>exact ⟨on,0,rfl,rfl,BW.out,λm _=>xp m _⟩
        case round=>
         obtain ⟨rh,j,rfl,hj,uy,uz⟩:=hrel;have iy:=aa uy;have vV:=aa uz;clear uy uz
         cases gk with
         | zero=>
          obtain rfl:j=256:=by omega
          go_wp2_with fail;go_ret;exact ⟨A,nb,a3,false,rh,rfl,Gg,iy.out,.inl ⟨rfl,⟨.gZ cc,turned HC1.out vV.out,(by rw[zX.out];exact iP.neg HC2.out)⟩⟩⟩
         | succ k=>
          have dQ:j<256:=by omega
          have VI:decide ((j:Int)<256)=true:=by simp;omega
          obtain ⟨b2,hb2⟩:∃b2,rh[j]?=some b2:=⟨_,List.getElem?_eq_getElem (by rw[iy.out.Gf.2];exact dQ)⟩;obtain ⟨c0,c1,c2,f1,f2,c3⟩:=iy.out.cells;obtain ⟨o1,o2⟩:=iy.out.bit hb2;have cM:=aa hb2;clear hb2;go_wp2_with fail;go_region;go_wp2_with fail;go_roundg k
          case measure=>omega
          case rel=>exact ⟨rh.set j (!b2),j+1,rfl,by omega,(iy.out.put j (!b2)).drew,λm hm=>xr hm cM.out (vV.out m hm)⟩)
    ·have YQ:=aa (show 0<i->(rest S a1).head?≠some 93 from λh e=>h9 ⟨e,h⟩);obtain ⟨q,hq⟩:∃q,((rest S a1).head? == some 93)=q:=⟨_,rfl⟩;have g0:q=true->¬0<i:=λe h=>h9 ⟨by rw[e]at hq;exact beq_iff_eq.1 hq,h⟩
     rw[hq];clear h9 hq;cases q
     all_goals
      first|have g1:decide ((0:Int)<(i:Int))=false:=decide_eq_false (by have:=g0 rfl;omega)|skip
      first|have g2:decide (0<i)=false:=decide_eq_false (g0 rfl)|skip
      clear g0;go_wp2_with fail;refine (jP X S a1 w3 BV.out.scan nM ha1).mono ?_;rintro e w4 ⟨hap,lo,a2,rfl,ha2,⟨hp,hlt,hsc⟩|⟨hp,hsc⟩⟩
      ·have Uo:lo.toNat<256:=lo.toNat_lt;have qA:=aa (BV.out.step hap hsc);have gp:=aa hp;clear hap hsc hp BV c0 c1 c2 f1 f2 c3;obtain ⟨c0,c1,c2,f1,f2,c3⟩:=qA.out.cells;go_wp2_with fail;refine (j5 45 X S a2 false w4 qA.out.scan).mono ?_;rintro e w5 ⟨rfl,n5,rfl⟩;have EI:=aa (qA.out.drewN n5);clear qA c0 c1 c2 f1 f2 c3;generalize w4.drewN n5=w5 at *
       obtain ⟨c0,c1,c2,f1,f2,c3⟩:=EI.out.cells;by_cases RX:(rest S a2).head?=some 45
       ·have M9:((rest S a2).head? == some 45)=true:=by rw[RX];rfl
        rw[M9];obtain ⟨nD,hr2⟩:=mm RX;obtain ⟨a3,Kd⟩:∃a3,a3=a2+1:=⟨_,rfl⟩;have kR:=aa (show rest S a2=45::rest S a3 by rw[Kd];exact hr2);have Gg:a3<=S.size:=by omega
        have Aw:=aa Kd;have R1:a2<=60:=by omega
        clear M9 RX hr2 Kd;go_wp2_with fail;have BW:=aa (show Cs X S w A nb (w5.setCell ⟨X,1,none⟩ (.int .i64 ((a2:Int)+1))) a3 false on by rw[Aw.out];exact EI.out.move (a2+1));clear EI c0 c1 c2 f1 f2 c3;generalize w5.setCell ⟨X,1,none⟩ (.int .i64 ((a2:Int)+1))=w6 at *;refine (jP X S a3 w6 BW.out.scan nM Gg).mono ?_
        rintro e w7 ⟨hap,hi,a4,rfl,ha4,⟨hp,acw,hsc⟩|⟨hp,hsc⟩⟩
        ·have Up:hi.toNat<256:=hi.toNat_lt;have ze:=aa (BW.out.step hap hsc);have lW:=aa hp;have Gh:=aa (show i+1<=a4 by have:=Aw.out;omega);have Am:=aa (show a1<a4 by have:=Aw.out;omega);clear hap hsc hp BW;obtain ⟨c0,c1,c2,f1,f2,c3⟩:=ze.out.cells;by_cases RD:hi.toNat<lo.toNat
         ·have g1:decide ((hi.toNat:Int)<(lo.toNat:Int))=true:=by simp;omega
          have I5:=aa (CT.out.bad (EH gp.out kR.out lW.out RD) YQ.out);have Uq:¬lo.toNat<=hi.toNat:=by omega
          have g3:decide (lo.toNat<=hi.toNat)=false:=by simpa using Uq
          go_wp2_with fail;have Na:=aa (ze.out.q9 true);clear ze c0 c1 c2 f1 f2 c3;generalize w7.setCell ⟨X,2,none⟩ (.bool true)=w8 at *;obtain ⟨c0,c1,c2,f1,f2,c3⟩:=Na.out.cells;go_loopg [10] 0 (λ_ vc wr'=>vc=.int .i64 (lo.toNat:Int)/\wr'=w8)
          case atStart=>exact ⟨rfl,rfl⟩
          case round=>
           obtain ⟨rfl,rfl⟩:=hrel;go_wp2_with fail;go_roundg 0
           case measure=>have:=HK.out;omega
           case rel=>exact ⟨on,i+1,a4,true,rfl,ha4,Na.out,.inr ⟨rfl,rfl,I5.out⟩⟩
         ·have g1:decide (hi.toNat<lo.toNat)=false:=by simpa using RD
          have KO:lo.toNat<=hi.toNat:=by omega
          have x9:=aa (kQ gp.out kR.out lW.out RD);go_wp2_with fail;clear c0 c1 c2 f1 f2 c3;go_loopg [10] ((hi).toNat+1 - (lo).toNat) (λk vc wr'=>BS X S w A nb a4 (lo).toNat (hi).toNat on k vc wr')
          case atStart=>exact ⟨on,(lo).toNat,rfl,Nat.le_refl _,by omega,ze.out,λm _=>xq m _ _⟩
          case round=>
           obtain ⟨rh,j,rfl,JQ,hj,uy,uz⟩:=hrel;have iy:=aa uy;have vV:=aa uz;clear uy uz;obtain ⟨c0,c1,c2,f1,f2,c3⟩:=iy.out.cells
           cases gk with
           | zero=>
            have N1:¬j<=(hi).toNat:=by omega
            have VI:decide (j<=(hi).toNat)=false:=by simpa using N1
            go_wp2_with fail;go_roundg (1+(S.size - a4))
            case measure=>have:=HK.out;have:=Am.out;omega
            case rel=>exact ⟨rh,i+1,a4,false,rfl,ha4,iy.out,.inl ⟨rfl,Gh.out,rfl,CT.out.more x9.out YQ.out (λm hm=>by rw[vV.out m hm];congr 1;funext x;congr 2;exact propext ⟨λh=>⟨h.1,by omega⟩,λh=>⟨h.1,by omega⟩⟩)⟩⟩
           | succ k=>
            have pP:j<=(hi).toNat:=by omega
            have dQ:j<256:=by have:=(hi).toNat_lt;omega
            have VI:decide ((j:Int)<=((hi).toNat:Int))=true:=by simp;omega
            obtain ⟨b2,hb2⟩:∃b2,rh[j]?=some b2:=⟨_,List.getElem?_eq_getElem (by rw[iy.out.Gf.2];exact dQ)⟩;obtain ⟨o1,o2⟩:=iy.out.bit hb2;have cM:=aa hb2;clear hb2;go_wp2_with fail;go_roundg k
            case measure=>omega
            case rel=>exact ⟨rh.set j true,j+1,rfl,by omega,by omega,iy.out.put j true,λm hm=>xt hm JQ cM.out (vV.out m hm)⟩
        ·have Up:hi.toNat<256:=hi.toNat_lt;have ze:=aa (BW.out.step hap hsc);have I5:=aa (CT.out.bad (qz gp.out kR.out hp) YQ.out);clear hap hsc hp BW;obtain ⟨c0,c1,c2,f1,f2,c3⟩:=ze.out.cells;by_cases RD:hi.toNat<lo.toNat
         ·have g1:decide ((hi.toNat:Int)<(lo.toNat:Int))=true:=by simp;omega
          have Uq:¬lo.toNat<=hi.toNat:=by omega
          have g3:decide (lo.toNat<=hi.toNat)=false:=by simpa using Uq
          go_wp2_with fail;have Na:=aa (ze.out.q9 true);clear ze c0 c1 c2 f1 f2 c3;generalize w7.setCell ⟨X,2,none⟩ (.bool true)=w8 at *;obtain ⟨c0,c1,c2,f1,f2,c3⟩:=Na.out.cells;go_loopg [10] 0 (λ_ vc wr'=>vc=.int .i64 (lo.toNat:Int)/\wr'=w8)
          case atStart=>exact ⟨rfl,rfl⟩
          case round=>
           obtain ⟨rfl,rfl⟩:=hrel;go_wp2_with fail;go_roundg 0
           case measure=>have:=HK.out;omega
           case rel=>exact ⟨on,i+1,a4,true,rfl,ha4,Na.out,.inr ⟨rfl,rfl,I5.out⟩⟩
         ·have g1:decide (hi.toNat<lo.toNat)=false:=by simpa using RD
          have KO:lo.toNat<=hi.toNat:=by omega
          have g3:decide ((lo.toNat:Int)<=(hi.toNat:Int))=true:=by simp;omega
          go_wp2_with fail;go_loopg [10] 0 (λ_ vc wr'=>vc=.int .i64 (lo.toNat:Int)/\wr'=w7)
          case atStart=>exact ⟨rfl,rfl⟩
          case round=>
           obtain ⟨rfl,rfl⟩:=hrel;go_wp2_with fail;go_roundg 0
           case measure=>have:=HK.out;omega
           case rel=>exact ⟨on,i+1,a4,true,rfl,ha4,ze.out,.inr ⟨rfl,rfl,I5.out⟩⟩
       ·have M9:((rest S a2).head? == some 45)=false:=by rw[beq_eq_false_iff_ne];exact RX
        rw[M9];have x9:=aa (zb gp.out RX);have Gh:=aa (show i+1<=a2 by omega);have Am:=aa (show a1<a2 by omega);clear M9 RX;go_wp2_with fail;clear c0 c1 c2 f1 f2 c3;go_loopg [10] ((lo).toNat+1 - (lo).toNat) (λk vc wr'=>BS X S w A nb a2 (lo).toNat (lo).toNat on k vc wr')
        case atStart=>exact ⟨on,(lo).toNat,rfl,Nat.le_refl _,by omega,EI.out,λm _=>xq m _ _⟩
        case round=>
         obtain ⟨rh,j,rfl,JQ,hj,uy,uz⟩:=hrel;have iy:=aa uy;have vV:=aa uz;clear uy uz;obtain ⟨c0,c1,c2,f1,f2,c3⟩:=iy.out.cells
         cases gk with
         | zero=>
          have N1:¬j<=(lo).toNat:=by omega
          have VI:decide (j<=(lo).toNat)=false:=by simpa using N1
          go_wp2_with fail;go_roundg (1+(S.size - a2))
          case measure=>have:=HK.out;have:=Am.out;omega
          case rel=>exact ⟨rh,i+1,a2,false,rfl,ha2,iy.out,.inl ⟨rfl,Gh.out,rfl,CT.out.more x9.out YQ.out (λm hm=>by rw[vV.out m hm];congr 1;funext x;congr 2;exact propext ⟨λh=>⟨h.1,by omega⟩,λh=>⟨h.1,by omega⟩⟩)⟩⟩
         | succ k=>
          have pP:j<=(lo).toNat:=by omega
          have dQ:j<256:=by have:=(lo).toNat_lt;omega
          have VI:decide ((j:Int)<=((lo).toNat:Int))=true:=by simp;omega
          obtain ⟨b2,hb2⟩:∃b2,rh[j]?=some b2:=⟨_,List.getElem?_eq_getElem (by rw[iy.out.Gf.2];exact dQ)⟩;obtain ⟨o1,o2⟩:=iy.out.bit hb2;have cM:=aa hb2;clear hb2;go_wp2_with fail;go_roundg k
          case measure=>omega
          case rel=>exact ⟨rh.set j true,j+1,rfl,by omega,by omega,iy.out.put j true,λm hm=>xt hm JQ cM.out (vV.out m hm)⟩
      ·have Uo:lo.toNat<256:=lo.toNat_lt;have qA:=aa (BV.out.step hap hsc);have I5:=aa (CT.out.bad (BR hp) YQ.out);clear hap hsc hp BV c0 c1 c2 f1 f2 c3;obtain ⟨c0,c1,c2,f1,f2,c3⟩:=qA.out.cells;go_wp2_with fail;refine (j5 45 X S a2 true w4 qA.out.scan).mono ?_;rintro e w5 ⟨rfl,n5,rfl⟩;have EI:=aa (qA.out.drewN n5);clear qA c0 c1 c2 f1 f2 c3
       generalize w4.drewN n5=w5 at *;obtain ⟨c0,c1,c2,f1,f2,c3⟩:=EI.out.cells;obtain ⟨bd,IY⟩:∃bd,((rest S a2).head? == some 45)=bd:=⟨_,rfl⟩;rw[IY];cases bd
       all_goals
        clear IY;go_wp2_with fail;go_loopg [10] 0 (λ_ vc wr'=>vc=.int .i64 (lo.toNat:Int)/\wr'=w5)
        case atStart=>exact ⟨rfl,rfl⟩
        case round=>
         obtain ⟨rfl,rfl⟩:=hrel;go_wp2_with fail;go_roundg 0
         case measure=>have:=HK.out;omega
         case rel=>exact ⟨on,i+1,a2,true,rfl,ha2,EI.out,.inr ⟨rfl,rfl,I5.out⟩⟩
   ·have uh:=aa hcs;have I5:=aa UJ;obtain ⟨c0,c1,c2,f1,f2,c3⟩:=uh.out.cells;clear hcs UJ hk;go_wp2_with fail
    first
     | (
       have _:=Qe;go_loopg [11] 0 (λ_ vc wr'=>vc=.int .i64 0/\wr'=wr)
       case atStart=>exact ⟨rfl,rfl⟩
       case round=>
        obtain ⟨rfl,rfl⟩:=hrel;go_wp2_with fail;go_ret;exact ⟨A,nb,a1,true,on,rfl,ha1,uh.out,.inr ⟨rfl,(by rw[zX.out];exact iP.pos I5.out (by rw[<-zX.out];exact Qe.out))⟩⟩)
     | (
       go_loopg [11] 256 (λk vc wr'=>BU X S w A nb a1 true on k vc wr')
       case atStart=>exact ⟨on,0,rfl,rfl,uh.out,λm _=>xp m _⟩
       case round=>
        obtain ⟨rh,j,rfl,hj,uy,uz⟩:=hrel;have iy:=aa uy;have vV:=aa uz;clear uy uz
        cases gk with
        | zero=>
         obtain rfl:j=256:=by omega
         go_wp2_with fail;go_ret;exact ⟨A,nb,a1,true,rh,rfl,ha1,iy.out,.inr ⟨rfl,(by rw[zX.out];exact iP.neg (I5.out))⟩⟩
        | succ k=>
         have dQ:j<256:=by omega
         have VI:decide ((j:Int)<256)=true:=by simp;omega
         obtain ⟨b2,hb2⟩:∃b2,rh[j]?=some b2:=⟨_,List.getElem?_eq_getElem (by rw[iy.out.Gf.2];exact dQ)⟩;obtain ⟨c0,c1,c2,f1,f2,c3⟩:=iy.out.cells;obtain ⟨o1,o2⟩:=iy.out.bit hb2;have cM:=aa hb2;clear hb2;go_wp2_with fail;go_region;go_wp2_with fail;go_roundg k
         case measure=>omega
         case rel=>exact ⟨rh.set j (!b2),j+1,rfl,by omega,(iy.out.put j (!b2)).drew,λm hm=>xr hm cM.out (vV.out m hm)⟩)
end Go.Proofs.YtgncgdkpkkdaeaaGreatDoor.Ref
