import Derived.Laws.CopyOwn
import Derived.Test.YtgncgdkpkkdaeaaGreatDoorAV
set_option maxRecDepth 20000
set_option maxHeartbeats 4000000
namespace Go.Proofs.YtgncgdkpkkdaeaaGreatDoor
open Go.RowKit bu Go.Maps
variable {j n:Nat}
theorem and_one:bits BinOp.and IntKind.u64 1 4294967295=1:=by decide +kernel
theorem Tm(n:Nat)(hn:n<=1000000):bits BinOp.and IntKind.u64 (n:Int) 4294967295=(n:Int):=by
 have h:=bits_and_u64_nat n 4294967295 (by omega) (by omega);have e:n &&& 4294967295=n:=by have:=Nat.and_two_pow_sub_one_eq_mod n 32;rw[show (2 ^ 32 - 1:Nat)=4294967295 from rfl,show (2 ^ 32:Nat)=4294967296 from rfl]at this;omega
 rw[e]at h;exact h
theorem LH(n:Nat)(hn:n<=1000000)(w:World):
  Calls Tryz.prog 204 #[.int .u64 1,.int .u64 n] w λe w'=>e=.returned (.tuple #[.int .u64 0,.int .u64 n])/\w'=w:=by
 have a1:=and_one;have a2:=Tm n hn;have a0:bits BinOp.and IntKind.u64 0 4294967295=0:=by decide +kernel
 have d1:(n:Int) / 4294967296=0:=by omega
 have w1:IntKind.u64.wrap (n:Int)=(n:Int):=by rw[IntKind.wrap_u64];omega
 have w0:IntKind.u64.wrap 0=0:=by decide +kernel
 go_enter Tryz.func204,Tryz.ntmps204;go_wp2;exact bodyPost_ret (v:=.tuple #[.int .u64 0,.int .u64 n]) (by simp[results,Tryz.results204,go_sem, *]) rfl ⟨rfl,rfl⟩
theorem mul_one(n:Nat)(hn:n<=1000000)(w:World):
  Calls Tryz.prog 186 #[.int .u64 1,.int .u64 n] w λe w'=>e=.returned (.tuple #[.int .u64 0,.int .u64 n])/\w'=w:=by
 have HM:=aa (LH n hn w);go_enter Tryz.func186,Tryz.ntmps186;go_wp2_with fail;refine HM.out.mono ?_;rintro e w1 ⟨rfl,rfl⟩;go_wp2_with fail;exact bodyPost_ret (v:=.tuple #[.int .u64 0,.int .u64 n]) (by simp[results,Tryz.results186,go_sem, *]) rfl ⟨rfl,rfl⟩
def iA:Value:=.int .i64 (-1)
def filled(j n:Nat):List Value:=List.replicate j iA++List.replicate (n - j) (.int .i64 0)
theorem Hi(w:World)(n:Nat)(hn:n<=1000000):(Instr.makeSlice 57 (.int .i64 n) (.int .i64 n)).run Tryz.prog w=.ok (.slice (some ⟨w.heap.size,0,none⟩) n n) (w.alloc (.cells (filled 0 n).toArray 3)):=by
 obtain ⟨i,hi,h0,h1,h2⟩:=info_parts (show (Tryz.prog.info? 3).map (λi=>(i.zero,i.size,i.bytes))=some (some (.int .i64 0),1,8) by kernel_rfl);rw[run_make w 57 3 i (.int .i64 0) Tryz.underlying57 hi h0 .i64 .i64 n n (by omega) (by omega) (by rw[h2];omega) (by omega)]
 have:madeCells (Value.int .i64 0).cells ((n:Int).toNat *i.size)=(filled 0 n).toArray:=by rw[h1];apply Array.toList_inj.1;show (madeCells #[.int .i64 0] ((n:Int).toNat *1)).toList=_;rw[toList_madeCells_one];simp[filled]
 rw[this];simp
theorem oV(m:Nat)(hm:j+m<=n):splice (filled j n) j (List.replicate m iA)=filled (j+m) n:=by unfold splice filled;rw[List.take_left' (by simp),List.drop_append];simp only[List.length_replicate];rw[List.drop_eq_nil_of_le (by simp),List.nil_append,List.drop_replicate,<-fP,List.replicate_append_replicate];congr 2;omega
theorem oW(hj:j<=n):(filled j n).length=n:=by simp[filled];omega
theorem Hq{k:Nat}(hk:k<j):(filled j n)[k]?=some iA:=by unfold filled;rw[nz (by simpa using hk)];simp[hk]
theorem Eg(n:Nat):filled n n=List.replicate n iA:=by simp[filled]
def Jh(n:Nat)(w:World)(e:Ending)(w':World):Prop:=
 ∃G,e=.returned (.slice (some ⟨G,0,none⟩) n n)/\w.heap.size<=G/\w'.heap[G]?=some (.cells (List.replicate n iA).toArray 3 (0,0))/\Below w.heap.size w w'
def Ji(n G:Nat)(w:World)(k:Nat)(vn:Value)(wr:World):Prop:=
 ∃j:Nat,vn=.int .i64 j/\1<=j/\j+k=n/\wr.heap[G]?=some (.cells (filled j n).toArray 3 (0,0))/\Below G w wr
theorem Hr(g n:Nat)(hn:n<=1000000)(h1:1<=n)(w:World)(hx:w.heap[g]?=some (.cells #[iA] 3 (0,0))):
  Calls Tryz.prog 161 #[.slice (some ⟨g,0,none⟩) 1 1,.int .i64 n] w (Jh n w):=by
 have HM:=aa (mul_one n hn w);have hmk:=Hi w n hn;have hs1:(Tryz.prog.info? 3).map (·.size)=some 1:=by kernel_rfl
 have cm:((n:Int)<0)=False:=by simp
 have w1:IntKind.i64.wrap (n:Int)=(n:Int):=by rw[IntKind.wrap_i64];omega
 have w2:IntKind.u64.wrap (n:Int)=(n:Int):=by rw[IntKind.wrap_u64];omega
 have d1:decide ((9223372036854775807:Int)<(n:Int))=false:=by simp;omega
 obtain ⟨G,hG⟩:∃G,G=w.heap.size:=⟨_,rfl⟩;obtain ⟨W,hW⟩:∃W,w.alloc (.cells (filled 0 n).toArray 3)=W:=⟨_,rfl⟩;have E6:=aa (show W.heap[G]?=some (.cells (filled 0 n).toArray 3 (0,0)) from by rw[<-hW,hG];exact ag _ _);have gZ:=aa (show Below G w W from by rw[<-hW,hG];exact cq _ _)
 have HX:=aa (show W.heap[g]?=some (.cells #[iA] 3 (0,0)) from by rw[<-hW];exact af hx)
 have HS:=aa (λ(j:Nat) v (h:[iA][j]?=some v)=>show W.cell? ((⟨g,0,none⟩:Addr).add j)=some v from by
  cases j with
  | zero=>cases h;simp[Addr.add,World.cell?,HX.out]
  | succ j=>simp at h)
 rw[hW,<-hG]at hmk;have HG:=aa hG;clear hW hG hx;go_enter Tryz.func161,Tryz.ntmps161;go_wp2_with fail;refine HM.out.mono ?_;rintro e w' ⟨rfl,rfl⟩;clear HM
 go_wp2_with (refine wpList_copy_splice rfl (.tmp 31) (.tmp 32) 57 57 rfl 3 Tryz.underlying57 hs1 (some ⟨G,0,none⟩) (some ⟨g,0,none⟩) n n 1 1 rfl rfl G 0 (filled 0 n) 3 E6.out [iA] (by simp[Nat.min_def];omega) (λ_=>⟨rfl,⟨g,0,none⟩,rfl,HS.out⟩) (by rw[oW (by omega)];simpa using h1) (by simp[iA,Value.oneCell']) G w' gZ.out (bc _) ?_;intro w2 mA eE)
 have Io:=aa (show w2.heap[G]?=some (.cells (filled 1 n).toArray 3 (0,0)) from by have h:=mA.out;rw[show [iA]=List.replicate 1 iA from rfl,oV 1 (by omega)]at h;exact h);have fV:=aa eE;clear mA eE E6 gZ HX HS hmk;go_loopg [8] (n - 1) (λk vn wr=>Ji n G w' k vn wr)
 case atStart=>exact ⟨1,rfl,bc _,by omega,Io.out,fV.out⟩
 case round=>
  obtain ⟨j,rfl,LX,hj,hr,hb⟩:=hrel;have HR:=aa hr;have HB:=aa hb;clear hr hb Io fV;by_cases hlt:j<n
  ·have g1:decide ((j:Int)<(n:Int))=true:=cF (by omega);obtain ⟨m,hm⟩:∃m,m=min j (n - j):=⟨_,rfl⟩;have HM:=aa hm;have hmj:m<=j:=by omega
   have TX:j+m<=n:=by omega
   have hm1:1<=m:=by omega
   have HS:=aa (λ(i:Nat) v (h:(List.replicate m iA)[i]?=some v)=>show wr.cell? ((⟨G,0,none⟩:Addr).add i)=some v from by
    have hi:i<m:=by simpa using az h
    simp[hi]at h;rw[<-h];have hf:=Hq (n:=n) (show i<j by omega);by_cases h0:i=0
    ·subst h0;simp[Addr.add,World.cell?,HR.out,hf]
    ·simp[Addr.add,World.cell?,HR.out,hf,h0])
   have hle:j<=n:=by omega
   have hne:(n=j)=False:=by simp;omega
   clear hm;obtain ⟨W4,QC⟩:∃W4,wr.drew.setRow G ((filled j n).toArray.toList.take j++List.replicate m iA++(filled j n).toArray.toList.drop (j+(List.replicate m iA).length)).toArray=W4:=⟨_,rfl⟩
   have XE:=run_copy_row (P:=Tryz.prog) wr.drew 57 57 3 3 G j (n - j) (n - j) ⟨G,0,none⟩ j n (filled j n).toArray 3 (List.replicate m iA) Tryz.underlying57 hs1 HR.out (by have:=HM.out;simp[Nat.min_def];omega) HS.out (by have:=oW (j:=j) (n:=n) (by omega);simp;omega) (by simp[iA,Value.oneCell']);rw[QC]at XE
   have HST:=aa (show Ji n G w' (n - (j+m)) (.int .i64 ((j+m:Nat):Int)) W4 from ⟨j+m,rfl,by omega,by omega,by
    rw[<-QC];have h:=setRow_heap wr.drew G _ ((filled j n).toArray.toList.take j++List.replicate m iA++(filled j n).toArray.toList.drop (j+(List.replicate m iA).length)).toArray _ _ HR.out;rw[h];have e:(filled j n).toArray.toList.take j++List.replicate m iA++(filled j n).toArray.toList.drop (j+(List.replicate m iA).length)=filled (j+m) n:=by rw[<-oV m TX];simp[splice]
    rw[e],by rw[<-QC];exact below_setRow HB.out.drew (bc _) _⟩)
   have Fg:(List.replicate m iA).length=m:=by simp
   rw[Fg]at XE;have hwr:IntKind.i64.wrap ((j:Int)+(m:Int))=((j+m:Nat):Int):=by rw[IntKind.wrap_i64];omega
   clear QC HS Fg;go_wp2_with fail;go_region
   all_goals
    go_wp2_with fail;go_roundg (n - (j+m))
    case measure=>omega
    case rel=>exact HST.out
  ·have Qp:j=n:=by omega
   have g1:decide (j<n)=false:=by simp;omega
   have aq:=aa (show Jh n w' (.returned (.slice (some ⟨G,0,none⟩) n n)) wr from ⟨G,rfl,by rw[HG.out];exact bc _,by have h:=HR.out;rw[Qp,Eg]at h;exact h,by have h:=HB.out;rwa [HG.out]at h⟩);clear hlt;go_wp2_with fail;go_ret;exact aq.out
open Go.Shelf
variable {line:ByteArray} {x:FD} {r:GR} {s:GS} {rs:List GR} {G:List GS} {fr:List Int} {st:List Nat} {T:List UInt8} {rc:Loop} {Gr L N at_ bF bs c cap cp g i k p q:Nat} {F':Nat->List FD} {f':Nat->Option Value} {A A' O Z:Nat->Prop} {ao:Option Addr} {d:PD} {B B1 C1 V W w:World}
attribute [local go_sem] Oper.semAt_some
def gT(rs:List GR)(T:List UInt8)(j p:Nat)(z:Int):Prop:=
 (z=-1/\∀k r,j<=k->rs[k]?=some r->¬From r.a.re T p)∨∃(k:Nat) (r:GR),z=k/\j<=k/\rs[k]?=some r/\From r.a.re T p/\∀k' r',j<=k'->k'<k->rs[k']?=some r'->¬From r'.a.re T p
theorem LI(rs:List GR)(T:List UInt8)(p:Nat):gT rs T rs.length p (-1):=.inl ⟨rfl,λk r h1 h2=>by have:=az h2;omega⟩
theorem Qd{z:Int}(h:gT rs T (j+1) p z)(hr:rs[j]?=some r)(hn:¬From r.a.re T p):gT rs T j p z:=by
 have key:∀k' r',k'=j->rs[k']?=some r'->¬From r'.a.re T p:=λk' r' e h'=>by rw[e,hr]at h';cases h';exact hn
 rcases h with ⟨h1,h2⟩|⟨k,r1,h1,h2,h3,h4,h5⟩
 ·exact .inl ⟨h1,λk r' hk h'=>by
   rcases ed j k with h|h
   ·exact h2 k r' h h'
   ·exact key k r' (by omega) h'⟩
 ·exact .inr ⟨k,r1,h1,by omega,h3,h4,λk' r' hk hk' h'=>by
   rcases ed j k' with h|h
   ·exact h5 k' r' h hk' h'
   ·exact key k' r' (by omega) h'⟩
theorem LJ(hr:rs[j]?=some r)(h:From r.a.re T p):gT rs T j p (j:Int):=.inr ⟨j,r,rfl,bc _,hr,h,λk' _ h1 h2=>by omega⟩
def jS(rs:List GR)(T:List UInt8)(j i L:Nat)(fr:List Int):Prop:=fr.length=L/\∀p z,fr[p]?=some z->(i<=p->gT rs T j p z)/\(p<i->gT rs T (j+1) p z)
def gC(rs:List GR)(T:List UInt8)(j L:Nat)(fr:List Int):Prop:=fr.length=L/\∀p z,fr[p]?=some z->gT rs T j p z
theorem gC.mid(h:gC rs T (j+1) L fr)(i:Nat)(hi:L<=i):jS rs T j i L fr:=
 ⟨h.1,λp z hp=>⟨λh'=>by have:=az hp;have:=h.1;omega,λ_=>h.2 p z hp⟩⟩
theorem jS.done(h:jS rs T j 0 L fr):gC rs T j L fr:=⟨h.1,λp z hp=>(h.2 p z hp).1 (Nat.zero_le _)⟩
theorem jS.skip(h:jS rs T j (i+1) L fr)(hr:rs[j]?=some r)(hn:¬From r.a.re T i):jS rs T j i L fr:=
 ⟨h.1,λp z hp=>⟨λh'=>by
  rcases ed i p with h1|h1
  ·exact (h.2 p z hp).1 h1
  ·obtain rfl:p=i:=by omega
   exact Qd ((h.2 p z hp).2 (by omega)) hr hn,λh'=>(h.2 p z hp).2 (by omega)⟩⟩
theorem jS.hit(h:jS rs T j (i+1) L fr)(hr:rs[j]?=some r)(hf:From r.a.re T i):jS rs T j i L (fr.set i (j:Int)):=by
 refine ⟨by rw[List.length_set];exact h.1,λp z hp=>?_⟩;rcases gA hp with ⟨rfl,rfl⟩|⟨hne,hp⟩
 ·exact ⟨λ_=>LJ hr hf,λh'=>by omega⟩
 ·exact ⟨λh'=>(h.2 p z hp).1 (by omega),λh'=>(h.2 p z hp).2 (by omega)⟩
theorem LK(rs:List GR)(T:List UInt8)(L:Nat):gC rs T rs.length L (List.replicate L (-1)):=by
 refine ⟨by simp,λp z hp=>?_⟩;have:z=-1:=by have:=bn hp;exact (List.mem_replicate.1 this).2
 rw[this];exact LI rs T p
theorem Jj{r:Re}(hn:r.au=false)(h:From r T p):p<T.length:=by
 obtain ⟨j,h1,h2,h3⟩:=h;rcases ed p T.length with h|h
 ·exact h
 ·have:j=p:=by omega
  subst this;rw[gu]at h3;rw[(mj _).1 h3]at hn;cases hn
def nW(N:Nat)(A:Nat->Prop)(g n cap:Nat)(G:List GS)(d:PD)(s:GS)(T:List UInt8)(w:World)(e:Ending)(w':World):Prop:=
 ∃(Gr:Nat) (fr:List Int) (A':Nat->Prop) (f':Nat->Option Value) (F':Nat->List FD),e=.returned (.slice (some ⟨Gr,0,none⟩) T.length T.length)/\w.heap.size<=Gr/\w'.heap[Gr]?=some (.cells (fr.map (Value.int .i64)).toArray 3 (0,0))/\¬A' Gr/\gC s.rs T 0 T.length fr/\aM A w w'/\(∀k,A' k->A k∨w.heap.size<=k)/\(∀k,A k->A' k)/\aJ w' N A' g n cap G d f' F'
structure Jk(w:World)(N:Nat)(A A':Nat->Prop)(g n cap:Nat)(G:List GS)(d:PD)(f':Nat->Option Value)(F':Nat->List FD)(i:Nat)(s:GS)(line:ByteArray)(q Gr bF bs:Nat)(ao:Option Addr)(cp:Nat)(V:World):Prop where
 lz:aJ V N A' g n cap G d f' F'
 fi:f' i=some (.slice ao s.rs.length cp)
 gi:G[i]?=some s
 sub:∀k,A' k->A k∨(bF<k/\k<bs)
 sup:∀k,A k->A' k/\k<q
 hN:N<=q
 hq:q=w.heap.size
 ord:q+1<Gr/\Gr<bF/\bF<bs/\V.heap.size=bs+1
 Jl:V.heap[q+1]?=some (.cells #[.string line] 9 (0,0))
 ac7:V.heap[Gr]?=some (.cells (List.replicate line.size iA).toArray 3 (0,0))
 xm:V.heap[bF]?=some (.cells #[.slice (some ⟨Gr,0,none⟩) line.size line.size] 57 (0,0))
 bsx:V.heap[bs]?=some (.cells #[.slice ao s.rs.length cp] 237 (0,0))
 off:aM A w V
structure RJ(w:World)(N:Nat)(A A':Nat->Prop)(g n cap:Nat)(G:List GS)(d:PD)(f':Nat->Option Value)(F':Nat->List FD)(i:Nat)(s:GS)(line:ByteArray)(q Gr bF bs:Nat)(ao:Option Addr)(cp:Nat)(rc:Loop)(j:Nat)(W:World):Prop where
 lz:∃A1 F1,aJ W N A1 g n cap G d f' F1/\(∀k,A1 k->A' k∨bs+3<=k)/\(∀k,A' k->A1 k)/\(F1 i).map FD.cells=(F' i).map FD.cells
 row:∃fr:List Int,W.heap[Gr]?=some (.cells (fr.map (Value.int .i64)).toArray 3 (0,0))/\gC s.rs line.data.toList j line.size fr
 Jl:W.heap[q+1]?=some (.cells #[.string line] 9 (0,0))
 xm:W.heap[bF]?=some (.cells #[.slice (some ⟨Gr,0,none⟩) line.size line.size] 57 (0,0))
 bsx:W.heap[bs]?=some (.cells #[.slice ao s.rs.length cp] 237 (0,0))
 uF:W.heap[bs+1]?=some (.deferred (some []))
 iJ:W.heap[bs+1+1]?=some (.loop rc)
 off:aM A w W
theorem Hu(hV:Jk w N A A' g n cap G d f' F' i s line q Gr bF bs ao cp V)(rc:LoopState->Option Code->Loop)(K:Ending->World->Prop)
  (fZ:∀j x B,(F' i)[j]?=some x->RJ w N A A' g n cap G d f' F' i s line q Gr bF bs ao cp (rc .ready none) (j+1) B->YieldAt Fence.wide 7 Tryz.prog (bs+1+1) #[.int .i64 j,fdv x] B λe C=>(e=.returned (.bool true)/\RJ w N A A' g n cap G d f' F' i s line q Gr bF bs ao cp (rc .ready none) j C)∨(e=.returned (.bool false)/\False))
  (hend:∀v W,RJ w N A A' g n cap G d f' F' i s line q Gr bF bs ao cp (rc .ready none) 0 W->K (.returned v) W):
  CallsIn Fence.wide 8 Tryz.prog 187 #[.func (.yield (bs+1+1)) #[] #[],.pointer (some ⟨bs,0,none⟩)] ((V.alloc (.deferred (some []))).alloc (.loop (rc .ready none))) K:=by
 obtain ⟨s',pW,EJ,e1,e2,e3,e4,e5⟩:=hV.lz.fin i _ hV.fi;rw[hV.gi]at e2;cases e2;have hlen:(F' i).length=s.rs.length:=by have:=congrArg List.length e3;simpa using this
 have hG:=hV.lz.ib V (Below.refl _ _);obtain ⟨_,EG,_⟩:=hG.at_ i s hV.gi;have QT:Below V.heap.size V ((V.alloc (.deferred (some []))).alloc (.loop (rc .ready none))):=(cq _ _).alloc (by simp) _
 have hk:∀(k:Nat) o,V.heap[k]?=some o->((V.alloc (.deferred (some []))).alloc (.loop (rc .ready none))).heap[k]?=some o:=λk o h=>(QT.block k (ae h)).trans h
 have hd:((V.alloc (.deferred (some []))).alloc (.loop (rc .ready none))).heap[bs+1]?=some (.deferred (some [])):=by have h1:=ag V (.deferred (some []));rw[hV.ord.2.2.2]at h1;exact af h1
 have hr:((V.alloc (.deferred (some []))).alloc (.loop (rc .ready none))).heap[bs+1+1]?=some (.loop (rc .ready none)):=by have h1:=ag (V.alloc (.deferred (some []))) (.loop (rc .ready none));rw[show (V.alloc (.deferred (some []))).heap.size=bs+1+1 by simp[hV.ord.2.2.2]]at h1;exact h1
 refine (Bw 8 bs ao cp (F' i) (bs+1+1) (λj W=>RJ w N A A' g n cap G d f' F' i s line q Gr bF bs ao cp (rc .ready none) j W) (λ_ _=>False) _ (by omega) ?_ (λj x B hx hj=>fZ j x B hx hj) ?_).mono ?_
 ·intro j W hj;obtain ⟨A1,F1,hp,_,_,hc⟩:=hj.lz;obtain ⟨s2,ao2,cp2,a1,a2,a3,a4,a5⟩:=hp.fin i _ hV.fi;rw[hV.gi]at a2;cases a2;have iF:(F1 i).length=s.rs.length:=by have:=congrArg List.length a3;simpa using this
  rw[<-iF]at a4;exact a4.back (by rw[iF];exact hj.bsx) hc.symm
 ·rw[hlen];refine ⟨⟨A',F',hV.lz.below QT,λk hk=>.inl hk,λk hk=>hk,rfl⟩,⟨List.replicate line.size (-1),by rw[List.map_replicate];exact hk _ _ hV.ac7,LK _ _ _⟩,hk _ _ hV.Jl,hk _ _ hV.xm,hk _ _ hV.bsx,hd,hr,?_⟩;exact hV.off.trans (aM.ay QT)
 ·rintro e W ⟨⟨v,rfl⟩,hJ|⟨i,hJ⟩⟩
  ·exact hend v W hJ
  ·exact hJ.elim
theorem Eh(v:Value)(hv:∃ao n c,v=.slice ao n c)(w:World):Calls Tryz.prog 162 #[v] w λe w'=>e=.returned (.func (.func 187) #[] #[.pointer (some ⟨w.heap.size,0,none⟩)])/\w'=w.alloc (.cells #[v] 237):=by
 obtain ⟨ao,n,c,rfl⟩:=hv;go_enter Tryz.func162,Tryz.ntmps162;go_wp2_with fail;go_ret;exact ⟨rfl,rfl⟩
theorem Hv{W0 W1 W3:World}{f:Nat->Option Value}{F:Nat->List FD}(h:aJ w N A g n cap G d f F)(hs:G[i]?=some s)(hq:q=w.heap.size)(hs0:W0.heap.size=q+3)(hb0:Below w.heap.size w W0)(hl0:W0.heap[q+1]?=some (.cells #[.string line] 9 (0,0)))(hb1:Below W0.heap.size W0 W1)(LV:W0.heap.size<=Gr)(hrow:W1.heap[Gr]?=some (.cells (List.replicate line.size iA).toArray 3 (0,0)))
  (xD:f' i=some (.slice ao s.rs.length cp)) (aR:aM A (W1.alloc (.cells #[.slice (some ⟨Gr,0,none⟩) line.size line.size] 57)) W3) (oY:∀k,A' k->A k∨(W1.alloc (.cells #[.slice (some ⟨Gr,0,none⟩) line.size line.size] 57)).heap.size<=k) (Tn:∀k,A k->A' k) (Un:aJ W3 N A' g n cap G d f' F'):
  Jk w N A A' g n cap G d f' F' i s line q Gr W1.heap.size W3.heap.size ao cp (W3.alloc (.cells #[.slice ao s.rs.length cp] 237)):=by
 have hA:∀k,A k->k<q:=λk hk=>by rw[hq];exact (h.old k hk).2
 have s1:=hb1.size;have hGl:=ae hrow;have s3:=aR.size;rw[World.size_alloc]at s3;have hW2:∀(k:Nat) o,W1.heap[k]?=some o->(W1.alloc (.cells #[.slice (some ⟨Gr,0,none⟩) line.size line.size] 57)).heap[k]?=some o:=λk o hk=>af hk
 have h3:∀(k:Nat) o,q<=k->(W1.alloc (.cells #[.slice (some ⟨Gr,0,none⟩) line.size line.size] 57)).heap[k]?=some o->(W3.alloc (.cells #[.slice ao s.rs.length cp] 237)).heap[k]?=some o:=λk o hk ho=>af (aR.same ho (λha=>by have:=hA k ha;omega))
 have QT:Below W3.heap.size W3 (W3.alloc (.cells #[.slice ao s.rs.length cp] 237)):=cq _ _
 refine ⟨Un.below QT,xD,hs,λk hk=>?_,λk hk=>⟨Tn k hk,hA k hk⟩,by rw[hq];exact h.size,hq,⟨by omega,hGl,by omega,by simp⟩,h3 _ _ (by omega) (hW2 _ _ ((hb1.block _ (ae hl0)).trans hl0)),h3 _ _ (by omega) (hW2 _ _ hrow),h3 _ _ (by omega) (ag _ _),ag _ _,?_⟩
 ·rcases oY k hk with h1|h1
  ·exact .inl h1
  ·rw[World.size_alloc]at h1;exact .inr ⟨by omega,(Un.old k hk).2⟩
 ·have b1:Below w.heap.size w (W1.alloc (.cells #[.slice (some ⟨Gr,0,none⟩) line.size line.size] 57)):=(hb0.trans (hb1.mono (by omega))).alloc (by omega) _;exact ((aM.ay b1).trans aR).trans (aM.ay QT)
theorem I3(B:World)(o1 o2:Obj)(l:Nat)(r rb:Loop)(hl:B.heap[l]?=some (.loop r)):∃B1,((B.alloc o1).alloc o2).putObj l (.loop rb)=B1/\aM (λk=>k=l) B B1/\B1.heap.size=B.heap.size+2/\B1.heap[B.heap.size]?=some o1/\B1.heap[B.heap.size+1]?=some o2/\B1.heap[l]?=some (.loop rb):=by
 have hlt:=ae hl;have h1:=ag B o1;have h2:=ag (B.alloc o1) o2;rw[World.size_alloc]at h2;have hb:Below B.heap.size B ((B.alloc o1).alloc o2):=(cq _ _).alloc (by simp) _
 refine ⟨_,rfl,(aM.ay hb).trans (aM.putObj _ (af (af hl)) rfl),by simp,(World.putObj_heap_other (by omega)).trans (af h1),(World.putObj_heap_other (by omega)).trans h2,World.putObj_heap_same (by simp;omega)⟩
theorem Ei(ρf:Rd)(sf:Nat)(ρb:Rd)(sb:Nat)(line:ByteArray)(f:Nat)(B1:World)(o:Obj):∃C1,(tN ρf sf ρb sb line f B1).alloc o=C1/\Below B1.heap.size B1 C1/\C1.heap.size=B1.heap.size+4/\C1.heap[B1.heap.size]?=some (fj ρf sf ρb sb)/\C1.heap[B1.heap.size+1]?=some (.cells #[.string line] 9 (0,0))/\C1.heap[B1.heap.size+1+1]?=some (.cells #[.int .i64 f] 3 (0,0))/\C1.heap[B1.heap.size+3]?=some o:=by
 unfold tN;have h1:=ag B1 (fj ρf sf ρb sb);have h2:=ag (B1.alloc (fj ρf sf ρb sb)) (.cells #[.string line] 9);have h3:=ag ((B1.alloc (fj ρf sf ρb sb)).alloc (.cells #[.string line] 9)) (.cells #[.int .i64 f] 3)
 have h4:=ag (((B1.alloc (fj ρf sf ρb sb)).alloc (.cells #[.string line] 9)).alloc (.cells #[.int .i64 f] 3)) o;simp only[World.size_alloc]at h2 h3 h4
 refine ⟨_,rfl,(((cq _ _).alloc (by simp) _).alloc (by simp;omega) _).alloc (by simp;omega) _,by simp,af (af (af h1)),af (af h2),af h3,h4⟩
theorem aM.then{Y:Nat->Prop}{a b c:World}(h:aM Y a b)(k:aM Z b c)(hz:∀x,x<a.heap.size->Z x->Y x):aM Y a c:=
 ⟨k.os.trans h.os,k.tape.trans h.tape,k.output.trans h.output,bJ h.size k.size,λi hi=>(k.keep i ⟨dw hi.1 h.size,λhz'=>hi.2 (hz i hi.1 hz')⟩).trans (h.keep i hi),λi x t ht hh=>k.stay i x t ht (h.stay i x t ht hh)⟩
def nw(Gr l2:Nat):Nat->Prop:=λk=>k=Gr∨k=l2
structure RI(O:Nat->Prop)(rs:List GR)(line:ByteArray)(j Gr l2:Nat)(rc:Loop)(C1:World)(p:Nat)(W:World):Prop where
 off:aM (λk=>O k∨nw Gr l2 k) C1 W
 row:∃fr:List Int,W.heap[Gr]?=some (.cells (fr.map (Value.int .i64)).toArray 3 (0,0))/\jS rs line.data.toList j p line.size fr
 iJ:W.heap[l2]?=some (.loop rc)
theorem Ej(rc:LoopState->Option Code->Loop)(K:Ending->World->Prop)(hz:line.size<=3000)(hr:rs[j]?=some r)(yD:x.a=r.a)(sY:r.a.re.au=false)(hF:aS C1 x.O x.a x.ρf x.sf x.ρb x.sb)(hT:lC C1)(hT0:1 < Gr)(hO:O=x.O)
  (LV:Gr<c/\¬O Gr) (hOc:∀k,O k->k<c) (hsz:C1.heap.size=c+4) (h1:C1.heap[c]?=some (fj x.ρf x.sf x.ρb x.sb)) (h2:C1.heap[c+1]?=some (.cells #[.string line] 9 (0,0))) (h3:C1.heap[c+1+1]?=some (.cells #[.int .i64 (0:Nat)] 3 (0,0))) (h4:C1.heap[c+3]?=some (.loop (rc .ready none))) (hrow:C1.heap[Gr]?=some (.cells (fr.map (Value.int .i64)).toArray 3 (0,0))) (SQ:gC rs line.data.toList (j+1) line.size fr)
  (fZ:∀p B,p<line.size->From r.a.re line.data.toList p->RI O rs line j Gr (c+3) (rc .ready none) C1 (p+1) B->YieldAt Fence.wide 5 Tryz.prog (c+3) #[.int .i64 p] B λe D=>aM (nw Gr (c+3)) B D/\((e=.returned (.bool true)/\RI O rs line j Gr (c+3) (rc .ready none) C1 p D)∨(e=.returned (.bool false)/\False)))
  (hend:∀v W O',(∀k,O' k->O k∨C1.heap.size<=k)->aS W O' x.a x.ρf x.sf x.ρb x.sb->RI O rs line j Gr (c+3) (rc .ready none) C1 0 W->K (.returned v) W):
  CallsIn Fence.wide 6 Tryz.prog 182 #[.func (.yield (c+3)) #[] #[],.pointer (some ⟨c,0,none⟩),.pointer (some ⟨c+1,0,none⟩),.pointer (some ⟨c+1+1,0,none⟩)] C1 K:=by
 subst hO;have hnO:∀k,c<=k->¬x.O k:=λk hk ho=>by have:=hOc k ho;omega
 refine (tF 6 x.O (nw Gr (c+3)) x.a x.ρf x.sf x.ρb x.sb line 0 (c+3) c (c+1) (c+1+1) (λp W=>RI x.O rs line j Gr (c+3) (rc .ready none) C1 p W) (λ_ _=>False) C1 hF ⟨h1,h2,h3,hT⟩ (Nat.zero_le _) (by unfold maxLen;omega) ?_ ?_ ⟨hnO _ (by omega),by rintro (h|h)<;>omega⟩ ⟨hnO _ (by omega),by rintro (h|h)<;>omega⟩ ⟨hnO _ (by omega),by rintro (h|h)<;>omega⟩ ?_ ?_ ?_ ?_ ?_).mono ?_
 ·rintro k (rfl|rfl)
  ·exact LV.2
  ·exact hnO _ (by omega)
 ·rintro k (rfl|rfl)<;>omega
 ·rintro (h|h)<;>omega
 ·rintro p B D hj aR;obtain ⟨fr',f1,f2⟩:=hj.row;refine ⟨hj.off.then aR (λk eY hk=>hk.elim .inl λh=>absurd h (by omega)),⟨fr',aR.same f1 ?_,f2⟩,aR.same hj.iJ ?_⟩
  ·exact λh=>h.elim LV.2 (λh=>by omega)
  ·exact λh=>h.elim (hnO _ (by omega)) (λh=>by omega)
 ·rintro p B _ hp hn hj;obtain ⟨fr',f1,f2⟩:=hj.row;exact ⟨hj.off,⟨fr',f1,f2.skip hr (by rw[<-yD];exact hn)⟩,hj.iJ⟩
 ·rintro p B _ hp hf hj;rw[yD]at hf;exact fZ p B (by have:=Jj sY hf;rwa [aj]at this) hf hj
 ·exact ⟨aM.refl _ _,⟨fr,hrow,SQ.mid _ (by omega)⟩,h4⟩
 ·rintro e W ⟨⟨v,rfl⟩,⟨O',xy,hF'⟩,hJ|⟨_,hJ⟩⟩
  ·exact hend v W O' xy hF' hJ
  ·exact hJ.elim
theorem Bx{V2:World}(rc:LoopState->Option Code->Loop)(K:Ending->World->Prop)(hz:line.size<=3000)(hr:rs[j]?=some r)(yD:x.a=r.a)(sY:r.a.re.au=false)(hF:aS B1 x.O x.a x.ρf x.sf x.ρb x.sb)(hT:lC B1)(hT0:1 < Gr)
  (LV:Gr<c/\¬x.O Gr) (hc:B1.heap.size=c) (hV2:V2=tN x.ρf x.sf x.ρb x.sb line 0 B1) (hrow:B1.heap[Gr]?=some (.cells (fr.map (Value.int .i64)).toArray 3 (0,0))) (SQ:gC rs line.data.toList (j+1) line.size fr)
  (fZ:∀p B,p<line.size->From r.a.re line.data.toList p->RI x.O rs line j Gr (c+3) (rc .ready none) (V2.alloc (.loop (rc .ready none))) (p+1) B->YieldAt Fence.wide 5 Tryz.prog (c+3) #[.int .i64 p] B λe D=>aM (nw Gr (c+3)) B D/\((e=.returned (.bool true)/\RI x.O rs line j Gr (c+3) (rc .ready none) (V2.alloc (.loop (rc .ready none))) p D)∨(e=.returned (.bool false)/\False)))
  (hend:∀v W O',(∀k,O' k->x.O k∨c+4<=k)->aS W O' x.a x.ρf x.sf x.ρb x.sb->RI x.O rs line j Gr (c+3) (rc .ready none) (V2.alloc (.loop (rc .ready none))) 0 W->K (.returned v) W):
  CallsIn Fence.wide 6 Tryz.prog 182 #[.func (.yield (c+3)) #[] #[],.pointer (some ⟨c,0,none⟩),.pointer (some ⟨c+1,0,none⟩),.pointer (some ⟨c+1+1,0,none⟩)] (V2.alloc (.loop (rc .ready none))) K:=by
 obtain ⟨C1,hC1,hb,hs,h1,h2,h3,h4⟩:=Ei x.ρf x.sf x.ρb x.sb line 0 B1 (.loop (rc .ready none));rw[<-hV2]at hC1;rw[hC1]at fZ hend ⊢;rw[hc]at hs h1 h2 h3 h4;have hlt:=hF.GQ
 exact Ej rc K hz hr yD sY (hF.below hb) (hT.keep (hb.block _ hlt)) hT0 rfl LV (λk hk=>by rw[<-hc];exact hF.old k hk) hs h1 h2 h3 h4 ((hb.block _ (ae hrow)).trans hrow) SQ fZ (λv W O' xy=>hend v W O' (λk hk=>(xy k hk).imp id λh=>by omega))
theorem Ek(ρf:Rd)(sf:Nat)(ρb:Rd)(sb:Nat)(line:ByteArray)(f:Nat)(B1:World)(o:Obj):Below B1.heap.size B1 ((tN ρf sf ρb sb line f B1).alloc o):=by unfold tN;exact (((cq _ _).alloc (by simp) _).alloc (by simp;omega) _).alloc (by simp;omega) _
theorem Hw(ρf:Rd)(sf:Nat)(ρb:Rd)(sb:Nat)(line:ByteArray)(f:Nat)(B1:World):(tN ρf sf ρb sb line f B1).heap.size=B1.heap.size+3:=by unfold tN;simp
theorem Em{l2:Nat}{rb:Loop}(h:RI O rs line j Gr l2 rc C1 (p+1) B)(hne:Gr≠l2)(hp:p<line.size)(hr:rs[j]?=some r)(hf:From r.a.re line.data.toList p):
  ∃z:Int,(B.putObj l2 (.loop rb)).cell? ⟨Gr,p,none⟩=some (.int .i64 z)/\(B.putObj l2 (.loop rb)).frozen? ⟨Gr,p,none⟩=false /\
   ∀D,D=(B.putObj l2 (.loop rb)).setCell ⟨Gr,p,none⟩ (.int .i64 j)->D.heap[l2]?=some (.loop rb)/\aM (nw Gr l2) B (D.putObj l2 (.loop rc))/\RI O rs line j Gr l2 rc C1 p (D.putObj l2 (.loop rc)):=by
 obtain ⟨fr,h1,h2⟩:=h.row;have hl:=ae h.iJ;obtain ⟨z,hz⟩:∃z,fr[p]?=some z:=⟨_,cB (by rw[h2.1];exact hp)⟩;have p1:(B.putObj l2 (.loop rb)).heap[Gr]?=some (.cells (fr.map (Value.int .i64)).toArray 3 (0,0)):=(World.putObj_heap_other hne).trans h1;have pl:(B.putObj l2 (.loop rb)).heap[l2]?=some (.loop rb):=World.putObj_heap_same hl
 refine ⟨z,by simp[World.cell?,p1,hz],by simp[World.frozen?,p1],?_⟩;rintro D rfl;have q1:=ah _ Gr p (.int .i64 j) p1;have ql:((B.putObj l2 (.loop rb)).setCell ⟨Gr,p,none⟩ (.int .i64 j)).heap[l2]?=some (.loop rb):=(eV _ _ _ _ (by exact hne.symm)).trans pl
 have aR:aM (nw Gr l2) B (((B.putObj l2 (.loop rb)).setCell ⟨Gr,p,none⟩ (.int .i64 j)).putObj l2 (.loop rc)):=
  ((aM.putObj _ h.iJ (.inr rfl)).trans (aM.setCell (p:=⟨Gr,p,none⟩) (.inl rfl) p1 (by decide) _)).trans (aM.putObj _ ql (.inr rfl))
 refine ⟨ql,aR,h.off.trans (aR.sub λk _ hk=>.inr hk),⟨fr.set p (j:Int),?_,h2.hit hr hf⟩,World.putObj_heap_same (ae ql)⟩;refine (World.putObj_heap_other hne).trans (q1.trans ?_);simp[List.map_set]
theorem En{A1:Nat->Prop}{F1:Nat->List FD}{rcO rbO BS:Loop}{qb:Nat}{x1:FD}{O':Nat->Prop}(hV:Jk w N A A' g n cap G d f' F' i s line q Gr bF bs ao cp V)(hJ:RJ w N A A' g n cap G d f' F' i s line q Gr bF bs ao cp rcO (j+1) B)(BI:aJ B N A1 g n cap G d f' F1)(jq:∀k,A1 k->A' k∨bs+3<=k)(LL:∀k,A' k->A1 k)(hcs:(F1 i).map FD.cells=(F' i).map FD.cells)(hx1:(F1 i)[j]?=some x1)
  (hqb:qb=B.heap.size) (xn:aM (λk=>k=bs+1+1) B B1) (iF:B1.heap[bs+1+1]?=some (.loop rbO)) (hs1:B1.heap.size=qb+2) (hbC:Below B1.heap.size B1 C1) (hsC:C1.heap.size=qb+2+4) (hj:RI x1.O s.rs line j Gr (qb+2+3) BS C1 0 W) (xy:∀k,O' k->x1.O k∨qb+2+4<=k) (hF:aS W O' x1.a x1.ρf x1.sf x1.ρb x1.sb) (ro:Loop):
  (W.putObj (qb+2+3) (.loop ro)).heap[bs+1+1]?=some (.loop rbO)/\RJ w N A A' g n cap G d f' F' i s line q Gr bF bs ao cp rcO j ((W.putObj (qb+2+3) (.loop ro)).putObj (bs+1+1) (.loop rcO)):=by
 have OI:=hV.ord;have LM:∀k,A' k->k<q∨(bF<k/\k<bs):=λk hk=>(hV.sub k hk).imp (λh=>(hV.sup k h).2) id
 have BO:=bn hx1;have LC:∀k,x1.O k->A1 k:=λk hk=>(BI.own i _ hV.fi x1 BO k hk).1
 have hxq:∀k,q<=k->k<=bF->¬x1.O k:=λk h1 h2 hk=>by
  rcases jq k (LC k hk) with h3|h3
  ·rcases LM k h3 with h4|h4<;>omega
  ·omega
 have hxb:∀k,bs<=k->k<bs+3->¬x1.O k:=λk h1 h2 hk=>by
  rcases jq k (LC k hk) with h3|h3
  ·rcases LM k h3 with h4|h4<;>omega
  ·omega
 have ad7:bs+1+1<B.heap.size:=ae hJ.iJ;have Qe:aM (λk=>x1.O k∨nw Gr (qb+2+3) k) C1 W:=hj.off
 have mJ:∀(k:Nat) o,B1.heap[k]?=some o->¬x1.O k->k≠Gr->W.heap[k]?=some o:=λk o hk h1 h2=>by
  have hlt:=ae hk;refine Qe.same ((hbC.block k hlt).trans hk) ?_;rintro (h3|h3|h3)
  ·exact h1 h3
  ·exact h2 h3
  ·omega
 have Bz:∀(k:Nat) o,B.heap[k]?=some o->¬x1.O k->k≠Gr->k≠bs+1+1->W.heap[k]?=some o:=λk o hk h1 h2 h3=>mJ k o (xn.same hk h3) h1 h2
 have hlW:=mJ _ _ iF (hxb _ (by omega) (by omega)) (by omega);have o1W:aM (λk=>k=qb+2+3) W (W.putObj (qb+2+3) (.loop ro)):=aM.putObj _ hj.iJ rfl;have hl2:=o1W.same hlW (by omega);have o2W:aM (λk=>k=bs+1+1) (W.putObj (qb+2+3) (.loop ro)) ((W.putObj (qb+2+3) (.loop ro)).putObj (bs+1+1) (.loop rcO)):=aM.putObj _ hl2 rfl;refine ⟨hl2,?_⟩
 have tZ:∀(k:Nat) o,W.heap[k]?=some o->k≠qb+2+3->k≠bs+1+1->((W.putObj (qb+2+3) (.loop ro)).putObj (bs+1+1) (.loop rcO)).heap[k]?=some o:=λk o hk h1 h2=>o2W.same (o1W.same hk h1) h2
 have hzl:∀k,k=bs+1+1->N<=k/\¬A1 k:=λk hk=>⟨by have:=hV.hN;omega,λha=>by
  rcases jq k ha with h3|h3
  ·rcases LM k h3 with h4|h4<;>omega
  ·omega⟩
 have hpC:aJ C1 N A1 g n cap G d f' F1:=(BI.off xn hzl).below hbC;have Qf:∀k,A1 k->k<qb:=λk hk=>by rw[hqb];exact (BI.old k hk).2
 have hZ:∀k,nw Gr (qb+2+3) k->N<=k/\¬A1 k:=λk hk=>by
  have hN:=hV.hN;rcases hk with rfl|rfl
  ·refine ⟨by omega,λha=>?_⟩;rcases jq _ ha with h3|h3
   ·rcases LM _ h3 with h4|h4<;>omega
   ·omega
  ·exact ⟨by omega,λha=>by have:=Qf _ ha;omega⟩
 have hpW:=hpC.use hV.fi hx1 Qe hZ (λk hk=>by rw[hsC];exact xy k hk) hF
 have hpF:=(hpW.off o1W (λk hk=>⟨by have:=hV.hN;omega,λha=>by
  subst hk;rcases ha with h3|h3
  ·have:=Qf _ h3;omega
  ·rcases xy _ h3 with h4|h4
   ·have:=Qf _ (LC _ h4);omega
   ·omega⟩)).off o2W (λk hk=>⟨(hzl k hk).1,λha=>by
  rcases ha with h3|h3
  ·exact (hzl k hk).2 h3
  ·rcases xy _ h3 with h4|h4
   ·exact (hzl k hk).2 (LC _ h4)
   ·omega⟩)
 obtain ⟨fr,f1,f2⟩:=hj.row
 refine ⟨⟨_,_,hpF,λk hk=>?_,λk hk=>.inl (LL k hk),?_⟩,⟨fr,tZ _ _ f1 (by have:=ae hJ.bsx;omega) (by omega),f2.done⟩,tZ _ _ (Bz _ _ hJ.Jl (hxq _ (by omega) (by omega)) (by omega) (by omega)) (by omega) (by omega),tZ _ _ (Bz _ _ hJ.xm (hxq _ (by omega) (by omega)) (by omega) (by omega)) (by omega) (by omega),tZ _ _ (Bz _ _ hJ.bsx (hxb _ (by omega) (by omega)) (by omega) (by omega)) (by omega) (by omega),tZ _ _ (Bz _ _ hJ.uF (hxb _ (by omega) (by omega)) (by omega) (by omega)) (by omega) (by omega),World.putObj_heap_same (ae hl2),?_⟩
 ·rcases hk with h3|h3
  ·exact jq k h3
  ·rcases xy k h3 with h4|h4
   ·exact jq k (LC k h4)
   ·exact .inr (by omega)
 ·simp only[if_true];rw[<-hcs,List.map_set];refine List.ext_getElem? λy=>?_
  rw[List.getElem?_set];split
  ·rename_i e;subst e;have:=az hx1;rw[if_pos (by simpa using this),fX,hx1];rfl
  ·rfl
 ·have hqs:=hV.hq;refine (((hJ.off.then xn (λk hk e=>by omega)).trans (aM.ay hbC)).then Qe (λk hk e=>?_)).then (o1W) (λk hk e=>by omega) |>.then o2W (λk hk e=>by omega)
  rcases e with h3|h3|h3
  ·rcases jq k (LC k h3) with h4|h4
   ·rcases hV.sub k h4 with h5|h5
    ·exact h5
    ·omega
   ·omega
  ·omega
  ·omega
theorem LN(hV:Jk w N A A' g n cap G d f' F' i s line q Gr bF bs ao cp V)(hJ:RJ w N A A' g n cap G d f' F' i s line q Gr bF bs ao cp rc 0 W)(ro:Loop):
  ∃W1,W.putObj (bs+1+1) (.loop ro)=W1/\W1.cell? ⟨bF,0,none⟩=some (.slice (some ⟨Gr,0,none⟩) line.size line.size)/\W1.heap[bs+1]?=some (.deferred (some []))/\nW N A g n cap G d s line.data.toList w (.returned (.slice (some ⟨Gr,0,none⟩) line.size line.size)) (W1.putObj (bs+1) (.deferred none)):=by
 have OI:=hV.ord;have hqs:=hV.hq;have hN:=hV.hN;obtain ⟨A1,F1,hp,jq,LL,_⟩:=hJ.lz;have LM:∀k,A' k->k<q∨(bF<k/\k<bs):=λk hk=>(hV.sub k hk).imp (λh=>(hV.sup k h).2) id
 have Ux:∀k,(q<=k/\k<=bF)∨(bs<=k/\k<bs+3)->¬A1 k:=λk h ha=>by
  rcases jq k ha with h3|h3
  ·rcases LM k h3 with h4|h4<;>omega
  ·omega
 have o1:aM (λk=>k=bs+1+1) W (W.putObj (bs+1+1) (.loop ro)):=aM.putObj _ hJ.iJ rfl;have hd:=o1.same hJ.uF (by omega);have o2:aM (λk=>k=bs+1) (W.putObj (bs+1+1) (.loop ro)) ((W.putObj (bs+1+1) (.loop ro)).putObj (bs+1) (.deferred none)):=aM.uo _ hd (λ_ _ _ h=>by cases h) rfl;have hfx:=o1.same hJ.xm (by omega);obtain ⟨fr,f1,f2⟩:=hJ.row
 refine ⟨_,rfl,by simp[World.cell?,hfx],hd,Gr,fr,A1,f',F1,by rw[aj],by omega,o2.same (o1.same f1 (by omega)) (by omega),Ux _ (.inl (by omega)),by rw[aj];exact f2,(hJ.off.then o1 (λk hk e=>by omega)).then o2 (λk hk e=>by omega),λk hk=>?_,λk hk=>LL k (hV.sup k hk).1,(hp.off o1 (λk hk=>⟨by omega,Ux k (.inr (by omega))⟩)).off o2 (λk hk=>⟨by omega,Ux k (.inr (by omega))⟩)⟩
 rcases jq k hk with h3|h3
 ·rcases hV.sub k h3 with h4|h4
  ·exact .inl h4
  ·exact .inr (by omega)
 ·exact .inr (by omega)
theorem Eo(N:Nat)(A:Nat->Prop)(g n cap:Nat)(G:List GS)(d:PD)(f:Nat->Option Value)(F:Nat->List FD)(i:Nat)(s:GS)(line:ByteArray)(w:World)(h:aJ w N A g n cap G d f F)(hs:G[i]?=some s)(hl:1<=line.size)(hz:line.size<=3000):
  Calls Tryz.prog 125 #[pv g n cap d,.string line,.int .i64 i] w (nW N A g n cap G d s line.data.toList w):=by
 refine (callsIn_wide (n:=9)).1 (callsIn_of_wp_marks Tryz.func125 rfl trivial (wpIn_wide.2 ?_));simp only[Tryz.ntmps125,List.size_toArray,fe,List.length_nil,Nat.reduceAdd,Nat.reduceSub,Array.replicate_succ,Array.replicate_zero,List.push_toArray,List.append_toArray,List.nil_append,List.cons_append]
 obtain ⟨q,hq⟩:∃q,q=w.heap.size:=⟨_,rfl⟩;obtain ⟨W0,hW0⟩:∃W0,((w.alloc (.cells #[.slice (some ⟨g,0,none⟩) n cap,jx d] 171)).alloc (.cells #[.string line] 9)).alloc (.cells #[.int .i64 (-1)] 3)=W0:=⟨_,rfl⟩;have hb0:Below w.heap.size w W0:=by rw[<-hW0];exact ma _ _ _ _
 have hs0:W0.heap.size=q+3:=by rw[<-hW0,hq];simp
 have AW:=aa (show W0.heap[q]?=some (.cells #[.slice (some ⟨g,0,none⟩) n cap,jx d] 171 (0,0))/\W0.heap[q+1]?=some (.cells #[.string line] 9 (0,0))/\W0.heap[q+1+1]?=some (.cells #[iA] 3 (0,0)) from by
  rw[<-hW0,hq];have h1:=ag w (.cells #[.slice (some ⟨g,0,none⟩) n cap,jx d] 171);have h2:=ag (w.alloc (.cells #[.slice (some ⟨g,0,none⟩) n cap,jx d] 171)) (.cells #[.string line] 9)
  have h3:=ag ((w.alloc (.cells #[.slice (some ⟨g,0,none⟩) n cap,jx d] 171)).alloc (.cells #[.string line] 9)) (.cells #[.int .i64 (-1)] 3);simp only[World.size_alloc]at h2 h3;exact ⟨af (af h1),af h2,h3⟩)
 have gZ:=aa hb0;have HP:=aa h;have J7:=aa (Hr (q+1+1) line.size (by omega) hl W0 AW.out.2.2);have l0:W0.cell? ⟨w.heap.size+1,0,none⟩=some (.string line):=by have h1:=AW.out.2.1;rw[hq]at h1;simp[World.cell?,h1]
 unfold jx at hW0;unfold pv jx;clear hb0 h;go_wp2_with fail;rw[<-hq];have HQ:=aa hq;clear hW0 hq;refine J7.out.mono ?_;rintro e1 W1 ⟨Gr,rfl,LV,hrow,hb1⟩;have bM:=aa hb1;have bj:=aa hrow;have Zb:=aa LV;clear hrow LV J7;have p0:W1.cell? ⟨q,0,none⟩=some (.slice (some ⟨g,0,none⟩) n cap):=by have h1:=(hb1.block _ (ae AW.out.1)).trans AW.out.1;simp[World.cell?,h1]
 have p1:W1.cell? ⟨q,1,none⟩=some (jx d):=by have h1:=(hb1.block _ (ae AW.out.1)).trans AW.out.1;simp[World.cell?,h1]
 have p2:=aw p0;have p3:=aw p1;unfold jx at p1 p3;clear hb1;have aby:=aa (HP.out.below (gZ.out.trans (bM.out.mono gZ.out.size)));have HPF:=aa (zk N A g n cap G d f F i s (W1.alloc (.cells #[.slice (some ⟨Gr,0,none⟩) line.size line.size] 57)) (aby.out.below (cq _ _)) hs);go_wp2_with fail;refine HPF.out.mono ?_
 rintro e3 W3 ⟨ao,cp,A',f',F',rfl,xD,oT,oY,Tn,Un⟩;have dc:=aa (Hv HP.out hs HQ.out hs0 gZ.out AW.out.2.1 bM.out Zb.out bj.out xD oT oY Tn Un);obtain ⟨bF,hbF⟩:∃bF,bF=W1.heap.size:=⟨_,rfl⟩;obtain ⟨bs,eF⟩:∃bs,bs=W3.heap.size:=⟨_,rfl⟩;rw[<-hbF,<-eF]at dc;have HBF:=aa (Eh (.slice ao s.rs.length cp) ⟨_,_,_,rfl⟩ W3)
 rw[<-eF]at HBF;clear xD oT oY Tn Un HPF aby eF;go_wp2_with fail;refine HBF.out.mono ?_;rintro e4 V' ⟨rfl,hV'⟩;rw[<-hV']at dc;rw[<-hbF];clear hV' hbF HBF AW gZ HP bM bj Zb p0 p1 p2 p3 l0 hs0;go_wp2_with fail
 refine (wpIn_wide (n:=9)).1 (jy rfl (by decide) (gf:=187) (lb:=#[.pointer (some ⟨bs,0,none⟩)]) rfl trivial (enters_of Tryz.func187 (by kernel_rfl) rfl) ?_);intro fn hfn;rw[dc.out.ord.2.2.2];refine Hu dc.out (mb fn _ _ _ _ _) _ ?_ ?_
 ·intro j x B hx hj;have HJ:=aa hj;refine gJ trivial hj.iJ rfl ?_;intro rb rc MA;rw[<-MA]at HJ ⊢;clear hj MA;obtain ⟨A1,F1,BI,jq,LL,hcs⟩:=HJ.out.lz
  obtain ⟨x1,hx1,QQ⟩:∃x1,(F1 i)[j]?=some x1/\x1.cells=x.cells:=by
   have h1:=congrArg (λl=>l[j]?) hcs;simp only[fX,hx]at h1
   cases h2:(F1 i)[j]? with
   | none=>rw[h2]at h1;cases h1
   | some y=>rw[h2]at h1;exact ⟨y,rfl,by simpa using h1⟩
  rw[zC x,<-QQ,<-zC x1];have gD:=aa BI;have Ik:=aa jq;have ac8:=aa LL;have wI:=aa hcs;have rz:=aa hx1;clear BI jq LL hcs hx1 QQ;unfold fdv yX;gi_wp2_with fail;refine ⟨af (af HJ.out.iJ),?_⟩
  obtain ⟨B1,fu,xn,Dr,BN,xD,iF⟩:=I3 B (.cells #[.int .i64 j] 3) (.cells #[.int .u64 x1.sf,.func (.func 179) #[] #[.pointer (some ⟨x1.ρf.av,0,none⟩)],.func (.func 181) #[] #[.pointer (some ⟨x1.ρf.ev,0,none⟩)],.int .u64 x1.sb,.func (.func 179) #[] #[.pointer (some ⟨x1.ρb.av,0,none⟩)],.func (.func 181) #[] #[.pointer (some ⟨x1.ρb.ev,0,none⟩)]] 194) (bs+1+1) _ rb HJ.out.iJ
  rw[fu];obtain ⟨qb,hqb⟩:∃qb,qb=B.heap.size:=⟨_,rfl⟩;rw[<-hqb]at Dr BN xD ⊢;have ED:q+1≠bs+1+1:=by have:=dc.out.ord;omega
  have MC:=xn.same HJ.out.Jl ED;have t0:B1.cell? ⟨q+1,0,none⟩=some (.string line):=by simp[World.cell?,MC]
  have t1:B1.cell? ⟨qb+1,0,none⟩=some (.int .u64 x1.sf):=by simp[World.cell?,xD]
  have t2:B1.cell? ⟨qb+1,1,none⟩=some (.func (.func 179) #[] #[.pointer (some ⟨x1.ρf.av,0,none⟩)]):=by simp[World.cell?,xD]
  have t3:B1.cell? ⟨qb+1,2,none⟩=some (.func (.func 181) #[] #[.pointer (some ⟨x1.ρf.ev,0,none⟩)]):=by simp[World.cell?,xD]
  have t4:B1.cell? ⟨qb+1,3,none⟩=some (.int .u64 x1.sb):=by simp[World.cell?,xD]
  have t5:B1.cell? ⟨qb+1,4,none⟩=some (.func (.func 179) #[] #[.pointer (some ⟨x1.ρb.av,0,none⟩)]):=by simp[World.cell?,xD]
  have t6:B1.cell? ⟨qb+1,5,none⟩=some (.func (.func 181) #[] #[.pointer (some ⟨x1.ρb.ev,0,none⟩)]):=by simp[World.cell?,xD]
  have HST:=aa (zz x1.ρf x1.sf x1.ρb x1.sb line 0 B1);unfold yX at HST;have Ep:=aa xn;have XW:=aa BN;have rN:=aa iF;have HQB:=aa hqb;clear fu xn BN xD iF hqb MC;gi_wp2_with fail;refine ⟨trivial,(CallsIn.inRound (bs+1+1) (callsIn_wide.2 HST.out)).mono ?_⟩;rintro e V2 ⟨rfl,hV2⟩;unfold Tj
  have hlx:V2.heap[bs+1+1]?=some (.loop rb):=by rw[hV2];exact af (af (af rN.out))
  have HLX:=aa hlx;have XF:=aa hV2;clear HST hlx hV2;gi_wp2_with fail;refine tD (l₀:=bs+1+1) (r₀:=rb) rfl HLX.out (by decide) (gf:=182) (lb:=#[.pointer (some ⟨qb+2,0,none⟩),.pointer (some ⟨qb+2+1,0,none⟩),.pointer (some ⟨qb+2+1+1,0,none⟩)]) rfl trivial (enters_of Tryz.func182 (by kernel_rfl) rfl) ?_;intro fn2 acL
  have abz:V2.heap.size=qb+2+3:=by rw[XF.out,Hw,Dr]
  rw[abz]
  obtain ⟨r,hr,yD,sY⟩:∃r,s.rs[j]?=some r/\x1.a=r.a/\r.a.re.au=false:=by
   obtain ⟨s2,ao2,cp2,a1,a2,a3,a4,a5⟩:=gD.out.fin i _ dc.out.fi;rw[dc.out.gi]at a2;cases a2;have h1:=congrArg (λl=>l[j]?) a3;simp only[fX,rz.out]at h1
   cases h2:s.rs[j]? with
   | none=>rw[h2]at h1;cases h1
   | some r=>
    rw[h2]at h1;obtain ⟨_,_,vv,_,⟨ao3,cp3,_,ac9⟩⟩:=(gD.out.ib B (Below.refl _ _)).at_ i s dc.out.gi;obtain ⟨rg,lg,ln,lc,_,Up⟩:=ac9 j r h2;obtain ⟨ns,_,_,_,_,_,_,_,_,hn⟩:=Up.pat;exact ⟨r,rfl,by simpa using h1,hn⟩
  obtain ⟨fr,LO,Xr⟩:=HJ.out.row;have hGB:Gr≠bs+1+1:=by have:=dc.out.ord;omega
  refine CallsIn.inRound (bs+1+1) (Bx (fr:=fr) (mb fn2 _ _ _ _ _) _ hz hr yD sY ?_ ?_ ?_ ?_ Dr XF.out (Ep.out.same LO hGB) Xr ?_ ?_)
  ·refine (((gD.out.fin i _ dc.out.fi).choose_spec.choose_spec.choose_spec.2.2.2.1.each x1 (bn rz.out)).1).off Ep.out (λk hk e=>?_);subst e;rcases Ik.out _ (gD.out.own i _ dc.out.fi x1 (bn rz.out) _ hk).1 with h3|h3
   ·rcases dc.out.sub _ h3 with h4|h4
    ·have:=(dc.out.sup _ h4).2;have:=dc.out.ord;omega
    ·omega
   ·omega
  ·exact gD.out.tab.2.keep (Ep.out.keep _ ⟨dw gD.out.tab.1 gD.out.size,by have:=gD.out.tab.1;have:=dc.out.hN;have:=dc.out.ord;omega⟩)
  ·have:=gD.out.tab.1;have:=dc.out.hN;have:=dc.out.ord;omega
  ·refine ⟨by have:=ae LO;have:=HQB.out;omega,λhk=>?_⟩;rcases Ik.out _ (gD.out.own i _ dc.out.fi x1 (bn rz.out) _ hk).1 with h3|h3
   ·rcases dc.out.sub _ h3 with h4|h4
    ·have:=(dc.out.sup _ h4).2;have:=dc.out.ord;omega
    ·have:=dc.out.ord;omega
   ·have:=dc.out.ord;omega
  ·intro p B2 hp mW ez;have jV:=aa ez;refine gJ trivial ez.iJ rfl ?_;intro Qk BS Pw;rw[<-Pw]at jV ⊢;clear ez Pw;gi_wp2_with fail;refine ⟨jV.out.iJ,?_⟩;have hGl:Gr≠qb+2+3:=by have:=ae LO;have:=HQB.out;omega
   obtain ⟨z,cz,fz,hD⟩:=Em (rb:=Qk) jV.out hGl hp hr mW;have HD:=aa (hD _ rfl)
   have hk2:∀(k:Nat) o,B1.heap[k]?=some o->¬x1.O k->k≠Gr->(B2.putObj (qb+2+3) (.loop Qk)).heap[k]?=some o:=λk o hk h1 h2=>by
    have hlt:=ae hk;have hV3:V2.heap[k]?=some o:=by rw[XF.out];exact af (af (af hk))
    refine (World.putObj_heap_other (by omega)).trans (jV.out.off.same (af hV3) ?_);rintro (h3|h3|h3)
    ·exact h1 h3
    ·exact h2 h3
    ·omega
   have u1:(B2.putObj (qb+2+3) (.loop Qk)).cell? ⟨bF,0,none⟩=some (.slice (some ⟨Gr,0,none⟩) line.size line.size):=by
    have h9:=hk2 bF _ (Ep.out.same HJ.out.xm (by have:=dc.out.ord;omega)) ?_ (by have:=dc.out.ord;omega)
    ·simp[World.cell?,h9]
    ·intro hk;rcases Ik.out _ (gD.out.own i _ dc.out.fi x1 (bn rz.out) _ hk).1 with h3|h3
     ·rcases dc.out.sub _ h3 with h4|h4
      ·have:=(dc.out.sup _ h4).2;have:=dc.out.ord;omega
      ·have:=dc.out.ord;omega
     ·have:=dc.out.ord;omega
   have u2:(B2.putObj (qb+2+3) (.loop Qk)).cell? ⟨qb,0,none⟩=some (.int .i64 j):=by
    have h9:=hk2 qb _ XW.out ?_ (by have:=ae LO;have:=HQB.out;omega)
    ·simp[World.cell?,h9]
    ·intro hk;have:=(gD.out.old _ (gD.out.own i _ dc.out.fi x1 (bn rz.out) _ hk).1).2;have:=HQB.out;omega
   clear hD hk2 LO Xr jV;gi_wp2_with fail;exact ⟨HD.out.1,HD.out.2.1,.inl ⟨rfl,HD.out.2.2⟩⟩
  ·intro v W O' xy hF' ez;refine ⟨⟨v,rfl⟩,.inl ⟨ez.iJ,λro=>?_⟩⟩;have kV:=aa (En dc.out HJ.out gD.out Ik.out ac8.out wI.out rz.out HQB.out Ep.out rN.out Dr (C1:=V2.alloc _) (by rw[XF.out];exact Ek _ _ _ _ _ _ _ _) (by rw[World.size_alloc,abz]) ez xy hF' ro);clear ez hF' xy LO Xr;gi_wp2_with fail
   exact ⟨kV.out.1,.inl ⟨rfl,kV.out.2⟩⟩
 ·intro v W hj;refine ⟨⟨v,rfl⟩,.inl ⟨hj.iJ,λro=>?_⟩⟩;obtain ⟨W9,EZ,c9,d9,iU⟩:=LN dc.out hj ro;rw[EZ];have UW:=aa d9;have pU:=aa iU;clear hj EZ d9 iU;dsimp only;go_wp2_with fail;refine ⟨by simp,.inl ⟨_,_,rfl,run_takeDeferred UW.out,?_⟩⟩;exact ⟨_,(by simp[results,Tryz.results125,go_sem]),pU.out⟩
def wS(v:Array Value)(w:World)(e:Ending)(w':World):Prop:=
 e=.returned (.func (.func 160) #[] #[.pointer (some ⟨w.heap.size+1+1,0,none⟩),.pointer (some ⟨w.heap.size,0,none⟩)])/\Below w.heap.size w w'/\w'.heap.size=w.heap.size+3/\w'.heap[w.heap.size+1+1]?=some (.cells #[.map (some (w.heap.size+1))] 278 (0,0)) /\
  w'.heap[w.heap.size]?=some (.cells #[.func (.func 124) #[] v] 239 (0,0))/\gS oq w' (w.heap.size+1) 0 (λ_=>none)
theorem yi(v:Array Value)(w:World):Calls Tryz.prog 123 #[.func (.func 124) #[] v] w (wS v w):=by
 have Fg:=@run_makeMap Tryz.prog;go_enter Tryz.func123,Tryz.ntmps123;go_wp2_with fail;go_ret;have hM:=gS.made oq (w.alloc (.cells #[.func (.func 124) #[] v] 239));have h1:=ag w (.cells #[.func (.func 124) #[] v] 239)
 have h2:=ag ((w.alloc (.cells #[.func (.func 124) #[] v] 239)).alloc (.map #[] 0)) (.cells #[.map (some (w.heap.size+1))] 278);have b1:Below w.heap.size w (w.alloc (.cells #[.func (.func 124) #[] v] 239)):=cq _ _
 have b2:=b1.alloc (o:=.map #[] 0) (by simp);have b3:=b2.alloc (o:=.cells #[.map (some (w.heap.size+1))] 278) (by simp;omega);refine ⟨rfl,b3,by simp,by simpa using h2,af (af h1),?_⟩;rw[show (w.alloc (.cells #[.func (.func 124) #[] v] 239)).heap.size=w.heap.size+1 by simp]at hM;refine hM.keep ?_
 obtain ⟨es,lQ,ho⟩:=hM.obj;rw[ho];exact af ho
theorem Er(N:Nat)(A:Nat->Prop)(g n cap:Nat)(G:List GS)(d:PD)(f:Nat->Option Value)(F:Nat->List FD)(i:Nat)(s:GS)(line:ByteArray)(bP bL:Nat)(w:World)(h:aJ w N A g n cap G d f F)(hs:G[i]?=some s)(hl:1<=line.size)(hz:line.size<=3000)(Mj:w.heap[bP]?=some (.cells #[.slice (some ⟨g,0,none⟩) n cap,jx d] 171 (0,0)))(Pg:w.heap[bL]?=some (.cells #[.string line] 9 (0,0))):
  Calls Tryz.prog 124 #[.int .i64 i,.pointer (some ⟨bP,0,none⟩),.pointer (some ⟨bL,0,none⟩)] w (nW N A g n cap G d s line.data.toList w):=by
 have c0:w.cell? ⟨bP,0,none⟩=some (.slice (some ⟨g,0,none⟩) n cap):=by simp[World.cell?,Mj]
 have c1:w.cell? ⟨bP,1,none⟩=some (jx d):=by simp[World.cell?,Mj]
 have c2:=aA Pg;have HR:=aa (Eo N A g n cap G d f F i s line w h hs hl hz);unfold pv at HR;unfold jx at c1 HR;clear h Mj Pg;go_enter Tryz.func124,Tryz.ntmps124;go_wp2_with fail;refine HR.out.mono ?_;rintro e w1 hp;have HP:=aa hp;obtain ⟨Gr,fr,A',f',F',rfl,-⟩:=hp;clear HR;go_wp2_with fail;go_ret;exact HP.out
structure pM(w:World)(N:Nat)(A:Nat->Prop)(G:List GS)(T:List UInt8)(K kv wk bP bL:Nat)(f2:Nat->Option Value):Prop where
 pR:w.heap[kv]?=some (.cells #[.map (some K)] 278 (0,0))/\¬A kv
 uD:w.heap[wk]?=some (.cells #[.func (.func 124) #[] #[.pointer (some ⟨bP,0,none⟩),.pointer (some ⟨bL,0,none⟩)]] 239 (0,0))/\¬A wk
 map:(N<=K/\¬A K)/\∃m,gS oq w K m f2/\m<=lu f2
 rows:∀i v,f2 i=some v->∃s Gr fr,G[i]?=some s/\v=.slice (some ⟨Gr,0,none⟩) T.length T.length/\¬A Gr/\w.heap[Gr]?=some (.cells (fr.map (Value.int .i64)).toArray 3 (0,0))/\gC s.rs T 0 T.length fr
def kz(K kv wk:Nat)(f2:Nat->Option Value)(k:Nat):Prop:=k≠K/\k≠kv/\k≠wk/\∀i v,f2 i=some v->v.ownBlock≠some k
theorem LP(g n c:Nat):(Value.slice (some ⟨g,0,none⟩) n c).ownBlock=some g:=rfl
theorem pM.off{w':World}{K kv wk bP bL:Nat}{f2:Nat->Option Value}(h:pM w N A G T K kv wk bP bL f2)(ho:aM Z w w')(hz:∀k,Z k->k<w.heap.size->A k∨kz K kv wk f2 k)(hA:∀k,A' k->A k∨w.heap.size<=k):pM w' N A' G T K kv wk bP bL f2:=by
 obtain ⟨m,hm,hk⟩:=h.map.2;have hn:∀k,k<w.heap.size->¬A k->¬A' k:=λk h1 h2 h3=>(hA k h3).elim h2 (λh4=>by omega)
 refine ⟨⟨ho.same h.pR.1 λhz'=>(hz _ hz' (ae h.pR.1)).elim h.pR.2 (λe=>e.2.1 rfl),hn _ (ae h.pR.1) h.pR.2⟩,⟨ho.same h.uD.1 λhz'=>(hz _ hz' (ae h.uD.1)).elim h.uD.2 (λe=>e.2.2.1 rfl),hn _ (ae h.uD.1) h.uD.2⟩,⟨⟨h.map.1.1,hn _ hm.lt h.map.1.2⟩,m,hm.keep (ho.keep _ ⟨hm.lt,λhz'=>(hz _ hz' hm.lt).elim h.map.1.2 (λe=>e.1 rfl)⟩),hk⟩,λi v hi=>?_⟩
 obtain ⟨s,Gr,fr,h1,h2,h3,h4,h5⟩:=h.rows i v hi;exact ⟨s,Gr,fr,h1,h2,hn _ (ae h4) h3,ho.same h4 (λhz'=>(hz _ hz' (ae h4)).elim h3 (λe=>e.2.2.2 i v hi (by rw[h2];rfl))),h5⟩
def Tp(N:Nat)(A:Nat->Prop)(g n cap:Nat)(G:List GS)(d:PD)(s:GS)(T:List UInt8)(K kv wk bP bL:Nat)(f2:Nat->Option Value)(w:World)(e:Ending)(w':World):Prop:=
 ∃(Gr:Nat) (fr:List Int) (A':Nat->Prop) (f':Nat->Option Value) (F':Nat->List FD) (IY:Nat->Option Value),e=.returned (.slice (some ⟨Gr,0,none⟩) T.length T.length)/\w'.heap[Gr]?=some (.cells (fr.map (Value.int .i64)).toArray 3 (0,0))/\gC s.rs T 0 T.length fr/\aM (λk=>A k∨k=K) w w'/\(∀k,A' k->A k∨w.heap.size<=k)/\(∀k,A k->A' k)/\aJ w' N A' g n cap G d f' F'/\pM w' N A' G T K kv wk bP bL IY/\(∃i,IY i=some (.slice (some ⟨Gr,0,none⟩) T.length T.length))/\∀i v,IY i=some v->f2 i=some v∨∀k,v.ownBlock=some k->w.heap.size<=k
theorem SA(N:Nat)(A:Nat->Prop)(g n cap:Nat)(G:List GS)(d:PD)(f:Nat->Option Value)(F:Nat->List FD)(i:Nat)(s:GS)(line:ByteArray)(K kv wk bP bL:Nat)(f2:Nat->Option Value)(w:World)(h:aJ w N A g n cap G d f F)(hR:pM w N A G line.data.toList K kv wk bP bL f2)(hs:G[i]?=some s)(hl:1<=line.size)(hz:line.size<=3000)(Mj:w.heap[bP]?=some (.cells #[.slice (some ⟨g,0,none⟩) n cap,jx d] 171 (0,0)))(Pg:w.heap[bL]?=some (.cells #[.string line] 9 (0,0))):
  Calls Tryz.prog 160 #[.int .i64 i,.pointer (some ⟨kv,0,none⟩),.pointer (some ⟨wk,0,none⟩)] w (Tp N A g n cap G d s line.data.toList K kv wk bP bL f2 w):=by
 have hG:=h.ib w (Below.refl _ _);have hi:i<12:=by have:=az hs;have:=hG.few;have:=hG.len;omega
 obtain ⟨m,hM,hm⟩:=hR.map.2
 cases hf:f2 i with
 | some v=>
  obtain ⟨s',Gr,fr,e1,rfl,e3,e4,e5⟩:=hR.rows i v hf;rw[hs]at e1;cases e1;refine (Lz K kv wk m f2 i (by omega) (some ⟨Gr,0,none⟩) _ _ w hR.pR.1 hM hf).mono ?_;rintro e w' ⟨rfl,rfl⟩;exact ⟨Gr,fr,A,f,F,f2,rfl,e4,e5,aM.refl _ _,λk hk=>.inl hk,λk hk=>hk,h,hR,⟨i,hf⟩,λ_ _ h=>.inl h⟩
 | none=>
  refine (Hg K kv wk m f2 i (by omega) #[.pointer (some ⟨bP,0,none⟩),.pointer (some ⟨bL,0,none⟩)] (λv w1=>nW N A g n cap G d s line.data.toList w (.returned v) w1) w hR.pR.1 hR.uD.1 hM (by have:=xk f2;omega) hf ((Er N A g n cap G d f F i s line bP bL w h hs hl hz Mj Pg).mono ?_)).mono ?_
  ·rintro e w1 hp;obtain ⟨Gr,fr,A',f',F',rfl,h1,h2,h3,h4,h5,h6⟩:=id hp;exact ⟨_,_,_,rfl,h5.same hR.pR.1 hR.pR.2,h5.keep _ ⟨hM.lt,hR.map.1.2⟩,hp⟩
  ·rintro e w2 ⟨ao,n',cp,w1,rfl,⟨Gr,fr,A',f',F',hv,h1,h2,h3,h4,h5,h6,h7,h8⟩,C2,hg⟩;cases hv;have J4:w1.heap[K]?=w.heap[K]?:=h5.keep _ ⟨hM.lt,hR.map.1.2⟩;obtain ⟨es,lQ,QO⟩:=hM.obj;have Qg:=J4.trans QO
   have BR:aM (λk=>k=K) w1 w2:=⟨hg.os,hg.tape,hg.output,hg.size,λk hk=>hg.block k hk.1 (λe=>hk.2 (Option.some.inj e)),λk c t _ hh=>(hg.block k (ae hh) (λe=>by cases e;rw[Qg]at hh;cases hh)).trans hh⟩;have hKA:¬A' K:=λha=>(h6 K ha).elim hR.map.1.2 (λh=>by have:=hM.lt;omega)
   have hGK:Gr≠K:=λe=>by rw[e,Qg]at h2;cases h2
   have XM:=BR.same h2 hGK;have uu:=hR.off (A':=A') h5 (λk hk _=>.inl hk) h6;have hkK:kv≠K:=λe=>by have:=uu.pR.1;rw[e,Qg]at this;cases this
   have hwK:wk≠K:=λe=>by have:=uu.uD.1;rw[e,Qg]at this;cases this
   refine ⟨Gr,fr,A',f',F',_,rfl,XM,h4,(h5.sub λk _ hk=>.inl hk).then BR (λk _ hk=>.inr hk),h6,h7,h8.off BR (λk hk=>by subst hk;exact ⟨hR.map.1.1,hKA⟩),⟨⟨BR.same uu.pR.1 hkK,uu.pR.2⟩,⟨BR.same uu.uD.1 hwK,uu.uD.2⟩,⟨⟨hR.map.1.1,hKA⟩,m+1,C2,by rw[tO hi hf];omega⟩,λi' v' hi'=>?_⟩,⟨i,by simp⟩,λi' v' hi'=>?_⟩
   ·by_cases sy:i'=i
    ·subst sy;simp only[if_true]at hi';cases hi';exact ⟨s,Gr,fr,hs,rfl,h3,XM,h4⟩
    simp only[if_neg sy]at hi';obtain ⟨s',Gr',fr',a1,a2,a3,a4,a5⟩:=uu.rows i' v' hi';exact ⟨s',Gr',fr',a1,a2,a3,BR.same a4 (λe=>by rw[e,Qg]at a4;cases a4),a5⟩
   ·by_cases sy:i'=i
    ·subst sy;simp only[if_true]at hi';cases hi';exact .inr (λk hk=>by cases hk;exact h1)
    ·simp only[if_neg sy]at hi';exact .inl hi'
structure Sp where
 fr:Nat
 to:Nat
 nm:ByteArray
 jL:Nat
 co:ByteArray
def Sp.v(x:Sp):Value:=Qo x.fr x.to x.nm x.jL x.co
structure mY(rs:List GR)(T:List UInt8)(at_ p k:Nat)(r:GR)(e:Nat):Prop where
 le:at_<=p
 lt:p<T.length
 rule:rs[k]?=some r
 from_:From r.a.re T p
 first:∀(k':Nat) (r':GR),k'<k->rs[k']?=some r'->¬From r'.a.re T p
 least:∀p',at_<=p'->p'<p->∀(k':Nat) (r':GR),rs[k']?=some r'->¬From r'.a.re T p'
 long:Bl r.a.re T p e
def Es(rs:List GR)(T:List UInt8)(at_:Nat):Prop:=∀p,at_<=p->p<T.length->∀(k:Nat) (r:GR),rs[k]?=some r->¬From r.a.re T p
def ig(at_ p:Nat)(nm:ByteArray)(jL:Nat):List Sp:=if at_<p then [⟨at_,p,nm,jL,⟨#[]⟩⟩] else []
inductive Path(G:List GS)(T:List UInt8)(st0:List Nat):Nat->List Nat->List Sp->Prop where
 | start:Path G T st0 0 st0 []
 | hit {at_:Nat} {st:List Nat} {pre:List Sp} {top:Nat} {s:GS} {p k:Nat} {r:GR} {e:Nat}:Path G T st0 at_ st pre->at_<T.length->st[st.length - 1]?=some top->G[top]?=some s->mY s.rs T at_ p k r e->Path G T st0 e (nM r.k r.op st) (pre++ig at_ p s.nm st.length++[⟨p,e,s.nm,st.length,r.co⟩])
def uE(G:List GS)(T:List UInt8)(st0:List Nat)(bh:List Sp)(st:List Nat):Prop:=
 Path G T st0 T.length st bh∨∃at_ pre top s,Path G T st0 at_ st pre/\at_<T.length/\st[st.length - 1]?=some top/\G[top]?=some s/\Es s.rs T at_/\bh=pre++[⟨at_,T.length,s.nm,st.length,⟨#[]⟩⟩]
def Good(G:List GS)(st:List Nat):Prop:=(1<=st.length/\st.length<=8)/\∀x∈st,x<G.length
def yq(G:List GS):Prop:=∀s∈G,∀r∈s.rs,r.a.re.au=false/\(r.k=1->r.op<G.length)
theorem Good.top(h:Good G st):∃top s,st[st.length - 1]?=some top/\G[top]?=some s:=by
 obtain ⟨⟨h1,h2⟩,h3⟩:=h;have hlt:st.length - 1<st.length:=by omega
 exact ⟨st[st.length - 1],_,cB hlt,cB (h3 _ (List.getElem_mem hlt))⟩
theorem Good.nM{op:Nat}(h:Good G st)(ho:k=1->op<G.length):Good G (nM k op st):=by
 obtain ⟨⟨h1,h2⟩,h3⟩:=h;obtain ⟨a,b⟩:=wN (k:=k) (op:=op) h2 h1;refine ⟨⟨b,a⟩,λx hx=>?_⟩;unfold Go.Proofs.YtgncgdkpkkdaeaaGreatDoor.nM at hx;split at hx
 ·rename_i hk;rcases List.mem_append.1 hx with hx|hx
  ·exact h3 x hx
  ·rw[List.mem_singleton.1 hx];exact ho hk.1
 ·split at hx
  ·exact h3 x (List.dropLast_subset _ hx)
  ·exact h3 x hx
theorem mY.gt{e:Nat}(h:mY rs T at_ p k r e)(hn:r.a.re.au=false):p<e/\e<=T.length:=by
 obtain ⟨h1,h2,h3,h4⟩:=h.long;refine ⟨?_,h2⟩;obtain ⟨j,a1,a2,a3⟩:=h.from_;rcases ed p e with h5|h5
 ·exact h5
 ·have he:e=p:=by omega
  subst he;rcases ed e j with h6|h6
  ·exact absurd a3 (h4 j h6 a2)
  ·have:j=e:=by omega
   subst this;rw[gu]at a3;rw[(mj _).1 a3]at hn;cases hn
theorem Pj(hd:gC rs T 0 T.length fr)(hn:A6 fr at_ p):(p=T.length/\Es rs T at_)∨(p<T.length/\∃(k:Nat) (r:GR),fr[p]?=some (k:Int)/\rs[k]?=some r/\From r.a.re T p/\(∀(k':Nat) (r':GR),k'<k->rs[k']?=some r'->¬From r'.a.re T p)/\∀p',at_<=p'->p'<p->∀(k':Nat) (r':GR),rs[k']?=some r'->¬From r'.a.re T p'):=by
 obtain ⟨n1,n2,n3,n4⟩:=hn
 have hno:∀p',at_<=p'->p'<p->∀(k':Nat) (r':GR),rs[k']?=some r'->¬From r'.a.re T p':=λp' h1 h2 k' r' hr=>by
  rcases hd.2 p' _ (n3 p' h1 h2) with ⟨_,h3⟩|⟨k,_,h3,_⟩
  ·exact h3 k' r' (Nat.zero_le _) hr
  ·omega
 rcases ed p T.length with h|h
 ·refine .inr ⟨h,?_⟩;have hlt:p<fr.length:=by rw[hd.1];exact h
  obtain ⟨z,hz⟩:∃z,fr[p]?=some z:=⟨_,cB hlt⟩;rcases hd.2 p z hz with ⟨rfl,_⟩|⟨k,r,rfl,_,h4,h5,h6⟩
  ·exact absurd hz (n4 hlt)
  ·exact ⟨k,r,hz,h4,h5,λk' r' hk hr=>h6 k' r' (Nat.zero_le _) hk hr,hno⟩
 ·rw[hd.1]at n2;exact .inl ⟨by omega,λp' h1 h2=>hno p' h1 (by omega)⟩
structure SP(N:Nat)(A0:Nat->Prop)(w0 g n cap:Nat)(G:List GS)(d:PD)(line:ByteArray)(K kv wk bP bL bS:Nat)(A1:Nat->Prop)(f1:Nat->Option Value)(F1:Nat->List FD)(f2:Nat->Option Value)(st:List Nat)(Cl:Nat->Prop)(W:World):Prop where
 p:aJ W N A1 g n cap G d f1 F1
 sub:∀k,A1 k->A0 k∨w0<=k
 r:pM W N A1 G line.data.toList K kv wk bP bL f2
 bp:W.heap[bP]?=some (.cells #[.slice (some ⟨g,0,none⟩) n cap,jx d] 171 (0,0))/\bP<w0/\¬A1 bP
 bl:W.heap[bL]?=some (.cells #[.string line] 9 (0,0))/\bL<w0/\¬A1 bL
 bs:W.heap[bS]?=some (.cells (aL st).toArray 138 (0,0))/\w0<=bS/\¬A1 bS
 kb:kz K kv wk f2 bS
 new:w0<=K/\w0<=kv/\w0<=wk/\∀i v,f2 i=some v->∀k,v.ownBlock=some k->w0<=k
 size:w0<=W.heap.size/\N<=w0
 cl:∀k,Cl k->(k<W.heap.size/\N<=k/\¬A1 k/\k≠bP/\k≠bL/\k≠bS)/\kz K kv wk f2 k
section
variable {N:Nat} {A0:Nat->Prop} {w0 g n cap:Nat} {G:List GS} {d:PD} {line:ByteArray} {K kv wk bP bL bS:Nat} {A1:Nat->Prop} {f1:Nat->Option Value} {F1:Nat->List FD} {f2:Nat->Option Value} {st:List Nat} {Cl:Nat->Prop} {W W':World}
theorem SP.lt(h:SP N A0 w0 g n cap G d line K kv wk bP bL bS A1 f1 F1 f2 st Cl W)(hk:W.heap.size<=k):(N<=k/\¬A1 k/\k≠bP/\k≠bL/\k≠bS)/\kz K kv wk f2 k:=by
 have h1:=h.size;have h2:=ae h.bp.1;have h3:=ae h.bl.1;have h4:=ae h.bs.1;have h5:=ae h.r.pR.1;have h6:=ae h.r.uD.1;obtain ⟨m,hm,_⟩:=h.r.map.2;have h7:=hm.lt;refine ⟨⟨by omega,λha=>by have:=(h.p.old k ha).2;omega,by omega,by omega,by omega⟩,by omega,by omega,by omega,λi v hi e=>?_⟩;obtain ⟨s,Gr,fr,_,rfl,_,e4,_⟩:=h.r.rows i v hi
 have:=ae e4;rw[LP]at e;cases e;omega
theorem SP.round{xq:Nat->Prop}(h:SP N A0 w0 g n cap G d line K kv wk bP bL bS A1 f1 F1 f2 st Cl W)(ho:aM Cl W W')(hc:∀k,xq k->k<W'.heap.size/\(Cl k∨W.heap.size<=k)):SP N A0 w0 g n cap G d line K kv wk bP bL bS A1 f1 F1 f2 st xq W':=by
 refine ⟨h.p.off ho (λk hk=>⟨(h.cl k hk).1.2.1,(h.cl k hk).1.2.2.1⟩),h.sub,h.r.off ho (λk hk _=>.inr (h.cl k hk).2) (λk hk=>.inl hk),⟨ho.same h.bp.1 (λe=>(h.cl _ e).1.2.2.2.1 rfl),h.bp.2⟩,⟨ho.same h.bl.1 (λe=>(h.cl _ e).1.2.2.2.2.1 rfl),h.bl.2⟩,⟨ho.same h.bs.1 (λe=>(h.cl _ e).1.2.2.2.2.2 rfl),h.bs.2⟩,h.kb,h.new,⟨bJ h.size.1 ho.size,h.size.2⟩,λk hk=>?_⟩
 obtain ⟨h1,h2|h2⟩:=hc k hk
 ·exact ⟨⟨h1,(h.cl k h2).1.2⟩,(h.cl k h2).2⟩
 ·exact ⟨⟨h1,(h.lt h2).1⟩,(h.lt h2).2⟩
theorem SP.work(h:SP N A0 w0 g n cap G d line K kv wk bP bL bS A1 f1 F1 f2 st Cl W)(ho:aM A1 W W')(hs:∀k,A' k->A1 k∨W.heap.size<=k)(hp:aJ W' N A' g n cap G d f' F'):SP N A0 w0 g n cap G d line K kv wk bP bL bS A' f' F' f2 st Cl W':=by
 have hn:∀k,k<W.heap.size->¬A1 k->¬A' k:=λk h1 h2 h3=>(hs k h3).elim h2 (λh4=>by omega)
 exact ⟨hp,λk hk=>(hs k hk).elim (h.sub k) (λh4=>.inr (bJ h.size.1 h4)),h.r.off ho (λk hk _=>.inl hk) hs,⟨ho.same h.bp.1 h.bp.2.2,h.bp.2.1,hn _ (ae h.bp.1) h.bp.2.2⟩,⟨ho.same h.bl.1 h.bl.2.2,h.bl.2.1,hn _ (ae h.bl.1) h.bl.2.2⟩,⟨ho.same h.bs.1 h.bs.2.2,h.bs.2.1,hn _ (ae h.bs.1) h.bs.2.2⟩,h.kb,h.new,⟨bJ h.size.1 ho.size,h.size.2⟩,λk hk=>⟨⟨dw (h.cl k hk).1.1 ho.size,(h.cl k hk).1.2.1,hn _ (h.cl k hk).1.1 (h.cl k hk).1.2.2.1,(h.cl k hk).1.2.2.2⟩,(h.cl k hk).2⟩⟩
theorem SP.below(h:SP N A0 w0 g n cap G d line K kv wk bP bL bS A1 f1 F1 f2 st Cl W)(hb:Below W.heap.size W W'):SP N A0 w0 g n cap G d line K kv wk bP bL bS A1 f1 F1 f2 st Cl W':=
 h.work (aM.ay hb) (λ_ hk=>.inl hk) (h.p.below hb)
theorem SP.row{IY:Nat->Option Value}(h:SP N A0 w0 g n cap G d line K kv wk bP bL bS A1 f1 F1 f2 st Cl W)(ho:aM (λk=>A1 k∨k=K) W W')(hs:∀k,A' k->A1 k∨W.heap.size<=k)(hp:aJ W' N A' g n cap G d f' F')(hr:pM W' N A' G line.data.toList K kv wk bP bL IY)(hf:∀i v,IY i=some v->f2 i=some v∨∀k,v.ownBlock=some k->W.heap.size<=k):SP N A0 w0 g n cap G d line K kv wk bP bL bS A' f' F' IY st Cl W':=by
 have hn:∀k,k<W.heap.size->¬A1 k->¬A' k:=λk h1 h2 h3=>(hs k h3).elim h2 (λh4=>by omega)
 have hK:∀k,k<w0->k≠K:=λk hk e=>by have:=h.new.1;omega
 have gh:∀k,k<W.heap.size->kz K kv wk f2 k->kz K kv wk IY k:=λk hk hr=>⟨hr.1,hr.2.1,hr.2.2.1,λi v hi e=>by
  rcases hf i v hi with h1|h1
  ·exact hr.2.2.2 i v h1 e
  ·have:=h1 _ e;omega⟩
 refine ⟨hp,λk hk=>(hs k hk).elim (h.sub k) (λh4=>.inr (bJ h.size.1 h4)),hr,⟨ho.same h.bp.1 (λe=>e.elim h.bp.2.2 (hK _ h.bp.2.1)),h.bp.2.1,hn _ (ae h.bp.1) h.bp.2.2⟩,⟨ho.same h.bl.1 (λe=>e.elim h.bl.2.2 (hK _ h.bl.2.1)),h.bl.2.1,hn _ (ae h.bl.1) h.bl.2.2⟩,⟨ho.same h.bs.1 (λe=>e.elim h.bs.2.2 h.kb.1),h.bs.2.1,hn _ (ae h.bs.1) h.bs.2.2⟩,gh _ (ae h.bs.1) h.kb,⟨h.new.1,h.new.2.1,h.new.2.2.1,λi v hi k hk=>?_⟩,⟨bJ h.size.1 ho.size,h.size.2⟩,λk hk=>⟨⟨dw (h.cl k hk).1.1 ho.size,(h.cl k hk).1.2.1,hn _ (h.cl k hk).1.1 (h.cl k hk).1.2.2.1,(h.cl k hk).1.2.2.2⟩,gh _ (h.cl k hk).1.1 (h.cl k hk).2⟩⟩
 rcases hf i v hi with h1|h1
 ·exact h.new.2.2.2 i v h1 k hk
 ·exact bJ h.size.1 (h1 k hk)
theorem SP.SH{st':List Nat}(h:SP N A0 w0 g n cap G d line K kv wk bP bL bS A1 f1 F1 f2 st Cl W)(ho:aM (λk=>k=bS) W W')(hb:W'.heap[bS]?=some (.cells (aL st').toArray 138 (0,0))):SP N A0 w0 g n cap G d line K kv wk bP bL bS A1 f1 F1 f2 st' Cl W':=by
 have hs:=h.bs.2.1
 exact ⟨h.p.off ho (λk hk=>by subst hk;exact ⟨bJ h.size.2 hs,h.bs.2.2⟩),h.sub,h.r.off ho (λk hk _=>by subst hk;exact .inr h.kb) (λk hk=>.inl hk),⟨ho.same h.bp.1 (λe=>by have:=h.bp.2.1;omega),h.bp.2⟩,⟨ho.same h.bl.1 (λe=>by have:=h.bl.2.1;omega),h.bl.2⟩,⟨hb,h.bs.2⟩,h.kb,h.new,⟨bJ h.size.1 ho.size,h.size.2⟩,λk hk=>⟨⟨dw (h.cl k hk).1.1 ho.size,(h.cl k hk).1.2⟩,(h.cl k hk).2⟩⟩
end
end Go.Proofs.YtgncgdkpkkdaeaaGreatDoor
