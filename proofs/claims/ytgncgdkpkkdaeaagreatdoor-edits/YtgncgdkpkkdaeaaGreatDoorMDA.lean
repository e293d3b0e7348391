import Derived.Test.YtgncgdkpkkdaeaaGreatDoorM7
import Derived.Lib.AppendZerosOnto
import Derived.Test.YtgncgdkpkkdaeaaGreatDoorMX
import Derived.Test.YtgncgdkpkkdaeaaGreatDoorSh3
import Derived.Deep.CutRange
namespace Go.Proofs.YtgncgdkpkkdaeaaGreatDoor
open Go.RowKit aO Go.Maps Go.Shelf
theorem pI:(Tryz.prog.info? 151).map (λi=>(i.zero,i.size,i.bytes))=some (some (.agg #[.int .i64 0,.int .i64 0,.int .i64 0,.int .i64 0,.int .i64 0,.int .i64 0,.int .i64 0,.int .i64 0,.int .i64 0,.slice none 0 0]),10,96):=by kernel_rfl
def BU(w:World)(e:Ending)(w':World):Prop:=∃ao c,e=.returned (.slice ao 0 c)/\w'.ownsRow w.heap.size 151 10 (.slice ao 0 c) 0 []/\Below w.heap.size w w'
set_option maxRecDepth 20000 in
set_option maxHeartbeats 1000000 in
theorem ME(n:Nat)(hn:n<=1000000)(hp:0<n)(w:World):Calls Tryz.prog 137 #[.slice none 0 0,.int .i64 n] w (BU w):=by
 obtain ⟨i0,tX,hz0,hs0,hb0⟩:=info_parts pI;have g0:decide ((n:Int)<0)=false:=decide_eq_false (by omega);have g1:decide ((0:Int)<(n:Int))=true:=decide_eq_true (by omega);have hwn:IntKind.i64.wrap ((n:Int) - 0)=(n:Int):=by rw[IntKind.wrap_i64];omega
 obtain ⟨G,hG⟩:∃G,G=grownCap w n 0 151:=⟨_,rfl⟩;have hGn:n<=G:=by rw[hG];exact grownCap_ge w _ _ _
 have hGm:G<=maxLen:=by rw[hG];exact grownCap_le_maxLen w n 0 _ (by unfold maxLen;omega)
 obtain ⟨cz,G0⟩:∃cz,cz=(([]:List Value).toArray++Builtin.zeroCells (Value.agg #[.int .i64 0,.int .i64 0,.int .i64 0,.int .i64 0,.int .i64 0,.int .i64 0,.int .i64 0,.int .i64 0,.int .i64 0,.slice none 0 0]).cells n++Builtin.zeroCells (Value.agg #[.int .i64 0,.int .i64 0,.int .i64 0,.int .i64 0,.int .i64 0,.int .i64 0,.int .i64 0,.int .i64 0,.int .i64 0,.slice none 0 0]).cells (G - n)):=⟨_,rfl⟩
 have hsz:cz.size=G*10:=by rw[G0];have hzs:(Value.agg #[.int .i64 0,.int .i64 0,.int .i64 0,.int .i64 0,.int .i64 0,.int .i64 0,.int .i64 0,.int .i64 0,.int .i64 0,.slice none 0 0]).cells.size=10:=rfl;simp only[Array.size_append,List.size_toArray,size_zeroCells,hzs,List.length_nil];omega
 have IQ:∀ty,(Builtin.append_ #[132,3] ty #[.slice none 0 0,.int .i64 (n:Int)]).run Tryz.prog w=.ok (.slice (some ⟨w.heap.size,0,none⟩) n G) (w.drew.alloc (.cells cz 151)):=λty=>by
  have h:=Lib.run_append_grow_zeros w 132 3 ty 151 i0 _ .i64 .i64 Tryz.underlying132 Tryz.underlying3 tX hz0 none 0 0 [] (run_firstCells_none w.drew i0.size 0 0 0) n hp (by omega) (by omega) (by omega) (by rw[hb0];omega) (by rw[hb0,Nat.zero_add];exact growslice_fits hp (by omega));rw[Nat.zero_add,<-hG,<-G0]at h;exact h
 have ai:=aa (show BU w (.returned (.slice (some ⟨w.heap.size,0,none⟩) 0 G)) (w.drew.alloc (.cells cz 151)) from
  ⟨_,_,rfl,⟨rfl,.inr ⟨w.heap.size,G,cz,rfl,Nat.le_refl _,af w.drew _,Nat.zero_le _,hGm,hsz,rfl⟩⟩,((Below.refl _ _).drew).alloc (Nat.le_refl _) _⟩)
 clear hG G0 hsz;go_enter Tryz.func137,Tryz.ntmps137;go_wp2_with (at_builtin;refine Lib.wpList_append_run _ rfl _ _ _ _ rfl _ _ rfl rfl _ _ (IQ _) ?_)
 all_goals (go_ret;exact ai.out)
structure Src where
 ad:Addr
 n:Nat
 c:Nat
 xs:List Value
def rW(w:World)(s:Src):Prop:=s.xs.length=s.n*10/\(∀(y:Nat) u,s.xs[y]?=some u->w.cell? (s.ad.add y)=some u)/\∀u∈s.xs,u.oneCell'=true
variable {s:Src}
theorem rW.below{w w':World}(h:rW w s)(hb:Below w.heap.size w w'):rW w' s:=⟨h.1,λy u hu=>ax (h.2.1 y u hu) hb,h.2.2⟩
def kX(l:List Src):Nat:=(l.map Src.n).sum
theorem xR{l:List Src}{j:Nat}(h:l[j]?=some s):kX (l.take (j+1))=kX (l.take j)+s.n:=by unfold kX;rw[List.take_add_one,h];simp
theorem G1(l:List Src)(j:Nat):kX (l.take j)<=kX l:=by
 unfold kX
 conv=>rhs;rw[<-List.take_append_drop j l]
 rw[List.map_append,List.sum_append];omega
def G3(l:List Src)(w:World)(e:Ending)(w':World):Prop:=∃v,e=.returned v/\w'.ownsRow w.heap.size 151 10 v (kX l) (l.flatMap Src.xs)/\Below w.heap.size w w'
def MF(l:List Src)(w:World)(k:Nat)(vn vi:Value)(wr:World):Prop:=∃j m:Nat,vi=.int .i64 j/\vn=.int .i64 m/\m=kX (l.take j)/\j+k=l.length/\wr=w
def BV(l:List Src)(w:World)(k:Nat)(vn vi:Value)(wr:World):Prop:=∃(j m:Nat) (ao:Option Addr) (c:Nat),vi=.int .i64 j/\vn=.slice ao m c/\m=kX (l.take j)/\j+k=l.length/\wr.ownsRow w.heap.size 151 10 (.slice ao m c) m ((l.take j).flatMap Src.xs)/\Below w.heap.size w wr
set_option maxRecDepth 20000 in
set_option maxHeartbeats 1000000 in
theorem EC(bk c:Nat)(l:List Src)(w:World)(hl:l.length<=10)(hp:0<kX l)(hs:kX l<=1000000)(hc:∀(j:Nat) s,l[j]?=some s->w.cell? ⟨bk,j,none⟩=some (.slice (some s.ad) s.n s.c)/\rW w s):
  Calls Tryz.prog 99 #[.slice (some ⟨bk,0,none⟩) l.length c] w (G3 l w):=by
 have HC:=aa hc;obtain ⟨nl,fq⟩:∃nl,nl=l.length:=⟨_,rfl⟩;rw[<-fq]at hl ⊢;have sR:=aa fq;clear hc fq;go_enter Tryz.func99,Tryz.ntmps99;go_wp2_with fail;go_loopg [3,11] nl (λk vn vi wr=>MF l w k vn vi wr)
 case atStart=>exact ⟨0,0,rfl,rfl,rfl,by rw[<-sR.out];omega,rfl⟩
 case round=>
  obtain ⟨j,m,rfl,rfl,hm,hk,rfl⟩:=hrel;rw[<-sR.out]at hk;by_cases hlt:j<nl
  ·have g1:decide ((j:Int)<(nl:Int))=true:=decide_eq_true (by omega);have hwr:IntKind.i64.wrap ((j:Int)+1)=(j:Int)+1:=by rw[IntKind.wrap_i64];omega
   obtain ⟨s,hsj⟩:∃s,l[j]?=some s:=⟨_,List.getElem?_eq_getElem (by rw[<-sR.out];exact hlt)⟩;have c1:=(HC.out j s hsj).1;have hst:=xR hsj;have hle:=G1 l (j+1);have SN:IntKind.i64.wrap ((m:Int)+(s.n:Int))=(m:Int)+(s.n:Int):=by rw[IntKind.wrap_i64];omega
   have g2:decide ((m:Int)+(s.n:Int)<0)=false:=decide_eq_false (by omega);have HST:=aa (show m+s.n=kX (l.take (j+1)) by omega);clear hst hle hm hsj;go_wp2_with fail;go_roundg (nl - (j+1))
   case measure=>omega
   case rel=>exact ⟨j+1,m+s.n,by simp,by simp,HST.out,by rw[<-sR.out];omega,rfl⟩
  ·have g1:decide ((j:Int)<(nl:Int))=false:=decide_eq_false (by omega);have ED:m=kX l:=by rw[hm,List.take_of_length_le (by have:=sR.out;omega)]
   obtain ⟨w0,hw0⟩:∃w0,w0=wr:=⟨_,rfl⟩;subst hw0;rw[<-ED]at hp hs;have Yp:=aa (ME m hs hp w0);have HM:=aa ED;clear hm ED;go_wp2_with fail;refine Yp.out.mono ?_;rintro e w1 ⟨UB,c1,rfl,uM,hb1⟩;have PH:=aa uM;have bA:=aa hb1;obtain ⟨i0,tX,hz0,hs0,abe⟩:=info_parts pI;clear uM hb1 Yp;go_wp2_with fail
   go_loopg [6,27] nl (λk vn vi wr=>BV l w0 k vn vi wr)
   case atStart=>exact ⟨0,0,UB,c1,rfl,rfl,rfl,by rw[<-sR.out];omega,PH.out,bA.out⟩
   case round=>
    obtain ⟨j2,m2,ao,cp,rfl,rfl,QE,hk2,hrow,hb⟩:=hrel;rw[<-sR.out]at hk2;by_cases iD:j2<nl
    ·have g3:decide ((j2:Int)<(nl:Int))=true:=decide_eq_true (by omega);have hwr:IntKind.i64.wrap ((j2:Int)+1)=(j2:Int)+1:=by rw[IntKind.wrap_i64];omega
     obtain ⟨s,hsj⟩:∃s,l[j2]?=some s:=⟨_,List.getElem?_eq_getElem (by rw[<-sR.out];exact iD)⟩;have cs:=ax (HC.out j2 s hsj).1 hb;have Yq:=(HC.out j2 s hsj).2.below hb;have hst:=xR hsj;have hle:=G1 l (j2+1);have ED:=HM.out;have hbz:m2+s.n<=1000000:=by omega
     have hbase:w0.heap.size<=wr.heap.size:=hb.size;have ba:=aa hrow;have QF:=aa Yq
     have eM:=aa (λ(v':Value) (W:World) (hr:W.ownsRow w0.heap.size 151 10 v' (m2+s.n) ((l.take j2).flatMap Src.xs++s.xs)) (hg:wr.grownBy W (Value.slice ao m2 cp).ownBlock)=>show BV l w0 (nl - (j2+1)) v' (.int .i64 ((j2:Int)+1)) W from by
      obtain ⟨px,c',hv'⟩:=aC hr;subst hv';refine ⟨j2+1,m2+s.n,px,c',by simp,rfl,by omega,by rw[<-sR.out];omega,?_,?_⟩
      ·rw[List.take_add_one,hsj,List.flatMap_append];simpa using hr
      ·exact hb.trans ⟨hg.os,hg.tape,hg.output,hg.size,λk hk=>hg.block k (Nat.lt_of_lt_of_le hk hb.size) (λe=>by have:=(aj ba.out e.symm).1;omega)⟩)
     clear hrow hb Yq hst hle ED QE hsj
     go_wp2_with (at_builtin;go_loud (refine wpList_append_own_at _ rfl (.tmp 31) (.tmp 32) 132 rfl w0.heap.size 151 i0 _ 10 96 Tryz.underlying132 tX hz0 hs0 abe rfl (by decide) (.slice ao m2 cp) m2 ((l.take j2).flatMap Src.xs) (by rfl) ba.out s.ad s.n s.c s.xs (by rfl) QF.out.1 QF.out.2.1 QF.out.2.2 (by unfold maxLen;omega) (by omega) hbase ?_;intro v' W hown hg _ _;have HST:=aa (eM.out v' W hown hg);obtain ⟨px,c',hv'⟩:=aC hown;subst hv';clear hown hg eM ba QF))
     go_wp2_with fail;go_roundg (nl - (j2+1))
     case measure=>omega
     case rel=>exact HST.out
    ·have g3:decide ((j2:Int)<(nl:Int))=false:=decide_eq_false (by omega);have ai:=aa (show G3 l w0 (.returned (.slice ao m2 cp)) wr from ⟨_,rfl,by have e:=sR.out;rw[List.take_of_length_le (by omega)]at QE hrow;rw[<-QE];exact hrow,hb⟩);clear hrow hb QE;go_wp2_with fail;go_ret;exact ai.out
end Go.Proofs.YtgncgdkpkkdaeaaGreatDoor
namespace Go.Proofs.YtgncgdkpkkdaeaaGreatDoor
open Go.RowKit aO Go.Maps
variable {ls:List (List Nat×List Sp)} {G:List GS} {A:List UInt8} {b k:Nat}
theorem EE(p q:List UInt8):aB (p++10::q)=aB p++aB q:=by
 induction p with
 | nil=>simp[aB]
 | cons x t ih=>
  rw[List.cons_append,aB,aB,ih];by_cases h:x=10
  ·rw[if_pos h,if_pos h,List.cons_append]
  ·rw[if_neg h,if_neg h]
   cases hs:aB t with
   | nil=>exact absurd hs (ik t)
   | cons l ls=>rfl
theorem nP(U R:List UInt8):(aB (U++R)).drop (1+U.count 10)=(aB R).tail:=by
 induction U with
 | nil=>simp
 | cons x t ih=>
  rw[List.cons_append,aB];by_cases h:x=10
  ·rw[if_pos h,h,List.count_cons_self,show 1+(List.count 10 t+1)=(1+List.count 10 t)+1 by omega,List.drop_succ_cons,ih]
  ·rw[if_neg h,List.count_cons_of_ne (by simpa using h)];rw[show 1+List.count 10 t=List.count 10 t+1 by omega]at ih ⊢
   cases hs:aB (t++R) with
   | nil=>exact absurd hs (ik _)
   | cons l ls=>
    rw[hs,List.drop_succ_cons]at ih;show List.drop (List.count 10 t+1) ((x::l)::ls)=_;rw[List.drop_succ_cons,ih]
def UC(A:List UInt8)(k:Nat):Prop:=k<=A.length/\(10:UInt8)∉A.drop k/\(k=0∨∃p,A.take k=p++[10])
theorem zv(h:UC A k):∃xs,xs.length=A.count 10/\∀b,aB (A++b)=xs++aB (A.drop k++b):=by
 obtain ⟨h1,h2,rfl|⟨p,hp⟩⟩:=h
 ·exact ⟨[],by rw[List.count_eq_zero.2 (by simpa using h2)];rfl,λb=>by simp⟩
 ·have hA:A=p++10::A.drop k:=by have:=List.take_append_drop k A;rw[hp]at this;simpa using this.symm
  refine ⟨aB p,?_,λb=>?_⟩
  ·have h3:A.count 10=p.count 10+((A.drop k).count 10+1):=by
    conv=>lhs;rw[hA]
    rw[List.count_append,List.count_cons_self]
   rw[aS,h3,List.count_eq_zero.2 h2];omega
  ·have:A++b=p++10::(A.drop k++b):=by rw[<-List.cons_append,<-List.append_assoc,<-hA]
   rw[this,EE]
theorem dz.at{st:List Nat}{ls:List (List UInt8)}{out:List (List Nat×List Sp)}{st':List Nat}(h:dz G st ls out st'):∀{k:Nat} {x:List Nat×List Sp},out[k]?=some x->dz G st (ls.take k) (out.take k) x.1/\dz G x.1 (ls.drop k) (out.drop k) st':=by
 induction h with
 | nil=>intro k x hx;simp at hx
 | cons a b ih=>
  intro k x hx
  cases k with
  | zero=>simp at hx;subst hx;exact ⟨.nil,.cons a b⟩
  | succ k=>
   simp only[List.getElem?_cons_succ]at hx;exact ⟨.cons a (ih hx).1,(ih hx).2⟩
theorem dz.UD{O R P:List UInt8}(hk:UC A k){s0:List Nat}{sE:List Nat}(h:dz G s0 (aB (A++O++R)) ls sE){x:List Nat×List Sp}(hx:ls[A.count 10]?=some x)
  {anew:List (List Nat×List Sp)} {st:List Nat} (ha:dz G x.1 ((aB (A.drop k++P++R)).take anew.length) anew st)
  (MG:anew.length=(aB (A.drop k++P++R)).length∨(1+P.count 10<=anew.length/\((ls.drop (A.count 10+O.count 10+1)).map (·.1))[anew.length - (1+P.count 10)]?=some st)):
  ∃sF,dz G s0 (aB (A++P++R)) (ls.take (A.count 10)++anew++(ls.drop (A.count 10+O.count 10+1)).drop (anew.length - (1+P.count 10))) sF:=by
 obtain ⟨xs,Yr,hsp⟩:=zv hk;have Ys:(A.drop k).count 10=0:=List.count_eq_zero.2 hk.2.1;have hlen:=h.length;rw[aS]at hlen;simp only[List.count_append]at hlen;have h1:=(h.at hx).1;rw[List.append_assoc,hsp,List.take_left' Yr]at h1;have hw:(aB (A.drop k++P++R)).length=1+P.count 10+R.count 10:=by rw[aS];simp only[List.count_append,Ys];omega
 have MH:aB (A++P++R)=xs++aB (A.drop k++P++R):=by rw[List.append_assoc,hsp,<-List.append_assoc]
 rcases MG with he|⟨ht,hs⟩
 ·refine ⟨st,?_⟩;rw[he,List.take_length]at ha;rw[List.drop_drop,List.drop_of_length_le (by omega),List.append_nil,MH];exact h1.append ha
 ·obtain ⟨m,hm⟩:∃m,anew.length=1+P.count 10+m:=⟨anew.length - (1+P.count 10),by omega⟩;rw[hm,Nat.add_sub_cancel_left]at hs ⊢;rw[List.getElem?_map]at hs
  cases hy:(ls.drop (A.count 10+O.count 10+1))[m]? with
  | none=>rw[hy]at hs;simp at hs
  | some y=>
   rw[hy]at hs;simp only[Option.map_some,Option.some.injEq]at hs;rw[List.getElem?_drop]at hy;have h2:=(h.at hy).2;rw[hs,<-List.drop_drop,show A.count 10+O.count 10+1=1+(A++O).count 10 by rw[List.count_append];omega,nP,<-List.drop_drop]at h2;refine ⟨sE,?_⟩
   have hd:(aB (A.drop k++P++R)).drop anew.length=(aB R).tail.drop m:=by have:=nP (A.drop k++P) R;rw[hm,<-List.drop_drop,<-this];congr 2;simp only[List.count_append,Ys];omega
   rw[MH,<-List.take_append_drop anew.length (aB (A.drop k++P++R)),hd,List.append_assoc (ls.take _)];refine h1.append (ha.append ?_);rw[show A.count 10+O.count 10+1=1+(A++O).count 10 by rw[List.count_append];omega];exact h2
theorem BW{p:Nat->Bool}{d:Nat}(hd:d<=b)(h:∀j,b - d<=j->j<b->p j=true):d<=(List.range b).countP p:=by
 have e:List.range b=(List.range b).take (b - d)++(List.range b).drop (b - d):=(List.take_append_drop _ _).symm;rw[e,List.countP_append]
 have:((List.range b).drop (b - d)).countP p=d:=by
  rw[List.countP_eq_length.2]
  ·simp;omega
  ·intro a ha;obtain ⟨i,hi,rfl⟩:=List.mem_iff_getElem.1 ha;simp at hi ⊢;exact h _ (by omega) (by omega)
 omega
def eX(old now:List (List Nat))(b:Nat):Nat:=(List.range b).countP λj=>decide (old[old.length - (j+1)]?≠now[now.length - (j+1)]?)
theorem EF{anew:List (List Nat×List Sp)}{f o t:Nat}(UE:ls.length=f+o+1+b)(ha:anew.length<=t+b)(hd:∀(i:Nat) x,t<=i->anew[i]?=some x->((ls.drop (f+o+1)).map (·.1))[i - t]?≠some x.1):
  anew.length<=t+eX (ls.map (·.1)) ((ls.take f++anew++(ls.drop (f+o+1)).drop (anew.length - t)).map (·.1)) b:=by
 rcases Nat.lt_or_ge t anew.length with hlt|kg
 ·obtain ⟨d,hdd⟩:∃d,anew.length=t+d:=⟨anew.length - t,by omega⟩
  have key:=BW (b:=b) (d:=d) (p:=λj=>decide ((ls.map (·.1))[(ls.map (·.1)).length - (j+1)]?≠((ls.take f++anew++(ls.drop (f+o+1)).drop (anew.length - t)).map (·.1))[((ls.take f++anew++(ls.drop (f+o+1)).drop (anew.length - t)).map (·.1)).length - (j+1)]?)) (by omega) (λj h1 h2=>by
   obtain ⟨x,hx⟩:∃x,anew[t+(b - 1 - j)]?=some x:=⟨_,List.getElem?_eq_getElem (by omega)⟩;have h3:=hd _ x (by omega) hx;rw[List.getElem?_map,List.getElem?_drop]at h3;have hl:(ls.map (·.1)).length - (j+1)=f+o+1+(b - 1 - j):=by rw[List.length_map];omega
   have hn:((ls.take f++anew++(ls.drop (f+o+1)).drop (anew.length - t)).map (·.1)).length - (j+1)=f+(t+(b - 1 - j)):=by simp;omega
   have qV:((ls.take f++anew++(ls.drop (f+o+1)).drop (anew.length - t)).map (·.1))[f+(t+(b - 1 - j))]?=some x.1:=by rw[List.getElem?_map,List.append_assoc,List.getElem?_append_right (by simp;omega),List.getElem?_append_left (by simp;omega)];rw[show f+(t+(b - 1 - j)) - (ls.take f).length=t+(b - 1 - j) by simp;omega,hx];rfl
   simp only[decide_eq_true_eq];rw[hl,hn,qV,List.getElem?_map];rw[show t+(b - 1 - j) - t=b - 1 - j by omega]at h3;exact h3)
  unfold eX;omega
 ·omega
end Go.Proofs.YtgncgdkpkkdaeaaGreatDoor
namespace Go.Proofs.YtgncgdkpkkdaeaaGreatDoor
open Go.RowKit aO Go.Maps Go.Shelf
variable {t:ByteArray} {l ls:List LE} {es:List RE} {B f j n q y:Nat} {u v:Value} {w:World}
theorem qW{x:UInt8}(h:t.data.toList[j]?=some x):t.data[j]! = x:=by rw[Array.getElem?_toList]at h;rw[getElem!_def,h]
theorem UF(A:ByteArray):∃k:Nat,Lib.lastIndexByte A 10+1=(k:Int)/\k<=A.size/\UC A.data.toList k:=by
 rcases Lib.lastIndexByte_spec A 10 with ⟨h1,h2⟩|⟨i,h1,h2,h3,h4⟩
 ·refine ⟨0,by rw[h1];rfl,Nat.zero_le _,Nat.zero_le _,?_,.inl rfl⟩;intro hm;rw[List.drop_zero]at hm;obtain ⟨j,hj⟩:=List.mem_iff_getElem?.1 hm;have:=aw hj;rw[ah]at this;refine h2 j this ?_;rw[qW hj];rfl
 ·have hi:A.data.toList[i]?=some 10:=by
   have hlt:i<A.data.toList.length:=by rw[ah];exact h1
   obtain ⟨x,hx⟩:∃x,A.data.toList[i]?=some x:=⟨_,List.getElem?_eq_getElem hlt⟩;rw[qW hx]at h3;rw[hx];congr 1;exact UInt8.toNat_inj.1 (by simpa using Int.ofNat_inj.1 h3)
  refine ⟨i+1,by rw[h2];rfl,by omega,by rw[ah];omega,?_,.inr ⟨A.data.toList.take i,by rw[List.take_add_one,hi];rfl⟩⟩;intro hm;obtain ⟨j,hj⟩:=List.mem_iff_getElem?.1 hm;rw[List.getElem?_drop]at hj;have:=aw hj;rw[ah]at this;refine h4 (i+1+j) (by omega) this ?_;rw[qW hj];rfl
theorem Yt(a b c:List UInt8):Lib.join [a,b,c] []=a++b++c:=by rw[Lib.join_cons];simp[Lib.joinTail]
theorem addr_add(b o y:Nat):(⟨b,o,none⟩:Addr).add y=⟨b,o+y,none⟩:=by
 unfold Addr.add;split
 ·rename_i h;subst h;rfl
 ·rfl
theorem cB.G4(h:cB w B v ls):∀x∈ls,x.cells.length=10:=λx hx=>LE.length (h.each x hx).1
theorem uN(h:∀x∈l,x.cells.length=10):(l.flatMap LE.cells).length=l.length*10:=by
 induction l with
 | nil=>rfl
 | cons x l ih=>rw[List.flatMap_cons,List.length_append,ih (λy hy=>h y (List.mem_cons_of_mem _ hy)),h x List.mem_cons_self,List.length_cons];omega
theorem Je(h:∀x∈l,x.cells.length=10)(q:Nat):(l.drop q).flatMap LE.cells=(l.flatMap LE.cells).drop (q*10):=by
 induction q generalizing l with
 | zero=>simp
 | succ q ih=>
  cases l with
  | nil=>simp
  | cons x l=>
   rw[List.drop_succ_cons,ih (λy hy=>h y (List.mem_cons_of_mem _ hy)),List.flatMap_cons,show (q+1)*10=10+q*10 by omega,<-List.drop_drop,<-h x List.mem_cons_self,List.drop_left]
theorem MI(h:((l.take f).flatMap LE.cells)[y]?=some u):(l.flatMap LE.cells)[y]?=some u:=by
 conv=>lhs;rw[<-List.take_append_drop f l,List.flatMap_append]
 rw[List.getElem?_append_left (aw h)];exact h
theorem cB.QG(h:cB w B v ls):(ls.flatMap LE.cells).length=ls.length*10:=uN h.G4
theorem cB.take_len(h:cB w B v ls)(hf:f<=ls.length):((ls.take f).flatMap LE.cells).length=f*10:=by rw[uN (λx hx=>h.G4 x (List.mem_of_mem_take hx)),List.length_take];congr 1;omega
theorem cB.BX(h:cB w B v ls):((ls.drop q).flatMap LE.cells).length=(ls.length - q)*10:=by rw[uN (λx hx=>h.G4 x (List.mem_of_mem_drop hx)),List.length_drop]
theorem cB.part{lb cp:Nat}(h:cB w B (.slice (some ⟨lb,0,none⟩) n cp) ls)(hu:((ls.drop q).flatMap LE.cells)[y]?=some u):w.cell? ⟨lb,q*10+y,none⟩=some u:=by obtain ⟨ao,c,hv⟩:=aC h.row;cases hv;rw[Je h.G4,List.getElem?_drop]at hu;exact (bG h.row hu).1
theorem cB.one(h:cB w B v ls)(hu:∃x,x∈ls/\u∈x.cells):u.oneCell'=true:=by
 obtain ⟨x,hx,hu⟩:=hu;unfold LE.cells at hu;rcases List.mem_append.1 hu with hu|hu
 ·unfold aJ at hu;obtain ⟨y,_,rfl⟩:=List.mem_map.1 hu;rfl
 ·rw[List.mem_singleton.1 hu];obtain ⟨ao,c,hv⟩:=aC (h.each x hx).2;rw[hv];rfl
def uO(B bS g n cap:Nat)(G:List GS)(text:ByteArray)(ls:List LE)(work a an:Nat)(put:ByteArray)(w:World)(e:Ending)(w':World):Prop:=
 e=.returned (.tuple #[])/\aK (λk=>k=bS) w w'/\∃(aW:ByteArray) (lv':Value) (jI:List LE) (bN:Nat) (sF:List Nat),
  aW.data.toList=text.data.toList.take a++put.data.toList++text.data.toList.drop an/\bQ w' B bS g n cap aW lv' jI bN/\dz G [0] (aB aW.data.toList) (jI.map LE.pr) sF /\
  work<=bN/\bN<=work+(1+put.data.toList.count 10+eX (ls.map LE.st) (jI.map LE.st) ((text.data.toList.drop an).count 10))/\bN<=work+3001
set_option maxRecDepth 20000 in
set_option maxHeartbeats 4000000 in
theorem rX
  (N B bS g n cap:Nat) (G:List GS) (text:ByteArray) (lv:Value) (ls:List LE) (work a nn:Nat) (put:ByteArray) (sE:List Nat) (w:World)
  (dZ:xD G) (qA:0<G.length) (hT:kK w) (h0:1 < N) (hG:∀w',Below N w w'->bR w' g n cap G) (hN:N<=B) (hM:Mx w) (A8:0 < N)
  (h:bQ w B bS g n cap text lv ls work) (hr:dz G [0] (aB text.data.toList) (ls.map LE.pr) sE) (uP:work<=1000000000000000000) (ha:a+nn<=text.size) (hz:text.size+put.size<=3000+nn):
  Calls Tryz.prog 72 #[.pointer (some ⟨bS,0,none⟩),.int .i64 a,.int .i64 nn,.string put] w (uO B bS g n cap G text ls work a (a+nn) put w):=by
 have hlen:=hr.length;rw[List.length_map,aS]at hlen;obtain ⟨nH,cp,hlv⟩:=aC h.eT.row;obtain ⟨x0,hx0⟩:∃x,ls[0]?=some x:=⟨_,List.getElem?_eq_getElem (by omega)⟩;subst hlv;obtain ⟨lb,oX,acX,-⟩:=h.eT.cells hx0;subst oX;obtain ⟨an,UG⟩:∃an,an=a+nn:=⟨_,rfl⟩;rw[<-UG]
 have hw0:IntKind.i64.wrap ((a:Int)+(nn:Int))=(an:Int):=by rw[IntKind.wrap_i64];have:=h.size;omega
 by_cases hq:nn=0/\put=⟨#[]⟩
 ·obtain ⟨rfl,rfl⟩:=hq;have ai:=aa (show uO B bS g n cap G text ls work a an ⟨#[]⟩ w (.returned (.tuple #[])) w from ⟨rfl,aK.refl _ _,text,_,ls,work,sE,by rw[UG];simp,h,hr,Nat.le_refl _,Nat.le_add_right _ _,Nat.le_add_right _ _⟩);clear h hr hlen hx0 hT hG hM;go_enter Tryz.func72,Tryz.ntmps72;go_wp2_with fail
  exact bodyPost_ret (v:=.tuple #[]) (by simp[results,Tryz.results72,go_sem]) rfl ai.out
 ·have c1:w.cell? ⟨bS,1,none⟩=some (.string text):=ag h.sh rfl;have abf:an<=text.size:=by omega
  have acY:a<=an:=by omega
  have hz3:=h.size;have HS:=aa h;have HR:=aa hr;have HLEN:=aa hlen;have Yu:=aa UG;have DM:=aa (And.intro hT (And.intro hG hM));have HQ:=aa hq;clear h hr hlen hT hG hM UG hx0 hq;go_enter Tryz.func72,Tryz.ntmps72;refine wp_seq_k λK1 Jf=>?_
  go_cut [] from 16 to 106 (λwc=>wc=w)
  case first=>
   by_cases xS:nn=0
   ·have q1:((nn:Int)==0)=true:=by rw[xS];rfl
    have q2:put.toList.isEmpty=false:=by
     rw[Lib.toList_data]
     cases hb:put.data.toList with
     | nil=>exact absurd ⟨xS,WideShapes.bytes_inj (by rw[hb])⟩ HQ.out
     | cons _ _=>rfl
    clear xS;go_wp2_with fail;go_meet
    case rel=>rfl
   ·have q1:((nn:Int)==0)=false:=by rw[beq_eq_false_iff_ne];omega
    clear xS;go_wp2_with fail;go_meet
    case rel=>rfl
  case rest=>
   subst hcut;go_wp2_with fail;go_quiet (fail);go_wp2_with fail;obtain ⟨nL,Yv⟩:∃nL,nL=ls.length:=⟨_,rfl⟩;obtain ⟨A,hA⟩:∃A,A=text.extract 0 a:=⟨_,rfl⟩;obtain ⟨O,hO⟩:∃O,O=text.extract a an:=⟨_,rfl⟩;obtain ⟨R,hR⟩:∃R,R=text.extract an text.size:=⟨_,rfl⟩;obtain ⟨W1,hW1⟩:∃W1,W1=wc.drewN nq:=⟨_,rfl⟩
   have hb1:Below wc.heap.size wc W1:=by rw[hW1];exact Below.drewN' (Below.refl _ _) nq
   have lA:A.data.toList=text.data.toList.take a:=by rw[hA,aQ];simp
   have lR:R.data.toList=text.data.toList.drop an:=by rw[hR,aQ,List.take_of_length_le (by rw[List.length_drop,ah];omega)]
   have lT:text.data.toList=A.data.toList++O.data.toList++R.data.toList:=by
    rw[lA,lR,hO,aQ]
    conv=>lhs;rw[<-List.take_append_drop a text.data.toList,<-List.take_append_drop (an - a) (text.data.toList.drop a),List.drop_drop]
    rw[show a+(an - a)=an by omega,List.append_assoc]
   rw[<-hA,<-hO,<-hR,<-hW1];obtain ⟨f,hf⟩:∃f,f=Lib.countByte A.data.toList 10:=⟨_,rfl⟩;obtain ⟨co,K4⟩:∃co,co=Lib.countByte O.data.toList 10:=⟨_,rfl⟩;obtain ⟨WQ,QH⟩:∃WQ,WQ=Lib.countByte put.data.toList 10:=⟨_,rfl⟩;obtain ⟨cR,hcR⟩:∃cR,cR=R.data.toList.count 10:=⟨_,rfl⟩;obtain ⟨tc,Wv⟩:∃tc,tc=1+WQ:=⟨_,rfl⟩
   obtain ⟨fo,Yw⟩:∃fo,fo=f+co:=⟨_,rfl⟩;obtain ⟨kb,hkb⟩:∃kb,kb=fo+1:=⟨_,rfl⟩;have T5:nL=f+co+1+cR:=by have h1:=HLEN.out;rw[lT,List.count_append,List.count_append]at h1;rw[Yv,h1,hf,K4,hcR];unfold Lib.countByte;omega
   have G0:WQ<=put.size:=by rw[QH,<-ah];exact List.count_le_length
   have Yx:nL<=3001:=by have h1:=HLEN.out;have h2:=List.count_le_length (a:=(10:UInt8)) (l:=text.data.toList);rw[ah]at h2;omega
   have hpz:put.size<=6000:=by omega
   have hCA:=Tryz.strings_Count_one A 10 W1;have hCP:=Tryz.strings_Count_one put 10 W1;have hCO:=Tryz.strings_Count_one O 10 W1.drew;rw[<-hf]at hCA;rw[<-QH]at hCP;rw[<-K4]at hCO;have HCA:=aa hCA;have HCP:=aa hCP;have SF:=aa hCO;have wt:IntKind.i64.wrap (1+(WQ:Int))=(tc:Int):=by rw[IntKind.wrap_i64];omega
   have wf:IntKind.i64.wrap ((f:Int)+(co:Int))=(fo:Int):=by rw[IntKind.wrap_i64];omega
   have wk:IntKind.i64.wrap ((fo:Int)+1)=(kb:Int):=by rw[IntKind.wrap_i64];omega
   have lL:kb<=nL:=by omega
   have QI:=HS.out.below hb1
   have acZ:nL<=cp:=by
    rcases QI.eT.row.2 with ⟨h1,_⟩|⟨_,_,_,h1,_,_,h2,_⟩
    ·cases h1
    ·cases h1;rw[Yv];exact h2
   have c12:W1.cell? ⟨bS,2,none⟩=some (.slice (some ⟨lb,0,none⟩) nL cp):=by rw[Yv];exact ag QI.sh rfl
   have ac0:=aa QI;have sR:=aa Yv;have zw:=aa T5;have HL:=aa (And.intro lA (And.intro lR lT));have HF:=aa (And.intro hf (And.intro K4 (And.intro QH hcR)));have bA:=aa hb1;have HTC:=aa Wv;have HKB:=aa (And.intro Yw hkb);clear Yv hA hO hR hW1 lA lR lT hf K4 QH hcR Wv Yw hkb T5 hCA hCP hCO QI hb1 c1 hw0;refine HCA.out.mono ?_;rintro e w2 ⟨rfl,h2⟩;subst w2
   clear HCA;go_wp2_with fail;refine HCP.out.mono ?_;rintro e w2 ⟨rfl,h2⟩;subst w2;clear HCP;go_wp2_with fail
   go_region_held3 (λw'=>w'.cell? ⟨bS,2,none⟩=some (.slice (some ⟨lb,0,none⟩) nL cp))
    (go_keep)
    (first|(go_at_call 71;refine SF.out.mono ?_;clear SF;rintro e w3 ⟨rfl,h3⟩;subst w3))
   all_goals
    obtain ⟨of,hof,Jg⟩:∃of,(if cp=kb then some (⟨lb,0,none⟩:Addr) else some ⟨lb,kb*10,none⟩)=some ⟨lb,of,none⟩/\(kb<nL->of=kb*10):=by
     by_cases h:cp=kb
     ·exact ⟨0,by rw[if_pos h],λh'=>by omega⟩
     ·exact ⟨kb*10,by rw[if_neg h],λ_=>rfl⟩
    obtain ⟨nb,iE⟩:∃nb,nb=nL - kb:=⟨_,rfl⟩;obtain ⟨cb,hcb⟩:∃cb,cb=cp - kb:=⟨_,rfl⟩;obtain ⟨W2,hW2⟩:∃W2,W2=W1.drew:=⟨_,rfl⟩;rw[hof,<-iE,<-hcb,<-hW2];have hb2:Below wc.heap.size wc W2:=by rw[hW2];exact bA.out.drew
    obtain ⟨W3,hW3⟩:∃W3,W2.alloc (.cells #[.string A,.string put,.string R] 9)=W3:=⟨_,rfl⟩;have hb3:Below wc.heap.size wc W3:=by rw[<-hW3];exact hb2.alloc hb2.size _
    have Yy:W3.heap[W2.heap.size]?=some (.cells #[.string A,.string put,.string R] 9 (0,0)):=by rw[<-hW3];exact af _ _
    obtain ⟨aW,ib⟩:∃t:ByteArray,t=⟨(Lib.join ([A,put,R].map (·.data.toList)) (⟨#[]⟩:ByteArray).data.toList).toArray⟩:=⟨_,rfl⟩;have lT':aW.data.toList=A.data.toList++put.data.toList++R.data.toList:=by rw[ib];exact Yt _ _ _
    have UH:aW.size=a+put.size+(text.size - an):=by rw[<-ah,lT',HL.out.1,HL.out.2.1,List.length_append,List.length_append,List.length_take,List.length_drop,ah,ah];omega
    have HJ:=aa (show Calls Tryz.prog 97 #[.slice (some ⟨W2.heap.size,0,none⟩) 3 3,.string ⟨#[]⟩] W3 (λe w'=>e=.returned (.string aW)/\Below W3.heap.size W3 w') from by
     rw[ib];refine Tryz.strings_Join W2.heap.size 0 3 [A,put,R] ⟨#[]⟩ W3 (λj x hj=>?_) (ae Yy) (by simp) (by simp) ?_
     ·rw[Nat.zero_add]
      match j,hj with
      | 0,hj=>simp at hj;subst hj;exact ag Yy rfl
      | 1,hj=>simp at hj;subst hj;exact ag Yy rfl
      | 2,hj=>simp at hj;subst hj;exact ag Yy rfl
      | j+3,hj=>simp at hj
     ·have e:(Lib.join ([A,put,R].map (·.data.toList)) (⟨#[]⟩:ByteArray).data.toList).length=a+put.size+(text.size - an):=by rw[<-UH,ib,<-ah]
      rw[e];omega)
    have fB:=aa hb3;have HT':=aa lT';have UI:=aa UH;have G5:=aa Jg;have uQ:=aa (And.intro iE hcb);clear hof Jg iE hcb hW2 hb2 hb3 Yy ib lT' UH c12;go_wp2_with fail;refine HJ.out.mono ?_;rintro e W4 ⟨rfl,hb4⟩;clear HJ hW3;have UJ:Below wc.heap.size wc W4:=fB.out.trans (hb4.mono fB.out.size);have qX:=HS.out.below UJ
    have z1:W4.cell? ⟨bS,1,none⟩=some (.string text):=ag qX.sh rfl;have z1f:W4.frozen? ⟨bS,1,none⟩=false:=by simp[World.frozen?,qX.sh]
    obtain ⟨W5,Yz⟩:∃W5,W4.setCell ⟨bS,1,none⟩ (.string aW)=W5:=⟨_,rfl⟩;have AE:W5.heap[bS]?=some (.cells #[.slice (some ⟨g,0,none⟩) n cap,.string aW,.slice (some ⟨lb,0,none⟩) ls.length cp,.int .i64 work] 134 (0,0)):=by rw[<-Yz];simpa using heap_setCell_same W4 bS 1 (.string aW) qX.sh
    have LF:aK (λk=>k=bS) W4 W5:=by rw[<-Yz];exact aK.setCell (Y:=λk=>k=bS) (p:=⟨bS,1,none⟩) rfl qX.sh (by decide) _
    have o5:aK (λk=>k=bS) wc W5:=(aK.au UJ).trans LF;have l5:cB W5 B (.slice (some ⟨lb,0,none⟩) ls.length cp) ls:=qX.eT.off LF (λk hk=>by rw[hk];exact qX.eT.other qX.sh (λc=>⟨by simp,by simp⟩));obtain ⟨k,eJ,hk2,hk3⟩:=UF A;obtain ⟨li,Bp⟩:∃li,li=Lib.lastIndexByte A 10:=⟨_,rfl⟩;rw[<-Bp]at eJ
    have haz:A.size<=3000:=by have:=congrArg List.length HL.out.1;rw[ah,List.length_take,ah]at this;omega
    have wl:IntKind.i64.wrap (li+1)=(k:Int):=by rw[IntKind.wrap_i64];omega
    have IX:=aa (show Calls Tryz.prog 98 #[.string A,.string ⟨#[10]⟩] W5 (λe w'=>e=.returned (.int .i64 li)/\w'=W5) from by rw[Bp];exact Tryz.strings_LastIndex_one A ⟨#[10]⟩ rfl (by omega) W5)
    have K5:=aa o5;have Pt:=aa l5;have DF:=aa AE;have UK:=aa hk3;clear hb4 UJ qX AE LF o5 l5 eJ Bp hk3;go_wp2_with fail;refine IX.out.mono ?_;rintro e w6 ⟨rfl,h6⟩;subst w6;clear IX;have hfn:f<nL:=by have:=zw.out;omega
    obtain ⟨x,hx⟩:∃x,ls[f]?=some x:=⟨_,List.getElem?_eq_getElem (by rw[<-sR.out];exact hfn)⟩;have hgd:Good G x.st:=HR.out.good dZ ⟨⟨by simp,by simp⟩,λy hy=>by rw[List.mem_singleton.1 hy];exact qA⟩ x.pr (List.mem_map_of_mem (List.mem_of_getElem? hx));obtain ⟨a0,a1,a2,a3,a4,a5,a6,a7,a8,hst⟩:=nine hgd.1.2;obtain ⟨lb',UL,_,gL⟩:=Pt.out.cells hx;cases UL
    have hcc:∀(y:Nat) c,(aJ x.st)[y]?=some c->W5.cell? ⟨lb,f*10+y,none⟩=some c:=λy c hy=>gL y c (by unfold LE.cells;rw[List.getElem?_append_left (aw hy)];exact hy)
    rw[hst]at hcc;have d0:=hcc 0 _ rfl;have d1:=hcc 1 _ rfl;have d2:=hcc 2 _ rfl;have d3:=hcc 3 _ rfl;have d4:=hcc 4 _ rfl;have d5:=hcc 5 _ rfl;have d6:=hcc 6 _ rfl;have d7:=hcc 7 _ rfl;have d8:=hcc 8 _ rfl;rw[Nat.add_zero]at d0;have e1:W5.cell? ⟨bS,1,none⟩=some (.string aW):=ag DF.out rfl
    have e2:W5.cell? ⟨bS,2,none⟩=some (.slice (some ⟨lb,0,none⟩) nL cp):=by rw[sR.out];exact ag DF.out rfl
    obtain ⟨T7,hT7⟩:∃T7,T7=aW.extract k aW.size:=⟨_,rfl⟩;have hkt:k<=aW.size:=by have h1:=congrArg List.length HL.out.1;rw[ah,List.length_take,ah]at h1;rw[UI.out];omega
    have lT7:T7.data.toList=A.data.toList.drop k++put.data.toList++R.data.toList:=by rw[hT7,aQ,List.take_of_length_le (by rw[List.length_drop,ah];omega),HT'.out,List.append_assoc,List.append_assoc,List.drop_append_of_le_length (by rw[ah];exact hk2)]
    have oX:lb≠bS:=λe=>by have:=Pt.out.other DF.out (λc=>⟨by simp,by simp⟩);exact this.1 (by rw[<-e];rfl)
    have hN5:N<=bS:=Nat.le_trans hN HS.out.base;have hT5:kK W5:=DM.out.1.keep (K5.out.keep _ ⟨dw (DM.out.1 0 (by decide)),by omega⟩);have S6:Mx W5:=by obtain ⟨m,hm⟩:=DM.out.2.2;exact ⟨m,(World.cell?_of_block (K5.out.keep 0 ⟨dw hm,by show ¬0=bS;omega⟩)).trans hm⟩
    have Qh:∀w',Below N W5 w'->bR w' g n cap G:=λw' hb=>DM.out.2.1 w' ⟨hb.os.trans K5.out.os,hb.tape.trans K5.out.tape,hb.output.trans K5.out.output,Nat.le_trans K5.out.size hb.size,λk hk=>(hb.block k hk).trans (K5.out.keep k ⟨by have:=ae HS.out.sh;omega,by omega⟩)⟩
    have hbl:((ls.drop kb).map LE.st).length=nb:=by rw[List.length_map,List.length_drop,<-sR.out,uQ.out.1]
    have YA:BZ W5.drew bS (.slice (some ⟨lb,of,none⟩) nb cb) ((ls.drop kb).map LE.st):=by
     refine ⟨_,_,by rw[hbl],by rw[hbl];have:=uQ.out.1;omega,λj st hj=>?_⟩;rw[List.getElem?_map,List.getElem?_drop]at hj
     cases hy:ls[kb+j]? with
     | none=>rw[hy]at hj;simp at hj
     | some y=>
      rw[hy]at hj;simp only[Option.map_some,Option.some.injEq]at hj;subst hj;obtain ⟨lb',UL,_,hcy⟩:=Pt.out.cells hy;cases UL;refine ⟨(Pt.out.each y (List.mem_of_getElem? hy)).1,lb,of,rfl,oX,λz c hz=>?_⟩;have hlt:=aw hy;rw[<-sR.out]at hlt;rw[G5.out (by omega),show kb*10+j*10+z=(kb+j)*10+z by omega]
      exact hcy z c (by unfold LE.cells;rw[List.getElem?_append_left (aw hz)];exact hz)
    have MJ:(aB T7.data.toList).length=tc+((ls.drop kb).map LE.st).length:=by have h1:=zw.out;have h2:=HF.out;rw[hbl,aS,lT7,List.count_append,List.count_append,List.count_eq_zero.2 UK.out.2.1,<-h2.2.2.2,uQ.out.1,HTC.out,h2.2.2.1];have h3:=HKB.out;unfold Lib.countByte;omega
    have QJ:=tT N bS g n cap G T7 x.st tc (.slice (some ⟨lb,of,none⟩) nb cb) ((ls.drop kb).map LE.st) aW (.slice (some ⟨lb,0,none⟩) ls.length cp) work W5.drew dZ hgd (by
     have h1:=congrArg List.length lT7;rw[ah,List.length_append,List.length_append,List.length_drop,ah,ah,ah]at h1;have h2:=congrArg List.length HL.out.1;rw[ah,List.length_take,ah]at h2;have h3:=congrArg List.length HL.out.2.1;rw[ah,List.length_drop,ah]at h3;have h4:=Yu.out
     omega) uP hT5 h0 (λw' hb=>Qh w' ⟨hb.os,hb.tape,hb.output,hb.size,hb.block⟩) hN5 S6 A8 DF.out YA MJ
    unfold k9 at QJ;rw[hst]at QJ;have AA:=aa QJ
    have wU:=aa (λ(w':World) (ho:aK (λk=>k=bS) W5.drew w') (hs:w'.heap[bS]?=some (.cells #[.slice (some ⟨g,0,none⟩) n cap,.string aW,.slice (some ⟨lb,0,none⟩) ls.length cp,.int .i64 0] 134 (0,0))∨∃v,w'.heap[bS]?=some (.cells #[.slice (some ⟨g,0,none⟩) n cap,.string aW,.slice (some ⟨lb,0,none⟩) ls.length cp,v] 134 (0,0)))=>show w'.cell? ⟨bS,1,none⟩=some (.string aW)/\w'.cell? ⟨bS,2,none⟩=some (.slice (some ⟨lb,0,none⟩) nL cp)/\w'.cell? ⟨lb,f*10,none⟩=some (.int .i64 a0)/\w'.cell? ⟨lb,f*10+1,none⟩=some (.int .i64 a1)/\w'.cell? ⟨lb,f*10+2,none⟩=some (.int .i64 a2)/\w'.cell? ⟨lb,f*10+3,none⟩=some (.int .i64 a3)/\w'.cell? ⟨lb,f*10+4,none⟩=some (.int .i64 a4)/\w'.cell? ⟨lb,f*10+5,none⟩=some (.int .i64 a5)/\w'.cell? ⟨lb,f*10+6,none⟩=some (.int .i64 a6)/\w'.cell? ⟨lb,f*10+7,none⟩=some (.int .i64 a7)/\w'.cell? ⟨lb,f*10+8,none⟩=some (.int .i64 a8) from by
     have key:∀j v,W5.cell? ⟨lb,j,none⟩=some v->w'.cell? ⟨lb,j,none⟩=some v:=λj v hj=>(World.cell?_of_block (w:=W5) (ho.keep lb ⟨dw hj,oX⟩)).trans hj
     obtain ⟨v,hv⟩:∃v,w'.heap[bS]?=some (.cells #[.slice (some ⟨g,0,none⟩) n cap,.string aW,.slice (some ⟨lb,0,none⟩) ls.length cp,v] 134 (0,0)):=by
      rcases hs with h|h
      ·exact ⟨_,h⟩
      ·exact h
     exact ⟨ag hv rfl,by rw[sR.out];exact ag hv rfl,key _ _ d0,key _ _ d1,key _ _ d2,key _ _ d3,key _ _ d4,key _ _ d5,key _ _ d6,key _ _ d7,key _ _ d8⟩)
    have HX:=aa hx;have HT7:=aa lT7;have jA:=aa hbl;have acK:=Yx;have abg:=aa hT7;clear gL hcc hst hgd hT5 S6 Qh YA MJ QJ hx lT7 hbl hT7;go_wp2_with fail
    go_region_held3 (λw'=>w'.cell? ⟨bS,1,none⟩=some (.string aW)/\w'.cell? ⟨bS,2,none⟩=some (.slice (some ⟨lb,0,none⟩) nL cp)/\w'.cell? ⟨lb,f*10,none⟩=some (.int .i64 a0)/\w'.cell? ⟨lb,f*10+1,none⟩=some (.int .i64 a1)/\w'.cell? ⟨lb,f*10+2,none⟩=some (.int .i64 a2)/\w'.cell? ⟨lb,f*10+3,none⟩=some (.int .i64 a3)/\w'.cell? ⟨lb,f*10+4,none⟩=some (.int .i64 a4)/\w'.cell? ⟨lb,f*10+5,none⟩=some (.int .i64 a5)/\w'.cell? ⟨lb,f*10+6,none⟩=some (.int .i64 a6)/\w'.cell? ⟨lb,f*10+7,none⟩=some (.int .i64 a7)/\w'.cell? ⟨lb,f*10+8,none⟩=some (.int .i64 a8))
     (first
      | with_reducible exact hS6
      | go_keep)
     (first
      | (go_at_call 69;rw[<-abg.out];refine AA.out.mono ?_;clear AA;rintro e W6 ⟨v,anew,st,rfl,YB,QK,hg6,YC,PI,ho6,hd6,YD⟩;have hS6:=wU.out W6 ho6 (.inr ⟨_,PI⟩);have HL6:=aa YB;have HR6:=aa QK;have YE:=aa YC;have HS6:=aa PI;have HO6:=aa ho6;have HD6:=aa hd6;have HF6:=aa YD;obtain ⟨wK,vc,hv⟩:=aC YB.row;subst hv;clear YB QK hg6 YC PI ho6 hd6 YD))
    all_goals
     have hwt:=HTC.out;obtain ⟨na,Mc⟩:∃na,na=anew.length:=⟨_,rfl⟩;have MH:(aB T7.data.toList).length=tc+nb:=by have h1:=zw.out;have h2:=HF.out;rw[aS,HT7.out,List.count_append,List.count_append,List.count_eq_zero.2 UK.out.2.1,<-h2.2.2.2,uQ.out.1,HTC.out,h2.2.2.1];have h3:=HKB.out;unfold Lib.countByte;omega
     have htn:tc<=na:=by
      rcases HF6.out with h|h
      ·omega
      ·omega
     have rU:na<=tc+nb:=by rw[Mc,<-MH];exact YE.out
     obtain ⟨dm,PJ⟩:∃dm,dm=na - tc:=⟨_,rfl⟩;have hdn:dm<=nb:=by omega
     have wd:IntKind.i64.wrap ((na:Int) - (tc:Int))=(dm:Int):=by rw[IntKind.wrap_i64];have:=uQ.out.1;omega
     obtain ⟨PK,hof,Jg⟩:∃PK,(if cb=dm then some (⟨lb,of,none⟩:Addr) else some ⟨lb,of+dm*10,none⟩)=some ⟨lb,PK,none⟩/\(dm<nb->PK=(kb+dm)*10):=by
      have h1:=uQ.out;by_cases h:cb=dm
      ·exact ⟨of,by rw[if_pos h],λh'=>by omega⟩
      ·refine ⟨of+dm*10,by rw[if_neg h],λh'=>?_⟩;rw[G5.out (by omega)];omega
     have hvr:=HL6.out.row;rw[<-Mc]at hvr ⊢;obtain ⟨va,_,hvv⟩:=az hvr (by omega);cases hvv;have e62:=hS6.2.1;have l6:cB W6 B (.slice (some ⟨lb,0,none⟩) ls.length cp) ls:=(Pt.out.below (Below.refl _ _).drew).off HO6.out (λk hk=>by rw[hk];exact Pt.out.other DF.out (λc=>⟨by simp,by simp⟩))
     obtain ⟨W7,hW7⟩:∃W7,(W6.alloc (.cells #[.slice (some ⟨lb,0,none⟩) f cp,.slice (some ⟨va,0,none⟩) na vc,.slice (some ⟨lb,PK,none⟩) (nb - dm) (cb - dm)] 132)).drew=W7:=⟨_,rfl⟩
     have h7c:W7.heap[W6.heap.size]?=some (.cells #[.slice (some ⟨lb,0,none⟩) f cp,.slice (some ⟨va,0,none⟩) na vc,.slice (some ⟨lb,PK,none⟩) (nb - dm) (cb - dm)] 132 (0,0)):=by rw[<-hW7];exact af W6 _
     have WR:Below W6.heap.size W6 W7:=by rw[<-hW7];exact ((Below.refl _ _).alloc (Nat.le_refl _) _).drew
     have MK:∀(j:Nat) s,([⟨⟨lb,0,none⟩,f,cp,(ls.take f).flatMap LE.cells⟩,⟨⟨va,0,none⟩,na,vc,anew.flatMap LE.cells⟩,⟨⟨lb,PK,none⟩,nb - dm,cb - dm,((ls.drop kb).drop dm).flatMap LE.cells⟩]:List Src)[j]?=some s->W7.cell? ⟨W6.heap.size,j,none⟩=some (.slice (some s.ad) s.n s.c)/\rW W7 s:=by
      have h1:=uQ.out;have h2:=sR.out;intro j s hj
      match j,hj with
      | 0,hj=>
       simp at hj;subst hj;refine ⟨ag h7c rfl,rW.below ⟨by rw[l6.take_len (by omega)],λy u hu=>?_,λu hu=>l6.one (List.mem_flatMap.1 hu |>.imp λx hx=>⟨List.mem_of_mem_take hx.1,hx.2⟩)⟩ WR⟩;have:=l6.part (q:=0) (by rw[List.drop_zero];exact MI hu);rw[addr_add];simpa using this
      | 1,hj=>
       simp at hj;subst hj;have YF:=HL6.out;rw[<-Mc]at YF;refine ⟨ag h7c rfl,rW.below ⟨by rw[Mc];exact YF.QG,λy u hu=>?_,λu hu=>YF.one (List.mem_flatMap.1 hu)⟩ WR⟩;rw[Mc]at YF;have:=YF.part (q:=0) (by rw[List.drop_zero];exact hu);rw[addr_add];simpa using this
      | 2,hj=>
       simp at hj;subst hj;refine ⟨ag h7c rfl,rW.below ⟨?_,λy u hu=>?_,λu hu=>l6.one (List.mem_flatMap.1 hu |>.imp λx hx=>⟨List.mem_of_mem_drop hx.1,hx.2⟩)⟩ WR⟩
       ·show _=(nb - dm)*10;rw[l6.BX];congr 1;omega
       ·have hlt:dm<nb:=by have h3:=aw hu;rw[l6.BX]at h3;omega
        have:=l6.part hu;rw[addr_add,Jg hlt];exact this
      | j+3,hj=>simp at hj
     have YG:=EC W6.heap.size 3 [⟨⟨lb,0,none⟩,f,cp,(ls.take f).flatMap LE.cells⟩,⟨⟨va,0,none⟩,na,vc,anew.flatMap LE.cells⟩,⟨⟨lb,PK,none⟩,nb - dm,cb - dm,((ls.drop kb).drop dm).flatMap LE.cells⟩] W7 (by simp) (by simp[kX];omega) (by simp[kX];have:=uQ.out.1;omega) MK
     have abh:=aa (show Calls Tryz.prog 99 #[.slice (some ⟨W6.heap.size,0,none⟩) 3 3] W7 _ from YG);have HB7:=aa WR
     have HS8:=aa (λ(W8:World) (hb:Below W7.heap.size W7 W8)=>show W8.heap[bS]?=some (.cells #[.slice (some ⟨g,0,none⟩) n cap,.string aW,.slice (some ⟨lb,0,none⟩) ls.length cp,.int .i64 ((work+na:Nat):Int)] 134 (0,0)) from by have h1:=HS6.out;have h2:=(WR.block _ (ae h1)).trans h1;rw[Mc];exact (hb.block _ (ae h2)).trans h2)
     have QL:=aa l6;have HNA:=aa Mc;have ac1:=aa Jg;have HDM:=aa PJ;have hfc:(f:Int)<=(cp:Int):=by omega
     have hdi:(dm:Int)<=(nb:Int):=by omega
     clear hS6 MH Mc PJ Jg hvr MK YG l6 WR h7c hwt d0 d1 d2 d3 d4 d5 d6 d7 d8 e1 e2 wU;go_wp2_with fail
     go_region_with (first
      | (go_at_call 99;refine abh.out.mono ?_;rintro e W8 ⟨v8,rfl,h8,hb8⟩;obtain ⟨ao8,c8,hv8⟩:=aC h8;subst hv8;have z8:=HS8.out W8 hb8;have z2:W8.cell? ⟨bS,2,none⟩=some (.slice (some ⟨lb,0,none⟩) ls.length cp):=(ag z8 rfl);have z2f:W8.frozen? ⟨bS,2,none⟩=false:=(by simp[World.frozen?,z8]);have HZ8:=aa z8;have HH8:=aa h8;have HB8:=aa hb8;clear z8 h8 hb8))
     all_goals
      have ai:=aa (show uO B bS g n cap G text ls work a an put wc (.returned (.tuple #[])) (W8.setCell ⟨bS,2,none⟩ (.slice ao8 (kX [⟨⟨lb,0,none⟩,f,cp,(ls.take f).flatMap LE.cells⟩,⟨⟨va,0,none⟩,na,vc,anew.flatMap LE.cells⟩,⟨⟨lb,PK,none⟩,nb - dm,cb - dm,((ls.drop kb).drop dm).flatMap LE.cells⟩]) c8)) from by
       have hF:=HF.out;have hCN:=zw.out;have hNL:=sR.out;have hKB:=HKB.out;have YH:=uQ.out;have hDM:=HDM.out;have hNA:=HNA.out;have hTC:=HTC.out
       have abj:kX [⟨⟨lb,0,none⟩,f,cp,(ls.take f).flatMap LE.cells⟩,⟨⟨va,0,none⟩,na,vc,anew.flatMap LE.cells⟩,⟨⟨lb,PK,none⟩,nb - dm,cb - dm,((ls.drop kb).drop dm).flatMap LE.cells⟩]=(ls.take f++anew++(ls.drop kb).drop dm).length:=by simp only[kX,List.map_cons,List.map_nil,List.sum_cons,List.sum_nil,List.length_append,List.length_take,List.length_drop];omega
       have h8:=HH8.out;rw[abj]at h8 ⊢
       have Yr:([⟨⟨lb,0,none⟩,f,cp,(ls.take f).flatMap LE.cells⟩,⟨⟨va,0,none⟩,na,vc,anew.flatMap LE.cells⟩,⟨⟨lb,PK,none⟩,nb - dm,cb - dm,((ls.drop kb).drop dm).flatMap LE.cells⟩]:List Src).flatMap Src.xs=(ls.take f++anew++(ls.drop kb).drop dm).flatMap LE.cells:=by simp only[List.flatMap_cons,List.flatMap_nil,List.flatMap_append,List.append_nil,List.append_assoc]
       rw[Yr]at h8;obtain ⟨W9,Ee⟩:∃W9,W8.setCell ⟨bS,2,none⟩ (.slice ao8 (ls.take f++anew++(ls.drop kb).drop dm).length c8)=W9:=⟨_,rfl⟩;rw[Ee];have o9:aK (λk=>k=bS) W8 W9:=by rw[<-Ee];exact aK.setCell (Y:=λk=>k=bS) (p:=⟨bS,2,none⟩) rfl HZ8.out (by decide) _
       have hS9:W9.heap[bS]?=some (.cells #[.slice (some ⟨g,0,none⟩) n cap,.string aW,.slice ao8 (ls.take f++anew++(ls.drop kb).drop dm).length c8,.int .i64 ((work+na:Nat):Int)] 134 (0,0)):=by rw[<-Ee];simpa using heap_setCell_same W8 bS 2 _ HZ8.out
       have o69:aK (λk=>k=bS) W6 W9:=((aK.au HB7.out).trans (aK.au HB8.out)).trans o9;have Qb:aK (λk=>k=bS) W5 W6:=(aK.au (Below.refl _ _).drew).trans HO6.out;have key:∀(t:TypeId) (k:Nat) c,t≠134->W6.heap[k]?=some (.cells c t (0,0))->W9.heap[k]?=some (.cells c t (0,0)):=λt k c ht hh=>gu o69 HS6.out hh ht
       have SE:=ae HS.out.sh;have abk:B<=W5.heap.size:=by have:=K5.out.size;have:=HS.out.base;omega
       have abl:B<=W7.heap.size:=by have:=Qb.size;have:=HB7.out.size;omega
       have hlT:text.data.toList=A.data.toList++O.data.toList++R.data.toList:=HL.out.2.2;have hcA:A.data.toList.count 10=f:=hF.1.symm;have hcO:O.data.toList.count 10=co:=hF.2.1.symm;have hcP:put.data.toList.count 10=WQ:=hF.2.2.1.symm;have abm:R.data.toList.count 10=cR:=hF.2.2.2.symm;have YI:=HR.out;rw[hlT]at YI;have YJ:A.data.toList.count 10+O.data.toList.count 10+1=kb:=by rw[hcA,hcO];omega
       have UM:1+put.data.toList.count 10=tc:=by rw[hcP];omega
       have hR6:=HR6.out;rw[HT7.out]at hR6;have hF6:=HF6.out;rw[HT7.out]at hF6
       have hed:=dz.UD (P:=put.data.toList) UK.out YI (x:=x.pr) (by rw[List.getElem?_map,hcA,HX.out];rfl) (anew:=anew.map LE.pr) (by rw[List.length_map];exact hR6) (by
        rw[List.length_map,YJ,UM];rcases hF6 with h|⟨h1,h2⟩
        ·exact .inl h
        ·refine .inr ⟨h1,?_⟩;rw[<-List.map_drop,List.map_map];exact h2)
       rw[YJ,UM,hcA,List.length_map,<-hNA,<-hDM,<-List.map_take,<-List.map_drop,<-List.map_drop,<-List.map_append,<-List.map_append]at hed;obtain ⟨sF,hed⟩:=hed
       have YK:=EF (ls:=ls.map LE.pr) (anew:=anew.map LE.pr) (f:=f) (o:=co) (t:=tc) (b:=cR) (by rw[List.length_map];omega) (by rw[List.length_map];omega) (λi y h1 h2=>by
        rw[List.getElem?_map]at h2
        cases hy:anew[i]? with
        | none=>rw[hy]at h2;simp at h2
        | some z=>
         rw[hy]at h2;simp only[Option.map_some,Option.some.injEq]at h2;subst h2;have:=HD6.out i z h1 hy;rw[show f+co+1=kb by omega,<-List.map_drop,List.map_map];exact this)
       rw[List.length_map,show f+co+1=kb by omega,<-hNA,<-hDM,<-List.map_take,<-List.map_drop,<-List.map_drop,<-List.map_append,<-List.map_append,List.map_map,List.map_map]at YK
       refine ⟨rfl,(K5.out.trans Qb).trans o69,aW,_,ls.take f++anew++(ls.drop kb).drop dm,work+na,sF,by rw[HT'.out,HL.out.1,HL.out.2.1],⟨hS9,⟨?_,?_⟩,HS.out.base,by have:=UI.out;have:=Yu.out;omega⟩,by rw[HT'.out];exact hed,Nat.le_add_right _ _,?_,by have h1:=YE.out;rw[aS]at h1;have h2:=List.count_le_length (a:=(10:UInt8)) (l:=T7.data.toList);rw[ah]at h2;have h3:=congrArg List.length HT7.out;rw[ah,List.length_append,List.length_append,List.length_drop,ah,ah,ah]at h3;have h4:=UI.out;have h5:=Yu.out;have h6:=congrArg List.length HL.out.1;rw[ah,List.length_take,ah]at h6;have h7:=congrArg List.length HL.out.2.1;rw[ah,List.length_drop,ah]at h7;omega⟩
       ·exact dn (bm h8 λk c hh=>gu o9 HZ8.out hh (by decide)) abl
       ·intro y hy;rcases List.mem_append.1 hy with hy|hy
        ·rcases List.mem_append.1 hy with hy|hy
         ·have hm:=List.mem_of_mem_take hy;exact ⟨(QL.out.each y hm).1,bm (QL.out.each y hm).2 (λk c=>key _ k c (by decide))⟩
         ·exact ⟨(HL6.out.each y hy).1,dn (bm (HL6.out.each y hy).2 (λk c=>key _ k c (by decide))) abk⟩
        ·have hm:=List.mem_of_mem_drop (List.mem_of_mem_drop hy);exact ⟨(QL.out.each y hm).1,bm (QL.out.each y hm).2 (λk c=>key _ k c (by decide))⟩
       ·rw[<-HL.out.2.1,abm,UM];have:na<=tc+eX (ls.map LE.st) ((ls.take f++anew++(ls.drop kb).drop dm).map LE.st) cR:=YK;omega)
      go_end0;exact ai.out
theorem uR(h:j<t.size):(t.data.toList.take (j+1)).count 10=(t.data.toList.take j).count 10+(if t[j]=10 then 1 else 0):=by
 have hj:t.data.toList[j]?=some t[j]:=by rw[Array.getElem?_toList,Array.getElem?_eq_getElem h];rfl
 rw[List.take_add_one,hj,List.count_append];by_cases h10:t[j]=10
 ·rw[if_pos h10,h10];rfl
 ·rw[if_neg h10];simp[h10]
def G6(t:ByteArray)(w:World)(n0:Nat)(k:Nat)(vn vi:Value)(wr:World):Prop:=
 ∃j c:Nat,vi=.int .i64 j/\vn=.int .i64 c/\c=n0+(t.data.toList.take j).count 10/\j+k=t.size/\wr=w
set_option maxRecDepth 20000 in
set_option maxHeartbeats 1000000 in
theorem B3(t:ByteArray)(w:World)(hz:t.size<=1000000000):Calls Tryz.prog 67 #[.string t] w λe w'=>e=.returned (.int .i64 (t.data.toList.count 10))/\w'=w:=by
 have hlen:t.data.toList.length=t.size:=Array.length_toList;go_enter Tryz.func67,Tryz.ntmps67;go_wp2_with fail;go_loopg [3,4] t.size (λk vn vi wr=>G6 t w 0 k vn vi wr)
 case atStart=>exact ⟨0,0,rfl,rfl,by simp,by omega,rfl⟩
 case round=>
  obtain ⟨j,c,rfl,rfl,hc,hk,rfl⟩:=hrel;by_cases hlt:j<t.size
  ·have g1:decide ((j:Int)<(t.size:Int))=true:=decide_eq_true (by omega);have hwr:IntKind.i64.wrap ((j:Int)+1)=(j:Int)+1:=by rw[IntKind.wrap_i64];omega
   have hst:=uR hlt;have hle:c<=j:=by rw[hc,Nat.zero_add];exact Nat.le_trans List.count_le_length (by rw[List.length_take];omega)
   by_cases h10:t[j]=10
   ·have q1:(((t[j].toNat:Nat):Int)==10)=true:=by rw[h10];rfl
    rw[if_pos h10]at hst;have hwc:IntKind.i64.wrap ((c:Int)+1)=(c:Int)+1:=by rw[IntKind.wrap_i64];omega
    have HST:=aa (show c+1=0+(t.data.toList.take (j+1)).count 10 by omega);clear hst h10 hc hlen;go_wp2_with fail;go_roundg (t.size - (j+1))
    case measure=>omega
    case rel=>exact ⟨j+1,c+1,by simp,by simp,HST.out,by omega,rfl⟩
   ·have q1:(((t[j].toNat:Nat):Int)==10)=false:=by rw[beq_eq_false_iff_ne];intro e;exact h10 (UInt8.toNat_inj.1 (by simpa using Int.ofNat_inj.1 e))
    rw[if_neg h10]at hst;have HST:=aa (show c=0+(t.data.toList.take (j+1)).count 10 by omega);clear hst h10 hc hlen;go_wp2_with fail;go_roundg (t.size - (j+1))
    case measure=>omega
    case rel=>exact ⟨j+1,c,by simp,by simp,HST.out,by omega,rfl⟩
  ·have g1:decide ((j:Int)<(t.size:Int))=false:=decide_eq_false (by omega);have HE:=aa (show Ending.returned (.int .i64 (c:Int))=.returned (.int .i64 (t.data.toList.count 10)) from by rw[hc,List.take_of_length_le (by omega),Nat.zero_add]);clear hc hlen;go_wp2_with fail;go_ret;exact ⟨HE.out,rfl⟩
def B4(xa xb:List Nat)(w:World)(k:Nat)(vi:Value)(wr:World):Prop:=
 ∃j:Nat,vi=.int .i64 j/\j+k=xa.length/\xa.take j=xb.take j/\Below w.heap.size w wr
set_option maxRecDepth 20000 in
set_option maxHeartbeats 1000000 in
theorem ML(w:World)(sa ca sb cb:Nat)(xa xb:List Nat)(ha:cN w sa xa)(hb:cN w sb xb)(hz:xa.length<=1000):
  Calls Tryz.prog 118 #[.slice (some ⟨sa,0,none⟩) xa.length ca,.slice (some ⟨sb,0,none⟩) xb.length cb] w λe w'=>e=.returned (.bool (decide (xa=xb)))/\Below w.heap.size w w':=by
 have HA:=aa ha;have HB:=aa hb;clear ha hb;by_cases hl:xa.length=xb.length
 ·obtain ⟨n,hn⟩:∃n,n=xa.length:=⟨_,rfl⟩;have pF:n=xb.length:=by omega
  rw[<-hn,<-pF];have HN:=aa (And.intro hn pF);have hz':n<=1000:=by omega
  clear hn pF hl hz;go_enter Tryz.func118,Tryz.ntmps118;go_wp2_with fail;go_loopg [5] n (λk vi wr=>B4 xa xb w k vi wr)
  case atStart=>exact ⟨0,rfl,by rw[<-HN.out.1];omega,by simp,Below.refl _ _⟩
  case round=>
   obtain ⟨j,rfl,hk,iv,hbr⟩:=hrel;have qH:=aa hbr;rw[<-HN.out.1]at hk;by_cases hlt:j<n
   ·have g1:decide ((j:Int)<(n:Int))=true:=decide_eq_true (by omega);have hwr:IntKind.i64.wrap ((j:Int)+1)=(j:Int)+1:=by rw[IntKind.wrap_i64];omega
    obtain ⟨x,hx⟩:∃x,xa[j]?=some x:=⟨_,List.getElem?_eq_getElem (by rw[<-HN.out.1];exact hlt)⟩;obtain ⟨y,hy⟩:∃y,xb[j]?=some y:=⟨_,List.getElem?_eq_getElem (by rw[<-HN.out.2];exact hlt)⟩;have cx:=(HA.out.below hbr).cell hx;have cy:=(HB.out.below hbr).cell hy;by_cases MN:x=y
    ·have q1:((x:Int)==(y:Int))=true:=by rw[MN];simp
     have HST:=aa (λm=>show B4 xa xb w (n - (j+1)) (.int .i64 ((j:Int)+1)) (wr.drewN m) from ⟨j+1,by simp,by rw[<-HN.out.1];omega,by rw[List.take_add_one,List.take_add_one,iv,hx,hy,MN],Below.drewN' hbr m⟩);clear iv hx hy MN hbr;go_wp2_with fail;go_quiet (fail);go_wp2_with fail;go_roundg (n - (j+1))
     case measure=>omega
     case rel=>exact HST.out _
    ·have q1:((x:Int)==(y:Int))=false:=by rw[beq_eq_false_iff_ne];omega
     have ai:=aa (show Ending.returned (.bool false)=.returned (.bool (decide (xa=xb))) from by rw[decide_eq_false λe=>MN (by rw[e,hy]at hx;cases hx;rfl)]);clear iv hx hy MN hbr;go_wp2_with fail;go_quiet (fail);go_wp2_with fail;go_ret;exact ⟨ai.out,Below.drewN' qH.out _⟩
   ·have g1:decide ((j:Int)<(n:Int))=false:=decide_eq_false (by omega)
    have ai:=aa (show Ending.returned (.bool true)=.returned (.bool (decide (xa=xb))) from by
     rw[decide_eq_true (by
     have h1:=HN.out.1;have h2:=HN.out.2;rw[List.take_of_length_le (by omega),List.take_of_length_le (by omega)]at iv;exact iv)])
    clear iv hbr;go_wp2_with fail;go_ret;exact ⟨ai.out,qH.out⟩
 ·have q1:((xa.length:Int)==(xb.length:Int))=false:=by rw[beq_eq_false_iff_ne];omega
  have ai:=aa (show Ending.returned (.bool false)=.returned (.bool (decide (xa=xb))) from by rw[decide_eq_false λe=>hl (by rw[e])]);clear hl;go_enter Tryz.func118,Tryz.ntmps118;go_wp2_with fail;go_ret;exact ⟨ai.out,Below.refl _ _⟩
theorem EG(old now:List (List Nat))(j:Nat):eX old now (j+1)=eX old now j+(if old[old.length - (j+1)]?=now[now.length - (j+1)]? then 0 else 1):=by
 unfold eX;rw[List.range_succ,List.countP_append];by_cases h:old[old.length - (j+1)]?=now[now.length - (j+1)]?
 ·rw[if_pos h];simp[h]
 ·rw[if_neg h];simp[h]
theorem B5(old now:List (List Nat))(b:Nat):eX old now b<=b:=by unfold eX;exact Nat.le_trans List.countP_le_length (by simp)
structure pJ(w:World)(v:Value)(es:List RE):Prop where
 row:w.ownsRow 0 57 1 v es.length (es.map RE.ov)
 each:∀e∈es,cN w e.sb e.st/\e.st.length<=8
theorem pJ.below{w':World}(h:pJ w v es)(hb:Below w.heap.size w w'):pJ w' v es:=
 ⟨bm h.row (λk _ hh=>(hb.block k (ae hh)).trans hh),λe he=>⟨(h.each e he).1.below hb,(h.each e he).2⟩⟩
theorem pJ.at{ao:Option Addr}{c:Nat}(h:pJ w (.slice ao n c) es){x:RE}(hx:es[j]?=some x):∃g,ao=some ⟨g,0,none⟩/\w.cell? ⟨g,j,none⟩=some (.slice (some ⟨x.sb,0,none⟩) x.st.length x.fk):=by
 have hr:=h.row;rcases hr.2 with ⟨h1,h2⟩|⟨g,cap,cur,h1,_⟩
 ·have:es=[]:=List.length_eq_zero_iff.1 h2;rw[this]at hx;simp at hx
 ·cases h1;exact ⟨g,rfl,(bG hr (j:=j) (u:=x.ov) (by rw[List.getElem?_map,hx];rfl)).1⟩
def MO(w:World)(c0 b:Nat)(old now:List (List Nat))(k:Nat)(vn vk:Value)(wr:World):Prop:=
 ∃kk n:Nat,vk=.int .i64 kk/\vn=.int .i64 n/\1<=kk/\kk+k=b+1/\n=c0+eX old now (kk - 1)/\Below w.heap.size w wr
set_option maxRecDepth 20000 in
set_option maxHeartbeats 2000000 in
theorem MP(w:World)(vo vn:Value)(old now:List RE)(t:ByteArray)(b:Nat)(ho:pJ w vo old)(hn:pJ w vn now)(hb1:b<=old.length)(hb2:b<=now.length)(ie:old.length<=10000)(hl2:now.length<=10000)(hz:t.size<=1000000000):
  Calls Tryz.prog 89 #[vo,vn,.string t,.int .i64 b] w λe w'=>e=.returned (.int .i64 ((1+t.data.toList.count 10+eX (old.map RE.st) (now.map RE.st) b:Nat):Int))/\Below w.heap.size w w':=by
 have hlen:t.data.toList.length=t.size:=Array.length_toList;obtain ⟨oo,oc,rfl⟩:=aC ho.row;obtain ⟨so,sc,rfl⟩:=aC hn.row;have HO:=aa ho;have ea:=aa hn;obtain ⟨no,hno⟩:∃no,no=old.length:=⟨_,rfl⟩;obtain ⟨nn,rU⟩:∃nn,nn=now.length:=⟨_,rfl⟩;rw[<-hno]at hb1 ie HO ⊢;rw[<-rU]at hb2 hl2 ea ⊢;have WS:=aa hno;have Qn:=aa rU;clear ho hn hno rU
 go_enter Tryz.func89,Tryz.ntmps89;go_wp2_with fail;go_loopg [9,10] t.size (λk vn vi wr=>G6 t w 1 k vn vi wr)
 case atStart=>exact ⟨0,1,rfl,rfl,by simp,by omega,rfl⟩
 case round=>
  obtain ⟨j,c,rfl,rfl,hc,hk,rfl⟩:=hrel;have hle:c<=j+1:=by rw[hc];have:=List.count_le_length (a:=(10:UInt8)) (l:=t.data.toList.take j);rw[List.length_take]at this;omega
  by_cases hlt:j<t.size
  ·have g1:decide ((j:Int)<(t.size:Int))=true:=decide_eq_true (by omega);have hwr:IntKind.i64.wrap ((j:Int)+1)=(j:Int)+1:=by rw[IntKind.wrap_i64];omega
   have hst:=uR hlt;by_cases h10:t[j]=10
   ·have q1:(((t[j].toNat:Nat):Int)==10)=true:=by rw[h10];rfl
    rw[if_pos h10]at hst;have hwc:IntKind.i64.wrap ((c:Int)+1)=(c:Int)+1:=by rw[IntKind.wrap_i64];omega
    have HST:=aa (show c+1=1+(t.data.toList.take (j+1)).count 10 by omega);clear hst h10 hc hlen;go_wp2_with fail;go_roundg (t.size - (j+1))
    case measure=>omega
    case rel=>exact ⟨j+1,c+1,by simp,by simp,HST.out,by omega,rfl⟩
   ·have q1:(((t[j].toNat:Nat):Int)==10)=false:=by rw[beq_eq_false_iff_ne];intro e;exact h10 (UInt8.toNat_inj.1 (by simpa using Int.ofNat_inj.1 e))
    rw[if_neg h10]at hst;have HST:=aa (show c=1+(t.data.toList.take (j+1)).count 10 by omega);clear hst h10 hc hlen;go_wp2_with fail;go_roundg (t.size - (j+1))
    case measure=>omega
    case rel=>exact ⟨j+1,c,by simp,by simp,HST.out,by omega,rfl⟩
  ·have g1:decide ((j:Int)<(t.size:Int))=false:=decide_eq_false (by omega);have hc':c=1+t.data.toList.count 10:=by rw[hc,List.take_of_length_le (by omega)]
   obtain ⟨w0,hw0⟩:∃w0,w0=wr:=⟨_,rfl⟩;subst hw0;have HC:=aa hc';have G0:c<=1000000001:=by omega
   clear hc hlen hc' hle;go_wp2_with fail;go_loopg [9,11] b (λk vn vk W=>MO w0 c b (old.map RE.st) (now.map RE.st) k vn vk W)
   case atStart=>exact ⟨1,c,rfl,rfl,Nat.le_refl _,by omega,by simp[eX],Below.refl _ _⟩
   case round=>
    obtain ⟨kk,m,rfl,rfl,eJ,hkb,hm,hbr⟩:=hrel;have qH:=aa hbr;by_cases hlt:kk<=b
    ·have g1:decide ((kk:Int)<=(b:Int))=true:=decide_eq_true (by omega);have uP:IntKind.i64.wrap ((kk:Int)+1)=(kk:Int)+1:=by rw[IntKind.wrap_i64];omega
     obtain ⟨io,hio⟩:∃io,io=no - kk:=⟨_,rfl⟩;obtain ⟨ip,hip⟩:∃ip,ip=nn - kk:=⟨_,rfl⟩;have w1:IntKind.i64.wrap ((no:Int) - (kk:Int))=(io:Int):=by rw[IntKind.wrap_i64];omega
     have w2:IntKind.i64.wrap ((nn:Int) - (kk:Int))=(ip:Int):=by rw[IntKind.wrap_i64];omega
     have l1:io<no:=by omega
     have l2:ip<nn:=by omega
     obtain ⟨x,hx⟩:∃x,old[io]?=some x:=⟨_,List.getElem?_eq_getElem (by rw[<-WS.out];exact l1)⟩;obtain ⟨y,hy⟩:∃y,now[ip]?=some y:=⟨_,List.getElem?_eq_getElem (by rw[<-Qn.out];exact l2)⟩;obtain ⟨ga,hga,cx⟩:=(HO.out.below hbr).at hx;obtain ⟨gb,hgb,cy⟩:=(ea.out.below hbr).at hy;subst hga;subst hgb
     have hst:eX (old.map RE.st) (now.map RE.st) kk=eX (old.map RE.st) (now.map RE.st) (kk - 1)+(if x.st=y.st then 0 else 1):=by have h:=EG (old.map RE.st) (now.map RE.st) (kk - 1);have h1:=WS.out;have h2:=Qn.out;rw[show kk - 1+1=kk by omega,List.length_map,List.length_map,<-h1,<-h2,<-hio,<-hip,List.getElem?_map,List.getElem?_map,hx,hy]at h;simpa using h
     have UN:=aa (λW' (hb:Below wr.heap.size wr W')=>ML W' x.sb x.fk y.sb y.fk x.st y.st ((((HO.out.below qH.out).each x (List.mem_of_getElem? hx)).1).below hb) ((((ea.out.below qH.out).each y (List.mem_of_getElem? hy)).1).below hb) (by have:=((HO.out.below qH.out).each x (List.mem_of_getElem? hx)).2;omega))
     have hwn:IntKind.i64.wrap ((m:Int)+1)=(m:Int)+1:=by have hmz:=B5 (old.map RE.st) (now.map RE.st) (kk - 1);rw[IntKind.wrap_i64];omega
     have HM:=aa hm;have Jh:=aa hst;clear hio hip hx hy hbr hm hst;obtain ⟨sx,hsx⟩:∃sx,sx=decide (x.st=y.st):=⟨_,rfl⟩;have YL:=aa hsx;rw[<-hsx]at UN;clear hsx;obtain ⟨lx,hlx⟩:∃lx,lx=x.st.length:=⟨_,rfl⟩;obtain ⟨ly,UO⟩:∃ly,ly=y.st.length:=⟨_,rfl⟩;rw[<-hlx,<-UO]at UN;rw[<-hlx]at cx;rw[<-UO]at cy;clear hlx UO;go_wp2_with fail
     go_region_held3 (λw'=>w'.cell? ⟨ga,io,none⟩=some (.slice (some ⟨x.sb,0,none⟩) lx x.fk)/\w'.cell? ⟨gb,ip,none⟩=some (.slice (some ⟨y.sb,0,none⟩) ly y.fk))
      (first
       | with_reducible exact k1
       | with_reducible exact k2
       | go_keep)
      (first|(go_at_call 118;refine (UN.out _ (Below.refl _ _).drew).mono ?_;clear UN;rintro e W3 ⟨rfl,hb3⟩;have k1:=ax (w:=wr.drew) cx hb3;have k2:=ax (w:=wr.drew) cy hb3;have fB:=aa hb3;clear hb3))
     all_goals
      have HB:=aa (show Below w0.heap.size w0 W3 from qH.out.trans ((show Below wr.heap.size wr W3 from ⟨fB.out.os,fB.out.tape,fB.out.output,fB.out.size,fB.out.block⟩).mono qH.out.size))
      cases sx with
      | true=>
       have HST:=aa (show m=c+eX (old.map RE.st) (now.map RE.st) (kk+1 - 1) from by have hst:=Jh.out;have hm:=HM.out;rw[if_pos (of_decide_eq_true YL.out.symm)]at hst;rw[Nat.add_sub_cancel];omega);go_wp2_with fail;go_roundg (b - kk)
       case measure=>omega
       case rel=>exact ⟨kk+1,m,by simp,by simp,by omega,by omega,HST.out,HB.out⟩
      | false=>
       have HST:=aa (show m+1=c+eX (old.map RE.st) (now.map RE.st) (kk+1 - 1) from by have hst:=Jh.out;have hm:=HM.out;rw[if_neg (of_decide_eq_false YL.out.symm)]at hst;rw[Nat.add_sub_cancel];omega);go_wp2_with fail;go_roundg (b - kk)
       case measure=>omega
       case rel=>exact ⟨kk+1,m+1,by simp,by simp,by omega,by omega,HST.out,HB.out⟩
    ·have g1:decide ((kk:Int)<=(b:Int))=false:=decide_eq_false (by omega);have YM:kk - 1=b:=by omega
     rw[YM]at hm;have HE:=aa (show Ending.returned (.int .i64 (m:Int))=.returned (.int .i64 ((1+t.data.toList.count 10+eX (old.map RE.st) (now.map RE.st) b:Nat):Int)) from by rw[hm,HC.out]);clear hm hbr;go_wp2_with fail;go_ret;exact ⟨HE.out,qH.out⟩
end Go.Proofs.YtgncgdkpkkdaeaaGreatDoor
