import Derived.Test.YtgncgdkpkkdaeaaGreatDoorA7
import Derived.Lib.AppendZerosOnto
import Derived.Test.YtgncgdkpkkdaeaaGreatDoorSh3
set_option maxRecDepth 20000
set_option maxHeartbeats 4000000
namespace Go.Proofs.YtgncgdkpkkdaeaaGreatDoor
open Go.RowKit bu Go.Maps Go.Shelf
variable {t:ByteArray} {G:List GS} {l ls:List LE} {es:List RE} {A:List UInt8} {B b f j k n q y:Nat} {u v:Value} {w w':World}
theorem qo:(Tryz.prog.info? 151).map (λi=>(i.zero,i.size,i.bytes))=some (some (.agg #[.int .i64 0,.int .i64 0,.int .i64 0,.int .i64 0,.int .i64 0,.int .i64 0,.int .i64 0,.int .i64 0,.int .i64 0,.slice none 0 0]),10,96):=by kernel_rfl
def CP(w:World)(e:Ending)(w':World):Prop:=∃ao c,e=.returned (.slice ao 0 c)/\w'.ownsRow w.heap.size 151 10 (.slice ao 0 c) 0 []/\Below w.heap.size w w'
theorem NB(n:Nat)(hn:n<=1000000)(hp:0<n)(w:World):Calls Tryz.prog 137 #[.slice none 0 0,.int .i64 n] w (CP w):=by
 obtain ⟨i0,uL,hz0,hs0,hb0⟩:=info_parts qo;have g0:decide ((n:Int)<0)=false:=bV (by omega);have g1:decide ((0:Int)<(n:Int))=true:=cF (by omega);have hwn:IntKind.i64.wrap ((n:Int) - 0)=(n:Int):=by rw[IntKind.wrap_i64];omega
 obtain ⟨G,hG⟩:∃G,G=grownCap w n 0 151:=⟨_,rfl⟩;have hGn:n<=G:=by rw[hG];exact grownCap_ge w _ _ _
 have hGm:G<=maxLen:=by rw[hG];exact grownCap_le_maxLen w n 0 _ (by unfold maxLen;omega)
 obtain ⟨cz,Ir⟩:∃cz,cz=(([]:List Value).toArray++Builtin.zeroCells (Value.agg #[.int .i64 0,.int .i64 0,.int .i64 0,.int .i64 0,.int .i64 0,.int .i64 0,.int .i64 0,.int .i64 0,.int .i64 0,.slice none 0 0]).cells n++Builtin.zeroCells (Value.agg #[.int .i64 0,.int .i64 0,.int .i64 0,.int .i64 0,.int .i64 0,.int .i64 0,.int .i64 0,.int .i64 0,.int .i64 0,.slice none 0 0]).cells (G - n)):=⟨_,rfl⟩
 have hsz:cz.size=G*10:=by rw[Ir];have hzs:(Value.agg #[.int .i64 0,.int .i64 0,.int .i64 0,.int .i64 0,.int .i64 0,.int .i64 0,.int .i64 0,.int .i64 0,.int .i64 0,.slice none 0 0]).cells.size=10:=rfl;simp only[Array.size_append,List.size_toArray,size_zeroCells,hzs,List.length_nil];omega
 have JC:∀ty,(Builtin.append_ #[132,3] ty #[.slice none 0 0,.int .i64 (n:Int)]).run Tryz.prog w=.ok (.slice (some ⟨w.heap.size,0,none⟩) n G) (w.drew.alloc (.cells cz 151)):=λty=>by
  have h:=Lib.run_append_grow_zeros w 132 3 ty 151 i0 _ .i64 .i64 Tryz.underlying132 Tryz.underlying3 uL hz0 none 0 0 [] (run_firstCells_none w.drew i0.size 0 0 0) n hp (by omega) (by omega) (by omega) (by rw[hb0];omega) (by rw[hb0,Nat.zero_add];exact growslice_fits hp (by omega));rw[Nat.zero_add,<-hG,<-Ir]at h;exact h
 have aq:=aa (show CP w (.returned (.slice (some ⟨w.heap.size,0,none⟩) 0 G)) (w.drew.alloc (.cells cz 151)) from
  ⟨_,_,rfl,⟨rfl,.inr ⟨w.heap.size,G,cz,rfl,bc _,ag w.drew _,Nat.zero_le _,hGm,hsz,rfl⟩⟩,((Below.refl _ _).drew).alloc (bc _) _⟩)
 clear hG Ir hsz;go_enter Tryz.func137,Tryz.ntmps137;go_wp2_with (at_builtin;refine Lib.wpList_append_run _ rfl _ _ _ _ rfl _ _ rfl rfl _ _ (JC _) ?_)
 all_goals (go_ret;exact aq.out)
structure Src where
 ad:Addr
 n:Nat
 c:Nat
 xs:List Value
def td(w:World)(s:Src):Prop:=s.xs.length=s.n*10/\(∀(y:Nat) u,s.xs[y]?=some u->w.cell? (s.ad.add y)=some u)/\∀u∈s.xs,u.oneCell'=true
variable {s:Src}
theorem td.below(h:td w s)(hb:Below w.heap.size w w'):td w' s:=⟨h.1,λy u hu=>ax (h.2.1 y u hu) hb,h.2.2⟩
def lO(l:List Src):Nat:=(l.map Src.n).sum
theorem yI{l:List Src}(h:l[j]?=some s):lO (l.take (j+1))=lO (l.take j)+s.n:=by unfold lO;rw[List.take_add_one,h];simp
theorem Iu(l:List Src)(j:Nat):lO (l.take j)<=lO l:=by
 unfold lO
 conv=>rhs;rw[<-List.take_append_drop j l]
 rw[List.map_append,List.sum_append];omega
def Iw(l:List Src)(w:World)(e:Ending)(w':World):Prop:=∃v,e=.returned v/\w'.ownsRow w.heap.size 151 10 v (lO l) (l.flatMap Src.xs)/\Below w.heap.size w w'
def NC(l:List Src)(w:World)(k:Nat)(vn vi:Value)(wr:World):Prop:=∃j m:Nat,vi=.int .i64 j/\vn=.int .i64 m/\m=lO (l.take j)/\j+k=l.length/\wr=w
def CQ(l:List Src)(w:World)(k:Nat)(vn vi:Value)(wr:World):Prop:=∃(j m:Nat) (ao:Option Addr) (c:Nat),vi=.int .i64 j/\vn=.slice ao m c/\m=lO (l.take j)/\j+k=l.length/\wr.ownsRow w.heap.size 151 10 (.slice ao m c) m ((l.take j).flatMap Src.xs)/\Below w.heap.size w wr
theorem Fv(bk c:Nat)(l:List Src)(w:World)(hl:l.length<=10)(hp:0<lO l)(hs:lO l<=1000000)(hc:∀(j:Nat) s,l[j]?=some s->w.cell? ⟨bk,j,none⟩=some (.slice (some s.ad) s.n s.c)/\td w s):
  Calls Tryz.prog 99 #[.slice (some ⟨bk,0,none⟩) l.length c] w (Iw l w):=by
 have HC:=aa hc;obtain ⟨nl,fO⟩:∃nl,nl=l.length:=⟨_,rfl⟩;rw[<-fO]at hl ⊢;have tS:=aa fO;clear hc fO;go_enter Tryz.func99,Tryz.ntmps99;go_wp2_with fail;go_loopg [3,11] nl (λk vn vi wr=>NC l w k vn vi wr)
 case atStart=>exact ⟨0,0,rfl,rfl,rfl,by rw[<-tS.out];omega,rfl⟩
 case round=>
  obtain ⟨j,m,rfl,rfl,hm,hk,rfl⟩:=hrel;rw[<-tS.out]at hk;by_cases hlt:j<nl
  ·have g1:decide ((j:Int)<(nl:Int))=true:=cF (by omega);have hwr:IntKind.i64.wrap ((j:Int)+1)=(j:Int)+1:=by rw[IntKind.wrap_i64];omega
   obtain ⟨s,hsj⟩:∃s,l[j]?=some s:=⟨_,cB (by rw[<-tS.out];exact hlt)⟩;have c1:=(HC.out j s hsj).1;have hst:=yI hsj;have hle:=Iu l (j+1);have JH:IntKind.i64.wrap ((m:Int)+(s.n:Int))=(m:Int)+(s.n:Int):=by rw[IntKind.wrap_i64];omega
   have g2:decide ((m:Int)+(s.n:Int)<0)=false:=bV (by omega);have HST:=aa (show m+s.n=lO (l.take (j+1)) by omega);clear hst hle hm hsj;go_wp2_with fail;go_roundg (nl - (j+1))
   case measure=>omega
   case rel=>exact ⟨j+1,m+s.n,by simp,by simp,HST.out,by rw[<-tS.out];omega,rfl⟩
  ·have g1:decide ((j:Int)<(nl:Int))=false:=bV (by omega);have Fg:m=lO l:=by rw[hm,List.take_of_length_le (by have:=tS.out;omega)]
   obtain ⟨w0,hw0⟩:∃w0,w0=wr:=⟨_,rfl⟩;subst hw0;rw[<-Fg]at hp hs;have Zb:=aa (NB m hs hp w0);have HM:=aa Fg;clear hm Fg;go_wp2_with fail;refine Zb.out.mono ?_;rintro e w1 ⟨Vu,c1,rfl,vM,hb1⟩;have Qx:=aa vM;have bM:=aa hb1;obtain ⟨i0,uL,hz0,hs0,abM⟩:=info_parts qo;clear vM hb1 Zb;go_wp2_with fail
   go_loopg [6,27] nl (λk vn vi wr=>CQ l w0 k vn vi wr)
   case atStart=>exact ⟨0,0,Vu,c1,rfl,rfl,rfl,by rw[<-tS.out];omega,Qx.out,bM.out⟩
   case round=>
    obtain ⟨j2,m2,ao,cp,rfl,rfl,RA,hk2,hrow,hb⟩:=hrel;rw[<-tS.out]at hk2;by_cases iW:j2<nl
    ·have g3:decide ((j2:Int)<(nl:Int))=true:=cF (by omega);have hwr:IntKind.i64.wrap ((j2:Int)+1)=(j2:Int)+1:=by rw[IntKind.wrap_i64];omega
     obtain ⟨s,hsj⟩:∃s,l[j2]?=some s:=⟨_,cB (by rw[<-tS.out];exact iW)⟩;have cs:=ax (HC.out j2 s hsj).1 hb;have Zc:=(HC.out j2 s hsj).2.below hb;have hst:=yI hsj;have hle:=Iu l (j2+1);have Fg:=HM.out;have hbz:m2+s.n<=1000000:=by omega
     have hbase:w0.heap.size<=wr.heap.size:=hb.size;have bj:=aa hrow;have RB:=aa Zc
     have fk:=aa (λ(v':Value) (W:World) (hr:W.ownsRow w0.heap.size 151 10 v' (m2+s.n) ((l.take j2).flatMap Src.xs++s.xs)) (hg:wr.grownBy W (Value.slice ao m2 cp).ownBlock)=>show CQ l w0 (nl - (j2+1)) v' (.int .i64 ((j2:Int)+1)) W from by
      obtain ⟨pW,c',hv'⟩:=aC hr;subst hv';refine ⟨j2+1,m2+s.n,pW,c',by simp,rfl,by omega,by rw[<-tS.out];omega,?_,?_⟩
      ·rw[List.take_add_one,hsj,List.flatMap_append];simpa using hr
      ·exact hb.trans ⟨hg.os,hg.tape,hg.output,hg.size,λk hk=>hg.block k (dw hk hb.size) (λe=>by have:=(ar bj.out e.symm).1;omega)⟩)
     clear hrow hb Zc hst hle Fg RA hsj
     go_wp2_with (at_builtin;go_loud (refine wpList_append_own_at _ rfl (.tmp 31) (.tmp 32) 132 rfl w0.heap.size 151 i0 _ 10 96 Tryz.underlying132 uL hz0 hs0 abM rfl (by decide) (.slice ao m2 cp) m2 ((l.take j2).flatMap Src.xs) (by rfl) bj.out s.ad s.n s.c s.xs (by rfl) RB.out.1 RB.out.2.1 RB.out.2.2 (by unfold maxLen;omega) (by omega) hbase ?_;intro v' W hown hg _ _;have HST:=aa (fk.out v' W hown hg);obtain ⟨pW,c',hv'⟩:=aC hown;subst hv';clear hown hg fk bj RB))
     go_wp2_with fail;go_roundg (nl - (j2+1))
     case measure=>omega
     case rel=>exact HST.out
    ·have g3:decide ((j2:Int)<(nl:Int))=false:=bV (by omega);have aq:=aa (show Iw l w0 (.returned (.slice ao m2 cp)) wr from ⟨_,rfl,by have e:=tS.out;rw[List.take_of_length_le (by omega)]at RA hrow;rw[<-RA];exact hrow,hb⟩);clear hrow hb RA;go_wp2_with fail;go_ret;exact aq.out
theorem Fw(p q:List UInt8):aF (p++10::q)=aF p++aF q:=by
 induction p with
 | nil=>simp[aF]
 | cons x t ih=>
  rw[List.cons_append,aF,aF,ih];by_cases h:x=10
  ·rw[if_pos h,if_pos h,List.cons_append]
  ·rw[if_neg h,if_neg h]
   cases hs:aF t with
   | nil=>exact absurd hs (iK t)
   | cons l ls=>rfl
theorem oH(U R:List UInt8):(aF (U++R)).drop (1+U.count 10)=(aF R).tail:=by
 induction U with
 | nil=>simp
 | cons x t ih=>
  rw[List.cons_append,aF];by_cases h:x=10
  ·rw[if_pos h,h,List.count_cons_self,show 1+(List.count 10 t+1)=(1+List.count 10 t)+1 by omega,List.drop_succ_cons,ih]
  ·rw[if_neg h,List.count_cons_of_ne (by simpa using h)];rw[show 1+List.count 10 t=List.count 10 t+1 by omega]at ih ⊢
   cases hs:aF (t++R) with
   | nil=>exact absurd hs (iK _)
   | cons l ls=>
    rw[hs,List.drop_succ_cons]at ih;show List.drop (List.count 10 t+1) ((x::l)::ls)=_;rw[List.drop_succ_cons,ih]
def Vv(A:List UInt8)(k:Nat):Prop:=k<=A.length/\(10:UInt8)∉A.drop k/\(k=0∨∃p,A.take k=p++[10])
theorem Am(h:Vv A k):∃xs,xs.length=A.count 10/\∀b,aF (A++b)=xs++aF (A.drop k++b):=by
 obtain ⟨h1,h2,rfl|⟨p,hp⟩⟩:=h
 ·exact ⟨[],by rw[List.count_eq_zero.2 (by simpa using h2)];rfl,λb=>by simp⟩
 ·have hA:A=p++10::A.drop k:=by have:=List.take_append_drop k A;rw[hp]at this;simpa using this.symm
  refine ⟨aF p,?_,λb=>?_⟩
  ·have h3:A.count 10=p.count 10+((A.drop k).count 10+1):=by
    conv=>lhs;rw[hA]
    rw[List.count_append,List.count_cons_self]
   rw[aT,h3,List.count_eq_zero.2 h2];omega
  ·have:A++b=p++10::(A.drop k++b):=by rw[<-List.cons_append,<-fP,<-hA]
   rw[this,Fw]
theorem dZ.at{st:List Nat}{ls:List (List UInt8)}{out:List (List Nat×List Sp)}{st':List Nat}(h:dZ G st ls out st'):∀{k:Nat} {x:List Nat×List Sp},out[k]?=some x->dZ G st (ls.take k) (out.take k) x.1/\dZ G x.1 (ls.drop k) (out.drop k) st':=by
 induction h with
 | nil=>intro k x hx;simp at hx
 | cons a b ih=>
  intro k x hx
  cases k with
  | zero=>simp at hx;subst hx;exact ⟨.nil,.cons a b⟩
  | succ k=>
   simp only[List.getElem?_cons_succ]at hx;exact ⟨.cons a (ih hx).1,(ih hx).2⟩
theorem dZ.Vw{O R P:List UInt8}(hk:Vv A k){s0:List Nat}{ls:List (List Nat×List Sp)}{sE:List Nat}(h:dZ G s0 (aF (A++O++R)) ls sE){x:List Nat×List Sp}(hx:ls[A.count 10]?=some x)
  {anew:List (List Nat×List Sp)} {st:List Nat} (ha:dZ G x.1 ((aF (A.drop k++P++R)).take anew.length) anew st)
  (ND:anew.length=(aF (A.drop k++P++R)).length∨(1+P.count 10<=anew.length/\((ls.drop (A.count 10+O.count 10+1)).map (·.1))[anew.length - (1+P.count 10)]?=some st)):
  ∃sF,dZ G s0 (aF (A++P++R)) (ls.take (A.count 10)++anew++(ls.drop (A.count 10+O.count 10+1)).drop (anew.length - (1+P.count 10))) sF:=by
 obtain ⟨xs,Zd,hsp⟩:=Am hk;have Ze:(A.drop k).count 10=0:=List.count_eq_zero.2 hk.2.1;have hlen:=h.length;rw[aT]at hlen;simp only[List.count_append]at hlen;have h1:=(h.at hx).1;rw[fP,hsp,List.take_left' Zd]at h1;have hw:(aF (A.drop k++P++R)).length=1+P.count 10+R.count 10:=by rw[aT];simp only[List.count_append,Ze];omega
 have NE:aF (A++P++R)=xs++aF (A.drop k++P++R):=by rw[fP,hsp,<-fP]
 rcases ND with he|⟨ht,hs⟩
 ·refine ⟨st,?_⟩;rw[he,List.take_length]at ha;rw[List.drop_drop,List.drop_of_length_le (by omega),List.append_nil,NE];exact h1.append ha
 ·obtain ⟨m,hm⟩:∃m,anew.length=1+P.count 10+m:=⟨anew.length - (1+P.count 10),by omega⟩;rw[hm,Nat.add_sub_cancel_left]at hs ⊢;rw[fX]at hs
  cases hy:(ls.drop (A.count 10+O.count 10+1))[m]? with
  | none=>rw[hy]at hs;simp at hs
  | some y=>
   rw[hy]at hs;simp only[Option.map_some,fA]at hs;rw[List.getElem?_drop]at hy;have h2:=(h.at hy).2;rw[hs,<-List.drop_drop,show A.count 10+O.count 10+1=1+(A++O).count 10 by rw[List.count_append];omega,oH,<-List.drop_drop]at h2;refine ⟨sE,?_⟩
   have hd:(aF (A.drop k++P++R)).drop anew.length=(aF R).tail.drop m:=by have:=oH (A.drop k++P) R;rw[hm,<-List.drop_drop,<-this];congr 2;simp only[List.count_append,Ze];omega
   rw[NE,<-List.take_append_drop anew.length (aF (A.drop k++P++R)),hd,fP (ls.take _)];refine h1.append (ha.append ?_);rw[show A.count 10+O.count 10+1=1+(A++O).count 10 by rw[List.count_append];omega];exact h2
theorem CR{p:Nat->Bool}{d:Nat}(hd:d<=b)(h:∀j,b - d<=j->j<b->p j=true):d<=(List.range b).countP p:=by
 have e:List.range b=(List.range b).take (b - d)++(List.range b).drop (b - d):=(List.take_append_drop _ _).symm;rw[e,List.countP_append]
 have:((List.range b).drop (b - d)).countP p=d:=by
  rw[List.countP_eq_length.2]
  ·simp;omega
  ·intro a ha;obtain ⟨i,hi,rfl⟩:=List.mem_iff_getElem.1 ha;simp at hi ⊢;exact h _ (by omega) (by omega)
 omega
def fE(old now:List (List Nat))(b:Nat):Nat:=(List.range b).countP λj=>decide (old[old.length - (j+1)]?≠now[now.length - (j+1)]?)
theorem Fy{ls anew:List (List Nat×List Sp)}{o t:Nat}(Vx:ls.length=f+o+1+b)(ha:anew.length<=t+b)(hd:∀(i:Nat) x,t<=i->anew[i]?=some x->((ls.drop (f+o+1)).map (·.1))[i - t]?≠some x.1):
  anew.length<=t+fE (ls.map (·.1)) ((ls.take f++anew++(ls.drop (f+o+1)).drop (anew.length - t)).map (·.1)) b:=by
 rcases ed t anew.length with hlt|kO
 ·obtain ⟨d,hdd⟩:∃d,anew.length=t+d:=⟨anew.length - t,by omega⟩
  have key:=CR (b:=b) (d:=d) (p:=λj=>decide ((ls.map (·.1))[(ls.map (·.1)).length - (j+1)]?≠((ls.take f++anew++(ls.drop (f+o+1)).drop (anew.length - t)).map (·.1))[((ls.take f++anew++(ls.drop (f+o+1)).drop (anew.length - t)).map (·.1)).length - (j+1)]?)) (by omega) (λj h1 h2=>by
   obtain ⟨x,hx⟩:∃x,anew[t+(b - 1 - j)]?=some x:=⟨_,cB (by omega)⟩;have h3:=hd _ x (by omega) hx;rw[fX,List.getElem?_drop]at h3;have hl:(ls.map (·.1)).length - (j+1)=f+o+1+(b - 1 - j):=by rw[fy];omega
   have hn:((ls.take f++anew++(ls.drop (f+o+1)).drop (anew.length - t)).map (·.1)).length - (j+1)=f+(t+(b - 1 - j)):=by simp;omega
   have rS:((ls.take f++anew++(ls.drop (f+o+1)).drop (anew.length - t)).map (·.1))[f+(t+(b - 1 - j))]?=some x.1:=by rw[fX,fP,pS (by simp;omega),nz (by simp;omega)];rw[show f+(t+(b - 1 - j)) - (ls.take f).length=t+(b - 1 - j) by simp;omega,hx];rfl
   simp only[decide_eq_true_eq];rw[hl,hn,rS,fX];rw[show t+(b - 1 - j) - t=b - 1 - j by omega]at h3;exact h3)
  unfold fE;omega
 ·omega
theorem rT{x:UInt8}(h:t.data.toList[j]?=some x):t.data[j]! = x:=by rw[Array.getElem?_toList]at h;rw[getElem!_def,h]
theorem Vy(A:ByteArray):∃k:Nat,Lib.lastIndexByte A 10+1=(k:Int)/\k<=A.size/\Vv A.data.toList k:=by
 rcases Lib.lastIndexByte_spec A 10 with ⟨h1,h2⟩|⟨i,h1,h2,h3,h4⟩
 ·refine ⟨0,by rw[h1];rfl,Nat.zero_le _,Nat.zero_le _,?_,.inl rfl⟩;intro hm;rw[List.drop_zero]at hm;obtain ⟨j,hj⟩:=List.mem_iff_getElem?.1 hm;have:=az hj;rw[aj]at this;refine h2 j this ?_;rw[rT hj];rfl
 ·have hi:A.data.toList[i]?=some 10:=by
   have hlt:i<A.data.toList.length:=by rw[aj];exact h1
   obtain ⟨x,hx⟩:∃x,A.data.toList[i]?=some x:=⟨_,cB hlt⟩;rw[rT hx]at h3;rw[hx];congr 1;exact UInt8.toNat_inj.1 (by simpa using Int.ofNat_inj.1 h3)
  refine ⟨i+1,by rw[h2];rfl,by omega,by rw[aj];omega,?_,.inr ⟨A.data.toList.take i,by rw[List.take_add_one,hi];rfl⟩⟩;intro hm;obtain ⟨j,hj⟩:=List.mem_iff_getElem?.1 hm;rw[List.getElem?_drop]at hj;have:=az hj;rw[aj]at this;refine h4 (i+1+j) (by omega) this ?_;rw[rT hj];rfl
theorem Zf(a b c:List UInt8):Lib.join [a,b,c] []=a++b++c:=by rw[Lib.join_cons];simp[Lib.joinTail]
theorem addr_add(b o y:Nat):(⟨b,o,none⟩:Addr).add y=⟨b,o+y,none⟩:=by
 unfold Addr.add;split
 ·rename_i h;subst h;rfl
 ·rfl
theorem cL.Ix(h:cL w B v ls):∀x∈ls,x.cells.length=10:=λx hx=>LE.length (h.each x hx).1
theorem vN(h:∀x∈l,x.cells.length=10):(l.flatMap LE.cells).length=l.length*10:=by
 induction l with
 | nil=>rfl
 | cons x l ih=>rw[List.flatMap_cons,dG,ih (λy hy=>h y (List.mem_cons_of_mem _ hy)),h x List.mem_cons_self,fe];omega
theorem J3(h:∀x∈l,x.cells.length=10)(q:Nat):(l.drop q).flatMap LE.cells=(l.flatMap LE.cells).drop (q*10):=by
 induction q generalizing l with
 | zero=>simp
 | succ q ih=>
  cases l with
  | nil=>simp
  | cons x l=>
   rw[List.drop_succ_cons,ih (λy hy=>h y (List.mem_cons_of_mem _ hy)),List.flatMap_cons,show (q+1)*10=10+q*10 by omega,<-List.drop_drop,<-h x List.mem_cons_self,List.drop_left]
theorem NF(h:((l.take f).flatMap LE.cells)[y]?=some u):(l.flatMap LE.cells)[y]?=some u:=by
 conv=>lhs;rw[<-List.take_append_drop f l,List.flatMap_append]
 rw[nz (az h)];exact h
theorem cL.RD(h:cL w B v ls):(ls.flatMap LE.cells).length=ls.length*10:=vN h.Ix
theorem cL.take_len(h:cL w B v ls)(hf:f<=ls.length):((ls.take f).flatMap LE.cells).length=f*10:=by rw[vN (λx hx=>h.Ix x (List.mem_of_mem_take hx)),List.length_take];congr 1;omega
theorem cL.CS(h:cL w B v ls):((ls.drop q).flatMap LE.cells).length=(ls.length - q)*10:=by rw[vN (λx hx=>h.Ix x (List.mem_of_mem_drop hx)),List.length_drop]
theorem cL.part{lb cp:Nat}(h:cL w B (.slice (some ⟨lb,0,none⟩) n cp) ls)(hu:((ls.drop q).flatMap LE.cells)[y]?=some u):w.cell? ⟨lb,q*10+y,none⟩=some u:=by obtain ⟨ao,c,hv⟩:=aC h.row;cases hv;rw[J3 h.Ix,List.getElem?_drop]at hu;exact (bG h.row hu).1
theorem cL.one(h:cL w B v ls)(hu:∃x,x∈ls/\u∈x.cells):u.oneCell'=true:=by
 obtain ⟨x,hx,hu⟩:=hu;unfold LE.cells at hu;rcases List.mem_append.1 hu with hu|hu
 ·unfold aL at hu;obtain ⟨y,_,rfl⟩:=List.mem_map.1 hu;rfl
 ·rw[List.mem_singleton.1 hu];obtain ⟨ao,c,hv⟩:=aC (h.each x hx).2;rw[hv];rfl
def vO(B bS g n cap:Nat)(G:List GS)(text:ByteArray)(ls:List LE)(work a an:Nat)(put:ByteArray)(w:World)(e:Ending)(w':World):Prop:=
 e=.returned (.tuple #[])/\aM (λk=>k=bS) w w'/\∃(aX:ByteArray) (lv':Value) (ke:List LE) (bY:Nat) (sF:List Nat),
  aX.data.toList=text.data.toList.take a++put.data.toList++text.data.toList.drop an/\bZ w' B bS g n cap aX lv' ke bY/\dZ G [0] (aF aX.data.toList) (ke.map LE.pr) sF /\
  work<=bY/\bY<=work+(1+put.data.toList.count 10+fE (ls.map LE.st) (ke.map LE.st) ((text.data.toList.drop an).count 10))/\bY<=work+3001
theorem th
  (N B bS g n cap:Nat) (G:List GS) (text:ByteArray) (lv:Value) (ls:List LE) (work a nn:Nat) (put:ByteArray) (sE:List Nat) (w:World)
  (eM:yq G) (lY:0<G.length) (hT:lC w) (h0:1 < N) (hG:∀w',Below N w w'->cd w' g n cap G) (hN:N<=B) (hM:Mx w) (BZ:0 < N)
  (h:bZ w B bS g n cap text lv ls work) (hr:dZ G [0] (aF text.data.toList) (ls.map LE.pr) sE) (ub:work<=1000000000000000000) (ha:a+nn<=text.size) (hz:text.size+put.size<=3000+nn):
  Calls Tryz.prog 72 #[.pointer (some ⟨bS,0,none⟩),.int .i64 a,.int .i64 nn,.string put] w (vO B bS g n cap G text ls work a (a+nn) put w):=by
 have hlen:=hr.length;rw[fy,aT]at hlen;obtain ⟨oC,cp,hlv⟩:=aC h.fU.row;obtain ⟨x0,hx0⟩:∃x,ls[0]?=some x:=⟨_,cB (by omega)⟩;subst hlv;obtain ⟨lb,pO,adq,-⟩:=h.fU.cells hx0;subst pO;obtain ⟨an,Vz⟩:∃an,an=a+nn:=⟨_,rfl⟩;rw[<-Vz]
 have hw0:IntKind.i64.wrap ((a:Int)+(nn:Int))=(an:Int):=by rw[IntKind.wrap_i64];have:=h.size;omega
 by_cases hq:nn=0/\put=⟨#[]⟩
 ·obtain ⟨rfl,rfl⟩:=hq;have aq:=aa (show vO B bS g n cap G text ls work a an ⟨#[]⟩ w (.returned (.tuple #[])) w from ⟨rfl,aM.refl _ _,text,_,ls,work,sE,by rw[Vz];simp,h,hr,bc _,Nat.le_add_right _ _,Nat.le_add_right _ _⟩);clear h hr hlen hx0 hT hG hM;go_enter Tryz.func72,Tryz.ntmps72;go_wp2_with fail
  exact bodyPost_ret (v:=.tuple #[]) (by simp[results,Tryz.results72,go_sem]) rfl aq.out
 ·have c1:w.cell? ⟨bS,1,none⟩=some (.string text):=ai h.sh rfl;have abN:an<=text.size:=by omega
  have adr:a<=an:=by omega
  have hz3:=h.size;have HS:=aa h;have HR:=aa hr;have HLEN:=aa hlen;have Zg:=aa Vz;have EC:=aa (And.intro hT (And.intro hG hM));have HQ:=aa hq;clear h hr hlen hT hG hM Vz hx0 hq;go_enter Tryz.func72,Tryz.ntmps72;refine wp_seq_k λK1 J4=>?_
  go_cut [] from 16 to 106 (λwc=>wc=w)
  case first=>
   by_cases yJ:nn=0
   ·have q1:((nn:Int)==0)=true:=by rw[yJ];rfl
    have q2:put.toList.isEmpty=false:=by
     rw[Lib.toList_data]
     cases hb:put.data.toList with
     | nil=>exact absurd ⟨yJ,WideShapes.bytes_inj (by rw[hb])⟩ HQ.out
     | cons _ _=>rfl
    clear yJ;go_wp2_with fail;go_meet
    case rel=>rfl
   ·have q1:((nn:Int)==0)=false:=by rw[er];omega
    clear yJ;go_wp2_with fail;go_meet
    case rel=>rfl
  case rest=>
   subst hcut;go_wp2_with fail;go_quiet (fail);go_wp2_with fail;obtain ⟨nL,Zh⟩:∃nL,nL=ls.length:=⟨_,rfl⟩;obtain ⟨A,hA⟩:∃A,A=text.extract 0 a:=⟨_,rfl⟩;obtain ⟨O,hO⟩:∃O,O=text.extract a an:=⟨_,rfl⟩;obtain ⟨R,hR⟩:∃R,R=text.extract an text.size:=⟨_,rfl⟩;obtain ⟨W1,hW1⟩:∃W1,W1=wc.drewN nq:=⟨_,rfl⟩
   have hb1:Below wc.heap.size wc W1:=by rw[hW1];exact Below.drewN' (Below.refl _ _) nq
   have lA:A.data.toList=text.data.toList.take a:=by rw[hA,aQ];simp
   have lR:R.data.toList=text.data.toList.drop an:=by rw[hR,aQ,List.take_of_length_le (by rw[List.length_drop,aj];omega)]
   have lT:text.data.toList=A.data.toList++O.data.toList++R.data.toList:=by
    rw[lA,lR,hO,aQ]
    conv=>lhs;rw[<-List.take_append_drop a text.data.toList,<-List.take_append_drop (an - a) (text.data.toList.drop a),List.drop_drop]
    rw[show a+(an - a)=an by omega,fP]
   rw[<-hA,<-hO,<-hR,<-hW1];obtain ⟨f,hf⟩:∃f,f=Lib.countByte A.data.toList 10:=⟨_,rfl⟩;obtain ⟨co,LS⟩:∃co,co=Lib.countByte O.data.toList 10:=⟨_,rfl⟩;obtain ⟨XN,RF⟩:∃XN,XN=Lib.countByte put.data.toList 10:=⟨_,rfl⟩;obtain ⟨cR,hcR⟩:∃cR,cR=R.data.toList.count 10:=⟨_,rfl⟩;obtain ⟨tc,Xv⟩:∃tc,tc=1+XN:=⟨_,rfl⟩
   obtain ⟨fo,Zi⟩:∃fo,fo=f+co:=⟨_,rfl⟩;obtain ⟨kb,hkb⟩:∃kb,kb=fo+1:=⟨_,rfl⟩;have UX:nL=f+co+1+cR:=by have h1:=HLEN.out;rw[lT,List.count_append,List.count_append]at h1;rw[Zh,h1,hf,LS,hcR];unfold Lib.countByte;omega
   have Ir:XN<=put.size:=by rw[RF,<-aj];exact List.count_le_length
   have VA:nL<=3001:=by have h1:=HLEN.out;have h2:=List.count_le_length (a:=(10:UInt8)) (l:=text.data.toList);rw[aj]at h2;omega
   have hpz:put.size<=6000:=by omega
   have hCA:=Tryz.strings_Count_one A 10 W1;have hCP:=Tryz.strings_Count_one put 10 W1;have hCO:=Tryz.strings_Count_one O 10 W1.drew;rw[<-hf]at hCA;rw[<-RF]at hCP;rw[<-LS]at hCO;have HCA:=aa hCA;have HCP:=aa hCP;have Tx:=aa hCO;have wt:IntKind.i64.wrap (1+(XN:Int))=(tc:Int):=by rw[IntKind.wrap_i64];omega
   have wf:IntKind.i64.wrap ((f:Int)+(co:Int))=(fo:Int):=by rw[IntKind.wrap_i64];omega
   have wk:IntKind.i64.wrap ((fo:Int)+1)=(kb:Int):=by rw[IntKind.wrap_i64];omega
   have mG:kb<=nL:=by omega
   have RH:=HS.out.below hb1
   have ads:nL<=cp:=by
    rcases RH.fU.row.2 with ⟨h1,_⟩|⟨_,_,_,h1,_,_,h2,_⟩
    ·cases h1
    ·cases h1;rw[Zh];exact h2
   have c12:W1.cell? ⟨bS,2,none⟩=some (.slice (some ⟨lb,0,none⟩) nL cp):=by rw[Zh];exact ai RH.sh rfl
   have adt:=aa RH;have tS:=aa Zh;have Ao:=aa UX;have HL:=aa (And.intro lA (And.intro lR lT));have HF:=aa (And.intro hf (And.intro LS (And.intro RF hcR)));have bM:=aa hb1;have HTC:=aa Xv;have HKB:=aa (And.intro Zi hkb);clear Zh hA hO hR hW1 lA lR lT hf LS RF hcR Xv Zi hkb UX hCA hCP hCO RH hb1 c1 hw0;refine HCA.out.mono ?_;rintro e w2 ⟨rfl,h2⟩;subst w2
   clear HCA;go_wp2_with fail;refine HCP.out.mono ?_;rintro e w2 ⟨rfl,h2⟩;subst w2;clear HCP;go_wp2_with fail
   go_region_held3 (λw'=>w'.cell? ⟨bS,2,none⟩=some (.slice (some ⟨lb,0,none⟩) nL cp))
    (go_keep)
    (first|(go_at_call 71;refine Tx.out.mono ?_;clear Tx;rintro e w3 ⟨rfl,h3⟩;subst w3))
   all_goals
    obtain ⟨of,hof,J5⟩:∃of,(if cp=kb then some (⟨lb,0,none⟩:Addr) else some ⟨lb,kb*10,none⟩)=some ⟨lb,of,none⟩/\(kb<nL->of=kb*10):=by
     by_cases h:cp=kb
     ·exact ⟨0,by rw[if_pos h],λh'=>by omega⟩
     ·exact ⟨kb*10,by rw[if_neg h],λ_=>rfl⟩
    obtain ⟨nb,iX⟩:∃nb,nb=nL - kb:=⟨_,rfl⟩;obtain ⟨cb,hcb⟩:∃cb,cb=cp - kb:=⟨_,rfl⟩;obtain ⟨W2,hW2⟩:∃W2,W2=W1.drew:=⟨_,rfl⟩;rw[hof,<-iX,<-hcb,<-hW2];have hb2:Below wc.heap.size wc W2:=by rw[hW2];exact bM.out.drew
    obtain ⟨W3,hW3⟩:∃W3,W2.alloc (.cells #[.string A,.string put,.string R] 9)=W3:=⟨_,rfl⟩;have hb3:Below wc.heap.size wc W3:=by rw[<-hW3];exact hb2.alloc hb2.size _
    have Zj:W3.heap[W2.heap.size]?=some (.cells #[.string A,.string put,.string R] 9 (0,0)):=by rw[<-hW3];exact ag _ _
    obtain ⟨aX,jo⟩:∃t:ByteArray,t=⟨(Lib.join ([A,put,R].map (·.data.toList)) (⟨#[]⟩:ByteArray).data.toList).toArray⟩:=⟨_,rfl⟩;have lT':aX.data.toList=A.data.toList++put.data.toList++R.data.toList:=by rw[jo];exact Zf _ _ _
    have VB:aX.size=a+put.size+(text.size - an):=by rw[<-aj,lT',HL.out.1,HL.out.2.1,dG,dG,List.length_take,List.length_drop,aj,aj];omega
    have HJ:=aa (show Calls Tryz.prog 97 #[.slice (some ⟨W2.heap.size,0,none⟩) 3 3,.string ⟨#[]⟩] W3 (λe w'=>e=.returned (.string aX)/\Below W3.heap.size W3 w') from by
     rw[jo];refine Tryz.strings_Join W2.heap.size 0 3 [A,put,R] ⟨#[]⟩ W3 (λj x hj=>?_) (ae Zj) (by simp) (by simp) ?_
     ·rw[Nat.zero_add]
      match j,hj with
      | 0,hj=>simp at hj;subst hj;exact ai Zj rfl
      | 1,hj=>simp at hj;subst hj;exact ai Zj rfl
      | 2,hj=>simp at hj;subst hj;exact ai Zj rfl
      | j+3,hj=>simp at hj
     ·have e:(Lib.join ([A,put,R].map (·.data.toList)) (⟨#[]⟩:ByteArray).data.toList).length=a+put.size+(text.size - an):=by rw[<-VB,jo,<-aj]
      rw[e];omega)
    have fV:=aa hb3;have HT':=aa lT';have VC:=aa VB;have Iy:=aa J5;have vP:=aa (And.intro iX hcb);clear hof J5 iX hcb hW2 hb2 hb3 Zj jo lT' VB c12;go_wp2_with fail;refine HJ.out.mono ?_;rintro e W4 ⟨rfl,hb4⟩;clear HJ hW3;have VD:Below wc.heap.size wc W4:=fV.out.trans (hb4.mono fV.out.size);have rU:=HS.out.below VD
    have z1:W4.cell? ⟨bS,1,none⟩=some (.string text):=ai rU.sh rfl;have z1f:W4.frozen? ⟨bS,1,none⟩=false:=by simp[World.frozen?,rU.sh]
    obtain ⟨W5,Zk⟩:∃W5,W4.setCell ⟨bS,1,none⟩ (.string aX)=W5:=⟨_,rfl⟩;have BG:W5.heap[bS]?=some (.cells #[.slice (some ⟨g,0,none⟩) n cap,.string aX,.slice (some ⟨lb,0,none⟩) ls.length cp,.int .i64 work] 134 (0,0)):=by rw[<-Zk];simpa using ah W4 bS 1 (.string aX) rU.sh
    have Mr:aM (λk=>k=bS) W4 W5:=by rw[<-Zk];exact aM.setCell (Y:=λk=>k=bS) (p:=⟨bS,1,none⟩) rfl rU.sh (by decide) _
    have o5:aM (λk=>k=bS) wc W5:=(aM.ay VD).trans Mr;have l5:cL W5 B (.slice (some ⟨lb,0,none⟩) ls.length cp) ls:=rU.fU.off Mr (λk hk=>by rw[hk];exact rU.fU.other rU.sh (λc=>⟨by simp,by simp⟩));obtain ⟨k,eY,hk2,hk3⟩:=Vy A;obtain ⟨li,zU⟩:∃li,li=Lib.lastIndexByte A 10:=⟨_,rfl⟩;rw[<-zU]at eY
    have haz:A.size<=3000:=by have:=congrArg List.length HL.out.1;rw[aj,List.length_take,aj]at this;omega
    have wl:IntKind.i64.wrap (li+1)=(k:Int):=by rw[IntKind.wrap_i64];omega
    have JI:=aa (show Calls Tryz.prog 98 #[.string A,.string ⟨#[10]⟩] W5 (λe w'=>e=.returned (.int .i64 li)/\w'=W5) from by rw[zU];exact Tryz.strings_LastIndex_one A ⟨#[10]⟩ rfl (by omega) W5)
    have LU:=aa o5;have Qm:=aa l5;have Ev:=aa BG;have VE:=aa hk3;clear hb4 VD rU BG Mr o5 l5 eY zU hk3;go_wp2_with fail;refine JI.out.mono ?_;rintro e w6 ⟨rfl,h6⟩;subst w6;clear JI;have hfn:f<nL:=by have:=Ao.out;omega
    obtain ⟨x,hx⟩:∃x,ls[f]?=some x:=⟨_,cB (by rw[<-tS.out];exact hfn)⟩;have hgd:Good G x.st:=HR.out.good eM ⟨⟨by simp,by simp⟩,λy hy=>by rw[List.mem_singleton.1 hy];exact lY⟩ x.pr (List.mem_map_of_mem (bn hx));obtain ⟨a0,a1,a2,a3,a4,a5,a6,a7,a8,hst⟩:=nine hgd.1.2;obtain ⟨lb',VF,_,il⟩:=Qm.out.cells hx;cases VF
    have hcc:∀(y:Nat) c,(aL x.st)[y]?=some c->W5.cell? ⟨lb,f*10+y,none⟩=some c:=λy c hy=>il y c (by unfold LE.cells;rw[nz (az hy)];exact hy)
    rw[hst]at hcc;have d0:=hcc 0 _ rfl;have d1:=hcc 1 _ rfl;have d2:=hcc 2 _ rfl;have d3:=hcc 3 _ rfl;have d4:=hcc 4 _ rfl;have d5:=hcc 5 _ rfl;have d6:=hcc 6 _ rfl;have d7:=hcc 7 _ rfl;have d8:=hcc 8 _ rfl;rw[Nat.add_zero]at d0;have e1:W5.cell? ⟨bS,1,none⟩=some (.string aX):=ai Ev.out rfl
    have e2:W5.cell? ⟨bS,2,none⟩=some (.slice (some ⟨lb,0,none⟩) nL cp):=by rw[tS.out];exact ai Ev.out rfl
    obtain ⟨T7,hT7⟩:∃T7,T7=aX.extract k aX.size:=⟨_,rfl⟩;have hkt:k<=aX.size:=by have h1:=congrArg List.length HL.out.1;rw[aj,List.length_take,aj]at h1;rw[VC.out];omega
    have lT7:T7.data.toList=A.data.toList.drop k++put.data.toList++R.data.toList:=by rw[hT7,aQ,List.take_of_length_le (by rw[List.length_drop,aj];omega),HT'.out,fP,fP,List.drop_append_of_le_length (by rw[aj];exact hk2)]
    have pO:lb≠bS:=λe=>by have:=Qm.out.other Ev.out (λc=>⟨by simp,by simp⟩);exact this.1 (by rw[<-e];rfl)
    have hN5:N<=bS:=bJ hN HS.out.base;have hT5:lC W5:=EC.out.1.keep (LU.out.keep _ ⟨fh (EC.out.1 0 (by decide)),by omega⟩);have TU:Mx W5:=by obtain ⟨m,hm⟩:=EC.out.2.2;exact ⟨m,(World.cell?_of_block (LU.out.keep 0 ⟨fh hm,by show ¬0=bS;omega⟩)).trans hm⟩
    have Q9:∀w',Below N W5 w'->cd w' g n cap G:=λw' hb=>EC.out.2.1 w' ⟨hb.os.trans LU.out.os,hb.tape.trans LU.out.tape,hb.output.trans LU.out.output,bJ LU.out.size hb.size,λk hk=>(hb.block k hk).trans (LU.out.keep k ⟨by have:=ae HS.out.sh;omega,by omega⟩)⟩
    have hbl:((ls.drop kb).map LE.st).length=nb:=by rw[fy,List.length_drop,<-tS.out,vP.out.1]
    have Zl:TV W5.drew bS (.slice (some ⟨lb,of,none⟩) nb cb) ((ls.drop kb).map LE.st):=by
     refine ⟨_,_,by rw[hbl],by rw[hbl];have:=vP.out.1;omega,λj st hj=>?_⟩;rw[fX,List.getElem?_drop]at hj
     cases hy:ls[kb+j]? with
     | none=>rw[hy]at hj;simp at hj
     | some y=>
      rw[hy]at hj;simp only[Option.map_some,fA]at hj;subst hj;obtain ⟨lb',VF,_,hcy⟩:=Qm.out.cells hy;cases VF;refine ⟨(Qm.out.each y (bn hy)).1,lb,of,rfl,pO,λz c hz=>?_⟩;have hlt:=az hy;rw[<-tS.out]at hlt;rw[Iy.out (by omega),show kb*10+j*10+z=(kb+j)*10+z by omega]
      exact hcy z c (by unfold LE.cells;rw[nz (az hz)];exact hz)
    have NG:(aF T7.data.toList).length=tc+((ls.drop kb).map LE.st).length:=by have h1:=Ao.out;have h2:=HF.out;rw[hbl,aT,lT7,List.count_append,List.count_append,List.count_eq_zero.2 VE.out.2.1,<-h2.2.2.2,vP.out.1,HTC.out,h2.2.2.1];have h3:=HKB.out;unfold Lib.countByte;omega
    have RL:=uH N bS g n cap G T7 x.st tc (.slice (some ⟨lb,of,none⟩) nb cb) ((ls.drop kb).map LE.st) aX (.slice (some ⟨lb,0,none⟩) ls.length cp) work W5.drew eM hgd (by
     have h1:=congrArg List.length lT7;rw[aj,dG,dG,List.length_drop,aj,aj,aj]at h1;have h2:=congrArg List.length HL.out.1;rw[aj,List.length_take,aj]at h2;have h3:=congrArg List.length HL.out.2.1;rw[aj,List.length_drop,aj]at h3;have h4:=Zg.out
     omega) ub hT5 h0 (λw' hb=>Q9 w' ⟨hb.os,hb.tape,hb.output,hb.size,hb.block⟩) hN5 TU BZ Ev.out Zl NG
    unfold lV at RL;rw[hst]at RL;have BC:=aa RL
    have xG:=aa (λ(w':World) (ho:aM (λk=>k=bS) W5.drew w') (hs:w'.heap[bS]?=some (.cells #[.slice (some ⟨g,0,none⟩) n cap,.string aX,.slice (some ⟨lb,0,none⟩) ls.length cp,.int .i64 0] 134 (0,0))∨∃v,w'.heap[bS]?=some (.cells #[.slice (some ⟨g,0,none⟩) n cap,.string aX,.slice (some ⟨lb,0,none⟩) ls.length cp,v] 134 (0,0)))=>show w'.cell? ⟨bS,1,none⟩=some (.string aX)/\w'.cell? ⟨bS,2,none⟩=some (.slice (some ⟨lb,0,none⟩) nL cp)/\w'.cell? ⟨lb,f*10,none⟩=some (.int .i64 a0)/\w'.cell? ⟨lb,f*10+1,none⟩=some (.int .i64 a1)/\w'.cell? ⟨lb,f*10+2,none⟩=some (.int .i64 a2)/\w'.cell? ⟨lb,f*10+3,none⟩=some (.int .i64 a3)/\w'.cell? ⟨lb,f*10+4,none⟩=some (.int .i64 a4)/\w'.cell? ⟨lb,f*10+5,none⟩=some (.int .i64 a5)/\w'.cell? ⟨lb,f*10+6,none⟩=some (.int .i64 a6)/\w'.cell? ⟨lb,f*10+7,none⟩=some (.int .i64 a7)/\w'.cell? ⟨lb,f*10+8,none⟩=some (.int .i64 a8) from by
     have key:∀j v,W5.cell? ⟨lb,j,none⟩=some v->w'.cell? ⟨lb,j,none⟩=some v:=λj v hj=>(World.cell?_of_block (w:=W5) (ho.keep lb ⟨fh hj,pO⟩)).trans hj
     obtain ⟨v,hv⟩:∃v,w'.heap[bS]?=some (.cells #[.slice (some ⟨g,0,none⟩) n cap,.string aX,.slice (some ⟨lb,0,none⟩) ls.length cp,v] 134 (0,0)):=by
      rcases hs with h|h
      ·exact ⟨_,h⟩
      ·exact h
     exact ⟨ai hv rfl,by rw[tS.out];exact ai hv rfl,key _ _ d0,key _ _ d1,key _ _ d2,key _ _ d3,key _ _ d4,key _ _ d5,key _ _ d6,key _ _ d7,key _ _ d8⟩)
    have HX:=aa hx;have HT7:=aa lT7;have jT:=aa hbl;have adf:=VA;have abO:=aa hT7;clear il hcc hst hgd hT5 TU Q9 Zl NG RL hx lT7 hbl hT7;go_wp2_with fail
    go_region_held3 (λw'=>w'.cell? ⟨bS,1,none⟩=some (.string aX)/\w'.cell? ⟨bS,2,none⟩=some (.slice (some ⟨lb,0,none⟩) nL cp)/\w'.cell? ⟨lb,f*10,none⟩=some (.int .i64 a0)/\w'.cell? ⟨lb,f*10+1,none⟩=some (.int .i64 a1)/\w'.cell? ⟨lb,f*10+2,none⟩=some (.int .i64 a2)/\w'.cell? ⟨lb,f*10+3,none⟩=some (.int .i64 a3)/\w'.cell? ⟨lb,f*10+4,none⟩=some (.int .i64 a4)/\w'.cell? ⟨lb,f*10+5,none⟩=some (.int .i64 a5)/\w'.cell? ⟨lb,f*10+6,none⟩=some (.int .i64 a6)/\w'.cell? ⟨lb,f*10+7,none⟩=some (.int .i64 a7)/\w'.cell? ⟨lb,f*10+8,none⟩=some (.int .i64 a8))
     (first
      | with_reducible exact hS6
      | go_keep)
     (first
      | (go_at_call 69;rw[<-abO.out];refine BC.out.mono ?_;clear BC;rintro e W6 ⟨v,anew,st,rfl,Zm,RM,hg6,Zn,Qy,ho6,hd6,Zo⟩;have hS6:=xG.out W6 ho6 (.inr ⟨_,Qy⟩);have HL6:=aa Zm;have HR6:=aa RM;have Zp:=aa Zn;have HS6:=aa Qy;have HO6:=aa ho6;have HD6:=aa hd6;have HF6:=aa Zo;obtain ⟨xz,vc,hv⟩:=aC Zm.row;subst hv;clear Zm RM hg6 Zn Qy ho6 hd6 Zo))
    all_goals
     have hwt:=HTC.out;obtain ⟨na,MW⟩:∃na,na=anew.length:=⟨_,rfl⟩;have NE:(aF T7.data.toList).length=tc+nb:=by have h1:=Ao.out;have h2:=HF.out;rw[aT,HT7.out,List.count_append,List.count_append,List.count_eq_zero.2 VE.out.2.1,<-h2.2.2.2,vP.out.1,HTC.out,h2.2.2.1];have h3:=HKB.out;unfold Lib.countByte;omega
     have htn:tc<=na:=by
      rcases HF6.out with h|h
      ·omega
      ·omega
     have sY:na<=tc+nb:=by rw[MW,<-NE];exact Zp.out
     obtain ⟨dm,Iz⟩:∃dm,dm=na - tc:=⟨_,rfl⟩;have hdn:dm<=nb:=by omega
     have wd:IntKind.i64.wrap ((na:Int) - (tc:Int))=(dm:Int):=by rw[IntKind.wrap_i64];have:=vP.out.1;omega
     obtain ⟨Qz,hof,J5⟩:∃Qz,(if cb=dm then some (⟨lb,of,none⟩:Addr) else some ⟨lb,of+dm*10,none⟩)=some ⟨lb,Qz,none⟩/\(dm<nb->Qz=(kb+dm)*10):=by
      have h1:=vP.out;by_cases h:cb=dm
      ·exact ⟨of,by rw[if_pos h],λh'=>by omega⟩
      ·refine ⟨of+dm*10,by rw[if_neg h],λh'=>?_⟩;rw[Iy.out (by omega)];omega
     have hvr:=HL6.out.row;rw[<-MW]at hvr ⊢;obtain ⟨va,_,hvv⟩:=aB hvr (by omega);cases hvv;have e62:=hS6.2.1;have l6:cL W6 B (.slice (some ⟨lb,0,none⟩) ls.length cp) ls:=(Qm.out.below (Below.refl _ _).drew).off HO6.out (λk hk=>by rw[hk];exact Qm.out.other Ev.out (λc=>⟨by simp,by simp⟩))
     obtain ⟨W7,hW7⟩:∃W7,(W6.alloc (.cells #[.slice (some ⟨lb,0,none⟩) f cp,.slice (some ⟨va,0,none⟩) na vc,.slice (some ⟨lb,Qz,none⟩) (nb - dm) (cb - dm)] 132)).drew=W7:=⟨_,rfl⟩
     have h7c:W7.heap[W6.heap.size]?=some (.cells #[.slice (some ⟨lb,0,none⟩) f cp,.slice (some ⟨va,0,none⟩) na vc,.slice (some ⟨lb,Qz,none⟩) (nb - dm) (cb - dm)] 132 (0,0)):=by rw[<-hW7];exact ag W6 _
     have XO:Below W6.heap.size W6 W7:=by rw[<-hW7];exact (cq _ _).drew
     have NH:∀(j:Nat) s,([⟨⟨lb,0,none⟩,f,cp,(ls.take f).flatMap LE.cells⟩,⟨⟨va,0,none⟩,na,vc,anew.flatMap LE.cells⟩,⟨⟨lb,Qz,none⟩,nb - dm,cb - dm,((ls.drop kb).drop dm).flatMap LE.cells⟩]:List Src)[j]?=some s->W7.cell? ⟨W6.heap.size,j,none⟩=some (.slice (some s.ad) s.n s.c)/\td W7 s:=by
      have h1:=vP.out;have h2:=tS.out;intro j s hj
      match j,hj with
      | 0,hj=>
       simp at hj;subst hj;refine ⟨ai h7c rfl,td.below ⟨by rw[l6.take_len (by omega)],λy u hu=>?_,λu hu=>l6.one (List.mem_flatMap.1 hu |>.imp λx hx=>⟨List.mem_of_mem_take hx.1,hx.2⟩)⟩ XO⟩;have:=l6.part (q:=0) (by rw[List.drop_zero];exact NF hu);rw[addr_add];simpa using this
      | 1,hj=>
       simp at hj;subst hj;have Zq:=HL6.out;rw[<-MW]at Zq;refine ⟨ai h7c rfl,td.below ⟨by rw[MW];exact Zq.RD,λy u hu=>?_,λu hu=>Zq.one (List.mem_flatMap.1 hu)⟩ XO⟩;rw[MW]at Zq;have:=Zq.part (q:=0) (by rw[List.drop_zero];exact hu);rw[addr_add];simpa using this
      | 2,hj=>
       simp at hj;subst hj;refine ⟨ai h7c rfl,td.below ⟨?_,λy u hu=>?_,λu hu=>l6.one (List.mem_flatMap.1 hu |>.imp λx hx=>⟨List.mem_of_mem_drop hx.1,hx.2⟩)⟩ XO⟩
       ·show _=(nb - dm)*10;rw[l6.CS];congr 1;omega
       ·have hlt:dm<nb:=by have h3:=az hu;rw[l6.CS]at h3;omega
        have:=l6.part hu;rw[addr_add,J5 hlt];exact this
      | j+3,hj=>simp at hj
     have Zr:=Fv W6.heap.size 3 [⟨⟨lb,0,none⟩,f,cp,(ls.take f).flatMap LE.cells⟩,⟨⟨va,0,none⟩,na,vc,anew.flatMap LE.cells⟩,⟨⟨lb,Qz,none⟩,nb - dm,cb - dm,((ls.drop kb).drop dm).flatMap LE.cells⟩] W7 (by simp) (by simp[lO];omega) (by simp[lO];have:=vP.out.1;omega) NH
     have abP:=aa (show Calls Tryz.prog 99 #[.slice (some ⟨W6.heap.size,0,none⟩) 3 3] W7 _ from Zr);have HB7:=aa XO
     have HS8:=aa (λ(W8:World) (hb:Below W7.heap.size W7 W8)=>show W8.heap[bS]?=some (.cells #[.slice (some ⟨g,0,none⟩) n cap,.string aX,.slice (some ⟨lb,0,none⟩) ls.length cp,.int .i64 ((work+na:Nat):Int)] 134 (0,0)) from by have h1:=HS6.out;have h2:=(XO.block _ (ae h1)).trans h1;rw[MW];exact (hb.block _ (ae h2)).trans h2)
     have RN:=aa l6;have HNA:=aa MW;have adu:=aa J5;have HDM:=aa Iz;have hfc:(f:Int)<=(cp:Int):=by omega
     have hdi:(dm:Int)<=(nb:Int):=by omega
     clear hS6 NE MW Iz J5 hvr NH Zr l6 XO h7c hwt d0 d1 d2 d3 d4 d5 d6 d7 d8 e1 e2 xG;go_wp2_with fail
     go_region_with (first
      | (go_at_call 99;refine abP.out.mono ?_;rintro e W8 ⟨v8,rfl,h8,hb8⟩;obtain ⟨ao8,c8,hv8⟩:=aC h8;subst hv8;have z8:=HS8.out W8 hb8;have z2:W8.cell? ⟨bS,2,none⟩=some (.slice (some ⟨lb,0,none⟩) ls.length cp):=(ai z8 rfl);have z2f:W8.frozen? ⟨bS,2,none⟩=false:=(by simp[World.frozen?,z8]);have HZ8:=aa z8;have HH8:=aa h8;have HB8:=aa hb8;clear z8 h8 hb8))
     all_goals
      have aq:=aa (show vO B bS g n cap G text ls work a an put wc (.returned (.tuple #[])) (W8.setCell ⟨bS,2,none⟩ (.slice ao8 (lO [⟨⟨lb,0,none⟩,f,cp,(ls.take f).flatMap LE.cells⟩,⟨⟨va,0,none⟩,na,vc,anew.flatMap LE.cells⟩,⟨⟨lb,Qz,none⟩,nb - dm,cb - dm,((ls.drop kb).drop dm).flatMap LE.cells⟩]) c8)) from by
       have hF:=HF.out;have hCN:=Ao.out;have hNL:=tS.out;have hKB:=HKB.out;have hNB:=vP.out;have hDM:=HDM.out;have hNA:=HNA.out;have hTC:=HTC.out
       have abQ:lO [⟨⟨lb,0,none⟩,f,cp,(ls.take f).flatMap LE.cells⟩,⟨⟨va,0,none⟩,na,vc,anew.flatMap LE.cells⟩,⟨⟨lb,Qz,none⟩,nb - dm,cb - dm,((ls.drop kb).drop dm).flatMap LE.cells⟩]=(ls.take f++anew++(ls.drop kb).drop dm).length:=by simp only[lO,List.map_cons,List.map_nil,List.sum_cons,List.sum_nil,dG,List.length_take,List.length_drop];omega
       have h8:=HH8.out;rw[abQ]at h8 ⊢
       have Zd:([⟨⟨lb,0,none⟩,f,cp,(ls.take f).flatMap LE.cells⟩,⟨⟨va,0,none⟩,na,vc,anew.flatMap LE.cells⟩,⟨⟨lb,Qz,none⟩,nb - dm,cb - dm,((ls.drop kb).drop dm).flatMap LE.cells⟩]:List Src).flatMap Src.xs=(ls.take f++anew++(ls.drop kb).drop dm).flatMap LE.cells:=by simp only[List.flatMap_cons,List.flatMap_nil,List.flatMap_append,List.append_nil,fP]
       rw[Zd]at h8;obtain ⟨W9,EZ⟩:∃W9,W8.setCell ⟨bS,2,none⟩ (.slice ao8 (ls.take f++anew++(ls.drop kb).drop dm).length c8)=W9:=⟨_,rfl⟩;rw[EZ];have o9:aM (λk=>k=bS) W8 W9:=by rw[<-EZ];exact aM.setCell (Y:=λk=>k=bS) (p:=⟨bS,2,none⟩) rfl HZ8.out (by decide) _
       have hS9:W9.heap[bS]?=some (.cells #[.slice (some ⟨g,0,none⟩) n cap,.string aX,.slice ao8 (ls.take f++anew++(ls.drop kb).drop dm).length c8,.int .i64 ((work+na:Nat):Int)] 134 (0,0)):=by rw[<-EZ];simpa using ah W8 bS 2 _ HZ8.out
       have o69:aM (λk=>k=bS) W6 W9:=((aM.ay HB7.out).trans (aM.ay HB8.out)).trans o9;have QX:aM (λk=>k=bS) W5 W6:=(aM.ay (Below.refl _ _).drew).trans HO6.out;have key:∀(t:TypeId) (k:Nat) c,t≠134->W6.heap[k]?=some (.cells c t (0,0))->W9.heap[k]?=some (.cells c t (0,0)):=λt k c ht hh=>gU o69 HS6.out hh ht
       have Tw:=ae HS.out.sh;have abR:B<=W5.heap.size:=by have:=LU.out.size;have:=HS.out.base;omega
       have abS:B<=W7.heap.size:=by have:=QX.size;have:=HB7.out.size;omega
       have hlT:text.data.toList=A.data.toList++O.data.toList++R.data.toList:=HL.out.2.2;have hcA:A.data.toList.count 10=f:=hF.1.symm;have hcO:O.data.toList.count 10=co:=hF.2.1.symm;have hcP:put.data.toList.count 10=XN:=hF.2.2.1.symm;have abT:R.data.toList.count 10=cR:=hF.2.2.2.symm;have Zs:=HR.out;rw[hlT]at Zs;have Zt:A.data.toList.count 10+O.data.toList.count 10+1=kb:=by rw[hcA,hcO];omega
       have VG:1+put.data.toList.count 10=tc:=by rw[hcP];omega
       have hR6:=HR6.out;rw[HT7.out]at hR6;have hF6:=HF6.out;rw[HT7.out]at hF6
       have hed:=dZ.Vw (P:=put.data.toList) VE.out Zs (x:=x.pr) (by rw[fX,hcA,HX.out];rfl) (anew:=anew.map LE.pr) (by rw[fy];exact hR6) (by
        rw[fy,Zt,VG];rcases hF6 with h|⟨h1,h2⟩
        ·exact .inl h
        ·refine .inr ⟨h1,?_⟩;rw[<-List.map_drop,List.map_map];exact h2)
       rw[Zt,VG,hcA,fy,<-hNA,<-hDM,<-List.map_take,<-List.map_drop,<-List.map_drop,<-List.map_append,<-List.map_append]at hed;obtain ⟨sF,hed⟩:=hed
       have Zu:=Fy (ls:=ls.map LE.pr) (anew:=anew.map LE.pr) (f:=f) (o:=co) (t:=tc) (b:=cR) (by rw[fy];omega) (by rw[fy];omega) (λi y h1 h2=>by
        rw[fX]at h2
        cases hy:anew[i]? with
        | none=>rw[hy]at h2;simp at h2
        | some z=>
         rw[hy]at h2;simp only[Option.map_some,fA]at h2;subst h2;have:=HD6.out i z h1 hy;rw[show f+co+1=kb by omega,<-List.map_drop,List.map_map];exact this)
       rw[fy,show f+co+1=kb by omega,<-hNA,<-hDM,<-List.map_take,<-List.map_drop,<-List.map_drop,<-List.map_append,<-List.map_append,List.map_map,List.map_map]at Zu
       refine ⟨rfl,(LU.out.trans QX).trans o69,aX,_,ls.take f++anew++(ls.drop kb).drop dm,work+na,sF,by rw[HT'.out,HL.out.1,HL.out.2.1],⟨hS9,⟨?_,?_⟩,HS.out.base,by have:=VC.out;have:=Zg.out;omega⟩,by rw[HT'.out];exact hed,Nat.le_add_right _ _,?_,by have h1:=Zp.out;rw[aT]at h1;have h2:=List.count_le_length (a:=(10:UInt8)) (l:=T7.data.toList);rw[aj]at h2;have h3:=congrArg List.length HT7.out;rw[aj,dG,dG,List.length_drop,aj,aj,aj]at h3;have h4:=VC.out;have h5:=Zg.out;have h6:=congrArg List.length HL.out.1;rw[aj,List.length_take,aj]at h6;have h7:=congrArg List.length HL.out.2.1;rw[aj,List.length_drop,aj]at h7;omega⟩
       ·exact dB (bq h8 λk c hh=>gU o9 HZ8.out hh (by decide)) abS
       ·intro y hy;rcases List.mem_append.1 hy with hy|hy
        ·rcases List.mem_append.1 hy with hy|hy
         ·have hm:=List.mem_of_mem_take hy;exact ⟨(RN.out.each y hm).1,bq (RN.out.each y hm).2 (λk c=>key _ k c (by decide))⟩
         ·exact ⟨(HL6.out.each y hy).1,dB (bq (HL6.out.each y hy).2 (λk c=>key _ k c (by decide))) abR⟩
        ·have hm:=List.mem_of_mem_drop (List.mem_of_mem_drop hy);exact ⟨(RN.out.each y hm).1,bq (RN.out.each y hm).2 (λk c=>key _ k c (by decide))⟩
       ·rw[<-HL.out.2.1,abT,VG];have:na<=tc+fE (ls.map LE.st) ((ls.take f++anew++(ls.drop kb).drop dm).map LE.st) cR:=Zu;omega)
      go_end0;exact aq.out
theorem vQ(h:j<t.size):(t.data.toList.take (j+1)).count 10=(t.data.toList.take j).count 10+(if t[j]=10 then 1 else 0):=by
 have hj:t.data.toList[j]?=some t[j]:=by rw[Array.getElem?_toList,Array.getElem?_eq_getElem h];rfl
 rw[List.take_add_one,hj,List.count_append];by_cases h10:t[j]=10
 ·rw[if_pos h10,h10];rfl
 ·rw[if_neg h10];simp[h10]
def IA(t:ByteArray)(w:World)(n0:Nat)(k:Nat)(vn vi:Value)(wr:World):Prop:=
 ∃j c:Nat,vi=.int .i64 j/\vn=.int .i64 c/\c=n0+(t.data.toList.take j).count 10/\j+k=t.size/\wr=w
theorem CT(t:ByteArray)(w:World)(hz:t.size<=1000000000):Calls Tryz.prog 67 #[.string t] w λe w'=>e=.returned (.int .i64 (t.data.toList.count 10))/\w'=w:=by
 have hlen:t.data.toList.length=t.size:=Array.length_toList;go_enter Tryz.func67,Tryz.ntmps67;go_wp2_with fail;go_loopg [3,4] t.size (λk vn vi wr=>IA t w 0 k vn vi wr)
 case atStart=>exact ⟨0,0,rfl,rfl,by simp,by omega,rfl⟩
 case round=>
  obtain ⟨j,c,rfl,rfl,hc,hk,rfl⟩:=hrel;by_cases hlt:j<t.size
  ·have g1:decide ((j:Int)<(t.size:Int))=true:=cF (by omega);have hwr:IntKind.i64.wrap ((j:Int)+1)=(j:Int)+1:=by rw[IntKind.wrap_i64];omega
   have hst:=vQ hlt;have hle:c<=j:=by rw[hc,Nat.zero_add];exact bJ List.count_le_length (by rw[List.length_take];omega)
   by_cases h10:t[j]=10
   ·have q1:(((t[j].toNat:Nat):Int)==10)=true:=by rw[h10];rfl
    rw[if_pos h10]at hst;have hwc:IntKind.i64.wrap ((c:Int)+1)=(c:Int)+1:=by rw[IntKind.wrap_i64];omega
    have HST:=aa (show c+1=0+(t.data.toList.take (j+1)).count 10 by omega);clear hst h10 hc hlen;go_wp2_with fail;go_roundg (t.size - (j+1))
    case measure=>omega
    case rel=>exact ⟨j+1,c+1,by simp,by simp,HST.out,by omega,rfl⟩
   ·have q1:(((t[j].toNat:Nat):Int)==10)=false:=by rw[er];intro e;exact h10 (UInt8.toNat_inj.1 (by simpa using Int.ofNat_inj.1 e))
    rw[if_neg h10]at hst;have HST:=aa (show c=0+(t.data.toList.take (j+1)).count 10 by omega);clear hst h10 hc hlen;go_wp2_with fail;go_roundg (t.size - (j+1))
    case measure=>omega
    case rel=>exact ⟨j+1,c,by simp,by simp,HST.out,by omega,rfl⟩
  ·have g1:decide ((j:Int)<(t.size:Int))=false:=bV (by omega);have HE:=aa (show Ending.returned (.int .i64 (c:Int))=.returned (.int .i64 (t.data.toList.count 10)) from by rw[hc,List.take_of_length_le (by omega),Nat.zero_add]);clear hc hlen;go_wp2_with fail;go_ret;exact ⟨HE.out,rfl⟩
def CU(xa xb:List Nat)(w:World)(k:Nat)(vi:Value)(wr:World):Prop:=
 ∃j:Nat,vi=.int .i64 j/\j+k=xa.length/\xa.take j=xb.take j/\Below w.heap.size w wr
theorem NI(w:World)(sa ca sb cb:Nat)(xa xb:List Nat)(ha:cX w sa xa)(hb:cX w sb xb)(hz:xa.length<=1000):
  Calls Tryz.prog 118 #[.slice (some ⟨sa,0,none⟩) xa.length ca,.slice (some ⟨sb,0,none⟩) xb.length cb] w λe w'=>e=.returned (.bool (decide (xa=xb)))/\Below w.heap.size w w':=by
 have HA:=aa ha;have HB:=aa hb;clear ha hb;by_cases hl:xa.length=xb.length
 ·obtain ⟨n,hn⟩:∃n,n=xa.length:=⟨_,rfl⟩;have qh:n=xb.length:=by omega
  rw[<-hn,<-qh];have HN:=aa (And.intro hn qh);have hz':n<=1000:=by omega
  clear hn qh hl hz;go_enter Tryz.func118,Tryz.ntmps118;go_wp2_with fail;go_loopg [5] n (λk vi wr=>CU xa xb w k vi wr)
  case atStart=>exact ⟨0,rfl,by rw[<-HN.out.1];omega,by simp,Below.refl _ _⟩
  case round=>
   obtain ⟨j,rfl,hk,iP,hbr⟩:=hrel;have rr:=aa hbr;rw[<-HN.out.1]at hk;by_cases hlt:j<n
   ·have g1:decide ((j:Int)<(n:Int))=true:=cF (by omega);have hwr:IntKind.i64.wrap ((j:Int)+1)=(j:Int)+1:=by rw[IntKind.wrap_i64];omega
    obtain ⟨x,hx⟩:∃x,xa[j]?=some x:=⟨_,cB (by rw[<-HN.out.1];exact hlt)⟩;obtain ⟨y,hy⟩:∃y,xb[j]?=some y:=⟨_,cB (by rw[<-HN.out.2];exact hlt)⟩;have cx:=(HA.out.below hbr).cell hx;have cy:=(HB.out.below hbr).cell hy;by_cases Nf:x=y
    ·have q1:((x:Int)==(y:Int))=true:=by rw[Nf];simp
     have HST:=aa (λm=>show CU xa xb w (n - (j+1)) (.int .i64 ((j:Int)+1)) (wr.drewN m) from ⟨j+1,by simp,by rw[<-HN.out.1];omega,by rw[List.take_add_one,List.take_add_one,iP,hx,hy,Nf],Below.drewN' hbr m⟩);clear iP hx hy Nf hbr;go_wp2_with fail;go_quiet (fail);go_wp2_with fail;go_roundg (n - (j+1))
     case measure=>omega
     case rel=>exact HST.out _
    ·have q1:((x:Int)==(y:Int))=false:=by rw[er];omega
     have aq:=aa (show Ending.returned (.bool false)=.returned (.bool (decide (xa=xb))) from by rw[bV λe=>Nf (by rw[e,hy]at hx;cases hx;rfl)]);clear iP hx hy Nf hbr;go_wp2_with fail;go_quiet (fail);go_wp2_with fail;go_ret;exact ⟨aq.out,Below.drewN' rr.out _⟩
   ·have g1:decide ((j:Int)<(n:Int))=false:=bV (by omega)
    have aq:=aa (show Ending.returned (.bool true)=.returned (.bool (decide (xa=xb))) from by
     rw[cF (by
     have h1:=HN.out.1;have h2:=HN.out.2;rw[List.take_of_length_le (by omega),List.take_of_length_le (by omega)]at iP;exact iP)])
    clear iP hbr;go_wp2_with fail;go_ret;exact ⟨aq.out,rr.out⟩
 ·have q1:((xa.length:Int)==(xb.length:Int))=false:=by rw[er];omega
  have aq:=aa (show Ending.returned (.bool false)=.returned (.bool (decide (xa=xb))) from by rw[bV λe=>hl (by rw[e])]);clear hl;go_enter Tryz.func118,Tryz.ntmps118;go_wp2_with fail;go_ret;exact ⟨aq.out,Below.refl _ _⟩
theorem Fz(old now:List (List Nat))(j:Nat):fE old now (j+1)=fE old now j+(if old[old.length - (j+1)]?=now[now.length - (j+1)]? then 0 else 1):=by
 unfold fE;rw[List.range_succ,List.countP_append];by_cases h:old[old.length - (j+1)]?=now[now.length - (j+1)]?
 ·rw[if_pos h];simp[h]
 ·rw[if_neg h];simp[h]
theorem CV(old now:List (List Nat))(b:Nat):fE old now b<=b:=by unfold fE;exact bJ List.countP_le_length (by simp)
structure qp(w:World)(v:Value)(es:List RE):Prop where
 row:w.ownsRow 0 57 1 v es.length (es.map RE.ov)
 each:∀e∈es,cX w e.sb e.st/\e.st.length<=8
theorem qp.below(h:qp w v es)(hb:Below w.heap.size w w'):qp w' v es:=
 ⟨bq h.row (λk _ hh=>(hb.block k (ae hh)).trans hh),λe he=>⟨(h.each e he).1.below hb,(h.each e he).2⟩⟩
theorem qp.at{ao:Option Addr}{c:Nat}(h:qp w (.slice ao n c) es){x:RE}(hx:es[j]?=some x):∃g,ao=some ⟨g,0,none⟩/\w.cell? ⟨g,j,none⟩=some (.slice (some ⟨x.sb,0,none⟩) x.st.length x.fL):=by
 have hr:=h.row;rcases hr.2 with ⟨h1,h2⟩|⟨g,cap,cur,h1,_⟩
 ·have:es=[]:=List.length_eq_zero_iff.1 h2;rw[this]at hx;simp at hx
 ·cases h1;exact ⟨g,rfl,(bG hr (j:=j) (u:=x.ov) (by rw[fX,hx];rfl)).1⟩
def NJ(w:World)(c0 b:Nat)(old now:List (List Nat))(k:Nat)(vn vk:Value)(wr:World):Prop:=
 ∃kk n:Nat,vk=.int .i64 kk/\vn=.int .i64 n/\1<=kk/\kk+k=b+1/\n=c0+fE old now (kk - 1)/\Below w.heap.size w wr
theorem NK(w:World)(vo vn:Value)(old now:List RE)(t:ByteArray)(b:Nat)(ho:qp w vo old)(hn:qp w vn now)(hb1:b<=old.length)(hb2:b<=now.length)(iF:old.length<=10000)(hl2:now.length<=10000)(hz:t.size<=1000000000):
  Calls Tryz.prog 89 #[vo,vn,.string t,.int .i64 b] w λe w'=>e=.returned (.int .i64 ((1+t.data.toList.count 10+fE (old.map RE.st) (now.map RE.st) b:Nat):Int))/\Below w.heap.size w w':=by
 have hlen:t.data.toList.length=t.size:=Array.length_toList;obtain ⟨oo,oc,rfl⟩:=aC ho.row;obtain ⟨so,sc,rfl⟩:=aC hn.row;have HO:=aa ho;have ey:=aa hn;obtain ⟨no,hno⟩:∃no,no=old.length:=⟨_,rfl⟩;obtain ⟨nn,sY⟩:∃nn,nn=now.length:=⟨_,rfl⟩;rw[<-hno]at hb1 iF HO ⊢;rw[<-sY]at hb2 hl2 ey ⊢;have XP:=aa hno;have L0:=aa sY;clear ho hn hno sY
 go_enter Tryz.func89,Tryz.ntmps89;go_wp2_with fail;go_loopg [9,10] t.size (λk vn vi wr=>IA t w 1 k vn vi wr)
 case atStart=>exact ⟨0,1,rfl,rfl,by simp,by omega,rfl⟩
 case round=>
  obtain ⟨j,c,rfl,rfl,hc,hk,rfl⟩:=hrel;have hle:c<=j+1:=by rw[hc];have:=List.count_le_length (a:=(10:UInt8)) (l:=t.data.toList.take j);rw[List.length_take]at this;omega
  by_cases hlt:j<t.size
  ·have g1:decide ((j:Int)<(t.size:Int))=true:=cF (by omega);have hwr:IntKind.i64.wrap ((j:Int)+1)=(j:Int)+1:=by rw[IntKind.wrap_i64];omega
   have hst:=vQ hlt;by_cases h10:t[j]=10
   ·have q1:(((t[j].toNat:Nat):Int)==10)=true:=by rw[h10];rfl
    rw[if_pos h10]at hst;have hwc:IntKind.i64.wrap ((c:Int)+1)=(c:Int)+1:=by rw[IntKind.wrap_i64];omega
    have HST:=aa (show c+1=1+(t.data.toList.take (j+1)).count 10 by omega);clear hst h10 hc hlen;go_wp2_with fail;go_roundg (t.size - (j+1))
    case measure=>omega
    case rel=>exact ⟨j+1,c+1,by simp,by simp,HST.out,by omega,rfl⟩
   ·have q1:(((t[j].toNat:Nat):Int)==10)=false:=by rw[er];intro e;exact h10 (UInt8.toNat_inj.1 (by simpa using Int.ofNat_inj.1 e))
    rw[if_neg h10]at hst;have HST:=aa (show c=1+(t.data.toList.take (j+1)).count 10 by omega);clear hst h10 hc hlen;go_wp2_with fail;go_roundg (t.size - (j+1))
    case measure=>omega
    case rel=>exact ⟨j+1,c,by simp,by simp,HST.out,by omega,rfl⟩
  ·have g1:decide ((j:Int)<(t.size:Int))=false:=bV (by omega);have hc':c=1+t.data.toList.count 10:=by rw[hc,List.take_of_length_le (by omega)]
   obtain ⟨w0,hw0⟩:∃w0,w0=wr:=⟨_,rfl⟩;subst hw0;have HC:=aa hc';have Ir:c<=1000000001:=by omega
   clear hc hlen hc' hle;go_wp2_with fail;go_loopg [9,11] b (λk vn vk W=>NJ w0 c b (old.map RE.st) (now.map RE.st) k vn vk W)
   case atStart=>exact ⟨1,c,rfl,rfl,bc _,by omega,by simp[fE],Below.refl _ _⟩
   case round=>
    obtain ⟨kk,m,rfl,rfl,eY,hkb,hm,hbr⟩:=hrel;have rr:=aa hbr;by_cases hlt:kk<=b
    ·have g1:decide ((kk:Int)<=(b:Int))=true:=cF (by omega);have ub:IntKind.i64.wrap ((kk:Int)+1)=(kk:Int)+1:=by rw[IntKind.wrap_i64];omega
     obtain ⟨io,hio⟩:∃io,io=no - kk:=⟨_,rfl⟩;obtain ⟨ip,hip⟩:∃ip,ip=nn - kk:=⟨_,rfl⟩;have w1:IntKind.i64.wrap ((no:Int) - (kk:Int))=(io:Int):=by rw[IntKind.wrap_i64];omega
     have w2:IntKind.i64.wrap ((nn:Int) - (kk:Int))=(ip:Int):=by rw[IntKind.wrap_i64];omega
     have l1:io<no:=by omega
     have l2:ip<nn:=by omega
     obtain ⟨x,hx⟩:∃x,old[io]?=some x:=⟨_,cB (by rw[<-XP.out];exact l1)⟩;obtain ⟨y,hy⟩:∃y,now[ip]?=some y:=⟨_,cB (by rw[<-L0.out];exact l2)⟩;obtain ⟨ga,hga,cx⟩:=(HO.out.below hbr).at hx;obtain ⟨gb,hgb,cy⟩:=(ey.out.below hbr).at hy;subst hga;subst hgb
     have hst:fE (old.map RE.st) (now.map RE.st) kk=fE (old.map RE.st) (now.map RE.st) (kk - 1)+(if x.st=y.st then 0 else 1):=by have h:=Fz (old.map RE.st) (now.map RE.st) (kk - 1);have h1:=XP.out;have h2:=L0.out;rw[show kk - 1+1=kk by omega,fy,fy,<-h1,<-h2,<-hio,<-hip,fX,fX,hx,hy]at h;simpa using h
     have VH:=aa (λW' (hb:Below wr.heap.size wr W')=>NI W' x.sb x.fL y.sb y.fL x.st y.st ((((HO.out.below rr.out).each x (bn hx)).1).below hb) ((((ey.out.below rr.out).each y (bn hy)).1).below hb) (by have:=((HO.out.below rr.out).each x (bn hx)).2;omega))
     have hwn:IntKind.i64.wrap ((m:Int)+1)=(m:Int)+1:=by have VI:=CV (old.map RE.st) (now.map RE.st) (kk - 1);rw[IntKind.wrap_i64];omega
     have HM:=aa hm;have J6:=aa hst;clear hio hip hx hy hbr hm hst;obtain ⟨sx,hsx⟩:∃sx,sx=decide (x.st=y.st):=⟨_,rfl⟩;have Zv:=aa hsx;rw[<-hsx]at VH;clear hsx;obtain ⟨lx,hlx⟩:∃lx,lx=x.st.length:=⟨_,rfl⟩;obtain ⟨ly,VJ⟩:∃ly,ly=y.st.length:=⟨_,rfl⟩;rw[<-hlx,<-VJ]at VH;rw[<-hlx]at cx;rw[<-VJ]at cy;clear hlx VJ;go_wp2_with fail
     go_region_held3 (λw'=>w'.cell? ⟨ga,io,none⟩=some (.slice (some ⟨x.sb,0,none⟩) lx x.fL)/\w'.cell? ⟨gb,ip,none⟩=some (.slice (some ⟨y.sb,0,none⟩) ly y.fL))
      (first
       | with_reducible exact k1
       | with_reducible exact k2
       | go_keep)
      (first|(go_at_call 118;refine (VH.out _ (Below.refl _ _).drew).mono ?_;clear VH;rintro e W3 ⟨rfl,hb3⟩;have k1:=ax (w:=wr.drew) cx hb3;have k2:=ax (w:=wr.drew) cy hb3;have fV:=aa hb3;clear hb3))
     all_goals
      have HB:=aa (show Below w0.heap.size w0 W3 from rr.out.trans ((show Below wr.heap.size wr W3 from ⟨fV.out.os,fV.out.tape,fV.out.output,fV.out.size,fV.out.block⟩).mono rr.out.size))
      cases sx with
      | true=>
       have HST:=aa (show m=c+fE (old.map RE.st) (now.map RE.st) (kk+1 - 1) from by have hst:=J6.out;have hm:=HM.out;rw[if_pos (of_decide_eq_true Zv.out.symm)]at hst;rw[Nat.add_sub_cancel];omega);go_wp2_with fail;go_roundg (b - kk)
       case measure=>omega
       case rel=>exact ⟨kk+1,m,by simp,by simp,by omega,by omega,HST.out,HB.out⟩
      | false=>
       have HST:=aa (show m+1=c+fE (old.map RE.st) (now.map RE.st) (kk+1 - 1) from by have hst:=J6.out;have hm:=HM.out;rw[if_neg (of_decide_eq_false Zv.out.symm)]at hst;rw[Nat.add_sub_cancel];omega);go_wp2_with fail;go_roundg (b - kk)
       case measure=>omega
       case rel=>exact ⟨kk+1,m+1,by simp,by simp,by omega,by omega,HST.out,HB.out⟩
    ·have g1:decide ((kk:Int)<=(b:Int))=false:=bV (by omega);have Zw:kk - 1=b:=by omega
     rw[Zw]at hm;have HE:=aa (show Ending.returned (.int .i64 (m:Int))=.returned (.int .i64 ((1+t.data.toList.count 10+fE (old.map RE.st) (now.map RE.st) b:Nat):Int)) from by rw[hm,HC.out]);clear hm hbr;go_wp2_with fail;go_ret;exact ⟨HE.out,rr.out⟩
end Go.Proofs.YtgncgdkpkkdaeaaGreatDoor
