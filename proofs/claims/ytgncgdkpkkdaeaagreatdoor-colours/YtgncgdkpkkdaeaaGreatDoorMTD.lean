import Derived.Test.YtgncgdkpkkdaeaaGreatDoorMTC
import Derived.Test.YtgncgdkpkkdaeaaGreatDoorMK
import Derived.WalkSmall
namespace Go.Proofs.YtgncgdkpkkdaeaaGreatDoor.Ref
open Go.RowKit aQ
variable {dE:List (Option Nat)} {G:Nat} {w:World}
theorem bM.later{w':World}{B P:Nat}{ls:List (Value×Sp)}{first:Int}(h:bM w B P ls first)(hB:B<=w.heap.size)(hb:Below w.heap.size w w'):bM w' B P ls first:=by
 obtain ⟨sv,h1,h2⟩:=h.ex;exact ⟨⟨sv,(hb.block P (ae h1)).trans h1,dz h2 (λk e=>hb.block k (cD h2 e).2)⟩,λl hl=>(h.dE l hl).below ⟨hb.os,hb.tape,hb.output,hb.size,λk hk=>hb.block k (by omega)⟩,h.hP⟩
def eL(w:World)(G:Nat)(dE:List (Option Nat)):Prop:=w.heap[G]?=some (.cells (dE.map dD).toArray 3 (0,0))
def iR(dE:List (Option Nat))(k:Nat):Option Nat:=(dE[k]?).getD none
theorem eL.cell(h:eL w G dE){k:Nat}(hk:k<dE.length):w.cell? ⟨G,k,none⟩=some (dD (iR dE k))/\w.frozen? ⟨G,k,none⟩=false:=by unfold eL at h;refine ⟨?_,by simp[World.frozen?,h]⟩;simp[World.cell?,h,iR,List.getElem?_eq_getElem hk]
theorem eL.put(h:eL w G dE)(k b:Nat):eL (w.setCell ⟨G,k,none⟩ (.int .i64 b)) G (dE.set k (some b)):=by unfold eL at *;rw[heap_setCell_same w G k _ h,List.setIfInBounds_toArray,List.map_set];rfl
theorem Qy(dE:List (Option Nat))(k b j:Nat)(hk:k<dE.length):iR (dE.set k (some b)) j=if j=k then some b else iR dE j:=by
 unfold iR;rw[List.getElem?_set];by_cases h:k=j
 ·subst h;simp[hk]
 ·rw[if_neg h,if_neg (λe=>h e.symm)]
def zeros(n:Nat):Array Value:=(List.replicate n (Value.int .i64 0)).toArray
theorem Jf(j k:Nat):(List.replicate j (Value.int .i64 (-1))++List.replicate (k+1) (Value.int .i64 0)).set j (.int .i64 (-1))=List.replicate (j+1) (Value.int .i64 (-1))++List.replicate k (Value.int .i64 0):=by rw[List.set_append_right _ _ (by simp),List.length_replicate,Nat.sub_self,List.replicate_succ (n:=k),List.set_cons_zero,List.replicate_succ' (n:=j),List.append_assoc];rfl
theorem qa(w:World)(n:Nat)(hn:n<=1000):(Instr.makeSlice 57 (.int .i64 n) (.int .i64 n)).run Tryz.prog w=.ok (.slice (some ⟨w.heap.size,0,none⟩) n n) (w.alloc (.cells (zeros n) 3)):=by
 obtain ⟨i,hi,h0,h1,h2⟩:=info_parts (show (Tryz.prog.info? 3).map (λi=>(i.zero,i.size,i.bytes))=some (some (.int .i64 0),1,8) by kernel_rfl);rw[run_make w 57 3 i (.int .i64 0) Tryz.underlying57 hi h0 .i64 .i64 n n (by omega) (by omega) (by rw[h2];omega) (by omega)]
 have:madeCells (Value.int .i64 0).cells ((n:Int).toNat *i.size)=zeros n:=by rw[h1];apply Array.toList_inj.1;show (madeCells #[.int .i64 0] ((n:Int).toNat *1)).toList=_;rw[toList_madeCells_one];simp[zeros]
 rw[this];simp
def B5(w:World)(G n k:Nat)(vi:Value)(wr:World):Prop:=
 ∃j,vi=.int .i64 (j:Nat)/\j+k=n/\Below G w wr/\wr.heap[G]?=some (.cells (List.replicate j (Value.int .i64 (-1))++List.replicate k (Value.int .i64 0)).toArray 3 (0,0))
def B6(n:Nat)(w:World)(e:Ending)(w':World):Prop:=e=.returned (.slice (some ⟨w.heap.size,0,none⟩) n n)/\eL w' w.heap.size (List.replicate n none)/\Below w.heap.size w w'
set_option maxRecDepth 20000 in
set_option maxHeartbeats 1000000 in
theorem Nl(B P:Nat)(ls:List (Value×Sp))(first:Int)(w:World)(h:bM w B P ls first)(h0:0<ls.length)(hn:ls.length<=300):Calls Tryz.prog 105 #[.pointer (some ⟨P,0,none⟩)] w (B6 ls.length w):=by
 obtain ⟨g,cap,m1,m2,m3,m4,m5,m6⟩:=h.mem h0;obtain ⟨n,qM⟩:∃n,n=ls.length:=⟨_,rfl⟩;rw[<-qM]at m1 hn ⊢;have hmk:=qa w n (by omega);clear h m2 m3 m4 m5 m6 h0 qM;go_enter Tryz.func105,Tryz.ntmps105;go_wp2_with fail;have Db:=aa (af w (.cells (zeros n) 3))
 have gR:=aa (show Below w.heap.size w (w.alloc (.cells (zeros n) 3)) from (Below.refl _ _).alloc (Nat.le_refl _) _);obtain ⟨G,hG⟩:∃G,G=w.heap.size:=⟨_,rfl⟩;rw[<-hG]at Db gR ⊢;have HG:=aa hG;clear hmk hG m1;generalize w.alloc (.cells (zeros n) 3)=w1 at *;go_loopg [4] n (λk vi wr=>B5 w G n k vi wr)
 case atStart=>exact ⟨0,rfl,by omega,gR.out,by rw[List.replicate_zero,List.nil_append];exact Db.out⟩
 case round=>
  obtain ⟨j,rfl,hj,hb,hr⟩:=hrel;have HB:=aa hb;have HR:=aa hr
  cases gk with
  | zero=>
   have kt:¬j<n:=by omega
   have hg1:decide (j<n)=false:=by simpa using kt
   have ai:=aa (show B6 n w (.returned (.slice (some ⟨G,0,none⟩) n n)) wr from ⟨by rw[HG.out],by
    have h:=HR.out;rw[HG.out]at h;unfold eL;rw[h];obtain rfl:j=n:=by omega
    simp[dD],by have h:=HB.out;rwa [HG.out]at h⟩)
   clear hb hr;go_wp2_with fail;go_ret;exact ai.out
  | succ k=>
   have pP:j<n:=by omega
   have hg1:decide ((j:Int)<(n:Int))=true:=by simpa using pP
   have c1:wr.cell? ⟨G,j,none⟩=some (.int .i64 0):=by simp[World.cell?,hr]
   have f1:wr.frozen? ⟨G,j,none⟩=false:=by simp[World.frozen?,hr]
   have HST:=aa (show B5 w G n k (.int .i64 ((j+1:Nat):Int)) (wr.setCell ⟨G,j,none⟩ (.int .i64 (-1))) from ⟨j+1,rfl,by omega,hb.setCell (Nat.le_refl _) _,by rw[heap_setCell_same wr G j _ hr,List.setIfInBounds_toArray,Jf]⟩);clear hb hr;go_wp2_with fail;go_roundg k
   case measure=>omega
   case rel=>exact HST.out
end Go.Proofs.YtgncgdkpkkdaeaaGreatDoor.Ref
namespace Go.Proofs.YtgncgdkpkkdaeaaGreatDoor.Ref
open Go.RowKit aQ
def mq(F:List Sp)(G spot began:Nat)(dE:List (Option Nat))(w:World)(e:Ending)(w':World):Prop:=
 ∃Qz,e=.returned (.tuple #[])/\Ap G w w'/\eL w' G Qz/\Qz.length=dE.length/\Ent F spot began (iR dE) (iR Qz)/\iv F (iR Qz)
def jz(F:List Sp)(G spot began:Nat)(dE:List (Option Nat))(w:World)(k:Nat)(vt:Value)(wr:World):Prop:=
 ∃(ts cur:List (Option Nat)) (g cap:Nat),vt=.slice (some ⟨g,0,none⟩) ts.length cap/\wr.ownsRow w.heap.size 3 1 (.slice (some ⟨g,0,none⟩) ts.length cap) ts.length (ts.map dD)/\Ap G w wr/\eL wr G cur/\cur.length=dE.length/\fR F spot began (iR dE) (iR cur) ts/\(∀j,some j∈ts->j<dE.length)/\k=ts.length+3*cur.countP (later began)/\k<=1+3*dE.length
theorem Jg:(Tryz.prog.info? 3).map (λi=>(i.zero,i.size,i.bytes))=some (some (.int .i64 0),1,8):=by kernel_rfl
theorem B8(a b:Int):∀u∈[Value.int .i64 a,.int .i64 b],u.oneCell'=true:=by intro u hu;simp only[List.mem_cons,List.not_mem_nil,or_false]at hu;rcases hu with rfl|rfl<;>rfl
theorem uB{F:List Sp}{G spot began:Nat}{dE:List (Option Nat)}{w W W1 w5:World}{dY Nn:List (Option Nat)}{g g' cap' n:Nat}{to or:Option Nat}{zt zo:Int}(Y3:G<w.heap.size)(hg:w.heap.size<=g)(hap:Ap G w W)(hrow:eL W G Nn)(hlen:Nn.length=dE.length)(hinv:fR F spot began (iR dE) (iR Nn) (dY++[to,or]))(Tk:∀j,some j∈dY->j<dE.length)(hlk:∀j,to=some j∨or=some j->j<dE.length)
  (hn:n=(dY++[to,or]).length+3*Nn.countP (later began)) (pH:n<=1+3*dE.length) (Y4:dD to=.int .i64 zt) (Y5:dD or=.int .i64 zo) (hW1:Below W.heap.size W W1) (hown:w5.ownsRow w.heap.size 3 1 (.slice (some ⟨g',0,none⟩) (dY.length+2) cap') (dY.length+2) (dY.map dD++[.int .i64 zt,.int .i64 zo])) (hgr:W1.grownBy w5 (some g)):
  jz F G spot began dE w n (.slice (some ⟨g',0,none⟩) (dY.length+2) cap') w5:=by
 have hl:(dY++[to,or]).length=dY.length+2:=by simp
 have hGW:G<W.heap.size:=Nat.lt_of_lt_of_le Y3 hap.size;have dc:∀k,k<W.heap.size->k≠g->w5.heap[k]?=W.heap[k]?:=λk h1 h2=>(hgr.block k (Nat.lt_of_lt_of_le h1 hW1.size) (λe=>h2 (Option.some.inj e))).trans (hW1.block k h1)
 refine ⟨dY++[to,or],Nn,g',cap',by rw[hl],?_,⟨hgr.os.trans (hW1.os.trans hap.os),hgr.tape.trans (hW1.tape.trans hap.tape),hgr.output.trans (hW1.output.trans hap.output),Nat.le_trans hap.size (Nat.le_trans hW1.size hgr.size),λk ey hk2=>?_⟩,?_,hlen,hinv,λj hj=>?_,hn,pH⟩
 ·rw[hl,List.map_append];simp only[List.map_cons,List.map_nil,Y4,Y5];exact hown
 ·rw[dc k (Nat.lt_of_lt_of_le ey hap.size) (by omega)];exact hap.keep k ey hk2
 ·exact (dc G hGW (by omega)).trans hrow
 ·rcases List.mem_append.1 hj with h|h
  ·exact Tk j h
  ·simp only[List.mem_cons,List.not_mem_nil,or_false]at h;exact hlk j (h.imp Eq.symm Eq.symm)
set_option maxRecDepth 20000 in
set_option maxHeartbeats 2000000 in
theorem Jh(wP:World)(B P:Nat)(ls:List (Value×Sp))(first:Int)(hP:bM wP B P ls first)(hBP:B<=wP.heap.size)(h0:0<ls.length)(hn:ls.length<=300)(hlk:∀l∈ls,nW ls.length l.2)
  (G spot began:Nat) (dE:List (Option Nat)) (w:World) (hb:Below wP.heap.size wP w) (hG:wP.heap.size<=G) (hR:eL w G dE) (hlen:dE.length=ls.length) (jb:iv (ls.map (·.2)) (iR dE)) (hsp:spot<ls.length):
  Calls Tryz.prog 106 #[.pointer (some ⟨P,0,none⟩),.slice (some ⟨G,0,none⟩) ls.length ls.length,.int .i64 spot,.int .i64 began] w (mq (ls.map (·.2)) G spot began dE w):=by
 have HR:=aa hR;have HP:=aa hP;have HLK:=aa hlk;have HB:=aa hb;have HLEN:=aa hlen;have zq:=aa jb;have HGl:=aa (ae hR);clear hR hP hlk hb hlen jb;go_enter Tryz.func106,Tryz.ntmps106;go_wp2_with fail;go_loopg [8] (1+3*dE.countP (later began)) (λk vt wr=>jz (ls.map (·.2)) G spot began dE w k vt wr)
 case atStart=>
  refine ⟨[some spot],dE,w.heap.size,1,rfl,⟨rfl,.inr ⟨w.heap.size,1,#[.int .i64 spot],rfl,Nat.le_refl _,af _ _,Nat.le_refl _,by unfold maxLen;omega,rfl,rfl⟩⟩,(Ap.refl _ _).alloc _,heap_alloc_old HR.out,rfl,fR.begin zq.out,λj hj=>?_,rfl,by have:=List.countP_le_length (p:=later began) (l:=dE);omega⟩;obtain rfl:j=spot:=by simpa using hj
  rw[HLEN.out];exact hsp
 case round=>
  obtain ⟨ts,cur,g,cap,rfl,hown,hap,hrow,jb,hinv,Tk,hk,XJ⟩:=hrel;have Y6:=aa hap;have bE:=aa hrow;have Np:=aa hinv;have Tl:=aa Tk;have HK:=aa hk;have Nq:=aa jb;have Y7:=aa hown;clear hap hrow hinv Tk hk jb hown;rcases List.eq_nil_or_concat ts with rfl|⟨dY,t,rfl⟩
  ·obtain ⟨h1,h2⟩:=Np.out.done;have ai:=aa (show mq (ls.map (·.2)) G spot began dE w (.returned (.tuple #[])) wr from ⟨cur,rfl,Y6.out,bE.out,Nq.out,h1,h2⟩);clear h1 h2;go_wp2_with fail;go_end0;exact ai.out
  ·rw[List.concat_eq_append]at *;have gM:(dY++[t]).length=dY.length+1:=by simp
   have hl2:dY.length+1<=1+3*dE.length:=by have:=HK.out;rw[gM]at this;omega
   have vX:dY.length<=1000:=by have:=HLEN.out;omega
   have hown1:wr.ownsRow w.heap.size 3 1 (.slice (some ⟨g,0,none⟩) (dY.length+1) cap) (dY.length+1) (dY.map dD++[dD t]):=by have h:=Y7.out;rw[gM,List.map_append]at h;exact h
   have Nr:=aa (ownsRow_pop (by simp) hown1)
   have ct:wr.cell? ⟨g,dY.length,none⟩=some (dD t):=by
    rcases hown1.2 with ⟨h1,_⟩|⟨g',cap',cr,h1,_,h2,h3,_,h4,h5⟩
    ·cases h1
    ·cases h1
     have h6:cr[dY.length]?=some (dD t):=by
      have h7:(cr.toList.take ((dY.length+1)*1))[dY.length]?=some (dD t):=by rw[h5];simp
      rw[List.getElem?_take,if_pos (by omega)]at h7;simpa using h7
     simp[World.cell?,h2,h6]
   have XC:dY.length+1<=cap:=by
    rcases hown1.2 with ⟨h1,_⟩|⟨g',cap',cr,h1,_,h2,h3,_,h4,h5⟩
    ·cases h1
    ·cases h1;exact h3
   clear hown1 Y7;rw[gM]
   cases t with
   | none=>
    simp only[dD]at ct;have HST:=aa (show jz (ls.map (·.2)) G spot began dE w (dY.length+3*cur.countP (later began)) (.slice (some ⟨g,0,none⟩) dY.length cap) wr from ⟨dY,cur,g,cap,rfl,Nr.out,Y6.out,bE.out,Nq.out,Np.out.skip (λk e=>by cases e),λj hj=>Tl.out j (by simp[hj]),rfl,by have:=HK.out;rw[gM]at this;omega⟩)
    have Am:=aa (show dY.length+3*cur.countP (later began)<gk by have:=HK.out;rw[gM]at this;omega);clear gM hl2;go_wp2_with fail;go_roundg (dY.length+3*cur.countP (later began))
    case measure=>exact Am.out
    case rel=>exact HST.out
   | some k=>
    simp only[dD]at ct;have kX:k<ls.length:=by have:=Tl.out k (by simp);rw[HLEN.out]at this;exact this
    have hkc:k<cur.length:=by rw[Nq.out,HLEN.out];exact kX
    obtain ⟨hc1,hc2⟩:=bE.out.cell hkc;have pD:=HB.out.trans (Y6.out.below (B:=wP.heap.size) HB.out.size hG);have HPW:=aa (HP.out.later hBP (pD.trans ((Below.refl _ wr).setCell (p:=⟨G,k,none⟩) hG (.int .i64 began))));obtain ⟨⟨v,s⟩,hl⟩:∃l,ls[k]?=some l:=⟨_,List.getElem?_eq_getElem kX⟩;obtain ⟨g2,s9,m1,m2,m3,m4,m5,m6⟩:=HPW.out.mem h0;obtain ⟨m7,m8,m9⟩:=m4 k _ hl
    have Ns:=HPW.out.dE (v,s) (List.mem_of_getElem? hl);have HF:=aa (show (ls.map (·.2))[k]?=some s by rw[List.getElem?_map,hl];rfl);have Ot:=aa (HLK.out (v,s) (List.mem_of_getElem? hl));have CG:=aa (show gk=dY.length+1+3*cur.countP (later began) by have:=HK.out;rwa [gM]at this);have Pp:=aa (show ∀j,some j∈dY->j<dE.length from λj hj=>Tl.out j (by simp[hj]))
    have hcc:cur[k]?=some (iR cur k):=by simp[iR,List.getElem?_eq_getElem hkc]
    have HCC:=aa hcc;have Nt:=aa (show Ap G w (wr.setCell ⟨G,k,none⟩ (.int .i64 began)) from Y6.out.setCell rfl _);have ju:=aa (bE.out.put k began);have Nu:=aa (show (cur.set k (some began)).length=dE.length by rw[List.length_set];exact Nq.out);have Y8:=aa (Qy cur k began · hkc)
    have Nv:=aa (show (wr.setCell ⟨G,k,none⟩ (.int .i64 began)).ownsRow w.heap.size 3 1 (.slice (some ⟨g,0,none⟩) dY.length cap) dY.length (dY.map dD) from dz Nr.out (λx e=>Below.heap_setCell _ _ _ _ (by show x≠G;have:=(cD Nr.out e).1;have:=HGl.out;omega)));have acy:=XJ;clear hcc hl m2 m3 m4 m5 m6 pD HK Tl gM hl2 HPW
    generalize JV:iR cur k=ak at *;by_cases hle:∃c,ak=some c/\c<=began
    ·obtain ⟨c,rfl,hcb⟩:=hle;simp only[dD]at hc1;have g1:decide ((c:Int)<=(began:Int))=true:=by simp;omega
     have HST:=aa (show jz (ls.map (·.2)) G spot began dE w (dY.length+3*cur.countP (later began)) (.slice (some ⟨g,0,none⟩) dY.length cap) wr from ⟨dY,cur,g,cap,rfl,Nr.out,Y6.out,bE.out,Nq.out,Np.out.skip (λj e=>by cases e;exact ⟨c,JV,hcb⟩),Pp.out,rfl,by have:=CG.out;omega⟩);have Am:=aa (show dY.length+3*cur.countP (later began)<gk by have:=CG.out;omega)
     clear JV m1 m7 m8 m9 Ns;go_wp2_with fail;go_roundg (dY.length+3*cur.countP (later began))
     case measure=>exact Am.out
     case rel=>exact HST.out
    ·have tr:=aa (show later began ak=true by
      cases ak with
      | none=>rfl
      | some c=>simp[later];exact Nat.lt_of_not_le λe=>hle ⟨c,rfl,e⟩)
     have C0:=aa (show ∀c,iR cur k=some c->began<c from λc e=>Nat.lt_of_not_le λe2=>hle ⟨c,by rw[<-JV,e],e2⟩);have yn:=aa (wV HCC.out tr.out);obtain ⟨on,to,or⟩:=s;obtain ⟨zt,Y4⟩:∃z,dD to=.int .i64 z:=by cases to<;>exact ⟨_,rfl⟩
     obtain ⟨zo,Y5⟩:∃z,dD or=.int .i64 z:=by cases or<;>exact ⟨_,rfl⟩
     simp only[Y4,Y5]at m8 m9
     have hgd:∃z:Int,dD ak=.int .i64 z/\((z<0)∨(0<=z/\(began:Int)<z)):=by
      cases ak with
      | none=>exact ⟨-1,rfl,.inl (by decide)⟩
      | some c=>exact ⟨c,rfl,.inr ⟨by omega,by have:=Nat.lt_of_not_le λe=>hle ⟨c,rfl,e⟩;omega⟩⟩
     obtain ⟨z,hz,hzz⟩:=hgd;rw[hz]at hc1;clear hle JV hz
     cases on with
     | some cV=>
      obtain ⟨A,onl,iA,pL,N6,Oj⟩:=Ns;simp only at iA;rw[iA]at m7
      have HST:=aa (show jz (ls.map (·.2)) G spot began dE w (dY.length+3*(cur.set k (some began)).countP (later began)) (.slice (some ⟨g,0,none⟩) dY.length cap) (wr.setCell ⟨G,k,none⟩ (.int .i64 began)) from ⟨dY,_,g,cap,rfl,Nv.out,Nt.out,ju.out,Nu.out,by
       have:=Np.out.set (us:=[]) HF.out C0.out Y8.out (λj e=>by cases e) (λe=>by cases e)
       rwa [List.append_nil]at this,Pp.out,rfl,by have:=CG.out;have:=yn.out;omega⟩)
      have Am:=aa (show dY.length+3*(cur.set k (some began)).countP (later began)<gk by have:=CG.out;have:=yn.out;omega);clear iA pL N6 Oj;rcases hzz with hz1|⟨hz1,hz2⟩
      ·have g1:decide (0<=z)=false:=by simp;omega
       go_wp2_with fail;go_roundg (dY.length+3*(cur.set k (some began)).countP (later began))
       case measure=>exact Am.out
       case rel=>exact HST.out
      ·have g1:decide (0<=z)=true:=by simp;omega
       have g2:decide (z<=(began:Int))=false:=by simp;omega
       go_wp2_with fail;go_roundg (dY.length+3*(cur.set k (some began)).countP (later began))
       case measure=>exact Am.out
       case rel=>exact HST.out
     | none=>
      simp only[lL]at Ns;rw[Ns]at m7;clear Ns
      have Y9:=aa (Np.out.set (us:=[to,or]) HF.out C0.out Y8.out (λj e=>by
       simp only[List.mem_cons,List.not_mem_nil,or_false]at e;exact ⟨rfl,e.imp Eq.symm Eq.symm⟩) (λ_ j e=>by
       simp only[List.mem_cons,List.not_mem_nil,or_false];exact e.imp Eq.symm Eq.symm))
      have HLJ:=aa (show ∀j,to=some j∨or=some j->j<dE.length from λj e=>by rw[HLEN.out];exact e.elim (Ot.out.1 j) (Ot.out.2.1 j))
      have Za:=aa (show w.heap.size<=g from (cD Nr.out rfl).1);have YJ:=aa (show (dY++[to,or]).length+3*(cur.set k (some began)).countP (later began)<=1+3*dE.length by have:=CG.out;have:=yn.out;simp only[List.length_append,List.length_cons,List.length_nil];omega)
      have Am:=aa (show (dY++[to,or]).length+3*(cur.set k (some began)).countP (later began)<gk by have:=CG.out;have:=yn.out;simp only[List.length_append,List.length_cons,List.length_nil];omega);obtain ⟨i0,hi,hz0,Zb,hz3⟩:=info_parts Jg;rcases hzz with hz1|⟨hz1,hz2⟩
      ·have g1:decide (0<=z)=false:=by simp;omega
       go_wp2_with fail;have jC:=aa (show w.heap.size<=(wr.setCell ⟨G,k,none⟩ (.int .i64 began)).heap.size from Nt.out.size);clear hc1 hc2 ct;generalize wr.setCell ⟨G,k,none⟩ (.int .i64 began)=W2 at *;have m1':=aq m1 (.cells #[.int .i64 zt,.int .i64 zo] 3);have m8':=aq m8 (.cells #[.int .i64 zt,.int .i64 zo] 3)
       have m9':=aq m9 (.cells #[.int .i64 zt,.int .i64 zo] 3)
       go_region_law (go_loud (refine cH rfl (.tmp 57) (.tmp 74) 57 rfl w.heap.size 3 i0 (.int .i64 0) 1 8 Tryz.underlying57 hi hz0 Zb hz3 rfl (by decide) (.slice (some ⟨g,0,none⟩) dY.length cap) dY.length (dY.map dD) (by rfl) (by exact dZ Nv.out _) ⟨W2.heap.size,0,none⟩ 2 2 [.int .i64 zt,.int .i64 zo] (by rfl) (by rfl) (by exact aF W2 #[.int .i64 zt,.int .i64 zo] _) (B8 zt zo) (by unfold maxLen;omega) (by omega) (by have:=jC.out;simp;omega) ?_;intro v' w5 hown hg _;obtain ⟨g',cap',rfl⟩:=aC hown (by omega);have HST:=aa (uB (n:=(dY++[to,or]).length+3*(cur.set k (some began)).countP (later began)) HGl.out Za.out Nt.out ju.out Nu.out Y9.out Pp.out HLJ.out rfl YJ.out Y4 Y5 (((Below.refl _ W2).alloc (Nat.le_refl _) (.cells #[.int .i64 zt,.int .i64 zo] 3)).drew) hown hg);clear hown hg))
       all_goals
        go_wp2_with fail;go_roundg ((dY++[to,or]).length+3*(cur.set k (some began)).countP (later began))
        case measure=>exact Am.out
        case rel=>exact HST.out
      ·have g1:decide (0<=z)=true:=by simp;omega
       have g2:decide (z<=(began:Int))=false:=by simp;omega
       go_wp2_with fail;have jC:=aa (show w.heap.size<=(wr.setCell ⟨G,k,none⟩ (.int .i64 began)).heap.size from Nt.out.size);clear hc1 hc2 ct;generalize wr.setCell ⟨G,k,none⟩ (.int .i64 began)=W2 at *;have m1':=aq m1 (.cells #[.int .i64 zt,.int .i64 zo] 3);have m8':=aq m8 (.cells #[.int .i64 zt,.int .i64 zo] 3)
       have m9':=aq m9 (.cells #[.int .i64 zt,.int .i64 zo] 3)
       go_region_law (go_loud (refine cH rfl (.tmp 57) (.tmp 74) 57 rfl w.heap.size 3 i0 (.int .i64 0) 1 8 Tryz.underlying57 hi hz0 Zb hz3 rfl (by decide) (.slice (some ⟨g,0,none⟩) dY.length cap) dY.length (dY.map dD) (by rfl) (by exact dZ Nv.out _) ⟨W2.heap.size,0,none⟩ 2 2 [.int .i64 zt,.int .i64 zo] (by rfl) (by rfl) (by exact aF W2 #[.int .i64 zt,.int .i64 zo] _) (B8 zt zo) (by unfold maxLen;omega) (by omega) (by have:=jC.out;simp;omega) ?_;intro v' w5 hown hg _;obtain ⟨g',cap',rfl⟩:=aC hown (by omega);have HST:=aa (uB (n:=(dY++[to,or]).length+3*(cur.set k (some began)).countP (later began)) HGl.out Za.out Nt.out ju.out Nu.out Y9.out Pp.out HLJ.out rfl YJ.out Y4 Y5 (((Below.refl _ W2).alloc (Nat.le_refl _) (.cells #[.int .i64 zt,.int .i64 zo] 3)).drew) hown hg);clear hown hg))
       all_goals
        go_wp2_with fail;go_roundg ((dY++[to,or]).length+3*(cur.set k (some began)).countP (later began))
        case measure=>exact Am.out
        case rel=>exact HST.out
end Go.Proofs.YtgncgdkpkkdaeaaGreatDoor.Ref
