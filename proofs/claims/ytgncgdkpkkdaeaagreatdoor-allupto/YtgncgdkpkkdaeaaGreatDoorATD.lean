import Derived.Test.YtgncgdkpkkdaeaaGreatDoorATC
import Derived.WalkSmall
set_option maxRecDepth 20000
set_option maxHeartbeats 2000000
namespace Go.Proofs.YtgncgdkpkkdaeaaGreatDoor.Ref
open Go.RowKit bu
variable {eh:List (Option Nat)} {G:Nat} {w:World}
theorem cg.later{w':World}{B P:Nat}{ls:List (Value×Sp)}{first:Int}(h:cg w B P ls first)(hB:B<=w.heap.size)(hb:Below w.heap.size w w'):cg w' B P ls first:=by
 obtain ⟨sv,h1,h2⟩:=h.ex;exact ⟨⟨sv,(hb.block P (ae h1)).trans h1,dU h2 (λk e=>hb.block k (cT h2 e).2)⟩,λl hl=>(h.eh l hl).below ⟨hb.os,hb.tape,hb.output,hb.size,λk hk=>hb.block k (by omega)⟩,h.hP⟩
def fH(w:World)(G:Nat)(eh:List (Option Nat)):Prop:=w.heap[G]?=some (.cells (eh.map ea).toArray 3 (0,0))
def jJ(eh:List (Option Nat))(k:Nat):Option Nat:=(eh[k]?).getD none
theorem fH.cell(h:fH w G eh){k:Nat}(hk:k<eh.length):w.cell? ⟨G,k,none⟩=some (ea (jJ eh k))/\w.frozen? ⟨G,k,none⟩=false:=by unfold fH at h;refine ⟨?_,by simp[World.frozen?,h]⟩;simp[World.cell?,h,jJ,cB hk]
theorem fH.put(h:fH w G eh)(k b:Nat):fH (w.setCell ⟨G,k,none⟩ (.int .i64 b)) G (eh.set k (some b)):=by unfold fH at *;rw[ah w G k _ h,List.setIfInBounds_toArray,List.map_set];rfl
theorem Te(eh:List (Option Nat))(k b j:Nat)(hk:k<eh.length):jJ (eh.set k (some b)) j=if j=k then some b else jJ eh j:=by
 unfold jJ;rw[List.getElem?_set];by_cases h:k=j
 ·subst h;simp[hk]
 ·rw[if_neg h,if_neg (λe=>h e.symm)]
def zeros(n:Nat):Array Value:=(List.replicate n (Value.int .i64 0)).toArray
theorem Li(j k:Nat):(List.replicate j (Value.int .i64 (-1))++List.replicate (k+1) (Value.int .i64 0)).set j (.int .i64 (-1))=List.replicate (j+1) (Value.int .i64 (-1))++List.replicate k (Value.int .i64 0):=by rw[List.set_append_right _ _ (by simp),List.length_replicate,Nat.sub_self,List.replicate_succ (n:=k),List.set_cons_zero,List.replicate_succ' (n:=j),fP];rfl
theorem rV(w:World)(n:Nat)(hn:n<=1000):(Instr.makeSlice 57 (.int .i64 n) (.int .i64 n)).run Tryz.prog w=.ok (.slice (some ⟨w.heap.size,0,none⟩) n n) (w.alloc (.cells (zeros n) 3)):=by
 obtain ⟨i,hi,h0,h1,h2⟩:=info_parts (show (Tryz.prog.info? 3).map (λi=>(i.zero,i.size,i.bytes))=some (some (.int .i64 0),1,8) by kernel_rfl);rw[run_make w 57 3 i (.int .i64 0) Tryz.underlying57 hi h0 .i64 .i64 n n (by omega) (by omega) (by rw[h2];omega) (by omega)]
 have:madeCells (Value.int .i64 0).cells ((n:Int).toNat *i.size)=zeros n:=by rw[h1];apply Array.toList_inj.1;show (madeCells #[.int .i64 0] ((n:Int).toNat *1)).toList=_;rw[toList_madeCells_one];simp[zeros]
 rw[this];simp
def D3(w:World)(G n k:Nat)(vi:Value)(wr:World):Prop:=
 ∃j,vi=.int .i64 (j:Nat)/\j+k=n/\Below G w wr/\wr.heap[G]?=some (.cells (List.replicate j (Value.int .i64 (-1))++List.replicate k (Value.int .i64 0)).toArray 3 (0,0))
def D4(n:Nat)(w:World)(e:Ending)(w':World):Prop:=e=.returned (.slice (some ⟨w.heap.size,0,none⟩) n n)/\fH w' w.heap.size (List.replicate n none)/\Below w.heap.size w w'
theorem PN(B P:Nat)(ls:List (Value×Sp))(first:Int)(w:World)(h:cg w B P ls first)(h0:0<ls.length)(hn:ls.length<=300):Calls Tryz.prog 105 #[.pointer (some ⟨P,0,none⟩)] w (D4 ls.length w):=by
 obtain ⟨g,cap,m1,m2,m3,m4,m5,m6⟩:=h.mem h0;obtain ⟨n,sY⟩:∃n,n=ls.length:=⟨_,rfl⟩;rw[<-sY]at m1 hn ⊢;have hmk:=rV w n (by omega);clear h m2 m3 m4 m5 m6 h0 sY;go_enter Tryz.func105,Tryz.ntmps105;go_wp2_with fail;have E6:=aa (ag w (.cells (zeros n) 3))
 have gZ:=aa (show Below w.heap.size w (w.alloc (.cells (zeros n) 3)) from cq _ _);obtain ⟨G,hG⟩:∃G,G=w.heap.size:=⟨_,rfl⟩;rw[<-hG]at E6 gZ ⊢;have HG:=aa hG;clear hmk hG m1;generalize w.alloc (.cells (zeros n) 3)=w1 at *;go_loopg [4] n (λk vi wr=>D3 w G n k vi wr)
 case atStart=>exact ⟨0,rfl,by omega,gZ.out,by rw[List.replicate_zero,List.nil_append];exact E6.out⟩
 case round=>
  obtain ⟨j,rfl,hj,hb,hr⟩:=hrel;have HB:=aa hb;have HR:=aa hr
  cases gk with
  | zero=>
   have kO:¬j<n:=by omega
   have hg1:decide (j<n)=false:=by simpa using kO
   have aq:=aa (show D4 n w (.returned (.slice (some ⟨G,0,none⟩) n n)) wr from ⟨by rw[HG.out],by
    have h:=HR.out;rw[HG.out]at h;unfold fH;rw[h];obtain rfl:j=n:=by omega
    simp[ea],by have h:=HB.out;rwa [HG.out]at h⟩)
   clear hb hr;go_wp2_with fail;go_ret;exact aq.out
  | succ k=>
   have rE:j<n:=by omega
   have hg1:decide ((j:Int)<(n:Int))=true:=by simpa using rE
   have c1:wr.cell? ⟨G,j,none⟩=some (.int .i64 0):=by simp[World.cell?,hr]
   have f1:wr.frozen? ⟨G,j,none⟩=false:=by simp[World.frozen?,hr]
   have HST:=aa (show D3 w G n k (.int .i64 ((j+1:Nat):Int)) (wr.setCell ⟨G,j,none⟩ (.int .i64 (-1))) from ⟨j+1,rfl,by omega,hb.setCell (bc _) _,by rw[ah wr G j _ hr,List.setIfInBounds_toArray,Li]⟩);clear hb hr;go_wp2_with fail;go_roundg k
   case measure=>omega
   case rel=>exact HST.out
def nV(F:List Sp)(G spot began:Nat)(eh:List (Option Nat))(w:World)(e:Ending)(w':World):Prop:=
 ∃Tf,e=.returned (.tuple #[])/\Ap G w w'/\fH w' G Tf/\Tf.length=eh.length/\Ent F spot began (jJ eh) (jJ Tf)/\jf F (jJ Tf)
def kw(F:List Sp)(G spot began:Nat)(eh:List (Option Nat))(w:World)(k:Nat)(vt:Value)(wr:World):Prop:=
 ∃(ts cur:List (Option Nat)) (g cap:Nat),vt=.slice (some ⟨g,0,none⟩) ts.length cap/\wr.ownsRow w.heap.size 3 1 (.slice (some ⟨g,0,none⟩) ts.length cap) ts.length (ts.map ea)/\Ap G w wr/\fH wr G cur/\cur.length=eh.length/\gQ F spot began (jJ eh) (jJ cur) ts/\(∀j,some j∈ts->j<eh.length)/\k=ts.length+3*cur.countP (later began)/\k<=1+3*eh.length
theorem Lj:(Tryz.prog.info? 3).map (λi=>(i.zero,i.size,i.bytes))=some (some (.int .i64 0),1,8):=by kernel_rfl
theorem D5(a b:Int):∀u∈[Value.int .i64 a,.int .i64 b],u.oneCell'=true:=by intro u hu;simp only[List.mem_cons,List.not_mem_nil,or_false]at hu;rcases hu with rfl|rfl<;>rfl
theorem xc{F:List Sp}{spot began:Nat}{W W1 w5:World}{eH ui:List (Option Nat)}{g g' cap' n:Nat}{to or:Option Nat}{zt zo:Int}(hGl:G<w.heap.size)(hg:w.heap.size<=g)(hap:Ap G w W)(hrow:fH W G ui)(hlen:ui.length=eh.length)(hinv:gQ F spot began (jJ eh) (jJ ui) (eH++[to,or]))(L6:∀j,some j∈eH->j<eh.length)(hlk:∀j,to=some j∨or=some j->j<eh.length)
  (hn:n=(eH++[to,or]).length+3*ui.countP (later began)) (qh:n<=1+3*eh.length) (hzt:ea to=.int .i64 zt) (hzo:ea or=.int .i64 zo) (hW1:Below W.heap.size W W1) (hown:w5.ownsRow w.heap.size 3 1 (.slice (some ⟨g',0,none⟩) (eH.length+2) cap') (eH.length+2) (eH.map ea++[.int .i64 zt,.int .i64 zo])) (hgr:W1.grownBy w5 (some g)):
  kw F G spot began eh w n (.slice (some ⟨g',0,none⟩) (eH.length+2) cap') w5:=by
 have hl:(eH++[to,or]).length=eH.length+2:=by simp
 have hGW:G<W.heap.size:=dw hGl hap.size;have dC:∀k,k<W.heap.size->k≠g->w5.heap[k]?=W.heap[k]?:=λk h1 h2=>(hgr.block k (dw h1 hW1.size) (λe=>h2 (Option.some.inj e))).trans (hW1.block k h1)
 refine ⟨eH++[to,or],ui,g',cap',by rw[hl],?_,⟨hgr.os.trans (hW1.os.trans hap.os),hgr.tape.trans (hW1.tape.trans hap.tape),hgr.output.trans (hW1.output.trans hap.output),bJ hap.size (bJ hW1.size hgr.size),λk eY hk2=>?_⟩,?_,hlen,hinv,λj hj=>?_,hn,qh⟩
 ·rw[hl,List.map_append];simp only[List.map_cons,List.map_nil,hzt,hzo];exact hown
 ·rw[dC k (dw eY hap.size) (by omega)];exact hap.keep k eY hk2
 ·exact (dC G hGW (by omega)).trans hrow
 ·rcases List.mem_append.1 hj with h|h
  ·exact L6 j h
  ·simp only[List.mem_cons,List.not_mem_nil,or_false]at h;exact hlk j (h.imp Eq.symm Eq.symm)
theorem Lk(wP:World)(B P:Nat)(ls:List (Value×Sp))(first:Int)(hP:cg wP B P ls first)(hBP:B<=wP.heap.size)(h0:0<ls.length)(hn:ls.length<=300)(hlk:∀l∈ls,pK ls.length l.2)
  (G spot began:Nat) (eh:List (Option Nat)) (w:World) (hb:Below wP.heap.size wP w) (hG:wP.heap.size<=G) (hR:fH w G eh) (hlen:eh.length=ls.length) (il:jf (ls.map (·.2)) (jJ eh)) (hsp:spot<ls.length):
  Calls Tryz.prog 106 #[.pointer (some ⟨P,0,none⟩),.slice (some ⟨G,0,none⟩) ls.length ls.length,.int .i64 spot,.int .i64 began] w (nV (ls.map (·.2)) G spot began eh w):=by
 have HR:=aa hR;have HP:=aa hP;have HLK:=aa hlk;have HB:=aa hb;have HLEN:=aa hlen;have BC:=aa il;have HGl:=aa (ae hR);clear hR hP hlk hb hlen il;go_enter Tryz.func106,Tryz.ntmps106;go_wp2_with fail;go_loopg [8] (1+3*eh.countP (later began)) (λk vt wr=>kw (ls.map (·.2)) G spot began eh w k vt wr)
 case atStart=>
  refine ⟨[some spot],eh,w.heap.size,1,rfl,⟨rfl,.inr ⟨w.heap.size,1,#[.int .i64 spot],rfl,bc _,ag _ _,bc _,by unfold maxLen;omega,rfl,rfl⟩⟩,(Ap.refl _ _).alloc _,af HR.out,rfl,gQ.begin BC.out,λj hj=>?_,rfl,by have:=List.countP_le_length (p:=later began) (l:=eh);omega⟩;obtain rfl:j=spot:=by simpa using hj
  rw[HLEN.out];exact hsp
 case round=>
  obtain ⟨ts,cur,g,cap,rfl,hown,hap,hrow,il,hinv,L6,hk,ht1⟩:=hrel;have O1:=aa hap;have bj:=aa hrow;have PO:=aa hinv;have VQ:=aa L6;have HK:=aa hk;have PQ:=aa il;have abn:=aa hown;clear hap hrow hinv L6 hk il hown;rcases List.eq_nil_or_concat ts with rfl|⟨eH,t,rfl⟩
  ·obtain ⟨h1,h2⟩:=PO.out.done;have aq:=aa (show nV (ls.map (·.2)) G spot began eh w (.returned (.tuple #[])) wr from ⟨cur,rfl,O1.out,bj.out,PQ.out,h1,h2⟩);clear h1 h2;go_wp2_with fail;go_end0;exact aq.out
  ·rw[List.concat_eq_append]at *;have iF:(eH++[t]).length=eH.length+1:=by simp
   have hl2:eH.length+1<=1+3*eh.length:=by have:=HK.out;rw[iF]at this;omega
   have yn:eH.length<=1000:=by have:=HLEN.out;omega
   have hown1:wr.ownsRow w.heap.size 3 1 (.slice (some ⟨g,0,none⟩) (eH.length+1) cap) (eH.length+1) (eH.map ea++[ea t]):=by have h:=abn.out;rw[iF,List.map_append]at h;exact h
   have PR:=aa (ownsRow_pop (by simp) hown1)
   have ct:wr.cell? ⟨g,eH.length,none⟩=some (ea t):=by
    rcases hown1.2 with ⟨h1,_⟩|⟨g',cap',cr,h1,_,h2,h3,_,h4,h5⟩
    ·cases h1
    ·cases h1
     have h6:cr[eH.length]?=some (ea t):=by
      have h7:(cr.toList.take ((eH.length+1)*1))[eH.length]?=some (ea t):=by rw[h5];simp
      rw[List.getElem?_take,if_pos (by omega)]at h7;simpa using h7
     simp[World.cell?,h2,h6]
   have Z7:eH.length+1<=cap:=by
    rcases hown1.2 with ⟨h1,_⟩|⟨g',cap',cr,h1,_,h2,h3,_,h4,h5⟩
    ·cases h1
    ·cases h1;exact h3
   clear hown1 abn;rw[iF]
   cases t with
   | none=>
    simp only[ea]at ct;have HST:=aa (show kw (ls.map (·.2)) G spot began eh w (eH.length+3*cur.countP (later began)) (.slice (some ⟨g,0,none⟩) eH.length cap) wr from ⟨eH,cur,g,cap,rfl,PR.out,O1.out,bj.out,PQ.out,PO.out.skip (λk e=>by cases e),λj hj=>VQ.out j (by simp[hj]),rfl,by have:=HK.out;rw[iF]at this;omega⟩)
    have CD:=aa (show eH.length+3*cur.countP (later began)<gk by have:=HK.out;rw[iF]at this;omega);clear iF hl2;go_wp2_with fail;go_roundg (eH.length+3*cur.countP (later began))
    case measure=>exact CD.out
    case rel=>exact HST.out
   | some k=>
    simp only[ea]at ct;have mG:k<ls.length:=by have:=VQ.out k (by simp);rw[HLEN.out]at this;exact this
    have hkc:k<cur.length:=by rw[PQ.out,HLEN.out];exact mG
    obtain ⟨hc1,hc2⟩:=bj.out.cell hkc;have rq:=HB.out.trans (O1.out.below (B:=wP.heap.size) HB.out.size hG);have HPW:=aa (HP.out.later hBP (rq.trans ((Below.refl _ wr).setCell (p:=⟨G,k,none⟩) hG (.int .i64 began))));obtain ⟨⟨v,s⟩,hl⟩:∃l,ls[k]?=some l:=⟨_,cB mG⟩;obtain ⟨g2,rI,m1,m2,m3,m4,m5,m6⟩:=HPW.out.mem h0;obtain ⟨m7,m8,m9⟩:=m4 k _ hl
    have PS:=HPW.out.eh (v,s) (bn hl);have HF:=aa (show (ls.map (·.2))[k]?=some s by rw[fX,hl];rfl);have QN:=aa (HLK.out (v,s) (bn hl));have EC:=aa (show gk=eH.length+1+3*cur.countP (later began) by have:=HK.out;rwa [iF]at this);have RU:=aa (show ∀j,some j∈eH->j<eh.length from λj hj=>VQ.out j (by simp[hj]))
    have hcc:cur[k]?=some (jJ cur k):=by simp[jJ,cB hkc]
    have HCC:=aa hcc;have PT:=aa (show Ap G w (wr.setCell ⟨G,k,none⟩ (.int .i64 began)) from O1.out.setCell rfl _);have kp:=aa (bj.out.put k began);have PU:=aa (show (cur.set k (some began)).length=eh.length by rw[List.length_set];exact PQ.out);have abo:=aa (Te cur k began · hkc)
    have PV:=aa (show (wr.setCell ⟨G,k,none⟩ (.int .i64 began)).ownsRow w.heap.size 3 1 (.slice (some ⟨g,0,none⟩) eH.length cap) eH.length (eH.map ea) from dU PR.out (λx e=>eV _ _ _ _ (by show x≠G;have:=(cT PR.out e).1;have:=HGl.out;omega)));have ad5:=ht1;clear hcc hl m2 m3 m4 m5 m6 rq HK VQ iF hl2 HPW
    generalize L4:jJ cur k=ak at *;by_cases hle:∃c,ak=some c/\c<=began
    ·obtain ⟨c,rfl,hcb⟩:=hle;simp only[ea]at hc1;have g1:decide ((c:Int)<=(began:Int))=true:=by simp;omega
     have HST:=aa (show kw (ls.map (·.2)) G spot began eh w (eH.length+3*cur.countP (later began)) (.slice (some ⟨g,0,none⟩) eH.length cap) wr from ⟨eH,cur,g,cap,rfl,PR.out,O1.out,bj.out,PQ.out,PO.out.skip (λj e=>by cases e;exact ⟨c,L4,hcb⟩),RU.out,rfl,by have:=EC.out;omega⟩);have CD:=aa (show eH.length+3*cur.countP (later began)<gk by have:=EC.out;omega)
     clear L4 m1 m7 m8 m9 PS;go_wp2_with fail;go_roundg (eH.length+3*cur.countP (later began))
     case measure=>exact CD.out
     case rel=>exact HST.out
    ·have vy:=aa (show later began ak=true by
      cases ak with
      | none=>rfl
      | some c=>simp[later];exact Nat.lt_of_not_le λe=>hle ⟨c,rfl,e⟩)
     have EU:=aa (show ∀c,jJ cur k=some c->began<c from λc e=>Nat.lt_of_not_le λe2=>hle ⟨c,by rw[<-L4,e],e2⟩);have Ao:=aa (yS HCC.out vy.out);obtain ⟨on,to,or⟩:=s;obtain ⟨zt,hzt⟩:∃z,ea to=.int .i64 z:=by cases to<;>exact ⟨_,rfl⟩
     obtain ⟨zo,hzo⟩:∃z,ea or=.int .i64 z:=by cases or<;>exact ⟨_,rfl⟩
     simp only[hzt,hzo]at m8 m9
     have hgd:∃z:Int,ea ak=.int .i64 z/\((z<0)∨(0<=z/\(began:Int)<z)):=by
      cases ak with
      | none=>exact ⟨-1,rfl,.inl (by decide)⟩
      | some c=>exact ⟨c,rfl,.inr ⟨by omega,by have:=Nat.lt_of_not_le λe=>hle ⟨c,rfl,e⟩;omega⟩⟩
     obtain ⟨z,hz,hzz⟩:=hgd;rw[hz]at hc1;clear hle L4 hz
     cases on with
     | some dr=>
      obtain ⟨A,onl,jq,rA,Qv,QG⟩:=PS;simp only at jq;rw[jq]at m7
      have HST:=aa (show kw (ls.map (·.2)) G spot began eh w (eH.length+3*(cur.set k (some began)).countP (later began)) (.slice (some ⟨g,0,none⟩) eH.length cap) (wr.setCell ⟨G,k,none⟩ (.int .i64 began)) from ⟨eH,_,g,cap,rfl,PV.out,PT.out,kp.out,PU.out,by
       have:=PO.out.set (us:=[]) HF.out EU.out abo.out (λj e=>by cases e) (λe=>by cases e)
       rwa [List.append_nil]at this,RU.out,rfl,by have:=EC.out;have:=Ao.out;omega⟩)
      have CD:=aa (show eH.length+3*(cur.set k (some began)).countP (later began)<gk by have:=EC.out;have:=Ao.out;omega);clear jq rA Qv QG;rcases hzz with hz1|⟨hz1,hz2⟩
      ·have g1:decide (0<=z)=false:=by simp;omega
       go_wp2_with fail;go_roundg (eH.length+3*(cur.set k (some began)).countP (later began))
       case measure=>exact CD.out
       case rel=>exact HST.out
      ·have g1:decide (0<=z)=true:=by simp;omega
       have g2:decide (z<=(began:Int))=false:=by simp;omega
       go_wp2_with fail;go_roundg (eH.length+3*(cur.set k (some began)).countP (later began))
       case measure=>exact CD.out
       case rel=>exact HST.out
     | none=>
      simp only[qY]at PS;rw[PS]at m7;clear PS
      have abp:=aa (PO.out.set (us:=[to,or]) HF.out EU.out abo.out (λj e=>by
       simp only[List.mem_cons,List.not_mem_nil,or_false]at e;exact ⟨rfl,e.imp Eq.symm Eq.symm⟩) (λ_ j e=>by
       simp only[List.mem_cons,List.not_mem_nil,or_false];exact e.imp Eq.symm Eq.symm))
      have HLJ:=aa (show ∀j,to=some j∨or=some j->j<eh.length from λj e=>by rw[HLEN.out];exact e.elim (QN.out.1 j) (QN.out.2.1 j))
      have HGG:=aa (show w.heap.size<=g from (cT PR.out rfl).1);have HN2:=aa (show (eH++[to,or]).length+3*(cur.set k (some began)).countP (later began)<=1+3*eh.length by have:=EC.out;have:=Ao.out;simp only[dG,fe,List.length_nil];omega)
      have CD:=aa (show (eH++[to,or]).length+3*(cur.set k (some began)).countP (later began)<gk by have:=EC.out;have:=Ao.out;simp only[dG,fe,List.length_nil];omega);obtain ⟨i0,hi,hz0,abq,hz3⟩:=info_parts Lj;rcases hzz with hz1|⟨hz1,hz2⟩
      ·have g1:decide (0<=z)=false:=by simp;omega
       go_wp2_with fail;have kC:=aa (show w.heap.size<=(wr.setCell ⟨G,k,none⟩ (.int .i64 began)).heap.size from PT.out.size);clear hc1 hc2 ct;generalize wr.setCell ⟨G,k,none⟩ (.int .i64 began)=W2 at *;have m1':=aw m1 (.cells #[.int .i64 zt,.int .i64 zo] 3);have m8':=aw m8 (.cells #[.int .i64 zt,.int .i64 zo] 3)
       have m9':=aw m9 (.cells #[.int .i64 zt,.int .i64 zo] 3)
       go_region_law (go_loud (refine cY rfl (.tmp 57) (.tmp 74) 57 rfl w.heap.size 3 i0 (.int .i64 0) 1 8 Tryz.underlying57 hi hz0 abq hz3 rfl (by decide) (.slice (some ⟨g,0,none⟩) eH.length cap) eH.length (eH.map ea) (by rfl) (by exact eI PV.out _) ⟨W2.heap.size,0,none⟩ 2 2 [.int .i64 zt,.int .i64 zo] (by rfl) (by rfl) (by exact aG W2 #[.int .i64 zt,.int .i64 zo] _) (D5 zt zo) (by unfold maxLen;omega) (by omega) (by have:=kC.out;simp;omega) ?_;intro v' w5 hown hg _;obtain ⟨g',cap',rfl⟩:=aB hown (by omega);have HST:=aa (xc (n:=(eH++[to,or]).length+3*(cur.set k (some began)).countP (later began)) HGl.out HGG.out PT.out kp.out PU.out abp.out RU.out HLJ.out rfl HN2.out hzt hzo (((Below.refl _ W2).alloc (bc _) (.cells #[.int .i64 zt,.int .i64 zo] 3)).drew) hown hg);clear hown hg))
       all_goals
        go_wp2_with fail;go_roundg ((eH++[to,or]).length+3*(cur.set k (some began)).countP (later began))
        case measure=>exact CD.out
        case rel=>exact HST.out
      ·have g1:decide (0<=z)=true:=by simp;omega
       have g2:decide (z<=(began:Int))=false:=by simp;omega
       go_wp2_with fail;have kC:=aa (show w.heap.size<=(wr.setCell ⟨G,k,none⟩ (.int .i64 began)).heap.size from PT.out.size);clear hc1 hc2 ct;generalize wr.setCell ⟨G,k,none⟩ (.int .i64 began)=W2 at *;have m1':=aw m1 (.cells #[.int .i64 zt,.int .i64 zo] 3);have m8':=aw m8 (.cells #[.int .i64 zt,.int .i64 zo] 3)
       have m9':=aw m9 (.cells #[.int .i64 zt,.int .i64 zo] 3)
       go_region_law (go_loud (refine cY rfl (.tmp 57) (.tmp 74) 57 rfl w.heap.size 3 i0 (.int .i64 0) 1 8 Tryz.underlying57 hi hz0 abq hz3 rfl (by decide) (.slice (some ⟨g,0,none⟩) eH.length cap) eH.length (eH.map ea) (by rfl) (by exact eI PV.out _) ⟨W2.heap.size,0,none⟩ 2 2 [.int .i64 zt,.int .i64 zo] (by rfl) (by rfl) (by exact aG W2 #[.int .i64 zt,.int .i64 zo] _) (D5 zt zo) (by unfold maxLen;omega) (by omega) (by have:=kC.out;simp;omega) ?_;intro v' w5 hown hg _;obtain ⟨g',cap',rfl⟩:=aB hown (by omega);have HST:=aa (xc (n:=(eH++[to,or]).length+3*(cur.set k (some began)).countP (later began)) HGl.out HGG.out PT.out kp.out PU.out abp.out RU.out HLJ.out rfl HN2.out hzt hzo (((Below.refl _ W2).alloc (bc _) (.cells #[.int .i64 zt,.int .i64 zo] 3)).drew) hown hg);clear hown hg))
       all_goals
        go_wp2_with fail;go_roundg ((eH++[to,or]).length+3*(cur.set k (some began)).countP (later began))
        case measure=>exact CD.out
        case rel=>exact HST.out
end Go.Proofs.YtgncgdkpkkdaeaaGreatDoor.Ref
