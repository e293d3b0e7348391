import Derived.Test.YtgncgdkpkkdaeaaGreatDoorMTC
import Derived.Test.YtgncgdkpkkdaeaaGreatDoorMK
import Derived.WalkSmall
namespace Go.Proofs.YtgncgdkpkkdaeaaGreatDoor.Ref
open Go.RowKit aO
variable {dQ:List (Option Nat)} {G:Nat} {w:World}
theorem bU.later{w':World}{B P:Nat}{ls:List (Value×Sp)}{first:Int}(h:bU w B P ls first)(hB:B<=w.heap.size)(hb:Below w.heap.size w w'):bU w' B P ls first:=by
 obtain ⟨sv,h1,h2⟩:=h.ex;exact ⟨⟨sv,(hb.block P (ae h1)).trans h1,dJ h2 (λk e=>hb.block k (cJ h2 e).2)⟩,λl hl=>(h.dQ l hl).below ⟨hb.os,hb.tape,hb.output,hb.size,λk hk=>hb.block k (by omega)⟩,h.hP⟩
def fc(w:World)(G:Nat)(dQ:List (Option Nat)):Prop:=w.heap[G]?=some (.cells (dQ.map dO).toArray 3 (0,0))
def jo(dQ:List (Option Nat))(k:Nat):Option Nat:=(dQ[k]?).getD none
theorem fc.cell(h:fc w G dQ){k:Nat}(hk:k<dQ.length):w.cell? ⟨G,k,none⟩=some (dO (jo dQ k))/\w.frozen? ⟨G,k,none⟩=false:=by unfold fc at h;refine ⟨?_,by simp[World.frozen?,h]⟩;simp[World.cell?,h,jo,List.getElem?_eq_getElem hk]
theorem fc.put(h:fc w G dQ)(k b:Nat):fc (w.setCell ⟨G,k,none⟩ (.int .i64 b)) G (dQ.set k (some b)):=by unfold fc at *;rw[heap_setCell_same w G k _ h,List.setIfInBounds_toArray,List.map_set];rfl
theorem Si(dQ:List (Option Nat))(k b j:Nat)(hk:k<dQ.length):jo (dQ.set k (some b)) j=if j=k then some b else jo dQ j:=by
 unfold jo;rw[List.getElem?_set];by_cases h:k=j
 ·subst h;simp[hk]
 ·rw[if_neg h,if_neg (λe=>h e.symm)]
def zeros(n:Nat):Array Value:=(List.replicate n (Value.int .i64 0)).toArray
theorem Kv(j k:Nat):(List.replicate j (Value.int .i64 (-1))++List.replicate (k+1) (Value.int .i64 0)).set j (.int .i64 (-1))=List.replicate (j+1) (Value.int .i64 (-1))++List.replicate k (Value.int .i64 0):=by rw[List.set_append_right _ _ (by simp),List.length_replicate,Nat.sub_self,List.replicate_succ (n:=k),List.set_cons_zero,List.replicate_succ' (n:=j),List.append_assoc];rfl
theorem qY(w:World)(n:Nat)(hn:n<=1000):(Instr.makeSlice 57 (.int .i64 n) (.int .i64 n)).run Tryz.prog w=.ok (.slice (some ⟨w.heap.size,0,none⟩) n n) (w.alloc (.cells (zeros n) 3)):=by
 obtain ⟨i,hi,h0,h1,h2⟩:=info_parts (show (Tryz.prog.info? 3).map (λi=>(i.zero,i.size,i.bytes))=some (some (.int .i64 0),1,8) by kernel_rfl);rw[run_make w 57 3 i (.int .i64 0) Tryz.underlying57 hi h0 .i64 .i64 n n (by omega) (by omega) (by rw[h2];omega) (by omega)]
 have:madeCells (Value.int .i64 0).cells ((n:Int).toNat *i.size)=zeros n:=by rw[h1];apply Array.toList_inj.1;show (madeCells #[.int .i64 0] ((n:Int).toNat *1)).toList=_;rw[toList_madeCells_one];simp[zeros]
 rw[this];simp
def Dc(w:World)(G n k:Nat)(vi:Value)(wr:World):Prop:=
 ∃j,vi=.int .i64 (j:Nat)/\j+k=n/\Below G w wr/\wr.heap[G]?=some (.cells (List.replicate j (Value.int .i64 (-1))++List.replicate k (Value.int .i64 0)).toArray 3 (0,0))
def Dd(n:Nat)(w:World)(e:Ending)(w':World):Prop:=e=.returned (.slice (some ⟨w.heap.size,0,none⟩) n n)/\fc w' w.heap.size (List.replicate n none)/\Below w.heap.size w w'
set_option maxRecDepth 20000 in
set_option maxHeartbeats 1000000 in
theorem OS(B P:Nat)(ls:List (Value×Sp))(first:Int)(w:World)(h:bU w B P ls first)(h0:0<ls.length)(hn:ls.length<=300):Calls Tryz.prog 105 #[.pointer (some ⟨P,0,none⟩)] w (Dd ls.length w):=by
 obtain ⟨g,cap,m1,m2,m3,m4,m5,m6⟩:=h.mem h0;obtain ⟨n,rU⟩:∃n,n=ls.length:=⟨_,rfl⟩;rw[<-rU]at m1 hn ⊢;have hmk:=qY w n (by omega);clear h m2 m3 m4 m5 m6 h0 rU;go_enter Tryz.func105,Tryz.ntmps105;go_wp2_with fail;have Ej:=aa (af w (.cells (zeros n) 3))
 have gW:=aa (show Below w.heap.size w (w.alloc (.cells (zeros n) 3)) from (Below.refl _ _).alloc (Nat.le_refl _) _);obtain ⟨G,hG⟩:∃G,G=w.heap.size:=⟨_,rfl⟩;rw[<-hG]at Ej gW ⊢;have HG:=aa hG;clear hmk hG m1;generalize w.alloc (.cells (zeros n) 3)=w1 at *;go_loopg [4] n (λk vi wr=>Dc w G n k vi wr)
 case atStart=>exact ⟨0,rfl,by omega,gW.out,by rw[List.replicate_zero,List.nil_append];exact Ej.out⟩
 case round=>
  obtain ⟨j,rfl,hj,hb,hr⟩:=hrel;have HB:=aa hb;have HR:=aa hr
  cases gk with
  | zero=>
   have kg:¬j<n:=by omega
   have hg1:decide (j<n)=false:=by simpa using kg
   have ai:=aa (show Dd n w (.returned (.slice (some ⟨G,0,none⟩) n n)) wr from ⟨by rw[HG.out],by
    have h:=HR.out;rw[HG.out]at h;unfold fc;rw[h];obtain rfl:j=n:=by omega
    simp[dO],by have h:=HB.out;rwa [HG.out]at h⟩)
   clear hb hr;go_wp2_with fail;go_ret;exact ai.out
  | succ k=>
   have qF:j<n:=by omega
   have hg1:decide ((j:Int)<(n:Int))=true:=by simpa using qF
   have c1:wr.cell? ⟨G,j,none⟩=some (.int .i64 0):=by simp[World.cell?,hr]
   have f1:wr.frozen? ⟨G,j,none⟩=false:=by simp[World.frozen?,hr]
   have HST:=aa (show Dc w G n k (.int .i64 ((j+1:Nat):Int)) (wr.setCell ⟨G,j,none⟩ (.int .i64 (-1))) from ⟨j+1,rfl,by omega,hb.setCell (Nat.le_refl _) _,by rw[heap_setCell_same wr G j _ hr,List.setIfInBounds_toArray,Kv]⟩);clear hb hr;go_wp2_with fail;go_roundg k
   case measure=>omega
   case rel=>exact HST.out
end Go.Proofs.YtgncgdkpkkdaeaaGreatDoor.Ref
namespace Go.Proofs.YtgncgdkpkkdaeaaGreatDoor.Ref
open Go.RowKit aO
def mZ(F:List Sp)(G spot began:Nat)(dQ:List (Option Nat))(w:World)(e:Ending)(w':World):Prop:=
 ∃Sj,e=.returned (.tuple #[])/\Ap G w w'/\fc w' G Sj/\Sj.length=dQ.length/\Ent F spot began (jo dQ) (jo Sj)/\iM F (jo Sj)
def jU(F:List Sp)(G spot began:Nat)(dQ:List (Option Nat))(w:World)(k:Nat)(vt:Value)(wr:World):Prop:=
 ∃(ts cur:List (Option Nat)) (g cap:Nat),vt=.slice (some ⟨g,0,none⟩) ts.length cap/\wr.ownsRow w.heap.size 3 1 (.slice (some ⟨g,0,none⟩) ts.length cap) ts.length (ts.map dO)/\Ap G w wr/\fc wr G cur/\cur.length=dQ.length/\gj F spot began (jo dQ) (jo cur) ts/\(∀j,some j∈ts->j<dQ.length)/\k=ts.length+3*cur.countP (later began)/\k<=1+3*dQ.length
theorem Kw:(Tryz.prog.info? 3).map (λi=>(i.zero,i.size,i.bytes))=some (some (.int .i64 0),1,8):=by kernel_rfl
theorem De(a b:Int):∀u∈[Value.int .i64 a,.int .i64 b],u.oneCell'=true:=by intro u hu;simp only[List.mem_cons,List.not_mem_nil,or_false]at hu;rcases hu with rfl|rfl<;>rfl
theorem vS{F:List Sp}{G spot began:Nat}{dQ:List (Option Nat)}{w W W1 w5:World}{et tz:List (Option Nat)}{g g' cap' n:Nat}{to or:Option Nat}{zt zo:Int}(hGl:G<w.heap.size)(hg:w.heap.size<=g)(hap:Ap G w W)(hrow:fc W G tz)(hlen:tz.length=dQ.length)(hinv:gj F spot began (jo dQ) (jo tz) (et++[to,or]))(U1:∀j,some j∈et->j<dQ.length)(hlk:∀j,to=some j∨or=some j->j<dQ.length)
  (hn:n=(et++[to,or]).length+3*tz.countP (later began)) (pF:n<=1+3*dQ.length) (hzt:dO to=.int .i64 zt) (hzo:dO or=.int .i64 zo) (hW1:Below W.heap.size W W1) (hown:w5.ownsRow w.heap.size 3 1 (.slice (some ⟨g',0,none⟩) (et.length+2) cap') (et.length+2) (et.map dO++[.int .i64 zt,.int .i64 zo])) (hgr:W1.grownBy w5 (some g)):
  jU F G spot began dQ w n (.slice (some ⟨g',0,none⟩) (et.length+2) cap') w5:=by
 have hl:(et++[to,or]).length=et.length+2:=by simp
 have hGW:G<W.heap.size:=Nat.lt_of_lt_of_le hGl hap.size;have dr:∀k,k<W.heap.size->k≠g->w5.heap[k]?=W.heap[k]?:=λk h1 h2=>(hgr.block k (Nat.lt_of_lt_of_le h1 hW1.size) (λe=>h2 (Option.some.inj e))).trans (hW1.block k h1)
 refine ⟨et++[to,or],tz,g',cap',by rw[hl],?_,⟨hgr.os.trans (hW1.os.trans hap.os),hgr.tape.trans (hW1.tape.trans hap.tape),hgr.output.trans (hW1.output.trans hap.output),Nat.le_trans hap.size (Nat.le_trans hW1.size hgr.size),λk eJ hk2=>?_⟩,?_,hlen,hinv,λj hj=>?_,hn,pF⟩
 ·rw[hl,List.map_append];simp only[List.map_cons,List.map_nil,hzt,hzo];exact hown
 ·rw[dr k (Nat.lt_of_lt_of_le eJ hap.size) (by omega)];exact hap.keep k eJ hk2
 ·exact (dr G hGW (by omega)).trans hrow
 ·rcases List.mem_append.1 hj with h|h
  ·exact U1 j h
  ·simp only[List.mem_cons,List.not_mem_nil,or_false]at h;exact hlk j (h.imp Eq.symm Eq.symm)
set_option maxRecDepth 20000 in
set_option maxHeartbeats 2000000 in
theorem Ky(wP:World)(B P:Nat)(ls:List (Value×Sp))(first:Int)(hP:bU wP B P ls first)(hBP:B<=wP.heap.size)(h0:0<ls.length)(hn:ls.length<=300)(hlk:∀l∈ls,oU ls.length l.2)
  (G spot began:Nat) (dQ:List (Option Nat)) (w:World) (hb:Below wP.heap.size wP w) (hG:wP.heap.size<=G) (hR:fc w G dQ) (hlen:dQ.length=ls.length) (gL:iM (ls.map (·.2)) (jo dQ)) (hsp:spot<ls.length):
  Calls Tryz.prog 106 #[.pointer (some ⟨P,0,none⟩),.slice (some ⟨G,0,none⟩) ls.length ls.length,.int .i64 spot,.int .i64 began] w (mZ (ls.map (·.2)) G spot began dQ w):=by
 have HR:=aa hR;have HP:=aa hP;have HLK:=aa hlk;have HB:=aa hb;have HLEN:=aa hlen;have AA:=aa gL;have HGl:=aa (ae hR);clear hR hP hlk hb hlen gL;go_enter Tryz.func106,Tryz.ntmps106;go_wp2_with fail;go_loopg [8] (1+3*dQ.countP (later began)) (λk vt wr=>jU (ls.map (·.2)) G spot began dQ w k vt wr)
 case atStart=>
  refine ⟨[some spot],dQ,w.heap.size,1,rfl,⟨rfl,.inr ⟨w.heap.size,1,#[.int .i64 spot],rfl,Nat.le_refl _,af _ _,Nat.le_refl _,by unfold maxLen;omega,rfl,rfl⟩⟩,(Ap.refl _ _).alloc _,heap_alloc_old HR.out,rfl,gj.begin AA.out,λj hj=>?_,rfl,by have:=List.countP_le_length (p:=later began) (l:=dQ);omega⟩;obtain rfl:j=spot:=by simpa using hj
  rw[HLEN.out];exact hsp
 case round=>
  obtain ⟨ts,cur,g,cap,rfl,hown,hap,hrow,gL,hinv,U1,hk,Zw⟩:=hrel;have N4:=aa hap;have ba:=aa hrow;have OT:=aa hinv;have U2:=aa U1;have HK:=aa hk;have OU:=aa gL;have aaP:=aa hown;clear hap hrow hinv U1 hk gL hown;rcases List.eq_nil_or_concat ts with rfl|⟨et,t,rfl⟩
  ·obtain ⟨h1,h2⟩:=OT.out.done;have ai:=aa (show mZ (ls.map (·.2)) G spot began dQ w (.returned (.tuple #[])) wr from ⟨cur,rfl,N4.out,ba.out,OU.out,h1,h2⟩);clear h1 h2;go_wp2_with fail;go_end0;exact ai.out
  ·rw[List.concat_eq_append]at *;have ie:(et++[t]).length=et.length+1:=by simp
   have hl2:et.length+1<=1+3*dQ.length:=by have:=HK.out;rw[ie]at this;omega
   have xC:et.length<=1000:=by have:=HLEN.out;omega
   have hown1:wr.ownsRow w.heap.size 3 1 (.slice (some ⟨g,0,none⟩) (et.length+1) cap) (et.length+1) (et.map dO++[dO t]):=by have h:=aaP.out;rw[ie,List.map_append]at h;exact h
   have OV:=aa (ownsRow_pop (by simp) hown1)
   have ct:wr.cell? ⟨g,et.length,none⟩=some (dO t):=by
    rcases hown1.2 with ⟨h1,_⟩|⟨g',cap',cr,h1,_,h2,h3,_,h4,h5⟩
    ·cases h1
    ·cases h1
     have h6:cr[et.length]?=some (dO t):=by
      have h7:(cr.toList.take ((et.length+1)*1))[et.length]?=some (dO t):=by rw[h5];simp
      rw[List.getElem?_take,if_pos (by omega)]at h7;simpa using h7
     simp[World.cell?,h2,h6]
   have Zo:et.length+1<=cap:=by
    rcases hown1.2 with ⟨h1,_⟩|⟨g',cap',cr,h1,_,h2,h3,_,h4,h5⟩
    ·cases h1
    ·cases h1;exact h3
   clear hown1 aaP;rw[ie]
   cases t with
   | none=>
    simp only[dO]at ct;have HST:=aa (show jU (ls.map (·.2)) G spot began dQ w (et.length+3*cur.countP (later began)) (.slice (some ⟨g,0,none⟩) et.length cap) wr from ⟨et,cur,g,cap,rfl,OV.out,N4.out,ba.out,OU.out,OT.out.skip (λk e=>by cases e),λj hj=>U2.out j (by simp[hj]),rfl,by have:=HK.out;rw[ie]at this;omega⟩)
    have BG:=aa (show et.length+3*cur.countP (later began)<gk by have:=HK.out;rw[ie]at this;omega);clear ie hl2;go_wp2_with fail;go_roundg (et.length+3*cur.countP (later began))
    case measure=>exact BG.out
    case rel=>exact HST.out
   | some k=>
    simp only[dO]at ct;have lL:k<ls.length:=by have:=U2.out k (by simp);rw[HLEN.out]at this;exact this
    have hkc:k<cur.length:=by rw[OU.out,HLEN.out];exact lL
    obtain ⟨hc1,hc2⟩:=ba.out.cell hkc;have qw:=HB.out.trans (N4.out.below (B:=wP.heap.size) HB.out.size hG);have HPW:=aa (HP.out.later hBP (qw.trans ((Below.refl _ wr).setCell (p:=⟨G,k,none⟩) hG (.int .i64 began))));obtain ⟨⟨v,s⟩,hl⟩:∃l,ls[k]?=some l:=⟨_,List.getElem?_eq_getElem lL⟩;obtain ⟨g2,qK,m1,m2,m3,m4,m5,m6⟩:=HPW.out.mem h0;obtain ⟨m7,m8,m9⟩:=m4 k _ hl
    have OW:=HPW.out.dQ (v,s) (List.mem_of_getElem? hl);have HF:=aa (show (ls.map (·.2))[k]?=some s by rw[List.getElem?_map,hl];rfl);have PZ:=aa (HLK.out (v,s) (List.mem_of_getElem? hl));have DM:=aa (show gk=et.length+1+3*cur.countP (later began) by have:=HK.out;rwa [ie]at this);have QS:=aa (show ∀j,some j∈et->j<dQ.length from λj hj=>U2.out j (by simp[hj]))
    have hcc:cur[k]?=some (jo cur k):=by simp[jo,List.getElem?_eq_getElem hkc]
    have HCC:=aa hcc;have OX:=aa (show Ap G w (wr.setCell ⟨G,k,none⟩ (.int .i64 began)) from N4.out.setCell rfl _);have jP:=aa (ba.out.put k began);have OY:=aa (show (cur.set k (some began)).length=dQ.length by rw[List.length_set];exact OU.out);have aaQ:=aa (Si cur k began · hkc)
    have OZ:=aa (show (wr.setCell ⟨G,k,none⟩ (.int .i64 began)).ownsRow w.heap.size 3 1 (.slice (some ⟨g,0,none⟩) et.length cap) et.length (et.map dO) from dJ OV.out (λx e=>Below.heap_setCell _ _ _ _ (by show x≠G;have:=(cJ OV.out e).1;have:=HGl.out;omega)));have adF:=Zw;clear hcc hl m2 m3 m4 m5 m6 qw HK U2 ie hl2 HPW
    generalize Lc:jo cur k=ak at *;by_cases hle:∃c,ak=some c/\c<=began
    ·obtain ⟨c,rfl,hcb⟩:=hle;simp only[dO]at hc1;have g1:decide ((c:Int)<=(began:Int))=true:=by simp;omega
     have HST:=aa (show jU (ls.map (·.2)) G spot began dQ w (et.length+3*cur.countP (later began)) (.slice (some ⟨g,0,none⟩) et.length cap) wr from ⟨et,cur,g,cap,rfl,OV.out,N4.out,ba.out,OU.out,OT.out.skip (λj e=>by cases e;exact ⟨c,Lc,hcb⟩),QS.out,rfl,by have:=DM.out;omega⟩);have BG:=aa (show et.length+3*cur.countP (later began)<gk by have:=DM.out;omega)
     clear Lc m1 m7 m8 m9 OW;go_wp2_with fail;go_roundg (et.length+3*cur.countP (later began))
     case measure=>exact BG.out
     case rel=>exact HST.out
    ·have uy:=aa (show later began ak=true by
      cases ak with
      | none=>rfl
      | some c=>simp[later];exact Nat.lt_of_not_le λe=>hle ⟨c,rfl,e⟩)
     have D9:=aa (show ∀c,jo cur k=some c->began<c from λc e=>Nat.lt_of_not_le λe2=>hle ⟨c,by rw[<-Lc,e],e2⟩);have zw:=aa (x9 HCC.out uy.out);obtain ⟨on,to,or⟩:=s;obtain ⟨zt,hzt⟩:∃z,dO to=.int .i64 z:=by cases to<;>exact ⟨_,rfl⟩
     obtain ⟨zo,hzo⟩:∃z,dO or=.int .i64 z:=by cases or<;>exact ⟨_,rfl⟩
     simp only[hzt,hzo]at m8 m9
     have hgd:∃z:Int,dO ak=.int .i64 z/\((z<0)∨(0<=z/\(began:Int)<z)):=by
      cases ak with
      | none=>exact ⟨-1,rfl,.inl (by decide)⟩
      | some c=>exact ⟨c,rfl,.inr ⟨by omega,by have:=Nat.lt_of_not_le λe=>hle ⟨c,rfl,e⟩;omega⟩⟩
     obtain ⟨z,hz,hzz⟩:=hgd;rw[hz]at hc1;clear hle Lc hz
     cases on with
     | some cY=>
      obtain ⟨A,onl,iV,qB,PF,PS⟩:=OW;simp only at iV;rw[iV]at m7
      have HST:=aa (show jU (ls.map (·.2)) G spot began dQ w (et.length+3*(cur.set k (some began)).countP (later began)) (.slice (some ⟨g,0,none⟩) et.length cap) (wr.setCell ⟨G,k,none⟩ (.int .i64 began)) from ⟨et,_,g,cap,rfl,OZ.out,OX.out,jP.out,OY.out,by
       have:=OT.out.set (us:=[]) HF.out D9.out aaQ.out (λj e=>by cases e) (λe=>by cases e)
       rwa [List.append_nil]at this,QS.out,rfl,by have:=DM.out;have:=zw.out;omega⟩)
      have BG:=aa (show et.length+3*(cur.set k (some began)).countP (later began)<gk by have:=DM.out;have:=zw.out;omega);clear iV qB PF PS;rcases hzz with hz1|⟨hz1,hz2⟩
      ·have g1:decide (0<=z)=false:=by simp;omega
       go_wp2_with fail;go_roundg (et.length+3*(cur.set k (some began)).countP (later began))
       case measure=>exact BG.out
       case rel=>exact HST.out
      ·have g1:decide (0<=z)=true:=by simp;omega
       have g2:decide (z<=(began:Int))=false:=by simp;omega
       go_wp2_with fail;go_roundg (et.length+3*(cur.set k (some began)).countP (later began))
       case measure=>exact BG.out
       case rel=>exact HST.out
     | none=>
      simp only[mB]at OW;rw[OW]at m7;clear OW
      have aaR:=aa (OT.out.set (us:=[to,or]) HF.out D9.out aaQ.out (λj e=>by
       simp only[List.mem_cons,List.not_mem_nil,or_false]at e;exact ⟨rfl,e.imp Eq.symm Eq.symm⟩) (λ_ j e=>by
       simp only[List.mem_cons,List.not_mem_nil,or_false];exact e.imp Eq.symm Eq.symm))
      have HLJ:=aa (show ∀j,to=some j∨or=some j->j<dQ.length from λj e=>by rw[HLEN.out];exact e.elim (PZ.out.1 j) (PZ.out.2.1 j))
      have HGG:=aa (show w.heap.size<=g from (cJ OV.out rfl).1);have HN2:=aa (show (et++[to,or]).length+3*(cur.set k (some began)).countP (later began)<=1+3*dQ.length by have:=DM.out;have:=zw.out;simp only[List.length_append,List.length_cons,List.length_nil];omega)
      have BG:=aa (show (et++[to,or]).length+3*(cur.set k (some began)).countP (later began)<gk by have:=DM.out;have:=zw.out;simp only[List.length_append,List.length_cons,List.length_nil];omega);obtain ⟨i0,hi,hz0,aaS,hz3⟩:=info_parts Kw;rcases hzz with hz1|⟨hz1,hz2⟩
      ·have g1:decide (0<=z)=false:=by simp;omega
       go_wp2_with fail;have jY:=aa (show w.heap.size<=(wr.setCell ⟨G,k,none⟩ (.int .i64 began)).heap.size from OX.out.size);clear hc1 hc2 ct;generalize wr.setCell ⟨G,k,none⟩ (.int .i64 began)=W2 at *;have m1':=ar m1 (.cells #[.int .i64 zt,.int .i64 zo] 3);have m8':=ar m8 (.cells #[.int .i64 zt,.int .i64 zo] 3)
       have m9':=ar m9 (.cells #[.int .i64 zt,.int .i64 zo] 3)
       go_region_law (go_loud (refine cO rfl (.tmp 57) (.tmp 74) 57 rfl w.heap.size 3 i0 (.int .i64 0) 1 8 Tryz.underlying57 hi hz0 aaS hz3 rfl (by decide) (.slice (some ⟨g,0,none⟩) et.length cap) et.length (et.map dO) (by rfl) (by exact eu OZ.out _) ⟨W2.heap.size,0,none⟩ 2 2 [.int .i64 zt,.int .i64 zo] (by rfl) (by rfl) (by exact aD W2 #[.int .i64 zt,.int .i64 zo] _) (De zt zo) (by unfold maxLen;omega) (by omega) (by have:=jY.out;simp;omega) ?_;intro v' w5 hown hg _;obtain ⟨g',cap',rfl⟩:=az hown (by omega);have HST:=aa (vS (n:=(et++[to,or]).length+3*(cur.set k (some began)).countP (later began)) HGl.out HGG.out OX.out jP.out OY.out aaR.out QS.out HLJ.out rfl HN2.out hzt hzo (((Below.refl _ W2).alloc (Nat.le_refl _) (.cells #[.int .i64 zt,.int .i64 zo] 3)).drew) hown hg);clear hown hg))
       all_goals
        go_wp2_with fail;go_roundg ((et++[to,or]).length+3*(cur.set k (some began)).countP (later began))
        case measure=>exact BG.out
        case rel=>exact HST.out
      ·have g1:decide (0<=z)=true:=by simp;omega
       have g2:decide (z<=(began:Int))=false:=by simp;omega
       go_wp2_with fail;have jY:=aa (show w.heap.size<=(wr.setCell ⟨G,k,none⟩ (.int .i64 began)).heap.size from OX.out.size);clear hc1 hc2 ct;generalize wr.setCell ⟨G,k,none⟩ (.int .i64 began)=W2 at *;have m1':=ar m1 (.cells #[.int .i64 zt,.int .i64 zo] 3);have m8':=ar m8 (.cells #[.int .i64 zt,.int .i64 zo] 3)
       have m9':=ar m9 (.cells #[.int .i64 zt,.int .i64 zo] 3)
       go_region_law (go_loud (refine cO rfl (.tmp 57) (.tmp 74) 57 rfl w.heap.size 3 i0 (.int .i64 0) 1 8 Tryz.underlying57 hi hz0 aaS hz3 rfl (by decide) (.slice (some ⟨g,0,none⟩) et.length cap) et.length (et.map dO) (by rfl) (by exact eu OZ.out _) ⟨W2.heap.size,0,none⟩ 2 2 [.int .i64 zt,.int .i64 zo] (by rfl) (by rfl) (by exact aD W2 #[.int .i64 zt,.int .i64 zo] _) (De zt zo) (by unfold maxLen;omega) (by omega) (by have:=jY.out;simp;omega) ?_;intro v' w5 hown hg _;obtain ⟨g',cap',rfl⟩:=az hown (by omega);have HST:=aa (vS (n:=(et++[to,or]).length+3*(cur.set k (some began)).countP (later began)) HGl.out HGG.out OX.out jP.out OY.out aaR.out QS.out HLJ.out rfl HN2.out hzt hzo (((Below.refl _ W2).alloc (Nat.le_refl _) (.cells #[.int .i64 zt,.int .i64 zo] 3)).drew) hown hg);clear hown hg))
       all_goals
        go_wp2_with fail;go_roundg ((et++[to,or]).length+3*(cur.set k (some began)).countP (later began))
        case measure=>exact BG.out
        case rel=>exact HST.out
end Go.Proofs.YtgncgdkpkkdaeaaGreatDoor.Ref
