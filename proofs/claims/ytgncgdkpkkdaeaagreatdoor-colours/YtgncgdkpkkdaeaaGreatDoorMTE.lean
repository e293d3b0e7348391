import Derived.Test.YtgncgdkpkkdaeaaGreatDoorMTD
import Derived.Test.YtgncgdkpkkdaeaaGreatDoorMK
namespace Go.Proofs.YtgncgdkpkkdaeaaGreatDoor.Ref
open Go.RowKit aQ
variable {CU dE:List (Option Nat)} {ls:List (Value×Sp)} {G K L:Nat} {x:UInt8} {wP wr:World}
def uC(o:Option (Nat×Nat)):Value:=dD (o.map (·.1))
def Nw:Option (Nat×Nat)->Value
 | none=>.int .i64 0
 | some (_,e)=>.int .i64 e
structure Fs(wP:World)(ls:List (Value×Sp))(wr:World)(G:Nat)(dE:List (Option Nat)):Prop where
 below:Below wP.heap.size wP wr
 hG:wP.heap.size<=G
 row:eL wr G dE
 len:dE.length=ls.length
 closed:iv (ls.map (·.2)) (iR dE)
def Nx(wP:World)(ls:List (Value×Sp))(first:Nat)(r:Re)(T:List UInt8)(f k:Nat)(von vb ve va:Value)(wr:World):Prop:=
 ∃G dE a o,von=.slice (some ⟨G,0,none⟩) ls.length ls.length/\vb=uC o/\ve=Nw o/\va=.int .i64 (a:Nat)/\f<=a/\a+k=T.length+1/\Fs wP ls wr G dE/\(0<k->lj (ls.map (·.2)) T first f (lim a o) a (iR dE))/\aQ.Found r T f a o
def uD(wP:World)(ls:List (Value×Sp))(L:Nat)(x:UInt8)(G G2:Nat)(dE:List (Option Nat))(k:Nat)(vl vk:Value)(wr:World):Prop:=
 ∃K CU left,vk=.int .i64 (K:Nat)/\vl=.bool left/\K+k=ls.length/\Fs wP ls wr G2 CU/\eL wr G dE/\Taken (ls.map (·.2)) L K x (iR dE) (iR CU)/\(left=false->CU=List.replicate ls.length none)
theorem pA(n k:Nat):iR (List.replicate n none) k=none:=by unfold iR;rw[List.getElem?_replicate];split<;>rfl
theorem Fs.fresh{w w':World}(hb:Below wP.heap.size wP w)(hr:eL w' w.heap.size (List.replicate ls.length none))(hb2:Below w.heap.size w w'):Fs wP ls w' w.heap.size (List.replicate ls.length none):=
 ⟨hb.trans (hb2.mono hb.size),hb.size,hr,by simp,by
  have:iR (List.replicate ls.length none)=λ_=>.none:=funext λk=>pA _ k
  rw[this];exact iv.none _⟩
theorem Fs.drewN(h:Fs wP ls wr G dE)(n:Nat):Fs wP ls (wr.drewN n) G dE:=⟨⟨h.below.os,h.below.tape,h.below.output,h.below.size,h.below.block⟩,h.hG,h.row,h.len,h.closed⟩
theorem Fs.drew(h:Fs wP ls wr G dE):Fs wP ls wr.drew G dE:=⟨⟨h.below.os,h.below.tape,h.below.output,h.below.size,h.below.block⟩,h.hG,h.row,h.len,h.closed⟩
theorem Ji{T:List UInt8}{first f L' a:Nat}(h:Taken (ls.map (·.2)) L' K x (iR dE) (iR CU))(hK:K=ls.length)(ho:lj (ls.map (·.2)) T first f L a (iR dE))(hL:L'<=L)(hLa:L'<=a+1)(ha:T[a]?=some x):lj (ls.map (·.2)) T first f L' (a+1) (iR CU):=
 Taken.done (by rw[List.length_map,<-hK];exact h) ho hL hLa ha
theorem ET{G2 k' b:Nat}{s:Sp}{c:ej}{W w5:World}{e:Ending}(R4:Fs wP ls W G2 CU)(hrow:eL W G dE)(hGG:G≠G2)(gX:Taken (ls.map (·.2)) L K x (iR dE) (iR CU))(h2:iR dE K=some b)(h3:b<L)(h4:(ls.map (·.2))[K]?=some s)(h5:s.on=some c)(h6:c.has x=true)(h7:s.to=some k')(hp:mq (ls.map (·.2)) G2 k' b CU W e w5):
  e=.returned (.tuple #[])/\∃QA,Fs wP ls w5 G2 QA/\eL w5 G dE/\Taken (ls.map (·.2)) L (K+1) x (iR dE) (iR QA):=by
 obtain ⟨QA,he,hap,hr,hl,QB,jb⟩:=hp;refine ⟨he,QA,⟨R4.below.trans (hap.below (B:=wP.heap.size) R4.below.size R4.hG),R4.hG,hr,hl.trans R4.len,jb⟩,?_,gX.take h2 h3 h4 h5 h6 h7 QB⟩;exact (hap.keep G (ae hrow) hGG).trans hrow
set_option maxRecDepth 20000 in
set_option maxHeartbeats 40000000 in
theorem ll(wP:World)(B P:Nat)(ls:List (Value×Sp))(first:Nat)(r:Re)(Ny:iY wP B P ls first r)(hB:B<=wP.heap.size)(text:ByteArray)(f:Nat)(hf:f<=text.size)(hsz:text.size<=140737488351232):
  Calls Tryz.prog 75 #[.pointer (some ⟨P,0,none⟩),.string text,.int .i64 f] wP (oV wP.heap.size r text.data.toList f wP):=by
 have h0:0<ls.length:=Nat.lt_of_le_of_lt (Nat.zero_le _) Ny.lt;have hn:ls.length<=300:=Ny.small;have HPI:=aa Ny;have HL:=aa (show ∀u,aQ.Reach (ls.map (·.2)) first u 0<->Mt r u from Ny.laid.whole (by obtain ⟨v,hv⟩:=Ny.fin;rw[List.getElem?_map,hv];rfl));have Xp:=aa (λ(W:World) (hb:Below wP.heap.size wP W)=>Nl B P ls first W (Ny.j0.later hB hb) h0 hn)
 have nG:=aa (λ(G spot began:Nat) (dE:List (Option Nat)) (W:World) (h:Fs wP ls W G dE) (hs:spot<ls.length)=>Jh wP B P ls first Ny.j0 hB h0 hn Ny.nj G spot began dE W h.below h.hG h.row h.len h.closed hs);have HPC:=aa (λ(W:World) (hb:Below wP.heap.size wP W)=>(Ny.j0.later hB hb).mem h0);have PL:=aa Ny.lt;clear Ny
 go_enter Tryz.func75,Tryz.ntmps75;go_wp2_with fail;refine (Xp.out wP (Below.refl _ _)).mono ?_;rintro e w1 ⟨rfl,hr1,hb1⟩;have jR:=aa (Fs.fresh (Below.refl _ wP) hr1 hb1);clear hr1 hb1;go_wp2_with fail;go_loopg [9,10,11,12] (text.size+1 - f) (λk von vb ve va wr=>Nx wP ls first r text.data.toList f k von vb ve va wr)
 case atStart=>exact ⟨_,_,f,none,rfl,rfl,rfl,rfl,Nat.le_refl _,by rw[ag];omega,jR.out,by
   have:iR (List.replicate ls.length none)=λ_=>.none:=funext λk=>pA _ k
   rw[this];exact λ_=>lj.start _ _ _ _,aQ.Found.start _ _ _⟩
 case round=>
  obtain ⟨G,dE,a,o,rfl,rfl,rfl,rfl,hfa,hk,R4,RY,hfd⟩:=hrel;rw[ag]at hk;have Nz:=aa R4;have Qi:=aa RY;have IB:=aa hfd;clear R4 RY hfd
  cases gk with
  | zero=>
   have CN:¬a<=text.size:=by omega
   have g1:decide (a<=text.size)=false:=by simpa using CN
   have ai:=aa (show oV wP.heap.size r text.data.toList f wP (.returned (found o)) wr from ⟨o,aQ.Found.end (by rw[ag,show text.size+1=a by omega];exact IB.out),rfl,Nz.out.below⟩)
   cases o with
   | none=>
    simp only[uC,Nw,dD,Option.map_none];go_wp2_with fail;exact bodyPost_ret (v:=.tuple #[.int .i64 0,.int .i64 0,.bool false]) (by simp[results,Tryz.results75,go_sem, *]) rfl ai.out
   | some p=>
    obtain ⟨b0,e0⟩:=p;simp only[uC,Nw,dD,Option.map_some];go_wp2_with fail;exact bodyPost_ret (v:=.tuple #[.int .i64 b0,.int .i64 e0,.bool true]) (by simp[results,Tryz.results75,go_sem, *]) rfl ai.out
  | succ k=>
   have hle:a<=text.size:=by omega
   have g1:decide ((a:Int)<=(text.size:Int))=true:=by simpa using hle
   obtain ⟨g2,s9,m1,m2,m3,m4,m5,m6⟩:=HPC.out wr Nz.out.below;clear m1 m3 m4 m5 m6;rcases o with _|⟨b0,e0⟩
   case' none=>
    simp only[uC,Nw,dD,Option.map_none];go_wp2_with fail;refine (nG.out G first a dE wr Nz.out PL.out).mono ?_;rintro e w2 ⟨pB,rfl,hap,hrow,hlen,QB,jb⟩;have uE:=aa (show Fs wP ls w2 G pB from ⟨Nz.out.below.trans (hap.below (B:=wP.heap.size) Nz.out.below.size Nz.out.hG),Nz.out.hG,hrow,hlen.trans Nz.out.len,jb⟩)
    have zg:=aa (show lj (ls.map (·.2)) text.data.toList first f (lim (a+1) none) a (iR pB) from (Qi.out (by omega)).enter hfa QB);clear hap hrow hlen QB jb m2 Nz Qi;have hc0:=(uE.out.row.cell (k:=0) (by rw[uE.out.len];exact h0)).1;by_cases Jj:iR pB 0=none
    case' pos=>
     obtain ⟨o1,tL⟩:∃o1:Option (Nat×Nat),o1=none:=⟨_,rfl⟩;have rT:=aa (IB.out.XM HL.out zg.out Jj);rw[<-tL]at rT;obtain ⟨L,hL⟩:∃L,L=a+1:=⟨_,rfl⟩;have Jk:=aa (show L<=lim (a+1) none/\lim (a+1) o1=L/\L<=a+1 by rw[tL,hL];exact ⟨Nat.le_refl _,rfl,Nat.le_refl _⟩)
     have HBN:=aa (show ∀K b,iR pB K=some b->b<L from λK b h=>by have:=(zg.out.sound K b h).2.1;rw[hL];simpa [lim] using this)
    case' neg=>
     obtain ⟨b1,Jj⟩:=Option.ne_none_iff_exists'.1 Jj;obtain ⟨EU,wo⟩:=IB.out.hit HL.out zg.out Jj;clear wo;obtain ⟨o1,tL⟩:∃o1,o1=some (b1,a):=⟨_,rfl⟩;obtain ⟨L,hL⟩:∃L,L=b1+1:=⟨_,rfl⟩;have uP:=aa hL
     have Jk:=aa (show L<=lim (a+1) none/\lim (a+1) o1=L/\L<=a+1 from by have h2:=EU;rw[tL,hL];exact ⟨by have:=(zg.out.sound 0 b1 Jj).2.1;omega,rfl,by have:=h2.2.1;have:=h2.2.2.1;omega⟩);have rT:=aa EU;rw[<-tL]at rT;clear EU
   case' some=>
    simp only[uC,Nw,dD,Option.map_some];have uE:=aa Nz.out;have zg:=aa (show lj (ls.map (·.2)) text.data.toList first f (lim (a+1) (some (b0,e0))) a (iR dE) from Qi.out (by omega));clear m2 Nz Qi;generalize dE=pB at *;generalize wr=w2 at *;have hc0:=(uE.out.row.cell (k:=0) (by rw[uE.out.len];exact h0)).1;by_cases Jj:iR pB 0=none
    case' pos=>
     have rT:=aa (IB.out.XM HL.out zg.out Jj);obtain ⟨o1,tL⟩:∃o1,o1=some (b0,e0):=⟨_,rfl⟩;rw[<-tL]at rT;generalize b0=b1 at *;obtain ⟨L,hL⟩:∃L,L=b1+1:=⟨_,rfl⟩;have uP:=aa hL
     have Jk:=aa (show L<=lim (a+1) (some (b1,e0))/\lim (a+1) o1=L/\L<=a+1 from by have h2:=rT.out;rw[tL]at h2 ⊢;rw[hL];exact ⟨Nat.le_refl _,rfl,by have:=h2.2.1;have:=h2.2.2.1;omega⟩)
    case' neg=>
     obtain ⟨b1,Jj⟩:=Option.ne_none_iff_exists'.1 Jj;obtain ⟨EU,wo⟩:=IB.out.hit HL.out zg.out Jj;have abq:=wo b0 e0 rfl;have gb:decide ((b1:Int)<=(b0:Int))=true:=by simpa using abq
     clear wo;obtain ⟨o1,tL⟩:∃o1,o1=some (b1,a):=⟨_,rfl⟩;obtain ⟨L,hL⟩:∃L,L=b1+1:=⟨_,rfl⟩;have uP:=aa hL;have Jk:=aa (show L<=lim (a+1) (some (b0,e0))/\lim (a+1) o1=L/\L<=a+1 from by have h2:=EU;rw[tL,hL];exact ⟨by have:=(zg.out.sound 0 b1 Jj).2.1;omega,rfl,by have:=h2.2.1;have:=h2.2.2.1;omega⟩);have rT:=aa EU;rw[<-tL]at rT;clear EU
   all_goals
    rw[Jj]at hc0;simp only[dD]at hc0;have N8:=aa tL;clear Jj hL tL;go_wp2_with fail;refine (Xp.out w2 uE.out.below).mono ?_;rintro e w3 ⟨rfl,hr3,hb3⟩;have QC:=aa (Fs.fresh uE.out.below hr3 hb3);have Zc:=aa (show eL w3 G pB from (hb3.block G (ae uE.out.row)).trans uE.out.row);obtain ⟨G2,Sn⟩:∃G2,G2=w2.heap.size:=⟨_,rfl⟩;rw[<-Sn]at QC ⊢
    have Za:=aa (show G≠G2 by rw[Sn];exact Nat.ne_of_lt (ae uE.out.row));clear hr3 hb3 Sn;go_wp2_with fail;rcases Nat.lt_or_ge a text.size with hlt|kt
    ·have ga:decide ((a:Int)<(text.size:Int))=true:=by simpa using hlt
     obtain ⟨x,hx⟩:∃x,x=text[a]:=⟨_,rfl⟩;have HX:=aa (show text.data.toList[a]?=some x by rw[hx];exact List.getElem?_eq_getElem (show a<text.data.toList.length from hlt));have HXT:=aa hx;clear hx;go_loopg [14,15] ls.length (λk vl vk wr'=>uD wP ls L x G G2 pB k vl vk wr')
     case atStart=>exact ⟨0,List.replicate ls.length none,false,rfl,rfl,by omega,QC.out,Zc.out,by
       have:iR (List.replicate ls.length none)=λ_=>.none:=funext λk=>pA _ k
       rw[this];exact Taken.start _ _ _ _,λ_=>rfl⟩
     case round=>
      obtain ⟨K,CU,left,rfl,rfl,hK,Zd,hrow2,gX,R5⟩:=hrel;have Jl:=aa Zd;have ju:=aa hrow2;have zA:=aa gX;have R6:=aa R5;clear Zd hrow2 gX R5
      cases gk with
      | zero=>
       have hKn:¬K<ls.length:=by omega
       have gK:decide (K<ls.length)=false:=by simpa using hKn
       have HDN:=aa (Ji zA.out (by omega) zg.out Jk.out.1 Jk.out.2.2 HX.out);have HAZ:=aa (show 0<k->lj (ls.map (·.2)) text.data.toList first f (lim (a+1) o1) (a+1) (iR CU) from λ_=>by rw[Jk.out.2.1];exact HDN.out);cases left
       all_goals
        first
         | (
           go_wp2_with fail;go_roundg k
           case measure=>omega
           case rel=>exact ⟨G2,CU,a+1,o1,rfl,by rw[N8.out];rfl,by rw[N8.out];rfl,rfl,by omega,by rw[ag];omega,Jl.out,HAZ.out,rT.out⟩)
         | (
           have ZJ:=R6.out rfl;subst ZJ
           have ai:=aa (show oV wP.heap.size r text.data.toList f wP (.returned (found o1)) wr from by
            have h:=HDN.out;have e:iR (List.replicate ls.length none)=λ_=>none:=funext λk=>pA _ k
            rw[e]at h;have hd:=rT.out;rw[N8.out]at hd ⊢;have hl:=uP.out;subst hl;exact ⟨_,hd.over HL.out (by rw[ag];exact hle) (λ_=>h),rfl,Jl.out.below⟩)
           rw[N8.out]at ai;go_wp2_with fail
           first
            | exact bodyPost_ret (v:=.tuple #[.int .i64 b1,.int .i64 a,.bool true]) (by simp[results,Tryz.results75,go_sem, *]) rfl ai.out
            | exact bodyPost_ret (v:=.tuple #[.int .i64 b1,.int .i64 e0,.bool true]) (by simp[results,Tryz.results75,go_sem, *]) rfl ai.out)
      | succ k2=>
       have hKl:K<ls.length:=by omega
       have gK:decide ((K:Int)<(ls.length:Int))=true:=by simpa using hKl
       have ZN:=Za.out;obtain ⟨g3,DG,n1,n2,n3,n4,n5,n6⟩:=HPC.out wr Jl.out.below;obtain ⟨⟨v,s⟩,S2⟩:∃l,ls[K]?=some l:=⟨_,List.getElem?_eq_getElem hKl⟩;obtain ⟨n7,n8,n9⟩:=n4 K _ S2;have Ns:=(HPI.out.j0.later hB Jl.out.below).dE (v,s) (List.mem_of_getElem? S2);have Ot:=aa (HPI.out.nj (v,s) (List.mem_of_getElem? S2))
       have HFK:=aa (show (ls.map (·.2))[K]?=some s by rw[List.getElem?_map,S2];rfl);have hc1:=(ju.out.cell (k:=K) (by rw[uE.out.len];exact hKl)).1
       have Va:=aa (show ∀n,(∀s' c b,iR pB K=some b->b<L->(ls.map (·.2))[K]?=some s'->s'.on=some c->c.has x=true->False)->uD wP ls L x G G2 pB k2 (.bool left) (.int .i64 ((K+1:Nat):Int)) (wr.drewN n) from λn hno=>⟨K+1,CU,left,rfl,rfl,by omega,Jl.out.drewN n,ju.out,zA.out.skip hno,R6.out⟩);clear n2 n3 n4 n5 n6 n9 S2;rcases vd:iR pB K with _|b
       ·rw[vd]at hc1;simp only[dD]at hc1;have wN:=aa (λn=>Va.out n (λs' c b h=>by rw[vd]at h;cases h));clear vd Ns n7 n8;go_wp2_with fail;go_quiet (fail)
        rename Nat=>Gm
        go_wp2_with fail;go_roundg k2
        case measure=>omega
        case rel=>exact wN.out Gm
       ·rw[vd]at hc1;simp only[dD]at hc1;obtain ⟨on,to,or⟩:=s
        cases on with
        | none=>
         simp only[lL]at Ns;rw[Ns]at n7;have wN:=aa (λn=>Va.out n (λs' c b _ _ h1 h2=>by rw[HFK.out]at h1;cases h1;cases h2));clear vd Ns n8;go_wp2_with fail;go_quiet (fail)
         rename Nat=>Gm
         go_wp2_with fail;go_roundg k2
         case measure=>omega
         case rel=>exact wN.out Gm
        | some cV=>
         obtain ⟨A,onl,iA,pL,N6,Oj⟩:=Ns;simp only at iA;rw[iA]at n7;have Ze:x.toNat<256:=x.toNat_lt;have hcx:wr.cell? ⟨A,x.toNat,none⟩=some (.bool (cV.has x)):=by have h1:=N6.1;have h2:=Oj x;simp[World.cell?,h1,bools,h2]
         rw[HXT.out]at hcx Ze;clear iA pL N6 Oj
         cases Jm:cV.has text[a] with
         | false=>
          rw[Jm]at hcx;have wN:=aa (λn=>Va.out n (λs' c b _ _ h1 h2 h3=>by rw[HFK.out]at h1;cases h1;cases h2;rw[HXT.out,Jm]at h3;cases h3));clear vd Jm n8;go_wp2_with fail;go_quiet (fail)
          rename Nat=>Gm
          go_wp2_with fail;go_roundg k2
          case measure=>omega
          case rel=>exact wN.out Gm
         | true=>
          rw[Jm]at hcx;have abr:=aa (show cV.has x=true by rw[HXT.out];exact Jm);obtain ⟨k',hk'⟩:∃k',to=some k':=Ot.out.2.2.elim (λh=>by cases h) id;subst hk';simp only[dD]at n8;have abt:k'<ls.length:=Ot.out.1 k' rfl;have HK0:=aa vd;clear Jm vd;by_cases hbl:b<L
          ·have jc:=aa hbl;clear hbl
           first|(have UB:b<=b1:=(by have:=uP.out;have:=jc.out;omega);have gb1:decide ((b:Int)<=(b1:Int))=true:=(by simpa using UB))|skip
           first|have abu:decide ((b1:Int)<0)=false:=by simp|skip
           have HT6:=aa (λ(W w5:World) (e:Ending) (hW:Fs wP ls W G2 CU) (hr:eL W G pB) (hp:mq (ls.map (·.2)) G2 k' b CU W e w5)=>ET hW hr Za.out zA.out HK0.out jc.out HFK.out rfl abr.out rfl hp);go_wp2_with fail;go_quiet (fail)
           rename Nat=>Gm
           have Zf:=aa (Jl.out.drewN Gm);have Zg:=aa (show eL (wr.drewN Gm) G pB from ju.out);have n1':(wr.drewN Gm).cell? ⟨P,0,none⟩=some (.slice (some ⟨g3,0,none⟩) ls.length DG):=n1;have n8':(wr.drewN Gm).cell? ⟨g3,K*3+1,none⟩=some (.int .i64 k'):=n8;have acz:(wr.drewN Gm).cell? ⟨G,K,none⟩=some (.int .i64 b):=hc1;clear n1 n7 n8 hc1 hcx
           generalize wr.drewN Gm=w5 at *;go_wp2_with fail
           go_region_with ((go_at_call 106;refine (nG.out G2 k' b CU _ (by exact Zf.out.drew) abt).mono ?_;rintro e6 w6 hp6;obtain ⟨rfl,abv,WJ,Pf,ht6⟩:=HT6.out _ _ _ Zf.out.drew Zg.out hp6;have abw:=aa (show uD wP ls L x G G2 pB k2 (.bool true) (.int .i64 ((K+1:Nat):Int)) w6 from ⟨K+1,abv,true,rfl,rfl,by omega,WJ,Pf,ht6,λh=>by cases h⟩);clear WJ Pf ht6 hp6))
           all_goals
            go_wp2_with fail;go_roundg k2
            case measure=>omega
            case rel=>exact abw.out
          ·first
            | exact absurd (HBN.out K b HK0.out) hbl
            | (
              have abu:decide ((b1:Int)<0)=false:=by simp
              have UB:¬b<=b1:=by have:=uP.out;omega
              have gb1:decide (b<=b1)=false:=by simpa using UB
              have wN:=aa (λn=>Va.out n (λs' c b' G3 U5=>by rw[HK0.out]at G3;cases G3;omega));go_wp2_with fail;go_quiet (fail)
              rename Nat=>Gm
              go_wp2_with fail;go_roundg k2
              case measure=>omega
              case rel=>exact wN.out Gm)
    ·have ga:decide (a<text.size)=false:=by simp;omega
     have gn:decide (0<ls.length)=true:=by simpa using h0
     go_loopg [14,15] 0 (λ_ vl vk wr'=>vl=.bool false/\vk=.int .i64 0/\wr'=w3)
     case atStart=>exact ⟨rfl,rfl,rfl⟩
     case round=>
      obtain ⟨rfl,rfl,rfl⟩:=hrel
      first
       | (
         go_wp2_with fail;go_roundg k
         case measure=>omega
         case rel=>exact ⟨G2,List.replicate ls.length none,a+1,o1,rfl,by rw[N8.out];rfl,by rw[N8.out];rfl,rfl,by omega,by rw[ag];omega,QC.out,(λh=>by omega),rT.out⟩)
       | (
         have ai:=aa (show oV wP.heap.size r text.data.toList f wP (.returned (found o1)) wr from by have hd:=rT.out;rw[N8.out]at hd ⊢;exact ⟨_,hd.over HL.out (by rw[ag];exact hle) (λh=>by rw[ag]at h;omega),rfl,QC.out.below⟩);rw[N8.out]at ai;go_wp2_with fail
         first
          | exact bodyPost_ret (v:=.tuple #[.int .i64 b1,.int .i64 a,.bool true]) (by simp[results,Tryz.results75,go_sem, *]) rfl ai.out
          | exact bodyPost_ret (v:=.tuple #[.int .i64 b1,.int .i64 e0,.bool true]) (by simp[results,Tryz.results75,go_sem, *]) rfl ai.out)
end Go.Proofs.YtgncgdkpkkdaeaaGreatDoor.Ref
