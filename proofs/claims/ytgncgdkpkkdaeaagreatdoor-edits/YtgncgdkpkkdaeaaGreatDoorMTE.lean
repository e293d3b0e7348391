import Derived.Test.YtgncgdkpkkdaeaaGreatDoorMTD
import Derived.Test.YtgncgdkpkkdaeaaGreatDoorMK
namespace Go.Proofs.YtgncgdkpkkdaeaaGreatDoor.Ref
open Go.RowKit aO
variable {D3 dQ:List (Option Nat)} {ls:List (Value×Sp)} {G K L:Nat} {x:UInt8} {wP wr:World}
def vT(o:Option (Nat×Nat)):Value:=dO (o.map (·.1))
def O0:Option (Nat×Nat)->Value
 | none=>.int .i64 0
 | some (_,e)=>.int .i64 e
structure Fs(wP:World)(ls:List (Value×Sp))(wr:World)(G:Nat)(dQ:List (Option Nat)):Prop where
 below:Below wP.heap.size wP wr
 hG:wP.heap.size<=G
 row:fc wr G dQ
 len:dQ.length=ls.length
 closed:iM (ls.map (·.2)) (jo dQ)
def O1(wP:World)(ls:List (Value×Sp))(first:Nat)(r:Re)(T:List UInt8)(f k:Nat)(von vb ve va:Value)(wr:World):Prop:=
 ∃G dQ a o,von=.slice (some ⟨G,0,none⟩) ls.length ls.length/\vb=vT o/\ve=O0 o/\va=.int .i64 (a:Nat)/\f<=a/\a+k=T.length+1/\Fs wP ls wr G dQ/\(0<k->lW (ls.map (·.2)) T first f (lim a o) a (jo dQ))/\aO.Found r T f a o
def vU(wP:World)(ls:List (Value×Sp))(L:Nat)(x:UInt8)(G G2:Nat)(dQ:List (Option Nat))(k:Nat)(vl vk:Value)(wr:World):Prop:=
 ∃K D3 left,vk=.int .i64 (K:Nat)/\vl=.bool left/\K+k=ls.length/\Fs wP ls wr G2 D3/\fc wr G dQ/\Taken (ls.map (·.2)) L K x (jo dQ) (jo D3)/\(left=false->D3=List.replicate ls.length none)
theorem qp(n k:Nat):jo (List.replicate n none) k=none:=by unfold jo;rw[List.getElem?_replicate];split<;>rfl
theorem Fs.fresh{w w':World}(hb:Below wP.heap.size wP w)(hr:fc w' w.heap.size (List.replicate ls.length none))(hb2:Below w.heap.size w w'):Fs wP ls w' w.heap.size (List.replicate ls.length none):=
 ⟨hb.trans (hb2.mono hb.size),hb.size,hr,by simp,by
  have:jo (List.replicate ls.length none)=λ_=>.none:=funext λk=>qp _ k
  rw[this];exact iM.none _⟩
theorem Fs.drewN(h:Fs wP ls wr G dQ)(n:Nat):Fs wP ls (wr.drewN n) G dQ:=⟨⟨h.below.os,h.below.tape,h.below.output,h.below.size,h.below.block⟩,h.hG,h.row,h.len,h.closed⟩
theorem Fs.drew(h:Fs wP ls wr G dQ):Fs wP ls wr.drew G dQ:=⟨⟨h.below.os,h.below.tape,h.below.output,h.below.size,h.below.block⟩,h.hG,h.row,h.len,h.closed⟩
theorem Kz{T:List UInt8}{first f L' a:Nat}(h:Taken (ls.map (·.2)) L' K x (jo dQ) (jo D3))(hK:K=ls.length)(ho:lW (ls.map (·.2)) T first f L a (jo dQ))(hL:L'<=L)(hLa:L'<=a+1)(ha:T[a]?=some x):lW (ls.map (·.2)) T first f L' (a+1) (jo D3):=
 Taken.done (by rw[List.length_map,<-hK];exact h) ho hL hLa ha
theorem Gf{G2 k' b:Nat}{s:Sp}{c:eC}{W w5:World}{e:Ending}(TL:Fs wP ls W G2 D3)(hrow:fc W G dQ)(hGG:G≠G2)(iv:Taken (ls.map (·.2)) L K x (jo dQ) (jo D3))(h2:jo dQ K=some b)(h3:b<L)(h4:(ls.map (·.2))[K]?=some s)(h5:s.on=some c)(h6:c.has x=true)(h7:s.to=some k')(hp:mZ (ls.map (·.2)) G2 k' b D3 W e w5):
  e=.returned (.tuple #[])/\∃Sk,Fs wP ls w5 G2 Sk/\fc w5 G dQ/\Taken (ls.map (·.2)) L (K+1) x (jo dQ) (jo Sk):=by
 obtain ⟨Sk,he,hap,hr,hl,Sl,gL⟩:=hp;refine ⟨he,Sk,⟨TL.below.trans (hap.below (B:=wP.heap.size) TL.below.size TL.hG),TL.hG,hr,hl.trans TL.len,gL⟩,?_,iv.take h2 h3 h4 h5 h6 h7 Sl⟩;exact (hap.keep G (ae hrow) hGG).trans hrow
set_option maxRecDepth 20000 in
set_option maxHeartbeats 40000000 in
theorem lX(wP:World)(B P:Nat)(ls:List (Value×Sp))(first:Nat)(r:Re)(O2:jx wP B P ls first r)(hB:B<=wP.heap.size)(text:ByteArray)(f:Nat)(hf:f<=text.size)(hsz:text.size<=140737488351232):
  Calls Tryz.prog 75 #[.pointer (some ⟨P,0,none⟩),.string text,.int .i64 f] wP (pW wP.heap.size r text.data.toList f wP):=by
 have h0:0<ls.length:=Nat.lt_of_le_of_lt (Nat.zero_le _) O2.lt;have hn:ls.length<=300:=O2.small;have HPI:=aa O2;have HL:=aa (show ∀u,aO.Reach (ls.map (·.2)) first u 0<->Mt r u from O2.laid.whole (by obtain ⟨v,hv⟩:=O2.fin;rw[List.getElem?_map,hv];rfl));have Za:=aa (λ(W:World) (hb:Below wP.heap.size wP W)=>OS B P ls first W (O2.kC.later hB hb) h0 hn)
 have oD:=aa (λ(G spot began:Nat) (dQ:List (Option Nat)) (W:World) (h:Fs wP ls W G dQ) (hs:spot<ls.length)=>Ky wP B P ls first O2.kC hB h0 hn O2.oh G spot began dQ W h.below h.hG h.row h.len h.closed hs);have HPC:=aa (λ(W:World) (hb:Below wP.heap.size wP W)=>(O2.kC.later hB hb).mem h0);have Ri:=aa O2.lt;clear O2
 go_enter Tryz.func75,Tryz.ntmps75;go_wp2_with fail;refine (Za.out wP (Below.refl _ _)).mono ?_;rintro e w1 ⟨rfl,hr1,hb1⟩;have kp:=aa (Fs.fresh (Below.refl _ wP) hr1 hb1);clear hr1 hb1;go_wp2_with fail;go_loopg [9,10,11,12] (text.size+1 - f) (λk von vb ve va wr=>O1 wP ls first r text.data.toList f k von vb ve va wr)
 case atStart=>exact ⟨_,_,f,none,rfl,rfl,rfl,rfl,Nat.le_refl _,by rw[ah];omega,kp.out,by
   have:jo (List.replicate ls.length none)=λ_=>.none:=funext λk=>qp _ k
   rw[this];exact λ_=>lW.start _ _ _ _,aO.Found.start _ _ _⟩
 case round=>
  obtain ⟨G,dQ,a,o,rfl,rfl,rfl,rfl,hfa,hk,TL,TG,hfd⟩:=hrel;rw[ah]at hk;have O3:=aa TL;have RZ:=aa TG;have JN:=aa hfd;clear TL TG hfd
  cases gk with
  | zero=>
   have DV:¬a<=text.size:=by omega
   have g1:decide (a<=text.size)=false:=by simpa using DV
   have ai:=aa (show pW wP.heap.size r text.data.toList f wP (.returned (found o)) wr from ⟨o,aO.Found.end (by rw[ah,show text.size+1=a by omega];exact JN.out),rfl,O3.out.below⟩)
   cases o with
   | none=>
    simp only[vT,O0,dO,Option.map_none];go_wp2_with fail;exact bodyPost_ret (v:=.tuple #[.int .i64 0,.int .i64 0,.bool false]) (by simp[results,Tryz.results75,go_sem, *]) rfl ai.out
   | some p=>
    obtain ⟨b0,e0⟩:=p;simp only[vT,O0,dO,Option.map_some];go_wp2_with fail;exact bodyPost_ret (v:=.tuple #[.int .i64 b0,.int .i64 e0,.bool true]) (by simp[results,Tryz.results75,go_sem, *]) rfl ai.out
  | succ k=>
   have hle:a<=text.size:=by omega
   have g1:decide ((a:Int)<=(text.size:Int))=true:=by simpa using hle
   obtain ⟨g2,qK,m1,m2,m3,m4,m5,m6⟩:=HPC.out wr O3.out.below;clear m1 m3 m4 m5 m6;rcases o with _|⟨b0,e0⟩
   case' none=>
    simp only[vT,O0,dO,Option.map_none];go_wp2_with fail;refine (oD.out G first a dQ wr O3.out Ri.out).mono ?_;rintro e w2 ⟨qq,rfl,hap,hrow,hlen,Sl,gL⟩;have vV:=aa (show Fs wP ls w2 G qq from ⟨O3.out.below.trans (hap.below (B:=wP.heap.size) O3.out.below.size O3.out.hG),O3.out.hG,hrow,hlen.trans O3.out.len,gL⟩)
    have Ar:=aa (show lW (ls.map (·.2)) text.data.toList first f (lim (a+1) none) a (jo qq) from (RZ.out (by omega)).enter hfa Sl);clear hap hrow hlen Sl gL m2 O3 RZ;have hc0:=(vV.out.row.cell (k:=0) (by rw[vV.out.len];exact h0)).1;by_cases KA:jo qq 0=none
    case' pos=>
     obtain ⟨o1,uM⟩:∃o1:Option (Nat×Nat),o1=none:=⟨_,rfl⟩;have tC:=aa (JN.out.Zz HL.out Ar.out KA);rw[<-uM]at tC;obtain ⟨L,hL⟩:∃L,L=a+1:=⟨_,rfl⟩;have KB:=aa (show L<=lim (a+1) none/\lim (a+1) o1=L/\L<=a+1 by rw[uM,hL];exact ⟨Nat.le_refl _,rfl,Nat.le_refl _⟩)
     have HBN:=aa (show ∀K b,jo qq K=some b->b<L from λK b h=>by have:=(Ar.out.sound K b h).2.1;rw[hL];simpa [lim] using this)
    case' neg=>
     obtain ⟨b1,KA⟩:=Option.ne_none_iff_exists'.1 KA;obtain ⟨Gg,tE⟩:=JN.out.hit HL.out Ar.out KA;clear tE;obtain ⟨o1,uM⟩:∃o1,o1=some (b1,a):=⟨_,rfl⟩;obtain ⟨L,hL⟩:∃L,L=b1+1:=⟨_,rfl⟩;have wE:=aa hL
     have KB:=aa (show L<=lim (a+1) none/\lim (a+1) o1=L/\L<=a+1 from by have h2:=Gg;rw[uM,hL];exact ⟨by have:=(Ar.out.sound 0 b1 KA).2.1;omega,rfl,by have:=h2.2.1;have:=h2.2.2.1;omega⟩);have tC:=aa Gg;rw[<-uM]at tC;clear Gg
   case' some=>
    simp only[vT,O0,dO,Option.map_some];have vV:=aa O3.out;have Ar:=aa (show lW (ls.map (·.2)) text.data.toList first f (lim (a+1) (some (b0,e0))) a (jo dQ) from RZ.out (by omega));clear m2 O3 RZ;generalize dQ=qq at *;generalize wr=w2 at *;have hc0:=(vV.out.row.cell (k:=0) (by rw[vV.out.len];exact h0)).1;by_cases KA:jo qq 0=none
    case' pos=>
     have tC:=aa (JN.out.Zz HL.out Ar.out KA);obtain ⟨o1,uM⟩:∃o1,o1=some (b0,e0):=⟨_,rfl⟩;rw[<-uM]at tC;generalize b0=b1 at *;obtain ⟨L,hL⟩:∃L,L=b1+1:=⟨_,rfl⟩;have wE:=aa hL
     have KB:=aa (show L<=lim (a+1) (some (b1,e0))/\lim (a+1) o1=L/\L<=a+1 from by have h2:=tC.out;rw[uM]at h2 ⊢;rw[hL];exact ⟨Nat.le_refl _,rfl,by have:=h2.2.1;have:=h2.2.2.1;omega⟩)
    case' neg=>
     obtain ⟨b1,KA⟩:=Option.ne_none_iff_exists'.1 KA;obtain ⟨Gg,tE⟩:=JN.out.hit HL.out Ar.out KA;have acv:=tE b0 e0 rfl;have gb:decide ((b1:Int)<=(b0:Int))=true:=by simpa using acv
     clear tE;obtain ⟨o1,uM⟩:∃o1,o1=some (b1,a):=⟨_,rfl⟩;obtain ⟨L,hL⟩:∃L,L=b1+1:=⟨_,rfl⟩;have wE:=aa hL;have KB:=aa (show L<=lim (a+1) (some (b0,e0))/\lim (a+1) o1=L/\L<=a+1 from by have h2:=Gg;rw[uM,hL];exact ⟨by have:=(Ar.out.sound 0 b1 KA).2.1;omega,rfl,by have:=h2.2.1;have:=h2.2.2.1;omega⟩);have tC:=aa Gg;rw[<-uM]at tC;clear Gg
   all_goals
    rw[KA]at hc0;simp only[dO]at hc0;have PH:=aa uM;clear KA hL uM;go_wp2_with fail;refine (Za.out w2 vV.out.below).mono ?_;rintro e w3 ⟨rfl,hr3,hb3⟩;have Sm:=aa (Fs.fresh vV.out.below hr3 hb3);have aaT:=aa (show fc w3 G qq from (hb3.block G (ae vV.out.row)).trans vV.out.row);obtain ⟨G2,T6⟩:∃G2,G2=w2.heap.size:=⟨_,rfl⟩;rw[<-T6]at Sm ⊢
    have HGG:=aa (show G≠G2 by rw[T6];exact Nat.ne_of_lt (ae vV.out.row));clear hr3 hb3 T6;go_wp2_with fail;rcases Nat.lt_or_ge a text.size with hlt|kg
    ·have ga:decide ((a:Int)<(text.size:Int))=true:=by simpa using hlt
     obtain ⟨x,hx⟩:∃x,x=text[a]:=⟨_,rfl⟩;have HX:=aa (show text.data.toList[a]?=some x by rw[hx];exact List.getElem?_eq_getElem (show a<text.data.toList.length from hlt));have HXT:=aa hx;clear hx;go_loopg [14,15] ls.length (λk vl vk wr'=>vU wP ls L x G G2 qq k vl vk wr')
     case atStart=>exact ⟨0,List.replicate ls.length none,false,rfl,rfl,by omega,Sm.out,aaT.out,by
       have:jo (List.replicate ls.length none)=λ_=>.none:=funext λk=>qp _ k
       rw[this];exact Taken.start _ _ _ _,λ_=>rfl⟩
     case round=>
      obtain ⟨K,D3,left,rfl,rfl,hK,aaU,hrow2,iv,TM⟩:=hrel;have KC:=aa aaU;have jP:=aa hrow2;have AK:=aa iv;have TN:=aa TM;clear aaU hrow2 iv TM
      cases gk with
      | zero=>
       have hKn:¬K<ls.length:=by omega
       have gK:decide (K<ls.length)=false:=by simpa using hKn
       have HDN:=aa (Kz AK.out (by omega) Ar.out KB.out.1 KB.out.2.2 HX.out);have HAZ:=aa (show 0<k->lW (ls.map (·.2)) text.data.toList first f (lim (a+1) o1) (a+1) (jo D3) from λ_=>by rw[KB.out.2.1];exact HDN.out);cases left
       all_goals
        first
         | (
           go_wp2_with fail;go_roundg k
           case measure=>omega
           case rel=>exact ⟨G2,D3,a+1,o1,rfl,by rw[PH.out];rfl,by rw[PH.out];rfl,rfl,by omega,by rw[ah];omega,KC.out,HAZ.out,tC.out⟩)
         | (
           have hnx:=TN.out rfl;subst hnx
           have ai:=aa (show pW wP.heap.size r text.data.toList f wP (.returned (found o1)) wr from by
            have h:=HDN.out;have e:jo (List.replicate ls.length none)=λ_=>none:=funext λk=>qp _ k
            rw[e]at h;have hd:=tC.out;rw[PH.out]at hd ⊢;have hl:=wE.out;subst hl;exact ⟨_,hd.over HL.out (by rw[ah];exact hle) (λ_=>h),rfl,KC.out.below⟩)
           rw[PH.out]at ai;go_wp2_with fail
           first
            | exact bodyPost_ret (v:=.tuple #[.int .i64 b1,.int .i64 a,.bool true]) (by simp[results,Tryz.results75,go_sem, *]) rfl ai.out
            | exact bodyPost_ret (v:=.tuple #[.int .i64 b1,.int .i64 e0,.bool true]) (by simp[results,Tryz.results75,go_sem, *]) rfl ai.out)
      | succ k2=>
       have hKl:K<ls.length:=by omega
       have gK:decide ((K:Int)<(ls.length:Int))=true:=by simpa using hKl
       have hGn:=HGG.out;obtain ⟨g3,EN,n1,n2,n3,n4,n5,n6⟩:=HPC.out wr KC.out.below;obtain ⟨⟨v,s⟩,UE⟩:∃l,ls[K]?=some l:=⟨_,List.getElem?_eq_getElem hKl⟩;obtain ⟨n7,n8,n9⟩:=n4 K _ UE;have OW:=(HPI.out.kC.later hB KC.out.below).dQ (v,s) (List.mem_of_getElem? UE);have PZ:=aa (HPI.out.oh (v,s) (List.mem_of_getElem? UE))
       have HFK:=aa (show (ls.map (·.2))[K]?=some s by rw[List.getElem?_map,UE];rfl);have hc1:=(jP.out.cell (k:=K) (by rw[vV.out.len];exact hKl)).1
       have WT:=aa (show ∀n,(∀s' c b,jo qq K=some b->b<L->(ls.map (·.2))[K]?=some s'->s'.on=some c->c.has x=true->False)->vU wP ls L x G G2 qq k2 (.bool left) (.int .i64 ((K+1:Nat):Int)) (wr.drewN n) from λn hno=>⟨K+1,D3,left,rfl,rfl,by omega,KC.out.drewN n,jP.out,AK.out.skip hno,TN.out⟩);clear n2 n3 n4 n5 n6 n9 UE;rcases wS:jo qq K with _|b
       ·rw[wS]at hc1;simp only[dO]at hc1;have xT:=aa (λn=>WT.out n (λs' c b h=>by rw[wS]at h;cases h));clear wS OW n7 n8;go_wp2_with fail;go_quiet (fail)
        rename Nat=>Ii
        go_wp2_with fail;go_roundg k2
        case measure=>omega
        case rel=>exact xT.out Ii
       ·rw[wS]at hc1;simp only[dO]at hc1;obtain ⟨on,to,or⟩:=s
        cases on with
        | none=>
         simp only[mB]at OW;rw[OW]at n7;have xT:=aa (λn=>WT.out n (λs' c b _ _ h1 h2=>by rw[HFK.out]at h1;cases h1;cases h2));clear wS OW n8;go_wp2_with fail;go_quiet (fail)
         rename Nat=>Ii
         go_wp2_with fail;go_roundg k2
         case measure=>omega
         case rel=>exact xT.out Ii
        | some cY=>
         obtain ⟨A,onl,iV,qB,PF,PS⟩:=OW;simp only at iV;rw[iV]at n7;have hxb:x.toNat<256:=x.toNat_lt;have hcx:wr.cell? ⟨A,x.toNat,none⟩=some (.bool (cY.has x)):=by have h1:=PF.1;have h2:=PS x;simp[World.cell?,h1,bools,h2]
         rw[HXT.out]at hcx hxb;clear iV qB PF PS
         cases KD:cY.has text[a] with
         | false=>
          rw[KD]at hcx;have xT:=aa (λn=>WT.out n (λs' c b _ _ h1 h2 h3=>by rw[HFK.out]at h1;cases h1;cases h2;rw[HXT.out,KD]at h3;cases h3));clear wS KD n8;go_wp2_with fail;go_quiet (fail)
          rename Nat=>Ii
          go_wp2_with fail;go_roundg k2
          case measure=>omega
          case rel=>exact xT.out Ii
         | true=>
          rw[KD]at hcx;have acw:=aa (show cY.has x=true by rw[HXT.out];exact KD);obtain ⟨k',hk'⟩:∃k',to=some k':=PZ.out.2.2.elim (λh=>by cases h) id;subst hk';simp only[dO]at n8;have acx:k'<ls.length:=PZ.out.1 k' rfl;have HK0:=aa wS;clear KD wS;by_cases hbl:b<L
          ·have jA:=aa hbl;clear hbl
           first|(have Wk:b<=b1:=(by have:=wE.out;have:=jA.out;omega);have gb1:decide ((b:Int)<=(b1:Int))=true:=(by simpa using Wk))|skip
           first|have acy:decide ((b1:Int)<0)=false:=by simp|skip
           have HT6:=aa (λ(W w5:World) (e:Ending) (hW:Fs wP ls W G2 D3) (hr:fc W G qq) (hp:mZ (ls.map (·.2)) G2 k' b D3 W e w5)=>Gf hW hr HGG.out AK.out HK0.out jA.out HFK.out rfl acw.out rfl hp);go_wp2_with fail;go_quiet (fail)
           rename Nat=>Ii
           have aaV:=aa (KC.out.drewN Ii);have aaW:=aa (show fc (wr.drewN Ii) G qq from jP.out);have n1':(wr.drewN Ii).cell? ⟨P,0,none⟩=some (.slice (some ⟨g3,0,none⟩) ls.length EN):=n1;have n8':(wr.drewN Ii).cell? ⟨g3,K*3+1,none⟩=some (.int .i64 k'):=n8;have adG:(wr.drewN Ii).cell? ⟨G,K,none⟩=some (.int .i64 b):=hc1;clear n1 n7 n8 hc1 hcx
           generalize wr.drewN Ii=w5 at *;go_wp2_with fail
           go_region_with ((go_at_call 106;refine (oD.out G2 k' b D3 _ (by exact aaV.out.drew) acx).mono ?_;rintro e6 w6 hp6;obtain ⟨rfl,acz,YD,QK,ht6⟩:=HT6.out _ _ _ aaV.out.drew aaW.out hp6;have acA:=aa (show vU wP ls L x G G2 qq k2 (.bool true) (.int .i64 ((K+1:Nat):Int)) w6 from ⟨K+1,acz,true,rfl,rfl,by omega,YD,QK,ht6,λh=>by cases h⟩);clear YD QK ht6 hp6))
           all_goals
            go_wp2_with fail;go_roundg k2
            case measure=>omega
            case rel=>exact acA.out
          ·first
            | exact absurd (HBN.out K b HK0.out) hbl
            | (
              have acy:decide ((b1:Int)<0)=false:=by simp
              have Wk:¬b<=b1:=by have:=wE.out;omega
              have gb1:decide (b<=b1)=false:=by simpa using Wk
              have xT:=aa (λn=>WT.out n (λs' c b' I0 WN=>by rw[HK0.out]at I0;cases I0;omega));go_wp2_with fail;go_quiet (fail)
              rename Nat=>Ii
              go_wp2_with fail;go_roundg k2
              case measure=>omega
              case rel=>exact xT.out Ii)
    ·have ga:decide (a<text.size)=false:=by simp;omega
     have gn:decide (0<ls.length)=true:=by simpa using h0
     go_loopg [14,15] 0 (λ_ vl vk wr'=>vl=.bool false/\vk=.int .i64 0/\wr'=w3)
     case atStart=>exact ⟨rfl,rfl,rfl⟩
     case round=>
      obtain ⟨rfl,rfl,rfl⟩:=hrel
      first
       | (
         go_wp2_with fail;go_roundg k
         case measure=>omega
         case rel=>exact ⟨G2,List.replicate ls.length none,a+1,o1,rfl,by rw[PH.out];rfl,by rw[PH.out];rfl,rfl,by omega,by rw[ah];omega,Sm.out,(λh=>by omega),tC.out⟩)
       | (
         have ai:=aa (show pW wP.heap.size r text.data.toList f wP (.returned (found o1)) wr from by have hd:=tC.out;rw[PH.out]at hd ⊢;exact ⟨_,hd.over HL.out (by rw[ah];exact hle) (λh=>by rw[ah]at h;omega),rfl,Sm.out.below⟩);rw[PH.out]at ai;go_wp2_with fail
         first
          | exact bodyPost_ret (v:=.tuple #[.int .i64 b1,.int .i64 a,.bool true]) (by simp[results,Tryz.results75,go_sem, *]) rfl ai.out
          | exact bodyPost_ret (v:=.tuple #[.int .i64 b1,.int .i64 e0,.bool true]) (by simp[results,Tryz.results75,go_sem, *]) rfl ai.out)
end Go.Proofs.YtgncgdkpkkdaeaaGreatDoor.Ref
