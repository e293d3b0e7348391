import Derived.Test.YtgncgdkpkkdaeaaGreatDoorATD
set_option maxRecDepth 20000
set_option maxHeartbeats 40000000
namespace Go.Proofs.YtgncgdkpkkdaeaaGreatDoor.Ref
open Go.RowKit bu
variable {EO eh:List (Option Nat)} {ls:List (Value×Sp)} {G K L:Nat} {x:UInt8} {wP wr:World}
def xd(o:Option (Nat×Nat)):Value:=ea (o.map (·.1))
def PW:Option (Nat×Nat)->Value
 | none=>.int .i64 0
 | some (_,e)=>.int .i64 e
structure Fs(wP:World)(ls:List (Value×Sp))(wr:World)(G:Nat)(eh:List (Option Nat)):Prop where
 below:Below wP.heap.size wP wr
 hG:wP.heap.size<=G
 row:fH wr G eh
 len:eh.length=ls.length
 closed:jf (ls.map (·.2)) (jJ eh)
def PY(wP:World)(ls:List (Value×Sp))(first:Nat)(r:Re)(T:List UInt8)(f k:Nat)(von vb ve va:Value)(wr:World):Prop:=
 ∃G eh a o,von=.slice (some ⟨G,0,none⟩) ls.length ls.length/\vb=xd o/\ve=PW o/\va=.int .i64 (a:Nat)/\f<=a/\a+k=T.length+1/\Fs wP ls wr G eh/\(0<k->mO (ls.map (·.2)) T first f (lim a o) a (jJ eh))/\bu.Found r T f a o
def xe(wP:World)(ls:List (Value×Sp))(L:Nat)(x:UInt8)(G G2:Nat)(eh:List (Option Nat))(k:Nat)(vl vk:Value)(wr:World):Prop:=
 ∃K EO left,vk=.int .i64 (K:Nat)/\vl=.bool left/\K+k=ls.length/\Fs wP ls wr G2 EO/\fH wr G eh/\Taken (ls.map (·.2)) L K x (jJ eh) (jJ EO)/\(left=false->EO=List.replicate ls.length none)
theorem rh(n k:Nat):jJ (List.replicate n none) k=none:=by unfold jJ;rw[List.getElem?_replicate];split<;>rfl
theorem Fs.fresh{w w':World}(hb:Below wP.heap.size wP w)(hr:fH w' w.heap.size (List.replicate ls.length none))(hb2:Below w.heap.size w w'):Fs wP ls w' w.heap.size (List.replicate ls.length none):=
 ⟨hb.trans (hb2.mono hb.size),hb.size,hr,by simp,by
  have:jJ (List.replicate ls.length none)=λ_=>.none:=funext λk=>rh _ k
  rw[this];exact jf.none _⟩
theorem Fs.drewN(h:Fs wP ls wr G eh)(n:Nat):Fs wP ls (wr.drewN n) G eh:=⟨⟨h.below.os,h.below.tape,h.below.output,h.below.size,h.below.block⟩,h.hG,h.row,h.len,h.closed⟩
theorem Fs.drew(h:Fs wP ls wr G eh):Fs wP ls wr.drew G eh:=⟨⟨h.below.os,h.below.tape,h.below.output,h.below.size,h.below.block⟩,h.hG,h.row,h.len,h.closed⟩
theorem Ll{T:List UInt8}{first f L' a:Nat}(h:Taken (ls.map (·.2)) L' K x (jJ eh) (jJ EO))(hK:K=ls.length)(ho:mO (ls.map (·.2)) T first f L a (jJ eh))(hL:L'<=L)(hLa:L'<=a+1)(ha:T[a]?=some x):mO (ls.map (·.2)) T first f L' (a+1) (jJ EO):=
 Taken.done (by rw[fy,<-hK];exact h) ho hL hLa ha
theorem G9{G2 k' b:Nat}{s:Sp}{c:eO}{W w5:World}{e:Ending}(UE:Fs wP ls W G2 EO)(hrow:fH W G eh)(hGG:G≠G2)(iP:Taken (ls.map (·.2)) L K x (jJ eh) (jJ EO))(h2:jJ eh K=some b)(h3:b<L)(h4:(ls.map (·.2))[K]?=some s)(h5:s.on=some c)(h6:c.has x=true)(h7:s.to=some k')(hp:nV (ls.map (·.2)) G2 k' b EO W e w5):
  e=.returned (.tuple #[])/\∃Tg,Fs wP ls w5 G2 Tg/\fH w5 G eh/\Taken (ls.map (·.2)) L (K+1) x (jJ eh) (jJ Tg):=by
 obtain ⟨Tg,he,hap,hr,hl,Th,il⟩:=hp;refine ⟨he,Tg,⟨UE.below.trans (hap.below (B:=wP.heap.size) UE.below.size UE.hG),UE.hG,hr,hl.trans UE.len,il⟩,?_,iP.take h2 h3 h4 h5 h6 h7 Th⟩;exact (hap.keep G (ae hrow) hGG).trans hrow
theorem mP(wP:World)(B P:Nat)(ls:List (Value×Sp))(first:Nat)(r:Re)(PZ:jQ wP B P ls first r)(hB:B<=wP.heap.size)(text:ByteArray)(f:Nat)(hf:f<=text.size)(hsz:text.size<=140737488351232):
  Calls Tryz.prog 75 #[.pointer (some ⟨P,0,none⟩),.string text,.int .i64 f] wP (qH wP.heap.size r text.data.toList f wP):=by
 have h0:0<ls.length:=Nat.lt_of_le_of_lt (Nat.zero_le _) PZ.lt;have hn:ls.length<=300:=PZ.small;have HPI:=aa PZ;have HL:=aa (show ∀u,bu.Reach (ls.map (·.2)) first u 0<->Mt r u from PZ.laid.whole (by obtain ⟨v,hv⟩:=PZ.fin;rw[fX,hv];rfl));have ZT:=aa (λ(W:World) (hb:Below wP.heap.size wP W)=>PN B P ls first W (PZ.lm.later hB hb) h0 hn)
 have py:=aa (λ(G spot began:Nat) (eh:List (Option Nat)) (W:World) (h:Fs wP ls W G eh) (hs:spot<ls.length)=>Lk wP B P ls first PZ.lm hB h0 hn PZ.oU G spot began eh W h.below h.hG h.row h.len h.closed hs);have HPC:=aa (λ(W:World) (hb:Below wP.heap.size wP W)=>(PZ.lm.later hB hb).mem h0);have Sj:=aa PZ.lt;clear PZ
 go_enter Tryz.func75,Tryz.ntmps75;go_wp2_with fail;refine (ZT.out wP (Below.refl _ _)).mono ?_;rintro e w1 ⟨rfl,hr1,hb1⟩;have kU:=aa (Fs.fresh (Below.refl _ wP) hr1 hb1);clear hr1 hb1;go_wp2_with fail;go_loopg [9,10,11,12] (text.size+1 - f) (λk von vb ve va wr=>PY wP ls first r text.data.toList f k von vb ve va wr)
 case atStart=>exact ⟨_,_,f,none,rfl,rfl,rfl,rfl,bc _,by rw[aj];omega,kU.out,by
   have:jJ (List.replicate ls.length none)=λ_=>.none:=funext λk=>rh _ k
   rw[this];exact λ_=>mO.start _ _ _ _,bu.Found.start _ _ _⟩
 case round=>
  obtain ⟨G,eh,a,o,rfl,rfl,rfl,rfl,hfa,hk,UE,Uz,hfd⟩:=hrel;rw[aj]at hk;have P0:=aa UE;have SY:=aa Uz;have KC:=aa hfd;clear UE Uz hfd
  cases gk with
  | zero=>
   have EH:¬a<=text.size:=by omega
   have g1:decide (a<=text.size)=false:=by simpa using EH
   have aq:=aa (show qH wP.heap.size r text.data.toList f wP (.returned (found o)) wr from ⟨o,bu.Found.end (by rw[aj,show text.size+1=a by omega];exact KC.out),rfl,P0.out.below⟩)
   cases o with
   | none=>
    simp only[xd,PW,ea,Option.map_none];go_wp2_with fail;exact bodyPost_ret (v:=.tuple #[.int .i64 0,.int .i64 0,.bool false]) (by simp[results,Tryz.results75,go_sem, *]) rfl aq.out
   | some p=>
    obtain ⟨b0,e0⟩:=p;simp only[xd,PW,ea,Option.map_some];go_wp2_with fail;exact bodyPost_ret (v:=.tuple #[.int .i64 b0,.int .i64 e0,.bool true]) (by simp[results,Tryz.results75,go_sem, *]) rfl aq.out
  | succ k=>
   have hle:a<=text.size:=by omega
   have g1:decide ((a:Int)<=(text.size:Int))=true:=by simpa using hle
   obtain ⟨g2,rI,m1,m2,m3,m4,m5,m6⟩:=HPC.out wr P0.out.below;clear m1 m3 m4 m5 m6;rcases o with _|⟨b0,e0⟩
   case' none=>
    simp only[xd,PW,ea,Option.map_none];go_wp2_with fail;refine (py.out G first a eh wr P0.out Sj.out).mono ?_;rintro e w2 ⟨ri,rfl,hap,hrow,hlen,Th,il⟩;have xg:=aa (show Fs wP ls w2 G ri from ⟨P0.out.below.trans (hap.below (B:=wP.heap.size) P0.out.below.size P0.out.hG),P0.out.hG,hrow,hlen.trans P0.out.len,il⟩)
    have Bu:=aa (show mO (ls.map (·.2)) text.data.toList first f (lim (a+1) none) a (jJ ri) from (SY.out (by omega)).enter hfa Th);clear hap hrow hlen Th il m2 P0 SY;have hc0:=(xg.out.row.cell (k:=0) (by rw[xg.out.len];exact h0)).1;by_cases Lm:jJ ri 0=none
    case' pos=>
     obtain ⟨o1,vM⟩:∃o1:Option (Nat×Nat),o1=none:=⟨_,rfl⟩;have um:=aa (KC.out.aae HL.out Bu.out Lm);rw[<-vM]at um;obtain ⟨L,hL⟩:∃L,L=a+1:=⟨_,rfl⟩;have Lp:=aa (show L<=lim (a+1) none/\lim (a+1) o1=L/\L<=a+1 by rw[vM,hL];exact ⟨bc _,rfl,bc _⟩)
     have HBN:=aa (show ∀K b,jJ ri K=some b->b<L from λK b h=>by have:=(Bu.out.sound K b h).2.1;rw[hL];simpa [lim] using this)
    case' neg=>
     obtain ⟨b1,Lm⟩:=Option.ne_none_iff_exists'.1 Lm;obtain ⟨Ha,uq⟩:=KC.out.hit HL.out Bu.out Lm;clear uq;obtain ⟨o1,vM⟩:∃o1,o1=some (b1,a):=⟨_,rfl⟩;obtain ⟨L,hL⟩:∃L,L=b1+1:=⟨_,rfl⟩;have rN:=aa hL
     have Lp:=aa (show L<=lim (a+1) none/\lim (a+1) o1=L/\L<=a+1 from by have h2:=Ha;rw[vM,hL];exact ⟨by have:=(Bu.out.sound 0 b1 Lm).2.1;omega,rfl,by have:=h2.2.1;have:=h2.2.2.1;omega⟩);have um:=aa Ha;rw[<-vM]at um;clear Ha
   case' some=>
    simp only[xd,PW,ea,Option.map_some];have xg:=aa P0.out;have Bu:=aa (show mO (ls.map (·.2)) text.data.toList first f (lim (a+1) (some (b0,e0))) a (jJ eh) from SY.out (by omega));clear m2 P0 SY;generalize eh=ri at *;generalize wr=w2 at *;have hc0:=(xg.out.row.cell (k:=0) (by rw[xg.out.len];exact h0)).1;by_cases Lm:jJ ri 0=none
    case' pos=>
     have um:=aa (KC.out.aae HL.out Bu.out Lm);obtain ⟨o1,vM⟩:∃o1,o1=some (b0,e0):=⟨_,rfl⟩;rw[<-vM]at um;generalize b0=b1 at *;obtain ⟨L,hL⟩:∃L,L=b1+1:=⟨_,rfl⟩;have rN:=aa hL
     have Lp:=aa (show L<=lim (a+1) (some (b1,e0))/\lim (a+1) o1=L/\L<=a+1 from by have h2:=um.out;rw[vM]at h2 ⊢;rw[hL];exact ⟨bc _,rfl,by have:=h2.2.1;have:=h2.2.2.1;omega⟩)
    case' neg=>
     obtain ⟨b1,Lm⟩:=Option.ne_none_iff_exists'.1 Lm;obtain ⟨Ha,uq⟩:=KC.out.hit HL.out Bu.out Lm;have acY:=uq b0 e0 rfl;have gb:decide ((b1:Int)<=(b0:Int))=true:=by simpa using acY
     clear uq;obtain ⟨o1,vM⟩:∃o1,o1=some (b1,a):=⟨_,rfl⟩;obtain ⟨L,hL⟩:∃L,L=b1+1:=⟨_,rfl⟩;have rN:=aa hL;have Lp:=aa (show L<=lim (a+1) (some (b0,e0))/\lim (a+1) o1=L/\L<=a+1 from by have h2:=Ha;rw[vM,hL];exact ⟨by have:=(Bu.out.sound 0 b1 Lm).2.1;omega,rfl,by have:=h2.2.1;have:=h2.2.2.1;omega⟩);have um:=aa Ha;rw[<-vM]at um;clear Ha
   all_goals
    rw[Lm]at hc0;simp only[ea]at hc0;have Qx:=aa vM;clear Lm hL vM;go_wp2_with fail;refine (ZT.out w2 xg.out.below).mono ?_;rintro e w3 ⟨rfl,hr3,hb3⟩;have Ti:=aa (Fs.fresh xg.out.below hr3 hb3);have abr:=aa (show fH w3 G ri from (hb3.block G (ae xg.out.row)).trans xg.out.row);obtain ⟨G2,UY⟩:∃G2,G2=w2.heap.size:=⟨_,rfl⟩;rw[<-UY]at Ti ⊢
    have HGG:=aa (show G≠G2 by rw[UY];exact Nat.ne_of_lt (ae xg.out.row));clear hr3 hb3 UY;go_wp2_with fail;rcases ed a text.size with hlt|kO
    ·have ga:decide ((a:Int)<(text.size:Int))=true:=by simpa using hlt
     obtain ⟨x,hx⟩:∃x,x=text[a]:=⟨_,rfl⟩;have HX:=aa (show text.data.toList[a]?=some x by rw[hx];exact cB (show a<text.data.toList.length from hlt));have HXT:=aa hx;clear hx;go_loopg [14,15] ls.length (λk vl vk wr'=>xe wP ls L x G G2 ri k vl vk wr')
     case atStart=>exact ⟨0,List.replicate ls.length none,false,rfl,rfl,by omega,Ti.out,abr.out,by
       have:jJ (List.replicate ls.length none)=λ_=>.none:=funext λk=>rh _ k
       rw[this];exact Taken.start _ _ _ _,λ_=>rfl⟩
     case round=>
      obtain ⟨K,EO,left,rfl,rfl,hK,abt,hrow2,iP,UF⟩:=hrel;have Lq:=aa abt;have kp:=aa hrow2;have BK:=aa iP;have UG:=aa UF;clear abt hrow2 iP UF
      cases gk with
      | zero=>
       have hKn:¬K<ls.length:=by omega
       have gK:decide (K<ls.length)=false:=by simpa using hKn
       have HDN:=aa (Ll BK.out (by omega) Bu.out Lp.out.1 Lp.out.2.2 HX.out);have HAZ:=aa (show 0<k->mO (ls.map (·.2)) text.data.toList first f (lim (a+1) o1) (a+1) (jJ EO) from λ_=>by rw[Lp.out.2.1];exact HDN.out);cases left
       all_goals
        first
         | (
           go_wp2_with fail;go_roundg k
           case measure=>omega
           case rel=>exact ⟨G2,EO,a+1,o1,rfl,by rw[Qx.out];rfl,by rw[Qx.out];rfl,rfl,by omega,by rw[aj];omega,Lq.out,HAZ.out,um.out⟩)
         | (
           have hnx:=UG.out rfl;subst hnx
           have aq:=aa (show qH wP.heap.size r text.data.toList f wP (.returned (found o1)) wr from by
            have h:=HDN.out;have e:jJ (List.replicate ls.length none)=λ_=>none:=funext λk=>rh _ k
            rw[e]at h;have hd:=um.out;rw[Qx.out]at hd ⊢;have hl:=rN.out;subst hl;exact ⟨_,hd.over HL.out (by rw[aj];exact hle) (λ_=>h),rfl,Lq.out.below⟩)
           rw[Qx.out]at aq;go_wp2_with fail
           first
            | exact bodyPost_ret (v:=.tuple #[.int .i64 b1,.int .i64 a,.bool true]) (by simp[results,Tryz.results75,go_sem, *]) rfl aq.out
            | exact bodyPost_ret (v:=.tuple #[.int .i64 b1,.int .i64 e0,.bool true]) (by simp[results,Tryz.results75,go_sem, *]) rfl aq.out)
      | succ k2=>
       have hKl:K<ls.length:=by omega
       have gK:decide ((K:Int)<(ls.length:Int))=true:=by simpa using hKl
       have hGn:=HGG.out;obtain ⟨g3,FH,n1,n2,n3,n4,n5,n6⟩:=HPC.out wr Lq.out.below;obtain ⟨⟨v,s⟩,Vx⟩:∃l,ls[K]?=some l:=⟨_,cB hKl⟩;obtain ⟨n7,n8,n9⟩:=n4 K _ Vx;have PS:=(HPI.out.lm.later hB Lq.out.below).eh (v,s) (bn Vx);have QN:=aa (HPI.out.oU (v,s) (bn Vx))
       have HFK:=aa (show (ls.map (·.2))[K]?=some s by rw[fX,Vx];rfl);have hc1:=(kp.out.cell (k:=K) (by rw[xg.out.len];exact hKl)).1
       have RQ:=aa (show ∀n,(∀s' c b,jJ ri K=some b->b<L->(ls.map (·.2))[K]?=some s'->s'.on=some c->c.has x=true->False)->xe wP ls L x G G2 ri k2 (.bool left) (.int .i64 ((K+1:Nat):Int)) (wr.drewN n) from λn hno=>⟨K+1,EO,left,rfl,rfl,by omega,Lq.out.drewN n,kp.out,BK.out.skip hno,UG.out⟩);clear n2 n3 n4 n5 n6 n9 Vx;rcases xE:jJ ri K with _|b
       ·rw[xE]at hc1;simp only[ea]at hc1;have yK:=aa (λn=>RQ.out n (λs' c b h=>by rw[xE]at h;cases h));clear xE PS n7 n8;go_wp2_with fail;go_quiet (fail)
        rename Nat=>Jb
        go_wp2_with fail;go_roundg k2
        case measure=>omega
        case rel=>exact yK.out Jb
       ·rw[xE]at hc1;simp only[ea]at hc1;obtain ⟨on,to,or⟩:=s
        cases on with
        | none=>
         simp only[qY]at PS;rw[PS]at n7;have yK:=aa (λn=>RQ.out n (λs' c b _ _ h1 h2=>by rw[HFK.out]at h1;cases h1;cases h2));clear xE PS n8;go_wp2_with fail;go_quiet (fail)
         rename Nat=>Jb
         go_wp2_with fail;go_roundg k2
         case measure=>omega
         case rel=>exact yK.out Jb
        | some dr=>
         obtain ⟨A,onl,jq,rA,Qv,QG⟩:=PS;simp only at jq;rw[jq]at n7;have hxb:x.toNat<256:=x.toNat_lt;have hcx:wr.cell? ⟨A,x.toNat,none⟩=some (.bool (dr.has x)):=by have h1:=Qv.1;have h2:=QG x;simp[World.cell?,h1,bools,h2]
         rw[HXT.out]at hcx hxb;clear jq rA Qv QG
         cases Lr:dr.has text[a] with
         | false=>
          rw[Lr]at hcx;have yK:=aa (λn=>RQ.out n (λs' c b _ _ h1 h2 h3=>by rw[HFK.out]at h1;cases h1;cases h2;rw[HXT.out,Lr]at h3;cases h3));clear xE Lr n8;go_wp2_with fail;go_quiet (fail)
          rename Nat=>Jb
          go_wp2_with fail;go_roundg k2
          case measure=>omega
          case rel=>exact yK.out Jb
         | true=>
          rw[Lr]at hcx;have acZ:=aa (show dr.has x=true by rw[HXT.out];exact Lr);obtain ⟨k',hk'⟩:∃k',to=some k':=QN.out.2.2.elim (λh=>by cases h) id;subst hk';simp only[ea]at n8;have ac0:k'<ls.length:=QN.out.1 k' rfl;have HK0:=aa xE;clear Lr xE;by_cases hbl:b<L
          ·have jT:=aa hbl;clear hbl
           first|(have Xm:b<=b1:=(by have:=rN.out;have:=jT.out;omega);have gb1:decide ((b:Int)<=(b1:Int))=true:=(by simpa using Xm))|skip
           first|have ac1:decide ((b1:Int)<0)=false:=by simp|skip
           have HT6:=aa (λ(W w5:World) (e:Ending) (hW:Fs wP ls W G2 EO) (hr:fH W G ri) (hp:nV (ls.map (·.2)) G2 k' b EO W e w5)=>G9 hW hr HGG.out BK.out HK0.out jT.out HFK.out rfl acZ.out rfl hp);go_wp2_with fail;go_quiet (fail)
           rename Nat=>Jb
           have abu:=aa (Lq.out.drewN Jb);have abv:=aa (show fH (wr.drewN Jb) G ri from kp.out);have n1':(wr.drewN Jb).cell? ⟨P,0,none⟩=some (.slice (some ⟨g3,0,none⟩) ls.length FH):=n1;have n8':(wr.drewN Jb).cell? ⟨g3,K*3+1,none⟩=some (.int .i64 k'):=n8;have ad6:(wr.drewN Jb).cell? ⟨G,K,none⟩=some (.int .i64 b):=hc1;clear n1 n7 n8 hc1 hcx
           generalize wr.drewN Jb=w5 at *;go_wp2_with fail
           go_region_with ((go_at_call 106;refine (py.out G2 k' b EO _ (by exact abu.out.drew) ac0).mono ?_;rintro e6 w6 hp6;obtain ⟨rfl,ac2,Zo,RM,ht6⟩:=HT6.out _ _ _ abu.out.drew abv.out hp6;have ac3:=aa (show xe wP ls L x G G2 ri k2 (.bool true) (.int .i64 ((K+1:Nat):Int)) w6 from ⟨K+1,ac2,true,rfl,rfl,by omega,Zo,RM,ht6,λh=>by cases h⟩);clear Zo RM ht6 hp6))
           all_goals
            go_wp2_with fail;go_roundg k2
            case measure=>omega
            case rel=>exact ac3.out
          ·first
            | exact absurd (HBN.out K b HK0.out) hbl
            | (
              have ac1:decide ((b1:Int)<0)=false:=by simp
              have Xm:¬b<=b1:=by have:=rN.out;omega
              have gb1:decide (b<=b1)=false:=by simpa using Xm
              have yK:=aa (λn=>RQ.out n (λs' c b' JL XL=>by rw[HK0.out]at JL;cases JL;omega));go_wp2_with fail;go_quiet (fail)
              rename Nat=>Jb
              go_wp2_with fail;go_roundg k2
              case measure=>omega
              case rel=>exact yK.out Jb)
    ·have ga:decide (a<text.size)=false:=by simp;omega
     have gn:decide (0<ls.length)=true:=by simpa using h0
     go_loopg [14,15] 0 (λ_ vl vk wr'=>vl=.bool false/\vk=.int .i64 0/\wr'=w3)
     case atStart=>exact ⟨rfl,rfl,rfl⟩
     case round=>
      obtain ⟨rfl,rfl,rfl⟩:=hrel
      first
       | (
         go_wp2_with fail;go_roundg k
         case measure=>omega
         case rel=>exact ⟨G2,List.replicate ls.length none,a+1,o1,rfl,by rw[Qx.out];rfl,by rw[Qx.out];rfl,rfl,by omega,by rw[aj];omega,Ti.out,(λh=>by omega),um.out⟩)
       | (
         have aq:=aa (show qH wP.heap.size r text.data.toList f wP (.returned (found o1)) wr from by have hd:=um.out;rw[Qx.out]at hd ⊢;exact ⟨_,hd.over HL.out (by rw[aj];exact hle) (λh=>by rw[aj]at h;omega),rfl,Ti.out.below⟩);rw[Qx.out]at aq;go_wp2_with fail
         first
          | exact bodyPost_ret (v:=.tuple #[.int .i64 b1,.int .i64 a,.bool true]) (by simp[results,Tryz.results75,go_sem, *]) rfl aq.out
          | exact bodyPost_ret (v:=.tuple #[.int .i64 b1,.int .i64 e0,.bool true]) (by simp[results,Tryz.results75,go_sem, *]) rfl aq.out)
end Go.Proofs.YtgncgdkpkkdaeaaGreatDoor.Ref
