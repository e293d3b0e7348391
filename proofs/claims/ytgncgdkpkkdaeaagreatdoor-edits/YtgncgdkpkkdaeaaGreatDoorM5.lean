import Derived.Test.YtgncgdkpkkdaeaaGreatDoorML
import Derived.Test.YtgncgdkpkkdaeaaGreatDoorMN6
import Derived.Deep.RegionHeld3
import Derived.Test.YtgncgdkpkkdaeaaGreatDoorMVG
import Derived.Test.YtgncgdkpkkdaeaaGreatDoorM4
import Derived.Test.YtgncgdkpkkdaeaaGreatDoorM3
namespace Go.Proofs.YtgncgdkpkkdaeaaGreatDoor
open Go.RowKit aO
variable {ss eB:List cd} {fs:cM} {B E P i j k:Nat} {r0:eo} {s0:cd} {w:World}
theorem LX(h3:dF dL [] fs none)(h4:dF dA [] fs none){a:Nat}(hk:k<=3)(hp:∀k',k'<k->dF (IK fs k') [] fs none)(hit:dF (IK fs k) [] fs (some a)):eO fs (tests fs) (lp k) a:=by
 match k,hk with
 | 0,_=>exact .skip h3 (.skip h4 (.hit hit))
 | 1,_=>exact .skip h3 (.skip h4 (.skip (hp 0 (by omega)) (.hit hit)))
 | 2,_=>exact .skip h3 (.skip h4 (.skip (hp 0 (by omega)) (.skip (hp 1 (by omega)) (.hit hit))))
 | 3,_=>exact .skip h3 (.skip h4 (.skip (hp 0 (by omega)) (.skip (hp 1 (by omega)) (.skip (hp 2 (by omega)) (.hit hit)))))
theorem LY(h3:dF dL [] fs none)(h4:dF dA [] fs none)(hp:∀k',k'<4->dF (IK fs k') [] fs none):eO fs (tests fs) 0 0:=
 .skip h3 (.skip h4 (.skip (hp 0 (by omega)) (.skip (hp 1 (by omega)) (.skip (hp 2 (by omega)) (.skip (hp 3 (by omega)) .nil)))))
def je(s:List UInt8)(w:World)(e:Ending)(w':World):Prop:=
 Below w.heap.size w w'/\((∃ec a:Nat,ec≠0/\e=.returned (.tuple #[.pointer none,.int .i64 ec,.int .i64 a])/\dt s ec a []) ∨
  (∃P B sv ss,e=.returned (.tuple #[.pointer (some ⟨P,0,none⟩),.int .i64 0,.int .i64 0])/\dt s 0 0 (flat ss)/\w.heap.size<=B/\fD w' B P sv ss/\∀t∈ss,∀r∈t.rs,ez w' r))
def SJ(E B P:Nat)(sv:Value)(eB:List cd)(w0:World)(m:Nat)(vk:Value)(wr:World):Prop:=
 ∃k ss,vk=.int .i64 (k:Nat)/\k+m=4/\kU E B P sv eB w0 k 0 0 ss wr/\∀k',k'<k->dF (IK (flat eB) k') [] (flat eB) none
def SK(E B P:Nat)(sv:Value)(eB:List cd)(w0:World)(k m:Nat)(vi:Value)(wr:World):Prop:=
 ∃i ss,vi=.int .i64 (i:Nat)/\i+m=eB.length/\kU E B P sv eB w0 k i 0 ss wr/\dF (IK (flat eB) k) [] (flat (eB.take i)) none
def SL(E B P:Nat)(sv:Value)(eB:List cd)(w0:World)(k i:Nat)(s0:cd)(m:Nat)(vj:Value)(wr:World):Prop:=
 ∃j ss,vj=.int .i64 (j:Nat)/\j+m=s0.rs.length/\kU E B P sv eB w0 k i j ss wr/\dF (IK (flat eB) k) [] ((flat (eB.take i)++[(s0.at_,.state s0.name.data.toList)])++(s0.rs.take j).map eo.ln) none
theorem GD(h:ub w E)(hk:k<=3):w.cell? ⟨E,k,none⟩=some (.int .i64 (lp k:Nat)):=by
 unfold ub at h
 match k,hk with
 | 0,_=>simp[World.cell?,h,lp]
 | 1,_=>simp[World.cell?,h,lp]
 | 2,_=>simp[World.cell?,h,lp]
 | 3,_=>simp[World.cell?,h,lp]
theorem Bf(hi:eB[i]?=some s0)(hj:s0.rs[j]?=some r0):flat eB=((flat (eB.take i)++[(s0.at_,.state s0.name.data.toList)])++(s0.rs.take j).map eo.ln)++(r0.at_,r0.ln.2)::((s0.rs.drop (j+1)).map eo.ln++flat (eB.drop (i+1))):=by
 have hl:=aw hj;rw[j7 hi]
 conv=>lhs;rw[<-List.take_append_drop j s0.rs,List.drop_eq_getElem_cons hl]
 rw[List.getElem?_eq_getElem hl]at hj;rw[Option.some.inj hj];simp;rfl
theorem Eh(hj:s0.rs[j]?=some r0):(flat (eB.take i)++[(s0.at_,.state s0.name.data.toList)])++(s0.rs.take (j+1)).map eo.ln=((flat (eB.take i)++[(s0.at_,.state s0.name.data.toList)])++(s0.rs.take j).map eo.ln)++[(r0.at_,r0.ln.2)]:=by have hl:=aw hj;rw[List.getElem?_eq_getElem hl]at hj;rw[List.take_succ_eq_append_getElem hl,Option.some.inj hj,List.map_append,<-List.append_assoc];rfl
theorem kU.drew{sv:Value}{w0:World}(h:kU E B P sv eB w0 k i j ss w):kU E B P sv eB w0 k i j ss w.drew:=
 ⟨h.es,h.gC.drew,h.shape,h.below.drew,h.short,λi' j' s r h1 h2 h3=>(h.gX i' j' s r h1 h2 h3).keep (Nat.le_refl _) (λ_ _ _ _ hh=>hh)⟩
theorem Bg{g n cap rg rn kV:Nat}(hG:fD w B P (.slice (some ⟨g,0,none⟩) n cap) ss)(wO:Shape eB ss)(hi:eB[i]?=some s0)(hv:s0.rv=.slice (some ⟨rg,0,none⟩) rn kV)(hj:s0.rs[j]?=some r0):
  w.cell? ⟨P,0,none⟩=some (.slice (some ⟨g,0,none⟩) n cap)/\w.cell? ⟨g,i*3+1,none⟩=some (.slice (some ⟨rg,0,none⟩) rn kV)/\w.cell? ⟨rg,j*6+5,none⟩=some (.int .i64 r0.at_):=by
 obtain ⟨s,hs,mG,LP⟩:=wO.get hi;obtain ⟨r,hr,oz⟩:=Bh LP hj;have hat:r.at_=r0.at_:=congrArg Prod.fst oz;obtain ⟨-,a1,-,-⟩:=hG.at hs;rw[mG,hv]at a1;exact ⟨hG.eh.1,a1,by rw[<-hat];exact (hG.fst hs (mG.trans hv) hr).2.2.2.2.1⟩
set_option maxRecDepth 20000 in
set_option maxHeartbeats 4000000 in
theorem rM(s:ByteArray)(w:World)(hz:s.size<=maxLen):
  Calls Tryz.prog 34 #[.string s] w (je s.data.toList w):=by
 unfold maxLen at hz;by_cases hl:2000<s.size
 ·have g1:decide ((2000:Int)<(s.size:Int))=true:=decide_eq_true (by omega);have ai:=aa (show je s.data.toList w (.returned (.tuple #[.pointer none,.int .i64 (1:Nat),.int .i64 (0:Nat)])) w from ⟨Below.refl _ _,.inl ⟨1,0,by omega,rfl,.long hl⟩⟩);go_enter Tryz.func34,Tryz.ntmps34;go_wp2_with fail
  exact bodyPost_ret (v:=.tuple #[.pointer none,.int .i64 (1:Nat),.int .i64 (0:Nat)]) (by simp[results,Tryz.results34,go_sem, *]) rfl ai.out
 ·have g1:decide ((2000:Int)<(s.size:Int))=false:=decide_eq_false (by omega);have hz2:s.size<=2000:=by omega
  have SM:=aa (show fD (w.alloc (.cells #[.slice none 0 0] 117)) w.heap.size w.heap.size (.slice none 0 0) [] from ⟨af _ _,fC.nil _ _ _ _ _ _,λs hs=>by simp at hs,Nat.le_refl _⟩);have wQ:=aa (show Below w.heap.size w (w.alloc (.cells #[.slice none 0 0] 117)) from (Below.refl _ _).alloc (Nat.le_refl _) _)
  go_enter Tryz.func34,Tryz.ntmps34;go_wp2_with fail;obtain ⟨B,hB⟩:∃B,B=w.heap.size:=⟨_,rfl⟩;rw[<-hB]at SM ⊢;have IL:=aa hB;clear hB;generalize w.alloc (.cells #[.slice none 0 0] 117)=w1 at *;refine (LZ B B s w1 (by rw[IL.out];exact wQ.out.size) SM.out hz2).mono ?_
  rintro e w2 ⟨dW,⟨a,rfl,IM⟩|⟨rfl,acc,sv,ss,IM,T6,XX,AB,yX⟩⟩
  ·have g2:decide ((0:Int)<=(a:Int))=true:=decide_eq_true (by omega);have ai:=aa (show je s.data.toList w (.returned (.tuple #[.pointer none,.int .i64 (2:Nat),.int .i64 a])) w2 from ⟨wQ.out.trans (by rw[<-IL.out];exact dW),.inl ⟨2,a,by omega,rfl,.form hz2 IM⟩⟩);clear SM dW IM;go_wp2_with fail
   exact bodyPost_ret (v:=.tuple #[.pointer none,.int .i64 (2:Nat),.int .i64 a]) (by simp[results,Tryz.results34,go_sem, *]) rfl ai.out
  ·rw[aM]at AB yX;have cL:=aa (show Below w.heap.size w w2 from wQ.out.trans (by rw[<-IL.out];exact dW));have T8:=aa T6;have yY:=aa IM;have GF:=aa XX;have DG:=aa yX;have D9:=aa (Bi B B sv ss s.size w2 T6 (by omega) (λt ht=>by have:=yX t ht;omega));clear dW T6 IM XX yX SM;go_wp2_with fail;refine D9.out.mono ?_
   rintro e w3 ⟨gY,⟨a,rfl,h3⟩|⟨h3,⟨a,rfl,h4⟩|⟨h4,⟨h0,rfl⟩|⟨h0,rfl⟩⟩⟩⟩
   ·have ai:=aa (show je s.data.toList w (.returned (.tuple #[.pointer none,.int .i64 (3:Nat),.int .i64 a])) w3 from ⟨cL.out.trans (gY.mono cL.out.size),.inl ⟨3,a,by omega,rfl,.fault hz2 yY.out (by rw[<-GF.out];exact .hit h3) (by omega)⟩⟩);clear gY h3 D9;go_wp2_with fail
    exact bodyPost_ret (v:=.tuple #[.pointer none,.int .i64 (3:Nat),.int .i64 a]) (by simp[results,Tryz.results34,go_sem, *]) rfl ai.out
   ·have ai:=aa (show je s.data.toList w (.returned (.tuple #[.pointer none,.int .i64 (4:Nat),.int .i64 a])) w3 from ⟨cL.out.trans (gY.mono cL.out.size),.inl ⟨4,a,by omega,rfl,.fault hz2 yY.out (by rw[<-GF.out];exact .skip h3 (.hit h4)) (by omega)⟩⟩);clear gY h3 h4 D9;go_wp2_with fail
    exact bodyPost_ret (v:=.tuple #[.pointer none,.int .i64 (4:Nat),.int .i64 a]) (by simp[results,Tryz.results34,go_sem, *]) rfl ai.out
   ·have ai:=aa (show je s.data.toList w (.returned (.tuple #[.pointer none,.int .i64 (4:Nat),.int .i64 s.size])) w3 from ⟨cL.out.trans (gY.mono cL.out.size),.inl ⟨4,s.size,by omega,rfl,.none hz2 yY.out (by rw[<-GF.out,h0];rfl)⟩⟩);clear gY h3 h4 h0 D9;go_wp2_with fail
    exact bodyPost_ret (v:=.tuple #[.pointer none,.int .i64 (4:Nat),.int .i64 s.size]) (by simp[results,Tryz.results34,go_sem, *]) rfl ai.out
   ·have fB:=aa (cL.out.trans (gY.mono cL.out.size));have Wy:=aa (T8.out.below gY);have H3:=aa h3;have H4:=aa h4;clear gY h3 h4 D9 T8 cL;have HEA:=aa (show ub (w3.alloc (.cells #[.int .i64 5,.int .i64 1,.int .i64 6,.int .i64 7] 3)) w3.heap.size from af _ _)
    have L0:=aa (show Below w3.heap.size w3 (w3.alloc (.cells #[.int .i64 5,.int .i64 1,.int .i64 6,.int .i64 7] 3)) from (Below.refl _ _).alloc (Nat.le_refl _) _);go_wp2_with fail;obtain ⟨E,hE⟩:∃E,E=w3.heap.size:=⟨_,rfl⟩;rw[<-hE]at HEA ⊢;clear hE;generalize w3.alloc (.cells #[.int .i64 5,.int .i64 1,.int .i64 6,.int .i64 7] 3)=w4 at *
    have jX:B<=w4.heap.size:=by rw[IL.out];exact Nat.le_trans fB.out.size L0.out.size
    have jY:=aa (show Below B w w4 by rw[IL.out];exact fB.out.trans (L0.out.mono fB.out.size));have Wz:=aa (show kU E B B sv ss w4 0 0 0 ss w4 from ⟨HEA.out,Wy.out.below L0.out,Shape.refl _,Below.refl _ _,λh=>by omega,λi' j' s r h1 h2 h3=>by omega⟩);clear HEA L0 Wy fB;go_loopg [9] 4 (λm vk wx=>SJ E B B sv ss w4 m vk wx)
    case atStart=>exact ⟨0,ss,rfl,rfl,Wz.out,λk' h=>by omega⟩
    case round=>
     obtain ⟨k,ssk,rfl,hk,T9,L1⟩:=hrel;have HPV:=aa L1;obtain ⟨km,hkm⟩:∃km,km=gk:=⟨_,rfl⟩;by_cases hk4:k<4
     ·have g4:decide ((k:Int)<4)=true:=decide_eq_true (by omega);have XY:=aa T9;clear T9 L1;go_wp2_with fail;go_loopg [10] ss.length (λm vi wx=>SK E B B sv ss w4 k m vi wx)
      case atStart=>exact ⟨0,ssk,rfl,by omega,XY.out,.nil⟩
      case round=>
       obtain ⟨i,ssi,rfl,hi,Ua,wR⟩:=hrel;obtain ⟨im,him⟩:∃im,im=gk:=⟨_,rfl⟩;have c0:=Ua.gC.eh.1;obtain ⟨ao,cap,oq,hao⟩:=Ua.gC.form;rw[Ua.shape.length]at oq hao;rw[oq]at c0;by_cases L3:i<ss.length
       ·have g5:decide ((i:Int)<(ss.length:Int))=true:=decide_eq_true (by omega);obtain ⟨g,rfl⟩:=hao (by omega);obtain ⟨s0,hs0⟩:∃s0,ss[i]?=some s0:=⟨ss[i],List.getElem?_eq_getElem L3⟩;have Bj:=aa hs0;have Ei:=aa (show dF (IK (flat ss) k) [] (flat (ss.take i)++[(s0.at_,.state s0.name.data.toList)]) none from wR.snoc (IP _ _ _ _));have HLi:=aa Ua;clear Ua wR hs0
        go_wp2_with fail;go_loopg [11] s0.rs.length (λm vj wx=>SL E B B sv ss w4 k i s0 m vj wx)
        case atStart=>exact ⟨0,ssi,rfl,by omega,HLi.out,by simpa using Ei.out⟩
        case round=>
         obtain ⟨j,ssj,rfl,hj,WA,hfj⟩:=hrel;have WB:=aa WA;have WC:=aa hfj;obtain ⟨sj,hsj,XZ,X0⟩:=WA.shape.get Bj.out;have hGj:=WA.gC;rw[oq]at hGj;have d0:=hGj.eh.1;obtain ⟨-,d1,-,-⟩:=hGj.at hsj;obtain ⟨ro,kV,mG,hro⟩:=WA.gC.rules (List.mem_of_getElem? hsj);rw[ud X0]at mG hro;rw[mG]at d1;rw[XZ]at mG
         have hE0:=GD WA.es (show k<=3 by omega);have IQ:=DG.out s0 (List.mem_of_getElem? Bj.out);have HRV:=aa mG;clear WA hfj hsj XZ X0 hGj mG;by_cases qF:j<s0.rs.length
         ·have g6:decide ((j:Int)<(s0.rs.length:Int))=true:=decide_eq_true (by omega);obtain ⟨rg,rfl⟩:=hro (by omega);obtain ⟨r0,IR⟩:∃r0,s0.rs[j]?=some r0:=⟨s0.rs[j],List.getElem?_eq_getElem qF⟩;have Ej:=aa IR
          have HWR:=aa (IU E B B sv ss w4 k i j ssj wr.drew WB.out.drew (by omega) (show B<=wr.heap.size from Nat.le_trans jX WB.out.below.size) (by omega) Bj.out IR HRV.out);have HCE:=aa (λ(w5:World) (IV:List cd) (hG:fD w5 B B sv IV) (wO:Shape ss IV)=>Bg (oq▸hG) wO Bj.out HRV.out IR);have tX:(i:Int)<(ss.length:Int):=by omega
          have hj0:(j:Int)<(s0.rs.length:Int):=by omega
          have wS:(k:Int)<4:=by omega
          clear IR;go_wp2_with fail
          go_region_held3 (λw'=>w'.cell? ⟨B,0,none⟩=some (.slice (some ⟨g,0,none⟩) ss.length cap)/\w'.cell? ⟨g,i*3+1,none⟩=some (.slice (some ⟨rg,0,none⟩) s0.rs.length kV)/\w'.cell? ⟨E,k,none⟩=some (.int .i64 (lp k:Nat)))
           (first
            | exact AE
            | go_keep)
           (first
            | (go_at_call 62;refine HWR.out.mono ?_;rintro e w5 ⟨b,IV,rfl,hb,hes,Qh,wO,Qi,hnx⟩;obtain ⟨x1,x2,x3⟩:=HCE.out w5 IV Qh wO;have x4:=GD hes (show k<=3 by omega);have AE:=And.intro x1 (And.intro x2 x4);have Bk:=aa hb;have Ub:=aa Qi;have eM:=aa hnx;clear hb hes Qh wO Qi hnx))
          cases b with
          | true=>
           have ai:=aa (λn=>show je s.data.toList w (.returned (.tuple #[.pointer none,.int .i64 (lp k:Nat),.int .i64 r0.at_])) (w5.drewN n) from ⟨Below.drewN' (by rw[<-IL.out];exact jY.out.trans Ub.out) n,.inl ⟨lp k,r0.at_,by match k with|0=>decide|1=>decide|2=>decide|_+3=>exact (by decide:(7:Nat)≠0),rfl,.fault hz2 yY.out (by
            rw[<-GF.out];refine LX H3.out H4.out (by omega) HPV.out ?_;have:=WC.out.ue (a:=r0.at_) (x:=r0.ln.2) ((s0.rs.drop (j+1)).map eo.ln++flat (ss.drop (i+1))) ((yZ _ _ _ _).2 (Bk.out.1 rfl));rw[<-Bf Bj.out Ej.out]at this;exact this) (by match k with|0=>decide|1=>decide|2=>decide|_+3=>exact (by decide:(7:Nat)≠0))⟩⟩)
           clear HWR HCE WC WB Bk Ub eM HLi Ei XY Wz AE;go_wp2_with fail;go_quiet (fail);go_wp2_with fail;exact bodyPost_ret (v:=.tuple #[.pointer none,.int .i64 (lp k:Nat),.int .i64 r0.at_]) (by simp[results,Tryz.results34,go_sem, *]) rfl (ai.out _)
          | false=>
           have HST:=aa (show SL E B B sv ss w4 k i s0 (gk - 1) (.int .i64 ((j+1:Nat):Int)) w5 from ⟨j+1,IV,rfl,by omega,eM.out rfl,by rw[Eh Ej.out];exact WC.out.snoc (λh=>by have:=Bk.out.2 ((yZ _ _ _ _).1 h);cases this)⟩);have K8:j+1<=9223372036854775807:=by omega
           clear HWR HCE WC WB Bk Ub eM HLi Ei XY Wz AE;go_wp2_with fail;go_roundg (gk - 1)
           case measure=>omega
           case rel=>exact HST.out
         ·have g6:decide ((j:Int)<(s0.rs.length:Int))=false:=decide_eq_false (by omega);have HST:=aa (show SK E B B sv ss w4 k (im - 1) (.int .i64 ((i+1:Nat):Int)) wr from ⟨i+1,ssj,rfl,by omega,WB.out.X2 Bj.out (by omega),by have:=WC.out;rw[List.take_of_length_le (l:=s0.rs) (by omega),<-qG Bj.out]at this;exact this⟩);have xG:i+1<=9223372036854775807:=by omega
          clear WC WB HLi Ei XY Wz;go_wp2_with fail;go_roundg (im - 1)
          case measure=>omega
          case rel=>exact HST.out
       ·have g5:decide ((i:Int)<(ss.length:Int))=false:=decide_eq_false (by omega);have HFk:=aa (show dF (IK (flat ss) k) [] (flat ss) none by rw[List.take_of_length_le (by omega)]at wR;exact wR)
        have HST:=aa (show SJ E B B sv ss w4 (km - 1) (.int .i64 ((k+1:Nat):Int)) wr from ⟨k+1,ssi,rfl,by omega,Ua.X3 (by omega) HFk.out,λk' hk'=>by
         rcases Nat.lt_or_ge k' k with h|h
         ·exact HPV.out k' h
         ·have:k'=k:=by omega
          subst this;exact HFk.out⟩)
        have eJ:k+1<=9223372036854775807:=by omega
        clear Ua wR HFk XY Wz;go_wp2_with fail;go_roundg (km - 1)
        case measure=>omega
        case rel=>exact HST.out
     ·have g4:decide ((k:Int)<4)=false:=decide_eq_false (by omega);have acV:k=4:=by omega
      have ai:=aa (show je s.data.toList w (.returned (.tuple #[.pointer (some ⟨B,0,none⟩),.int .i64 0,.int .i64 0])) wr from ⟨by rw[<-IL.out];exact jY.out.trans T9.below,.inr ⟨B,B,sv,ssk,rfl,by
       rw[T9.shape.flat,GF.out];refine .ok hz2 yY.out ?_ ?_
       ·rw[<-GF.out];exact LY H3.out H4.out (λk' h=>HPV.out k' (by omega))
       ·rw[<-GF.out];intro hf
        cases ss with
        | nil=>exact h0 rfl
        | cons t l=>simp[flat,cd.eT]at hf,by rw[IL.out];exact Nat.le_refl _,T9.gC,λt ht r hr=>by
       obtain ⟨i',hi'⟩:=List.getElem?_of_mem ht;obtain ⟨j',hj'⟩:=List.getElem?_of_mem hr;exact T9.gX i' j' t r hi' hj' (.inl (by omega))⟩⟩)
      clear T9 L1 Wz;go_wp2_with fail;exact bodyPost_ret (v:=.tuple #[.pointer (some ⟨B,0,none⟩),.int .i64 0,.int .i64 0]) (by simp[results,Tryz.results34,go_sem, *]) rfl ai.out
end Go.Proofs.YtgncgdkpkkdaeaaGreatDoor
namespace Go.Proofs.YtgncgdkpkkdaeaaGreatDoor
open Go.RowKit aO Go.Maps Go.Shelf
variable {x:LE} {G:List GS} {ss:List cd} {s:List UInt8} {L:cM} {i:Nat}
theorem uf(l:List eo)(r:cM)(i c:Nat):gQ c (l.map eo.ln++r) i=(if i+1=c then l.map eo.ln else [])++gQ c r i:=by
 induction l with
 | nil=>simp
 | cons a t ih=>
  have e1:(a.ln).2.aL=false:=rfl;have e2:(a.ln).2.aY=true:=rfl;rw[List.map_cons,List.cons_append,gQ,e1,e2,ih];by_cases h:i+1=c
  ·simp[h]
  ·simp[h]
theorem mH(s:cd)(t:List cd):flat (s::t)=(s.at_,Ln.state s.name.data.toList)::(s.rs.map eo.ln++flat t):=by simp[flat,cd.eT]
theorem IW(ss:List cd)(i:Nat):∀c,i+1<=c->gQ c (flat ss) i=[]:=by
 induction ss with
 | nil=>intro c _;rfl
 | cons s t ih=>
  intro c hc;rw[mH,gQ,if_pos (by rfl),uf,if_neg (by omega),ih _ (by omega)];rfl
theorem xH:∀(ss:List cd) (c j:Nat) (t:cd),ss[j]?=some t->gQ c (flat ss) (c+j)=t.rs.map eo.ln:=by
 intro ss
 induction ss with
 | nil=>intro c j t h;simp at h
 | cons s l ih=>
  intro c j t h;rw[mH,gQ,if_pos (by rfl),uf]
  cases j with
  | zero=>
   simp at h;subst h;rw[if_pos (by omega),IW _ _ _ (by omega),List.append_nil]
  | succ j=>
   rw[if_neg (by omega),List.nil_append,show c+(j+1)=(c+1)+j by omega];exact ih (c+1) j t (by simpa using h)
theorem j8(ss:List cd):bJ (flat ss)=ss.map (·.name.data.toList):=by
 induction ss with
 | nil=>rfl
 | cons s t ih=>
  have e:∀(l:List eo),bJ (l.map eo.ln)=[]:=λl=>by
   induction l with
   | nil=>rfl
   | cons a b ih=>rw[List.map_cons];unfold bJ at ih ⊢;rw[List.filterMap_cons];simp[eo.ln,ju]
  rw[mH,List.map_cons,<-ih];have e2:=e s.rs;unfold bJ at e2 ⊢;rw[List.filterMap_cons,List.filterMap_append,e2];simp[ju]
theorem wT(h:dF dL [] (flat ss) none){j:Nat}{t t':cd}(nh:i<j)(hi:ss[i]?=some t)(hj:ss[j]?=some t'):t.name.data.toList≠t'.name.data.toList:=by
 intro he;have hs:ss=ss.take j++t'::ss.drop (j+1):=by have hl:=aw hj;rw[<-List.getElem?_eq_some_iff.1 hj |>.2,<-List.drop_eq_getElem_cons hl,List.take_append_drop]
 have hf:flat ss=flat (ss.take j)++(t'.at_,Ln.state t'.name.data.toList)::(t'.rs.map eo.ln++flat (ss.drop (j+1))):=by
  rw[<-mH]
  conv=>lhs;rw[hs]
  simp[flat]
 have h1:=rN h _ _ _ hf;refine h1 ⟨_,rfl,t.at_,?_⟩;rw[List.nil_append,<-he];refine List.mem_flatMap.2 ⟨t,?_,by simp[cd.eT]⟩;refine List.mem_of_getElem? (i:=i) ?_;rw[List.getElem?_take_of_lt nh,hi]
theorem L4(hl:dt s 0 0 L):dF dL [] L none/\dF dA [] L none/\L≠[]/\∀y∈L,y.2.nb=true:=by
 cases hl with
 | fault _ _ _ h1=>exact absurd rfl h1
 | ok _ _ hch hne=>
  refine ⟨?_,?_,hne,λy hy=>(List.mem_filter.1 hy).2⟩
  ·unfold tests at hch
   cases hch with
   | skip a1 _=>exact a1
  ·unfold tests at hch
   cases hch with
   | skip _ hch=>cases hch with
    | skip a1 _=>exact a1
theorem L5{a b:ByteArray}(h:a.data.toList=b.data.toList):a=b:=by cases a;cases b;simp at h;simp[h]
theorem Qj(h1:dt s 0 0 L)(h2:dt s 0 0 (flat ss))(hg:X4 L G):xF G ss/\(ss.length<=12/\∀t∈ss,t.rs.length<=40)/\0<ss.length:=by
 obtain ⟨-,-,rfl⟩:=h1.cX h2;obtain ⟨c1,c2,c3,c4⟩:=L4 h2;have hn:=hg.names;rw[j8]at hn;have hlen:G.length=ss.length:=by have:=congrArg List.length hn;simpa using this.symm
 obtain ⟨f1,f2⟩:=L6 c4 c2;rw[<-lq,j8,List.length_map]at f1;have fS:∀(i:Nat) (s:GS) (t:cd),G[i]?=some s->ss[i]?=some t->s.nm.data.toList=t.name.data.toList:=λi s t hs ht=>by have:=congrArg (·[i]?) hn;simp only[List.getElem?_map,hs,ht,Option.map_some,Option.some.injEq]at this;exact this.symm
 refine ⟨⟨hlen,λi s t hs ht=>?_⟩,⟨f1,λt ht=>?_⟩,?_⟩
 ·obtain ⟨r1,r2⟩:=hg.rules i s hs;have Bl:=xH ss 0 i t ht;rw[Nat.zero_add]at Bl;rw[Bl]at r1 r2;refine ⟨L5 (fS i s t hs ht),by simpa using r1,λk r q hr hq=>?_⟩;obtain ⟨d,o,c,p,e1,e2,e3,e4,e5,e6,e7⟩:=r2 k q.ln r (by rw[List.getElem?_map,hq];rfl) hr;have e1':Ln.rule q.d q.b.data.toList q.c.data.toList q.p.data.toList=.rule d o c p:=e1;cases e1'
  refine ⟨e6,e2,L5 e4,λhd=>?_⟩;have h5:=e5 hd;rw[j8,List.getElem?_map]at h5
  cases ib:ss[r.op]? with
  | none=>rw[ib]at h5;cases h5
  | some t'=>
   rw[ib]at h5;simp only[Option.map_some,Option.some.injEq]at h5;refine ⟨t',rfl,h5,λj t'' hj X5 e=>?_⟩;exact wT c1 hj X5 ib (by rw[e,h5])
 ·obtain ⟨i,hi⟩:=List.getElem?_of_mem ht;have h3:=ug (flat ss) i 0;have Bl:=xH ss 0 i t hi;rw[Nat.zero_add]at Bl;rw[Bl,List.length_map]at h3;omega
 ·cases ss with
  | nil=>exact absurd rfl c3
  | cons _ _=>simp
theorem LE.length(h:x.st.length<=8):x.cells.length=10:=by unfold LE.cells;rw[List.length_append,di h];rfl
theorem cB.cells{w:World}{B:Nat}{ao:Option Addr}{cp:Nat}{ls:List LE}(h:cB w B (.slice ao ls.length cp) ls)(hx:ls[i]?=some x):∃lg,ao=some ⟨lg,0,none⟩/\lg<w.heap.size/\∀(y:Nat) c,x.cells[y]?=some c->w.cell? ⟨lg,i*10+y,none⟩=some c:=by
 obtain ⟨lg,c,hv⟩:=az h.row (by have:=aw hx;omega);cases hv;obtain ⟨_,cur,gO⟩:=aj h.row (k:=lg) rfl;refine ⟨lg,rfl,ae gO,λy c hy=>(bG h.row ?_).1⟩;have XQ:y<10:=by have:=aw hy;rw[LE.length (h.each x (List.mem_of_getElem? hx)).1]at this;exact this
 rw[List.flatMap_def,j5 (si:=10) (by intro r hr;obtain ⟨z,hz,rfl⟩:=List.mem_map.1 hr;exact LE.length (h.each z hz).1) (r:=x.cells) (by rw[List.getElem?_map,hx];rfl) y XQ];exact hy
theorem dz.short(dZ:xD G){st:List Nat}{ls:List (List UInt8)}{out:List (List Nat×List Sp)}{st':List Nat}(h:dz G st ls out st')(hl:∀l∈ls,l.length<=3000):∀y∈out,y.2.length<=7000:=by
 induction h with
 | nil=>intro y hy;simp at hy
 | cons h1 _ ih=>
  intro y hy;rcases List.mem_cons.1 hy with rfl|hy
  ·have hle:=hl _ List.mem_cons_self;rcases h1 with h1|⟨a,pre,top,s,h2,h3,_,_,_,rfl⟩
   ·exact Nat.le_trans (h1.short dZ) (by omega)
   ·have:=h2.short dZ;show (pre++[_]).length<=7000;rw[List.length_append,List.length_singleton];omega
  ·exact ih (λl hl'=>hl l (List.mem_cons_of_mem _ hl')) y hy
section
variable {w:World} {B bX bS g n cap:Nat} {text:ByteArray} {lv:Value} {ls:List LE} {work:Nat}
theorem uh(i:Nat)(x:LE)(h:bQ w B bS g n cap text lv ls work)(hx:ls[i]?=some x):
  Calls Tryz.prog 53 #[.pointer (some ⟨bS,0,none⟩),.int .i64 i] w λe w'=>e=.returned (.func (.func 107) #[] #[.pointer (some ⟨w.heap.size,0,none⟩)])/\w'=w.alloc (.cells #[x.sv] 64):=by
 have ni:=h.eT;obtain ⟨ao,cp,hv⟩:=aC ni.row;subst hv;obtain ⟨lg,hao,_,hc⟩:=ni.cells hx;subst hao;have h8:=(ni.each x (List.mem_of_getElem? hx)).1;have c9:=hc 9 x.sv (by unfold LE.cells;rw[List.getElem?_append_right (by rw[di h8];omega),di h8];rfl);have c2:w.cell? ⟨bS,2,none⟩=some (.slice (some ⟨lg,0,none⟩) ls.length cp):=ag h.sh rfl
 have hi:=aw hx;obtain ⟨K9,fk,oq⟩:=aC (ni.each x (List.mem_of_getElem? hx)).2;rw[oq]at c9;have HV:=aa (IA x.sv ⟨_,_,_,oq⟩ w);rw[oq]at HV ⊢;clear ni hc h hx;go_enter Tryz.func53,Tryz.ntmps53;go_wp2_with fail;refine HV.out.mono ?_;rintro e w1 ⟨rfl,SN⟩;have HW:=aa SN;clear SN HV;go_wp2_with fail;go_ret
 exact ⟨rfl,HW.out⟩
def Bn(ls:List LE)(i:Int)(w:World)(e:Ending)(w':World):Prop:=
 Below w.heap.size w w'/\((¬(0<=i/\i<ls.length)/\e=.returned (.tuple #[.slice none 0 0,.int .i64 8]))∨∃(k:Nat) (x:LE) (v:Value),i=k/\ls[k]?=some x/\e=.returned (.tuple #[v,.int .i64 0])/\bV w' w.heap.size v x.bc)
set_option maxHeartbeats 1000000 in
theorem Ek(i:Int)(sS:∀x∈ls,x.bc.length<=7000)(h:bQ w B bS g n cap text lv ls work)(hx:w.heap[bX]?=some (.cells #[.pointer (some ⟨bS,0,none⟩)] 46 (0,0))):
  Calls Tryz.prog 24 #[.pointer (some ⟨bX,0,none⟩),.int .i64 i] w (Bn ls i w):=by
 have c0:=ay hx;have HF:=aa (nE i h hx);by_cases jW:0<=i/\i<ls.length
 ·rw[if_pos jW]at HF;obtain ⟨k,rfl⟩:∃k:Nat,i=k:=⟨i.toNat,by omega⟩;obtain ⟨x,GG⟩:∃x,ls[k]?=some x:=⟨_,List.getElem?_eq_getElem (by omega)⟩;have HS:=aa (uh k x h GG);have hrow:=(h.eT.each x (List.mem_of_getElem? GG)).2
  have HC:=aa (Bd B w.heap.size x.sv x.bc (w.alloc (.cells #[x.sv] 64)) (sS x (List.mem_of_getElem? GG)) (af _ _) (aG hrow λk hk=>((Below.refl _ _).alloc (Nat.le_refl _) _).block k (by obtain ⟨_,c,hc⟩:=aj hrow hk;exact ae hc)));have HX:=aa GG;clear h hx hrow GG jW
  go_enter Tryz.func24,Tryz.ntmps24;go_wp2_with fail;refine HF.out.mono ?_;rintro e1 w1 ⟨rfl,h1⟩;subst h1;go_wp2_with fail;refine HS.out.mono ?_;rintro e2 w2 ⟨rfl,h2⟩;rw[<-h2]at HC;have hb2:Below w1.heap.size w1 w2:=by rw[h2];exact (Below.refl _ _).alloc (Nat.le_refl _) _
  clear h2;go_wp2_with fail;refine HC.out.mono ?_;rintro e3 w3 ⟨v,rfl,h3,hb3⟩;obtain ⟨wK,vc,hv⟩:=aC h3;subst hv;have ai:=aa (show Bn ls (k:Int) w1 (.returned (.tuple #[.slice wK x.bc.length vc,.int .i64 0])) w3 from ⟨hb2.trans (hb3.mono hb2.size),.inr ⟨k,x,_,rfl,HX.out,rfl,dn h3 hb2.size⟩⟩);clear h3 hb3 hb2 HC;go_wp2_with fail;go_ret2;exact ai.out
 ·rw[if_neg jW]at HF;clear h hx;have HI:=aa jW;clear jW;go_enter Tryz.func24,Tryz.ntmps24;go_wp2_with fail;refine HF.out.mono ?_;rintro e1 w1 ⟨rfl,h1⟩;subst h1;go_wp2_with fail;go_ret2;exact ⟨Below.refl _ _,.inl ⟨HI.out,rfl⟩⟩
theorem ui(i:Nat)(x:LE)(G:List GS)(h:bQ w B bS g n cap text lv ls work)(hx:ls[i]?=some x)(cq:Good G x.st)(hG:bR w g n cap G):
  Calls Tryz.prog 54 #[.pointer (some ⟨bS,0,none⟩),.int .i64 i] w (mF (eV G x.st) w):=by
 have ni:=h.eT;obtain ⟨ao,cp,hv⟩:=aC ni.row;subst hv;obtain ⟨lg,hao,_,hc⟩:=ni.cells hx;subst hao;obtain ⟨a0,a1,a2,a3,a4,a5,a6,a7,a8,hst⟩:=nine cq.1.2;have hcc:∀(y:Nat) c,(aJ x.st)[y]?=some c->w.cell? ⟨lg,i*10+y,none⟩=some c:=λy c hy=>hc y c (by unfold LE.cells;rw[List.getElem?_append_left (aw hy)];exact hy)
 rw[hst]at hcc;have d0:=hcc 0 _ rfl;have d1:=hcc 1 _ rfl;have d2:=hcc 2 _ rfl;have d3:=hcc 3 _ rfl;have d4:=hcc 4 _ rfl;have d5:=hcc 5 _ rfl;have d6:=hcc 6 _ rfl;have d7:=hcc 7 _ rfl;have d8:=hcc 8 _ rfl;rw[Nat.add_zero]at d0;have c0:w.cell? ⟨bS,0,none⟩=some (.slice (some ⟨g,0,none⟩) n cap):=ag h.sh rfl
 have c2:w.cell? ⟨bS,2,none⟩=some (.slice (some ⟨lg,0,none⟩) ls.length cp):=ag h.sh rfl;have hi:=aw hx;have HN:=aa (IE g n cap G x.st cq w.drew (hG.below (Below.refl _ _).drew));unfold k9 at HN;rw[hst]at HN
 have wU:=aa (λ(w':World) (hb:Below w.drew.heap.size w.drew w')=>show w'.cell? ⟨bS,0,none⟩=some (.slice (some ⟨g,0,none⟩) n cap)/\w'.cell? ⟨bS,2,none⟩=some (.slice (some ⟨lg,0,none⟩) ls.length cp)/\w'.cell? ⟨lg,i*10,none⟩=some (.int .i64 a0)/\w'.cell? ⟨lg,i*10+1,none⟩=some (.int .i64 a1)/\w'.cell? ⟨lg,i*10+2,none⟩=some (.int .i64 a2)/\w'.cell? ⟨lg,i*10+3,none⟩=some (.int .i64 a3)/\w'.cell? ⟨lg,i*10+4,none⟩=some (.int .i64 a4)/\w'.cell? ⟨lg,i*10+5,none⟩=some (.int .i64 a5)/\w'.cell? ⟨lg,i*10+6,none⟩=some (.int .i64 a6)/\w'.cell? ⟨lg,i*10+7,none⟩=some (.int .i64 a7)/\w'.cell? ⟨lg,i*10+8,none⟩=some (.int .i64 a8) from
  have hb':Below w.heap.size w w':=⟨hb.os,hb.tape,hb.output,hb.size,hb.block⟩
  ⟨ax c0 hb',ax c2 hb',ax d0 hb',ax d1 hb',ax d2 hb',ax d3 hb',ax d4 hb',ax d5 hb',ax d6 hb',ax d7 hb',ax d8 hb'⟩)
 clear ni hc hcc h hx hst;go_enter Tryz.func54,Tryz.ntmps54;go_wp2_with fail
 go_region_held3 (λw'=>w'.cell? ⟨bS,0,none⟩=some (.slice (some ⟨g,0,none⟩) n cap)/\w'.cell? ⟨bS,2,none⟩=some (.slice (some ⟨lg,0,none⟩) ls.length cp)/\w'.cell? ⟨lg,i*10,none⟩=some (.int .i64 a0)/\w'.cell? ⟨lg,i*10+1,none⟩=some (.int .i64 a1)/\w'.cell? ⟨lg,i*10+2,none⟩=some (.int .i64 a2)/\w'.cell? ⟨lg,i*10+3,none⟩=some (.int .i64 a3)/\w'.cell? ⟨lg,i*10+4,none⟩=some (.int .i64 a4)/\w'.cell? ⟨lg,i*10+5,none⟩=some (.int .i64 a5)/\w'.cell? ⟨lg,i*10+6,none⟩=some (.int .i64 a6)/\w'.cell? ⟨lg,i*10+7,none⟩=some (.int .i64 a7)/\w'.cell? ⟨lg,i*10+8,none⟩=some (.int .i64 a8))
  (first
   | with_reducible exact hS1
   | go_keep)
  (first
   | (go_at_call 80;refine HN.out.mono ?_;clear HN;rintro e w1 ⟨v,rfl,h1,h2⟩;have hS1:=wU.out w1 h2;have HE:=aa (show mF (eV G x.st) w (.returned v) w1 from ⟨v,rfl,h1,⟨h2.os,h2.tape,h2.output,h2.size,h2.block⟩⟩);obtain ⟨wK,vc,hv⟩:=aC h1;subst hv;clear h1 h2))
 all_goals
  clear hS1;go_wp2_with fail;go_ret;exact HE.out
def xI(G:List GS)(ls:List LE)(i:Int)(w:World)(e:Ending)(w':World):Prop:=
 Below w.heap.size w w'/\((¬(0<=i/\i<ls.length)/\e=.returned (.tuple #[.slice none 0 0,.int .i64 8]))∨∃(k:Nat) (x:LE) (v:Value),i=k/\ls[k]?=some x/\e=.returned (.tuple #[v,.int .i64 0])/\jE w' w.heap.size v (eV G x.st))
set_option maxHeartbeats 1000000 in
theorem Bo(i:Int)(G:List GS)(cq:∀x∈ls,Good G x.st)(hG:bR w g n cap G)(h:bQ w B bS g n cap text lv ls work)(hx:w.heap[bX]?=some (.cells #[.pointer (some ⟨bS,0,none⟩)] 46 (0,0))):
  Calls Tryz.prog 25 #[.pointer (some ⟨bX,0,none⟩),.int .i64 i] w (xI G ls i w):=by
 have c0:=ay hx;have HF:=aa (nE i h hx);by_cases jW:0<=i/\i<ls.length
 ·rw[if_pos jW]at HF;obtain ⟨k,rfl⟩:∃k:Nat,i=k:=⟨i.toNat,by omega⟩;obtain ⟨x,GG⟩:∃x,ls[k]?=some x:=⟨_,List.getElem?_eq_getElem (by omega)⟩;have HS:=aa (ui k x G h GG (cq x (List.mem_of_getElem? GG)) hG);have HX:=aa GG;clear h hx GG jW cq hG;go_enter Tryz.func25,Tryz.ntmps25;go_wp2_with fail;refine HF.out.mono ?_
  rintro e1 w1 ⟨rfl,h1⟩;subst h1;go_wp2_with fail;refine HS.out.mono ?_;rintro e3 w3 ⟨v,rfl,h3,hb3⟩;obtain ⟨wK,vc,hv⟩:=aC h3;subst hv;have ai:=aa (show xI G ls (k:Int) w1 (.returned (.tuple #[.slice wK (eV G x.st).length vc,.int .i64 0])) w3 from ⟨hb3,.inr ⟨k,x,_,rfl,HX.out,rfl,h3⟩⟩);clear h3 hb3;go_wp2_with fail;go_ret2;exact ai.out
 ·rw[if_neg jW]at HF;clear h hx;have HI:=aa jW;clear jW;go_enter Tryz.func25,Tryz.ntmps25;go_wp2_with fail;refine HF.out.mono ?_;rintro e1 w1 ⟨rfl,h1⟩;subst h1;go_wp2_with fail;go_ret2;exact ⟨Below.refl _ _,.inl ⟨HI.out,rfl⟩⟩
end
end Go.Proofs.YtgncgdkpkkdaeaaGreatDoor
