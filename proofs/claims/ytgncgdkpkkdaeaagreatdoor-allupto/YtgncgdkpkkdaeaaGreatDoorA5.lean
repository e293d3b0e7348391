import Derived.Test.YtgncgdkpkkdaeaaGreatDoorAN6
import Derived.Test.YtgncgdkpkkdaeaaGreatDoorA4
set_option maxRecDepth 20000
set_option maxHeartbeats 4000000
namespace Go.Proofs.YtgncgdkpkkdaeaaGreatDoor
open Go.RowKit bu
variable {ss eQ:List cH} {fs:cU} {B E P i j k:Nat} {r0:eJ} {s0:cH} {w:World}
theorem MJ(h3:dQ dW [] fs none)(h4:dQ dI [] fs none){a:Nat}(hk:k<=3)(hp:∀k',k'<k->dQ (Jy fs k') [] fs none)(hit:dQ (Jy fs k) [] fs (some a)):fp fs (tests fs) (mg k) a:=by
 match k,hk with
 | 0,_=>exact .skip h3 (.skip h4 (.hit hit))
 | 1,_=>exact .skip h3 (.skip h4 (.skip (hp 0 (by omega)) (.hit hit)))
 | 2,_=>exact .skip h3 (.skip h4 (.skip (hp 0 (by omega)) (.skip (hp 1 (by omega)) (.hit hit))))
 | 3,_=>exact .skip h3 (.skip h4 (.skip (hp 0 (by omega)) (.skip (hp 1 (by omega)) (.skip (hp 2 (by omega)) (.hit hit)))))
theorem MK(h3:dQ dW [] fs none)(h4:dQ dI [] fs none)(hp:∀k',k'<4->dQ (Jy fs k') [] fs none):fp fs (tests fs) 0 0:=
 .skip h3 (.skip h4 (.skip (hp 0 (by omega)) (.skip (hp 1 (by omega)) (.skip (hp 2 (by omega)) (.skip (hp 3 (by omega)) .nil)))))
def jB(s:List UInt8)(w:World)(e:Ending)(w':World):Prop:=
 Below w.heap.size w w'/\((∃ec a:Nat,ec≠0/\e=.returned (.tuple #[.pointer none,.int .i64 ec,.int .i64 a])/\dD s ec a []) ∨
  (∃P B sv ss,e=.returned (.tuple #[.pointer (some ⟨P,0,none⟩),.int .i64 0,.int .i64 0])/\dD s 0 0 (flat ss)/\w.heap.size<=B/\fY w' B P sv ss/\∀t∈ss,∀r∈t.rs,eN w' r))
def TB(E B P:Nat)(sv:Value)(eQ:List cH)(w0:World)(m:Nat)(vk:Value)(wr:World):Prop:=
 ∃k ss,vk=.int .i64 (k:Nat)/\k+m=4/\lL E B P sv eQ w0 k 0 0 ss wr/\∀k',k'<k->dQ (Jy (flat eQ) k') [] (flat eQ) none
def TC(E B P:Nat)(sv:Value)(eQ:List cH)(w0:World)(k m:Nat)(vi:Value)(wr:World):Prop:=
 ∃i ss,vi=.int .i64 (i:Nat)/\i+m=eQ.length/\lL E B P sv eQ w0 k i 0 ss wr/\dQ (Jy (flat eQ) k) [] (flat (eQ.take i)) none
def TD(E B P:Nat)(sv:Value)(eQ:List cH)(w0:World)(k i:Nat)(s0:cH)(m:Nat)(vj:Value)(wr:World):Prop:=
 ∃j ss,vj=.int .i64 (j:Nat)/\j+m=s0.rs.length/\lL E B P sv eQ w0 k i j ss wr/\dQ (Jy (flat eQ) k) [] ((flat (eQ.take i)++[(s0.at_,.state s0.name.data.toList)])++(s0.rs.take j).map eJ.ln) none
theorem H8(h:uP w E)(hk:k<=3):w.cell? ⟨E,k,none⟩=some (.int .i64 (mg k:Nat)):=by
 unfold uP at h
 match k,hk with
 | 0,_=>simp[World.cell?,h,mg]
 | 1,_=>simp[World.cell?,h,mg]
 | 2,_=>simp[World.cell?,h,mg]
 | 3,_=>simp[World.cell?,h,mg]
theorem Ca(hi:eQ[i]?=some s0)(hj:s0.rs[j]?=some r0):flat eQ=((flat (eQ.take i)++[(s0.at_,.state s0.name.data.toList)])++(s0.rs.take j).map eJ.ln)++(r0.at_,r0.ln.2)::((s0.rs.drop (j+1)).map eJ.ln++flat (eQ.drop (i+1))):=by
 have hl:=az hj;rw[kJ hi]
 conv=>lhs;rw[<-List.take_append_drop j s0.rs,List.drop_eq_getElem_cons hl]
 rw[cB hl]at hj;rw[Option.some.inj hj];simp;rfl
theorem E4(hj:s0.rs[j]?=some r0):(flat (eQ.take i)++[(s0.at_,.state s0.name.data.toList)])++(s0.rs.take (j+1)).map eJ.ln=((flat (eQ.take i)++[(s0.at_,.state s0.name.data.toList)])++(s0.rs.take j).map eJ.ln)++[(r0.at_,r0.ln.2)]:=by have hl:=az hj;rw[cB hl]at hj;rw[List.take_succ_eq_append_getElem hl,Option.some.inj hj,List.map_append,<-fP];rfl
theorem lL.drew{sv:Value}{w0:World}(h:lL E B P sv eQ w0 k i j ss w):lL E B P sv eQ w0 k i j ss w.drew:=
 ⟨h.es,h.ia.drew,h.shape,h.below.drew,h.short,λi' j' s r h1 h2 h3=>(h.iB i' j' s r h1 h2 h3).keep (bc _) (λ_ _ _ _ hh=>hh)⟩
theorem Cb{g n cap rg rn lM:Nat}(hG:fY w B P (.slice (some ⟨g,0,none⟩) n cap) ss)(Cc:Shape eQ ss)(hi:eQ[i]?=some s0)(hv:s0.rv=.slice (some ⟨rg,0,none⟩) rn lM)(hj:s0.rs[j]?=some r0):
  w.cell? ⟨P,0,none⟩=some (.slice (some ⟨g,0,none⟩) n cap)/\w.cell? ⟨g,i*3+1,none⟩=some (.slice (some ⟨rg,0,none⟩) rn lM)/\w.cell? ⟨rg,j*6+5,none⟩=some (.int .i64 r0.at_):=by
 obtain ⟨s,hs,nB,MC⟩:=Cc.get hi;obtain ⟨r,hr,od⟩:=Ce MC hj;have hat:r.at_=r0.at_:=congrArg Prod.fst od;obtain ⟨-,a1,-,-⟩:=hG.at hs;rw[nB,hv]at a1;exact ⟨hG.eA.1,a1,by rw[<-hat];exact (hG.fst hs (nB.trans hv) hr).2.2.2.2.1⟩
theorem sS(s:ByteArray)(w:World)(hz:s.size<=maxLen):
  Calls Tryz.prog 34 #[.string s] w (jB s.data.toList w):=by
 unfold maxLen at hz;by_cases hl:2000<s.size
 ·have g1:decide ((2000:Int)<(s.size:Int))=true:=cF (by omega);have aq:=aa (show jB s.data.toList w (.returned (.tuple #[.pointer none,.int .i64 (1:Nat),.int .i64 (0:Nat)])) w from ⟨Below.refl _ _,.inl ⟨1,0,by omega,rfl,.long hl⟩⟩);go_enter Tryz.func34,Tryz.ntmps34;go_wp2_with fail
  exact bodyPost_ret (v:=.tuple #[.pointer none,.int .i64 (1:Nat),.int .i64 (0:Nat)]) (by simp[results,Tryz.results34,go_sem, *]) rfl aq.out
 ·have g1:decide ((2000:Int)<(s.size:Int))=false:=bV (by omega);have hz2:s.size<=2000:=by omega
  have TE:=aa (show fY (w.alloc (.cells #[.slice none 0 0] 117)) w.heap.size w.heap.size (.slice none 0 0) [] from ⟨ag _ _,fW.nil _ _ _ _ _ _,λs hs=>by simp at hs,bc _⟩);have xC:=aa (show Below w.heap.size w (w.alloc (.cells #[.slice none 0 0] 117)) from cq _ _)
  go_enter Tryz.func34,Tryz.ntmps34;go_wp2_with fail;obtain ⟨B,hB⟩:∃B,B=w.heap.size:=⟨_,rfl⟩;rw[<-hB]at TE ⊢;have Jz:=aa hB;clear hB;generalize w.alloc (.cells #[.slice none 0 0] 117)=w1 at *;refine (ML B B s w1 (by rw[Jz.out];exact xC.out.size) TE.out hz2).mono ?_
  rintro e w2 ⟨eE,⟨a,rfl,JA⟩|⟨rfl,acc,sv,ss,JA,UY,YI,BF,zQ⟩⟩
  ·have g2:decide ((0:Int)<=(a:Int))=true:=cF (by omega);have aq:=aa (show jB s.data.toList w (.returned (.tuple #[.pointer none,.int .i64 (2:Nat),.int .i64 a])) w2 from ⟨xC.out.trans (by rw[<-Jz.out];exact eE),.inl ⟨2,a,by omega,rfl,.form hz2 JA⟩⟩);clear TE eE JA;go_wp2_with fail
   exact bodyPost_ret (v:=.tuple #[.pointer none,.int .i64 (2:Nat),.int .i64 a]) (by simp[results,Tryz.results34,go_sem, *]) rfl aq.out
  ·rw[aO]at BF zQ;have cW:=aa (show Below w.heap.size w w2 from xC.out.trans (by rw[<-Jz.out];exact eE));have UZ:=aa UY;have zR:=aa JA;have H9:=aa YI;have Ex:=aa zQ;have EU:=aa (Cf B B sv ss s.size w2 UY (by omega) (λt ht=>by have:=zQ t ht;omega));clear eE UY JA YI zQ TE;go_wp2_with fail;refine EU.out.mono ?_
   rintro e w3 ⟨iC,⟨a,rfl,h3⟩|⟨h3,⟨a,rfl,h4⟩|⟨h4,⟨h0,rfl⟩|⟨h0,rfl⟩⟩⟩⟩
   ·have aq:=aa (show jB s.data.toList w (.returned (.tuple #[.pointer none,.int .i64 (3:Nat),.int .i64 a])) w3 from ⟨cW.out.trans (iC.mono cW.out.size),.inl ⟨3,a,by omega,rfl,.fault hz2 zR.out (by rw[<-H9.out];exact .hit h3) (by omega)⟩⟩);clear iC h3 EU;go_wp2_with fail
    exact bodyPost_ret (v:=.tuple #[.pointer none,.int .i64 (3:Nat),.int .i64 a]) (by simp[results,Tryz.results34,go_sem, *]) rfl aq.out
   ·have aq:=aa (show jB s.data.toList w (.returned (.tuple #[.pointer none,.int .i64 (4:Nat),.int .i64 a])) w3 from ⟨cW.out.trans (iC.mono cW.out.size),.inl ⟨4,a,by omega,rfl,.fault hz2 zR.out (by rw[<-H9.out];exact .skip h3 (.hit h4)) (by omega)⟩⟩);clear iC h3 h4 EU;go_wp2_with fail
    exact bodyPost_ret (v:=.tuple #[.pointer none,.int .i64 (4:Nat),.int .i64 a]) (by simp[results,Tryz.results34,go_sem, *]) rfl aq.out
   ·have aq:=aa (show jB s.data.toList w (.returned (.tuple #[.pointer none,.int .i64 (4:Nat),.int .i64 s.size])) w3 from ⟨cW.out.trans (iC.mono cW.out.size),.inl ⟨4,s.size,by omega,rfl,.none hz2 zR.out (by rw[<-H9.out,h0];rfl)⟩⟩);clear iC h3 h4 h0 EU;go_wp2_with fail
    exact bodyPost_ret (v:=.tuple #[.pointer none,.int .i64 (4:Nat),.int .i64 s.size]) (by simp[results,Tryz.results34,go_sem, *]) rfl aq.out
   ·have fV:=aa (cW.out.trans (iC.mono cW.out.size));have Xy:=aa (UZ.out.below iC);have H3:=aa h3;have H4:=aa h4;clear iC h3 h4 EU UZ cW;have HEA:=aa (show uP (w3.alloc (.cells #[.int .i64 5,.int .i64 1,.int .i64 6,.int .i64 7] 3)) w3.heap.size from ag _ _)
    have MN:=aa (show Below w3.heap.size w3 (w3.alloc (.cells #[.int .i64 5,.int .i64 1,.int .i64 6,.int .i64 7] 3)) from cq _ _);go_wp2_with fail;obtain ⟨E,hE⟩:∃E,E=w3.heap.size:=⟨_,rfl⟩;rw[<-hE]at HEA ⊢;clear hE;generalize w3.alloc (.cells #[.int .i64 5,.int .i64 1,.int .i64 6,.int .i64 7] 3)=w4 at *
    have kB:B<=w4.heap.size:=by rw[Jz.out];exact bJ fV.out.size MN.out.size
    have kC:=aa (show Below B w w4 by rw[Jz.out];exact fV.out.trans (MN.out.mono fV.out.size));have Xz:=aa (show lL E B B sv ss w4 0 0 0 ss w4 from ⟨HEA.out,Xy.out.below MN.out,Shape.refl _,Below.refl _ _,λh=>by omega,λi' j' s r h1 h2 h3=>by omega⟩);clear HEA MN Xy fV;go_loopg [9] 4 (λm vk wx=>TB E B B sv ss w4 m vk wx)
    case atStart=>exact ⟨0,ss,rfl,rfl,Xz.out,λk' h=>by omega⟩
    case round=>
     obtain ⟨k,ssk,rfl,hk,U0,MO⟩:=hrel;have HPV:=aa MO;obtain ⟨km,hkm⟩:∃km,km=gk:=⟨_,rfl⟩;by_cases hk4:k<4
     ·have g4:decide ((k:Int)<4)=true:=cF (by omega);have YJ:=aa U0;clear U0 MO;go_wp2_with fail;go_loopg [10] ss.length (λm vi wx=>TC E B B sv ss w4 k m vi wx)
      case atStart=>exact ⟨0,ssk,rfl,by omega,YJ.out,.nil⟩
      case round=>
       obtain ⟨i,ssi,rfl,hi,U1,xD⟩:=hrel;obtain ⟨im,him⟩:∃im,im=gk:=⟨_,rfl⟩;have c0:=U1.ia.eA.1;obtain ⟨ao,cap,oX,hao⟩:=U1.ia.form;rw[U1.shape.length]at oX hao;rw[oX]at c0;by_cases MP:i<ss.length
       ·have g5:decide ((i:Int)<(ss.length:Int))=true:=cF (by omega);obtain ⟨g,rfl⟩:=hao (by omega);obtain ⟨s0,hs0⟩:∃s0,ss[i]?=some s0:=⟨ss[i],cB MP⟩;have Cg:=aa hs0;have E5:=aa (show dQ (Jy (flat ss) k) [] (flat (ss.take i)++[(s0.at_,.state s0.name.data.toList)]) none from xD.snoc (JB _ _ _ _));have HLi:=aa U1;clear U1 xD hs0
        go_wp2_with fail;go_loopg [11] s0.rs.length (λm vj wx=>TD E B B sv ss w4 k i s0 m vj wx)
        case atStart=>exact ⟨0,ssi,rfl,by omega,HLi.out,by simpa using E5.out⟩
        case round=>
         obtain ⟨j,ssj,rfl,hj,XA,hfj⟩:=hrel;have XB:=aa XA;have XC:=aa hfj;obtain ⟨sj,hsj,YK,YL⟩:=XA.shape.get Cg.out;have hGj:=XA.ia;rw[oX]at hGj;have d0:=hGj.eA.1;obtain ⟨-,d1,-,-⟩:=hGj.at hsj;obtain ⟨ro,lM,nB,hro⟩:=XA.ia.rules (bn hsj);rw[uQ YL]at nB hro;rw[nB]at d1;rw[YK]at nB
         have hE0:=H8 XA.es (show k<=3 by omega);have JC:=Ex.out s0 (bn Cg.out);have HRV:=aa nB;clear XA hfj hsj YK YL hGj nB;by_cases rE:j<s0.rs.length
         ·have g6:decide ((j:Int)<(s0.rs.length:Int))=true:=cF (by omega);obtain ⟨rg,rfl⟩:=hro (by omega);obtain ⟨r0,JD⟩:∃r0,s0.rs[j]?=some r0:=⟨s0.rs[j],cB rE⟩;have E6:=aa JD
          have HWR:=aa (JE E B B sv ss w4 k i j ssj wr.drew XB.out.drew (by omega) (show B<=wr.heap.size from bJ kB XB.out.below.size) (by omega) Cg.out JD HRV.out);have HCE:=aa (λ(w5:World) (JF:List cH) (hG:fY w5 B B sv JF) (Cc:Shape ss JF)=>Cb (oX▸hG) Cc Cg.out HRV.out JD);have uL:(i:Int)<(ss.length:Int):=by omega
          have hj0:(j:Int)<(s0.rs.length:Int):=by omega
          have xE:(k:Int)<4:=by omega
          clear JD;go_wp2_with fail
          go_region_held3 (λw'=>w'.cell? ⟨B,0,none⟩=some (.slice (some ⟨g,0,none⟩) ss.length cap)/\w'.cell? ⟨g,i*3+1,none⟩=some (.slice (some ⟨rg,0,none⟩) s0.rs.length lM)/\w'.cell? ⟨E,k,none⟩=some (.int .i64 (mg k:Nat)))
           (first
            | exact BG
            | go_keep)
           (first
            | (go_at_call 62;refine HWR.out.mono ?_;rintro e w5 ⟨b,JF,rfl,hb,hes,Q9,Cc,Ra,hnx⟩;obtain ⟨x1,x2,x3⟩:=HCE.out w5 JF Q9 Cc;have x4:=H8 hes (show k<=3 by omega);have BG:=And.intro x1 (And.intro x2 x4);have Ch:=aa hb;have U2:=aa Ra;have fk:=aa hnx;clear hb hes Q9 Cc Ra hnx))
          cases b with
          | true=>
           have aq:=aa (λn=>show jB s.data.toList w (.returned (.tuple #[.pointer none,.int .i64 (mg k:Nat),.int .i64 r0.at_])) (w5.drewN n) from ⟨Below.drewN' (by rw[<-Jz.out];exact kC.out.trans U2.out) n,.inl ⟨mg k,r0.at_,by match k with|0=>decide|1=>decide|2=>decide|_+3=>exact (by decide:(7:Nat)≠0),rfl,.fault hz2 zR.out (by
            rw[<-H9.out];refine MJ H3.out H4.out (by omega) HPV.out ?_;have:=XC.out.uR (a:=r0.at_) (x:=r0.ln.2) ((s0.rs.drop (j+1)).map eJ.ln++flat (ss.drop (i+1))) ((zS _ _ _ _).2 (Ch.out.1 rfl));rw[<-Ca Cg.out E6.out]at this;exact this) (by match k with|0=>decide|1=>decide|2=>decide|_+3=>exact (by decide:(7:Nat)≠0))⟩⟩)
           clear HWR HCE XC XB Ch U2 fk HLi E5 YJ Xz BG;go_wp2_with fail;go_quiet (fail);go_wp2_with fail;exact bodyPost_ret (v:=.tuple #[.pointer none,.int .i64 (mg k:Nat),.int .i64 r0.at_]) (by simp[results,Tryz.results34,go_sem, *]) rfl (aq.out _)
          | false=>
           have HST:=aa (show TD E B B sv ss w4 k i s0 (gk - 1) (.int .i64 ((j+1:Nat):Int)) w5 from ⟨j+1,JF,rfl,by omega,fk.out rfl,by rw[E4 E6.out];exact XC.out.snoc (λh=>by have:=Ch.out.2 ((zS _ _ _ _).1 h);cases this)⟩);have LX:j+1<=9223372036854775807:=by omega
           clear HWR HCE XC XB Ch U2 fk HLi E5 YJ Xz BG;go_wp2_with fail;go_roundg (gk - 1)
           case measure=>omega
           case rel=>exact HST.out
         ·have g6:decide ((j:Int)<(s0.rs.length:Int))=false:=bV (by omega);have HST:=aa (show TC E B B sv ss w4 k (im - 1) (.int .i64 ((i+1:Nat):Int)) wr from ⟨i+1,ssj,rfl,by omega,XB.out.YM Cg.out (by omega),by have:=XC.out;rw[List.take_of_length_le (l:=s0.rs) (by omega),<-rF Cg.out]at this;exact this⟩);have yv:i+1<=9223372036854775807:=by omega
          clear XC XB HLi E5 YJ Xz;go_wp2_with fail;go_roundg (im - 1)
          case measure=>omega
          case rel=>exact HST.out
       ·have g5:decide ((i:Int)<(ss.length:Int))=false:=bV (by omega);have HFk:=aa (show dQ (Jy (flat ss) k) [] (flat ss) none by rw[List.take_of_length_le (by omega)]at xD;exact xD)
        have HST:=aa (show TB E B B sv ss w4 (km - 1) (.int .i64 ((k+1:Nat):Int)) wr from ⟨k+1,ssi,rfl,by omega,U1.YN (by omega) HFk.out,λk' hk'=>by
         rcases ed k' k with h|h
         ·exact HPV.out k' h
         ·have:k'=k:=by omega
          subst this;exact HFk.out⟩)
        have eY:k+1<=9223372036854775807:=by omega
        clear U1 xD HFk YJ Xz;go_wp2_with fail;go_roundg (km - 1)
        case measure=>omega
        case rel=>exact HST.out
     ·have g4:decide ((k:Int)<4)=false:=bV (by omega);have adp:k=4:=by omega
      have aq:=aa (show jB s.data.toList w (.returned (.tuple #[.pointer (some ⟨B,0,none⟩),.int .i64 0,.int .i64 0])) wr from ⟨by rw[<-Jz.out];exact kC.out.trans U0.below,.inr ⟨B,B,sv,ssk,rfl,by
       rw[U0.shape.flat,H9.out];refine .ok hz2 zR.out ?_ ?_
       ·rw[<-H9.out];exact MK H3.out H4.out (λk' h=>HPV.out k' (by omega))
       ·rw[<-H9.out];intro hf
        cases ss with
        | nil=>exact h0 rfl
        | cons t l=>simp[flat,cH.fU]at hf,by rw[Jz.out];exact bc _,U0.ia,λt ht r hr=>by
       obtain ⟨i',hi'⟩:=List.getElem?_of_mem ht;obtain ⟨j',hj'⟩:=List.getElem?_of_mem hr;exact U0.iB i' j' t r hi' hj' (.inl (by omega))⟩⟩)
      clear U0 MO Xz;go_wp2_with fail;exact bodyPost_ret (v:=.tuple #[.pointer (some ⟨B,0,none⟩),.int .i64 0,.int .i64 0]) (by simp[results,Tryz.results34,go_sem, *]) rfl aq.out
open Go.Maps Go.Shelf
variable {x:LE} {G:List GS} {s:List UInt8} {L:cU}
theorem uS(l:List eJ)(r:cU)(i c:Nat):iv c (l.map eJ.ln++r) i=(if i+1=c then l.map eJ.ln else [])++iv c r i:=by
 induction l with
 | nil=>simp
 | cons a t ih=>
  have e1:(a.ln).2.aN=false:=rfl;have e2:(a.ln).2.aZ=true:=rfl;rw[List.map_cons,List.cons_append,iv,e1,e2,ih];by_cases h:i+1=c
  ·simp[h]
  ·simp[h]
theorem nC(s:cH)(t:List cH):flat (s::t)=(s.at_,Ln.state s.name.data.toList)::(s.rs.map eJ.ln++flat t):=by simp[flat,cH.fU]
theorem JG(ss:List cH)(i:Nat):∀c,i+1<=c->iv c (flat ss) i=[]:=by
 induction ss with
 | nil=>intro c _;rfl
 | cons s t ih=>
  intro c hc;rw[nC,iv,if_pos (by rfl),uS,if_neg (by omega),ih _ (by omega)];rfl
theorem yw:∀(ss:List cH) (c j:Nat) (t:cH),ss[j]?=some t->iv c (flat ss) (c+j)=t.rs.map eJ.ln:=by
 intro ss
 induction ss with
 | nil=>intro c j t h;simp at h
 | cons s l ih=>
  intro c j t h;rw[nC,iv,if_pos (by rfl),uS]
  cases j with
  | zero=>
   simp at h;subst h;rw[if_pos (by omega),JG _ _ _ (by omega),List.append_nil]
  | succ j=>
   rw[if_neg (by omega),List.nil_append,show c+(j+1)=(c+1)+j by omega];exact ih (c+1) j t (by simpa using h)
theorem kK(ss:List cH):bQ (flat ss)=ss.map (·.name.data.toList):=by
 induction ss with
 | nil=>rfl
 | cons s t ih=>
  have e:∀(l:List eJ),bQ (l.map eJ.ln)=[]:=λl=>by
   induction l with
   | nil=>rfl
   | cons a b ih=>rw[List.map_cons];unfold bQ at ih ⊢;rw[List.filterMap_cons];simp[eJ.ln,jM]
  rw[nC,List.map_cons,<-ih];have e2:=e s.rs;unfold bQ at e2 ⊢;rw[List.filterMap_cons,List.filterMap_append,e2];simp[jM]
theorem xF(h:dQ dW [] (flat ss) none){j:Nat}{t t':cH}(nZ:i<j)(hi:ss[i]?=some t)(hj:ss[j]?=some t'):t.name.data.toList≠t'.name.data.toList:=by
 intro he;have hs:ss=ss.take j++t'::ss.drop (j+1):=by have hl:=az hj;rw[<-List.getElem?_eq_some_iff.1 hj |>.2,<-List.drop_eq_getElem_cons hl,List.take_append_drop]
 have hf:flat ss=flat (ss.take j)++(t'.at_,Ln.state t'.name.data.toList)::(t'.rs.map eJ.ln++flat (ss.drop (j+1))):=by
  rw[<-nC]
  conv=>lhs;rw[hs]
  simp[flat]
 have h1:=sT h _ _ _ hf;refine h1 ⟨_,rfl,t.at_,?_⟩;rw[List.nil_append,<-he];refine List.mem_flatMap.2 ⟨t,?_,by simp[cH.fU]⟩;refine bn (i:=i) ?_;rw[List.getElem?_take_of_lt nZ,hi]
theorem MQ(hl:dD s 0 0 L):dQ dW [] L none/\dQ dI [] L none/\L≠[]/\∀y∈L,y.2.nb=true:=by
 cases hl with
 | fault _ _ _ h1=>exact absurd rfl h1
 | ok _ _ hch hne=>
  refine ⟨?_,?_,hne,λy hy=>(List.mem_filter.1 hy).2⟩
  ·unfold tests at hch
   cases hch with
   | skip a1 _=>exact a1
  ·unfold tests at hch
   cases hch with
   | skip _ hch=>cases hch with
    | skip a1 _=>exact a1
theorem MR{a b:ByteArray}(h:a.data.toList=b.data.toList):a=b:=by cases a;cases b;simp at h;simp[h]
theorem Rb(h1:dD s 0 0 L)(h2:dD s 0 0 (flat ss))(hg:YO L G):yu G ss/\(ss.length<=12/\∀t∈ss,t.rs.length<=40)/\0<ss.length:=by
 obtain ⟨-,-,rfl⟩:=h1.dz h2;obtain ⟨c1,c2,c3,c4⟩:=MQ h2;have hn:=hg.names;rw[kK]at hn;have hlen:G.length=ss.length:=by have:=congrArg List.length hn;simpa using this.symm
 obtain ⟨f1,f2⟩:=MS c4 c2;rw[<-mh,kK,fy]at f1;have gF:∀(i:Nat) (s:GS) (t:cH),G[i]?=some s->ss[i]?=some t->s.nm.data.toList=t.name.data.toList:=λi s t hs ht=>by have:=congrArg (·[i]?) hn;simp only[fX,hs,ht,Option.map_some,fA]at this;exact this.symm
 refine ⟨⟨hlen,λi s t hs ht=>?_⟩,⟨f1,λt ht=>?_⟩,?_⟩
 ·obtain ⟨r1,r2⟩:=hg.rules i s hs;have Ci:=yw ss 0 i t ht;rw[Nat.zero_add]at Ci;rw[Ci]at r1 r2;refine ⟨MR (gF i s t hs ht),by simpa using r1,λk r q hr hq=>?_⟩;obtain ⟨d,o,c,p,e1,e2,e3,e4,e5,e6,e7⟩:=r2 k q.ln r (by rw[fX,hq];rfl) hr;have e1':Ln.rule q.d q.b.data.toList q.c.data.toList q.p.data.toList=.rule d o c p:=e1;cases e1'
  refine ⟨e6,e2,MR e4,λhd=>?_⟩;have h5:=e5 hd;rw[kK,fX]at h5
  cases jo:ss[r.op]? with
  | none=>rw[jo]at h5;cases h5
  | some t'=>
   rw[jo]at h5;simp only[Option.map_some,fA]at h5;refine ⟨t',rfl,h5,λj t'' hj YP e=>?_⟩;exact xF c1 hj YP jo (by rw[e,h5])
 ·obtain ⟨i,hi⟩:=List.getElem?_of_mem ht;have h3:=uT (flat ss) i 0;have Ci:=yw ss 0 i t hi;rw[Nat.zero_add]at Ci;rw[Ci,fy]at h3;omega
 ·cases ss with
  | nil=>exact absurd rfl c3
  | cons _ _=>simp
theorem LE.length(h:x.st.length<=8):x.cells.length=10:=by unfold LE.cells;rw[dG,dA h];rfl
theorem cL.cells{w:World}{B:Nat}{ao:Option Addr}{cp:Nat}{ls:List LE}(h:cL w B (.slice ao ls.length cp) ls)(hx:ls[i]?=some x):∃lg,ao=some ⟨lg,0,none⟩/\lg<w.heap.size/\∀(y:Nat) c,x.cells[y]?=some c->w.cell? ⟨lg,i*10+y,none⟩=some c:=by
 obtain ⟨lg,c,hv⟩:=aB h.row (by have:=az hx;omega);cases hv;obtain ⟨_,cur,iu⟩:=ar h.row (k:=lg) rfl;refine ⟨lg,rfl,ae iu,λy c hy=>(bG h.row ?_).1⟩;have YB:y<10:=by have:=az hy;rw[LE.length (h.each x (bn hx)).1]at this;exact this
 rw[List.flatMap_def,kH (si:=10) (by intro r hr;obtain ⟨z,hz,rfl⟩:=List.mem_map.1 hr;exact LE.length (h.each z hz).1) (r:=x.cells) (by rw[fX,hx];rfl) y YB];exact hy
theorem dZ.short(eM:yq G){st:List Nat}{ls:List (List UInt8)}{out:List (List Nat×List Sp)}{st':List Nat}(h:dZ G st ls out st')(hl:∀l∈ls,l.length<=3000):∀y∈out,y.2.length<=7000:=by
 induction h with
 | nil=>intro y hy;simp at hy
 | cons h1 _ ih=>
  intro y hy;rcases List.mem_cons.1 hy with rfl|hy
  ·have hle:=hl _ List.mem_cons_self;rcases h1 with h1|⟨a,pre,top,s,h2,h3,_,_,_,rfl⟩
   ·exact bJ (h1.short eM) (by omega)
   ·have:=h2.short eM;show (pre++[_]).length<=7000;rw[dG,List.length_singleton];omega
  ·exact ih (λl hl'=>hl l (List.mem_cons_of_mem _ hl')) y hy
section
variable {w:World} {B bX bS g n cap:Nat} {text:ByteArray} {lv:Value} {ls:List LE} {work:Nat}
theorem uU(i:Nat)(x:LE)(h:bZ w B bS g n cap text lv ls work)(hx:ls[i]?=some x):
  Calls Tryz.prog 53 #[.pointer (some ⟨bS,0,none⟩),.int .i64 i] w λe w'=>e=.returned (.func (.func 107) #[] #[.pointer (some ⟨w.heap.size,0,none⟩)])/\w'=w.alloc (.cells #[x.sv] 64):=by
 have oa:=h.fU;obtain ⟨ao,cp,hv⟩:=aC oa.row;subst hv;obtain ⟨lg,hao,_,hc⟩:=oa.cells hx;subst hao;have h8:=(oa.each x (bn hx)).1;have c9:=hc 9 x.sv (by unfold LE.cells;rw[pS (by rw[dA h8];omega),dA h8];rfl);have c2:w.cell? ⟨bS,2,none⟩=some (.slice (some ⟨lg,0,none⟩) ls.length cp):=ai h.sh rfl
 have hi:=az hx;obtain ⟨LY,fL,oX⟩:=aC (oa.each x (bn hx)).2;rw[oX]at c9;have HV:=aa (Jp x.sv ⟨_,_,_,oX⟩ w);rw[oX]at HV ⊢;clear oa hc h hx;go_enter Tryz.func53,Tryz.ntmps53;go_wp2_with fail;refine HV.out.mono ?_;rintro e w1 ⟨rfl,JH⟩;have HW:=aa JH;clear JH HV;go_wp2_with fail;go_ret
 exact ⟨rfl,HW.out⟩
def Cj(ls:List LE)(i:Int)(w:World)(e:Ending)(w':World):Prop:=
 Below w.heap.size w w'/\((¬(0<=i/\i<ls.length)/\e=.returned (.tuple #[.slice none 0 0,.int .i64 8]))∨∃(k:Nat) (x:LE) (v:Value),i=k/\ls[k]?=some x/\e=.returned (.tuple #[v,.int .i64 0])/\ck w' w.heap.size v x.bh)
theorem E7(i:Int)(tT:∀x∈ls,x.bh.length<=7000)(h:bZ w B bS g n cap text lv ls work)(hx:w.heap[bX]?=some (.cells #[.pointer (some ⟨bS,0,none⟩)] 46 (0,0))):
  Calls Tryz.prog 24 #[.pointer (some ⟨bX,0,none⟩),.int .i64 i] w (Cj ls i w):=by
 have c0:=aA hx;have HF:=aa (oA i h hx);by_cases kA:0<=i/\i<ls.length
 ·rw[if_pos kA]at HF;obtain ⟨k,rfl⟩:∃k:Nat,i=k:=⟨i.toNat,by omega⟩;obtain ⟨x,Ia⟩:∃x,ls[k]?=some x:=⟨_,cB (by omega)⟩;have HS:=aa (uU k x h Ia);have hrow:=(h.fU.each x (bn Ia)).2
  have HC:=aa (B8 B w.heap.size x.sv x.bh (w.alloc (.cells #[x.sv] 64)) (tT x (bn Ia)) (ag _ _) (aI hrow λk hk=>(cq _ _).block k (by obtain ⟨_,c,hc⟩:=ar hrow hk;exact ae hc)));have HX:=aa Ia;clear h hx hrow Ia kA
  go_enter Tryz.func24,Tryz.ntmps24;go_wp2_with fail;refine HF.out.mono ?_;rintro e1 w1 ⟨rfl,h1⟩;subst h1;go_wp2_with fail;refine HS.out.mono ?_;rintro e2 w2 ⟨rfl,h2⟩;rw[<-h2]at HC;have hb2:Below w1.heap.size w1 w2:=by rw[h2];exact cq _ _
  clear h2;go_wp2_with fail;refine HC.out.mono ?_;rintro e3 w3 ⟨v,rfl,h3,hb3⟩;obtain ⟨xz,vc,hv⟩:=aC h3;subst hv;have aq:=aa (show Cj ls (k:Int) w1 (.returned (.tuple #[.slice xz x.bh.length vc,.int .i64 0])) w3 from ⟨hb2.trans (hb3.mono hb2.size),.inr ⟨k,x,_,rfl,HX.out,rfl,dB h3 hb2.size⟩⟩);clear h3 hb3 hb2 HC;go_wp2_with fail;go_ret2;exact aq.out
 ·rw[if_neg kA]at HF;clear h hx;have HI:=aa kA;clear kA;go_enter Tryz.func24,Tryz.ntmps24;go_wp2_with fail;refine HF.out.mono ?_;rintro e1 w1 ⟨rfl,h1⟩;subst h1;go_wp2_with fail;go_ret2;exact ⟨Below.refl _ _,.inl ⟨HI.out,rfl⟩⟩
theorem uV(i:Nat)(x:LE)(G:List GS)(h:bZ w B bS g n cap text lv ls work)(hx:ls[i]?=some x)(cE:Good G x.st)(hG:cd w g n cap G):
  Calls Tryz.prog 54 #[.pointer (some ⟨bS,0,none⟩),.int .i64 i] w (nA (fC G x.st) w):=by
 have oa:=h.fU;obtain ⟨ao,cp,hv⟩:=aC oa.row;subst hv;obtain ⟨lg,hao,_,hc⟩:=oa.cells hx;subst hao;obtain ⟨a0,a1,a2,a3,a4,a5,a6,a7,a8,hst⟩:=nine cE.1.2;have hcc:∀(y:Nat) c,(aL x.st)[y]?=some c->w.cell? ⟨lg,i*10+y,none⟩=some c:=λy c hy=>hc y c (by unfold LE.cells;rw[nz (az hy)];exact hy)
 rw[hst]at hcc;have d0:=hcc 0 _ rfl;have d1:=hcc 1 _ rfl;have d2:=hcc 2 _ rfl;have d3:=hcc 3 _ rfl;have d4:=hcc 4 _ rfl;have d5:=hcc 5 _ rfl;have d6:=hcc 6 _ rfl;have d7:=hcc 7 _ rfl;have d8:=hcc 8 _ rfl;rw[Nat.add_zero]at d0;have c0:w.cell? ⟨bS,0,none⟩=some (.slice (some ⟨g,0,none⟩) n cap):=ai h.sh rfl
 have c2:w.cell? ⟨bS,2,none⟩=some (.slice (some ⟨lg,0,none⟩) ls.length cp):=ai h.sh rfl;have hi:=az hx;have HN:=aa (Jt g n cap G x.st cE w.drew (hG.below (Below.refl _ _).drew));unfold lV at HN;rw[hst]at HN
 have xG:=aa (λ(w':World) (hb:Below w.drew.heap.size w.drew w')=>show w'.cell? ⟨bS,0,none⟩=some (.slice (some ⟨g,0,none⟩) n cap)/\w'.cell? ⟨bS,2,none⟩=some (.slice (some ⟨lg,0,none⟩) ls.length cp)/\w'.cell? ⟨lg,i*10,none⟩=some (.int .i64 a0)/\w'.cell? ⟨lg,i*10+1,none⟩=some (.int .i64 a1)/\w'.cell? ⟨lg,i*10+2,none⟩=some (.int .i64 a2)/\w'.cell? ⟨lg,i*10+3,none⟩=some (.int .i64 a3)/\w'.cell? ⟨lg,i*10+4,none⟩=some (.int .i64 a4)/\w'.cell? ⟨lg,i*10+5,none⟩=some (.int .i64 a5)/\w'.cell? ⟨lg,i*10+6,none⟩=some (.int .i64 a6)/\w'.cell? ⟨lg,i*10+7,none⟩=some (.int .i64 a7)/\w'.cell? ⟨lg,i*10+8,none⟩=some (.int .i64 a8) from
  have hb':Below w.heap.size w w':=⟨hb.os,hb.tape,hb.output,hb.size,hb.block⟩
  ⟨ax c0 hb',ax c2 hb',ax d0 hb',ax d1 hb',ax d2 hb',ax d3 hb',ax d4 hb',ax d5 hb',ax d6 hb',ax d7 hb',ax d8 hb'⟩)
 clear oa hc hcc h hx hst;go_enter Tryz.func54,Tryz.ntmps54;go_wp2_with fail
 go_region_held3 (λw'=>w'.cell? ⟨bS,0,none⟩=some (.slice (some ⟨g,0,none⟩) n cap)/\w'.cell? ⟨bS,2,none⟩=some (.slice (some ⟨lg,0,none⟩) ls.length cp)/\w'.cell? ⟨lg,i*10,none⟩=some (.int .i64 a0)/\w'.cell? ⟨lg,i*10+1,none⟩=some (.int .i64 a1)/\w'.cell? ⟨lg,i*10+2,none⟩=some (.int .i64 a2)/\w'.cell? ⟨lg,i*10+3,none⟩=some (.int .i64 a3)/\w'.cell? ⟨lg,i*10+4,none⟩=some (.int .i64 a4)/\w'.cell? ⟨lg,i*10+5,none⟩=some (.int .i64 a5)/\w'.cell? ⟨lg,i*10+6,none⟩=some (.int .i64 a6)/\w'.cell? ⟨lg,i*10+7,none⟩=some (.int .i64 a7)/\w'.cell? ⟨lg,i*10+8,none⟩=some (.int .i64 a8))
  (first
   | with_reducible exact hS1
   | go_keep)
  (first
   | (go_at_call 80;refine HN.out.mono ?_;clear HN;rintro e w1 ⟨v,rfl,h1,h2⟩;have hS1:=xG.out w1 h2;have HE:=aa (show nA (fC G x.st) w (.returned v) w1 from ⟨v,rfl,h1,⟨h2.os,h2.tape,h2.output,h2.size,h2.block⟩⟩);obtain ⟨xz,vc,hv⟩:=aC h1;subst hv;clear h1 h2))
 all_goals
  clear hS1;go_wp2_with fail;go_ret;exact HE.out
def yx(G:List GS)(ls:List LE)(i:Int)(w:World)(e:Ending)(w':World):Prop:=
 Below w.heap.size w w'/\((¬(0<=i/\i<ls.length)/\e=.returned (.tuple #[.slice none 0 0,.int .i64 8]))∨∃(k:Nat) (x:LE) (v:Value),i=k/\ls[k]?=some x/\e=.returned (.tuple #[v,.int .i64 0])/\jW w' w.heap.size v (fC G x.st))
theorem Ck(i:Int)(G:List GS)(cE:∀x∈ls,Good G x.st)(hG:cd w g n cap G)(h:bZ w B bS g n cap text lv ls work)(hx:w.heap[bX]?=some (.cells #[.pointer (some ⟨bS,0,none⟩)] 46 (0,0))):
  Calls Tryz.prog 25 #[.pointer (some ⟨bX,0,none⟩),.int .i64 i] w (yx G ls i w):=by
 have c0:=aA hx;have HF:=aa (oA i h hx);by_cases kA:0<=i/\i<ls.length
 ·rw[if_pos kA]at HF;obtain ⟨k,rfl⟩:∃k:Nat,i=k:=⟨i.toNat,by omega⟩;obtain ⟨x,Ia⟩:∃x,ls[k]?=some x:=⟨_,cB (by omega)⟩;have HS:=aa (uV k x G h Ia (cE x (bn Ia)) hG);have HX:=aa Ia;clear h hx Ia kA cE hG;go_enter Tryz.func25,Tryz.ntmps25;go_wp2_with fail;refine HF.out.mono ?_
  rintro e1 w1 ⟨rfl,h1⟩;subst h1;go_wp2_with fail;refine HS.out.mono ?_;rintro e3 w3 ⟨v,rfl,h3,hb3⟩;obtain ⟨xz,vc,hv⟩:=aC h3;subst hv;have aq:=aa (show yx G ls (k:Int) w1 (.returned (.tuple #[.slice xz (fC G x.st).length vc,.int .i64 0])) w3 from ⟨hb3,.inr ⟨k,x,_,rfl,HX.out,rfl,h3⟩⟩);clear h3 hb3;go_wp2_with fail;go_ret2;exact aq.out
 ·rw[if_neg kA]at HF;clear h hx;have HI:=aa kA;clear kA;go_enter Tryz.func25,Tryz.ntmps25;go_wp2_with fail;refine HF.out.mono ?_;rintro e1 w1 ⟨rfl,h1⟩;subst h1;go_wp2_with fail;go_ret2;exact ⟨Below.refl _ _,.inl ⟨HI.out,rfl⟩⟩
end
end Go.Proofs.YtgncgdkpkkdaeaaGreatDoor
