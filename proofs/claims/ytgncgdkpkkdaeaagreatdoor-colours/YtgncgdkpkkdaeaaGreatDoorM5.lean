import Derived.Test.YtgncgdkpkkdaeaaGreatDoorML
import Derived.Test.YtgncgdkpkkdaeaaGreatDoorMN6
import Derived.Deep.RegionHeld3
import Derived.Test.YtgncgdkpkkdaeaaGreatDoorMVG
import Derived.Test.YtgncgdkpkkdaeaaGreatDoorM4
import Derived.Test.YtgncgdkpkkdaeaaGreatDoorM3
namespace Go.Proofs.YtgncgdkpkkdaeaaGreatDoor
open Go.RowKit aQ
variable {ss ei:List bZ} {fs:cK} {B E P i j k:Nat} {r0:dW} {s0:bZ} {w:World}
theorem KA(h3:dF dG [] fs none)(h4:dF dt [] fs none){a:Nat}(hk:k<=3)(hp:∀k',k'<k->dF (GM fs k') [] fs none)(hit:dF (GM fs k) [] fs (some a)):eI fs (tests fs) (kH k) a:=by
 match k,hk with
 | 0,_=>exact .skip h3 (.skip h4 (.hit hit))
 | 1,_=>exact .skip h3 (.skip h4 (.skip (hp 0 (by omega)) (.hit hit)))
 | 2,_=>exact .skip h3 (.skip h4 (.skip (hp 0 (by omega)) (.skip (hp 1 (by omega)) (.hit hit))))
 | 3,_=>exact .skip h3 (.skip h4 (.skip (hp 0 (by omega)) (.skip (hp 1 (by omega)) (.skip (hp 2 (by omega)) (.hit hit)))))
theorem KB(h3:dF dG [] fs none)(h4:dF dt [] fs none)(hp:∀k',k'<4->dF (GM fs k') [] fs none):eI fs (tests fs) 0 0:=
 .skip h3 (.skip h4 (.skip (hp 0 (by omega)) (.skip (hp 1 (by omega)) (.skip (hp 2 (by omega)) (.skip (hp 3 (by omega)) .nil)))))
def iJ(s:List UInt8)(w:World)(e:Ending)(w':World):Prop:=
 Below w.heap.size w w'/\((∃ec a:Nat,ec≠0/\e=.returned (.tuple #[.pointer none,.int .i64 ec,.int .i64 a])/\dM s ec a []) ∨
  (∃P B sv ss,e=.returned (.tuple #[.pointer (some ⟨P,0,none⟩),.int .i64 0,.int .i64 0])/\dM s 0 0 (flat ss)/\w.heap.size<=B/\fe w' B P sv ss/\∀t∈ss,∀r∈t.rs,ed w' r))
def QV(E B P:Nat)(sv:Value)(ei:List bZ)(w0:World)(m:Nat)(vk:Value)(wr:World):Prop:=
 ∃k ss,vk=.int .i64 (k:Nat)/\k+m=4/\kp E B P sv ei w0 k 0 0 ss wr/\∀k',k'<k->dF (GM (flat ei) k') [] (flat ei) none
def QW(E B P:Nat)(sv:Value)(ei:List bZ)(w0:World)(k m:Nat)(vi:Value)(wr:World):Prop:=
 ∃i ss,vi=.int .i64 (i:Nat)/\i+m=ei.length/\kp E B P sv ei w0 k i 0 ss wr/\dF (GM (flat ei) k) [] (flat (ei.take i)) none
def QX(E B P:Nat)(sv:Value)(ei:List bZ)(w0:World)(k i:Nat)(s0:bZ)(m:Nat)(vj:Value)(wr:World):Prop:=
 ∃j ss,vj=.int .i64 (j:Nat)/\j+m=s0.rs.length/\kp E B P sv ei w0 k i j ss wr/\dF (GM (flat ei) k) [] ((flat (ei.take i)++[(s0.at_,.state s0.name.data.toList)])++(s0.rs.take j).map dW.ln) none
theorem Fi(h:sM w E)(hk:k<=3):w.cell? ⟨E,k,none⟩=some (.int .i64 (kH k:Nat)):=by
 unfold sM at h
 match k,hk with
 | 0,_=>simp[World.cell?,h,kH]
 | 1,_=>simp[World.cell?,h,kH]
 | 2,_=>simp[World.cell?,h,kH]
 | 3,_=>simp[World.cell?,h,kH]
theorem zT(hi:ei[i]?=some s0)(hj:s0.rs[j]?=some r0):flat ei=((flat (ei.take i)++[(s0.at_,.state s0.name.data.toList)])++(s0.rs.take j).map dW.ln)++(r0.at_,r0.ln.2)::((s0.rs.drop (j+1)).map dW.ln++flat (ei.drop (i+1))):=by
 have hl:=au hj;rw[jI hi]
 conv=>lhs;rw[<-List.take_append_drop j s0.rs,List.drop_eq_getElem_cons hl]
 rw[List.getElem?_eq_getElem hl]at hj;rw[Option.some.inj hj];simp;rfl
theorem C9(hj:s0.rs[j]?=some r0):(flat (ei.take i)++[(s0.at_,.state s0.name.data.toList)])++(s0.rs.take (j+1)).map dW.ln=((flat (ei.take i)++[(s0.at_,.state s0.name.data.toList)])++(s0.rs.take j).map dW.ln)++[(r0.at_,r0.ln.2)]:=by have hl:=au hj;rw[List.getElem?_eq_getElem hl]at hj;rw[List.take_succ_eq_append_getElem hl,Option.some.inj hj,List.map_append,<-List.append_assoc];rfl
theorem kp.drew{sv:Value}{w0:World}(h:kp E B P sv ei w0 k i j ss w):kp E B P sv ei w0 k i j ss w.drew:=
 ⟨h.es,h.gy.drew,h.shape,h.below.drew,h.short,λi' j' s r h1 h2 h3=>(h.gY i' j' s r h1 h2 h3).keep (Nat.le_refl _) (λ_ _ _ _ hh=>hh)⟩
theorem zU{g n cap rg rn kq:Nat}(hG:fe w B P (.slice (some ⟨g,0,none⟩) n cap) ss)(u6:Shape ei ss)(hi:ei[i]?=some s0)(hv:s0.rv=.slice (some ⟨rg,0,none⟩) rn kq)(hj:s0.rs[j]?=some r0):
  w.cell? ⟨P,0,none⟩=some (.slice (some ⟨g,0,none⟩) n cap)/\w.cell? ⟨g,i*3+1,none⟩=some (.slice (some ⟨rg,0,none⟩) rn kq)/\w.cell? ⟨rg,j*6+5,none⟩=some (.int .i64 r0.at_):=by
 obtain ⟨s,hs,lS,Kr⟩:=u6.get hi;obtain ⟨r,hr,ot⟩:=zV Kr hj;have hat:r.at_=r0.at_:=congrArg Prod.fst ot;obtain ⟨-,a1,-,-⟩:=hG.at hs;rw[lS,hv]at a1;exact ⟨hG.dR.1,a1,by rw[<-hat];exact (hG.fst hs (lS.trans hv) hr).2.2.2.2.1⟩
set_option maxRecDepth 20000 in
set_option maxHeartbeats 4000000 in
theorem qC(s:ByteArray)(w:World)(hz:s.size<=maxLen):
  Calls Tryz.prog 34 #[.string s] w (iJ s.data.toList w):=by
 unfold maxLen at hz;by_cases hl:2000<s.size
 ·have g1:decide ((2000:Int)<(s.size:Int))=true:=decide_eq_true (by omega);have ai:=aa (show iJ s.data.toList w (.returned (.tuple #[.pointer none,.int .i64 (1:Nat),.int .i64 (0:Nat)])) w from ⟨Below.refl _ _,.inl ⟨1,0,by omega,rfl,.long hl⟩⟩);go_enter Tryz.func34,Tryz.ntmps34;go_wp2_with fail
  exact bodyPost_ret (v:=.tuple #[.pointer none,.int .i64 (1:Nat),.int .i64 (0:Nat)]) (by simp[results,Tryz.results34,go_sem, *]) rfl ai.out
 ·have g1:decide ((2000:Int)<(s.size:Int))=false:=decide_eq_false (by omega);have hz2:s.size<=2000:=by omega
  have QY:=aa (show fe (w.alloc (.cells #[.slice none 0 0] 117)) w.heap.size w.heap.size (.slice none 0 0) [] from ⟨af _ _,eZ.nil _ _ _ _ _ _,λs hs=>by simp at hs,Nat.le_refl _⟩);have u7:=aa (show Below w.heap.size w (w.alloc (.cells #[.slice none 0 0] 117)) from (Below.refl _ _).alloc (Nat.le_refl _) _)
  go_enter Tryz.func34,Tryz.ntmps34;go_wp2_with fail;obtain ⟨B,hB⟩:∃B,B=w.heap.size:=⟨_,rfl⟩;rw[<-hB]at QY ⊢;have GN:=aa hB;clear hB;generalize w.alloc (.cells #[.slice none 0 0] 117)=w1 at *;refine (KC B B s w1 (by rw[GN.out];exact u7.out.size) QY.out hz2).mono ?_
  rintro e w2 ⟨fc,⟨a,rfl,GP⟩|⟨rfl,acc,sv,ss,GP,Sn,VZ,zr,xQ⟩⟩
  ·have g2:decide ((0:Int)<=(a:Int))=true:=decide_eq_true (by omega);have ai:=aa (show iJ s.data.toList w (.returned (.tuple #[.pointer none,.int .i64 (2:Nat),.int .i64 a])) w2 from ⟨u7.out.trans (by rw[<-GN.out];exact fc),.inl ⟨2,a,by omega,rfl,.form hz2 GP⟩⟩);clear QY fc GP;go_wp2_with fail
   exact bodyPost_ret (v:=.tuple #[.pointer none,.int .i64 (2:Nat),.int .i64 a]) (by simp[results,Tryz.results34,go_sem, *]) rfl ai.out
  ·rw[aK]at zr xQ;have cM:=aa (show Below w.heap.size w w2 from u7.out.trans (by rw[<-GN.out];exact fc));have Sq:=aa Sn;have xR:=aa GP;have Fj:=aa VZ;have CB:=aa xQ;have C0:=aa (zW B B sv ss s.size w2 Sn (by omega) (λt ht=>by have:=xQ t ht;omega));clear fc Sn GP VZ xQ QY;go_wp2_with fail;refine C0.out.mono ?_
   rintro e w3 ⟨gG,⟨a,rfl,h3⟩|⟨h3,⟨a,rfl,h4⟩|⟨h4,⟨h0,rfl⟩|⟨h0,rfl⟩⟩⟩⟩
   ·have ai:=aa (show iJ s.data.toList w (.returned (.tuple #[.pointer none,.int .i64 (3:Nat),.int .i64 a])) w3 from ⟨cM.out.trans (gG.mono cM.out.size),.inl ⟨3,a,by omega,rfl,.fault hz2 xR.out (by rw[<-Fj.out];exact .hit h3) (by omega)⟩⟩);clear gG h3 C0;go_wp2_with fail
    exact bodyPost_ret (v:=.tuple #[.pointer none,.int .i64 (3:Nat),.int .i64 a]) (by simp[results,Tryz.results34,go_sem, *]) rfl ai.out
   ·have ai:=aa (show iJ s.data.toList w (.returned (.tuple #[.pointer none,.int .i64 (4:Nat),.int .i64 a])) w3 from ⟨cM.out.trans (gG.mono cM.out.size),.inl ⟨4,a,by omega,rfl,.fault hz2 xR.out (by rw[<-Fj.out];exact .skip h3 (.hit h4)) (by omega)⟩⟩);clear gG h3 h4 C0;go_wp2_with fail
    exact bodyPost_ret (v:=.tuple #[.pointer none,.int .i64 (4:Nat),.int .i64 a]) (by simp[results,Tryz.results34,go_sem, *]) rfl ai.out
   ·have ai:=aa (show iJ s.data.toList w (.returned (.tuple #[.pointer none,.int .i64 (4:Nat),.int .i64 s.size])) w3 from ⟨cM.out.trans (gG.mono cM.out.size),.inl ⟨4,s.size,by omega,rfl,.none hz2 xR.out (by rw[<-Fj.out,h0];rfl)⟩⟩);clear gG h3 h4 h0 C0;go_wp2_with fail
    exact bodyPost_ret (v:=.tuple #[.pointer none,.int .i64 (4:Nat),.int .i64 s.size]) (by simp[results,Tryz.results34,go_sem, *]) rfl ai.out
   ·have eY:=aa (cM.out.trans (gG.mono cM.out.size));have UQ:=aa (Sq.out.below gG);have H3:=aa h3;have H4:=aa h4;clear gG h3 h4 C0 Sq cM;have HEA:=aa (show sM (w3.alloc (.cells #[.int .i64 5,.int .i64 1,.int .i64 6,.int .i64 7] 3)) w3.heap.size from af _ _)
    have KD:=aa (show Below w3.heap.size w3 (w3.alloc (.cells #[.int .i64 5,.int .i64 1,.int .i64 6,.int .i64 7] 3)) from (Below.refl _ _).alloc (Nat.le_refl _) _);go_wp2_with fail;obtain ⟨E,hE⟩:∃E,E=w3.heap.size:=⟨_,rfl⟩;rw[<-hE]at HEA ⊢;clear hE;generalize w3.alloc (.cells #[.int .i64 5,.int .i64 1,.int .i64 6,.int .i64 7] 3)=w4 at *
    have jB:B<=w4.heap.size:=by rw[GN.out];exact Nat.le_trans eY.out.size KD.out.size
    have jC:=aa (show Below B w w4 by rw[GN.out];exact eY.out.trans (KD.out.mono eY.out.size));have UR:=aa (show kp E B B sv ss w4 0 0 0 ss w4 from ⟨HEA.out,UQ.out.below KD.out,Shape.refl _,Below.refl _ _,λh=>by omega,λi' j' s r h1 h2 h3=>by omega⟩);clear HEA KD UQ eY;go_loopg [9] 4 (λm vk wx=>QV E B B sv ss w4 m vk wx)
    case atStart=>exact ⟨0,ss,rfl,rfl,UR.out,λk' h=>by omega⟩
    case round=>
     obtain ⟨k,ssk,rfl,hk,Sr,KE⟩:=hrel;have HPV:=aa KE;obtain ⟨km,hkm⟩:∃km,km=gk:=⟨_,rfl⟩;by_cases hk4:k<4
     ·have g4:decide ((k:Int)<4)=true:=decide_eq_true (by omega);have V0:=aa Sr;clear Sr KE;go_wp2_with fail;go_loopg [10] ss.length (λm vi wx=>QW E B B sv ss w4 k m vi wx)
      case atStart=>exact ⟨0,ssk,rfl,by omega,V0.out,.nil⟩
      case round=>
       obtain ⟨i,ssi,rfl,hi,Ss,u9⟩:=hrel;obtain ⟨im,him⟩:∃im,im=gk:=⟨_,rfl⟩;have c0:=Ss.gy.dR.1;obtain ⟨ao,cap,rB,hao⟩:=Ss.gy.form;rw[Ss.shape.length]at rB hao;rw[rB]at c0;by_cases KF:i<ss.length
       ·have g5:decide ((i:Int)<(ss.length:Int))=true:=decide_eq_true (by omega);obtain ⟨g,rfl⟩:=hao (by omega);obtain ⟨s0,hs0⟩:∃s0,ss[i]?=some s0:=⟨ss[i],List.getElem?_eq_getElem KF⟩;have zX:=aa hs0;have Da:=aa (show dF (GM (flat ss) k) [] (flat (ss.take i)++[(s0.at_,.state s0.name.data.toList)]) none from u9.snoc (GQ _ _ _ _));have ZG:=aa Ss;clear Ss u9 hs0
        go_wp2_with fail;go_loopg [11] s0.rs.length (λm vj wx=>QX E B B sv ss w4 k i s0 m vj wx)
        case atStart=>exact ⟨0,ssi,rfl,by omega,ZG.out,by simpa using Da.out⟩
        case round=>
         obtain ⟨j,ssj,rfl,hj,UT,hfj⟩:=hrel;have UU:=aa UT;have UW:=aa hfj;obtain ⟨sj,hsj,V1,V3⟩:=UT.shape.get zX.out;have ZH:=UT.gy;rw[rB]at ZH;have d0:=ZH.dR.1;obtain ⟨-,d1,-,-⟩:=ZH.at hsj;obtain ⟨ro,kq,lS,hro⟩:=UT.gy.rules (List.mem_of_getElem? hsj);rw[sN V3]at lS hro;rw[lS]at d1;rw[V1]at lS
         have hE0:=Fi UT.es (show k<=3 by omega);have GU:=CB.out s0 (List.mem_of_getElem? zX.out);have ZI:=aa lS;clear UT hfj hsj V1 V3 ZH lS;by_cases pP:j<s0.rs.length
         ·have g6:decide ((j:Int)<(s0.rs.length:Int))=true:=decide_eq_true (by omega);obtain ⟨rg,rfl⟩:=hro (by omega);obtain ⟨r0,KG⟩:∃r0,s0.rs[j]?=some r0:=⟨s0.rs[j],List.getElem?_eq_getElem pP⟩;have Db:=aa KG
          have HWR:=aa (GV E B B sv ss w4 k i j ssj wr.drew UU.out.drew (by omega) (show B<=wr.heap.size from Nat.le_trans jB UU.out.below.size) (by omega) zX.out KG ZI.out);have HCE:=aa (λ(w5:World) (GW:List bZ) (hG:fe w5 B B sv GW) (u6:Shape ss GW)=>zU (rB▸hG) u6 zX.out ZI.out KG);have Ks:(i:Int)<(ss.length:Int):=by omega
          have hj0:(j:Int)<(s0.rs.length:Int):=by omega
          have vd:(k:Int)<4:=by omega
          clear KG;go_wp2_with fail
          go_region_held3 (λw'=>w'.cell? ⟨B,0,none⟩=some (.slice (some ⟨g,0,none⟩) ss.length cap)/\w'.cell? ⟨g,i*3+1,none⟩=some (.slice (some ⟨rg,0,none⟩) s0.rs.length kq)/\w'.cell? ⟨E,k,none⟩=some (.int .i64 (kH k:Nat)))
           (first
            | exact zu
            | go_keep)
           (first
            | (go_at_call 62;refine HWR.out.mono ?_;rintro e w5 ⟨b,GW,rfl,hb,hes,OL,u6,OM,ZJ⟩;obtain ⟨x1,x2,x3⟩:=HCE.out w5 GW OL u6;have x4:=Fi hes (show k<=3 by omega);have zu:=And.intro x1 (And.intro x2 x4);have Fk:=aa hb;have Su:=aa OM;have iB:=aa ZJ;clear hb hes OL u6 OM ZJ))
          cases b with
          | true=>
           have ai:=aa (λn=>show iJ s.data.toList w (.returned (.tuple #[.pointer none,.int .i64 (kH k:Nat),.int .i64 r0.at_])) (w5.drewN n) from ⟨Below.drewN' (by rw[<-GN.out];exact jC.out.trans Su.out) n,.inl ⟨kH k,r0.at_,by match k with|0=>decide|1=>decide|2=>decide|_+3=>exact (by decide:(7:Nat)≠0),rfl,.fault hz2 xR.out (by
            rw[<-Fj.out];refine KA H3.out H4.out (by omega) HPV.out ?_;have:=UW.out.sO (a:=r0.at_) (x:=r0.ln.2) ((s0.rs.drop (j+1)).map dW.ln++flat (ss.drop (i+1))) ((xS _ _ _ _).2 (Fk.out.1 rfl));rw[<-zT zX.out Db.out]at this;exact this) (by match k with|0=>decide|1=>decide|2=>decide|_+3=>exact (by decide:(7:Nat)≠0))⟩⟩)
           clear HWR HCE UW UU Fk Su iB ZG Da V0 UR zu;go_wp2_with fail;go_quiet (fail);go_wp2_with fail;exact bodyPost_ret (v:=.tuple #[.pointer none,.int .i64 (kH k:Nat),.int .i64 r0.at_]) (by simp[results,Tryz.results34,go_sem, *]) rfl (ai.out _)
          | false=>
           have HST:=aa (show QX E B B sv ss w4 k i s0 (gk - 1) (.int .i64 ((j+1:Nat):Int)) w5 from ⟨j+1,GW,rfl,by omega,iB.out rfl,by rw[C9 Db.out];exact UW.out.snoc (λh=>by have:=Fk.out.2 ((xS _ _ _ _).1 h);cases this)⟩);have JQ:j+1<=9223372036854775807:=by omega
           clear HWR HCE UW UU Fk Su iB ZG Da V0 UR zu;go_wp2_with fail;go_roundg (gk - 1)
           case measure=>omega
           case rel=>exact HST.out
         ·have g6:decide ((j:Int)<(s0.rs.length:Int))=false:=decide_eq_false (by omega);have HST:=aa (show QW E B B sv ss w4 k (im - 1) (.int .i64 ((i+1:Nat):Int)) wr from ⟨i+1,ssj,rfl,by omega,UU.out.V4 zX.out (by omega),by have:=UW.out;rw[List.take_of_length_le (l:=s0.rs) (by omega),<-pQ zX.out]at this;exact this⟩);have wy:i+1<=9223372036854775807:=by omega
          clear UW UU ZG Da V0 UR;go_wp2_with fail;go_roundg (im - 1)
          case measure=>omega
          case rel=>exact HST.out
       ·have g5:decide ((i:Int)<(ss.length:Int))=false:=decide_eq_false (by omega);have HFk:=aa (show dF (GM (flat ss) k) [] (flat ss) none by rw[List.take_of_length_le (by omega)]at u9;exact u9)
        have HST:=aa (show QV E B B sv ss w4 (km - 1) (.int .i64 ((k+1:Nat):Int)) wr from ⟨k+1,ssi,rfl,by omega,Ss.V5 (by omega) HFk.out,λk' hk'=>by
         rcases Nat.lt_or_ge k' k with h|h
         ·exact HPV.out k' h
         ·have:k'=k:=by omega
          subst this;exact HFk.out⟩)
        have ey:k+1<=9223372036854775807:=by omega
        clear Ss u9 HFk V0 UR;go_wp2_with fail;go_roundg (km - 1)
        case measure=>omega
        case rel=>exact HST.out
     ·have g4:decide ((k:Int)<4)=false:=decide_eq_false (by omega);have abP:k=4:=by omega
      have ai:=aa (show iJ s.data.toList w (.returned (.tuple #[.pointer (some ⟨B,0,none⟩),.int .i64 0,.int .i64 0])) wr from ⟨by rw[<-GN.out];exact jC.out.trans Sr.below,.inr ⟨B,B,sv,ssk,rfl,by
       rw[Sr.shape.flat,Fj.out];refine .ok hz2 xR.out ?_ ?_
       ·rw[<-Fj.out];exact KB H3.out H4.out (λk' h=>HPV.out k' (by omega))
       ·rw[<-Fj.out];intro hf
        cases ss with
        | nil=>exact h0 rfl
        | cons t l=>simp[flat,bZ.eQ]at hf,by rw[GN.out];exact Nat.le_refl _,Sr.gy,λt ht r hr=>by
       obtain ⟨i',hi'⟩:=List.getElem?_of_mem ht;obtain ⟨j',hj'⟩:=List.getElem?_of_mem hr;exact Sr.gY i' j' t r hi' hj' (.inl (by omega))⟩⟩)
      clear Sr KE UR;go_wp2_with fail;exact bodyPost_ret (v:=.tuple #[.pointer (some ⟨B,0,none⟩),.int .i64 0,.int .i64 0]) (by simp[results,Tryz.results34,go_sem, *]) rfl ai.out
end Go.Proofs.YtgncgdkpkkdaeaaGreatDoor
namespace Go.Proofs.YtgncgdkpkkdaeaaGreatDoor
open Go.RowKit aQ Go.Maps Go.Shelf
variable {x:LE} {G:List GS} {ss:List bZ} {s:List UInt8} {L:cK} {i:Nat}
theorem sP(l:List dW)(r:cK)(i c:Nat):gA c (l.map dW.ln++r) i=(if i+1=c then l.map dW.ln else [])++gA c r i:=by
 induction l with
 | nil=>simp
 | cons a t ih=>
  have e1:(a.ln).2.aL=false:=rfl;have e2:(a.ln).2.aZ=true:=rfl;rw[List.map_cons,List.cons_append,gA,e1,e2,ih];by_cases h:i+1=c
  ·simp[h]
  ·simp[h]
theorem lU(s:bZ)(t:List bZ):flat (s::t)=(s.at_,Ln.state s.name.data.toList)::(s.rs.map dW.ln++flat t):=by simp[flat,bZ.eQ]
theorem GY(ss:List bZ)(i:Nat):∀c,i+1<=c->gA c (flat ss) i=[]:=by
 induction ss with
 | nil=>intro c _;rfl
 | cons s t ih=>
  intro c hc;rw[lU,gA,if_pos (by rfl),sP,if_neg (by omega),ih _ (by omega)];rfl
theorem wA:∀(ss:List bZ) (c j:Nat) (t:bZ),ss[j]?=some t->gA c (flat ss) (c+j)=t.rs.map dW.ln:=by
 intro ss
 induction ss with
 | nil=>intro c j t h;simp at h
 | cons s l ih=>
  intro c j t h;rw[lU,gA,if_pos (by rfl),sP]
  cases j with
  | zero=>
   simp at h;subst h;rw[if_pos (by omega),GY _ _ _ (by omega),List.append_nil]
  | succ j=>
   rw[if_neg (by omega),List.nil_append,show c+(j+1)=(c+1)+j by omega];exact ih (c+1) j t (by simpa using h)
theorem jJ(ss:List bZ):bG (flat ss)=ss.map (·.name.data.toList):=by
 induction ss with
 | nil=>rfl
 | cons s t ih=>
  have e:∀(l:List dW),bG (l.map dW.ln)=[]:=λl=>by
   induction l with
   | nil=>rfl
   | cons a b ih=>rw[List.map_cons];unfold bG at ih ⊢;rw[List.filterMap_cons];simp[dW.ln,iV]
  rw[lU,List.map_cons,<-ih];have e2:=e s.rs;unfold bG at e2 ⊢;rw[List.filterMap_cons,List.filterMap_append,e2];simp[iV]
theorem vg(h:dF dG [] (flat ss) none){j:Nat}{t t':bZ}(vZ:i<j)(hi:ss[i]?=some t)(hj:ss[j]?=some t'):t.name.data.toList≠t'.name.data.toList:=by
 intro he;have hs:ss=ss.take j++t'::ss.drop (j+1):=by have hl:=au hj;rw[<-List.getElem?_eq_some_iff.1 hj |>.2,<-List.drop_eq_getElem_cons hl,List.take_append_drop]
 have hf:flat ss=flat (ss.take j)++(t'.at_,Ln.state t'.name.data.toList)::(t'.rs.map dW.ln++flat (ss.drop (j+1))):=by
  rw[<-lU]
  conv=>lhs;rw[hs]
  simp[flat]
 have h1:=qD h _ _ _ hf;refine h1 ⟨_,rfl,t.at_,?_⟩;rw[List.nil_append,<-he];refine List.mem_flatMap.2 ⟨t,?_,by simp[bZ.eQ]⟩;refine List.mem_of_getElem? (i:=i) ?_;rw[List.getElem?_take_of_lt vZ,hi]
theorem KH(hl:dM s 0 0 L):dF dG [] L none/\dF dt [] L none/\L≠[]/\∀y∈L,y.2.nb=true:=by
 cases hl with
 | fault _ _ _ h1=>exact absurd rfl h1
 | ok _ _ hch hne=>
  refine ⟨?_,?_,hne,λy hy=>(List.mem_filter.1 hy).2⟩
  ·unfold tests at hch
   cases hch with
   | skip a1 _=>exact a1
  ·unfold tests at hch
   cases hch with
   | skip _ hch=>cases hch with
    | skip a1 _=>exact a1
theorem KI{a b:ByteArray}(h:a.data.toList=b.data.toList):a=b:=by cases a;cases b;simp at h;simp[h]
theorem OO(h1:dM s 0 0 L)(h2:dM s 0 0 (flat ss))(hg:V6 L G):wu G ss/\(ss.length<=12/\∀t∈ss,t.rs.length<=40)/\0<ss.length:=by
 obtain ⟨-,-,rfl⟩:=h1.cS h2;obtain ⟨c1,c2,c3,c4⟩:=KH h2;have hn:=hg.names;rw[jJ]at hn;have hlen:G.length=ss.length:=by have:=congrArg List.length hn;simpa using this.symm
 obtain ⟨f1,f2⟩:=KJ c4 c2;rw[<-kI,jJ,List.length_map]at f1;have gj:∀(i:Nat) (s:GS) (t:bZ),G[i]?=some s->ss[i]?=some t->s.nm.data.toList=t.name.data.toList:=λi s t hs ht=>by have:=congrArg (·[i]?) hn;simp only[List.getElem?_map,hs,ht,Option.map_some,Option.some.injEq]at this;exact this.symm
 refine ⟨⟨hlen,λi s t hs ht=>?_⟩,⟨f1,λt ht=>?_⟩,?_⟩
 ·obtain ⟨r1,r2⟩:=hg.rules i s hs;have zY:=wA ss 0 i t ht;rw[Nat.zero_add]at zY;rw[zY]at r1 r2;refine ⟨KI (gj i s t hs ht),by simpa using r1,λk r q hr hq=>?_⟩;obtain ⟨d,o,c,p,e1,e2,e3,e4,e5,e6,e7⟩:=r2 k q.ln r (by rw[List.getElem?_map,hq];rfl) hr;have e1':Ln.rule q.d q.b.data.toList q.c.data.toList q.p.data.toList=.rule d o c p:=e1;cases e1'
  refine ⟨e6,e2,KI e4,λhd=>?_⟩;have h5:=e5 hd;rw[jJ,List.getElem?_map]at h5
  cases gJ:ss[r.op]? with
  | none=>rw[gJ]at h5;cases h5
  | some t'=>
   rw[gJ]at h5;simp only[Option.map_some,Option.some.injEq]at h5;refine ⟨t',rfl,h5,λj t'' hj V7 e=>?_⟩;exact vg c1 hj V7 gJ (by rw[e,h5])
 ·obtain ⟨i,hi⟩:=List.getElem?_of_mem ht;have h3:=sQ (flat ss) i 0;have zY:=wA ss 0 i t hi;rw[Nat.zero_add]at zY;rw[zY,List.length_map]at h3;omega
 ·cases ss with
  | nil=>exact absurd rfl c3
  | cons _ _=>simp
theorem LE.length(h:x.st.length<=8):x.cells.length=10:=by unfold LE.cells;rw[List.length_append,cX h];rfl
theorem cq.cells{w:World}{B:Nat}{ao:Option Addr}{cp:Nat}{ls:List LE}(h:cq w B (.slice ao ls.length cp) ls)(hx:ls[i]?=some x):∃lg,ao=some ⟨lg,0,none⟩/\lg<w.heap.size/\∀(y:Nat) c,x.cells[y]?=some c->w.cell? ⟨lg,i*10+y,none⟩=some c:=by
 obtain ⟨lg,c,hv⟩:=aC h.row (by have:=au hx;omega);cases hv;obtain ⟨_,cur,pK⟩:=aw h.row (k:=lg) rfl;refine ⟨lg,rfl,ae pK,λy c hy=>(bU h.row ?_).1⟩;have VS:y<10:=by have:=au hy;rw[LE.length (h.each x (List.mem_of_getElem? hx)).1]at this;exact this
 rw[List.flatMap_def,jG (si:=10) (by intro r hr;obtain ⟨z,hz,rfl⟩:=List.mem_map.1 hr;exact LE.length (h.each z hz).1) (r:=x.cells) (by rw[List.getElem?_map,hx];rfl) y VS];exact hy
theorem dn.short(eA:vY G){st:List Nat}{ls:List (List UInt8)}{out:List (List Nat×List Sp)}{st':List Nat}(h:dn G st ls out st')(hl:∀l∈ls,l.length<=3000):∀y∈out,y.2.length<=7000:=by
 induction h with
 | nil=>intro y hy;simp at hy
 | cons h1 _ ih=>
  intro y hy;rcases List.mem_cons.1 hy with rfl|hy
  ·have hle:=hl _ List.mem_cons_self;rcases h1 with h1|⟨a,pre,top,s,h2,h3,_,_,_,rfl⟩
   ·exact Nat.le_trans (h1.short eA) (by omega)
   ·have:=h2.short eA;show (pre++[_]).length<=7000;rw[List.length_append,List.length_singleton];omega
  ·exact ih (λl hl'=>hl l (List.mem_cons_of_mem _ hl')) y hy
section
variable {w:World} {B bX bS g n cap:Nat} {text:ByteArray} {lv:Value} {ls:List LE} {work:Nat}
theorem sR(i:Nat)(x:LE)(h:bK w B bS g n cap text lv ls work)(hx:ls[i]?=some x):
  Calls Tryz.prog 53 #[.pointer (some ⟨bS,0,none⟩),.int .i64 i] w λe w'=>e=.returned (.func (.func 107) #[] #[.pointer (some ⟨w.heap.size,0,none⟩)])/\w'=w.alloc (.cells #[x.sv] 64):=by
 have my:=h.eQ;obtain ⟨ao,cp,hv⟩:=aI my.row;subst hv;obtain ⟨lg,hao,_,hc⟩:=my.cells hx;subst hao;have h8:=(my.each x (List.mem_of_getElem? hx)).1;have c9:=hc 9 x.sv (by unfold LE.cells;rw[List.getElem?_append_right (by rw[cX h8];omega),cX h8];rfl);have c2:w.cell? ⟨bS,2,none⟩=some (.slice (some ⟨lg,0,none⟩) ls.length cp):=ah h.sh rfl
 have hi:=au hx;obtain ⟨JR,eR,rB⟩:=aI (my.each x (List.mem_of_getElem? hx)).2;rw[rB]at c9;have HV:=aa (GD x.sv ⟨_,_,_,rB⟩ w);rw[rB]at HV ⊢;clear my hc h hx;go_enter Tryz.func53,Tryz.ntmps53;go_wp2_with fail;refine HV.out.mono ?_;rintro e w1 ⟨rfl,QZ⟩;have HW:=aa QZ;clear QZ HV;go_wp2_with fail;go_ret
 exact ⟨rfl,HW.out⟩
def zZ(ls:List LE)(i:Int)(w:World)(e:Ending)(w':World):Prop:=
 Below w.heap.size w w'/\((¬(0<=i/\i<ls.length)/\e=.returned (.tuple #[.slice none 0 0,.int .i64 8]))∨∃(k:Nat) (x:LE) (v:Value),i=k/\ls[k]?=some x/\e=.returned (.tuple #[v,.int .i64 0])/\bN w' w.heap.size v x.ba)
set_option maxHeartbeats 1000000 in
theorem Dc(i:Int)(vp:∀x∈ls,x.ba.length<=7000)(h:bK w B bS g n cap text lv ls work)(hx:w.heap[bX]?=some (.cells #[.pointer (some ⟨bS,0,none⟩)] 46 (0,0))):
  Calls Tryz.prog 24 #[.pointer (some ⟨bX,0,none⟩),.int .i64 i] w (zZ ls i w):=by
 have c0:=ay hx;have HF:=aa (mL i h hx);by_cases mz:0<=i/\i<ls.length
 ·rw[if_pos mz]at HF;obtain ⟨k,rfl⟩:∃k:Nat,i=k:=⟨i.toNat,by omega⟩;obtain ⟨x,Fl⟩:∃x,ls[k]?=some x:=⟨_,List.getElem?_eq_getElem (by omega)⟩;have HS:=aa (sR k x h Fl);have hrow:=(h.eQ.each x (List.mem_of_getElem? Fl)).2
  have HC:=aa (zR B w.heap.size x.sv x.ba (w.alloc (.cells #[x.sv] 64)) (vp x (List.mem_of_getElem? Fl)) (af _ _) (aJ hrow λk hk=>((Below.refl _ _).alloc (Nat.le_refl _) _).block k (by obtain ⟨_,c,hc⟩:=aw hrow hk;exact ae hc)));have HX:=aa Fl;clear h hx hrow Fl mz
  go_enter Tryz.func24,Tryz.ntmps24;go_wp2_with fail;refine HF.out.mono ?_;rintro e1 w1 ⟨rfl,h1⟩;subst h1;go_wp2_with fail;refine HS.out.mono ?_;rintro e2 w2 ⟨rfl,h2⟩;rw[<-h2]at HC;have hb2:Below w1.heap.size w1 w2:=by rw[h2];exact (Below.refl _ _).alloc (Nat.le_refl _) _
  clear h2;go_wp2_with fail;refine HC.out.mono ?_;rintro e3 w3 ⟨v,rfl,h3,hb3⟩;obtain ⟨uX,vc,hv⟩:=aI h3;subst hv;have ai:=aa (show zZ ls (k:Int) w1 (.returned (.tuple #[.slice uX x.ba.length vc,.int .i64 0])) w3 from ⟨hb2.trans (hb3.mono hb2.size),.inr ⟨k,x,_,rfl,HX.out,rfl,cY h3 hb2.size⟩⟩);clear h3 hb3 hb2 HC;go_wp2_with fail;go_ret2;exact ai.out
 ·rw[if_neg mz]at HF;clear h hx;have HI:=aa mz;clear mz;go_enter Tryz.func24,Tryz.ntmps24;go_wp2_with fail;refine HF.out.mono ?_;rintro e1 w1 ⟨rfl,h1⟩;subst h1;go_wp2_with fail;go_ret2;exact ⟨Below.refl _ _,.inl ⟨HI.out,rfl⟩⟩
theorem sS(i:Nat)(x:LE)(G:List GS)(h:bK w B bS g n cap text lv ls work)(hx:ls[i]?=some x)(b9:Good G x.st)(hG:cP w g n cap G):
  Calls Tryz.prog 54 #[.pointer (some ⟨bS,0,none⟩),.int .i64 i] w (lQ (eH G x.st) w):=by
 have my:=h.eQ;obtain ⟨ao,cp,hv⟩:=aI my.row;subst hv;obtain ⟨lg,hao,_,hc⟩:=my.cells hx;subst hao;obtain ⟨a0,a1,a2,a3,a4,a5,a6,a7,a8,hst⟩:=nine b9.1.2;have hcc:∀(y:Nat) c,(aH x.st)[y]?=some c->w.cell? ⟨lg,i*10+y,none⟩=some c:=λy c hy=>hc y c (by unfold LE.cells;rw[List.getElem?_append_left (au hy)];exact hy)
 rw[hst]at hcc;have d0:=hcc 0 _ rfl;have d1:=hcc 1 _ rfl;have d2:=hcc 2 _ rfl;have d3:=hcc 3 _ rfl;have d4:=hcc 4 _ rfl;have d5:=hcc 5 _ rfl;have d6:=hcc 6 _ rfl;have d7:=hcc 7 _ rfl;have d8:=hcc 8 _ rfl;rw[Nat.add_zero]at d0;have c0:w.cell? ⟨bS,0,none⟩=some (.slice (some ⟨g,0,none⟩) n cap):=ah h.sh rfl
 have c2:w.cell? ⟨bS,2,none⟩=some (.slice (some ⟨lg,0,none⟩) ls.length cp):=ah h.sh rfl;have hi:=au hx;have HN:=aa (GI g n cap G x.st b9 w.drew (hG.below (Below.refl _ _).drew));unfold kA at HN;rw[hst]at HN
 have vq:=aa (λ(w':World) (hb:Below w.drew.heap.size w.drew w')=>show w'.cell? ⟨bS,0,none⟩=some (.slice (some ⟨g,0,none⟩) n cap)/\w'.cell? ⟨bS,2,none⟩=some (.slice (some ⟨lg,0,none⟩) ls.length cp)/\w'.cell? ⟨lg,i*10,none⟩=some (.int .i64 a0)/\w'.cell? ⟨lg,i*10+1,none⟩=some (.int .i64 a1)/\w'.cell? ⟨lg,i*10+2,none⟩=some (.int .i64 a2)/\w'.cell? ⟨lg,i*10+3,none⟩=some (.int .i64 a3)/\w'.cell? ⟨lg,i*10+4,none⟩=some (.int .i64 a4)/\w'.cell? ⟨lg,i*10+5,none⟩=some (.int .i64 a5)/\w'.cell? ⟨lg,i*10+6,none⟩=some (.int .i64 a6)/\w'.cell? ⟨lg,i*10+7,none⟩=some (.int .i64 a7)/\w'.cell? ⟨lg,i*10+8,none⟩=some (.int .i64 a8) from
  have hb':Below w.heap.size w w':=⟨hb.os,hb.tape,hb.output,hb.size,hb.block⟩
  ⟨ax c0 hb',ax c2 hb',ax d0 hb',ax d1 hb',ax d2 hb',ax d3 hb',ax d4 hb',ax d5 hb',ax d6 hb',ax d7 hb',ax d8 hb'⟩)
 clear my hc hcc h hx hst;go_enter Tryz.func54,Tryz.ntmps54;go_wp2_with fail
 go_region_held3 (λw'=>w'.cell? ⟨bS,0,none⟩=some (.slice (some ⟨g,0,none⟩) n cap)/\w'.cell? ⟨bS,2,none⟩=some (.slice (some ⟨lg,0,none⟩) ls.length cp)/\w'.cell? ⟨lg,i*10,none⟩=some (.int .i64 a0)/\w'.cell? ⟨lg,i*10+1,none⟩=some (.int .i64 a1)/\w'.cell? ⟨lg,i*10+2,none⟩=some (.int .i64 a2)/\w'.cell? ⟨lg,i*10+3,none⟩=some (.int .i64 a3)/\w'.cell? ⟨lg,i*10+4,none⟩=some (.int .i64 a4)/\w'.cell? ⟨lg,i*10+5,none⟩=some (.int .i64 a5)/\w'.cell? ⟨lg,i*10+6,none⟩=some (.int .i64 a6)/\w'.cell? ⟨lg,i*10+7,none⟩=some (.int .i64 a7)/\w'.cell? ⟨lg,i*10+8,none⟩=some (.int .i64 a8))
  (first
   | with_reducible exact hS1
   | go_keep)
  (first
   | (go_at_call 80;refine HN.out.mono ?_;clear HN;rintro e w1 ⟨v,rfl,h1,h2⟩;have hS1:=vq.out w1 h2;have HE:=aa (show lQ (eH G x.st) w (.returned v) w1 from ⟨v,rfl,h1,⟨h2.os,h2.tape,h2.output,h2.size,h2.block⟩⟩);obtain ⟨uX,vc,hv⟩:=aI h1;subst hv;clear h1 h2))
 all_goals
  clear hS1;go_wp2_with fail;go_ret;exact HE.out
def wD(G:List GS)(ls:List LE)(i:Int)(w:World)(e:Ending)(w':World):Prop:=
 Below w.heap.size w w'/\((¬(0<=i/\i<ls.length)/\e=.returned (.tuple #[.slice none 0 0,.int .i64 8]))∨∃(k:Nat) (x:LE) (v:Value),i=k/\ls[k]?=some x/\e=.returned (.tuple #[v,.int .i64 0])/\jg w' w.heap.size v (eH G x.st))
set_option maxHeartbeats 1000000 in
theorem z6(i:Int)(G:List GS)(b9:∀x∈ls,Good G x.st)(hG:cP w g n cap G)(h:bK w B bS g n cap text lv ls work)(hx:w.heap[bX]?=some (.cells #[.pointer (some ⟨bS,0,none⟩)] 46 (0,0))):
  Calls Tryz.prog 25 #[.pointer (some ⟨bX,0,none⟩),.int .i64 i] w (wD G ls i w):=by
 have c0:=ay hx;have HF:=aa (mL i h hx);by_cases mz:0<=i/\i<ls.length
 ·rw[if_pos mz]at HF;obtain ⟨k,rfl⟩:∃k:Nat,i=k:=⟨i.toNat,by omega⟩;obtain ⟨x,Fl⟩:∃x,ls[k]?=some x:=⟨_,List.getElem?_eq_getElem (by omega)⟩;have HS:=aa (sS k x G h Fl (b9 x (List.mem_of_getElem? Fl)) hG);have HX:=aa Fl;clear h hx Fl mz b9 hG;go_enter Tryz.func25,Tryz.ntmps25;go_wp2_with fail;refine HF.out.mono ?_
  rintro e1 w1 ⟨rfl,h1⟩;subst h1;go_wp2_with fail;refine HS.out.mono ?_;rintro e3 w3 ⟨v,rfl,h3,hb3⟩;obtain ⟨uX,vc,hv⟩:=aI h3;subst hv;have ai:=aa (show wD G ls (k:Int) w1 (.returned (.tuple #[.slice uX (eH G x.st).length vc,.int .i64 0])) w3 from ⟨hb3,.inr ⟨k,x,_,rfl,HX.out,rfl,h3⟩⟩);clear h3 hb3;go_wp2_with fail;go_ret2;exact ai.out
 ·rw[if_neg mz]at HF;clear h hx;have HI:=aa mz;clear mz;go_enter Tryz.func25,Tryz.ntmps25;go_wp2_with fail;refine HF.out.mono ?_;rintro e1 w1 ⟨rfl,h1⟩;subst h1;go_wp2_with fail;go_ret2;exact ⟨Below.refl _ _,.inl ⟨HI.out,rfl⟩⟩
end
end Go.Proofs.YtgncgdkpkkdaeaaGreatDoor
