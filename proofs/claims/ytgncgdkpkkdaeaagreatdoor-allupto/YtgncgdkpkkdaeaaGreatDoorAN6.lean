import Derived.Test.YtgncgdkpkkdaeaaGreatDoorAI
set_option maxRecDepth 20000
set_option maxHeartbeats 4000000
namespace Go.Proofs.YtgncgdkpkkdaeaaGreatDoor
open Go.RowKit bu
theorem Cf(B P:Nat)(sv:Value)(ss:List cH)(size:Nat)(w:World)(h:fY w B P sv ss)(hz:ss.length<=1000000)(hz2:∀t∈ss,t.rs.length<=1000000):
  Calls Tryz.prog 61 #[.pointer (some ⟨P,0,none⟩),.int .i64 size] w (iN ss size w):=by
 obtain ⟨ao,cap,rfl,hao⟩:=h.form;have c0:=h.eA.1;have HG:=aa h;have CZ:=aa hao;have HZ2:=aa hz2;clear h hao hz2;go_enter Tryz.func61,Tryz.ntmps61;go_wp2_with fail;go_loopg [6] ss.length (λk i wr=>Kn ss w k i wr)
 case atStart=>exact ⟨0,rfl,by omega,rfl,.nil⟩
 case round=>
  obtain ⟨j,rfl,hk,rfl,hall⟩:=hrel;by_cases hlt:j<ss.length
  ·have g1:decide ((j:Int)<(ss.length:Int))=true:=cF (by omega);obtain ⟨g,rfl⟩:=CZ.out (by omega);obtain ⟨s,hs⟩:∃s,ss[j]?=some s:=⟨ss[j],cB hlt⟩;obtain ⟨a0,-,a2,-⟩:=HG.out.at hs;have gN:=aa hall;have HS:=aa hs;have xu:=aa (su B P _ ss s.name wr HG.out (by omega));clear hall hs;go_wp2_with fail;refine xu.out.mono ?_
   rintro e w1 ⟨rfl,⟨i0,s0,rfl,hs0,yJ,hno⟩|⟨rfl,hno⟩⟩
   ·have hle:i0<=j:=by
     rcases ed j i0 with h|h
     ·exact absurd rfl (hno j s h HS.out)
     ·exact h
    by_cases aam:i0<j
    ·have q1:decide ((i0:Int)<(j:Int))=true:=cF (by omega)
     have aq:=aa (λn=>show iN ss size w1 (.returned (.tuple #[.int .i64 3,.int .i64 s.at_])) (w1.drewN n) from ⟨Below.drewN' (Below.refl _ _) n,.inl ⟨s.at_,rfl,by rw[kJ HS.out];refine gN.out.uR _ ⟨_,rfl,s0.at_,qD.2 ⟨s0,?_,rfl,yJ⟩⟩;exact bn (i:=i0) (by rw[List.getElem?_take_of_lt aam];exact hs0)⟩⟩)
     clear gN HS hs0 yJ hno xu;go_wp2_with fail;go_quiet (fail);go_wp2_with fail;exact bodyPost_ret (v:=.tuple #[.int .i64 3,.int .i64 s.at_]) (by simp[results,Tryz.results61,go_sem, *]) rfl (aq.out _)
    ·obtain rfl:i0=j:=by omega
     have q1:decide ((i0:Int)<(i0:Int))=false:=bV (by omega)
     have HST:=aa (show dQ dW [] (flat (ss.take (i0+1))) none by rw[rF HS.out];refine Km Ga (gN.out.snoc ?_) _;rintro ⟨n,hn,a,ha⟩;cases hn;obtain ⟨t,ht,_,hn⟩:=qD.1 ha;obtain ⟨m,hm⟩:=List.getElem?_of_mem ht;have hl:=az hm;rw[List.length_take]at hl;rw[List.getElem?_take_of_lt (by omega)]at hm;exact hno m t (by omega) hm hn)
     obtain ⟨k',rfl⟩:∃k',gk=k'+1:=⟨gk - 1,by omega⟩;have yv:i0+1<=9223372036854775807:=by omega
     clear gN HS hs0 yJ hno xu;go_wp2_with fail;go_roundg k'
     case measure=>omega
     case rel=>exact ⟨i0+1,rfl,by omega,rfl,HST.out⟩
   ·exact absurd rfl (hno s (bn HS.out))
  ·have g1:decide ((j:Int)<(ss.length:Int))=false:=bV (by omega);have HTW:=aa (show dQ dW [] (flat ss) none by rw[List.take_of_length_le (by omega)]at hall;exact hall);clear hall;go_wp2_with fail;go_loopg [7,8] ss.length (λk n i wx=>Oj ss wr k n i wx)
   case atStart=>exact ⟨0,rfl,rfl,by omega,rfl,.nil,by omega,by simp[ft]⟩
   case round=>
    obtain ⟨j2,rfl,rfl,hk2,rfl,hall,Wk,Wl⟩:=hrel;obtain ⟨kk,Zw⟩:∃kk,kk=gk:=⟨_,rfl⟩;by_cases iW:j2<ss.length
    ·have g2:decide ((j2:Int)<(ss.length:Int))=true:=cF (by omega);obtain ⟨g,rfl⟩:=CZ.out (by omega);obtain ⟨s,hs⟩:∃s,ss[j2]?=some s:=⟨ss[j2],cB iW⟩;obtain ⟨a0,a1,a2,-⟩:=HG.out.at hs;have hlen:(ss.take j2).length=j2:=by rw[List.length_take];omega
     have gN:=aa hall;have HS:=aa hs;clear hall hs;by_cases h12:12<=j2
     ·have q1:decide ((12:Int)<=(j2:Int))=true:=cF (by omega);have aq:=aa (λn=>show iN ss size wr (.returned (.tuple #[.int .i64 4,.int .i64 s.at_])) (wr.drewN n) from ⟨Below.drewN' (Below.refl _ _) n,.inr ⟨HTW.out,.inl ⟨s.at_,rfl,by rw[kJ HS.out];exact gN.out.uR _ ((tC _ _ Wl).2 (by omega))⟩⟩⟩)
      clear gN HS;go_wp2_with fail;go_quiet (fail);go_wp2_with fail;exact bodyPost_ret (v:=.tuple #[.int .i64 4,.int .i64 s.at_]) (by simp[results,Tryz.results61,go_sem, *]) rfl (aq.out _)
     ·have q1:decide ((12:Int)<=(j2:Int))=false:=bV (by omega);obtain ⟨ro,lM,nB,hro⟩:=HG.out.rules (bn HS.out);rw[nB]at a1;have HRV:=aa nB;have HRO:=aa hro;have E5:=aa (show dQ dI [] (flat (ss.take j2)++[(s.at_,.state s.name.data.toList)]) none from gN.out.snoc (λh=>by have:=(tC _ _ Wl).1 h;omega))
      have JC:=HZ2.out s (bn HS.out);clear nB hro;go_wp2_with fail;go_loopg [7,9] s.rs.length (λm n i wx=>V1 ss j2 s wr m n i wx)
      case atStart=>exact ⟨0,by simp,rfl,by omega,rfl,by simpa using E5.out,by simpa using Wl⟩
      case round=>
       obtain ⟨k3,rfl,rfl,hk3,rfl,kA,adg⟩:=hrel;by_cases OL:k3<s.rs.length
       ·have g3:decide ((k3:Int)<(s.rs.length:Int))=true:=cF (by omega);obtain ⟨rg,rfl⟩:=HRO.out (by omega);obtain ⟨r,hr⟩:∃r,s.rs[k3]?=some r:=⟨s.rs[k3],cB OL⟩;have b5:=(HG.out.rule (bn HS.out) HRV.out hr 5 (by omega) (u:=.int .i64 r.at_) rfl).1;have adJ:(ft (ss.take j2)+k3:Nat)+1<=9223372036854775807:=by omega
        have kE:=aa kA;have HR:=aa hr;have mG:(s.rs.take k3).length=k3:=by rw[List.length_take];omega
        clear kA hr;by_cases EG:40<=ft (ss.take j2)+k3
        ·have q3:decide ((40:Int)<((ft (ss.take j2)+k3:Nat):Int)+1)=true:=cF (by omega)
         have aq:=aa (λn=>show iN ss size wr (.returned (.tuple #[.int .i64 4,.int .i64 r.at_])) (wr.drewN n) from ⟨Below.drewN' (Below.refl _ _) n,.inr ⟨HTW.out,.inl ⟨r.at_,rfl,by
          have e:flat ss=((flat (ss.take j2)++[(s.at_,.state s.name.data.toList)])++(s.rs.take k3).map eJ.ln)++(r.at_,r.ln.2)::((s.rs.drop (k3+1)).map eJ.ln++flat (ss.drop (j2+1))):=by
           rw[kJ HS.out]
           conv=>lhs;rw[<-List.take_append_drop k3 s.rs,List.drop_eq_getElem_cons OL]
           have:=HR.out;rw[cB OL]at this;rw[Option.some.inj this];simp;rfl
          rw[e];exact kE.out.uR _ ((wm _ _ _ _ r (by omega)).2 (by omega))⟩⟩⟩)
         clear kE HR gN;go_wp2_with fail;go_quiet (fail);go_wp2_with fail;exact bodyPost_ret (v:=.tuple #[.int .i64 4,.int .i64 r.at_]) (by simp[results,Tryz.results61,go_sem, *]) rfl (aq.out _)
        ·have q3:decide ((40:Int)<((ft (ss.take j2)+k3:Nat):Int)+1)=false:=bV (by omega)
         have HST:=aa (show dQ dI [] ((flat (ss.take j2)++[(s.at_,.state s.name.data.toList)])++(s.rs.take (k3+1)).map eJ.ln) none by have:=HR.out;rw[cB OL]at this;rw[List.take_succ_eq_append_getElem OL,Option.some.inj this,List.map_append,<-fP];exact kE.out.snoc (a:=r.at_) (λh=>by have:=(wm _ _ _ _ r (by omega)).1 h;omega))
         obtain ⟨m',rfl⟩:∃m',gk=m'+1:=⟨gk - 1,by omega⟩;have adK:k3+1<=9223372036854775807:=by omega
         clear kE HR gN;go_wp2_with fail;go_roundg m'
         case measure=>omega
         case rel=>exact ⟨k3+1,by simp;omega,rfl,by omega,rfl,HST.out,by omega⟩
       ·have g3:decide ((k3:Int)<(s.rs.length:Int))=false:=bV (by omega);obtain rfl:k3=s.rs.length:=by omega
        have HST:=aa (show dQ dI [] (flat (ss.take (j2+1))) none by rw[rF HS.out];rw[List.take_of_length_le (bc _)]at kA;exact kA);have TA:=Df HS.out;obtain ⟨k',rfl⟩:∃k',kk=k'+1:=⟨kk - 1,by omega⟩;have adL:j2+1<=9223372036854775807:=by omega
        clear kA gN HS;go_wp2_with fail;go_roundg k'
        case measure=>omega
        case rel=>exact ⟨j2+1,by rw[TA],rfl,by omega,rfl,HST.out,by omega,by omega⟩
    ·have g2:decide ((j2:Int)<(ss.length:Int))=false:=bV (by omega);have HMA:=aa (show dQ dI [] (flat ss) none by rw[List.take_of_length_le (by omega)]at hall;exact hall);clear hall;by_cases h0:ss=[]
     ·have hl0:ss.length=0:=by rw[h0];rfl
      have q0:((ss.length:Int)==0)=true:=by rw[hl0];rfl
      have aq:=aa (show iN ss size wr (.returned (.tuple #[.int .i64 4,.int .i64 size])) wr from ⟨Below.refl _ _,.inr ⟨HTW.out,.inr ⟨HMA.out,.inl ⟨h0,rfl⟩⟩⟩⟩);clear h0;go_wp2_with fail;exact bodyPost_ret (v:=.tuple #[.int .i64 4,.int .i64 size]) (by simp[results,Tryz.results61,go_sem, *]) rfl aq.out
     ·have hl0:¬ss.length=0:=λh=>h0 (List.eq_nil_of_length_eq_zero h)
      have q0:((ss.length:Int)==0)=false:=by rw[er];omega
      have aq:=aa (show iN ss size wr (.returned (.tuple #[.int .i64 0,.int .i64 0])) wr from ⟨Below.refl _ _,.inr ⟨HTW.out,.inr ⟨HMA.out,.inr ⟨h0,rfl⟩⟩⟩⟩);clear h0;go_wp2_with fail;exact bodyPost_ret (v:=.tuple #[.int .i64 0,.int .i64 0]) (by simp[results,Tryz.results61,go_sem, *]) rfl aq.out
theorem ML(B P:Nat)(s:ByteArray)(w:World)(hB:B<=w.heap.size)(hG:fY w B P (.slice none 0 0) [])(hz:s.size<=2000):
  Calls Tryz.prog 60 #[.pointer (some ⟨P,0,none⟩),.string s] w (kq B P s.data.toList w):=by
 have HG:=aa hG;clear hG;go_enter Tryz.func60,Tryz.ntmps60;go_wp2_with fail;go_loopg [5,6] s.size (λk va vi wr=>De B P s w k va vi wr)
 case atStart=>exact ⟨0,0,[],_,[],rfl,rfl,by omega,bc _,Nat.zero_le _,λm h1 h2=>by omega,by simp[rest],HG.out,rfl,Below.refl _ _,bc _,λt ht=>by simp at ht⟩
 case round=>
  obtain ⟨a,i,acc,sv,ss,rfl,rfl,hk,hR⟩:=hrel;have HR:=aa hR;have hai:=hR.le;have Sb:B<=wr.heap.size:=bJ hB hR.below.size;have c0:=hR.ia.eA.1;have f0:=hR.ia.eA.2;have tT:=hR.few;clear hR HG;by_cases hlt:i<s.size
  ·have g1:decide ((i:Int)<(s.size:Int))=true:=cF (by omega);have yv:i+1<=9223372036854775807:=by omega
   obtain ⟨k',rfl⟩:∃k',gk=k'+1:=⟨gk - 1,by omega⟩;by_cases h10:s[i]=10
   ·have q1:(((s[i].toNat:Nat):Int) != 10)=false:=by rw[h10];rfl
    have aan:min i s.size - a=i - a:=by omega
    have Sl:(s.extract a i).size=i - a:=by rw[ByteArray.size_extract];exact aan
    have Ex:=aa (show rest s a=(s.extract a i).data.toList++10::rest s (i+1) by rw[eT hai,bE hlt,h10]);have rD:=aa (zM HR.out.nt);clear h10;by_cases hA:6<i - a/\((s.extract a i).extract 0 6).toList=[115,116,97,116,101,32]
    ·obtain ⟨h6,hst⟩:=hA;have g6:decide ((6:Int)<((i - a:Nat):Int))=true:=cF (by omega);have h6':6<=i - a:=by omega
     have h6i:(6:Int)<=((i - a:Nat):Int):=by omega
     have q2:(((s.extract a i).extract 0 6).toList == [115,116,97,116,101,32])=true:=by rw[hst];rfl
     have QN:=aa (AH (l:=(s.extract a i).data.toList) (x:=((s.extract a i).extract 6 (i - a)).data.toList) (by rw[<-hst,ByteArray.toList_eq];exact F9 (Nat.le_of_eq Sl)));clear hst;go_wp2_with fail;refine (dS _ _ (by rw[ByteArray.size_extract,Sl];omega)).mono ?_;rintro e w1 ⟨rfl,rfl⟩;by_cases gF:isName ((s.extract a i).extract 6 (i - a)).data.toList=true
     ·rw[gF];have aao:=aa (QN.out.trans (if_pos gF));obtain ⟨i0,hi,hz0,hz1,hz3⟩:=info_parts F8;have TE:=aa (HR.out.ia.below ((Below.refl _ _).alloc (bc _) (.cells #[.string ((s.extract a i).extract 6 (i - a)),.slice none 0 0,.int .i64 a] 123)))
      have VM:=aw c0 (.cells #[.string ((s.extract a i).extract 6 (i - a)),.slice none 0 0,.int .i64 a] 123);have HO:Hid (∀u∈[Value.string ((s.extract a i).extract 6 (i - a)),.slice none 0 0,.int .i64 a],u.oneCell'=true):=by intro u hu;simp only[List.mem_cons,List.not_mem_nil,or_false]at hu;rcases hu with rfl|rfl|rfl<;>rfl
      go_wp2_with fail
      go_region_law (refine cY rfl (.tmp 44) (.tmp 49) 115 rfl B 123 i0 (.agg #[.string ⟨#[]⟩,.slice none 0 0,.int .i64 0]) 3 48 Tryz.underlying115 hi hz0 hz1 hz3 rfl (by decide) sv ss.length ((ss.map cH.el).flatMap El.cells) (by rfl) (by exact TE.out.outer) ⟨w1.heap.size,0,none⟩ 1 1 [.string ((s.extract a i).extract 6 (i - a)),.slice none 0 0,.int .i64 a] (by rfl) (by rfl) (by exact aG w1 #[.string ((s.extract a i).extract 6 (i - a)),.slice none 0 0,.int .i64 a] _) HO.out (by unfold maxLen;omega) (by omega) (by simp;omega) ?_;intro v' w3 hown hg _;obtain ⟨g,cap,rfl⟩:=aB hown (by omega);obtain ⟨hG3,iC,kD⟩:=fY.push (W:=(w1.alloc (.cells #[.string ((s.extract a i).extract 6 (i - a)),.slice none 0 0,.int .i64 a] 123)).drew) TE.out.drew (show B<=(w1.alloc (.cells #[.string ((s.extract a i).extract 6 (i - a)),.slice none 0 0,.int .i64 a] 123)).heap.size by simp;omega) hown hg;have g2:w3.cell? ⟨P,0,none⟩=some sv:=(by simp[World.cell?,kD]);have gf:w3.frozen? ⟨P,0,none⟩=false:=(by simp[World.frozen?,kD]);have HST:=aa (HR.out.push hlt Ex.out rD.out aao.out Sl hG3 ((((Below.refl B w1).alloc Sb _).drew).trans iC));clear hown hg kD hG3 iC)
      all_goals
       clear HR Ex rD QN aao TE HO c0 VM f0 hi hz0 hz1 hz3 gF;go_wp2_with fail;go_roundg k'
       case measure=>omega
       case rel=>exact ⟨i+1,i+1,_,_,_,rfl,rfl,by omega,HST.out⟩
     ·have qC:isName ((s.extract a i).extract 6 (i - a)).data.toList=false:=by simpa using gF
      have aq:=aa (show kq B P s.data.toList w (.returned (.int .i64 a)) w1 from ⟨HR.out.below,.inl ⟨a,rfl,by rw[HR.out.run,Ex.out];exact FQ rD.out (by rw[QN.out,if_neg gF])⟩⟩);rw[qC];clear HR Ex rD QN gF;go_wp2_with fail;go_ret;exact aq.out
    ·by_cases g0:0<i - a
     ·by_cases h6:6<i - a
      case' pos=>
       have g6:decide ((6:Int)<((i - a:Nat):Int))=true:=cF (by omega);have h6':6<=i - a:=by omega
       have h6i:(6:Int)<=((i - a:Nat):Int):=by omega
       have hst:¬((s.extract a i).extract 0 6).toList=[115,116,97,116,101,32]:=λh=>hA ⟨h6,h⟩
       have q2:(((s.extract a i).extract 0 6).toList == [115,116,97,116,101,32])=false:=by rw[er];exact hst
       have Wm:=aa (tA (l:=(s.extract a i).data.toList) (λx _ e=>hst (by rw[ByteArray.toList_eq,aQ,e];rfl)) (λe=>by have:=congrArg List.length e;rw[aO,Sl]at this;simp at this;omega));clear hst
      case' neg=>
       have g6:decide ((6:Int)<((i - a:Nat):Int))=false:=bV (by omega)
       have Wm:=aa (tA (l:=(s.extract a i).data.toList) (λx hx e=>by
        have:=congrArg List.length e;rw[aO,Sl]at this
        cases x with
        | nil=>exact hx rfl
        | cons y x=>simp at this;omega) (λe=>by have:=congrArg List.length e;rw[aO,Sl]at this;simp at this;omega))
      all_goals
       clear hA;go_wp2_with fail;refine (Gw (s.extract a i) wr (by rw[Sl];omega)).mono ?_;rintro e w1 ⟨fu,⟨d,ra,rb,rc,rp,rfl,hd,hw,od⟩|⟨v,⟨ra,rb,rc,rp,rfl⟩,rfl,hno⟩⟩
       ·obtain ⟨ao,cap,oX,hao⟩:=HR.out.ia.form;subst oX;have ug:=aa (HR.out.ia.below fu);have bM:=aa fu;have c1:w1.cell? ⟨P,0,none⟩=some (.slice ao ss.length cap):=ug.out.eA.1;clear fu c0 f0;by_cases BF:ss=[]
        ·have aq:=aa (λo=>show kq B P s.data.toList w (.returned (.int .i64 a)) (w1.alloc o) from ⟨(HR.out.below.trans (bM.out.mono Sb)).alloc (bJ Sb bM.out.size) o,.inl ⟨a,rfl,by rw[HR.out.run,Ex.out];exact C3 rD.out (Wm.out.trans od) rfl ((yP HR.out.X2).2 BF)⟩⟩);have hl0:ss.length=0:=by rw[BF];rfl
         have pV:((ss.length:Int)==0)=true:=by rw[hl0];rfl
         have c1':=aw c1 (.cells #[.string ra,.string rb,.string rc,.string rp,.pointer none,.int .i64 0] 128);clear HR Ex rD Wm ug od hw BF;go_wp2_with fail;go_ret;exact aq.out _
        ·obtain ⟨eQ,t,rfl⟩:∃eQ t,ss=eQ++[t]:=⟨ss.dropLast,ss.getLast BF,(List.dropLast_concat_getLast BF).symm⟩;have MC:(eQ++[t]).length=eQ.length+1:=by simp
         obtain ⟨g,rfl⟩:=hao (by omega);have pV:(((eQ++[t]).length:Int)==0)=false:=by rw[er];omega
         have c1':=aw c1 (.cells #[.string ra,.string rb,.string rc,.string rp,.pointer none,.int .i64 0] 128);have acb:=HR.out.Kl t (by simp);have hb1:t.rs.length+1<=maxLen:=by unfold maxLen;omega
         have hb2:(t.rs.length+1)*80<=140737488355328:=by omega
         rw[MC]at c1 c1' pV HR ug tT;obtain ⟨i0,hi,hz0,hz1,hz3⟩:=info_parts Kk;have Ud:=aa (show Below w1.heap.size w1 (w1.alloc (.cells #[.string ra,.string rb,.string rc,.string rp,.pointer none,.int .i64 a] 128)) from cq _ _)
         have HE:=aa (ag w1 (.cells #[.string ra,.string rb,.string rc,.string rp,.pointer none,.int .i64 a] 128));have HO:Hid (∀u∈([.string ra,.string rb,.string rc,.string rp,.pointer none,.int .i64 a]:List Value),u.oneCell'=true):=by intro u hu;simp only[List.mem_cons,List.not_mem_nil,or_false]at hu;rcases hu with rfl|rfl|rfl|rfl|rfl|rfl<;>rfl
         obtain ⟨q,hq⟩:∃q,q=w1.heap.size:=⟨_,rfl⟩;clear BF hao;go_wp2_with fail;rw[<-hq]at HE ⊢;have HQ:=aa hq;clear hq c1 c1';generalize w1.alloc (.cells #[.string ra,.string rb,.string rc,.string rp,.pointer none,.int .i64 a] 128)=W2 at *;have eE:B<=W2.heap.size:=bJ Sb (bJ bM.out.size Ud.out.size);have UZ:=aa (ug.out.below Ud.out)
         have Xy:=aa (UZ.out.below ((Below.refl _ _).alloc (bc _) (.cells #[.string ra,.string rb,.string rc,.string rp,.pointer none,.int .i64 a] 128)));have he:=HE.out;have e0:W2.cell? ⟨q,0,none⟩=some (.string ra):=by simp[World.cell?,he]
         have e1:W2.cell? ⟨q,1,none⟩=some (.string rb):=by simp[World.cell?,he]
         have e2:W2.cell? ⟨q,2,none⟩=some (.string rc):=by simp[World.cell?,he]
         have e3:W2.cell? ⟨q,3,none⟩=some (.string rp):=by simp[World.cell?,he]
         have e4:W2.cell? ⟨q,4,none⟩=some (.pointer none):=by simp[World.cell?,he]
         have e5:W2.cell? ⟨q,5,none⟩=some (.int .i64 a):=by simp[World.cell?,he]
         have d0:W2.cell? ⟨P,0,none⟩=some (.slice (some ⟨g,0,none⟩) (eQ.length+1) cap):=UZ.out.eA.1;have ZK:=aw d0 (.cells #[.string ra,.string rb,.string rc,.string rp,.pointer none,.int .i64 a] 128);have d1:W2.cell? ⟨g,eQ.length*3+1,none⟩=some t.rv:=(UZ.out.at (i:=eQ.length) (s:=t) (by simp)).2.1
         have d1':=aw d1 (.cells #[.string ra,.string rb,.string rc,.string rp,.pointer none,.int .i64 a] 128);have hwr:IntKind.i64.wrap (eQ.length:Int)=(eQ.length:Int):=by rw[IntKind.wrap_i64];omega
         have aam:(eQ.length:Int)<(eQ.length:Int)+1:=by omega
         have HKEY:=aa (show ∀v' w3,w3.ownsRow B 128 6 v' (t.rs.length+1) ((t.rs.map eJ.cells).flatten++[.string ra,.string rb,.string rc,.string rp,.pointer none,.int .i64 a])->(W2.alloc (.cells #[.string ra,.string rb,.string rc,.string rp,.pointer none,.int .i64 a] 128)).drew.grownBy w3 t.rv.ownBlock->(v'.ownBlock=t.rv.ownBlock∨v'.ownBlock=some (W2.alloc (.cells #[.string ra,.string rb,.string rc,.string rp,.pointer none,.int .i64 a] 128)).drew.heap.size) ->
           ∃g' cap',v'=.slice (some ⟨g',0,none⟩) (t.rs.length+1) cap'/\w3.cell? ⟨P,0,none⟩=some (.slice (some ⟨g,0,none⟩) (eQ.length+1) cap)/\w3.cell? ⟨g,eQ.length*3+1,none⟩=some t.rv/\w3.frozen? ⟨g,eQ.length*3+1,none⟩=false/\Hid (De B P s w k' (.int .i64 ((i+1:Nat):Int)) (.int .i64 ((i+1:Nat):Int)) (w3.setCell ⟨g,eQ.length*3+1,none⟩ v')) from λv' w3 hown hg fD=>by
          obtain ⟨g',cap',hv⟩:=aB hown (by omega)
          obtain ⟨hG4,kB,yC,hc4,hf4⟩:=fY.grow (W:=(W2.alloc (.cells #[.string ra,.string rb,.string rc,.string rp,.pointer none,.int .i64 a] 128)).drew) (r:=⟨d,ra,rb,rc,rp,.pointer none,a⟩) Xy.out.drew (show B<=(W2.alloc (.cells #[.string ra,.string rb,.string rc,.string rp,.pointer none,.int .i64 a] 128)).heap.size by simp;omega) ⟨hd,hw⟩ hown hg fD
          exact ⟨g',cap',hv,yC,hc4,hf4,⟨i+1,i+1,_,_,_,rfl,rfl,by omega,HR.out.grow (r:=⟨d,ra,rb,rc,rp,.pointer none,a⟩) hlt Ex.out rD.out (Wm.out.trans od) rfl Sl hG4 (((bM.out.mono Sb).trans (Ud.out.mono (bJ Sb bM.out.size))).trans ((((Below.refl B W2).alloc eE _).drew).trans kB))⟩⟩)
         have kE:=aa (show (W2.alloc (.cells #[.string ra,.string rb,.string rc,.string rp,.pointer none,.int .i64 a] 128)).ownsRow B 128 6 t.rv t.rs.length (t.rs.map eJ.cells).flatten from Xy.out.inner (by simp));have ey:=aa (aG W2 #[.string ra,.string rb,.string rc,.string rp,.pointer none,.int .i64 a] 128)
         have xW:B<=W2.heap.size+1:=by omega
         clear he HR Ex rD Wm ug UZ Xy Ud HE od hw bM HQ Sl aan acb
         go_region_law (refine cY rfl (.tmp 89) (.tmp 91) 121 rfl B 128 i0 (.agg #[.string ⟨#[]⟩,.string ⟨#[]⟩,.string ⟨#[]⟩,.string ⟨#[]⟩,.pointer none,.int .i64 0]) 6 80 Tryz.underlying121 hi hz0 hz1 hz3 rfl (by decide) t.rv t.rs.length (t.rs.map eJ.cells).flatten (by rfl) kE.out ⟨W2.heap.size,0,none⟩ 1 1 [.string ra,.string rb,.string rc,.string rp,.pointer none,.int .i64 a] (by rfl) (by rfl) ey.out HO.out hb1 hb2 (by simpa using xW) ?_;intro v' w3 hown hg fD;obtain ⟨g',cap',rfl,gP,gg,gf,HST⟩:=HKEY.out _ _ hown hg fD;clear hown hg fD)
         all_goals
          clear HKEY kE ey HO hi hz0 hz1 hz3 e0 e1 e2 e3 e4 e5 d0 ZK d1 d1';go_wp2_with fail;go_roundg k'
          case measure=>omega
          case rel=>exact HST.out
       ·have c1:w1.cell? ⟨P,0,none⟩=some sv:=(HR.out.ia.below fu).eA.1;have aq:=aa (λo=>show kq B P s.data.toList w (.returned (.int .i64 a)) (w1.alloc o) from ⟨(HR.out.below.trans (fu.mono Sb)).alloc (bJ Sb fu.size) o,.inl ⟨a,rfl,by rw[HR.out.run,Ex.out];exact FQ rD.out (Wm.out.trans hno)⟩⟩)
        obtain ⟨ao,cap,oX,hao⟩:=HR.out.ia.form;subst oX;have c1':=aw c1 (.cells #[.string ra,.string rb,.string rc,.string rp,.pointer none,.int .i64 0] 128);clear HR Ex rD Wm hno fu hao;go_wp2_with fail;go_ret;exact aq.out _
     ·have g6:decide ((6:Int)<((i - a:Nat):Int))=false:=bV (by omega);have g0':i - a=0:=by omega
      have adM:decide ((0:Int)<((i - a:Nat):Int))=false:=bV (by omega);have HST:=aa (HR.out.blank hlt Ex.out (by omega));clear HR Ex rD;go_wp2_with fail;go_roundg k'
      case measure=>omega
      case rel=>exact ⟨i+1,i+1,_,_,_,rfl,rfl,by omega,HST.out⟩
   ·have q1:(((s[i].toNat:Nat):Int) != 10)=true:=by rw[bne_iff_ne];intro e;exact h10 (UInt8.toNat_inj.1 (by simpa using Int.ofNat.inj e))
    have HST:=aa (show jd B P s w a (i+1) acc sv ss wr from { HR.out with
     le:=by omega
     li:=hlt
     nt:=λm h1 h2=>by
      rcases ed m i with h|h
      ·exact HR.out.nt m h1 h
      ·have:m=i:=by omega
       subst this;rw[qA hlt];exact λe=>h10 (Option.some.inj e) })
    clear HR h10;go_wp2_with fail;go_roundg k'
    case measure=>omega
    case rel=>exact ⟨a,i+1,acc,sv,ss,rfl,rfl,by omega,HST.out⟩
  ·have g1:decide ((i:Int)<(s.size:Int))=false:=bV (by omega);by_cases xB:a<s.size
   ·have g2:decide ((a:Int)<(s.size:Int))=true:=cF (by omega)
    have aq:=aa (show kq B P s.data.toList w (.returned (.int .i64 a)) wr from ⟨HR.out.below,.inl ⟨a,rfl,by
     rw[HR.out.run];refine Au (λe=>?_) ?_
     ·have:=congrArg List.length e;rw[aY]at this;simp at this;omega
     ·rw[<-dn (bc s.size)];exact zM λm h1 h2=>HR.out.nt m h1 (by have:=HR.out.li;omega)⟩⟩)
    clear HR;go_wp2_with fail;go_ret;exact aq.out
   ·have g2:decide ((a:Int)<(s.size:Int))=false:=bV (by omega)
    have aq:=aa (show kq B P s.data.toList w (.returned (.int .i64 (-1))) wr from ⟨HR.out.below,.inr ⟨rfl,acc,sv,ss,by rw[HR.out.run,dF (by omega),N2],HR.out.ia,HR.out.X2,by have:=HR.out.few;have:=HR.out.li;rw[aO];omega,λt ht=>by have:=HR.out.Kl t ht;have:=HR.out.li;rw[aO];omega⟩⟩);clear HR;go_wp2_with fail;go_ret;exact aq.out
end Go.Proofs.YtgncgdkpkkdaeaaGreatDoor
