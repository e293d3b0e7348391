import Derived.Test.YtgncgdkpkkdaeaaGreatDoorMI
namespace Go.Proofs.YtgncgdkpkkdaeaaGreatDoor
open Go.RowKit aO
set_option maxRecDepth 20000 in
set_option maxHeartbeats 2000000 in
theorem Bi(B P:Nat)(sv:Value)(ss:List cd)(size:Nat)(w:World)(h:fD w B P sv ss)(hz:ss.length<=1000000)(hz2:∀t∈ss,t.rs.length<=1000000):
  Calls Tryz.prog 61 #[.pointer (some ⟨P,0,none⟩),.int .i64 size] w (ir ss size w):=by
 obtain ⟨ao,cap,rfl,hao⟩:=h.form;have c0:=h.eh.1;have HG:=aa h;have Cb:=aa hao;have HZ2:=aa hz2;clear h hao hz2;go_enter Tryz.func61,Tryz.ntmps61;go_wp2_with fail;go_loopg [6] ss.length (λk i wr=>JA ss w k i wr)
 case atStart=>exact ⟨0,rfl,by omega,rfl,.nil⟩
 case round=>
  obtain ⟨j,rfl,hk,rfl,hall⟩:=hrel;by_cases hlt:j<ss.length
  ·have g1:decide ((j:Int)<(ss.length:Int))=true:=decide_eq_true (by omega);obtain ⟨g,rfl⟩:=Cb.out (by omega);obtain ⟨s,hs⟩:∃s,ss[j]?=some s:=⟨ss[j],List.getElem?_eq_getElem hlt⟩;obtain ⟨a0,-,a2,-⟩:=HG.out.at hs;have fZ:=aa hall;have HS:=aa hs;have wG:=aa (rr B P _ ss s.name wr HG.out (by omega));clear hall hs;go_wp2_with fail;refine wG.out.mono ?_
   rintro e w1 ⟨rfl,⟨i0,s0,rfl,hs0,xS,hno⟩|⟨rfl,hno⟩⟩
   ·have hle:i0<=j:=by
     rcases Nat.lt_or_ge j i0 with h|h
     ·exact absurd rfl (hno j s h HS.out)
     ·exact h
    by_cases ZN:i0<j
    ·have q1:decide ((i0:Int)<(j:Int))=true:=decide_eq_true (by omega)
     have ai:=aa (λn=>show ir ss size w1 (.returned (.tuple #[.int .i64 3,.int .i64 s.at_])) (w1.drewN n) from ⟨Below.drewN' (Below.refl _ _) n,.inl ⟨s.at_,rfl,by rw[j7 HS.out];refine fZ.out.ue _ ⟨_,rfl,s0.at_,pS.2 ⟨s0,?_,rfl,xS⟩⟩;exact List.mem_of_getElem? (i:=i0) (by rw[List.getElem?_take_of_lt ZN];exact hs0)⟩⟩)
     clear fZ HS hs0 xS hno wG;go_wp2_with fail;go_quiet (fail);go_wp2_with fail;exact bodyPost_ret (v:=.tuple #[.int .i64 3,.int .i64 s.at_]) (by simp[results,Tryz.results61,go_sem, *]) rfl (ai.out _)
    ·obtain rfl:i0=j:=by omega
     have q1:decide ((i0:Int)<(i0:Int))=false:=decide_eq_false (by omega)
     have HST:=aa (show dF dL [] (flat (ss.take (i0+1))) none by rw[qG HS.out];refine Jz Fc (fZ.out.snoc ?_) _;rintro ⟨n,hn,a,ha⟩;cases hn;obtain ⟨t,ht,_,hn⟩:=pS.1 ha;obtain ⟨m,hm⟩:=List.getElem?_of_mem ht;have hl:=aw hm;rw[List.length_take]at hl;rw[List.getElem?_take_of_lt (by omega)]at hm;exact hno m t (by omega) hm hn)
     obtain ⟨k',rfl⟩:∃k',gk=k'+1:=⟨gk - 1,by omega⟩;have xG:i0+1<=9223372036854775807:=by omega
     clear fZ HS hs0 xS hno wG;go_wp2_with fail;go_roundg k'
     case measure=>omega
     case rel=>exact ⟨i0+1,rfl,by omega,rfl,HST.out⟩
   ·exact absurd rfl (hno s (List.mem_of_getElem? HS.out))
  ·have g1:decide ((j:Int)<(ss.length:Int))=false:=decide_eq_false (by omega);have HTW:=aa (show dF dL [] (flat ss) none by rw[List.take_of_length_le (by omega)]at hall;exact hall);clear hall;go_wp2_with fail;go_loopg [7,8] ss.length (λk n i wx=>Np ss wr k n i wx)
   case atStart=>exact ⟨0,rfl,rfl,by omega,rfl,.nil,by omega,by simp[eQ]⟩
   case round=>
    obtain ⟨j2,rfl,rfl,hk2,rfl,hall,Vv,Vw⟩:=hrel;obtain ⟨kk,YM⟩:∃kk,kk=gk:=⟨_,rfl⟩;by_cases iD:j2<ss.length
    ·have g2:decide ((j2:Int)<(ss.length:Int))=true:=decide_eq_true (by omega);obtain ⟨g,rfl⟩:=Cb.out (by omega);obtain ⟨s,hs⟩:∃s,ss[j2]?=some s:=⟨ss[j2],List.getElem?_eq_getElem iD⟩;obtain ⟨a0,a1,a2,-⟩:=HG.out.at hs;have hlen:(ss.take j2).length=j2:=by rw[List.length_take];omega
     have fZ:=aa hall;have HS:=aa hs;clear hall hs;by_cases Zx:12<=j2
     ·have q1:decide ((12:Int)<=(j2:Int))=true:=decide_eq_true (by omega);have ai:=aa (λn=>show ir ss size wr (.returned (.tuple #[.int .i64 4,.int .i64 s.at_])) (wr.drewN n) from ⟨Below.drewN' (Below.refl _ _) n,.inr ⟨HTW.out,.inl ⟨s.at_,rfl,by rw[j7 HS.out];exact fZ.out.ue _ ((su _ _ Vw).2 (by omega))⟩⟩⟩)
      clear fZ HS;go_wp2_with fail;go_quiet (fail);go_wp2_with fail;exact bodyPost_ret (v:=.tuple #[.int .i64 4,.int .i64 s.at_]) (by simp[results,Tryz.results61,go_sem, *]) rfl (ai.out _)
     ·have q1:decide ((12:Int)<=(j2:Int))=false:=decide_eq_false (by omega);obtain ⟨ro,kV,mG,hro⟩:=HG.out.rules (List.mem_of_getElem? HS.out);rw[mG]at a1;have HRV:=aa mG;have HRO:=aa hro;have Ei:=aa (show dF dA [] (flat (ss.take j2)++[(s.at_,.state s.name.data.toList)]) none from fZ.out.snoc (λh=>by have:=(su _ _ Vw).1 h;omega))
      have IQ:=HZ2.out s (List.mem_of_getElem? HS.out);clear mG hro;go_wp2_with fail;go_loopg [7,9] s.rs.length (λm n i wx=>Vd ss j2 s wr m n i wx)
      case atStart=>exact ⟨0,by simp,rfl,by omega,rfl,by simpa using Ei.out,by simpa using Vw⟩
      case round=>
       obtain ⟨k3,rfl,rfl,hk3,rfl,jW,acL⟩:=hrel;by_cases NL:k3<s.rs.length
       ·have g3:decide ((k3:Int)<(s.rs.length:Int))=true:=decide_eq_true (by omega);obtain ⟨rg,rfl⟩:=HRO.out (by omega);obtain ⟨r,hr⟩:∃r,s.rs[k3]?=some r:=⟨s.rs[k3],List.getElem?_eq_getElem NL⟩;have b5:=(HG.out.rule (List.mem_of_getElem? HS.out) HRV.out hr 5 (by omega) (u:=.int .i64 r.at_) rfl).1;have adi:(eQ (ss.take j2)+k3:Nat)+1<=9223372036854775807:=by omega
        have j0:=aa jW;have HR:=aa hr;have lL:(s.rs.take k3).length=k3:=by rw[List.length_take];omega
        clear jW hr;by_cases DU:40<=eQ (ss.take j2)+k3
        ·have q3:decide ((40:Int)<((eQ (ss.take j2)+k3:Nat):Int)+1)=true:=decide_eq_true (by omega)
         have ai:=aa (λn=>show ir ss size wr (.returned (.tuple #[.int .i64 4,.int .i64 r.at_])) (wr.drewN n) from ⟨Below.drewN' (Below.refl _ _) n,.inr ⟨HTW.out,.inl ⟨r.at_,rfl,by
          have e:flat ss=((flat (ss.take j2)++[(s.at_,.state s.name.data.toList)])++(s.rs.take k3).map eo.ln)++(r.at_,r.ln.2)::((s.rs.drop (k3+1)).map eo.ln++flat (ss.drop (j2+1))):=by
           rw[j7 HS.out]
           conv=>lhs;rw[<-List.take_append_drop k3 s.rs,List.drop_eq_getElem_cons NL]
           have:=HR.out;rw[List.getElem?_eq_getElem NL]at this;rw[Option.some.inj this];simp;rfl
          rw[e];exact j0.out.ue _ ((Go.Proofs.YtgncgdkpkkdaeaaGreatDoor.u9 _ _ _ _ r (by omega)).2 (by omega))⟩⟩⟩)
         clear j0 HR fZ;go_wp2_with fail;go_quiet (fail);go_wp2_with fail;exact bodyPost_ret (v:=.tuple #[.int .i64 4,.int .i64 r.at_]) (by simp[results,Tryz.results61,go_sem, *]) rfl (ai.out _)
        ·have q3:decide ((40:Int)<((eQ (ss.take j2)+k3:Nat):Int)+1)=false:=decide_eq_false (by omega)
         have HST:=aa (show dF dA [] ((flat (ss.take j2)++[(s.at_,.state s.name.data.toList)])++(s.rs.take (k3+1)).map eo.ln) none by have:=HR.out;rw[List.getElem?_eq_getElem NL]at this;rw[List.take_succ_eq_append_getElem NL,Option.some.inj this,List.map_append,<-List.append_assoc];exact j0.out.snoc (a:=r.at_) (λh=>by have:=(Go.Proofs.YtgncgdkpkkdaeaaGreatDoor.u9 _ _ _ _ r (by omega)).1 h;omega))
         obtain ⟨m',rfl⟩:∃m',gk=m'+1:=⟨gk - 1,by omega⟩;have adj:k3+1<=9223372036854775807:=by omega
         clear j0 HR fZ;go_wp2_with fail;go_roundg m'
         case measure=>omega
         case rel=>exact ⟨k3+1,by simp;omega,rfl,by omega,rfl,HST.out,by omega⟩
       ·have g3:decide ((k3:Int)<(s.rs.length:Int))=false:=decide_eq_false (by omega);obtain rfl:k3=s.rs.length:=by omega
        have HST:=aa (show dF dA [] (flat (ss.take (j2+1))) none by rw[qG HS.out];rw[List.take_of_length_le (Nat.le_refl _)]at jW;exact jW);have SI:=Cp HS.out;obtain ⟨k',rfl⟩:∃k',kk=k'+1:=⟨kk - 1,by omega⟩;have adk:j2+1<=9223372036854775807:=by omega
        clear jW fZ HS;go_wp2_with fail;go_roundg k'
        case measure=>omega
        case rel=>exact ⟨j2+1,by rw[SI],rfl,by omega,rfl,HST.out,by omega,by omega⟩
    ·have g2:decide ((j2:Int)<(ss.length:Int))=false:=decide_eq_false (by omega);have HMA:=aa (show dF dA [] (flat ss) none by rw[List.take_of_length_le (by omega)]at hall;exact hall);clear hall;by_cases h0:ss=[]
     ·have hl0:ss.length=0:=by rw[h0];rfl
      have q0:((ss.length:Int)==0)=true:=by rw[hl0];rfl
      have ai:=aa (show ir ss size wr (.returned (.tuple #[.int .i64 4,.int .i64 size])) wr from ⟨Below.refl _ _,.inr ⟨HTW.out,.inr ⟨HMA.out,.inl ⟨h0,rfl⟩⟩⟩⟩);clear h0;go_wp2_with fail;exact bodyPost_ret (v:=.tuple #[.int .i64 4,.int .i64 size]) (by simp[results,Tryz.results61,go_sem, *]) rfl ai.out
     ·have hl0:¬ss.length=0:=λh=>h0 (List.eq_nil_of_length_eq_zero h)
      have q0:((ss.length:Int)==0)=false:=by rw[beq_eq_false_iff_ne];omega
      have ai:=aa (show ir ss size wr (.returned (.tuple #[.int .i64 0,.int .i64 0])) wr from ⟨Below.refl _ _,.inr ⟨HTW.out,.inr ⟨HMA.out,.inr ⟨h0,rfl⟩⟩⟩⟩);clear h0;go_wp2_with fail;exact bodyPost_ret (v:=.tuple #[.int .i64 0,.int .i64 0]) (by simp[results,Tryz.results61,go_sem, *]) rfl ai.out
set_option maxRecDepth 20000 in
set_option maxHeartbeats 4000000 in
theorem LZ(B P:Nat)(s:ByteArray)(w:World)(hB:B<=w.heap.size)(hG:fD w B P (.slice none 0 0) [])(hz:s.size<=2000):
  Calls Tryz.prog 60 #[.pointer (some ⟨P,0,none⟩),.string s] w (jQ B P s.data.toList w):=by
 have HG:=aa hG;clear hG;go_enter Tryz.func60,Tryz.ntmps60;go_wp2_with fail;go_loopg [5,6] s.size (λk va vi wr=>Co B P s w k va vi wr)
 case atStart=>exact ⟨0,0,[],_,[],rfl,rfl,by omega,Nat.le_refl _,Nat.zero_le _,λm h1 h2=>by omega,by simp[rest],HG.out,rfl,Below.refl _ _,Nat.le_refl _,λt ht=>by simp at ht⟩
 case round=>
  obtain ⟨a,i,acc,sv,ss,rfl,rfl,hk,hR⟩:=hrel;have HR:=aa hR;have hai:=hR.le;have Rb:B<=wr.heap.size:=Nat.le_trans hB hR.below.size;have c0:=hR.gC.eh.1;have f0:=hR.gC.eh.2;have sS:=hR.few;clear hR HG;by_cases hlt:i<s.size
  ·have g1:decide ((i:Int)<(s.size:Int))=true:=decide_eq_true (by omega);have xG:i+1<=9223372036854775807:=by omega
   obtain ⟨k',rfl⟩:∃k',gk=k'+1:=⟨gk - 1,by omega⟩;by_cases h10:s[i]=10
   ·have q1:(((s[i].toNat:Nat):Int) != 10)=false:=by rw[h10];rfl
    have ZO:min i s.size - a=i - a:=by omega
    have Rl:(s.extract a i).size=i - a:=by rw[ByteArray.size_extract];exact ZO
    have DG:=aa (show rest s a=(s.extract a i).data.toList++10::rest s (i+1) by rw[eF hai,br hlt,h10]);have qE:=aa (yS HR.out.nt);clear h10;by_cases hA:6<i - a/\((s.extract a i).extract 0 6).toList=[115,116,97,116,101,32]
    ·obtain ⟨h6,hst⟩:=hA;have g6:decide ((6:Int)<((i - a:Nat):Int))=true:=decide_eq_true (by omega);have h6':6<=i - a:=by omega
     have h6i:(6:Int)<=((i - a:Nat):Int):=by omega
     have q2:(((s.extract a i).extract 0 6).toList == [115,116,97,116,101,32])=true:=by rw[hst];rfl
     have PZ:=aa (zJ (l:=(s.extract a i).data.toList) (x:=((s.extract a i).extract 6 (i - a)).data.toList) (by rw[<-hst,ByteArray.toList_eq];exact Fb (Nat.le_of_eq Rl)));clear hst;go_wp2_with fail;refine (dH _ _ (by rw[ByteArray.size_extract,Rl];omega)).mono ?_;rintro e w1 ⟨rfl,rfl⟩;by_cases fS:isName ((s.extract a i).extract 6 (i - a)).data.toList=true
     ·rw[fS];have ZP:=aa (PZ.out.trans (if_pos fS));obtain ⟨i0,hi,hz0,hz1,hz3⟩:=info_parts E9;have SM:=aa (HR.out.gC.below ((Below.refl _ _).alloc (Nat.le_refl _) (.cells #[.string ((s.extract a i).extract 6 (i - a)),.slice none 0 0,.int .i64 a] 123)))
      have UW:=ar c0 (.cells #[.string ((s.extract a i).extract 6 (i - a)),.slice none 0 0,.int .i64 a] 123);have HO:Hid (∀u∈[Value.string ((s.extract a i).extract 6 (i - a)),.slice none 0 0,.int .i64 a],u.oneCell'=true):=by intro u hu;simp only[List.mem_cons,List.not_mem_nil,or_false]at hu;rcases hu with rfl|rfl|rfl<;>rfl
      go_wp2_with fail
      go_region_law (refine cO rfl (.tmp 44) (.tmp 49) 115 rfl B 123 i0 (.agg #[.string ⟨#[]⟩,.slice none 0 0,.int .i64 0]) 3 48 Tryz.underlying115 hi hz0 hz1 hz3 rfl (by decide) sv ss.length ((ss.map cd.el).flatMap El.cells) (by rfl) (by exact SM.out.outer) ⟨w1.heap.size,0,none⟩ 1 1 [.string ((s.extract a i).extract 6 (i - a)),.slice none 0 0,.int .i64 a] (by rfl) (by rfl) (by exact aD w1 #[.string ((s.extract a i).extract 6 (i - a)),.slice none 0 0,.int .i64 a] _) HO.out (by unfold maxLen;omega) (by omega) (by simp;omega) ?_;intro v' w3 hown hg _;obtain ⟨g,cap,rfl⟩:=az hown (by omega);obtain ⟨hG3,gY,jZ⟩:=fD.push (W:=(w1.alloc (.cells #[.string ((s.extract a i).extract 6 (i - a)),.slice none 0 0,.int .i64 a] 123)).drew) SM.out.drew (show B<=(w1.alloc (.cells #[.string ((s.extract a i).extract 6 (i - a)),.slice none 0 0,.int .i64 a] 123)).heap.size by simp;omega) hown hg;have g2:w3.cell? ⟨P,0,none⟩=some sv:=(by simp[World.cell?,jZ]);have gf:w3.frozen? ⟨P,0,none⟩=false:=(by simp[World.frozen?,jZ]);have HST:=aa (HR.out.push hlt DG.out qE.out ZP.out Rl hG3 ((((Below.refl B w1).alloc Rb _).drew).trans gY));clear hown hg jZ hG3 gY)
      all_goals
       clear HR DG qE PZ ZP SM HO c0 UW f0 hi hz0 hz1 hz3 fS;go_wp2_with fail;go_roundg k'
       case measure=>omega
       case rel=>exact ⟨i+1,i+1,_,_,_,rfl,rfl,by omega,HST.out⟩
     ·have pR:isName ((s.extract a i).extract 6 (i - a)).data.toList=false:=by simpa using fS
      have ai:=aa (show jQ B P s.data.toList w (.returned (.int .i64 a)) w1 from ⟨HR.out.below,.inl ⟨a,rfl,by rw[HR.out.run,DG.out];exact EX qE.out (by rw[PZ.out,if_neg fS])⟩⟩);rw[pR];clear HR DG qE PZ fS;go_wp2_with fail;go_ret;exact ai.out
    ·by_cases g0:0<i - a
     ·by_cases h6:6<i - a
      case' pos=>
       have g6:decide ((6:Int)<((i - a:Nat):Int))=true:=decide_eq_true (by omega);have h6':6<=i - a:=by omega
       have h6i:(6:Int)<=((i - a:Nat):Int):=by omega
       have hst:¬((s.extract a i).extract 0 6).toList=[115,116,97,116,101,32]:=λh=>hA ⟨h6,h⟩
       have q2:(((s.extract a i).extract 0 6).toList == [115,116,97,116,101,32])=false:=by rw[beq_eq_false_iff_ne];exact hst
       have Vx:=aa (sq (l:=(s.extract a i).data.toList) (λx _ e=>hst (by rw[ByteArray.toList_eq,aQ,e];rfl)) (λe=>by have:=congrArg List.length e;rw[aM,Rl]at this;simp at this;omega));clear hst
      case' neg=>
       have g6:decide ((6:Int)<((i - a:Nat):Int))=false:=decide_eq_false (by omega)
       have Vx:=aa (sq (l:=(s.extract a i).data.toList) (λx hx e=>by
        have:=congrArg List.length e;rw[aM,Rl]at this
        cases x with
        | nil=>exact hx rfl
        | cons y x=>simp at this;omega) (λe=>by have:=congrArg List.length e;rw[aM,Rl]at this;simp at this;omega))
      all_goals
       clear hA;go_wp2_with fail;refine (FB (s.extract a i) wr (by rw[Rl];omega)).mono ?_;rintro e w1 ⟨eR,⟨d,ra,rb,rc,rp,rfl,hd,hw,oz⟩|⟨v,⟨ra,rb,rc,rp,rfl⟩,rfl,hno⟩⟩
       ·obtain ⟨ao,cap,oq,hao⟩:=HR.out.gC.form;subst oq;have tq:=aa (HR.out.gC.below eR);have bA:=aa eR;have c1:w1.cell? ⟨P,0,none⟩=some (.slice ao ss.length cap):=tq.out.eh.1;clear eR c0 f0;by_cases AB:ss=[]
        ·have ai:=aa (λo=>show jQ B P s.data.toList w (.returned (.int .i64 a)) (w1.alloc o) from ⟨(HR.out.below.trans (bA.out.mono Rb)).alloc (Nat.le_trans Rb bA.out.size) o,.inl ⟨a,rfl,by rw[HR.out.run,DG.out];exact Cf qE.out (Vx.out.trans oz) rfl ((xX HR.out.Xg).2 AB)⟩⟩);have hl0:ss.length=0:=by rw[AB];rfl
         have pu:((ss.length:Int)==0)=true:=by rw[hl0];rfl
         have c1':=ar c1 (.cells #[.string ra,.string rb,.string rc,.string rp,.pointer none,.int .i64 0] 128);clear HR DG qE Vx tq oz hw AB;go_wp2_with fail;go_ret;exact ai.out _
        ·obtain ⟨eB,t,rfl⟩:∃eB t,ss=eB++[t]:=⟨ss.dropLast,ss.getLast AB,(List.dropLast_concat_getLast AB).symm⟩;have LP:(eB++[t]).length=eB.length+1:=by simp
         obtain ⟨g,rfl⟩:=hao (by omega);have pu:(((eB++[t]).length:Int)==0)=false:=by rw[beq_eq_false_iff_ne];omega
         have c1':=ar c1 (.cells #[.string ra,.string rb,.string rc,.string rp,.pointer none,.int .i64 0] 128);have abG:=HR.out.Jy t (by simp);have hb1:t.rs.length+1<=maxLen:=by unfold maxLen;omega
         have hb2:(t.rs.length+1)*80<=140737488355328:=by omega
         rw[LP]at c1 c1' pu HR tq sS;obtain ⟨i0,hi,hz0,hz1,hz3⟩:=info_parts Jw;have HW2:=aa (show Below w1.heap.size w1 (w1.alloc (.cells #[.string ra,.string rb,.string rc,.string rp,.pointer none,.int .i64 a] 128)) from (Below.refl _ _).alloc (Nat.le_refl _) _)
         have HE:=aa (af w1 (.cells #[.string ra,.string rb,.string rc,.string rp,.pointer none,.int .i64 a] 128));have HO:Hid (∀u∈([.string ra,.string rb,.string rc,.string rp,.pointer none,.int .i64 a]:List Value),u.oneCell'=true):=by intro u hu;simp only[List.mem_cons,List.not_mem_nil,or_false]at hu;rcases hu with rfl|rfl|rfl|rfl|rfl|rfl<;>rfl
         obtain ⟨q,hq⟩:∃q,q=w1.heap.size:=⟨_,rfl⟩;clear AB hao;go_wp2_with fail;rw[<-hq]at HE ⊢;have HQ:=aa hq;clear hq c1 c1';generalize w1.alloc (.cells #[.string ra,.string rb,.string rc,.string rp,.pointer none,.int .i64 a] 128)=W2 at *;have dW:B<=W2.heap.size:=Nat.le_trans Rb (Nat.le_trans bA.out.size HW2.out.size);have T8:=aa (tq.out.below HW2.out)
         have Wy:=aa (T8.out.below ((Below.refl _ _).alloc (Nat.le_refl _) (.cells #[.string ra,.string rb,.string rc,.string rp,.pointer none,.int .i64 a] 128)));have he:=HE.out;have e0:W2.cell? ⟨q,0,none⟩=some (.string ra):=by simp[World.cell?,he]
         have e1:W2.cell? ⟨q,1,none⟩=some (.string rb):=by simp[World.cell?,he]
         have e2:W2.cell? ⟨q,2,none⟩=some (.string rc):=by simp[World.cell?,he]
         have e3:W2.cell? ⟨q,3,none⟩=some (.string rp):=by simp[World.cell?,he]
         have e4:W2.cell? ⟨q,4,none⟩=some (.pointer none):=by simp[World.cell?,he]
         have e5:W2.cell? ⟨q,5,none⟩=some (.int .i64 a):=by simp[World.cell?,he]
         have d0:W2.cell? ⟨P,0,none⟩=some (.slice (some ⟨g,0,none⟩) (eB.length+1) cap):=T8.out.eh.1;have Y1:=ar d0 (.cells #[.string ra,.string rb,.string rc,.string rp,.pointer none,.int .i64 a] 128);have d1:W2.cell? ⟨g,eB.length*3+1,none⟩=some t.rv:=(T8.out.at (i:=eB.length) (s:=t) (by simp)).2.1
         have d1':=ar d1 (.cells #[.string ra,.string rb,.string rc,.string rp,.pointer none,.int .i64 a] 128);have hwr:IntKind.i64.wrap (eB.length:Int)=(eB.length:Int):=by rw[IntKind.wrap_i64];omega
         have ZN:(eB.length:Int)<(eB.length:Int)+1:=by omega
         have HKEY:=aa (show ∀v' w3,w3.ownsRow B 128 6 v' (t.rs.length+1) ((t.rs.map eo.cells).flatten++[.string ra,.string rb,.string rc,.string rp,.pointer none,.int .i64 a])->(W2.alloc (.cells #[.string ra,.string rb,.string rc,.string rp,.pointer none,.int .i64 a] 128)).drew.grownBy w3 t.rv.ownBlock->(v'.ownBlock=t.rv.ownBlock∨v'.ownBlock=some (W2.alloc (.cells #[.string ra,.string rb,.string rc,.string rp,.pointer none,.int .i64 a] 128)).drew.heap.size) ->
           ∃g' cap',v'=.slice (some ⟨g',0,none⟩) (t.rs.length+1) cap'/\w3.cell? ⟨P,0,none⟩=some (.slice (some ⟨g,0,none⟩) (eB.length+1) cap)/\w3.cell? ⟨g,eB.length*3+1,none⟩=some t.rv/\w3.frozen? ⟨g,eB.length*3+1,none⟩=false/\Hid (Co B P s w k' (.int .i64 ((i+1:Nat):Int)) (.int .i64 ((i+1:Nat):Int)) (w3.setCell ⟨g,eB.length*3+1,none⟩ v')) from λv' w3 hown hg eW=>by
          obtain ⟨g',cap',hv⟩:=az hown (by omega)
          obtain ⟨hG4,jX,xL,hc4,hf4⟩:=fD.grow (W:=(W2.alloc (.cells #[.string ra,.string rb,.string rc,.string rp,.pointer none,.int .i64 a] 128)).drew) (r:=⟨d,ra,rb,rc,rp,.pointer none,a⟩) Wy.out.drew (show B<=(W2.alloc (.cells #[.string ra,.string rb,.string rc,.string rp,.pointer none,.int .i64 a] 128)).heap.size by simp;omega) ⟨hd,hw⟩ hown hg eW
          exact ⟨g',cap',hv,xL,hc4,hf4,⟨i+1,i+1,_,_,_,rfl,rfl,by omega,HR.out.grow (r:=⟨d,ra,rb,rc,rp,.pointer none,a⟩) hlt DG.out qE.out (Vx.out.trans oz) rfl Rl hG4 (((bA.out.mono Rb).trans (HW2.out.mono (Nat.le_trans Rb bA.out.size))).trans ((((Below.refl B W2).alloc dW _).drew).trans jX))⟩⟩)
         have j0:=aa (show (W2.alloc (.cells #[.string ra,.string rb,.string rc,.string rp,.pointer none,.int .i64 a] 128)).ownsRow B 128 6 t.rv t.rs.length (t.rs.map eo.cells).flatten from Wy.out.inner (by simp));have ea:=aa (aD W2 #[.string ra,.string rb,.string rc,.string rp,.pointer none,.int .i64 a] 128)
         have xn:B<=W2.heap.size+1:=by omega
         clear he HR DG qE Vx tq T8 Wy HW2 HE oz hw bA HQ Rl ZO abG
         go_region_law (refine cO rfl (.tmp 89) (.tmp 91) 121 rfl B 128 i0 (.agg #[.string ⟨#[]⟩,.string ⟨#[]⟩,.string ⟨#[]⟩,.string ⟨#[]⟩,.pointer none,.int .i64 0]) 6 80 Tryz.underlying121 hi hz0 hz1 hz3 rfl (by decide) t.rv t.rs.length (t.rs.map eo.cells).flatten (by rfl) j0.out ⟨W2.heap.size,0,none⟩ 1 1 [.string ra,.string rb,.string rc,.string rp,.pointer none,.int .i64 a] (by rfl) (by rfl) ea.out HO.out hb1 hb2 (by simpa using xn) ?_;intro v' w3 hown hg eW;obtain ⟨g',cap',rfl,gP,gg,gf,HST⟩:=HKEY.out _ _ hown hg eW;clear hown hg eW)
         all_goals
          clear HKEY j0 ea HO hi hz0 hz1 hz3 e0 e1 e2 e3 e4 e5 d0 Y1 d1 d1';go_wp2_with fail;go_roundg k'
          case measure=>omega
          case rel=>exact HST.out
       ·have c1:w1.cell? ⟨P,0,none⟩=some sv:=(HR.out.gC.below eR).eh.1;have ai:=aa (λo=>show jQ B P s.data.toList w (.returned (.int .i64 a)) (w1.alloc o) from ⟨(HR.out.below.trans (eR.mono Rb)).alloc (Nat.le_trans Rb eR.size) o,.inl ⟨a,rfl,by rw[HR.out.run,DG.out];exact EX qE.out (Vx.out.trans hno)⟩⟩)
        obtain ⟨ao,cap,oq,hao⟩:=HR.out.gC.form;subst oq;have c1':=ar c1 (.cells #[.string ra,.string rb,.string rc,.string rp,.pointer none,.int .i64 0] 128);clear HR DG qE Vx hno eR hao;go_wp2_with fail;go_ret;exact ai.out _
     ·have g6:decide ((6:Int)<((i - a:Nat):Int))=false:=decide_eq_false (by omega);have g0':i - a=0:=by omega
      have adl:decide ((0:Int)<((i - a:Nat):Int))=false:=decide_eq_false (by omega);have HST:=aa (HR.out.blank hlt DG.out (by omega));clear HR DG qE;go_wp2_with fail;go_roundg k'
      case measure=>omega
      case rel=>exact ⟨i+1,i+1,_,_,_,rfl,rfl,by omega,HST.out⟩
   ·have q1:(((s[i].toNat:Nat):Int) != 10)=true:=by rw[bne_iff_ne];intro e;exact h10 (UInt8.toNat_inj.1 (by simpa using Int.ofNat.inj e))
    have HST:=aa (show iK B P s w a (i+1) acc sv ss wr from { HR.out with
     le:=by omega
     li:=hlt
     nt:=λm h1 h2=>by
      rcases Nat.lt_or_ge m i with h|h
      ·exact HR.out.nt m h1 h
      ·have:m=i:=by omega
       subst this;rw[pP hlt];exact λe=>h10 (Option.some.inj e) })
    clear HR h10;go_wp2_with fail;go_roundg k'
    case measure=>omega
    case rel=>exact ⟨a,i+1,acc,sv,ss,rfl,rfl,by omega,HST.out⟩
  ·have g1:decide ((i:Int)<(s.size:Int))=false:=decide_eq_false (by omega);by_cases wN:a<s.size
   ·have g2:decide ((a:Int)<(s.size:Int))=true:=decide_eq_true (by omega)
    have ai:=aa (show jQ B P s.data.toList w (.returned (.int .i64 a)) wr from ⟨HR.out.below,.inl ⟨a,rfl,by
     rw[HR.out.run];refine zB (λe=>?_) ?_
     ·have:=congrArg List.length e;rw[aX]at this;simp at this;omega
     ·rw[<-cZ (Nat.le_refl s.size)];exact yS λm h1 h2=>HR.out.nt m h1 (by have:=HR.out.li;omega)⟩⟩)
    clear HR;go_wp2_with fail;go_ret;exact ai.out
   ·have g2:decide ((a:Int)<(s.size:Int))=false:=decide_eq_false (by omega)
    have ai:=aa (show jQ B P s.data.toList w (.returned (.int .i64 (-1))) wr from ⟨HR.out.below,.inr ⟨rfl,acc,sv,ss,by rw[HR.out.run,dv (by omega),M9],HR.out.gC,HR.out.Xg,by have:=HR.out.few;have:=HR.out.li;rw[aM];omega,λt ht=>by have:=HR.out.Jy t ht;have:=HR.out.li;rw[aM];omega⟩⟩);clear HR;go_wp2_with fail;go_ret;exact ai.out
end Go.Proofs.YtgncgdkpkkdaeaaGreatDoor
