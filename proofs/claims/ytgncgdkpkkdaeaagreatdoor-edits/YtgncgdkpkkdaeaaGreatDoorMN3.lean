import Derived.Test.YtgncgdkpkkdaeaaGreatDoorMG
namespace Go.Proofs.YtgncgdkpkkdaeaaGreatDoor
open Go.RowKit aO
variable {t:ByteArray} {l r s:List UInt8} {d:Nat} {w w':World}
def ck(l:List UInt8):Option Ln:=
 match cutAt 32 l with
 | (w,some r)=>if w=kz then cu 0 [] r else if w=zA then cu 2 [] r else if w=jM then iI r else none
 | (_,none)=>none
theorem xr(h:(32:UInt8)∉l):ck l=none:=by unfold ck;rw[fX h]
theorem zV{w:List UInt8}(h:l=w++32::r)(hn:(32:UInt8)∉w):ck l=if w=kz then cu 0 [] r else if w=zA then cu 2 [] r else if w=jM then iI r else none:=by unfold ck;rw[h,dU r hn]
theorem r9(h:(32:UInt8)∉l):iI l=none:=by unfold iI;rw[fX h]
theorem uY{w:List UInt8}(h:l=w++32::r)(hn:(32:UInt8)∉w):iI l=if isName w=true then cu 1 w r else none:=by unfold iI;rw[h,dU r hn]
theorem zW(h:(32:UInt8)∉r):bq r=none:=by unfold bq;rw[fX h]
theorem FA{c q:List UInt8}(h:r=c++32::q)(hn:(32:UInt8)∉c):(q.length<2->bq r=none)/\(isName c=true->∀p,q=61::32::p->bq r=some (c,p))/\((∀p,q≠61::32::p)->bq r=none)/\(isName c=false->bq r=none):=by
 have key:(∀p,q≠61::32::p)->bq r=none:=λhq=>by
  unfold bq;rw[h,dU q hn];split
  ·rename_i c' p' hc;simp only[Prod.mk.injEq,Option.some.injEq]at hc;exact absurd hc.2 (hq _)
  ·rfl
 refine ⟨λhl=>key λp hp=>?_,λhc p hp=>?_,key,λhc=>?_⟩
 ·simp only[hp,List.length_cons]at hl;omega
 ·rw[h,hp];exact rZ hc
 ·by_cases hq:∃p,q=61::32::p
  ·obtain ⟨p,rfl⟩:=hq;unfold bq;rw[h,dU _ hn];simp[hc]
  ·exact key λp hp=>hq ⟨p,hp⟩
def iJ:Nat->List UInt8
 | 0=>kz
 | 1=>jM
 | _=>zA
def Vu(v:Value):Prop:=∃a b c p:ByteArray,v=.agg #[.string a,.string b,.string c,.string p,.pointer none,.int .i64 0]
def pZ(s:List UInt8)(w:World)(e:Ending)(w':World):Prop:=
 Below w.heap.size w w'/\((∃(d:Nat) (a b c p:ByteArray),e=.returned (.tuple #[.agg #[.string a,.string b,.string c,.string p,.pointer none,.int .i64 0],.bool true])/\d<=2/\a.data.toList=iJ d/\ck s=some (.rule d b.data.toList c.data.toList p.data.toList)) ∨
  (∃v,Vu v/\e=.returned (.tuple #[v,.bool false])/\ck s=none))
theorem bE(w:World)(o1 o2:Obj):Below w.heap.size w ((w.alloc o1).alloc o2):=((Below.refl _ _).alloc (Nat.le_refl _) _).alloc (by simp) _
theorem fh{o:List UInt8}(h:ck s=cu d o r)(hb:bq r=none)(v:Value)(hv:Vu v)(hB:Below w.heap.size w w'):pZ s w (.returned (.tuple #[v,.bool false])) w':=
 ⟨hB,.inr ⟨v,hv,rfl,by rw[h,cu,hb];rfl⟩⟩
theorem mU(h:ck s=none)(v:Value)(hv:Vu v)(hB:Below w.heap.size w w'):pZ s w (.returned (.tuple #[v,.bool false])) w':=⟨hB,.inr ⟨v,hv,rfl,h⟩⟩
theorem vB{a b c p:ByteArray}(h:ck s=cu d b.data.toList r)(hd:d<=2)(ha:a.data.toList=iJ d)(hb:bq r=some (c.data.toList,p.data.toList))(hB:Below w.heap.size w w'):
  pZ s w (.returned (.tuple #[.agg #[.string a,.string b,.string c,.string p,.pointer none,.int .i64 0],.bool true])) w':=
 ⟨hB,.inl ⟨d,a,b,c,p,rfl,hd,ha,by rw[h,cu,hb];rfl⟩⟩
theorem pQ(h:t.data.toList=l):t=⟨l.toArray⟩:=by apply ByteArray.ext;rw[<-h]
theorem lS(h:¬t.data.toList=l):(t.toList==l)=false:=by rw[beq_eq_false_iff_ne,ByteArray.toList_eq];exact h
set_option maxRecDepth 20000 in
set_option maxHeartbeats 4000000 in
theorem FB(s:ByteArray)(w:World)(hz:s.size<=2000):
  Calls Tryz.prog 85 #[.string s] w (pZ s.data.toList w):=by
 have IQ:rest s 0=s.data.toList:=by simp[rest]
 go_enter Tryz.func85,Tryz.ntmps85;go_wp2_with fail;refine (jO s 0 _ (Nat.zero_le _) (by omega)).mono ?_;rintro e w1 ⟨rfl,⟨t,j,hr,hj,h0,hn,rfl⟩|⟨hn,t,ht,rfl⟩⟩
 ·rw[IQ]at hr;have xS:¬j=0:=by omega
  have pu:((j:Int)==0)=false:=by rw[beq_eq_false_iff_ne];omega
  have HL:=aa (zV hr hn);clear hr hn IQ;by_cases h1:t.data.toList=kz
  ·obtain rfl:t=⟨#[116,111,107,101,110]⟩:=pQ h1;have q1:((⟨#[116,111,107,101,110]⟩:ByteArray).toList == [116,111,107,101,110])=true:=by rw[ByteArray.toList_eq];rfl
   have q2:((⟨#[116,111,107,101,110]⟩:ByteArray).toList == [112,117,115,104])=false:=by rw[ByteArray.toList_eq];rfl
   have jd:=aa (show ck s.data.toList=cu 0 (⟨#[]⟩:ByteArray).data.toList (rest s j) by rw[HL.out];rfl);clear HL h1;go_wp2_with fail;refine (jO s j _ hj (by omega)).mono ?_;rintro e w2 ⟨rfl,⟨c,j2,hr2,ed,h02,pF,rfl⟩|⟨pF,c,hc,rfl⟩⟩
   ·have G0:c.size<=2000:=by have h1:=congrArg List.length hr2;rw[aX,List.length_append,aM]at h1;omega
    have jA:=aa (FA hr2 pF);have xS:¬j2=0:=by omega
    have pu:((j2:Int)==0)=false:=by rw[beq_eq_false_iff_ne];omega
    clear hr2 pF;go_wp2_with fail;refine (dH c _ (by omega)).mono ?_;rintro e w3 ⟨rfl,rfl⟩;by_cases fS:isName c.data.toList=true
    ·by_cases hl2:s.size<j2+2
     ·have ai:=aa (λo1 o2=>fh (w:=w) jd.out (jA.out.1 (by rw[aX];omega)) (.agg #[.string ⟨#[116,111,107,101,110]⟩,.string ⟨#[]⟩,.string c,.string ⟨#[]⟩,.pointer none,.int .i64 0]) ⟨_,_,_,_,rfl⟩ (bE w o1 o2));have DY:j2+2<=9223372036854775807:=by omega
      have hg2:decide ((s.size:Int)<(j2:Int)+2)=true:=decide_eq_true (by omega);clear jA;go_wp2_with fail;exact bodyPost_ret (v:=.tuple #[.agg #[.string ⟨#[116,111,107,101,110]⟩,.string ⟨#[]⟩,.string c,.string ⟨#[]⟩,.pointer none,.int .i64 0],.bool false]) (by simp[results,Tryz.results85,go_sem, *]) rfl (ai.out _ _)
     ·have DY:j2+2<=9223372036854775807:=by omega
      have hg2:decide ((s.size:Int)<(j2:Int)+2)=false:=decide_eq_false (by omega);have Mb:j2+2<=s.size:=by omega
      by_cases heq:(s.extract j2 (j2+2)).toList=[61,32]
      ·have Ed:((s.extract j2 (j2+2)).toList == [61,32])=true:=by rw[heq];rfl
       have ai:=aa (λo1 o2=>vB (w:=w) (d:=0) (a:=⟨#[116,111,107,101,110]⟩) (b:=⟨#[]⟩) jd.out (by omega) rfl (jA.out.2.1 fS (s.extract (j2+2) s.size).data.toList (by rw[eF (Nat.le_add_right j2 2),<-ByteArray.toList_eq,heq,cZ (Nat.le_refl _)];rfl)) (bE w o1 o2));clear jA;go_wp2_with fail
       exact bodyPost_ret (v:=.tuple #[.agg #[.string ⟨#[116,111,107,101,110]⟩,.string ⟨#[]⟩,.string c,.string (s.extract (j2+2) s.size),.pointer none,.int .i64 0],.bool true]) (by simp[results,Tryz.results85,go_sem, *]) rfl (ai.out _ _)
      ·have Ed:((s.extract j2 (j2+2)).toList == [61,32])=false:=by rw[beq_eq_false_iff_ne];exact heq
       have ai:=aa (λo1 o2=>fh (w:=w) jd.out (jA.out.2.2.1 λp hp=>heq (by rw[ByteArray.toList_eq,aQ,<-rest,hp,show j2+2 - j2=2 by omega];rfl)) (.agg #[.string ⟨#[116,111,107,101,110]⟩,.string ⟨#[]⟩,.string c,.string ⟨#[]⟩,.pointer none,.int .i64 0]) ⟨_,_,_,_,rfl⟩ (bE w o1 o2));clear jA heq;go_wp2_with fail
       exact bodyPost_ret (v:=.tuple #[.agg #[.string ⟨#[116,111,107,101,110]⟩,.string ⟨#[]⟩,.string c,.string ⟨#[]⟩,.pointer none,.int .i64 0],.bool false]) (by simp[results,Tryz.results85,go_sem, *]) rfl (ai.out _ _)
    ·have pR:isName c.data.toList=false:=by simpa using fS
     have ai:=aa (λo1 o2=>fh (w:=w) jd.out (jA.out.2.2.2 pR) (.agg #[.string ⟨#[116,111,107,101,110]⟩,.string ⟨#[]⟩,.string c,.string ⟨#[]⟩,.pointer none,.int .i64 0]) ⟨_,_,_,_,rfl⟩ (bE w o1 o2));rw[pR];clear jA fS;go_wp2_with fail
     exact bodyPost_ret (v:=.tuple #[.agg #[.string ⟨#[116,111,107,101,110]⟩,.string ⟨#[]⟩,.string c,.string ⟨#[]⟩,.pointer none,.int .i64 0],.bool false]) (by simp[results,Tryz.results85,go_sem, *]) rfl (ai.out _ _)
   ·have G0:c.size<=2000:=by have h1:=congrArg List.length hc;rw[aX,aM]at h1;omega
    have ai:=aa (λo1 o2=>fh (w:=w) jd.out (zW pF) (.agg #[.string ⟨#[116,111,107,101,110]⟩,.string ⟨#[]⟩,.string c,.string ⟨#[]⟩,.pointer none,.int .i64 0]) ⟨_,_,_,_,rfl⟩ (bE w o1 o2));clear hc pF;go_wp2_with fail;refine (dH c _ (by omega)).mono ?_;rintro e w3 ⟨rfl,rfl⟩
    cases fS:isName c.data.toList with
    | true=>
     go_wp2_with fail;exact bodyPost_ret (v:=.tuple #[.agg #[.string ⟨#[116,111,107,101,110]⟩,.string ⟨#[]⟩,.string c,.string ⟨#[]⟩,.pointer none,.int .i64 0],.bool false]) (by simp[results,Tryz.results85,go_sem, *]) rfl (ai.out _ _)
    | false=>
     go_wp2_with fail;exact bodyPost_ret (v:=.tuple #[.agg #[.string ⟨#[116,111,107,101,110]⟩,.string ⟨#[]⟩,.string c,.string ⟨#[]⟩,.pointer none,.int .i64 0],.bool false]) (by simp[results,Tryz.results85,go_sem, *]) rfl (ai.out _ _)
  ·by_cases h2:t.data.toList=zA
   ·obtain rfl:t=⟨#[112,111,112]⟩:=pQ h2;have q1:((⟨#[112,111,112]⟩:ByteArray).toList == [116,111,107,101,110])=false:=by rw[ByteArray.toList_eq];rfl
    have q2:((⟨#[112,111,112]⟩:ByteArray).toList == [112,117,115,104])=false:=by rw[ByteArray.toList_eq];rfl
    have q3:((⟨#[112,111,112]⟩:ByteArray).toList == [112,111,112])=true:=by rw[ByteArray.toList_eq];rfl
    have jd:=aa (show ck s.data.toList=cu 2 (⟨#[]⟩:ByteArray).data.toList (rest s j) by rw[HL.out];rfl);clear HL h1 h2;go_wp2_with fail;refine (jO s j _ hj (by omega)).mono ?_;rintro e w2 ⟨rfl,⟨c,j2,hr2,ed,h02,pF,rfl⟩|⟨pF,c,hc,rfl⟩⟩
    ·have G0:c.size<=2000:=by have h1:=congrArg List.length hr2;rw[aX,List.length_append,aM]at h1;omega
     have jA:=aa (FA hr2 pF);have xS:¬j2=0:=by omega
     have pu:((j2:Int)==0)=false:=by rw[beq_eq_false_iff_ne];omega
     clear hr2 pF;go_wp2_with fail;refine (dH c _ (by omega)).mono ?_;rintro e w3 ⟨rfl,rfl⟩;by_cases fS:isName c.data.toList=true
     ·by_cases hl2:s.size<j2+2
      ·have ai:=aa (λo1 o2=>fh (w:=w) jd.out (jA.out.1 (by rw[aX];omega)) (.agg #[.string ⟨#[112,111,112]⟩,.string ⟨#[]⟩,.string c,.string ⟨#[]⟩,.pointer none,.int .i64 0]) ⟨_,_,_,_,rfl⟩ (bE w o1 o2));have DY:j2+2<=9223372036854775807:=by omega
       have hg2:decide ((s.size:Int)<(j2:Int)+2)=true:=decide_eq_true (by omega);clear jA;go_wp2_with fail;exact bodyPost_ret (v:=.tuple #[.agg #[.string ⟨#[112,111,112]⟩,.string ⟨#[]⟩,.string c,.string ⟨#[]⟩,.pointer none,.int .i64 0],.bool false]) (by simp[results,Tryz.results85,go_sem, *]) rfl (ai.out _ _)
      ·have DY:j2+2<=9223372036854775807:=by omega
       have hg2:decide ((s.size:Int)<(j2:Int)+2)=false:=decide_eq_false (by omega);have Mb:j2+2<=s.size:=by omega
       by_cases heq:(s.extract j2 (j2+2)).toList=[61,32]
       ·have Ed:((s.extract j2 (j2+2)).toList == [61,32])=true:=by rw[heq];rfl
        have ai:=aa (λo1 o2=>vB (w:=w) (d:=2) (a:=⟨#[112,111,112]⟩) (b:=⟨#[]⟩) jd.out (by omega) rfl (jA.out.2.1 fS (s.extract (j2+2) s.size).data.toList (by rw[eF (Nat.le_add_right j2 2),<-ByteArray.toList_eq,heq,cZ (Nat.le_refl _)];rfl)) (bE w o1 o2));clear jA;go_wp2_with fail
        exact bodyPost_ret (v:=.tuple #[.agg #[.string ⟨#[112,111,112]⟩,.string ⟨#[]⟩,.string c,.string (s.extract (j2+2) s.size),.pointer none,.int .i64 0],.bool true]) (by simp[results,Tryz.results85,go_sem, *]) rfl (ai.out _ _)
       ·have Ed:((s.extract j2 (j2+2)).toList == [61,32])=false:=by rw[beq_eq_false_iff_ne];exact heq
        have ai:=aa (λo1 o2=>fh (w:=w) jd.out (jA.out.2.2.1 λp hp=>heq (by rw[ByteArray.toList_eq,aQ,<-rest,hp,show j2+2 - j2=2 by omega];rfl)) (.agg #[.string ⟨#[112,111,112]⟩,.string ⟨#[]⟩,.string c,.string ⟨#[]⟩,.pointer none,.int .i64 0]) ⟨_,_,_,_,rfl⟩ (bE w o1 o2));clear jA heq;go_wp2_with fail
        exact bodyPost_ret (v:=.tuple #[.agg #[.string ⟨#[112,111,112]⟩,.string ⟨#[]⟩,.string c,.string ⟨#[]⟩,.pointer none,.int .i64 0],.bool false]) (by simp[results,Tryz.results85,go_sem, *]) rfl (ai.out _ _)
     ·have pR:isName c.data.toList=false:=by simpa using fS
      have ai:=aa (λo1 o2=>fh (w:=w) jd.out (jA.out.2.2.2 pR) (.agg #[.string ⟨#[112,111,112]⟩,.string ⟨#[]⟩,.string c,.string ⟨#[]⟩,.pointer none,.int .i64 0]) ⟨_,_,_,_,rfl⟩ (bE w o1 o2));rw[pR];clear jA fS;go_wp2_with fail
      exact bodyPost_ret (v:=.tuple #[.agg #[.string ⟨#[112,111,112]⟩,.string ⟨#[]⟩,.string c,.string ⟨#[]⟩,.pointer none,.int .i64 0],.bool false]) (by simp[results,Tryz.results85,go_sem, *]) rfl (ai.out _ _)
    ·have G0:c.size<=2000:=by have h1:=congrArg List.length hc;rw[aX,aM]at h1;omega
     have ai:=aa (λo1 o2=>fh (w:=w) jd.out (zW pF) (.agg #[.string ⟨#[112,111,112]⟩,.string ⟨#[]⟩,.string c,.string ⟨#[]⟩,.pointer none,.int .i64 0]) ⟨_,_,_,_,rfl⟩ (bE w o1 o2));clear hc pF;go_wp2_with fail;refine (dH c _ (by omega)).mono ?_;rintro e w3 ⟨rfl,rfl⟩
     cases fS:isName c.data.toList with
     | true=>
      go_wp2_with fail;exact bodyPost_ret (v:=.tuple #[.agg #[.string ⟨#[112,111,112]⟩,.string ⟨#[]⟩,.string c,.string ⟨#[]⟩,.pointer none,.int .i64 0],.bool false]) (by simp[results,Tryz.results85,go_sem, *]) rfl (ai.out _ _)
     | false=>
      go_wp2_with fail;exact bodyPost_ret (v:=.tuple #[.agg #[.string ⟨#[112,111,112]⟩,.string ⟨#[]⟩,.string c,.string ⟨#[]⟩,.pointer none,.int .i64 0],.bool false]) (by simp[results,Tryz.results85,go_sem, *]) rfl (ai.out _ _)
   ·by_cases h3:t.data.toList=jM
    ·obtain rfl:t=⟨#[112,117,115,104]⟩:=pQ h3;have q1:((⟨#[112,117,115,104]⟩:ByteArray).toList == [116,111,107,101,110])=false:=by rw[ByteArray.toList_eq];rfl
     have q2:((⟨#[112,117,115,104]⟩:ByteArray).toList == [112,117,115,104])=true:=by rw[ByteArray.toList_eq];rfl
     have NK:=aa (show ck s.data.toList=iI (rest s j) by rw[HL.out];rfl);clear HL h1 h2 h3;go_wp2_with fail;refine (jO s j _ hj (by omega)).mono ?_;rintro e w2 ⟨rfl,⟨o,j1,hr1,K8,h01,sX,rfl⟩|⟨sX,o,ho,rfl⟩⟩
     ·have hoz:o.size<=2000:=by have h1:=congrArg List.length hr1;rw[aX,List.length_append,aM]at h1;omega
      have adg:¬j1=0:=by omega
      have adh:((j1:Int)==0)=false:=by rw[beq_eq_false_iff_ne];omega
      have HPH:=aa (uY hr1 sX);clear hr1 sX;go_wp2_with fail;refine (dH o _ (by omega)).mono ?_;rintro e w3 ⟨rfl,rfl⟩;by_cases hno:isName o.data.toList=true
      ·have jd:=aa (show ck s.data.toList=cu 1 o.data.toList (rest s j1) by rw[NK.out,HPH.out,if_pos hno]);clear NK HPH;rw[hno];go_wp2_with fail;refine (jO s j1 _ K8 (by omega)).mono ?_;rintro e w2 ⟨rfl,⟨c,j2,hr2,ed,h02,pF,rfl⟩|⟨pF,c,hc,rfl⟩⟩
       ·have G0:c.size<=2000:=by have h1:=congrArg List.length hr2;rw[aX,List.length_append,aM]at h1;omega
        have jA:=aa (FA hr2 pF);have xS:¬j2=0:=by omega
        have pu:((j2:Int)==0)=false:=by rw[beq_eq_false_iff_ne];omega
        clear hr2 pF;go_wp2_with fail;refine (dH c _ (by omega)).mono ?_;rintro e w3 ⟨rfl,rfl⟩;by_cases fS:isName c.data.toList=true
        ·by_cases hl2:s.size<j2+2
         ·have ai:=aa (λo1 o2=>fh (w:=w) jd.out (jA.out.1 (by rw[aX];omega)) (.agg #[.string ⟨#[112,117,115,104]⟩,.string o,.string c,.string ⟨#[]⟩,.pointer none,.int .i64 0]) ⟨_,_,_,_,rfl⟩ (bE w o1 o2));have DY:j2+2<=9223372036854775807:=by omega
          have hg2:decide ((s.size:Int)<(j2:Int)+2)=true:=decide_eq_true (by omega);clear jA;go_wp2_with fail;exact bodyPost_ret (v:=.tuple #[.agg #[.string ⟨#[112,117,115,104]⟩,.string o,.string c,.string ⟨#[]⟩,.pointer none,.int .i64 0],.bool false]) (by simp[results,Tryz.results85,go_sem, *]) rfl (ai.out _ _)
         ·have DY:j2+2<=9223372036854775807:=by omega
          have hg2:decide ((s.size:Int)<(j2:Int)+2)=false:=decide_eq_false (by omega);have Mb:j2+2<=s.size:=by omega
          by_cases heq:(s.extract j2 (j2+2)).toList=[61,32]
          ·have Ed:((s.extract j2 (j2+2)).toList == [61,32])=true:=by rw[heq];rfl
           have ai:=aa (λo1 o2=>vB (w:=w) (d:=1) (a:=⟨#[112,117,115,104]⟩) (b:=o) jd.out (by omega) rfl (jA.out.2.1 fS (s.extract (j2+2) s.size).data.toList (by rw[eF (Nat.le_add_right j2 2),<-ByteArray.toList_eq,heq,cZ (Nat.le_refl _)];rfl)) (bE w o1 o2));clear jA;go_wp2_with fail
           exact bodyPost_ret (v:=.tuple #[.agg #[.string ⟨#[112,117,115,104]⟩,.string o,.string c,.string (s.extract (j2+2) s.size),.pointer none,.int .i64 0],.bool true]) (by simp[results,Tryz.results85,go_sem, *]) rfl (ai.out _ _)
          ·have Ed:((s.extract j2 (j2+2)).toList == [61,32])=false:=by rw[beq_eq_false_iff_ne];exact heq
           have ai:=aa (λo1 o2=>fh (w:=w) jd.out (jA.out.2.2.1 λp hp=>heq (by rw[ByteArray.toList_eq,aQ,<-rest,hp,show j2+2 - j2=2 by omega];rfl)) (.agg #[.string ⟨#[112,117,115,104]⟩,.string o,.string c,.string ⟨#[]⟩,.pointer none,.int .i64 0]) ⟨_,_,_,_,rfl⟩ (bE w o1 o2));clear jA heq;go_wp2_with fail
           exact bodyPost_ret (v:=.tuple #[.agg #[.string ⟨#[112,117,115,104]⟩,.string o,.string c,.string ⟨#[]⟩,.pointer none,.int .i64 0],.bool false]) (by simp[results,Tryz.results85,go_sem, *]) rfl (ai.out _ _)
        ·have pR:isName c.data.toList=false:=by simpa using fS
         have ai:=aa (λo1 o2=>fh (w:=w) jd.out (jA.out.2.2.2 pR) (.agg #[.string ⟨#[112,117,115,104]⟩,.string o,.string c,.string ⟨#[]⟩,.pointer none,.int .i64 0]) ⟨_,_,_,_,rfl⟩ (bE w o1 o2));rw[pR];clear jA fS;go_wp2_with fail
         exact bodyPost_ret (v:=.tuple #[.agg #[.string ⟨#[112,117,115,104]⟩,.string o,.string c,.string ⟨#[]⟩,.pointer none,.int .i64 0],.bool false]) (by simp[results,Tryz.results85,go_sem, *]) rfl (ai.out _ _)
       ·have G0:c.size<=2000:=by have h1:=congrArg List.length hc;rw[aX,aM]at h1;omega
        have ai:=aa (λo1 o2=>fh (w:=w) jd.out (zW pF) (.agg #[.string ⟨#[112,117,115,104]⟩,.string o,.string c,.string ⟨#[]⟩,.pointer none,.int .i64 0]) ⟨_,_,_,_,rfl⟩ (bE w o1 o2));clear hc pF;go_wp2_with fail;refine (dH c _ (by omega)).mono ?_;rintro e w3 ⟨rfl,rfl⟩
        cases fS:isName c.data.toList with
        | true=>
         go_wp2_with fail;exact bodyPost_ret (v:=.tuple #[.agg #[.string ⟨#[112,117,115,104]⟩,.string o,.string c,.string ⟨#[]⟩,.pointer none,.int .i64 0],.bool false]) (by simp[results,Tryz.results85,go_sem, *]) rfl (ai.out _ _)
        | false=>
         go_wp2_with fail;exact bodyPost_ret (v:=.tuple #[.agg #[.string ⟨#[112,117,115,104]⟩,.string o,.string c,.string ⟨#[]⟩,.pointer none,.int .i64 0],.bool false]) (by simp[results,Tryz.results85,go_sem, *]) rfl (ai.out _ _)
      ·have abF:isName o.data.toList=false:=by simpa using hno
       have ai:=aa (λo1 o2=>mU (w:=w) (show ck s.data.toList=none by rw[NK.out,HPH.out,if_neg hno]) (.agg #[.string ⟨#[112,117,115,104]⟩,.string o,.string ⟨#[]⟩,.string ⟨#[]⟩,.pointer none,.int .i64 0]) ⟨_,_,_,_,rfl⟩ (bE w o1 o2));rw[abF];clear NK HPH hno;go_wp2_with fail
       exact bodyPost_ret (v:=.tuple #[.agg #[.string ⟨#[112,117,115,104]⟩,.string o,.string ⟨#[]⟩,.string ⟨#[]⟩,.pointer none,.int .i64 0],.bool false]) (by simp[results,Tryz.results85,go_sem, *]) rfl (ai.out _ _)
     ·have hoz:o.size<=2000:=by have h1:=congrArg List.length ho;rw[aX,aM]at h1;omega
      have ai:=aa (λo1 o2=>mU (w:=w) (show ck s.data.toList=none by rw[NK.out,r9 sX]) (.agg #[.string ⟨#[112,117,115,104]⟩,.string o,.string ⟨#[]⟩,.string ⟨#[]⟩,.pointer none,.int .i64 0]) ⟨_,_,_,_,rfl⟩ (bE w o1 o2));clear NK sX ho;go_wp2_with fail;refine (dH o _ (by omega)).mono ?_;rintro e w3 ⟨rfl,rfl⟩
      cases hno:isName o.data.toList with
      | true=>
       go_wp2_with fail;exact bodyPost_ret (v:=.tuple #[.agg #[.string ⟨#[112,117,115,104]⟩,.string o,.string ⟨#[]⟩,.string ⟨#[]⟩,.pointer none,.int .i64 0],.bool false]) (by simp[results,Tryz.results85,go_sem, *]) rfl (ai.out _ _)
      | false=>
       go_wp2_with fail;exact bodyPost_ret (v:=.tuple #[.agg #[.string ⟨#[112,117,115,104]⟩,.string o,.string ⟨#[]⟩,.string ⟨#[]⟩,.pointer none,.int .i64 0],.bool false]) (by simp[results,Tryz.results85,go_sem, *]) rfl (ai.out _ _)
    ·have q1:=lS h1;have q2:=lS h3;have q3:=lS h2;unfold kz at q1;unfold jM at q2;unfold zA at q3;have ai:=aa (λo1 o2=>mU (w:=w) (show ck s.data.toList=none by rw[HL.out,if_neg h1,if_neg h2,if_neg h3]) (.agg #[.string t,.string ⟨#[]⟩,.string ⟨#[]⟩,.string ⟨#[]⟩,.pointer none,.int .i64 0]) ⟨_,_,_,_,rfl⟩ (bE w o1 o2));clear HL h1 h2 h3
     go_wp2_with fail;exact bodyPost_ret (v:=.tuple #[.agg #[.string t,.string ⟨#[]⟩,.string ⟨#[]⟩,.string ⟨#[]⟩,.pointer none,.int .i64 0],.bool false]) (by simp[results,Tryz.results85,go_sem, *]) rfl (ai.out _ _)
 ·have ai:=aa (λo1 o2=>mU (w:=w) (show ck s.data.toList=none by rw[<-IQ];exact xr hn) (.agg #[.string t,.string ⟨#[]⟩,.string ⟨#[]⟩,.string ⟨#[]⟩,.pointer none,.int .i64 0]) ⟨_,_,_,_,rfl⟩ (bE w o1 o2));clear hn ht IQ;go_wp2_with fail
  exact bodyPost_ret (v:=.tuple #[.agg #[.string t,.string ⟨#[]⟩,.string ⟨#[]⟩,.string ⟨#[]⟩,.pointer none,.int .i64 0],.bool false]) (by simp[results,Tryz.results85,go_sem, *]) rfl (ai.out _ _)
end Go.Proofs.YtgncgdkpkkdaeaaGreatDoor
