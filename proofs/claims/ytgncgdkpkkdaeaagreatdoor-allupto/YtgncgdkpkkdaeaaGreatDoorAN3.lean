import Derived.Test.YtgncgdkpkkdaeaaGreatDoorAG
set_option maxRecDepth 20000
set_option maxHeartbeats 4000000
namespace Go.Proofs.YtgncgdkpkkdaeaaGreatDoor
open Go.RowKit bu
variable {t:ByteArray} {l r s:List UInt8} {d:Nat} {w w':World}
def cD(l:List UInt8):Option Ln:=
 match cutAt 32 l with
 | (w,some r)=>if w=ld then cI 0 [] r else if w=Ar then cI 2 [] r else if w=ki then jb r else none
 | (_,none)=>none
theorem ya(h:(32:UInt8)∉l):cD l=none:=by unfold cD;rw[gL h]
theorem AX{w:List UInt8}(h:l=w++32::r)(hn:(32:UInt8)∉w):cD l=if w=ld then cI 0 [] r else if w=Ar then cI 2 [] r else if w=ki then jb r else none:=by unfold cD;rw[h,eo r hn]
theorem tu(h:(32:UInt8)∉l):jb l=none:=by unfold jb;rw[gL h]
theorem vY{w:List UInt8}(h:l=w++32::r)(hn:(32:UInt8)∉w):jb l=if isName w=true then cI 1 w r else none:=by unfold jb;rw[h,eo r hn]
theorem AY(h:(32:UInt8)∉r):bA r=none:=by unfold bA;rw[gL h]
theorem Gv{c q:List UInt8}(h:r=c++32::q)(hn:(32:UInt8)∉c):(q.length<2->bA r=none)/\(isName c=true->∀p,q=61::32::p->bA r=some (c,p))/\((∀p,q≠61::32::p)->bA r=none)/\(isName c=false->bA r=none):=by
 have key:(∀p,q≠61::32::p)->bA r=none:=λhq=>by
  unfold bA;rw[h,eo q hn];split
  ·rename_i c' p' hc;simp only[Prod.mk.injEq,fA]at hc;exact absurd hc.2 (hq _)
  ·rfl
 refine ⟨λhl=>key λp hp=>?_,λhc p hp=>?_,key,λhc=>?_⟩
 ·simp only[hp,fe]at hl;omega
 ·rw[h,hp];exact tq hc
 ·by_cases hq:∃p,q=61::32::p
  ·obtain ⟨p,rfl⟩:=hq;unfold bA;rw[h,eo _ hn];simp[hc]
  ·exact key λp hp=>hq ⟨p,hp⟩
def jc:Nat->List UInt8
 | 0=>ld
 | 1=>ki
 | _=>Ar
def Wj(v:Value):Prop:=∃a b c p:ByteArray,v=.agg #[.string a,.string b,.string c,.string p,.pointer none,.int .i64 0]
def qK(s:List UInt8)(w:World)(e:Ending)(w':World):Prop:=
 Below w.heap.size w w'/\((∃(d:Nat) (a b c p:ByteArray),e=.returned (.tuple #[.agg #[.string a,.string b,.string c,.string p,.pointer none,.int .i64 0],.bool true])/\d<=2/\a.data.toList=jc d/\cD s=some (.rule d b.data.toList c.data.toList p.data.toList)) ∨
  (∃v,Wj v/\e=.returned (.tuple #[v,.bool false])/\cD s=none))
theorem bK(w:World)(o1 o2:Obj):Below w.heap.size w ((w.alloc o1).alloc o2):=(cq _ _).alloc (by simp) _
theorem fJ{o:List UInt8}(h:cD s=cI d o r)(hb:bA r=none)(v:Value)(hv:Wj v)(hB:Below w.heap.size w w'):qK s w (.returned (.tuple #[v,.bool false])) w':=
 ⟨hB,.inr ⟨v,hv,rfl,by rw[h,cI,hb];rfl⟩⟩
theorem nP(h:cD s=none)(v:Value)(hv:Wj v)(hB:Below w.heap.size w w'):qK s w (.returned (.tuple #[v,.bool false])) w':=⟨hB,.inr ⟨v,hv,rfl,h⟩⟩
theorem wJ{a b c p:ByteArray}(h:cD s=cI d b.data.toList r)(hd:d<=2)(ha:a.data.toList=jc d)(hb:bA r=some (c.data.toList,p.data.toList))(hB:Below w.heap.size w w'):
  qK s w (.returned (.tuple #[.agg #[.string a,.string b,.string c,.string p,.pointer none,.int .i64 0],.bool true])) w':=
 ⟨hB,.inl ⟨d,a,b,c,p,rfl,hd,ha,by rw[h,cI,hb];rfl⟩⟩
theorem qB(h:t.data.toList=l):t=⟨l.toArray⟩:=by apply ByteArray.ext;rw[<-h]
theorem mL(h:¬t.data.toList=l):(t.toList==l)=false:=by rw[er,ByteArray.toList_eq];exact h
theorem Gw(s:ByteArray)(w:World)(hz:s.size<=2000):
  Calls Tryz.prog 85 #[.string s] w (qK s.data.toList w):=by
 have JC:rest s 0=s.data.toList:=by simp[rest]
 go_enter Tryz.func85,Tryz.ntmps85;go_wp2_with fail;refine (ko s 0 _ (Nat.zero_le _) (by omega)).mono ?_;rintro e w1 ⟨rfl,⟨t,j,hr,hj,h0,hn,rfl⟩|⟨hn,t,ht,rfl⟩⟩
 ·rw[JC]at hr;have yJ:¬j=0:=by omega
  have pV:((j:Int)==0)=false:=by rw[er];omega
  have HL:=aa (AX hr hn);clear hr hn JC;by_cases h1:t.data.toList=ld
  ·obtain rfl:t=⟨#[116,111,107,101,110]⟩:=qB h1;have q1:((⟨#[116,111,107,101,110]⟩:ByteArray).toList == [116,111,107,101,110])=true:=by rw[ByteArray.toList_eq];rfl
   have q2:((⟨#[116,111,107,101,110]⟩:ByteArray).toList == [112,117,115,104])=false:=by rw[ByteArray.toList_eq];rfl
   have jA:=aa (show cD s.data.toList=cI 0 (⟨#[]⟩:ByteArray).data.toList (rest s j) by rw[HL.out];rfl);clear HL h1;go_wp2_with fail;refine (ko s j _ hj (by omega)).mono ?_;rintro e w2 ⟨rfl,⟨c,j2,hr2,ez,h02,qh,rfl⟩|⟨qh,c,hc,rfl⟩⟩
   ·have Ir:c.size<=2000:=by have h1:=congrArg List.length hr2;rw[aY,dG,aO]at h1;omega
    have jT:=aa (Gv hr2 qh);have yJ:¬j2=0:=by omega
    have pV:((j2:Int)==0)=false:=by rw[er];omega
    clear hr2 qh;go_wp2_with fail;refine (dS c _ (by omega)).mono ?_;rintro e w3 ⟨rfl,rfl⟩;by_cases gF:isName c.data.toList=true
    ·by_cases hl2:s.size<j2+2
     ·have aq:=aa (λo1 o2=>fJ (w:=w) jA.out (jT.out.1 (by rw[aY];omega)) (.agg #[.string ⟨#[116,111,107,101,110]⟩,.string ⟨#[]⟩,.string c,.string ⟨#[]⟩,.pointer none,.int .i64 0]) ⟨_,_,_,_,rfl⟩ (bK w o1 o2));have EK:j2+2<=9223372036854775807:=by omega
      have hg2:decide ((s.size:Int)<(j2:Int)+2)=true:=cF (by omega);clear jT;go_wp2_with fail;exact bodyPost_ret (v:=.tuple #[.agg #[.string ⟨#[116,111,107,101,110]⟩,.string ⟨#[]⟩,.string c,.string ⟨#[]⟩,.pointer none,.int .i64 0],.bool false]) (by simp[results,Tryz.results85,go_sem, *]) rfl (aq.out _ _)
     ·have EK:j2+2<=9223372036854775807:=by omega
      have hg2:decide ((s.size:Int)<(j2:Int)+2)=false:=bV (by omega);have Fb:j2+2<=s.size:=by omega
      by_cases heq:(s.extract j2 (j2+2)).toList=[61,32]
      ·have EY:((s.extract j2 (j2+2)).toList == [61,32])=true:=by rw[heq];rfl
       have aq:=aa (λo1 o2=>wJ (w:=w) (d:=0) (a:=⟨#[116,111,107,101,110]⟩) (b:=⟨#[]⟩) jA.out (by omega) rfl (jT.out.2.1 gF (s.extract (j2+2) s.size).data.toList (by rw[eT (Nat.le_add_right j2 2),<-ByteArray.toList_eq,heq,dn (bc _)];rfl)) (bK w o1 o2));clear jT;go_wp2_with fail
       exact bodyPost_ret (v:=.tuple #[.agg #[.string ⟨#[116,111,107,101,110]⟩,.string ⟨#[]⟩,.string c,.string (s.extract (j2+2) s.size),.pointer none,.int .i64 0],.bool true]) (by simp[results,Tryz.results85,go_sem, *]) rfl (aq.out _ _)
      ·have EY:((s.extract j2 (j2+2)).toList == [61,32])=false:=by rw[er];exact heq
       have aq:=aa (λo1 o2=>fJ (w:=w) jA.out (jT.out.2.2.1 λp hp=>heq (by rw[ByteArray.toList_eq,aQ,<-rest,hp,show j2+2 - j2=2 by omega];rfl)) (.agg #[.string ⟨#[116,111,107,101,110]⟩,.string ⟨#[]⟩,.string c,.string ⟨#[]⟩,.pointer none,.int .i64 0]) ⟨_,_,_,_,rfl⟩ (bK w o1 o2));clear jT heq;go_wp2_with fail
       exact bodyPost_ret (v:=.tuple #[.agg #[.string ⟨#[116,111,107,101,110]⟩,.string ⟨#[]⟩,.string c,.string ⟨#[]⟩,.pointer none,.int .i64 0],.bool false]) (by simp[results,Tryz.results85,go_sem, *]) rfl (aq.out _ _)
    ·have qC:isName c.data.toList=false:=by simpa using gF
     have aq:=aa (λo1 o2=>fJ (w:=w) jA.out (jT.out.2.2.2 qC) (.agg #[.string ⟨#[116,111,107,101,110]⟩,.string ⟨#[]⟩,.string c,.string ⟨#[]⟩,.pointer none,.int .i64 0]) ⟨_,_,_,_,rfl⟩ (bK w o1 o2));rw[qC];clear jT gF;go_wp2_with fail
     exact bodyPost_ret (v:=.tuple #[.agg #[.string ⟨#[116,111,107,101,110]⟩,.string ⟨#[]⟩,.string c,.string ⟨#[]⟩,.pointer none,.int .i64 0],.bool false]) (by simp[results,Tryz.results85,go_sem, *]) rfl (aq.out _ _)
   ·have Ir:c.size<=2000:=by have h1:=congrArg List.length hc;rw[aY,aO]at h1;omega
    have aq:=aa (λo1 o2=>fJ (w:=w) jA.out (AY qh) (.agg #[.string ⟨#[116,111,107,101,110]⟩,.string ⟨#[]⟩,.string c,.string ⟨#[]⟩,.pointer none,.int .i64 0]) ⟨_,_,_,_,rfl⟩ (bK w o1 o2));clear hc qh;go_wp2_with fail;refine (dS c _ (by omega)).mono ?_;rintro e w3 ⟨rfl,rfl⟩
    cases gF:isName c.data.toList with
    | true=>
     go_wp2_with fail;exact bodyPost_ret (v:=.tuple #[.agg #[.string ⟨#[116,111,107,101,110]⟩,.string ⟨#[]⟩,.string c,.string ⟨#[]⟩,.pointer none,.int .i64 0],.bool false]) (by simp[results,Tryz.results85,go_sem, *]) rfl (aq.out _ _)
    | false=>
     go_wp2_with fail;exact bodyPost_ret (v:=.tuple #[.agg #[.string ⟨#[116,111,107,101,110]⟩,.string ⟨#[]⟩,.string c,.string ⟨#[]⟩,.pointer none,.int .i64 0],.bool false]) (by simp[results,Tryz.results85,go_sem, *]) rfl (aq.out _ _)
  ·by_cases h2:t.data.toList=Ar
   ·obtain rfl:t=⟨#[112,111,112]⟩:=qB h2;have q1:((⟨#[112,111,112]⟩:ByteArray).toList == [116,111,107,101,110])=false:=by rw[ByteArray.toList_eq];rfl
    have q2:((⟨#[112,111,112]⟩:ByteArray).toList == [112,117,115,104])=false:=by rw[ByteArray.toList_eq];rfl
    have q3:((⟨#[112,111,112]⟩:ByteArray).toList == [112,111,112])=true:=by rw[ByteArray.toList_eq];rfl
    have jA:=aa (show cD s.data.toList=cI 2 (⟨#[]⟩:ByteArray).data.toList (rest s j) by rw[HL.out];rfl);clear HL h1 h2;go_wp2_with fail;refine (ko s j _ hj (by omega)).mono ?_;rintro e w2 ⟨rfl,⟨c,j2,hr2,ez,h02,qh,rfl⟩|⟨qh,c,hc,rfl⟩⟩
    ·have Ir:c.size<=2000:=by have h1:=congrArg List.length hr2;rw[aY,dG,aO]at h1;omega
     have jT:=aa (Gv hr2 qh);have yJ:¬j2=0:=by omega
     have pV:((j2:Int)==0)=false:=by rw[er];omega
     clear hr2 qh;go_wp2_with fail;refine (dS c _ (by omega)).mono ?_;rintro e w3 ⟨rfl,rfl⟩;by_cases gF:isName c.data.toList=true
     ·by_cases hl2:s.size<j2+2
      ·have aq:=aa (λo1 o2=>fJ (w:=w) jA.out (jT.out.1 (by rw[aY];omega)) (.agg #[.string ⟨#[112,111,112]⟩,.string ⟨#[]⟩,.string c,.string ⟨#[]⟩,.pointer none,.int .i64 0]) ⟨_,_,_,_,rfl⟩ (bK w o1 o2));have EK:j2+2<=9223372036854775807:=by omega
       have hg2:decide ((s.size:Int)<(j2:Int)+2)=true:=cF (by omega);clear jT;go_wp2_with fail;exact bodyPost_ret (v:=.tuple #[.agg #[.string ⟨#[112,111,112]⟩,.string ⟨#[]⟩,.string c,.string ⟨#[]⟩,.pointer none,.int .i64 0],.bool false]) (by simp[results,Tryz.results85,go_sem, *]) rfl (aq.out _ _)
      ·have EK:j2+2<=9223372036854775807:=by omega
       have hg2:decide ((s.size:Int)<(j2:Int)+2)=false:=bV (by omega);have Fb:j2+2<=s.size:=by omega
       by_cases heq:(s.extract j2 (j2+2)).toList=[61,32]
       ·have EY:((s.extract j2 (j2+2)).toList == [61,32])=true:=by rw[heq];rfl
        have aq:=aa (λo1 o2=>wJ (w:=w) (d:=2) (a:=⟨#[112,111,112]⟩) (b:=⟨#[]⟩) jA.out (by omega) rfl (jT.out.2.1 gF (s.extract (j2+2) s.size).data.toList (by rw[eT (Nat.le_add_right j2 2),<-ByteArray.toList_eq,heq,dn (bc _)];rfl)) (bK w o1 o2));clear jT;go_wp2_with fail
        exact bodyPost_ret (v:=.tuple #[.agg #[.string ⟨#[112,111,112]⟩,.string ⟨#[]⟩,.string c,.string (s.extract (j2+2) s.size),.pointer none,.int .i64 0],.bool true]) (by simp[results,Tryz.results85,go_sem, *]) rfl (aq.out _ _)
       ·have EY:((s.extract j2 (j2+2)).toList == [61,32])=false:=by rw[er];exact heq
        have aq:=aa (λo1 o2=>fJ (w:=w) jA.out (jT.out.2.2.1 λp hp=>heq (by rw[ByteArray.toList_eq,aQ,<-rest,hp,show j2+2 - j2=2 by omega];rfl)) (.agg #[.string ⟨#[112,111,112]⟩,.string ⟨#[]⟩,.string c,.string ⟨#[]⟩,.pointer none,.int .i64 0]) ⟨_,_,_,_,rfl⟩ (bK w o1 o2));clear jT heq;go_wp2_with fail
        exact bodyPost_ret (v:=.tuple #[.agg #[.string ⟨#[112,111,112]⟩,.string ⟨#[]⟩,.string c,.string ⟨#[]⟩,.pointer none,.int .i64 0],.bool false]) (by simp[results,Tryz.results85,go_sem, *]) rfl (aq.out _ _)
     ·have qC:isName c.data.toList=false:=by simpa using gF
      have aq:=aa (λo1 o2=>fJ (w:=w) jA.out (jT.out.2.2.2 qC) (.agg #[.string ⟨#[112,111,112]⟩,.string ⟨#[]⟩,.string c,.string ⟨#[]⟩,.pointer none,.int .i64 0]) ⟨_,_,_,_,rfl⟩ (bK w o1 o2));rw[qC];clear jT gF;go_wp2_with fail
      exact bodyPost_ret (v:=.tuple #[.agg #[.string ⟨#[112,111,112]⟩,.string ⟨#[]⟩,.string c,.string ⟨#[]⟩,.pointer none,.int .i64 0],.bool false]) (by simp[results,Tryz.results85,go_sem, *]) rfl (aq.out _ _)
    ·have Ir:c.size<=2000:=by have h1:=congrArg List.length hc;rw[aY,aO]at h1;omega
     have aq:=aa (λo1 o2=>fJ (w:=w) jA.out (AY qh) (.agg #[.string ⟨#[112,111,112]⟩,.string ⟨#[]⟩,.string c,.string ⟨#[]⟩,.pointer none,.int .i64 0]) ⟨_,_,_,_,rfl⟩ (bK w o1 o2));clear hc qh;go_wp2_with fail;refine (dS c _ (by omega)).mono ?_;rintro e w3 ⟨rfl,rfl⟩
     cases gF:isName c.data.toList with
     | true=>
      go_wp2_with fail;exact bodyPost_ret (v:=.tuple #[.agg #[.string ⟨#[112,111,112]⟩,.string ⟨#[]⟩,.string c,.string ⟨#[]⟩,.pointer none,.int .i64 0],.bool false]) (by simp[results,Tryz.results85,go_sem, *]) rfl (aq.out _ _)
     | false=>
      go_wp2_with fail;exact bodyPost_ret (v:=.tuple #[.agg #[.string ⟨#[112,111,112]⟩,.string ⟨#[]⟩,.string c,.string ⟨#[]⟩,.pointer none,.int .i64 0],.bool false]) (by simp[results,Tryz.results85,go_sem, *]) rfl (aq.out _ _)
   ·by_cases h3:t.data.toList=ki
    ·obtain rfl:t=⟨#[112,117,115,104]⟩:=qB h3;have q1:((⟨#[112,117,115,104]⟩:ByteArray).toList == [116,111,107,101,110])=false:=by rw[ByteArray.toList_eq];rfl
     have q2:((⟨#[112,117,115,104]⟩:ByteArray).toList == [112,117,115,104])=true:=by rw[ByteArray.toList_eq];rfl
     have OJ:=aa (show cD s.data.toList=jb (rest s j) by rw[HL.out];rfl);clear HL h1 h2 h3;go_wp2_with fail;refine (ko s j _ hj (by omega)).mono ?_;rintro e w2 ⟨rfl,⟨o,j1,hr1,LX,h01,tX,rfl⟩|⟨tX,o,ho,rfl⟩⟩
     ·have hoz:o.size<=2000:=by have h1:=congrArg List.length hr1;rw[aY,dG,aO]at h1;omega
      have adH:¬j1=0:=by omega
      have adI:((j1:Int)==0)=false:=by rw[er];omega
      have HPH:=aa (vY hr1 tX);clear hr1 tX;go_wp2_with fail;refine (dS o _ (by omega)).mono ?_;rintro e w3 ⟨rfl,rfl⟩;by_cases hno:isName o.data.toList=true
      ·have jA:=aa (show cD s.data.toList=cI 1 o.data.toList (rest s j1) by rw[OJ.out,HPH.out,if_pos hno]);clear OJ HPH;rw[hno];go_wp2_with fail;refine (ko s j1 _ LX (by omega)).mono ?_;rintro e w2 ⟨rfl,⟨c,j2,hr2,ez,h02,qh,rfl⟩|⟨qh,c,hc,rfl⟩⟩
       ·have Ir:c.size<=2000:=by have h1:=congrArg List.length hr2;rw[aY,dG,aO]at h1;omega
        have jT:=aa (Gv hr2 qh);have yJ:¬j2=0:=by omega
        have pV:((j2:Int)==0)=false:=by rw[er];omega
        clear hr2 qh;go_wp2_with fail;refine (dS c _ (by omega)).mono ?_;rintro e w3 ⟨rfl,rfl⟩;by_cases gF:isName c.data.toList=true
        ·by_cases hl2:s.size<j2+2
         ·have aq:=aa (λo1 o2=>fJ (w:=w) jA.out (jT.out.1 (by rw[aY];omega)) (.agg #[.string ⟨#[112,117,115,104]⟩,.string o,.string c,.string ⟨#[]⟩,.pointer none,.int .i64 0]) ⟨_,_,_,_,rfl⟩ (bK w o1 o2));have EK:j2+2<=9223372036854775807:=by omega
          have hg2:decide ((s.size:Int)<(j2:Int)+2)=true:=cF (by omega);clear jT;go_wp2_with fail;exact bodyPost_ret (v:=.tuple #[.agg #[.string ⟨#[112,117,115,104]⟩,.string o,.string c,.string ⟨#[]⟩,.pointer none,.int .i64 0],.bool false]) (by simp[results,Tryz.results85,go_sem, *]) rfl (aq.out _ _)
         ·have EK:j2+2<=9223372036854775807:=by omega
          have hg2:decide ((s.size:Int)<(j2:Int)+2)=false:=bV (by omega);have Fb:j2+2<=s.size:=by omega
          by_cases heq:(s.extract j2 (j2+2)).toList=[61,32]
          ·have EY:((s.extract j2 (j2+2)).toList == [61,32])=true:=by rw[heq];rfl
           have aq:=aa (λo1 o2=>wJ (w:=w) (d:=1) (a:=⟨#[112,117,115,104]⟩) (b:=o) jA.out (by omega) rfl (jT.out.2.1 gF (s.extract (j2+2) s.size).data.toList (by rw[eT (Nat.le_add_right j2 2),<-ByteArray.toList_eq,heq,dn (bc _)];rfl)) (bK w o1 o2));clear jT;go_wp2_with fail
           exact bodyPost_ret (v:=.tuple #[.agg #[.string ⟨#[112,117,115,104]⟩,.string o,.string c,.string (s.extract (j2+2) s.size),.pointer none,.int .i64 0],.bool true]) (by simp[results,Tryz.results85,go_sem, *]) rfl (aq.out _ _)
          ·have EY:((s.extract j2 (j2+2)).toList == [61,32])=false:=by rw[er];exact heq
           have aq:=aa (λo1 o2=>fJ (w:=w) jA.out (jT.out.2.2.1 λp hp=>heq (by rw[ByteArray.toList_eq,aQ,<-rest,hp,show j2+2 - j2=2 by omega];rfl)) (.agg #[.string ⟨#[112,117,115,104]⟩,.string o,.string c,.string ⟨#[]⟩,.pointer none,.int .i64 0]) ⟨_,_,_,_,rfl⟩ (bK w o1 o2));clear jT heq;go_wp2_with fail
           exact bodyPost_ret (v:=.tuple #[.agg #[.string ⟨#[112,117,115,104]⟩,.string o,.string c,.string ⟨#[]⟩,.pointer none,.int .i64 0],.bool false]) (by simp[results,Tryz.results85,go_sem, *]) rfl (aq.out _ _)
        ·have qC:isName c.data.toList=false:=by simpa using gF
         have aq:=aa (λo1 o2=>fJ (w:=w) jA.out (jT.out.2.2.2 qC) (.agg #[.string ⟨#[112,117,115,104]⟩,.string o,.string c,.string ⟨#[]⟩,.pointer none,.int .i64 0]) ⟨_,_,_,_,rfl⟩ (bK w o1 o2));rw[qC];clear jT gF;go_wp2_with fail
         exact bodyPost_ret (v:=.tuple #[.agg #[.string ⟨#[112,117,115,104]⟩,.string o,.string c,.string ⟨#[]⟩,.pointer none,.int .i64 0],.bool false]) (by simp[results,Tryz.results85,go_sem, *]) rfl (aq.out _ _)
       ·have Ir:c.size<=2000:=by have h1:=congrArg List.length hc;rw[aY,aO]at h1;omega
        have aq:=aa (λo1 o2=>fJ (w:=w) jA.out (AY qh) (.agg #[.string ⟨#[112,117,115,104]⟩,.string o,.string c,.string ⟨#[]⟩,.pointer none,.int .i64 0]) ⟨_,_,_,_,rfl⟩ (bK w o1 o2));clear hc qh;go_wp2_with fail;refine (dS c _ (by omega)).mono ?_;rintro e w3 ⟨rfl,rfl⟩
        cases gF:isName c.data.toList with
        | true=>
         go_wp2_with fail;exact bodyPost_ret (v:=.tuple #[.agg #[.string ⟨#[112,117,115,104]⟩,.string o,.string c,.string ⟨#[]⟩,.pointer none,.int .i64 0],.bool false]) (by simp[results,Tryz.results85,go_sem, *]) rfl (aq.out _ _)
        | false=>
         go_wp2_with fail;exact bodyPost_ret (v:=.tuple #[.agg #[.string ⟨#[112,117,115,104]⟩,.string o,.string c,.string ⟨#[]⟩,.pointer none,.int .i64 0],.bool false]) (by simp[results,Tryz.results85,go_sem, *]) rfl (aq.out _ _)
      ·have aca:isName o.data.toList=false:=by simpa using hno
       have aq:=aa (λo1 o2=>nP (w:=w) (show cD s.data.toList=none by rw[OJ.out,HPH.out,if_neg hno]) (.agg #[.string ⟨#[112,117,115,104]⟩,.string o,.string ⟨#[]⟩,.string ⟨#[]⟩,.pointer none,.int .i64 0]) ⟨_,_,_,_,rfl⟩ (bK w o1 o2));rw[aca];clear OJ HPH hno;go_wp2_with fail
       exact bodyPost_ret (v:=.tuple #[.agg #[.string ⟨#[112,117,115,104]⟩,.string o,.string ⟨#[]⟩,.string ⟨#[]⟩,.pointer none,.int .i64 0],.bool false]) (by simp[results,Tryz.results85,go_sem, *]) rfl (aq.out _ _)
     ·have hoz:o.size<=2000:=by have h1:=congrArg List.length ho;rw[aY,aO]at h1;omega
      have aq:=aa (λo1 o2=>nP (w:=w) (show cD s.data.toList=none by rw[OJ.out,tu tX]) (.agg #[.string ⟨#[112,117,115,104]⟩,.string o,.string ⟨#[]⟩,.string ⟨#[]⟩,.pointer none,.int .i64 0]) ⟨_,_,_,_,rfl⟩ (bK w o1 o2));clear OJ tX ho;go_wp2_with fail;refine (dS o _ (by omega)).mono ?_;rintro e w3 ⟨rfl,rfl⟩
      cases hno:isName o.data.toList with
      | true=>
       go_wp2_with fail;exact bodyPost_ret (v:=.tuple #[.agg #[.string ⟨#[112,117,115,104]⟩,.string o,.string ⟨#[]⟩,.string ⟨#[]⟩,.pointer none,.int .i64 0],.bool false]) (by simp[results,Tryz.results85,go_sem, *]) rfl (aq.out _ _)
      | false=>
       go_wp2_with fail;exact bodyPost_ret (v:=.tuple #[.agg #[.string ⟨#[112,117,115,104]⟩,.string o,.string ⟨#[]⟩,.string ⟨#[]⟩,.pointer none,.int .i64 0],.bool false]) (by simp[results,Tryz.results85,go_sem, *]) rfl (aq.out _ _)
    ·have q1:=mL h1;have q2:=mL h3;have q3:=mL h2;unfold ld at q1;unfold ki at q2;unfold Ar at q3;have aq:=aa (λo1 o2=>nP (w:=w) (show cD s.data.toList=none by rw[HL.out,if_neg h1,if_neg h2,if_neg h3]) (.agg #[.string t,.string ⟨#[]⟩,.string ⟨#[]⟩,.string ⟨#[]⟩,.pointer none,.int .i64 0]) ⟨_,_,_,_,rfl⟩ (bK w o1 o2));clear HL h1 h2 h3
     go_wp2_with fail;exact bodyPost_ret (v:=.tuple #[.agg #[.string t,.string ⟨#[]⟩,.string ⟨#[]⟩,.string ⟨#[]⟩,.pointer none,.int .i64 0],.bool false]) (by simp[results,Tryz.results85,go_sem, *]) rfl (aq.out _ _)
 ·have aq:=aa (λo1 o2=>nP (w:=w) (show cD s.data.toList=none by rw[<-JC];exact ya hn) (.agg #[.string t,.string ⟨#[]⟩,.string ⟨#[]⟩,.string ⟨#[]⟩,.pointer none,.int .i64 0]) ⟨_,_,_,_,rfl⟩ (bK w o1 o2));clear hn ht JC;go_wp2_with fail
  exact bodyPost_ret (v:=.tuple #[.agg #[.string t,.string ⟨#[]⟩,.string ⟨#[]⟩,.string ⟨#[]⟩,.pointer none,.int .i64 0],.bool false]) (by simp[results,Tryz.results85,go_sem, *]) rfl (aq.out _ _)
end Go.Proofs.YtgncgdkpkkdaeaaGreatDoor
