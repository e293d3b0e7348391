import Derived.Test.YtgncgdkpkkdaeaaGreatDoorMG
namespace Go.Proofs.YtgncgdkpkkdaeaaGreatDoor
open Go.RowKit aQ
variable {t:ByteArray} {l r s:List UInt8} {d:Nat} {w w':World}
def bY(l:List UInt8):Option Ln:=
 match cutAt 32 l with
 | (w,some r)=>if w=jX then cd 0 [] r else if w=yt then cd 2 [] r else if w=jo then il r else none
 | (_,none)=>none
theorem vP(h:(32:UInt8)∉l):bY l=none:=by unfold bY;rw[fN h]
theorem yN{w:List UInt8}(h:l=w++32::r)(hn:(32:UInt8)∉w):bY l=if w=jX then cd 0 [] r else if w=yt then cd 2 [] r else if w=jo then il r else none:=by unfold bY;rw[h,dK r hn]
theorem qT(h:(32:UInt8)∉l):il l=none:=by unfold il;rw[fN h]
theorem tV{w:List UInt8}(h:l=w++32::r)(hn:(32:UInt8)∉w):il l=if isName w=true then cd 1 w r else none:=by unfold il;rw[h,dK r hn]
theorem yO(h:(32:UInt8)∉r):bj r=none:=by unfold bj;rw[fN h]
theorem Er{c q:List UInt8}(h:r=c++32::q)(hn:(32:UInt8)∉c):(q.length<2->bj r=none)/\(isName c=true->∀p,q=61::32::p->bj r=some (c,p))/\((∀p,q≠61::32::p)->bj r=none)/\(isName c=false->bj r=none):=by
 have key:(∀p,q≠61::32::p)->bj r=none:=λhq=>by
  unfold bj;rw[h,dK q hn];split
  ·rename_i c' p' hc;simp only[Prod.mk.injEq,Option.some.injEq]at hc;exact absurd hc.2 (hq _)
  ·rfl
 refine ⟨λhl=>key λp hp=>?_,λhc p hp=>?_,key,λhc=>?_⟩
 ·simp only[hp,List.length_cons]at hl;omega
 ·rw[h,hp];exact qR hc
 ·by_cases hq:∃p,q=61::32::p
  ·obtain ⟨p,rfl⟩:=hq;unfold bj;rw[h,dK _ hn];simp[hc]
  ·exact key λp hp=>hq ⟨p,hp⟩
def iq:Nat->List UInt8
 | 0=>jX
 | 1=>jo
 | _=>yt
def TP(v:Value):Prop:=∃a b c p:ByteArray,v=.agg #[.string a,.string b,.string c,.string p,.pointer none,.int .i64 0]
def oY(s:List UInt8)(w:World)(e:Ending)(w':World):Prop:=
 Below w.heap.size w w'/\((∃(d:Nat) (a b c p:ByteArray),e=.returned (.tuple #[.agg #[.string a,.string b,.string c,.string p,.pointer none,.int .i64 0],.bool true])/\d<=2/\a.data.toList=iq d/\bY s=some (.rule d b.data.toList c.data.toList p.data.toList)) ∨
  (∃v,TP v/\e=.returned (.tuple #[v,.bool false])/\bY s=none))
theorem bq(w:World)(o1 o2:Obj):Below w.heap.size w ((w.alloc o1).alloc o2):=((Below.refl _ _).alloc (Nat.le_refl _) _).alloc (by simp) _
theorem eO{o:List UInt8}(h:bY s=cd d o r)(hb:bj r=none)(v:Value)(hv:TP v)(hB:Below w.heap.size w w'):oY s w (.returned (.tuple #[v,.bool false])) w':=
 ⟨hB,.inr ⟨v,hv,rfl,by rw[h,cd,hb];rfl⟩⟩
theorem mh(h:bY s=none)(v:Value)(hv:TP v)(hB:Below w.heap.size w w'):oY s w (.returned (.tuple #[v,.bool false])) w':=⟨hB,.inr ⟨v,hv,rfl,h⟩⟩
theorem ui{a b c p:ByteArray}(h:bY s=cd d b.data.toList r)(hd:d<=2)(ha:a.data.toList=iq d)(hb:bj r=some (c.data.toList,p.data.toList))(hB:Below w.heap.size w w'):
  oY s w (.returned (.tuple #[.agg #[.string a,.string b,.string c,.string p,.pointer none,.int .i64 0],.bool true])) w':=
 ⟨hB,.inl ⟨d,a,b,c,p,rfl,hd,ha,by rw[h,cd,hb];rfl⟩⟩
theorem oN(h:t.data.toList=l):t=⟨l.toArray⟩:=by apply ByteArray.ext;rw[<-h]
theorem lf(h:¬t.data.toList=l):(t.toList==l)=false:=by rw[beq_eq_false_iff_ne,ByteArray.toList_eq];exact h
set_option maxRecDepth 20000 in
set_option maxHeartbeats 4000000 in
theorem Es(s:ByteArray)(w:World)(hz:s.size<=2000):
  Calls Tryz.prog 85 #[.string s] w (oY s.data.toList w):=by
 have GU:rest s 0=s.data.toList:=by simp[rest]
 go_enter Tryz.func85,Tryz.ntmps85;go_wp2_with fail;refine (jr s 0 _ (Nat.zero_le _) (by omega)).mono ?_;rintro e w1 ⟨rfl,⟨t,j,hr,hj,h0,hn,rfl⟩|⟨hn,t,ht,rfl⟩⟩
 ·rw[GU]at hr;have ym:¬j=0:=by omega
  have oq:((j:Int)==0)=false:=by rw[beq_eq_false_iff_ne];omega
  have HL:=aa (yN hr hn);clear hr hn GU;by_cases h1:t.data.toList=jX
  ·obtain rfl:t=⟨#[116,111,107,101,110]⟩:=oN h1;have q1:((⟨#[116,111,107,101,110]⟩:ByteArray).toList == [116,111,107,101,110])=true:=by rw[ByteArray.toList_eq];rfl
   have q2:((⟨#[116,111,107,101,110]⟩:ByteArray).toList == [112,117,115,104])=false:=by rw[ByteArray.toList_eq];rfl
   have iI:=aa (show bY s.data.toList=cd 0 (⟨#[]⟩:ByteArray).data.toList (rest s j) by rw[HL.out];rfl);clear HL h1;go_wp2_with fail;refine (jr s j _ hj (by omega)).mono ?_;rintro e w2 ⟨rfl,⟨c,j2,hr2,dQ,h02,pH,rfl⟩|⟨pH,c,hc,rfl⟩⟩
   ·have FI:c.size<=2000:=by have h1:=congrArg List.length hr2;rw[aW,List.length_append,aK]at h1;omega
    have jc:=aa (Er hr2 pH);have ym:¬j2=0:=by omega
    have oq:((j2:Int)==0)=false:=by rw[beq_eq_false_iff_ne];omega
    clear hr2 pH;go_wp2_with fail;refine (dx c _ (by omega)).mono ?_;rintro e w3 ⟨rfl,rfl⟩;by_cases gj:isName c.data.toList=true
    ·by_cases hl2:s.size<j2+2
     ·have ai:=aa (λo1 o2=>eO (w:=w) iI.out (jc.out.1 (by rw[aW];omega)) (.agg #[.string ⟨#[116,111,107,101,110]⟩,.string ⟨#[]⟩,.string c,.string ⟨#[]⟩,.pointer none,.int .i64 0]) ⟨_,_,_,_,rfl⟩ (bq w o1 o2));have CQ:j2+2<=9223372036854775807:=by omega
      have hg2:decide ((s.size:Int)<(j2:Int)+2)=true:=decide_eq_true (by omega);clear jc;go_wp2_with fail;exact bodyPost_ret (v:=.tuple #[.agg #[.string ⟨#[116,111,107,101,110]⟩,.string ⟨#[]⟩,.string c,.string ⟨#[]⟩,.pointer none,.int .i64 0],.bool false]) (by simp[results,Tryz.results85,go_sem, *]) rfl (ai.out _ _)
     ·have CQ:j2+2<=9223372036854775807:=by omega
      have hg2:decide ((s.size:Int)<(j2:Int)+2)=false:=decide_eq_false (by omega);have KO:j2+2<=s.size:=by omega
      by_cases heq:(s.extract j2 (j2+2)).toList=[61,32]
      ·have C4:((s.extract j2 (j2+2)).toList == [61,32])=true:=by rw[heq];rfl
       have ai:=aa (λo1 o2=>ui (w:=w) (d:=0) (a:=⟨#[116,111,107,101,110]⟩) (b:=⟨#[]⟩) iI.out (by omega) rfl (jc.out.2.1 gj (s.extract (j2+2) s.size).data.toList (by rw[eo (Nat.le_add_right j2 2),<-ByteArray.toList_eq,heq,cQ (Nat.le_refl _)];rfl)) (bq w o1 o2));clear jc;go_wp2_with fail
       exact bodyPost_ret (v:=.tuple #[.agg #[.string ⟨#[116,111,107,101,110]⟩,.string ⟨#[]⟩,.string c,.string (s.extract (j2+2) s.size),.pointer none,.int .i64 0],.bool true]) (by simp[results,Tryz.results85,go_sem, *]) rfl (ai.out _ _)
      ·have C4:((s.extract j2 (j2+2)).toList == [61,32])=false:=by rw[beq_eq_false_iff_ne];exact heq
       have ai:=aa (λo1 o2=>eO (w:=w) iI.out (jc.out.2.2.1 λp hp=>heq (by rw[ByteArray.toList_eq,aP,<-rest,hp,show j2+2 - j2=2 by omega];rfl)) (.agg #[.string ⟨#[116,111,107,101,110]⟩,.string ⟨#[]⟩,.string c,.string ⟨#[]⟩,.pointer none,.int .i64 0]) ⟨_,_,_,_,rfl⟩ (bq w o1 o2));clear jc heq;go_wp2_with fail
       exact bodyPost_ret (v:=.tuple #[.agg #[.string ⟨#[116,111,107,101,110]⟩,.string ⟨#[]⟩,.string c,.string ⟨#[]⟩,.pointer none,.int .i64 0],.bool false]) (by simp[results,Tryz.results85,go_sem, *]) rfl (ai.out _ _)
    ·have oO:isName c.data.toList=false:=by simpa using gj
     have ai:=aa (λo1 o2=>eO (w:=w) iI.out (jc.out.2.2.2 oO) (.agg #[.string ⟨#[116,111,107,101,110]⟩,.string ⟨#[]⟩,.string c,.string ⟨#[]⟩,.pointer none,.int .i64 0]) ⟨_,_,_,_,rfl⟩ (bq w o1 o2));rw[oO];clear jc gj;go_wp2_with fail
     exact bodyPost_ret (v:=.tuple #[.agg #[.string ⟨#[116,111,107,101,110]⟩,.string ⟨#[]⟩,.string c,.string ⟨#[]⟩,.pointer none,.int .i64 0],.bool false]) (by simp[results,Tryz.results85,go_sem, *]) rfl (ai.out _ _)
   ·have FI:c.size<=2000:=by have h1:=congrArg List.length hc;rw[aW,aK]at h1;omega
    have ai:=aa (λo1 o2=>eO (w:=w) iI.out (yO pH) (.agg #[.string ⟨#[116,111,107,101,110]⟩,.string ⟨#[]⟩,.string c,.string ⟨#[]⟩,.pointer none,.int .i64 0]) ⟨_,_,_,_,rfl⟩ (bq w o1 o2));clear hc pH;go_wp2_with fail;refine (dx c _ (by omega)).mono ?_;rintro e w3 ⟨rfl,rfl⟩
    cases gj:isName c.data.toList with
    | true=>
     go_wp2_with fail;exact bodyPost_ret (v:=.tuple #[.agg #[.string ⟨#[116,111,107,101,110]⟩,.string ⟨#[]⟩,.string c,.string ⟨#[]⟩,.pointer none,.int .i64 0],.bool false]) (by simp[results,Tryz.results85,go_sem, *]) rfl (ai.out _ _)
    | false=>
     go_wp2_with fail;exact bodyPost_ret (v:=.tuple #[.agg #[.string ⟨#[116,111,107,101,110]⟩,.string ⟨#[]⟩,.string c,.string ⟨#[]⟩,.pointer none,.int .i64 0],.bool false]) (by simp[results,Tryz.results85,go_sem, *]) rfl (ai.out _ _)
  ·by_cases h2:t.data.toList=yt
   ·obtain rfl:t=⟨#[112,111,112]⟩:=oN h2;have q1:((⟨#[112,111,112]⟩:ByteArray).toList == [116,111,107,101,110])=false:=by rw[ByteArray.toList_eq];rfl
    have q2:((⟨#[112,111,112]⟩:ByteArray).toList == [112,117,115,104])=false:=by rw[ByteArray.toList_eq];rfl
    have q3:((⟨#[112,111,112]⟩:ByteArray).toList == [112,111,112])=true:=by rw[ByteArray.toList_eq];rfl
    have iI:=aa (show bY s.data.toList=cd 2 (⟨#[]⟩:ByteArray).data.toList (rest s j) by rw[HL.out];rfl);clear HL h1 h2;go_wp2_with fail;refine (jr s j _ hj (by omega)).mono ?_;rintro e w2 ⟨rfl,⟨c,j2,hr2,dQ,h02,pH,rfl⟩|⟨pH,c,hc,rfl⟩⟩
    ·have FI:c.size<=2000:=by have h1:=congrArg List.length hr2;rw[aW,List.length_append,aK]at h1;omega
     have jc:=aa (Er hr2 pH);have ym:¬j2=0:=by omega
     have oq:((j2:Int)==0)=false:=by rw[beq_eq_false_iff_ne];omega
     clear hr2 pH;go_wp2_with fail;refine (dx c _ (by omega)).mono ?_;rintro e w3 ⟨rfl,rfl⟩;by_cases gj:isName c.data.toList=true
     ·by_cases hl2:s.size<j2+2
      ·have ai:=aa (λo1 o2=>eO (w:=w) iI.out (jc.out.1 (by rw[aW];omega)) (.agg #[.string ⟨#[112,111,112]⟩,.string ⟨#[]⟩,.string c,.string ⟨#[]⟩,.pointer none,.int .i64 0]) ⟨_,_,_,_,rfl⟩ (bq w o1 o2));have CQ:j2+2<=9223372036854775807:=by omega
       have hg2:decide ((s.size:Int)<(j2:Int)+2)=true:=decide_eq_true (by omega);clear jc;go_wp2_with fail;exact bodyPost_ret (v:=.tuple #[.agg #[.string ⟨#[112,111,112]⟩,.string ⟨#[]⟩,.string c,.string ⟨#[]⟩,.pointer none,.int .i64 0],.bool false]) (by simp[results,Tryz.results85,go_sem, *]) rfl (ai.out _ _)
      ·have CQ:j2+2<=9223372036854775807:=by omega
       have hg2:decide ((s.size:Int)<(j2:Int)+2)=false:=decide_eq_false (by omega);have KO:j2+2<=s.size:=by omega
       by_cases heq:(s.extract j2 (j2+2)).toList=[61,32]
       ·have C4:((s.extract j2 (j2+2)).toList == [61,32])=true:=by rw[heq];rfl
        have ai:=aa (λo1 o2=>ui (w:=w) (d:=2) (a:=⟨#[112,111,112]⟩) (b:=⟨#[]⟩) iI.out (by omega) rfl (jc.out.2.1 gj (s.extract (j2+2) s.size).data.toList (by rw[eo (Nat.le_add_right j2 2),<-ByteArray.toList_eq,heq,cQ (Nat.le_refl _)];rfl)) (bq w o1 o2));clear jc;go_wp2_with fail
        exact bodyPost_ret (v:=.tuple #[.agg #[.string ⟨#[112,111,112]⟩,.string ⟨#[]⟩,.string c,.string (s.extract (j2+2) s.size),.pointer none,.int .i64 0],.bool true]) (by simp[results,Tryz.results85,go_sem, *]) rfl (ai.out _ _)
       ·have C4:((s.extract j2 (j2+2)).toList == [61,32])=false:=by rw[beq_eq_false_iff_ne];exact heq
        have ai:=aa (λo1 o2=>eO (w:=w) iI.out (jc.out.2.2.1 λp hp=>heq (by rw[ByteArray.toList_eq,aP,<-rest,hp,show j2+2 - j2=2 by omega];rfl)) (.agg #[.string ⟨#[112,111,112]⟩,.string ⟨#[]⟩,.string c,.string ⟨#[]⟩,.pointer none,.int .i64 0]) ⟨_,_,_,_,rfl⟩ (bq w o1 o2));clear jc heq;go_wp2_with fail
        exact bodyPost_ret (v:=.tuple #[.agg #[.string ⟨#[112,111,112]⟩,.string ⟨#[]⟩,.string c,.string ⟨#[]⟩,.pointer none,.int .i64 0],.bool false]) (by simp[results,Tryz.results85,go_sem, *]) rfl (ai.out _ _)
     ·have oO:isName c.data.toList=false:=by simpa using gj
      have ai:=aa (λo1 o2=>eO (w:=w) iI.out (jc.out.2.2.2 oO) (.agg #[.string ⟨#[112,111,112]⟩,.string ⟨#[]⟩,.string c,.string ⟨#[]⟩,.pointer none,.int .i64 0]) ⟨_,_,_,_,rfl⟩ (bq w o1 o2));rw[oO];clear jc gj;go_wp2_with fail
      exact bodyPost_ret (v:=.tuple #[.agg #[.string ⟨#[112,111,112]⟩,.string ⟨#[]⟩,.string c,.string ⟨#[]⟩,.pointer none,.int .i64 0],.bool false]) (by simp[results,Tryz.results85,go_sem, *]) rfl (ai.out _ _)
    ·have FI:c.size<=2000:=by have h1:=congrArg List.length hc;rw[aW,aK]at h1;omega
     have ai:=aa (λo1 o2=>eO (w:=w) iI.out (yO pH) (.agg #[.string ⟨#[112,111,112]⟩,.string ⟨#[]⟩,.string c,.string ⟨#[]⟩,.pointer none,.int .i64 0]) ⟨_,_,_,_,rfl⟩ (bq w o1 o2));clear hc pH;go_wp2_with fail;refine (dx c _ (by omega)).mono ?_;rintro e w3 ⟨rfl,rfl⟩
     cases gj:isName c.data.toList with
     | true=>
      go_wp2_with fail;exact bodyPost_ret (v:=.tuple #[.agg #[.string ⟨#[112,111,112]⟩,.string ⟨#[]⟩,.string c,.string ⟨#[]⟩,.pointer none,.int .i64 0],.bool false]) (by simp[results,Tryz.results85,go_sem, *]) rfl (ai.out _ _)
     | false=>
      go_wp2_with fail;exact bodyPost_ret (v:=.tuple #[.agg #[.string ⟨#[112,111,112]⟩,.string ⟨#[]⟩,.string c,.string ⟨#[]⟩,.pointer none,.int .i64 0],.bool false]) (by simp[results,Tryz.results85,go_sem, *]) rfl (ai.out _ _)
   ·by_cases h3:t.data.toList=jo
    ·obtain rfl:t=⟨#[112,117,115,104]⟩:=oN h3;have q1:((⟨#[112,117,115,104]⟩:ByteArray).toList == [116,111,107,101,110])=false:=by rw[ByteArray.toList_eq];rfl
     have q2:((⟨#[112,117,115,104]⟩:ByteArray).toList == [112,117,115,104])=true:=by rw[ByteArray.toList_eq];rfl
     have Mn:=aa (show bY s.data.toList=il (rest s j) by rw[HL.out];rfl);clear HL h1 h2 h3;go_wp2_with fail;refine (jr s j _ hj (by omega)).mono ?_;rintro e w2 ⟨rfl,⟨o,j1,hr1,JQ,h01,rJ,rfl⟩|⟨rJ,o,ho,rfl⟩⟩
     ·have hoz:o.size<=2000:=by have h1:=congrArg List.length hr1;rw[aW,List.length_append,aK]at h1;omega
      have ab8:¬j1=0:=by omega
      have ab9:((j1:Int)==0)=false:=by rw[beq_eq_false_iff_ne];omega
      have HPH:=aa (tV hr1 rJ);clear hr1 rJ;go_wp2_with fail;refine (dx o _ (by omega)).mono ?_;rintro e w3 ⟨rfl,rfl⟩;by_cases hno:isName o.data.toList=true
      ·have iI:=aa (show bY s.data.toList=cd 1 o.data.toList (rest s j1) by rw[Mn.out,HPH.out,if_pos hno]);clear Mn HPH;rw[hno];go_wp2_with fail;refine (jr s j1 _ JQ (by omega)).mono ?_;rintro e w2 ⟨rfl,⟨c,j2,hr2,dQ,h02,pH,rfl⟩|⟨pH,c,hc,rfl⟩⟩
       ·have FI:c.size<=2000:=by have h1:=congrArg List.length hr2;rw[aW,List.length_append,aK]at h1;omega
        have jc:=aa (Er hr2 pH);have ym:¬j2=0:=by omega
        have oq:((j2:Int)==0)=false:=by rw[beq_eq_false_iff_ne];omega
        clear hr2 pH;go_wp2_with fail;refine (dx c _ (by omega)).mono ?_;rintro e w3 ⟨rfl,rfl⟩;by_cases gj:isName c.data.toList=true
        ·by_cases hl2:s.size<j2+2
         ·have ai:=aa (λo1 o2=>eO (w:=w) iI.out (jc.out.1 (by rw[aW];omega)) (.agg #[.string ⟨#[112,117,115,104]⟩,.string o,.string c,.string ⟨#[]⟩,.pointer none,.int .i64 0]) ⟨_,_,_,_,rfl⟩ (bq w o1 o2));have CQ:j2+2<=9223372036854775807:=by omega
          have hg2:decide ((s.size:Int)<(j2:Int)+2)=true:=decide_eq_true (by omega);clear jc;go_wp2_with fail;exact bodyPost_ret (v:=.tuple #[.agg #[.string ⟨#[112,117,115,104]⟩,.string o,.string c,.string ⟨#[]⟩,.pointer none,.int .i64 0],.bool false]) (by simp[results,Tryz.results85,go_sem, *]) rfl (ai.out _ _)
         ·have CQ:j2+2<=9223372036854775807:=by omega
          have hg2:decide ((s.size:Int)<(j2:Int)+2)=false:=decide_eq_false (by omega);have KO:j2+2<=s.size:=by omega
          by_cases heq:(s.extract j2 (j2+2)).toList=[61,32]
          ·have C4:((s.extract j2 (j2+2)).toList == [61,32])=true:=by rw[heq];rfl
           have ai:=aa (λo1 o2=>ui (w:=w) (d:=1) (a:=⟨#[112,117,115,104]⟩) (b:=o) iI.out (by omega) rfl (jc.out.2.1 gj (s.extract (j2+2) s.size).data.toList (by rw[eo (Nat.le_add_right j2 2),<-ByteArray.toList_eq,heq,cQ (Nat.le_refl _)];rfl)) (bq w o1 o2));clear jc;go_wp2_with fail
           exact bodyPost_ret (v:=.tuple #[.agg #[.string ⟨#[112,117,115,104]⟩,.string o,.string c,.string (s.extract (j2+2) s.size),.pointer none,.int .i64 0],.bool true]) (by simp[results,Tryz.results85,go_sem, *]) rfl (ai.out _ _)
          ·have C4:((s.extract j2 (j2+2)).toList == [61,32])=false:=by rw[beq_eq_false_iff_ne];exact heq
           have ai:=aa (λo1 o2=>eO (w:=w) iI.out (jc.out.2.2.1 λp hp=>heq (by rw[ByteArray.toList_eq,aP,<-rest,hp,show j2+2 - j2=2 by omega];rfl)) (.agg #[.string ⟨#[112,117,115,104]⟩,.string o,.string c,.string ⟨#[]⟩,.pointer none,.int .i64 0]) ⟨_,_,_,_,rfl⟩ (bq w o1 o2));clear jc heq;go_wp2_with fail
           exact bodyPost_ret (v:=.tuple #[.agg #[.string ⟨#[112,117,115,104]⟩,.string o,.string c,.string ⟨#[]⟩,.pointer none,.int .i64 0],.bool false]) (by simp[results,Tryz.results85,go_sem, *]) rfl (ai.out _ _)
        ·have oO:isName c.data.toList=false:=by simpa using gj
         have ai:=aa (λo1 o2=>eO (w:=w) iI.out (jc.out.2.2.2 oO) (.agg #[.string ⟨#[112,117,115,104]⟩,.string o,.string c,.string ⟨#[]⟩,.pointer none,.int .i64 0]) ⟨_,_,_,_,rfl⟩ (bq w o1 o2));rw[oO];clear jc gj;go_wp2_with fail
         exact bodyPost_ret (v:=.tuple #[.agg #[.string ⟨#[112,117,115,104]⟩,.string o,.string c,.string ⟨#[]⟩,.pointer none,.int .i64 0],.bool false]) (by simp[results,Tryz.results85,go_sem, *]) rfl (ai.out _ _)
       ·have FI:c.size<=2000:=by have h1:=congrArg List.length hc;rw[aW,aK]at h1;omega
        have ai:=aa (λo1 o2=>eO (w:=w) iI.out (yO pH) (.agg #[.string ⟨#[112,117,115,104]⟩,.string o,.string c,.string ⟨#[]⟩,.pointer none,.int .i64 0]) ⟨_,_,_,_,rfl⟩ (bq w o1 o2));clear hc pH;go_wp2_with fail;refine (dx c _ (by omega)).mono ?_;rintro e w3 ⟨rfl,rfl⟩
        cases gj:isName c.data.toList with
        | true=>
         go_wp2_with fail;exact bodyPost_ret (v:=.tuple #[.agg #[.string ⟨#[112,117,115,104]⟩,.string o,.string c,.string ⟨#[]⟩,.pointer none,.int .i64 0],.bool false]) (by simp[results,Tryz.results85,go_sem, *]) rfl (ai.out _ _)
        | false=>
         go_wp2_with fail;exact bodyPost_ret (v:=.tuple #[.agg #[.string ⟨#[112,117,115,104]⟩,.string o,.string c,.string ⟨#[]⟩,.pointer none,.int .i64 0],.bool false]) (by simp[results,Tryz.results85,go_sem, *]) rfl (ai.out _ _)
      ·have aaL:isName o.data.toList=false:=by simpa using hno
       have ai:=aa (λo1 o2=>mh (w:=w) (show bY s.data.toList=none by rw[Mn.out,HPH.out,if_neg hno]) (.agg #[.string ⟨#[112,117,115,104]⟩,.string o,.string ⟨#[]⟩,.string ⟨#[]⟩,.pointer none,.int .i64 0]) ⟨_,_,_,_,rfl⟩ (bq w o1 o2));rw[aaL];clear Mn HPH hno;go_wp2_with fail
       exact bodyPost_ret (v:=.tuple #[.agg #[.string ⟨#[112,117,115,104]⟩,.string o,.string ⟨#[]⟩,.string ⟨#[]⟩,.pointer none,.int .i64 0],.bool false]) (by simp[results,Tryz.results85,go_sem, *]) rfl (ai.out _ _)
     ·have hoz:o.size<=2000:=by have h1:=congrArg List.length ho;rw[aW,aK]at h1;omega
      have ai:=aa (λo1 o2=>mh (w:=w) (show bY s.data.toList=none by rw[Mn.out,qT rJ]) (.agg #[.string ⟨#[112,117,115,104]⟩,.string o,.string ⟨#[]⟩,.string ⟨#[]⟩,.pointer none,.int .i64 0]) ⟨_,_,_,_,rfl⟩ (bq w o1 o2));clear Mn rJ ho;go_wp2_with fail;refine (dx o _ (by omega)).mono ?_;rintro e w3 ⟨rfl,rfl⟩
      cases hno:isName o.data.toList with
      | true=>
       go_wp2_with fail;exact bodyPost_ret (v:=.tuple #[.agg #[.string ⟨#[112,117,115,104]⟩,.string o,.string ⟨#[]⟩,.string ⟨#[]⟩,.pointer none,.int .i64 0],.bool false]) (by simp[results,Tryz.results85,go_sem, *]) rfl (ai.out _ _)
      | false=>
       go_wp2_with fail;exact bodyPost_ret (v:=.tuple #[.agg #[.string ⟨#[112,117,115,104]⟩,.string o,.string ⟨#[]⟩,.string ⟨#[]⟩,.pointer none,.int .i64 0],.bool false]) (by simp[results,Tryz.results85,go_sem, *]) rfl (ai.out _ _)
    ·have q1:=lf h1;have q2:=lf h3;have q3:=lf h2;unfold jX at q1;unfold jo at q2;unfold yt at q3;have ai:=aa (λo1 o2=>mh (w:=w) (show bY s.data.toList=none by rw[HL.out,if_neg h1,if_neg h2,if_neg h3]) (.agg #[.string t,.string ⟨#[]⟩,.string ⟨#[]⟩,.string ⟨#[]⟩,.pointer none,.int .i64 0]) ⟨_,_,_,_,rfl⟩ (bq w o1 o2));clear HL h1 h2 h3
     go_wp2_with fail;exact bodyPost_ret (v:=.tuple #[.agg #[.string t,.string ⟨#[]⟩,.string ⟨#[]⟩,.string ⟨#[]⟩,.pointer none,.int .i64 0],.bool false]) (by simp[results,Tryz.results85,go_sem, *]) rfl (ai.out _ _)
 ·have ai:=aa (λo1 o2=>mh (w:=w) (show bY s.data.toList=none by rw[<-GU];exact vP hn) (.agg #[.string t,.string ⟨#[]⟩,.string ⟨#[]⟩,.string ⟨#[]⟩,.pointer none,.int .i64 0]) ⟨_,_,_,_,rfl⟩ (bq w o1 o2));clear hn ht GU;go_wp2_with fail
  exact bodyPost_ret (v:=.tuple #[.agg #[.string t,.string ⟨#[]⟩,.string ⟨#[]⟩,.string ⟨#[]⟩,.pointer none,.int .i64 0],.bool false]) (by simp[results,Tryz.results85,go_sem, *]) rfl (ai.out _ _)
end Go.Proofs.YtgncgdkpkkdaeaaGreatDoor
