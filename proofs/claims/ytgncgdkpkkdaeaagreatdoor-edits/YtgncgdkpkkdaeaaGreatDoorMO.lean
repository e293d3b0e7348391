import Derived.Test.YtgncgdkpkkdaeaaGreatDoorMN
namespace Go.Proofs.YtgncgdkpkkdaeaaGreatDoor
open Go.RowKit aO
variable {ls:List aV} {ss:List mS} {l s:List UInt8} {x:Ln} {B a:Nat} {sv:Value} {w:World}
def Small:Ln->Prop
 | .blank=>True
 | .state n=>n.length<=12
 | .rule _ o c _=>o.length<=12/\c.length<=12
theorem oM(h:isName l=true):l.length<=12:=by simp only[isName,Bool.and_eq_true,decide_eq_true_eq]at h;exact h.1.2
theorem oN{d:Nat}{o r:List UInt8}(ho:o.length<=12)(h:cu d o r=some x):Small x:=by
 unfold cu at h
 cases hb:bq r with
 | none=>rw[hb]at h;cases h
 | some cp=>
  obtain ⟨c,p⟩:=cp;rw[hb]at h;cases h;exact ⟨ho,oM (nT hb).2⟩
theorem FC(h:cH l=some x):Small x:=by
 unfold cH at h;split at h
 ·cases h;trivial
 ·rcases hc:cutAt 32 l with ⟨a,_|r⟩
  ·rw[hc]at h;cases h
  ·rw[hc]at h;simp only[fK]at h;split at h
   ·split at h
    ·rename_i hn;cases h;exact oM hn
    ·cases h
   ·split at h
    ·exact oN (by simp) h
    ·split at h
     ·exact oN (by simp) h
     ·split at h
      ·rcases hp:cutAt 32 r with ⟨o,_|r'⟩
       ·simp only[iI,hp]at h;cases h
       ·simp only[iI,hp]at h;split at h
        ·rename_i hn;exact oN (oM hn) h
        ·cases h
      ·cases h
def Xk(l:cM):Prop:=∀pre y post,l=pre++y::post->Small y.2/\(y.2.aY=true->pre.any (·.2.aL)=true)
theorem Xk.snoc{l:cM}{p:Nat}(h:Xk l)(hx:Small x)(hr:¬(x.aY=true/\l.any (·.2.aL)=false)):Xk (l++[(p,x)]):=by
 intro pre y post e;rcases List.eq_nil_or_concat post with rfl|⟨post',z,rfl⟩
 ·obtain ⟨e1,e2⟩:=List.append_inj' e rfl;cases e2;subst e1;refine ⟨hx,λhy=>?_⟩
  cases ha:l.any (·.2.aL) with
  | true=>rfl
  | false=>exact absurd ⟨hy,ha⟩ hr
 ·rw[List.concat_eq_append,<-List.cons_append,<-List.append_assoc]at e;obtain ⟨e1,-⟩:=List.append_inj' e rfl;exact h pre y post' e1
theorem NM:∀(f p:Nat) (acc:cM) (s:List UInt8) (l:cM),Xk acc->kS f p acc s=.inr l->Xk l:=by
 intro f
 induction f with
 | zero=>intro p acc s l _ h;cases h
 | succ f ih=>
  intro p acc s l ha h;unfold kS at h;split at h
  ·cases h;exact ha
  ·rcases hc:cutAt 10 s with ⟨a,_|r⟩
   ·rw[hc]at h;cases h
   ·rw[hc]at h;simp only at h
    cases hx:cH a with
    | none=>rw[hx]at h;cases h
    | some x=>
     rw[hx]at h;simp only at h;split at h
     ·cases h
     ·rename_i hn;exact ih _ _ _ _ (ha.snoc (FC hx) hn) h
theorem Tl{l:cM}(h:rd 0 [] s=.inr l):Xk l:=NM _ _ _ _ _ (λpre y post e=>by simp at e) h
theorem Vy(hL:Lines w B sv ls)(pre:List aV)(ou:∀l∈pre,l∈ls):(pre.map aV.pr).any (·.2.aL)=true->0<(aI pre).length:=by intro h;obtain ⟨y,hy,hs⟩:=List.any_eq_true.1 h;obtain ⟨l,hl,rfl⟩:=List.mem_map.1 hy;have hk:=(dM (hL.each l (ou l hl))).1.2 hs;refine List.length_pos_of_mem (a:=l.st) (List.mem_filterMap.2 ⟨l,hl,by rw[if_pos hk]⟩)
theorem yi(hL:Lines w B sv ls)(h:rd 0 [] s=.inr (ls.map aV.pr)):∀pre l post,ls=pre++l::post->l.kd=2->0<(aI pre).length:=by
 intro pre l post e hk;have hl:l∈ls:=by rw[e];simp
 refine Vy hL pre (λy hy=>by rw[e];exact List.mem_append_left _ hy) ((Tl h (pre.map aV.pr) (aV.pr l) (post.map aV.pr) (by rw[e];simp)).2 ((dM (hL.each l hl)).2.1 hk))
theorem mV(b:ByteArray):b.size=b.data.toList.length:=by rw[Array.length_toList];rfl
theorem CE(hL:Lines w B sv ls)(h:rd 0 [] s=.inr (ls.map aV.pr)):∀l∈ls,(l.kd=2->l.co.size<=281474976710656)/\(l.kd=1->l.st.size<=281474976710656):=by
 intro l hl;obtain ⟨pre,post,e⟩:=List.append_of_mem hl;have hsm:=(Tl h (pre.map aV.pr) (aV.pr l) (post.map aV.pr) (by rw[e];simp)).1;have hx:=hL.each l hl
 cases Hi:l.x with
 | blank=>rw[Hi]at hx;exact ⟨λh=>(by rw[hx.1]at h;cases h),λh=>(by rw[hx.1]at h;cases h)⟩
 | state n=>
  rw[Hi]at hx;simp only[aV.pr,Hi]at hsm;have h1:l.st.data.toList.length<=12:=by rw[hx.2.2.1];exact hsm
  rw[<-mV]at h1;exact ⟨λh=>(by rw[hx.1]at h;cases h),λ_=>by omega⟩
 | rule d o c p=>
  rw[Hi]at hx;simp only[aV.pr,Hi]at hsm;have h2:l.co.data.toList.length<=12:=by rw[hx.2.2.2.2.1];exact hsm.2
  rw[<-mV]at h2;exact ⟨λ_=>by omega,λh=>(by rw[hx.1]at h;cases h)⟩
theorem vC{fs:cM}{ts:List (Nat×(cM->Ln->Prop))}{e:Nat}(h:eO fs ts e a)(he:e=0):(∀t∈ts,t.1≠0)->∀t∈ts,dF t.2 [] fs none:=by
 induction h with
 | nil=>intro _ t ht;simp at ht
 | hit hf=>intro hn;exact absurd he (hn (_,_) (List.mem_cons_self ..))
 | skip hf _ ih=>
  intro hn t ht;rcases List.mem_cons.1 ht with rfl|ht
  ·exact hf
  ·exact ih he (λt h=>hn t (List.mem_cons_of_mem _ h)) t ht
theorem NN(hL:Lines w B sv ls)(h:eO (ls.map aV.pr) (tests (ls.map aV.pr)) 0 a):∀l∈ls,l.d=1->∃n∈aI ls,n.data.toList=l.st.data.toList:=by
 intro l hl hd;have hf:=vC h rfl (by intro t ht;simp only[tests,List.mem_cons,List.not_mem_nil,or_false]at ht;rcases ht with rfl|rfl|rfl|rfl|rfl|rfl<;>exact Nat.succ_ne_zero _) (5,cV (ls.map aV.pr)) (by simp[tests]);have hn:=dI (λ_ _=>Iff.rfl) hf (aV.pr l) (List.mem_map_of_mem hl);have hx:=hL.each l hl
 cases Hi:l.x with
 | blank=>rw[Hi]at hx;rw[hx.2.1]at hd;cases hd
 | state n=>rw[Hi]at hx;rw[hx.2.1]at hd;cases hd
 | rule d o c p=>
  rw[Hi]at hx;obtain ⟨_,h2,_,h4,_⟩:=hx;refine Classical.byContradiction λhno=>hn ⟨o,c,p,by simp only[aV.pr,Hi,h2,hd],λa ha=>hno ?_⟩
  obtain ⟨t,ht,e⟩:=List.mem_map.1 ha;have htx:=hL.each t ht;have e2:t.x=.state o:=(Prod.mk.injEq ..▸e:_/\_).2;rw[e2]at htx;exact ⟨t.st,List.mem_filterMap.2 ⟨t,ht,by rw[if_pos htx.1]⟩,by rw[htx.2.2.1,h4]⟩
structure Made(w:World)(B:Nat)(sv:Value)(ls:List aV)(ss:List mS):Prop where
 lines:∃B' lv,Lines w B' lv ls
 states:cw w B sv ss
 inv:rA (aI ls) ls ss
 some:0<ss.length
def iu(s:List UInt8)(w:World)(e:Ending)(w':World):Prop:=
 Below w.heap.size w w'/\((∃ec a:Nat,ec≠0/\e=.returned (.tuple #[.slice none 0 0,.int .i64 ec,.int .i64 a])/\dt s ec a []) ∨
  (∃B ao n cap ls ss,e=.returned (.tuple #[.slice ao n cap,.int .i64 0,.int .i64 0])/\dt s 0 0 ((ls.map aV.pr).filter (·.2.nb))/\w.heap.size<=B/\Made w' B (.slice ao n cap) ls ss))
theorem yj{lv:Value}(hL:Lines w B lv ls)(hr:rd 0 [] s=.inr (ls.map aV.pr))(hI:rA (aI ls) ls ss):ss.length=0<->(ls.map aV.pr).filter (·.2.nb)=[]:=by
 have hn:ss.length=(aI ls).length:=by rw[<-hI.1,List.length_map]
 rw[hn];constructor
 ·intro h0;rw[List.filter_eq_nil_iff];intro y hy iE;obtain ⟨l,hl,rfl⟩:=List.mem_map.1 hy;have hk:=dM (hL.each l hl)
  have adm:0<(aI ls).length:=by
   by_cases hs:l.x.aL=true
   ·exact List.length_pos_of_mem (a:=l.st) (List.mem_filterMap.2 ⟨l,hl,by rw[if_pos (hk.1.2 hs)]⟩)
   ·have zI:l.x.aY=true:=by
     cases hx:l.x with
     | blank=>simp[aV.pr,hx,Ln.nb]at iE
     | state n=>rw[hx]at hs;exact absurd rfl hs
     | rule d o c p=>rfl
    obtain ⟨pre,post,e⟩:=List.append_of_mem hl;have h1:=yi hL hr pre l post e (hk.2.2 zI);obtain ⟨n,hn⟩:=List.exists_mem_of_length_pos h1;refine List.length_pos_of_mem (a:=n) ?_;unfold aI at hn ⊢;rw[e,List.filterMap_append];exact List.mem_append_left _ hn
  omega
 ·intro hf;rw[List.length_eq_zero_iff];refine List.filterMap_eq_nil_iff.2 λl hl=>?_
  rw[if_neg];intro hk;have hs:=(dM (hL.each l hl)).1.1 hk;have:=List.filter_eq_nil_iff.1 hf (aV.pr l) (List.mem_map_of_mem hl);refine this ?_
  cases hx:l.x with
  | blank=>rw[hx]at hs;cases hs
  | state n=>simp[aV.pr,hx,Ln.nb]
  | rule d o c p=>simp[aV.pr,hx,Ln.nb]
set_option maxRecDepth 20000 in
set_option maxHeartbeats 2000000 in
theorem JR(s:ByteArray)(w:World)(hm:Mx w):Calls Tryz.prog 59 #[.string s] w (iu s.data.toList w):=by
 have HM:=aa hm;have LO:=mV s;clear hm;by_cases hz:2000<s.size
 ·have g1:decide ((2000:Int)<(s.size:Int))=true:=decide_eq_true (by omega);have ai:=aa (show iu s.data.toList w (.returned (.tuple #[.slice none 0 0,.int .i64 1,.int .i64 0])) w from ⟨Below.refl _ _,.inl ⟨1,0,by decide,rfl,.long (by omega)⟩⟩);clear hz LO HM;go_enter Tryz.func59,Tryz.ntmps59;go_wp2_with fail
  exact bodyPost_ret (v:=.tuple #[.slice none 0 0,.int .i64 1,.int .i64 0]) (by simp[results,Tryz.results59,go_sem, *]) rfl ai.out
 ·have g1:decide ((2000:Int)<(s.size:Int))=false:=decide_eq_false (by omega);have hz2:s.data.toList.length<=2000:=by omega
  have hz3:s.size<=2000:=by omega
  have jd:=aa (xm s w hz3 HM.out);clear hz LO HM;go_enter Tryz.func59,Tryz.ntmps59;go_wp2_with fail;refine jd.out.mono ?_;rintro e w1 ⟨hb1,⟨a,rfl,IM⟩|⟨lv,ls,rfl,IM,hL,hlen⟩⟩
  ·have ai:=aa (show iu s.data.toList w (.returned (.tuple #[.slice none 0 0,.int .i64 2,.int .i64 a])) w1 from ⟨hb1,.inl ⟨2,a,by decide,rfl,.form hz2 IM⟩⟩);clear hb1 IM jd;go_wp2_with fail;exact bodyPost_ret (v:=.tuple #[.slice none 0 0,.int .i64 2,.int .i64 a]) (by simp[results,Tryz.results59,go_sem, *]) rfl ai.out
  ·obtain ⟨ao,cap,rfl,hao⟩:=hL.form;have HFF:=aa (vp w.heap.size _ ls w1 hL (by omega));have HL:=aa hL;have yY:=aa IM;have bA:=aa hb1;clear hb1 IM jd hL hao;go_wp2_with fail;refine HFF.out.mono ?_;rintro e w2 ⟨hb2,en,a,rfl,hch⟩;have pK:=bA.out.trans (hb2.mono bA.out.size);by_cases hen:en=0
   ·have ha0:a=0:=by have:=hch;subst hen;have hn:=vg (tests (ls.map aV.pr)) (λi e p h=>vC this rfl (by intro t ht;simp only[tests,List.mem_cons,List.not_mem_nil,or_false]at ht;rcases ht with rfl|rfl|rfl|rfl|rfl|rfl<;>exact Nat.succ_ne_zero _) (e,p) (List.mem_of_getElem? h));exact (this.cX hn).2
    have q1:((en:Int) != 0)=false:=by rw[hen];rfl
    subst hen ha0;have HBU:=aa (JQ w.heap.size _ ls w2 (HL.out.below hb2) (by omega) (CE HL.out yY.out) (yi HL.out yY.out) (NN HL.out hch));have HCH:=aa hch;have cL:=aa pK;have ld:=aa (HL.out.below hb2);clear hb2 pK hch HFF;go_wp2_with fail;refine HBU.out.mono ?_;rintro e w3 ⟨hb3,sv,ss,rfl,hS,hI⟩;have Ea:=cL.out.trans (hb3.mono cL.out.size)
    obtain ⟨sa,oL,rfl,ZM⟩:=hS.form;by_cases h0:ss.length=0
    ·have q2:((ss.length:Int)==0)=true:=by rw[h0];rfl
     have ai:=aa (show iu s.data.toList w (.returned (.tuple #[.slice none 0 0,.int .i64 4,.int .i64 s.size])) w3 from ⟨Ea,.inl ⟨4,s.size,by decide,rfl,by rw[mV];exact .none hz2 yY.out ((yj HL.out yY.out hI).1 h0)⟩⟩);clear hb3 Ea hS hI ZM h0 HBU HCH cL ld;go_wp2_with fail
     exact bodyPost_ret (v:=.tuple #[.slice none 0 0,.int .i64 4,.int .i64 s.size]) (by simp[results,Tryz.results59,go_sem, *]) rfl ai.out
    ·have q2:((ss.length:Int)==0)=false:=by rw[beq_eq_false_iff_ne];omega
     have ai:=aa (show iu s.data.toList w (.returned (.tuple #[.slice sa ss.length oL,.int .i64 0,.int .i64 0])) w3 from ⟨Ea,.inr ⟨w2.heap.size,sa,ss.length,oL,ls,ss,rfl,.ok hz2 yY.out HCH.out.filter (λh=>h0 ((yj HL.out yY.out hI).2 h)),cL.out.size,⟨⟨_,_,ld.out.below hb3⟩,hS,hI,by omega⟩⟩⟩);clear hb3 Ea hS hI ZM h0 HBU HCH cL ld;go_wp2_with fail
     exact bodyPost_ret (v:=.tuple #[.slice sa ss.length oL,.int .i64 0,.int .i64 0]) (by simp[results,Tryz.results59,go_sem, *]) rfl ai.out
   ·have q1:((en:Int) != 0)=true:=by rw[bne_iff_ne];omega
    have ai:=aa (show iu s.data.toList w (.returned (.tuple #[.slice none 0 0,.int .i64 en,.int .i64 a])) w2 from ⟨pK,.inl ⟨en,a,hen,rfl,.fault hz2 yY.out hch.filter hen⟩⟩);clear hb2 pK hch hen HFF;go_wp2_with fail;exact bodyPost_ret (v:=.tuple #[.slice none 0 0,.int .i64 en,.int .i64 a]) (by simp[results,Tryz.results59,go_sem, *]) rfl ai.out
def vD(s:List UInt8)(w:World)(e:Ending)(w':World):Prop:=
 Below w.heap.size w w'/\((∃ec a:Nat,ec≠0/\e=.returned (.tuple #[.pointer none,.int .i64 ec,.int .i64 a])/\dt s ec a []) ∨
  (∃P B ao n cap ls ss,e=.returned (.tuple #[.pointer (some ⟨P,0,none⟩),.int .i64 0,.int .i64 0])/\dt s 0 0 ((ls.map aV.pr).filter (·.2.nb))/\w.heap.size<=B/\Made w' B (.slice ao n cap) ls ss/\w'.heap[P]?=some (.cells #[.slice ao n cap] 38 (0,0))))
theorem Made.below{w':World}(h:Made w B sv ls ss)(hb:Below w.heap.size w w'):Made w' B sv ls ss:=by obtain ⟨B',lv,hl⟩:=h.lines;exact ⟨⟨B',lv,hl.below hb⟩,h.states.below hb,h.inv,h.some⟩
set_option maxRecDepth 20000 in
set_option maxHeartbeats 2000000 in
theorem y9(s:ByteArray)(w:World)(hm:Mx w):Calls Tryz.prog 33 #[.string s] w (vD s.data.toList w):=by
 have yY:=aa (JR s w hm);clear hm;go_enter Tryz.func33,Tryz.ntmps33;go_wp2_with fail;refine yY.out.mono ?_;rintro e w1 ⟨hb1,⟨ec,a,WG,rfl,Bp⟩|⟨B,ao,n,cap,ls,ss,rfl,Bp,hB,hM⟩⟩
 ·have q1:((ec:Int) != 0)=true:=by rw[bne_iff_ne];omega
  have ai:=aa (show vD s.data.toList w (.returned (.tuple #[.pointer none,.int .i64 ec,.int .i64 a])) w1 from ⟨hb1,.inl ⟨ec,a,WG,rfl,Bp⟩⟩);clear hb1 WG Bp yY;go_wp2_with fail;exact bodyPost_ret (v:=.tuple #[.pointer none,.int .i64 ec,.int .i64 a]) (by simp[results,Tryz.results33,go_sem, *]) rfl ai.out
 ·have ai:=aa (show vD s.data.toList w (.returned (.tuple #[.pointer (some ⟨w1.heap.size,0,none⟩),.int .i64 0,.int .i64 0])) (w1.alloc (.cells #[.slice ao n cap] 38)) from ⟨hb1.alloc hb1.size _,.inr ⟨_,B,ao,n,cap,ls,ss,rfl,Bp,hB,hM.below ((Below.refl _ _).alloc (Nat.le_refl _) _),af _ _⟩⟩);clear hb1 Bp hB hM yY;go_wp2_with fail
  exact bodyPost_ret (v:=.tuple #[.pointer (some ⟨w1.heap.size,0,none⟩),.int .i64 0,.int .i64 0]) (by simp[results,Tryz.results33,go_sem, *]) rfl ai.out
end Go.Proofs.YtgncgdkpkkdaeaaGreatDoor
