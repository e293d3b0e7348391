import Derived.Test.YtgncgdkpkkdaeaaGreatDoorAN
set_option maxRecDepth 20000
set_option maxHeartbeats 2000000
namespace Go.Proofs.YtgncgdkpkkdaeaaGreatDoor
open Go.RowKit bu
variable {ls:List aW} {ss:List nO} {l s:List UInt8} {x:Ln} {B a:Nat} {sv:Value} {w:World}
def Small:Ln->Prop
 | .blank=>True
 | .state n=>n.length<=12
 | .rule _ o c _=>o.length<=12/\c.length<=12
theorem pF(h:isName l=true):l.length<=12:=by simp only[isName,Bool.and_eq_true,decide_eq_true_eq]at h;exact h.1.2
theorem pG{d:Nat}{o r:List UInt8}(ho:o.length<=12)(h:cI d o r=some x):Small x:=by
 unfold cI at h
 cases hb:bA r with
 | none=>rw[hb]at h;cases h
 | some cp=>
  obtain ⟨c,p⟩:=cp;rw[hb]at h;cases h;exact ⟨ho,pF (oK hb).2⟩
theorem Gx(h:cS l=some x):Small x:=by
 unfold cS at h;split at h
 ·cases h;trivial
 ·rcases hc:cutAt 32 l with ⟨a,_|r⟩
  ·rw[hc]at h;cases h
  ·rw[hc]at h;simp only[gq]at h;split at h
   ·split at h
    ·rename_i hn;cases h;exact pF hn
    ·cases h
   ·split at h
    ·exact pG (by simp) h
    ·split at h
     ·exact pG (by simp) h
     ·split at h
      ·rcases hp:cutAt 32 r with ⟨o,_|r'⟩
       ·simp only[jb,hp]at h;cases h
       ·simp only[jb,hp]at h;split at h
        ·rename_i hn;exact pG (pF hn) h
        ·cases h
      ·cases h
def X6(l:cU):Prop:=∀pre y post,l=pre++y::post->Small y.2/\(y.2.aZ=true->pre.any (·.2.aN)=true)
theorem X6.snoc{l:cU}{p:Nat}(h:X6 l)(hx:Small x)(hr:¬(x.aZ=true/\l.any (·.2.aN)=false)):X6 (l++[(p,x)]):=by
 intro pre y post e;rcases List.eq_nil_or_concat post with rfl|⟨post',z,rfl⟩
 ·obtain ⟨e1,e2⟩:=List.append_inj' e rfl;cases e2;subst e1;refine ⟨hx,λhy=>?_⟩
  cases ha:l.any (·.2.aN) with
  | true=>rfl
  | false=>exact absurd ⟨hy,ha⟩ hr
 ·rw[List.concat_eq_append,<-List.cons_append,<-fP]at e;obtain ⟨e1,-⟩:=List.append_inj' e rfl;exact h pre y post' e1
theorem OM:∀(f p:Nat) (acc:cU) (s:List UInt8) (l:cU),X6 acc->lI f p acc s=.inr l->X6 l:=by
 intro f
 induction f with
 | zero=>intro p acc s l _ h;cases h
 | succ f ih=>
  intro p acc s l ha h;unfold lI at h;split at h
  ·cases h;exact ha
  ·rcases hc:cutAt 10 s with ⟨a,_|r⟩
   ·rw[hc]at h;cases h
   ·rw[hc]at h;simp only at h
    cases hx:cS a with
    | none=>rw[hx]at h;cases h
    | some x=>
     rw[hx]at h;simp only at h;split at h
     ·cases h
     ·rename_i hn;exact ih _ _ _ _ (ha.snoc (Gx hx) hn) h
theorem Ue{l:cU}(h:rd 0 [] s=.inr l):X6 l:=OM _ _ _ _ _ (λpre y post e=>by simp at e) h
theorem Wn(hL:Lines w B sv ls)(pre:List aW)(oY:∀l∈pre,l∈ls):(pre.map aW.pr).any (·.2.aN)=true->0<(aK pre).length:=by intro h;obtain ⟨y,hy,hs⟩:=List.any_eq_true.1 h;obtain ⟨l,hl,rfl⟩:=List.mem_map.1 hy;have hk:=(dX (hL.each l (oY l hl))).1.2 hs;refine List.length_pos_of_mem (a:=l.st) (List.mem_filterMap.2 ⟨l,hl,by rw[if_pos hk]⟩)
theorem yZ(hL:Lines w B sv ls)(h:rd 0 [] s=.inr (ls.map aW.pr)):∀pre l post,ls=pre++l::post->l.kd=2->0<(aK pre).length:=by
 intro pre l post e hk;have hl:l∈ls:=by rw[e];simp
 refine Wn hL pre (λy hy=>by rw[e];exact List.mem_append_left _ hy) ((Ue h (pre.map aW.pr) (aW.pr l) (post.map aW.pr) (by rw[e];simp)).2 ((dX (hL.each l hl)).2.1 hk))
theorem nQ(b:ByteArray):b.size=b.data.toList.length:=by rw[Array.length_toList];rfl
theorem Ds(hL:Lines w B sv ls)(h:rd 0 [] s=.inr (ls.map aW.pr)):∀l∈ls,(l.kd=2->l.co.size<=281474976710656)/\(l.kd=1->l.st.size<=281474976710656):=by
 intro l hl;obtain ⟨pre,post,e⟩:=List.append_of_mem hl;have hsm:=(Ue h (pre.map aW.pr) (aW.pr l) (post.map aW.pr) (by rw[e];simp)).1;have hx:=hL.each l hl
 cases IP:l.x with
 | blank=>rw[IP]at hx;exact ⟨λh=>(by rw[hx.1]at h;cases h),λh=>(by rw[hx.1]at h;cases h)⟩
 | state n=>
  rw[IP]at hx;simp only[aW.pr,IP]at hsm;have h1:l.st.data.toList.length<=12:=by rw[hx.2.2.1];exact hsm
  rw[<-nQ]at h1;exact ⟨λh=>(by rw[hx.1]at h;cases h),λ_=>by omega⟩
 | rule d o c p=>
  rw[IP]at hx;simp only[aW.pr,IP]at hsm;have h2:l.co.data.toList.length<=12:=by rw[hx.2.2.2.2.1];exact hsm.2
  rw[<-nQ]at h2;exact ⟨λ_=>by omega,λh=>(by rw[hx.1]at h;cases h)⟩
theorem wK{fs:cU}{ts:List (Nat×(cU->Ln->Prop))}{e:Nat}(h:fp fs ts e a)(he:e=0):(∀t∈ts,t.1≠0)->∀t∈ts,dQ t.2 [] fs none:=by
 induction h with
 | nil=>intro _ t ht;simp at ht
 | hit hf=>intro hn;exact absurd he (hn (_,_) (List.mem_cons_self ..))
 | skip hf _ ih=>
  intro hn t ht;rcases List.mem_cons.1 ht with rfl|ht
  ·exact hf
  ·exact ih he (λt h=>hn t (List.mem_cons_of_mem _ h)) t ht
theorem OO(hL:Lines w B sv ls)(h:fp (ls.map aW.pr) (tests (ls.map aW.pr)) 0 a):∀l∈ls,l.d=1->∃n∈aK ls,n.data.toList=l.st.data.toList:=by
 intro l hl hd;have hf:=wK h rfl (by intro t ht;simp only[tests,List.mem_cons,List.not_mem_nil,or_false]at ht;rcases ht with rfl|rfl|rfl|rfl|rfl|rfl<;>exact Nat.succ_ne_zero _) (5,dh (ls.map aW.pr)) (by simp[tests]);have hn:=dT (λ_ _=>Iff.rfl) hf (aW.pr l) (List.mem_map_of_mem hl);have hx:=hL.each l hl
 cases IP:l.x with
 | blank=>rw[IP]at hx;rw[hx.2.1]at hd;cases hd
 | state n=>rw[IP]at hx;rw[hx.2.1]at hd;cases hd
 | rule d o c p=>
  rw[IP]at hx;obtain ⟨_,h2,_,h4,_⟩:=hx;refine Classical.byContradiction λhno=>hn ⟨o,c,p,by simp only[aW.pr,IP,h2,hd],λa ha=>hno ?_⟩
  obtain ⟨t,ht,e⟩:=List.mem_map.1 ha;have htx:=hL.each t ht;have e2:t.x=.state o:=(Prod.mk.injEq ..▸e:_/\_).2;rw[e2]at htx;exact ⟨t.st,List.mem_filterMap.2 ⟨t,ht,by rw[if_pos htx.1]⟩,by rw[htx.2.2.1,h4]⟩
structure Made(w:World)(B:Nat)(sv:Value)(ls:List aW)(ss:List nO):Prop where
 lines:∃B' lv,Lines w B' lv ls
 states:cJ w B sv ss
 inv:sD (aK ls) ls ss
 some:0<ss.length
def iO(s:List UInt8)(w:World)(e:Ending)(w':World):Prop:=
 Below w.heap.size w w'/\((∃ec a:Nat,ec≠0/\e=.returned (.tuple #[.slice none 0 0,.int .i64 ec,.int .i64 a])/\dD s ec a []) ∨
  (∃B ao n cap ls ss,e=.returned (.tuple #[.slice ao n cap,.int .i64 0,.int .i64 0])/\dD s 0 0 ((ls.map aW.pr).filter (·.2.nb))/\w.heap.size<=B/\Made w' B (.slice ao n cap) ls ss))
theorem za{lv:Value}(hL:Lines w B lv ls)(hr:rd 0 [] s=.inr (ls.map aW.pr))(hI:sD (aK ls) ls ss):ss.length=0<->(ls.map aW.pr).filter (·.2.nb)=[]:=by
 have hn:ss.length=(aK ls).length:=by rw[<-hI.1,fy]
 rw[hn];constructor
 ·intro h0;rw[List.filter_eq_nil_iff];intro y hy iX;obtain ⟨l,hl,rfl⟩:=List.mem_map.1 hy;have hk:=dX (hL.each l hl)
  have adN:0<(aK ls).length:=by
   by_cases hs:l.x.aN=true
   ·exact List.length_pos_of_mem (a:=l.st) (List.mem_filterMap.2 ⟨l,hl,by rw[if_pos (hk.1.2 hs)]⟩)
   ·have AG:l.x.aZ=true:=by
     cases hx:l.x with
     | blank=>simp[aW.pr,hx,Ln.nb]at iX
     | state n=>rw[hx]at hs;exact absurd rfl hs
     | rule d o c p=>rfl
    obtain ⟨pre,post,e⟩:=List.append_of_mem hl;have h1:=yZ hL hr pre l post e (hk.2.2 AG);obtain ⟨n,hn⟩:=List.exists_mem_of_length_pos h1;refine List.length_pos_of_mem (a:=n) ?_;unfold aK at hn ⊢;rw[e,List.filterMap_append];exact List.mem_append_left _ hn
  omega
 ·intro hf;rw[List.length_eq_zero_iff];refine List.filterMap_eq_nil_iff.2 λl hl=>?_
  rw[if_neg];intro hk;have hs:=(dX (hL.each l hl)).1.1 hk;have:=List.filter_eq_nil_iff.1 hf (aW.pr l) (List.mem_map_of_mem hl);refine this ?_
  cases hx:l.x with
  | blank=>rw[hx]at hs;cases hs
  | state n=>simp[aW.pr,hx,Ln.nb]
  | rule d o c p=>simp[aW.pr,hx,Ln.nb]
theorem KG(s:ByteArray)(w:World)(hm:Mx w):Calls Tryz.prog 59 #[.string s] w (iO s.data.toList w):=by
 have HM:=aa hm;have Ew:=nQ s;clear hm;by_cases hz:2000<s.size
 ·have g1:decide ((2000:Int)<(s.size:Int))=true:=cF (by omega);have aq:=aa (show iO s.data.toList w (.returned (.tuple #[.slice none 0 0,.int .i64 1,.int .i64 0])) w from ⟨Below.refl _ _,.inl ⟨1,0,by decide,rfl,.long (by omega)⟩⟩);clear hz Ew HM;go_enter Tryz.func59,Tryz.ntmps59;go_wp2_with fail
  exact bodyPost_ret (v:=.tuple #[.slice none 0 0,.int .i64 1,.int .i64 0]) (by simp[results,Tryz.results59,go_sem, *]) rfl aq.out
 ·have g1:decide ((2000:Int)<(s.size:Int))=false:=bV (by omega);have hz2:s.data.toList.length<=2000:=by omega
  have hz3:s.size<=2000:=by omega
  have jA:=aa (xV s w hz3 HM.out);clear hz Ew HM;go_enter Tryz.func59,Tryz.ntmps59;go_wp2_with fail;refine jA.out.mono ?_;rintro e w1 ⟨hb1,⟨a,rfl,JA⟩|⟨lv,ls,rfl,JA,hL,hlen⟩⟩
  ·have aq:=aa (show iO s.data.toList w (.returned (.tuple #[.slice none 0 0,.int .i64 2,.int .i64 a])) w1 from ⟨hb1,.inl ⟨2,a,by decide,rfl,.form hz2 JA⟩⟩);clear hb1 JA jA;go_wp2_with fail;exact bodyPost_ret (v:=.tuple #[.slice none 0 0,.int .i64 2,.int .i64 a]) (by simp[results,Tryz.results59,go_sem, *]) rfl aq.out
  ·obtain ⟨ao,cap,rfl,hao⟩:=hL.form;have HFF:=aa (wA w.heap.size _ ls w1 hL (by omega));have HL:=aa hL;have zR:=aa JA;have bM:=aa hb1;clear hb1 JA jA hL hao;go_wp2_with fail;refine HFF.out.mono ?_;rintro e w2 ⟨hb2,en,a,rfl,hch⟩;have qq:=bM.out.trans (hb2.mono bM.out.size);by_cases hen:en=0
   ·have ha0:a=0:=by have:=hch;subst hen;have hn:=wy (tests (ls.map aW.pr)) (λi e p h=>wK this rfl (by intro t ht;simp only[tests,List.mem_cons,List.not_mem_nil,or_false]at ht;rcases ht with rfl|rfl|rfl|rfl|rfl|rfl<;>exact Nat.succ_ne_zero _) (e,p) (bn h));exact (this.dz hn).2
    have q1:((en:Int) != 0)=false:=by rw[hen];rfl
    subst hen ha0;have HBU:=aa (KF w.heap.size _ ls w2 (HL.out.below hb2) (by omega) (Ds HL.out zR.out) (yZ HL.out zR.out) (OO HL.out hch));have HCH:=aa hch;have cW:=aa qq;have lW:=aa (HL.out.below hb2);clear hb2 qq hch HFF;go_wp2_with fail;refine HBU.out.mono ?_;rintro e w3 ⟨hb3,sv,ss,rfl,hS,hI⟩;have EW:=cW.out.trans (hb3.mono cW.out.size)
    obtain ⟨sa,pE,rfl,hsa⟩:=hS.form;by_cases h0:ss.length=0
    ·have q2:((ss.length:Int)==0)=true:=by rw[h0];rfl
     have aq:=aa (show iO s.data.toList w (.returned (.tuple #[.slice none 0 0,.int .i64 4,.int .i64 s.size])) w3 from ⟨EW,.inl ⟨4,s.size,by decide,rfl,by rw[nQ];exact .none hz2 zR.out ((za HL.out zR.out hI).1 h0)⟩⟩);clear hb3 EW hS hI hsa h0 HBU HCH cW lW;go_wp2_with fail
     exact bodyPost_ret (v:=.tuple #[.slice none 0 0,.int .i64 4,.int .i64 s.size]) (by simp[results,Tryz.results59,go_sem, *]) rfl aq.out
    ·have q2:((ss.length:Int)==0)=false:=by rw[er];omega
     have aq:=aa (show iO s.data.toList w (.returned (.tuple #[.slice sa ss.length pE,.int .i64 0,.int .i64 0])) w3 from ⟨EW,.inr ⟨w2.heap.size,sa,ss.length,pE,ls,ss,rfl,.ok hz2 zR.out HCH.out.filter (λh=>h0 ((za HL.out zR.out hI).2 h)),cW.out.size,⟨⟨_,_,lW.out.below hb3⟩,hS,hI,by omega⟩⟩⟩);clear hb3 EW hS hI hsa h0 HBU HCH cW lW;go_wp2_with fail
     exact bodyPost_ret (v:=.tuple #[.slice sa ss.length pE,.int .i64 0,.int .i64 0]) (by simp[results,Tryz.results59,go_sem, *]) rfl aq.out
   ·have q1:((en:Int) != 0)=true:=by rw[bne_iff_ne];omega
    have aq:=aa (show iO s.data.toList w (.returned (.tuple #[.slice none 0 0,.int .i64 en,.int .i64 a])) w2 from ⟨qq,.inl ⟨en,a,hen,rfl,.fault hz2 zR.out hch.filter hen⟩⟩);clear hb2 qq hch hen HFF;go_wp2_with fail;exact bodyPost_ret (v:=.tuple #[.slice none 0 0,.int .i64 en,.int .i64 a]) (by simp[results,Tryz.results59,go_sem, *]) rfl aq.out
def wM(s:List UInt8)(w:World)(e:Ending)(w':World):Prop:=
 Below w.heap.size w w'/\((∃ec a:Nat,ec≠0/\e=.returned (.tuple #[.pointer none,.int .i64 ec,.int .i64 a])/\dD s ec a []) ∨
  (∃P B ao n cap ls ss,e=.returned (.tuple #[.pointer (some ⟨P,0,none⟩),.int .i64 0,.int .i64 0])/\dD s 0 0 ((ls.map aW.pr).filter (·.2.nb))/\w.heap.size<=B/\Made w' B (.slice ao n cap) ls ss/\w'.heap[P]?=some (.cells #[.slice ao n cap] 38 (0,0))))
theorem Made.below{w':World}(h:Made w B sv ls ss)(hb:Below w.heap.size w w'):Made w' B sv ls ss:=by obtain ⟨B',lv,hl⟩:=h.lines;exact ⟨⟨B',lv,hl.below hb⟩,h.states.below hb,h.inv,h.some⟩
theorem zT(s:ByteArray)(w:World)(hm:Mx w):Calls Tryz.prog 33 #[.string s] w (wM s.data.toList w):=by
 have zR:=aa (KG s w hm);clear hm;go_enter Tryz.func33,Tryz.ntmps33;go_wp2_with fail;refine zR.out.mono ?_;rintro e w1 ⟨hb1,⟨ec,a,TF,rfl,zU⟩|⟨B,ao,n,cap,ls,ss,rfl,zU,hB,hM⟩⟩
 ·have q1:((ec:Int) != 0)=true:=by rw[bne_iff_ne];omega
  have aq:=aa (show wM s.data.toList w (.returned (.tuple #[.pointer none,.int .i64 ec,.int .i64 a])) w1 from ⟨hb1,.inl ⟨ec,a,TF,rfl,zU⟩⟩);clear hb1 TF zU zR;go_wp2_with fail;exact bodyPost_ret (v:=.tuple #[.pointer none,.int .i64 ec,.int .i64 a]) (by simp[results,Tryz.results33,go_sem, *]) rfl aq.out
 ·have aq:=aa (show wM s.data.toList w (.returned (.tuple #[.pointer (some ⟨w1.heap.size,0,none⟩),.int .i64 0,.int .i64 0])) (w1.alloc (.cells #[.slice ao n cap] 38)) from ⟨hb1.alloc hb1.size _,.inr ⟨_,B,ao,n,cap,ls,ss,rfl,zU,hB,hM.below (cq _ _),ag _ _⟩⟩);clear hb1 zU hB hM zR;go_wp2_with fail
  exact bodyPost_ret (v:=.tuple #[.pointer (some ⟨w1.heap.size,0,none⟩),.int .i64 0,.int .i64 0]) (by simp[results,Tryz.results33,go_sem, *]) rfl aq.out
end Go.Proofs.YtgncgdkpkkdaeaaGreatDoor
