import Derived.Test.YtgncgdkpkkdaeaaGreatDoorMN
namespace Go.Proofs.YtgncgdkpkkdaeaaGreatDoor
open Go.RowKit aQ
variable {ls:List aU} {ss:List mg} {l s:List UInt8} {x:Ln} {B a:Nat} {sv:Value} {w:World}
def Small:Ln->Prop
 | .blank=>True
 | .state n=>n.length<=12
 | .rule _ o c _=>o.length<=12/\c.length<=12
theorem nQ(h:isName l=true):l.length<=12:=by simp only[isName,Bool.and_eq_true,decide_eq_true_eq]at h;exact h.1.2
theorem nR{d:Nat}{o r:List UInt8}(ho:o.length<=12)(h:cd d o r=some x):Small x:=by
 unfold cd at h
 cases hb:bj r with
 | none=>rw[hb]at h;cases h
 | some cp=>
  obtain ⟨c,p⟩:=cp;rw[hb]at h;cases h;exact ⟨ho,nQ (mY hb).2⟩
theorem Et(h:cC l=some x):Small x:=by
 unfold cC at h;split at h
 ·cases h;trivial
 ·rcases hc:cutAt 32 l with ⟨a,_|r⟩
  ·rw[hc]at h;cases h
  ·rw[hc]at h;simp only[fB]at h;split at h
   ·split at h
    ·rename_i hn;cases h;exact nQ hn
    ·cases h
   ·split at h
    ·exact nR (by simp) h
    ·split at h
     ·exact nR (by simp) h
     ·split at h
      ·rcases hp:cutAt 32 r with ⟨o,_|r'⟩
       ·simp only[il,hp]at h;cases h
       ·simp only[il,hp]at h;split at h
        ·rename_i hn;exact nR (nQ hn) h
        ·cases h
      ·cases h
def Vp(l:cK):Prop:=∀pre y post,l=pre++y::post->Small y.2/\(y.2.aZ=true->pre.any (·.2.aL)=true)
theorem Vp.snoc{l:cK}{p:Nat}(h:Vp l)(hx:Small x)(hr:¬(x.aZ=true/\l.any (·.2.aL)=false)):Vp (l++[(p,x)]):=by
 intro pre y post e;rcases List.eq_nil_or_concat post with rfl|⟨post',z,rfl⟩
 ·obtain ⟨e1,e2⟩:=List.append_inj' e rfl;cases e2;subst e1;refine ⟨hx,λhy=>?_⟩
  cases ha:l.any (·.2.aL) with
  | true=>rfl
  | false=>exact absurd ⟨hy,ha⟩ hr
 ·rw[List.concat_eq_append,<-List.cons_append,<-List.append_assoc]at e;obtain ⟨e1,-⟩:=List.append_inj' e rfl;exact h pre y post' e1
theorem Mp:∀(f p:Nat) (acc:cK) (s:List UInt8) (l:cK),Vp acc->kn f p acc s=.inr l->Vp l:=by
 intro f
 induction f with
 | zero=>intro p acc s l _ h;cases h
 | succ f ih=>
  intro p acc s l ha h;unfold kn at h;split at h
  ·cases h;exact ha
  ·rcases hc:cutAt 10 s with ⟨a,_|r⟩
   ·rw[hc]at h;cases h
   ·rw[hc]at h;simp only at h
    cases hx:cC a with
    | none=>rw[hx]at h;cases h
    | some x=>
     rw[hx]at h;simp only at h;split at h
     ·cases h
     ·rename_i hn;exact ih _ _ _ _ (ha.snoc (Et hx) hn) h
theorem Ry{l:cK}(h:rd 0 [] s=.inr l):Vp l:=Mp _ _ _ _ _ (λpre y post e=>by simp at e) h
theorem TT(hL:Lines w B sv ls)(pre:List aU)(nw:∀l∈pre,l∈ls):(pre.map aU.pr).any (·.2.aL)=true->0<(aG pre).length:=by intro h;obtain ⟨y,hy,hs⟩:=List.any_eq_true.1 h;obtain ⟨l,hl,rfl⟩:=List.mem_map.1 hy;have hk:=(dB (hL.each l (nw l hl))).1.2 hs;refine List.length_pos_of_mem (a:=l.st) (List.mem_filterMap.2 ⟨l,hl,by rw[if_pos hk]⟩)
theorem xd(hL:Lines w B sv ls)(h:rd 0 [] s=.inr (ls.map aU.pr)):∀pre l post,ls=pre++l::post->l.kd=2->0<(aG pre).length:=by
 intro pre l post e hk;have hl:l∈ls:=by rw[e];simp
 refine TT hL pre (λy hy=>by rw[e];exact List.mem_append_left _ hy) ((Ry h (pre.map aU.pr) (aU.pr l) (post.map aU.pr) (by rw[e];simp)).2 ((dB (hL.each l hl)).2.1 hk))
theorem mi(b:ByteArray):b.size=b.data.toList.length:=by rw[Array.length_toList];rfl
theorem Bw(hL:Lines w B sv ls)(h:rd 0 [] s=.inr (ls.map aU.pr)):∀l∈ls,(l.kd=2->l.co.size<=281474976710656)/\(l.kd=1->l.st.size<=281474976710656):=by
 intro l hl;obtain ⟨pre,post,e⟩:=List.append_of_mem hl;have hsm:=(Ry h (pre.map aU.pr) (aU.pr l) (post.map aU.pr) (by rw[e];simp)).1;have hx:=hL.each l hl
 cases FZ:l.x with
 | blank=>rw[FZ]at hx;exact ⟨λh=>(by rw[hx.1]at h;cases h),λh=>(by rw[hx.1]at h;cases h)⟩
 | state n=>
  rw[FZ]at hx;simp only[aU.pr,FZ]at hsm;have h1:l.st.data.toList.length<=12:=by rw[hx.2.2.1];exact hsm
  rw[<-mi]at h1;exact ⟨λh=>(by rw[hx.1]at h;cases h),λ_=>by omega⟩
 | rule d o c p=>
  rw[FZ]at hx;simp only[aU.pr,FZ]at hsm;have h2:l.co.data.toList.length<=12:=by rw[hx.2.2.2.2.1];exact hsm.2
  rw[<-mi]at h2;exact ⟨λ_=>by omega,λh=>(by rw[hx.1]at h;cases h)⟩
theorem uj{fs:cK}{ts:List (Nat×(cK->Ln->Prop))}{e:Nat}(h:eI fs ts e a)(he:e=0):(∀t∈ts,t.1≠0)->∀t∈ts,dF t.2 [] fs none:=by
 induction h with
 | nil=>intro _ t ht;simp at ht
 | hit hf=>intro hn;exact absurd he (hn (_,_) (List.mem_cons_self ..))
 | skip hf _ ih=>
  intro hn t ht;rcases List.mem_cons.1 ht with rfl|ht
  ·exact hf
  ·exact ih he (λt h=>hn t (List.mem_cons_of_mem _ h)) t ht
theorem Mq(hL:Lines w B sv ls)(h:eI (ls.map aU.pr) (tests (ls.map aU.pr)) 0 a):∀l∈ls,l.d=1->∃n∈aG ls,n.data.toList=l.st.data.toList:=by
 intro l hl hd;have hf:=uj h rfl (by intro t ht;simp only[tests,List.mem_cons,List.not_mem_nil,or_false]at ht;rcases ht with rfl|rfl|rfl|rfl|rfl|rfl<;>exact Nat.succ_ne_zero _) (5,cN (ls.map aU.pr)) (by simp[tests]);have hn:=dy (λ_ _=>Iff.rfl) hf (aU.pr l) (List.mem_map_of_mem hl);have hx:=hL.each l hl
 cases FZ:l.x with
 | blank=>rw[FZ]at hx;rw[hx.2.1]at hd;cases hd
 | state n=>rw[FZ]at hx;rw[hx.2.1]at hd;cases hd
 | rule d o c p=>
  rw[FZ]at hx;obtain ⟨_,h2,_,h4,_⟩:=hx;refine Classical.byContradiction λhno=>hn ⟨o,c,p,by simp only[aU.pr,FZ,h2,hd],λa ha=>hno ?_⟩
  obtain ⟨t,ht,e⟩:=List.mem_map.1 ha;have htx:=hL.each t ht;have e2:t.x=.state o:=(Prod.mk.injEq ..▸e:_/\_).2;rw[e2]at htx;exact ⟨t.st,List.mem_filterMap.2 ⟨t,ht,by rw[if_pos htx.1]⟩,by rw[htx.2.2.1,h4]⟩
structure Made(w:World)(B:Nat)(sv:Value)(ls:List aU)(ss:List mg):Prop where
 lines:∃B' lv,Lines w B' lv ls
 states:cg w B sv ss
 inv:qu (aG ls) ls ss
 some:0<ss.length
def gW(s:List UInt8)(w:World)(e:Ending)(w':World):Prop:=
 Below w.heap.size w w'/\((∃ec a:Nat,ec≠0/\e=.returned (.tuple #[.slice none 0 0,.int .i64 ec,.int .i64 a])/\dM s ec a []) ∨
  (∃B ao n cap ls ss,e=.returned (.tuple #[.slice ao n cap,.int .i64 0,.int .i64 0])/\dM s 0 0 ((ls.map aU.pr).filter (·.2.nb))/\w.heap.size<=B/\Made w' B (.slice ao n cap) ls ss))
theorem xe{lv:Value}(hL:Lines w B lv ls)(hr:rd 0 [] s=.inr (ls.map aU.pr))(hI:qu (aG ls) ls ss):ss.length=0<->(ls.map aU.pr).filter (·.2.nb)=[]:=by
 have hn:ss.length=(aG ls).length:=by rw[<-hI.1,List.length_map]
 rw[hn];constructor
 ·intro h0;rw[List.filter_eq_nil_iff];intro y hy kg;obtain ⟨l,hl,rfl⟩:=List.mem_map.1 hy;have hk:=dB (hL.each l hl)
  have acf:0<(aG ls).length:=by
   by_cases hs:l.x.aL=true
   ·exact List.length_pos_of_mem (a:=l.st) (List.mem_filterMap.2 ⟨l,hl,by rw[if_pos (hk.1.2 hs)]⟩)
   ·have D3:l.x.aZ=true:=by
     cases hx:l.x with
     | blank=>simp[aU.pr,hx,Ln.nb]at kg
     | state n=>rw[hx]at hs;exact absurd rfl hs
     | rule d o c p=>rfl
    obtain ⟨pre,post,e⟩:=List.append_of_mem hl;have h1:=xd hL hr pre l post e (hk.2.2 D3);obtain ⟨n,hn⟩:=List.exists_mem_of_length_pos h1;refine List.length_pos_of_mem (a:=n) ?_;unfold aG at hn ⊢;rw[e,List.filterMap_append];exact List.mem_append_left _ hn
  omega
 ·intro hf;rw[List.length_eq_zero_iff];refine List.filterMap_eq_nil_iff.2 λl hl=>?_
  rw[if_neg];intro hk;have hs:=(dB (hL.each l hl)).1.1 hk;have:=List.filter_eq_nil_iff.1 hf (aU.pr l) (List.mem_map_of_mem hl);refine this ?_
  cases hx:l.x with
  | blank=>rw[hx]at hs;cases hs
  | state n=>simp[aU.pr,hx,Ln.nb]
  | rule d o c p=>simp[aU.pr,hx,Ln.nb]
set_option maxRecDepth 20000 in
set_option maxHeartbeats 2000000 in
theorem IG(s:ByteArray)(w:World)(hm:Mx w):Calls Tryz.prog 59 #[.string s] w (gW s.data.toList w):=by
 have HM:=aa hm;have Kq:=mi s;clear hm;by_cases hz:2000<s.size
 ·have g1:decide ((2000:Int)<(s.size:Int))=true:=decide_eq_true (by omega);have ai:=aa (show gW s.data.toList w (.returned (.tuple #[.slice none 0 0,.int .i64 1,.int .i64 0])) w from ⟨Below.refl _ _,.inl ⟨1,0,by decide,rfl,.long (by omega)⟩⟩);clear hz Kq HM;go_enter Tryz.func59,Tryz.ntmps59;go_wp2_with fail
  exact bodyPost_ret (v:=.tuple #[.slice none 0 0,.int .i64 1,.int .i64 0]) (by simp[results,Tryz.results59,go_sem, *]) rfl ai.out
 ·have g1:decide ((2000:Int)<(s.size:Int))=false:=decide_eq_false (by omega);have hz2:s.data.toList.length<=2000:=by omega
  have hz3:s.size<=2000:=by omega
  have iI:=aa (vK s w hz3 HM.out);clear hz Kq HM;go_enter Tryz.func59,Tryz.ntmps59;go_wp2_with fail;refine iI.out.mono ?_;rintro e w1 ⟨hb1,⟨a,rfl,GP⟩|⟨lv,ls,rfl,GP,hL,hlen⟩⟩
  ·have ai:=aa (show gW s.data.toList w (.returned (.tuple #[.slice none 0 0,.int .i64 2,.int .i64 a])) w1 from ⟨hb1,.inl ⟨2,a,by decide,rfl,.form hz2 GP⟩⟩);clear hb1 GP iI;go_wp2_with fail;exact bodyPost_ret (v:=.tuple #[.slice none 0 0,.int .i64 2,.int .i64 a]) (by simp[results,Tryz.results59,go_sem, *]) rfl ai.out
  ·obtain ⟨ao,cap,rfl,hao⟩:=hL.form;have HFF:=aa (ua w.heap.size _ ls w1 hL (by omega));have HL:=aa hL;have xR:=aa GP;have br:=aa hb1;clear hb1 GP iI hL hao;go_wp2_with fail;refine HFF.out.mono ?_;rintro e w2 ⟨hb2,en,a,rfl,hch⟩;have oH:=br.out.trans (hb2.mono br.out.size);by_cases hen:en=0
   ·have ha0:a=0:=by have:=hch;subst hen;have hn:=tZ (tests (ls.map aU.pr)) (λi e p h=>uj this rfl (by intro t ht;simp only[tests,List.mem_cons,List.not_mem_nil,or_false]at ht;rcases ht with rfl|rfl|rfl|rfl|rfl|rfl<;>exact Nat.succ_ne_zero _) (e,p) (List.mem_of_getElem? h));exact (this.cS hn).2
    have q1:((en:Int) != 0)=false:=by rw[hen];rfl
    subst hen ha0;have HBU:=aa (IE w.heap.size _ ls w2 (HL.out.below hb2) (by omega) (Bw HL.out xR.out) (xd HL.out xR.out) (Mq HL.out hch));have HCH:=aa hch;have cM:=aa oH;have kC:=aa (HL.out.below hb2);clear hb2 oH hch HFF;go_wp2_with fail;refine HBU.out.mono ?_;rintro e w3 ⟨hb3,sv,ss,rfl,hS,hI⟩;have C2:=cM.out.trans (hb3.mono cM.out.size)
    obtain ⟨sa,nP,rfl,XY⟩:=hS.form;by_cases h0:ss.length=0
    ·have q2:((ss.length:Int)==0)=true:=by rw[h0];rfl
     have ai:=aa (show gW s.data.toList w (.returned (.tuple #[.slice none 0 0,.int .i64 4,.int .i64 s.size])) w3 from ⟨C2,.inl ⟨4,s.size,by decide,rfl,by rw[mi];exact .none hz2 xR.out ((xe HL.out xR.out hI).1 h0)⟩⟩);clear hb3 C2 hS hI XY h0 HBU HCH cM kC;go_wp2_with fail
     exact bodyPost_ret (v:=.tuple #[.slice none 0 0,.int .i64 4,.int .i64 s.size]) (by simp[results,Tryz.results59,go_sem, *]) rfl ai.out
    ·have q2:((ss.length:Int)==0)=false:=by rw[beq_eq_false_iff_ne];omega
     have ai:=aa (show gW s.data.toList w (.returned (.tuple #[.slice sa ss.length nP,.int .i64 0,.int .i64 0])) w3 from ⟨C2,.inr ⟨w2.heap.size,sa,ss.length,nP,ls,ss,rfl,.ok hz2 xR.out HCH.out.filter (λh=>h0 ((xe HL.out xR.out hI).2 h)),cM.out.size,⟨⟨_,_,kC.out.below hb3⟩,hS,hI,by omega⟩⟩⟩);clear hb3 C2 hS hI XY h0 HBU HCH cM kC;go_wp2_with fail
     exact bodyPost_ret (v:=.tuple #[.slice sa ss.length nP,.int .i64 0,.int .i64 0]) (by simp[results,Tryz.results59,go_sem, *]) rfl ai.out
   ·have q1:((en:Int) != 0)=true:=by rw[bne_iff_ne];omega
    have ai:=aa (show gW s.data.toList w (.returned (.tuple #[.slice none 0 0,.int .i64 en,.int .i64 a])) w2 from ⟨oH,.inl ⟨en,a,hen,rfl,.fault hz2 xR.out hch.filter hen⟩⟩);clear hb2 oH hch hen HFF;go_wp2_with fail;exact bodyPost_ret (v:=.tuple #[.slice none 0 0,.int .i64 en,.int .i64 a]) (by simp[results,Tryz.results59,go_sem, *]) rfl ai.out
def uk(s:List UInt8)(w:World)(e:Ending)(w':World):Prop:=
 Below w.heap.size w w'/\((∃ec a:Nat,ec≠0/\e=.returned (.tuple #[.pointer none,.int .i64 ec,.int .i64 a])/\dM s ec a []) ∨
  (∃P B ao n cap ls ss,e=.returned (.tuple #[.pointer (some ⟨P,0,none⟩),.int .i64 0,.int .i64 0])/\dM s 0 0 ((ls.map aU.pr).filter (·.2.nb))/\w.heap.size<=B/\Made w' B (.slice ao n cap) ls ss/\w'.heap[P]?=some (.cells #[.slice ao n cap] 38 (0,0))))
theorem Made.below{w':World}(h:Made w B sv ls ss)(hb:Below w.heap.size w w'):Made w' B sv ls ss:=by obtain ⟨B',lv,hl⟩:=h.lines;exact ⟨⟨B',lv,hl.below hb⟩,h.states.below hb,h.inv,h.some⟩
set_option maxRecDepth 20000 in
set_option maxHeartbeats 2000000 in
theorem xT(s:ByteArray)(w:World)(hm:Mx w):Calls Tryz.prog 33 #[.string s] w (uk s.data.toList w):=by
 have xR:=aa (IG s w hm);clear hm;go_enter Tryz.func33,Tryz.ntmps33;go_wp2_with fail;refine xR.out.mono ?_;rintro e w1 ⟨hb1,⟨ec,a,UZ,rfl,z7⟩|⟨B,ao,n,cap,ls,ss,rfl,z7,hB,hM⟩⟩
 ·have q1:((ec:Int) != 0)=true:=by rw[bne_iff_ne];omega
  have ai:=aa (show uk s.data.toList w (.returned (.tuple #[.pointer none,.int .i64 ec,.int .i64 a])) w1 from ⟨hb1,.inl ⟨ec,a,UZ,rfl,z7⟩⟩);clear hb1 UZ z7 xR;go_wp2_with fail;exact bodyPost_ret (v:=.tuple #[.pointer none,.int .i64 ec,.int .i64 a]) (by simp[results,Tryz.results33,go_sem, *]) rfl ai.out
 ·have ai:=aa (show uk s.data.toList w (.returned (.tuple #[.pointer (some ⟨w1.heap.size,0,none⟩),.int .i64 0,.int .i64 0])) (w1.alloc (.cells #[.slice ao n cap] 38)) from ⟨hb1.alloc hb1.size _,.inr ⟨_,B,ao,n,cap,ls,ss,rfl,z7,hB,hM.below ((Below.refl _ _).alloc (Nat.le_refl _) _),af _ _⟩⟩);clear hb1 z7 hB hM xR;go_wp2_with fail
  exact bodyPost_ret (v:=.tuple #[.pointer (some ⟨w1.heap.size,0,none⟩),.int .i64 0,.int .i64 0]) (by simp[results,Tryz.results33,go_sem, *]) rfl ai.out
end Go.Proofs.YtgncgdkpkkdaeaaGreatDoor
