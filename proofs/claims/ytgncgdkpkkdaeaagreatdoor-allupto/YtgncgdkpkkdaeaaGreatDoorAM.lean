import Derived.Test.YtgncgdkpkkdaeaaGreatDoorAJ
import Derived.Test.YtgncgdkpkkdaeaaGreatDoorAL
set_option maxRecDepth 20000
set_option maxHeartbeats 2000000
namespace Go.Proofs.YtgncgdkpkkdaeaaGreatDoor
open Go.RowKit bu
variable {ls:List aW} {p:List UInt8} {fs:cU} {B d en fl j q wh:Nat} {lv:Value} {w w' wC wL:World} {G:World->Prop}
structure Kp(wL w:World):Prop where
 size:wL.heap.size<=w.heap.size
 keep:∀b,b<wL.heap.size->w.heap[b]?=wL.heap[b]?
theorem Kp.refl(w:World):Kp w w:=⟨bc _,λ_ _=>rfl⟩
theorem Kp.alloc(h:Kp wL w)(o:Obj):Kp wL (w.alloc o):=⟨by have:=h.size;simp;omega,λb hb=>(Below.heap_alloc _ _ _ (dw hb h.size)).trans (h.keep b hb)⟩
theorem Kp.trans{a b c:World}(h:Kp a b)(k:Kp b c):Kp a c:=⟨bJ h.size k.size,λi hi=>(k.keep i (dw hi h.size)).trans (h.keep i hi)⟩
theorem Kp.drewN(h:Kp wL w)(n:Nat):Kp wL (w.drewN n):=⟨h.size,h.keep⟩
theorem Kp.get(h:Kp wL w){b:Nat}{o:Obj}(hb:wL.heap[b]?=some o):w.heap[b]?=some o:=(h.keep b (ae hb)).trans hb
def Gk(wC wL:World)(w:World):Prop:=Below wC.heap.size wC w/\Kp wL w
theorem Gk.alloc(h:Gk wC wL w)(o:Obj):Gk wC wL (w.alloc o):=⟨h.1.alloc h.1.size o,h.2.alloc o⟩
theorem Gk.drewN(h:Gk wC wL w)(n:Nat):Gk wC wL (w.drewN n):=⟨Below.drewN' h.1 n,h.2.drewN n⟩
def Ge(name:List UInt8)(_:cU)(x:Ln):Prop:=x=.state name
theorem xY:Enters 185:=λ_ _=>by rfl
theorem AL:Enters 149:=λ_ _=>by rfl
theorem Dn:Enters 151:=λ_ _=>by rfl
theorem AO:Enters 152:=λ_ _=>by rfl
theorem qJ:Enters 155:=λ_ _=>by rfl
theorem AP:Enters 114:=λ_ _=>by rfl
theorem Gf(wC wL:World)(B Nb:Nat)(sv:Value)(ls:List aW)(name:ByteArray)(hL:Lines wC B sv ls)(hb:wL.heap[Nb]?=some (.cells #[.string name] 9 (0,0))):
  V3 (Gk wC wL) ls (Ge name.data.toList) 185 #[.pointer (some ⟨Nb,0,none⟩)] (λ_ _=>True):=by
 intro pre l post w hs hG _;have hl:=hL.each l (by rw[hs];simp);have qG:=dX hl;have lp:=af (o:=.cells #[.int .i64 l.at_,.int .i64 l.kd,.string l.st,.int .i64 l.d,.string l.co,.slice l.ao l.ln l.cp,.int .i64 l.wh,.int .i64 l.fl] 219) (hG.2.get hb);have c0:=aA lp
 have HG:=aa (hG.alloc (.cells #[.int .i64 l.at_,.int .i64 l.kd,.string l.st,.int .i64 l.d,.string l.co,.slice l.ao l.ln l.cp,.int .i64 l.wh,.int .i64 l.fl] 219));show Calls Tryz.prog _ #[l.agg,.pointer (some ⟨Nb,0,none⟩)] w _;unfold aW.agg;by_cases hk:l.kd=1
 ·have q1:((l.kd:Int)==1)=true:=by rw[hk];rfl
  have hx:l.x=.state l.st.data.toList:=by
   have:=qG.1.1 hk
   cases hx:l.x with
   | blank=>rw[hx]at this;cases this
   | rule d o c p=>rw[hx]at this;cases this
   | state n=>rw[hx]at hl;rw[hl.2.2.1]
  by_cases hq:l.st.data.toList=name.data.toList
  ·have q2:(l.st.toList==name.toList)=true:=by rw[ByteArray.toList_eq,ByteArray.toList_eq,hq];simp
   have HX:=aa (show Ge name.data.toList (pre.map aW.pr) l.x by rw[hx,hq];rfl);clear hG hb hL hs hl qG lp hk hx hq;go_enter Tryz.func185,Tryz.ntmps185;go_wp2_with fail;go_ret;exact ⟨true,rfl,⟨λ_=>HX.out,λ_=>rfl⟩,HG.out,λ_=>trivial⟩
  ·have q2:(l.st.toList==name.toList)=false:=by rw[er,ByteArray.toList_eq,ByteArray.toList_eq];exact hq
   have HX:=aa (show ¬Ge name.data.toList (pre.map aW.pr) l.x by rw[hx];exact λh=>hq (Ln.state.inj h));clear hG hb hL hs hl qG lp hk hx hq;go_enter Tryz.func185,Tryz.ntmps185;go_wp2_with fail;go_ret;exact ⟨false,rfl,⟨λh=>(by cases h),λh=>absurd h HX.out⟩,HG.out,λ_=>trivial⟩
 ·have q1:((l.kd:Int)==1)=false:=by rw[er];omega
  have HX:=aa (show ¬Ge name.data.toList (pre.map aW.pr) l.x by intro h;exact hk (qG.1.2 (by rw[h];rfl)));clear hG hb hL hs hl qG lp hk;go_enter Tryz.func185,Tryz.ntmps185;go_wp2_with fail;go_ret;exact ⟨false,rfl,⟨λh=>(by cases h),λh=>absurd h HX.out⟩,HG.out,λ_=>trivial⟩
theorem xZ(wC wL:World)(B Nb:Nat)(sv:Value)(ls:List aW)(name:ByteArray)(w:World)(hL:Lines wC B sv ls)(hb:wL.heap[Nb]?=some (.cells #[.string name] 9 (0,0)))(hG:Gk wC wL w)(hz:ls.length<=1000000):
  Calls Tryz.prog 153 #[sv,.func (.func 185) #[] #[.pointer (some ⟨Nb,0,none⟩)]] w λe w'=>Gk wC wL w'/\∃b,e=.returned (.bool b)/\(b=true<->∃a,(a,Ln.state name.data.toList)∈ls.map aW.pr):=by
 have xu:=aa (dY wC B sv ls (Ge name.data.toList) 185 #[.pointer (some ⟨Nb,0,none⟩)] (λ_ _=>True) w hL (Gk wC wL) (λ_ h=>h.1) (Gf wC wL B Nb sv ls name hL hb) xY hG trivial hz);obtain ⟨ao,cap,rfl,hao⟩:=hL.form;clear hL hG hb
 go_enter Tryz.func153,Tryz.ntmps153;go_wp2_with fail;refine xu.out.mono ?_;rintro e w1 ⟨Sh,⟨j,l,rfl,hl,hf⟩|⟨rfl,hf,-⟩⟩
 ·have q1:decide ((0:Int)<=(j:Int))=true:=cF (by omega);have HF:=aa hf;have ug:=aa Sh;clear hf hl Sh xu;go_wp2_with fail;go_ret;refine ⟨ug.out,true,rfl,⟨λ_=>?_,λ_=>rfl⟩⟩
  have:∀{pre l:cU} {o:Option Nat},dQ (Ge name.data.toList) pre l o->∀a,o=some a->∃a,(a,Ln.state name.data.toList)∈l:=λh=>by
   induction h with
   | nil=>intro a h;cases h
   | hit hp=>intro a _;exact ⟨_,by rw[show _=Ln.state name.data.toList from hp];exact List.mem_cons_self ..⟩
   | skip _ _ ih=>intro a h;obtain ⟨a',h'⟩:=ih a h;exact ⟨a',List.mem_cons_of_mem _ h'⟩
  exact this HF.out _ rfl
 ·have HF:=aa hf;have ug:=aa Sh;clear hf Sh xu;go_wp2_with fail;go_ret;exact ⟨ug.out,false,rfl,⟨λh=>(by cases h),λ⟨a,ha⟩=>absurd (show Ge name.data.toList [] (Ln.state name.data.toList) from rfl) (dT (λ_ _=>Iff.rfl) HF.out _ ha)⟩⟩
theorem Gg(name:ByteArray)(w:World):Calls Tryz.prog 154 #[.string name] w λe w'=>e=.returned (.func (.func 185) #[] #[.pointer (some ⟨w.heap.size,0,none⟩)])/\w'=w.alloc (.cells #[.string name] 9):=by go_enter Tryz.func154,Tryz.ntmps154;go_wp2_with fail;go_ret;exact ⟨rfl,rfl⟩
def ew(G:World->Prop)(q:Prop)(e:Ending)(w':World):Prop:=∃b,e=.returned (.bool b)/\(b=true<->q)/\G w'
theorem ew.yes{q:Prop}(hq:q)(hG:G w'):ew G q (.returned (.bool true)) w':=⟨true,rfl,⟨λ_=>hq,λ_=>rfl⟩,hG⟩
theorem ew.no{q:Prop}(hq:¬q)(hG:G w'):ew G q (.returned (.bool false)) w':=⟨false,rfl,⟨λh=>(by cases h),λh=>absurd h hq⟩,hG⟩
theorem Ku(wC wL:World)(B LB:Nat)(sv:Value)(ls:List aW)(hL:Lines wC B sv ls)(hb:wL.heap[LB]?=some (.cells #[sv] 153 (0,0)))(hz:ls.length<=1000000):
  V3 (Gk wC wL) ls (dh (ls.map aW.pr)) 152 #[.pointer (some ⟨LB,0,none⟩)] (λ_ _=>True):=by
 intro pre l post w hs hG _;have hl:=hL.each l (by rw[hs];simp);have qG:=dX hl;have lp:=af (o:=.cells #[.int .i64 l.at_,.int .i64 l.kd,.string l.st,.int .i64 l.d,.string l.co,.slice l.ao l.ln l.cp,.int .i64 l.wh,.int .i64 l.fl] 219) (hG.2.get hb);have c0:=aA lp
 have HG:=aa (hG.alloc (.cells #[.int .i64 l.at_,.int .i64 l.kd,.string l.st,.int .i64 l.d,.string l.co,.slice l.ao l.ln l.cp,.int .i64 l.wh,.int .i64 l.fl] 219))
 suffices h:Calls Tryz.prog 152 #[l.agg,.pointer (some ⟨LB,0,none⟩)] w (ew (Gk wC wL) (dh (ls.map aW.pr) (pre.map aW.pr) l.x)) from h.mono (λe w' ⟨b,h1,h2,h3⟩=>⟨b,h1,h2,h3,λ_=>trivial⟩)
 unfold aW.agg;by_cases hk:l.kd=2
 ·have q1:((l.kd:Int)==2)=true:=by rw[hk];rfl
  by_cases hd:l.d=1
  ·have q2:((l.d:Int)==1)=true:=by rw[hd];rfl
   have HX:=aa (show (∃a,(a,Ln.state l.st.data.toList)∈ls.map aW.pr)<->¬dh (ls.map aW.pr) (pre.map aW.pr) l.x by
    cases hx:l.x with
    | blank=>rw[hx]at hl;have:=hl.1;omega
    | state n=>rw[hx]at hl;have:=hl.1;omega
    | rule d o c p=>
     rw[hx]at hl;obtain ⟨_,h2,_,h4,_⟩:=hl;rw[h4,h2,hd];constructor
     ·rintro ⟨a,ha⟩ ⟨o',c',p',h5,h6⟩;cases h5;exact h6 a ha
     ·intro h;refine Classical.byContradiction λhn=>h ⟨o,c,p,rfl,λa ha=>hn ⟨a,ha⟩⟩)
   have vZ:=aa (ag w (.cells #[.int .i64 l.at_,.int .i64 l.kd,.string l.st,.int .i64 l.d,.string l.co,.slice l.ao l.ln l.cp,.int .i64 l.wh,.int .i64 l.fl] 219));obtain ⟨q,hq⟩:∃q,q=w.heap.size:=⟨_,rfl⟩;have HL:=aa hL;obtain ⟨ao,cap,rfl,hao⟩:=hL.form;clear hG hb hL hs hl qG lp hk hd hao;go_enter Tryz.func152,Tryz.ntmps152
   go_wp2_with fail;rw[<-hq]at vZ ⊢;clear hq;generalize w.alloc (.cells #[.int .i64 l.at_,.int .i64 l.kd,.string l.st,.int .i64 l.d,.string l.co,.slice l.ao l.ln l.cp,.int .i64 l.wh,.int .i64 l.fl] 219)=W1 at *;have pO:=vZ.out;have d1:W1.cell? ⟨q,1,none⟩=some (.int .i64 l.kd):=by simp[World.cell?,pO]
   have d2:W1.cell? ⟨q,2,none⟩=some (.string l.st):=by simp[World.cell?,pO]
   have d3:W1.cell? ⟨q,3,none⟩=some (.int .i64 l.d):=by simp[World.cell?,pO]
   have HBG:=aa (Gg l.st W1.drew);have HCF:=aa (xZ wC (W1.drew.alloc (.cells #[.string l.st] 9)) B W1.heap.size (.slice ao ls.length cap) ls l.st (W1.drew.alloc (.cells #[.string l.st] 9)) HL.out (ag W1.drew _) ⟨(HG.out.1.drew).alloc HG.out.1.size _,Kp.refl _⟩ hz);have VM:=aw c0 (.cells #[.string l.st] 9)
   have EC:=aa (show Kp wL (W1.drew.alloc (.cells #[.string l.st] 9)) from (HG.out.2.drewN 1).alloc _);clear pO vZ HL
   go_region_with (first
    | (go_at_call 154;refine HBG.out.mono ?_;rintro e w5 ⟨rfl,rfl⟩)
    | (go_at_call 153;refine HCF.out.mono ?_;rintro e w5 ⟨Q9,b,rfl,iq⟩;have HG5:=aa (show Gk wC wL w5 from ⟨Q9.1,EC.out.trans Q9.2⟩);have CA:=aa (iq.trans HX.out);clear Q9 iq))
   all_goals
    clear HCF HBG EC HX HG
    cases b with
    | true=>
     go_wp2_with fail;go_ret;exact ew.no (CA.out.1 (by trivial)) HG5.out
    | false=>
     go_wp2_with fail;go_ret;exact ew.yes (Classical.byContradiction λhn=>(by have:=CA.out.2 hn;cases this)) HG5.out
  ·have q2:((l.d:Int)==1)=false:=by rw[er];omega
   have HX:=aa (show ¬dh (ls.map aW.pr) (pre.map aW.pr) l.x by rintro ⟨o,c,p,hx,_⟩;rw[hx]at hl;exact hd hl.2.1.symm);clear hG hb hL hs hl qG lp hk hd;go_enter Tryz.func152,Tryz.ntmps152;go_wp2_with fail;go_quiet (fail);go_wp2_with fail;go_ret;exact ew.no HX.out (HG.out.drewN _)
 ·have q1:((l.kd:Int)==2)=false:=by rw[er];omega
  have HX:=aa (show ¬dh (ls.map aW.pr) (pre.map aW.pr) l.x by rintro ⟨o,c,p,hx,_⟩;rw[hx]at hl;exact hk hl.1);clear hG hb hL hs hl qG lp hk;go_enter Tryz.func152,Tryz.ntmps152;go_wp2_with fail;go_quiet (fail);go_wp2_with fail;go_ret;exact ew.no HX.out (HG.out.drewN _)
theorem Gh(h:fT w B p lv wh fl):(fl=1<->60<p.length)/\(fl=6<->p.length<=60/\¬∃r,bH p (some (r,[]))):=by
 rcases h with ⟨h1,_,_,rfl⟩|⟨h1,h2,_,_,rfl⟩|⟨h1,rfl,a,ns,g,cap,_,_,h5,_⟩
 ·exact ⟨⟨λ_=>h1,λ_=>rfl⟩,⟨λh=>(by cases h),λh=>by omega⟩⟩
 ·refine ⟨⟨λh=>(by cases h),λh=>by omega⟩,⟨λ_=>⟨h1,?_⟩,λ_=>rfl⟩⟩;rintro ⟨r,hr⟩;rcases h2 with h2|⟨r',s',hs,h2⟩
  ·have:=bH.dz h2 hr;cases this
  ·have:=bH.dz h2 hr;simp only[fA,Prod.mk.injEq]at this;exact hs this.2
 ·exact ⟨⟨λh=>(by cases h),λh=>by omega⟩,⟨λh=>(by cases h),λh=>absurd ⟨_,h5⟩ h.2⟩⟩
theorem sB{kd:Nat}{st co:ByteArray}{x:Ln}(h:gO w B kd d st co lv wh fl x)(pre:cU):(fl=1<->kn pre x)/\(fl=6<->pz pre x):=by
 cases x with
 | blank=>
  obtain ⟨_,_,_,_,rfl⟩:=h;exact ⟨⟨λh=>(by cases h),λ⟨_,_,_,_,h,_⟩=>(by cases h)⟩,⟨λh=>(by cases h),λ⟨_,_,_,_,h,_⟩=>(by cases h)⟩⟩
 | state n=>
  obtain ⟨_,_,_,_,_,rfl⟩:=h;exact ⟨⟨λh=>(by cases h),λ⟨_,_,_,_,h,_⟩=>(by cases h)⟩,⟨λh=>(by cases h),λ⟨_,_,_,_,h,_⟩=>(by cases h)⟩⟩
 | rule d' o c p=>
  obtain ⟨h1,h2⟩:=Gh h.2.2.2.2.2;refine ⟨h1.trans ⟨λh=>⟨_,_,_,_,rfl,h⟩,λ⟨_,_,_,_,h,h'⟩=>by cases h;exact h'⟩,h2.trans ⟨λh=>⟨_,_,_,_,rfl,h.1,h.2⟩,λ⟨_,_,_,_,h,h',h''⟩=>by cases h;exact ⟨h',h''⟩⟩⟩
theorem yU(wC wL:World)(Eb en:Nat)(ls:List aW)(q:cU->Ln->Prop)(hb:wL.heap[Eb]?=some (.cells #[.int .i64 en] 40 (0,0)))(hq:∀l∈ls,∀pre,l.fl=en<->q pre l.x):
  V3 (Gk wC wL) ls q 155 #[.pointer (some ⟨Eb,0,none⟩)] (λ_ _=>True):=by
 intro pre l post w hs hG _;have hx:=hq l (by rw[hs];simp) (pre.map aW.pr);have lp:=af (o:=.cells #[.int .i64 l.at_,.int .i64 l.kd,.string l.st,.int .i64 l.d,.string l.co,.slice l.ao l.ln l.cp,.int .i64 l.wh,.int .i64 l.fl] 219) (hG.2.get hb);have c0:=aA lp
 have HG:=aa (hG.alloc (.cells #[.int .i64 l.at_,.int .i64 l.kd,.string l.st,.int .i64 l.d,.string l.co,.slice l.ao l.ln l.cp,.int .i64 l.wh,.int .i64 l.fl] 219))
 suffices h:Calls Tryz.prog 155 #[l.agg,.pointer (some ⟨Eb,0,none⟩)] w (ew (Gk wC wL) (q (pre.map aW.pr) l.x)) from h.mono (λe w' ⟨b,h1,h2,h3⟩=>⟨b,h1,h2,h3,λ_=>trivial⟩)
 unfold aW.agg;by_cases hfe:l.fl=en
 ·have q1:((l.fl:Int)==(en:Int))=true:=by rw[hfe];simp
  have HX:=aa (hx.1 hfe);clear hG hb hs hx lp hq hfe;go_enter Tryz.func155,Tryz.ntmps155;go_wp2_with fail;go_ret;exact ew.yes HX.out HG.out
 ·have q1:((l.fl:Int)==(en:Int))=false:=by rw[er];omega
  have HX:=aa (λh=>hfe (hx.2 h));clear hG hb hs hx lp hq hfe;go_enter Tryz.func155,Tryz.ntmps155;go_wp2_with fail;go_ret;exact ew.no HX.out HG.out
theorem Gk.step(h:Gk wC wL w)(hb:Below w.heap.size w w'):Gk wC wL w':=
 ⟨h.1.trans (hb.mono h.1.size),h.2.trans ⟨hb.size,λb hlt=>hb.block b hlt⟩⟩
def Ot(b:Bool)(w:World)(e:Ending)(w':World):Prop:=e=.returned (.bool b)/\Below w.heap.size w w'
theorem AQ(w:World)(B g cap:Nat)(ns:List (Nd Value))(a:aP)(wh:Nat)(hL:bm w B (.slice (some ⟨g,0,none⟩) ns.length cap) ns)(hr:ei (aH w) ns a)(hw:wh=a.ix):
  Calls Tryz.prog 156 #[.agg #[.slice (some ⟨g,0,none⟩) ns.length cap,.int .i64 wh]] w (Ot a.re.au w):=by
 obtain ⟨nd,hnd,hne⟩:=hr.empty;rw[<-hw]at hnd;have hlt:=az hnd;have c4:=(bG hL.1 (j:=wh*5+4) (u:=.bool nd.empty) (by rw[sW hnd 4 (by omega)];rfl)).1;have c4':=aw c4 (.cells #[.slice (some ⟨g,0,none⟩) ns.length cap,.int .i64 wh] 184);have g1:(wh:Int)<(ns.length:Int):=by omega
 rw[hne]at c4 c4';have aq:=aa (λn=>show Ot a.re.au w (.returned (.bool a.re.au)) ((w.alloc (.cells #[.slice (some ⟨g,0,none⟩) ns.length cap,.int .i64 wh] 184)).drewN n) from ⟨rfl,Below.drewN' (cq _ _) n⟩);clear hL hr hw hnd hne;go_enter Tryz.func156,Tryz.ntmps156
 go_wp2_with fail;go_ret;exact aq.out 0
theorem Kv{a:aP}(hp:bH p (some (a.re,[]))){o c:List UInt8}(pre:cU):(a.re.au=true<->gM pre (.rule d o c p)):=by
 constructor
 ·intro h;exact ⟨_,_,_,_,_,rfl,hp,h⟩
 ·rintro ⟨_,_,_,_,r,h,h1,h2⟩;cases h;have:=bH.dz h1 hp;simp only[fA,Prod.mk.injEq,and_true]at this;rw[<-this];exact h2
theorem Gi(wC wL:World)(B:Nat)(sv:Value)(ls:List aW)(hL:Lines wC B sv ls)(mr:∀l∈ls,l.fl=0):
  V3 (Gk wC wL) ls gM 114 #[] (λ_ _=>True):=by
 intro pre l post w hs hG _;have hm:l∈ls:=by rw[hs];simp
 have hl:=(hL.below hG.1).each l hm;have qG:=dX hl;have HG:=aa (hG.alloc (.cells #[.int .i64 l.at_,.int .i64 l.kd,.string l.st,.int .i64 l.d,.string l.co,.slice l.ao l.ln l.cp,.int .i64 l.wh,.int .i64 l.fl] 219))
 suffices h:Calls Tryz.prog 114 #[l.agg] w (ew (Gk wC wL) (gM (pre.map aW.pr) l.x)) from h.mono (λe w' ⟨b,h1,h2,h3⟩=>⟨b,h1,h2,h3,λ_=>trivial⟩)
 unfold aW.agg;by_cases hk:l.kd=2
 ·have q1:((l.kd:Int)==2)=true:=by rw[hk];rfl
  cases hx:l.x with
  | blank=>rw[hx]at hl;have:=hl.1;omega
  | state n=>rw[hx]at hl;have:=hl.1;omega
  | rule d o c p=>
   rw[hx]at hl;obtain ⟨hu1,hu2,hu3,hu4,hu5,hp⟩:=hl;have hf0:=mr l hm;rcases hp with ⟨_,_,_,h⟩|⟨_,_,_,_,h⟩|⟨h1,hu6,a,ns,g,cap,h3,h4,h5,h6,h7,h8,h9⟩
   ·omega
   ·omega
   ·obtain ⟨e1,e2,e3⟩:l.ao=some ⟨g,0,none⟩/\l.ln=ns.length/\l.cp=cap:=by simp only[Value.slice.injEq]at h3;exact h3
    rw[e1,e2,e3]at h6;have rq:Below w.heap.size w (w.alloc (.cells #[.int .i64 l.at_,.int .i64 l.kd,.string l.st,.int .i64 l.d,.string l.co,.slice (some ⟨g,0,none⟩) ns.length cap,.int .i64 l.wh,.int .i64 l.fl] 219)):=cq _ _
    have HME:=aa (AQ _ B g cap ns a l.wh (h6.keep λk hk'=>by obtain ⟨_,cur,hc⟩:=h6.block hk';exact rq.block k (ae hc)) (h7.world (bN.ay rq)) h4);have HX:=aa (Kv h5 (d:=d) (o:=o) (c:=c) (pre.map aW.pr));rw[e1,e2,e3]at HG ⊢;clear hL hG qG hs hm hf0 h3 h6 h7 h8 rq e1 e2 e3 hk hx mr h5 hu1 hu2 hu3 hu4 hu5 hu6 h4 h9 h1
    go_enter Tryz.func114,Tryz.ntmps114;go_wp2_with fail;refine HME.out.mono ?_;rintro e w1 ⟨rfl,hb1⟩;have ug:=aa (HG.out.step hb1);clear hb1 HG HME
    cases hnu:a.re.au with
    | true=>
     rw[hnu]at HX;go_wp2_with fail;go_ret;exact ew.yes (HX.out.1 (by trivial)) ug.out
    | false=>
     rw[hnu]at HX;go_wp2_with fail;go_ret;exact ew.no (λh=>by have:=HX.out.2 h;cases this) ug.out
 ·have q1:((l.kd:Int)==2)=false:=by rw[er];omega
  have HX:=aa (show ¬gM (pre.map aW.pr) l.x by rintro ⟨d,o,c,p,r,hx,_⟩;exact hk (qG.2.2 (by rw[hx];rfl)));clear hL hG hl qG hs hm hk mr;go_enter Tryz.func114,Tryz.ntmps114;go_wp2_with fail;go_ret;exact ew.no HX.out HG.out
theorem Kw(w:World):Calls Tryz.prog 110 #[] w λe w'=>e=.returned (.func (.func 149) #[] #[.pointer (some ⟨w.heap.size,0,none⟩)])/\w'=w.alloc (.cells #[.slice none 0 0] 61):=by go_enter Tryz.func110,Tryz.ntmps110;go_wp2_with fail;go_ret;exact ⟨rfl,rfl⟩
theorem Ou(w:World):Calls Tryz.prog 111 #[] w λe w'=>e=.returned (.func (.func 151) #[] #[.pointer (some ⟨w.heap.size,0,none⟩),.pointer (some ⟨w.heap.size+1,0,none⟩)])/\w'=(w.alloc (.cells #[.int .i64 0] 3)).alloc (.cells #[.int .i64 0] 3):=by
 go_enter Tryz.func111,Tryz.ntmps111;go_wp2_with fail;go_ret;exact ⟨rfl,rfl⟩
theorem Ky(ao:Option Addr)(n cap:Nat)(w:World):Calls Tryz.prog 112 #[.slice ao n cap] w λe w'=>e=.returned (.func (.func 152) #[] #[.pointer (some ⟨w.heap.size,0,none⟩)])/\w'=w.alloc (.cells #[.slice ao n cap] 153):=by go_enter Tryz.func112,Tryz.ntmps112;go_wp2_with fail;go_ret;exact ⟨rfl,rfl⟩
theorem yV(en:Nat)(w:World):Calls Tryz.prog 113 #[.int .i64 en] w λe w'=>e=.returned (.func (.func 155) #[] #[.pointer (some ⟨w.heap.size,0,none⟩)])/\w'=w.alloc (.cells #[.int .i64 en] 40):=by go_enter Tryz.func113,Tryz.ntmps113;go_wp2_with fail;go_ret;exact ⟨rfl,rfl⟩
def Ov:List Nat:=[3,4,5,1,6,7]
def Wb(q:Nat):List Value:=[.func (.func 149) #[] #[.pointer (some ⟨q,0,none⟩)],.func (.func 151) #[] #[.pointer (some ⟨q+1,0,none⟩),.pointer (some ⟨q+1+1,0,none⟩)],.func (.func 152) #[] #[.pointer (some ⟨q+1+1+1,0,none⟩)],.func (.func 155) #[] #[.pointer (some ⟨q+1+1+1+1,0,none⟩)],.func (.func 155) #[] #[.pointer (some ⟨q+1+1+1+1+1,0,none⟩)],.func (.func 114) #[] #[]]
structure Ub(wL:World)(q:Nat)(sv:Value):Prop where
 names:wL.heap[q]?=some (.cells #[.slice none 0 0] 61 (0,0))
 sts:wL.heap[q+1]?=some (.cells #[.int .i64 0] 3 (0,0))
 rls:wL.heap[q+1+1]?=some (.cells #[.int .i64 0] 3 (0,0))
 lines:wL.heap[q+1+1+1]?=some (.cells #[sv] 153 (0,0))
 long:wL.heap[q+1+1+1+1]?=some (.cells #[.int .i64 1] 40 (0,0))
 pat:wL.heap[q+1+1+1+1+1]?=some (.cells #[.int .i64 6] 40 (0,0))
structure FF(wC wL:World)(q:Nat)(ls:List aW)(j:Nat)(w:World):Prop where
 below:Below wC.heap.size wC w
 size:wL.heap.size<=w.heap.size
 keep:∀b,b<wL.heap.size->(0<j->b≠q)->(1<j->b≠q+1/\b≠q+1+1)->w.heap[b]?=wL.heap[b]?
 past:∀i e p,i<j->(tests (ls.map aW.pr))[i]?=some (e,p)->dQ p [] (ls.map aW.pr) none
def lq(wC wL w:World)(q:Nat)(ls:List aW)(j:Nat)(e:Ending)(w':World):Prop:=
 (∃(m:Nat) (l:aW) (p:cU->Ln->Prop) (en:Nat),e=.returned (.int .i64 m)/\ls[m]?=some l/\Ov[j]?=some en/\(tests (ls.map aW.pr))[j]?=some (en,p)/\dQ p [] (ls.map aW.pr) (some l.at_)/\Below wC.heap.size wC w'/\∀b,wL.heap.size<=b->b<w.heap.size->w'.heap[b]?=w.heap[b]?)∨(e=.returned (.int .i64 (-1))/\FF wC wL q ls (j+1) w')
theorem lq.of{p:cU->Ln->Prop}{Inv:List aW->World->Prop}{e:Ending}(hF:FF wC wL q ls j w)(Wc:q+1+1+1+1+1<wL.heap.size)(ht:(tests (ls.map aW.pr))[j]?=some (en,p))(hen:Ov[j]?=some en)
  (hk:G w'->Below wC.heap.size wC w'/\w.heap.size<=w'.heap.size/\∀b,b<w.heap.size->b≠q->(0<j->b≠q+1/\b≠q+1+1)->w'.heap[b]?=w.heap[b]?)
  (h:uA G ls p Inv e w'):lq wC wL w q ls j e w':=by
 obtain ⟨hG,⟨m,l,rfl,hl,hf⟩|⟨rfl,hf,hI⟩⟩:=h
 ·exact .inl ⟨m,l,p,en,rfl,hl,hen,ht,hf,(hk hG).1,λb h1 h2=>(hk hG).2.2 b h2 (by omega) λ_=>by omega⟩
 ·refine .inr ⟨rfl,(hk hG).1,bJ hF.size (hk hG).2.1,λb hb h0 h1=>((hk hG).2.2 b (dw hb hF.size) (h0 (by omega)) (λh=>h1 (by omega))).trans (hF.keep b hb (λh=>h0 (by omega)) (λh=>h1 (by omega))),λi e p' hi jo=>?_⟩;rcases ed i j with h|h
  ·exact hF.past i e p' h jo
  ·obtain rfl:i=j:=by omega
   rw[ht]at jo;cases jo;exact hf
theorem FF.alloc(h:FF wC wL q ls j w)(o:Obj):FF wC wL q ls j (w.alloc o):=
 ⟨h.below.alloc h.below.size o,by have:=h.size;simp;omega,λb hb h0 h1=>(Below.heap_alloc _ _ _ (dw hb h.size)).trans (h.keep b hb h0 h1),h.past⟩
theorem Kz{sv:Value}(hL:Lines w B sv ls)(h1:dQ kn [] (ls.map aW.pr) none)(h2:dQ pz [] (ls.map aW.pr) none):∀l∈ls,l.fl=0:=by
 intro l hl;have a1:=dT (λ_ _=>Iff.rfl) h1 (aW.pr l) (List.mem_map_of_mem hl);have a2:=dT (λ_ _=>Iff.rfl) h2 (aW.pr l) (List.mem_map_of_mem hl);have hx:=hL.each l hl;obtain ⟨f1,f2⟩:=sB hx []
 cases IP:l.x with
 | blank=>rw[IP]at hx;exact hx.2.2.2.2
 | state n=>rw[IP]at hx;exact hx.2.2.2.2.2
 | rule d o c p=>
  rw[IP]at hx;rcases hx.2.2.2.2.2 with h|h|h
  ·exact absurd (f1.1 h.2.2.2) a1
  ·exact absurd (f2.1 h.2.2.2.2) a2
  ·exact h.2.1
theorem Ow{ao:Option Addr}{cap:Nat}(hL:Lines wC B (.slice ao ls.length cap) ls)(hq:wC.heap.size<=q)(Wc:q+1+1+1+1+1<wL.heap.size)(hX:Ub wL q (.slice ao ls.length cap))(hz:ls.length<=1000000)(hj:j<6)(hF:FF wC wL q ls j w):
  ∃(g en:Nat) (lb:Array Value),(Wb q)[j]?=some (.func (.func g) #[] lb)/\Ov[j]?=some en/\Calls Tryz.prog 115 #[.slice ao ls.length cap,.func (.func g) #[] lb] w (lq wC wL w q ls j):=by
 have hGk:Gk wC w w:=⟨hF.below,Kp.refl _⟩;have Sh:∀j w',Gk wC w w'->Below wC.heap.size wC w'/\w.heap.size<=w'.heap.size/\∀b,b<w.heap.size->b≠q->(0<j->b≠q+1/\b≠q+1+1)->w'.heap[b]?=w.heap[b]?:=λ_ w' h=>⟨h.1,h.2.size,λb hb _ _=>h.2.keep b hb⟩
 have R1:∀w',Gk wC w w'->Below wC.heap.size wC w':=λ_ h=>h.1
 have hsz:=hF.size
 match j,hj,hF with
 | 0,_,hF=>
  refine ⟨_,_,_,rfl,rfl,(dY wC B _ ls dW _ _ (Ol w q) w hL (GX wC w (·=q)) (λ_ h=>h.1) (Ks wC w B q _ ls hL hz hq (by omega)) AL ⟨hF.below,bc _,λ_ _ _=>rfl⟩ ⟨bc _,λ_ _ _=>rfl,⟨.slice none 0 0,?_,World.ownsRow_nil _ _ _ _⟩⟩ hz).mono ?_⟩
  ·rw[hF.keep q (by omega) (λh=>by omega) (λh=>by omega)];exact hX.names
  ·exact λe w' hp=>lq.of hF Wc rfl rfl (λh=>⟨h.1,h.2.1,λb hb h0 _=>h.2.2 b hb h0⟩) hp
 | 1,_,hF=>
  refine ⟨_,_,_,rfl,rfl,(dY wC B _ ls dI _ _ (X4 w (q+1) (q+1+1)) w hL (GX wC w λb=>b=q+1∨b=q+1+1) (λ_ h=>h.1) (Oo wC w B (q+1) (q+1+1) _ ls hL (by omega) (by omega) (by omega)) Dn ⟨hF.below,bc _,λ_ _ _=>rfl⟩ ⟨bc _,λ_ _ _ _=>rfl,?_,?_,⟨Nat.zero_le _,Nat.zero_le _⟩⟩ hz).mono ?_⟩
  ·rw[hF.keep (q+1) (by omega) (λh=>by omega) (λh=>by omega)];exact hX.sts
  ·rw[hF.keep (q+1+1) (by omega) (λh=>by omega) (λh=>by omega)];exact hX.rls
  ·exact λe w' hp=>lq.of hF Wc rfl rfl (λh=>⟨h.1,h.2.1,λb hb _ h0=>h.2.2 b hb (λh=>by rcases h with h|h;exact (h0 (by omega)).1 h;exact (h0 (by omega)).2 h)⟩) hp
 | 2,_,hF=>
  refine ⟨_,_,_,rfl,rfl,(dY wC B _ ls (dh (ls.map aW.pr)) _ _ (λ_ _=>True) w hL (Gk wC w) R1 (Ku wC w B (q+1+1+1) _ ls hL ?_ hz) AO hGk trivial hz).mono λe w' hp=>lq.of hF Wc rfl rfl (Sh _ w') hp⟩;rw[hF.keep (q+1+1+1) (by omega) (λh=>by omega) (λh=>by omega)];exact hX.lines
 | 3,_,hF=>
  refine ⟨_,_,_,rfl,rfl,(dY wC B _ ls kn _ _ (λ_ _=>True) w hL (Gk wC w) R1 (yU wC w (q+1+1+1+1) 1 ls kn ?_ λl hl pre=>(sB (hL.each l hl) pre).1) qJ hGk trivial hz).mono λe w' hp=>lq.of hF Wc rfl rfl (Sh _ w') hp⟩;rw[hF.keep (q+1+1+1+1) (by omega) (λh=>by omega) (λh=>by omega)];exact hX.long
 | 4,_,hF=>
  refine ⟨_,_,_,rfl,rfl,(dY wC B _ ls pz _ _ (λ_ _=>True) w hL (Gk wC w) R1 (yU wC w (q+1+1+1+1+1) 6 ls pz ?_ λl hl pre=>(sB (hL.each l hl) pre).2) qJ hGk trivial hz).mono λe w' hp=>lq.of hF Wc rfl rfl (Sh _ w') hp⟩;rw[hF.keep (q+1+1+1+1+1) (by omega) (λh=>by omega) (λh=>by omega)];exact hX.pat
 | 5,_,hF=>
  exact ⟨_,_,_,rfl,rfl,(dY wC B _ ls gM _ _ (λ_ _=>True) w hL (Gk wC w) R1 (Gi wC w B _ ls hL (Kz hL (hF.past 3 1 kn (by omega) rfl) (hF.past 4 6 pz (by omega) rfl))) AP hGk trivial hz).mono λe w' hp=>lq.of hF Wc rfl rfl (Sh _ w') hp⟩
theorem KA:∀(ts:List (Nat×(cU->Ln->Prop))) (j e:Nat) (p:cU->Ln->Prop) (a:Nat),(∀i e p,i<j->ts[i]?=some (e,p)->dQ p [] fs none)->ts[j]?=some (e,p)->dQ p [] fs (some a)->fp fs ts e a:=by
 intro ts
 induction ts with
 | nil=>intro j e p a _ h;simp at h
 | cons t ts ih=>
  intro j e p a hn ht hf;obtain ⟨e0,p0⟩:=t
  cases j with
  | zero=>simp only[List.getElem?_cons_zero,fA,Prod.mk.injEq]at ht;obtain ⟨rfl,rfl⟩:=ht;exact .hit hf
  | succ j=>exact .skip (hn 0 e0 p0 (by omega) rfl) (ih j e p a (λi e p hi h=>hn (i+1) e p (by omega) h) (by simpa using ht) hf)
theorem wy:∀(ts:List (Nat×(cU->Ln->Prop))),(∀(i e:Nat) (p:cU->Ln->Prop),ts[i]?=some (e,p)->dQ p [] fs none)->fp fs ts 0 0:=by
 intro ts
 induction ts with
 | nil=>intro _;exact .nil
 | cons t ts ih=>
  intro hn;obtain ⟨e0,p0⟩:=t;exact .skip (hn 0 e0 p0 rfl) (ih λi e p h=>hn (i+1) e p h)
def AR(wC:World)(ls:List aW)(e:Ending)(w':World):Prop:=
 Below wC.heap.size wC w'/\∃(en a:Nat),e=.returned (.tuple #[.int .i64 en,.int .i64 a])/\fp (ls.map aW.pr) (tests (ls.map aW.pr)) en a
def Ox(wC wL:World)(q:Nat)(ls:List aW)(k:Nat)(i:Value)(wr:World):Prop:=
 ∃j:Nat,i=.int .i64 j/\j+k=6/\FF wC wL q ls j wr
theorem aD(w:World)(o:Obj)(k:Nat)(hk:k=w.heap.size):(w.alloc o).heap[k]?=some o:=by subst hk;exact ag _ _
theorem Oy(w:World)(o0 o1 o2 o3 o4 o5 o6:Obj):let W:=((((((w.alloc o0).alloc o1).alloc o2).alloc o3).alloc o4).alloc o5).alloc o6
  W.heap[w.heap.size]?=some o0/\W.heap[w.heap.size+1]?=some o1/\W.heap[w.heap.size+1+1]?=some o2/\W.heap[w.heap.size+1+1+1]?=some o3/\W.heap[w.heap.size+1+1+1+1]?=some o4/\W.heap[w.heap.size+1+1+1+1+1]?=some o5/\W.heap[w.heap.size+1+1+1+1+1+1]?=some o6/\W.heap.size=w.heap.size+7/\Below w.heap.size w W:=by
 refine ⟨?_,?_,?_,?_,?_,?_,?_,by simp,?_⟩
 ·exact af (af (af (af (af (af (aD _ _ _ (by simp)))))))
 ·exact af (af (af (af (af (aD _ _ _ (by simp))))))
 ·exact af (af (af (af (aD _ _ _ (by simp)))))
 ·exact af (af (af (aD _ _ _ (by simp))))
 ·exact af (af (aD _ _ _ (by simp)))
 ·exact af (aD _ _ _ (by simp))
 ·exact aD _ _ _ (by simp)
 ·exact ((((((cq _ _).alloc (by simp) _).alloc (by simp;omega) _).alloc (by simp;omega) _).alloc (by simp;omega) _).alloc (by simp;omega) _).alloc (by simp;omega) _
theorem Oz{c:Nat}{t:Nat}(h:w.heap[c]?=some (.cells #[.int .i64 3,.func (.func 149) #[] #[.pointer (some ⟨q,0,none⟩)],.int .i64 4,.func (.func 151) #[] #[.pointer (some ⟨q+1,0,none⟩),.pointer (some ⟨q+1+1,0,none⟩)],.int .i64 5,.func (.func 152) #[] #[.pointer (some ⟨q+1+1+1,0,none⟩)],.int .i64 1,.func (.func 155) #[] #[.pointer (some ⟨q+1+1+1+1,0,none⟩)],.int .i64 6,.func (.func 155) #[] #[.pointer (some ⟨q+1+1+1+1+1,0,none⟩)],.int .i64 7,.func (.func 114) #[] #[]] t (0,0))){v:Value}(hv:(Wb q)[j]?=some v)(he:Ov[j]?=some en):
  w.cell? ⟨c,j*2,none⟩=some (.int .i64 en)/\w.cell? ⟨c,j*2+1,none⟩=some v:=by
 have hj:j<6:=az he
 match j,hj with
 | 0,_|1,_|2,_|3,_|4,_|5,_=>
  simp only[Wb,Ov,List.getElem?_cons_succ,List.getElem?_cons_zero,fA]at hv he;subst hv he;constructor<;>simp[World.cell?,h]
theorem wA(B:Nat)(sv:Value)(ls:List aW)(w:World)(hL:Lines w B sv ls)(hz:ls.length<=1000000):
  Calls Tryz.prog 82 #[sv] w (AR w ls):=by
 obtain ⟨ao,cap,rfl,hao⟩:=hL.form;have HL:=aa hL;have CZ:=aa hao;clear hL hao;go_enter Tryz.func82,Tryz.ntmps82
 go_wp2_with (first
  | (go_at_call 110;refine (Kw _).mono ?_;rintro e w5 ⟨rfl,rfl⟩)
  | (go_at_call 111;refine (Ou _).mono ?_;rintro e w5 ⟨rfl,rfl⟩)
  | (go_at_call 112;refine (Ky _ _ _ _).mono ?_;rintro e w5 ⟨rfl,rfl⟩)
  | (go_at_call 113;first|(refine (yV 1 _).mono ?_;rintro e w5 ⟨rfl,rfl⟩)|(refine (yV 6 _).mono ?_;rintro e w5 ⟨rfl,rfl⟩)))
 obtain ⟨q,hq⟩:∃q,q=w.heap.size:=⟨_,rfl⟩;rw[<-hq];generalize hwL:World.alloc _ (Obj.cells #[Value.int .i64 3,_,_,_,_,_,_,_,_,_,_,_] _)=wL
 have xw:=aa (show Ub wL q (.slice ao ls.length cap)/\w.heap.size<=q/\wL.heap.size=q+7/\Below w.heap.size w wL from by
  subst hwL hq;obtain ⟨h0,h1,h2,h3,h4,h5,_,h7,h8⟩:=Oy w (.cells #[.slice none 0 0] 61) (.cells #[.int .i64 0] 3) (.cells #[.int .i64 0] 3) (.cells #[.slice ao ls.length cap] 153) (.cells #[.int .i64 1] 40) (.cells #[.int .i64 6] 40) _;exact ⟨⟨h0,h1,h2,h3,h4,h5⟩,bc _,h7,h8⟩)
 have HCK:=aa (show wL.heap[q+1+1+1+1+1+1]?=some (.cells #[.int .i64 3,.func (.func 149) #[] #[.pointer (some ⟨q,0,none⟩)],.int .i64 4,.func (.func 151) #[] #[.pointer (some ⟨q+1,0,none⟩),.pointer (some ⟨q+1+1,0,none⟩)],.int .i64 5,.func (.func 152) #[] #[.pointer (some ⟨q+1+1+1,0,none⟩)],.int .i64 1,.func (.func 155) #[] #[.pointer (some ⟨q+1+1+1+1,0,none⟩)],.int .i64 6,.func (.func 155) #[] #[.pointer (some ⟨q+1+1+1+1+1,0,none⟩)],.int .i64 7,.func (.func 114) #[] #[]] 225 (0,0)) from by
  subst hwL hq;exact (Oy w _ _ _ _ _ _ _).2.2.2.2.2.2.1)
 clear hwL hq;go_loopg [23] 6 (λk i wr=>Ox w wL q ls k i wr)
 case atStart=>exact ⟨0,rfl,by omega,xw.out.2.2.2,bc _,λ_ _ _ _=>rfl,λi e p h=>by omega⟩
 case round=>
  obtain ⟨j,rfl,hk,hF⟩:=hrel;by_cases hlt:j<6
  ·have g1:decide ((j:Int)<6)=true:=cF (by omega);obtain ⟨g,en,lb,hfn,hen,wD⟩:=Ow HL.out xw.out.2.1 (by have:=xw.out.2.2.1;omega) xw.out.1 hz hlt hF;obtain ⟨c0,c1⟩:=Oz ((hF.keep (q+1+1+1+1+1+1) (by have:=xw.out.2.2.1;omega) (λ_=>by omega) (λ_=>by omega)).trans HCK.out) hfn hen
   obtain ⟨g',eG,lb',aaf,hen',OA⟩:=Ow HL.out xw.out.2.1 (by have:=xw.out.2.2.1;omega) xw.out.1 hz hlt (hF.alloc (.cells #[.int .i64 en,.func (.func g) #[] lb] 225));obtain ⟨rfl,rfl⟩:g'=g/\lb'=lb:=by rw[aaf]at hfn;simp only[fA,Value.func.injEq,Fn.func.injEq,true_and]at hfn;exact hfn
   obtain rfl:eG=en:=by rw[hen']at hen;exact Option.some.inj hen
   have VC:=aa (dw (show q+6<wL.heap.size by have:=xw.out.2.2.1;omega) hF.size);have uv:=aa hF.size;have OB:=aa OA;have HF:=aa hF;have HFN:=aa hfn;have py:=aa hen;clear wD OA hF hfn hen hen' aaf;go_wp2_with fail;refine OB.out.mono ?_;rintro e w1 (⟨m,l,p,Uc,rfl,hl,Wd,ht,hf,hb1,Zw⟩|⟨rfl,gG⟩)
   ·obtain rfl:Uc=eG:=by rw[py.out]at Wd;exact (Option.some.inj Wd).symm
    have q1:decide ((0:Int)<=(m:Int))=true:=cF (by omega);obtain ⟨gg,rfl⟩:=CZ.out (by have:=az hl;omega);have QL:=az hl;have d0:=((HL.out.below hb1).cells hl).1
    have e0:w1.cell? ⟨wr.heap.size,0,none⟩=some (.int .i64 Uc):=by have h0:w1.heap[wr.heap.size]?=some (.cells #[.int .i64 Uc,.func (.func g') #[] lb'] 225 (0,0)):=(Zw wr.heap.size uv.out (by simp)).trans (ag _ _);simp[World.cell?,h0]
    have g2:(m:Int)<(ls.length:Int):=by omega
    have aq:=aa (show AR w ls (.returned (.tuple #[.int .i64 Uc,.int .i64 l.at_])) w1 from ⟨hb1,Uc,l.at_,rfl,KA _ j Uc p l.at_ HF.out.past ht hf⟩);clear hl Wd ht hf hb1 Zw OB HF HFN py;have aag:=aa (λn=>show AR w ls (.returned (.tuple #[.int .i64 Uc,.int .i64 l.at_])) (w1.drewN n) from by obtain ⟨h1,h2⟩:=aq.out;exact ⟨Below.drewN' h1 n,h2⟩)
    go_wp2_with fail;go_quiet (fail);go_wp2_with fail;exact bodyPost_ret (v:=.tuple #[.int .i64 Uc,.int .i64 l.at_]) (by simp[results,Tryz.results82,go_sem, *]) rfl (aag.out _)
   ·have HST:=aa (show Ox w wL q ls (gk - 1) (.int .i64 ((j+1:Nat):Int)) w1 from ⟨j+1,rfl,by omega,gG⟩);have LX:j+1<=9223372036854775807:=by omega
    clear gG OB HF HFN py;go_wp2_with fail;go_roundg (gk - 1)
    case measure=>omega
    case rel=>exact HST.out
  ·have g1:decide ((j:Int)<6)=false:=bV (by omega);have aq:=aa (show AR w ls (.returned (.tuple #[.int .i64 0,.int .i64 0])) wr from ⟨hF.below,0,0,rfl,wy _ λi e p h=>hF.past i e p (by have:=az h;simp[tests]at this;omega) h⟩);clear hF;go_wp2_with fail
   exact bodyPost_ret (v:=.tuple #[.int .i64 0,.int .i64 0]) (by simp[results,Tryz.results82,go_sem, *]) rfl aq.out
end Go.Proofs.YtgncgdkpkkdaeaaGreatDoor
