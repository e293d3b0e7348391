import Derived.Test.YtgncgdkpkkdaeaaGreatDoorAD
set_option maxRecDepth 20000
set_option maxHeartbeats 1000000
namespace bu
variable {a b l s t:List UInt8} {a' e e' p:Nat} {o:Option Nat} {c:UInt8}
def cutAt(c:UInt8):List UInt8->List UInt8×Option (List UInt8)
 | []=>([],none)
 | x::l=>if x=c then ([],some l) else (x::(cutAt c l).1,(cutAt c l).2)
theorem eo(b:List UInt8)(h:c∉a):cutAt c (a++c::b)=(a,some b):=by
 induction a with
 | nil=>simp[cutAt]
 | cons x a ih=>
  have h1:¬x=c:=λe=>h (by simp[e])
  have h2:=ih (λe=>h (List.mem_cons_of_mem _ e));simp[cutAt,h1,h2]
theorem gL(h:c∉a):cutAt c a=(a,none):=by
 induction a with
 | nil=>rfl
 | cons x a ih=>
  have h1:¬x=c:=λe=>h (by simp[e])
  have h2:=ih (λe=>h (List.mem_cons_of_mem _ e));simp[cutAt,h1,h2]
theorem jF(c:UInt8)(l:List UInt8):(∃a b,l=a++c::b/\c∉a/\cutAt c l=(a,some b))∨(c∉l/\cutAt c l=(l,none)):=by
 induction l with
 | nil=>exact .inr ⟨by simp,rfl⟩
 | cons x l ih=>
  by_cases hx:x=c
  ·subst hx;exact .inl ⟨[],l,rfl,by simp,by simp[cutAt]⟩
  ·rcases ih with ⟨a,b,rfl,hn,-⟩|⟨hn,-⟩
   ·have h1:c∉x::a:=by simp[hn,Ne.symm hx]
    exact .inl ⟨x::a,b,rfl,h1,eo b h1⟩
   ·have h1:c∉x::l:=by simp[hn,Ne.symm hx]
    exact .inr ⟨h1,gL h1⟩
theorem index_hit(h:c∉a)(ht:(c::t).isPrefixOf (c::b)=true):Go.Lib.index (a++c::b) (c::t)=a.length:=by
 refine Go.Lib.index_first (by simp) ?_ ?_
 ·simp only[Go.Lib.occAt,List.drop_left];exact ht
 ·intro j hj;rw[Go.Lib.occAt,List.drop_append_of_le_length (by omega),List.drop_eq_getElem_cons hj];simp only[List.cons_append,List.isPrefixOf,Bool.and_eq_false_iff];left;rw[er];intro e;exact h (e▸List.getElem_mem hj)
theorem FN(h:c∉l):Go.Lib.index l (c::t)=-1:=by
 refine Go.Lib.index_none ?_;intro j _;rw[Go.Lib.occAt];rcases ed j l.length with hj|hj
 ·rw[List.drop_eq_getElem_cons hj];simp only[List.isPrefixOf,Bool.and_eq_false_iff];left;rw[er];intro e;exact h (e▸List.getElem_mem hj)
 ·rw[List.drop_of_length_le hj];rfl
theorem IG(h:c∉a):Go.Lib.cut (a++c::(t++b)) (c::t)=(a,b,true):=by
 have hp:(c::t).isPrefixOf (c::(t++b))=true:=by rw[List.isPrefixOf_iff_prefix];exact ⟨b,by simp⟩
 unfold Go.Lib.cut;rw[index_hit h hp,if_pos (by omega)];simp
theorem NZ(h:c∉l):Go.Lib.cut l (c::t)=(l,[],false):=by unfold Go.Lib.cut;rw[FN h,if_neg (by omega)]
theorem R3(c:UInt8)(l:List UInt8):(∃a b,l=a++c::b/\c∉a/\cutAt c l=(a,some b)/\Go.Lib.cut l [c]=(a,b,true))∨(c∉l/\cutAt c l=(l,none)/\Go.Lib.cut l [c]=(l,[],false)):=by
 rcases jF c l with ⟨a,b,rfl,hn,hc⟩|⟨hn,hc⟩
 ·exact .inl ⟨a,b,rfl,hn,hc,IG (t:=[]) hn⟩
 ·exact .inr ⟨hn,hc,NZ hn⟩
def isName(l:List UInt8):Bool:=decide (1<=l.length)&&decide (l.length<=12)&&l.all λx=>decide (97<=x.toNat)&&decide (x.toNat<=122)
theorem FO(h:isName l=true)(hc:c∈l):97<=c.toNat:=by simp only[isName,Bool.and_eq_true,List.all_eq_true,decide_eq_true_eq]at h;exact (h.2 c hc).1
theorem qy(h:isName l=true):(32:UInt8)∉l:=λhc=>by have:=FO h hc;simp at this
def bA(r:List UInt8):Option (List UInt8×List UInt8):=
 match cutAt 32 r with
 | (c,some (61::32::p))=>if isName c=true then some (c,p) else none
 | _=>none
theorem oK{r c p:List UInt8}(h:bA r=some (c,p)):r=c++32::61::32::p/\isName c=true:=by
 unfold bA at h;split at h
 ·rename_i c' p' hc;split at h
  ·rename_i hn;cases h;rcases jF 32 r with ⟨a,b,rfl,-,e⟩|⟨-,e⟩
   ·rw[e]at hc;cases hc;exact ⟨rfl,hn⟩
   ·rw[e]at hc;cases hc
  ·cases h
 ·cases h
theorem tq{c p:List UInt8}(hn:isName c=true):bA (c++32::61::32::p)=some (c,p):=by unfold bA;rw[eo _ (qy hn)];simp[hn]
theorem N1(r:List UInt8):(∃c p,bA r=some (c,p)/\isName c=true/\Go.Lib.cut r [32,61,32]=(c,p,true)) ∨
  (bA r=none/\((Go.Lib.cut r [32,61,32]).2.2=false∨isName (Go.Lib.cut r [32,61,32]).1=false)):=by
 cases h:bA r with
 | some cp=>
  obtain ⟨c,p⟩:=cp;obtain ⟨rfl,hn⟩:=oK h;exact .inl ⟨c,p,rfl,hn,IG (t:=[61,32]) (qy hn)⟩
 | none=>
  refine .inr ⟨rfl,?_⟩
  cases hb:(Go.Lib.cut r [32,61,32]).2.2 with
  | false=>exact .inl rfl
  | true=>
   cases hm:isName (Go.Lib.cut r [32,61,32]).1 with
   | false=>exact .inr rfl
   | true=>
    exfalso;unfold Go.Lib.cut at hb hm;split at hb
    ·rename_i hi;rw[if_pos hi]at hm;rcases Go.Lib.index_spec r [32,61,32] with ⟨hn,-⟩|⟨i,hx,-,ho,-⟩
     ·omega
     rw[hx]at hm;simp only[Int.toNat_natCast]at hm;rw[Go.Lib.occAt,List.isPrefixOf_iff_prefix]at ho;obtain ⟨p,hp⟩:=ho;have e:r=r.take i++32::61::32::p:=by rw[show (32:UInt8)::61::32::p=[32,61,32]++p from rfl,hp,List.take_append_drop]
     rw[e,tq hm]at h;cases h
    ·cases hb
inductive Ln where
 | blank
 | state (s:List UInt8)
 | rule (does:Nat) (opens colour pat:List UInt8)
def Ln.aN:Ln->Bool
 | .state _=>true
 | _=>false
def Ln.aZ:Ln->Bool
 | .rule _ _ _ _=>true
 | _=>false
def Ln.nb:Ln->Bool
 | .blank=>false
 | _=>true
def cI(does:Nat)(opens r:List UInt8):Option Ln:=(bA r).map λcp=>.rule does opens cp.1 cp.2
def sq:List UInt8:=[115,116,97,116,101]
def ld:List UInt8:=[116,111,107,101,110]
def ki:List UInt8:=[112,117,115,104]
def Ar:List UInt8:=[112,111,112]
def jb(r:List UInt8):Option Ln:=
 match cutAt 32 r with
 | (s,some r')=>if isName s=true then cI 1 s r' else none
 | (_,none)=>none
def gq(w r:List UInt8):Option Ln:=
 if w=sq then (if isName r=true then some (.state r) else none)
 else if w=ld then cI 0 [] r
 else if w=Ar then cI 2 [] r
 else if w=ki then jb r
 else none
def cS(l:List UInt8):Option Ln:=
 if l=[] then some .blank else
 match cutAt 32 l with
 | (w,some r)=>gq w r
 | (_,none)=>none
abbrev cU:=List (Nat×Ln)
def lI:Nat->Nat->cU->List UInt8->Nat ⊕ cU
 | 0,p,_,_=>.inl p
 | f+1,p,acc,s=>
  if s=[] then .inr acc else
  match cutAt 10 s with
  | (_,none)=>.inl p
  | (l,some r)=>
   match cS l with
   | none=>.inl p
   | some x=>if x.aZ=true/\acc.any (·.2.aN)=false then .inl p else lI f (p+l.length+1) (acc++[(p,x)]) r
theorem FP:∀(f g p:Nat) (acc:cU) (s:List UInt8),s.length<f->s.length<g->lI f p acc s=lI g p acc s:=by
 intro f
 induction f with
 | zero=>intro g p acc s hf;omega
 | succ f ih=>
  intro g p acc s hf hg
  cases g with
  | zero=>omega
  | succ g=>
   unfold lI;by_cases hs:s=[]
   ·simp[hs]
   ·simp only[if_neg hs];rcases jF 10 s with ⟨a,b,e,-,hc⟩|⟨-,hc⟩
    ·rw[hc];simp only;have hl:s.length=a.length+b.length+1:=by rw[e];simp;omega
     cases hx:cS a with
     | none=>rfl
     | some x=>
      simp only;split
      ·rfl
      ·exact ih g _ _ b (by omega) (by omega)
    ·rw[hc]
def rd(p:Nat)(acc:cU)(s:List UInt8):Nat ⊕ cU:=lI (s.length+1) p acc s
theorem N2(p:Nat)(acc:cU):rd p acc []=.inr acc:=by simp[rd,lI]
variable {acc:cU}
theorem Au(hs:s≠[])(h:(10:UInt8)∉s):rd p acc s=.inl p:=by unfold rd lI;rw[if_neg hs,gL h]
theorem FQ(h:(10:UInt8)∉a)(hl:cS a=none):rd p acc (a++10::b)=.inl p:=by unfold rd lI;rw[if_neg (by simp),eo b h];simp[hl]
variable {x:Ln}
theorem C3(h:(10:UInt8)∉a)(hl:cS a=some x)(hx:x.aZ=true)(ha:acc.any (·.2.aN)=false):rd p acc (a++10::b)=.inl p:=by unfold rd lI;rw[if_neg (by simp),eo b h];simp only[hl];rw[if_pos ⟨hx,ha⟩]
theorem ux(h:(10:UInt8)∉a)(hl:cS a=some x)(hx:¬(x.aZ=true/\acc.any (·.2.aN)=false)):rd p acc (a++10::b)=rd (p+a.length+1) (acc++[(p,x)]) b:=by rw[rd,lI,if_neg (by simp),eo b h];simp only[hl];rw[if_neg hx,rd];exact FP _ _ _ _ _ (by simp only[dG,fe];omega) (by omega)
inductive dQ(p:cU->Ln->Prop):cU->cU->Option Nat->Prop where
 | nil {pre:cU}:dQ p pre [] none
 | hit {pre:cU} {a:Nat} {x:Ln} {l:cU}:p pre x->dQ p pre ((a,x)::l) (some a)
 | skip {pre:cU} {a:Nat} {x:Ln} {l:cU} {o:Option Nat}:¬p pre x->dQ p (pre++[(a,x)]) l o->dQ p pre ((a,x)::l) o
variable {pre:cU}
theorem dQ.dz{p:cU->Ln->Prop}{l:cU}{o':Option Nat}(h:dQ p pre l o)(h':dQ p pre l o'):o=o':=by
 induction h with
 | nil=>cases h';rfl
 | hit hp=>
  cases h' with
  | hit _=>rfl
  | skip hn _=>exact absurd hp hn
 | skip hn _ ih=>
  cases h' with
  | hit hp=>exact absurd hp hn
  | skip _ h2=>exact ih h2
theorem dQ.filter{p:cU->Ln->Prop}(hb:∀pre,¬p pre .blank)(hf:∀pre x,p pre x<->p (pre.filter (·.2.nb)) x){l:cU}(h:dQ p pre l o):dQ p (pre.filter (·.2.nb)) (l.filter (·.2.nb)) o:=by
 induction h with
 | nil=>exact .nil
 | @hit pre a x l hp=>
  have hx:x.nb=true:=by cases x with
   | blank=>exact absurd hp (hb _)
   | state _=>rfl
   | rule _ _ _ _=>rfl
  rw[List.filter_cons_of_pos (p:=λ(y:Nat×Ln)=>y.2.nb) (a:=(a,x)) hx];exact .hit ((hf _ _).1 hp)
 | @skip pre a x l o hn _ ih=>
  rw[List.filter_append]at ih
  cases hx:x.nb with
  | true=>
   rw[List.filter_cons_of_pos (p:=λ(y:Nat×Ln)=>y.2.nb) (a:=(a,x)) hx];rw[List.filter_cons_of_pos (p:=λ(y:Nat×Ln)=>y.2.nb) (a:=(a,x)) hx]at ih;exact .skip (λhp=>hn ((hf _ _).2 hp)) ih
  | false=>
   rw[List.filter_cons_of_neg (p:=λ(y:Nat×Ln)=>y.2.nb) (a:=(a,x)) (by simp[hx])];rw[List.filter_cons_of_neg (p:=λ(y:Nat×Ln)=>y.2.nb) (a:=(a,x)) (by simp[hx])]at ih;simpa using ih
inductive fp(fs:cU):List (Nat×(cU->Ln->Prop))->Nat->Nat->Prop where
 | nil:fp fs [] 0 0
 | hit {e a:Nat} {p:cU->Ln->Prop} {l:List (Nat×(cU->Ln->Prop))}:dQ p [] fs (some a)->fp fs ((e,p)::l) e a
 | skip {e e' a:Nat} {p:cU->Ln->Prop} {l:List (Nat×(cU->Ln->Prop))}:dQ p [] fs none->fp fs l e' a->fp fs ((e,p)::l) e' a
theorem fp.dz{fs:cU}{l:List (Nat×(cU->Ln->Prop))}{a:Nat}(h:fp fs l e a)(h':fp fs l e' a'):e=e'/\a=a':=by
 induction h with
 | nil=>cases h';exact ⟨rfl,rfl⟩
 | hit h1=>
  cases h' with
  | hit h2=>have:=h1.dz h2;simp at this;exact ⟨rfl,this⟩
  | skip h2 _=>have:=h1.dz h2;cases this
 | skip h1 _ ih=>
  cases h' with
  | hit h2=>have:=h1.dz h2;cases this
  | skip _ h3=>exact ih h3
def dW(pre:cU)(x:Ln):Prop:=∃n,x=.state n/\∃a,(a,Ln.state n)∈pre
def dI(pre:cU)(x:Ln):Prop:=x.nb=true/\(12<(pre.filter (·.2.aN)).length+(if x.aN=true then 1 else 0)∨40<(pre.filter (·.2.aZ)).length+(if x.aZ=true then 1 else 0))
def dh(fs:cU)(_:cU)(x:Ln):Prop:=∃o c p,x=.rule 1 o c p/\∀a,(a,Ln.state o)∉fs
def kn(_:cU)(x:Ln):Prop:=∃d o c p,x=.rule d o c p/\60<p.length
def pz(_:cU)(x:Ln):Prop:=∃d o c p,x=.rule d o c p/\p.length<=60/\¬∃r,bH p (some (r,[]))
def gM(_:cU)(x:Ln):Prop:=∃d o c p r,x=.rule d o c p/\bH p (some (r,[]))/\r.au=true
def tests(fs:cU):List (Nat×(cU->Ln->Prop)):=[(3,dW),(4,dI),(5,dh fs),(1,kn),(6,pz),(7,gM)]
theorem xS(pre:cU)(x:Ln):dW pre x<->dW (pre.filter (·.2.nb)) x:=by
 constructor
 ·rintro ⟨n,rfl,a,h⟩;exact ⟨n,rfl,a,List.mem_filter.2 ⟨h,rfl⟩⟩
 ·rintro ⟨n,rfl,a,h⟩;exact ⟨n,rfl,a,(List.mem_filter.1 h).1⟩
theorem yM(q:Ln->Bool)(hq:q .blank=false)(l:cU):(l.filter (·.2.nb)).filter (q ·.2)=l.filter (q ·.2):=by
 rw[List.filter_filter];apply List.filter_congr;rintro ⟨a,x⟩ _
 cases x with
 | blank=>simp[hq,Ln.nb]
 | state _=>simp[Ln.nb]
 | rule _ _ _ _=>simp[Ln.nb]
theorem Av(pre:cU)(x:Ln):dI pre x<->dI (pre.filter (·.2.nb)) x:=by unfold dI;rw[yM Ln.aN rfl,yM Ln.aZ rfl]
theorem fp.filter{ls:cU}{a:Nat}(h:fp ls (tests ls) e a):fp (ls.filter (·.2.nb)) (tests (ls.filter (·.2.nb))) e a:=by
 have key:∀{p p':cU->Ln->Prop} {o:Option Nat},(∀pre,¬p' pre .blank)->(∀pre x,p' pre x<->p' (pre.filter (·.2.nb)) x)->(∀pre x,p pre x<->p' pre x)->dQ p [] ls o->dQ p' [] (ls.filter (·.2.nb)) o:=by
  intro p p' o h1 h2 h3 hf;obtain rfl:p=p':=funext λa=>funext λb=>propext (h3 a b)
  exact hf.filter h1 h2
 have k3:∀{o},dQ dW [] ls o->dQ dW [] (ls.filter (·.2.nb)) o:=key (λ_ h=>by obtain ⟨n,h,_⟩:=h;cases h) xS (λ_ _=>Iff.rfl);have k4:∀{o},dQ dI [] ls o->dQ dI [] (ls.filter (·.2.nb)) o:=key (λ_ h=>by cases h.1) Av (λ_ _=>Iff.rfl)
 have k5:∀{o},dQ (dh ls) [] ls o->dQ (dh (ls.filter (·.2.nb))) [] (ls.filter (·.2.nb)) o:=by
  refine key (λ_ h=>by obtain ⟨_,_,_,h,_⟩:=h;cases h) (λ_ _=>Iff.rfl) (λ_ x=>?_);constructor
  ·rintro ⟨o,c,p,rfl,h⟩;exact ⟨o,c,p,rfl,λa ha=>h a (List.mem_filter.1 ha).1⟩
  ·rintro ⟨o,c,p,rfl,h⟩;exact ⟨o,c,p,rfl,λa ha=>h a (List.mem_filter.2 ⟨ha,rfl⟩)⟩
 have k1:∀{o},dQ kn [] ls o->dQ kn [] (ls.filter (·.2.nb)) o:=key (λ_ h=>by obtain ⟨_,_,_,_,h,_⟩:=h;cases h) (λ_ _=>Iff.rfl) (λ_ _=>Iff.rfl);have k6:∀{o},dQ pz [] ls o->dQ pz [] (ls.filter (·.2.nb)) o:=key (λ_ h=>by obtain ⟨_,_,_,_,h,_⟩:=h;cases h) (λ_ _=>Iff.rfl) (λ_ _=>Iff.rfl)
 have k7:∀{o},dQ gM [] ls o->dQ gM [] (ls.filter (·.2.nb)) o:=key (λ_ h=>by obtain ⟨_,_,_,_,_,h,_⟩:=h;cases h) (λ_ _=>Iff.rfl) (λ_ _=>Iff.rfl);unfold tests at h ⊢
 cases h with
 | hit h=>exact .hit (k3 h)
 | skip h0 h=>
  refine .skip (k3 h0) ?_
  cases h with
  | hit h=>exact .hit (k4 h)
  | skip h0 h=>
   refine .skip (k4 h0) ?_
   cases h with
   | hit h=>exact .hit (k5 h)
   | skip h0 h=>
    refine .skip (k5 h0) ?_
    cases h with
    | hit h=>exact .hit (k1 h)
    | skip h0 h=>
     refine .skip (k1 h0) ?_
     cases h with
     | hit h=>exact .hit (k6 h)
     | skip h0 h=>
      refine .skip (k6 h0) ?_
      cases h with
      | hit h=>exact .hit (k7 h)
      | skip h0 h=>cases h;exact .skip (k7 h0) .nil
inductive dD(s:List UInt8):Nat->Nat->cU->Prop where
 | long:2000<s.length->dD s 1 0 []
 | form {a:Nat}:s.length<=2000->rd 0 [] s=.inl a->dD s 2 a []
 | fault {ls:cU} {e a:Nat}:s.length<=2000->rd 0 [] s=.inr ls->fp (ls.filter (·.2.nb)) (tests (ls.filter (·.2.nb))) e a->e≠0->dD s e a []
 | none {ls:cU}:s.length<=2000->rd 0 [] s=.inr ls->ls.filter (·.2.nb)=[]->dD s 4 s.length []
 | ok {ls:cU}:s.length<=2000->rd 0 [] s=.inr ls->fp (ls.filter (·.2.nb)) (tests (ls.filter (·.2.nb))) 0 0->ls.filter (·.2.nb)≠[]->dD s 0 0 (ls.filter (·.2.nb))
theorem yN:fp [] (tests []) 0 0:=.skip .nil (.skip .nil (.skip .nil (.skip .nil (.skip .nil (.skip .nil .nil)))))
theorem dD.dz{a:Nat}{l l':cU}(h:dD s e a l)(h':dD s e' a' l'):e=e'/\a=a'/\l=l':=by
 cases h with
 | long h1=>cases h' with
  | long _=>exact ⟨rfl,rfl,rfl⟩
  | form h2 _=>omega
  | fault h2 _ _ _=>omega
  | none h2 _ _=>omega
  | ok h2 _ _ _=>omega
 | form h1 h2=>cases h' with
  | long h3=>omega
  | form _ h3=>rw[h2]at h3;cases h3;exact ⟨rfl,rfl,rfl⟩
  | fault _ h3 _ _=>rw[h2]at h3;cases h3
  | none _ h3 _=>rw[h2]at h3;cases h3
  | ok _ h3 _ _=>rw[h2]at h3;cases h3
 | fault h1 h2 hc hn=>cases h' with
  | long h3=>omega
  | form _ h3=>rw[h2]at h3;cases h3
  | fault _ h3 hc' _=>rw[h2]at h3;cases h3;obtain ⟨h4,h5⟩:=hc.dz hc';exact ⟨h4,h5,rfl⟩
  | none _ h3 hz=>rw[h2]at h3;cases h3;rw[hz]at hc;exact absurd (hc.dz yN).1 hn
  | ok _ h3 hc' _=>rw[h2]at h3;cases h3;exact absurd (hc.dz hc').1 hn
 | none h1 h2 hz=>cases h' with
  | long h3=>omega
  | form _ h3=>rw[h2]at h3;cases h3
  | fault _ h3 hc' hn=>rw[h2]at h3;cases h3;rw[hz]at hc';exact absurd (hc'.dz yN).1 hn
  | none _ _ _=>exact ⟨rfl,rfl,rfl⟩
  | ok _ h3 _ hz'=>rw[h2]at h3;cases h3;exact absurd hz hz'
 | ok h1 h2 hc hz=>cases h' with
  | long h3=>omega
  | form _ h3=>rw[h2]at h3;cases h3
  | fault _ h3 hc' hn=>rw[h2]at h3;cases h3;exact absurd (hc'.dz hc).1 hn
  | none _ h3 hz'=>rw[h2]at h3;cases h3;exact absurd hz' hz
  | ok _ h3 _ _=>rw[h2]at h3;cases h3;exact ⟨rfl,rfl,rfl⟩
end bu
namespace Go.Proofs.YtgncgdkpkkdaeaaGreatDoor
open Go.RowKit bu
variable {s:ByteArray} {l:List UInt8} {i j:Nat}
def letter(x:UInt8):Bool:=decide (97<=x.toNat)&&decide (x.toNat<=122)
theorem yO(l:List UInt8):isName l=(decide (1<=l.length)&&decide (l.length<=12)&&l.all letter):=rfl
theorem all_false{x:UInt8}(h:l[i]?=some x)(hx:letter x=false):isName l=false:=by
 rw[yO];have:l.all letter=false:=by rw[List.all_eq_false];exact ⟨x,bn h,by simp[hx]⟩
 rw[this,Bool.and_false]
theorem all_true(h:∀(j:Nat) (x:UInt8),l[j]?=some x->letter x=true):isName l=(decide (1<=l.length)&&decide (l.length<=12)):=by
 rw[yO];have:l.all letter=true:=by rw[List.all_eq_true];intro x hx;obtain ⟨j,hj⟩:=List.getElem?_of_mem hx;exact h j x hj
 rw[this,Bool.and_true]
theorem qA{t:ByteArray}(h:i<t.size):t.data.toList[i]?=some t[i]:=by rw[cB (show i<t.data.toList.length from h)];rfl
theorem aO(t:ByteArray):t.data.toList.length=t.size:=rfl
def N3(t:ByteArray)(w:World)(k:Nat)(i:Value)(wr:World):Prop:=
 ∃j:Nat,i=.int .i64 j/\j+k=t.size/\wr=w/\∀(m:Nat) (x:UInt8),m<j->t.data.toList[m]?=some x->letter x=true
theorem dS(t:ByteArray)(w:World)(hz:t.size<=1000000000):
  Calls Tryz.prog 84 #[.string t] w λe w'=>e=.returned (.bool (isName t.data.toList))/\w'=w:=by
 go_enter Tryz.func84,Tryz.ntmps84;go_wp2_with fail;go_loopg [3] t.size (λk i wr=>N3 t w k i wr)
 case atStart=>exact ⟨0,rfl,by omega,rfl,λm x h=>by omega⟩
 case round=>
  obtain ⟨j,rfl,hk,rfl,hall⟩:=hrel;by_cases hlt:j<t.size
  ·have g1:decide ((j:Int)<(t.size:Int))=true:=by simp;omega
   have HG:=aa (qA hlt);have gN:=aa hall;clear hall;by_cases h1:t[j].toNat<97
   ·have HE:=aa (all_false HG.out (show letter t[j]=false by simp[letter];omega));have q1:decide (((t[j].toNat:Nat):Int)<97)=true:=by simp;omega
    go_wp2_with fail;go_ret;exact ⟨by rw[HE.out];rfl,rfl⟩
   ·by_cases h2:122<t[j].toNat
    ·have HE:=aa (all_false HG.out (show letter t[j]=false by simp[letter];omega));have q1:decide (t[j].toNat<97)=false:=by simp;omega
     have q2:decide ((122:Int)<((t[j].toNat:Nat):Int))=true:=by simp;omega
     go_wp2_with fail;go_ret;exact ⟨by rw[HE.out];rfl,rfl⟩
    ·have q1:decide (t[j].toNat<97)=false:=by simp;omega
     have q2:decide (122<t[j].toNat)=false:=by simp;omega
     have HL:=aa (show letter t[j]=true by simp[letter];omega);obtain ⟨k',rfl⟩:∃k',gk=k'+1:=⟨gk - 1,by omega⟩;have hi:j+1<=9223372036854775807:=by omega
     go_wp2_with fail;go_roundg k'
     case measure=>omega
     case rel=>
      refine ⟨j+1,rfl,by omega,rfl,λm x hm hx=>?_⟩;rcases ed m j with h|h
      ·exact gN.out m x h hx
      ·have:m=j:=by omega
       subst this;rw[HG.out]at hx;cases hx;exact HL.out
  ·have g1:decide (j<t.size)=false:=by simp;omega
   have HE:=aa (all_true (l:=t.data.toList) (λm x hx=>hall m x (by have:=az hx;rw[aO]at this;omega) hx));rw[aO]at HE;clear hall;by_cases h1:1<=t.size
   ·by_cases h2:t.size<=12
    ·have q1:decide ((1:Int)<=(t.size:Int))=true:=by simp;omega
     have q2:decide ((t.size:Int)<=12)=true:=by simp;omega
     go_wp2_with fail;go_ret;exact ⟨by rw[HE.out,cF h1,cF h2];rfl,rfl⟩
    ·have q1:decide ((1:Int)<=(t.size:Int))=true:=by simp;omega
     have q2:decide ((t.size:Int)<=12)=false:=bV (by omega);go_wp2_with fail;go_ret;exact ⟨by rw[HE.out,cF h1,bV h2];rfl,rfl⟩
   ·have q1:decide ((1:Int)<=(t.size:Int))=false:=bV (by omega);go_wp2_with fail;go_ret;exact ⟨by rw[HE.out,bV h1];rfl,rfl⟩
theorem aQ(s:ByteArray)(i j:Nat):(s.extract i j).data.toList=(s.data.toList.drop i).take (j - i):=by simp[ByteArray.data_extract]
theorem dn(h:s.size<=j):(s.extract i j).data.toList=rest s i:=by rw[aQ,rest,List.take_of_length_le];rw[List.length_drop,aO];omega
theorem eT(nZ:i<=j):rest s i=(s.extract i j).data.toList++rest s j:=by
 rw[aQ,rest,rest]
 conv=>lhs;rw[<-List.take_append_drop (j - i) (s.data.toList.drop i),List.drop_drop]
 rw[show i+(j - i)=j by omega]
def sr(s:ByteArray)(at_:Nat)(w:World)(e:Ending)(w':World):Prop:=
 w'=w/\((∃(t:ByteArray) (j:Nat),rest s at_=t.data.toList++32::rest s j/\j<=s.size/\at_<j/\(32:UInt8)∉t.data.toList/\e=.returned (.tuple #[.string t,.int .i64 j])) ∨
  ((32:UInt8)∉rest s at_/\∃t:ByteArray,t.data.toList=rest s at_/\e=.returned (.tuple #[.string t,.int .i64 0])))
def Kc(s:ByteArray)(at_:Nat)(w:World)(k:Nat)(i:Value)(wr:World):Prop:=
 ∃j:Nat,i=.int .i64 j/\at_<=j/\j+k=s.size/\wr=w/\∀m,at_<=m->m<j->s.data.toList[m]?≠some 32
theorem C4(h:∀m,i<=m->m<j->s.data.toList[m]?≠some 32):(32:UInt8)∉(s.extract i j).data.toList:=by intro hm;rw[aQ]at hm;obtain ⟨k,hk⟩:=List.getElem?_of_mem hm;have hl:=az hk;rw[List.length_take]at hl;rw[List.getElem?_take_of_lt (by omega),List.getElem?_drop]at hk;exact h (i+k) (by omega) (by omega) hk
theorem ko(s:ByteArray)(at_:Nat)(w:World)(h:at_<=s.size)(hz:s.size<=1000000000):
  Calls Tryz.prog 117 #[.string s,.int .i64 at_] w (sr s at_ w):=by
 go_enter Tryz.func117,Tryz.ntmps117;go_wp2_with fail;go_loopg [6] (s.size - at_) (λk i wr=>Kc s at_ w k i wr)
 case atStart=>exact ⟨at_,rfl,bc _,by omega,rfl,λm h1 h2=>by omega⟩
 case round=>
  obtain ⟨j,rfl,hle,hk,rfl,hall⟩:=hrel;by_cases hlt:j<s.size
  ·have g1:decide ((j:Int)<(s.size:Int))=true:=by simp;omega
   have HG:=aa (qA hlt);have gN:=aa hall;clear hall;by_cases h1:s[j]=32
   ·have q1:(((s[j].toNat:Nat):Int)==32)=true:=by rw[h1];rfl
    have aq:=aa (show sr s at_ wr (.returned (.tuple #[.string (s.extract at_ j),.int .i64 ((j+1:Nat):Int)])) wr from
     ⟨rfl,.inl ⟨s.extract at_ j,j+1,by rw[eT hle,bE hlt,h1],hlt,by omega,C4 gN.out,rfl⟩⟩)
    have hi:j+1<=9223372036854775807:=by omega
    clear gN HG h1;go_wp2_with fail;exact bodyPost_ret (v:=.tuple #[.string (s.extract at_ j),.int .i64 ((j+1:Nat):Int)]) (by simp[results,Tryz.results117,go_sem, *]) rfl aq.out
   ·have q1:(((s[j].toNat:Nat):Int)==32)=false:=by rw[er];intro e;exact h1 (UInt8.toNat_inj.1 (by simpa using Int.ofNat.inj e))
    obtain ⟨k',rfl⟩:∃k',gk=k'+1:=⟨gk - 1,by omega⟩;have hi:j+1<=9223372036854775807:=by omega
    have HN:=aa h1;clear h1;go_wp2_with fail;go_roundg k'
    case measure=>omega
    case rel=>
     refine ⟨j+1,rfl,by omega,by omega,rfl,λm h2 h3=>?_⟩;rcases ed m j with h4|h4
     ·exact gN.out m h2 h4
     ·have:m=j:=by omega
      subst this;rw[HG.out];exact λe=>HN.out (Option.some.inj e)
  ·have g1:decide (j<s.size)=false:=by simp;omega
   have aq:=aa (show sr s at_ wr (.returned (.tuple #[.string (s.extract at_ s.size),.int .i64 0])) wr from
    ⟨rfl,.inr ⟨by rw[<-dn (bc s.size)];exact C4 (λm h1 h2=>hall m h1 (by omega)),s.extract at_ s.size,dn (bc _),rfl⟩⟩)
   clear hall;go_wp2_with fail;exact bodyPost_ret (v:=.tuple #[.string (s.extract at_ s.size),.int .i64 0]) (by simp[results,Tryz.results117,go_sem, *]) rfl aq.out
end Go.Proofs.YtgncgdkpkkdaeaaGreatDoor
namespace bu.First
open bu
variable {s:List UInt8} {p:cU->Ln->Prop} {c:UInt8}
def Aw:List UInt8:=[115,116,97,116,101,32,97,10,112,117,115,104,32,98,32,120,32,61,32,60,10,116,111,107,101,110,32,121,32,61,32,91,48,45,57,93,43,10,115,116,97,116,101,32,98,10,112,111,112,32,120,32,61,32,62,10]
def fG:cU:=[(0,.state [97]),(8,.rule 1 [98] [120] [60]),(21,.rule 0 [] [121] [91,48,45,57,93,43]),(38,.state [98]),(46,.rule 2 [] [120] [62])]
set_option maxRecDepth 100000 in
theorem N4:rd 0 [] Aw=.inr fG:=by with_unfolding_all rfl
theorem IH{r:Re}(hne:¬atEnd s)(h:dt s (some (r,[]))):bH s (some (r,[])):=
 .one (.more hne h (.stop (.inl rfl))) (.stop (by simp))
theorem N5(h1:c≠124)(h2:c≠41):¬atEnd (c::s):=by
 rintro (h|h|h)
 ·cases h
 ·simp at h;exact h1 h
 ·simp at h;exact h2 h
theorem C5(h:dK [c]=some (c,[]))(h1:c≠40)(h2:c≠46)(h3:c≠91)(h4:c≠124)(h5:c≠41):bH [c] (some (.dr (.range c c),[])):=by refine IH (N5 h4 h5) (.plain ?_ (by simp) (by simp) (by simp));have:=aV.one (s:=[c]) (by simp[h1]) (by simp[h2]) (by simp[h3]);rw[h]at this;exact this
theorem FR:bH [91,48,45,57,93,43] (some (.plus (.dr (.range 48 57)),[])):=IH (N5 (by decide) (by decide)) (.plus (aV.dr (eK.pos (by simp) rfl .stop)))
theorem N6:∀{l pre:cU},(∀l1 a x l2,l=l1++(a,x)::l2->¬p (pre++l1) x)->dQ p pre l none:=by
 intro l
 induction l with
 | nil=>intro pre _;exact .nil
 | cons y l ih=>
  intro pre h;obtain ⟨a,x⟩:=y;refine .skip (by simpa using h [] a x l rfl) (ih λl1 a' x' l2 e=>?_);have:=h ((a,x)::l1) a' x' l2 (by rw[e];rfl);simpa using this
theorem uy{l:cU}(h:∀pre a x,(a,x)∈l->¬p pre x):dQ p [] l none:=N6 λl1 a x l2 e=>h _ a x (by rw[e];simp)
theorem pA:∀a d o c p,(a,Ln.rule d o c p)∈fG->p.length<=60/\∃r,bH p (some (r,[]))/\r.au=false:=by
 intro a d o c p h;simp only[fG,List.mem_cons,Prod.mk.injEq,Ln.rule.injEq,List.not_mem_nil,or_false,reduceCtorEq,and_false,false_or]at h;rcases h with ⟨-,-,-,-,rfl⟩|⟨-,-,-,-,rfl⟩|⟨-,-,-,-,rfl⟩
 ·exact ⟨by decide,_,C5 (by decide) (by decide) (by decide) (by decide) (by decide) (by decide),rfl⟩
 ·exact ⟨by decide,_,FR,rfl⟩
 ·exact ⟨by decide,_,C5 (by decide) (by decide) (by decide) (by decide) (by decide) (by decide),rfl⟩
theorem lf:fG.filter (·.2.nb)=fG:=by rfl
theorem C6:fp fG (tests fG) 0 0:=by
 refine .skip ?_ (.skip ?_ (.skip ?_ (.skip ?_ (.skip ?_ (.skip ?_ .nil)))))
 ·repeat (first|exact dQ.nil|refine dQ.skip (by simp[dW]) ?_)
 ·repeat (first|exact dQ.nil|refine dQ.skip (by simp[dI,Ln.aN,Ln.aZ,Ln.nb]) ?_)
 ·refine uy λpre a x h=>?_
  rintro ⟨o,c,p,rfl,hn⟩;simp only[fG,List.mem_cons,Prod.mk.injEq,Ln.rule.injEq,List.not_mem_nil,or_false,reduceCtorEq,and_false,false_or]at h;rcases h with ⟨-,-,rfl,-⟩|⟨-,h,-⟩|⟨-,h,-⟩
  ·exact hn _ (bn (i:=3) rfl)
  all_goals exact absurd h (by decide)
 ·refine uy λpre a x h=>?_
  rintro ⟨d,o,c,p,rfl,hl⟩;have:=(pA _ _ _ _ _ h).1;omega
 ·refine uy λpre a x h=>?_
  rintro ⟨d,o,c,p,rfl,_,hn⟩;obtain ⟨r,hr,_⟩:=(pA _ _ _ _ _ h).2;exact hn ⟨r,hr⟩
 ·refine uy λpre a x h=>?_
  rintro ⟨d,o,c,p,r',rfl,hp,hn⟩;obtain ⟨r,hr,hf⟩:=(pA _ _ _ _ _ h).2;have:=hr.dz hp;simp only[fA,Prod.mk.injEq,and_true]at this;rw[<-this,hf]at hn;cases hn
theorem FT:dD Aw 0 0 fG:=by have h:=dD.ok (s:=Aw) (by decide) N4 (by rw[lf];exact C6) (by rw[lf];simp[fG]);rw[lf]at h;exact h
end bu.First
