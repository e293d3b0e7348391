import Derived.Test.YtgncgdkpkkdaeaaGreatDoorMA
import Derived.Lib.CutLaws
import Derived.Test.YtgncgdkpkkdaeaaGreatDoorMD
import Derived.Laws.IdiomStrings
namespace aO
variable {a b l p t:List UInt8} {c:UInt8}
def cutAt(c:UInt8):List UInt8->List UInt8×Option (List UInt8)
 | []=>([],none)
 | x::l=>if x=c then ([],some l) else (x::(cutAt c l).1,(cutAt c l).2)
theorem dU(b:List UInt8)(h:c∉a):cutAt c (a++c::b)=(a,some b):=by
 induction a with
 | nil=>simp[cutAt]
 | cons x a ih=>
  have h1:¬x=c:=λe=>h (by simp[e])
  have h2:=ih (λe=>h (List.mem_cons_of_mem _ e));simp[cutAt,h1,h2]
theorem fX(h:c∉a):cutAt c a=(a,none):=by
 induction a with
 | nil=>rfl
 | cons x a ih=>
  have h1:¬x=c:=λe=>h (by simp[e])
  have h2:=ih (λe=>h (List.mem_cons_of_mem _ e));simp[cutAt,h1,h2]
theorem ji(c:UInt8)(l:List UInt8):(∃a b,l=a++c::b/\c∉a/\cutAt c l=(a,some b))∨(c∉l/\cutAt c l=(l,none)):=by
 induction l with
 | nil=>exact .inr ⟨by simp,rfl⟩
 | cons x l ih=>
  by_cases hx:x=c
  ·subst hx;exact .inl ⟨[],l,rfl,by simp,by simp[cutAt]⟩
  ·rcases ih with ⟨a,b,rfl,hn,-⟩|⟨hn,-⟩
   ·have h1:c∉x::a:=by simp[hn,Ne.symm hx]
    exact .inl ⟨x::a,b,rfl,h1,dU b h1⟩
   ·have h1:c∉x::l:=by simp[hn,Ne.symm hx]
    exact .inr ⟨h1,fX h1⟩
theorem index_hit(h:c∉a)(ht:(c::t).isPrefixOf (c::b)=true):Go.Lib.index (a++c::b) (c::t)=a.length:=by
 refine Go.Lib.index_first (by simp) ?_ ?_
 ·simp only[Go.Lib.occAt,List.drop_left];exact ht
 ·intro j hj;rw[Go.Lib.occAt,List.drop_append_of_le_length (by omega),List.drop_eq_getElem_cons hj];simp only[List.cons_append,List.isPrefixOf,Bool.and_eq_false_iff];left;rw[beq_eq_false_iff_ne];intro e;exact h (e▸List.getElem_mem hj)
theorem ET(h:c∉l):Go.Lib.index l (c::t)=-1:=by
 refine Go.Lib.index_none ?_;intro j _;rw[Go.Lib.occAt];rcases Nat.lt_or_ge j l.length with hj|hj
 ·rw[List.drop_eq_getElem_cons hj];simp only[List.isPrefixOf,Bool.and_eq_false_iff];left;rw[beq_eq_false_iff_ne];intro e;exact h (e▸List.getElem_mem hj)
 ·rw[List.drop_of_length_le hj];rfl
theorem Hc(h:c∉a):Go.Lib.cut (a++c::(t++b)) (c::t)=(a,b,true):=by
 have hp:(c::t).isPrefixOf (c::(t++b))=true:=by rw[List.isPrefixOf_iff_prefix];exact ⟨b,by simp⟩
 unfold Go.Lib.cut;rw[index_hit h hp,if_pos (by omega)];simp
theorem M7(h:c∉l):Go.Lib.cut l (c::t)=(l,[],false):=by unfold Go.Lib.cut;rw[ET h,if_neg (by omega)]
theorem QZ(c:UInt8)(l:List UInt8):(∃a b,l=a++c::b/\c∉a/\cutAt c l=(a,some b)/\Go.Lib.cut l [c]=(a,b,true))∨(c∉l/\cutAt c l=(l,none)/\Go.Lib.cut l [c]=(l,[],false)):=by
 rcases ji c l with ⟨a,b,rfl,hn,hc⟩|⟨hn,hc⟩
 ·exact .inl ⟨a,b,rfl,hn,hc,Hc (t:=[]) hn⟩
 ·exact .inr ⟨hn,hc,M7 hn⟩
def isName(l:List UInt8):Bool:=decide (1<=l.length)&&decide (l.length<=12)&&l.all λx=>decide (97<=x.toNat)&&decide (x.toNat<=122)
theorem EU(h:isName l=true)(hc:c∈l):97<=c.toNat:=by simp only[isName,Bool.and_eq_true,List.all_eq_true,decide_eq_true_eq]at h;exact (h.2 c hc).1
theorem pO(h:isName l=true):(32:UInt8)∉l:=λhc=>by have:=EU h hc;simp at this
def bq(r:List UInt8):Option (List UInt8×List UInt8):=
 match cutAt 32 r with
 | (c,some (61::32::p))=>if isName c=true then some (c,p) else none
 | _=>none
theorem nT{r c:List UInt8}(h:bq r=some (c,p)):r=c++32::61::32::p/\isName c=true:=by
 unfold bq at h;split at h
 ·rename_i c' p' hc;split at h
  ·rename_i hn;cases h;rcases ji 32 r with ⟨a,b,rfl,-,e⟩|⟨-,e⟩
   ·rw[e]at hc;cases hc;exact ⟨rfl,hn⟩
   ·rw[e]at hc;cases hc
  ·cases h
 ·cases h
theorem rZ{c:List UInt8}(hn:isName c=true):bq (c++32::61::32::p)=some (c,p):=by unfold bq;rw[dU _ (pO hn)];simp[hn]
theorem M8(r:List UInt8):(∃c p,bq r=some (c,p)/\isName c=true/\Go.Lib.cut r [32,61,32]=(c,p,true)) ∨
  (bq r=none/\((Go.Lib.cut r [32,61,32]).2.2=false∨isName (Go.Lib.cut r [32,61,32]).1=false)):=by
 cases h:bq r with
 | some cp=>
  obtain ⟨c,p⟩:=cp;obtain ⟨rfl,hn⟩:=nT h;exact .inl ⟨c,p,rfl,hn,Hc (t:=[61,32]) (pO hn)⟩
 | none=>
  refine .inr ⟨rfl,?_⟩
  cases hb:(Go.Lib.cut r [32,61,32]).2.2 with
  | false=>exact .inl rfl
  | true=>
   cases hm:isName (Go.Lib.cut r [32,61,32]).1 with
   | false=>exact .inr rfl
   | true=>
    exfalso;unfold Go.Lib.cut at hb hm;split at hb
    ·rename_i hi;rw[if_pos hi]at hm;rcases Go.Lib.index_spec r [32,61,32] with ⟨hn,-⟩|⟨i,hx,-,ho,-⟩
     ·omega
     rw[hx]at hm;simp only[Int.toNat_natCast]at hm;rw[Go.Lib.occAt,List.isPrefixOf_iff_prefix]at ho;obtain ⟨p,hp⟩:=ho;have e:r=r.take i++32::61::32::p:=by rw[show (32:UInt8)::61::32::p=[32,61,32]++p from rfl,hp,List.take_append_drop]
     rw[e,rZ hm]at h;cases h
    ·cases hb
end aO
namespace aO
variable {a b s:List UInt8} {a' e e' p:Nat} {o:Option Nat}
inductive Ln where
 | blank
 | state (s:List UInt8)
 | rule (does:Nat) (opens colour pat:List UInt8)
def Ln.aL:Ln->Bool
 | .state _=>true
 | _=>false
def Ln.aY:Ln->Bool
 | .rule _ _ _ _=>true
 | _=>false
def Ln.nb:Ln->Bool
 | .blank=>false
 | _=>true
def cu(does:Nat)(opens r:List UInt8):Option Ln:=(bq r).map λcp=>.rule does opens cp.1 cp.2
def rj:List UInt8:=[115,116,97,116,101]
def kz:List UInt8:=[116,111,107,101,110]
def jM:List UInt8:=[112,117,115,104]
def zA:List UInt8:=[112,111,112]
def iI(r:List UInt8):Option Ln:=
 match cutAt 32 r with
 | (s,some r')=>if isName s=true then cu 1 s r' else none
 | (_,none)=>none
def fK(w r:List UInt8):Option Ln:=
 if w=rj then (if isName r=true then some (.state r) else none)
 else if w=kz then cu 0 [] r
 else if w=zA then cu 2 [] r
 else if w=jM then iI r
 else none
def cH(l:List UInt8):Option Ln:=
 if l=[] then some .blank else
 match cutAt 32 l with
 | (w,some r)=>fK w r
 | (_,none)=>none
abbrev cM:=List (Nat×Ln)
def kS:Nat->Nat->cM->List UInt8->Nat ⊕ cM
 | 0,p,_,_=>.inl p
 | f+1,p,acc,s=>
  if s=[] then .inr acc else
  match cutAt 10 s with
  | (_,none)=>.inl p
  | (l,some r)=>
   match cH l with
   | none=>.inl p
   | some x=>if x.aY=true/\acc.any (·.2.aL)=false then .inl p else kS f (p+l.length+1) (acc++[(p,x)]) r
theorem EW:∀(f g p:Nat) (acc:cM) (s:List UInt8),s.length<f->s.length<g->kS f p acc s=kS g p acc s:=by
 intro f
 induction f with
 | zero=>intro g p acc s hf;omega
 | succ f ih=>
  intro g p acc s hf hg
  cases g with
  | zero=>omega
  | succ g=>
   unfold kS;by_cases hs:s=[]
   ·simp[hs]
   ·simp only[if_neg hs];rcases ji 10 s with ⟨a,b,e,-,hc⟩|⟨-,hc⟩
    ·rw[hc];simp only;have hl:s.length=a.length+b.length+1:=by rw[e];simp;omega
     cases hx:cH a with
     | none=>rfl
     | some x=>
      simp only;split
      ·rfl
      ·exact ih g _ _ b (by omega) (by omega)
    ·rw[hc]
def rd(p:Nat)(acc:cM)(s:List UInt8):Nat ⊕ cM:=kS (s.length+1) p acc s
theorem M9(p:Nat)(acc:cM):rd p acc []=.inr acc:=by simp[rd,kS]
variable {acc:cM}
theorem zB(hs:s≠[])(h:(10:UInt8)∉s):rd p acc s=.inl p:=by unfold rd kS;rw[if_neg hs,fX h]
theorem EX(h:(10:UInt8)∉a)(hl:cH a=none):rd p acc (a++10::b)=.inl p:=by unfold rd kS;rw[if_neg (by simp),dU b h];simp[hl]
variable {x:Ln}
theorem Cf(h:(10:UInt8)∉a)(hl:cH a=some x)(hx:x.aY=true)(ha:acc.any (·.2.aL)=false):rd p acc (a++10::b)=.inl p:=by unfold rd kS;rw[if_neg (by simp),dU b h];simp only[hl];rw[if_pos ⟨hx,ha⟩]
theorem tI(h:(10:UInt8)∉a)(hl:cH a=some x)(hx:¬(x.aY=true/\acc.any (·.2.aL)=false)):rd p acc (a++10::b)=rd (p+a.length+1) (acc++[(p,x)]) b:=by rw[rd,kS,if_neg (by simp),dU b h];simp only[hl];rw[if_neg hx,rd];exact EW _ _ _ _ _ (by simp only[List.length_append,List.length_cons];omega) (by omega)
inductive dF(p:cM->Ln->Prop):cM->cM->Option Nat->Prop where
 | nil {pre:cM}:dF p pre [] none
 | hit {pre:cM} {a:Nat} {x:Ln} {l:cM}:p pre x->dF p pre ((a,x)::l) (some a)
 | skip {pre:cM} {a:Nat} {x:Ln} {l:cM} {o:Option Nat}:¬p pre x->dF p (pre++[(a,x)]) l o->dF p pre ((a,x)::l) o
variable {l pre:cM}
theorem dF.cX{p:cM->Ln->Prop}{o':Option Nat}(h:dF p pre l o)(h':dF p pre l o'):o=o':=by
 induction h with
 | nil=>cases h';rfl
 | hit hp=>
  cases h' with
  | hit _=>rfl
  | skip hn _=>exact absurd hp hn
 | skip hn _ ih=>
  cases h' with
  | hit hp=>exact absurd hp hn
  | skip _ h2=>exact ih h2
theorem dF.filter{p:cM->Ln->Prop}(hb:∀pre,¬p pre .blank)(hf:∀pre x,p pre x<->p (pre.filter (·.2.nb)) x)(h:dF p pre l o):dF p (pre.filter (·.2.nb)) (l.filter (·.2.nb)) o:=by
 induction h with
 | nil=>exact .nil
 | @hit pre a x l hp=>
  have hx:x.nb=true:=by cases x with
   | blank=>exact absurd hp (hb _)
   | state _=>rfl
   | rule _ _ _ _=>rfl
  rw[List.filter_cons_of_pos (p:=λ(y:Nat×Ln)=>y.2.nb) (a:=(a,x)) hx];exact .hit ((hf _ _).1 hp)
 | @skip pre a x l o hn _ ih=>
  rw[List.filter_append]at ih
  cases hx:x.nb with
  | true=>
   rw[List.filter_cons_of_pos (p:=λ(y:Nat×Ln)=>y.2.nb) (a:=(a,x)) hx];rw[List.filter_cons_of_pos (p:=λ(y:Nat×Ln)=>y.2.nb) (a:=(a,x)) hx]at ih;exact .skip (λhp=>hn ((hf _ _).2 hp)) ih
  | false=>
   rw[List.filter_cons_of_neg (p:=λ(y:Nat×Ln)=>y.2.nb) (a:=(a,x)) (by simp[hx])];rw[List.filter_cons_of_neg (p:=λ(y:Nat×Ln)=>y.2.nb) (a:=(a,x)) (by simp[hx])]at ih;simpa using ih
inductive eO(fs:cM):List (Nat×(cM->Ln->Prop))->Nat->Nat->Prop where
 | nil:eO fs [] 0 0
 | hit {e a:Nat} {p:cM->Ln->Prop} {l:List (Nat×(cM->Ln->Prop))}:dF p [] fs (some a)->eO fs ((e,p)::l) e a
 | skip {e e' a:Nat} {p:cM->Ln->Prop} {l:List (Nat×(cM->Ln->Prop))}:dF p [] fs none->eO fs l e' a->eO fs ((e,p)::l) e' a
theorem eO.cX{fs:cM}{l:List (Nat×(cM->Ln->Prop))}{a:Nat}(h:eO fs l e a)(h':eO fs l e' a'):e=e'/\a=a':=by
 induction h with
 | nil=>cases h';exact ⟨rfl,rfl⟩
 | hit h1=>
  cases h' with
  | hit h2=>have:=h1.cX h2;simp at this;exact ⟨rfl,this⟩
  | skip h2 _=>have:=h1.cX h2;cases this
 | skip h1 _ ih=>
  cases h' with
  | hit h2=>have:=h1.cX h2;cases this
  | skip _ h3=>exact ih h3
def dL(pre:cM)(x:Ln):Prop:=∃n,x=.state n/\∃a,(a,Ln.state n)∈pre
def dA(pre:cM)(x:Ln):Prop:=x.nb=true/\(12<(pre.filter (·.2.aL)).length+(if x.aL=true then 1 else 0)∨40<(pre.filter (·.2.aY)).length+(if x.aY=true then 1 else 0))
def cV(fs:cM)(_:cM)(x:Ln):Prop:=∃o c p,x=.rule 1 o c p/\∀a,(a,Ln.state o)∉fs
def jN(_:cM)(x:Ln):Prop:=∃d o c p,x=.rule d o c p/\60<p.length
def oF(_:cM)(x:Ln):Prop:=∃d o c p,x=.rule d o c p/\p.length<=60/\¬∃r,bh p (some (r,[]))
def fY(_:cM)(x:Ln):Prop:=∃d o c p r,x=.rule d o c p/\bh p (some (r,[]))/\r.aq=true
def tests(fs:cM):List (Nat×(cM->Ln->Prop)):=[(3,dL),(4,dA),(5,cV fs),(1,jN),(6,oF),(7,fY)]
theorem xi(pre:cM)(x:Ln):dL pre x<->dL (pre.filter (·.2.nb)) x:=by
 constructor
 ·rintro ⟨n,rfl,a,h⟩;exact ⟨n,rfl,a,List.mem_filter.2 ⟨h,rfl⟩⟩
 ·rintro ⟨n,rfl,a,h⟩;exact ⟨n,rfl,a,(List.mem_filter.1 h).1⟩
theorem xU(q:Ln->Bool)(hq:q .blank=false)(l:cM):(l.filter (·.2.nb)).filter (q ·.2)=l.filter (q ·.2):=by
 rw[List.filter_filter];apply List.filter_congr;rintro ⟨a,x⟩ _
 cases x with
 | blank=>simp[hq,Ln.nb]
 | state _=>simp[Ln.nb]
 | rule _ _ _ _=>simp[Ln.nb]
theorem zC(pre:cM)(x:Ln):dA pre x<->dA (pre.filter (·.2.nb)) x:=by unfold dA;rw[xU Ln.aL rfl,xU Ln.aY rfl]
theorem eO.filter{ls:cM}{a:Nat}(h:eO ls (tests ls) e a):eO (ls.filter (·.2.nb)) (tests (ls.filter (·.2.nb))) e a:=by
 have key:∀{p p':cM->Ln->Prop} {o:Option Nat},(∀pre,¬p' pre .blank)->(∀pre x,p' pre x<->p' (pre.filter (·.2.nb)) x)->(∀pre x,p pre x<->p' pre x)->dF p [] ls o->dF p' [] (ls.filter (·.2.nb)) o:=by
  intro p p' o h1 h2 h3 hf;obtain rfl:p=p':=funext λa=>funext λb=>propext (h3 a b)
  exact hf.filter h1 h2
 have k3:∀{o},dF dL [] ls o->dF dL [] (ls.filter (·.2.nb)) o:=key (λ_ h=>by obtain ⟨n,h,_⟩:=h;cases h) xi (λ_ _=>Iff.rfl);have k4:∀{o},dF dA [] ls o->dF dA [] (ls.filter (·.2.nb)) o:=key (λ_ h=>by cases h.1) zC (λ_ _=>Iff.rfl)
 have k5:∀{o},dF (cV ls) [] ls o->dF (cV (ls.filter (·.2.nb))) [] (ls.filter (·.2.nb)) o:=by
  refine key (λ_ h=>by obtain ⟨_,_,_,h,_⟩:=h;cases h) (λ_ _=>Iff.rfl) (λ_ x=>?_);constructor
  ·rintro ⟨o,c,p,rfl,h⟩;exact ⟨o,c,p,rfl,λa ha=>h a (List.mem_filter.1 ha).1⟩
  ·rintro ⟨o,c,p,rfl,h⟩;exact ⟨o,c,p,rfl,λa ha=>h a (List.mem_filter.2 ⟨ha,rfl⟩)⟩
 have k1:∀{o},dF jN [] ls o->dF jN [] (ls.filter (·.2.nb)) o:=key (λ_ h=>by obtain ⟨_,_,_,_,h,_⟩:=h;cases h) (λ_ _=>Iff.rfl) (λ_ _=>Iff.rfl);have k6:∀{o},dF oF [] ls o->dF oF [] (ls.filter (·.2.nb)) o:=key (λ_ h=>by obtain ⟨_,_,_,_,h,_⟩:=h;cases h) (λ_ _=>Iff.rfl) (λ_ _=>Iff.rfl)
 have k7:∀{o},dF fY [] ls o->dF fY [] (ls.filter (·.2.nb)) o:=key (λ_ h=>by obtain ⟨_,_,_,_,_,h,_⟩:=h;cases h) (λ_ _=>Iff.rfl) (λ_ _=>Iff.rfl);unfold tests at h ⊢
 cases h with
 | hit h=>exact .hit (k3 h)
 | skip h0 h=>
  refine .skip (k3 h0) ?_
  cases h with
  | hit h=>exact .hit (k4 h)
  | skip h0 h=>
   refine .skip (k4 h0) ?_
   cases h with
   | hit h=>exact .hit (k5 h)
   | skip h0 h=>
    refine .skip (k5 h0) ?_
    cases h with
    | hit h=>exact .hit (k1 h)
    | skip h0 h=>
     refine .skip (k1 h0) ?_
     cases h with
     | hit h=>exact .hit (k6 h)
     | skip h0 h=>
      refine .skip (k6 h0) ?_
      cases h with
      | hit h=>exact .hit (k7 h)
      | skip h0 h=>cases h;exact .skip (k7 h0) .nil
inductive dt(s:List UInt8):Nat->Nat->cM->Prop where
 | long:2000<s.length->dt s 1 0 []
 | form {a:Nat}:s.length<=2000->rd 0 [] s=.inl a->dt s 2 a []
 | fault {ls:cM} {e a:Nat}:s.length<=2000->rd 0 [] s=.inr ls->eO (ls.filter (·.2.nb)) (tests (ls.filter (·.2.nb))) e a->e≠0->dt s e a []
 | none {ls:cM}:s.length<=2000->rd 0 [] s=.inr ls->ls.filter (·.2.nb)=[]->dt s 4 s.length []
 | ok {ls:cM}:s.length<=2000->rd 0 [] s=.inr ls->eO (ls.filter (·.2.nb)) (tests (ls.filter (·.2.nb))) 0 0->ls.filter (·.2.nb)≠[]->dt s 0 0 (ls.filter (·.2.nb))
theorem xV:eO [] (tests []) 0 0:=.skip .nil (.skip .nil (.skip .nil (.skip .nil (.skip .nil (.skip .nil .nil)))))
theorem dt.cX{a:Nat}{l':cM}(h:dt s e a l)(h':dt s e' a' l'):e=e'/\a=a'/\l=l':=by
 cases h with
 | long h1=>cases h' with
  | long _=>exact ⟨rfl,rfl,rfl⟩
  | form h2 _=>omega
  | fault h2 _ _ _=>omega
  | none h2 _ _=>omega
  | ok h2 _ _ _=>omega
 | form h1 h2=>cases h' with
  | long h3=>omega
  | form _ h3=>rw[h2]at h3;cases h3;exact ⟨rfl,rfl,rfl⟩
  | fault _ h3 _ _=>rw[h2]at h3;cases h3
  | none _ h3 _=>rw[h2]at h3;cases h3
  | ok _ h3 _ _=>rw[h2]at h3;cases h3
 | fault h1 h2 hc hn=>cases h' with
  | long h3=>omega
  | form _ h3=>rw[h2]at h3;cases h3
  | fault _ h3 hc' _=>rw[h2]at h3;cases h3;obtain ⟨h4,h5⟩:=hc.cX hc';exact ⟨h4,h5,rfl⟩
  | none _ h3 hz=>rw[h2]at h3;cases h3;rw[hz]at hc;exact absurd (hc.cX xV).1 hn
  | ok _ h3 hc' _=>rw[h2]at h3;cases h3;exact absurd (hc.cX hc').1 hn
 | none h1 h2 hz=>cases h' with
  | long h3=>omega
  | form _ h3=>rw[h2]at h3;cases h3
  | fault _ h3 hc' hn=>rw[h2]at h3;cases h3;rw[hz]at hc';exact absurd (hc'.cX xV).1 hn
  | none _ _ _=>exact ⟨rfl,rfl,rfl⟩
  | ok _ h3 _ hz'=>rw[h2]at h3;cases h3;exact absurd hz hz'
 | ok h1 h2 hc hz=>cases h' with
  | long h3=>omega
  | form _ h3=>rw[h2]at h3;cases h3
  | fault _ h3 hc' hn=>rw[h2]at h3;cases h3;exact absurd (hc'.cX hc).1 hn
  | none _ h3 hz'=>rw[h2]at h3;cases h3;exact absurd hz' hz
  | ok _ h3 _ _=>rw[h2]at h3;cases h3;exact ⟨rfl,rfl,rfl⟩
end aO
namespace Go.Proofs.YtgncgdkpkkdaeaaGreatDoor
open Go.RowKit aO
variable {s:ByteArray} {l:List UInt8} {i j:Nat}
def letter(x:UInt8):Bool:=decide (97<=x.toNat)&&decide (x.toNat<=122)
theorem xW(l:List UInt8):isName l=(decide (1<=l.length)&&decide (l.length<=12)&&l.all letter):=rfl
theorem all_false{x:UInt8}(h:l[i]?=some x)(hx:letter x=false):isName l=false:=by
 rw[xW];have:l.all letter=false:=by rw[List.all_eq_false];exact ⟨x,List.mem_of_getElem? h,by simp[hx]⟩
 rw[this,Bool.and_false]
theorem all_true(h:∀(j:Nat) (x:UInt8),l[j]?=some x->letter x=true):isName l=(decide (1<=l.length)&&decide (l.length<=12)):=by
 rw[xW];have:l.all letter=true:=by rw[List.all_eq_true];intro x hx;obtain ⟨j,hj⟩:=List.getElem?_of_mem hx;exact h j x hj
 rw[this,Bool.and_true]
theorem pP{t:ByteArray}(h:i<t.size):t.data.toList[i]?=some t[i]:=by rw[List.getElem?_eq_getElem (show i<t.data.toList.length from h)];rfl
theorem aM(t:ByteArray):t.data.toList.length=t.size:=rfl
def Na(t:ByteArray)(w:World)(k:Nat)(i:Value)(wr:World):Prop:=
 ∃j:Nat,i=.int .i64 j/\j+k=t.size/\wr=w/\∀(m:Nat) (x:UInt8),m<j->t.data.toList[m]?=some x->letter x=true
set_option maxRecDepth 20000 in
set_option maxHeartbeats 1000000 in
theorem dH(t:ByteArray)(w:World)(hz:t.size<=1000000000):
  Calls Tryz.prog 84 #[.string t] w λe w'=>e=.returned (.bool (isName t.data.toList))/\w'=w:=by
 go_enter Tryz.func84,Tryz.ntmps84;go_wp2_with fail;go_loopg [3] t.size (λk i wr=>Na t w k i wr)
 case atStart=>exact ⟨0,rfl,by omega,rfl,λm x h=>by omega⟩
 case round=>
  obtain ⟨j,rfl,hk,rfl,hall⟩:=hrel;by_cases hlt:j<t.size
  ·have g1:decide ((j:Int)<(t.size:Int))=true:=by simp;omega
   have HG:=aa (pP hlt);have fZ:=aa hall;clear hall;by_cases h1:t[j].toNat<97
   ·have HE:=aa (all_false HG.out (show letter t[j]=false by simp[letter];omega));have q1:decide (((t[j].toNat:Nat):Int)<97)=true:=by simp;omega
    go_wp2_with fail;go_ret;exact ⟨by rw[HE.out];rfl,rfl⟩
   ·by_cases h2:122<t[j].toNat
    ·have HE:=aa (all_false HG.out (show letter t[j]=false by simp[letter];omega));have q1:decide (t[j].toNat<97)=false:=by simp;omega
     have q2:decide ((122:Int)<((t[j].toNat:Nat):Int))=true:=by simp;omega
     go_wp2_with fail;go_ret;exact ⟨by rw[HE.out];rfl,rfl⟩
    ·have q1:decide (t[j].toNat<97)=false:=by simp;omega
     have q2:decide (122<t[j].toNat)=false:=by simp;omega
     have HL:=aa (show letter t[j]=true by simp[letter];omega);obtain ⟨k',rfl⟩:∃k',gk=k'+1:=⟨gk - 1,by omega⟩;have hi:j+1<=9223372036854775807:=by omega
     go_wp2_with fail;go_roundg k'
     case measure=>omega
     case rel=>
      refine ⟨j+1,rfl,by omega,rfl,λm x hm hx=>?_⟩;rcases Nat.lt_or_ge m j with h|h
      ·exact fZ.out m x h hx
      ·have:m=j:=by omega
       subst this;rw[HG.out]at hx;cases hx;exact HL.out
  ·have g1:decide (j<t.size)=false:=by simp;omega
   have HE:=aa (all_true (l:=t.data.toList) (λm x hx=>hall m x (by have:=aw hx;rw[aM]at this;omega) hx));rw[aM]at HE;clear hall;by_cases h1:1<=t.size
   ·by_cases h2:t.size<=12
    ·have q1:decide ((1:Int)<=(t.size:Int))=true:=by simp;omega
     have q2:decide ((t.size:Int)<=12)=true:=by simp;omega
     go_wp2_with fail;go_ret;exact ⟨by rw[HE.out,decide_eq_true h1,decide_eq_true h2];rfl,rfl⟩
    ·have q1:decide ((1:Int)<=(t.size:Int))=true:=by simp;omega
     have q2:decide ((t.size:Int)<=12)=false:=decide_eq_false (by omega);go_wp2_with fail;go_ret;exact ⟨by rw[HE.out,decide_eq_true h1,decide_eq_false h2];rfl,rfl⟩
   ·have q1:decide ((1:Int)<=(t.size:Int))=false:=decide_eq_false (by omega);go_wp2_with fail;go_ret;exact ⟨by rw[HE.out,decide_eq_false h1];rfl,rfl⟩
theorem aQ(s:ByteArray)(i j:Nat):(s.extract i j).data.toList=(s.data.toList.drop i).take (j - i):=by simp[ByteArray.data_extract]
theorem cZ(h:s.size<=j):(s.extract i j).data.toList=rest s i:=by rw[aQ,rest,List.take_of_length_le];rw[List.length_drop,aM];omega
theorem eF(nh:i<=j):rest s i=(s.extract i j).data.toList++rest s j:=by
 rw[aQ,rest,rest]
 conv=>lhs;rw[<-List.take_append_drop (j - i) (s.data.toList.drop i),List.drop_drop]
 rw[show i+(j - i)=j by omega]
def rq(s:ByteArray)(at_:Nat)(w:World)(e:Ending)(w':World):Prop:=
 w'=w/\((∃(t:ByteArray) (j:Nat),rest s at_=t.data.toList++32::rest s j/\j<=s.size/\at_<j/\(32:UInt8)∉t.data.toList/\e=.returned (.tuple #[.string t,.int .i64 j])) ∨
  ((32:UInt8)∉rest s at_/\∃t:ByteArray,t.data.toList=rest s at_/\e=.returned (.tuple #[.string t,.int .i64 0])))
def Jp(s:ByteArray)(at_:Nat)(w:World)(k:Nat)(i:Value)(wr:World):Prop:=
 ∃j:Nat,i=.int .i64 j/\at_<=j/\j+k=s.size/\wr=w/\∀m,at_<=m->m<j->s.data.toList[m]?≠some 32
theorem Cg(h:∀m,i<=m->m<j->s.data.toList[m]?≠some 32):(32:UInt8)∉(s.extract i j).data.toList:=by intro hm;rw[aQ]at hm;obtain ⟨k,hk⟩:=List.getElem?_of_mem hm;have hl:=aw hk;rw[List.length_take]at hl;rw[List.getElem?_take_of_lt (by omega),List.getElem?_drop]at hk;exact h (i+k) (by omega) (by omega) hk
set_option maxRecDepth 20000 in
set_option maxHeartbeats 1000000 in
theorem jO(s:ByteArray)(at_:Nat)(w:World)(h:at_<=s.size)(hz:s.size<=1000000000):
  Calls Tryz.prog 117 #[.string s,.int .i64 at_] w (rq s at_ w):=by
 go_enter Tryz.func117,Tryz.ntmps117;go_wp2_with fail;go_loopg [6] (s.size - at_) (λk i wr=>Jp s at_ w k i wr)
 case atStart=>exact ⟨at_,rfl,Nat.le_refl _,by omega,rfl,λm h1 h2=>by omega⟩
 case round=>
  obtain ⟨j,rfl,hle,hk,rfl,hall⟩:=hrel;by_cases hlt:j<s.size
  ·have g1:decide ((j:Int)<(s.size:Int))=true:=by simp;omega
   have HG:=aa (pP hlt);have fZ:=aa hall;clear hall;by_cases h1:s[j]=32
   ·have q1:(((s[j].toNat:Nat):Int)==32)=true:=by rw[h1];rfl
    have ai:=aa (show rq s at_ wr (.returned (.tuple #[.string (s.extract at_ j),.int .i64 ((j+1:Nat):Int)])) wr from
     ⟨rfl,.inl ⟨s.extract at_ j,j+1,by rw[eF hle,br hlt,h1],hlt,by omega,Cg fZ.out,rfl⟩⟩)
    have hi:j+1<=9223372036854775807:=by omega
    clear fZ HG h1;go_wp2_with fail;exact bodyPost_ret (v:=.tuple #[.string (s.extract at_ j),.int .i64 ((j+1:Nat):Int)]) (by simp[results,Tryz.results117,go_sem, *]) rfl ai.out
   ·have q1:(((s[j].toNat:Nat):Int)==32)=false:=by rw[beq_eq_false_iff_ne];intro e;exact h1 (UInt8.toNat_inj.1 (by simpa using Int.ofNat.inj e))
    obtain ⟨k',rfl⟩:∃k',gk=k'+1:=⟨gk - 1,by omega⟩;have hi:j+1<=9223372036854775807:=by omega
    have HN:=aa h1;clear h1;go_wp2_with fail;go_roundg k'
    case measure=>omega
    case rel=>
     refine ⟨j+1,rfl,by omega,by omega,rfl,λm h2 h3=>?_⟩;rcases Nat.lt_or_ge m j with h4|h4
     ·exact fZ.out m h2 h4
     ·have:m=j:=by omega
      subst this;rw[HG.out];exact λe=>HN.out (Option.some.inj e)
  ·have g1:decide (j<s.size)=false:=by simp;omega
   have ai:=aa (show rq s at_ wr (.returned (.tuple #[.string (s.extract at_ s.size),.int .i64 0])) wr from
    ⟨rfl,.inr ⟨by rw[<-cZ (Nat.le_refl s.size)];exact Cg (λm h1 h2=>hall m h1 (by omega)),s.extract at_ s.size,cZ (Nat.le_refl _),rfl⟩⟩)
   clear hall;go_wp2_with fail;exact bodyPost_ret (v:=.tuple #[.string (s.extract at_ s.size),.int .i64 0]) (by simp[results,Tryz.results117,go_sem, *]) rfl ai.out
end Go.Proofs.YtgncgdkpkkdaeaaGreatDoor
