import Derived.Test.YtgncgdkpkkdaeaaGreatDoorProg
import Derived.WalkSpells
import Derived.Test.YtgncgdkpkkdaeaaGreatDoorAA
import Derived.Deep.RegionLaw
import Derived.BigQuiet
set_option maxRecDepth 20000
set_option maxHeartbeats 400000
namespace Go.Proofs.YtgncgdkpkkdaeaaGreatDoor
open Go.RowKit
theorem aa{p:Prop}(h:p):Hid p:=h
theorem Nl(lo hi b:UInt8)(p q:Addr)(w:World)(hp:w.cell? p=some (.int .u8 lo.toNat))(hq:w.cell? q=some (.int .u8 hi.toNat)):
  Calls Tryz.prog 216 #[.int .u8 b.toNat,.pointer (some p),.pointer (some q)] w λe w'=>
   e=.returned (.bool (decide (lo.toNat<=b.toNat)&&decide (b.toNat<=hi.toNat)))/\w'=w:=by
 go_enter Tryz.func216,Tryz.ntmps216;go_wp2
 all_goals
  go_ret;refine ⟨?_,rfl⟩;simp[*]
def Enters(g:FuncId):Prop:=∀args w,Sem.run Tryz.prog (callFunc g args) w=.ok (.enter g args) w
def Ii(w:World)(v:Value)(f:UInt8->Bool):Prop:=
 ∃g cap,v=.func (.func g) #[] cap/\Enters g/\∀b:UInt8,Calls Tryz.prog g (#[.int .u8 b.toNat]++cap) w λe w'=>e=.returned (.bool (f b))/\w'=w
theorem vq:Enters 216:=λ_ _=>by rfl
theorem xM:Enters 217:=λ_ _=>by rfl
theorem xN:Enters 218:=λ_ _=>by rfl
theorem Ae:Enters 209:=λ_ _=>by rfl
theorem Rq(f g:UInt8->Bool)(b:UInt8)(p q:Addr)(w:World)(v u:Value)(hp:w.cell? p=some v)(hq:w.cell? q=some u)(hv:Ii w v f)(hu:Ii w u g):
  Calls Tryz.prog 217 #[.int .u8 b.toNat,.pointer (some p),.pointer (some q)] w λe w'=>
   e=.returned (.bool (f b||g b))/\w'=w:=by
 obtain ⟨h1,c1,rfl,e1,t1⟩:=hv;obtain ⟨h2,c2,rfl,e2,t2⟩:=hu;have T1:=aa (t1 b);have T2:=aa (t2 b);unfold Enters at e1 e2;clear t1 t2;go_enter Tryz.func217,Tryz.ntmps217;go_wp2_with fail;refine T1.out.mono ?_;rintro e w' ⟨rfl,rfl⟩;by_cases hf:f b=true
 ·go_wp2_with fail;go_ret;exact ⟨by simp[hf],rfl⟩
 ·have hf':f b=false:=by simpa using hf
  go_wp2_with fail;refine T2.out.mono ?_;rintro e w' ⟨rfl,rfl⟩;go_wp2_with fail;go_ret;exact ⟨by simp[hf'],rfl⟩
theorem Rs(f:UInt8->Bool)(b:UInt8)(p:Addr)(w:World)(v:Value)(hp:w.cell? p=some v)(hv:Ii w v f):
  Calls Tryz.prog 218 #[.int .u8 b.toNat,.pointer (some p)] w λe w'=>
   e=.returned (.bool (!f b))/\w'=w:=by
 obtain ⟨h1,c1,rfl,e1,t1⟩:=hv;have T1:=aa (t1 b);unfold Enters at e1;clear t1;go_enter Tryz.func218,Tryz.ntmps218;go_wp2_with fail;refine T1.out.mono ?_;rintro e w' ⟨rfl,rfl⟩;go_wp2_with fail;go_ret;exact ⟨by simp,rfl⟩
theorem Vj(b:UInt8)(w:World):
  Calls Tryz.prog 209 #[.int .u8 b.toNat] w λe w'=>e=.returned (.bool true)/\w'=w:=by
 go_enter Tryz.func209,Tryz.ntmps209;go_wp2;go_ret;exact ⟨rfl,rfl⟩
open bu
variable {p:Addr} {text:ByteArray} {ns:List (Nd Value)} {B P at_ k:Nat} {fz:Nat×Nat} {o:Obj} {t:TypeId} {sv v:Value} {a b c w w':World}
def aH(w:World):Value->eO->Prop
 | v,.any=>v=.func (.func 209) #[] #[]
 | v,.range lo hi=>∃p q,v=.func (.func 216) #[] #[.pointer (some ⟨p,0,none⟩),.pointer (some ⟨q,0,none⟩)] /\
   w.heap[p]?=some (.cells #[.int .u8 lo.toNat] 5 (0,0))/\w.heap[q]?=some (.cells #[.int .u8 hi.toNat] 5 (0,0))
 | v,.union a b=>∃p q va vb,v=.func (.func 217) #[] #[.pointer (some ⟨p,0,none⟩),.pointer (some ⟨q,0,none⟩)] /\
   w.heap[p]?=some (.cells #[va] 290 (0,0))/\w.heap[q]?=some (.cells #[vb] 290 (0,0))/\aH w va a/\aH w vb b
 | v,.iQ a=>∃p va,v=.func (.func 218) #[] #[.pointer (some ⟨p,0,none⟩)] /\
   w.heap[p]?=some (.cells #[va] 290 (0,0))/\aH w va a
def bN(w w':World):Prop:=∀(k:Nat) c t,(t=5∨t=290)->w.heap[k]?=some (.cells c t (0,0))->w'.heap[k]?=some (.cells c t (0,0))
theorem bN.refl(w:World):bN w w:=λ_ _ _ _ h=>h
theorem bN.trans(h:bN a b)(k:bN b c):bN a c:=λi x t ht hh=>k i x t ht (h i x t ht hh)
theorem aH.stay(h:bN w w'){c:eO}(hc:aH w v c):aH w' v c:=by
 induction c generalizing v with
 | any=>exact hc
 | range lo hi=>obtain ⟨p,q,e,h1,h2⟩:=hc;exact ⟨p,q,e,h _ _ _ (.inl rfl) h1,h _ _ _ (.inl rfl) h2⟩
 | union a b lN ml=>obtain ⟨p,q,va,vb,e,h1,h2,h3,h4⟩:=hc;exact ⟨p,q,va,vb,e,h _ _ _ (.inr rfl) h1,h _ _ _ (.inr rfl) h2,lN h3,ml h4⟩
 | iQ a ih=>obtain ⟨p,va,e,h1,h2⟩:=hc;exact ⟨p,va,e,h _ _ _ (.inr rfl) h1,ih h2⟩
theorem aA{b:Nat}(h:w.heap[b]?=some (.cells #[v] t fz)):w.cell? ⟨b,0,none⟩=some v:=by simp[World.cell?,h]
theorem aH.tells{c:eO}(hc:aH w v c):Ii w v c.has:=by
 induction c generalizing v with
 | any=>exact ⟨_,_,hc,Ae,λb=>Vj b w⟩
 | range lo hi=>
  obtain ⟨p,q,e,h1,h2⟩:=hc;exact ⟨_,_,e,vq,λb=>Nl lo hi b _ _ w (aA h1) (aA h2)⟩
 | union a b lN ml=>
  obtain ⟨p,q,va,vb,e,h1,h2,h3,h4⟩:=hc;exact ⟨_,_,e,xM,λx=>Rq _ _ x _ _ w _ _ (aA h1) (aA h2) (lN h3) (ml h4)⟩
 | iQ a ih=>
  obtain ⟨p,va,e,h1,h2⟩:=hc;exact ⟨_,_,e,xN,λx=>Rs _ x _ w _ (aA h1) (ih h2)⟩
def fI(nd:Nd Value):List Value:=[.int .i64 nd.kind,nd.has,.int .i64 nd.left,.int .i64 nd.right,.bool nd.empty]
def bR(ns:List (Nd Value)):List Value:=ns.flatMap fI
theorem mB(ns:List (Nd Value)):(bR ns).length=ns.length*5:=by
 induction ns with
 | nil=>rfl
 | cons a l ih=>simp only[bR,List.flatMap_cons,dG,fe]at ih ⊢;rw[ih];simp[fI];omega
theorem mC(ns ms:List (Nd Value)):bR (ns++ms)=bR ns++bR ms:=by simp[bR]
theorem sW{i:Nat}{nd:Nd Value}(h:ns[i]?=some nd)(j:Nat)(hj:j<5):(bR ns)[i*5+j]?=(fI nd)[j]?:=by
 induction ns generalizing i with
 | nil=>simp at h
 | cons a l ih=>
  cases i with
  | zero=>
   simp only[List.getElem?_cons_zero,fA]at h;subst h;simp only[bR,List.flatMap_cons];rw[nz (by simp[fI];omega)];simp
  | succ i=>
   simp only[List.getElem?_cons_succ]at h;have:=ih h;simp only[bR,List.flatMap_cons];rw[pS (by simp[fI];omega)];rw[<-this];simp only[bR];congr 1;simp[fI];omega
def Form(v:Value):Prop:=v=.nilFunc∨∃g cap,v=.func (.func g) #[] cap
theorem Form.one(h:Form v):v.oneCell'=true:=by rcases h with rfl|⟨g,cap,rfl⟩<;>rfl
def bm(w:World)(B:Nat)(sv:Value)(ns:List (Nd Value)):Prop:=w.ownsRow B 292 5 sv ns.length (bR ns)/\∀nd∈ns,Form nd.has
structure gm(w:World)(B P:Nat)(text:ByteArray)(at_:Nat)(ns:List (Nd Value)):Prop where
 ex:∃sv,w.heap[P]?=some (.cells #[.string text,.int .i64 at_,sv] 257 (0,0))/\bm w B sv ns
 le:at_<=text.size
 small:text.size<=60
 base:B<=P
def Mine(B:Nat)(w:World)(k:Nat):Prop:=B<=k/\∃c t fz,w.heap[k]?=some (.cells c t fz)/\(t=257∨t=292)
structure eu(B:Nat)(w w':World):Prop where
 os:w'.os=w.os
 tape:w'.tape=w.tape
 output:w'.output=w.output
 size:w.heap.size<=w'.heap.size
 keep:∀k,k<w.heap.size->¬Mine B w k->w'.heap[k]?=w.heap[k]?
theorem eu.refl(B:Nat)(w:World):eu B w w:=⟨rfl,rfl,rfl,bc _,λ_ _ _=>rfl⟩
theorem eu.trans(h:eu B a b)(k:eu B b c):eu B a c:=
 ⟨k.os.trans h.os,k.tape.trans h.tape,k.output.trans h.output,bJ h.size k.size,λi hi hn=>by have e:=h.keep i hi hn;rw[<-e];refine k.keep i (dw hi h.size) ?_;rintro ⟨h1,x,t,fz,h2,h3⟩;rw[e]at h2;exact hn ⟨h1,x,t,fz,h2,h3⟩⟩
theorem eu.drew(h:eu B a w):eu B a w.drew:=⟨h.os,h.tape,h.output,h.size,h.keep⟩
theorem eu.drewN(h:eu B a w)(n:Nat):eu B a (w.drewN n):=⟨h.os,h.tape,h.output,h.size,h.keep⟩
theorem eu.alloc(h:eu B a w)(o:Obj):eu B a (w.alloc o):=
 h.trans ⟨rfl,rfl,rfl,by simp,λk hk _=>Below.heap_alloc _ _ _ hk⟩
theorem eu.setCell(h:eu B a w)(hp:Mine B w p.block)(u:Value):eu B a (w.setCell p u):=
 h.trans ⟨rfl,rfl,rfl,by simp[World.setCell],λk hk hn=>Below.heap_setCell _ _ _ _ (λe=>hn (e▸hp))⟩
theorem eu.mD(h:eu B a w)(hp:a.heap.size<=p.block)(u:Value):eu B a (w.setCell p u):=
 ⟨h.os,h.tape,h.output,by simpa [World.setCell] using h.size,λk hk hn=>by rw[Below.heap_setCell _ _ _ _ (by omega)];exact h.keep k hk hn⟩
theorem eu.below(h:eu B w w')(hB:B<=w.heap.size):Below B w w':=
 ⟨h.os,h.tape,h.output,h.size,λk hk=>h.keep k (by omega) (λ⟨h1,_⟩=>by omega)⟩
theorem ae(h:w.heap[k]?=some o):k<w.heap.size:=by
 rcases ed k w.heap.size with h' | h'
 ·exact h'
 ·rw[Array.getElem?_eq_none h']at h;cases h
theorem eu.other(h:eu B w w'){c:Array Value}(hk:w.heap[k]?=some (.cells c t fz))
  (h1:t≠257) (h2:t≠292):w'.heap[k]?=some (.cells c t fz):=by
 rw[h.keep k (ae hk) ?_];exact hk;rintro ⟨_,x,t',XH,e,h3⟩;rw[hk]at e;simp only[fA,Obj.cells.injEq]at e;obtain ⟨_,rfl,_⟩:=e;exact h3.elim h1 h2
theorem eu.stay(h:eu B w w'):bN w w':=λk c t ht hh=>
 h.other hh (by rcases ht with rfl|rfl<;>decide) (by rcases ht with rfl|rfl<;>decide)
def rest(text:ByteArray)(at_:Nat):List UInt8:=text.data.toList.drop at_
theorem aY(text:ByteArray)(at_:Nat):(rest text at_).length=text.size - at_:=by unfold rest;rw[List.length_drop];rfl
theorem bE(h:at_<text.size):rest text at_=text[at_]::rest text (at_+1):=by unfold rest;rw[List.drop_eq_getElem_cons (by simpa using h)];rfl
theorem dF(h:text.size<=at_):rest text at_=[]:=by unfold rest;exact List.drop_of_length_le (by simpa using h)
theorem ah(w:World)(b off:Nat)(u:Value){c:Array Value}(h:w.heap[b]?=some (.cells c t (0,0))):
  (w.setCell ⟨b,off,none⟩ u).heap[b]?=some (.cells (c.setIfInBounds off u) t (0,0)):=by
 simp[World.setCell,Array.getElem?_modify,h]
theorem bm.keep(h:bm w B sv ns)(hk:∀k,sv.ownBlock=some k->w'.heap[k]?=w.heap[k]?):bm w' B sv ns:=by
 obtain ⟨⟨h1,h2⟩,hf⟩:=h;refine ⟨⟨h1,?_⟩,hf⟩;rcases h2 with h2|⟨g,cap,cur,hv,hg,hh,r⟩
 ·exact .inl h2
 ·exact .inr ⟨g,cap,cur,hv,hg,by rw[hk g (by rw[hv];rfl)];exact hh,r⟩
theorem bm.block(h:bm w B sv ns)(hk:sv.ownBlock=some k):B<=k/\∃cur,w.heap[k]?=some (.cells cur 292 (0,0)):=by
 obtain ⟨⟨h1,h2⟩,_⟩:=h;rcases h2 with ⟨rfl,_⟩|⟨g,cap,cur,rfl,hg,hh,r⟩
 ·cases hk
 ·cases hk;exact ⟨hg,cur,hh⟩
theorem gm.drewN(h:gm w B P text at_ ns)(n:Nat):gm (w.drewN n) B P text at_ ns:=⟨h.ex,h.le,h.small,h.base⟩
theorem gm.mine(h:gm w B P text at_ ns):Mine B w P:=by obtain ⟨sv,h1,_⟩:=h.ex;exact ⟨h.base,_,_,_,h1,.inl rfl⟩
theorem gm.move(h:gm w B P text at_ ns)(j:Nat)(hj:j<=text.size):gm (w.setCell ⟨P,1,none⟩ (.int .i64 j)) B P text j ns:=by
 obtain ⟨sv,h1,h2⟩:=h.ex;refine ⟨⟨sv,?_,?_⟩,hj,h.small,h.base⟩
 ·exact ah w P 1 _ h1
 ·refine h2.keep λk hk=>Below.heap_setCell _ _ _ _ ?_
  obtain ⟨_,cur,hc⟩:=h2.block hk;rintro rfl;rw[h1]at hc;simp at hc
theorem gm.keep(h:gm w B P text at_ ns)(hk:∀k,k<w.heap.size->w'.heap[k]?=w.heap[k]?):gm w' B P text at_ ns:=by obtain ⟨sv,h1,h2⟩:=h.ex;refine ⟨⟨sv,(hk _ (ae h1)).trans h1,h2.keep λk hk'=>?_⟩,h.le,h.small,h.base⟩;obtain ⟨_,cur,hc⟩:=h2.block hk';exact hk _ (ae hc)
theorem gm.cells(h:gm w B P text at_ ns):
  w.cell? ⟨P,0,none⟩=some (.string text)/\w.cell? ⟨P,1,none⟩=some (.int .i64 at_)/\w.frozen? ⟨P,1,none⟩=false:=by
 obtain ⟨⟨sv,h1,_⟩,_⟩:=h;exact ⟨by simp[World.cell?,h1],by simp[World.cell?,h1],by simp[World.frozen?,h1]⟩
theorem my(hle:at_<=text.size)(h:rest text at_=[]):at_=text.size:=by
 rcases ed at_ text.size with h' | h'
 ·rw[bE h']at h;cases h
 ·omega
theorem dR{c:UInt8}{s:List UInt8}(h:rest text at_=c::s):∃hlt:at_<text.size,text[at_]=c/\rest text (at_+1)=s:=by
 rcases ed at_ text.size with h' | h'
 ·rw[bE h']at h;simp only[List.cons.injEq]at h;exact ⟨h',h⟩
 ·rw[dF h']at h;cases h
theorem eu.ay(h:Below w.heap.size w w'):eu B w w':=⟨h.os,h.tape,h.output,h.size,λk hk _=>h.block k hk⟩
theorem bN.ay(h:Below w.heap.size w w'):bN w w':=λk _ _ _ hh=>(h.block k (ae hh)).trans hh
theorem gm.below(h:gm w B P text at_ ns)(hb:Below w.heap.size w w'):gm w' B P text at_ ns:=h.keep hb.block
theorem af{p:Obj}(h:w.heap[k]?=some p):(w.alloc o).heap[k]?=some p:=by rw[Below.heap_alloc _ _ _ (ae h)];exact h
theorem ag(w:World)(o:Obj):(w.alloc o).heap[w.heap.size]?=some o:=by show (w.heap.push o)[w.heap.size]?=_;simp
theorem cq (w:World)(o:Obj):Below w.heap.size w (w.alloc o):=(Below.refl _ _).alloc (Nat.le_refl _) _
theorem eV (w:World)(a:Addr)(u:Value)(k:Nat)(h:k≠a.block):(w.setCell a u).heap[k]?=w.heap[k]?:=Below.heap_setCell w a u k h
end Go.Proofs.YtgncgdkpkkdaeaaGreatDoor
