import Derived.Test.YtgncgdkpkkdaeaaGreatDoorATB
import Derived.Test.YtgncgdkpkkdaeaaGreatDoorAK
import Derived.Test.YtgncgdkpkkdaeaaGreatDoorAI
set_option maxRecDepth 20000
set_option maxHeartbeats 1000000
namespace Go.Proofs.YtgncgdkpkkdaeaaGreatDoor.Ref
open Go.RowKit bu
variable {c:eO} {first:Int} {gs G3 hs ls:List (Value×Sp)} {rs:List Re} {E:List Sp} {vs:List Value} {B P a cap g i kind m n p to:Nat} {q r:Re} {sv v v0:Value} {l:Value×Sp} {w w' w0 w1 w2 w3:World}
def ea:Option Nat->Value
 | none=>.int .i64 (-1)
 | some k=>.int .i64 k
def fK(l:Value×Sp):List Value:=[l.1,ea l.2.to,ea l.2.or]
def gI(ls:List (Value×Sp)):List Value:=ls.flatMap fK
def qY(w:World)(B:Nat)(v:Value):Option eO->Prop
 | none=>v=.slice none 0 0
 | some c=>∃A on,v=.slice (some ⟨A,0,none⟩) 256 256/\A<B/\SR w A on/\PC on c
structure cg(w:World)(B P:Nat)(ls:List (Value×Sp))(first:Int):Prop where
 ex:∃sv,w.heap[P]?=some (.cells #[sv,.int .i64 first] 206 (0,0))/\w.ownsRow B 203 3 sv ls.length (gI ls)
 eh:∀l∈ls,qY w B l.1 l.2.on
 hP:B<=P
theorem qY.below{o:Option eO}(h:qY w B v o)(hb:Below B w w'):qY w' B v o:=by
 cases o with
 | none=>exact h
 | some c=>
  obtain ⟨A,on,h1,h2,h3,h4⟩:=h;exact ⟨A,on,h1,h2,⟨(hb.block A h2).trans h3.1,h3.2⟩,h4⟩
theorem qZ:∀ls:List (Value×Sp),(gI ls).length=ls.length*3
 | []=>rfl
 | l::ls=>by have:=qZ ls;simp only[gI,List.flatMap_cons,dG,fK,fe,List.length_nil]at *;omega
theorem Le(h:ls[i]?=some l)(j:Nat)(hj:j<3):(gI ls)[i*3+j]?=(fK l)[j]?:=by
 induction ls generalizing i with
 | nil=>simp at h
 | cons a ls ih=>
  cases i with
  | zero=>
   simp only[List.getElem?_cons_zero,fA]at h;subst h;simp only[gI,List.flatMap_cons];rw[nz (by simp[fK];omega)];simp
  | succ i=>
   simp only[List.getElem?_cons_succ]at h;have:=ih h;simp only[gI,List.flatMap_cons];rw[pS (by simp[fK];omega)];rw[<-this];simp only[gI];congr 1;simp[fK];omega
theorem cg.lt(h:cg w B P ls first):P<w.heap.size:=ae h.ex.choose_spec.1
theorem Lf:(Tryz.prog.info? 203).map (λi=>(i.zero,i.size,i.bytes))=some (some (.agg #[.slice none 0 0,.int .i64 0,.int .i64 0]),3,40):=by kernel_rfl
theorem cg.row(h:w.heap[P]?=some (.cells #[sv,.int .i64 first] 206 (0,0)))(hr:w.ownsRow B 203 3 sv ls.length (gI ls)):sv.ownBlock≠some P:=by
 intro e;rcases hr.2 with ⟨rfl,_⟩|⟨g,cap,cur,rfl,_,hh,_⟩
 ·cases e
 ·cases e;rw[h]at hh;simp at hh
theorem cg.push{W:World}{v':Value}(hb:Below B w W)(hWP:W.heap[P]?=some (.cells #[sv,.int .i64 first] 206 (0,0)))(hWr:W.ownsRow B 203 3 sv ls.length (gI ls))(eh:∀l∈ls,qY w B l.1 l.2.on)(hP:B<=P)(hl:qY w B l.1 l.2.on)
  (hown:w3.ownsRow B 203 3 v' (ls.length+1) (gI ls++fK l)) (hg:W.grownBy w3 sv.ownBlock):
  cg (w3.setCell ⟨P,0,none⟩ v') B P (ls++[l]) first/\Below B w (w3.setCell ⟨P,0,none⟩ v')/\w3.heap[P]?=some (.cells #[sv,.int .i64 first] 206 (0,0)):=by
 have hPl:=ae hWP;have hne:=cg.row hWP hWr;have h3:w3.heap[P]?=some (.cells #[sv,.int .i64 first] 206 (0,0)):=(hg.block P hPl (λe=>hne e.symm)).trans hWP;have dO:∀k,k≠P->(w3.setCell ⟨P,0,none⟩ v').heap[k]?=w3.heap[k]?:=λk e=>eV _ _ _ _ e
 have hrow:∀k,sv.ownBlock=some k->B<=k:=λk e=>(cT hWr e).1
 have hB:Below B w (w3.setCell ⟨P,0,none⟩ v'):=by
  refine ⟨hg.os.trans hb.os,hg.tape.trans hb.tape,hg.output.trans hb.output,?_,λk hk=>?_⟩
  ·have:(w3.setCell ⟨P,0,none⟩ v').heap.size=w3.heap.size:=by simp[World.setCell]
   rw[this];exact bJ hb.size hg.size
  ·rw[dO k (by omega)];by_cases mG:k<W.heap.size
   ·rw[hg.block k mG (λe=>by have:=hrow k e.symm;omega)];exact hb.block k hk
   ·omega
 refine ⟨⟨⟨v',ah w3 P 0 _ h3,?_⟩,?_,hP⟩,hB,h3⟩
 ·have e1:(ls++[l]).length=ls.length+1:=by simp
  have e2:gI (ls++[l])=gI ls++fK l:=by simp[gI]
  rw[e1,e2];refine dU hown (λk e=>dO k ?_);rintro rfl;rcases hown.2 with ⟨rfl,_⟩|⟨g,cap,cur,rfl,_,hh,_⟩
  ·cases e
  ·cases e;rw[h3]at hh;simp at hh
 ·intro x hx;rcases List.mem_append.1 hx with h|h
  ·exact (eh x h).below hB
  ·rw[List.mem_singleton.1 h];exact hl.below hB
def S6(B P:Nat)(ls:List (Value×Sp))(first:Int)(l:Value×Sp)(w:World)(e:Ending)(w':World):Prop:=e=.returned (.int .i64 ls.length)/\cg w' B P (ls++[l]) first/\Below B w w'
theorem eP(B P:Nat)(ls:List (Value×Sp))(first:Int)(ao:Option Addr)(ln cp:Nat)(zx zy:Int)(s:Sp)(w:World)(h:cg w B P ls first)(hB:B<=w.heap.size)(hl:qY w B (.slice ao ln cp) s.on)(hx:ea s.to=.int .i64 zx)(hy:ea s.or=.int .i64 zy)(hn:ls.length<=1000):
  Calls Tryz.prog 145 #[.pointer (some ⟨P,0,none⟩),.agg #[.slice ao ln cp,.int .i64 zx,.int .i64 zy]] w (S6 B P ls first (.slice ao ln cp,s) w):=by
 obtain ⟨sv,h1,h2⟩:=h.ex;have hHb:Below B w (w.alloc (.cells #[.slice ao ln cp,.int .i64 zx,.int .i64 zy] 203)):=(Below.refl B w).alloc hB _;have HB:=aa hHb;have HBs:=aa (show B<=(w.alloc (.cells #[.slice ao ln cp,.int .i64 zx,.int .i64 zy] 203)).heap.size by simp;omega);have HL:=aa hl;have SY:=aa h.eh;have HP:=aa h.hP
 have H1:=aa (af (o:=.cells #[.slice ao ln cp,.int .i64 zx,.int .i64 zy] 203) h1);have H2:=aa (eI h2 (.cells #[.slice ao ln cp,.int .i64 zx,.int .i64 zy] 203));have HE:=aa (ag w (.cells #[.slice ao ln cp,.int .i64 zx,.int .i64 zy] 203))
 have BC:=aa (show fK (.slice ao ln cp,s)=[.slice ao ln cp,.int .i64 zx,.int .i64 zy] by simp[fK,hx,hy])
 have HO:Hid (∀u∈[Value.slice ao ln cp,.int .i64 zx,.int .i64 zy],u.oneCell'=true):=by
  intro u hu;simp only[List.mem_cons,List.not_mem_nil,or_false]at hu;rcases hu with rfl|rfl|rfl
  ·rfl
  ·rfl
  ·rfl
 obtain ⟨i0,hi,hz0,hz1,hz3⟩:=info_parts Lf;clear h hl h1 h2 hx hy hHb;go_enter Tryz.func145,Tryz.ntmps145;go_wp2_with fail;obtain ⟨q,hq⟩:∃q,q=w.heap.size:=⟨_,rfl⟩;rw[<-hq]at HE ⊢;clear hq;generalize w.alloc (.cells #[.slice ao ln cp,.int .i64 zx,.int .i64 zy] 203)=W2 at *;have h1:=H1.out;have he:=HE.out
 have c0:W2.cell? ⟨P,0,none⟩=some sv:=by simp[World.cell?,h1]
 have VM:=aw c0 (.cells #[.slice ao ln cp,.int .i64 zx,.int .i64 zy] 203);have f0:W2.frozen? ⟨P,0,none⟩=false:=by simp[World.frozen?,h1]
 have e0:W2.cell? ⟨q,0,none⟩=some (.slice ao ln cp):=by simp[World.cell?,he]
 have e1:W2.cell? ⟨q,1,none⟩=some (.int .i64 zx):=by simp[World.cell?,he]
 have e2:W2.cell? ⟨q,2,none⟩=some (.int .i64 zy):=by simp[World.cell?,he]
 clear h1 he
 go_region_law (refine cY rfl (.tmp 9) (.tmp 11) 204 rfl B 203 i0 (.agg #[.slice none 0 0,.int .i64 0,.int .i64 0]) 3 40 Tryz.underlying204 hi hz0 hz1 hz3 rfl (by decide) sv ls.length (gI ls) (by rfl) (by exact eI H2.out _) ⟨W2.heap.size,0,none⟩ 1 1 [.slice ao ln cp,.int .i64 zx,.int .i64 zy] (by rfl) (by rfl) (by exact aG W2 #[.slice ao ln cp,.int .i64 zx,.int .i64 zy] _) HO.out (by unfold maxLen;omega) (by omega) (by have:=HBs.out;simp;omega) ?_;intro v' w3 hown hg _;obtain ⟨g,cap,rfl⟩:=aB hown (by omega);rw[<-BC.out]at hown;obtain ⟨hpl,hbl,CC⟩:=cg.push (W:=(W2.alloc (.cells #[.slice ao ln cp,.int .i64 zx,.int .i64 zy] 203)).drew) (l:=(.slice ao ln cp,s)) (HB.out.trans ((Below.refl B W2).alloc HBs.out _)).drew (af H1.out) (eI H2.out _) SY.out HP.out HL.out hown hg;have g2:w3.cell? ⟨P,0,none⟩=some sv:=(by simp[World.cell?,CC]);have gf:w3.frozen? ⟨P,0,none⟩=false:=(by simp[World.frozen?,CC]);have OJ:=aa hpl;have jT:=aa hbl;clear hown hg hpl hbl CC)
 all_goals
  go_wp2_with fail;go_ret;exact ⟨by simp,OJ.out,jT.out⟩
def pK(n:Nat)(s:Sp):Prop:=(∀k,s.to=some k->k<n)/\(∀k,s.or=some k->k<n)/\(s.on=none∨∃k,s.to=some k)
theorem pK.mono{s:Sp}(h:pK n s)(hm:n<=m):pK m s:=⟨λk e=>dw (h.1 k e) hm,λk e=>dw (h.2.1 k e) hm,h.2.2⟩
def tJ(n:Nat)(gs:List (Value×Sp))(E:List Sp):Prop:=∀i l,gs[i]?=some l->E[n+i]?=some l.2
theorem tJ.left(h:tJ n (gs++hs) E):tJ n gs E:=λi l e=>h i l (by rw[nz (az e)];exact e)
theorem tJ.right(h:tJ n (gs++hs) E):tJ (n+gs.length) hs E:=λi l e=>by
 have:=h (gs.length+i) l (by rw[pS (by omega)];simpa using e)
 rwa [<-Nat.add_assoc]at this
structure fq(B P:Nat)(ls:List (Value×Sp))(first:Int)(r:Re)(to:Nat)(w:World)(gs:List (Value×Sp))(a:Nat)(w':World):Prop where
 lm:cg w' B P (ls++gs) first
 below:Below B w w'
 len:gs.length=r.cw
 lt:a<ls.length+gs.length
 oU:∀g∈gs,pK (ls.length+gs.length) g.2
 laid:∀E:List Sp,tJ ls.length gs E->Laid E r to a
def S7(B P:Nat)(ls:List (Value×Sp))(first:Int)(r:Re)(to:Nat)(w:World)(e:Ending)(w':World):Prop:=∃gs a,e=.returned (.int .i64 (a:Nat))/\fq B P ls first r to w gs a w'
def tK(w0:World)(B:Nat)(v:Value)(r:Re):Prop:=∀(P:Nat) (ls:List (Value×Sp)) (first:Int) (to:Nat) (w:World),Below B w0 w->B<=w.heap.size->cg w B P ls first->to<ls.length->ls.length+r.cw<=1000 ->
 Calls Tryz.prog 104 #[.pointer (some ⟨P,0,none⟩),v,.int .i64 to] w (S7 B P ls first r to w)
theorem S8(BQ:to<ls.length)(h:cg w' B P (ls++[(v,⟨some c,some to,none⟩)]) first)(hb:Below B w w'):fq B P ls first (.dr c) to w [(v,⟨some c,some to,none⟩)] ls.length w':=
 ⟨h,hb,rfl,by simp,λg hg=>by rw[List.mem_singleton.1 hg];exact ⟨(λk e=>by cases e;simp;omega),(λk e=>by cases e),.inr ⟨to,rfl⟩⟩,λE hE=>.dr (by simpa using hE 0 _ rfl)⟩
theorem S9{A:Nat}{on:List Bool}(h1:p<B)(h2:A<B)(h3:gX w0 p 99 (.slice (some ⟨A,0,none⟩) 256 256) (.slice none 0 0))(h4:SR w0 A on)(h5:PC on c):tK w0 B (.pointer (some ⟨p,0,none⟩)) (.dr c):=by
 intro P ls first to w hb hB hp BQ hn
 have tI:w.heap[p]?=some (.cells #[.int .u8 99,.slice (some ⟨A,0,none⟩) 256 256,.slice none 0 0] 267 (0,0)):=(hb.block p h1).trans h3;have c0:w.cell? ⟨p,0,none⟩=some (.int .u8 99):=by simp[World.cell?,tI]
 have c1:w.cell? ⟨p,1,none⟩=some (.slice (some ⟨A,0,none⟩) 256 256):=by simp[World.cell?,tI]
 have HAD:=aa (λzx hx=>eP B P ls first (some ⟨A,0,none⟩) 256 256 zx (-1) ⟨some c,some to,none⟩ w hp hB ⟨A,on,rfl,h2,⟨(hb.block A h2).trans h4.1,h4.2⟩,h5⟩ hx rfl (by simp only[Re.cw]at hn;omega));clear tI hp hb h3 h4 h5 hn;go_enter Tryz.func104,Tryz.ntmps104;go_wp2_with fail;refine (HAD.out to rfl).mono ?_
 rintro e w1 ⟨rfl,hpl,hbl⟩;have aq:=aa (S8 BQ hpl hbl);clear hpl hbl;go_wp2_with fail;go_ret;exact ⟨_,_,rfl,aq.out⟩
theorem ku(h:w0.ownsRow 0 199 1 (.slice (some ⟨g,0,none⟩) vs.length cap) vs.length vs)(hg:g<B)(hb:Below B w0 w)(hv:vs[i]?=some v):w.cell? ⟨g,i,none⟩=some v:=by
 rcases h.2 with ⟨h1,_⟩|⟨g',cap',cur,h1,_,h2,_,_,h3,h4⟩
 ·cases h1
 ·cases h1;have h5:w.heap[g]?=some (.cells cur 199 (0,0)):=(hb.block g hg).trans h2
  have h6:cur[i]?=some v:=by
   rw[<-h4]at hv;rw[List.getElem?_take]at hv;split at hv
   ·simpa using hv
   ·cases hv
  simp[World.cell?,h5,h6]
structure Kids(w0:World)(B p kind g cap:Nat)(vs:List Value)(rs:List Re):Prop where
 hp:p<B
 node:gX w0 p kind (.slice none 0 0) (.slice (some ⟨g,0,none⟩) vs.length cap)
 row:w0.ownsRow 0 199 1 (.slice (some ⟨g,0,none⟩) vs.length cap) vs.length vs
 hg:g<B
 len:vs.length=rs.length
 lay:∀(i:Nat) (v:Value) (q:Re),vs[i]?=some v->rs[i]?=some q->tK w0 B v q
theorem Kids.cells(h:Kids w0 B p kind g cap vs rs)(hb:Below B w0 w):w.cell? ⟨p,0,none⟩=some (.int .u8 kind)/\w.cell? ⟨p,2,none⟩=some (.slice (some ⟨g,0,none⟩) vs.length cap):=by
 have hn:w.heap[p]?=some (.cells #[.int .u8 kind,.slice none 0 0,.slice (some ⟨g,0,none⟩) vs.length cap] 267 (0,0)):=(hb.block p h.hp).trans h.node;exact ⟨by simp[World.cell?,hn],by simp[World.cell?,hn]⟩
theorem G4(BQ:to<ls.length)(h:fq B P ls first q to w gs a w1)(hp:cg w2 B P (ls++gs++[(v,⟨none,some a,some to⟩)]) first)(hb:Below B w1 w2):fq B P ls first (.fB q) to w (gs++[(v,⟨none,some a,some to⟩)]) (ls.length+gs.length) w2:=by
 have hl:(gs++[(v,(⟨none,some a,some to⟩:Sp))]).length=gs.length+1:=by simp
 refine ⟨by rw[<-fP];exact hp,h.below.trans hb,by rw[hl,h.len];rfl,by rw[hl];omega,λg hg=>?_,λE hE=>?_⟩
 ·rcases List.mem_append.1 hg with hg|hg
  ·exact (h.oU g hg).mono (by rw[hl];omega)
  ·rw[List.mem_singleton.1 hg];have:=h.lt;exact ⟨(λk e=>by cases e;rw[hl];omega),(λk e=>by cases e;rw[hl];omega),.inl rfl⟩
 ·exact .fB (h.laid E hE.left) (by simpa using hE.right 0 _ rfl)
theorem Ta(hk:Kids w0 B p 63 g cap [v0] [q]):tK w0 B (.pointer (some ⟨p,0,none⟩)) (.fB q):=by
 intro P ls first to w hb hB hp BQ hn
 obtain ⟨c0,c2⟩:=hk.cells hb;have d0:=ku hk.row hk.hg hb (show [v0][0]?=some v0 from rfl);have vy:=aa (hk.lay 0 v0 q rfl rfl P ls first to w hb hB hp BQ (by simp only[Re.cw]at hn;omega));have cA:ls.length+q.cw+1<=1000:=by simp only[Re.cw]at hn;omega
 clear hb hp hn hk;simp only[fe,List.length_nil]at c2;go_enter Tryz.func104,Tryz.ntmps104;go_wp2_with fail;refine vy.out.mono ?_;rintro e w1 ⟨gs,a,rfl,hl⟩;have HL:=aa hl;have F6:gs.length=q.cw:=hl.len
 have HAD:=aa (eP B P (ls++gs) first none 0 0 a to ⟨none,some a,some to⟩ w1 hl.lm (bJ hB hl.below.size) rfl rfl rfl (by rw[dG];omega));clear hl F6 vy c0 c2 d0;go_wp2_with fail;refine HAD.out.mono ?_;rintro e w2 ⟨rfl,hpl,hbl⟩;have aq:=aa (G4 BQ HL.out hpl hbl);clear hpl hbl HAD;rw[dG];go_wp2_with fail;go_ret
 exact ⟨_,_,rfl,aq.out⟩
theorem zw{v:Value}{s:Sp}{a:Nat}:∀{ls:List (Value×Sp)} {i:Nat},ls[i]?=some (v,s)->(gI ls).set (i*3+1) (.int .i64 a)=gI (ls.set i (v,⟨s.on,some a,s.or⟩))
 | [],i,h=>by simp at h
 | x::ls,0,h=>by
  simp only[List.getElem?_cons_zero,fA]at h;subst h;rfl
 | x::ls,i+1,h=>by
  simp only[List.getElem?_cons_succ]at h;have ih:=zw (a:=a) h;have e:(i+1)*3+1=i*3+1+1+1+1:=by omega
  rw[e];show x.1::ea x.2.to::ea x.2.or::(gI ls).set (i*3+1) (.int .i64 a)=x.1::ea x.2.to::ea x.2.or::gI (ls.set i (v,⟨s.on,some a,s.or⟩));rw[ih]
theorem cg.mem(h:cg w B P ls first)(hn:0<ls.length):
  ∃g cap,w.cell? ⟨P,0,none⟩=some (.slice (some ⟨g,0,none⟩) ls.length cap)/\w.cell? ⟨P,1,none⟩=some (.int .i64 first)/\w.frozen? ⟨P,1,none⟩=false /\
   (∀i l,ls[i]?=some l->w.cell? ⟨g,i*3,none⟩=some l.1/\w.cell? ⟨g,i*3+1,none⟩=some (ea l.2.to)/\w.cell? ⟨g,i*3+2,none⟩=some (ea l.2.or))/\(∀o,w.frozen? ⟨g,o,none⟩=false) /\
   ∀(i:Nat) (v:Value) (s:Sp) (a:Nat),ls[i]?=some (v,s)->cg (w.setCell ⟨g,i*3+1,none⟩ (.int .i64 a)) B P (ls.set i (v,⟨s.on,some a,s.or⟩)) first/\Below B w (w.setCell ⟨g,i*3+1,none⟩ (.int .i64 a)):=by
 obtain ⟨sv,h1,h2⟩:=h.ex;have hrow:=h2;rcases h2.2 with ⟨_,h0⟩|⟨g,cap,cur,rfl,hg,hh,hc1,hc2,hc3,hc4⟩
 ·omega
 ·have hgP:g≠P:=λe=>cg.row h1 hrow (by rw[e];rfl)
  have hcell:∀i l,ls[i]?=some l->∀j,j<3->w.cell? ⟨g,i*3+j,none⟩=(fK l)[j]?:=by
   intro i l hl j hj;have hi:i<ls.length:=az hl;have e1:cur[i*3+j]?=(fK l)[j]?:=by rw[<-Le hl j hj,<-hc4,List.getElem?_take,if_pos (by omega)];simp
   rw[<-e1];simp[World.cell?,hh]
  refine ⟨g,cap,by simp[World.cell?,h1],by simp[World.cell?,h1],by simp[World.frozen?,h1],λi l hl=>⟨?_,?_,?_⟩,λo=>by simp[World.frozen?,hh],λi v s a hl=>?_⟩
  ·exact hcell i l hl 0 (by omega)
  ·exact hcell i l hl 1 (by omega)
  ·exact hcell i l hl 2 (by omega)
  ·have hb:Below B w (w.setCell ⟨g,i*3+1,none⟩ (.int .i64 a)):=(Below.refl B w).setCell hg _;refine ⟨⟨⟨_,(eV _ _ _ _ (by show P≠g;exact hgP.symm)).trans h1,⟨by rw[qZ],.inr ⟨g,cap,cur.setIfInBounds (i*3+1) (.int .i64 a),by simp,hg,ah w g _ _ hh,by simpa using hc1,hc2,by simp[hc3],?_⟩⟩⟩,?_,h.hP⟩,hb⟩
   ·rw[Array.toList_setIfInBounds,List.length_set,List.take_set,hc4,zw hl]
   ·intro l hlm;rcases List.mem_or_eq_of_mem_set hlm with hm|rfl
    ·exact (h.eh l hm).below hb
    ·exact (h.eh (v,s) (bn hl)).below hb
theorem tL(BQ:to<ls.length)(hb0:Below B w w1)(h:fq B P (ls++[(v,⟨none,none,some to⟩)]) first q ls.length w1 gs a w2)(hp:cg w3 B P ((ls++[(v,(⟨none,none,some to⟩:Sp))]++gs).set ls.length (v,(⟨none,some a,some to⟩:Sp))) first)(hb:Below B w2 w3):
  fq B P ls first (.star q) to w ((v,⟨none,some a,some to⟩)::gs) ls.length w3/\fq B P ls first (.plus q) to w ((v,⟨none,some a,some to⟩)::gs) a w3:=by
 have e:(ls++[(v,(⟨none,none,some to⟩:Sp))]++gs).set ls.length (v,⟨none,some a,some to⟩)=ls++(v,⟨none,some a,some to⟩)::gs:=by rw[fP,List.set_append_right _ _ (bc _)];simp
 rw[e]at hp;have iF:(ls++[(v,(⟨none,none,some to⟩:Sp))]).length=ls.length+1:=by simp
 have hlt:=h.lt;rw[iF]at hlt
 have PM:∀g∈(v,(⟨none,some a,some to⟩:Sp))::gs,pK (ls.length+((v,(⟨none,some a,some to⟩:Sp))::gs).length) g.2:=by
  intro g hg;rcases List.mem_cons.1 hg with rfl|hg
  ·exact ⟨(λk e=>by cases e;simp only[fe];omega),(λk e=>by cases e;simp only[fe];omega),.inl rfl⟩
  ·have:=h.oU g hg;rw[iF]at this;exact this.mono (by simp only[fe];omega)
 have hb3:=(hb0.trans h.below).trans hb
 have hE:∀E:List Sp,tJ ls.length ((v,⟨none,some a,some to⟩)::gs) E->Laid E q ls.length a/\E[ls.length]?=some ⟨none,some a,some to⟩:=by
  intro E hE;refine ⟨h.laid E λi l hi=>?_,by simpa using hE 0 _ rfl⟩;rw[iF];have:=hE (i+1) l hi
  rwa [show ls.length+1+i=ls.length+(i+1) by omega]
 refine ⟨⟨hp,hb3,by simp only[fe,h.len,Re.cw],by simp only[fe];omega,PM,λE he=>.star (hE E he).1 (hE E he).2⟩,⟨hp,hb3,by simp only[fe,h.len,Re.cw],by simp only[fe];omega,PM,λE he=>.plus (hE E he).1 (hE E he).2⟩⟩
theorem D1(hk:Kids w0 B p kind g cap [v0] [q])(UD:kind=42∨kind=43):tK w0 B (.pointer (some ⟨p,0,none⟩)) (if kind=42 then .star q else .plus q):=by
 intro P ls first to w hb hB hp BQ hn
 have cA:ls.length+q.cw+1<=1000:=by rcases UD with rfl|rfl<;>simp[Re.cw]at hn<;>omega
 obtain ⟨c0,c2⟩:=hk.cells hb;have HAD:=aa (eP B P ls first none 0 0 (-1) to ⟨none,none,some to⟩ w hp hB rfl rfl rfl (by omega));have gZ:=aa hb;have HK:=aa hk;simp only[fe,List.length_nil]at c2;clear hb hp hn hk;rcases UD with rfl|rfl
 ·go_enter Tryz.func104,Tryz.ntmps104;go_wp2_with fail;refine HAD.out.mono ?_;rintro e w1 ⟨rfl,hpl,hbl⟩;have hb1:=gZ.out.trans hbl;have fu:=bJ hB hbl.size;have bM:=aa hbl;have vy:=aa (HK.out.lay 0 v0 q rfl rfl P _ first ls.length w1 hb1 fu hpl (by simp) (by simp only[dG,fe,List.length_nil];omega))
  obtain ⟨d0,d2⟩:=HK.out.cells hb1;have d3:=ku HK.out.row HK.out.hg hb1 (show [v0][0]?=some v0 from rfl);simp only[fe,List.length_nil]at d2;clear hpl hbl hb1 HAD c0 c2;go_wp2_with fail;refine vy.out.mono ?_;rintro e w2 ⟨gs,a,rfl,hl⟩;have HL:=aa hl;have hb2:=(gZ.out.trans bM.out).trans hl.below;obtain ⟨ZK,d2'⟩:=HK.out.cells hb2
  obtain ⟨g2,rI,m1,m2,m3,m4,m5,m6⟩:=hl.lm.mem (by simp;omega);have Qn:(ls++[(Value.slice none 0 0,(⟨none,none,some to⟩:Sp))]++gs).length=ls.length+1+gs.length:=by simp;omega
  rw[Qn]at m1;obtain ⟨m7,m8⟩:=m6 ls.length (.slice none 0 0) ⟨none,none,some to⟩ a (by simp);have F6:gs.length=q.cw:=hl.len;have m9:=(m4 ls.length (.slice none 0 0,⟨none,none,some to⟩) (by simp)).2.1;simp only[ea]at m9;have m10:=m5 (ls.length*3+1);have aq:=aa (tL BQ bM.out hl m7 m8);clear hl vy d0 d2 d3 hb2 m2 m3 m4 m5 m6 m7 m8 Qn;go_wp2_with fail;go_ret
  exact ⟨_,_,rfl,aq.out.1⟩
 ·go_enter Tryz.func104,Tryz.ntmps104;go_wp2_with fail;refine HAD.out.mono ?_;rintro e w1 ⟨rfl,hpl,hbl⟩;have hb1:=gZ.out.trans hbl;have fu:=bJ hB hbl.size;have bM:=aa hbl;have vy:=aa (HK.out.lay 0 v0 q rfl rfl P _ first ls.length w1 hb1 fu hpl (by simp) (by simp only[dG,fe,List.length_nil];omega))
  obtain ⟨d0,d2⟩:=HK.out.cells hb1;have d3:=ku HK.out.row HK.out.hg hb1 (show [v0][0]?=some v0 from rfl);simp only[fe,List.length_nil]at d2;clear hpl hbl hb1 HAD c0 c2;go_wp2_with fail;refine vy.out.mono ?_;rintro e w2 ⟨gs,a,rfl,hl⟩;have HL:=aa hl;have hb2:=(gZ.out.trans bM.out).trans hl.below;obtain ⟨ZK,d2'⟩:=HK.out.cells hb2
  obtain ⟨g2,rI,m1,m2,m3,m4,m5,m6⟩:=hl.lm.mem (by simp;omega);have Qn:(ls++[(Value.slice none 0 0,(⟨none,none,some to⟩:Sp))]++gs).length=ls.length+1+gs.length:=by simp;omega
  rw[Qn]at m1;obtain ⟨m7,m8⟩:=m6 ls.length (.slice none 0 0) ⟨none,none,some to⟩ a (by simp);have F6:gs.length=q.cw:=hl.len;have m9:=(m4 ls.length (.slice none 0 0,⟨none,none,some to⟩) (by simp)).2.1;simp only[ea]at m9;have m10:=m5 (ls.length*3+1);have aq:=aa (tL BQ bM.out hl m7 m8);clear hl vy d0 d2 d3 hb2 m2 m3 m4 m5 m6 m7 m8 Qn;go_wp2_with fail;go_ret
  exact ⟨_,_,rfl,aq.out.2⟩
theorem fq.nil(hp:cg w B P ls first)(BQ:to<ls.length):fq B P ls first .dE to w [] to w:=
 ⟨by rw[List.append_nil];exact hp,Below.refl _ _,rfl,by simpa using BQ,(λg hg=>by cases hg),(λE _=>Laid.dE)⟩
theorem pL(r:Re)(rs:List Re):(cG (r::rs)).cw=r.cw+(cG rs).cw:=by
 cases rs with
 | nil=>simp[cG,Re.cw]
 | cons q rs=>rfl
theorem Lg(h:Laid E (cG rs) to m)(h':Laid E r m a):Laid E (cG (r::rs)) to a:=by
 cases rs with
 | nil=>cases h;exact h'
 | cons q rs=>exact .seq h h'
theorem G5{a2:Nat}(h:fq B P ls first (cG rs) to w gs a w1)(h2:fq B P (ls++gs) first r a w1 G3 a2 w2):fq B P ls first (cG (r::rs)) to w (gs++G3) a2 w2:=by
 have hl:(ls++gs).length=ls.length+gs.length:=dG;have hl2:(gs++G3).length=gs.length+G3.length:=dG;have hlt:=h2.lt;rw[hl]at hlt;refine ⟨by rw[<-fP];exact h2.lm,h.below.trans h2.below,by rw[hl2,pL,h.len,h2.len];omega,by rw[hl2];omega,λg hg=>?_,λE hE=>?_⟩
 ·rcases List.mem_append.1 hg with hg|hg
  ·exact (h.oU g hg).mono (by rw[hl2];omega)
  ·have:=h2.oU g hg;rw[hl]at this;exact this.mono (by rw[hl2];omega)
 ·have h3:=h2.laid E (by rw[hl];exact hE.right);exact Lg (h.laid E hE.left) h3
def Xk(B P:Nat)(ls:List (Value×Sp))(first:Int)(rs:List Re)(to:Nat)(w:World)(k:Nat)(vto vi:Value)(wr:World):Prop:=
 ∃gs a,vi=.int .i64 ((k:Int) - 1)/\vto=.int .i64 (a:Nat)/\k<=rs.length/\fq B P ls first (cG (rs.drop k)) to w gs a wr
theorem G6(rs:List Re)(k:Nat):(cG (rs.drop k)).cw<=(cG rs).cw:=by
 induction rs generalizing k with
 | nil=>simp
 | cons r rs ih=>
  cases k with
  | zero=>simp
  | succ k=>
   rw[List.drop_succ_cons,pL];have:=ih k;omega
theorem Tb(hk:Kids w0 B p 38 g cap vs rs)(hvl:vs.length<=9223372036854775807):tK w0 B (.pointer (some ⟨p,0,none⟩)) (cG rs):=by
 intro P ls first to w hb hB hp BQ hn
 obtain ⟨c0,c2⟩:=hk.cells hb;have gZ:=aa hb;have HK:=aa hk;have HS:=aa (fq.nil hp BQ);have HLEN:=aa hk.len;clear hb hp hk;go_enter Tryz.func104,Tryz.ntmps104;go_wp2_with fail;go_loopg [2,7] vs.length (λk vto vi wr=>Xk B P ls first rs to w k vto vi wr)
 case atStart=>exact ⟨[],to,by simp,rfl,by have:=HLEN.out;omega,by rw[List.drop_of_length_le (by have:=HLEN.out;omega)];exact HS.out⟩
 case round=>
  obtain ⟨gs,a,rfl,rfl,eY,hl⟩:=hrel;have HL:=aa hl;have hb1:=gZ.out.trans hl.below;obtain ⟨d0,d2⟩:=HK.out.cells hb1
  cases gk with
  | zero=>
   clear hl hb1;go_wp2_with fail;go_ret;exact ⟨_,_,rfl,by simpa using HL.out⟩
  | succ k=>
   have pP:k<vs.length:=by have:=HLEN.out;omega
   obtain ⟨v,hv⟩:∃v,vs[k]?=some v:=⟨_,cB pP⟩;obtain ⟨r,hr⟩:∃r,rs[k]?=some r:=⟨_,cB (by omega)⟩;have d3:=ku HK.out.row HK.out.hg hb1 hv;have hdr:rs.drop k=r::rs.drop (k+1):=by rw[List.drop_eq_getElem_cons (by omega:k<rs.length)];rw[cB (by omega:k<rs.length)]at hr;rw[Option.some.inj hr]
   have hsp:=G6 rs k;rw[hdr,pL]at hsp;have F6:=hl.len;have vy:=aa (HK.out.lay k v r hv hr P (ls++gs) first a wr hb1 (bJ hB hl.below.size) hl.lm (by rw[dG];exact hl.lt) (by rw[dG];omega));have HDR:=aa hdr;have hki:(((k+1:Nat):Int) - 1)=(k:Int):=by omega
   rw[hki];clear hl hb1 hv hr hdr hsp F6 hki;go_wp2_with fail;refine vy.out.mono ?_;rintro e w2 ⟨G3,a2,rfl,hl2⟩;have aq:=aa (show fq B P ls first (cG (rs.drop k)) to w (gs++G3) a2 w2 by rw[HDR.out];exact G5 HL.out hl2);clear hl2 vy d0 d2 d3;go_wp2_with fail;go_roundg k
   case measure=>omega
   case rel=>exact ⟨gs++G3,a2,rfl,rfl,by omega,aq.out⟩
theorem D2(hpB:p<B)(tI:gX w0 p 38 (.slice none 0 0) (.slice none 0 0)):tK w0 B (.pointer (some ⟨p,0,none⟩)) .dE:=by
 intro P ls first to w hb hB hp BQ hn
 have yJ:w.heap[p]?=some (.cells #[.int .u8 38,.slice none 0 0,.slice none 0 0] 267 (0,0)):=(hb.block p hpB).trans tI;have c0:w.cell? ⟨p,0,none⟩=some (.int .u8 38):=by simp[World.cell?,yJ]
 have c2:w.cell? ⟨p,2,none⟩=some (.slice none 0 0):=by simp[World.cell?,yJ]
 have HS:=aa (fq.nil hp BQ);clear hb hp hn yJ;go_enter Tryz.func104,Tryz.ntmps104;go_wp2_with fail;go_loopg [2,7] 0 (λ_ vto vi wr=>vto=.int .i64 (to:Nat)/\vi=.int .i64 (-1)/\wr=w)
 case atStart=>exact ⟨rfl,rfl,rfl⟩
 case round=>obtain ⟨rfl,rfl,rfl⟩:=hrel;go_wp2_with fail;go_ret;exact ⟨_,_,rfl,HS.out⟩
theorem G7{o:Nat}(h:fq B P ls first r to w gs a w1)(h2:fq B P (ls++gs) first q to w1 G3 o w2)(hp:cg w3 B P (ls++gs++G3++[(v,⟨none,some a,some o⟩)]) first)(hb:Below B w2 w3):
  fq B P ls first (.alt r q) to w (gs++G3++[(v,⟨none,some a,some o⟩)]) (ls.length+gs.length+G3.length) w3:=by
 have hl:(ls++gs).length=ls.length+gs.length:=dG;have hl2:(gs++G3++[(v,(⟨none,some a,some o⟩:Sp))]).length=gs.length+G3.length+1:=by simp;omega
 have hlt:=h2.lt;rw[hl]at hlt;have YY:=h.lt;refine ⟨by rw[<-fP,<-fP];exact hp,(h.below.trans h2.below).trans hb,by rw[hl2,h.len,h2.len];rfl,by rw[hl2];omega,λg hg=>?_,λE hE=>?_⟩
 ·rcases List.mem_append.1 hg with hg|hg
  ·rcases List.mem_append.1 hg with hg|hg
   ·exact (h.oU g hg).mono (by rw[hl2];omega)
   ·have:=h2.oU g hg;rw[hl]at this;exact this.mono (by rw[hl2];omega)
  ·rw[List.mem_singleton.1 hg];exact ⟨(λk e=>by cases e;rw[hl2];omega),(λk e=>by cases e;rw[hl2];omega),.inl rfl⟩
 ·have h3:=h2.laid E (by rw[hl];exact hE.left.right);have h4:=hE.right 0 _ rfl;exact .alt (h.laid E hE.left.left) h3 (by simpa [Nat.add_assoc] using h4)
theorem jI:∀(rs:List Re) (r0:Re) (k:Nat),((rs.take k).foldl Re.alt r0).cw<=(rs.foldl Re.alt r0).cw
 | [],r0,k=>by simp
 | r::rs,r0,0=>by
  have:=jI rs (.alt r0 r) 0;simp only[List.take_zero,List.foldl_nil,List.foldl_cons,Re.cw]at *;omega
 | r::rs,r0,k+1=>by have:=jI rs (.alt r0 r) k;simpa using this
def Xl(B P:Nat)(ls:List (Value×Sp))(first:Int)(r0:Re)(rs:List Re)(to:Nat)(w:World)(k:Nat)(va vi:Value)(wr:World):Prop:=
 ∃gs a j,vi=.int .i64 ((j+1:Nat):Int)/\va=.int .i64 (a:Nat)/\j+k=rs.length/\fq B P ls first ((rs.take j).foldl Re.alt r0) to w gs a wr
theorem Tc{r0:Re}(hk:Kids w0 B p 124 g cap vs (r0::rs))(hvl:vs.length<=9223372036854775807):tK w0 B (.pointer (some ⟨p,0,none⟩)) (rs.foldl Re.alt r0):=by
 intro P ls first to w hb hB hp BQ hn
 obtain ⟨c0,c2⟩:=hk.cells hb;have hl0:=hk.len;simp only[fe]at hl0;obtain ⟨v0,hv0⟩:∃v,vs[0]?=some v:=⟨_,cB (by omega)⟩;have d0:=ku hk.row hk.hg hb hv0;have abl:=jI rs r0 0;simp only[List.take_zero,List.foldl_nil]at abl;have vy:=aa (hk.lay 0 v0 r0 hv0 rfl P ls first to w hb hB hp BQ (by omega));have gZ:=aa hb;have HK:=aa hk
 have HLEN:=aa hl0;have hvp:0<vs.length:=by omega
 clear hb hp hk hv0 abl hl0;go_enter Tryz.func104,Tryz.ntmps104;go_wp2_with fail;refine vy.out.mono ?_;rintro e w1 ⟨gs0,a0,rfl,iF⟩;have rN:=aa iF;clear iF vy c0 c2 d0;go_wp2_with fail;go_loopg [8,9] rs.length (λk va vi wr=>Xl B P ls first r0 rs to w k va vi wr)
 case atStart=>exact ⟨gs0,a0,0,rfl,rfl,by omega,rN.out⟩
 case round=>
  obtain ⟨gs,a,j,rfl,rfl,hj,hl⟩:=hrel;have HL:=aa hl;have hb1:=gZ.out.trans hl.below;obtain ⟨d0,d2⟩:=HK.out.cells hb1
  cases gk with
  | zero=>
   have kO:¬j+1<vs.length:=by have:=HLEN.out;omega
   have hg1:decide (j+1<vs.length)=false:=by simpa using kO
   clear hl hb1;go_wp2_with fail;go_ret;exact ⟨_,_,rfl,by have h:=HL.out;rwa [List.take_of_length_le (by omega)]at h⟩
  | succ k=>
   have rE:j+1<vs.length:=by have:=HLEN.out;omega
   have hg1:decide (((j+1:Nat):Int)<(vs.length:Int))=true:=by simp;omega
   obtain ⟨v,hv⟩:∃v,vs[j+1]?=some v:=⟨_,cB rE⟩;obtain ⟨r,hr⟩:∃r,rs[j]?=some r:=⟨_,cB (by omega)⟩;have d3:=ku HK.out.row HK.out.hg hb1 hv;have iP:(rs.take (j+1)).foldl Re.alt r0=.alt ((rs.take j).foldl Re.alt r0) r:=by rw[List.take_add_one,hr,Option.toList_some,List.foldl_append];rfl
   have hsp:=jI rs r0 (j+1);rw[iP]at hsp;simp only[Re.cw]at hsp;have F6:=hl.len;have vy:=aa (HK.out.lay (j+1) v r hv (by simpa using hr) P (ls++gs) first to wr hb1 (bJ hB hl.below.size) hl.lm (by rw[dG];omega) (by rw[dG];omega));have BK:=aa iP;have pY:=aa hsp;have HGL:=aa F6;obtain ⟨j1,LX⟩:∃j1,j1=j+1:=⟨_,rfl⟩
   rw[<-LX]at rE hg1 d3 ⊢;have B6:=aa LX;clear hl hb1 hv hr iP hsp F6 LX;go_wp2_with fail;refine vy.out.mono ?_;rintro e w2 ⟨G3,o,rfl,hl2⟩;have lW:=aa hl2
   have HAD:=aa (eP B P (ls++gs++G3) first none 0 0 a o ⟨none,some a,some o⟩ w2 hl2.lm (bJ hB (bJ HL.out.below.size hl2.below.size)) rfl rfl rfl (by have h1:=hl2.len;have h2:=pY.out;have h3:=HGL.out;simp only[dG];omega));clear hl2 vy d0 d2 d3;go_wp2_with fail;refine HAD.out.mono ?_;rintro e w3 ⟨rfl,hpl,hbl⟩
   have aq:=aa (show fq B P ls first ((rs.take (j+1)).foldl Re.alt r0) to w _ _ w3 by rw[BK.out];exact G7 HL.out lW.out hpl hbl);clear hpl hbl HAD;rw[dG,dG];go_wp2_with fail;go_roundg k
   case measure=>omega
   case rel=>exact ⟨_,_,j+1,by rw[B6.out];rfl,rfl,by omega,aq.out⟩
theorem Kids.small(h:Kids w0 B p kind g cap vs rs):vs.length<=9223372036854775807:=by
 rcases h.row.2 with ⟨h1,_⟩|⟨_,_,_,_,_,_,h2,h3,_⟩
 ·cases h1
 ·unfold maxLen at h3;omega
theorem Td(h:dv w0 (λk=>k<B) v r):tK w0 B v r:=by
 induction h with
 | dr h1 h2 h3 h4 h5=>exact S9 h1 h2 h3 h4 h5
 | @many p kind sv vs rs r h1 h2 h3 h4 h5 _ h7 ih=>
  rcases h3.2 with ⟨rfl,h0⟩|⟨g,cap,cur,rfl,hg,hh,hc⟩
  ·obtain rfl:=List.eq_nil_of_length_eq_zero h0;obtain rfl:=List.eq_nil_of_length_eq_zero (h5.symm.trans h0);rcases h7 with ⟨rfl,rfl⟩|⟨_,r0,rs',e,_⟩|⟨_,q,e,_⟩|⟨_,q,e,_⟩|⟨_,q,e,_⟩
   ·exact D2 h1 h2
   ·cases e
   ·cases e
   ·cases e
   ·cases e
  ·have hk:Kids w0 B p kind g cap vs rs:=⟨h1,h2,h3,h4 g rfl,h5,ih⟩;rcases h7 with ⟨rfl,rfl⟩|⟨rfl,r0,rs',rfl,rfl⟩|⟨rfl,q,rfl,rfl⟩|⟨rfl,q,rfl,rfl⟩|⟨rfl,q,rfl,rfl⟩
   ·exact Tb hk hk.small
   ·exact Tc hk hk.small
   ·obtain ⟨v0,rfl⟩:∃v0,vs=[v0]:=List.length_eq_one_iff.1 h5;exact D1 hk (.inl rfl)
   ·obtain ⟨v0,rfl⟩:∃v0,vs=[v0]:=List.length_eq_one_iff.1 h5;exact D1 hk (.inr rfl)
   ·obtain ⟨v0,rfl⟩:∃v0,vs=[v0]:=List.length_eq_one_iff.1 h5;exact Ta hk
structure jQ(w:World)(B P:Nat)(ls:List (Value×Sp))(first:Nat)(r:Re):Prop where
 lm:cg w B P ls first
 fin:∃v,ls[0]?=some (v,⟨none,none,none⟩)
 lt:first<ls.length
 oU:∀l∈ls,pK ls.length l.2
 laid:Laid (ls.map (·.2)) r 0 first
 small:ls.length<=300
def tM(s:List UInt8)(w:World)(e:Ending)(w':World):Prop:=
 Below w.heap.size w w'/\((e=.returned (.pointer none)/\(bH s none∨∃r s',s'≠[]/\bH s (some (r,s')))) ∨
  ∃P B ls first r,e=.returned (.pointer (some ⟨P,0,none⟩))/\bH s (some (r,[]))/\w.heap.size<=B/\jQ w' B P ls first r)
theorem G8(hB:B=w.heap.size):cg ((w.alloc (.cells #[.slice none 0 0,.int .i64 (-1),.int .i64 (-1)] 203)).alloc (.cells #[.slice (some ⟨w.heap.size,0,none⟩) 1 1,.int .i64 0] 206)) B (w.heap.size+1) [(.slice none 0 0,⟨none,none,none⟩)] 0:=by
 refine ⟨⟨.slice (some ⟨w.heap.size,0,none⟩) 1 1,?_,⟨rfl,.inr ⟨w.heap.size,1,#[.slice none 0 0,.int .i64 (-1),.int .i64 (-1)],rfl,by omega,af (ag w _),bc _,by unfold maxLen;omega,rfl,rfl⟩⟩⟩,?_,by omega⟩
 ·have:=ag (w.alloc (.cells #[.slice none 0 0,.int .i64 (-1),.int .i64 (-1)] 203)) (.cells #[.slice (some ⟨w.heap.size,0,none⟩) 1 1,.int .i64 0] 206);have hs:(w.alloc (.cells #[.slice none 0 0,.int .i64 (-1),.int .i64 (-1)] 203)).heap.size=w.heap.size+1:=by simp
  rw[hs]at this;exact this
 ·intro l hl;rw[List.mem_singleton.1 hl];rfl
theorem wZ{f0:Int}(h:cg w B P ls f0)(first:Int):cg (w.setCell ⟨P,1,none⟩ (.int .i64 first)) B P ls first/\Below B w (w.setCell ⟨P,1,none⟩ (.int .i64 first)):=by
 obtain ⟨sv,h1,h2⟩:=h.ex;have hb:Below B w (w.setCell ⟨P,1,none⟩ (.int .i64 first)):=(Below.refl B w).setCell h.hP _;refine ⟨⟨⟨sv,ah w P 1 _ h1,dU h2 (λk e=>eV _ _ _ _ ?_)⟩,λl hl=>(h.eh l hl).below hb,h.hP⟩,hb⟩;rintro rfl;exact cg.row h1 h2 e
theorem Lh(hr:r.cw<=200)(h:fq B P [(.slice none 0 0,⟨none,none,none⟩)] 0 r 0 w gs a w'):jQ (w'.setCell ⟨P,1,none⟩ (.int .i64 a)) B P ((.slice none 0 0,⟨none,none,none⟩)::gs) a r:=by
 have hl:=h.len;refine ⟨(wZ h.lm a).1,⟨_,rfl⟩,by have:=h.lt;simpa [Nat.add_comm] using this,λl hm=>?_,h.laid _ λi l hi=>?_,by simp only[fe];omega⟩
 ·rcases List.mem_cons.1 hm with rfl|hm
  ·exact ⟨(λk e=>by cases e),(λk e=>by cases e),.inl rfl⟩
  ·have:=h.oU l hm;simpa [Nat.add_comm] using this
 ·rw[fX,show [((.slice none 0 0:Value),(⟨none,none,none⟩:Sp))].length+i=i+1 from Nat.add_comm _ _,List.getElem?_cons_succ,hi];rfl
theorem jH(S:ByteArray)(w:World)(pD:S.size<=60):Calls Tryz.prog 74 #[.string S] w (tM S.data.toList w):=by
 have H0:=aa (show ba (w.alloc (.cells #[.string S,.int .i64 0,.bool false] 198)) w.heap.size S 0 false from ag _ _);have vu:=aa (show Below w.heap.size w (w.alloc (.cells #[.string S,.int .i64 0,.bool false] 198)) from cq _ _);go_enter Tryz.func74,Tryz.ntmps74;go_wp2_with fail
 obtain ⟨X,hX⟩:∃X,X=w.heap.size:=⟨_,rfl⟩;rw[<-hX]at H0 ⊢;have HX:=aa hX;clear hX;generalize w.alloc (.cells #[.string S,.int .i64 0,.bool false] 198)=w1 at *;refine (S5 (S.size+1) X S 0 w1 H0.out pD (Nat.zero_le _) (by omega)).mono ?_;rintro e w2 ⟨v,a1,bad,rfl,hap,hsc,⟨p,rfl⟩,⟨rfl,ha1,r,hP,hN⟩|⟨rfl,hb,hP⟩⟩
 ·have cW:=aa (vu.out.trans (hap.below (B:=w.heap.size) (bJ vu.out.size (bc _)) (by rw[HX.out];exact bc _)));have H2:=aa hsc;have HP:=aa hP;have HN:=aa (hN.bound.mono (K':=λk=>k<w2.heap.size) (λk hk=>hk.2));clear hap hsc hP hN;obtain ⟨c0,c1,c2,f1,f2⟩:=H2.out.cells;have hz:rest S 0=S.data.toList:=by simp[rest]
  rw[hz]at HP;clear hz;by_cases hend:a1=S.size
  ·have q1:((a1:Int) != (S.size:Int))=false:=by rw[hend];simp
   have hnil:rest S a1=[]:=dF (by omega);rw[hnil]at HP;have hsp:r.cw<=200:=by have h1:=(bH.size HP.out _ _ rfl).1;have h2:=Re.ij r;have h3:S.data.toList.length=S.size:=rfl;rw[h3]at h1;simp only[List.length_nil]at h1;omega
   have pY:=aa hsp;have OJ:=aa (G8 (w:=w2) rfl);have fV:=aa (show Below w2.heap.size w2 ((w2.alloc (.cells #[.slice none 0 0,.int .i64 (-1),.int .i64 (-1)] 203)).alloc (.cells #[.slice (some ⟨w2.heap.size,0,none⟩) 1 1,.int .i64 0] 206)) from (cq _ _).alloc (by simp) _);clear hnil hend hsp;go_wp2_with fail
   refine (Td HN.out (w2.heap.size+1) [(.slice none 0 0,⟨none,none,none⟩)] 0 0 _ fV.out fV.out.size OJ.out (by simp) (by have:=pY.out;simp only[fe,List.length_nil];omega)).mono ?_;rintro e w4 ⟨gs,a,rfl,hl⟩;obtain ⟨g2,rI,m1,m2,m3,m4,m5,m6⟩:=hl.lm.mem (by simp)
   have aq:=aa (show tM S.data.toList w (.returned (.pointer (some ⟨w2.heap.size+1,0,none⟩))) (w4.setCell ⟨w2.heap.size+1,1,none⟩ (.int .i64 (a:Nat))) from
    ⟨cW.out.trans ((fV.out.trans (hl.below.trans (wZ hl.lm a).2)).mono cW.out.size),.inr ⟨_,w2.heap.size,_,a,r,rfl,HP.out,cW.out.size,Lh pY.out hl⟩⟩)
   clear hl m1 m4 m5 m6 OJ fV HN;go_wp2_with fail;go_ret;exact aq.out
  ·have q1:((a1:Int) != (S.size:Int))=true:=by rw[bne_iff_ne];omega
   have HE:=aa (show rest S a1≠[] by intro e;have:=ni S a1;rw[e]at this;simp only[List.length_nil]at this;omega);go_wp2_with fail;go_ret;exact ⟨cW.out,.inl ⟨rfl,.inr ⟨r,_,HE.out,HP.out⟩⟩⟩
 ·have cW:=aa (vu.out.trans (hap.below (B:=w.heap.size) (bJ vu.out.size (bc _)) (by rw[HX.out];exact bc _)));have H2:=aa hsc;have HP:=aa hP;have hz:rest S 0=S.data.toList:=by simp[rest]
  rw[hz]at HP;clear hap hsc hP hz;obtain ⟨c0,c1,c2,f1,f2⟩:=H2.out.cells;go_wp2_with fail;go_ret;exact ⟨cW.out,.inl ⟨rfl,.inl HP.out⟩⟩
end Go.Proofs.YtgncgdkpkkdaeaaGreatDoor.Ref
namespace Go.Proofs.YtgncgdkpkkdaeaaGreatDoor
open Go.RowKit bu
variable {x:El} {els:List El} {B P cap g i j n o si:Nat} {r:eJ} {sv:Value} {w w':World}
theorem nu{rs:List (List Value)}(hs:∀r∈rs,r.length=si){r:List Value}(h:rs[j]?=some r)(ho:o<si)(u:Value):(rs.set j (r.set o u)).flatten=rs.flatten.set (j*si+o) u:=by
 induction rs generalizing j with
 | nil=>simp at h
 | cons a l ih=>
  have ha:=hs a (by simp)
  cases j with
  | zero=>
   simp only[List.getElem?_cons_zero,fA]at h;subst h;simp only[List.set_cons_zero,List.flatten_cons,Nat.zero_mul,Nat.zero_add];rw[List.set_append_left _ _ (by omega)]
  | succ j=>
   simp only[List.getElem?_cons_succ]at h;simp only[List.set_cons_succ,List.flatten_cons];rw[List.set_append_right _ _ (by rw[ha,Nat.succ_mul];omega),ih (λx hx=>hs x (List.mem_cons_of_mem _ hx)) h];congr 2;rw[ha,Nat.succ_mul];omega
theorem Bt{y:El}(h:els[i]?=some x)(hc:y.cells=x.cells):(els.set i y).flatMap El.cells=els.flatMap El.cells:=by
 induction els generalizing i with
 | nil=>simp
 | cons a l ih=>
  cases i with
  | zero=>
   simp only[List.getElem?_cons_zero,fA]at h;subst h;simp[hc]
  | succ i=>
   simp only[List.getElem?_cons_succ]at h;simp only[List.set_cons_succ,List.flatMap_cons,ih h]
theorem fW.abm{to ti:TypeId}{so:Nat}(h:fW w B to ti so si sv els)(X0:to≠ti)(hi:els[i]?=some x)(hv:x.rv=.slice (some ⟨g,0,none⟩) n cap){r:List Value}(hj:x.rs[j]?=some r)(ho:o<si)(u:Value):
  fW (w.setCell ⟨g,j*si+o,none⟩ u) B to ti so si sv (els.set i { x with rs:=x.rs.set j (r.set o u) }):=by
 have BO:=bn hi;have MP:=az hi;have hsz:=h.sized x BO;have kA:=h.inner x BO;have dO:∀k,k≠g->(w.setCell ⟨g,j*si+o,none⟩ u).heap[k]?=w.heap[k]?:=λk e=>eV _ _ _ _ e
 have hn:n=x.rs.length:=by
  rw[hv]at kA;rcases kA.2 with ⟨h0,_⟩|⟨g',cap',cur,e1,_⟩
  ·cases h0
  ·cases e1;rfl
 subst hn;have hgo:∀k,sv.ownBlock=some k->k≠g:=λk e=>by rintro rfl;obtain ⟨_,cur,hc⟩:=ar h.outer e;obtain ⟨_,cur',hc'⟩:=ar (k:=k) kA (by rw[hv];rfl);rw[hc]at hc';simp only[fA,Obj.cells.injEq]at hc';exact X0 hc'.2.1
 refine ⟨?_,λy hy=>?_,λa b p q k ha hb hab hk hk'=>?_,λy hy=>?_⟩
 ·rw[Bt (y:={ x with rs:=x.rs.set j (r.set o u) }) hi rfl,List.length_set];exact aI h.outer λk e=>dO k (hgo k e)
 ·obtain ⟨m,hm⟩:=List.getElem?_of_mem hy;by_cases Dl:m=i
  ·subst Dl;rw[List.getElem?_set_self (by simpa using MP)]at hm;cases hm;simp only[List.length_set];rw[nu hsz.2 hj ho];rw[hv]at kA ⊢;exact IL kA u
  ·rw[List.getElem?_set_ne (Ne.symm Dl)]at hm;refine aI (h.inner y (bn hm)) λk e=>dO k ?_
   rintro rfl;exact h.apart m i y x k hm hi Dl e (by rw[hv];rfl)
 ·have key:∀(c:Nat) z,(els.set i { x with rs:=x.rs.set j (r.set o u) })[c]?=some z->∃z',els[c]?=some z'/\z'.rv=z.rv:=λc z hc=>by
   by_cases hci:c=i
   ·subst hci;rw[List.getElem?_set_self (by simpa using MP)]at hc;cases hc;exact ⟨x,hi,rfl⟩
   ·rw[List.getElem?_set_ne (Ne.symm hci)]at hc;exact ⟨z,hc,rfl⟩
  obtain ⟨p',hp,ep⟩:=key a p ha;obtain ⟨q',hq,eq⟩:=key b q hb;rw[<-ep]at hk;rw[<-eq]at hk';exact h.apart a b p' q' k hp hq hab hk hk'
 ·obtain ⟨m,hm⟩:=List.getElem?_of_mem hy;by_cases Dl:m=i
  ·subst Dl;rw[List.getElem?_set_self (by simpa using MP)]at hm;cases hm;refine ⟨hsz.1,λr' AG=>?_⟩;obtain ⟨m',KH⟩:=List.getElem?_of_mem AG;by_cases he:m'=j
   ·subst he;rw[List.getElem?_set_self (by simpa using az hj)]at KH;cases KH;rw[List.length_set];exact hsz.2 r (bn hj)
   ·rw[List.getElem?_set_ne (Ne.symm he)]at KH;exact hsz.2 r' (bn KH)
  ·rw[List.getElem?_set_ne (Ne.symm Dl)]at hm;exact h.sized y (bn hm)
def iI(ss:List cH)(i j:Nat)(s:cH)(r:eJ)(v:Value):List cH:=ss.set i { s with rs:=s.rs.set j { r with n:=v } }
theorem wu{α:Type}{l:List α}{a:α}(h:l[i]?=some a):l.set i a=l:=by have hl:=az h;rw[cB hl]at h;rw[<-Option.some.inj h];exact List.set_getElem_self hl
theorem fY.iI{ss:List cH}(h:fY w B P sv ss){s:cH}(hi:ss[i]?=some s)(hj:s.rs[j]?=some r)(hv:s.rv=.slice (some ⟨g,0,none⟩) n cap)(u:Value):
  fY (w.setCell ⟨g,j*6+4,none⟩ u) B P sv (iI ss i j s r u)/\Below B w (w.setCell ⟨g,j*6+4,none⟩ u):=by
 have R9:(ss.map cH.el)[i]?=some s.el:=by rw[fX,hi];rfl
 have hgr:=h.row (k:=g) (.inr ⟨s.el,bn R9,by show s.rv.ownBlock=_;rw[hv];rfl⟩);refine ⟨⟨?_,?_,λt ht q hq=>?_,h.hP⟩,(Below.refl B w).setCell hgr.1 _⟩
 ·rw[eV _ _ _ _ (λe=>hgr.2 (Eq.symm e))];exact h.top
 ·have:=h.nest.abm (by decide) R9 (g:=g) (n:=n) (cap:=cap) hv (j:=j) (o:=4) (r:=r.cells) (by rw[show s.el.rs=s.rs.map eJ.cells from rfl,fX,hj];rfl) (by omega) u;have e:(Go.Proofs.YtgncgdkpkkdaeaaGreatDoor.iI ss i j s r u).map cH.el=(ss.map cH.el).set i { s.el with rs:=s.el.rs.set j (r.cells.set 4 u) }:=by rw[Go.Proofs.YtgncgdkpkkdaeaaGreatDoor.iI,List.map_set];simp[cH.el,eJ.cells]
  rw[e];exact this
 ·obtain ⟨m,hm⟩:=List.getElem?_of_mem ht;by_cases Dl:m=i
  ·subst Dl;rw[Go.Proofs.YtgncgdkpkkdaeaaGreatDoor.iI,List.getElem?_set_self (by simpa using az hi)]at hm;cases hm;obtain ⟨m',KH⟩:=List.getElem?_of_mem hq;by_cases he:m'=j
   ·subst he;rw[List.getElem?_set_self (by simpa using az hj)]at KH;cases KH;exact h.words s (bn hi) r (bn hj)
   ·rw[List.getElem?_set_ne (Ne.symm he)]at KH;exact h.words s (bn hi) q (bn KH)
  ·rw[Go.Proofs.YtgncgdkpkkdaeaaGreatDoor.iI,List.getElem?_set_ne (Ne.symm Dl)]at hm;exact h.words t (bn hm) q hq
theorem jQ.keep{ls:List (Value×Sp)}{first:Nat}{r:Re}(h:Ref.jQ w B P ls first r)(hk:∀(k:Nat) c t,(t=206∨t=203∨t=4)->w.heap[k]?=some (.cells c t (0,0))->w'.heap[k]?=some (.cells c t (0,0))):Ref.jQ w' B P ls first r:=by
 obtain ⟨⟨⟨sv,h1,h2⟩,h3,h4⟩,h5,h6,h7,h8,h9⟩:=h;refine ⟨⟨⟨sv,hk _ _ _ (.inl rfl) h1,aI h2 λk e=>?_⟩,λl hl=>?_,h4⟩,h5,h6,h7,h8,h9⟩
 ·obtain ⟨_,cur,hc⟩:=ar h2 e;rw[hc];exact hk _ _ _ (.inr (.inl rfl)) hc
 ·have:=h3 l hl
  cases ho:l.2.on with
  | none=>rw[ho]at this;exact this
  | some c=>
   rw[ho]at this;obtain ⟨A,on,a1,a2,a3,a4⟩:=this;exact ⟨A,on,a1,a2,⟨hk _ _ _ (.inr (.inr rfl)) a3.1,a3.2⟩,a4⟩
def eN(w:World)(r:eJ):Prop:=∃P B ls first re,r.n=.pointer (some ⟨P,0,none⟩)/\bH r.p.data.toList (some (re,[]))/\Ref.jQ w B P ls first re/\B<=w.heap.size
theorem eN.keep(h:eN w r)(hs:w.heap.size<=w'.heap.size)(hk:∀(k:Nat) c t,(t=206∨t=203∨t=4)->w.heap[k]?=some (.cells c t (0,0))->w'.heap[k]?=some (.cells c t (0,0))):eN w' r:=by obtain ⟨P,B,ls,first,re,h1,h2,h3,h4⟩:=h;exact ⟨P,B,ls,first,re,h1,h2,jQ.keep h3 hk,bJ h4 hs⟩
theorem eN.below(h:eN w r)(hb:Below w.heap.size w w'):eN w' r:=
 h.keep hb.size λk _ _ _ hh=>(hb.block k (ae hh)).trans hh
end Go.Proofs.YtgncgdkpkkdaeaaGreatDoor
