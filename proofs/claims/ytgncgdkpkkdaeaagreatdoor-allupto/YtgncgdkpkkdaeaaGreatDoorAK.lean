import Derived.Test.YtgncgdkpkkdaeaaGreatDoorAD
namespace Go.Proofs.YtgncgdkpkkdaeaaGreatDoor
open Go.RowKit bu
variable {i:Nat}
def jv(T:List UInt8)(i j:Nat):List UInt8:=(T.drop i).take (j - i)
theorem gu(T:List UInt8)(i:Nat):jv T i i=[]:=by simp[jv]
theorem je(T:List UInt8){j k:Nat}(h1:i<=j)(h2:j<=k):jv T i k=jv T i j++jv T j k:=by
 unfold jv;have e:k - i=(j - i)+(k - j):=by omega
 rw[e,List.take_add,List.drop_drop];have e2:i+(j - i)=j:=by omega
 rw[e2]
theorem AJ(T:List UInt8){b:UInt8}(h:T[i]?=some b):jv T i (i+1)=[b]:=by
 have hl:=az h;rw[cB hl]at h;unfold jv;rw[List.drop_eq_getElem_cons hl,Option.some.inj h];have e:i+1 - i=1:=by omega
 rw[e];rfl
def From(r:Re)(T:List UInt8)(i:Nat):Prop:=∃j,i<=j/\j<=T.length/\Mt r (jv T i j)
def IsMatch(r:Re)(T:List UInt8)(f:Nat):Option (Nat×Nat)->Prop
 | none=>∀i,f<=i->¬From r T i
 | some (s,e)=>f<=s/\s<=e/\e<=T.length/\Mt r (jv T s e)/\(∀i,f<=i->i<s->¬From r T i)/\∀j,e<j->j<=T.length->¬Mt r (jv T s j)
def found:Option (Nat×Nat)->Value
 | none=>.tuple #[.int .i64 0,.int .i64 0,.bool false]
 | some (s,e)=>.tuple #[.int .i64 s,.int .i64 e,.bool true]
def qH(B:Nat)(r:Re)(T:List UInt8)(f:Nat)(w:World)(e:Ending)(w':World):Prop:=∃o,IsMatch r T f o/\e=.returned (found o)/\Below B w w'
theorem IsMatch.unique{r:Re}{T:List UInt8}{f:Nat}{o o':Option (Nat×Nat)}(h:IsMatch r T f o)(h':IsMatch r T f o'):o=o':=by
 have key:∀s e,IsMatch r T f (some (s,e))->From r T s:=λs e h=>⟨e,h.2.1,h.2.2.1,h.2.2.2.1⟩
 cases o with
 | none=>cases o' with
  | none=>rfl
  | some p=>exact absurd (key p.1 p.2 h') (h p.1 h'.1)
 | some p=>cases o' with
  | none=>exact absurd (key p.1 p.2 h) (h' p.1 h.1)
  | some q=>
   obtain ⟨s,e⟩:=p;obtain ⟨s',e'⟩:=q
   have hs:s=s':=by
    rcases Nat.lt_trichotomy s s' with h1|h1|h1
    ·exact absurd (key s e h) (h'.2.2.2.2.1 s h.1 h1)
    ·exact h1
    ·exact absurd (key s' e' h') (h.2.2.2.2.1 s' h'.1 h1)
   subst hs
   have he:e=e':=by
    rcases Nat.lt_trichotomy e e' with h1|h1|h1
    ·exact absurd h'.2.2.2.1 (h.2.2.2.2.2 e' h1 h'.2.2.1)
    ·exact h1
    ·exact absurd h.2.2.2.1 (h'.2.2.2.2.2 e h1 h.2.2.1)
   subst he;rfl
theorem qI{text:ByteArray}(h:i<text.size):text.data.toList[i]?=some text[i]:=by rw[cB (show i<text.data.toList.length from h)];rfl
theorem aj(text:ByteArray):text.data.toList.length=text.size:=rfl
end Go.Proofs.YtgncgdkpkkdaeaaGreatDoor
namespace bu
variable {a e m0 to:Nat}
structure Sp where
 on:Option eO
 to:Option Nat
 or:Option Nat
inductive jw(F:List Sp)(e:Nat):Nat->Nat->List UInt8->Prop where
 | done:jw F e 0 e []
 | ow {m k k':Nat} {s:Sp} {u:List UInt8}:F[k]?=some s->s.on=none->s.to=some k'->jw F e m k' u->jw F e (m+1) k u
 | ox {m k k':Nat} {s:Sp} {u:List UInt8}:F[k]?=some s->s.on=none->s.or=some k'->jw F e m k' u->jw F e (m+1) k u
 | byte {m k k':Nat} {s:Sp} {c:eO} {b:UInt8} {u:List UInt8}:F[k]?=some s->s.on=some c->c.has b=true->s.to=some k'->jw F e m k' u->jw F e (m+1) k (b::u)
inductive Laid(F:List Sp):Re->Nat->Nat->Prop where
 | dr {c:eO} {to a:Nat}:F[a]?=some ⟨some c,some to,none⟩->Laid F (.dr c) to a
 | dE {to:Nat}:Laid F .dE to to
 | seq {p q:Re} {to m a:Nat}:Laid F q to m->Laid F p m a->Laid F (.seq p q) to a
 | alt {p q:Re} {to m o a:Nat}:Laid F p to m->Laid F q to o->F[a]?=some ⟨none,some m,some o⟩->Laid F (.alt p q) to a
 | fB {p:Re} {to m a:Nat}:Laid F p to m->F[a]?=some ⟨none,some m,some to⟩->Laid F (.fB p) to a
 | star {p:Re} {to m a:Nat}:Laid F p a m->F[a]?=some ⟨none,some m,some to⟩->Laid F (.star p) to a
 | plus {p:Re} {to m a:Nat}:Laid F p a m->F[a]?=some ⟨none,some m,some to⟩->Laid F (.plus p) to m
def Re.cw:Re->Nat
 | .dE=>0
 | .dr _=>1
 | .seq a b=>a.cw+b.cw
 | .alt a b=>a.cw+b.cw+1
 | .star a=>a.cw+1
 | .plus a=>a.cw+1
 | .fB a=>a.cw+1
theorem Re.ij:∀r:Re,r.cw<=r.sz
 | .dE=>by simp[Re.cw,Re.sz]
 | .dr _=>by simp[Re.cw,Re.sz]
 | .seq a b=>by have:=Re.ij a;have:=Re.ij b;simp only[Re.cw,Re.sz];omega
 | .alt a b=>by have:=Re.ij a;have:=Re.ij b;simp only[Re.cw,Re.sz];omega
 | .star a=>by have:=Re.ij a;simp only[Re.cw,Re.sz];omega
 | .plus a=>by have:=Re.ij a;simp only[Re.cw,Re.sz];omega
 | .fB a=>by have:=Re.ij a;simp only[Re.cw,Re.sz];omega
def V4(F:List Sp)(e:Nat)(r:Re)(to a:Nat):Prop:=∀m u,jw F e m a u->∃x y m',u=x++y/\Mt r x/\m'<=m/\jw F e m' to y
def Oq(F:List Sp)(e:Nat)(r:Re)(to a:Nat):Prop:=∀x y m,Mt r x->jw F e m to y->∃m',jw F e m' a (x++y)
variable {F:List Sp} {p:Re}
theorem yR(he:F[e]?=some ⟨none,none,none⟩)(hp:V4 F e p a m0)(hs:F[a]?=some ⟨none,some m0,some to⟩):V4 F e (.star p) to a:=by
 intro m
 induction m using Nat.strongRecOn with
 | _ m ih=>
  intro u hr
  cases hr with
  | done=>rw[he]at hs;simp at hs
  | ow h1 h2 h3 h4=>
   rw[hs]at h1;cases h1;cases h3;obtain ⟨x,y,m',rfl,hx,hm,hy⟩:=hp _ _ h4;obtain ⟨x2,y2,m2,rfl,hx2,RA,V5⟩:=ih m' (by omega) y hy;exact ⟨x++x2,y2,m2,by simp,.qa hx hx2,by omega,V5⟩
  | ox h1 h2 h3 h4=>
   rw[hs]at h1;cases h1;cases h3;exact ⟨[],u,_,rfl,.mi,Nat.le_succ _,h4⟩
  | byte h1 h2 _ _ _=>rw[hs]at h1;cases h1;cases h2
variable {r:Re}
theorem Laid.ab7(he:F[e]?=some ⟨none,none,none⟩)(h:Laid F r to a):V4 F e r to a:=by
 induction h with
 | dr hs=>
  intro m u hr
  cases hr with
  | done=>rw[he]at hs;simp at hs
  | ow h1 h2 _ _=>rw[hs]at h1;cases h1;cases h2
  | ox h1 h2 _ _=>rw[hs]at h1;cases h1;cases h2
  | byte h1 h2 h3 h4 h5=>
   rw[hs]at h1;cases h1;cases h2;cases h4;exact ⟨[_],_,_,rfl,.dr h3,Nat.le_succ _,h5⟩
 | dE=>intro m u hr;exact ⟨[],u,m,rfl,.dE,bc _,hr⟩
 | seq _ _ M6 tW=>
  intro m u hr;obtain ⟨x,y,m',rfl,hx,hm,hy⟩:=tW _ _ hr;obtain ⟨x2,y2,m2,rfl,hx2,RA,V5⟩:=M6 _ _ hy;exact ⟨x++x2,y2,m2,by simp,.seq hx hx2,by omega,V5⟩
 | alt _ _ hs tW M6=>
  intro m u hr
  cases hr with
  | done=>rw[he]at hs;simp at hs
  | ow h1 h2 h3 h4=>
   rw[hs]at h1;cases h1;cases h3;obtain ⟨x,y,m',rfl,hx,hm,hy⟩:=tW _ _ h4;exact ⟨x,y,m',rfl,.tU hx,by omega,hy⟩
  | ox h1 h2 h3 h4=>
   rw[hs]at h1;cases h1;cases h3;obtain ⟨x,y,m',rfl,hx,hm,hy⟩:=M6 _ _ h4;exact ⟨x,y,m',rfl,.tV hx,by omega,hy⟩
  | byte h1 h2 _ _ _=>rw[hs]at h1;cases h1;cases h2
 | fB _ hs tW=>
  intro m u hr
  cases hr with
  | done=>rw[he]at hs;simp at hs
  | ow h1 h2 h3 h4=>
   rw[hs]at h1;cases h1;cases h3;obtain ⟨x,y,m',rfl,hx,hm,hy⟩:=tW _ _ h4;exact ⟨x,y,m',rfl,.xI hx,by omega,hy⟩
  | ox h1 h2 h3 h4=>
   rw[hs]at h1;cases h1;cases h3;exact ⟨[],u,_,rfl,.uX,Nat.le_succ _,h4⟩
  | byte h1 h2 _ _ _=>rw[hs]at h1;cases h1;cases h2
 | star _ hs tW=>exact yR he tW hs
 | plus _ hs tW=>
  intro m u hr;obtain ⟨x,y,m',rfl,hx,hm,hy⟩:=tW _ _ hr;obtain ⟨x2,y2,m2,rfl,hx2,RA,V5⟩:=yR he tW hs _ _ hy;exact ⟨x++x2,y2,m2,by simp,.plus hx hx2,by omega,V5⟩
theorem wo(hp:Oq F e p a m0)(hs:F[a]?=some ⟨none,some m0,some to⟩):Oq F e (.star p) to a:=by
 intro x y m hx hy;generalize hr:Re.star p=r at hx
 induction hx with
 | dE=>cases hr
 | dr _=>cases hr
 | seq _ _=>cases hr
 | tU _=>cases hr
 | tV _=>cases hr
 | mi=>exact ⟨m+1,.ox hs rfl rfl hy⟩
 | qa h1 _ _ ih2=>
  cases hr;obtain ⟨m2,h2⟩:=ih2 rfl;obtain ⟨m3,h3⟩:=hp _ _ _ h1 h2;exact ⟨m3+1,by rw[fP];exact .ow hs rfl rfl h3⟩
 | plus _ _=>cases hr
 | uX=>cases hr
 | xI _=>cases hr
theorem Laid.joins(h:Laid F r to a):Oq F e r to a:=by
 induction h with
 | dr hs=>intro x y m hx hy;cases hx with|dr hb=>exact ⟨m+1,.byte hs rfl hb rfl hy⟩
 | dE=>intro x y m hx hy;cases hx;exact ⟨m,hy⟩
 | seq _ _ M6 tW=>
  intro x y m hx hy
  cases hx with
  | seq h1 h2=>
   obtain ⟨m2,h3⟩:=M6 _ _ _ h2 hy;obtain ⟨m3,h4⟩:=tW _ _ _ h1 h3;exact ⟨m3,by rw[fP];exact h4⟩
 | alt _ _ hs tW M6=>
  intro x y m hx hy
  cases hx with
  | tU h1=>obtain ⟨m2,h2⟩:=tW _ _ _ h1 hy;exact ⟨m2+1,.ow hs rfl rfl h2⟩
  | tV h1=>obtain ⟨m2,h2⟩:=M6 _ _ _ h1 hy;exact ⟨m2+1,.ox hs rfl rfl h2⟩
 | fB _ hs tW=>
  intro x y m hx hy
  cases hx with
  | uX=>exact ⟨m+1,.ox hs rfl rfl hy⟩
  | xI h1=>obtain ⟨m2,h2⟩:=tW _ _ _ h1 hy;exact ⟨m2+1,.ow hs rfl rfl h2⟩
 | star _ hs tW=>exact wo tW hs
 | plus _ hs tW=>
  intro x y m hx hy
  cases hx with
  | plus h1 h2=>
   obtain ⟨m2,h3⟩:=wo tW hs _ _ _ h2 hy;obtain ⟨m3,h4⟩:=tW _ _ _ h1 h3;exact ⟨m3,by rw[fP];exact h4⟩
theorem Laid.whole(he:F[e]?=some ⟨none,none,none⟩)(h:Laid F r e a)(u:List UInt8):(∃m,jw F e m a u)<->Mt r u:=by
 constructor
 ·rintro ⟨m,hr⟩;obtain ⟨x,y,m',rfl,hx,_,hy⟩:=h.ab7 he m u hr
  have:y=[]:=by
   cases hy with
   | done=>rfl
   | ow h1 _ h3 _=>rw[he]at h1;cases h1;cases h3
   | ox h1 _ h3 _=>rw[he]at h1;cases h1;cases h3
   | byte h1 h2 _ _ _=>rw[he]at h1;cases h1;cases h2
  rw[this,List.append_nil];exact hx
 ·intro hx;have:=h.joins u [] 0 hx .done
  rwa [List.append_nil]at this
open Go.Proofs.YtgncgdkpkkdaeaaGreatDoor
variable {c:eO} {ts:List (Option Nat)} {T u v w:List UInt8} {K L b began f first i j k k' m spot:Nat} {cur nx on Mf:Nat->Option Nat} {o:Option (Nat×Nat)} {s:Sp} {x:UInt8}
def Reach(F:List Sp)(k:Nat)(u:List UInt8)(j:Nat):Prop:=∃m,jw F j m k u
theorem Reach.refl(F:List Sp)(k:Nat):Reach F k [] k:=⟨0,.done⟩
theorem jw.trans{m':Nat}(h:jw F j m k u)(h':jw F i m' j v):∃m2,jw F i m2 k (u++v):=by
 induction h with
 | done=>exact ⟨m',h'⟩
 | ow h1 h2 h3 _ ih=>obtain ⟨m2,h5⟩:=ih;exact ⟨m2+1,.ow h1 h2 h3 h5⟩
 | ox h1 h2 h3 _ ih=>obtain ⟨m2,h5⟩:=ih;exact ⟨m2+1,.ox h1 h2 h3 h5⟩
 | byte h1 h2 h3 h4 _ ih=>obtain ⟨m2,h5⟩:=ih;exact ⟨m2+1,.byte h1 h2 h3 h4 h5⟩
theorem Reach.trans(h:Reach F k u j)(h':Reach F j v i):Reach F k (u++v) i:=by obtain ⟨m,h⟩:=h;obtain ⟨m',h'⟩:=h';exact h.trans h'
def QK(F:List Sp)(k j:Nat):Prop:=Reach F k [] j
theorem jw.last(h:jw F j m k w):∀u b,w=u++[b]->∃p s c k',Reach F k u p/\F[p]?=some s/\s.on=some c/\c.has b=true/\s.to=some k'/\QK F k' j:=by
 induction h with
 | done=>intro u b e;simp at e
 | ow h1 h2 h3 _ ih=>
  intro u b e;obtain ⟨p,s,c,k',⟨m2,r⟩,r2⟩:=ih u b e;exact ⟨p,s,c,k',⟨m2+1,.ow h1 h2 h3 r⟩,r2⟩
 | ox h1 h2 h3 _ ih=>
  intro u b e;obtain ⟨p,s,c,k',⟨m2,r⟩,r2⟩:=ih u b e;exact ⟨p,s,c,k',⟨m2+1,.ox h1 h2 h3 r⟩,r2⟩
 | byte h1 h2 h3 h4 h5 ih=>
  rename_i u0;intro u b e
  cases u with
  | nil=>
   simp only[List.nil_append,List.cons.injEq]at e;obtain ⟨rfl,rfl⟩:=e;exact ⟨_,_,_,_,.refl F _,h1,h2,h3,h4,⟨_,h5⟩⟩
  | cons x u=>
   simp only[List.cons_append,List.cons.injEq]at e;obtain ⟨rfl,rfl⟩:=e;obtain ⟨p,s,c,k',⟨m2,r⟩,r2⟩:=ih u b rfl;exact ⟨p,s,c,k',⟨m2+1,.byte h1 h2 h3 h4 r⟩,r2⟩
theorem Reach.byte{p:Nat}{b:UInt8}(h:Reach F k u p)(h1:F[p]?=some s)(h2:s.on=some c)(h3:c.has b=true)(h4:s.to=some k')(h5:QK F k' j):Reach F k (u++[b]) j:=by obtain ⟨m,h5⟩:=h5;exact h.trans ⟨m+1,.byte h1 h2 h3 h4 h5⟩
structure mO(F:List Sp)(T:List UInt8)(first f L a:Nat)(on:Nat->Option Nat):Prop where
 sound:∀k b,on k=some b->f<=b/\b<L/\b<=a/\Reach F first (jv T b a) k
 full:∀k b,f<=b->b<L->b<=a->Reach F first (jv T b a) k->∃c,on k=some c/\c<=b
def Ent(F:List Sp)(spot began:Nat)(on Gc:Nat->Option Nat):Prop:=
 (∀k b,Gc k=some b->on k=some b∨(b=began/\QK F spot k))/\(∀k b,on k=some b->∃c,Gc k=some c/\c<=b)/\∀k,QK F spot k->∃c,Gc k=some c/\c<=began
theorem mO.start(F:List Sp)(T:List UInt8)(first f:Nat):mO F T first f f f (λ_=>none):=
 ⟨(λk b h=>by cases h),(λk b h1 h2=>by omega)⟩
theorem mO.enter{Gc:Nat->Option Nat}(h:mO F T first f a a on)(hf:f<=a)(he:Ent F first a on Gc):mO F T first f (a+1) a Gc:=by
 refine ⟨λk b hb=>?_,λk b h1 h2 h3 h4=>?_⟩
 ·rcases he.1 k b hb with h0|⟨rfl,h0⟩
  ·obtain ⟨g1,g2,g3,g4⟩:=h.sound k b h0;exact ⟨g1,by omega,g3,g4⟩
  ·exact ⟨hf,by omega,bc _,by rw[gu];exact h0⟩
 ·rcases ed b a with hb|hb
  ·obtain ⟨c,g1,g2⟩:=h.full k b h1 hb h3 h4;obtain ⟨c',g3,g4⟩:=he.2.1 k c g1;exact ⟨c',g3,by omega⟩
  ·obtain rfl:b=a:=by omega
   rw[gu]at h4;exact he.2.2 k h4
structure Taken(F:List Sp)(L K:Nat)(x:UInt8)(on nx:Nat->Option Nat):Prop where
 sound:∀j b,nx j=some b->∃k s c k',on k=some b/\b<L/\F[k]?=some s/\s.on=some c/\c.has x=true/\s.to=some k'/\QK F k' j
 full:∀k s c k' b j,k<K->on k=some b->b<L->F[k]?=some s->s.on=some c->c.has x=true->s.to=some k'->QK F k' j->∃d,nx j=some d/\d<=b
theorem Taken.start(F:List Sp)(L:Nat)(x:UInt8)(on:Nat->Option Nat):Taken F L 0 x on (λ_=>none):=⟨(λj b h=>by cases h),(λk s c k' b j h=>by omega)⟩
theorem Taken.skip(h:Taken F L K x on nx)(hn:∀s c b,on K=some b->b<L->F[K]?=some s->s.on=some c->c.has x=true->False):Taken F L (K+1) x on nx:=by
 refine ⟨h.sound,λk s c k' b j h1 h2 h3 h4 h5 h6 h7 h8=>?_⟩;rcases ed k K with hk|hk
 ·exact h.full k s c k' b j hk h2 h3 h4 h5 h6 h7 h8
 ·obtain rfl:k=K:=by omega
  exact (hn s c b h2 h3 h4 h5 h6).elim
theorem Taken.take{nx':Nat->Option Nat}(h:Taken F L K x on nx)(h2:on K=some b)(h3:b<L)(h4:F[K]?=some s)(h5:s.on=some c)(h6:c.has x=true)(h7:s.to=some k')(he:Ent F k' b nx nx'):Taken F L (K+1) x on nx':=by
 refine ⟨λj d hd=>?_,λk s' c' k'' b' j g1 g2 g3 g4 g5 g6 g7 g8=>?_⟩
 ·rcases he.1 j d hd with h0|⟨rfl,h0⟩
  ·exact h.sound j d h0
  ·exact ⟨K,s,c,k',h2,h3,h4,h5,h6,h7,h0⟩
 ·rcases ed k K with hk|hk
  ·obtain ⟨d,e1,e2⟩:=h.full k s' c' k'' b' j hk g2 g3 g4 g5 g6 g7 g8;obtain ⟨d',e3,e4⟩:=he.2.1 j d e1;exact ⟨d',e3,by omega⟩
  ·obtain rfl:k=K:=by omega
   rw[h2]at g2;rw[h4]at g4;cases g2;cases g4;rw[h7]at g7;cases g7;exact he.2.2 j g8
theorem Taken.done{L':Nat}(h:Taken F L' F.length x on nx)(ho:mO F T first f L a on)(hL:L'<=L)(hLa:L'<=a+1)(ha:T[a]?=some x):mO F T first f L' (a+1) nx:=by
 have aad:∀b,b<=a->jv T b (a+1)=jv T b a++[x]:=λb hb=>by rw[je T hb (Nat.le_succ a),AJ T ha]
 refine ⟨λj b hb=>?_,λj b h1 h2 h3 h4=>?_⟩
 ·obtain ⟨k,s,c,k',g1,g2,g3,g4,g5,g6,g7⟩:=h.sound j b hb;obtain ⟨e1,e2,e3,e4⟩:=ho.sound k b g1;refine ⟨e1,g2,by omega,?_⟩;rw[aad b e3];exact e4.byte g3 g4 g5 g6 g7
 ·rcases ed a b with hb|hb
  ·omega
  ·rw[aad b hb]at h4;obtain ⟨m,h4⟩:=h4;obtain ⟨p,s,c,k',g1,g2,g3,g4,g5,g6⟩:=h4.last _ _ rfl;obtain ⟨d,e1,e2⟩:=ho.full p b h1 (by omega) hb g1;obtain ⟨d',e3,e4⟩:=h.full p s c k' d j (by exact (List.getElem?_eq_some_iff.1 g2).1) e1 (by omega) g2 g3 g4 g5 g6;exact ⟨d',e3,by omega⟩
def jf(F:List Sp)(on:Nat->Option Nat):Prop:=∀k c s j,on k=some c->F[k]?=some s->s.on=none->(s.to=some j∨s.or=some j)->∃d,on j=some d/\d<=c
theorem jf.none(F:List Sp):jf F (λ_=>.none):=λk c s j h=>by cases h
theorem jf.run(h:jf F on)(hr:jw F j m k u):u=[]->∀c,on k=some c->∃d,on j=some d/\d<=c:=by
 induction hr with
 | done=>intro _ c hc;exact ⟨c,hc,bc _⟩
 | ow h1 h2 h3 _ ih=>
  intro hu c hc;obtain ⟨d,hd,hd2⟩:=h _ c _ _ hc h1 h2 (.inl h3);obtain ⟨d2,hd3,hd4⟩:=ih hu d hd;exact ⟨d2,hd3,by omega⟩
 | ox h1 h2 h3 _ ih=>
  intro hu c hc;obtain ⟨d,hd,hd2⟩:=h _ c _ _ hc h1 h2 (.inr h3);obtain ⟨d2,hd3,hd4⟩:=ih hu d hd;exact ⟨d2,hd3,by omega⟩
 | byte _ _ _ _ _ _=>intro hu;cases hu
structure gQ(F:List Sp)(spot began:Nat)(Mf cur:Nat->Option Nat)(ts:List (Option Nat)):Prop where
 sound:∀k b,cur k=some b->Mf k=some b∨(b=began/\QK F spot k)
 grow:∀k b,Mf k=some b->∃c,cur k=some c/\c<=b
 todo:∀k,some k∈ts->QK F spot k
 V6:∀k c s j,cur k=some c->F[k]?=some s->s.on=none->(s.to=some j∨s.or=some j)->(∃d,cur j=some d/\d<=c)∨(some j∈ts/\began<=c)
 start:(∃c,cur spot=some c/\c<=began)∨some spot∈ts
theorem gQ.begin(h:jf F Mf):gQ F spot began Mf Mf [some spot]:=
 ⟨λk b hb=>.inl hb,λk b hb=>⟨b,hb,bc _⟩,λk hk=>by
  obtain rfl:k=spot:=by simpa using hk
  exact .refl F k,λk c s j h1 h2 h3 h4=>.inl (h k c s j h1 h2 h3 h4),.inr (by simp)⟩
theorem gQ.done(h:gQ F spot began Mf cur []):Ent F spot began Mf cur/\jf F cur:=by
 have hc:jf F cur:=λk c s j h1 h2 h3 h4=>(h.V6 k c s j h1 h2 h3 h4).elim id (λe=>by cases e.1)
 refine ⟨⟨h.sound,h.grow,λk hk=>?_⟩,hc⟩;obtain ⟨m,hr⟩:=hk;rcases h.start with ⟨c,h1,h2⟩|h1
 ·obtain ⟨d,h3,h4⟩:=hc.run hr rfl c h1;exact ⟨d,h3,by omega⟩
 ·cases h1
theorem gQ.skip{t:Option Nat}(h:gQ F spot began Mf cur (ts++[t]))(ht:∀k,t=some k->∃c,cur k=some c/\c<=began):gQ F spot began Mf cur ts:=by
 refine ⟨h.sound,h.grow,λk hk=>h.todo k (by simp[hk]),λk c s j h1 h2 h3 h4=>?_,?_⟩
 ·rcases h.V6 k c s j h1 h2 h3 h4 with h5|⟨h5,h6⟩
  ·exact .inl h5
  ·rcases List.mem_append.1 h5 with h7|h7
   ·exact .inr ⟨h7,h6⟩
   ·obtain ⟨d,g1,g2⟩:=ht j (List.mem_singleton.1 h7).symm;exact .inl ⟨d,g1,by omega⟩
 ·rcases h.start with h5|h5
  ·exact .inl h5
  ·rcases List.mem_append.1 h5 with h7|h7
   ·exact .inr h7
   ·exact .inl (ht spot (List.mem_singleton.1 h7).symm)
theorem gQ.set{k0:Nat}{cur':Nat->Option Nat}{us:List (Option Nat)}{s0:Sp}(h:gQ F spot began Mf cur (ts++[some k0]))(hF:F[k0]?=some s0)(hn:∀c,cur k0=some c->began<c)(iu:∀j,cur' j=if j=k0 then some began else cur j)
  (hus:∀j,some j∈us->s0.on=none/\(s0.to=some j∨s0.or=some j)) (hsu:s0.on=none->∀j,(s0.to=some j∨s0.or=some j)->some j∈us):gQ F spot began Mf cur' (ts++us):=by
 have hE:QK F spot k0:=h.todo k0 (by simp)
 have hle:∀j c,cur j=some c->∃d,cur' j=some d/\d<=c:=by
  intro j c hc;rw[iu];by_cases e:j=k0
  ·subst e;rw[if_pos rfl];exact ⟨began,rfl,Nat.le_of_lt (hn c hc)⟩
  ·rw[if_neg e];exact ⟨c,hc,bc _⟩
 refine ⟨λk b hb=>?_,λk b hb=>?_,λk hk=>?_,λk c s j h1 h2 h3 h4=>?_,?_⟩
 ·rw[iu]at hb;by_cases e:k=k0
  ·subst e;rw[if_pos rfl]at hb;cases hb;exact .inr ⟨rfl,hE⟩
  ·rw[if_neg e]at hb;exact h.sound k b hb
 ·obtain ⟨c,h1,h2⟩:=h.grow k b hb;obtain ⟨d,h3,h4⟩:=hle k c h1;exact ⟨d,h3,by omega⟩
 ·rcases List.mem_append.1 hk with hk|hk
  ·exact h.todo k (by simp[hk])
  ·obtain ⟨g1,g2⟩:=hus k hk
   have hs:QK F k0 k:=by
    rcases g2 with g2|g2
    ·exact ⟨1,.ow hF g1 g2 .done⟩
    ·exact ⟨1,.ox hF g1 g2 .done⟩
   exact hE.trans hs
 ·rw[iu]at h1;by_cases e:k=k0
  ·subst e;rw[if_pos rfl]at h1;cases h1;rw[hF]at h2;cases h2;exact .inr ⟨List.mem_append.2 (.inr (hsu h3 j h4)),bc _⟩
  ·rw[if_neg e]at h1;rcases h.V6 k c s j h1 h2 h3 h4 with ⟨d,g1,g2⟩|⟨g1,g2⟩
   ·obtain ⟨d2,g3,g4⟩:=hle j d g1;exact .inl ⟨d2,g3,by omega⟩
   ·rcases List.mem_append.1 g1 with g3|g3
    ·exact .inr ⟨List.mem_append.2 (.inl g3),g2⟩
    ·obtain rfl:j=k0:=by simpa using g3
     exact .inl ⟨began,by rw[iu,if_pos rfl],g2⟩
 ·rcases h.start with ⟨c,g1,g2⟩|g1
  ·obtain ⟨d,g3,g4⟩:=hle spot c g1;exact .inl ⟨d,g3,by omega⟩
  ·rcases List.mem_append.1 g1 with g3|g3
   ·exact .inr (List.mem_append.2 (.inl g3))
   ·obtain rfl:spot=k0:=by simpa using g3
    exact .inl ⟨began,by rw[iu,if_pos rfl],bc _⟩
def later(began:Nat):Option Nat->Bool
 | none=>true
 | some c=>decide (began<c)
theorem yS{began:Nat}:∀{l:List (Option Nat)} {k:Nat} {o:Option Nat},l[k]?=some o->later began o=true->(l.set k (some began)).countP (later began)+1=l.countP (later began)
 | [],k,o,h,_=>by simp at h
 | x::l,0,o,h,hl=>by
  simp only[List.getElem?_cons_zero,fA]at h;subst h;rw[List.set_cons_zero,List.countP_cons,List.countP_cons,hl];simp[later]
 | x::l,k+1,o,h,hl=>by simp only[List.getElem?_cons_succ]at h;have:=yS h hl;rw[List.set_cons_succ,List.countP_cons,List.countP_cons];omega
theorem jw.split(h:jw F j m k w):∀u v,w=u++v->∃p,Reach F k u p/\Reach F p v j:=by
 induction h with
 | done=>
  intro u v e;obtain ⟨rfl,rfl⟩:=List.append_eq_nil_iff.1 e.symm;exact ⟨_,.refl F _,.refl F _⟩
 | ow h1 h2 h3 _ ih=>
  intro u v e;obtain ⟨p,⟨m2,r⟩,r2⟩:=ih u v e;exact ⟨p,⟨m2+1,.ow h1 h2 h3 r⟩,r2⟩
 | ox h1 h2 h3 _ ih=>
  intro u v e;obtain ⟨p,⟨m2,r⟩,r2⟩:=ih u v e;exact ⟨p,⟨m2+1,.ox h1 h2 h3 r⟩,r2⟩
 | byte h1 h2 h3 h4 h5 ih=>
  intro u v e
  cases u with
  | nil=>exact ⟨_,.refl F _,⟨_,by rw[<-(List.nil_append v),<-e];exact .byte h1 h2 h3 h4 h5⟩⟩
  | cons x u=>
   simp only[List.cons_append,List.cons.injEq]at e;obtain ⟨rfl,e⟩:=e;obtain ⟨p,⟨m2,r⟩,r2⟩:=ih u v e;exact ⟨p,⟨m2+1,.byte h1 h2 h3 h4 r⟩,r2⟩
def Found(r:Re)(T:List UInt8)(f a:Nat):Option (Nat×Nat)->Prop
 | none=>∀b e,f<=b->b<=e->e<a->¬Mt r (jv T b e)
 | some (b0,e0)=>f<=b0/\b0<=e0/\e0<a/\Mt r (jv T b0 e0)/\∀b e,f<=b->b<=e->e<a->Mt r (jv T b e)->b0<=b/\(b=b0->e<=e0)
def lim(a:Nat):Option (Nat×Nat)->Nat
 | none=>a
 | some (b0,_)=>b0+1
theorem Found.start(r:Re)(T:List UInt8)(f:Nat):Found r T f f none:=λb e h1 h2 h3=>by omega
theorem Found.hit(h:Found r T f a o)(hL:∀u,Reach F first u 0<->Mt r u)(hO:mO F T first f (lim (a+1) o) a on)(hb:on 0=some b):Found r T f (a+1) (some (b,a))/\∀b0 e0,o=some (b0,e0)->b<=b0:=by
 obtain ⟨g1,g2,g3,g4⟩:=hO.sound 0 b hb;have hle:∀b0 e0,o=some (b0,e0)->b<=b0:=λb0 e0 e=>by subst e;simp only[lim]at g2;omega
 refine ⟨⟨g1,g3,Nat.lt_succ_self _,(hL _).1 g4,λb' e h1 h2 h3 h4=>?_⟩,hle⟩;rcases ed e a with he|he
 ·cases o with
  | none=>exact (h b' e h1 h2 he h4).elim
  | some p=>
   obtain ⟨b0,e0⟩:=p;have:=h.2.2.2.2 b' e h1 h2 he h4;have:=hle b0 e0 rfl;exact ⟨by omega,λe=>by omega⟩
 ·obtain rfl:e=a:=by omega
  refine ⟨?_,λ_=>bc _⟩;by_cases hl:b'<lim (e+1) o
  ·obtain ⟨c,k1,k2⟩:=hO.full 0 b' h1 hl h2 ((hL _).2 h4);rw[hb]at k1;cases k1;exact k2
  ·cases o with
   | none=>simp only[lim]at hl;omega
   | some p=>simp only[lim]at hl g2;omega
theorem Found.aae(h:Found r T f a o)(hL:∀u,Reach F first u 0<->Mt r u)(hO:mO F T first f (lim (a+1) o) a on)(hb:on 0=none):Found r T f (a+1) o:=by
 have hno:∀b',f<=b'->b'<=a->Mt r (jv T b' a)->b'<lim (a+1) o->False:=λb' h1 h2 h3 h4=>by obtain ⟨c,k1,_⟩:=hO.full 0 b' h1 h4 h2 ((hL _).2 h3);rw[hb]at k1;cases k1
 cases o with
 | none=>
  intro b' e h1 h2 h3 h4;rcases ed e a with he|he
  ·exact h b' e h1 h2 he h4
  ·obtain rfl:e=a:=by omega
   exact hno b' h1 h2 h4 (by simp only[lim];omega)
 | some p=>
  obtain ⟨b0,e0⟩:=p;obtain ⟨k1,k2,k3,k4,k5⟩:=h;refine ⟨k1,k2,by omega,k4,λb' e h1 h2 h3 h4=>?_⟩;rcases ed e a with he|he
  ·exact k5 b' e h1 h2 he h4
  ·obtain rfl:e=a:=by omega
   rcases ed b' (b0+1) with hb' | hb'
   ·exact (hno b' h1 h2 h4 hb').elim
   ·exact ⟨by omega,λe=>by omega⟩
theorem Found.over{b0 e0:Nat}(h:Found r T f (a+1) (some (b0,e0)))(hL:∀u,Reach F first u 0<->Mt r u)(ha:a<=T.length)(hno:a<T.length->mO F T first f (b0+1) (a+1) (λ_=>none)):IsMatch r T f (some (b0,e0)):=by
 obtain ⟨k1,k2,k3,k4,k5⟩:=h;have key:∀b e,f<=b->b<=b0->b<=e->e<=T.length->a<e->¬Mt r (jv T b e):=by intro b e h1 h2 h3 h4 h5 h6;have h7:=(hL _).2 h6;rw[je T (show b<=a+1 by omega) (show a+1<=e by omega)]at h7;obtain ⟨m,h7⟩:=h7;obtain ⟨p,g1,_⟩:=h7.split _ _ rfl;obtain ⟨c,g2,_⟩:=(hno (by omega)).full p b h1 (by omega) (by omega) g1;cases g2
 refine ⟨k1,k2,by omega,k4,λi hi hs hx=>?_,λj hj hl hx=>?_⟩
 ·obtain ⟨j,g1,g2,g3⟩:=hx;rcases ed j (a+1) with hj|hj
  ·have:=(k5 i j hi g1 hj g3).1;omega
  ·exact key i j hi (by omega) g1 g2 (by omega) g3
 ·rcases ed j (a+1) with ez|ez
  ·have:=(k5 b0 j k1 (by omega) ez hx).2 rfl;omega
  ·exact key b0 j k1 (bc _) (by omega) hl (by omega) hx
theorem Found.end(h:Found r T f (T.length+1) o):IsMatch r T f o:=by
 cases o with
 | none=>
  rintro i hi ⟨j,h1,h2,h3⟩;exact h i j hi h1 (by omega) h3
 | some p=>
  obtain ⟨b0,e0⟩:=p;obtain ⟨k1,k2,k3,k4,k5⟩:=h;refine ⟨k1,k2,by omega,k4,λi hi hs hx=>?_,λj hj hl hx=>?_⟩
  ·obtain ⟨j,g1,g2,g3⟩:=hx;have:=(k5 i j hi g1 (by omega) g3).1;omega
  ·have:=(k5 b0 j k1 (by omega) (by omega) hx).2 rfl;omega
end bu
