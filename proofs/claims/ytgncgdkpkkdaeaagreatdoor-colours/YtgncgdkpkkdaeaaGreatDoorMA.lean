namespace aQ
variable {u v w:List UInt8}
inductive ej where
 | any
 | range (lo hi:UInt8)
 | union (a b:ej)
 | gZ (a:ej)
def ej.has:ej->UInt8->Bool
 | .any,_=>true
 | .range lo hi,b=>decide (lo.toNat<=b.toNat)&&decide (b.toNat<=hi.toNat)
 | .union a b,x=>a.has x||b.has x
 | .gZ a,x=>!a.has x
inductive Re where
 | cW
 | cV (c:ej)
 | seq (a b:Re)
 | alt (a b:Re)
 | star (a:Re)
 | plus (a:Re)
 | eG (a:Re)
inductive Mt:Re->List UInt8->Prop where
 | cW:Mt .cW []
 | cV {c:ej} {b:UInt8}:c.has b=true->Mt (.cV c) [b]
 | seq {a b:Re} {u v:List UInt8}:Mt a u->Mt b v->Mt (.seq a b) (u++v)
 | rG {a b:Re} {u:List UInt8}:Mt a u->Mt (.alt a b) u
 | rH {a b:Re} {u:List UInt8}:Mt b u->Mt (.alt a b) u
 | j9 {a:Re}:Mt (.star a) []
 | mQ {a:Re} {u v:List UInt8}:Mt a u->Mt (.star a) v->Mt (.star a) (u++v)
 | plus {a:Re} {u v:List UInt8}:Mt a u->Mt (.star a) v->Mt (.plus a) (u++v)
 | sU {a:Re}:Mt (.eG a) []
 | vu {a:Re} {u:List UInt8}:Mt a u->Mt (.eG a) u
def Re.aj:Re->Bool
 | .cW=>true
 | .cV _=>false
 | .seq a b=>a.aj&&b.aj
 | .alt a b=>a.aj||b.aj
 | .star _=>true
 | .plus a=>a.aj
 | .eG _=>true
theorem jK(r:Re):Mt r []<->r.aj=true:=by
 induction r with
 | cW=>exact ⟨λ_=>rfl,λ_=>.cW⟩
 | cV c=>exact ⟨λh=>(by cases h),λh=>(by simp[Re.aj]at h)⟩
 | seq a b kr kL=>
  constructor
  ·intro h;generalize hn:([]:List UInt8)=w at h
   cases h with
   | seq ha hb=>
    have h1:=List.append_eq_nil_iff.1 hn.symm;rw[h1.1]at ha;rw[h1.2]at hb;simp[Re.aj,kr.1 ha,kL.1 hb]
  ·intro h;simp[Re.aj]at h;exact Mt.seq (u:=[]) (v:=[]) (kr.2 h.1) (kL.2 h.2)
 | alt a b kr kL=>
  constructor
  ·intro h
   cases h with
   | rG h=>simp[Re.aj,kr.1 h]
   | rH h=>simp[Re.aj,kL.1 h]
  ·intro h;simp[Re.aj]at h;rcases h with h|h
   ·exact .rG (kr.2 h)
   ·exact .rH (kL.2 h)
 | star a kr=>exact ⟨λ_=>rfl,λ_=>.j9⟩
 | plus a kr=>
  constructor
  ·intro h;generalize hn:([]:List UInt8)=w at h
   cases h with
   | plus ha hb=>
    have h1:=List.append_eq_nil_iff.1 hn.symm;rw[h1.1]at ha;simp[Re.aj,kr.1 ha]
  ·intro h;exact Mt.plus (u:=[]) (v:=[]) (kr.2 h) .j9
 | eG a kr=>exact ⟨λ_=>rfl,λ_=>.sU⟩
variable {a b:Re}
theorem sV:Mt (.seq a b) w<->∃u v,w=u++v/\Mt a u/\Mt b v:=
 ⟨λh=>by cases h with|seq ha hb=>exact ⟨_,_,rfl,ha,hb⟩,λ⟨_,_,e,ha,hb⟩=>e▸.seq ha hb⟩
theorem SH:Mt (.alt a b) w<->Mt a w∨Mt b w:=
 ⟨λh=>by cases h with|rG h=>exact .inl h|rH h=>exact .inr h,λh=>h.elim .rG .rH⟩
theorem SI:Mt (.eG a) w<->w=[]∨Mt a w:=
 ⟨λh=>by cases h with|sU=>exact .inl rfl|vu h=>exact .inr h,λh=>h.elim (λe=>e▸.sU) .vu⟩
theorem OY:Mt (.plus a) w<->∃u v,w=u++v/\Mt a u/\Mt (.star a) v:=
 ⟨λh=>by cases h with|plus ha hb=>exact ⟨_,_,rfl,ha,hb⟩,λ⟨_,_,e,ha,hb⟩=>e▸.plus ha hb⟩
theorem SJ{c:ej}:Mt (.cV c) w<->∃b,w=[b]/\c.has b=true:=
 ⟨λh=>by cases h with|cV h=>exact ⟨_,rfl,h⟩,λ⟨_,e,h⟩=>e▸.cV h⟩
theorem sW:Mt .cW w<->w=[]:=
 ⟨λh=>by cases h;rfl,λe=>e▸.cW⟩
theorem ox{b:UInt8}(h:Mt (.star a) (b::w)):
  ∃u v,w=u++v/\Mt a (b::u)/\Mt (.star a) v:=by
 generalize hr:Re.star a=r at h;generalize hw:b::w=x at h
 induction h with
 | cW|cV _|seq _ _|rG _|rH _|plus _ _|sU|vu _=>cases hr
 | j9=>cases hw
 | mQ ha hb kr kL=>
  cases hr;rename_i u v
  cases u with
  | nil=>exact kL rfl hw
  | cons c u=>
   simp only[List.cons_append,List.cons.injEq]at hw;obtain ⟨rfl,rfl⟩:=hw;exact ⟨u,v,rfl,ha,hb⟩
theorem qI{x:UInt8}:
  Mt (.seq a b) (x::w)<->(∃u v,w=u++v/\Mt a (x::u)/\Mt b v)∨(a.aj=true/\Mt b (x::w)):=by
 rw[sV];constructor
 ·rintro ⟨u,v,e,ha,hb⟩
  cases u with
  | nil=>exact .inr ⟨(jK _).1 ha,by simpa [e] using hb⟩
  | cons c u=>
   simp only[List.cons_append,List.cons.injEq]at e;obtain ⟨rfl,rfl⟩:=e;exact .inl ⟨u,v,rfl,ha,hb⟩
 ·rintro (⟨u,v,e,ha,hb⟩|⟨hn,hb⟩)
  ·exact ⟨x::u,v,by simp[e],ha,hb⟩
  ·exact ⟨[],x::w,rfl,(jK _).2 hn,hb⟩
def Re.rev:Re->Re
 | .cW=>.cW
 | .cV c=>.cV c
 | .seq a b=>.seq b.rev a.rev
 | .alt a b=>.alt a.rev b.rev
 | .star a=>.star a.rev
 | .plus a=>.plus a.rev
 | .eG a=>.eG a.rev
theorem Re.rev_rev(r:Re):r.rev.rev=r:=by induction r<;>simp_all [Re.rev]
theorem oy(h:Mt (.star a) u)(k:Mt a v):Mt (.star a) (u++v):=by
 generalize hr:Re.star a=r at h
 induction h with
 | cW|cV _|seq _ _|rG _|rH _|plus _ _|sU|vu _=>cases hr
 | j9=>cases hr;simpa using Mt.mQ k .j9
 | mQ ha hb kr kL=>
  cases hr;rw[List.append_assoc];exact .mQ ha (kL rfl)
theorem Q0(h:Mt a u):Mt (.star a) u:=by simpa using Mt.mQ h .j9
theorem KU(h:Mt (.star a) u)(k:Mt a v):Mt (.plus a) (u++v):=by
 generalize hr:Re.star a=r at h
 induction h with
 | cW|cV _|seq _ _|rG _|rH _|plus _ _|sU|vu _=>cases hr
 | j9=>cases hr;simpa using Mt.plus k .j9
 | mQ ha hb kr kL=>
  cases hr;have h2:=kL rfl;rw[List.append_assoc];refine .plus ha ?_;exact oy hb k
variable {r:Re}
theorem wF(h:Mt r w):Mt r.rev w.reverse:=by
 induction h with
 | cW=>exact .cW
 | cV h=>exact .cV h
 | seq _ _ kr kL=>rw[List.reverse_append];exact .seq kL kr
 | rG _ ih=>exact .rG ih
 | rH _ ih=>exact .rH ih
 | j9=>exact .j9
 | mQ _ _ kr kL=>rw[List.reverse_append];exact oy kL kr
 | plus _ _ kr kL=>rw[List.reverse_append];exact KU kL kr
 | sU=>exact .sU
 | vu _ ih=>exact .vu ih
theorem SK:Mt r.rev w<->Mt r w.reverse:=by
 constructor
 ·intro h;simpa [Re.rev_rev] using wF h
 ·intro h;simpa using wF h
theorem fq(r:Re):r.rev.aj=r.aj:=by induction r<;>simp_all [Re.rev,Re.aj,Bool.and_comm]
end aQ
namespace aQ
variable {α:Type}
inductive aM where
 | cW
 | cV (i:Nat) (c:ej)
 | seq (i:Nat) (a b:aM)
 | alt (i:Nat) (a b:aM)
 | star (i:Nat) (a:aM)
 | plus (i j:Nat) (a:aM)
 | eG (i:Nat) (a:aM)
def aM.ix:aM->Nat
 | .cW=>0
 | .cV i _=>i
 | .seq i _ _=>i
 | .alt i _ _=>i
 | .star i _=>i
 | .plus i _ _=>i
 | .eG i _=>i
def aM.re:aM->Re
 | .cW=>.cW
 | .cV _ c=>.cV c
 | .seq _ a b=>.seq a.re b.re
 | .alt _ a b=>.alt a.re b.re
 | .star _ a=>.star a.re
 | .plus _ _ a=>.plus a.re
 | .eG _ a=>.eG a.re
inductive D where
 | base (a:aM)
 | snoc (d:D) (a:aM)
def D.re:D->Re
 | .base a=>a.re
 | .snoc d a=>.seq d.re a.re
def cB:D->aM->D
 | .base .cW,a=>.base a
 | d,a=>.snoc d a
theorem Fp(d:D)(a:aM)(w:List UInt8):Mt (cB d a).re w<->Mt (.seq d.re a.re) w:=by
 unfold cB;split
 ·simp only[D.re,aM.re,sV,sW];constructor
  ·intro h;exact ⟨[],w,rfl,rfl,h⟩
  ·rintro ⟨u,v,rfl,rfl,h⟩;exact h
 ·rfl
def jL(b:UInt8):aM->List D
 | .cW=>[]
 | .cV _ c=>if c.has b then [.base .cW] else []
 | .seq _ x y=>(jL b x).map (cB · y)++(if x.re.aj then jL b y else [])
 | .alt _ x y=>jL b x++jL b y
 | .star i x=>(jL b x).map (cB · (.star i x))
 | .plus _ j x=>(jL b x).map (cB · (.star j x))
 | .eG _ x=>jL b x
def pd(b:UInt8):D->List D
 | .base a=>jL b a
 | .snoc d a=>(pd b d).map (cB · a)++(if d.re.aj then jL b a else [])
theorem iK{l:List D}{y:aM}{w:List UInt8}:
  (∃d∈l.map (cB · y),Mt d.re w)<->∃u v,w=u++v/\(∃d∈l,Mt d.re u)/\Mt y.re v:=by
 constructor
 ·rintro ⟨d,hd,hm⟩;obtain ⟨d',SL,rfl⟩:=List.mem_map.1 hd;rw[Fp,sV]at hm;obtain ⟨u,v,e,h1,h2⟩:=hm;exact ⟨u,v,e,⟨d',SL,h1⟩,h2⟩
 ·rintro ⟨u,v,e,⟨d,hd,h1⟩,h2⟩;refine ⟨cB d y,List.mem_map.2 ⟨d,hd,rfl⟩,?_⟩;rw[Fp,sV];exact ⟨u,v,e,h1,h2⟩
theorem Ab(b:UInt8)(a:aM)(w:List UInt8):Mt a.re (b::w)<->∃d∈jL b a,Mt d.re w:=by
 induction a generalizing w with
 | cW=>simp[aM.re,jL,sW]
 | cV i c=>
  simp only[aM.re,jL,SJ];by_cases h:c.has b=true
  ·simp only[h,if_true,List.mem_singleton];constructor
   ·rintro ⟨c',e,_⟩;simp only[List.cons.injEq]at e;exact ⟨_,rfl,by simp[D.re,aM.re,sW,e.2]⟩
   ·rintro ⟨d,rfl,hm⟩;simp only[D.re,aM.re,sW]at hm;exact ⟨b,by simp[hm],h⟩
  ·simp only[h];constructor
   ·rintro ⟨c',e,h2⟩;simp only[List.cons.injEq]at e;rw[<-e.1]at h2;exact absurd h2 h
   ·rintro ⟨d,hd,_⟩;simp at hd
 | seq i x y sX sY=>
  simp only[aM.re,jL,qI,List.mem_append]
  rw[show (∃d,(d∈(jL b x).map (cB · y)∨d∈(if x.re.aj=true then jL b y else []))/\Mt d.re w) <->
   (∃d∈(jL b x).map (cB · y),Mt d.re w)∨(∃d∈(if x.re.aj=true then jL b y else []),Mt d.re w) from
   ⟨λ⟨d,h,m⟩=>h.elim (λh=>.inl ⟨d,h,m⟩) (λh=>.inr ⟨d,h,m⟩),
    λh=>h.elim (λ⟨d,h,m⟩=>⟨d,.inl h,m⟩) (λ⟨d,h,m⟩=>⟨d,.inr h,m⟩)⟩]
  rw[iK];simp only[sX,sY];by_cases h:x.re.aj=true
  ·simp[h]
  ·simp[h]
 | alt i x y sX sY=>
  simp only[aM.re,jL,SH,List.mem_append,sX,sY]
  exact ⟨λh=>h.elim (λ⟨d,h,m⟩=>⟨d,.inl h,m⟩) (λ⟨d,h,m⟩=>⟨d,.inr h,m⟩),
   λ⟨d,h,m⟩=>h.elim (λh=>.inl ⟨d,h,m⟩) (λh=>.inr ⟨d,h,m⟩)⟩
 | star i x ih=>
  simp only[aM.re,jL,iK];constructor
  ·intro h;obtain ⟨u,v,e,h1,h2⟩:=ox h;exact ⟨u,v,e,(ih u).1 h1,h2⟩
  ·rintro ⟨u,v,e,h1,h2⟩;subst e;exact Mt.mQ (u:=b::u) ((ih u).2 h1) h2
 | plus i j x ih=>
  simp only[aM.re,jL,iK,OY];constructor
  ·rintro ⟨u,v,e,h1,h2⟩
   cases u with
   | nil=>
    simp only[List.nil_append]at e;subst e;obtain ⟨u,v,e,h3,h4⟩:=ox h2;exact ⟨u,v,e,(ih u).1 h3,h4⟩
   | cons c u=>
    simp only[List.cons_append,List.cons.injEq]at e;obtain ⟨rfl,rfl⟩:=e;exact ⟨u,v,rfl,(ih u).1 h1,h2⟩
  ·rintro ⟨u,v,e,h1,h2⟩;subst e;exact ⟨b::u,v,rfl,(ih u).2 h1,h2⟩
 | eG i x ih=>
  simp only[aM.re,jL,SI,ih];simp
theorem Fq(b:UInt8)(d:D)(w:List UInt8):Mt d.re (b::w)<->∃d'∈pd b d,Mt d'.re w:=by
 induction d generalizing w with
 | base a=>exact Ab b a w
 | snoc d a ih=>
  simp only[D.re,pd,qI,List.mem_append]
  rw[show (∃d',(d'∈(pd b d).map (cB · a)∨d'∈(if d.re.aj=true then jL b a else []))/\Mt d'.re w) <->
   (∃d'∈(pd b d).map (cB · a),Mt d'.re w)∨(∃d'∈(if d.re.aj=true then jL b a else []),Mt d'.re w) from
   ⟨λ⟨d,h,m⟩=>h.elim (λh=>.inl ⟨d,h,m⟩) (λh=>.inr ⟨d,h,m⟩),
    λh=>h.elim (λ⟨d,h,m⟩=>⟨d,.inl h,m⟩) (λ⟨d,h,m⟩=>⟨d,.inr h,m⟩)⟩]
  rw[iK];simp only[ih,Ab b a];by_cases h:d.re.aj=true
  ·simp[h]
  ·simp[h]
def aM.leaves:aM->Nat
 | .cW=>0
 | .cV _ _=>1
 | .seq _ a b=>a.leaves+b.leaves
 | .alt _ a b=>a.leaves+b.leaves
 | .star _ a=>a.leaves
 | .plus _ _ a=>a.leaves
 | .eG _ a=>a.leaves
def allA:aM->List D
 | .cW=>[]
 | .cV _ _=>[.base .cW]
 | .seq _ x y=>(allA x).map (cB · y)++allA y
 | .alt _ x y=>allA x++allA y
 | .star i x=>(allA x).map (cB · (.star i x))
 | .plus _ j x=>(allA x).map (cB · (.star j x))
 | .eG _ x=>allA x
def pS:D->List D
 | .base a=>allA a
 | .snoc d a=>(pS d).map (cB · a)++allA a
theorem eU(a:aM):(allA a).length=a.leaves:=by induction a<;>simp_all [allA,aM.leaves]
theorem xX(b:UInt8)(a:aM):∀d∈jL b a,d∈allA a:=by
 induction a with
 | cW=>simp[jL]
 | cV i c=>simp only[jL,allA];split<;>simp
 | seq i x y sX sY=>
  intro d hd;simp only[jL,List.mem_append,List.mem_map]at hd;simp only[allA,List.mem_append,List.mem_map];rcases hd with ⟨d',h,rfl⟩|h
  ·exact .inl ⟨d',sX _ h,rfl⟩
  ·split at h
   ·exact .inr (sY _ h)
   ·simp at h
 | alt i x y sX sY=>
  intro d hd;simp only[jL,List.mem_append]at hd;simp only[allA,List.mem_append];exact hd.imp (sX _) (sY _)
 | star i x ih=>
  intro d hd;simp only[jL,List.mem_map]at hd;simp only[allA,List.mem_map];obtain ⟨d',h,rfl⟩:=hd;exact ⟨d',ih _ h,rfl⟩
 | plus i j x ih=>
  intro d hd;simp only[jL,List.mem_map]at hd;simp only[allA,List.mem_map];obtain ⟨d',h,rfl⟩:=hd;exact ⟨d',ih _ h,rfl⟩
 | eG i x ih=>exact ih
theorem KV(b:UInt8)(d:D):∀d'∈pd b d,d'∈pS d:=by
 induction d with
 | base a=>exact xX b a
 | snoc d a ih=>
  intro d' hd;simp only[pd,List.mem_append,List.mem_map]at hd;simp only[pS,List.mem_append,List.mem_map];rcases hd with ⟨d',h,rfl⟩|h
  ·exact .inl ⟨d',ih _ h,rfl⟩
  ·split at h
   ·exact .inr (xX b a _ h)
   ·simp at h
variable {a:aM}
theorem pT{d:D}{x:D}(h:x∈pS (cB d a)):(∃y∈pS d,x=cB y a)∨x∈allA a:=by
 unfold cB at h;split at h
 ·exact .inr h
 ·simp only[pS,List.mem_append,List.mem_map]at h;exact h.imp (λ⟨y,h,e⟩=>⟨y,h,e.symm⟩) id
theorem Ac(a:aM):∀d∈allA a,∀x∈pS d,x∈allA a:=by
 induction a with
 | cW=>simp[allA]
 | cV i c=>intro d hd x hx;simp only[allA,List.mem_singleton]at hd;subst hd;simp[pS,allA]at hx
 | seq i p q rI KW=>
  intro d hd x hx;simp only[allA,List.mem_append,List.mem_map]at hd ⊢;rcases hd with ⟨d',h,rfl⟩|h
  ·rcases pT hx with ⟨y,hy,rfl⟩|h2
   ·exact .inl ⟨y,rI _ h _ hy,rfl⟩
   ·exact .inr h2
  ·exact .inr (KW _ h _ hx)
 | alt i p q rI KW=>
  intro d hd x hx;simp only[allA,List.mem_append]at hd ⊢;exact hd.imp (λh=>rI _ h _ hx) (λh=>KW _ h _ hx)
 | star i p ih=>
  intro d hd x hx;simp only[allA,List.mem_map]at hd;obtain ⟨d',h,rfl⟩:=hd;rcases pT hx with ⟨y,hy,rfl⟩|h2
  ·simp only[allA,List.mem_map];exact ⟨y,ih _ h _ hy,rfl⟩
  ·exact h2
 | plus i j p ih=>
  intro d hd x hx;simp only[allA,List.mem_map]at hd;obtain ⟨d',h,rfl⟩:=hd;rcases pT hx with ⟨y,hy,rfl⟩|h2
  ·simp only[allA,List.mem_map];exact ⟨y,ih _ h _ hy,rfl⟩
  ·simpa [allA] using h2
 | eG i p ih=>exact ih
def met(a:aM):List D:=.base a::allA a
theorem Dh(a:aM)(b:UInt8)(d:D)(hd:d∈met a):∀x∈pd b d,x∈met a:=by
 intro x hx;simp only[met,List.mem_cons]at hd ⊢;rcases hd with rfl|h
 ·exact .inr (xX b a _ hx)
 ·exact .inr (Ac a d h x (KV b d _ hx))
theorem sZ(a:aM):(met a).length=a.leaves+1:=by simp[met,eU]
theorem ke [DecidableEq α] {l m:List α}(hn:l.Nodup)(h:∀x∈l,x∈m):l.length<=m.length:=by
 induction l generalizing m with
 | nil=>simp
 | cons a l ih=>
  have ha:a∈m:=h a (by simp);rw[List.nodup_cons]at hn;have h2:∀x∈l,x∈m.erase a:=λx hx=>by rw[List.mem_erase_of_ne (λe=>by subst e;exact hn.1 hx)];exact h x (by simp[hx])
  have h3:=ih hn.2 h2;rw[List.length_erase_of_mem ha]at h3;have:0<m.length:=List.length_pos_of_mem ha;simp;omega
structure Nd(α:Type) where
 kind:Nat
 has:α
 left:Nat
 right:Nat
 empty:Bool
def dH{α:Type}(gT:α->ej->Prop)(ns:List (Nd α)):aM->Prop
 | .cW=>∃h,ns[0]?=some ⟨0,h,0,0,true⟩
 | .cV i c=>i≠0/\∃h,ns[i]?=some ⟨1,h,0,0,false⟩/\gT h c
 | .seq i a b=>i≠0/\(∃h,ns[i]?=some ⟨2,h,a.ix,b.ix,a.re.aj&&b.re.aj⟩)/\dH gT ns a/\dH gT ns b
 | .alt i a b=>i≠0/\(∃h,ns[i]?=some ⟨3,h,a.ix,b.ix,a.re.aj||b.re.aj⟩)/\dH gT ns a/\dH gT ns b
 | .star i a=>i≠0/\(∃h,ns[i]?=some ⟨4,h,a.ix,0,true⟩)/\dH gT ns a
 | .plus i j a=>i≠0/\j≠0/\(∃h,ns[i]?=some ⟨5,h,a.ix,j,a.re.aj⟩)/\(∃h,ns[j]?=some ⟨4,h,a.ix,0,true⟩)/\dH gT ns a
 | .eG i a=>i≠0/\(∃h,ns[i]?=some ⟨6,h,a.ix,0,true⟩)/\dH gT ns a
theorem dH.mono{gT KX:α->ej->Prop}{ns Ad:List (Nd α)}(hc:∀h c,gT h c->KX h c)(hn:∀(i:Nat) nd,ns[i]?=some nd->Ad[i]?=some nd)(h:dH gT ns a):dH KX Ad a:=by
 induction a with
 | cW=>obtain ⟨x,h⟩:=h;exact ⟨x,hn _ _ h⟩
 | cV i c=>obtain ⟨h0,x,h1,h2⟩:=h;exact ⟨h0,x,hn _ _ h1,hc _ _ h2⟩
 | seq i a b kr kL=>obtain ⟨h0,⟨x,h1⟩,h2,h3⟩:=h;exact ⟨h0,⟨x,hn _ _ h1⟩,kr h2,kL h3⟩
 | alt i a b kr kL=>obtain ⟨h0,⟨x,h1⟩,h2,h3⟩:=h;exact ⟨h0,⟨x,hn _ _ h1⟩,kr h2,kL h3⟩
 | star i a ih=>obtain ⟨h0,⟨x,h1⟩,h2⟩:=h;exact ⟨h0,⟨x,hn _ _ h1⟩,ih h2⟩
 | plus i j a ih=>obtain ⟨h0,G3,⟨x,h1⟩,⟨y,h2⟩,h3⟩:=h;exact ⟨h0,G3,⟨x,hn _ _ h1⟩,⟨y,hn _ _ h2⟩,ih h3⟩
 | eG i a ih=>obtain ⟨h0,⟨x,h1⟩,h2⟩:=h;exact ⟨h0,⟨x,hn _ _ h1⟩,ih h2⟩
theorem dH.append{gT:α->ej->Prop}{ns ms:List (Nd α)}(h:dH gT ns a):dH gT (ns++ms) a:=
 h.mono (λ_ _ h=>h) (λi nd h=>by
  have hi:i<ns.length:=by
   rcases Nat.lt_or_ge i ns.length with h' | h'
   ·exact h'
   ·rw[List.getElem?_eq_none h']at h;cases h
  rw[List.getElem?_append_left hi];exact h)
theorem dH.empty{gT:α->ej->Prop}{ns:List (Nd α)}(h:dH gT ns a):∃nd,ns[a.ix]?=some nd/\nd.empty=a.re.aj:=by
 cases a with
 | cW=>obtain ⟨x,h⟩:=h;exact ⟨_,h,rfl⟩
 | cV i c=>obtain ⟨h0,x,h1,h2⟩:=h;exact ⟨_,h1,rfl⟩
 | seq i a b=>obtain ⟨h0,⟨x,h1⟩,h2,h3⟩:=h;exact ⟨_,h1,rfl⟩
 | alt i a b=>obtain ⟨h0,⟨x,h1⟩,h2,h3⟩:=h;exact ⟨_,h1,rfl⟩
 | star i a=>obtain ⟨h0,⟨x,h1⟩,h2⟩:=h;exact ⟨_,h1,rfl⟩
 | plus i j a=>obtain ⟨h0,G3,⟨x,h1⟩,⟨y,h2⟩,h3⟩:=h;exact ⟨_,h1,rfl⟩
 | eG i a=>obtain ⟨h0,⟨x,h1⟩,h2⟩:=h;exact ⟨_,h1,rfl⟩
theorem dH.lt{gT:α->ej->Prop}{ns:List (Nd α)}(h:dH gT ns a):a.ix<ns.length:=by
 obtain ⟨nd,h1,_⟩:=h.empty;rcases Nat.lt_or_ge a.ix ns.length with h' | h'
 ·exact h'
 ·rw[List.getElem?_eq_none h']at h1;cases h1
end aQ
namespace aQ
variable {c k:ej} {s s':List UInt8} {o o':Option (ej×List UInt8)}
def dI(c:UInt8):Bool:=[92,40,41,91,93,124,42,43,63,46,94,45].contains c
def dv:List UInt8->Option (UInt8×List UInt8)
 | []=>none
 | c::s=>
  if c=92 then
   match s with
   | []=>none
   | d::s=>if dI d then some (d,s) else none
  else if dI c then none
  else if 32<=c.toNat/\c.toNat<=126 then some (c,s) else none
def bh(s:List UInt8):Option (ej×List UInt8):=
 match dv s with
 | none=>none
 | some (lo,s1)=>
  match s1 with
  | []=>some (.range lo lo,[])
  | c::s2=>
   if c=45 then
    match dv s2 with
    | none=>none
    | some (hi,s3)=>if lo.toNat<=hi.toNat then some (.range lo hi,s3) else none
   else some (.range lo lo,c::s2)
inductive Ae:ej->List UInt8->Option (ej×List UInt8)->Prop where
 | stop {k:ej} {s:List UInt8}:Ae k (93::s) (some (k,s))
 | bad {k:ej} {s:List UInt8}:s.head?≠some 93->bh s=none->Ae k s none
 | more {k c:ej} {s s':List UInt8} {o:Option (ej×List UInt8)}:s.head?≠some 93->bh s=some (c,s')->Ae (.union k c) s' o->Ae k s o
inductive er:List UInt8->Option (ej×List UInt8)->Prop where
 | pos {s s':List UInt8} {c:ej} {o:Option (ej×List UInt8)}:s.head?≠some 94->bh s=some (c,s')->Ae c s' o->er s o
 | kM {s:List UInt8}:s.head?≠some 94->bh s=none->er s none
 | neg {s s':List UInt8} {c:ej} {o:Option (ej×List UInt8)}:bh s=some (c,s')->Ae c s' o->er (94::s) (o.map λp=>(.gZ p.1,p.2))
 | kN {s:List UInt8}:bh s=none->er (94::s) none
def bn:List Re->Re
 | []=>.cW
 | [r]=>r
 | r::rs=>.seq r (bn rs)
def atEnd(s:List UInt8):Prop:=s=[]∨s.head?=some 124∨s.head?=some 41
mutual
inductive aT:List UInt8->Option (Re×List UInt8)->Prop where
 | paren {s s':List UInt8} {r:Re}:bc s (some (r,41::s'))->aT (40::s) (some (r,s'))
 | ft {s:List UInt8}:bc s none->aT (40::s) none
 | eV {s s':List UInt8} {r:Re}:bc s (some (r,s'))->s'.head?≠some 41->aT (40::s) none
 | dot {s:List UInt8}:aT (46::s) (some (.cV .any,s))
 | cV {s:List UInt8} {o:Option (ej×List UInt8)}:er s o->aT (91::s) (o.map λp=>(.cV p.1,p.2))
 | one {s:List UInt8}:s.head?≠some 40->s.head?≠some 46->s.head?≠some 91->aT s ((dv s).map λp=>(.cV (.range p.1 p.1),p.2))
inductive cU:List UInt8->Option (Re×List UInt8)->Prop where
 | bad {s:List UInt8}:aT s none->cU s none
 | star {s s':List UInt8} {r:Re}:aT s (some (r,42::s'))->cU s (some (.star r,s'))
 | plus {s s':List UInt8} {r:Re}:aT s (some (r,43::s'))->cU s (some (.plus r,s'))
 | eG {s s':List UInt8} {r:Re}:aT s (some (r,63::s'))->cU s (some (.eG r,s'))
 | plain {s s':List UInt8} {r:Re}:aT s (some (r,s'))->s'.head?≠some 42->s'.head?≠some 43->s'.head?≠some 63->cU s (some (r,s'))
inductive cL:List UInt8->Option (List Re×List UInt8)->Prop where
 | stop {s:List UInt8}:atEnd s->cL s (some ([],s))
 | bad {s:List UInt8}:¬atEnd s->cU s none->cL s none
 | more {s s' s'':List UInt8} {r:Re} {rs:List Re}:¬atEnd s->cU s (some (r,s'))->cL s' (some (rs,s''))->cL s (some (r::rs,s''))
 | iL {s s':List UInt8} {r:Re}:¬atEnd s->cU s (some (r,s'))->cL s' none->cL s none
inductive gH:Re->List UInt8->Option (Re×List UInt8)->Prop where
 | stop {k:Re} {s:List UInt8}:s.head?≠some 124->gH k s (some (k,s))
 | bad {k:Re} {s:List UInt8}:cL s none->gH k (124::s) none
 | more {k:Re} {s s':List UInt8} {rs:List Re} {o:Option (Re×List UInt8)}:cL s (some (rs,s'))->gH (.alt k (bn rs)) s' o->gH k (124::s) o
inductive bc:List UInt8->Option (Re×List UInt8)->Prop where
 | bad {s:List UInt8}:cL s none->bc s none
 | one {s s':List UInt8} {rs:List Re} {o:Option (Re×List UInt8)}:cL s (some (rs,s'))->gH (bn rs) s' o->bc s o
end
theorem oz{b:UInt8}(h:dv s=some (b,s')):s'.length<s.length:=by
 unfold dv at h;split at h
 ·cases h
 ·split at h
  ·split at h
   ·cases h
   ·split at h
    ·simp only[Option.some.injEq,Prod.mk.injEq]at h;obtain ⟨_,rfl⟩:=h;simp;omega
    ·cases h
  ·split at h
   ·cases h
   ·split at h
    ·simp only[Option.some.injEq,Prod.mk.injEq]at h;obtain ⟨_,rfl⟩:=h;simp
    ·cases h
theorem jM(h:bh s=some (c,s')):s'.length<s.length:=by
 unfold bh at h;split at h
 ·cases h
 ·rename_i lo s1 h1;have l1:=oz h1;split at h
  ·simp only[Option.some.injEq,Prod.mk.injEq]at h;obtain ⟨_,rfl⟩:=h;simpa using l1
  ·split at h
   ·split at h
    ·cases h
    ·rename_i hi s3 h3;have l3:=oz h3;split at h
     ·simp only[Option.some.injEq,Prod.mk.injEq]at h;obtain ⟨_,rfl⟩:=h;simp at l1;omega
     ·cases h
   ·simp only[Option.some.injEq,Prod.mk.injEq]at h;obtain ⟨_,rfl⟩:=h;exact l1
theorem Ae.len(h:Ae k s o):∀c s',o=some (c,s')->s'.length<s.length:=by
 induction h with
 | stop=>intro c s' e;cases e;simp
 | bad _ _=>intro c s' e;cases e
 | more _ h _ ih=>intro c s' e;have:=ih c s' e;have:=jM h;omega
theorem er.len(h:er s (some (c,s'))):s'.length<s.length:=by
 generalize ho:some (c,s')=o at h
 cases h with
 | pos _ h k=>have:=k.len _ _ ho.symm;have:=jM h;omega
 | kM _ _=>cases ho
 | neg h k=>
  rename_i s s2 c2 o
  cases o with
  | none=>cases ho
  | some p=>
   simp only[Option.map_some,Option.some.injEq,Prod.mk.injEq]at ho;have:=k.len p.1 p.2 rfl;have:=jM h;rw[ho.2];simp;omega
 | kN _=>cases ho
theorem Ae.cS(h:Ae k s o)(h':Ae k s o'):o=o':=by
 induction h with
 | stop=>cases h' with
  | stop=>rfl
  | bad n _=>simp at n
  | more n _ _=>simp at n
 | bad n e=>cases h' with
  | stop=>simp at n
  | bad _ _=>rfl
  | more _ e' _=>rw[e]at e';cases e'
 | more n e _ ih=>cases h' with
  | stop=>simp at n
  | bad _ e'=>rw[e]at e';cases e'
  | more _ e' k'=>rw[e]at e';cases e';exact ih k'
theorem er.cS(h:er s o)(h':er s o'):o=o':=by
 cases h with
 | pos n e k=>cases h' with
  | pos _ e' k'=>rw[e]at e';cases e';exact k.cS k'
  | kM _ e'=>rw[e]at e';cases e'
  | neg _ _=>simp at n
  | kN _=>simp at n
 | kM n e=>cases h' with
  | pos _ e' k'=>rw[e]at e';cases e'
  | kM _ e'=>rfl
  | neg _ _=>simp at n
  | kN _=>simp at n
 | neg e k=>cases h' with
  | pos n _ _=>simp at n
  | kM n _=>simp at n
  | neg e' k'=>rw[e]at e';cases e';rw[k.cS k']
  | kN e'=>rw[e]at e';cases e'
 | kN e=>cases h' with
  | pos n _ _=>simp at n
  | kM n _=>simp at n
  | neg e' k'=>rw[e]at e';cases e'
  | kN e'=>rfl
mutual
theorem aT.cS{s:List UInt8}{o o':Option (Re×List UInt8)}(h:aT s o)(h':aT s o'):o=o':=by
 match h with
 | .paren k=>cases h' with
  | paren k'=>have:=bc.cS k k';simp only[Option.some.injEq,Prod.mk.injEq,List.cons.injEq,true_and]at this;rw[this.1,this.2]
  | ft k'=>have:=bc.cS k k';cases this
  | eV k' n=>have:=bc.cS k k';simp only[Option.some.injEq,Prod.mk.injEq]at this;rw[<-this.2]at n;simp at n
  | one n _ _=>simp at n
 | .ft k=>cases h' with
  | paren k'=>have:=bc.cS k k';cases this
  | ft k'=>rfl
  | eV k' n=>rfl
  | one n _ _=>simp at n
 | .eV k n=>cases h' with
  | paren k'=>have:=bc.cS k k';simp only[Option.some.injEq,Prod.mk.injEq]at this;rw[this.2]at n;simp at n
  | ft k'=>rfl
  | eV k' n=>rfl
  | one n _ _=>simp at n
 | .dot=>cases h' with
  | dot=>rfl
  | one _ n _=>simp at n
 | .cV k=>cases h' with
  | cV k'=>rw[k.cS k']
  | one _ _ n=>simp at n
 | .one n1 n2 n3=>cases h' with
  | paren _=>simp at n1
  | ft _=>simp at n1
  | eV _ _=>simp at n1
  | dot=>simp at n2
  | cV _=>simp at n3
  | one _ _ _=>rfl
 termination_by structural h
theorem cU.cS{s:List UInt8}{o o':Option (Re×List UInt8)}(h:cU s o)(h':cU s o'):o=o':=by
 match h with
 | .bad k=>cases h' with
  | bad _=>rfl
  | star k'=>cases aT.cS k k'
  | plus k'=>cases aT.cS k k'
  | eG k'=>cases aT.cS k k'
  | plain k' _ _ _=>cases aT.cS k k'
 | .star k=>cases h' with
  | bad k'=>cases aT.cS k k'
  | star k'=>cases aT.cS k k';rfl
  | plus k'=>cases aT.cS k k'
  | eG k'=>cases aT.cS k k'
  | plain k' n _ _=>cases aT.cS k k';simp at n
 | .plus k=>cases h' with
  | bad k'=>cases aT.cS k k'
  | star k'=>cases aT.cS k k'
  | plus k'=>cases aT.cS k k';rfl
  | eG k'=>cases aT.cS k k'
  | plain k' _ n _=>cases aT.cS k k';simp at n
 | .eG k=>cases h' with
  | bad k'=>cases aT.cS k k'
  | star k'=>cases aT.cS k k'
  | plus k'=>cases aT.cS k k'
  | eG k'=>cases aT.cS k k';rfl
  | plain k' _ _ n=>cases aT.cS k k';simp at n
 | .plain k n1 n2 n3=>cases h' with
  | bad k'=>cases aT.cS k k'
  | star k'=>cases aT.cS k k';simp at n1
  | plus k'=>cases aT.cS k k';simp at n2
  | eG k'=>cases aT.cS k k';simp at n3
  | plain k' _ _ _=>cases aT.cS k k';rfl
 termination_by structural h
theorem cL.cS{s:List UInt8}{o o':Option (List Re×List UInt8)}(h:cL s o)(h':cL s o'):o=o':=by
 match h with
 | .stop e=>cases h' with
  | stop _=>rfl
  | bad n _=>exact absurd e n
  | more n _ _=>exact absurd e n
  | iL n _ _=>exact absurd e n
 | .bad n k=>cases h' with
  | stop e=>exact absurd e n
  | bad _ _=>rfl
  | more _ k' _=>cases cU.cS k k'
  | iL _ _ _=>rfl
 | .more n k m=>cases h' with
  | stop e=>exact absurd e n
  | bad _ k'=>cases cU.cS k k'
  | more _ k' m'=>cases cU.cS k k';cases cL.cS m m';rfl
  | iL _ k' m'=>cases cU.cS k k';cases cL.cS m m'
 | .iL n k m=>cases h' with
  | stop e=>exact absurd e n
  | bad _ k'=>rfl
  | more _ k' m'=>cases cU.cS k k';cases cL.cS m m'
  | iL _ k' m'=>rfl
 termination_by structural h
theorem gH.cS{k:Re}{s:List UInt8}{o o':Option (Re×List UInt8)}(h:gH k s o)(h':gH k s o'):o=o':=by
 match h with
 | .stop n=>cases h' with
  | stop _=>rfl
  | bad _=>simp at n
  | more _ _=>simp at n
 | .bad c=>cases h' with
  | stop n=>simp at n
  | bad _=>rfl
  | more c' _=>cases cL.cS c c'
 | .more c m=>cases h' with
  | stop n=>simp at n
  | bad c'=>cases cL.cS c c'
  | more c' m'=>cases cL.cS c c';exact gH.cS m m'
 termination_by structural h
theorem bc.cS{s:List UInt8}{o o':Option (Re×List UInt8)}(h:bc s o)(h':bc s o'):o=o':=by
 match h with
 | .bad c=>cases h' with
  | bad _=>rfl
  | one c' _=>cases cL.cS c c'
 | .one c m=>cases h' with
  | bad c'=>cases cL.cS c c'
  | one c' m'=>cases cL.cS c c';exact gH.cS m m'
 termination_by structural h
end
end aQ
