namespace aO
variable {u v w:List UInt8}
inductive eC where
 | any
 | range (lo hi:UInt8)
 | union (a b:eC)
 | iy (a:eC)
def eC.has:eC->UInt8->Bool
 | .any,_=>true
 | .range lo hi,b=>decide (lo.toNat<=b.toNat)&&decide (b.toNat<=hi.toNat)
 | .union a b,x=>a.has x||b.has x
 | .iy a,x=>!a.has x
inductive Re where
 | dh
 | cY (c:eC)
 | seq (a b:Re)
 | alt (a b:Re)
 | star (a:Re)
 | plus (a:Re)
 | eU (a:Re)
inductive Mt:Re->List UInt8->Prop where
 | dh:Mt .dh []
 | cY {c:eC} {b:UInt8}:c.has b=true->Mt (.cY c) [b]
 | seq {a b:Re} {u v:List UInt8}:Mt a u->Mt b v->Mt (.seq a b) (u++v)
 | sU {a b:Re} {u:List UInt8}:Mt a u->Mt (.alt a b) u
 | sV {a b:Re} {u:List UInt8}:Mt b u->Mt (.alt a b) u
 | kL {a:Re}:Mt (.star a) []
 | nJ {a:Re} {u v:List UInt8}:Mt a u->Mt (.star a) v->Mt (.star a) (u++v)
 | plus {a:Re} {u v:List UInt8}:Mt a u->Mt (.star a) v->Mt (.plus a) (u++v)
 | uj {a:Re}:Mt (.eU a) []
 | wV {a:Re} {u:List UInt8}:Mt a u->Mt (.eU a) u
def Re.aq:Re->Bool
 | .dh=>true
 | .cY _=>false
 | .seq a b=>a.aq&&b.aq
 | .alt a b=>a.aq||b.aq
 | .star _=>true
 | .plus a=>a.aq
 | .eU _=>true
theorem j9(r:Re):Mt r []<->r.aq=true:=by
 induction r with
 | dh=>exact ⟨λ_=>rfl,λ_=>.dh⟩
 | cY c=>exact ⟨λh=>(by cases h),λh=>(by simp[Re.aq]at h)⟩
 | seq a b kW lu=>
  constructor
  ·intro h;generalize hn:([]:List UInt8)=w at h
   cases h with
   | seq ha hb=>
    have h1:=List.append_eq_nil_iff.1 hn.symm;rw[h1.1]at ha;rw[h1.2]at hb;simp[Re.aq,kW.1 ha,lu.1 hb]
  ·intro h;simp[Re.aq]at h;exact Mt.seq (u:=[]) (v:=[]) (kW.2 h.1) (lu.2 h.2)
 | alt a b kW lu=>
  constructor
  ·intro h
   cases h with
   | sU h=>simp[Re.aq,kW.1 h]
   | sV h=>simp[Re.aq,lu.1 h]
  ·intro h;simp[Re.aq]at h;rcases h with h|h
   ·exact .sU (kW.2 h)
   ·exact .sV (lu.2 h)
 | star a kW=>exact ⟨λ_=>rfl,λ_=>.kL⟩
 | plus a kW=>
  constructor
  ·intro h;generalize hn:([]:List UInt8)=w at h
   cases h with
   | plus ha hb=>
    have h1:=List.append_eq_nil_iff.1 hn.symm;rw[h1.1]at ha;simp[Re.aq,kW.1 ha]
  ·intro h;exact Mt.plus (u:=[]) (v:=[]) (kW.2 h) .kL
 | eU a kW=>exact ⟨λ_=>rfl,λ_=>.uj⟩
variable {a b:Re}
theorem uk:Mt (.seq a b) w<->∃u v,w=u++v/\Mt a u/\Mt b v:=
 ⟨λh=>by cases h with|seq ha hb=>exact ⟨_,_,rfl,ha,hb⟩,λ⟨_,_,e,ha,hb⟩=>e▸.seq ha hb⟩
theorem Ul:Mt (.alt a b) w<->Mt a w∨Mt b w:=
 ⟨λh=>by cases h with|sU h=>exact .inl h|sV h=>exact .inr h,λh=>h.elim .sU .sV⟩
theorem Um:Mt (.eU a) w<->w=[]∨Mt a w:=
 ⟨λh=>by cases h with|uj=>exact .inl rfl|wV h=>exact .inr h,λh=>h.elim (λe=>e▸.uj) .wV⟩
theorem Qt:Mt (.plus a) w<->∃u v,w=u++v/\Mt a u/\Mt (.star a) v:=
 ⟨λh=>by cases h with|plus ha hb=>exact ⟨_,_,rfl,ha,hb⟩,λ⟨_,_,e,ha,hb⟩=>e▸.plus ha hb⟩
theorem Un{c:eC}:Mt (.cY c) w<->∃b,w=[b]/\c.has b=true:=
 ⟨λh=>by cases h with|cY h=>exact ⟨_,rfl,h⟩,λ⟨_,e,h⟩=>e▸.cY h⟩
theorem ul:Mt .dh w<->w=[]:=
 ⟨λh=>by cases h;rfl,λe=>e▸.dh⟩
theorem pB{b:UInt8}(h:Mt (.star a) (b::w)):
  ∃u v,w=u++v/\Mt a (b::u)/\Mt (.star a) v:=by
 generalize hr:Re.star a=r at h;generalize hw:b::w=x at h
 induction h with
 | dh|cY _|seq _ _|sU _|sV _|plus _ _|uj|wV _=>cases hr
 | kL=>cases hw
 | nJ ha hb kW lu=>
  cases hr;rename_i u v
  cases u with
  | nil=>exact lu rfl hw
  | cons c u=>
   simp only[List.cons_append,List.cons.injEq]at hw;obtain ⟨rfl,rfl⟩:=hw;exact ⟨u,v,rfl,ha,hb⟩
theorem rQ{x:UInt8}:
  Mt (.seq a b) (x::w)<->(∃u v,w=u++v/\Mt a (x::u)/\Mt b v)∨(a.aq=true/\Mt b (x::w)):=by
 rw[uk];constructor
 ·rintro ⟨u,v,e,ha,hb⟩
  cases u with
  | nil=>exact .inr ⟨(j9 _).1 ha,by simpa [e] using hb⟩
  | cons c u=>
   simp only[List.cons_append,List.cons.injEq]at e;obtain ⟨rfl,rfl⟩:=e;exact .inl ⟨u,v,rfl,ha,hb⟩
 ·rintro (⟨u,v,e,ha,hb⟩|⟨hn,hb⟩)
  ·exact ⟨x::u,v,by simp[e],ha,hb⟩
  ·exact ⟨[],x::w,rfl,(j9 _).2 hn,hb⟩
def Re.rev:Re->Re
 | .dh=>.dh
 | .cY c=>.cY c
 | .seq a b=>.seq b.rev a.rev
 | .alt a b=>.alt a.rev b.rev
 | .star a=>.star a.rev
 | .plus a=>.plus a.rev
 | .eU a=>.eU a.rev
theorem Re.rev_rev(r:Re):r.rev.rev=r:=by induction r<;>simp_all [Re.rev]
theorem pC(h:Mt (.star a) u)(k:Mt a v):Mt (.star a) (u++v):=by
 generalize hr:Re.star a=r at h
 induction h with
 | dh|cY _|seq _ _|sU _|sV _|plus _ _|uj|wV _=>cases hr
 | kL=>cases hr;simpa using Mt.nJ k .kL
 | nJ ha hb kW lu=>
  cases hr;rw[List.append_assoc];exact .nJ ha (lu rfl)
theorem SQ(h:Mt a u):Mt (.star a) u:=by simpa using Mt.nJ h .kL
theorem Mh(h:Mt (.star a) u)(k:Mt a v):Mt (.plus a) (u++v):=by
 generalize hr:Re.star a=r at h
 induction h with
 | dh|cY _|seq _ _|sU _|sV _|plus _ _|uj|wV _=>cases hr
 | kL=>cases hr;simpa using Mt.plus k .kL
 | nJ ha hb kW lu=>
  cases hr;have h2:=lu rfl;rw[List.append_assoc];refine .plus ha ?_;exact pC hb k
variable {r:Re}
theorem xK(h:Mt r w):Mt r.rev w.reverse:=by
 induction h with
 | dh=>exact .dh
 | cY h=>exact .cY h
 | seq _ _ kW lu=>rw[List.reverse_append];exact .seq lu kW
 | sU _ ih=>exact .sU ih
 | sV _ ih=>exact .sV ih
 | kL=>exact .kL
 | nJ _ _ kW lu=>rw[List.reverse_append];exact pC lu kW
 | plus _ _ kW lu=>rw[List.reverse_append];exact Mh lu kW
 | uj=>exact .uj
 | wV _ ih=>exact .wV ih
theorem Uo:Mt r.rev w<->Mt r w.reverse:=by
 constructor
 ·intro h;simpa [Re.rev_rev] using xK h
 ·intro h;simpa using xK h
theorem fG(r:Re):r.rev.aq=r.aq:=by induction r<;>simp_all [Re.rev,Re.aq,Bool.and_comm]
end aO
namespace aO
variable {α:Type}
inductive aN where
 | dh
 | cY (i:Nat) (c:eC)
 | seq (i:Nat) (a b:aN)
 | alt (i:Nat) (a b:aN)
 | star (i:Nat) (a:aN)
 | plus (i j:Nat) (a:aN)
 | eU (i:Nat) (a:aN)
def aN.ix:aN->Nat
 | .dh=>0
 | .cY i _=>i
 | .seq i _ _=>i
 | .alt i _ _=>i
 | .star i _=>i
 | .plus i _ _=>i
 | .eU i _=>i
def aN.re:aN->Re
 | .dh=>.dh
 | .cY _ c=>.cY c
 | .seq _ a b=>.seq a.re b.re
 | .alt _ a b=>.alt a.re b.re
 | .star _ a=>.star a.re
 | .plus _ _ a=>.plus a.re
 | .eU _ a=>.eU a.re
inductive D where
 | base (a:aN)
 | snoc (d:D) (a:aN)
def D.re:D->Re
 | .base a=>a.re
 | .snoc d a=>.seq d.re a.re
def cG:D->aN->D
 | .base .dh,a=>.base a
 | d,a=>.snoc d a
theorem GJ(d:D)(a:aN)(w:List UInt8):Mt (cG d a).re w<->Mt (.seq d.re a.re) w:=by
 unfold cG;split
 ·simp only[D.re,aN.re,uk,ul];constructor
  ·intro h;exact ⟨[],w,rfl,rfl,h⟩
  ·rintro ⟨u,v,rfl,rfl,h⟩;exact h
 ·rfl
def ke(b:UInt8):aN->List D
 | .dh=>[]
 | .cY _ c=>if c.has b then [.base .dh] else []
 | .seq _ x y=>(ke b x).map (cG · y)++(if x.re.aq then ke b y else [])
 | .alt _ x y=>ke b x++ke b y
 | .star i x=>(ke b x).map (cG · (.star i x))
 | .plus _ j x=>(ke b x).map (cG · (.star j x))
 | .eU _ x=>ke b x
def pd(b:UInt8):D->List D
 | .base a=>ke b a
 | .snoc d a=>(pd b d).map (cG · a)++(if d.re.aq then ke b a else [])
theorem jg{l:List D}{y:aN}{w:List UInt8}:
  (∃d∈l.map (cG · y),Mt d.re w)<->∃u v,w=u++v/\(∃d∈l,Mt d.re u)/\Mt y.re v:=by
 constructor
 ·rintro ⟨d,hd,hm⟩;obtain ⟨d',Up,rfl⟩:=List.mem_map.1 hd;rw[GJ,uk]at hm;obtain ⟨u,v,e,h1,h2⟩:=hm;exact ⟨u,v,e,⟨d',Up,h1⟩,h2⟩
 ·rintro ⟨u,v,e,⟨d,hd,h1⟩,h2⟩;refine ⟨cG d y,List.mem_map.2 ⟨d,hd,rfl⟩,?_⟩;rw[GJ,uk];exact ⟨u,v,e,h1,h2⟩
theorem Bq(b:UInt8)(a:aN)(w:List UInt8):Mt a.re (b::w)<->∃d∈ke b a,Mt d.re w:=by
 induction a generalizing w with
 | dh=>simp[aN.re,ke,ul]
 | cY i c=>
  simp only[aN.re,ke,Un];by_cases h:c.has b=true
  ·simp only[h,if_true,List.mem_singleton];constructor
   ·rintro ⟨c',e,_⟩;simp only[List.cons.injEq]at e;exact ⟨_,rfl,by simp[D.re,aN.re,ul,e.2]⟩
   ·rintro ⟨d,rfl,hm⟩;simp only[D.re,aN.re,ul]at hm;exact ⟨b,by simp[hm],h⟩
  ·simp only[h];constructor
   ·rintro ⟨c',e,h2⟩;simp only[List.cons.injEq]at e;rw[<-e.1]at h2;exact absurd h2 h
   ·rintro ⟨d,hd,_⟩;simp at hd
 | seq i x y um uo=>
  simp only[aN.re,ke,rQ,List.mem_append]
  rw[show (∃d,(d∈(ke b x).map (cG · y)∨d∈(if x.re.aq=true then ke b y else []))/\Mt d.re w) <->
   (∃d∈(ke b x).map (cG · y),Mt d.re w)∨(∃d∈(if x.re.aq=true then ke b y else []),Mt d.re w) from
   ⟨λ⟨d,h,m⟩=>h.elim (λh=>.inl ⟨d,h,m⟩) (λh=>.inr ⟨d,h,m⟩),
    λh=>h.elim (λ⟨d,h,m⟩=>⟨d,.inl h,m⟩) (λ⟨d,h,m⟩=>⟨d,.inr h,m⟩)⟩]
  rw[jg];simp only[um,uo];by_cases h:x.re.aq=true
  ·simp[h]
  ·simp[h]
 | alt i x y um uo=>
  simp only[aN.re,ke,Ul,List.mem_append,um,uo]
  exact ⟨λh=>h.elim (λ⟨d,h,m⟩=>⟨d,.inl h,m⟩) (λ⟨d,h,m⟩=>⟨d,.inr h,m⟩),
   λ⟨d,h,m⟩=>h.elim (λh=>.inl ⟨d,h,m⟩) (λh=>.inr ⟨d,h,m⟩)⟩
 | star i x ih=>
  simp only[aN.re,ke,jg];constructor
  ·intro h;obtain ⟨u,v,e,h1,h2⟩:=pB h;exact ⟨u,v,e,(ih u).1 h1,h2⟩
  ·rintro ⟨u,v,e,h1,h2⟩;subst e;exact Mt.nJ (u:=b::u) ((ih u).2 h1) h2
 | plus i j x ih=>
  simp only[aN.re,ke,jg,Qt];constructor
  ·rintro ⟨u,v,e,h1,h2⟩
   cases u with
   | nil=>
    simp only[List.nil_append]at e;subst e;obtain ⟨u,v,e,h3,h4⟩:=pB h2;exact ⟨u,v,e,(ih u).1 h3,h4⟩
   | cons c u=>
    simp only[List.cons_append,List.cons.injEq]at e;obtain ⟨rfl,rfl⟩:=e;exact ⟨u,v,rfl,(ih u).1 h1,h2⟩
  ·rintro ⟨u,v,e,h1,h2⟩;subst e;exact ⟨b::u,v,rfl,(ih u).2 h1,h2⟩
 | eU i x ih=>
  simp only[aN.re,ke,Um,ih];simp
theorem GK(b:UInt8)(d:D)(w:List UInt8):Mt d.re (b::w)<->∃d'∈pd b d,Mt d'.re w:=by
 induction d generalizing w with
 | base a=>exact Bq b a w
 | snoc d a ih=>
  simp only[D.re,pd,rQ,List.mem_append]
  rw[show (∃d',(d'∈(pd b d).map (cG · a)∨d'∈(if d.re.aq=true then ke b a else []))/\Mt d'.re w) <->
   (∃d'∈(pd b d).map (cG · a),Mt d'.re w)∨(∃d'∈(if d.re.aq=true then ke b a else []),Mt d'.re w) from
   ⟨λ⟨d,h,m⟩=>h.elim (λh=>.inl ⟨d,h,m⟩) (λh=>.inr ⟨d,h,m⟩),
    λh=>h.elim (λ⟨d,h,m⟩=>⟨d,.inl h,m⟩) (λ⟨d,h,m⟩=>⟨d,.inr h,m⟩)⟩]
  rw[jg];simp only[ih,Bq b a];by_cases h:d.re.aq=true
  ·simp[h]
  ·simp[h]
def aN.leaves:aN->Nat
 | .dh=>0
 | .cY _ _=>1
 | .seq _ a b=>a.leaves+b.leaves
 | .alt _ a b=>a.leaves+b.leaves
 | .star _ a=>a.leaves
 | .plus _ _ a=>a.leaves
 | .eU _ a=>a.leaves
def allA:aN->List D
 | .dh=>[]
 | .cY _ _=>[.base .dh]
 | .seq _ x y=>(allA x).map (cG · y)++allA y
 | .alt _ x y=>allA x++allA y
 | .star i x=>(allA x).map (cG · (.star i x))
 | .plus _ j x=>(allA x).map (cG · (.star j x))
 | .eU _ x=>allA x
def qI:D->List D
 | .base a=>allA a
 | .snoc d a=>(qI d).map (cG · a)++allA a
theorem ft(a:aN):(allA a).length=a.leaves:=by induction a<;>simp_all [allA,aN.leaves]
theorem zg(b:UInt8)(a:aN):∀d∈ke b a,d∈allA a:=by
 induction a with
 | dh=>simp[ke]
 | cY i c=>simp only[ke,allA];split<;>simp
 | seq i x y um uo=>
  intro d hd;simp only[ke,List.mem_append,List.mem_map]at hd;simp only[allA,List.mem_append,List.mem_map];rcases hd with ⟨d',h,rfl⟩|h
  ·exact .inl ⟨d',um _ h,rfl⟩
  ·split at h
   ·exact .inr (uo _ h)
   ·simp at h
 | alt i x y um uo=>
  intro d hd;simp only[ke,List.mem_append]at hd;simp only[allA,List.mem_append];exact hd.imp (um _) (uo _)
 | star i x ih=>
  intro d hd;simp only[ke,List.mem_map]at hd;simp only[allA,List.mem_map];obtain ⟨d',h,rfl⟩:=hd;exact ⟨d',ih _ h,rfl⟩
 | plus i j x ih=>
  intro d hd;simp only[ke,List.mem_map]at hd;simp only[allA,List.mem_map];obtain ⟨d',h,rfl⟩:=hd;exact ⟨d',ih _ h,rfl⟩
 | eU i x ih=>exact ih
theorem Mi(b:UInt8)(d:D):∀d'∈pd b d,d'∈qI d:=by
 induction d with
 | base a=>exact zg b a
 | snoc d a ih=>
  intro d' hd;simp only[pd,List.mem_append,List.mem_map]at hd;simp only[qI,List.mem_append,List.mem_map];rcases hd with ⟨d',h,rfl⟩|h
  ·exact .inl ⟨d',ih _ h,rfl⟩
  ·split at h
   ·exact .inr (zg b a _ h)
   ·simp at h
variable {a:aN}
theorem qJ{d:D}{x:D}(h:x∈qI (cG d a)):(∃y∈qI d,x=cG y a)∨x∈allA a:=by
 unfold cG at h;split at h
 ·exact .inr h
 ·simp only[qI,List.mem_append,List.mem_map]at h;exact h.imp (λ⟨y,h,e⟩=>⟨y,h,e.symm⟩) id
theorem Bt(a:aN):∀d∈allA a,∀x∈qI d,x∈allA a:=by
 induction a with
 | dh=>simp[allA]
 | cY i c=>intro d hd x hx;simp only[allA,List.mem_singleton]at hd;subst hd;simp[qI,allA]at hx
 | seq i p q sW Mj=>
  intro d hd x hx;simp only[allA,List.mem_append,List.mem_map]at hd ⊢;rcases hd with ⟨d',h,rfl⟩|h
  ·rcases qJ hx with ⟨y,hy,rfl⟩|h2
   ·exact .inl ⟨y,sW _ h _ hy,rfl⟩
   ·exact .inr h2
  ·exact .inr (Mj _ h _ hx)
 | alt i p q sW Mj=>
  intro d hd x hx;simp only[allA,List.mem_append]at hd ⊢;exact hd.imp (λh=>sW _ h _ hx) (λh=>Mj _ h _ hx)
 | star i p ih=>
  intro d hd x hx;simp only[allA,List.mem_map]at hd;obtain ⟨d',h,rfl⟩:=hd;rcases qJ hx with ⟨y,hy,rfl⟩|h2
  ·simp only[allA,List.mem_map];exact ⟨y,ih _ h _ hy,rfl⟩
  ·exact h2
 | plus i j p ih=>
  intro d hd x hx;simp only[allA,List.mem_map]at hd;obtain ⟨d',h,rfl⟩:=hd;rcases qJ hx with ⟨y,hy,rfl⟩|h2
  ·simp only[allA,List.mem_map];exact ⟨y,ih _ h _ hy,rfl⟩
  ·simpa [allA] using h2
 | eU i p ih=>exact ih
def met(a:aN):List D:=.base a::allA a
theorem Er(a:aN)(b:UInt8)(d:D)(hd:d∈met a):∀x∈pd b d,x∈met a:=by
 intro x hx;simp only[met,List.mem_cons]at hd ⊢;rcases hd with rfl|h
 ·exact .inr (zg b a _ hx)
 ·exact .inr (Bt a d h x (Mi b d _ hx))
theorem uq(a:aN):(met a).length=a.leaves+1:=by simp[met,ft]
theorem kM [DecidableEq α] {l m:List α}(hn:l.Nodup)(h:∀x∈l,x∈m):l.length<=m.length:=by
 induction l generalizing m with
 | nil=>simp
 | cons a l ih=>
  have ha:a∈m:=h a (by simp);rw[List.nodup_cons]at hn;have h2:∀x∈l,x∈m.erase a:=λx hx=>by rw[List.mem_erase_of_ne (λe=>by subst e;exact hn.1 hx)];exact h x (by simp[hx])
  have h3:=ih hn.2 h2;rw[List.length_erase_of_mem ha]at h3;have:0<m.length:=List.length_pos_of_mem ha;simp;omega
structure Nd(α:Type) where
 kind:Nat
 has:α
 left:Nat
 right:Nat
 empty:Bool
def dR{α:Type}(il:α->eC->Prop)(ns:List (Nd α)):aN->Prop
 | .dh=>∃h,ns[0]?=some ⟨0,h,0,0,true⟩
 | .cY i c=>i≠0/\∃h,ns[i]?=some ⟨1,h,0,0,false⟩/\il h c
 | .seq i a b=>i≠0/\(∃h,ns[i]?=some ⟨2,h,a.ix,b.ix,a.re.aq&&b.re.aq⟩)/\dR il ns a/\dR il ns b
 | .alt i a b=>i≠0/\(∃h,ns[i]?=some ⟨3,h,a.ix,b.ix,a.re.aq||b.re.aq⟩)/\dR il ns a/\dR il ns b
 | .star i a=>i≠0/\(∃h,ns[i]?=some ⟨4,h,a.ix,0,true⟩)/\dR il ns a
 | .plus i j a=>i≠0/\j≠0/\(∃h,ns[i]?=some ⟨5,h,a.ix,j,a.re.aq⟩)/\(∃h,ns[j]?=some ⟨4,h,a.ix,0,true⟩)/\dR il ns a
 | .eU i a=>i≠0/\(∃h,ns[i]?=some ⟨6,h,a.ix,0,true⟩)/\dR il ns a
theorem dR.mono{il Mk:α->eC->Prop}{ns Bu:List (Nd α)}(hc:∀h c,il h c->Mk h c)(hn:∀(i:Nat) nd,ns[i]?=some nd->Bu[i]?=some nd)(h:dR il ns a):dR Mk Bu a:=by
 induction a with
 | dh=>obtain ⟨x,h⟩:=h;exact ⟨x,hn _ _ h⟩
 | cY i c=>obtain ⟨h0,x,h1,h2⟩:=h;exact ⟨h0,x,hn _ _ h1,hc _ _ h2⟩
 | seq i a b kW lu=>obtain ⟨h0,⟨x,h1⟩,h2,h3⟩:=h;exact ⟨h0,⟨x,hn _ _ h1⟩,kW h2,lu h3⟩
 | alt i a b kW lu=>obtain ⟨h0,⟨x,h1⟩,h2,h3⟩:=h;exact ⟨h0,⟨x,hn _ _ h1⟩,kW h2,lu h3⟩
 | star i a ih=>obtain ⟨h0,⟨x,h1⟩,h2⟩:=h;exact ⟨h0,⟨x,hn _ _ h1⟩,ih h2⟩
 | plus i j a ih=>obtain ⟨h0,I0,⟨x,h1⟩,⟨y,h2⟩,h3⟩:=h;exact ⟨h0,I0,⟨x,hn _ _ h1⟩,⟨y,hn _ _ h2⟩,ih h3⟩
 | eU i a ih=>obtain ⟨h0,⟨x,h1⟩,h2⟩:=h;exact ⟨h0,⟨x,hn _ _ h1⟩,ih h2⟩
theorem dR.append{il:α->eC->Prop}{ns ms:List (Nd α)}(h:dR il ns a):dR il (ns++ms) a:=
 h.mono (λ_ _ h=>h) (λi nd h=>by
  have hi:i<ns.length:=by
   rcases Nat.lt_or_ge i ns.length with h' | h'
   ·exact h'
   ·rw[List.getElem?_eq_none h']at h;cases h
  rw[List.getElem?_append_left hi];exact h)
theorem dR.empty{il:α->eC->Prop}{ns:List (Nd α)}(h:dR il ns a):∃nd,ns[a.ix]?=some nd/\nd.empty=a.re.aq:=by
 cases a with
 | dh=>obtain ⟨x,h⟩:=h;exact ⟨_,h,rfl⟩
 | cY i c=>obtain ⟨h0,x,h1,h2⟩:=h;exact ⟨_,h1,rfl⟩
 | seq i a b=>obtain ⟨h0,⟨x,h1⟩,h2,h3⟩:=h;exact ⟨_,h1,rfl⟩
 | alt i a b=>obtain ⟨h0,⟨x,h1⟩,h2,h3⟩:=h;exact ⟨_,h1,rfl⟩
 | star i a=>obtain ⟨h0,⟨x,h1⟩,h2⟩:=h;exact ⟨_,h1,rfl⟩
 | plus i j a=>obtain ⟨h0,I0,⟨x,h1⟩,⟨y,h2⟩,h3⟩:=h;exact ⟨_,h1,rfl⟩
 | eU i a=>obtain ⟨h0,⟨x,h1⟩,h2⟩:=h;exact ⟨_,h1,rfl⟩
theorem dR.lt{il:α->eC->Prop}{ns:List (Nd α)}(h:dR il ns a):a.ix<ns.length:=by
 obtain ⟨nd,h1,_⟩:=h.empty;rcases Nat.lt_or_ge a.ix ns.length with h' | h'
 ·exact h'
 ·rw[List.getElem?_eq_none h']at h1;cases h1
end aO
namespace aO
variable {c k:eC} {s s':List UInt8} {o o':Option (eC×List UInt8)}
def dS(c:UInt8):Bool:=[92,40,41,91,93,124,42,43,63,46,94,45].contains c
def dC:List UInt8->Option (UInt8×List UInt8)
 | []=>none
 | c::s=>
  if c=92 then
   match s with
   | []=>none
   | d::s=>if dS d then some (d,s) else none
  else if dS c then none
  else if 32<=c.toNat/\c.toNat<=126 then some (c,s) else none
def bn(s:List UInt8):Option (eC×List UInt8):=
 match dC s with
 | none=>none
 | some (lo,s1)=>
  match s1 with
  | []=>some (.range lo lo,[])
  | c::s2=>
   if c=45 then
    match dC s2 with
    | none=>none
    | some (hi,s3)=>if lo.toNat<=hi.toNat then some (.range lo hi,s3) else none
   else some (.range lo lo,c::s2)
inductive Bv:eC->List UInt8->Option (eC×List UInt8)->Prop where
 | stop {k:eC} {s:List UInt8}:Bv k (93::s) (some (k,s))
 | bad {k:eC} {s:List UInt8}:s.head?≠some 93->bn s=none->Bv k s none
 | more {k c:eC} {s s':List UInt8} {o:Option (eC×List UInt8)}:s.head?≠some 93->bn s=some (c,s')->Bv (.union k c) s' o->Bv k s o
inductive ew:List UInt8->Option (eC×List UInt8)->Prop where
 | pos {s s':List UInt8} {c:eC} {o:Option (eC×List UInt8)}:s.head?≠some 94->bn s=some (c,s')->Bv c s' o->ew s o
 | lz {s:List UInt8}:s.head?≠some 94->bn s=none->ew s none
 | neg {s s':List UInt8} {c:eC} {o:Option (eC×List UInt8)}:bn s=some (c,s')->Bv c s' o->ew (94::s) (o.map λp=>(.iy p.1,p.2))
 | lB {s:List UInt8}:bn s=none->ew (94::s) none
def bu:List Re->Re
 | []=>.dh
 | [r]=>r
 | r::rs=>.seq r (bu rs)
def atEnd(s:List UInt8):Prop:=s=[]∨s.head?=some 124∨s.head?=some 41
mutual
inductive aT:List UInt8->Option (Re×List UInt8)->Prop where
 | paren {s s':List UInt8} {r:Re}:bh s (some (r,41::s'))->aT (40::s) (some (r,s'))
 | fH {s:List UInt8}:bh s none->aT (40::s) none
 | fu {s s':List UInt8} {r:Re}:bh s (some (r,s'))->s'.head?≠some 41->aT (40::s) none
 | dot {s:List UInt8}:aT (46::s) (some (.cY .any,s))
 | cY {s:List UInt8} {o:Option (eC×List UInt8)}:ew s o->aT (91::s) (o.map λp=>(.cY p.1,p.2))
 | one {s:List UInt8}:s.head?≠some 40->s.head?≠some 46->s.head?≠some 91->aT s ((dC s).map λp=>(.cY (.range p.1 p.1),p.2))
inductive cT:List UInt8->Option (Re×List UInt8)->Prop where
 | bad {s:List UInt8}:aT s none->cT s none
 | star {s s':List UInt8} {r:Re}:aT s (some (r,42::s'))->cT s (some (.star r,s'))
 | plus {s s':List UInt8} {r:Re}:aT s (some (r,43::s'))->cT s (some (.plus r,s'))
 | eU {s s':List UInt8} {r:Re}:aT s (some (r,63::s'))->cT s (some (.eU r,s'))
 | plain {s s':List UInt8} {r:Re}:aT s (some (r,s'))->s'.head?≠some 42->s'.head?≠some 43->s'.head?≠some 63->cT s (some (r,s'))
inductive cU:List UInt8->Option (List Re×List UInt8)->Prop where
 | stop {s:List UInt8}:atEnd s->cU s (some ([],s))
 | bad {s:List UInt8}:¬atEnd s->cT s none->cU s none
 | more {s s' s'':List UInt8} {r:Re} {rs:List Re}:¬atEnd s->cT s (some (r,s'))->cU s' (some (rs,s''))->cU s (some (r::rs,s''))
 | jh {s s':List UInt8} {r:Re}:¬atEnd s->cT s (some (r,s'))->cU s' none->cU s none
inductive gZ:Re->List UInt8->Option (Re×List UInt8)->Prop where
 | stop {k:Re} {s:List UInt8}:s.head?≠some 124->gZ k s (some (k,s))
 | bad {k:Re} {s:List UInt8}:cU s none->gZ k (124::s) none
 | more {k:Re} {s s':List UInt8} {rs:List Re} {o:Option (Re×List UInt8)}:cU s (some (rs,s'))->gZ (.alt k (bu rs)) s' o->gZ k (124::s) o
inductive bh:List UInt8->Option (Re×List UInt8)->Prop where
 | bad {s:List UInt8}:cU s none->bh s none
 | one {s s':List UInt8} {rs:List Re} {o:Option (Re×List UInt8)}:cU s (some (rs,s'))->gZ (bu rs) s' o->bh s o
end
theorem pD{b:UInt8}(h:dC s=some (b,s')):s'.length<s.length:=by
 unfold dC at h;split at h
 ·cases h
 ·split at h
  ·split at h
   ·cases h
   ·split at h
    ·simp only[Option.some.injEq,Prod.mk.injEq]at h;obtain ⟨_,rfl⟩:=h;simp;omega
    ·cases h
  ·split at h
   ·cases h
   ·split at h
    ·simp only[Option.some.injEq,Prod.mk.injEq]at h;obtain ⟨_,rfl⟩:=h;simp
    ·cases h
theorem kf(h:bn s=some (c,s')):s'.length<s.length:=by
 unfold bn at h;split at h
 ·cases h
 ·rename_i lo s1 h1;have l1:=pD h1;split at h
  ·simp only[Option.some.injEq,Prod.mk.injEq]at h;obtain ⟨_,rfl⟩:=h;simpa using l1
  ·split at h
   ·split at h
    ·cases h
    ·rename_i hi s3 h3;have l3:=pD h3;split at h
     ·simp only[Option.some.injEq,Prod.mk.injEq]at h;obtain ⟨_,rfl⟩:=h;simp at l1;omega
     ·cases h
   ·simp only[Option.some.injEq,Prod.mk.injEq]at h;obtain ⟨_,rfl⟩:=h;exact l1
theorem Bv.len(h:Bv k s o):∀c s',o=some (c,s')->s'.length<s.length:=by
 induction h with
 | stop=>intro c s' e;cases e;simp
 | bad _ _=>intro c s' e;cases e
 | more _ h _ ih=>intro c s' e;have:=ih c s' e;have:=kf h;omega
theorem ew.len(h:ew s (some (c,s'))):s'.length<s.length:=by
 generalize ho:some (c,s')=o at h
 cases h with
 | pos _ h k=>have:=k.len _ _ ho.symm;have:=kf h;omega
 | lz _ _=>cases ho
 | neg h k=>
  rename_i s s2 c2 o
  cases o with
  | none=>cases ho
  | some p=>
   simp only[Option.map_some,Option.some.injEq,Prod.mk.injEq]at ho;have:=k.len p.1 p.2 rfl;have:=kf h;rw[ho.2];simp;omega
 | lB _=>cases ho
theorem Bv.cX(h:Bv k s o)(h':Bv k s o'):o=o':=by
 induction h with
 | stop=>cases h' with
  | stop=>rfl
  | bad n _=>simp at n
  | more n _ _=>simp at n
 | bad n e=>cases h' with
  | stop=>simp at n
  | bad _ _=>rfl
  | more _ e' _=>rw[e]at e';cases e'
 | more n e _ ih=>cases h' with
  | stop=>simp at n
  | bad _ e'=>rw[e]at e';cases e'
  | more _ e' k'=>rw[e]at e';cases e';exact ih k'
theorem ew.cX(h:ew s o)(h':ew s o'):o=o':=by
 cases h with
 | pos n e k=>cases h' with
  | pos _ e' k'=>rw[e]at e';cases e';exact k.cX k'
  | lz _ e'=>rw[e]at e';cases e'
  | neg _ _=>simp at n
  | lB _=>simp at n
 | lz n e=>cases h' with
  | pos _ e' k'=>rw[e]at e';cases e'
  | lz _ e'=>rfl
  | neg _ _=>simp at n
  | lB _=>simp at n
 | neg e k=>cases h' with
  | pos n _ _=>simp at n
  | lz n _=>simp at n
  | neg e' k'=>rw[e]at e';cases e';rw[k.cX k']
  | lB e'=>rw[e]at e';cases e'
 | lB e=>cases h' with
  | pos n _ _=>simp at n
  | lz n _=>simp at n
  | neg e' k'=>rw[e]at e';cases e'
  | lB e'=>rfl
mutual
theorem aT.cX{s:List UInt8}{o o':Option (Re×List UInt8)}(h:aT s o)(h':aT s o'):o=o':=by
 match h with
 | .paren k=>cases h' with
  | paren k'=>have:=bh.cX k k';simp only[Option.some.injEq,Prod.mk.injEq,List.cons.injEq,true_and]at this;rw[this.1,this.2]
  | fH k'=>have:=bh.cX k k';cases this
  | fu k' n=>have:=bh.cX k k';simp only[Option.some.injEq,Prod.mk.injEq]at this;rw[<-this.2]at n;simp at n
  | one n _ _=>simp at n
 | .fH k=>cases h' with
  | paren k'=>have:=bh.cX k k';cases this
  | fH k'=>rfl
  | fu k' n=>rfl
  | one n _ _=>simp at n
 | .fu k n=>cases h' with
  | paren k'=>have:=bh.cX k k';simp only[Option.some.injEq,Prod.mk.injEq]at this;rw[this.2]at n;simp at n
  | fH k'=>rfl
  | fu k' n=>rfl
  | one n _ _=>simp at n
 | .dot=>cases h' with
  | dot=>rfl
  | one _ n _=>simp at n
 | .cY k=>cases h' with
  | cY k'=>rw[k.cX k']
  | one _ _ n=>simp at n
 | .one n1 n2 n3=>cases h' with
  | paren _=>simp at n1
  | fH _=>simp at n1
  | fu _ _=>simp at n1
  | dot=>simp at n2
  | cY _=>simp at n3
  | one _ _ _=>rfl
 termination_by structural h
theorem cT.cX{s:List UInt8}{o o':Option (Re×List UInt8)}(h:cT s o)(h':cT s o'):o=o':=by
 match h with
 | .bad k=>cases h' with
  | bad _=>rfl
  | star k'=>cases aT.cX k k'
  | plus k'=>cases aT.cX k k'
  | eU k'=>cases aT.cX k k'
  | plain k' _ _ _=>cases aT.cX k k'
 | .star k=>cases h' with
  | bad k'=>cases aT.cX k k'
  | star k'=>cases aT.cX k k';rfl
  | plus k'=>cases aT.cX k k'
  | eU k'=>cases aT.cX k k'
  | plain k' n _ _=>cases aT.cX k k';simp at n
 | .plus k=>cases h' with
  | bad k'=>cases aT.cX k k'
  | star k'=>cases aT.cX k k'
  | plus k'=>cases aT.cX k k';rfl
  | eU k'=>cases aT.cX k k'
  | plain k' _ n _=>cases aT.cX k k';simp at n
 | .eU k=>cases h' with
  | bad k'=>cases aT.cX k k'
  | star k'=>cases aT.cX k k'
  | plus k'=>cases aT.cX k k'
  | eU k'=>cases aT.cX k k';rfl
  | plain k' _ _ n=>cases aT.cX k k';simp at n
 | .plain k n1 n2 n3=>cases h' with
  | bad k'=>cases aT.cX k k'
  | star k'=>cases aT.cX k k';simp at n1
  | plus k'=>cases aT.cX k k';simp at n2
  | eU k'=>cases aT.cX k k';simp at n3
  | plain k' _ _ _=>cases aT.cX k k';rfl
 termination_by structural h
theorem cU.cX{s:List UInt8}{o o':Option (List Re×List UInt8)}(h:cU s o)(h':cU s o'):o=o':=by
 match h with
 | .stop e=>cases h' with
  | stop _=>rfl
  | bad n _=>exact absurd e n
  | more n _ _=>exact absurd e n
  | jh n _ _=>exact absurd e n
 | .bad n k=>cases h' with
  | stop e=>exact absurd e n
  | bad _ _=>rfl
  | more _ k' _=>cases cT.cX k k'
  | jh _ _ _=>rfl
 | .more n k m=>cases h' with
  | stop e=>exact absurd e n
  | bad _ k'=>cases cT.cX k k'
  | more _ k' m'=>cases cT.cX k k';cases cU.cX m m';rfl
  | jh _ k' m'=>cases cT.cX k k';cases cU.cX m m'
 | .jh n k m=>cases h' with
  | stop e=>exact absurd e n
  | bad _ k'=>rfl
  | more _ k' m'=>cases cT.cX k k';cases cU.cX m m'
  | jh _ k' m'=>rfl
 termination_by structural h
theorem gZ.cX{k:Re}{s:List UInt8}{o o':Option (Re×List UInt8)}(h:gZ k s o)(h':gZ k s o'):o=o':=by
 match h with
 | .stop n=>cases h' with
  | stop _=>rfl
  | bad _=>simp at n
  | more _ _=>simp at n
 | .bad c=>cases h' with
  | stop n=>simp at n
  | bad _=>rfl
  | more c' _=>cases cU.cX c c'
 | .more c m=>cases h' with
  | stop n=>simp at n
  | bad c'=>cases cU.cX c c'
  | more c' m'=>cases cU.cX c c';exact gZ.cX m m'
 termination_by structural h
theorem bh.cX{s:List UInt8}{o o':Option (Re×List UInt8)}(h:bh s o)(h':bh s o'):o=o':=by
 match h with
 | .bad c=>cases h' with
  | bad _=>rfl
  | one c' _=>cases cU.cX c c'
 | .one c m=>cases h' with
  | bad c'=>cases cU.cX c c'
  | one c' m'=>cases cU.cX c c';exact gZ.cX m m'
 termination_by structural h
end
end aO
