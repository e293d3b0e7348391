namespace bu
variable {s s' u v w:List UInt8} {α:Type}
inductive eO where
 | any
 | range (lo hi:UInt8)
 | union (a b:eO)
 | iQ (a:eO)
def eO.has:eO->UInt8->Bool
 | .any,_=>true
 | .range lo hi,b=>decide (lo.toNat<=b.toNat)&&decide (b.toNat<=hi.toNat)
 | .union a b,x=>a.has x||b.has x
 | .iQ a,x=>!a.has x
inductive Re where
 | dE
 | dr (c:eO)
 | seq (a b:Re)
 | alt (a b:Re)
 | star (a:Re)
 | plus (a:Re)
 | fB (a:Re)
inductive Mt:Re->List UInt8->Prop where
 | dE:Mt .dE []
 | dr {c:eO} {b:UInt8}:c.has b=true->Mt (.dr c) [b]
 | seq {a b:Re} {u v:List UInt8}:Mt a u->Mt b v->Mt (.seq a b) (u++v)
 | tU {a b:Re} {u:List UInt8}:Mt a u->Mt (.alt a b) u
 | tV {a b:Re} {u:List UInt8}:Mt b u->Mt (.alt a b) u
 | mi {a:Re}:Mt (.star a) []
 | qa {a:Re} {u v:List UInt8}:Mt a u->Mt (.star a) v->Mt (.star a) (u++v)
 | plus {a:Re} {u v:List UInt8}:Mt a u->Mt (.star a) v->Mt (.plus a) (u++v)
 | uX {a:Re}:Mt (.fB a) []
 | xI {a:Re} {u:List UInt8}:Mt a u->Mt (.fB a) u
def Re.au:Re->Bool
 | .dE=>true
 | .dr _=>false
 | .seq a b=>a.au&&b.au
 | .alt a b=>a.au||b.au
 | .star _=>true
 | .plus a=>a.au
 | .fB _=>true
theorem mj(r:Re):Mt r []<->r.au=true:=by
 induction r with
 | dE=>exact ⟨λ_=>rfl,λ_=>.dE⟩
 | dr c=>exact ⟨λh=>(by cases h),λh=>(by simp[Re.au]at h)⟩
 | seq a b lN ml=>
  constructor
  ·intro h;generalize hn:([]:List UInt8)=w at h
   cases h with
   | seq ha hb=>
    have h1:=List.append_eq_nil_iff.1 hn.symm;rw[h1.1]at ha;rw[h1.2]at hb;simp[Re.au,lN.1 ha,ml.1 hb]
  ·intro h;simp[Re.au]at h;exact Mt.seq (u:=[]) (v:=[]) (lN.2 h.1) (ml.2 h.2)
 | alt a b lN ml=>
  constructor
  ·intro h
   cases h with
   | tU h=>simp[Re.au,lN.1 h]
   | tV h=>simp[Re.au,ml.1 h]
  ·intro h;simp[Re.au]at h;rcases h with h|h
   ·exact .tU (lN.2 h)
   ·exact .tV (ml.2 h)
 | star a lN=>exact ⟨λ_=>rfl,λ_=>.mi⟩
 | plus a lN=>
  constructor
  ·intro h;generalize hn:([]:List UInt8)=w at h
   cases h with
   | plus ha hb=>
    have h1:=List.append_eq_nil_iff.1 hn.symm;rw[h1.1]at ha;simp[Re.au,lN.1 ha]
  ·intro h;exact Mt.plus (u:=[]) (v:=[]) (lN.2 h) .mi
 | fB a lN=>exact ⟨λ_=>rfl,λ_=>.uX⟩
variable {a b:Re}
theorem zX:Mt (.seq a b) w<->∃u v,w=u++v/\Mt a u/\Mt b v:=
 ⟨λh=>by cases h with|seq ha hb=>exact ⟨_,_,rfl,ha,hb⟩,λ⟨_,_,e,ha,hb⟩=>e▸.seq ha hb⟩
theorem Vd:Mt (.alt a b) w<->Mt a w∨Mt b w:=
 ⟨λh=>by cases h with|tU h=>exact .inl h|tV h=>exact .inr h,λh=>h.elim .tU .tV⟩
theorem Ve:Mt (.fB a) w<->w=[]∨Mt a w:=
 ⟨λh=>by cases h with|uX=>exact .inl rfl|xI h=>exact .inr h,λh=>h.elim (λe=>e▸.uX) .xI⟩
theorem Rm:Mt (.plus a) w<->∃u v,w=u++v/\Mt a u/\Mt (.star a) v:=
 ⟨λh=>by cases h with|plus ha hb=>exact ⟨_,_,rfl,ha,hb⟩,λ⟨_,_,e,ha,hb⟩=>e▸.plus ha hb⟩
variable {c:eO}
theorem Vf:Mt (.dr c) w<->∃b,w=[b]/\c.has b=true:=
 ⟨λh=>by cases h with|dr h=>exact ⟨_,rfl,h⟩,λ⟨_,e,h⟩=>e▸.dr h⟩
theorem zY:Mt .dE w<->w=[]:=
 ⟨λh=>by cases h;rfl,λe=>e▸.dE⟩
theorem qc{b:UInt8}(h:Mt (.star a) (b::w)):
  ∃u v,w=u++v/\Mt a (b::u)/\Mt (.star a) v:=by
 generalize hr:Re.star a=r at h;generalize hw:b::w=x at h
 induction h with
 | dE|dr _|seq _ _|tU _|tV _|plus _ _|uX|xI _=>cases hr
 | mi=>cases hw
 | qa ha hb lN ml=>
  cases hr;rename_i u v
  cases u with
  | nil=>exact ml rfl hw
  | cons c u=>
   simp only[List.cons_append,List.cons.injEq]at hw;obtain ⟨rfl,rfl⟩:=hw;exact ⟨u,v,rfl,ha,hb⟩
theorem sV{x:UInt8}:
  Mt (.seq a b) (x::w)<->(∃u v,w=u++v/\Mt a (x::u)/\Mt b v)∨(a.au=true/\Mt b (x::w)):=by
 rw[zX];constructor
 ·rintro ⟨u,v,e,ha,hb⟩
  cases u with
  | nil=>exact .inr ⟨(mj _).1 ha,by simpa [e] using hb⟩
  | cons c u=>
   simp only[List.cons_append,List.cons.injEq]at e;obtain ⟨rfl,rfl⟩:=e;exact .inl ⟨u,v,rfl,ha,hb⟩
 ·rintro (⟨u,v,e,ha,hb⟩|⟨hn,hb⟩)
  ·exact ⟨x::u,v,by simp[e],ha,hb⟩
  ·exact ⟨[],x::w,rfl,(mj _).2 hn,hb⟩
def Re.rev:Re->Re
 | .dE=>.dE
 | .dr c=>.dr c
 | .seq a b=>.seq b.rev a.rev
 | .alt a b=>.alt a.rev b.rev
 | .star a=>.star a.rev
 | .plus a=>.plus a.rev
 | .fB a=>.fB a.rev
theorem Re.rev_rev(r:Re):r.rev.rev=r:=by induction r<;>simp_all [Re.rev]
theorem qd(h:Mt (.star a) u)(k:Mt a v):Mt (.star a) (u++v):=by
 generalize hr:Re.star a=r at h
 induction h with
 | dE|dr _|seq _ _|tU _|tV _|plus _ _|uX|xI _=>cases hr
 | mi=>cases hr;simpa using Mt.qa k .mi
 | qa ha hb lN ml=>
  cases hr;rw[List.append_assoc];exact .qa ha (ml rfl)
theorem M4(h:Mt (.star a) u)(k:Mt a v):Mt (.plus a) (u++v):=by
 generalize hr:Re.star a=r at h
 induction h with
 | dE|dr _|seq _ _|tU _|tV _|plus _ _|uX|xI _=>cases hr
 | mi=>cases hr;simpa using Mt.plus k .mi
 | qa ha hb lN ml=>
  cases hr;have h2:=ml rfl;rw[List.append_assoc];refine .plus ha ?_;exact qd hb k
variable {r:Re}
theorem yA(h:Mt r w):Mt r.rev w.reverse:=by
 induction h with
 | dE=>exact .dE
 | dr h=>exact .dr h
 | seq _ _ lN ml=>rw[List.reverse_append];exact .seq ml lN
 | tU _ ih=>exact .tU ih
 | tV _ ih=>exact .tV ih
 | mi=>exact .mi
 | qa _ _ lN ml=>rw[List.reverse_append];exact qd ml lN
 | plus _ _ lN ml=>rw[List.reverse_append];exact M4 ml lN
 | uX=>exact .uX
 | xI _ ih=>exact .xI ih
theorem Vg:Mt r.rev w<->Mt r w.reverse:=by
 constructor
 ·intro h;simpa [Re.rev_rev] using yA h
 ·intro h;simpa using yA h
theorem gj(r:Re):r.rev.au=r.au:=by induction r<;>simp_all [Re.rev,Re.au,Bool.and_comm]
inductive aP where
 | dE
 | dr (i:Nat) (c:eO)
 | seq (i:Nat) (a b:aP)
 | alt (i:Nat) (a b:aP)
 | star (i:Nat) (a:aP)
 | plus (i j:Nat) (a:aP)
 | fB (i:Nat) (a:aP)
def aP.ix:aP->Nat
 | .dE=>0
 | .dr i _=>i
 | .seq i _ _=>i
 | .alt i _ _=>i
 | .star i _=>i
 | .plus i _ _=>i
 | .fB i _=>i
def aP.re:aP->Re
 | .dE=>.dE
 | .dr _ c=>.dr c
 | .seq _ a b=>.seq a.re b.re
 | .alt _ a b=>.alt a.re b.re
 | .star _ a=>.star a.re
 | .plus _ _ a=>.plus a.re
 | .fB _ a=>.fB a.re
inductive D where
 | base (a:aP)
 | snoc (d:D) (a:aP)
def D.re:D->Re
 | .base a=>a.re
 | .snoc d a=>.seq d.re a.re
def cQ:D->aP->D
 | .base .dE,a=>.base a
 | d,a=>.snoc d a
theorem Ie(d:D)(a:aP)(w:List UInt8):Mt (cQ d a).re w<->Mt (.seq d.re a.re) w:=by
 unfold cQ;split
 ·simp only[D.re,aP.re,zX,zY];constructor
  ·intro h;exact ⟨[],w,rfl,rfl,h⟩
  ·rintro ⟨u,v,rfl,rfl,h⟩;exact h
 ·rfl
def kM(b:UInt8):aP->List D
 | .dE=>[]
 | .dr _ c=>if c.has b then [.base .dE] else []
 | .seq _ x y=>(kM b x).map (cQ · y)++(if x.re.au then kM b y else [])
 | .alt _ x y=>kM b x++kM b y
 | .star i x=>(kM b x).map (cQ · (.star i x))
 | .plus _ j x=>(kM b x).map (cQ · (.star j x))
 | .fB _ x=>kM b x
def pd(b:UInt8):D->List D
 | .base a=>kM b a
 | .snoc d a=>(pd b d).map (cQ · a)++(if d.re.au then kM b a else [])
theorem jD{l:List D}{y:aP}:
  (∃d∈l.map (cQ · y),Mt d.re w)<->∃u v,w=u++v/\(∃d∈l,Mt d.re u)/\Mt y.re v:=by
 constructor
 ·rintro ⟨d,hd,hm⟩;obtain ⟨d',Vh,rfl⟩:=List.mem_map.1 hd;rw[Ie,zX]at hm;obtain ⟨u,v,e,h1,h2⟩:=hm;exact ⟨u,v,e,⟨d',Vh,h1⟩,h2⟩
 ·rintro ⟨u,v,e,⟨d,hd,h1⟩,h2⟩;refine ⟨cQ d y,List.mem_map.2 ⟨d,hd,rfl⟩,?_⟩;rw[Ie,zX];exact ⟨u,v,e,h1,h2⟩
theorem Cn(b:UInt8)(a:aP)(w:List UInt8):Mt a.re (b::w)<->∃d∈kM b a,Mt d.re w:=by
 induction a generalizing w with
 | dE=>simp[aP.re,kM,zY]
 | dr i c=>
  simp only[aP.re,kM,Vf];by_cases h:c.has b=true
  ·simp only[h,if_true,List.mem_singleton];constructor
   ·rintro ⟨c',e,_⟩;simp only[List.cons.injEq]at e;exact ⟨_,rfl,by simp[D.re,aP.re,zY,e.2]⟩
   ·rintro ⟨d,rfl,hm⟩;simp only[D.re,aP.re,zY]at hm;exact ⟨b,by simp[hm],h⟩
  ·simp only[h];constructor
   ·rintro ⟨c',e,h2⟩;simp only[List.cons.injEq]at e;rw[<-e.1]at h2;exact absurd h2 h
   ·rintro ⟨d,hd,_⟩;simp at hd
 | seq i x y uY uZ=>
  simp only[aP.re,kM,sV,List.mem_append]
  rw[show (∃d,(d∈(kM b x).map (cQ · y)∨d∈(if x.re.au=true then kM b y else []))/\Mt d.re w) <->
   (∃d∈(kM b x).map (cQ · y),Mt d.re w)∨(∃d∈(if x.re.au=true then kM b y else []),Mt d.re w) from
   ⟨λ⟨d,h,m⟩=>h.elim (λh=>.inl ⟨d,h,m⟩) (λh=>.inr ⟨d,h,m⟩),
    λh=>h.elim (λ⟨d,h,m⟩=>⟨d,.inl h,m⟩) (λ⟨d,h,m⟩=>⟨d,.inr h,m⟩)⟩]
  rw[jD];simp only[uY,uZ];by_cases h:x.re.au=true
  ·simp[h]
  ·simp[h]
 | alt i x y uY uZ=>
  simp only[aP.re,kM,Vd,List.mem_append,uY,uZ]
  exact ⟨λh=>h.elim (λ⟨d,h,m⟩=>⟨d,.inl h,m⟩) (λ⟨d,h,m⟩=>⟨d,.inr h,m⟩),
   λ⟨d,h,m⟩=>h.elim (λh=>.inl ⟨d,h,m⟩) (λh=>.inr ⟨d,h,m⟩)⟩
 | star i x ih=>
  simp only[aP.re,kM,jD];constructor
  ·intro h;obtain ⟨u,v,e,h1,h2⟩:=qc h;exact ⟨u,v,e,(ih u).1 h1,h2⟩
  ·rintro ⟨u,v,e,h1,h2⟩;subst e;exact Mt.qa (u:=b::u) ((ih u).2 h1) h2
 | plus i j x ih=>
  simp only[aP.re,kM,jD,Rm];constructor
  ·rintro ⟨u,v,e,h1,h2⟩
   cases u with
   | nil=>
    simp only[List.nil_append]at e;subst e;obtain ⟨u,v,e,h3,h4⟩:=qc h2;exact ⟨u,v,e,(ih u).1 h3,h4⟩
   | cons c u=>
    simp only[List.cons_append,List.cons.injEq]at e;obtain ⟨rfl,rfl⟩:=e;exact ⟨u,v,rfl,(ih u).1 h1,h2⟩
  ·rintro ⟨u,v,e,h1,h2⟩;subst e;exact ⟨b::u,v,rfl,(ih u).2 h1,h2⟩
 | fB i x ih=>
  simp only[aP.re,kM,Ve,ih];simp
theorem Rn(b:UInt8)(d:D)(w:List UInt8):Mt d.re (b::w)<->∃d'∈pd b d,Mt d'.re w:=by
 induction d generalizing w with
 | base a=>exact Cn b a w
 | snoc d a ih=>
  simp only[D.re,pd,sV,List.mem_append]
  rw[show (∃d',(d'∈(pd b d).map (cQ · a)∨d'∈(if d.re.au=true then kM b a else []))/\Mt d'.re w) <->
   (∃d'∈(pd b d).map (cQ · a),Mt d'.re w)∨(∃d'∈(if d.re.au=true then kM b a else []),Mt d'.re w) from
   ⟨λ⟨d,h,m⟩=>h.elim (λh=>.inl ⟨d,h,m⟩) (λh=>.inr ⟨d,h,m⟩),
    λh=>h.elim (λ⟨d,h,m⟩=>⟨d,.inl h,m⟩) (λ⟨d,h,m⟩=>⟨d,.inr h,m⟩)⟩]
  rw[jD];simp only[ih,Cn b a];by_cases h:d.re.au=true
  ·simp[h]
  ·simp[h]
def aP.leaves:aP->Nat
 | .dE=>0
 | .dr _ _=>1
 | .seq _ a b=>a.leaves+b.leaves
 | .alt _ a b=>a.leaves+b.leaves
 | .star _ a=>a.leaves
 | .plus _ _ a=>a.leaves
 | .fB _ a=>a.leaves
def allA:aP->List D
 | .dE=>[]
 | .dr _ _=>[.base .dE]
 | .seq _ x y=>(allA x).map (cQ · y)++allA y
 | .alt _ x y=>allA x++allA y
 | .star i x=>(allA x).map (cQ · (.star i x))
 | .plus _ j x=>(allA x).map (cQ · (.star j x))
 | .fB _ x=>allA x
def rG:D->List D
 | .base a=>allA a
 | .snoc d a=>(rG d).map (cQ · a)++allA a
theorem fQ(a:aP):(allA a).length=a.leaves:=by induction a<;>simp_all [allA,aP.leaves]
theorem zZ(b:UInt8)(a:aP):∀d∈kM b a,d∈allA a:=by
 induction a with
 | dE=>simp[kM]
 | dr i c=>simp only[kM,allA];split<;>simp
 | seq i x y uY uZ=>
  intro d hd;simp only[kM,List.mem_append,List.mem_map]at hd;simp only[allA,List.mem_append,List.mem_map];rcases hd with ⟨d',h,rfl⟩|h
  ·exact .inl ⟨d',uY _ h,rfl⟩
  ·split at h
   ·exact .inr (uZ _ h)
   ·simp at h
 | alt i x y uY uZ=>
  intro d hd;simp only[kM,List.mem_append]at hd;simp only[allA,List.mem_append];exact hd.imp (uY _) (uZ _)
 | star i x ih=>
  intro d hd;simp only[kM,List.mem_map]at hd;simp only[allA,List.mem_map];obtain ⟨d',h,rfl⟩:=hd;exact ⟨d',ih _ h,rfl⟩
 | plus i j x ih=>
  intro d hd;simp only[kM,List.mem_map]at hd;simp only[allA,List.mem_map];obtain ⟨d',h,rfl⟩:=hd;exact ⟨d',ih _ h,rfl⟩
 | fB i x ih=>exact ih
theorem M5(b:UInt8)(d:D):∀d'∈pd b d,d'∈rG d:=by
 induction d with
 | base a=>exact zZ b a
 | snoc d a ih=>
  intro d' hd;simp only[pd,List.mem_append,List.mem_map]at hd;simp only[rG,List.mem_append,List.mem_map];rcases hd with ⟨d',h,rfl⟩|h
  ·exact .inl ⟨d',ih _ h,rfl⟩
  ·split at h
   ·exact .inr (zZ b a _ h)
   ·simp at h
theorem rH{d:D}{a:aP}{x:D}(h:x∈rG (cQ d a)):(∃y∈rG d,x=cQ y a)∨x∈allA a:=by
 unfold cQ at h;split at h
 ·exact .inr h
 ·simp only[rG,List.mem_append,List.mem_map]at h;exact h.imp (λ⟨y,h,e⟩=>⟨y,h,e.symm⟩) id
theorem Co(a:aP):∀d∈allA a,∀x∈rG d,x∈allA a:=by
 induction a with
 | dE=>simp[allA]
 | dr i c=>intro d hd x hx;simp only[allA,List.mem_singleton]at hd;subst hd;simp[rG,allA]at hx
 | seq i p q tW M6=>
  intro d hd x hx;simp only[allA,List.mem_append,List.mem_map]at hd ⊢;rcases hd with ⟨d',h,rfl⟩|h
  ·rcases rH hx with ⟨y,hy,rfl⟩|h2
   ·exact .inl ⟨y,tW _ h _ hy,rfl⟩
   ·exact .inr h2
  ·exact .inr (M6 _ h _ hx)
 | alt i p q tW M6=>
  intro d hd x hx;simp only[allA,List.mem_append]at hd ⊢;exact hd.imp (λh=>tW _ h _ hx) (λh=>M6 _ h _ hx)
 | star i p ih=>
  intro d hd x hx;simp only[allA,List.mem_map]at hd;obtain ⟨d',h,rfl⟩:=hd;rcases rH hx with ⟨y,hy,rfl⟩|h2
  ·simp only[allA,List.mem_map];exact ⟨y,ih _ h _ hy,rfl⟩
  ·exact h2
 | plus i j p ih=>
  intro d hd x hx;simp only[allA,List.mem_map]at hd;obtain ⟨d',h,rfl⟩:=hd;rcases rH hx with ⟨y,hy,rfl⟩|h2
  ·simp only[allA,List.mem_map];exact ⟨y,ih _ h _ hy,rfl⟩
  ·simpa [allA] using h2
 | fB i p ih=>exact ih
def met(a:aP):List D:=.base a::allA a
theorem Fe(a:aP)(b:UInt8)(d:D)(hd:d∈met a):∀x∈pd b d,x∈met a:=by
 intro x hx;simp only[met,List.mem_cons]at hd ⊢;rcases hd with rfl|h
 ·exact .inr (zZ b a _ hx)
 ·exact .inr (Co a d h x (M5 b d _ hx))
theorem vd(a:aP):(met a).length=a.leaves+1:=by simp[met,fQ]
theorem lD [DecidableEq α] {l m:List α}(hn:l.Nodup)(h:∀x∈l,x∈m):l.length<=m.length:=by
 induction l generalizing m with
 | nil=>simp
 | cons a l ih=>
  have ha:a∈m:=h a (by simp);rw[List.nodup_cons]at hn;have h2:∀x∈l,x∈m.erase a:=λx hx=>by rw[List.mem_erase_of_ne (λe=>by subst e;exact hn.1 hx)];exact h x (by simp[hx])
  have h3:=ih hn.2 h2;rw[List.length_erase_of_mem ha]at h3;have:0<m.length:=List.length_pos_of_mem ha;simp;omega
structure Nd(α:Type) where
 kind:Nat
 has:α
 left:Nat
 right:Nat
 empty:Bool
def ei{α:Type}(iL:α->eO->Prop)(ns:List (Nd α)):aP->Prop
 | .dE=>∃h,ns[0]?=some ⟨0,h,0,0,true⟩
 | .dr i c=>i≠0/\∃h,ns[i]?=some ⟨1,h,0,0,false⟩/\iL h c
 | .seq i a b=>i≠0/\(∃h,ns[i]?=some ⟨2,h,a.ix,b.ix,a.re.au&&b.re.au⟩)/\ei iL ns a/\ei iL ns b
 | .alt i a b=>i≠0/\(∃h,ns[i]?=some ⟨3,h,a.ix,b.ix,a.re.au||b.re.au⟩)/\ei iL ns a/\ei iL ns b
 | .star i a=>i≠0/\(∃h,ns[i]?=some ⟨4,h,a.ix,0,true⟩)/\ei iL ns a
 | .plus i j a=>i≠0/\j≠0/\(∃h,ns[i]?=some ⟨5,h,a.ix,j,a.re.au⟩)/\(∃h,ns[j]?=some ⟨4,h,a.ix,0,true⟩)/\ei iL ns a
 | .fB i a=>i≠0/\(∃h,ns[i]?=some ⟨6,h,a.ix,0,true⟩)/\ei iL ns a
theorem ei.mono{iL M7:α->eO->Prop}{ns Cp:List (Nd α)}(hc:∀h c,iL h c->M7 h c)(hn:∀(i:Nat) nd,ns[i]?=some nd->Cp[i]?=some nd){a:aP}(h:ei iL ns a):ei M7 Cp a:=by
 induction a with
 | dE=>obtain ⟨x,h⟩:=h;exact ⟨x,hn _ _ h⟩
 | dr i c=>obtain ⟨h0,x,h1,h2⟩:=h;exact ⟨h0,x,hn _ _ h1,hc _ _ h2⟩
 | seq i a b lN ml=>obtain ⟨h0,⟨x,h1⟩,h2,h3⟩:=h;exact ⟨h0,⟨x,hn _ _ h1⟩,lN h2,ml h3⟩
 | alt i a b lN ml=>obtain ⟨h0,⟨x,h1⟩,h2,h3⟩:=h;exact ⟨h0,⟨x,hn _ _ h1⟩,lN h2,ml h3⟩
 | star i a ih=>obtain ⟨h0,⟨x,h1⟩,h2⟩:=h;exact ⟨h0,⟨x,hn _ _ h1⟩,ih h2⟩
 | plus i j a ih=>obtain ⟨h0,JL,⟨x,h1⟩,⟨y,h2⟩,h3⟩:=h;exact ⟨h0,JL,⟨x,hn _ _ h1⟩,⟨y,hn _ _ h2⟩,ih h3⟩
 | fB i a ih=>obtain ⟨h0,⟨x,h1⟩,h2⟩:=h;exact ⟨h0,⟨x,hn _ _ h1⟩,ih h2⟩
theorem ei.append{iL:α->eO->Prop}{ns ms:List (Nd α)}{a:aP}(h:ei iL ns a):ei iL (ns++ms) a:=
 h.mono (λ_ _ h=>h) (λi nd h=>by
  have hi:i<ns.length:=by
   rcases Nat.lt_or_ge i ns.length with h' | h'
   ·exact h'
   ·rw[List.getElem?_eq_none h']at h;cases h
  rw[List.getElem?_append_left hi];exact h)
theorem ei.empty{iL:α->eO->Prop}{ns:List (Nd α)}{a:aP}(h:ei iL ns a):∃nd,ns[a.ix]?=some nd/\nd.empty=a.re.au:=by
 cases a with
 | dE=>obtain ⟨x,h⟩:=h;exact ⟨_,h,rfl⟩
 | dr i c=>obtain ⟨h0,x,h1,h2⟩:=h;exact ⟨_,h1,rfl⟩
 | seq i a b=>obtain ⟨h0,⟨x,h1⟩,h2,h3⟩:=h;exact ⟨_,h1,rfl⟩
 | alt i a b=>obtain ⟨h0,⟨x,h1⟩,h2,h3⟩:=h;exact ⟨_,h1,rfl⟩
 | star i a=>obtain ⟨h0,⟨x,h1⟩,h2⟩:=h;exact ⟨_,h1,rfl⟩
 | plus i j a=>obtain ⟨h0,JL,⟨x,h1⟩,⟨y,h2⟩,h3⟩:=h;exact ⟨_,h1,rfl⟩
 | fB i a=>obtain ⟨h0,⟨x,h1⟩,h2⟩:=h;exact ⟨_,h1,rfl⟩
theorem ei.lt{iL:α->eO->Prop}{ns:List (Nd α)}{a:aP}(h:ei iL ns a):a.ix<ns.length:=by
 obtain ⟨nd,h1,_⟩:=h.empty;rcases Nat.lt_or_ge a.ix ns.length with h' | h'
 ·exact h'
 ·rw[List.getElem?_eq_none h']at h1;cases h1
def ej(c:UInt8):Bool:=[92,40,41,91,93,124,42,43,63,46,94,45].contains c
def dK:List UInt8->Option (UInt8×List UInt8)
 | []=>none
 | c::s=>
  if c=92 then
   match s with
   | []=>none
   | d::s=>if ej d then some (d,s) else none
  else if ej c then none
  else if 32<=c.toNat/\c.toNat<=126 then some (c,s) else none
def br(s:List UInt8):Option (eO×List UInt8):=
 match dK s with
 | none=>none
 | some (lo,s1)=>
  match s1 with
  | []=>some (.range lo lo,[])
  | c::s2=>
   if c=45 then
    match dK s2 with
    | none=>none
    | some (hi,s3)=>if lo.toNat<=hi.toNat then some (.range lo hi,s3) else none
   else some (.range lo lo,c::s2)
inductive Cq:eO->List UInt8->Option (eO×List UInt8)->Prop where
 | stop {k:eO} {s:List UInt8}:Cq k (93::s) (some (k,s))
 | bad {k:eO} {s:List UInt8}:s.head?≠some 93->br s=none->Cq k s none
 | more {k c:eO} {s s':List UInt8} {o:Option (eO×List UInt8)}:s.head?≠some 93->br s=some (c,s')->Cq (.union k c) s' o->Cq k s o
inductive eK:List UInt8->Option (eO×List UInt8)->Prop where
 | pos {s s':List UInt8} {c:eO} {o:Option (eO×List UInt8)}:s.head?≠some 94->br s=some (c,s')->Cq c s' o->eK s o
 | mm {s:List UInt8}:s.head?≠some 94->br s=none->eK s none
 | neg {s s':List UInt8} {c:eO} {o:Option (eO×List UInt8)}:br s=some (c,s')->Cq c s' o->eK (94::s) (o.map λp=>(.iQ p.1,p.2))
 | mq {s:List UInt8}:br s=none->eK (94::s) none
def cG:List Re->Re
 | []=>.dE
 | [r]=>r
 | r::rs=>.seq r (cG rs)
def atEnd(s:List UInt8):Prop:=s=[]∨s.head?=some 124∨s.head?=some 41
mutual
inductive aV:List UInt8->Option (Re×List UInt8)->Prop where
 | paren {s s':List UInt8} {r:Re}:bH s (some (r,41::s'))->aV (40::s) (some (r,s'))
 | gl {s:List UInt8}:bH s none->aV (40::s) none
 | fR {s s':List UInt8} {r:Re}:bH s (some (r,s'))->s'.head?≠some 41->aV (40::s) none
 | dot {s:List UInt8}:aV (46::s) (some (.dr .any,s))
 | dr {s:List UInt8} {o:Option (eO×List UInt8)}:eK s o->aV (91::s) (o.map λp=>(.dr p.1,p.2))
 | one {s:List UInt8}:s.head?≠some 40->s.head?≠some 46->s.head?≠some 91->aV s ((dK s).map λp=>(.dr (.range p.1 p.1),p.2))
inductive dt:List UInt8->Option (Re×List UInt8)->Prop where
 | bad {s:List UInt8}:aV s none->dt s none
 | star {s s':List UInt8} {r:Re}:aV s (some (r,42::s'))->dt s (some (.star r,s'))
 | plus {s s':List UInt8} {r:Re}:aV s (some (r,43::s'))->dt s (some (.plus r,s'))
 | fB {s s':List UInt8} {r:Re}:aV s (some (r,63::s'))->dt s (some (.fB r,s'))
 | plain {s s':List UInt8} {r:Re}:aV s (some (r,s'))->s'.head?≠some 42->s'.head?≠some 43->s'.head?≠some 63->dt s (some (r,s'))
inductive dL:List UInt8->Option (List Re×List UInt8)->Prop where
 | stop {s:List UInt8}:atEnd s->dL s (some ([],s))
 | bad {s:List UInt8}:¬atEnd s->dt s none->dL s none
 | more {s s' s'':List UInt8} {r:Re} {rs:List Re}:¬atEnd s->dt s (some (r,s'))->dL s' (some (rs,s''))->dL s (some (r::rs,s''))
 | jE {s s':List UInt8} {r:Re}:¬atEnd s->dt s (some (r,s'))->dL s' none->dL s none
inductive iD:Re->List UInt8->Option (Re×List UInt8)->Prop where
 | stop {k:Re} {s:List UInt8}:s.head?≠some 124->iD k s (some (k,s))
 | bad {k:Re} {s:List UInt8}:dL s none->iD k (124::s) none
 | more {k:Re} {s s':List UInt8} {rs:List Re} {o:Option (Re×List UInt8)}:dL s (some (rs,s'))->iD (.alt k (cG rs)) s' o->iD k (124::s) o
inductive bH:List UInt8->Option (Re×List UInt8)->Prop where
 | bad {s:List UInt8}:dL s none->bH s none
 | one {s s':List UInt8} {rs:List Re} {o:Option (Re×List UInt8)}:dL s (some (rs,s'))->iD (cG rs) s' o->bH s o
end
theorem qf{b:UInt8}(h:dK s=some (b,s')):s'.length<s.length:=by
 unfold dK at h;split at h
 ·cases h
 ·split at h
  ·split at h
   ·cases h
   ·split at h
    ·simp only[Option.some.injEq,Prod.mk.injEq]at h;obtain ⟨_,rfl⟩:=h;simp;omega
    ·cases h
  ·split at h
   ·cases h
   ·split at h
    ·simp only[Option.some.injEq,Prod.mk.injEq]at h;obtain ⟨_,rfl⟩:=h;simp
    ·cases h
theorem kN(h:br s=some (c,s')):s'.length<s.length:=by
 unfold br at h;split at h
 ·cases h
 ·rename_i lo s1 h1;have l1:=qf h1;split at h
  ·simp only[Option.some.injEq,Prod.mk.injEq]at h;obtain ⟨_,rfl⟩:=h;simpa using l1
  ·split at h
   ·split at h
    ·cases h
    ·rename_i hi s3 h3;have l3:=qf h3;split at h
     ·simp only[Option.some.injEq,Prod.mk.injEq]at h;obtain ⟨_,rfl⟩:=h;simp at l1;omega
     ·cases h
   ·simp only[Option.some.injEq,Prod.mk.injEq]at h;obtain ⟨_,rfl⟩:=h;exact l1
variable {k:eO} {o:Option (eO×List UInt8)}
theorem Cq.len(h:Cq k s o):∀c s',o=some (c,s')->s'.length<s.length:=by
 induction h with
 | stop=>intro c s' e;cases e;simp
 | bad _ _=>intro c s' e;cases e
 | more _ h _ ih=>intro c s' e;have:=ih c s' e;have:=kN h;omega
theorem eK.len(h:eK s (some (c,s'))):s'.length<s.length:=by
 generalize ho:some (c,s')=o at h
 cases h with
 | pos _ h k=>have:=k.len _ _ ho.symm;have:=kN h;omega
 | mm _ _=>cases ho
 | neg h k=>
  rename_i s s2 c2 o
  cases o with
  | none=>cases ho
  | some p=>
   simp only[Option.map_some,Option.some.injEq,Prod.mk.injEq]at ho;have:=k.len p.1 p.2 rfl;have:=kN h;rw[ho.2];simp;omega
 | mq _=>cases ho
variable {o':Option (eO×List UInt8)}
theorem Cq.dz(h:Cq k s o)(h':Cq k s o'):o=o':=by
 induction h with
 | stop=>cases h' with
  | stop=>rfl
  | bad n _=>simp at n
  | more n _ _=>simp at n
 | bad n e=>cases h' with
  | stop=>simp at n
  | bad _ _=>rfl
  | more _ e' _=>rw[e]at e';cases e'
 | more n e _ ih=>cases h' with
  | stop=>simp at n
  | bad _ e'=>rw[e]at e';cases e'
  | more _ e' k'=>rw[e]at e';cases e';exact ih k'
theorem eK.dz(h:eK s o)(h':eK s o'):o=o':=by
 cases h with
 | pos n e k=>cases h' with
  | pos _ e' k'=>rw[e]at e';cases e';exact k.dz k'
  | mm _ e'=>rw[e]at e';cases e'
  | neg _ _=>simp at n
  | mq _=>simp at n
 | mm n e=>cases h' with
  | pos _ e' k'=>rw[e]at e';cases e'
  | mm _ e'=>rfl
  | neg _ _=>simp at n
  | mq _=>simp at n
 | neg e k=>cases h' with
  | pos n _ _=>simp at n
  | mm n _=>simp at n
  | neg e' k'=>rw[e]at e';cases e';rw[k.dz k']
  | mq e'=>rw[e]at e';cases e'
 | mq e=>cases h' with
  | pos n _ _=>simp at n
  | mm n _=>simp at n
  | neg e' k'=>rw[e]at e';cases e'
  | mq e'=>rfl
mutual
theorem aV.dz{s:List UInt8}{o o':Option (Re×List UInt8)}(h:aV s o)(h':aV s o'):o=o':=by
 match h with
 | .paren k=>cases h' with
  | paren k'=>have:=bH.dz k k';simp only[Option.some.injEq,Prod.mk.injEq,List.cons.injEq,true_and]at this;rw[this.1,this.2]
  | gl k'=>have:=bH.dz k k';cases this
  | fR k' n=>have:=bH.dz k k';simp only[Option.some.injEq,Prod.mk.injEq]at this;rw[<-this.2]at n;simp at n
  | one n _ _=>simp at n
 | .gl k=>cases h' with
  | paren k'=>have:=bH.dz k k';cases this
  | gl k'=>rfl
  | fR k' n=>rfl
  | one n _ _=>simp at n
 | .fR k n=>cases h' with
  | paren k'=>have:=bH.dz k k';simp only[Option.some.injEq,Prod.mk.injEq]at this;rw[this.2]at n;simp at n
  | gl k'=>rfl
  | fR k' n=>rfl
  | one n _ _=>simp at n
 | .dot=>cases h' with
  | dot=>rfl
  | one _ n _=>simp at n
 | .dr k=>cases h' with
  | dr k'=>rw[k.dz k']
  | one _ _ n=>simp at n
 | .one n1 n2 n3=>cases h' with
  | paren _=>simp at n1
  | gl _=>simp at n1
  | fR _ _=>simp at n1
  | dot=>simp at n2
  | dr _=>simp at n3
  | one _ _ _=>rfl
 termination_by structural h
theorem dt.dz{s:List UInt8}{o o':Option (Re×List UInt8)}(h:dt s o)(h':dt s o'):o=o':=by
 match h with
 | .bad k=>cases h' with
  | bad _=>rfl
  | star k'=>cases aV.dz k k'
  | plus k'=>cases aV.dz k k'
  | fB k'=>cases aV.dz k k'
  | plain k' _ _ _=>cases aV.dz k k'
 | .star k=>cases h' with
  | bad k'=>cases aV.dz k k'
  | star k'=>cases aV.dz k k';rfl
  | plus k'=>cases aV.dz k k'
  | fB k'=>cases aV.dz k k'
  | plain k' n _ _=>cases aV.dz k k';simp at n
 | .plus k=>cases h' with
  | bad k'=>cases aV.dz k k'
  | star k'=>cases aV.dz k k'
  | plus k'=>cases aV.dz k k';rfl
  | fB k'=>cases aV.dz k k'
  | plain k' _ n _=>cases aV.dz k k';simp at n
 | .fB k=>cases h' with
  | bad k'=>cases aV.dz k k'
  | star k'=>cases aV.dz k k'
  | plus k'=>cases aV.dz k k'
  | fB k'=>cases aV.dz k k';rfl
  | plain k' _ _ n=>cases aV.dz k k';simp at n
 | .plain k n1 n2 n3=>cases h' with
  | bad k'=>cases aV.dz k k'
  | star k'=>cases aV.dz k k';simp at n1
  | plus k'=>cases aV.dz k k';simp at n2
  | fB k'=>cases aV.dz k k';simp at n3
  | plain k' _ _ _=>cases aV.dz k k';rfl
 termination_by structural h
theorem dL.dz{s:List UInt8}{o o':Option (List Re×List UInt8)}(h:dL s o)(h':dL s o'):o=o':=by
 match h with
 | .stop e=>cases h' with
  | stop _=>rfl
  | bad n _=>exact absurd e n
  | more n _ _=>exact absurd e n
  | jE n _ _=>exact absurd e n
 | .bad n k=>cases h' with
  | stop e=>exact absurd e n
  | bad _ _=>rfl
  | more _ k' _=>cases dt.dz k k'
  | jE _ _ _=>rfl
 | .more n k m=>cases h' with
  | stop e=>exact absurd e n
  | bad _ k'=>cases dt.dz k k'
  | more _ k' m'=>cases dt.dz k k';cases dL.dz m m';rfl
  | jE _ k' m'=>cases dt.dz k k';cases dL.dz m m'
 | .jE n k m=>cases h' with
  | stop e=>exact absurd e n
  | bad _ k'=>rfl
  | more _ k' m'=>cases dt.dz k k';cases dL.dz m m'
  | jE _ k' m'=>rfl
 termination_by structural h
theorem iD.dz{k:Re}{s:List UInt8}{o o':Option (Re×List UInt8)}(h:iD k s o)(h':iD k s o'):o=o':=by
 match h with
 | .stop n=>cases h' with
  | stop _=>rfl
  | bad _=>simp at n
  | more _ _=>simp at n
 | .bad c=>cases h' with
  | stop n=>simp at n
  | bad _=>rfl
  | more c' _=>cases dL.dz c c'
 | .more c m=>cases h' with
  | stop n=>simp at n
  | bad c'=>cases dL.dz c c'
  | more c' m'=>cases dL.dz c c';exact iD.dz m m'
 termination_by structural h
theorem bH.dz{s:List UInt8}{o o':Option (Re×List UInt8)}(h:bH s o)(h':bH s o'):o=o':=by
 match h with
 | .bad c=>cases h' with
  | bad _=>rfl
  | one c' _=>cases dL.dz c c'
 | .one c m=>cases h' with
  | bad c'=>cases dL.dz c c'
  | one c' m'=>cases dL.dz c c';exact iD.dz m m'
 termination_by structural h
end
theorem bV {p:Prop}[Decidable p](h:¬p):decide p=false:=decide_eq_false h
theorem cF {p:Prop}[Decidable p](h:p):decide p=true:=decide_eq_true h
theorem cB {α:Type}{l:List α}{i:Nat}(h:i<l.length):l[i]?=some l[i]:=List.getElem?_eq_getElem h
theorem bn {α:Type}{l:List α}{i:Nat}{a:α}(h:l[i]?=some a):a∈l:=List.mem_of_getElem? h
theorem dw {n m k:Nat}(h:n<m)(g:m<=k):n<k:=Nat.lt_of_lt_of_le h g
theorem bc (n:Nat):n<=n:=Nat.le_refl n
theorem bJ {n m k:Nat}(h:n<=m)(g:m<=k):n<=k:=Nat.le_trans h g
theorem er {α:Type}[BEq α][LawfulBEq α]{a b:α}:(a==b)=false<->a≠b:=beq_eq_false_iff_ne
theorem dG {α:Type}{a b:List α}:(a++b).length=a.length+b.length:=List.length_append
theorem fP {α:Type}(a b c:List α):a++b++c=a++(b++c):=List.append_assoc a b c
theorem fe {α:Type}{a:α}{l:List α}:(a::l).length=l.length+1:=List.length_cons
theorem fA {α:Type}(a b:α):(some a=some b)=(a=b):=Option.some.injEq a b
theorem ed (a b:Nat):a<b∨a>=b:=Nat.lt_or_ge a b
theorem fX {α β:Type}{f:α->β}{l:List α}{i:Nat}:(l.map f)[i]?=l[i]?.map f:=List.getElem?_map
theorem nz {α:Type}{a b:List α}{n:Nat}(h:n<a.length):(a++b)[n]?=a[n]?:=List.getElem?_append_left h
theorem pS {α:Type}{a b:List α}{n:Nat}(h:a.length<=n):(a++b)[n]?=b[n - a.length]?:=List.getElem?_append_right h
theorem fy {α β:Type}{l:List α}(f:α->β):(l.map f).length=l.length:=List.length_map f
end bu
