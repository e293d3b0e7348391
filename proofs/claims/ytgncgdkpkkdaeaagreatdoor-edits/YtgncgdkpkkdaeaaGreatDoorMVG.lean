import Derived.Test.YtgncgdkpkkdaeaaGreatDoorMO
import Derived.Test.YtgncgdkpkkdaeaaGreatDoorMW
import Derived.Test.YtgncgdkpkkdaeaaGreatDoorML
namespace Go.Proofs.YtgncgdkpkkdaeaaGreatDoor
open Go.RowKit aO Go.Maps
variable {ls:List aV} {l:cM} {B:Nat} {w:World}
def gQ:Nat->cM->Nat->cM
 | _,[],_=>[]
 | c,y::t,i=>if y.2.aL=true then gQ (c+1) t i else if y.2.aY=true/\i+1=c then y::gQ c t i else gQ c t i
def ju:Ln->Option (List UInt8)
 | .state n=>some n
 | _=>none
def bJ(l:cM):List (List UInt8):=l.filterMap λy=>ju y.2
def Pg(names:List (List UInt8))(x:Ln)(r:GR):Prop:=
 ∃d o c p,x=.rule d o c p/\r.k=d/\d<=2/\r.co.data.toList=c/\(d=1->names[r.op]?=some o)/\bh p (some (r.a.re,[]))/\p.length<=60
structure X4(l:cM)(G:List GS):Prop where
 names:bJ l=G.map (·.nm.data.toList)
 rules:∀i s,G[i]?=some s->(gQ 0 l i).length=s.rs.length/\∀(j:Nat) y r,(gQ 0 l i)[j]?=some y->s.rs[j]?=some r->Pg (bJ l) y.2 r
theorem rN{p:cM->Ln->Prop}{pre:cM}(h:dF p pre l none):∀a y b,l=a++y::b->¬p (pre++a) y.2:=by
 generalize ho:(none:Option Nat)=o at h
 induction h with
 | nil=>intro a y b e;simp at e
 | hit _=>cases ho
 | @skip pre a0 x l o hn _ ih=>
  intro a y b e
  cases a with
  | nil=>simp at e;obtain ⟨rfl,rfl⟩:=e;simpa using hn
  | cons z a=>
   simp at e;obtain ⟨rfl,rfl⟩:=e;have:=ih ho a y b rfl;simpa using this
theorem Dn(l:cM)(i:Nat):∀c,gQ c (l.filter (·.2.nb)) i=gQ c l i:=by
 induction l with
 | nil=>intro c;rfl
 | cons y t ih=>
  intro c;obtain ⟨a,x⟩:=y
  cases x with
  | blank=>rw[List.filter_cons_of_neg (by simp[Ln.nb])];rw[ih];simp[gQ,Ln.aL,Ln.aY]
  | state n=>rw[List.filter_cons_of_pos (by simp[Ln.nb])];simp[gQ,Ln.aL,ih]
  | rule d o c' p=>rw[List.filter_cons_of_pos (by simp[Ln.nb])];simp[gQ,Ln.aL,Ln.aY,ih]
theorem vZ(l:cM):bJ (l.filter (·.2.nb))=bJ l:=by
 induction l with
 | nil=>rfl
 | cons y t ih=>
  obtain ⟨a,x⟩:=y
  cases x with
  | blank=>rw[List.filter_cons_of_neg (by simp[Ln.nb])];simpa [bJ,ju] using ih
  | state n=>rw[List.filter_cons_of_pos (by simp[Ln.nb])];simpa [bJ,ju] using ih
  | rule d o c' p=>rw[List.filter_cons_of_pos (by simp[Ln.nb])];simpa [bJ,ju] using ih
theorem Im{l:aV}(h:gh w B l.kd l.d l.st l.co (.slice l.ao l.ln l.cp) l.wh l.fl l.x):(l.kd=1<->l.x.aL=true)/\(l.kd=2<->l.x.aY=true):=by
 cases hx:l.x with
 | blank=>rw[hx]at h;have:=h.1;simp[Ln.aL,Ln.aY,this]
 | state n=>rw[hx]at h;have:=h.1;simp[Ln.aL,Ln.aY,this]
 | rule d o c p=>rw[hx]at h;have:=h.1;simp[Ln.aL,Ln.aY,this]
theorem KQ(h:∀l∈ls,gh w B l.kd l.d l.st l.co (.slice l.ao l.ln l.cp) l.wh l.fl l.x)(i:Nat):∀c,(sec c ls i).map aV.pr=gQ c (ls.map aV.pr) i:=by
 induction ls with
 | nil=>intro c;rfl
 | cons l t ih=>
  intro c;have P9:=ih (λl hl=>h l (List.mem_cons_of_mem _ hl));obtain ⟨h1,h2⟩:=Im (h l List.mem_cons_self);simp only[sec,List.map_cons,gQ];have e1:(l.pr).2=l.x:=rfl;rw[e1];by_cases k1:l.kd=1
  ·rw[if_pos k1,if_pos (h1.1 k1)];exact P9 _
  ·rw[if_neg k1,if_neg (λe=>k1 (h1.2 e))];by_cases k2:l.kd=2/\i+1=c
   ·rw[if_pos k2,if_pos ⟨h2.1 k2.1,k2.2⟩,List.map_cons,P9]
   ·rw[if_neg k2,if_neg (λe=>k2 ⟨h2.2 e.1,e.2⟩)];exact P9 _
theorem Ss{i:Nat}:∀{c:Nat} {l:aV},l∈sec c ls i->l∈ls/\l.kd=2:=by
 induction ls with
 | nil=>intro c l h;simp[sec]at h
 | cons y t ih=>
  intro c l h;unfold sec at h;split at h
  ·exact ⟨List.mem_cons_of_mem _ (ih h).1,(ih h).2⟩
  ·split at h
   ·rename_i hk;rcases List.mem_cons.1 h with rfl|h
    ·exact ⟨List.mem_cons_self,hk.1⟩
    ·exact ⟨List.mem_cons_of_mem _ (ih h).1,(ih h).2⟩
   ·exact ⟨List.mem_cons_of_mem _ (ih h).1,(ih h).2⟩
theorem Dp(h:∀l∈ls,gh w B l.kd l.d l.st l.co (.slice l.ao l.ln l.cp) l.wh l.fl l.x):(aI ls).map (·.data.toList)=bJ (ls.map aV.pr):=by
 induction ls with
 | nil=>rfl
 | cons l t ih=>
  have P9:=ih (λl hl=>h l (List.mem_cons_of_mem _ hl));have hl:=h l List.mem_cons_self;have e1:(l.pr).2=l.x:=rfl
  cases hx:l.x with
  | blank=>
   rw[hx]at hl;simp only[aI,bJ,List.map_cons,List.filterMap_cons,e1,hx,ju,hl.1]at P9 ⊢;simpa using P9
  | state n=>
   rw[hx]at hl;simp only[aI,bJ,List.map_cons,List.filterMap_cons,e1,hx,ju,hl.1]at P9 ⊢;simp[hl.2.2.1,P9]
  | rule d o c p=>
   rw[hx]at hl;simp only[aI,bJ,List.map_cons,List.filterMap_cons,e1,hx,ju,hl.1]at P9 ⊢;simpa using P9
theorem lq(l:cM):(bJ l).length=(l.filter (·.2.aL)).length:=by
 induction l with
 | nil=>rfl
 | cons y t ih=>
  obtain ⟨a,x⟩:=y;cases x<;>simp_all [bJ,ju,Ln.aL]
theorem ug(l:cM)(i:Nat):∀c,(gQ c l i).length<=(l.filter (·.2.aY)).length:=by
 induction l with
 | nil=>intro c;simp[gQ]
 | cons y t ih=>
  intro c;obtain ⟨a,x⟩:=y
  cases x with
  | blank=>simpa [gQ,Ln.aL,Ln.aY] using ih c
  | state n=>simpa [gQ,Ln.aL,Ln.aY] using ih (c+1)
  | rule d o c' p=>
   have:=ih c;have e:(((a,Ln.rule d o c' p)::t).filter (·.2.aY)).length=(t.filter (·.2.aY)).length+1:=by rw[List.filter_cons_of_pos (by rfl)];rfl
   rw[e,gQ,if_neg (by simp[Ln.aL])];split
   ·rw[List.length_cons];omega
   ·omega
theorem L6(iE:∀y∈l,y.2.nb=true)(h:dF dA [] l none):(l.filter (·.2.aL)).length<=12/\(l.filter (·.2.aY)).length<=40:=by
 rcases List.eq_nil_or_concat l with rfl|⟨l',y,rfl⟩
 ·simp
 ·have h1:=rN h l' y [] (by simp);have h2:=iE y (by simp);simp only[dA,List.nil_append,h2,true_and,not_or,Nat.not_lt]at h1;simp only[List.concat_eq_append,List.filter_append,List.length_append,List.filter_cons,List.filter_nil];constructor
  ·cases hs:y.2.aL<;>simp_all
  ·cases hs:y.2.aY<;>simp_all
theorem sO{α β:Type}{l:List α}{P:Nat->α->β->Prop}(h:∀j x,l[j]?=some x->∃y,P j x y):∃ys:List β,ys.length=l.length/\∀j x y,l[j]?=some x->ys[j]?=some y->P j x y:=by
 induction l generalizing P with
 | nil=>exact ⟨[],rfl,λj x y hx=>by simp at hx⟩
 | cons a t ih=>
  obtain ⟨y0,h0⟩:=h 0 a rfl;obtain ⟨ys,h1,h2⟩:=ih (P:=λj=>P (j+1)) (λj x hx=>h (j+1) x (by simpa using hx));refine ⟨y0::ys,by simp[h1],λj x y hx hy=>?_⟩
  cases j with
  | zero=>simp at hx hy;subst hx hy;exact h0
  | succ j=>exact h2 j x y (by simpa using hx) (by simpa using hy)
theorem j5{si:Nat}{rs:List (List Value)}(hs:∀r∈rs,r.length=si){k:Nat}{r:List Value}(h:rs[k]?=some r)(j:Nat)(hj:j<si):rs.flatten[k*si+j]?=r[j]?:=by
 induction rs generalizing k with
 | nil=>simp at h
 | cons a l ih=>
  have ha:=hs a (by simp)
  cases k with
  | zero=>
   simp at h;subst h;rw[List.flatten_cons,Nat.zero_mul,Nat.zero_add,List.getElem?_append_left (by omega)]
  | succ k=>
   have e:(k+1)*si+j=a.length+(k*si+j):=by rw[Nat.succ_mul,ha];omega
   rw[List.flatten_cons,e,List.getElem?_append_right (by omega),Nat.add_sub_cancel_left];exact ih (λr hr=>hs r (List.mem_cons_of_mem _ hr)) (by simpa using h)
def yI(w:World)(names:List (List UInt8))(x:Ln)(r:wI)(y:GR):Prop:=
 Pg names x y/\y.k=r.k/\y.op=r.op/\y.co=r.co/\y.a.re.aq=false/\∃lg,r.ao=some ⟨lg,0,none⟩/\r.wh=y.a.ix /\
  ∃ns,ns.length=r.ln/\bj w 0 (.slice (some ⟨lg,0,none⟩) r.ln r.cp) ns/\dR (aF w) ns y.a/\dR (aF w) ns .dh/\0<ns.length/\ns.length<=200/\y.a.sz<=200/\y.a.leaves<=60/\y.a.re.aq=false
theorem bj.zero{sv:Value}{ns:List (Nd Value)}(h:bj w B sv ns):bj w 0 sv ns:=by
 refine ⟨⟨h.1.1,?_⟩,h.2⟩;rcases h.1.2 with h1|⟨g,cap,cur,h1,h2,h3⟩
 ·exact .inl h1
 ·exact .inr ⟨g,cap,cur,h1,Nat.zero_le _,h3⟩
theorem KR{l:aV}{r:wI}{names:List ByteArray}(hl:gh w B l.kd l.d l.st l.co (.slice l.ao l.ln l.cp) l.wh l.fl l.x)(hk:l.kd=2)(hr:Vt names l r)(h1:¬jN [] l.x)(h6:¬oF [] l.x)(h7:¬fY [] l.x):∃y,yI w (names.map (·.data.toList)) l.x r y:=by
 cases hx:l.x with
 | blank=>rw[hx]at hl;have:=hl.1;omega
 | state n=>rw[hx]at hl;have:=hl.1;omega
 | rule d o c p=>
  rw[hx]at hl h1 h6 h7;obtain ⟨-,rfl,hd,ho,hc,hp⟩:=hl;obtain ⟨r1,r2,r3,r4,r5,r6,r7,r8⟩:=hr;have acD:p.length<=60:=Nat.le_of_not_lt λh=>h1 ⟨_,_,_,_,rfl,h⟩
  rcases hp with ⟨e,_⟩|⟨e1,e2,_⟩|⟨e1,e2,a,ns,g,cap,e3,e4,e5,e6,e7,e8,e9⟩
  ·omega
  ·refine absurd ⟨_,_,_,_,rfl,e1,?_⟩ h6;rintro ⟨r0,IR⟩;rcases e2 with e2|⟨r',s',hne,e2⟩
   ·cases IR.cX e2
   ·have:=IR.cX e2;simp at this;exact hne this.2
  ·have rU:a.re.aq=false:=by
    cases hn:a.re.aq with
    | false=>rfl
    | true=>exact absurd ⟨_,_,_,_,_,rfl,e5,hn⟩ h7
   have q1:l.ao=some ⟨g,0,none⟩:=by simp at e3;exact e3.1
   have q2:l.ln=ns.length:=by simp at e3;exact e3.2.1
   have hsz:=bh.size e5 _ _ rfl;rw[aN.S3,aN.xQ]at hsz;simp only[List.length_nil]at hsz;refine ⟨⟨r.k,r.op,r.co,a⟩,⟨l.d,o,c,p,rfl,r1,hd,by rw[r2];exact hc,λh=>?_,e5,acD⟩,rfl,rfl,rfl,rU,g,by rw[r3,q1],by rw[r6];exact e4,ns,by rw[r4,q2],by rw[r4,r5,<-q1];exact e6.zero,e7,e8,Nat.lt_of_le_of_lt (Nat.zero_le _) e7.lt,e9,by show a.sz<=200;omega,by show a.leaves<=60;omega,rU⟩
   obtain ⟨n,n1,n2⟩:=r7 h;rw[List.getElem?_map,n1];simp[n2,ho]
theorem IY{n cap:Nat}{ao:Option Addr}{ss:List mS}{s:List UInt8}(h:Made w B (.slice ao n cap) ls ss)(hl:dt s 0 0 ((ls.map aV.pr).filter (·.2.nb))):
  ∃g G,ao=some ⟨g,0,none⟩/\0<G.length/\(∀w',Below w.heap.size w w'->bR w' g n cap G)/\xD G/\X4 ((ls.map aV.pr).filter (·.2.nb)) G:=by
 obtain ⟨B',lv,hL⟩:=h.lines;have Io:=hL.each;obtain ⟨L,hLd⟩:∃L,(ls.map aV.pr).filter (·.2.nb)=L:=⟨_,rfl⟩;rw[hLd]at hl ⊢;have iE:∀y∈L,y.2.nb=true:=λy hy=>by rw[<-hLd]at hy;exact (List.mem_filter.1 hy).2
 have hch:eO L (tests L) 0 0:=by
  cases hl with
  | fault _ _ _ h0=>exact absurd rfl h0
  | ok _ _ h3 _=>exact h3
 have h4:dF dA [] L none/\dF jN [] L none/\dF oF [] L none/\dF fY [] L none:=by
  unfold tests at hch
  cases hch with
  | skip _ hch=>cases hch with
   | skip a1 hch=>cases hch with
    | skip _ hch=>cases hch with
     | skip a2 hch=>cases hch with
      | skip a3 hch=>cases hch with
       | skip a4 _=>exact ⟨a1,a2,a3,a4⟩
 obtain ⟨f4,f1,f6,f7⟩:=h4;obtain ⟨Zx,DU⟩:=L6 iE f4;have Gq:bJ L=(aI ls).map (·.data.toList):=by rw[<-hLd,vZ,Dp Io]
 have Bl:∀i,gQ 0 L i=(sec 0 ls i).map aV.pr:=λi=>by rw[<-hLd,Dn,KQ Io]
 obtain ⟨fS,Wm⟩:=h.inv;have hlen:ss.length=(bJ L).length:=by rw[Gq,<-fS];simp
 -- the rules of each state
 have hst:∀i st,ss[i]?=some st->∃y:GS,y.nm=st.nm/\y.rs.length=st.rs.length/\∀(j:Nat) (r:wI) (z:GR),st.rs[j]?=some r->y.rs[j]?=some z->∃l,(sec 0 ls i)[j]?=some l/\yI w (bJ L) l.x r z:=by
  intro i st hi;obtain ⟨hz1,hz2⟩:=Wm i st hi
  obtain ⟨ys,y1,y2⟩:=sO (l:=st.rs) (P:=λj r z=>∃l,(sec 0 ls i)[j]?=some l/\yI w (bJ L) l.x r z) (λj r hj=>by
   have hlt:j<(sec 0 ls i).length:=by rw[hz1];exact aw hj
   have hx:(sec 0 ls i)[j]?=some (sec 0 ls i)[j]:=List.getElem?_eq_getElem hlt;obtain ⟨m1,m2⟩:=Ss (List.mem_of_getElem? hx);have oz:=hz2 j _ _ hx hj
   have Fg:(sec 0 ls i)[j].pr∈L:=by
    rw[<-hLd,List.mem_filter];refine ⟨List.mem_map_of_mem m1,?_⟩;have:=(Im (Io _ m1)).2.1 m2;show (sec 0 ls i)[j].x.nb=true
    cases hx2:(sec 0 ls i)[j].x with
    | blank=>rw[hx2]at this;cases this
    | state _=>rfl
    | rule _ _ _ _=>rfl
   obtain ⟨y,hy⟩:=KR (Io _ m1) m2 oz (dI (λ_ _=>Iff.rfl) f1 _ Fg) (dI (λ_ _=>Iff.rfl) f6 _ Fg) (dI (λ_ _=>Iff.rfl) f7 _ Fg);rw[<-Gq]at hy;exact ⟨y,_,hx,hy⟩)
  exact ⟨⟨st.nm,ys⟩,rfl,y1,y2⟩
 obtain ⟨G,g1,g2⟩:=sO (l:=ss) (P:=λi st (y:GS)=>y.nm=st.nm/\y.rs.length=st.rs.length/\∀(j:Nat) (r:wI) (z:GR),st.rs[j]?=some r->y.rs[j]?=some z->∃l,(sec 0 ls i)[j]?=some l/\yI w (bJ L) l.x r z) hst;obtain ⟨px,cap',e1,e2⟩:=h.states.form;cases e1;obtain ⟨g,rfl⟩:=e2 h.some
 have get:∀i (y:GS),G[i]?=some y->∃st,ss[i]?=some st/\y.nm=st.nm/\y.rs.length=st.rs.length/\∀(j:Nat) (r:wI) (z:GR),st.rs[j]?=some r->y.rs[j]?=some z->∃l,(sec 0 ls i)[j]?=some l/\yI w (bJ L) l.x r z:=λi y hy=>by
  have hlt:i<ss.length:=by rw[<-g1];exact aw hy
  have hx:ss[i]?=some ss[i]:=List.getElem?_eq_getElem hlt;exact ⟨_,hx,g2 i _ y hx hy⟩
 have Wn:∀i (y:GS),G[i]?=some y->∀(j:Nat) (z:GR),y.rs[j]?=some z->∃st r l,ss[i]?=some st/\st.rs[j]?=some r/\(sec 0 ls i)[j]?=some l/\yI w (bJ L) l.x r z:=λi y hy j z hz=>by
  obtain ⟨st,s1,s2,s3,s4⟩:=get i y hy;have hlt:j<st.rs.length:=by rw[<-s3];exact aw hz
  have hx:st.rs[j]?=some st.rs[j]:=List.getElem?_eq_getElem hlt;obtain ⟨l,l1,l2⟩:=s4 j _ z hx hz;exact ⟨st,_,l,s1,hx,l1,l2⟩
 have hGn:bJ L=G.map (·.nm.data.toList):=by
  rw[Gq,<-fS];refine List.ext_getElem? λi=>?_
  simp only[List.getElem?_map]
  cases hi:ss[i]? with
  | none=>
   have:G[i]?=none:=List.getElem?_eq_none (by rw[g1];exact List.getElem?_eq_none_iff.1 hi);rw[this];rfl
  | some st=>
   have hlt:i<G.length:=by rw[g1];exact aw hi
   have hx:G[i]?=some G[i]:=List.getElem?_eq_getElem hlt;rw[hx];simp[(g2 i st _ hi hx).1]
 have oz:∀(i:Nat) (s':GS),G[i]?=some s'->s'.rs.length<=40:=λi s' hs'=>by obtain ⟨st,s1,s2,s3,s4⟩:=get i s' hs';have:=ug L i 0;rw[Bl,List.length_map,(Wm i st s1).1]at this;omega
 refine ⟨g,G,rfl,by rw[g1];exact h.some,λw' hb=>bR.below ⟨g1.symm,by rw[hlen,lq];exact Zx,λi s' hs'=>?_⟩ hb,λs' hs' r hr=>?_,⟨hGn,λi s' hs'=>?_⟩⟩
 ·obtain ⟨st,s1,s2,s3,s4⟩:=get i s' hs';obtain ⟨c1,c2⟩:=h.states.cells s1;have jW:=h.states.inner st.el (List.mem_map_of_mem (List.mem_of_getElem? s1));have Wo:w.ownsRow B 231 5 (.slice st.ao st.ln st.cp) st.rs.length (st.rs.map wI.cells).flatten:=by simpa [mS.el] using jW
  refine ⟨by rw[s2];exact c1,oz i s' hs',_,c2,?_⟩;rcases Wo.2 with ⟨hv,h0⟩|⟨rg,kV,cur,hv,-⟩
  ·refine ⟨none,0,by rw[hv,s3,h0],λj r hj=>?_⟩;have:=aw hj;omega
  ·refine ⟨some ⟨rg,0,none⟩,kV,by rw[hv,s3],λj r hj=>?_⟩;rw[hv]at Wo;obtain ⟨st',r',l',q1,q2,q3,q4⟩:=Wn i s' hs' j r hj;rw[s1]at q1;cases q1;obtain ⟨m1,m2,m3,m4,m5,lg,m6,m7,m8⟩:=q4
   have hcell:∀(y:Nat) u,r'.cells[y]?=some u->w.cell? ⟨rg,j*5+y,none⟩=some u:=λy u hy=>by
    have XQ:y<5:=by have:=aw hy;simpa [wI.cells] using this
    refine (bG Wo ?_).1;rw[j5 (si:=5) (by intro x hx;obtain ⟨z,_,rfl⟩:=List.mem_map.1 hx;rfl) (r:=r'.cells) (by rw[List.getElem?_map,q2];rfl) y XQ];exact hy
   exact ⟨rg,lg,r'.ln,r'.cp,rfl,by rw[m2];exact hcell 0 _ rfl,by rw[m3];exact hcell 1 _ rfl,by rw[m4];exact hcell 2 _ rfl,by rw[<-m6];exact hcell 3 _ rfl,by rw[<-m7];exact hcell 4 _ rfl,m8⟩
 ·obtain ⟨i,hi⟩:=List.getElem?_of_mem hs';obtain ⟨j,hj⟩:=List.getElem?_of_mem hr;obtain ⟨st,r',l',q1,q2,q3,q4⟩:=Wn i s' hi j r hj;obtain ⟨⟨d,o,c,p,e1,e2,e3,e4,e5,e6,e7⟩,m2,m3,m4,m5,_⟩:=q4;refine ⟨m5,λhk=>?_⟩;have:=aw (e5 (by omega));rw[hGn]at this;simpa using this
 ·obtain ⟨st,s1,s2,s3,s4⟩:=get i s' hs';rw[Bl];refine ⟨by rw[List.length_map,(Wm i st s1).1,s3],λj y r hy hr=>?_⟩;obtain ⟨st',r',l',q1,q2,q3,q4⟩:=Wn i s' hs' j r hr;rw[List.getElem?_map,q3]at hy;cases hy;exact q4.1
end Go.Proofs.YtgncgdkpkkdaeaaGreatDoor
