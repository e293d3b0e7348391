import Derived.Test.YtgncgdkpkkdaeaaGreatDoorAO
import Derived.Test.YtgncgdkpkkdaeaaGreatDoorAW
namespace Go.Proofs.YtgncgdkpkkdaeaaGreatDoor
open Go.RowKit bu Go.Maps
variable {ls:List aW} {l:cU} {B:Nat} {w:World}
def iv:Nat->cU->Nat->cU
 | _,[],_=>[]
 | c,y::t,i=>if y.2.aN=true then iv (c+1) t i else if y.2.aZ=true/\i+1=c then y::iv c t i else iv c t i
def jM:Ln->Option (List UInt8)
 | .state n=>some n
 | _=>none
def bQ(l:cU):List (List UInt8):=l.filterMap λy=>jM y.2
def Qc(names:List (List UInt8))(x:Ln)(r:GR):Prop:=
 ∃d o c p,x=.rule d o c p/\r.k=d/\d<=2/\r.co.data.toList=c/\(d=1->names[r.op]?=some o)/\bH p (some (r.a.re,[]))/\p.length<=60
structure YO(l:cU)(G:List GS):Prop where
 names:bQ l=G.map (·.nm.data.toList)
 rules:∀i s,G[i]?=some s->(iv 0 l i).length=s.rs.length/\∀(j:Nat) y r,(iv 0 l i)[j]?=some y->s.rs[j]?=some r->Qc (bQ l) y.2 r
theorem sT{p:cU->Ln->Prop}{pre:cU}(h:dQ p pre l none):∀a y b,l=a++y::b->¬p (pre++a) y.2:=by
 generalize ho:(none:Option Nat)=o at h
 induction h with
 | nil=>intro a y b e;simp at e
 | hit _=>cases ho
 | @skip pre a0 x l o hn _ ih=>
  intro a y b e
  cases a with
  | nil=>simp at e;obtain ⟨rfl,rfl⟩:=e;simpa using hn
  | cons z a=>
   simp at e;obtain ⟨rfl,rfl⟩:=e;have:=ih ho a y b rfl;simpa using this
theorem Ee(l:cU)(i:Nat):∀c,iv c (l.filter (·.2.nb)) i=iv c l i:=by
 induction l with
 | nil=>intro c;rfl
 | cons y t ih=>
  intro c;obtain ⟨a,x⟩:=y
  cases x with
  | blank=>rw[List.filter_cons_of_neg (by simp[Ln.nb])];rw[ih];simp[iv,Ln.aN,Ln.aZ]
  | state n=>rw[List.filter_cons_of_pos (by simp[Ln.nb])];simp[iv,Ln.aN,ih]
  | rule d o c' p=>rw[List.filter_cons_of_pos (by simp[Ln.nb])];simp[iv,Ln.aN,Ln.aZ,ih]
theorem xl(l:cU):bQ (l.filter (·.2.nb))=bQ l:=by
 induction l with
 | nil=>rfl
 | cons y t ih=>
  obtain ⟨a,x⟩:=y
  cases x with
  | blank=>rw[List.filter_cons_of_neg (by simp[Ln.nb])];simpa [bQ,jM] using ih
  | state n=>rw[List.filter_cons_of_pos (by simp[Ln.nb])];simpa [bQ,jM] using ih
  | rule d o c' p=>rw[List.filter_cons_of_pos (by simp[Ln.nb])];simpa [bQ,jM] using ih
theorem Jf{l:aW}(h:gO w B l.kd l.d l.st l.co (.slice l.ao l.ln l.cp) l.wh l.fl l.x):(l.kd=1<->l.x.aN=true)/\(l.kd=2<->l.x.aZ=true):=by
 cases hx:l.x with
 | blank=>rw[hx]at h;have:=h.1;simp[Ln.aN,Ln.aZ,this]
 | state n=>rw[hx]at h;have:=h.1;simp[Ln.aN,Ln.aZ,this]
 | rule d o c p=>rw[hx]at h;have:=h.1;simp[Ln.aN,Ln.aZ,this]
theorem LF(h:∀l∈ls,gO w B l.kd l.d l.st l.co (.slice l.ao l.ln l.cp) l.wh l.fl l.x)(i:Nat):∀c,(sec c ls i).map aW.pr=iv c (ls.map aW.pr) i:=by
 induction ls with
 | nil=>intro c;rfl
 | cons l t ih=>
  intro c;have QV:=ih (λl hl=>h l (List.mem_cons_of_mem _ hl));obtain ⟨h1,h2⟩:=Jf (h l List.mem_cons_self);simp only[sec,List.map_cons,iv];have e1:(l.pr).2=l.x:=rfl;rw[e1];by_cases k1:l.kd=1
  ·rw[if_pos k1,if_pos (h1.1 k1)];exact QV _
  ·rw[if_neg k1,if_neg (λe=>k1 (h1.2 e))];by_cases k2:l.kd=2/\i+1=c
   ·rw[if_pos k2,if_pos ⟨h2.1 k2.1,k2.2⟩,List.map_cons,QV]
   ·rw[if_neg k2,if_neg (λe=>k2 ⟨h2.2 e.1,e.2⟩)];exact QV _
theorem Tl{i:Nat}:∀{c:Nat} {l:aW},l∈sec c ls i->l∈ls/\l.kd=2:=by
 induction ls with
 | nil=>intro c l h;simp[sec]at h
 | cons y t ih=>
  intro c l h;unfold sec at h;split at h
  ·exact ⟨List.mem_cons_of_mem _ (ih h).1,(ih h).2⟩
  ·split at h
   ·rename_i hk;rcases List.mem_cons.1 h with rfl|h
    ·exact ⟨List.mem_cons_self,hk.1⟩
    ·exact ⟨List.mem_cons_of_mem _ (ih h).1,(ih h).2⟩
   ·exact ⟨List.mem_cons_of_mem _ (ih h).1,(ih h).2⟩
theorem Ef(h:∀l∈ls,gO w B l.kd l.d l.st l.co (.slice l.ao l.ln l.cp) l.wh l.fl l.x):(aK ls).map (·.data.toList)=bQ (ls.map aW.pr):=by
 induction ls with
 | nil=>rfl
 | cons l t ih=>
  have QV:=ih (λl hl=>h l (List.mem_cons_of_mem _ hl));have hl:=h l List.mem_cons_self;have e1:(l.pr).2=l.x:=rfl
  cases hx:l.x with
  | blank=>
   rw[hx]at hl;simp only[aK,bQ,List.map_cons,List.filterMap_cons,e1,hx,jM,hl.1]at QV ⊢;simpa using QV
  | state n=>
   rw[hx]at hl;simp only[aK,bQ,List.map_cons,List.filterMap_cons,e1,hx,jM,hl.1]at QV ⊢;simp[hl.2.2.1,QV]
  | rule d o c p=>
   rw[hx]at hl;simp only[aK,bQ,List.map_cons,List.filterMap_cons,e1,hx,jM,hl.1]at QV ⊢;simpa using QV
theorem mh(l:cU):(bQ l).length=(l.filter (·.2.aN)).length:=by
 induction l with
 | nil=>rfl
 | cons y t ih=>
  obtain ⟨a,x⟩:=y;cases x<;>simp_all [bQ,jM,Ln.aN]
theorem uT(l:cU)(i:Nat):∀c,(iv c l i).length<=(l.filter (·.2.aZ)).length:=by
 induction l with
 | nil=>intro c;simp[iv]
 | cons y t ih=>
  intro c;obtain ⟨a,x⟩:=y
  cases x with
  | blank=>simpa [iv,Ln.aN,Ln.aZ] using ih c
  | state n=>simpa [iv,Ln.aN,Ln.aZ] using ih (c+1)
  | rule d o c' p=>
   have:=ih c;have e:(((a,Ln.rule d o c' p)::t).filter (·.2.aZ)).length=(t.filter (·.2.aZ)).length+1:=by rw[List.filter_cons_of_pos (by rfl)];rfl
   rw[e,iv,if_neg (by simp[Ln.aN])];split
   ·rw[fe];omega
   ·omega
theorem MS(iX:∀y∈l,y.2.nb=true)(h:dQ dI [] l none):(l.filter (·.2.aN)).length<=12/\(l.filter (·.2.aZ)).length<=40:=by
 rcases List.eq_nil_or_concat l with rfl|⟨l',y,rfl⟩
 ·simp
 ·have h1:=sT h l' y [] (by simp);have h2:=iX y (by simp);simp only[dI,List.nil_append,h2,true_and,not_or,Nat.not_lt]at h1;simp only[List.concat_eq_append,List.filter_append,dG,List.filter_cons,List.filter_nil];constructor
  ·cases hs:y.2.aN<;>simp_all
  ·cases hs:y.2.aZ<;>simp_all
theorem tP{α β:Type}{l:List α}{P:Nat->α->β->Prop}(h:∀j x,l[j]?=some x->∃y,P j x y):∃ys:List β,ys.length=l.length/\∀j x y,l[j]?=some x->ys[j]?=some y->P j x y:=by
 induction l generalizing P with
 | nil=>exact ⟨[],rfl,λj x y hx=>by simp at hx⟩
 | cons a t ih=>
  obtain ⟨y0,h0⟩:=h 0 a rfl;obtain ⟨ys,h1,h2⟩:=ih (P:=λj=>P (j+1)) (λj x hx=>h (j+1) x (by simpa using hx));refine ⟨y0::ys,by simp[h1],λj x y hx hy=>?_⟩
  cases j with
  | zero=>simp at hx hy;subst hx hy;exact h0
  | succ j=>exact h2 j x y (by simpa using hx) (by simpa using hy)
theorem kH{si:Nat}{rs:List (List Value)}(hs:∀r∈rs,r.length=si){k:Nat}{r:List Value}(h:rs[k]?=some r)(j:Nat)(hj:j<si):rs.flatten[k*si+j]?=r[j]?:=by
 induction rs generalizing k with
 | nil=>simp at h
 | cons a l ih=>
  have ha:=hs a (by simp)
  cases k with
  | zero=>
   simp at h;subst h;rw[List.flatten_cons,Nat.zero_mul,Nat.zero_add,nz (by omega)]
  | succ k=>
   have e:(k+1)*si+j=a.length+(k*si+j):=by rw[Nat.succ_mul,ha];omega
   rw[List.flatten_cons,e,pS (by omega),Nat.add_sub_cancel_left];exact ih (λr hr=>hs r (List.mem_cons_of_mem _ hr)) (by simpa using h)
def zD(w:World)(names:List (List UInt8))(x:Ln)(r:xx)(y:GR):Prop:=
 Qc names x y/\y.k=r.k/\y.op=r.op/\y.co=r.co/\y.a.re.au=false/\∃lg,r.ao=some ⟨lg,0,none⟩/\r.wh=y.a.ix /\
  ∃ns,ns.length=r.ln/\bm w 0 (.slice (some ⟨lg,0,none⟩) r.ln r.cp) ns/\ei (aH w) ns y.a/\ei (aH w) ns .dE/\0<ns.length/\ns.length<=200/\y.a.sz<=200/\y.a.leaves<=60/\y.a.re.au=false
theorem bm.zero{sv:Value}{ns:List (Nd Value)}(h:bm w B sv ns):bm w 0 sv ns:=by
 refine ⟨⟨h.1.1,?_⟩,h.2⟩;rcases h.1.2 with h1|⟨g,cap,cur,h1,h2,h3⟩
 ·exact .inl h1
 ·exact .inr ⟨g,cap,cur,h1,Nat.zero_le _,h3⟩
theorem LG{l:aW}{r:xx}{names:List ByteArray}(hl:gO w B l.kd l.d l.st l.co (.slice l.ao l.ln l.cp) l.wh l.fl l.x)(hk:l.kd=2)(hr:Wi names l r)(h1:¬kn [] l.x)(h6:¬pz [] l.x)(h7:¬gM [] l.x):∃y,zD w (names.map (·.data.toList)) l.x r y:=by
 cases hx:l.x with
 | blank=>rw[hx]at hl;have:=hl.1;omega
 | state n=>rw[hx]at hl;have:=hl.1;omega
 | rule d o c p=>
  rw[hx]at hl h1 h6 h7;obtain ⟨-,rfl,hd,ho,hc,hp⟩:=hl;obtain ⟨r1,r2,r3,r4,r5,r6,r7,r8⟩:=hr;have ac6:p.length<=60:=Nat.le_of_not_lt λh=>h1 ⟨_,_,_,_,rfl,h⟩
  rcases hp with ⟨e,_⟩|⟨e1,e2,_⟩|⟨e1,e2,a,ns,g,cap,e3,e4,e5,e6,e7,e8,e9⟩
  ·omega
  ·refine absurd ⟨_,_,_,_,rfl,e1,?_⟩ h6;rintro ⟨r0,JD⟩;rcases e2 with e2|⟨r',s',hne,e2⟩
   ·cases JD.dz e2
   ·have:=JD.dz e2;simp at this;exact hne this.2
  ·have sY:a.re.au=false:=by
    cases hn:a.re.au with
    | false=>rfl
    | true=>exact absurd ⟨_,_,_,_,_,rfl,e5,hn⟩ h7
   have q1:l.ao=some ⟨g,0,none⟩:=by simp at e3;exact e3.1
   have q2:l.ln=ns.length:=by simp at e3;exact e3.2.1
   have hsz:=bH.size e5 _ _ rfl;rw[aP.TR,aP.yH]at hsz;simp only[List.length_nil]at hsz;refine ⟨⟨r.k,r.op,r.co,a⟩,⟨l.d,o,c,p,rfl,r1,hd,by rw[r2];exact hc,λh=>?_,e5,ac6⟩,rfl,rfl,rfl,sY,g,by rw[r3,q1],by rw[r6];exact e4,ns,by rw[r4,q2],by rw[r4,r5,<-q1];exact e6.zero,e7,e8,Nat.lt_of_le_of_lt (Nat.zero_le _) e7.lt,e9,by show a.sz<=200;omega,by show a.leaves<=60;omega,sY⟩
   obtain ⟨n,n1,n2⟩:=r7 h;rw[fX,n1];simp[n2,ho]
theorem JJ{n cap:Nat}{ao:Option Addr}{ss:List nO}{s:List UInt8}(h:Made w B (.slice ao n cap) ls ss)(hl:dD s 0 0 ((ls.map aW.pr).filter (·.2.nb))):
  ∃g G,ao=some ⟨g,0,none⟩/\0<G.length/\(∀w',Below w.heap.size w w'->cd w' g n cap G)/\yq G/\YO ((ls.map aW.pr).filter (·.2.nb)) G:=by
 obtain ⟨B',lv,hL⟩:=h.lines;have Jg:=hL.each;obtain ⟨L,hLd⟩:∃L,(ls.map aW.pr).filter (·.2.nb)=L:=⟨_,rfl⟩;rw[hLd]at hl ⊢;have iX:∀y∈L,y.2.nb=true:=λy hy=>by rw[<-hLd]at hy;exact (List.mem_filter.1 hy).2
 have hch:fp L (tests L) 0 0:=by
  cases hl with
  | fault _ _ _ h0=>exact absurd rfl h0
  | ok _ _ h3 _=>exact h3
 have h4:dQ dI [] L none/\dQ kn [] L none/\dQ pz [] L none/\dQ gM [] L none:=by
  unfold tests at hch
  cases hch with
  | skip _ hch=>cases hch with
   | skip a1 hch=>cases hch with
    | skip _ hch=>cases hch with
     | skip a2 hch=>cases hch with
      | skip a3 hch=>cases hch with
       | skip a4 _=>exact ⟨a1,a2,a3,a4⟩
 obtain ⟨f4,f1,f6,f7⟩:=h4;obtain ⟨h12,EG⟩:=MS iX f4;have Hh:bQ L=(aK ls).map (·.data.toList):=by rw[<-hLd,xl,Ef Jg]
 have Ci:∀i,iv 0 L i=(sec 0 ls i).map aW.pr:=λi=>by rw[<-hLd,Ee,LF Jg]
 obtain ⟨gF,Xo⟩:=h.inv;have hlen:ss.length=(bQ L).length:=by rw[Hh,<-gF];simp
 -- the rules of each state
 have hst:∀i st,ss[i]?=some st->∃y:GS,y.nm=st.nm/\y.rs.length=st.rs.length/\∀(j:Nat) (r:xx) (z:GR),st.rs[j]?=some r->y.rs[j]?=some z->∃l,(sec 0 ls i)[j]?=some l/\zD w (bQ L) l.x r z:=by
  intro i st hi;obtain ⟨hz1,hz2⟩:=Xo i st hi
  obtain ⟨ys,y1,y2⟩:=tP (l:=st.rs) (P:=λj r z=>∃l,(sec 0 ls i)[j]?=some l/\zD w (bQ L) l.x r z) (λj r hj=>by
   have hlt:j<(sec 0 ls i).length:=by rw[hz1];exact az hj
   have hx:(sec 0 ls i)[j]?=some (sec 0 ls i)[j]:=cB hlt;obtain ⟨m1,m2⟩:=Tl (bn hx);have od:=hz2 j _ _ hx hj
   have Gd:(sec 0 ls i)[j].pr∈L:=by
    rw[<-hLd,List.mem_filter];refine ⟨List.mem_map_of_mem m1,?_⟩;have:=(Jf (Jg _ m1)).2.1 m2;show (sec 0 ls i)[j].x.nb=true
    cases hx2:(sec 0 ls i)[j].x with
    | blank=>rw[hx2]at this;cases this
    | state _=>rfl
    | rule _ _ _ _=>rfl
   obtain ⟨y,hy⟩:=LG (Jg _ m1) m2 od (dT (λ_ _=>Iff.rfl) f1 _ Gd) (dT (λ_ _=>Iff.rfl) f6 _ Gd) (dT (λ_ _=>Iff.rfl) f7 _ Gd);rw[<-Hh]at hy;exact ⟨y,_,hx,hy⟩)
  exact ⟨⟨st.nm,ys⟩,rfl,y1,y2⟩
 obtain ⟨G,g1,g2⟩:=tP (l:=ss) (P:=λi st (y:GS)=>y.nm=st.nm/\y.rs.length=st.rs.length/\∀(j:Nat) (r:xx) (z:GR),st.rs[j]?=some r->y.rs[j]?=some z->∃l,(sec 0 ls i)[j]?=some l/\zD w (bQ L) l.x r z) hst;obtain ⟨pW,cap',e1,e2⟩:=h.states.form;cases e1;obtain ⟨g,rfl⟩:=e2 h.some
 have get:∀i (y:GS),G[i]?=some y->∃st,ss[i]?=some st/\y.nm=st.nm/\y.rs.length=st.rs.length/\∀(j:Nat) (r:xx) (z:GR),st.rs[j]?=some r->y.rs[j]?=some z->∃l,(sec 0 ls i)[j]?=some l/\zD w (bQ L) l.x r z:=λi y hy=>by
  have hlt:i<ss.length:=by rw[<-g1];exact az hy
  have hx:ss[i]?=some ss[i]:=cB hlt;exact ⟨_,hx,g2 i _ y hx hy⟩
 have Xp:∀i (y:GS),G[i]?=some y->∀(j:Nat) (z:GR),y.rs[j]?=some z->∃st r l,ss[i]?=some st/\st.rs[j]?=some r/\(sec 0 ls i)[j]?=some l/\zD w (bQ L) l.x r z:=λi y hy j z hz=>by
  obtain ⟨st,s1,s2,s3,s4⟩:=get i y hy;have hlt:j<st.rs.length:=by rw[<-s3];exact az hz
  have hx:st.rs[j]?=some st.rs[j]:=cB hlt;obtain ⟨l,l1,l2⟩:=s4 j _ z hx hz;exact ⟨st,_,l,s1,hx,l1,l2⟩
 have hGn:bQ L=G.map (·.nm.data.toList):=by
  rw[Hh,<-gF];refine List.ext_getElem? λi=>?_
  simp only[fX]
  cases hi:ss[i]? with
  | none=>
   have:G[i]?=none:=List.getElem?_eq_none (by rw[g1];exact List.getElem?_eq_none_iff.1 hi);rw[this];rfl
  | some st=>
   have hlt:i<G.length:=by rw[g1];exact az hi
   have hx:G[i]?=some G[i]:=cB hlt;rw[hx];simp[(g2 i st _ hi hx).1]
 have od:∀(i:Nat) (s':GS),G[i]?=some s'->s'.rs.length<=40:=λi s' hs'=>by obtain ⟨st,s1,s2,s3,s4⟩:=get i s' hs';have:=uT L i 0;rw[Ci,fy,(Xo i st s1).1]at this;omega
 refine ⟨g,G,rfl,by rw[g1];exact h.some,λw' hb=>cd.below ⟨g1.symm,by rw[hlen,mh];exact h12,λi s' hs'=>?_⟩ hb,λs' hs' r hr=>?_,⟨hGn,λi s' hs'=>?_⟩⟩
 ·obtain ⟨st,s1,s2,s3,s4⟩:=get i s' hs';obtain ⟨c1,c2⟩:=h.states.cells s1;have kA:=h.states.inner st.el (List.mem_map_of_mem (bn s1));have Xq:w.ownsRow B 231 5 (.slice st.ao st.ln st.cp) st.rs.length (st.rs.map xx.cells).flatten:=by simpa [nO.el] using kA
  refine ⟨by rw[s2];exact c1,od i s' hs',_,c2,?_⟩;rcases Xq.2 with ⟨hv,h0⟩|⟨rg,lM,cur,hv,-⟩
  ·refine ⟨none,0,by rw[hv,s3,h0],λj r hj=>?_⟩;have:=az hj;omega
  ·refine ⟨some ⟨rg,0,none⟩,lM,by rw[hv,s3],λj r hj=>?_⟩;rw[hv]at Xq;obtain ⟨st',r',l',q1,q2,q3,q4⟩:=Xp i s' hs' j r hj;rw[s1]at q1;cases q1;obtain ⟨m1,m2,m3,m4,m5,lg,m6,m7,m8⟩:=q4
   have hcell:∀(y:Nat) u,r'.cells[y]?=some u->w.cell? ⟨rg,j*5+y,none⟩=some u:=λy u hy=>by
    have YB:y<5:=by have:=az hy;simpa [xx.cells] using this
    refine (bG Xq ?_).1;rw[kH (si:=5) (by intro x hx;obtain ⟨z,_,rfl⟩:=List.mem_map.1 hx;rfl) (r:=r'.cells) (by rw[fX,q2];rfl) y YB];exact hy
   exact ⟨rg,lg,r'.ln,r'.cp,rfl,by rw[m2];exact hcell 0 _ rfl,by rw[m3];exact hcell 1 _ rfl,by rw[m4];exact hcell 2 _ rfl,by rw[<-m6];exact hcell 3 _ rfl,by rw[<-m7];exact hcell 4 _ rfl,m8⟩
 ·obtain ⟨i,hi⟩:=List.getElem?_of_mem hs';obtain ⟨j,hj⟩:=List.getElem?_of_mem hr;obtain ⟨st,r',l',q1,q2,q3,q4⟩:=Xp i s' hi j r hj;obtain ⟨⟨d,o,c,p,e1,e2,e3,e4,e5,e6,e7⟩,m2,m3,m4,m5,_⟩:=q4;refine ⟨m5,λhk=>?_⟩;have:=az (e5 (by omega));rw[hGn]at this;simpa using this
 ·obtain ⟨st,s1,s2,s3,s4⟩:=get i s' hs';rw[Ci];refine ⟨by rw[fy,(Xo i st s1).1,s3],λj y r hy hr=>?_⟩;obtain ⟨st',r',l',q1,q2,q3,q4⟩:=Xp i s' hs' j r hr;rw[fX,q3]at hy;cases hy;exact q4.1
end Go.Proofs.YtgncgdkpkkdaeaaGreatDoor
