import Derived.Test.YtgncgdkpkkdaeaaGreatDoorATE
set_option maxRecDepth 20000
set_option maxHeartbeats 1000000
namespace Go.Proofs.YtgncgdkpkkdaeaaGreatDoor
open Go.RowKit bu
variable {ss eQ:List cH} {B E P cap g i j k n:Nat} {r r0:eJ} {s s0:cH} {sv:Value} {w w' w0:World}
theorem fY.fst(h:fY w B P sv ss)(hi:ss[i]?=some s)(hv:s.rv=.slice (some ⟨g,0,none⟩) n cap)(hr:s.rs[j]?=some r):
  w.cell? ⟨g,j*6,none⟩=some (.string r.a)/\w.cell? ⟨g,j*6+1,none⟩=some (.string r.b)/\w.cell? ⟨g,j*6+3,none⟩=some (.string r.p)/\w.cell? ⟨g,j*6+4,none⟩=some r.n/\w.cell? ⟨g,j*6+5,none⟩=some (.int .i64 r.at_)/\w.frozen? ⟨g,j*6+4,none⟩=false:=by
 have hs:=bn hi;exact ⟨(h.rule hs hv hr 0 (by omega) rfl).1,(h.rule hs hv hr 1 (by omega) rfl).1,(h.rule hs hv hr 3 (by omega) rfl).1,(h.rule hs hv hr 4 (by omega) rfl).1,(h.rule hs hv hr 5 (by omega) rfl).1,(h.rule hs hv hr 4 (by omega) (u:=r.n) rfl).2⟩
theorem Dm(h:fY w B P sv ss)(hs:s∈ss)(hr:r∈s.rs)(pre:cU):dh (flat ss) pre r.ln.2<->r.a.data.toList=ki/\∀t∈ss,t.name.data.toList≠r.b.data.toList:=by
 obtain ⟨h1,h2⟩:=h.words s hs r hr
 have hd:r.d=1<->r.a.data.toList=ki:=by
  rw[h2]
  match hh:r.d with
  | 0=>simp[jc];decide
  | 1=>simp[jc]
  | 2=>simp[jc];decide
  | n+3=>omega
 unfold dh;constructor
 ·rintro ⟨o,c,p,e,hn⟩;simp only[eJ.ln,Ln.rule.injEq]at e;obtain ⟨e1,rfl,_,_⟩:=e;exact ⟨hd.1 e1,λt ht hh=>hn t.at_ (qD.2 ⟨t,ht,rfl,hh⟩)⟩
 ·rintro ⟨e1,hn⟩;refine ⟨_,_,_,by simp only[eJ.ln];rw[hd.2 e1],λa ha=>?_⟩;obtain ⟨t,ht,_,hh⟩:=qD.1 ha;exact hn t ht hh
theorem V7(B P:Nat)(sv:Value)(ss:List cH)(w:World)(h:fY w B P sv ss)(hz:ss.length<=1000000)(hi:ss[i]?=some s)(hv:s.rv=.slice (some ⟨g,0,none⟩) n cap)(hr:s.rs[j]?=some r):
  Calls Tryz.prog 62 #[.pointer (some ⟨P,0,none⟩),.pointer (some ⟨g,j*6,none⟩),.int .i64 5] w λe w'=>Below w.heap.size w w'/\∃b,e=.returned (.bool b)/\(b=true<->dh (flat ss) [] r.ln.2):=by
 obtain ⟨c0,c1,c3,c4,c5,f4⟩:=h.fst hi hv hr;have HU:=aa (Dm h (bn hi) (bn hr) []);have xu:=aa (su B P sv ss r.b w h (by omega));clear h hi hv hr;by_cases hp:r.a.data.toList=ki
 ·have q1:(r.a.toList == [112,117,115,104])=true:=by rw[ByteArray.toList_eq,hp];rfl
  go_enter Tryz.func62,Tryz.ntmps62;go_wp2_with fail;refine xu.out.mono ?_;rintro e w1 ⟨rfl,⟨i0,s0,rfl,hs0,yJ,-⟩|⟨rfl,hno⟩⟩
  ·have q2:decide ((i0:Int)<0)=false:=bV (by omega);have aq:=aa (show ¬dh (flat ss) [] r.ln.2 from λhu=>((HU.out.1 hu).2 s0 (bn hs0)) yJ);clear HU xu hs0 yJ hp;go_wp2_with fail;go_ret;exact ⟨Below.refl _ _,false,rfl,⟨λhx=>(by cases hx),λhx=>absurd hx aq.out⟩⟩
  ·have aq:=aa (HU.out.2 ⟨hp,hno⟩);clear HU xu hno hp;go_wp2_with fail;go_ret;exact ⟨Below.refl _ _,true,rfl,⟨λ_=>aq.out,λ_=>rfl⟩⟩
 ·have q1:=mL hp;unfold ki at q1;have aq:=aa (λn'=>show Below w.heap.size w (w.drewN n')/\∃b,Ending.returned (.bool false)=.returned (.bool b)/\(b=true<->dh (flat ss) [] r.ln.2) from ⟨Below.drewN' (Below.refl _ _) n',false,rfl,by rw[HU.out];simp[hp]⟩);clear HU xu hp;go_enter Tryz.func62,Tryz.ntmps62;go_wp2_with fail;go_ret
  exact aq.out 0
theorem V8(B P:Nat)(sv:Value)(ss:List cH)(w:World)(h:fY w B P sv ss)(hi:ss[i]?=some s)(hv:s.rv=.slice (some ⟨g,0,none⟩) n cap)(hr:s.rs[j]?=some r):
  Calls Tryz.prog 62 #[.pointer (some ⟨P,0,none⟩),.pointer (some ⟨g,j*6,none⟩),.int .i64 1] w λe w'=>Below w.heap.size w w'/\∃b,e=.returned (.bool b)/\(b=true<->kn [] r.ln.2):=by
 obtain ⟨c0,c1,c3,c4,c5,f4⟩:=h.fst hi hv hr;have HL:=aa (show kn [] r.ln.2<->60<r.p.size from ⟨λ⟨d,o,c,p,e,hl⟩=>by simp only[eJ.ln,Ln.rule.injEq]at e;obtain ⟨_,_,_,rfl⟩:=e;exact hl,λhl=>⟨_,_,_,_,rfl,hl⟩⟩);clear h hi hv hr;go_enter Tryz.func62,Tryz.ntmps62;go_wp2_with fail;go_ret;refine ⟨Below.refl _ _,_,rfl,?_⟩
 rw[HL.out];simp only[decide_eq_true_eq];omega
theorem V9(B P:Nat)(sv:Value)(ss:List cH)(w:World)(h:fY w B P sv ss)(hB:B<=w.heap.size)(hi:ss[i]?=some s)(hv:s.rv=.slice (some ⟨g,0,none⟩) n cap)(hr:s.rs[j]?=some r)(pD:r.p.size<=60):
  Calls Tryz.prog 62 #[.pointer (some ⟨P,0,none⟩),.pointer (some ⟨g,j*6,none⟩),.int .i64 6] w λe w'=>∃b q w1,e=.returned (.bool b)/\Below w.heap.size w w1/\w'=w1.setCell ⟨g,j*6+4,none⟩ (.pointer q)/\fY w' B P sv (iI ss i j s r (.pointer q))/\Below B w w'/\(b=true<->pz [] r.ln.2)/\(b=false->eN w' { r with n:=.pointer q }):=by
 obtain ⟨c0,c1,c3,c4,c5,f4⟩:=h.fst hi hv hr;have sX:=aa (Ref.jH r.p w pD);have HG:=aa h;have HI:=aa hi;have HV:=aa hv;have HR:=aa hr;have MZ:=aa (show pz [] r.ln.2<->¬∃re,bH r.p.data.toList (some (re,[])) from ⟨λ⟨d,o,c,p,e,hl,hn⟩=>by simp only[eJ.ln,Ln.rule.injEq]at e;obtain ⟨_,_,_,rfl⟩:=e;exact hn,λhn=>⟨_,_,_,_,rfl,pD,hn⟩⟩);clear h hi hv hr
 go_enter Tryz.func62,Tryz.ntmps62;go_wp2_with fail;refine sX.out.mono ?_;rintro e w1 ⟨fu,⟨rfl,hno⟩|⟨P1,B1,ls,first,re,rfl,qi,lS,AK⟩⟩
 ·have ug:=aa (HG.out.below fu);obtain ⟨-,-,-,d4,-,df⟩:=ug.out.fst HI.out HV.out HR.out
  have aq:=aa (show ∃b q w2,Ending.returned (.bool true)=.returned (.bool b)/\Below w.heap.size w w2/\w1.setCell ⟨g,j*6+4,none⟩ (.pointer none)=w2.setCell ⟨g,j*6+4,none⟩ (.pointer q)/\fY (w1.setCell ⟨g,j*6+4,none⟩ (.pointer none)) B P sv (iI ss i j s r (.pointer q))/\Below B w (w1.setCell ⟨g,j*6+4,none⟩ (.pointer none))/\(b=true<->pz [] r.ln.2)/\(b=false->eN (w1.setCell ⟨g,j*6+4,none⟩ (.pointer none)) { r with n:=.pointer q }) from
   ⟨true,none,w1,rfl,fu,rfl,(ug.out.iI HI.out HR.out HV.out _).1,(fu.mono hB).trans (ug.out.iI HI.out HR.out HV.out _).2,⟨λ_=>MZ.out.2 (by
    rintro ⟨re,Ru⟩;rcases hno with h|⟨r',s',hs',h⟩
    ·have:=bH.dz h Ru;cases this
    ·have:=bH.dz h Ru;simp only[fA,Prod.mk.injEq]at this;exact hs' this.2),λ_=>rfl⟩,λh=>by cases h⟩)
  clear sX HG ug HI HV HR MZ hno fu c0 c1 c3 c4 c5 f4;go_wp2_with fail;go_ret;exact aq.out
 ·have ug:=aa (HG.out.below fu);obtain ⟨-,-,-,d4,-,df⟩:=ug.out.fst HI.out HV.out HR.out
  have aq:=aa (show ∃b q w2,Ending.returned (.bool false)=.returned (.bool b)/\Below w.heap.size w w2/\w1.setCell ⟨g,j*6+4,none⟩ (.pointer (some ⟨P1,0,none⟩))=w2.setCell ⟨g,j*6+4,none⟩ (.pointer q)/\fY (w1.setCell ⟨g,j*6+4,none⟩ (.pointer (some ⟨P1,0,none⟩))) B P sv (iI ss i j s r (.pointer q))/\Below B w (w1.setCell ⟨g,j*6+4,none⟩ (.pointer (some ⟨P1,0,none⟩)))/\(b=true<->pz [] r.ln.2)/\(b=false->eN (w1.setCell ⟨g,j*6+4,none⟩ (.pointer (some ⟨P1,0,none⟩))) { r with n:=.pointer q }) from
   ⟨false,some ⟨P1,0,none⟩,w1,rfl,fu,rfl,(ug.out.iI HI.out HR.out HV.out _).1,(fu.mono hB).trans (ug.out.iI HI.out HR.out HV.out _).2,⟨λh=>(by cases h),λh=>absurd ⟨re,qi⟩ (MZ.out.1 h)⟩,λ_=>⟨P1,B1,ls,first,re,rfl,qi,jQ.keep AK (λk c t ht hh=>by
    rw[eV _ _ _ _ (λe=>by
     have e:k=g:=e;obtain ⟨_,cur,hc⟩:=ar (k:=g) (ug.out.inner (bn HI.out)) (by rw[HV.out];rfl);rw[e,hc]at hh;simp only[fA,Obj.cells.injEq]at hh;rcases ht with rfl|rfl|rfl
     ·exact absurd hh.2.1 (by decide)
     ·exact absurd hh.2.1 (by decide)
     ·exact absurd hh.2.1 (by decide))]
    exact hh),by have:=AK.lm.lt;have:=AK.lm.hP;simp[World.setCell];omega⟩⟩)
  clear sX HG ug HI HV HR MZ qi AK fu c0 c1 c3 c4 c5 f4;go_wp2_with fail;go_ret;exact aq.out
theorem Wa(B P:Nat)(sv:Value)(ss:List cH)(w:World)(h:fY w B P sv ss)(hi:ss[i]?=some s)(hv:s.rv=.slice (some ⟨g,0,none⟩) n cap)(hr:s.rs[j]?=some r)(hp:eN w r):
  Calls Tryz.prog 62 #[.pointer (some ⟨P,0,none⟩),.pointer (some ⟨g,j*6,none⟩),.int .i64 7] w λe w'=>Below w.heap.size w w'/\∃b,e=.returned (.bool b)/\(b=true<->gM [] r.ln.2):=by
 obtain ⟨c0,c1,c3,c4,c5,f4⟩:=h.fst hi hv hr;obtain ⟨P1,B1,ls,first,re,hn,qi,hpl,hb1⟩:=hp;rw[hn]at c4;have HF:=aa (Ref.mP w B1 P1 ls first re hpl hb1 ⟨#[]⟩ 0 (bc _) (by decide))
 have HE:=aa (show gM [] r.ln.2<->re.au=true from ⟨λ⟨d,o,c,p,re',e,h1,h2⟩=>by simp only[eJ.ln,Ln.rule.injEq]at e;obtain ⟨_,_,_,rfl⟩:=e;have:=bH.dz h1 qi;simp only[fA,Prod.mk.injEq,and_true]at this;rw[<-this];exact h2,λh=>⟨_,_,_,_,re,rfl,qi,h⟩⟩)
 clear h hi hv hr hpl qi;go_enter Tryz.func62,Tryz.ntmps62;go_wp2_with fail;refine HF.out.mono ?_;rintro e w1 ⟨o,ho,rfl,fu⟩
 have hmt:re.au=true<->o.isSome=true:=by
  cases o with
  | none=>
   have h0:=ho 0 (bc _);constructor
   ·intro hx;exact absurd ⟨0,bc _,bc _,by simpa [jv] using (mj re).2 hx⟩ h0
   ·intro hx;cases hx
  | some p=>
   obtain ⟨a,b⟩:=p;obtain ⟨_,h2,h3,h4,_,_⟩:=ho;have hb0:b=0:=by simpa using h3
   have ha0:a=0:=by omega
   subst hb0;subst ha0;exact ⟨λ_=>rfl,λ_=>(mj re).1 (by simpa [jv] using h4)⟩
 have T8:=aa (HE.out.trans hmt);clear HF HE hmt ho
 cases o with
 | none=>
  simp only[found];go_wp2_with fail;go_ret;exact ⟨fu,false,rfl,by rw[T8.out];simp⟩
 | some p=>
  obtain ⟨a,b⟩:=p;simp only[found];go_wp2_with fail;go_ret;exact ⟨fu,true,rfl,by rw[T8.out];simp⟩
def Jy(fs:cU):Nat->cU->Ln->Prop
 | 0=>dh fs
 | 1=>kn
 | 2=>pz
 | _=>gM
def mg:Nat->Nat
 | 0=>5
 | 1=>1
 | 2=>6
 | _=>7
theorem zS(fs:cU)(k:Nat)(pre:cU)(x:Ln):Jy fs k pre x<->Jy fs k [] x:=by
 match k with
 | 0=>exact Iff.rfl
 | 1=>exact Iff.rfl
 | 2=>exact Iff.rfl
 | _+3=>exact Iff.rfl
theorem JB(fs:cU)(k:Nat)(pre:cU)(n:List UInt8):¬Jy fs k pre (.state n):=by
 match k with
 | 0=>rintro ⟨_,_,_,h,_⟩;cases h
 | 1=>rintro ⟨_,_,_,_,h,_⟩;cases h
 | 2=>rintro ⟨_,_,_,_,h,_⟩;cases h
 | _+3=>rintro ⟨_,_,_,_,_,h,_⟩;cases h
def Shape(eQ ss:List cH):Prop:=ss.map (λs=>(s.rv,s.fU))=eQ.map (λs=>(s.rv,s.fU))
theorem Shape.refl(ss:List cH):Shape ss ss:=rfl
theorem Shape.length(h:Shape eQ ss):ss.length=eQ.length:=by have:=congrArg List.length h;simpa using this
theorem Shape.flat(h:Shape eQ ss):flat ss=flat eQ:=by have:=congrArg (λl=>(l.map Prod.snd).flatten) h;simpa [Go.Proofs.YtgncgdkpkkdaeaaGreatDoor.flat,List.flatMap_def,Function.comp_def] using this
theorem Shape.get(h:Shape eQ ss)(hi:eQ[i]?=some s0):∃s,ss[i]?=some s/\s.rv=s0.rv/\s.fU=s0.fU:=by
 have:=congrArg (λl=>l[i]?) h;simp only[fX,hi,Option.map_some]at this
 cases hs:ss[i]? with
 | none=>rw[hs]at this;cases this
 | some s=>
  rw[hs]at this;simp only[Option.map_some,fA,Prod.mk.injEq]at this;exact ⟨s,rfl,this.1,this.2⟩
theorem yT(h:s.fU=s0.fU):s.rs.map eJ.ln=s0.rs.map eJ.ln:=by simp only[cH.fU,List.cons.injEq]at h;exact h.2
theorem Ce(h:s.fU=s0.fU)(hj:s0.rs[j]?=some r0):∃r,s.rs[j]?=some r/\r.ln=r0.ln:=by
 have:=congrArg (λl=>l[j]?) (yT h);simp only[fX,hj,Option.map_some]at this
 cases hs:s.rs[j]? with
 | none=>rw[hs]at this;cases this
 | some r=>
  rw[hs]at this;exact ⟨r,rfl,Option.some.inj this⟩
theorem uQ(h:s.fU=s0.fU):s.rs.length=s0.rs.length:=by have:=congrArg List.length (yT h);simpa using this
theorem Shape.iI(h:Shape eQ ss){v:Value}(hi:ss[i]?=some s)(hj:s.rs[j]?=some r):Shape eQ (iI ss i j s r v):=by
 have e:({ s with rs:=s.rs.set j { r with n:=v } }:cH).fU=s.fU:=by unfold cH.fU;simp only[List.map_set];rw[show eJ.ln { r with n:=v }=r.ln from rfl,wu (by rw[fX,hj];rfl)]
 unfold Shape Go.Proofs.YtgncgdkpkkdaeaaGreatDoor.iI;rw[List.map_set,e,wu (by rw[fX,hi];rfl)];exact h
def uP(w:World)(E:Nat):Prop:=w.heap[E]?=some (.cells #[.int .i64 5,.int .i64 1,.int .i64 6,.int .i64 7] 3 (0,0))
theorem uP.below(h:uP w E)(hb:Below w.heap.size w w'):uP w' E:=(hb.block E (ae h)).trans h
structure lL(E B P:Nat)(sv:Value)(eQ:List cH)(w0:World)(k i j:Nat)(ss:List cH)(w:World):Prop where
 es:uP w E
 ia:fY w B P sv ss
 shape:Shape eQ ss
 below:Below B w0 w
 short:2<=k->∀s∈ss,∀r∈s.rs,r.p.size<=60
 iB:∀(i' j':Nat) s r,ss[i']?=some s->s.rs[j']?=some r->(3<=k∨(k=2/\(i'<i∨(i'=i/\j'<j))))->eN w r
theorem lL.keep(h:lL E B P sv eQ w0 k i j ss w)(hk:k≠2)(hB:B<=w.heap.size)(hb:Below w.heap.size w w')(i2 j2:Nat):lL E B P sv eQ w0 k i2 j2 ss w':=
 ⟨h.es.below hb,h.ia.below hb,h.shape,h.below.trans (hb.mono hB),h.short,λi' j' s r h1 h2 h3=>(h.iB i' j' s r h1 h2 (by rcases h3 with h3|h3;exact .inl h3;exact absurd h3.1 hk)).below hb⟩
def Kt(E B P:Nat)(sv:Value)(eQ:List cH)(w0:World)(k i j:Nat)(r0:eJ)(e:Ending)(w':World):Prop:=
 ∃b JF,e=.returned (.bool b)/\(b=true<->Jy (flat eQ) k [] r0.ln.2)/\uP w' E/\fY w' B P sv JF/\Shape eQ JF/\Below B w0 w'/\(b=false->lL E B P sv eQ w0 k i (j+1) JF w')
theorem JE(E B P:Nat)(sv:Value)(eQ:List cH)(w0:World)(k i j:Nat)(ss:List cH)(w:World)(h:lL E B P sv eQ w0 k i j ss w)(hk:k<=3)(hB:B<=w.heap.size)(hz:eQ.length<=1000000)(hi:eQ[i]?=some s0)(hj:s0.rs[j]?=some r0)(hv:s0.rv=.slice (some ⟨g,0,none⟩) n cap):
  Calls Tryz.prog 62 #[.pointer (some ⟨P,0,none⟩),.pointer (some ⟨g,j*6,none⟩),.int .i64 (mg k:Nat)] w (Kt E B P sv eQ w0 k i j r0):=by
 obtain ⟨s,hs,nB,MC⟩:=h.shape.get hi;obtain ⟨r,hr,od⟩:=Ce MC hj;rw[<-nB]at hv;have hl:=h.shape.length;have mr:=h.shape.flat
 match k,hk with
 | 0,_=>
  refine (V7 B P sv ss w h.ia (by omega) hs hv hr).mono ?_;rintro e w' ⟨hb,b,rfl,uq⟩;refine ⟨b,ss,rfl,?_,h.es.below hb,h.ia.below hb,h.shape,h.below.trans (hb.mono hB),λ_=>h.keep (by omega) hB hb _ _⟩;rw[uq,od,mr];exact Iff.rfl
 | 1,_=>
  refine (V8 B P sv ss w h.ia hs hv hr).mono ?_;rintro e w' ⟨hb,b,rfl,uq⟩;refine ⟨b,ss,rfl,?_,h.es.below hb,h.ia.below hb,h.shape,h.below.trans (hb.mono hB),λ_=>h.keep (by omega) hB hb _ _⟩;rw[uq,od];exact Iff.rfl
 | 2,_=>
  refine (V9 B P sv ss w h.ia hB hs hv hr (h.short (by omega) s (bn hs) r (bn hr))).mono ?_;rintro e w' ⟨b,q,w1,rfl,hb1,rfl,hG,lS,uq,hpl⟩
  have hst:∀(m:Nat) c t,(t=206∨t=203∨t=4)->w.heap[m]?=some (.cells c t (0,0))->(w1.setCell ⟨g,j*6+4,none⟩ (.pointer q)).heap[m]?=some (.cells c t (0,0)):=λm c t ht hh=>by
   rw[eV _ _ _ _ (λe=>by
    have e:m=g:=e;obtain ⟨_,cur,hc⟩:=ar (k:=g) (h.ia.inner (bn hs)) (by rw[hv];rfl);rw[e,hc]at hh;simp only[fA,Obj.cells.injEq]at hh;rcases ht with rfl|rfl|rfl
    ·exact absurd hh.2.1 (by decide)
    ·exact absurd hh.2.1 (by decide)
    ·exact absurd hh.2.1 (by decide))]
   exact (hb1.block m (ae hh)).trans hh
  have hes:uP (w1.setCell ⟨g,j*6+4,none⟩ (.pointer q)) E:=by unfold uP;rw[eV _ _ _ _ (λe=>by have e:E=g:=e;obtain ⟨_,cur,hc⟩:=ar (k:=g) (h.ia.inner (bn hs)) (by rw[hv];rfl);have hh:=h.es;unfold uP at hh;rw[e,hc]at hh;simp only[fA,Obj.cells.injEq]at hh;exact absurd hh.2.1 (by decide))];exact h.es.below hb1
  have Gd:∀s'∈iI ss i j s r (.pointer q),∀r'∈s'.rs,(∃s1∈ss,r'∈s1.rs)∨r'={ r with n:=.pointer q }:=λs' hs' r' AG=>by
   obtain ⟨m,hm⟩:=List.getElem?_of_mem hs';by_cases Dl:m=i
   ·subst Dl;rw[iI,List.getElem?_set_self (by simpa using az hs)]at hm;cases hm;rcases List.mem_or_eq_of_mem_set AG with hh|hh
    ·exact .inl ⟨s,bn hs,hh⟩
    ·exact .inr hh
   ·rw[iI,List.getElem?_set_ne (Ne.symm Dl)]at hm;exact .inl ⟨s',bn hm,AG⟩
  refine ⟨b,iI ss i j s r (.pointer q),rfl,?_,hes,hG,h.shape.iI hs hr,h.below.trans lS,λX5=>⟨hes,hG,h.shape.iI hs hr,h.below.trans lS,λ_ s' hs' r' AG=>?_,λi' j' s' r' h1 h2 h3=>?_⟩⟩
  ·rw[uq,od];exact Iff.rfl
  ·rcases Gd s' hs' r' AG with ⟨s1,hs1,hr1⟩|rfl
   ·exact h.short (by omega) s1 hs1 r' hr1
   ·exact h.short (by omega) s (bn hs) r (bn hr)
  ·have hsz:w.heap.size<=(w1.setCell ⟨g,j*6+4,none⟩ (.pointer q)).heap.size:=by have:=hb1.size;simpa [World.setCell] using this
   by_cases sy:i'=i
   ·subst sy;rw[iI,List.getElem?_set_self (by simpa using az hs)]at h1;cases h1;by_cases BH:j'=j
    ·subst BH;rw[List.getElem?_set_self (by simpa using az hr)]at h2;cases h2;exact hpl X5
    ·rw[List.getElem?_set_ne (Ne.symm BH)]at h2;exact (h.iB i' j' s r' hs h2 (by rcases h3 with h3|⟨_,h3|h3⟩;omega;omega;exact .inr ⟨rfl,.inr ⟨rfl,by omega⟩⟩)).keep hsz hst
   ·rw[iI,List.getElem?_set_ne (Ne.symm sy)]at h1;exact (h.iB i' j' s' r' h1 h2 (by rcases h3 with h3|⟨_,h3|h3⟩;omega;exact .inr ⟨rfl,.inl h3⟩;omega)).keep hsz hst
 | 3,_=>
  refine (Wa B P sv ss w h.ia hs hv hr (h.iB i j s r hs hr (.inl (bc _)))).mono ?_;rintro e w' ⟨hb,b,rfl,uq⟩;refine ⟨b,ss,rfl,?_,h.es.below hb,h.ia.below hb,h.shape,h.below.trans (hb.mono hB),λ_=>h.keep (by omega) hB hb _ _⟩;rw[uq,od];exact Iff.rfl
theorem dT{p:cU->Ln->Prop}(hp:∀pre x,p pre x<->p [] x){pre l:cU}(h:dQ p pre l none):∀y∈l,¬p [] y.2:=by
 generalize ho:(none:Option Nat)=o at h
 induction h with
 | nil=>intro y hy;simp at hy
 | hit _=>cases ho
 | skip hn _ ih=>
  intro y hy;rcases List.mem_cons.1 hy with rfl|hy
  ·exact λh=>hn ((hp _ _).2 h)
  ·exact ih ho y hy
theorem lL.YM(h:lL E B P sv eQ w0 k i j ss w)(hi:eQ[i]?=some s0)(hj:j=s0.rs.length):lL E B P sv eQ w0 k (i+1) 0 ss w:=by
 refine { h with iB:=λi' j' s r h1 h2 h3=>h.iB i' j' s r h1 h2 ?_ };rcases h3 with h3|⟨h3,h4⟩
 ·exact .inl h3
 ·refine .inr ⟨h3,?_⟩;rcases ed i' i with h5|h5
  ·exact .inl h5
  ·have:i'=i:=by omega
   subst this;obtain ⟨s',hs',_,hl⟩:=h.shape.get hi;rw[h1]at hs';cases hs';have:=uQ hl;have:=az h2;exact .inr ⟨rfl,by omega⟩
theorem lL.YN(h:lL E B P sv eQ w0 k i j ss w)(hi:i=eQ.length)(hf:dQ (Jy (flat eQ) k) [] (flat eQ) none):lL E B P sv eQ w0 (k+1) 0 0 ss w:=by
 refine { h with short:=λhk s hs r hr=>?_,iB:=λi' j' s r h1 h2 h3=>h.iB i' j' s r h1 h2 ?_ }
 ·rcases ed k 2 with h2|h2
  ·have:k=1:=by omega
   subst this;have hm:r.ln∈flat eQ:=by rw[<-h.shape.flat];exact List.mem_flatMap.2 ⟨s,hs,List.mem_cons_of_mem _ (List.mem_map_of_mem hr)⟩
   have:=dT (zS _ 1) hf _ hm;rcases ed 60 r.p.size with h3|h3
   ·exact absurd ⟨_,_,_,_,rfl,h3⟩ this
   ·exact h3
  ·exact h.short h2 s hs r hr
 ·rcases h3 with h3|⟨h3,h4⟩
  ·rcases ed k 3 with h5|h5
   ·have:=az h1;have:=h.shape.length;exact .inr ⟨by omega,.inl (by omega)⟩
   ·exact .inl h5
  ·rcases h4 with h4|⟨_,h4⟩
   ·omega
   ·omega
end Go.Proofs.YtgncgdkpkkdaeaaGreatDoor
