import Derived.Test.YtgncgdkpkkdaeaaGreatDoorMTC
import Derived.Test.YtgncgdkpkkdaeaaGreatDoorMTE
namespace Go.Proofs.YtgncgdkpkkdaeaaGreatDoor
open Go.RowKit aO
variable {ss eB:List cd} {B E P cap g i j k n:Nat} {r r0:eo} {s s0:cd} {sv:Value} {w w' w0:World}
theorem fD.fst(h:fD w B P sv ss)(hi:ss[i]?=some s)(hv:s.rv=.slice (some ⟨g,0,none⟩) n cap)(hr:s.rs[j]?=some r):
  w.cell? ⟨g,j*6,none⟩=some (.string r.a)/\w.cell? ⟨g,j*6+1,none⟩=some (.string r.b)/\w.cell? ⟨g,j*6+3,none⟩=some (.string r.p)/\w.cell? ⟨g,j*6+4,none⟩=some r.n/\w.cell? ⟨g,j*6+5,none⟩=some (.int .i64 r.at_)/\w.frozen? ⟨g,j*6+4,none⟩=false:=by
 have hs:=List.mem_of_getElem? hi;exact ⟨(h.rule hs hv hr 0 (by omega) rfl).1,(h.rule hs hv hr 1 (by omega) rfl).1,(h.rule hs hv hr 3 (by omega) rfl).1,(h.rule hs hv hr 4 (by omega) rfl).1,(h.rule hs hv hr 5 (by omega) rfl).1,(h.rule hs hv hr 4 (by omega) (u:=r.n) rfl).2⟩
theorem Cy(h:fD w B P sv ss)(hs:s∈ss)(hr:r∈s.rs)(pre:cM):cV (flat ss) pre r.ln.2<->r.a.data.toList=jM/\∀t∈ss,t.name.data.toList≠r.b.data.toList:=by
 obtain ⟨h1,h2⟩:=h.words s hs r hr
 have hd:r.d=1<->r.a.data.toList=jM:=by
  rw[h2]
  match hh:r.d with
  | 0=>simp[iJ];decide
  | 1=>simp[iJ]
  | 2=>simp[iJ];decide
  | n+3=>omega
 unfold cV;constructor
 ·rintro ⟨o,c,p,e,hn⟩;simp only[eo.ln,Ln.rule.injEq]at e;obtain ⟨e1,rfl,_,_⟩:=e;exact ⟨hd.1 e1,λt ht hh=>hn t.at_ (pS.2 ⟨t,ht,rfl,hh⟩)⟩
 ·rintro ⟨e1,hn⟩;refine ⟨_,_,_,by simp only[eo.ln];rw[hd.2 e1],λa ha=>?_⟩;obtain ⟨t,ht,_,hh⟩:=pS.1 ha;exact hn t ht hh
set_option maxRecDepth 20000 in
set_option maxHeartbeats 1000000 in
theorem Vi(B P:Nat)(sv:Value)(ss:List cd)(w:World)(h:fD w B P sv ss)(hz:ss.length<=1000000)(hi:ss[i]?=some s)(hv:s.rv=.slice (some ⟨g,0,none⟩) n cap)(hr:s.rs[j]?=some r):
  Calls Tryz.prog 62 #[.pointer (some ⟨P,0,none⟩),.pointer (some ⟨g,j*6,none⟩),.int .i64 5] w λe w'=>Below w.heap.size w w'/\∃b,e=.returned (.bool b)/\(b=true<->cV (flat ss) [] r.ln.2):=by
 obtain ⟨c0,c1,c3,c4,c5,f4⟩:=h.fst hi hv hr;have HU:=aa (Cy h (List.mem_of_getElem? hi) (List.mem_of_getElem? hr) []);have wG:=aa (rr B P sv ss r.b w h (by omega));clear h hi hv hr;by_cases hp:r.a.data.toList=jM
 ·have q1:(r.a.toList == [112,117,115,104])=true:=by rw[ByteArray.toList_eq,hp];rfl
  go_enter Tryz.func62,Tryz.ntmps62;go_wp2_with fail;refine wG.out.mono ?_;rintro e w1 ⟨rfl,⟨i0,s0,rfl,hs0,xS,-⟩|⟨rfl,hno⟩⟩
  ·have q2:decide ((i0:Int)<0)=false:=decide_eq_false (by omega);have ai:=aa (show ¬cV (flat ss) [] r.ln.2 from λhu=>((HU.out.1 hu).2 s0 (List.mem_of_getElem? hs0)) xS);clear HU wG hs0 xS hp;go_wp2_with fail;go_ret;exact ⟨Below.refl _ _,false,rfl,⟨λhx=>(by cases hx),λhx=>absurd hx ai.out⟩⟩
  ·have ai:=aa (HU.out.2 ⟨hp,hno⟩);clear HU wG hno hp;go_wp2_with fail;go_ret;exact ⟨Below.refl _ _,true,rfl,⟨λ_=>ai.out,λ_=>rfl⟩⟩
 ·have q1:=lS hp;unfold jM at q1;have ai:=aa (λn'=>show Below w.heap.size w (w.drewN n')/\∃b,Ending.returned (.bool false)=.returned (.bool b)/\(b=true<->cV (flat ss) [] r.ln.2) from ⟨Below.drewN' (Below.refl _ _) n',false,rfl,by rw[HU.out];simp[hp]⟩);clear HU wG hp;go_enter Tryz.func62,Tryz.ntmps62;go_wp2_with fail;go_ret
  exact ai.out 0
set_option maxRecDepth 20000 in
set_option maxHeartbeats 1000000 in
theorem Vj(B P:Nat)(sv:Value)(ss:List cd)(w:World)(h:fD w B P sv ss)(hi:ss[i]?=some s)(hv:s.rv=.slice (some ⟨g,0,none⟩) n cap)(hr:s.rs[j]?=some r):
  Calls Tryz.prog 62 #[.pointer (some ⟨P,0,none⟩),.pointer (some ⟨g,j*6,none⟩),.int .i64 1] w λe w'=>Below w.heap.size w w'/\∃b,e=.returned (.bool b)/\(b=true<->jN [] r.ln.2):=by
 obtain ⟨c0,c1,c3,c4,c5,f4⟩:=h.fst hi hv hr;have HL:=aa (show jN [] r.ln.2<->60<r.p.size from ⟨λ⟨d,o,c,p,e,hl⟩=>by simp only[eo.ln,Ln.rule.injEq]at e;obtain ⟨_,_,_,rfl⟩:=e;exact hl,λhl=>⟨_,_,_,_,rfl,hl⟩⟩);clear h hi hv hr;go_enter Tryz.func62,Tryz.ntmps62;go_wp2_with fail;go_ret;refine ⟨Below.refl _ _,_,rfl,?_⟩
 rw[HL.out];simp only[decide_eq_true_eq];omega
set_option maxRecDepth 20000 in
set_option maxHeartbeats 1000000 in
theorem Vk(B P:Nat)(sv:Value)(ss:List cd)(w:World)(h:fD w B P sv ss)(hB:B<=w.heap.size)(hi:ss[i]?=some s)(hv:s.rv=.slice (some ⟨g,0,none⟩) n cap)(hr:s.rs[j]?=some r)(oI:r.p.size<=60):
  Calls Tryz.prog 62 #[.pointer (some ⟨P,0,none⟩),.pointer (some ⟨g,j*6,none⟩),.int .i64 6] w λe w'=>∃b q w1,e=.returned (.bool b)/\Below w.heap.size w w1/\w'=w1.setCell ⟨g,j*6+4,none⟩ (.pointer q)/\fD w' B P sv (gl ss i j s r (.pointer q))/\Below B w w'/\(b=true<->oF [] r.ln.2)/\(b=false->ez w' { r with n:=.pointer q }):=by
 obtain ⟨c0,c1,c3,c4,c5,f4⟩:=h.fst hi hv hr;have rS:=aa (Ref.jl r.p w oI);have HG:=aa h;have HI:=aa hi;have HV:=aa hv;have HR:=aa hr;have Me:=aa (show oF [] r.ln.2<->¬∃re,bh r.p.data.toList (some (re,[])) from ⟨λ⟨d,o,c,p,e,hl,hn⟩=>by simp only[eo.ln,Ln.rule.injEq]at e;obtain ⟨_,_,_,rfl⟩:=e;exact hn,λhn=>⟨_,_,_,_,rfl,oI,hn⟩⟩);clear h hi hv hr
 go_enter Tryz.func62,Tryz.ntmps62;go_wp2_with fail;refine rS.out.mono ?_;rintro e w1 ⟨eR,⟨rfl,hno⟩|⟨P1,B1,ls,first,re,rfl,pG,kZ,zL⟩⟩
 ·have tq:=aa (HG.out.below eR);obtain ⟨-,-,-,d4,-,df⟩:=tq.out.fst HI.out HV.out HR.out
  have ai:=aa (show ∃b q w2,Ending.returned (.bool true)=.returned (.bool b)/\Below w.heap.size w w2/\w1.setCell ⟨g,j*6+4,none⟩ (.pointer none)=w2.setCell ⟨g,j*6+4,none⟩ (.pointer q)/\fD (w1.setCell ⟨g,j*6+4,none⟩ (.pointer none)) B P sv (gl ss i j s r (.pointer q))/\Below B w (w1.setCell ⟨g,j*6+4,none⟩ (.pointer none))/\(b=true<->oF [] r.ln.2)/\(b=false->ez (w1.setCell ⟨g,j*6+4,none⟩ (.pointer none)) { r with n:=.pointer q }) from
   ⟨true,none,w1,rfl,eR,rfl,(tq.out.gl HI.out HR.out HV.out _).1,(eR.mono hB).trans (tq.out.gl HI.out HR.out HV.out _).2,⟨λ_=>Me.out.2 (by
    rintro ⟨re,Qy⟩;rcases hno with h|⟨r',s',hs',h⟩
    ·have:=bh.cX h Qy;cases this
    ·have:=bh.cX h Qy;simp only[Option.some.injEq,Prod.mk.injEq]at this;exact hs' this.2),λ_=>rfl⟩,λh=>by cases h⟩)
  clear rS HG tq HI HV HR Me hno eR c0 c1 c3 c4 c5 f4;go_wp2_with fail;go_ret;exact ai.out
 ·have tq:=aa (HG.out.below eR);obtain ⟨-,-,-,d4,-,df⟩:=tq.out.fst HI.out HV.out HR.out
  have ai:=aa (show ∃b q w2,Ending.returned (.bool false)=.returned (.bool b)/\Below w.heap.size w w2/\w1.setCell ⟨g,j*6+4,none⟩ (.pointer (some ⟨P1,0,none⟩))=w2.setCell ⟨g,j*6+4,none⟩ (.pointer q)/\fD (w1.setCell ⟨g,j*6+4,none⟩ (.pointer (some ⟨P1,0,none⟩))) B P sv (gl ss i j s r (.pointer q))/\Below B w (w1.setCell ⟨g,j*6+4,none⟩ (.pointer (some ⟨P1,0,none⟩)))/\(b=true<->oF [] r.ln.2)/\(b=false->ez (w1.setCell ⟨g,j*6+4,none⟩ (.pointer (some ⟨P1,0,none⟩))) { r with n:=.pointer q }) from
   ⟨false,some ⟨P1,0,none⟩,w1,rfl,eR,rfl,(tq.out.gl HI.out HR.out HV.out _).1,(eR.mono hB).trans (tq.out.gl HI.out HR.out HV.out _).2,⟨λh=>(by cases h),λh=>absurd ⟨re,pG⟩ (Me.out.1 h)⟩,λ_=>⟨P1,B1,ls,first,re,rfl,pG,jx.keep zL (λk c t ht hh=>by
    rw[Below.heap_setCell _ _ _ _ (λe=>by
     have e:k=g:=e;obtain ⟨_,cur,hc⟩:=aj (k:=g) (tq.out.inner (List.mem_of_getElem? HI.out)) (by rw[HV.out];rfl);rw[e,hc]at hh;simp only[Option.some.injEq,Obj.cells.injEq]at hh;rcases ht with rfl|rfl|rfl
     ·exact absurd hh.2.1 (by decide)
     ·exact absurd hh.2.1 (by decide)
     ·exact absurd hh.2.1 (by decide))]
    exact hh),by have:=zL.kC.lt;have:=zL.kC.hP;simp[World.setCell];omega⟩⟩)
  clear rS HG tq HI HV HR Me pG zL eR c0 c1 c3 c4 c5 f4;go_wp2_with fail;go_ret;exact ai.out
set_option maxRecDepth 20000 in
set_option maxHeartbeats 1000000 in
theorem Vl(B P:Nat)(sv:Value)(ss:List cd)(w:World)(h:fD w B P sv ss)(hi:ss[i]?=some s)(hv:s.rv=.slice (some ⟨g,0,none⟩) n cap)(hr:s.rs[j]?=some r)(hp:ez w r):
  Calls Tryz.prog 62 #[.pointer (some ⟨P,0,none⟩),.pointer (some ⟨g,j*6,none⟩),.int .i64 7] w λe w'=>Below w.heap.size w w'/\∃b,e=.returned (.bool b)/\(b=true<->fY [] r.ln.2):=by
 obtain ⟨c0,c1,c3,c4,c5,f4⟩:=h.fst hi hv hr;obtain ⟨P1,B1,ls,first,re,hn,pG,hpl,hb1⟩:=hp;rw[hn]at c4;have HF:=aa (Ref.lX w B1 P1 ls first re hpl hb1 ⟨#[]⟩ 0 (Nat.le_refl _) (by decide))
 have HE:=aa (show fY [] r.ln.2<->re.aq=true from ⟨λ⟨d,o,c,p,re',e,h1,h2⟩=>by simp only[eo.ln,Ln.rule.injEq]at e;obtain ⟨_,_,_,rfl⟩:=e;have:=bh.cX h1 pG;simp only[Option.some.injEq,Prod.mk.injEq,and_true]at this;rw[<-this];exact h2,λh=>⟨_,_,_,_,re,rfl,pG,h⟩⟩)
 clear h hi hv hr hpl pG;go_enter Tryz.func62,Tryz.ntmps62;go_wp2_with fail;refine HF.out.mono ?_;rintro e w1 ⟨o,ho,rfl,eR⟩
 have hmt:re.aq=true<->o.isSome=true:=by
  cases o with
  | none=>
   have h0:=ho 0 (Nat.le_refl _);constructor
   ·intro hx;exact absurd ⟨0,Nat.le_refl _,Nat.le_refl _,by simpa [iY] using (j9 re).2 hx⟩ h0
   ·intro hx;cases hx
  | some p=>
   obtain ⟨a,b⟩:=p;obtain ⟨_,h2,h3,h4,_,_⟩:=ho;have hb0:b=0:=by simpa using h3
   have ha0:a=0:=by omega
   subst hb0;subst ha0;exact ⟨λ_=>rfl,λ_=>(j9 re).1 (by simpa [iY] using h4)⟩
 have Tg:=aa (HE.out.trans hmt);clear HF HE hmt ho
 cases o with
 | none=>
  simp only[found];go_wp2_with fail;go_ret;exact ⟨eR,false,rfl,by rw[Tg.out];simp⟩
 | some p=>
  obtain ⟨a,b⟩:=p;simp only[found];go_wp2_with fail;go_ret;exact ⟨eR,true,rfl,by rw[Tg.out];simp⟩
def IK(fs:cM):Nat->cM->Ln->Prop
 | 0=>cV fs
 | 1=>jN
 | 2=>oF
 | _=>fY
def lp:Nat->Nat
 | 0=>5
 | 1=>1
 | 2=>6
 | _=>7
theorem yZ(fs:cM)(k:Nat)(pre:cM)(x:Ln):IK fs k pre x<->IK fs k [] x:=by
 match k with
 | 0=>exact Iff.rfl
 | 1=>exact Iff.rfl
 | 2=>exact Iff.rfl
 | _+3=>exact Iff.rfl
theorem IP(fs:cM)(k:Nat)(pre:cM)(n:List UInt8):¬IK fs k pre (.state n):=by
 match k with
 | 0=>rintro ⟨_,_,_,h,_⟩;cases h
 | 1=>rintro ⟨_,_,_,_,h,_⟩;cases h
 | 2=>rintro ⟨_,_,_,_,h,_⟩;cases h
 | _+3=>rintro ⟨_,_,_,_,_,h,_⟩;cases h
def Shape(eB ss:List cd):Prop:=ss.map (λs=>(s.rv,s.eT))=eB.map (λs=>(s.rv,s.eT))
theorem Shape.refl(ss:List cd):Shape ss ss:=rfl
theorem Shape.length(h:Shape eB ss):ss.length=eB.length:=by have:=congrArg List.length h;simpa using this
theorem Shape.flat(h:Shape eB ss):flat ss=flat eB:=by have:=congrArg (λl=>(l.map Prod.snd).flatten) h;simpa [Go.Proofs.YtgncgdkpkkdaeaaGreatDoor.flat,List.flatMap_def,Function.comp_def] using this
theorem Shape.get(h:Shape eB ss)(hi:eB[i]?=some s0):∃s,ss[i]?=some s/\s.rv=s0.rv/\s.eT=s0.eT:=by
 have:=congrArg (λl=>l[i]?) h;simp only[List.getElem?_map,hi,Option.map_some]at this
 cases hs:ss[i]? with
 | none=>rw[hs]at this;cases this
 | some s=>
  rw[hs]at this;simp only[Option.map_some,Option.some.injEq,Prod.mk.injEq]at this;exact ⟨s,rfl,this.1,this.2⟩
theorem ya(h:s.eT=s0.eT):s.rs.map eo.ln=s0.rs.map eo.ln:=by simp only[cd.eT,List.cons.injEq]at h;exact h.2
theorem Bh(h:s.eT=s0.eT)(hj:s0.rs[j]?=some r0):∃r,s.rs[j]?=some r/\r.ln=r0.ln:=by
 have:=congrArg (λl=>l[j]?) (ya h);simp only[List.getElem?_map,hj,Option.map_some]at this
 cases hs:s.rs[j]? with
 | none=>rw[hs]at this;cases this
 | some r=>
  rw[hs]at this;exact ⟨r,rfl,Option.some.inj this⟩
theorem ud(h:s.eT=s0.eT):s.rs.length=s0.rs.length:=by have:=congrArg List.length (ya h);simpa using this
theorem Shape.gl(h:Shape eB ss){v:Value}(hi:ss[i]?=some s)(hj:s.rs[j]?=some r):Shape eB (gl ss i j s r v):=by
 have e:({ s with rs:=s.rs.set j { r with n:=v } }:cd).eT=s.eT:=by unfold cd.eT;simp only[List.map_set];rw[show eo.ln { r with n:=v }=r.ln from rfl,lY (by rw[List.getElem?_map,hj];rfl)]
 unfold Shape Go.Proofs.YtgncgdkpkkdaeaaGreatDoor.gl;rw[List.map_set,e,lY (by rw[List.getElem?_map,hi];rfl)];exact h
def ub(w:World)(E:Nat):Prop:=w.heap[E]?=some (.cells #[.int .i64 5,.int .i64 1,.int .i64 6,.int .i64 7] 3 (0,0))
theorem ub.below(h:ub w E)(hb:Below w.heap.size w w'):ub w' E:=(hb.block E (ae h)).trans h
structure kU(E B P:Nat)(sv:Value)(eB:List cd)(w0:World)(k i j:Nat)(ss:List cd)(w:World):Prop where
 es:ub w E
 gC:fD w B P sv ss
 shape:Shape eB ss
 below:Below B w0 w
 short:2<=k->∀s∈ss,∀r∈s.rs,r.p.size<=60
 gX:∀(i' j':Nat) s r,ss[i']?=some s->s.rs[j']?=some r->(3<=k∨(k=2/\(i'<i∨(i'=i/\j'<j))))->ez w r
theorem kU.keep(h:kU E B P sv eB w0 k i j ss w)(hk:k≠2)(hB:B<=w.heap.size)(hb:Below w.heap.size w w')(i2 j2:Nat):kU E B P sv eB w0 k i2 j2 ss w':=
 ⟨h.es.below hb,h.gC.below hb,h.shape,h.below.trans (hb.mono hB),h.short,λi' j' s r h1 h2 h3=>(h.gX i' j' s r h1 h2 (by rcases h3 with h3|h3;exact .inl h3;exact absurd h3.1 hk)).below hb⟩
def JF(E B P:Nat)(sv:Value)(eB:List cd)(w0:World)(k i j:Nat)(r0:eo)(e:Ending)(w':World):Prop:=
 ∃b IV,e=.returned (.bool b)/\(b=true<->IK (flat eB) k [] r0.ln.2)/\ub w' E/\fD w' B P sv IV/\Shape eB IV/\Below B w0 w'/\(b=false->kU E B P sv eB w0 k i (j+1) IV w')
theorem IU(E B P:Nat)(sv:Value)(eB:List cd)(w0:World)(k i j:Nat)(ss:List cd)(w:World)(h:kU E B P sv eB w0 k i j ss w)(hk:k<=3)(hB:B<=w.heap.size)(hz:eB.length<=1000000)(hi:eB[i]?=some s0)(hj:s0.rs[j]?=some r0)(hv:s0.rv=.slice (some ⟨g,0,none⟩) n cap):
  Calls Tryz.prog 62 #[.pointer (some ⟨P,0,none⟩),.pointer (some ⟨g,j*6,none⟩),.int .i64 (lp k:Nat)] w (JF E B P sv eB w0 k i j r0):=by
 obtain ⟨s,hs,mG,LP⟩:=h.shape.get hi;obtain ⟨r,hr,oz⟩:=Bh LP hj;rw[<-mG]at hv;have hl:=h.shape.length;have lZ:=h.shape.flat
 match k,hk with
 | 0,_=>
  refine (Vi B P sv ss w h.gC (by omega) hs hv hr).mono ?_;rintro e w' ⟨hb,b,rfl,tE⟩;refine ⟨b,ss,rfl,?_,h.es.below hb,h.gC.below hb,h.shape,h.below.trans (hb.mono hB),λ_=>h.keep (by omega) hB hb _ _⟩;rw[tE,oz,lZ];exact Iff.rfl
 | 1,_=>
  refine (Vj B P sv ss w h.gC hs hv hr).mono ?_;rintro e w' ⟨hb,b,rfl,tE⟩;refine ⟨b,ss,rfl,?_,h.es.below hb,h.gC.below hb,h.shape,h.below.trans (hb.mono hB),λ_=>h.keep (by omega) hB hb _ _⟩;rw[tE,oz];exact Iff.rfl
 | 2,_=>
  refine (Vk B P sv ss w h.gC hB hs hv hr (h.short (by omega) s (List.mem_of_getElem? hs) r (List.mem_of_getElem? hr))).mono ?_;rintro e w' ⟨b,q,w1,rfl,hb1,rfl,hG,kZ,tE,hpl⟩
  have hst:∀(m:Nat) c t,(t=206∨t=203∨t=4)->w.heap[m]?=some (.cells c t (0,0))->(w1.setCell ⟨g,j*6+4,none⟩ (.pointer q)).heap[m]?=some (.cells c t (0,0)):=λm c t ht hh=>by
   rw[Below.heap_setCell _ _ _ _ (λe=>by
    have e:m=g:=e;obtain ⟨_,cur,hc⟩:=aj (k:=g) (h.gC.inner (List.mem_of_getElem? hs)) (by rw[hv];rfl);rw[e,hc]at hh;simp only[Option.some.injEq,Obj.cells.injEq]at hh;rcases ht with rfl|rfl|rfl
    ·exact absurd hh.2.1 (by decide)
    ·exact absurd hh.2.1 (by decide)
    ·exact absurd hh.2.1 (by decide))]
   exact (hb1.block m (ae hh)).trans hh
  have hes:ub (w1.setCell ⟨g,j*6+4,none⟩ (.pointer q)) E:=by unfold ub;rw[Below.heap_setCell _ _ _ _ (λe=>by have e:E=g:=e;obtain ⟨_,cur,hc⟩:=aj (k:=g) (h.gC.inner (List.mem_of_getElem? hs)) (by rw[hv];rfl);have hh:=h.es;unfold ub at hh;rw[e,hc]at hh;simp only[Option.some.injEq,Obj.cells.injEq]at hh;exact absurd hh.2.1 (by decide))];exact h.es.below hb1
  have Fg:∀s'∈gl ss i j s r (.pointer q),∀r'∈s'.rs,(∃s1∈ss,r'∈s1.rs)∨r'={ r with n:=.pointer q }:=λs' hs' r' zI=>by
   obtain ⟨m,hm⟩:=List.getElem?_of_mem hs';by_cases Cx:m=i
   ·subst Cx;rw[gl,List.getElem?_set_self (by simpa using aw hs)]at hm;cases hm;rcases List.mem_or_eq_of_mem_set zI with hh|hh
    ·exact .inl ⟨s,List.mem_of_getElem? hs,hh⟩
    ·exact .inr hh
   ·rw[gl,List.getElem?_set_ne (Ne.symm Cx)]at hm;exact .inl ⟨s',List.mem_of_getElem? hm,zI⟩
  refine ⟨b,gl ss i j s r (.pointer q),rfl,?_,hes,hG,h.shape.gl hs hr,h.below.trans kZ,λXj=>⟨hes,hG,h.shape.gl hs hr,h.below.trans kZ,λ_ s' hs' r' zI=>?_,λi' j' s' r' h1 h2 h3=>?_⟩⟩
  ·rw[tE,oz];exact Iff.rfl
  ·rcases Fg s' hs' r' zI with ⟨s1,hs1,hr1⟩|rfl
   ·exact h.short (by omega) s1 hs1 r' hr1
   ·exact h.short (by omega) s (List.mem_of_getElem? hs) r (List.mem_of_getElem? hr)
  ·have hsz:w.heap.size<=(w1.setCell ⟨g,j*6+4,none⟩ (.pointer q)).heap.size:=by have:=hb1.size;simpa [World.setCell] using this
   by_cases ry:i'=i
   ·subst ry;rw[gl,List.getElem?_set_self (by simpa using aw hs)]at h1;cases h1;by_cases AG:j'=j
    ·subst AG;rw[List.getElem?_set_self (by simpa using aw hr)]at h2;cases h2;exact hpl Xj
    ·rw[List.getElem?_set_ne (Ne.symm AG)]at h2;exact (h.gX i' j' s r' hs h2 (by rcases h3 with h3|⟨_,h3|h3⟩;omega;omega;exact .inr ⟨rfl,.inr ⟨rfl,by omega⟩⟩)).keep hsz hst
   ·rw[gl,List.getElem?_set_ne (Ne.symm ry)]at h1;exact (h.gX i' j' s' r' h1 h2 (by rcases h3 with h3|⟨_,h3|h3⟩;omega;exact .inr ⟨rfl,.inl h3⟩;omega)).keep hsz hst
 | 3,_=>
  refine (Vl B P sv ss w h.gC hs hv hr (h.gX i j s r hs hr (.inl (Nat.le_refl _)))).mono ?_;rintro e w' ⟨hb,b,rfl,tE⟩;refine ⟨b,ss,rfl,?_,h.es.below hb,h.gC.below hb,h.shape,h.below.trans (hb.mono hB),λ_=>h.keep (by omega) hB hb _ _⟩;rw[tE,oz];exact Iff.rfl
theorem dI{p:cM->Ln->Prop}(hp:∀pre x,p pre x<->p [] x){pre l:cM}(h:dF p pre l none):∀y∈l,¬p [] y.2:=by
 generalize ho:(none:Option Nat)=o at h
 induction h with
 | nil=>intro y hy;simp at hy
 | hit _=>cases ho
 | skip hn _ ih=>
  intro y hy;rcases List.mem_cons.1 hy with rfl|hy
  ·exact λh=>hn ((hp _ _).2 h)
  ·exact ih ho y hy
theorem kU.X2(h:kU E B P sv eB w0 k i j ss w)(hi:eB[i]?=some s0)(hj:j=s0.rs.length):kU E B P sv eB w0 k (i+1) 0 ss w:=by
 refine { h with gX:=λi' j' s r h1 h2 h3=>h.gX i' j' s r h1 h2 ?_ };rcases h3 with h3|⟨h3,h4⟩
 ·exact .inl h3
 ·refine .inr ⟨h3,?_⟩;rcases Nat.lt_or_ge i' i with h5|h5
  ·exact .inl h5
  ·have:i'=i:=by omega
   subst this;obtain ⟨s',hs',_,hl⟩:=h.shape.get hi;rw[h1]at hs';cases hs';have:=ud hl;have:=aw h2;exact .inr ⟨rfl,by omega⟩
theorem kU.X3(h:kU E B P sv eB w0 k i j ss w)(hi:i=eB.length)(hf:dF (IK (flat eB) k) [] (flat eB) none):kU E B P sv eB w0 (k+1) 0 0 ss w:=by
 refine { h with short:=λhk s hs r hr=>?_,gX:=λi' j' s r h1 h2 h3=>h.gX i' j' s r h1 h2 ?_ }
 ·rcases Nat.lt_or_ge k 2 with h2|h2
  ·have:k=1:=by omega
   subst this;have hm:r.ln∈flat eB:=by rw[<-h.shape.flat];exact List.mem_flatMap.2 ⟨s,hs,List.mem_cons_of_mem _ (List.mem_map_of_mem hr)⟩
   have:=dI (yZ _ 1) hf _ hm;rcases Nat.lt_or_ge 60 r.p.size with h3|h3
   ·exact absurd ⟨_,_,_,_,rfl,h3⟩ this
   ·exact h3
  ·exact h.short h2 s hs r hr
 ·rcases h3 with h3|⟨h3,h4⟩
  ·rcases Nat.lt_or_ge k 3 with h5|h5
   ·have:=aw h1;have:=h.shape.length;exact .inr ⟨by omega,.inl (by omega)⟩
   ·exact .inl h5
  ·rcases h4 with h4|⟨_,h4⟩
   ·omega
   ·omega
end Go.Proofs.YtgncgdkpkkdaeaaGreatDoor
