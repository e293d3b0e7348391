import Derived.Test.YtgncgdkpkkdaeaaGreatDoorMTC
import Derived.Test.YtgncgdkpkkdaeaaGreatDoorMTE
namespace Go.Proofs.YtgncgdkpkkdaeaaGreatDoor
open Go.RowKit aQ
variable {ss ei:List bZ} {B E P cap g i j k n:Nat} {r r0:dW} {s s0:bZ} {sv:Value} {w w' w0:World}
theorem fe.fst(h:fe w B P sv ss)(hi:ss[i]?=some s)(hv:s.rv=.slice (some ⟨g,0,none⟩) n cap)(hr:s.rs[j]?=some r):
  w.cell? ⟨g,j*6,none⟩=some (.string r.a)/\w.cell? ⟨g,j*6+1,none⟩=some (.string r.b)/\w.cell? ⟨g,j*6+3,none⟩=some (.string r.p)/\w.cell? ⟨g,j*6+4,none⟩=some r.n/\w.cell? ⟨g,j*6+5,none⟩=some (.int .i64 r.at_)/\w.frozen? ⟨g,j*6+4,none⟩=false:=by
 have hs:=List.mem_of_getElem? hi;exact ⟨(h.rule hs hv hr 0 (by omega) rfl).1,(h.rule hs hv hr 1 (by omega) rfl).1,(h.rule hs hv hr 3 (by omega) rfl).1,(h.rule hs hv hr 4 (by omega) rfl).1,(h.rule hs hv hr 5 (by omega) rfl).1,(h.rule hs hv hr 4 (by omega) (u:=r.n) rfl).2⟩
theorem Bo(h:fe w B P sv ss)(hs:s∈ss)(hr:r∈s.rs)(pre:cK):cN (flat ss) pre r.ln.2<->r.a.data.toList=jo/\∀t∈ss,t.name.data.toList≠r.b.data.toList:=by
 obtain ⟨h1,h2⟩:=h.words s hs r hr
 have hd:r.d=1<->r.a.data.toList=jo:=by
  rw[h2]
  match hh:r.d with
  | 0=>simp[iq];decide
  | 1=>simp[iq]
  | 2=>simp[iq];decide
  | n+3=>omega
 unfold cN;constructor
 ·rintro ⟨o,c,p,e,hn⟩;simp only[dW.ln,Ln.rule.injEq]at e;obtain ⟨e1,rfl,_,_⟩:=e;exact ⟨hd.1 e1,λt ht hh=>hn t.at_ (oP.2 ⟨t,ht,rfl,hh⟩)⟩
 ·rintro ⟨e1,hn⟩;refine ⟨_,_,_,by simp only[dW.ln];rw[hd.2 e1],λa ha=>?_⟩;obtain ⟨t,ht,_,hh⟩:=oP.1 ha;exact hn t ht hh
set_option maxRecDepth 20000 in
set_option maxHeartbeats 1000000 in
theorem TC(B P:Nat)(sv:Value)(ss:List bZ)(w:World)(h:fe w B P sv ss)(hz:ss.length<=1000000)(hi:ss[i]?=some s)(hv:s.rv=.slice (some ⟨g,0,none⟩) n cap)(hr:s.rs[j]?=some r):
  Calls Tryz.prog 62 #[.pointer (some ⟨P,0,none⟩),.pointer (some ⟨g,j*6,none⟩),.int .i64 5] w λe w'=>Below w.heap.size w w'/\∃b,e=.returned (.bool b)/\(b=true<->cN (flat ss) [] r.ln.2):=by
 obtain ⟨c0,c1,c3,c4,c5,f4⟩:=h.fst hi hv hr;have HU:=aa (Bo h (List.mem_of_getElem? hi) (List.mem_of_getElem? hr) []);have uT:=aa (qm B P sv ss r.b w h (by omega));clear h hi hv hr;by_cases hp:r.a.data.toList=jo
 ·have q1:(r.a.toList == [112,117,115,104])=true:=by rw[ByteArray.toList_eq,hp];rfl
  go_enter Tryz.func62,Tryz.ntmps62;go_wp2_with fail;refine uT.out.mono ?_;rintro e w1 ⟨rfl,⟨i0,s0,rfl,hs0,ym,-⟩|⟨rfl,hno⟩⟩
  ·have q2:decide ((i0:Int)<0)=false:=decide_eq_false (by omega);have ai:=aa (show ¬cN (flat ss) [] r.ln.2 from λhu=>((HU.out.1 hu).2 s0 (List.mem_of_getElem? hs0)) ym);clear HU uT hs0 ym hp;go_wp2_with fail;go_ret;exact ⟨Below.refl _ _,false,rfl,⟨λhx=>(by cases hx),λhx=>absurd hx ai.out⟩⟩
  ·have ai:=aa (HU.out.2 ⟨hp,hno⟩);clear HU uT hno hp;go_wp2_with fail;go_ret;exact ⟨Below.refl _ _,true,rfl,⟨λ_=>ai.out,λ_=>rfl⟩⟩
 ·have q1:=lf hp;unfold jo at q1;have ai:=aa (λn'=>show Below w.heap.size w (w.drewN n')/\∃b,Ending.returned (.bool false)=.returned (.bool b)/\(b=true<->cN (flat ss) [] r.ln.2) from ⟨Below.drewN' (Below.refl _ _) n',false,rfl,by rw[HU.out];simp[hp]⟩);clear HU uT hp;go_enter Tryz.func62,Tryz.ntmps62;go_wp2_with fail;go_ret
  exact ai.out 0
set_option maxRecDepth 20000 in
set_option maxHeartbeats 1000000 in
theorem TD(B P:Nat)(sv:Value)(ss:List bZ)(w:World)(h:fe w B P sv ss)(hi:ss[i]?=some s)(hv:s.rv=.slice (some ⟨g,0,none⟩) n cap)(hr:s.rs[j]?=some r):
  Calls Tryz.prog 62 #[.pointer (some ⟨P,0,none⟩),.pointer (some ⟨g,j*6,none⟩),.int .i64 1] w λe w'=>Below w.heap.size w w'/\∃b,e=.returned (.bool b)/\(b=true<->jq [] r.ln.2):=by
 obtain ⟨c0,c1,c3,c4,c5,f4⟩:=h.fst hi hv hr;have HL:=aa (show jq [] r.ln.2<->60<r.p.size from ⟨λ⟨d,o,c,p,e,hl⟩=>by simp only[dW.ln,Ln.rule.injEq]at e;obtain ⟨_,_,_,rfl⟩:=e;exact hl,λhl=>⟨_,_,_,_,rfl,hl⟩⟩);clear h hi hv hr;go_enter Tryz.func62,Tryz.ntmps62;go_wp2_with fail;go_ret;refine ⟨Below.refl _ _,_,rfl,?_⟩
 rw[HL.out];simp only[decide_eq_true_eq];omega
set_option maxRecDepth 20000 in
set_option maxHeartbeats 1000000 in
theorem TE(B P:Nat)(sv:Value)(ss:List bZ)(w:World)(h:fe w B P sv ss)(hB:B<=w.heap.size)(hi:ss[i]?=some s)(hv:s.rv=.slice (some ⟨g,0,none⟩) n cap)(hr:s.rs[j]?=some r)(nM:r.p.size<=60):
  Calls Tryz.prog 62 #[.pointer (some ⟨P,0,none⟩),.pointer (some ⟨g,j*6,none⟩),.int .i64 6] w λe w'=>∃b q w1,e=.returned (.bool b)/\Below w.heap.size w w1/\w'=w1.setCell ⟨g,j*6+4,none⟩ (.pointer q)/\fe w' B P sv (fS ss i j s r (.pointer q))/\Below B w w'/\(b=true<->nH [] r.ln.2)/\(b=false->ed w' { r with n:=.pointer q }):=by
 obtain ⟨c0,c1,c3,c4,c5,f4⟩:=h.fst hi hv hr;have qK:=aa (Ref.iO r.p w nM);have HG:=aa h;have HI:=aa hi;have HV:=aa hv;have HR:=aa hr;have KR:=aa (show nH [] r.ln.2<->¬∃re,bc r.p.data.toList (some (re,[])) from ⟨λ⟨d,o,c,p,e,hl,hn⟩=>by simp only[dW.ln,Ln.rule.injEq]at e;obtain ⟨_,_,_,rfl⟩:=e;exact hn,λhn=>⟨_,_,_,_,rfl,nM,hn⟩⟩);clear h hi hv hr
 go_enter Tryz.func62,Tryz.ntmps62;go_wp2_with fail;refine qK.out.mono ?_;rintro e w1 ⟨eF,⟨rfl,hno⟩|⟨P1,B1,ls,first,re,rfl,oB,kz,yE⟩⟩
 ·have rQ:=aa (HG.out.below eF);obtain ⟨-,-,-,d4,-,df⟩:=rQ.out.fst HI.out HV.out HR.out
  have ai:=aa (show ∃b q w2,Ending.returned (.bool true)=.returned (.bool b)/\Below w.heap.size w w2/\w1.setCell ⟨g,j*6+4,none⟩ (.pointer none)=w2.setCell ⟨g,j*6+4,none⟩ (.pointer q)/\fe (w1.setCell ⟨g,j*6+4,none⟩ (.pointer none)) B P sv (fS ss i j s r (.pointer q))/\Below B w (w1.setCell ⟨g,j*6+4,none⟩ (.pointer none))/\(b=true<->nH [] r.ln.2)/\(b=false->ed (w1.setCell ⟨g,j*6+4,none⟩ (.pointer none)) { r with n:=.pointer q }) from
   ⟨true,none,w1,rfl,eF,rfl,(rQ.out.fS HI.out HR.out HV.out _).1,(eF.mono hB).trans (rQ.out.fS HI.out HR.out HV.out _).2,⟨λ_=>KR.out.2 (by
    rintro ⟨re,O3⟩;rcases hno with h|⟨r',s',hs',h⟩
    ·have:=bc.cS h O3;cases this
    ·have:=bc.cS h O3;simp only[Option.some.injEq,Prod.mk.injEq]at this;exact hs' this.2),λ_=>rfl⟩,λh=>by cases h⟩)
  clear qK HG rQ HI HV HR KR hno eF c0 c1 c3 c4 c5 f4;go_wp2_with fail;go_ret;exact ai.out
 ·have rQ:=aa (HG.out.below eF);obtain ⟨-,-,-,d4,-,df⟩:=rQ.out.fst HI.out HV.out HR.out
  have ai:=aa (show ∃b q w2,Ending.returned (.bool false)=.returned (.bool b)/\Below w.heap.size w w2/\w1.setCell ⟨g,j*6+4,none⟩ (.pointer (some ⟨P1,0,none⟩))=w2.setCell ⟨g,j*6+4,none⟩ (.pointer q)/\fe (w1.setCell ⟨g,j*6+4,none⟩ (.pointer (some ⟨P1,0,none⟩))) B P sv (fS ss i j s r (.pointer q))/\Below B w (w1.setCell ⟨g,j*6+4,none⟩ (.pointer (some ⟨P1,0,none⟩)))/\(b=true<->nH [] r.ln.2)/\(b=false->ed (w1.setCell ⟨g,j*6+4,none⟩ (.pointer (some ⟨P1,0,none⟩))) { r with n:=.pointer q }) from
   ⟨false,some ⟨P1,0,none⟩,w1,rfl,eF,rfl,(rQ.out.fS HI.out HR.out HV.out _).1,(eF.mono hB).trans (rQ.out.fS HI.out HR.out HV.out _).2,⟨λh=>(by cases h),λh=>absurd ⟨re,oB⟩ (KR.out.1 h)⟩,λ_=>⟨P1,B1,ls,first,re,rfl,oB,iY.keep yE (λk c t ht hh=>by
    rw[Below.heap_setCell _ _ _ _ (λe=>by
     have e:k=g:=e;obtain ⟨_,cur,hc⟩:=aw (k:=g) (rQ.out.inner (List.mem_of_getElem? HI.out)) (by rw[HV.out];rfl);rw[e,hc]at hh;simp only[Option.some.injEq,Obj.cells.injEq]at hh;rcases ht with rfl|rfl|rfl
     ·exact absurd hh.2.1 (by decide)
     ·exact absurd hh.2.1 (by decide)
     ·exact absurd hh.2.1 (by decide))]
    exact hh),by have:=yE.j0.lt;have:=yE.j0.hP;simp[World.setCell];omega⟩⟩)
  clear qK HG rQ HI HV HR KR oB yE eF c0 c1 c3 c4 c5 f4;go_wp2_with fail;go_ret;exact ai.out
set_option maxRecDepth 20000 in
set_option maxHeartbeats 1000000 in
theorem TF(B P:Nat)(sv:Value)(ss:List bZ)(w:World)(h:fe w B P sv ss)(hi:ss[i]?=some s)(hv:s.rv=.slice (some ⟨g,0,none⟩) n cap)(hr:s.rs[j]?=some r)(hp:ed w r):
  Calls Tryz.prog 62 #[.pointer (some ⟨P,0,none⟩),.pointer (some ⟨g,j*6,none⟩),.int .i64 7] w λe w'=>Below w.heap.size w w'/\∃b,e=.returned (.bool b)/\(b=true<->fO [] r.ln.2):=by
 obtain ⟨c0,c1,c3,c4,c5,f4⟩:=h.fst hi hv hr;obtain ⟨P1,B1,ls,first,re,hn,oB,hpl,hb1⟩:=hp;rw[hn]at c4;have HF:=aa (Ref.ll w B1 P1 ls first re hpl hb1 ⟨#[]⟩ 0 (Nat.le_refl _) (by decide))
 have HE:=aa (show fO [] r.ln.2<->re.aj=true from ⟨λ⟨d,o,c,p,re',e,h1,h2⟩=>by simp only[dW.ln,Ln.rule.injEq]at e;obtain ⟨_,_,_,rfl⟩:=e;have:=bc.cS h1 oB;simp only[Option.some.injEq,Prod.mk.injEq,and_true]at this;rw[<-this];exact h2,λh=>⟨_,_,_,_,re,rfl,oB,h⟩⟩)
 clear h hi hv hr hpl oB;go_enter Tryz.func62,Tryz.ntmps62;go_wp2_with fail;refine HF.out.mono ?_;rintro e w1 ⟨o,ho,rfl,eF⟩
 have hmt:re.aj=true<->o.isSome=true:=by
  cases o with
  | none=>
   have h0:=ho 0 (Nat.le_refl _);constructor
   ·intro hx;exact absurd ⟨0,Nat.le_refl _,Nat.le_refl _,by simpa [iD] using (jK re).2 hx⟩ h0
   ·intro hx;cases hx
  | some p=>
   obtain ⟨a,b⟩:=p;obtain ⟨_,h2,h3,h4,_,_⟩:=ho;have hb0:b=0:=by simpa using h3
   have ha0:a=0:=by omega
   subst hb0;subst ha0;exact ⟨λ_=>rfl,λ_=>(jK re).1 (by simpa [iD] using h4)⟩
 have Rt:=aa (HE.out.trans hmt);clear HF HE hmt ho
 cases o with
 | none=>
  simp only[found];go_wp2_with fail;go_ret;exact ⟨eF,false,rfl,by rw[Rt.out];simp⟩
 | some p=>
  obtain ⟨a,b⟩:=p;simp only[found];go_wp2_with fail;go_ret;exact ⟨eF,true,rfl,by rw[Rt.out];simp⟩
def GM(fs:cK):Nat->cK->Ln->Prop
 | 0=>cN fs
 | 1=>jq
 | 2=>nH
 | _=>fO
def kH:Nat->Nat
 | 0=>5
 | 1=>1
 | 2=>6
 | _=>7
theorem xS(fs:cK)(k:Nat)(pre:cK)(x:Ln):GM fs k pre x<->GM fs k [] x:=by
 match k with
 | 0=>exact Iff.rfl
 | 1=>exact Iff.rfl
 | 2=>exact Iff.rfl
 | _+3=>exact Iff.rfl
theorem GQ(fs:cK)(k:Nat)(pre:cK)(n:List UInt8):¬GM fs k pre (.state n):=by
 match k with
 | 0=>rintro ⟨_,_,_,h,_⟩;cases h
 | 1=>rintro ⟨_,_,_,_,h,_⟩;cases h
 | 2=>rintro ⟨_,_,_,_,h,_⟩;cases h
 | _+3=>rintro ⟨_,_,_,_,_,h,_⟩;cases h
def Shape(ei ss:List bZ):Prop:=ss.map (λs=>(s.rv,s.eQ))=ei.map (λs=>(s.rv,s.eQ))
theorem Shape.refl(ss:List bZ):Shape ss ss:=rfl
theorem Shape.length(h:Shape ei ss):ss.length=ei.length:=by have:=congrArg List.length h;simpa using this
theorem Shape.flat(h:Shape ei ss):flat ss=flat ei:=by have:=congrArg (λl=>(l.map Prod.snd).flatten) h;simpa [Go.Proofs.YtgncgdkpkkdaeaaGreatDoor.flat,List.flatMap_def,Function.comp_def] using this
theorem Shape.get(h:Shape ei ss)(hi:ei[i]?=some s0):∃s,ss[i]?=some s/\s.rv=s0.rv/\s.eQ=s0.eQ:=by
 have:=congrArg (λl=>l[i]?) h;simp only[List.getElem?_map,hi,Option.map_some]at this
 cases hs:ss[i]? with
 | none=>rw[hs]at this;cases this
 | some s=>
  rw[hs]at this;simp only[Option.map_some,Option.some.injEq,Prod.mk.injEq]at this;exact ⟨s,rfl,this.1,this.2⟩
theorem wW(h:s.eQ=s0.eQ):s.rs.map dW.ln=s0.rs.map dW.ln:=by simp only[bZ.eQ,List.cons.injEq]at h;exact h.2
theorem zV(h:s.eQ=s0.eQ)(hj:s0.rs[j]?=some r0):∃r,s.rs[j]?=some r/\r.ln=r0.ln:=by
 have:=congrArg (λl=>l[j]?) (wW h);simp only[List.getElem?_map,hj,Option.map_some]at this
 cases hs:s.rs[j]? with
 | none=>rw[hs]at this;cases this
 | some r=>
  rw[hs]at this;exact ⟨r,rfl,Option.some.inj this⟩
theorem sN(h:s.eQ=s0.eQ):s.rs.length=s0.rs.length:=by have:=congrArg List.length (wW h);simpa using this
theorem Shape.fS(h:Shape ei ss){v:Value}(hi:ss[i]?=some s)(hj:s.rs[j]?=some r):Shape ei (fS ss i j s r v):=by
 have e:({ s with rs:=s.rs.set j { r with n:=v } }:bZ).eQ=s.eQ:=by unfold bZ.eQ;simp only[List.map_set];rw[show dW.ln { r with n:=v }=r.ln from rfl,lm (by rw[List.getElem?_map,hj];rfl)]
 unfold Shape Go.Proofs.YtgncgdkpkkdaeaaGreatDoor.fS;rw[List.map_set,e,lm (by rw[List.getElem?_map,hi];rfl)];exact h
def sM(w:World)(E:Nat):Prop:=w.heap[E]?=some (.cells #[.int .i64 5,.int .i64 1,.int .i64 6,.int .i64 7] 3 (0,0))
theorem sM.below(h:sM w E)(hb:Below w.heap.size w w'):sM w' E:=(hb.block E (ae h)).trans h
structure kp(E B P:Nat)(sv:Value)(ei:List bZ)(w0:World)(k i j:Nat)(ss:List bZ)(w:World):Prop where
 es:sM w E
 gy:fe w B P sv ss
 shape:Shape ei ss
 below:Below B w0 w
 short:2<=k->∀s∈ss,∀r∈s.rs,r.p.size<=60
 gY:∀(i' j':Nat) s r,ss[i']?=some s->s.rs[j']?=some r->(3<=k∨(k=2/\(i'<i∨(i'=i/\j'<j))))->ed w r
theorem kp.keep(h:kp E B P sv ei w0 k i j ss w)(hk:k≠2)(hB:B<=w.heap.size)(hb:Below w.heap.size w w')(i2 j2:Nat):kp E B P sv ei w0 k i2 j2 ss w':=
 ⟨h.es.below hb,h.gy.below hb,h.shape,h.below.trans (hb.mono hB),h.short,λi' j' s r h1 h2 h3=>(h.gY i' j' s r h1 h2 (by rcases h3 with h3|h3;exact .inl h3;exact absurd h3.1 hk)).below hb⟩
def Iq(E B P:Nat)(sv:Value)(ei:List bZ)(w0:World)(k i j:Nat)(r0:dW)(e:Ending)(w':World):Prop:=
 ∃b GW,e=.returned (.bool b)/\(b=true<->GM (flat ei) k [] r0.ln.2)/\sM w' E/\fe w' B P sv GW/\Shape ei GW/\Below B w0 w'/\(b=false->kp E B P sv ei w0 k i (j+1) GW w')
theorem GV(E B P:Nat)(sv:Value)(ei:List bZ)(w0:World)(k i j:Nat)(ss:List bZ)(w:World)(h:kp E B P sv ei w0 k i j ss w)(hk:k<=3)(hB:B<=w.heap.size)(hz:ei.length<=1000000)(hi:ei[i]?=some s0)(hj:s0.rs[j]?=some r0)(hv:s0.rv=.slice (some ⟨g,0,none⟩) n cap):
  Calls Tryz.prog 62 #[.pointer (some ⟨P,0,none⟩),.pointer (some ⟨g,j*6,none⟩),.int .i64 (kH k:Nat)] w (Iq E B P sv ei w0 k i j r0):=by
 obtain ⟨s,hs,lS,Kr⟩:=h.shape.get hi;obtain ⟨r,hr,ot⟩:=zV Kr hj;rw[<-lS]at hv;have hl:=h.shape.length;have lp:=h.shape.flat
 match k,hk with
 | 0,_=>
  refine (TC B P sv ss w h.gy (by omega) hs hv hr).mono ?_;rintro e w' ⟨hb,b,rfl,wo⟩;refine ⟨b,ss,rfl,?_,h.es.below hb,h.gy.below hb,h.shape,h.below.trans (hb.mono hB),λ_=>h.keep (by omega) hB hb _ _⟩;rw[wo,ot,lp];exact Iff.rfl
 | 1,_=>
  refine (TD B P sv ss w h.gy hs hv hr).mono ?_;rintro e w' ⟨hb,b,rfl,wo⟩;refine ⟨b,ss,rfl,?_,h.es.below hb,h.gy.below hb,h.shape,h.below.trans (hb.mono hB),λ_=>h.keep (by omega) hB hb _ _⟩;rw[wo,ot];exact Iff.rfl
 | 2,_=>
  refine (TE B P sv ss w h.gy hB hs hv hr (h.short (by omega) s (List.mem_of_getElem? hs) r (List.mem_of_getElem? hr))).mono ?_;rintro e w' ⟨b,q,w1,rfl,hb1,rfl,hG,kz,wo,hpl⟩
  have hst:∀(m:Nat) c t,(t=206∨t=203∨t=4)->w.heap[m]?=some (.cells c t (0,0))->(w1.setCell ⟨g,j*6+4,none⟩ (.pointer q)).heap[m]?=some (.cells c t (0,0)):=λm c t ht hh=>by
   rw[Below.heap_setCell _ _ _ _ (λe=>by
    have e:m=g:=e;obtain ⟨_,cur,hc⟩:=aw (k:=g) (h.gy.inner (List.mem_of_getElem? hs)) (by rw[hv];rfl);rw[e,hc]at hh;simp only[Option.some.injEq,Obj.cells.injEq]at hh;rcases ht with rfl|rfl|rfl
    ·exact absurd hh.2.1 (by decide)
    ·exact absurd hh.2.1 (by decide)
    ·exact absurd hh.2.1 (by decide))]
   exact (hb1.block m (ae hh)).trans hh
  have hes:sM (w1.setCell ⟨g,j*6+4,none⟩ (.pointer q)) E:=by unfold sM;rw[Below.heap_setCell _ _ _ _ (λe=>by have e:E=g:=e;obtain ⟨_,cur,hc⟩:=aw (k:=g) (h.gy.inner (List.mem_of_getElem? hs)) (by rw[hv];rfl);have hh:=h.es;unfold sM at hh;rw[e,hc]at hh;simp only[Option.some.injEq,Obj.cells.injEq]at hh;exact absurd hh.2.1 (by decide))];exact h.es.below hb1
  have D9:∀s'∈fS ss i j s r (.pointer q),∀r'∈s'.rs,(∃s1∈ss,r'∈s1.rs)∨r'={ r with n:=.pointer q }:=λs' hs' r' D3=>by
   obtain ⟨m,hm⟩:=List.getElem?_of_mem hs';by_cases Bn:m=i
   ·subst Bn;rw[fS,List.getElem?_set_self (by simpa using au hs)]at hm;cases hm;rcases List.mem_or_eq_of_mem_set D3 with hh|hh
    ·exact .inl ⟨s,List.mem_of_getElem? hs,hh⟩
    ·exact .inr hh
   ·rw[fS,List.getElem?_set_ne (Ne.symm Bn)]at hm;exact .inl ⟨s',List.mem_of_getElem? hm,D3⟩
  refine ⟨b,fS ss i j s r (.pointer q),rfl,?_,hes,hG,h.shape.fS hs hr,h.below.trans kz,λVo=>⟨hes,hG,h.shape.fS hs hr,h.below.trans kz,λ_ s' hs' r' D3=>?_,λi' j' s' r' h1 h2 h3=>?_⟩⟩
  ·rw[wo,ot];exact Iff.rfl
  ·rcases D9 s' hs' r' D3 with ⟨s1,hs1,hr1⟩|rfl
   ·exact h.short (by omega) s1 hs1 r' hr1
   ·exact h.short (by omega) s (List.mem_of_getElem? hs) r (List.mem_of_getElem? hr)
  ·have hsz:w.heap.size<=(w1.setCell ⟨g,j*6+4,none⟩ (.pointer q)).heap.size:=by have:=hb1.size;simpa [World.setCell] using this
   by_cases qp:i'=i
   ·subst qp;rw[fS,List.getElem?_set_self (by simpa using au hs)]at h1;cases h1;by_cases zv:j'=j
    ·subst zv;rw[List.getElem?_set_self (by simpa using au hr)]at h2;cases h2;exact hpl Vo
    ·rw[List.getElem?_set_ne (Ne.symm zv)]at h2;exact (h.gY i' j' s r' hs h2 (by rcases h3 with h3|⟨_,h3|h3⟩;omega;omega;exact .inr ⟨rfl,.inr ⟨rfl,by omega⟩⟩)).keep hsz hst
   ·rw[fS,List.getElem?_set_ne (Ne.symm qp)]at h1;exact (h.gY i' j' s' r' h1 h2 (by rcases h3 with h3|⟨_,h3|h3⟩;omega;exact .inr ⟨rfl,.inl h3⟩;omega)).keep hsz hst
 | 3,_=>
  refine (TF B P sv ss w h.gy hs hv hr (h.gY i j s r hs hr (.inl (Nat.le_refl _)))).mono ?_;rintro e w' ⟨hb,b,rfl,wo⟩;refine ⟨b,ss,rfl,?_,h.es.below hb,h.gy.below hb,h.shape,h.below.trans (hb.mono hB),λ_=>h.keep (by omega) hB hb _ _⟩;rw[wo,ot];exact Iff.rfl
theorem dy{p:cK->Ln->Prop}(hp:∀pre x,p pre x<->p [] x){pre l:cK}(h:dF p pre l none):∀y∈l,¬p [] y.2:=by
 generalize ho:(none:Option Nat)=o at h
 induction h with
 | nil=>intro y hy;simp at hy
 | hit _=>cases ho
 | skip hn _ ih=>
  intro y hy;rcases List.mem_cons.1 hy with rfl|hy
  ·exact λh=>hn ((hp _ _).2 h)
  ·exact ih ho y hy
theorem kp.V4(h:kp E B P sv ei w0 k i j ss w)(hi:ei[i]?=some s0)(hj:j=s0.rs.length):kp E B P sv ei w0 k (i+1) 0 ss w:=by
 refine { h with gY:=λi' j' s r h1 h2 h3=>h.gY i' j' s r h1 h2 ?_ };rcases h3 with h3|⟨h3,h4⟩
 ·exact .inl h3
 ·refine .inr ⟨h3,?_⟩;rcases Nat.lt_or_ge i' i with h5|h5
  ·exact .inl h5
  ·have:i'=i:=by omega
   subst this;obtain ⟨s',hs',_,hl⟩:=h.shape.get hi;rw[h1]at hs';cases hs';have:=sN hl;have:=au h2;exact .inr ⟨rfl,by omega⟩
theorem kp.V5(h:kp E B P sv ei w0 k i j ss w)(hi:i=ei.length)(hf:dF (GM (flat ei) k) [] (flat ei) none):kp E B P sv ei w0 (k+1) 0 0 ss w:=by
 refine { h with short:=λhk s hs r hr=>?_,gY:=λi' j' s r h1 h2 h3=>h.gY i' j' s r h1 h2 ?_ }
 ·rcases Nat.lt_or_ge k 2 with h2|h2
  ·have:k=1:=by omega
   subst this;have hm:r.ln∈flat ei:=by rw[<-h.shape.flat];exact List.mem_flatMap.2 ⟨s,hs,List.mem_cons_of_mem _ (List.mem_map_of_mem hr)⟩
   have:=dy (xS _ 1) hf _ hm;rcases Nat.lt_or_ge 60 r.p.size with h3|h3
   ·exact absurd ⟨_,_,_,_,rfl,h3⟩ this
   ·exact h3
  ·exact h.short h2 s hs r hr
 ·rcases h3 with h3|⟨h3,h4⟩
  ·rcases Nat.lt_or_ge k 3 with h5|h5
   ·have:=au h1;have:=h.shape.length;exact .inr ⟨by omega,.inl (by omega)⟩
   ·exact .inl h5
  ·rcases h4 with h4|⟨_,h4⟩
   ·omega
   ·omega
end Go.Proofs.YtgncgdkpkkdaeaaGreatDoor
