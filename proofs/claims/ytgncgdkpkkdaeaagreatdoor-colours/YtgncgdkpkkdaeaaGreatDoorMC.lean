import Derived.Test.YtgncgdkpkkdaeaaGreatDoorMB
import Derived.Deep.RegionWith
namespace Go.Proofs.YtgncgdkpkkdaeaaGreatDoor
open Go.RowKit aQ
variable {text:ByteArray} {c:ej} {ns:List (Nd Value)} {xs:List Nat} {B P at_:Nat} {sv v:Value} {W w w' w1:World}
theorem rM{P:Program}{ops:Array Oper}{o:Oper}{a:Act}{K:Act->World->Prop}{Q:Exit->Act->World->Prop}{E:Prop}
  (hg:o.guard=none) (s x:Operand) (t:TypeId) (hop:o.op=Op.call { callee:=Callee.builtin Builtin.append,args:=#[s,x],argTypes:=#[t,t] })
  (base:Nat) (e:TypeId) (i:TypeInfo) (z:Value) (size bytes:Nat) (h1:P.underlying t=some (.slice e)) (h2:P.info? e=some i) (h3:i.zero=some z) (h4:i.size=size) (h5:i.bytes=bytes) (h6:z.cells.size=size) (h7:0<size)
  (v:Value) (n:Nat) (xs:List Value) (hs:a.eval s=v) (hown:w.ownsRow base e size v n xs)
  (ad:Addr) (m c:Nat) (news:List Value) (hx:a.eval x=.slice (some ad) m c) (hn:news.length=m*size) (hc:∀j u,news[j]?=some u->w.cell? (ad.add j)=some u) (h1c:∀u∈news,u.oneCell'=true)
  (b1:n+m<=maxLen) (b2:(n+m)*bytes<=140737488355328) (hb:base<=w.heap.size)
  (hK:∀v' w',w'.ownsRow base e size v' (n+m) (xs++news)->w.grownBy w' v.ownBlock->K (a.put o.dst v') w'):
  if Region.wanted o (yielded ops a.tmps)=true then Oper.wp P o a w K Q else E:=by
 have hw:Region.wanted o (yielded ops a.tmps)=true:=by simp[Region.wanted,hg]
 rw[if_pos hw];exact wp_append_own w s x t hop base e i z size bytes h1 h2 h3 h4 h5 h6 h7 v n xs hs hown ad m c news hx hn hc h1c b1 b2 hb λv' w' r1 r2 _=>hK v' w' r1 r2
theorem bb.alloc(h:bb w B sv ns)(o:Obj):bb (w.alloc o) B sv ns:=
 h.keep λ_ hk=>Below.heap_alloc _ _ _ (ae (h.block hk).2.choose_spec)
theorem pX:(Tryz.prog.info? 292).map (λi=>(i.zero,i.size,i.bytes))=some (some (.agg #[.int .i64 0,.nilFunc,.int .i64 0,.int .i64 0,.bool false]),5,40):=by kernel_rfl
theorem Ra(hb:Below W.heap.size W w1):(∀b o,b<W.heap.size->w1.cell? ⟨b,o,none⟩=W.cell? ⟨b,o,none⟩)/\(∀b o,b<W.heap.size->w1.frozen? ⟨b,o,none⟩=W.frozen? ⟨b,o,none⟩):=
 ⟨λb o h=>hb.cell (p:=⟨b,o,none⟩) h,λb o h=>hb.frozen (p:=⟨b,o,none⟩) h⟩
theorem add_mid{k l r:Nat}{h:Value}{b em:Bool}(hP:fu w B P text at_ ns)
  (hb1:Below (w.alloc (.cells #[.int .i64 k,h,.int .i64 l,.int .i64 r,.bool em] 292)).drew.heap.size (w.alloc (.cells #[.int .i64 k,h,.int .i64 l,.int .i64 r,.bool em] 292)).drew w1):
  fu (w1.setCell ⟨w.heap.size,4,none⟩ (.bool b)) B P text at_ ns/\dN B w (w1.setCell ⟨w.heap.size,4,none⟩ (.bool b)) /\
   (w1.setCell ⟨w.heap.size,4,none⟩ (.bool b)).heap[w.heap.size]?=some (.cells #[.int .i64 k,h,.int .i64 l,.int .i64 r,.bool b] 292 (0,0))/\w.heap.size<(w1.setCell ⟨w.heap.size,4,none⟩ (.bool b)).heap.size:=by
 have hsz:w.heap.size+1<=w1.heap.size:=by have:=hb1.size;simpa using this
 have hold:∀j,j<w.heap.size->w1.heap[j]?=w.heap[j]?:=λj hj=>by rw[hb1.block j (by simp;omega)];exact Below.heap_alloc _ _ _ hj
 have fL:w1.heap[w.heap.size]?=some (.cells #[.int .i64 k,h,.int .i64 l,.int .i64 r,.bool em] 292 (0,0)):=by rw[hb1.block _ (by simp)];exact af _ _
 have hF:dN B w w1:=(dN.refl B w).alloc _ |>.drew.trans (dN.ar hb1)
 refine ⟨hP.keep λj hj=>?_,hF.kU (Nat.le_refl _) _,?_,?_⟩
 ·rw[Below.heap_setCell _ _ _ _ (by show j≠w.heap.size;omega)];exact hold j hj
 ·exact heap_setCell_same w1 w.heap.size 4 _ fL
 ·simp[World.setCell];omega
theorem aC{base:Nat}{e:TypeId}{size:Nat}{n:Nat}{xs:List Value}(h:w.ownsRow base e size v n xs)(hn:0<n):
  ∃g cap,v=.slice (some ⟨g,0,none⟩) n cap:=by
 rcases h.2 with ⟨_,h0⟩|⟨g,cap,_,hv,_⟩
 ·omega
 ·exact ⟨g,cap,hv⟩
theorem aF(W:World)(c:Array Value)(t:TypeId):∀j u,c.toList[j]?=some u->(W.alloc (.cells c t)).cell? ((⟨W.heap.size,0,none⟩:Addr).add j)=some u:=by intro j u h;rw[Addr.add_lit,Nat.zero_add];have hh:=af W (.cells c t);simp only[World.cell?,hh];simpa using h
theorem dN.grown(hL:bb W B sv ns)(hg:W.grownBy w' sv.ownBlock):dN B W w':=
 ⟨hg.os,hg.tape,hg.output,hg.size,λk hk hn=>hg.block k hk (λe=>hn ⟨(hL.block e.symm).1,_,_,_,(hL.block e.symm).2.choose_spec,.inr rfl⟩)⟩
theorem G7{w3:World}{v':Value}{nd:Nd Value}{c:Array Value}{t:TypeId}(lY:Form nd.has)
  (h1:W.heap[P]?=some (.cells #[.string text,.int .i64 at_,sv] 257 (0,0))) (hL:bb W B sv ns) (hle:at_<=text.size) (hs:text.size<=60) (hB:B<=P)
  (hown:w3.ownsRow B 292 5 v' (ns.length+1) (bH ns++eN nd)) (hg:(W.alloc (.cells c t)).drew.grownBy w3 sv.ownBlock):
  w3.heap[P]?=some (.cells #[.string text,.int .i64 at_,sv] 257 (0,0)) /\
   fu (w3.setCell ⟨P,2,none⟩ v') B P text at_ (ns++[nd])/\dN B W (w3.setCell ⟨P,2,none⟩ v'):=by
 have hPl:=ae h1;have hne:some P≠sv.ownBlock:=λe=>by obtain ⟨_,cur,hc⟩:=hL.block e.symm;rw[h1]at hc;simp at hc
 have h3:w3.heap[P]?=some (.cells #[.string text,.int .i64 at_,sv] 257 (0,0)):=by rw[hg.block P (by simp;omega) hne];exact heap_alloc_old h1
 have hF:dN B W w3:=((dN.refl B W).alloc _).drew.trans (dN.grown (hL.alloc _) hg)
 have hL3:bb w3 B v' (ns++[nd]):=by
  refine ⟨?_,λd hd=>?_⟩
  ·rw[kT];simpa [bH] using hown
  ·rcases List.mem_append.1 hd with h|h
   ·exact hL.2 d h
   ·simp only[List.mem_singleton]at h;rw[h];exact lY
 refine ⟨h3,⟨⟨v',?_,?_⟩,hle,hs,hB⟩,hF.setCell ⟨hB,_,_,_,h3,.inl rfl⟩ _⟩
 ·exact heap_setCell_same w3 P 2 _ h3
 ·refine hL3.keep λk hk=>Below.heap_setCell _ _ _ _ ?_
  obtain ⟨_,cur,hc⟩:=hL3.block hk;rintro rfl;rw[h3]at hc;simp at hc
set_option maxHeartbeats 1000000 in
theorem eh(B P:Nat)(text:ByteArray)(at_:Nat)(ns:List (Nd Value))(k l r:Nat)(h:Value)(b em:Bool)(w:World)(hP:fu w B P text at_ ns)(hn:ns.length<=1000)(hE:K0 ns k l r b)(lY:Form h):
  Calls Tryz.prog 172 #[.pointer (some ⟨P,0,none⟩),.agg #[.int .i64 k,h,.int .i64 l,.int .i64 r,.bool em]] w λe w'=>
   e=.returned (.int .i64 ns.length)/\fu w' B P text at_ (ns++[⟨k,h,l,r,b⟩])/\dN B w w':=by
 have HP:=aa hP;obtain ⟨⟨sv,h1,h2⟩,hle,hs,hB⟩:=hP;obtain ⟨i0,hi,hz0,hz1,hz3⟩:=info_parts pX;have hPl:=ae h1;have HE:=aa hE
 have HO:Hid (∀u∈[Value.int .i64 k,h,.int .i64 l,.int .i64 r,.bool b],u.oneCell'=true):=by
  intro u hu;simp only[List.mem_cons,List.not_mem_nil,or_false]at hu;rcases hu with rfl|rfl|rfl|rfl|rfl
  ·rfl
  ·exact lY.one
  ·rfl
  ·rfl
  ·rfl
 have HL:=aa h2;have c2:w.cell? ⟨P,2,none⟩=some sv:=by simp[World.cell?,h1]
 have c2':=aq c2;have kC:=aa (HL.out.alloc (.cells #[.int .i64 k,h,.int .i64 l,.int .i64 r,.bool em] 292));clear h1 h2 hE;go_enter Tryz.func172,Tryz.ntmps172;go_wp2_with fail
 go_region_with (go_at_call 195;refine (ji B sv ns k l r h em b _ (by exact kC.out) HE.out).mono ?_;rintro e w1 ⟨rfl,hb1⟩;obtain ⟨hc1,hf1⟩:=Ra hb1)
 all_goals
  obtain ⟨iz,hF2,CE,hz2⟩:=add_mid (b:=b) HP.out hb1;have lW:=aa iz;have et:=aa hF2;have HX:=aa CE;clear iz hc1 hf1 hb1 c2 c2' HL kC;obtain ⟨W2,hW2⟩:∃W,W=w1.setCell ⟨w.heap.size,4,none⟩ (.bool b):=⟨_,rfl⟩;rw[<-hW2]at CE hz2 lW et hF2 HX ⊢;clear hW2;obtain ⟨⟨Wk,h1,h2⟩,-,-,-⟩:=lW.out;have kC:=aa h2
  have d2:W2.cell? ⟨P,2,none⟩=some Wk:=by simp[World.cell?,h1]
  have d2':=aq d2;have f2:W2.frozen? ⟨P,2,none⟩=false:=by simp[World.frozen?,h1]
  have e0:W2.cell? ⟨w.heap.size,0,none⟩=some (.int .i64 k):=by simp[World.cell?,CE]
  have e1:W2.cell? ⟨w.heap.size,1,none⟩=some h:=by simp[World.cell?,CE]
  have e2:W2.cell? ⟨w.heap.size,2,none⟩=some (.int .i64 l):=by simp[World.cell?,CE]
  have e3:W2.cell? ⟨w.heap.size,3,none⟩=some (.int .i64 r):=by simp[World.cell?,CE]
  have e4:W2.cell? ⟨w.heap.size,4,none⟩=some (.bool b):=by simp[World.cell?,CE]
  have H1:=aa h1;have tk:=aa (show B<=W2.heap.size+1 by have:=hF2.size;omega);clear h1 h2 CE hF2;go_wp2_with fail
  go_region_law (refine rM rfl (.tmp 16) (.tmp 18) 182 rfl B 292 i0 (.agg #[.int .i64 0,.nilFunc,.int .i64 0,.int .i64 0,.bool false]) 5 40 Tryz.underlying182 hi hz0 hz1 hz3 rfl (by decide) Wk ns.length (bH ns) (by rfl) (by exact (kC.out.alloc _).1) ⟨W2.heap.size,0,none⟩ 1 1 [.int .i64 k,h,.int .i64 l,.int .i64 r,.bool b] (by rfl) (by rfl) (by exact aF W2 #[.int .i64 k,h,.int .i64 l,.int .i64 r,.bool b] _) HO.out (by unfold maxLen;omega) (by omega) (by simpa using tk.out) ?_;intro v' w3 hown hg;obtain ⟨g,cap,rfl⟩:=aC hown (by omega);obtain ⟨Al,jD,dp⟩:=G7 (nd:=⟨k,h,l,r,b⟩) lY H1.out kC.out hle hs hB hown hg;have g2:w3.cell? ⟨P,2,none⟩=some Wk:=(by simp[World.cell?,Al]);have gf:w3.frozen? ⟨P,2,none⟩=false:=(by simp[World.frozen?,Al]);clear hown hg Al;have pF:=aa jD;have gz:=aa dp;clear jD dp)
  all_goals
   go_wp2;go_ret;exact ⟨by simp,pF.out,et.out.trans gz.out⟩
theorem _root_.aQ.dH.world(h:bu w w'){a:aM}(hr:dH (aB w) ns a):dH (aB w') ns a:=
 hr.mono (λ_ _ hc=>hc.stay h) (λ_ _ hn=>hn)
def Ints(w:World)(B:Nat)(v:Value)(xs:List Nat):Prop:=w.ownsRow B 3 1 v xs.length (xs.map λx:Nat=>Value.int .i64 (x:Int))
theorem Ints.keep(h:Ints w B v xs)(hk:∀(k:Nat) c,w.heap[k]?=some (.cells c 3 (0,0))->w'.heap[k]?=some (.cells c 3 (0,0))):Ints w' B v xs:=by
 obtain ⟨h1,h2⟩:=h;refine ⟨h1,?_⟩;rcases h2 with h2|⟨g,cap,cur,hv,hg,hh,r⟩
 ·exact .inl h2
 ·exact .inr ⟨g,cap,cur,hv,hg,hk _ _ hh,r⟩
theorem Ints.pfr{B':Nat}(h:Ints w B v xs)(hF:dN B' w w'):Ints w' B v xs:=
 h.keep λ_ _ hh=>hF.other hh (by decide) (by decide)
theorem Ints.at(h:Ints w B v xs){i x:Nat}(hi:xs[i]?=some x):
  ∃g cap,v=.slice (some ⟨g,0,none⟩) xs.length cap/\w.cell? ⟨g,i,none⟩=some (.int .i64 x):=by
 have hlt:=au hi;obtain ⟨h1,h2⟩:=h;rcases h2 with ⟨rfl,h0⟩|⟨g,cap,cur,rfl,hg,hh,hn,hc,hs,ht⟩
 ·omega
 ·refine ⟨g,cap,rfl,?_⟩;have e:(xs.map λx:Nat=>Value.int .i64 (x:Int))[i]?=some (.int .i64 x):=by simp[hi]
  rw[<-ht,List.getElem?_take_of_lt (by omega)]at e;simpa [World.cell?,hh] using e
def O2(B P:Nat)(text:ByteArray)(at_:Nat)(ns:List (Nd Value))(ps:List aM)(w:World)(m:Nat)(whole i:Value)(wr:World):Prop:=
 dN B w wr/\m+1<=ps.length/\i=.int .i64 ((m:Int) - 1)/\∃(a:aM) (ms:List (Nd Value)),whole=.int .i64 a.ix/\a.re=bn ((ps.drop m).map aM.re) /\
  fu wr B P text at_ (ns++ms)/\dH (aB wr) (ns++ms) a/\ms.length+m+1=ps.length
def ye(B P:Nat)(text:ByteArray)(at_:Nat)(ns:List (Nd Value))(ps:List aM)(w:World)(e:Ending)(w':World):Prop:=
 dN B w w'/\∃(a:aM) (ms:List (Nd Value)),e=.returned (.int .i64 a.ix)/\a.re=bn (ps.map aM.re) /\
  fu w' B P text at_ (ns++ms)/\dH (aB w') (ns++ms) a/\ms.length<=ps.length - 1
theorem Dl{r:Re}{rs:List Re}(h:rs≠[]):bn (r::rs)=.seq r (bn rs):=by
 cases rs with
 | nil=>exact absurd rfl h
 | cons b l=>rfl
set_option maxHeartbeats 1000000 in
theorem tq(B B2 P:Nat)(text:ByteArray)(at_:Nat)(ns:List (Nd Value))(ps:List aM)(pv:Value)(w:World)(hP:fu w B P text at_ ns)(hn:ns.length+ps.length<=900)
  (hI:Ints w B2 pv (ps.map aM.ix)) (hA:∀a∈ps,dH (aB w) ns a) (h0:dH (aB w) ns .cW):
  Calls Tryz.prog 194 #[.pointer (some ⟨P,0,none⟩),pv] w (ye B P text at_ ns ps w):=by
 have HP:=aa hP;have HI:=aa hI;have HA:=aa hA;clear hP hI hA;by_cases hz:ps.length=0
 ·obtain rfl:ps=[]:=List.eq_nil_of_length_eq_zero hz
  have hl:∃ao cap,pv=.slice ao 0 cap:=by
   rcases HI.out.2 with ⟨rfl,_⟩|⟨g,cap,_,rfl,_⟩
   ·exact ⟨_,_,rfl⟩
   ·exact ⟨_,_,rfl⟩
  obtain ⟨ao,cap,rfl⟩:=hl;have H0:=aa h0;clear h0;go_enter Tryz.func194,Tryz.ntmps194;go_wp2;go_ret;exact ⟨dN.refl _ _,.cW,[],rfl,rfl,by simpa using HP.out,by simpa using H0.out,by simp⟩
 ·obtain ⟨n,hlen⟩:∃n,ps.length=n+1:=⟨ps.length - 1,by omega⟩;obtain ⟨la,Wl⟩:∃a,ps[n]?=some a:=⟨ps[n],List.getElem?_eq_getElem (by omega)⟩;obtain ⟨g,cap,rfl,hc⟩:=HI.out.at (i:=n) (x:=la.ix) (by simp[Wl]);rw[List.length_map,hlen]at HI ⊢;have tr:=aa Wl;have HLEN:=aa hlen;have HN:=aa hn;have pH:n<=900:=by omega
  have hz1:((n:Int)+1==0)=false:=by rw[beq_eq_false_iff_ne];omega
  clear Wl hlen hz hn h0;go_enter Tryz.func194,Tryz.ntmps194;go_wp2_with fail;go_loopg [5,6] n (λm whole i wr=>O2 B P text at_ ns ps w m whole i wr)
  case atStart=>
   refine ⟨dN.refl _ _,by rw[HLEN.out];omega,by go_num,la,[],rfl,?_,by simpa using HP.out,?_,by simp[HLEN.out]⟩
   ·have:=HLEN.out;rw[List.drop_eq_getElem_cons (by omega),List.drop_of_length_le (by omega)];rw[List.getElem?_eq_getElem (by omega)]at tr;have:=Option.some.inj tr.out;simp[this,bn]
   ·simpa using HA.out la (List.mem_of_getElem? tr.out)
  case round=>
   obtain ⟨hF,hm,rfl,a,ms,rfl,O3,iz,hR,ZM⟩:=hrel
   cases gk with
   | zero=>
    have HF:=aa hF;have Wm:=aa O3;have lW:=aa iz;have HR:=aa hR;have Am:=aa ZM;clear hF O3 iz hR ZM;go_wp2_with fail;go_ret;refine ⟨HF.out,a,ms,by simp,?_,lW.out,HR.out,?_⟩
    ·simpa using Wm.out
    ·have:=Am.out;omega
   | succ j=>
    obtain ⟨pa,oB⟩:∃a,ps[j]?=some a:=⟨ps[j],List.getElem?_eq_getElem (by omega)⟩;have kf:=HI.out.pfr hF;obtain ⟨g',cap',e',QS⟩:=kf.at (i:=j) (x:=pa.ix) (by simp[oB]);simp only[Value.slice.injEq,Option.some.injEq,Addr.mk.injEq]at e';obtain ⟨⟨rfl,-⟩,-,rfl⟩:=e';have N1:j<n+1:=by have:=HLEN.out;omega
    have Fy:dH (aB wr) (ns++ms) pa:=((HA.out pa (List.mem_of_getElem? oB)).world hF.stay).append;obtain ⟨x,hx,Rb⟩:=Fy.empty;obtain ⟨y,hy,Rc⟩:=hR.empty;have hE:K0 (ns++ms) 2 pa.ix a.ix (pa.re.aj&&a.re.aj):=.inr (.inr (.inr (.inl ⟨rfl,x,y,hx,hy,by rw[Rb,Rc]⟩)));have HF:=aa hF;have Wm:=aa O3;have lW:=aa iz;have HR:=aa hR;have Am:=aa ZM
    have HE:=aa hE;have SN:=aa Fy;have qK:=aa oB;have Rf:(ns++ms).length<=1000:=by have:=HN.out;simp;omega
    have OS:=aa Rf;clear hF O3 iz hR ZM hE Fy oB hx hy Rb Rc kf Rf;go_wp2_with fail;refine (eh B P text at_ (ns++ms) 2 pa.ix a.ix .nilFunc (pa.re.aj&&a.re.aj) false wr lW.out OS.out HE.out (.inl rfl)).mono ?_;rintro e w2 ⟨rfl,jD,dp⟩;have pF:=aa jD;have gz:=aa dp;clear jD dp;go_wp2_with fail;go_roundg j
    case measure=>omega
    case rel=>
     have hst:=gz.out.stay;refine ⟨HF.out.trans gz.out,by omega,by go_num,.seq (ns++ms).length pa a,ms++[⟨2,.nilFunc,pa.ix,a.ix,pa.re.aj&&a.re.aj⟩],by simp[aM.ix],?_,?_,?_,?_⟩
     ·have hl:=HLEN.out;have e1:ps.drop j=pa::ps.drop (j+1):=by have h1:=qK.out;rw[List.getElem?_eq_getElem (by omega)]at h1;rw[List.drop_eq_getElem_cons (by omega),Option.some.inj h1]
      rw[e1,List.map_cons,Dl,<-Wm.out]
      ·rfl
      ·intro h0;have:=congrArg List.length h0;simp at this;omega
     ·rw[<-List.append_assoc];exact pF.out
     ·rw[<-List.append_assoc];refine ⟨?_,⟨.nilFunc,?_⟩,(SN.out.world hst).append,(HR.out.world hst).append⟩
      ·have:=SN.out.lt;omega
      ·rw[List.getElem?_append_right (Nat.le_refl _)];simp
     ·have:=Am.out;simp;omega
def fX(PX:List UInt8->Option (Re×List UInt8)->Prop)(d:Nat)(B P:Nat)(text:ByteArray)(at_:Nat)(ns:List (Nd Value))(w:World)(e:Ending)(w':World):Prop:=
 dN B w w'/\((∃(a:aM) (at':Nat) (ms:List (Nd Value)),e=.returned (.tuple #[.int .i64 a.ix,.bool true])/\PX (rest text at_) (some (a.re,rest text at')) /\
   fu w' B P text at' (ns++ms)/\dH (aB w') (ns++ms) a/\ms.length+3*(rest text at').length+d<=3*(rest text at_).length) ∨
  (∃i:Nat,e=.returned (.tuple #[.int .i64 i,.bool false])/\PX (rest text at_) none))
structure Pre(B P:Nat)(text:ByteArray)(at_:Nat)(ns:List (Nd Value))(w:World):Prop where
 Wn:fu w B P text at_ ns
 cW:dH (aB w) ns .cW
 bound:ns.length+3*(rest text at_).length<=200
def gU(n:Nat):Prop:=∀B P text at_ ns w,Pre B P text at_ ns w->(rest text at_).length<n ->
 Calls Tryz.prog 139 #[.pointer (some ⟨P,0,none⟩)] w (fX bc 0 B P text at_ ns w)
theorem K0.one(ns:List (Nd Value)):K0 ns 1 0 0 false:=.inl ⟨rfl,rfl⟩
theorem aB.one(h:aB w v c):Form v:=.inr h.shape
theorem tu(h0:dH (aB w) ns .cW)(hc:aB w v c):dH (aB w) (ns++[⟨1,v,0,0,false⟩]) (.cV ns.length c):=by
 refine ⟨?_,v,?_,hc⟩
 ·have:=h0.lt;simp only[aM.ix]at this;omega
 ·rw[List.getElem?_append_right (Nat.le_refl _)];simp
-- ( ALT )
set_option maxHeartbeats 1000000 in
theorem Dm(n:Nat)(hC:gU n)(s:List UInt8)(B P:Nat)(text:ByteArray)(at_:Nat)(ns:List (Nd Value))(w:World)(hP:Pre B P text at_ ns w)(hr:rest text at_=40::s)(hn:(rest text at_).length<=n):
  Calls Tryz.prog 206 #[.pointer (some ⟨P,0,none⟩)] w (fX aT 1 B P text at_ ns w):=by
 have HP:=aa hP;have HR:=aa hr;have HN:=aa hn;clear hP hr hn;go_enter Tryz.func206,Tryz.ntmps206;go_wp2_with fail;refine (gl 40 s B P text at_ ns w HP.out.Wn HR.out).mono ?_;rintro e w1 ⟨rfl,mC,fH,hr1⟩;have hlen:(rest text (at_+1)).length+1=(rest text at_).length:=by rw[hr1,HR.out];rfl
 have pM:Pre B P text (at_+1) ns w1:=⟨mC,HP.out.cW.world fH.stay,by have:=HP.out.bound;omega⟩;have K3:=aa pM;have jR:=aa fH;have ez:=aa hr1;have G8:=aa hlen;clear mC fH hr1 pM hlen;go_wp2_with fail;refine (hC B P text (at_+1) ns w1 K3.out (by have:=G8.out;have:=HN.out;omega)).mono ?_;rintro e w2 ⟨hF2,⟨a,pG,ms,rfl,pL,iz,wH,hb2⟩|⟨i,rfl,pL⟩⟩
 ·have et:=aa hF2;have CF:=aa pL;have lW:=aa iz;have kR:=aa wH;have cM:=aa hb2;clear hF2 pL iz wH hb2;go_wp2_with fail;refine (ia 41 B P text pG (ns++ms) w2 lW.out).mono ?_;rintro e w3 ⟨r,Ai,rfl,jD,dp,⟨rfl,h3⟩|⟨rfl,-,h3⟩⟩
  ·have pF:=aa jD;have gz:=aa dp;have H3:=aa h3;clear jD dp h3;go_wp2_with fail;go_ret2;refine ⟨(jR.out.trans et.out).trans gz.out,.inl ⟨a,Ai,ms,by simp,?_,pF.out,kR.out.world gz.out.stay,?_⟩⟩
   ·rw[HR.out];refine .paren ?_;rw[<-H3.out,<-ez.out];exact CF.out
   ·have h1:=cM.out;have h2:=G8.out;rw[H3.out,List.length_cons]at h1;omega
  ·have gz:=aa dp;have H3:=aa h3;clear jD dp h3;go_wp2_with fail;go_ret2;refine ⟨(jR.out.trans et.out).trans gz.out,.inr ⟨a.ix,by simp,?_⟩⟩;rw[HR.out];exact .eV (r:=a.re) (by rw[<-ez.out];exact CF.out) H3.out
 ·have et:=aa hF2;have CF:=aa pL;clear hF2 pL;go_wp2_with fail;go_ret2;refine ⟨jR.out.trans et.out,.inr ⟨i,by simp,?_⟩⟩;rw[HR.out];refine .ft ?_;rw[<-ez.out];exact CF.out
-- any byte
set_option maxHeartbeats 1000000 in
theorem K4(s:List UInt8)(B P:Nat)(text:ByteArray)(at_:Nat)(ns:List (Nd Value))(w:World)(hP:Pre B P text at_ ns w)(hr:rest text at_=46::s):
  Calls Tryz.prog 206 #[.pointer (some ⟨P,0,none⟩)] w (fX aT 1 B P text at_ ns w):=by
 have HP:=aa hP;have HR:=aa hr;clear hP hr;go_enter Tryz.func206,Tryz.ntmps206;go_wp2_with fail;refine (dJ 40 B P text at_ ns w HP.out.Wn (by rw[HR.out];simp)).mono ?_;rintro e w0 ⟨rfl,KY,yf⟩;have Wo:=aa KY;have SQ:=aa yf;clear KY yf;go_wp2_with fail;refine (gl 46 s B P text at_ ns w0 Wo.out HR.out).mono ?_
 rintro e w1 ⟨rfl,mC,fH,hr1⟩;have gp:=aa mC;have jR:=aa fH;have ez:=aa hr1;clear mC fH hr1;go_wp2_with fail;refine (eh B P text (at_+1) ns 1 0 0 (.func (.func 209) #[] #[]) false false w1 gp.out (by have:=HP.out.bound;omega) (K0.one ns) (.inr ⟨_,_,rfl⟩)).mono ?_;rintro e w2 ⟨rfl,iz,hF2⟩;have lW:=aa iz;have et:=aa hF2;clear iz hF2
 go_wp2_with fail;go_ret2;have hF:=(SQ.out.trans jR.out).trans et.out;refine ⟨hF,.inl ⟨.cV ns.length .any,at_+1,_,by simp[aM.ix],?_,lW.out,tu (HP.out.cW.world hF.stay) rfl,?_⟩⟩
 ·rw[HR.out,ez.out];exact .dot
 ·rw[HR.out,ez.out];simp;omega
-- [ .. ]
set_option maxHeartbeats 1000000 in
theorem Dn(s:List UInt8)(B P:Nat)(text:ByteArray)(at_:Nat)(ns:List (Nd Value))(w:World)(hP:Pre B P text at_ ns w)(hr:rest text at_=91::s):
  Calls Tryz.prog 206 #[.pointer (some ⟨P,0,none⟩)] w (fX aT 1 B P text at_ ns w):=by
 have HP:=aa hP;have HR:=aa hr;clear hP hr;go_enter Tryz.func206,Tryz.ntmps206;go_wp2_with fail;refine (dJ 40 B P text at_ ns w HP.out.Wn (by rw[HR.out];simp)).mono ?_;rintro e w0 ⟨rfl,KY,yf⟩;have Wo:=aa KY;have SQ:=aa yf;clear KY yf;go_wp2_with fail;refine (dJ 46 B P text at_ ns w0 Wo.out (by rw[HR.out];simp)).mono ?_
 rintro e w00 ⟨rfl,K5,K6⟩;have SR:=aa K5;have SS:=aa K6;clear K5 K6;go_wp2_with fail;refine (gl 91 s B P text at_ ns w00 SR.out HR.out).mono ?_;rintro e w1 ⟨rfl,mC,fH,hr1⟩;have gp:=aa mC;have jR:=aa fH;have ez:=aa hr1;clear mC fH hr1;go_wp2_with fail;refine (pU B P text (at_+1) ns w1 gp.out).mono ?_
 rintro e w2 ⟨hF2,v,pG,c,iz,hv,⟨hc,rfl⟩|⟨hc,rfl⟩⟩
 all_goals
  have lW:=aa iz;have et:=aa hF2;have HV:=aa hv;have HC:=aa hc;obtain ⟨gv,cv,rfl⟩:=hv.shape;clear iz hF2 hv hc;go_wp2_with fail;refine (eh B P text pG ns 1 0 0 (.func (.func gv) #[] cv) false false w2 lW.out (by have:=HP.out.bound;omega) (K0.one ns) HV.out.one).mono ?_;rintro e w3 ⟨rfl,jD,dp⟩;have pF:=aa jD;have gz:=aa dp;clear jD dp;go_wp2_with fail;go_ret2
  have hF:=(((SQ.out.trans SS.out).trans jR.out).trans et.out).trans gz.out
 ·refine ⟨hF,.inl ⟨.cV ns.length c,pG,_,by simp[aM.ix],?_,pF.out,tu (HP.out.cW.world hF.stay) (HV.out.stay gz.out.stay),?_⟩⟩
  ·rw[HR.out,<-ez.out];exact .cV HC.out
  ·have:=HC.out.len;have h2:=congrArg List.length ez.out;rw[HR.out];simp only[List.length_cons,List.length_nil];omega
 ·refine ⟨hF,.inr ⟨ns.length,by simp,?_⟩⟩;rw[HR.out,<-ez.out];exact .cV HC.out
-- ONE
set_option maxHeartbeats 1000000 in
theorem K7(B P:Nat)(text:ByteArray)(at_:Nat)(ns:List (Nd Value))(w:World)(hP:Pre B P text at_ ns w)(h1:(rest text at_).head?≠some 40)(h2:(rest text at_).head?≠some 46)(h3:(rest text at_).head?≠some 91):
  Calls Tryz.prog 206 #[.pointer (some ⟨P,0,none⟩)] w (fX aT 1 B P text at_ ns w):=by
 have HP:=aa hP;have H1:=aa h1;have H2:=aa h2;have H3:=aa h3;clear hP h1 h2 h3;go_enter Tryz.func206,Tryz.ntmps206;go_wp2_with fail;refine (dJ 40 B P text at_ ns w HP.out.Wn H1.out).mono ?_;rintro e w0 ⟨rfl,KY,yf⟩;have Wo:=aa KY;have SQ:=aa yf;clear KY yf;go_wp2_with fail
 refine (dJ 46 B P text at_ ns w0 Wo.out H2.out).mono ?_;rintro e w00 ⟨rfl,K5,K6⟩;have SR:=aa K5;have SS:=aa K6;clear K5 K6;go_wp2_with fail;refine (dJ 91 B P text at_ ns w00 SR.out H3.out).mono ?_;rintro e w1 ⟨rfl,mC,fH⟩;have gp:=aa mC;have jR:=aa fH;clear mC fH;go_wp2_with fail;refine (jP B P text at_ ns w1 gp.out).mono ?_
 rintro e w2 ⟨hF2,b,pG,iz,⟨hc,rfl⟩|⟨hc,rfl⟩⟩
 all_goals
  have lW:=aa iz;have et:=aa hF2;have HC:=aa hc;clear iz hF2 hc;go_wp2_with fail;refine (gm b b w2).mono ?_;rintro e w3 ⟨v,rfl,hv,gG⟩;have HV:=aa hv;have pF:=aa (lW.out.below gG);have gz:=aa (dN.ar (B:=B) gG);obtain ⟨gv,cv,rfl⟩:=hv.shape;clear hv gG;go_wp2_with fail
  refine (eh B P text pG ns 1 0 0 (.func (.func gv) #[] cv) false false w3 pF.out (by have:=HP.out.bound;omega) (K0.one ns) HV.out.one).mono ?_;rintro e w4 ⟨rfl,wG,lX⟩;have Fv:=aa wG;have mD:=aa lX;clear wG lX;go_wp2_with fail;go_ret2;have hF:=((((SQ.out.trans SS.out).trans jR.out).trans et.out).trans gz.out).trans mD.out;have hat:=aT.one H1.out H2.out H3.out
  rw[HC.out]at hat
 ·refine ⟨hF,.inl ⟨.cV ns.length (.range b b),pG,_,by simp[aM.ix],hat,Fv.out,tu (HP.out.cW.world hF.stay) (HV.out.stay mD.out.stay),?_⟩⟩;have:=oz HC.out;simp only[List.length_cons,List.length_nil];omega
 ·exact ⟨hF,.inr ⟨ns.length,by simp,hat⟩⟩
theorem tz(n:Nat)(hC:gU n)(B P:Nat)(text:ByteArray)(at_:Nat)(ns:List (Nd Value))(w:World)(hP:Pre B P text at_ ns w)(hn:(rest text at_).length<=n):
  Calls Tryz.prog 206 #[.pointer (some ⟨P,0,none⟩)] w (fX aT 1 B P text at_ ns w):=by
 by_cases h1:(rest text at_).head?=some 40
 ·obtain ⟨s,hs⟩:=head_cons h1;exact Dm n hC s B P text at_ ns w hP hs hn
 ·by_cases h2:(rest text at_).head?=some 46
  ·obtain ⟨s,hs⟩:=head_cons h2;exact K4 s B P text at_ ns w hP hs
  ·by_cases h3:(rest text at_).head?=some 91
   ·obtain ⟨s,hs⟩:=head_cons h3;exact Dn s B P text at_ ns w hP hs
   ·exact K7 B P text at_ ns w hP h1 h2 h3
theorem lZ(nd:Nd Value):(ns++[nd])[ns.length]?=some nd:=by rw[List.getElem?_append_right (Nat.le_refl _)];simp
theorem jT{gT:Value->ej->Prop}(h:dH gT ns .cW):ns.length≠0:=by have:=h.lt;simp only[aM.ix]at this;omega
set_option maxHeartbeats 2000000 in
theorem G9(n:Nat)(hC:gU n)(B P:Nat)(text:ByteArray)(at_:Nat)(ns:List (Nd Value))(w:World)(hP:Pre B P text at_ ns w)(hn:(rest text at_).length<=n):
  Calls Tryz.prog 193 #[.pointer (some ⟨P,0,none⟩)] w (fX cU 1 B P text at_ ns w):=by
 have HP:=aa hP;have HN:=aa hn;clear hP hn;go_enter Tryz.func193,Tryz.ntmps193;go_wp2_with fail;refine (tz n hC B P text at_ ns w HP.out HN.out).mono ?_;rintro e w1 ⟨fH,⟨a,jQ,ms,rfl,iA,mC,rV,hb1⟩|⟨i,rfl,iA⟩⟩
 ·have jR:=aa fH;have Fz:=aa iA;have gp:=aa mC;have ez:=aa rV;have br:=aa hb1;have U2:=aa ((HP.out.cW.append (ms:=ms)).world fH.stay);have uP:=aa (show (ns++ms).length+3*(rest text jQ).length+1<=200 by have:=HP.out.bound;simp only[List.length_append];omega);clear fH iA mC rV hb1;go_wp2_with fail;refine (ia 42 B P text jQ (ns++ms) w1 gp.out).mono ?_
  rintro e w2 ⟨r,pG,rfl,iz,hF2,⟨rfl,h2⟩|⟨rfl,SU,h2⟩⟩
  ·have lW:=aa iz;have et:=aa hF2;have H2:=aa h2;clear iz hF2 h2;go_wp2_with fail;refine (eh B P text pG (ns++ms) 4 a.ix 0 .nilFunc true false w2 lW.out (by have:=uP.out;omega) (.inr (.inl ⟨.inl rfl,rfl⟩)) (.inl rfl)).mono ?_;rintro e w3 ⟨rfl,jD,dp⟩;have pF:=aa jD;have gz:=aa dp;clear jD dp;go_wp2_with fail;go_ret2;have hst:=et.out.stay.trans gz.out.stay
   refine ⟨(jR.out.trans et.out).trans gz.out,.inl ⟨.star (ns++ms).length a,pG,ms++[⟨4,.nilFunc,a.ix,0,true⟩],by simp[aM.ix],?_,?_,?_,?_⟩⟩
   ·exact .star (H2.out▸Fz.out)
   ·rw[<-List.append_assoc];exact pF.out
   ·rw[<-List.append_assoc];exact ⟨jT U2.out,⟨_,lZ _⟩,(ez.out.world hst).append⟩
   ·have h1:=br.out;rw[H2.out]at h1;simp only[List.length_append,List.length_cons,List.length_nil]at h1 ⊢;omega
  ·subst SU;have lW:=aa iz;have et:=aa hF2;have H2:=aa h2;clear iz hF2 h2;go_wp2_with fail;refine (ia 43 B P text pG (ns++ms) w2 lW.out).mono ?_;rintro e w3 ⟨r,Ai,rfl,jD,dp,⟨rfl,h3⟩|⟨rfl,aai,h3⟩⟩
   ·have pF:=aa jD;have gz:=aa dp;have H3:=aa h3;clear jD dp h3;go_wp2_with fail;refine (eh B P text Ai (ns++ms) 4 a.ix 0 .nilFunc true false w3 pF.out (by have:=uP.out;omega) (.inr (.inl ⟨.inl rfl,rfl⟩)) (.inl rfl)).mono ?_;rintro e w4 ⟨rfl,wG,lX⟩;have hst:=(et.out.stay.trans gz.out.stay).trans lX.stay
    have SV:=(ez.out.world hst).append (ms:=[⟨4,.nilFunc,a.ix,0,true⟩]);obtain ⟨x,hx,Rb⟩:=SV.empty;have U3:=aa (show K0 (ns++ms++[⟨4,.nilFunc,a.ix,0,true⟩]) 5 a.ix (ns++ms).length a.re.aj from .inr (.inr (.inl ⟨rfl,x,hx,Rb.symm⟩)));have Fv:=aa wG;have mD:=aa lX;have HRa:=aa SV;clear wG lX hst SV hx Rb
    obtain ⟨j,hj⟩:∃j,j=(ns++ms).length:=⟨_,rfl⟩;rw[<-hj]at U3 ⊢;have HJ:=aa hj;clear hj;go_wp2_with fail;refine (eh B P text Ai (ns++ms++[⟨4,.nilFunc,a.ix,0,true⟩]) 5 a.ix j .nilFunc a.re.aj false w4 Fv.out (by have:=uP.out;simp only[List.length_append,List.length_cons,List.length_nil]at this ⊢;omega) U3.out (.inl rfl)).mono ?_;rintro e w5 ⟨rfl,Q8,Ak⟩
    have Wi:=aa Q8;have Kk:=aa Ak;clear Q8 Ak;go_wp2_with fail;go_ret2;have zv:=HJ.out;refine ⟨(((jR.out.trans et.out).trans gz.out).trans mD.out).trans Kk.out,.inl ⟨.plus (ns++ms++([⟨4,.nilFunc,a.ix,0,true⟩]:List (Nd Value))).length j a,Ai,ms++[⟨4,.nilFunc,a.ix,0,true⟩]++[⟨5,.nilFunc,a.ix,j,a.re.aj⟩],by simp[aM.ix],?_,?_,?_,?_⟩⟩
    ·exact .plus (H3.out▸Fz.out)
    ·rw[<-List.append_assoc,<-List.append_assoc];exact Wi.out
    ·rw[<-List.append_assoc,<-List.append_assoc];refine ⟨by simp,by rw[zv];exact jT U2.out,⟨_,lZ _⟩,⟨.nilFunc,?_⟩,(HRa.out.world Kk.out.stay).append⟩;rw[zv,List.getElem?_append_left (by simp)];exact lZ _
    ·have h1:=br.out;rw[H3.out]at h1;simp only[List.length_append,List.length_cons,List.length_nil]at h1 ⊢;omega
   ·subst aai;have pF:=aa jD;have gz:=aa dp;have H3:=aa h3;clear jD dp h3;go_wp2_with fail;refine (ia 63 B P text Ai (ns++ms) w3 pF.out).mono ?_;rintro e w4 ⟨r,Q6,rfl,wG,lX,⟨rfl,h4⟩|⟨rfl,aaj,h4⟩⟩
    ·have Fv:=aa wG;have mD:=aa lX;have H4:=aa h4;clear wG lX h4;go_wp2_with fail;refine (eh B P text Q6 (ns++ms) 6 a.ix 0 .nilFunc true false w4 Fv.out (by have:=uP.out;omega) (.inr (.inl ⟨.inr rfl,rfl⟩)) (.inl rfl)).mono ?_;rintro e w5 ⟨rfl,Q8,Ak⟩;have Wi:=aa Q8;have Kk:=aa Ak;clear Q8 Ak;go_wp2_with fail;go_ret2
     have hst:=((et.out.stay.trans gz.out.stay).trans mD.out.stay).trans Kk.out.stay;refine ⟨(((jR.out.trans et.out).trans gz.out).trans mD.out).trans Kk.out,.inl ⟨.eG (ns++ms).length a,Q6,ms++[⟨6,.nilFunc,a.ix,0,true⟩],by simp[aM.ix],?_,?_,?_,?_⟩⟩
     ·exact .eG (H4.out▸Fz.out)
     ·rw[<-List.append_assoc];exact Wi.out
     ·rw[<-List.append_assoc];exact ⟨jT U2.out,⟨_,lZ _⟩,(ez.out.world hst).append⟩
     ·have h1:=br.out;rw[H4.out]at h1;simp only[List.length_append,List.length_cons,List.length_nil]at h1 ⊢;omega
    ·subst aaj;have Fv:=aa wG;have mD:=aa lX;have H4:=aa h4;clear wG lX h4;go_wp2_with fail;go_ret2;have hst:=(et.out.stay.trans gz.out.stay).trans mD.out.stay;exact ⟨((jR.out.trans et.out).trans gz.out).trans mD.out,.inl ⟨a,Q6,ms,by simp,.plain Fz.out H2.out H3.out H4.out,Fv.out,ez.out.world hst,br.out⟩⟩
 ·have jR:=aa fH;have Fz:=aa iA;clear fH iA;go_wp2_with fail;go_ret2;exact ⟨jR.out,.inr ⟨0,by simp,.bad Fz.out⟩⟩
end Go.Proofs.YtgncgdkpkkdaeaaGreatDoor
