import Derived.Test.YtgncgdkpkkdaeaaGreatDoorMB
import Derived.Deep.RegionWith
namespace Go.Proofs.YtgncgdkpkkdaeaaGreatDoor
open Go.RowKit aO
variable {text:ByteArray} {c:eC} {ns:List (Nd Value)} {xs:List Nat} {B P at_:Nat} {sv v:Value} {W w w' w1:World}
theorem s9{P:Program}{ops:Array Oper}{o:Oper}{a:Act}{K:Act->World->Prop}{Q:Exit->Act->World->Prop}{E:Prop}
  (hg:o.guard=none) (s x:Operand) (t:TypeId) (hop:o.op=Op.call { callee:=Callee.builtin Builtin.append,args:=#[s,x],argTypes:=#[t,t] })
  (base:Nat) (e:TypeId) (i:TypeInfo) (z:Value) (size bytes:Nat) (h1:P.underlying t=some (.slice e)) (h2:P.info? e=some i) (h3:i.zero=some z) (h4:i.size=size) (h5:i.bytes=bytes) (h6:z.cells.size=size) (h7:0<size)
  (v:Value) (n:Nat) (xs:List Value) (hs:a.eval s=v) (hown:w.ownsRow base e size v n xs)
  (ad:Addr) (m c:Nat) (news:List Value) (hx:a.eval x=.slice (some ad) m c) (hn:news.length=m*size) (hc:∀j u,news[j]?=some u->w.cell? (ad.add j)=some u) (h1c:∀u∈news,u.oneCell'=true)
  (b1:n+m<=maxLen) (b2:(n+m)*bytes<=140737488355328) (hb:base<=w.heap.size)
  (hK:∀v' w',w'.ownsRow base e size v' (n+m) (xs++news)->w.grownBy w' v.ownBlock->K (a.put o.dst v') w'):
  if Region.wanted o (yielded ops a.tmps)=true then Oper.wp P o a w K Q else E:=by
 have hw:Region.wanted o (yielded ops a.tmps)=true:=by simp[Region.wanted,hg]
 rw[if_pos hw];exact wp_append_own w s x t hop base e i z size bytes h1 h2 h3 h4 h5 h6 h7 v n xs hs hown ad m c news hx hn hc h1c b1 b2 hb λv' w' r1 r2 _=>hK v' w' r1 r2
theorem bj.alloc(h:bj w B sv ns)(o:Obj):bj (w.alloc o) B sv ns:=
 h.keep λ_ hk=>Below.heap_alloc _ _ _ (ae (h.block hk).2.choose_spec)
theorem qO:(Tryz.prog.info? 292).map (λi=>(i.zero,i.size,i.bytes))=some (some (.agg #[.int .i64 0,.nilFunc,.int .i64 0,.int .i64 0,.bool false]),5,40):=by kernel_rfl
theorem SX(hb:Below W.heap.size W w1):(∀b o,b<W.heap.size->w1.cell? ⟨b,o,none⟩=W.cell? ⟨b,o,none⟩)/\(∀b o,b<W.heap.size->w1.frozen? ⟨b,o,none⟩=W.frozen? ⟨b,o,none⟩):=
 ⟨λb o h=>hb.cell (p:=⟨b,o,none⟩) h,λb o h=>hb.frozen (p:=⟨b,o,none⟩) h⟩
theorem add_mid{k l r:Nat}{h:Value}{b em:Bool}(hP:fI w B P text at_ ns)
  (hb1:Below (w.alloc (.cells #[.int .i64 k,h,.int .i64 l,.int .i64 r,.bool em] 292)).drew.heap.size (w.alloc (.cells #[.int .i64 k,h,.int .i64 l,.int .i64 r,.bool em] 292)).drew w1):
  fI (w1.setCell ⟨w.heap.size,4,none⟩ (.bool b)) B P text at_ ns/\dX B w (w1.setCell ⟨w.heap.size,4,none⟩ (.bool b)) /\
   (w1.setCell ⟨w.heap.size,4,none⟩ (.bool b)).heap[w.heap.size]?=some (.cells #[.int .i64 k,h,.int .i64 l,.int .i64 r,.bool b] 292 (0,0))/\w.heap.size<(w1.setCell ⟨w.heap.size,4,none⟩ (.bool b)).heap.size:=by
 have hsz:w.heap.size+1<=w1.heap.size:=by have:=hb1.size;simpa using this
 have hold:∀j,j<w.heap.size->w1.heap[j]?=w.heap[j]?:=λj hj=>by rw[hb1.block j (by simp;omega)];exact Below.heap_alloc _ _ _ hj
 have eW:w1.heap[w.heap.size]?=some (.cells #[.int .i64 k,h,.int .i64 l,.int .i64 r,.bool em] 292 (0,0)):=by rw[hb1.block _ (by simp)];exact af _ _
 have hF:dX B w w1:=(dX.refl B w).alloc _ |>.drew.trans (dX.au hb1)
 refine ⟨hP.keep λj hj=>?_,hF.lI (Nat.le_refl _) _,?_,?_⟩
 ·rw[Below.heap_setCell _ _ _ _ (by show j≠w.heap.size;omega)];exact hold j hj
 ·exact heap_setCell_same w1 w.heap.size 4 _ eW
 ·simp[World.setCell];omega
theorem az{base:Nat}{e:TypeId}{size:Nat}{n:Nat}{xs:List Value}(h:w.ownsRow base e size v n xs)(hn:0<n):
  ∃g cap,v=.slice (some ⟨g,0,none⟩) n cap:=by
 rcases h.2 with ⟨_,h0⟩|⟨g,cap,_,hv,_⟩
 ·omega
 ·exact ⟨g,cap,hv⟩
theorem aD(W:World)(c:Array Value)(t:TypeId):∀j u,c.toList[j]?=some u->(W.alloc (.cells c t)).cell? ((⟨W.heap.size,0,none⟩:Addr).add j)=some u:=by intro j u h;rw[Addr.add_lit,Nat.zero_add];have hh:=af W (.cells c t);simp only[World.cell?,hh];simpa using h
theorem dX.grown(hL:bj W B sv ns)(hg:W.grownBy w' sv.ownBlock):dX B W w':=
 ⟨hg.os,hg.tape,hg.output,hg.size,λk hk hn=>hg.block k hk (λe=>hn ⟨(hL.block e.symm).1,_,_,_,(hL.block e.symm).2.choose_spec,.inr rfl⟩)⟩
theorem I4{w3:World}{v':Value}{nd:Nd Value}{c:Array Value}{t:TypeId}(mL:Form nd.has)
  (h1:W.heap[P]?=some (.cells #[.string text,.int .i64 at_,sv] 257 (0,0))) (hL:bj W B sv ns) (hle:at_<=text.size) (hs:text.size<=60) (hB:B<=P)
  (hown:w3.ownsRow B 292 5 v' (ns.length+1) (bK ns++fe nd)) (hg:(W.alloc (.cells c t)).drew.grownBy w3 sv.ownBlock):
  w3.heap[P]?=some (.cells #[.string text,.int .i64 at_,sv] 257 (0,0)) /\
   fI (w3.setCell ⟨P,2,none⟩ v') B P text at_ (ns++[nd])/\dX B W (w3.setCell ⟨P,2,none⟩ v'):=by
 have hPl:=ae h1;have hne:some P≠sv.ownBlock:=λe=>by obtain ⟨_,cur,hc⟩:=hL.block e.symm;rw[h1]at hc;simp at hc
 have h3:w3.heap[P]?=some (.cells #[.string text,.int .i64 at_,sv] 257 (0,0)):=by rw[hg.block P (by simp;omega) hne];exact heap_alloc_old h1
 have hF:dX B W w3:=((dX.refl B W).alloc _).drew.trans (dX.grown (hL.alloc _) hg)
 have hL3:bj w3 B v' (ns++[nd]):=by
  refine ⟨?_,λd hd=>?_⟩
  ·rw[lH];simpa [bK] using hown
  ·rcases List.mem_append.1 hd with h|h
   ·exact hL.2 d h
   ·simp only[List.mem_singleton]at h;rw[h];exact mL
 refine ⟨h3,⟨⟨v',?_,?_⟩,hle,hs,hB⟩,hF.setCell ⟨hB,_,_,_,h3,.inl rfl⟩ _⟩
 ·exact heap_setCell_same w3 P 2 _ h3
 ·refine hL3.keep λk hk=>Below.heap_setCell _ _ _ _ ?_
  obtain ⟨_,cur,hc⟩:=hL3.block hk;rintro rfl;rw[h3]at hc;simp at hc
set_option maxHeartbeats 1000000 in
theorem eA(B P:Nat)(text:ByteArray)(at_:Nat)(ns:List (Nd Value))(k l r:Nat)(h:Value)(b em:Bool)(w:World)(hP:fI w B P text at_ ns)(hn:ns.length<=1000)(hE:Mn ns k l r b)(mL:Form h):
  Calls Tryz.prog 172 #[.pointer (some ⟨P,0,none⟩),.agg #[.int .i64 k,h,.int .i64 l,.int .i64 r,.bool em]] w λe w'=>
   e=.returned (.int .i64 ns.length)/\fI w' B P text at_ (ns++[⟨k,h,l,r,b⟩])/\dX B w w':=by
 have HP:=aa hP;obtain ⟨⟨sv,h1,h2⟩,hle,hs,hB⟩:=hP;obtain ⟨i0,hi,hz0,hz1,hz3⟩:=info_parts qO;have hPl:=ae h1;have HE:=aa hE
 have HO:Hid (∀u∈[Value.int .i64 k,h,.int .i64 l,.int .i64 r,.bool b],u.oneCell'=true):=by
  intro u hu;simp only[List.mem_cons,List.not_mem_nil,or_false]at hu;rcases hu with rfl|rfl|rfl|rfl|rfl
  ·rfl
  ·exact mL.one
  ·rfl
  ·rfl
  ·rfl
 have HL:=aa h2;have c2:w.cell? ⟨P,2,none⟩=some sv:=by simp[World.cell?,h1]
 have c2':=ar c2;have ld:=aa (HL.out.alloc (.cells #[.int .i64 k,h,.int .i64 l,.int .i64 r,.bool em] 292));clear h1 h2 hE;go_enter Tryz.func172,Tryz.ntmps172;go_wp2_with fail
 go_region_with (go_at_call 195;refine (jG B sv ns k l r h em b _ (by exact ld.out) HE.out).mono ?_;rintro e w1 ⟨rfl,hb1⟩;obtain ⟨hc1,hf1⟩:=SX hb1)
 all_goals
  obtain ⟨iU,hF2,DK,hz2⟩:=add_mid (b:=b) HP.out hb1;have mJ:=aa iU;have eG:=aa hF2;have HX:=aa DK;clear iU hc1 hf1 hb1 c2 c2' HL ld;obtain ⟨W2,hW2⟩:∃W,W=w1.setCell ⟨w.heap.size,4,none⟩ (.bool b):=⟨_,rfl⟩;rw[<-hW2]at DK hz2 mJ eG hF2 HX ⊢;clear hW2;obtain ⟨⟨Yh,h1,h2⟩,-,-,-⟩:=mJ.out;have ld:=aa h2
  have d2:W2.cell? ⟨P,2,none⟩=some Yh:=by simp[World.cell?,h1]
  have d2':=ar d2;have f2:W2.frozen? ⟨P,2,none⟩=false:=by simp[World.frozen?,h1]
  have e0:W2.cell? ⟨w.heap.size,0,none⟩=some (.int .i64 k):=by simp[World.cell?,DK]
  have e1:W2.cell? ⟨w.heap.size,1,none⟩=some h:=by simp[World.cell?,DK]
  have e2:W2.cell? ⟨w.heap.size,2,none⟩=some (.int .i64 l):=by simp[World.cell?,DK]
  have e3:W2.cell? ⟨w.heap.size,3,none⟩=some (.int .i64 r):=by simp[World.cell?,DK]
  have e4:W2.cell? ⟨w.heap.size,4,none⟩=some (.bool b):=by simp[World.cell?,DK]
  have H1:=aa h1;have uw:=aa (show B<=W2.heap.size+1 by have:=hF2.size;omega);clear h1 h2 DK hF2;go_wp2_with fail
  go_region_law (refine s9 rfl (.tmp 16) (.tmp 18) 182 rfl B 292 i0 (.agg #[.int .i64 0,.nilFunc,.int .i64 0,.int .i64 0,.bool false]) 5 40 Tryz.underlying182 hi hz0 hz1 hz3 rfl (by decide) Yh ns.length (bK ns) (by rfl) (by exact (ld.out.alloc _).1) ⟨W2.heap.size,0,none⟩ 1 1 [.int .i64 k,h,.int .i64 l,.int .i64 r,.bool b] (by rfl) (by rfl) (by exact aD W2 #[.int .i64 k,h,.int .i64 l,.int .i64 r,.bool b] _) HO.out (by unfold maxLen;omega) (by omega) (by simpa using uw.out) ?_;intro v' w3 hown hg;obtain ⟨g,cap,rfl⟩:=az hown (by omega);obtain ⟨BF,jZ,dB⟩:=I4 (nd:=⟨k,h,l,r,b⟩) mL H1.out ld.out hle hs hB hown hg;have g2:w3.cell? ⟨P,2,none⟩=some Yh:=(by simp[World.cell?,BF]);have gf:w3.frozen? ⟨P,2,none⟩=false:=(by simp[World.frozen?,BF]);clear hown hg BF;have qx:=aa jZ;have gN:=aa dB;clear jZ dB)
  all_goals
   go_wp2;go_ret;exact ⟨by simp,qx.out,eG.out.trans gN.out⟩
theorem _root_.aO.dR.world(h:bH w w'){a:aN}(hr:dR (aF w) ns a):dR (aF w') ns a:=
 hr.mono (λ_ _ hc=>hc.stay h) (λ_ _ hn=>hn)
def Ints(w:World)(B:Nat)(v:Value)(xs:List Nat):Prop:=w.ownsRow B 3 1 v xs.length (xs.map λx:Nat=>Value.int .i64 (x:Int))
theorem Ints.keep(h:Ints w B v xs)(hk:∀(k:Nat) c,w.heap[k]?=some (.cells c 3 (0,0))->w'.heap[k]?=some (.cells c 3 (0,0))):Ints w' B v xs:=by
 obtain ⟨h1,h2⟩:=h;refine ⟨h1,?_⟩;rcases h2 with h2|⟨g,cap,cur,hv,hg,hh,r⟩
 ·exact .inl h2
 ·exact .inr ⟨g,cap,cur,hv,hg,hk _ _ hh,r⟩
theorem Ints.pfr{B':Nat}(h:Ints w B v xs)(hF:dX B' w w'):Ints w' B v xs:=
 h.keep λ_ _ hh=>hF.other hh (by decide) (by decide)
theorem Ints.at(h:Ints w B v xs){i x:Nat}(hi:xs[i]?=some x):
  ∃g cap,v=.slice (some ⟨g,0,none⟩) xs.length cap/\w.cell? ⟨g,i,none⟩=some (.int .i64 x):=by
 have hlt:=aw hi;obtain ⟨h1,h2⟩:=h;rcases h2 with ⟨rfl,h0⟩|⟨g,cap,cur,rfl,hg,hh,hn,hc,hs,ht⟩
 ·omega
 ·refine ⟨g,cap,rfl,?_⟩;have e:(xs.map λx:Nat=>Value.int .i64 (x:Int))[i]?=some (.int .i64 x):=by simp[hi]
  rw[<-ht,List.getElem?_take_of_lt (by omega)]at e;simpa [World.cell?,hh] using e
def Qx(B P:Nat)(text:ByteArray)(at_:Nat)(ns:List (Nd Value))(ps:List aN)(w:World)(m:Nat)(whole i:Value)(wr:World):Prop:=
 dX B w wr/\m+1<=ps.length/\i=.int .i64 ((m:Int) - 1)/\∃(a:aN) (ms:List (Nd Value)),whole=.int .i64 a.ix/\a.re=bu ((ps.drop m).map aN.re) /\
  fI wr B P text at_ (ns++ms)/\dR (aF wr) (ns++ms) a/\ms.length+m+1=ps.length
def zl(B P:Nat)(text:ByteArray)(at_:Nat)(ns:List (Nd Value))(ps:List aN)(w:World)(e:Ending)(w':World):Prop:=
 dX B w w'/\∃(a:aN) (ms:List (Nd Value)),e=.returned (.int .i64 a.ix)/\a.re=bu (ps.map aN.re) /\
  fI w' B P text at_ (ns++ms)/\dR (aF w') (ns++ms) a/\ms.length<=ps.length - 1
theorem Ev{r:Re}{rs:List Re}(h:rs≠[]):bu (r::rs)=.seq r (bu rs):=by
 cases rs with
 | nil=>exact absurd rfl h
 | cons b l=>rfl
set_option maxHeartbeats 1000000 in
theorem ux(B B2 P:Nat)(text:ByteArray)(at_:Nat)(ns:List (Nd Value))(ps:List aN)(pv:Value)(w:World)(hP:fI w B P text at_ ns)(hn:ns.length+ps.length<=900)
  (hI:Ints w B2 pv (ps.map aN.ix)) (hA:∀a∈ps,dR (aF w) ns a) (h0:dR (aF w) ns .dh):
  Calls Tryz.prog 194 #[.pointer (some ⟨P,0,none⟩),pv] w (zl B P text at_ ns ps w):=by
 have HP:=aa hP;have HI:=aa hI;have HA:=aa hA;clear hP hI hA;by_cases hz:ps.length=0
 ·obtain rfl:ps=[]:=List.eq_nil_of_length_eq_zero hz
  have hl:∃ao cap,pv=.slice ao 0 cap:=by
   rcases HI.out.2 with ⟨rfl,_⟩|⟨g,cap,_,rfl,_⟩
   ·exact ⟨_,_,rfl⟩
   ·exact ⟨_,_,rfl⟩
  obtain ⟨ao,cap,rfl⟩:=hl;have H0:=aa h0;clear h0;go_enter Tryz.func194,Tryz.ntmps194;go_wp2;go_ret;exact ⟨dX.refl _ _,.dh,[],rfl,rfl,by simpa using HP.out,by simpa using H0.out,by simp⟩
 ·obtain ⟨n,hlen⟩:∃n,ps.length=n+1:=⟨ps.length - 1,by omega⟩;obtain ⟨la,SY⟩:∃a,ps[n]?=some a:=⟨ps[n],List.getElem?_eq_getElem (by omega)⟩;obtain ⟨g,cap,rfl,hc⟩:=HI.out.at (i:=n) (x:=la.ix) (by simp[SY]);rw[List.length_map,hlen]at HI ⊢;have uy:=aa SY;have HLEN:=aa hlen;have HN:=aa hn;have pF:n<=900:=by omega
  have hz1:((n:Int)+1==0)=false:=by rw[beq_eq_false_iff_ne];omega
  clear SY hlen hz hn h0;go_enter Tryz.func194,Tryz.ntmps194;go_wp2_with fail;go_loopg [5,6] n (λm whole i wr=>Qx B P text at_ ns ps w m whole i wr)
  case atStart=>
   refine ⟨dX.refl _ _,by rw[HLEN.out];omega,by go_num,la,[],rfl,?_,by simpa using HP.out,?_,by simp[HLEN.out]⟩
   ·have:=HLEN.out;rw[List.drop_eq_getElem_cons (by omega),List.drop_of_length_le (by omega)];rw[List.getElem?_eq_getElem (by omega)]at uy;have:=Option.some.inj uy.out;simp[this,bu]
   ·simpa using HA.out la (List.mem_of_getElem? uy.out)
  case round=>
   obtain ⟨hF,hm,rfl,a,ms,rfl,Qy,iU,hR,hms⟩:=hrel
   cases gk with
   | zero=>
    have HF:=aa hF;have Yi:=aa Qy;have mJ:=aa iU;have HR:=aa hR;have BG:=aa hms;clear hF Qy iU hR hms;go_wp2_with fail;go_ret;refine ⟨HF.out,a,ms,by simp,?_,mJ.out,HR.out,?_⟩
    ·simpa using Yi.out
    ·have:=BG.out;omega
   | succ j=>
    obtain ⟨pa,pG⟩:∃a,ps[j]?=some a:=⟨ps[j],List.getElem?_eq_getElem (by omega)⟩;have kN:=HI.out.pfr hF;obtain ⟨g',cap',e',SG⟩:=kN.at (i:=j) (x:=pa.ix) (by simp[pG]);simp only[Value.slice.injEq,Option.some.injEq,Addr.mk.injEq]at e';obtain ⟨⟨rfl,-⟩,-,rfl⟩:=e';have Pw:j<n+1:=by have:=HLEN.out;omega
    have GP:dR (aF wr) (ns++ms) pa:=((HA.out pa (List.mem_of_getElem? pG)).world hF.stay).append;obtain ⟨x,hx,SZ⟩:=GP.empty;obtain ⟨y,hy,S0⟩:=hR.empty;have hE:Mn (ns++ms) 2 pa.ix a.ix (pa.re.aq&&a.re.aq):=.inr (.inr (.inr (.inl ⟨rfl,x,y,hx,hy,by rw[SZ,S0]⟩)));have HF:=aa hF;have Yi:=aa Qy;have mJ:=aa iU;have HR:=aa hR;have BG:=aa hms
    have HE:=aa hE;have Ur:=aa GP;have rS:=aa pG;have S1:(ns++ms).length<=1000:=by have:=HN.out;simp;omega
    have Qn:=aa S1;clear hF Qy iU hR hms hE GP pG hx hy SZ S0 kN S1;go_wp2_with fail;refine (eA B P text at_ (ns++ms) 2 pa.ix a.ix .nilFunc (pa.re.aq&&a.re.aq) false wr mJ.out Qn.out HE.out (.inl rfl)).mono ?_;rintro e w2 ⟨rfl,jZ,dB⟩;have qx:=aa jZ;have gN:=aa dB;clear jZ dB;go_wp2_with fail;go_roundg j
    case measure=>omega
    case rel=>
     have hst:=gN.out.stay;refine ⟨HF.out.trans gN.out,by omega,by go_num,.seq (ns++ms).length pa a,ms++[⟨2,.nilFunc,pa.ix,a.ix,pa.re.aq&&a.re.aq⟩],by simp[aN.ix],?_,?_,?_,?_⟩
     ·have hl:=HLEN.out;have e1:ps.drop j=pa::ps.drop (j+1):=by have h1:=rS.out;rw[List.getElem?_eq_getElem (by omega)]at h1;rw[List.drop_eq_getElem_cons (by omega),Option.some.inj h1]
      rw[e1,List.map_cons,Ev,<-Yi.out]
      ·rfl
      ·intro h0;have:=congrArg List.length h0;simp at this;omega
     ·rw[<-List.append_assoc];exact qx.out
     ·rw[<-List.append_assoc];refine ⟨?_,⟨.nilFunc,?_⟩,(Ur.out.world hst).append,(HR.out.world hst).append⟩
      ·have:=Ur.out.lt;omega
      ·rw[List.getElem?_append_right (Nat.le_refl _)];simp
     ·have:=BG.out;simp;omega
def gw(PX:List UInt8->Option (Re×List UInt8)->Prop)(d:Nat)(B P:Nat)(text:ByteArray)(at_:Nat)(ns:List (Nd Value))(w:World)(e:Ending)(w':World):Prop:=
 dX B w w'/\((∃(a:aN) (at':Nat) (ms:List (Nd Value)),e=.returned (.tuple #[.int .i64 a.ix,.bool true])/\PX (rest text at_) (some (a.re,rest text at')) /\
   fI w' B P text at' (ns++ms)/\dR (aF w') (ns++ms) a/\ms.length+3*(rest text at').length+d<=3*(rest text at_).length) ∨
  (∃i:Nat,e=.returned (.tuple #[.int .i64 i,.bool false])/\PX (rest text at_) none))
structure Pre(B P:Nat)(text:ByteArray)(at_:Nat)(ns:List (Nd Value))(w:World):Prop where
 Yj:fI w B P text at_ ns
 dh:dR (aF w) ns .dh
 bound:ns.length+3*(rest text at_).length<=200
def iq(n:Nat):Prop:=∀B P text at_ ns w,Pre B P text at_ ns w->(rest text at_).length<n ->
 Calls Tryz.prog 139 #[.pointer (some ⟨P,0,none⟩)] w (gw bh 0 B P text at_ ns w)
theorem Mn.one(ns:List (Nd Value)):Mn ns 1 0 0 false:=.inl ⟨rfl,rfl⟩
theorem aF.one(h:aF w v c):Form v:=.inr h.shape
theorem uz(h0:dR (aF w) ns .dh)(hc:aF w v c):dR (aF w) (ns++[⟨1,v,0,0,false⟩]) (.cY ns.length c):=by
 refine ⟨?_,v,?_,hc⟩
 ·have:=h0.lt;simp only[aN.ix]at this;omega
 ·rw[List.getElem?_append_right (Nat.le_refl _)];simp
-- ( ALT )
set_option maxHeartbeats 1000000 in
theorem Ew(n:Nat)(hC:iq n)(s:List UInt8)(B P:Nat)(text:ByteArray)(at_:Nat)(ns:List (Nd Value))(w:World)(hP:Pre B P text at_ ns w)(hr:rest text at_=40::s)(hn:(rest text at_).length<=n):
  Calls Tryz.prog 206 #[.pointer (some ⟨P,0,none⟩)] w (gw aT 1 B P text at_ ns w):=by
 have HP:=aa hP;have HR:=aa hr;have HN:=aa hn;clear hP hr hn;go_enter Tryz.func206,Tryz.ntmps206;go_wp2_with fail;refine (gF 40 s B P text at_ ns w HP.out.Yj HR.out).mono ?_;rintro e w1 ⟨rfl,nu,fT,hr1⟩;have hlen:(rest text (at_+1)).length+1=(rest text at_).length:=by rw[hr1,HR.out];rfl
 have qC:Pre B P text (at_+1) ns w1:=⟨nu,HP.out.dh.world fT.stay,by have:=HP.out.bound;omega⟩;have Mp:=aa qC;have kp:=aa fT;have eK:=aa hr1;have I5:=aa hlen;clear nu fT hr1 qC hlen;go_wp2_with fail;refine (hC B P text (at_+1) ns w1 Mp.out (by have:=I5.out;have:=HN.out;omega)).mono ?_;rintro e w2 ⟨hF2,⟨a,qy,ms,rfl,qB,iU,xN,hb2⟩|⟨i,rfl,qB⟩⟩
 ·have eG:=aa hF2;have DL:=aa qB;have mJ:=aa iU;have lF:=aa xN;have cL:=aa hb2;clear hF2 qB iU xN hb2;go_wp2_with fail;refine (iz 41 B P text qy (ns++ms) w2 mJ.out).mono ?_;rintro e w3 ⟨r,BA,rfl,jZ,dB,⟨rfl,h3⟩|⟨rfl,-,h3⟩⟩
  ·have qx:=aa jZ;have gN:=aa dB;have H3:=aa h3;clear jZ dB h3;go_wp2_with fail;go_ret2;refine ⟨(kp.out.trans eG.out).trans gN.out,.inl ⟨a,BA,ms,by simp,?_,qx.out,lF.out.world gN.out.stay,?_⟩⟩
   ·rw[HR.out];refine .paren ?_;rw[<-H3.out,<-eK.out];exact DL.out
   ·have h1:=cL.out;have h2:=I5.out;rw[H3.out,List.length_cons]at h1;omega
  ·have gN:=aa dB;have H3:=aa h3;clear jZ dB h3;go_wp2_with fail;go_ret2;refine ⟨(kp.out.trans eG.out).trans gN.out,.inr ⟨a.ix,by simp,?_⟩⟩;rw[HR.out];exact .fu (r:=a.re) (by rw[<-eK.out];exact DL.out) H3.out
 ·have eG:=aa hF2;have DL:=aa qB;clear hF2 qB;go_wp2_with fail;go_ret2;refine ⟨kp.out.trans eG.out,.inr ⟨i,by simp,?_⟩⟩;rw[HR.out];refine .fH ?_;rw[<-eK.out];exact DL.out
-- any byte
set_option maxHeartbeats 1000000 in
theorem Mq(s:List UInt8)(B P:Nat)(text:ByteArray)(at_:Nat)(ns:List (Nd Value))(w:World)(hP:Pre B P text at_ ns w)(hr:rest text at_=46::s):
  Calls Tryz.prog 206 #[.pointer (some ⟨P,0,none⟩)] w (gw aT 1 B P text at_ ns w):=by
 have HP:=aa hP;have HR:=aa hr;clear hP hr;go_enter Tryz.func206,Tryz.ntmps206;go_wp2_with fail;refine (dT 40 B P text at_ ns w HP.out.Yj (by rw[HR.out];simp)).mono ?_;rintro e w0 ⟨rfl,Ml,zm⟩;have Yk:=aa Ml;have Us:=aa zm;clear Ml zm;go_wp2_with fail;refine (gF 46 s B P text at_ ns w0 Yk.out HR.out).mono ?_
 rintro e w1 ⟨rfl,nu,fT,hr1⟩;have gH:=aa nu;have kp:=aa fT;have eK:=aa hr1;clear nu fT hr1;go_wp2_with fail;refine (eA B P text (at_+1) ns 1 0 0 (.func (.func 209) #[] #[]) false false w1 gH.out (by have:=HP.out.bound;omega) (Mn.one ns) (.inr ⟨_,_,rfl⟩)).mono ?_;rintro e w2 ⟨rfl,iU,hF2⟩;have mJ:=aa iU;have eG:=aa hF2;clear iU hF2
 go_wp2_with fail;go_ret2;have hF:=(Us.out.trans kp.out).trans eG.out;refine ⟨hF,.inl ⟨.cY ns.length .any,at_+1,_,by simp[aN.ix],?_,mJ.out,uz (HP.out.dh.world hF.stay) rfl,?_⟩⟩
 ·rw[HR.out,eK.out];exact .dot
 ·rw[HR.out,eK.out];simp;omega
-- [ .. ]
set_option maxHeartbeats 1000000 in
theorem Ex(s:List UInt8)(B P:Nat)(text:ByteArray)(at_:Nat)(ns:List (Nd Value))(w:World)(hP:Pre B P text at_ ns w)(hr:rest text at_=91::s):
  Calls Tryz.prog 206 #[.pointer (some ⟨P,0,none⟩)] w (gw aT 1 B P text at_ ns w):=by
 have HP:=aa hP;have HR:=aa hr;clear hP hr;go_enter Tryz.func206,Tryz.ntmps206;go_wp2_with fail;refine (dT 40 B P text at_ ns w HP.out.Yj (by rw[HR.out];simp)).mono ?_;rintro e w0 ⟨rfl,Ml,zm⟩;have Yk:=aa Ml;have Us:=aa zm;clear Ml zm;go_wp2_with fail;refine (dT 46 B P text at_ ns w0 Yk.out (by rw[HR.out];simp)).mono ?_
 rintro e w00 ⟨rfl,Mr,Ms⟩;have Ut:=aa Mr;have Uu:=aa Ms;clear Mr Ms;go_wp2_with fail;refine (gF 91 s B P text at_ ns w00 Ut.out HR.out).mono ?_;rintro e w1 ⟨rfl,nu,fT,hr1⟩;have gH:=aa nu;have kp:=aa fT;have eK:=aa hr1;clear nu fT hr1;go_wp2_with fail;refine (qL B P text (at_+1) ns w1 gH.out).mono ?_
 rintro e w2 ⟨hF2,v,qy,c,iU,hv,⟨hc,rfl⟩|⟨hc,rfl⟩⟩
 all_goals
  have mJ:=aa iU;have eG:=aa hF2;have HV:=aa hv;have HC:=aa hc;obtain ⟨gv,cv,rfl⟩:=hv.shape;clear iU hF2 hv hc;go_wp2_with fail;refine (eA B P text qy ns 1 0 0 (.func (.func gv) #[] cv) false false w2 mJ.out (by have:=HP.out.bound;omega) (Mn.one ns) HV.out.one).mono ?_;rintro e w3 ⟨rfl,jZ,dB⟩;have qx:=aa jZ;have gN:=aa dB;clear jZ dB;go_wp2_with fail;go_ret2
  have hF:=(((Us.out.trans Uu.out).trans kp.out).trans eG.out).trans gN.out
 ·refine ⟨hF,.inl ⟨.cY ns.length c,qy,_,by simp[aN.ix],?_,qx.out,uz (HP.out.dh.world hF.stay) (HV.out.stay gN.out.stay),?_⟩⟩
  ·rw[HR.out,<-eK.out];exact .cY HC.out
  ·have:=HC.out.len;have h2:=congrArg List.length eK.out;rw[HR.out];simp only[List.length_cons,List.length_nil];omega
 ·refine ⟨hF,.inr ⟨ns.length,by simp,?_⟩⟩;rw[HR.out,<-eK.out];exact .cY HC.out
-- ONE
set_option maxHeartbeats 1000000 in
theorem Mu(B P:Nat)(text:ByteArray)(at_:Nat)(ns:List (Nd Value))(w:World)(hP:Pre B P text at_ ns w)(h1:(rest text at_).head?≠some 40)(h2:(rest text at_).head?≠some 46)(h3:(rest text at_).head?≠some 91):
  Calls Tryz.prog 206 #[.pointer (some ⟨P,0,none⟩)] w (gw aT 1 B P text at_ ns w):=by
 have HP:=aa hP;have H1:=aa h1;have H2:=aa h2;have H3:=aa h3;clear hP h1 h2 h3;go_enter Tryz.func206,Tryz.ntmps206;go_wp2_with fail;refine (dT 40 B P text at_ ns w HP.out.Yj H1.out).mono ?_;rintro e w0 ⟨rfl,Ml,zm⟩;have Yk:=aa Ml;have Us:=aa zm;clear Ml zm;go_wp2_with fail
 refine (dT 46 B P text at_ ns w0 Yk.out H2.out).mono ?_;rintro e w00 ⟨rfl,Mr,Ms⟩;have Ut:=aa Mr;have Uu:=aa Ms;clear Mr Ms;go_wp2_with fail;refine (dT 91 B P text at_ ns w00 Ut.out H3.out).mono ?_;rintro e w1 ⟨rfl,nu,fT⟩;have gH:=aa nu;have kp:=aa fT;clear nu fT;go_wp2_with fail;refine (kn B P text at_ ns w1 gH.out).mono ?_
 rintro e w2 ⟨hF2,b,qy,iU,⟨hc,rfl⟩|⟨hc,rfl⟩⟩
 all_goals
  have mJ:=aa iU;have eG:=aa hF2;have HC:=aa hc;clear iU hF2 hc;go_wp2_with fail;refine (gG b b w2).mono ?_;rintro e w3 ⟨v,rfl,hv,gY⟩;have HV:=aa hv;have qx:=aa (mJ.out.below gY);have gN:=aa (dX.au (B:=B) gY);obtain ⟨gv,cv,rfl⟩:=hv.shape;clear hv gY;go_wp2_with fail
  refine (eA B P text qy ns 1 0 0 (.func (.func gv) #[] cv) false false w3 qx.out (by have:=HP.out.bound;omega) (Mn.one ns) HV.out.one).mono ?_;rintro e w4 ⟨rfl,xL,mK⟩;have GM:=aa xL;have nw:=aa mK;clear xL mK;go_wp2_with fail;go_ret2;have hF:=((((Us.out.trans Uu.out).trans kp.out).trans eG.out).trans gN.out).trans nw.out;have hat:=aT.one H1.out H2.out H3.out
  rw[HC.out]at hat
 ·refine ⟨hF,.inl ⟨.cY ns.length (.range b b),qy,_,by simp[aN.ix],hat,GM.out,uz (HP.out.dh.world hF.stay) (HV.out.stay nw.out.stay),?_⟩⟩;have:=pD HC.out;simp only[List.length_cons,List.length_nil];omega
 ·exact ⟨hF,.inr ⟨ns.length,by simp,hat⟩⟩
theorem uA(n:Nat)(hC:iq n)(B P:Nat)(text:ByteArray)(at_:Nat)(ns:List (Nd Value))(w:World)(hP:Pre B P text at_ ns w)(hn:(rest text at_).length<=n):
  Calls Tryz.prog 206 #[.pointer (some ⟨P,0,none⟩)] w (gw aT 1 B P text at_ ns w):=by
 by_cases h1:(rest text at_).head?=some 40
 ·obtain ⟨s,hs⟩:=head_cons h1;exact Ew n hC s B P text at_ ns w hP hs hn
 ·by_cases h2:(rest text at_).head?=some 46
  ·obtain ⟨s,hs⟩:=head_cons h2;exact Mq s B P text at_ ns w hP hs
  ·by_cases h3:(rest text at_).head?=some 91
   ·obtain ⟨s,hs⟩:=head_cons h3;exact Ex s B P text at_ ns w hP hs
   ·exact Mu B P text at_ ns w hP h1 h2 h3
theorem mN(nd:Nd Value):(ns++[nd])[ns.length]?=some nd:=by rw[List.getElem?_append_right (Nat.le_refl _)];simp
theorem kr{il:Value->eC->Prop}(h:dR il ns .dh):ns.length≠0:=by have:=h.lt;simp only[aN.ix]at this;omega
set_option maxHeartbeats 2000000 in
theorem I6(n:Nat)(hC:iq n)(B P:Nat)(text:ByteArray)(at_:Nat)(ns:List (Nd Value))(w:World)(hP:Pre B P text at_ ns w)(hn:(rest text at_).length<=n):
  Calls Tryz.prog 193 #[.pointer (some ⟨P,0,none⟩)] w (gw cT 1 B P text at_ ns w):=by
 have HP:=aa hP;have HN:=aa hn;clear hP hn;go_enter Tryz.func193,Tryz.ntmps193;go_wp2_with fail;refine (uA n hC B P text at_ ns w HP.out HN.out).mono ?_;rintro e w1 ⟨fT,⟨a,ko,ms,rfl,iV,nu,tF,hb1⟩|⟨i,rfl,iV⟩⟩
 ·have kp:=aa fT;have GQ:=aa iV;have gH:=aa nu;have eK:=aa tF;have bA:=aa hb1;have WK:=aa ((HP.out.dh.append (ms:=ms)).world fT.stay);have wE:=aa (show (ns++ms).length+3*(rest text ko).length+1<=200 by have:=HP.out.bound;simp only[List.length_append];omega);clear fT iV nu tF hb1;go_wp2_with fail;refine (iz 42 B P text ko (ns++ms) w1 gH.out).mono ?_
  rintro e w2 ⟨r,qy,rfl,iU,hF2,⟨rfl,h2⟩|⟨rfl,Uv,h2⟩⟩
  ·have mJ:=aa iU;have eG:=aa hF2;have H2:=aa h2;clear iU hF2 h2;go_wp2_with fail;refine (eA B P text qy (ns++ms) 4 a.ix 0 .nilFunc true false w2 mJ.out (by have:=wE.out;omega) (.inr (.inl ⟨.inl rfl,rfl⟩)) (.inl rfl)).mono ?_;rintro e w3 ⟨rfl,jZ,dB⟩;have qx:=aa jZ;have gN:=aa dB;clear jZ dB;go_wp2_with fail;go_ret2;have hst:=eG.out.stay.trans gN.out.stay
   refine ⟨(kp.out.trans eG.out).trans gN.out,.inl ⟨.star (ns++ms).length a,qy,ms++[⟨4,.nilFunc,a.ix,0,true⟩],by simp[aN.ix],?_,?_,?_,?_⟩⟩
   ·exact .star (H2.out▸GQ.out)
   ·rw[<-List.append_assoc];exact qx.out
   ·rw[<-List.append_assoc];exact ⟨kr WK.out,⟨_,mN _⟩,(eK.out.world hst).append⟩
   ·have h1:=bA.out;rw[H2.out]at h1;simp only[List.length_append,List.length_cons,List.length_nil]at h1 ⊢;omega
  ·subst Uv;have mJ:=aa iU;have eG:=aa hF2;have H2:=aa h2;clear iU hF2 h2;go_wp2_with fail;refine (iz 43 B P text qy (ns++ms) w2 mJ.out).mono ?_;rintro e w3 ⟨r,BA,rfl,jZ,dB,⟨rfl,h3⟩|⟨rfl,aba,h3⟩⟩
   ·have qx:=aa jZ;have gN:=aa dB;have H3:=aa h3;clear jZ dB h3;go_wp2_with fail;refine (eA B P text BA (ns++ms) 4 a.ix 0 .nilFunc true false w3 qx.out (by have:=wE.out;omega) (.inr (.inl ⟨.inl rfl,rfl⟩)) (.inl rfl)).mono ?_;rintro e w4 ⟨rfl,xL,mK⟩;have hst:=(eG.out.stay.trans gN.out.stay).trans mK.stay
    have Uw:=(eK.out.world hst).append (ms:=[⟨4,.nilFunc,a.ix,0,true⟩]);obtain ⟨x,hx,SZ⟩:=Uw.empty;have WL:=aa (show Mn (ns++ms++[⟨4,.nilFunc,a.ix,0,true⟩]) 5 a.ix (ns++ms).length a.re.aq from .inr (.inr (.inl ⟨rfl,x,hx,SZ.symm⟩)));have GM:=aa xL;have nw:=aa mK;have HRa:=aa Uw;clear xL mK hst Uw hx SZ
    obtain ⟨j,hj⟩:∃j,j=(ns++ms).length:=⟨_,rfl⟩;rw[<-hj]at WL ⊢;have HJ:=aa hj;clear hj;go_wp2_with fail;refine (eA B P text BA (ns++ms++[⟨4,.nilFunc,a.ix,0,true⟩]) 5 a.ix j .nilFunc a.re.aq false w4 GM.out (by have:=wE.out;simp only[List.length_append,List.length_cons,List.length_nil]at this ⊢;omega) WL.out (.inl rfl)).mono ?_;rintro e w5 ⟨rfl,SU,BC⟩
    have Yf:=aa SU;have LJ:=aa BC;clear SU BC;go_wp2_with fail;go_ret2;have AG:=HJ.out;refine ⟨(((kp.out.trans eG.out).trans gN.out).trans nw.out).trans LJ.out,.inl ⟨.plus (ns++ms++([⟨4,.nilFunc,a.ix,0,true⟩]:List (Nd Value))).length j a,BA,ms++[⟨4,.nilFunc,a.ix,0,true⟩]++[⟨5,.nilFunc,a.ix,j,a.re.aq⟩],by simp[aN.ix],?_,?_,?_,?_⟩⟩
    ·exact .plus (H3.out▸GQ.out)
    ·rw[<-List.append_assoc,<-List.append_assoc];exact Yf.out
    ·rw[<-List.append_assoc,<-List.append_assoc];refine ⟨by simp,by rw[AG];exact kr WK.out,⟨_,mN _⟩,⟨.nilFunc,?_⟩,(HRa.out.world LJ.out.stay).append⟩;rw[AG,List.getElem?_append_left (by simp)];exact mN _
    ·have h1:=bA.out;rw[H3.out]at h1;simp only[List.length_append,List.length_cons,List.length_nil]at h1 ⊢;omega
   ·subst aba;have qx:=aa jZ;have gN:=aa dB;have H3:=aa h3;clear jZ dB h3;go_wp2_with fail;refine (iz 63 B P text BA (ns++ms) w3 qx.out).mono ?_;rintro e w4 ⟨r,SR,rfl,xL,mK,⟨rfl,h4⟩|⟨rfl,abb,h4⟩⟩
    ·have GM:=aa xL;have nw:=aa mK;have H4:=aa h4;clear xL mK h4;go_wp2_with fail;refine (eA B P text SR (ns++ms) 6 a.ix 0 .nilFunc true false w4 GM.out (by have:=wE.out;omega) (.inr (.inl ⟨.inr rfl,rfl⟩)) (.inl rfl)).mono ?_;rintro e w5 ⟨rfl,SU,BC⟩;have Yf:=aa SU;have LJ:=aa BC;clear SU BC;go_wp2_with fail;go_ret2
     have hst:=((eG.out.stay.trans gN.out.stay).trans nw.out.stay).trans LJ.out.stay;refine ⟨(((kp.out.trans eG.out).trans gN.out).trans nw.out).trans LJ.out,.inl ⟨.eU (ns++ms).length a,SR,ms++[⟨6,.nilFunc,a.ix,0,true⟩],by simp[aN.ix],?_,?_,?_,?_⟩⟩
     ·exact .eU (H4.out▸GQ.out)
     ·rw[<-List.append_assoc];exact Yf.out
     ·rw[<-List.append_assoc];exact ⟨kr WK.out,⟨_,mN _⟩,(eK.out.world hst).append⟩
     ·have h1:=bA.out;rw[H4.out]at h1;simp only[List.length_append,List.length_cons,List.length_nil]at h1 ⊢;omega
    ·subst abb;have GM:=aa xL;have nw:=aa mK;have H4:=aa h4;clear xL mK h4;go_wp2_with fail;go_ret2;have hst:=(eG.out.stay.trans gN.out.stay).trans nw.out.stay;exact ⟨((kp.out.trans eG.out).trans gN.out).trans nw.out,.inl ⟨a,SR,ms,by simp,.plain GQ.out H2.out H3.out H4.out,GM.out,eK.out.world hst,bA.out⟩⟩
 ·have kp:=aa fT;have GQ:=aa iV;clear fT iV;go_wp2_with fail;go_ret2;exact ⟨kp.out,.inr ⟨0,by simp,.bad GQ.out⟩⟩
end Go.Proofs.YtgncgdkpkkdaeaaGreatDoor
