import Derived.Test.YtgncgdkpkkdaeaaGreatDoorAB
set_option maxHeartbeats 2000000
namespace Go.Proofs.YtgncgdkpkkdaeaaGreatDoor
open Go.RowKit bu
variable {text:ByteArray} {c:eO} {ns:List (Nd Value)} {xs:List Nat} {B P at_:Nat} {sv v:Value} {W w w' w1:World}
theorem ua{P:Program}{ops:Array Oper}{o:Oper}{a:Act}{K:Act->World->Prop}{Q:Exit->Act->World->Prop}{E:Prop}
  (hg:o.guard=none) (s x:Operand) (t:TypeId) (hop:o.op=Op.call { callee:=Callee.builtin Builtin.append,args:=#[s,x],argTypes:=#[t,t] })
  (base:Nat) (e:TypeId) (i:TypeInfo) (z:Value) (size bytes:Nat) (h1:P.underlying t=some (.slice e)) (h2:P.info? e=some i) (h3:i.zero=some z) (h4:i.size=size) (h5:i.bytes=bytes) (h6:z.cells.size=size) (h7:0<size)
  (v:Value) (n:Nat) (xs:List Value) (hs:a.eval s=v) (hown:w.ownsRow base e size v n xs)
  (ad:Addr) (m c:Nat) (news:List Value) (hx:a.eval x=.slice (some ad) m c) (hn:news.length=m*size) (hc:∀j u,news[j]?=some u->w.cell? (ad.add j)=some u) (h1c:∀u∈news,u.oneCell'=true)
  (b1:n+m<=maxLen) (b2:(n+m)*bytes<=140737488355328) (hb:base<=w.heap.size)
  (hK:∀v' w',w'.ownsRow base e size v' (n+m) (xs++news)->w.grownBy w' v.ownBlock->K (a.put o.dst v') w'):
  if Region.wanted o (yielded ops a.tmps)=true then Oper.wp P o a w K Q else E:=by
 have hw:Region.wanted o (yielded ops a.tmps)=true:=by simp[Region.wanted,hg]
 rw[if_pos hw];exact wp_append_own w s x t hop base e i z size bytes h1 h2 h3 h4 h5 h6 h7 v n xs hs hown ad m c news hx hn hc h1c b1 b2 hb λv' w' r1 r2 _=>hK v' w' r1 r2
theorem bm.alloc(h:bm w B sv ns)(o:Obj):bm (w.alloc o) B sv ns:=
 h.keep λ_ hk=>Below.heap_alloc _ _ _ (ae (h.block hk).2.choose_spec)
theorem rM:(Tryz.prog.info? 292).map (λi=>(i.zero,i.size,i.bytes))=some (some (.agg #[.int .i64 0,.nilFunc,.int .i64 0,.int .i64 0,.bool false]),5,40):=by kernel_rfl
theorem TK(hb:Below W.heap.size W w1):(∀b o,b<W.heap.size->w1.cell? ⟨b,o,none⟩=W.cell? ⟨b,o,none⟩)/\(∀b o,b<W.heap.size->w1.frozen? ⟨b,o,none⟩=W.frozen? ⟨b,o,none⟩):=
 ⟨λb o h=>hb.cell (p:=⟨b,o,none⟩) h,λb o h=>hb.frozen (p:=⟨b,o,none⟩) h⟩
theorem add_mid{k l r:Nat}{h:Value}{b em:Bool}(hP:gm w B P text at_ ns)
  (hb1:Below (w.alloc (.cells #[.int .i64 k,h,.int .i64 l,.int .i64 r,.bool em] 292)).drew.heap.size (w.alloc (.cells #[.int .i64 k,h,.int .i64 l,.int .i64 r,.bool em] 292)).drew w1):
  gm (w1.setCell ⟨w.heap.size,4,none⟩ (.bool b)) B P text at_ ns/\eu B w (w1.setCell ⟨w.heap.size,4,none⟩ (.bool b)) /\
   (w1.setCell ⟨w.heap.size,4,none⟩ (.bool b)).heap[w.heap.size]?=some (.cells #[.int .i64 k,h,.int .i64 l,.int .i64 r,.bool b] 292 (0,0))/\w.heap.size<(w1.setCell ⟨w.heap.size,4,none⟩ (.bool b)).heap.size:=by
 have hsz:w.heap.size+1<=w1.heap.size:=by have:=hb1.size;simpa using this
 have hold:∀j,j<w.heap.size->w1.heap[j]?=w.heap[j]?:=λj hj=>by rw[hb1.block j (by simp;omega)];exact Below.heap_alloc _ _ _ hj
 have fD:w1.heap[w.heap.size]?=some (.cells #[.int .i64 k,h,.int .i64 l,.int .i64 r,.bool em] 292 (0,0)):=by rw[hb1.block _ (by simp)];exact ag _ _
 have hF:eu B w w1:=(eu.refl B w).alloc _ |>.drew.trans (eu.ay hb1)
 refine ⟨hP.keep λj hj=>?_,hF.mD (bc _) _,?_,?_⟩
 ·rw[eV _ _ _ _ (by show j≠w.heap.size;omega)];exact hold j hj
 ·exact ah w1 w.heap.size 4 _ fD
 ·simp[World.setCell];omega
theorem aB{base:Nat}{e:TypeId}{size:Nat}{n:Nat}{xs:List Value}(h:w.ownsRow base e size v n xs)(hn:0<n):
  ∃g cap,v=.slice (some ⟨g,0,none⟩) n cap:=by
 rcases h.2 with ⟨_,h0⟩|⟨g,cap,_,hv,_⟩
 ·omega
 ·exact ⟨g,cap,hv⟩
theorem aG(W:World)(c:Array Value)(t:TypeId):∀j u,c.toList[j]?=some u->(W.alloc (.cells c t)).cell? ((⟨W.heap.size,0,none⟩:Addr).add j)=some u:=by intro j u h;rw[Addr.add_lit,Nat.zero_add];have hh:=ag W (.cells c t);simp only[World.cell?,hh];simpa using h
theorem eu.grown(hL:bm W B sv ns)(hg:W.grownBy w' sv.ownBlock):eu B W w':=
 ⟨hg.os,hg.tape,hg.output,hg.size,λk hk hn=>hg.block k hk (λe=>hn ⟨(hL.block e.symm).1,_,_,_,(hL.block e.symm).2.choose_spec,.inr rfl⟩)⟩
theorem JT{w3:World}{v':Value}{nd:Nd Value}{c:Array Value}{t:TypeId}(nG:Form nd.has)
  (h1:W.heap[P]?=some (.cells #[.string text,.int .i64 at_,sv] 257 (0,0))) (hL:bm W B sv ns) (hle:at_<=text.size) (hs:text.size<=60) (hB:B<=P)
  (hown:w3.ownsRow B 292 5 v' (ns.length+1) (bR ns++fI nd)) (hg:(W.alloc (.cells c t)).drew.grownBy w3 sv.ownBlock):
  w3.heap[P]?=some (.cells #[.string text,.int .i64 at_,sv] 257 (0,0)) /\
   gm (w3.setCell ⟨P,2,none⟩ v') B P text at_ (ns++[nd])/\eu B W (w3.setCell ⟨P,2,none⟩ v'):=by
 have hPl:=ae h1;have hne:some P≠sv.ownBlock:=λe=>by obtain ⟨_,cur,hc⟩:=hL.block e.symm;rw[h1]at hc;simp at hc
 have h3:w3.heap[P]?=some (.cells #[.string text,.int .i64 at_,sv] 257 (0,0)):=by rw[hg.block P (by simp;omega) hne];exact af h1
 have hF:eu B W w3:=((eu.refl B W).alloc _).drew.trans (eu.grown (hL.alloc _) hg)
 have hL3:bm w3 B v' (ns++[nd]):=by
  refine ⟨?_,λd hd=>?_⟩
  ·rw[mC];simpa [bR] using hown
  ·rcases List.mem_append.1 hd with h|h
   ·exact hL.2 d h
   ·simp only[List.mem_singleton]at h;rw[h];exact nG
 refine ⟨h3,⟨⟨v',?_,?_⟩,hle,hs,hB⟩,hF.setCell ⟨hB,_,_,_,h3,.inl rfl⟩ _⟩
 ·exact ah w3 P 2 _ h3
 ·refine hL3.keep λk hk=>eV _ _ _ _ ?_
  obtain ⟨_,cur,hc⟩:=hL3.block hk;rintro rfl;rw[h3]at hc;simp at hc
theorem eP(B P:Nat)(text:ByteArray)(at_:Nat)(ns:List (Nd Value))(k l r:Nat)(h:Value)(b em:Bool)(w:World)(hP:gm w B P text at_ ns)(hn:ns.length<=1000)(hE:Nk ns k l r b)(nG:Form h):
  Calls Tryz.prog 172 #[.pointer (some ⟨P,0,none⟩),.agg #[.int .i64 k,h,.int .i64 l,.int .i64 r,.bool em]] w λe w'=>
   e=.returned (.int .i64 ns.length)/\gm w' B P text at_ (ns++[⟨k,h,l,r,b⟩])/\eu B w w':=by
 have HP:=aa hP;obtain ⟨⟨sv,h1,h2⟩,hle,hs,hB⟩:=hP;obtain ⟨i0,hi,hz0,hz1,hz3⟩:=info_parts rM;have hPl:=ae h1;have HE:=aa hE
 have HO:Hid (∀u∈[Value.int .i64 k,h,.int .i64 l,.int .i64 r,.bool b],u.oneCell'=true):=by
  intro u hu;simp only[List.mem_cons,List.not_mem_nil,or_false]at hu;rcases hu with rfl|rfl|rfl|rfl|rfl
  ·rfl
  ·exact nG.one
  ·rfl
  ·rfl
  ·rfl
 have HL:=aa h2;have c2:w.cell? ⟨P,2,none⟩=some sv:=by simp[World.cell?,h1]
 have c2':=aw c2;have lW:=aa (HL.out.alloc (.cells #[.int .i64 k,h,.int .i64 l,.int .i64 r,.bool em] 292));clear h1 h2 hE;go_enter Tryz.func172,Tryz.ntmps172;go_wp2_with fail
 go_region_with (go_at_call 195;refine (jY B sv ns k l r h em b _ (by exact lW.out) HE.out).mono ?_;rintro e w1 ⟨rfl,hb1⟩;obtain ⟨hc1,hf1⟩:=TK hb1)
 all_goals
  obtain ⟨jn,hF2,EA,hz2⟩:=add_mid (b:=b) HP.out hb1;have nD:=aa jn;have eU:=aa hF2;have HX:=aa EA;clear jn hc1 hf1 hb1 c2 c2' HL lW;obtain ⟨W2,hW2⟩:∃W,W=w1.setCell ⟨w.heap.size,4,none⟩ (.bool b):=⟨_,rfl⟩;rw[<-hW2]at EA hz2 nD eU hF2 HX ⊢;clear hW2;obtain ⟨⟨Y3,h1,h2⟩,-,-,-⟩:=nD.out;have lW:=aa h2
  have d2:W2.cell? ⟨P,2,none⟩=some Y3:=by simp[World.cell?,h1]
  have d2':=aw d2;have f2:W2.frozen? ⟨P,2,none⟩=false:=by simp[World.frozen?,h1]
  have e0:W2.cell? ⟨w.heap.size,0,none⟩=some (.int .i64 k):=by simp[World.cell?,EA]
  have e1:W2.cell? ⟨w.heap.size,1,none⟩=some h:=by simp[World.cell?,EA]
  have e2:W2.cell? ⟨w.heap.size,2,none⟩=some (.int .i64 l):=by simp[World.cell?,EA]
  have e3:W2.cell? ⟨w.heap.size,3,none⟩=some (.int .i64 r):=by simp[World.cell?,EA]
  have e4:W2.cell? ⟨w.heap.size,4,none⟩=some (.bool b):=by simp[World.cell?,EA]
  have H1:=aa h1;have vu:=aa (show B<=W2.heap.size+1 by have:=hF2.size;omega);clear h1 h2 EA hF2;go_wp2_with fail
  go_region_law (refine ua rfl (.tmp 16) (.tmp 18) 182 rfl B 292 i0 (.agg #[.int .i64 0,.nilFunc,.int .i64 0,.int .i64 0,.bool false]) 5 40 Tryz.underlying182 hi hz0 hz1 hz3 rfl (by decide) Y3 ns.length (bR ns) (by rfl) (by exact (lW.out.alloc _).1) ⟨W2.heap.size,0,none⟩ 1 1 [.int .i64 k,h,.int .i64 l,.int .i64 r,.bool b] (by rfl) (by rfl) (by exact aG W2 #[.int .i64 k,h,.int .i64 l,.int .i64 r,.bool b] _) HO.out (by unfold maxLen;omega) (by omega) (by simpa using vu.out) ?_;intro v' w3 hown hg;obtain ⟨g,cap,rfl⟩:=aB hown (by omega);obtain ⟨CC,kD,dJ⟩:=JT (nd:=⟨k,h,l,r,b⟩) nG H1.out lW.out hle hs hB hown hg;have g2:w3.cell? ⟨P,2,none⟩=some Y3:=(by simp[World.cell?,CC]);have gf:w3.frozen? ⟨P,2,none⟩=false:=(by simp[World.frozen?,CC]);clear hown hg CC;have ru:=aa kD;have ir:=aa dJ;clear kD dJ)
  all_goals
   go_wp2;go_ret;exact ⟨by simp,ru.out,eU.out.trans ir.out⟩
theorem _root_.bu.ei.world(h:bN w w'){a:aP}(hr:ei (aH w) ns a):ei (aH w') ns a:=
 hr.mono (λ_ _ hc=>hc.stay h) (λ_ _ hn=>hn)
def Ints(w:World)(B:Nat)(v:Value)(xs:List Nat):Prop:=w.ownsRow B 3 1 v xs.length (xs.map λx:Nat=>Value.int .i64 (x:Int))
theorem Ints.keep(h:Ints w B v xs)(hk:∀(k:Nat) c,w.heap[k]?=some (.cells c 3 (0,0))->w'.heap[k]?=some (.cells c 3 (0,0))):Ints w' B v xs:=by
 obtain ⟨h1,h2⟩:=h;refine ⟨h1,?_⟩;rcases h2 with h2|⟨g,cap,cur,hv,hg,hh,r⟩
 ·exact .inl h2
 ·exact .inr ⟨g,cap,cur,hv,hg,hk _ _ hh,r⟩
theorem Ints.pfr{B':Nat}(h:Ints w B v xs)(hF:eu B' w w'):Ints w' B v xs:=
 h.keep λ_ _ hh=>hF.other hh (by decide) (by decide)
theorem Ints.at(h:Ints w B v xs){i x:Nat}(hi:xs[i]?=some x):
  ∃g cap,v=.slice (some ⟨g,0,none⟩) xs.length cap/\w.cell? ⟨g,i,none⟩=some (.int .i64 x):=by
 have hlt:=az hi;obtain ⟨h1,h2⟩:=h;rcases h2 with ⟨rfl,h0⟩|⟨g,cap,cur,rfl,hg,hh,hn,hc,hs,ht⟩
 ·omega
 ·refine ⟨g,cap,rfl,?_⟩;have e:(xs.map λx:Nat=>Value.int .i64 (x:Int))[i]?=some (.int .i64 x):=by simp[hi]
  rw[<-ht,List.getElem?_take_of_lt (by omega)]at e;simpa [World.cell?,hh] using e
def Rt(B P:Nat)(text:ByteArray)(at_:Nat)(ns:List (Nd Value))(ps:List aP)(w:World)(m:Nat)(whole i:Value)(wr:World):Prop:=
 eu B w wr/\m+1<=ps.length/\i=.int .i64 ((m:Int) - 1)/\∃(a:aP) (ms:List (Nd Value)),whole=.int .i64 a.ix/\a.re=cG ((ps.drop m).map aP.re) /\
  gm wr B P text at_ (ns++ms)/\ei (aH wr) (ns++ms) a/\ms.length+m+1=ps.length
def Af(B P:Nat)(text:ByteArray)(at_:Nat)(ns:List (Nd Value))(ps:List aP)(w:World)(e:Ending)(w':World):Prop:=
 eu B w w'/\∃(a:aP) (ms:List (Nd Value)),e=.returned (.int .i64 a.ix)/\a.re=cG (ps.map aP.re) /\
  gm w' B P text at_ (ns++ms)/\ei (aH w') (ns++ms) a/\ms.length<=ps.length - 1
theorem Fk{r:Re}{rs:List Re}(h:rs≠[]):cG (r::rs)=.seq r (cG rs):=by
 cases rs with
 | nil=>exact absurd rfl h
 | cons b l=>rfl
theorem vx(B B2 P:Nat)(text:ByteArray)(at_:Nat)(ns:List (Nd Value))(ps:List aP)(pv:Value)(w:World)(hP:gm w B P text at_ ns)(hn:ns.length+ps.length<=900)
  (hI:Ints w B2 pv (ps.map aP.ix)) (hA:∀a∈ps,ei (aH w) ns a) (h0:ei (aH w) ns .dE):
  Calls Tryz.prog 194 #[.pointer (some ⟨P,0,none⟩),pv] w (Af B P text at_ ns ps w):=by
 have HP:=aa hP;have HI:=aa hI;have HA:=aa hA;clear hP hI hA;by_cases hz:ps.length=0
 ·obtain rfl:ps=[]:=List.eq_nil_of_length_eq_zero hz
  have hl:∃ao cap,pv=.slice ao 0 cap:=by
   rcases HI.out.2 with ⟨rfl,_⟩|⟨g,cap,_,rfl,_⟩
   ·exact ⟨_,_,rfl⟩
   ·exact ⟨_,_,rfl⟩
  obtain ⟨ao,cap,rfl⟩:=hl;have H0:=aa h0;clear h0;go_enter Tryz.func194,Tryz.ntmps194;go_wp2;go_ret;exact ⟨eu.refl _ _,.dE,[],rfl,rfl,by simpa using HP.out,by simpa using H0.out,by simp⟩
 ·obtain ⟨n,hlen⟩:∃n,ps.length=n+1:=⟨ps.length - 1,by omega⟩;obtain ⟨la,TL⟩:∃a,ps[n]?=some a:=⟨ps[n],cB (by omega)⟩;obtain ⟨g,cap,rfl,hc⟩:=HI.out.at (i:=n) (x:=la.ix) (by simp[TL]);rw[fy,hlen]at HI ⊢;have vy:=aa TL;have HLEN:=aa hlen;have HN:=aa hn;have qh:n<=900:=by omega
  have hz1:((n:Int)+1==0)=false:=by rw[er];omega
  clear TL hlen hz hn h0;go_enter Tryz.func194,Tryz.ntmps194;go_wp2_with fail;go_loopg [5,6] n (λm whole i wr=>Rt B P text at_ ns ps w m whole i wr)
  case atStart=>
   refine ⟨eu.refl _ _,by rw[HLEN.out];omega,by go_num,la,[],rfl,?_,by simpa using HP.out,?_,by simp[HLEN.out]⟩
   ·have:=HLEN.out;rw[List.drop_eq_getElem_cons (by omega),List.drop_of_length_le (by omega)];rw[cB (by omega)]at vy;have:=Option.some.inj vy.out;simp[this,cG]
   ·simpa using HA.out la (bn vy.out)
  case round=>
   obtain ⟨hF,hm,rfl,a,ms,rfl,Ru,jn,hR,hms⟩:=hrel
   cases gk with
   | zero=>
    have HF:=aa hF;have Y4:=aa Ru;have nD:=aa jn;have HR:=aa hR;have CD:=aa hms;clear hF Ru jn hR hms;go_wp2_with fail;go_ret;refine ⟨HF.out,a,ms,by simp,?_,nD.out,HR.out,?_⟩
    ·simpa using Y4.out
    ·have:=CD.out;omega
   | succ j=>
    obtain ⟨pa,qi⟩:∃a,ps[j]?=some a:=⟨ps[j],cB (by omega)⟩;have lF:=HI.out.pfr hF;obtain ⟨g',cap',e',Ty⟩:=lF.at (i:=j) (x:=pa.ix) (by simp[qi]);simp only[Value.slice.injEq,fA,Addr.mk.injEq]at e';obtain ⟨⟨rfl,-⟩,-,rfl⟩:=e';have Qp:j<n+1:=by have:=HLEN.out;omega
    have Ij:ei (aH wr) (ns++ms) pa:=((HA.out pa (bn qi)).world hF.stay).append;obtain ⟨x,hx,TM⟩:=Ij.empty;obtain ⟨y,hy,TN⟩:=hR.empty;have hE:Nk (ns++ms) 2 pa.ix a.ix (pa.re.au&&a.re.au):=.inr (.inr (.inr (.inl ⟨rfl,x,y,hx,hy,by rw[TM,TN]⟩)));have HF:=aa hF;have Y4:=aa Ru;have nD:=aa jn;have HR:=aa hR;have CD:=aa hms
    have HE:=aa hE;have Vk:=aa Ij;have sX:=aa qi;have TP:(ns++ms).length<=1000:=by have:=HN.out;simp;omega
    have L0:=aa TP;clear hF Ru jn hR hms hE Ij qi hx hy TM TN lF TP;go_wp2_with fail;refine (eP B P text at_ (ns++ms) 2 pa.ix a.ix .nilFunc (pa.re.au&&a.re.au) false wr nD.out L0.out HE.out (.inl rfl)).mono ?_;rintro e w2 ⟨rfl,kD,dJ⟩;have ru:=aa kD;have ir:=aa dJ;clear kD dJ;go_wp2_with fail;go_roundg j
    case measure=>omega
    case rel=>
     have hst:=ir.out.stay;refine ⟨HF.out.trans ir.out,by omega,by go_num,.seq (ns++ms).length pa a,ms++[⟨2,.nilFunc,pa.ix,a.ix,pa.re.au&&a.re.au⟩],by simp[aP.ix],?_,?_,?_,?_⟩
     ·have hl:=HLEN.out;have e1:ps.drop j=pa::ps.drop (j+1):=by have h1:=sX.out;rw[cB (by omega)]at h1;rw[List.drop_eq_getElem_cons (by omega),Option.some.inj h1]
      rw[e1,List.map_cons,Fk,<-Y4.out]
      ·rfl
      ·intro h0;have:=congrArg List.length h0;simp at this;omega
     ·rw[<-fP];exact ru.out
     ·rw[<-fP];refine ⟨?_,⟨.nilFunc,?_⟩,(Vk.out.world hst).append,(HR.out.world hst).append⟩
      ·have:=Vk.out.lt;omega
      ·rw[pS (bc _)];simp
     ·have:=CD.out;simp;omega
def gV(PX:List UInt8->Option (Re×List UInt8)->Prop)(d:Nat)(B P:Nat)(text:ByteArray)(at_:Nat)(ns:List (Nd Value))(w:World)(e:Ending)(w':World):Prop:=
 eu B w w'/\((∃(a:aP) (at':Nat) (ms:List (Nd Value)),e=.returned (.tuple #[.int .i64 a.ix,.bool true])/\PX (rest text at_) (some (a.re,rest text at')) /\
   gm w' B P text at' (ns++ms)/\ei (aH w') (ns++ms) a/\ms.length+3*(rest text at').length+d<=3*(rest text at_).length) ∨
  (∃i:Nat,e=.returned (.tuple #[.int .i64 i,.bool false])/\PX (rest text at_) none))
structure Pre(B P:Nat)(text:ByteArray)(at_:Nat)(ns:List (Nd Value))(w:World):Prop where
 Y5:gm w B P text at_ ns
 dE:ei (aH w) ns .dE
 bound:ns.length+3*(rest text at_).length<=200
def iM(n:Nat):Prop:=∀B P text at_ ns w,Pre B P text at_ ns w->(rest text at_).length<n ->
 Calls Tryz.prog 139 #[.pointer (some ⟨P,0,none⟩)] w (gV bH 0 B P text at_ ns w)
theorem Nk.one(ns:List (Nd Value)):Nk ns 1 0 0 false:=.inl ⟨rfl,rfl⟩
theorem aH.one(h:aH w v c):Form v:=.inr h.shape
theorem vz(h0:ei (aH w) ns .dE)(hc:aH w v c):ei (aH w) (ns++[⟨1,v,0,0,false⟩]) (.dr ns.length c):=by
 refine ⟨?_,v,?_,hc⟩
 ·have:=h0.lt;simp only[aP.ix]at this;omega
 ·rw[pS (bc _)];simp
-- ( ALT )
theorem Fl(n:Nat)(hC:iM n)(s:List UInt8)(B P:Nat)(text:ByteArray)(at_:Nat)(ns:List (Nd Value))(w:World)(hP:Pre B P text at_ ns w)(hr:rest text at_=40::s)(hn:(rest text at_).length<=n):
  Calls Tryz.prog 206 #[.pointer (some ⟨P,0,none⟩)] w (gV aV 1 B P text at_ ns w):=by
 have HP:=aa hP;have HR:=aa hr;have HN:=aa hn;clear hP hr hn;go_enter Tryz.func206,Tryz.ntmps206;go_wp2_with fail;refine (ic 40 s B P text at_ ns w HP.out.Y5 HR.out).mono ?_;rintro e w1 ⟨rfl,ol,gG,hr1⟩;have hlen:(rest text (at_+1)).length+1=(rest text at_).length:=by rw[hr1,HR.out];rfl
 have rB:Pre B P text (at_+1) ns w1:=⟨ol,HP.out.dE.world gG.stay,by have:=HP.out.bound;omega⟩;have Nn:=aa rB;have kU:=aa gG;have eZ:=aa hr1;have JU:=aa hlen;clear ol gG hr1 rB hlen;go_wp2_with fail;refine (hC B P text (at_+1) ns w1 Nn.out (by have:=JU.out;have:=HN.out;omega)).mono ?_;rintro e w2 ⟨hF2,⟨a,ry,ms,rfl,rA,jn,yE,hb2⟩|⟨i,rfl,rA⟩⟩
 ·have eU:=aa hF2;have EB:=aa rA;have nD:=aa jn;have mA:=aa yE;have cW:=aa hb2;clear hF2 rA jn yE hb2;go_wp2_with fail;refine (iR 41 B P text ry (ns++ms) w2 nD.out).mono ?_;rintro e w3 ⟨r,Cz,rfl,kD,dJ,⟨rfl,h3⟩|⟨rfl,-,h3⟩⟩
  ·have ru:=aa kD;have ir:=aa dJ;have H3:=aa h3;clear kD dJ h3;go_wp2_with fail;go_ret2;refine ⟨(kU.out.trans eU.out).trans ir.out,.inl ⟨a,Cz,ms,by simp,?_,ru.out,mA.out.world ir.out.stay,?_⟩⟩
   ·rw[HR.out];refine .paren ?_;rw[<-H3.out,<-eZ.out];exact EB.out
   ·have h1:=cW.out;have h2:=JU.out;rw[H3.out,fe]at h1;omega
  ·have ir:=aa dJ;have H3:=aa h3;clear kD dJ h3;go_wp2_with fail;go_ret2;refine ⟨(kU.out.trans eU.out).trans ir.out,.inr ⟨a.ix,by simp,?_⟩⟩;rw[HR.out];exact .fR (r:=a.re) (by rw[<-eZ.out];exact EB.out) H3.out
 ·have eU:=aa hF2;have EB:=aa rA;clear hF2 rA;go_wp2_with fail;go_ret2;refine ⟨kU.out.trans eU.out,.inr ⟨i,by simp,?_⟩⟩;rw[HR.out];refine .gl ?_;rw[<-eZ.out];exact EB.out
-- any byte
theorem Np(s:List UInt8)(B P:Nat)(text:ByteArray)(at_:Nat)(ns:List (Nd Value))(w:World)(hP:Pre B P text at_ ns w)(hr:rest text at_=46::s):
  Calls Tryz.prog 206 #[.pointer (some ⟨P,0,none⟩)] w (gV aV 1 B P text at_ ns w):=by
 have HP:=aa hP;have HR:=aa hr;clear hP hr;go_enter Tryz.func206,Tryz.ntmps206;go_wp2_with fail;refine (ek 40 B P text at_ ns w HP.out.Y5 (by rw[HR.out];simp)).mono ?_;rintro e w0 ⟨rfl,Ni,Ag⟩;have Y6:=aa Ni;have Vl:=aa Ag;clear Ni Ag;go_wp2_with fail;refine (ic 46 s B P text at_ ns w0 Y6.out HR.out).mono ?_
 rintro e w1 ⟨rfl,ol,gG,hr1⟩;have gD:=aa ol;have kU:=aa gG;have eZ:=aa hr1;clear ol gG hr1;go_wp2_with fail;refine (eP B P text (at_+1) ns 1 0 0 (.func (.func 209) #[] #[]) false false w1 gD.out (by have:=HP.out.bound;omega) (Nk.one ns) (.inr ⟨_,_,rfl⟩)).mono ?_;rintro e w2 ⟨rfl,jn,hF2⟩;have nD:=aa jn;have eU:=aa hF2;clear jn hF2
 go_wp2_with fail;go_ret2;have hF:=(Vl.out.trans kU.out).trans eU.out;refine ⟨hF,.inl ⟨.dr ns.length .any,at_+1,_,by simp[aP.ix],?_,nD.out,vz (HP.out.dE.world hF.stay) rfl,?_⟩⟩
 ·rw[HR.out,eZ.out];exact .dot
 ·rw[HR.out,eZ.out];simp;omega
-- [ .. ]
theorem Fm(s:List UInt8)(B P:Nat)(text:ByteArray)(at_:Nat)(ns:List (Nd Value))(w:World)(hP:Pre B P text at_ ns w)(hr:rest text at_=91::s):
  Calls Tryz.prog 206 #[.pointer (some ⟨P,0,none⟩)] w (gV aV 1 B P text at_ ns w):=by
 have HP:=aa hP;have HR:=aa hr;clear hP hr;go_enter Tryz.func206,Tryz.ntmps206;go_wp2_with fail;refine (ek 40 B P text at_ ns w HP.out.Y5 (by rw[HR.out];simp)).mono ?_;rintro e w0 ⟨rfl,Ni,Ag⟩;have Y6:=aa Ni;have Vl:=aa Ag;clear Ni Ag;go_wp2_with fail;refine (ek 46 B P text at_ ns w0 Y6.out (by rw[HR.out];simp)).mono ?_
 rintro e w00 ⟨rfl,Nq,Nr⟩;have Vm:=aa Nq;have Vn:=aa Nr;clear Nq Nr;go_wp2_with fail;refine (ic 91 s B P text at_ ns w00 Vm.out HR.out).mono ?_;rintro e w1 ⟨rfl,ol,gG,hr1⟩;have gD:=aa ol;have kU:=aa gG;have eZ:=aa hr1;clear ol gG hr1;go_wp2_with fail;refine (rJ B P text (at_+1) ns w1 gD.out).mono ?_
 rintro e w2 ⟨hF2,v,ry,c,jn,hv,⟨hc,rfl⟩|⟨hc,rfl⟩⟩
 all_goals
  have nD:=aa jn;have eU:=aa hF2;have HV:=aa hv;have HC:=aa hc;obtain ⟨gv,cv,rfl⟩:=hv.shape;clear jn hF2 hv hc;go_wp2_with fail;refine (eP B P text ry ns 1 0 0 (.func (.func gv) #[] cv) false false w2 nD.out (by have:=HP.out.bound;omega) (Nk.one ns) HV.out.one).mono ?_;rintro e w3 ⟨rfl,kD,dJ⟩;have ru:=aa kD;have ir:=aa dJ;clear kD dJ;go_wp2_with fail;go_ret2
  have hF:=(((Vl.out.trans Vn.out).trans kU.out).trans eU.out).trans ir.out
 ·refine ⟨hF,.inl ⟨.dr ns.length c,ry,_,by simp[aP.ix],?_,ru.out,vz (HP.out.dE.world hF.stay) (HV.out.stay ir.out.stay),?_⟩⟩
  ·rw[HR.out,<-eZ.out];exact .dr HC.out
  ·have:=HC.out.len;have h2:=congrArg List.length eZ.out;rw[HR.out];simp only[fe,List.length_nil];omega
 ·refine ⟨hF,.inr ⟨ns.length,by simp,?_⟩⟩;rw[HR.out,<-eZ.out];exact .dr HC.out
-- ONE
theorem Ns(B P:Nat)(text:ByteArray)(at_:Nat)(ns:List (Nd Value))(w:World)(hP:Pre B P text at_ ns w)(h1:(rest text at_).head?≠some 40)(h2:(rest text at_).head?≠some 46)(h3:(rest text at_).head?≠some 91):
  Calls Tryz.prog 206 #[.pointer (some ⟨P,0,none⟩)] w (gV aV 1 B P text at_ ns w):=by
 have HP:=aa hP;have H1:=aa h1;have H2:=aa h2;have H3:=aa h3;clear hP h1 h2 h3;go_enter Tryz.func206,Tryz.ntmps206;go_wp2_with fail;refine (ek 40 B P text at_ ns w HP.out.Y5 H1.out).mono ?_;rintro e w0 ⟨rfl,Ni,Ag⟩;have Y6:=aa Ni;have Vl:=aa Ag;clear Ni Ag;go_wp2_with fail
 refine (ek 46 B P text at_ ns w0 Y6.out H2.out).mono ?_;rintro e w00 ⟨rfl,Nq,Nr⟩;have Vm:=aa Nq;have Vn:=aa Nr;clear Nq Nr;go_wp2_with fail;refine (ek 91 B P text at_ ns w00 Vm.out H3.out).mono ?_;rintro e w1 ⟨rfl,ol,gG⟩;have gD:=aa ol;have kU:=aa gG;clear ol gG;go_wp2_with fail;refine (kS B P text at_ ns w1 gD.out).mono ?_
 rintro e w2 ⟨hF2,b,ry,jn,⟨hc,rfl⟩|⟨hc,rfl⟩⟩
 all_goals
  have nD:=aa jn;have eU:=aa hF2;have HC:=aa hc;clear jn hF2 hc;go_wp2_with fail;refine (ie b b w2).mono ?_;rintro e w3 ⟨v,rfl,hv,iC⟩;have HV:=aa hv;have ru:=aa (nD.out.below iC);have ir:=aa (eu.ay (B:=B) iC);obtain ⟨gv,cv,rfl⟩:=hv.shape;clear hv iC;go_wp2_with fail
  refine (eP B P text ry ns 1 0 0 (.func (.func gv) #[] cv) false false w3 ru.out (by have:=HP.out.bound;omega) (Nk.one ns) HV.out.one).mono ?_;rintro e w4 ⟨rfl,yC,nE⟩;have Ih:=aa yC;have om:=aa nE;clear yC nE;go_wp2_with fail;go_ret2;have hF:=((((Vl.out.trans Vn.out).trans kU.out).trans eU.out).trans ir.out).trans om.out;have hat:=aV.one H1.out H2.out H3.out
  rw[HC.out]at hat
 ·refine ⟨hF,.inl ⟨.dr ns.length (.range b b),ry,_,by simp[aP.ix],hat,Ih.out,vz (HP.out.dE.world hF.stay) (HV.out.stay om.out.stay),?_⟩⟩;have:=qf HC.out;simp only[fe,List.length_nil];omega
 ·exact ⟨hF,.inr ⟨ns.length,by simp,hat⟩⟩
theorem vA(n:Nat)(hC:iM n)(B P:Nat)(text:ByteArray)(at_:Nat)(ns:List (Nd Value))(w:World)(hP:Pre B P text at_ ns w)(hn:(rest text at_).length<=n):
  Calls Tryz.prog 206 #[.pointer (some ⟨P,0,none⟩)] w (gV aV 1 B P text at_ ns w):=by
 by_cases h1:(rest text at_).head?=some 40
 ·obtain ⟨s,hs⟩:=head_cons h1;exact Fl n hC s B P text at_ ns w hP hs hn
 ·by_cases h2:(rest text at_).head?=some 46
  ·obtain ⟨s,hs⟩:=head_cons h2;exact Np s B P text at_ ns w hP hs
  ·by_cases h3:(rest text at_).head?=some 91
   ·obtain ⟨s,hs⟩:=head_cons h3;exact Fm s B P text at_ ns w hP hs
   ·exact Ns B P text at_ ns w hP h1 h2 h3
theorem nH(nd:Nd Value):(ns++[nd])[ns.length]?=some nd:=by rw[pS (bc _)];simp
theorem kW{iL:Value->eO->Prop}(h:ei iL ns .dE):ns.length≠0:=by have:=h.lt;simp only[aP.ix]at this;omega
theorem JV(n:Nat)(hC:iM n)(B P:Nat)(text:ByteArray)(at_:Nat)(ns:List (Nd Value))(w:World)(hP:Pre B P text at_ ns w)(hn:(rest text at_).length<=n):
  Calls Tryz.prog 193 #[.pointer (some ⟨P,0,none⟩)] w (gV dt 1 B P text at_ ns w):=by
 have HP:=aa hP;have HN:=aa hn;clear hP hn;go_enter Tryz.func193,Tryz.ntmps193;go_wp2_with fail;refine (vA n hC B P text at_ ns w HP.out HN.out).mono ?_;rintro e w1 ⟨gG,⟨a,kT,ms,rfl,jq,ol,uu,hb1⟩|⟨i,rfl,jq⟩⟩
 ·have kU:=aa gG;have Ik:=aa jq;have gD:=aa ol;have eZ:=aa uu;have bM:=aa hb1;have XI:=aa ((HP.out.dE.append (ms:=ms)).world gG.stay);have rN:=aa (show (ns++ms).length+3*(rest text kT).length+1<=200 by have:=HP.out.bound;simp only[dG];omega);clear gG jq ol uu hb1;go_wp2_with fail;refine (iR 42 B P text kT (ns++ms) w1 gD.out).mono ?_
  rintro e w2 ⟨r,ry,rfl,jn,hF2,⟨rfl,h2⟩|⟨rfl,Vo,h2⟩⟩
  ·have nD:=aa jn;have eU:=aa hF2;have H2:=aa h2;clear jn hF2 h2;go_wp2_with fail;refine (eP B P text ry (ns++ms) 4 a.ix 0 .nilFunc true false w2 nD.out (by have:=rN.out;omega) (.inr (.inl ⟨.inl rfl,rfl⟩)) (.inl rfl)).mono ?_;rintro e w3 ⟨rfl,kD,dJ⟩;have ru:=aa kD;have ir:=aa dJ;clear kD dJ;go_wp2_with fail;go_ret2;have hst:=eU.out.stay.trans ir.out.stay
   refine ⟨(kU.out.trans eU.out).trans ir.out,.inl ⟨.star (ns++ms).length a,ry,ms++[⟨4,.nilFunc,a.ix,0,true⟩],by simp[aP.ix],?_,?_,?_,?_⟩⟩
   ·exact .star (H2.out▸Ik.out)
   ·rw[<-fP];exact ru.out
   ·rw[<-fP];exact ⟨kW XI.out,⟨_,nH _⟩,(eZ.out.world hst).append⟩
   ·have h1:=bM.out;rw[H2.out]at h1;simp only[dG,fe,List.length_nil]at h1 ⊢;omega
  ·subst Vo;have nD:=aa jn;have eU:=aa hF2;have H2:=aa h2;clear jn hF2 h2;go_wp2_with fail;refine (iR 43 B P text ry (ns++ms) w2 nD.out).mono ?_;rintro e w3 ⟨r,Cz,rfl,kD,dJ,⟨rfl,h3⟩|⟨rfl,abJ,h3⟩⟩
   ·have ru:=aa kD;have ir:=aa dJ;have H3:=aa h3;clear kD dJ h3;go_wp2_with fail;refine (eP B P text Cz (ns++ms) 4 a.ix 0 .nilFunc true false w3 ru.out (by have:=rN.out;omega) (.inr (.inl ⟨.inl rfl,rfl⟩)) (.inl rfl)).mono ?_;rintro e w4 ⟨rfl,yC,nE⟩;have hst:=(eU.out.stay.trans ir.out.stay).trans nE.stay
    have Vp:=(eZ.out.world hst).append (ms:=[⟨4,.nilFunc,a.ix,0,true⟩]);obtain ⟨x,hx,TM⟩:=Vp.empty;have XJ:=aa (show Nk (ns++ms++[⟨4,.nilFunc,a.ix,0,true⟩]) 5 a.ix (ns++ms).length a.re.au from .inr (.inr (.inl ⟨rfl,x,hx,TM.symm⟩)));have Ih:=aa yC;have om:=aa nE;have HRa:=aa Vp;clear yC nE hst Vp hx TM
    obtain ⟨j,hj⟩:∃j,j=(ns++ms).length:=⟨_,rfl⟩;rw[<-hj]at XJ ⊢;have HJ:=aa hj;clear hj;go_wp2_with fail;refine (eP B P text Cz (ns++ms++[⟨4,.nilFunc,a.ix,0,true⟩]) 5 a.ix j .nilFunc a.re.au false w4 Ih.out (by have:=rN.out;simp only[dG,fe,List.length_nil]at this ⊢;omega) XJ.out (.inl rfl)).mono ?_;rintro e w5 ⟨rfl,TI,CB⟩
    have Y1:=aa TI;have Mw:=aa CB;clear TI CB;go_wp2_with fail;go_ret2;have BH:=HJ.out;refine ⟨(((kU.out.trans eU.out).trans ir.out).trans om.out).trans Mw.out,.inl ⟨.plus (ns++ms++([⟨4,.nilFunc,a.ix,0,true⟩]:List (Nd Value))).length j a,Cz,ms++[⟨4,.nilFunc,a.ix,0,true⟩]++[⟨5,.nilFunc,a.ix,j,a.re.au⟩],by simp[aP.ix],?_,?_,?_,?_⟩⟩
    ·exact .plus (H3.out▸Ik.out)
    ·rw[<-fP,<-fP];exact Y1.out
    ·rw[<-fP,<-fP];refine ⟨by simp,by rw[BH];exact kW XI.out,⟨_,nH _⟩,⟨.nilFunc,?_⟩,(HRa.out.world Mw.out.stay).append⟩;rw[BH,nz (by simp)];exact nH _
    ·have h1:=bM.out;rw[H3.out]at h1;simp only[dG,fe,List.length_nil]at h1 ⊢;omega
   ·subst abJ;have ru:=aa kD;have ir:=aa dJ;have H3:=aa h3;clear kD dJ h3;go_wp2_with fail;refine (iR 63 B P text Cz (ns++ms) w3 ru.out).mono ?_;rintro e w4 ⟨r,TG,rfl,yC,nE,⟨rfl,h4⟩|⟨rfl,abK,h4⟩⟩
    ·have Ih:=aa yC;have om:=aa nE;have H4:=aa h4;clear yC nE h4;go_wp2_with fail;refine (eP B P text TG (ns++ms) 6 a.ix 0 .nilFunc true false w4 Ih.out (by have:=rN.out;omega) (.inr (.inl ⟨.inr rfl,rfl⟩)) (.inl rfl)).mono ?_;rintro e w5 ⟨rfl,TI,CB⟩;have Y1:=aa TI;have Mw:=aa CB;clear TI CB;go_wp2_with fail;go_ret2
     have hst:=((eU.out.stay.trans ir.out.stay).trans om.out.stay).trans Mw.out.stay;refine ⟨(((kU.out.trans eU.out).trans ir.out).trans om.out).trans Mw.out,.inl ⟨.fB (ns++ms).length a,TG,ms++[⟨6,.nilFunc,a.ix,0,true⟩],by simp[aP.ix],?_,?_,?_,?_⟩⟩
     ·exact .fB (H4.out▸Ik.out)
     ·rw[<-fP];exact Y1.out
     ·rw[<-fP];exact ⟨kW XI.out,⟨_,nH _⟩,(eZ.out.world hst).append⟩
     ·have h1:=bM.out;rw[H4.out]at h1;simp only[dG,fe,List.length_nil]at h1 ⊢;omega
    ·subst abK;have Ih:=aa yC;have om:=aa nE;have H4:=aa h4;clear yC nE h4;go_wp2_with fail;go_ret2;have hst:=(eU.out.stay.trans ir.out.stay).trans om.out.stay;exact ⟨((kU.out.trans eU.out).trans ir.out).trans om.out,.inl ⟨a,TG,ms,by simp,.plain Ik.out H2.out H3.out H4.out,Ih.out,eZ.out.world hst,bM.out⟩⟩
 ·have kU:=aa gG;have Ik:=aa jq;clear gG jq;go_wp2_with fail;go_ret2;exact ⟨kU.out,.inr ⟨0,by simp,.bad Ik.out⟩⟩
end Go.Proofs.YtgncgdkpkkdaeaaGreatDoor
