import Derived.Test.YtgncgdkpkkdaeaaGreatDoorAT
set_option maxRecDepth 20000
set_option maxHeartbeats 2000000
namespace Go.Proofs.YtgncgdkpkkdaeaaGreatDoor
open Go.RowKit
variable {a:Act} {ps:Array Tmp} {args tmps:Array Value} {assign body:Code} {R:Ending->World->Prop} {Q:Exit->Act->World->Prop} {F:Fence} {fn:FuncId} {D l n:Nat} {g:Operand} {P:Program} {W w:World}
def mb(fn:FuncId)(tmps:Array Value)(ps:Array Tmp)(assign body:Code)(D:Nat)(st:LoopState)(pe:Option Code):Loop:={ state:=st,pending:=pe,fn,tmps,params:=ps,assign,body,defers:=D }
def P2(F:Fence)(n:Nat)(P:Program)(Q:Exit->Act->World->Prop)(a:Act)(l:Nat)(rc:LoopState->Option Code->Loop)(e:Ending)(W:World):Prop:=
 (∃v,e=.returned v) /\
  ((W.heap[l]?=some (.loop (rc .ready none))/\∀ro,Q .normal a (W.putObj l (.loop ro))) ∨
   ∃c,W.heap[l]?=some (.loop (rc .done (some c)))/\∀ro,c.wpIn F n P Q a (W.putObj l (.loop ro)))
theorem gz{st:LoopState}{pe:Option Code}(hl:W.heap[l]?=some (.loop (mb fn tmps ps assign body D st pe)))(hs:st≠.busy):(Instr.endLoop l).run P W=.ok pe (W.putObj l (.loop (mb fn tmps ps assign body D .exhausted pe))):=run_endLoop hl hs
theorem jy(hro:F.round=none)(h1:1<=n)
  {gf:Nat} {lb:Array Value} (hg:a.eval g=.func (.func gf) #[] lb) (hFg:F.fn gf) (eg:∀args w,(callFunc gf args).run P w=.ok (.enter gf args) w)
  (h:∀fn,F.fn fn->CallsIn F (n - 1) P gf (#[.func (.yield (w.heap.size+1)) #[] #[]]++lb) ((w.alloc (.deferred (some []))).alloc (.loop (mb fn a.tmps ps assign body w.heap.size .ready none)))
   (P2 F n P Q { a with defers:={ target:=.collected w.heap.size,args:=#[] }::a.defers } (w.heap.size+1) (mb fn a.tmps ps assign body w.heap.size))):
  (Code.rangeFunc g ps assign body).wpIn F n P Q a w:=by
 refine wpIn_rangeFunc ?_;intro fn hfn;rw[hro];have wD:=h fn hfn;obtain ⟨W1,hW1⟩:∃W1,(w.alloc (.deferred (some []))).alloc (.loop (mb fn a.tmps ps assign body w.heap.size .ready none))=W1:=⟨_,rfl⟩;rw[hW1]at wD
 refine ⟨w.heap.size+1,[{ target:=.collected w.heap.size,args:=#[] }],W1,{ target:=.fn (.func gf) lb,args:=#[.func (.yield (w.heap.size+1)) #[] #[]] },W1,gf,
  #[.func (.yield (w.heap.size+1)) #[] #[]]++lb,W1,?_,?_,?_,?_,λ_=>h1,?_⟩
 ·rw[<-hW1];exact run_enterLoop_outer _ _ _ _ _
 ·simp only[resolve,hg];simp[go_sem]
 ·intro f' hf';simp[Target.leads]at hf';subst hf';exact hFg
 ·simp[invoke,go_sem,eg]
 ·refine wD.mono ?_;intro e W2 Mm;obtain ⟨⟨v,hv⟩,Mm⟩:=Mm;subst hv;rcases Mm with ⟨hl,hq⟩|⟨c,hl,hq⟩
  ·exact ⟨none,_,gz hl (by decide),hq _⟩
  ·exact ⟨some c,_,gz hl (by decide),hq _⟩
theorem tD{l₀:Nat}{r₀:Loop}(hro:F.round=some l₀)(hl₀:w.heap[l₀]?=some (.loop r₀))(h1:1<=n)
  {gf:Nat} {lb:Array Value} (hg:a.eval g=.func (.func gf) #[] lb) (hFg:F.fn gf) (eg:∀args w,(callFunc gf args).run P w=.ok (.enter gf args) w)
  (h:∀fn,F.fn fn->CallsIn F (n - 1) P gf (#[.func (.yield w.heap.size) #[] #[]]++lb) (w.alloc (.loop (mb fn a.tmps ps assign body r₀.defers .ready none)))
   (P2 F n P Q a w.heap.size (mb fn a.tmps ps assign body r₀.defers))):
  (Code.rangeFunc g ps assign body).wpIn F n P Q a w:=by
 refine wpIn_rangeFunc ?_;intro fn hfn;rw[hro];have wD:=h fn hfn;obtain ⟨W1,hW1⟩:∃W1,w.alloc (.loop (mb fn a.tmps ps assign body r₀.defers .ready none))=W1:=⟨_,rfl⟩;rw[hW1]at wD
 refine ⟨w.heap.size,[],W1,{ target:=.fn (.func gf) lb,args:=#[.func (.yield w.heap.size) #[] #[]] },W1,gf,
  #[.func (.yield w.heap.size) #[] #[]]++lb,W1,?_,?_,?_,?_,λ_=>h1,?_⟩
 ·rw[<-hW1];exact run_enterLoop_inner hl₀ _ _ _ _ _
 ·simp only[resolve,hg];simp[go_sem]
 ·intro f' hf';simp[Target.leads]at hf';subst hf';exact hFg
 ·simp[invoke,go_sem,eg]
 ·refine wD.mono ?_;intro e W2 Mm;obtain ⟨⟨v,hv⟩,Mm⟩:=Mm;subst hv;rcases Mm with ⟨hl,hq⟩|⟨c,hl,hq⟩
  ·exact ⟨none,_,gz hl (by decide),hq _⟩
  ·exact ⟨some c,_,gz hl (by decide),hq _⟩
def P3(l:Nat)(r:Loop)(R:Ending->World->Prop):Exit->Act->World->Prop
 | .normal,_,W=>W.heap[l]?=some (.loop { r with state:=.busy })/\R (.returned (.bool true)) (W.putObj l (.loop { r with state:=.ready,pending:=none }))
 | .ret,_,W=>W.heap[l]?=some (.loop { r with state:=.busy })/\R (.returned (.bool false)) (W.putObj l (.loop { r with state:=.done,pending:=some .ret }))
 | .exit id,_,W=>W.heap[l]?=some (.loop { r with state:=.busy })/\R (.returned (.bool false)) (W.putObj l (.loop { r with state:=.done,pending:=some (.exit id) }))
 | .goto t,_,W=>W.heap[l]?=some (.loop { r with state:=.busy })/\R (.returned (.bool false)) (W.putObj l (.loop { r with state:=.done,pending:=some (.goto t) }))
 | .panic _,_,_=>False
 | .outgrown,_,_=>False
theorem P4{r:Loop}(hF:F.fn r.fn)(hl:W.heap[l]?=some (.loop r))(hr:r.state=.ready)(hs:args.size=r.params.size)
  (h:r.assign.wpIn (F.inRound l) n P (Exit.then (λa₁ w₁=>w₁.heap[l]?=some (.loop r)/\r.body.wpIn (F.inRound l) n P (P3 l r R) a₁ (w₁.putObj l (.loop { r with state:=.busy }))) (λ_ _ _=>False))
   { tmps:=(r.params.zip args).foldl (λtmps (t,a)=>tmps.setIfInBounds t a) r.tmps,defers:=[] } W):YieldAt F n P l args W R:=by
 refine ⟨r.fn,_,r.assign,r.body,run_yield hl hs,roundIn_of_wpIn hF (wpIn_mono h ?_)⟩;intro e a₁ w₁ hq
 cases e with
 | normal=>
  obtain ⟨h1,h2⟩:=hq;refine ⟨_,run_beginRound h1 hr,wpIn_mono h2 ?_⟩;intro e₂ a₂ w₂ D6
  cases e₂ with
  | normal=>exact ⟨_,_,run_endRound none D6.1,D6.2⟩
  | ret=>exact ⟨_,_,run_endRound (some .ret) D6.1,D6.2⟩
  | exit id=>exact ⟨_,_,run_endRound (some (.exit id)) D6.1,D6.2⟩
  | goto t=>exact ⟨_,_,run_endRound (some (.goto t)) D6.1,D6.2⟩
  | panic c=>exact D6.elim
  | outgrown=>exact D6.elim
 | ret=>exact hq.elim
 | exit id=>exact hq.elim
 | goto t=>exact hq.elim
 | panic c=>exact hq.elim
 | outgrown=>exact hq.elim
def Ls(l:Nat)(b:Loop)(rc:LoopState->Option Code->Loop)(R:Ending->World->Prop):Exit->Act->World->Prop
 | .normal,_,W=>W.heap[l]?=some (.loop b)/\R (.returned (.bool true)) (W.putObj l (.loop (rc .ready none)))
 | .ret,_,W=>W.heap[l]?=some (.loop b)/\R (.returned (.bool false)) (W.putObj l (.loop (rc .done (some .ret))))
 | .exit id,_,W=>W.heap[l]?=some (.loop b)/\R (.returned (.bool false)) (W.putObj l (.loop (rc .done (some (.exit id)))))
 | .goto t,_,W=>W.heap[l]?=some (.loop b)/\R (.returned (.bool false)) (W.putObj l (.loop (rc .done (some (.goto t)))))
 | .panic _,_,_=>False
 | .outgrown,_,_=>False
theorem gJ(hF:F.fn fn)(hl:W.heap[l]?=some (.loop (mb fn tmps ps assign body D .ready none)))(hs:args.size=ps.size)
  (h:∀(b:Loop) (rc:LoopState->Option Code->Loop),rc=mb fn tmps ps assign body D->assign.wpIn (F.inRound l) n P (Exit.then (λa₁ w₁=>w₁.heap[l]?=some (.loop (rc .ready none))/\body.wpIn (F.inRound l) n P (Ls l b rc R) a₁ (w₁.putObj l (.loop b))) (λ_ _ _=>False))
   { tmps:=(ps.zip args).foldl (λtmps (t,a)=>tmps.setIfInBounds t a) tmps,defers:=[] } W):YieldAt F n P l args W R:=by
 refine P4 hF hl rfl hs (wpIn_mono (h { mb fn tmps ps assign body D .ready none with state:=.busy } _ rfl) ?_);intro e a₁ w₁ hq
 cases e with
 | normal=>
  obtain ⟨h1,h2⟩:=hq;refine ⟨h1,wpIn_mono h2 ?_⟩;intro e₂ a₂ w₂ D6
  cases e₂ with
  | normal=>exact D6
  | ret=>exact D6
  | exit id=>exact D6
  | goto t=>exact D6
  | panic c=>exact D6
  | outgrown=>exact D6
 | ret=>exact hq
 | exit id=>exact hq
 | goto t=>exact hq
 | panic c=>exact hq
 | outgrown=>exact hq
open bu Go.Maps Go.Shelf
variable {a:aP} {T:List UInt8} {rc:Loop} {b f i p q sb sf:Nat} {O O':Nat->Prop} {ρb ρf:Rd} {r:Re} {κ:Type} {E t:TypeId} {w':World}
attribute [local go_sem] Oper.semAt_some
def tN(ρf:Rd)(sf:Nat)(ρb:Rd)(sb:Nat)(text:ByteArray)(f:Nat)(w:World):World:=
 ((w.alloc (fj ρf sf ρb sb)).alloc (.cells #[.string text] 9)).alloc (.cells #[.int .i64 f] 3)
def Tj(q:Nat):Value:=.func (.func 182) #[] #[.pointer (some ⟨q,0,none⟩),.pointer (some ⟨q+1,0,none⟩),.pointer (some ⟨q+1+1,0,none⟩)]
theorem zz(ρf:Rd)(sf:Nat)(ρb:Rd)(sb:Nat)(text:ByteArray)(f:Nat)(w:World):
  Calls Tryz.prog 142 #[yX ρf sf ρb sb,.string text,.int .i64 f] w λe w'=>e=.returned (Tj w.heap.size)/\w'=tN ρf sf ρb sb text f w:=by
 unfold yX;go_enter Tryz.func142,Tryz.ntmps142;go_wp2_with fail;go_ret;exact ⟨rfl,rfl⟩
theorem Lt{o:Bool}(h:¬From r T i)(hs:Seen r T (i+1) p o):Seen r T i p o:=by
 refine ⟨λho=>?_,λho=>?_⟩
 ·obtain ⟨a1,a2,a3,a4⟩:=hs.1 ho;refine ⟨by omega,a2,a3,λj h1 h2=>?_⟩;rcases ed i j with h3|h3
  ·exact a4 j h3 h2
  ·obtain rfl:j=i:=by omega
   exact h
 ·obtain ⟨a1,a2⟩:=hs.2 ho;refine ⟨a1,λj h1=>?_⟩;rcases ed i j with h3|h3
  ·exact a2 j h3
  ·obtain rfl:j=i:=by omega
   exact h
theorem P5(hi:i<=T.length)(h:From r T i):Seen r T i i true:=
 ⟨λ_=>⟨bc _,hi,h,λ_ _ _=>by omega⟩,λh=>by cases h⟩
theorem Hb(hi:T.length<i):Seen r T i 0 false:=
 ⟨λh=>(by cases h),λ_=>⟨rfl,λj h1=>by rintro ⟨k,h2,h3,_⟩;omega⟩⟩
theorem P6{e:Nat}(h:Seen r T f p true)(hl:Bl r T p e):IsMatch r T f (some (p,e)):=by
 obtain ⟨h1,h2,h3,h4⟩:=h.1 rfl;obtain ⟨k1,k2,k3,k4⟩:=hl;refine ⟨h1,k1,k2,?_,h4,k4⟩;rcases k3 with rfl|k3
 ·obtain ⟨j,a1,a2,a3⟩:=h3;rcases ed e j with h|h
  ·exact absurd a3 (k4 j h a2)
  ·obtain rfl:j=e:=by omega
   exact a3
 ·exact k3
structure xh(O:Nat->Prop)(ρf:Rd)(sf:Nat)(ρb:Rd)(sb:Nat)(r:Re)(T:List UInt8)(q:Nat)(rc:Loop)(w:World)(i:Nat)(W:World):Prop where
 seen:∃(p:Nat) (o:Bool),W.heap[q+1]?=some (.cells #[.int .i64 p] 3 (0,0))/\W.heap[q+1+1]?=some (.cells #[.bool o] 4 (0,0))/\Seen r T i p o
 box:W.heap[q]?=some (fj ρf sf ρb sb)
 uF:W.heap[q+6]?=some (.deferred (some []))
 iJ:W.heap[q+6+1]?=some (.loop rc)
 off:aM O w W
structure D7(ρf:Rd)(sf:Nat)(ρb:Rd)(sb:Nat)(text:ByteArray)(f q:Nat)(w V:World):Prop where
 size:V.heap.size=q+6
 below:Below w.heap.size w V
 box:V.heap[q]?=some (fj ρf sf ρb sb)
 start:V.heap[q+1]?=some (.cells #[.int .i64 (0:Nat)] 3 (0,0))
 ok:V.heap[q+1+1]?=some (.cells #[.bool false] 4 (0,0))
 ac4:qT (q+3) (q+3+1) (q+3+1+1) ρf sf ρb sb text f V
theorem six(w:World)(o1 o2 o3 o4 o5 o6:Obj):∀V,V=(((((w.alloc o1).alloc o2).alloc o3).alloc o4).alloc o5).alloc o6->V.heap.size=w.heap.size+6/\Below w.heap.size w V/\V.heap[w.heap.size]?=some o1/\V.heap[w.heap.size+1]?=some o2/\V.heap[w.heap.size+1+1]?=some o3/\V.heap[w.heap.size+3]?=some o4/\V.heap[w.heap.size+3+1]?=some o5/\V.heap[w.heap.size+3+1+1]?=some o6:=by
 rintro V rfl;have h1:=ag w o1;have h2:=ag (w.alloc o1) o2;have h3:=ag ((w.alloc o1).alloc o2) o3;have h4:=ag (((w.alloc o1).alloc o2).alloc o3) o4;have h5:=ag ((((w.alloc o1).alloc o2).alloc o3).alloc o4) o5;have h6:=ag (((((w.alloc o1).alloc o2).alloc o3).alloc o4).alloc o5) o6
 rw[show (w.alloc o1).heap.size=w.heap.size+1 by simp]at h2;rw[show ((w.alloc o1).alloc o2).heap.size=w.heap.size+1+1 by simp]at h3;rw[show (((w.alloc o1).alloc o2).alloc o3).heap.size=w.heap.size+3 by simp]at h4;rw[show ((((w.alloc o1).alloc o2).alloc o3).alloc o4).heap.size=w.heap.size+3+1 by simp]at h5
 rw[show (((((w.alloc o1).alloc o2).alloc o3).alloc o4).alloc o5).heap.size=w.heap.size+3+1+1 by simp]at h6;refine ⟨by simp,?_,af (af (af (af (af h1)))),af (af (af (af h2))),af (af (af h3)),af (af h4),af h5,h6⟩
 exact (((((cq _ _).alloc (by simp) _).alloc (by simp;omega) _).alloc (by simp;omega) _).alloc (by simp;omega) _).alloc (by simp;omega) _
theorem D8(ρf:Rd)(sf:Nat)(ρb:Rd)(sb:Nat)(text:ByteArray)(f:Nat)(w:World)(hT:lC w)(h0:1 < w.heap.size):
  Calls Tryz.prog 142 #[yX ρf sf ρb sb,.string text,.int .i64 f] (((w.alloc (fj ρf sf ρb sb)).alloc (.cells #[.int .i64 0] 3)).alloc (.cells #[.bool false] 4)) λe V=>e=.returned (Tj (w.heap.size+3))/\D7 ρf sf ρb sb text f w.heap.size w V:=by
 refine (zz ρf sf ρb sb text f _).mono ?_;rintro e V ⟨rfl,hV⟩;obtain ⟨h1,h2,h3,h4,h5,h6,h7,h8⟩:=six w _ _ _ _ _ _ V hV;exact ⟨by simp,h1,h2,h3,h4,h5,⟨h6,h7,h8,hT.keep (h2.block _ h0)⟩⟩
def Bv(O:Nat->Prop)(a:aP)(ρf:Rd)(sf:Nat)(ρb:Rd)(sb:Nat)(T:List UInt8)(f:Nat)(w:World)(e:Ending)(w':World):Prop:=
 ∃o,IsMatch a.re T f o/\e=.returned (found o)/\aM O w w'/\∃O',(∀k,O' k->O k∨w.heap.size<=k)/\aS w' O' a ρf sf ρb sb
def xi(q:Nat):Nat->Prop:=λk=>k=q+1∨k=q+1+1∨k=q+6+1
theorem Lu(O:Nat->Prop)(a:aP)(ρf:Rd)(sf:Nat)(ρb:Rd)(sb:Nat)(text:ByteArray)(f q:Nat)(w V:World)(hF:aS w O a ρf sf ρb sb)(hs:f<=text.size)(hsz:text.size<=maxLen)(hq:q=w.heap.size)(hV:D7 ρf sf ρb sb text f q w V)(rc:LoopState->Option Code->Loop)(K:Ending->World->Prop)
  (fZ:∀i A,i<=text.size->From a.re text.data.toList i->xh O ρf sf ρb sb a.re text.data.toList q (rc .ready none) w (i+1) A->YieldAt Fence.wide 3 Tryz.prog (q+6+1) #[.int .i64 i] A λe B=>aM (xi q) A B/\((e=.returned (.bool true)/\xh O ρf sf ρb sb a.re text.data.toList q (rc .ready none) w i B)∨(e=.returned (.bool false)/\False)))
  (hend:∀v W O',(∀k,O' k->O k∨q+8<=k)->aS W O' a ρf sf ρb sb->xh O ρf sf ρb sb a.re text.data.toList q (rc .ready none) w f W->K (.returned v) W):
  CallsIn Fence.wide 4 Tryz.prog 182 #[.func (.yield (q+6+1)) #[] #[],.pointer (some ⟨q+3,0,none⟩),.pointer (some ⟨q+3+1,0,none⟩),.pointer (some ⟨q+3+1+1,0,none⟩)] ((V.alloc (.deferred (some []))).alloc (.loop (rc .ready none))) K:=by
 have UH:∀k,O k->k<q:=λk hk=>by rw[hq];exact hF.old k hk
 have QT:Below V.heap.size V ((V.alloc (.deferred (some []))).alloc (.loop (rc .ready none))):=(cq _ _).alloc (by simp) _;have rq:Below w.heap.size w ((V.alloc (.deferred (some []))).alloc (.loop (rc .ready none))):=hV.below.trans (QT.mono hV.below.size);have hz:((V.alloc (.deferred (some []))).alloc (.loop (rc .ready none))).heap.size=q+8:=by simp[hV.size]
 have hk:∀(k:Nat) o,V.heap[k]?=some o->((V.alloc (.deferred (some []))).alloc (.loop (rc .ready none))).heap[k]?=some o:=λk o h=>(QT.block k (ae h)).trans h
 have hd:((V.alloc (.deferred (some []))).alloc (.loop (rc .ready none))).heap[q+6]?=some (.deferred (some [])):=by have h1:=ag V (.deferred (some []));rw[hV.size]at h1;exact af h1
 have hr:((V.alloc (.deferred (some []))).alloc (.loop (rc .ready none))).heap[q+6+1]?=some (.loop (rc .ready none)):=by have h1:=ag (V.alloc (.deferred (some []))) (.loop (rc .ready none));rw[show (V.alloc (.deferred (some []))).heap.size=q+6+1 by simp[hV.size]]at h1;exact h1
 have GL:=hV.ac4;refine (tF 4 O (xi q) a ρf sf ρb sb text f (q+6+1) (q+3) (q+3+1) (q+3+1+1) (λi W=>xh O ρf sf ρb sb a.re text.data.toList q (rc .ready none) w i W) (λ_ _=>False) _ (hF.below rq) ⟨hk _ _ GL.fin,hk _ _ GL.txt,hk _ _ GL.Yr,GL.tab.keep (QT.block _ (by have:=hF.GQ;have:=hV.size;omega))⟩ hs hsz ?_ ?_ ?_ ?_ ?_ ?_ ?_ ?_ ?_ ?_).mono ?_
 ·rintro k (rfl|rfl|rfl) hO<;>(have:=UH _ hO;omega)
 ·rintro k (rfl|rfl|rfl)<;>(rw[hz];omega)
 ·exact ⟨λhO=>by have:=UH _ hO;omega,by rintro (h|h|h)<;>omega⟩
 ·exact ⟨λhO=>by have:=UH _ hO;omega,by rintro (h|h|h)<;>omega⟩
 ·exact ⟨λhO=>by have:=UH _ hO;omega,by rintro (h|h|h)<;>omega⟩
 ·have:=hF.GQ;rintro (h|h|h)<;>omega
 ·rintro i A B hj aR;rw[hz]at aR;have mJ:∀(k:Nat) o,q<=k->k<q+8->A.heap[k]?=some o->B.heap[k]?=some o:=λk o h1 h2 h=>aR.same h (λhk=>hk.elim (λhO=>by have:=UH _ hO;omega) (λkO=>by omega))
  obtain ⟨p,o,s1,s2,s3⟩:=hj.seen
  exact ⟨⟨p,o,mJ _ _ (by omega) (by omega) s1,mJ _ _ (by omega) (by omega) s2,s3⟩,mJ _ _ (by omega) (by omega) hj.box,mJ _ _ (by omega) (by omega) hj.uF,mJ _ _ (by omega) (by omega) hj.iJ,⟨aR.os.trans hj.off.os,aR.tape.trans hj.off.tape,aR.output.trans hj.off.output,bJ hj.off.size aR.size,λk hk=>(aR.keep k ⟨dw hk.1 hj.off.size,λhh=>hh.elim hk.2 (λkO=>by have:=hk.1;omega)⟩).trans (hj.off.keep k hk),λk c t ht hh=>aR.stay k c t ht (hj.off.stay k c t ht hh)⟩⟩
 ·rintro i A h1 h2 hn hj;obtain ⟨p,o,s1,s2,s3⟩:=hj.seen;exact ⟨⟨p,o,s1,s2,Lt hn s3⟩,hj.box,hj.uF,hj.iJ,hj.off⟩
 ·exact λi A h1 h2 mW hj=>fZ i A h2 mW hj
 ·exact ⟨⟨0,false,hk _ _ hV.start,hk _ _ hV.ok,Hb (by rw[aj];omega)⟩,hk _ _ hV.box,hd,hr,aM.ay rq⟩
 ·rintro e W ⟨⟨v,rfl⟩,⟨O',xy,hF'⟩,hJ|⟨i,hJ⟩⟩
  ·exact hend v W O' (λk hk=>(xy k hk).imp id λh=>by rw[hz]at h;exact h) hF' hJ
  ·exact hJ.elim
theorem Hc{A:World}(hj:xh O ρf sf ρb sb r T q rc w (i+1) A)(hq:q=w.heap.size)(hi:i<=T.length)(mW:From r T i)(rb:Loop):
  ∃(p:Nat) (o:Bool),(A.putObj (q+6+1) (.loop rb)).cell? ⟨q+1,0,none⟩=some (.int .i64 p)/\(A.putObj (q+6+1) (.loop rb)).frozen? ⟨q+1,0,none⟩=false/\(A.putObj (q+6+1) (.loop rb)).cell? ⟨q+1+1,0,none⟩=some (.bool o)/\(A.putObj (q+6+1) (.loop rb)).frozen? ⟨q+1+1,0,none⟩=false /\
   ∀B,B=((A.putObj (q+6+1) (.loop rb)).setCell ⟨q+1,0,none⟩ (.int .i64 i)).setCell ⟨q+1+1,0,none⟩ (.bool true)->B.heap[q+6+1]?=some (.loop rb)/\aM (xi q) A (B.putObj (q+6+1) (.loop rc))/\xh O ρf sf ρb sb r T q rc w i (B.putObj (q+6+1) (.loop rc)):=by
 obtain ⟨p,o,s1,s2,s3⟩:=hj.seen;have hl:=ae hj.iJ;have p1:(A.putObj (q+6+1) (.loop rb)).heap[q+1]?=some (.cells #[.int .i64 p] 3 (0,0)):=(World.putObj_heap_other (by omega)).trans s1;have p2:(A.putObj (q+6+1) (.loop rb)).heap[q+1+1]?=some (.cells #[.bool o] 4 (0,0)):=(World.putObj_heap_other (by omega)).trans s2
 have pl:(A.putObj (q+6+1) (.loop rb)).heap[q+6+1]?=some (.loop rb):=World.putObj_heap_same hl;refine ⟨p,o,by simp[World.cell?,p1],by simp[World.frozen?,p1],by simp[World.cell?,p2],by simp[World.frozen?,p2],?_⟩;rintro B rfl;have q1:=ah _ (q+1) 0 (.int .i64 i) p1
 have q2:((A.putObj (q+6+1) (.loop rb)).setCell ⟨q+1,0,none⟩ (.int .i64 i)).heap[q+1+1]?=some (.cells #[.bool o] 4 (0,0)):=(eV _ _ _ _ (by show q+1+1≠q+1;omega)).trans p2;have t2:=ah _ (q+1+1) 0 (.bool true) q2
 have t1:(((A.putObj (q+6+1) (.loop rb)).setCell ⟨q+1,0,none⟩ (.int .i64 i)).setCell ⟨q+1+1,0,none⟩ (.bool true)).heap[q+1]?=_:=(eV _ _ _ _ (by show q+1≠q+1+1;omega)).trans q1
 have tl:(((A.putObj (q+6+1) (.loop rb)).setCell ⟨q+1,0,none⟩ (.int .i64 i)).setCell ⟨q+1+1,0,none⟩ (.bool true)).heap[q+6+1]?=some (.loop rb):=(eV _ _ _ _ (by show q+6+1≠q+1+1;omega)).trans ((eV _ _ _ _ (by show q+6+1≠q+1;omega)).trans pl)
 have aR:aM (xi q) A ((((A.putObj (q+6+1) (.loop rb)).setCell ⟨q+1,0,none⟩ (.int .i64 i)).setCell ⟨q+1+1,0,none⟩ (.bool true)).putObj (q+6+1) (.loop rc)):=
  (((aM.putObj _ hj.iJ (.inr (.inr rfl))).trans (aM.setCell (p:=⟨q+1,0,none⟩) (.inl rfl) p1 (by decide) _)).trans (aM.setCell (p:=⟨q+1+1,0,none⟩) (.inr (.inl rfl)) q2 (by decide) _)).trans (aM.putObj _ tl (.inr (.inr rfl)))
 have hk:∀(k:Nat) ob,¬xi q k->A.heap[k]?=some ob->((((A.putObj (q+6+1) (.loop rb)).setCell ⟨q+1,0,none⟩ (.int .i64 i)).setCell ⟨q+1+1,0,none⟩ (.bool true)).putObj (q+6+1) (.loop rc)).heap[k]?=some ob:=λk ob h1 h2=>aR.same h2 h1
 refine ⟨tl,aR,⟨i,true,(World.putObj_heap_other (by omega)).trans (by simpa using t1),(World.putObj_heap_other (by omega)).trans (by simpa using t2),P5 hi mW⟩,hk _ _ (by rintro (h|h|h)<;>omega) hj.box,hk _ _ (by rintro (h|h|h)<;>omega) hj.uF,World.putObj_heap_same (ae tl),⟨aR.os.trans hj.off.os,aR.tape.trans hj.off.tape,aR.output.trans hj.off.output,bJ hj.off.size aR.size,λk hk'=>(aR.keep k ⟨dw hk'.1 hj.off.size,?_⟩).trans (hj.off.keep k hk'),λk c t ht hh=>aR.stay k c t ht (hj.off.stay k c t ht hh)⟩⟩
 have:=hk'.1;rintro (h|h|h)<;>omega
theorem Hd(hj:xh O ρf sf ρb sb a.re T q rc w f W)(hq:q=w.heap.size)(hT:lC w)(hF:aS w O a ρf sf ρb sb)(xy:∀k,O' k->O k∨q+8<=k)(hF':aS W O' a ρf sf ρb sb)(ro:Loop):
  ∃W1,W.putObj (q+6+1) (.loop ro)=W1/\∃(p:Nat) (o:Bool),W1.cell? ⟨q+1,0,none⟩=some (.int .i64 p)/\W1.cell? ⟨q+1+1,0,none⟩=some (.bool o)/\Seen a.re T f p o/\W1.heap[q]?=some (fj ρf sf ρb sb)/\W1.heap[q+6]?=some (.deferred (some []))/\aM O w W1/\aS W1 O' a ρf sf ρb sb/\lC W1/\q+8<=W1.heap.size:=by
 obtain ⟨p,o,s1,s2,s3⟩:=hj.seen;have aR:aM (λk=>k=q+6+1) W (W.putObj (q+6+1) (.loop ro)):=aM.putObj _ hj.iJ rfl;have c1:=aR.same s1 (by omega);have c2:=aR.same s2 (by omega)
 have hw:aM O w (W.putObj (q+6+1) (.loop ro)):=⟨aR.os.trans hj.off.os,aR.tape.trans hj.off.tape,aR.output.trans hj.off.output,bJ hj.off.size aR.size,λk hk'=>(aR.keep k ⟨dw hk'.1 hj.off.size,by have:=hk'.1;omega⟩).trans (hj.off.keep k hk'),λk c t ht hh=>aR.stay k c t ht (hj.off.stay k c t ht hh)⟩
 refine ⟨_,rfl,p,o,by simp[World.cell?,c1],by simp[World.cell?,c2],s3,aR.same hj.box (by omega),aR.same hj.uF (by omega),hw,hF'.off aR (λk hk e=>(xy k hk).elim (λh=>by have:=hF.old k h;omega) (λh=>by omega)),?_⟩;exact ⟨hT.keep (hw.keep _ ⟨hF.GQ,hF.tab⟩),by have:=ae hj.iJ;simp;omega⟩
theorem aM.uo{Y:Nat->Prop}{l:Nat}{o':Obj}(o:Obj)(hl:w.heap[l]?=some o')(hn:∀c t fz,o'≠.cells c t fz)(hy:Y l):aM Y w (w.putObj l o):=
 ⟨rfl,rfl,rfl,by simp,λk hk=>World.putObj_heap_other (λe=>hk.2 (e▸hy)),λk c t _ hh=>(World.putObj_heap_other (λe=>by rw[e,hl]at hh;exact hn _ _ _ (Option.some.inj hh))).trans hh⟩
theorem D9{o:Option (Nat×Nat)}(hq:q=w.heap.size)(hm:IsMatch a.re T f o)(hd:W.heap[q+6]?=some (.deferred (some [])))(aR:aM O w W)(hF:aS W O' a ρf sf ρb sb)(xy:∀k,O' k->O k∨q+8<=k)(hO:∀k,O k->k<q):
  Bv O a ρf sf ρb sb T f w (.returned (found o)) (W.putObj (q+6) (.deferred none)):=by
 have h1:aM (λk=>k=q+6) W (W.putObj (q+6) (.deferred none)):=aM.uo _ hd (λ_ _ _ h=>by cases h) rfl
 refine ⟨o,hm,rfl,⟨h1.os.trans aR.os,h1.tape.trans aR.tape,h1.output.trans aR.output,bJ aR.size h1.size,λk hk'=>(h1.keep k ⟨dw hk'.1 aR.size,by have:=hk'.1;omega⟩).trans (aR.keep k hk'),λk c t ht hh=>h1.stay k c t ht (aR.stay k c t ht hh)⟩,O',λk hk=>(xy k hk).imp id λh=>by omega,hF.off h1 λk hk e=>(xy k hk).elim (λh=>by have:=hO k h;omega) (λh=>by omega)⟩
theorem mP(O:Nat->Prop)(a:aP)(ρf:Rd)(sf:Nat)(ρb:Rd)(sb:Nat)(text:ByteArray)(f:Nat)(w:World)(hT:lC w)(hF:aS w O a ρf sf ρb sb)(hs:f<=text.size)(hsz:text.size<=maxLen):
  Calls Tryz.prog 102 #[yX ρf sf ρb sb,.string text,.int .i64 f] w (Bv O a ρf sf ρb sb text.data.toList f w):=by
 have HT:=aa hT;have HF:=aa hF;clear hT hF;refine (callsIn_wide (n:=5)).1 (callsIn_of_wp_marks Tryz.func102 rfl trivial (wpIn_wide.2 ?_));simp only[Tryz.ntmps102,List.size_toArray,fe,List.length_nil,Nat.reduceAdd,Nat.reduceSub,Array.replicate_succ,Array.replicate_zero,List.push_toArray,List.append_toArray,List.nil_append,List.cons_append]
 unfold yX;go_wp2_with fail;refine (D8 ρf sf ρb sb text f w HT.out HF.out.GQ).mono ?_;rintro e V ⟨rfl,hV⟩;obtain ⟨q,hq⟩:∃q,q=w.heap.size:=⟨_,rfl⟩;rw[<-hq]at hV ⊢;have HV:=aa hV;have HQ:=aa hq;clear hV hq;unfold Tj;go_wp2_with fail
 refine (wpIn_wide (n:=5)).1 (jy rfl (by decide) (gf:=182) (lb:=#[.pointer (some ⟨q+3,0,none⟩),.pointer (some ⟨q+3+1,0,none⟩),.pointer (some ⟨q+3+1+1,0,none⟩)]) rfl trivial (enters_of Tryz.func182 (by kernel_rfl) rfl) ?_);intro fn hfn;rw[HV.out.size]
 refine Lu O a ρf sf ρb sb text f q w V HF.out hs hsz HQ.out HV.out (mb fn _ _ _ _ _) _ ?_ ?_
 ·intro i A hi mW hj;have HJ:=aa hj;refine gJ trivial hj.iJ rfl ?_;intro rb rc MA;rw[<-MA]at HJ ⊢;clear hj MA;gi_wp2_with fail;refine ⟨HJ.out.iJ,?_⟩;obtain ⟨p,o,c1,f1,c2,f2,hB⟩:=Hc HJ.out HQ.out (by rw[aj];exact hi) mW rb;have Ch:=aa (hB _ rfl);clear hB;gi_wp2_with fail;exact ⟨Ch.out.1,Ch.out.2.1,.inl ⟨rfl,Ch.out.2.2⟩⟩
 ·intro v W O' xy hF' hj;refine ⟨⟨v,rfl⟩,.inl ⟨hj.iJ,λro=>?_⟩⟩;obtain ⟨W1,hW1,p,o,c1,c2,UI,lp,hdf,aR,gG,Ya,hz8⟩:=Hd hj HQ.out HT.out HF.out xy hF' ro;rw[hW1];have hb0:W1.cell? ⟨q,0,none⟩=some (.int .u64 sf):=by simp[World.cell?,lp,fj]
  have hb1:W1.cell? ⟨q,1,none⟩=some (.func (.func 179) #[] #[.pointer (some ⟨ρf.av,0,none⟩)]):=by simp[World.cell?,lp,fj]
  have hb2:W1.cell? ⟨q,2,none⟩=some (.func (.func 181) #[] #[.pointer (some ⟨ρf.ev,0,none⟩)]):=by simp[World.cell?,lp,fj]
  have hb3:W1.cell? ⟨q,3,none⟩=some (.int .u64 sb):=by simp[World.cell?,lp,fj]
  have hb4:W1.cell? ⟨q,4,none⟩=some (.func (.func 179) #[] #[.pointer (some ⟨ρb.av,0,none⟩)]):=by simp[World.cell?,lp,fj]
  have iq:W1.cell? ⟨q,5,none⟩=some (.func (.func 181) #[] #[.pointer (some ⟨ρb.ev,0,none⟩)]):=by simp[World.cell?,lp,fj]
  have HS:=aa UI;have HD:=aa hdf;have Iy:=aa aR;have kU:=aa gG;have HT1:=aa Ya;have HO:=aa xy;have xw:=aa lp;clear hj hF' hW1 UI hdf aR gG Ya lp xy;dsimp only;have UH:∀k,O k->k<q:=λk hk=>by rw[HQ.out];exact HF.out.old k hk
  have HOQ:=aa UH;clear UH
  cases o with
  | false=>
   have aq:=aa (D9 HQ.out (o:=none) (HS.out.2 rfl).2 HD.out Iy.out kU.out HO.out HOQ.out);go_wp2_with fail;refine ⟨by simp,.inl ⟨_,_,rfl,run_takeDeferred HD.out,?_⟩⟩;exact ⟨_,(by simp[results,Tryz.results102,go_sem];rfl),aq.out⟩
  | true=>
   have TW:p<=text.size:=by have:=(HS.out.1 rfl).2.1;rw[aj]at this;exact this
   have py:=aa (I4 O' a ρf sf ρb sb text p W1.drew HT1.out (kU.out.below (Below.refl _ _).drew) TW hsz);unfold yX at py
   have Xj:=aa (λ(w5:World) (stop:Nat) (h1:aM O' W1.drew w5) (h2:aS w5 (grow O' W1.drew w5) a ρf sf ρb sb) (h3:Bl a.re text.data.toList p stop)=>show (w5.cell? ⟨q+1,0,none⟩=some (.int .i64 p)/\w5.cell? ⟨q,0,none⟩=some (.int .u64 sf)/\w5.cell? ⟨q,1,none⟩=some (.func (.func 179) #[] #[.pointer (some ⟨ρf.av,0,none⟩)])/\w5.cell? ⟨q,2,none⟩=some (.func (.func 181) #[] #[.pointer (some ⟨ρf.ev,0,none⟩)])/\w5.cell? ⟨q,3,none⟩=some (.int .u64 sb)/\w5.cell? ⟨q,4,none⟩=some (.func (.func 179) #[] #[.pointer (some ⟨ρb.av,0,none⟩)])/\w5.cell? ⟨q,5,none⟩=some (.func (.func 181) #[] #[.pointer (some ⟨ρb.ev,0,none⟩)]))/\w5.heap[q+6]?=some (.deferred (some []))/\Bv O a ρf sf ρb sb text.data.toList f w (.returned (found (some (p,stop)))) (w5.putObj (q+6) (.deferred none)) from by
    have hn:∀k,q<=k->k<q+8->¬O' k:=λk ha hb hk=>(HO.out k hk).elim (λh=>by have:=HOQ.out k h;omega) (λh=>by omega)
    have lp:=h1.same xw.out (hn q (by omega) (by omega));have hp:=(World.cell?_of_block (w:=W1) (a:=⟨q+1,0,none⟩) (h1.keep (q+1) ⟨show q+1<W1.heap.size by omega,hn _ (by omega) (by omega)⟩)).trans c1;have hd:=h1.same HD.out (hn (q+6) (by omega) (by omega));have Dr:W1.drew.heap.size=W1.heap.size:=rfl
    refine ⟨⟨hp,by simp[World.cell?,lp,fj],by simp[World.cell?,lp,fj],by simp[World.cell?,lp,fj],by simp[World.cell?,lp,fj],by simp[World.cell?,lp,fj],by simp[World.cell?,lp,fj]⟩,hd,D9 HQ.out (P6 HS.out h3) hd ?_ h2 ?_ HOQ.out⟩
    ·exact ⟨h1.os.trans Iy.out.os,h1.tape.trans Iy.out.tape,h1.output.trans Iy.out.output,bJ Iy.out.size h1.size,λk hk'=>(h1.keep k ⟨dw hk'.1 Iy.out.size,λhk=>(HO.out k hk).elim hk'.2 (λh=>by have:=hk'.1;have:=HQ.out;omega)⟩).trans (Iy.out.keep k hk'),λk c t ht hh=>h1.stay k c t ht (Iy.out.stay k c t ht hh)⟩
    ·intro k hk;rcases hk with hk|hk
     ·exact HO.out k hk
     ·exact .inr (by rw[Dr]at hk;omega))
   go_wp2_with fail
   go_region_held3 (λw'=>w'.cell? ⟨q+1,0,none⟩=some (.int .i64 p)/\w'.cell? ⟨q,0,none⟩=some (.int .u64 sf)/\w'.cell? ⟨q,1,none⟩=some (.func (.func 179) #[] #[.pointer (some ⟨ρf.av,0,none⟩)])/\w'.cell? ⟨q,2,none⟩=some (.func (.func 181) #[] #[.pointer (some ⟨ρf.ev,0,none⟩)])/\w'.cell? ⟨q,3,none⟩=some (.int .u64 sb)/\w'.cell? ⟨q,4,none⟩=some (.func (.func 179) #[] #[.pointer (some ⟨ρb.av,0,none⟩)])/\w'.cell? ⟨q,5,none⟩=some (.func (.func 181) #[] #[.pointer (some ⟨ρb.ev,0,none⟩)]))
    (first
     | with_reducible exact BG
     | go_keep)
    (first
     | (go_at_call 129;refine py.out.mono ?_;rintro e5 w5 ⟨stop,rfl,h51,h52,h53⟩;obtain ⟨BG,hd5,he5⟩:=Xj.out w5 stop h51 h52 h53;have HD5:=aa hd5;have HE5:=aa he5;clear hd5 he5 h51 h52 h53))
   all_goals
    go_wp2_with fail;refine ⟨by simp,.inl ⟨_,_,rfl,run_takeDeferred HD5.out,?_⟩⟩;exact ⟨_,(by simp[results,Tryz.results102,go_sem];rfl),HE5.out⟩
theorem qQ.mZ{ρ:Rd}{st:Nat}(h:qQ w O a ρ st)(hs:w.heap.size<=w'.heap.size)(hk:∀(k:Nat) o,w.heap[k]?=some o->(∀c fz,o≠.cells c 194 fz)->w'.heap[k]?=some o):qQ w' O a ρ st:=by
 obtain ⟨n0,ts,en,hF,hi,hl⟩:=h.full
 have hw:Full w (O7 O w') ρ n0 a ts en:=hF.zg λk hk=>by
  rcases ed k w.heap.size with hlt|kO
  ·exact .inl ⟨hlt,hk.2⟩
  ·exact .inr kO
 exact ⟨λk hk=>dw (h.old k hk) hs,⟨h.tab.1,dw h.tab.2 hs⟩,n0,ts,en,hw.mZ hk,hi,hl⟩
theorem aS.mZ(h:aS w O a ρf sf ρb sb)(hs:w.heap.size<=w'.heap.size)(hk:∀(k:Nat) o,w.heap[k]?=some o->(∀c fz,o≠.cells c 194 fz)->w'.heap[k]?=some o):aS w' O a ρf sf ρb sb:=by obtain ⟨Of,Ob,h1,h2,h3,h4,h5⟩:=h.parts;exact ⟨λk hk=>dw (h.old k hk) hs,h.tab,Of,Ob,h1,h2,h3,h4.mZ hs hk,h5.mZ hs hk⟩
structure FD where
 a:aP
 ρf:Rd
 sf:Nat
 ρb:Rd
 sb:Nat
 O:Nat->Prop
def FD.cells(d:FD):List Value:=[.int .u64 d.sf,.func (.func 179) #[] #[.pointer (some ⟨d.ρf.av,0,none⟩)],.func (.func 181) #[] #[.pointer (some ⟨d.ρf.ev,0,none⟩)],.int .u64 d.sb,.func (.func 179) #[] #[.pointer (some ⟨d.ρb.av,0,none⟩)],.func (.func 181) #[] #[.pointer (some ⟨d.ρb.ev,0,none⟩)]]
structure cV(w:World)(B:Nat)(v:Value)(ds:List FD):Prop where
 row:w.ownsRow B 194 6 v ds.length (ds.flatMap FD.cells)
 each:∀d∈ds,aS w d.O d.a d.ρf d.sf d.ρb d.sb/\∀k,d.O k->B<=k
 apart:∀(i j:Nat) x y k,ds[i]?=some x->ds[j]?=some y->i≠j->x.O k->¬y.O k
 off:∀d∈ds,∀k,v.ownBlock=some k->¬d.O k
theorem cV.nil(w:World)(B:Nat):cV w B (.slice none 0 0) []:=
 ⟨World.ownsRow_nil _ _ _ _,λd hd=>(by simp at hd),λi j x y k h=>(by simp at h),λd hd=>(by simp at hd)⟩
def Jc(rs:List GR)(w:World)(e:Ending)(w':World):Prop:=
 ∃(ao:Option Addr) (n cap:Nat) (ds:List FD),e=.returned (.slice ao n cap)/\n=rs.length/\Below w.heap.size w w'/\ds.map FD.a=rs.map GR.a/\cV w' w.heap.size (.slice ao n cap) ds
theorem cV.snoc{wr w0 w1 w2 w3:World}{B:Nat}{v v':Value}{ds:List FD}(h:cV wr B v ds)(hB:B<=wr.heap.size)(h0:Below wr.heap.size wr w0)(h1:Below w0.heap.size w0 w1)(hF:aS w1 (λk=>w0.heap.size<=k/\k<w1.heap.size) a ρf sf ρb sb)(h2:Below w1.heap.size w1 w2)
  (hrow:w3.ownsRow B 194 6 v' (ds.length+1) (ds.flatMap FD.cells++(FD.mk a ρf sf ρb sb (λk=>w0.heap.size<=k/\k<w1.heap.size)).cells)) (hg:w2.grownBy w3 v.ownBlock) (hv:v'.ownBlock=v.ownBlock∨v'.ownBlock=some w2.heap.size):
  cV w3 B v' (ds++[⟨a,ρf,sf,ρb,sb,λk=>w0.heap.size<=k/\k<w1.heap.size⟩])/\Below B wr w3:=by
 have s0:=h0.size;have s1:=h1.size;have s2:=h2.size;have b12:=h1.trans (h2.mono s1);have b02:=h0.trans (b12.mono s0);have Pd:∀k,v.ownBlock=some k->B<=k/\∃c,wr.heap[k]?=some (.cells c 194 (0,0)):=λk hk=>ar h.row hk
 have hk:∀(k:Nat) o,w2.heap[k]?=some o->(∀c fz,o≠.cells c 194 fz)->w3.heap[k]?=some o:=λk o ho hne=>by refine (hg.block k (ae ho) (λe=>?_)).trans ho;obtain ⟨_,c,hc⟩:=Pd k e.symm;have:=(b02.block k (ae hc)).trans hc;rw[this]at ho;cases ho;exact hne _ _ rfl
 refine ⟨⟨?_,?_,?_,?_⟩,(b02.mono hB).trans ⟨hg.os,hg.tape,hg.output,hg.size,λk hk=>hg.block k (by omega) (λe=>by have:=(Pd k e.symm).1;omega)⟩⟩
 ·simpa using hrow
 ·intro d hd;rcases List.mem_append.1 hd with hd|hd
  ·obtain ⟨e1,e2⟩:=h.each d hd;exact ⟨(e1.below b02).mZ hg.size hk,e2⟩
  ·obtain rfl:=List.mem_singleton.1 hd;exact ⟨(hF.below h2).mZ hg.size hk,λk hk=>by omega⟩
 ·intro i j x y k hx hy nZ hxo hyo;have hold:∀z∈ds,z.O k->k<wr.heap.size:=λz hz hk=>(h.each z hz).1.old k hk
  rcases ed i ds.length with hi|hi
  ·rw[nz hi]at hx;rcases ed j ds.length with hj|hj
   ·rw[nz hj]at hy;exact h.apart i j x y k hx hy nZ hxo hyo
   ·rw[pS hj]at hy;obtain rfl:=List.mem_singleton.1 (bn hy);have h1:=hold x (bn hx) hxo;have h2:w0.heap.size<=k/\k<w1.heap.size:=hyo;omega
  ·rw[pS hi]at hx;obtain rfl:=List.mem_singleton.1 (bn hx);have h2:w0.heap.size<=k/\k<w1.heap.size:=hxo;rcases ed j ds.length with hj|hj
   ·rw[nz hj]at hy;have h1:=hold y (bn hy) hyo;omega
   ·have h3:=az hx;have h4:=az hy;simp at h3 h4;omega
 ·intro d hd k hk ho;rcases List.mem_append.1 hd with hd|hd
  ·have h1:=(h.each d hd).1.old k ho;rcases hv with hv|hv
   ·exact h.off d hd k (hv▸hk) ho
   ·rw[hv]at hk;cases hk;omega
  ·obtain rfl:=List.mem_singleton.1 hd;have h2:w0.heap.size<=k/\k<w1.heap.size:=ho;rcases hv with hv|hv
   ·obtain ⟨_,c,hc⟩:=Pd k (hv▸hk);have:=ae hc;omega
   ·rw[hv]at hk;cases hk;omega
def Jd(rs:List GR)(w:World)(k:Nat)(vf vi:Value)(wr:World):Prop:=
 ∃(j:Nat) (ds:List FD) (ao:Option Addr) (cap:Nat),vi=.int .i64 j/\vf=.slice ao j cap/\j+k=rs.length/\ds.length=j/\ds.map FD.a=(rs.take j).map GR.a/\Below w.heap.size w wr/\cV wr w.heap.size vf ds
theorem Ea(g n cap:Nat)(G:List GS)(i:Nat)(s:GS)(sb:Nat)(w:World)(hT:1 < w.heap.size)(hG:cd w g n cap G)(hs:G[i]?=some s)(GL:w.heap[sb]?=some (.cells #[.slice (some ⟨g,0,none⟩) n cap] 36 (0,0))):
  Calls Tryz.prog 120 #[.int .i64 i,.pointer (some ⟨sb,0,none⟩)] w (Jc s.rs w):=by
 have c0:=aA GL;have hlt:i<n:=by rw[hG.len];exact az hs
 obtain ⟨cn,EG,v,cv,hR⟩:=hG.at_ i s hs;obtain ⟨Z2,rcp,rfl,hR⟩:=hR;have HR:=aa hR;obtain ⟨i0,hi,hz0,hz1,hz3⟩:=info_parts (show (Tryz.prog.info? 194).map (λi=>(i.zero,i.size,i.bytes))=some (some (.agg #[.int .u64 0,.nilFunc,.nilFunc,.int .u64 0,.nilFunc,.nilFunc]),6,48) by kernel_rfl);clear hG cn hs GL hR;go_enter Tryz.func120,Tryz.ntmps120
 go_wp2_with fail;go_loopg [4,13] s.rs.length (λk vf vi wr=>Jd s.rs w k vf vi wr)
 case atStart=>exact ⟨0,[],none,0,rfl,rfl,by omega,rfl,rfl,Below.refl _ _,cV.nil _ _⟩
 case round=>
  obtain ⟨j,ds,ao,Lv,rfl,rfl,hj,hdl,QU,hb,mr⟩:=hrel;by_cases iW:j<s.rs.length
  ·have g1:decide ((j:Int)<(s.rs.length:Int))=true:=cF (by omega);obtain ⟨r,hr⟩:∃r,s.rs[j]?=some r:=⟨_,cB iW⟩;obtain ⟨rg,lg,ln,lc,rfl,BN⟩:=HR.out j r hr;have ac5:=BN.below hb;obtain ⟨k0,k1,k2,k3,k4,ns,e1,e2,e3,e4,e5,e6,e7,e8,-⟩:=ac5;subst e1
   obtain ⟨w0,hw0⟩:∃w0,wr.alloc (.cells #[.int .i64 r.k,.int .i64 r.op,.string r.co,.slice (some ⟨lg,0,none⟩) ns.length lc,.int .i64 r.a.ix] 231)=w0:=⟨_,rfl⟩;have hb0:Below wr.heap.size wr w0:=by rw[<-hw0];exact cq _ _
   have Sj:=aa (wE (.slice (some ⟨lg,0,none⟩) ns.length lc) ns r.a w0 (dw hT (bJ hb.size hb0.size)) (e2.keep λx hx=>hb0.block x (ae (e2.block hx).2.choose_spec)) (e3.world (bN.ay hb0)) (e4.world (bN.ay hb0)) e5 e6 e7 e8 r.a.ix rfl);have HB:=aa hb;have H9:=aa mr;have gZ:=aa hb0;have YV:=aa QU;have HRJ:=aa hr
   have pV:w0.heap[wr.heap.size]?=some (.cells #[.int .i64 r.k,.int .i64 r.op,.string r.co,.slice (some ⟨lg,0,none⟩) ns.length lc,.int .i64 r.a.ix] 231 (0,0)):=by rw[<-hw0];exact ag _ _
   have q3:w0.cell? ⟨wr.heap.size,3,none⟩=some (.slice (some ⟨lg,0,none⟩) ns.length lc):=by simp[World.cell?,pV]
   have q4:w0.cell? ⟨wr.heap.size,4,none⟩=some (.int .i64 r.a.ix):=by simp[World.cell?,pV]
   have hjb:j<=40:=by omega
   clear hb mr hb0 e2 e3 e4 BN QU hr pV;go_wp2_with fail;refine Sj.out.mono ?_;rintro e w1 ⟨ρf,sf,ρb,zN,rfl,fu,gG⟩
   have hb2:Below w1.heap.size w1 (w1.alloc (.cells #[.int .u64 sf,.func (.func 179) #[] #[.pointer (some ⟨ρf.av,0,none⟩)],.func (.func 181) #[] #[.pointer (some ⟨ρf.ev,0,none⟩)],.int .u64 zN,.func (.func 179) #[] #[.pointer (some ⟨ρb.av,0,none⟩)],.func (.func 181) #[] #[.pointer (some ⟨ρb.ev,0,none⟩)]] 194)):=cq _ _
   have bj:=aa (show (w1.alloc (.cells #[.int .u64 sf,.func (.func 179) #[] #[.pointer (some ⟨ρf.av,0,none⟩)],.func (.func 181) #[] #[.pointer (some ⟨ρf.ev,0,none⟩)],.int .u64 zN,.func (.func 179) #[] #[.pointer (some ⟨ρb.av,0,none⟩)],.func (.func 181) #[] #[.pointer (some ⟨ρb.ev,0,none⟩)]] 194)).ownsRow w.heap.size 194 6 (.slice ao j Lv) j (ds.flatMap FD.cells) from by
    have h:=H9.out.row;rw[hdl]at h;exact aI h λx hx=>((gZ.out.trans ((fu.trans (hb2.mono fu.size)).mono gZ.out.size)).block x (by obtain ⟨_,c,hc⟩:=ar h hx;exact ae hc)))
   have ey:=aa (λ(y:Nat) u (h:[.int .u64 sf,.func (.func 179) #[] #[.pointer (some ⟨ρf.av,0,none⟩)],.func (.func 181) #[] #[.pointer (some ⟨ρf.ev,0,none⟩)],.int .u64 zN,.func (.func 179) #[] #[.pointer (some ⟨ρb.av,0,none⟩)],.func (.func 181) #[] #[.pointer (some ⟨ρb.ev,0,none⟩)]][y]?=some u)=>show (w1.alloc (.cells #[.int .u64 sf,.func (.func 179) #[] #[.pointer (some ⟨ρf.av,0,none⟩)],.func (.func 181) #[] #[.pointer (some ⟨ρf.ev,0,none⟩)],.int .u64 zN,.func (.func 179) #[] #[.pointer (some ⟨ρb.av,0,none⟩)],.func (.func 181) #[] #[.pointer (some ⟨ρb.ev,0,none⟩)]] 194)).cell? ((⟨w1.heap.size,0,none⟩:Addr).add y)=some u from aG w1 #[.int .u64 sf,.func (.func 179) #[] #[.pointer (some ⟨ρf.av,0,none⟩)],.func (.func 181) #[] #[.pointer (some ⟨ρf.ev,0,none⟩)],.int .u64 zN,.func (.func 179) #[] #[.pointer (some ⟨ρb.av,0,none⟩)],.func (.func 181) #[] #[.pointer (some ⟨ρb.ev,0,none⟩)]] _ y u h)
   have Mk:=aa (λ(v':Value) (w3:World) (hrow:w3.ownsRow w.heap.size 194 6 v' (j+1) (ds.flatMap FD.cells++[.int .u64 sf,.func (.func 179) #[] #[.pointer (some ⟨ρf.av,0,none⟩)],.func (.func 181) #[] #[.pointer (some ⟨ρf.ev,0,none⟩)],.int .u64 zN,.func (.func 179) #[] #[.pointer (some ⟨ρb.av,0,none⟩)],.func (.func 181) #[] #[.pointer (some ⟨ρb.ev,0,none⟩)]])) (hg:(w1.alloc (.cells #[.int .u64 sf,.func (.func 179) #[] #[.pointer (some ⟨ρf.av,0,none⟩)],.func (.func 181) #[] #[.pointer (some ⟨ρf.ev,0,none⟩)],.int .u64 zN,.func (.func 179) #[] #[.pointer (some ⟨ρb.av,0,none⟩)],.func (.func 181) #[] #[.pointer (some ⟨ρb.ev,0,none⟩)]] 194)).grownBy w3 (Value.slice ao j Lv).ownBlock) (hv:v'.ownBlock=(Value.slice ao j Lv).ownBlock∨v'.ownBlock=some (w1.alloc (.cells #[.int .u64 sf,.func (.func 179) #[] #[.pointer (some ⟨ρf.av,0,none⟩)],.func (.func 181) #[] #[.pointer (some ⟨ρf.ev,0,none⟩)],.int .u64 zN,.func (.func 179) #[] #[.pointer (some ⟨ρb.av,0,none⟩)],.func (.func 181) #[] #[.pointer (some ⟨ρb.ev,0,none⟩)]] 194)).heap.size)=>H9.out.snoc HB.out.size gZ.out fu gG hb2 (by rw[hdl];exact hrow) hg hv)
   have Dr:w.heap.size<=w1.heap.size:=bJ HB.out.size (bJ gZ.out.size fu.size);clear fu gG hb2 Sj;unfold yX
   go_wp2_with (at_builtin;go_loud (refine wpList_append_own_at _ rfl (.tmp 17) (.tmp 21) 237 rfl w.heap.size 194 i0 (.agg #[.int .u64 0,.nilFunc,.nilFunc,.int .u64 0,.nilFunc,.nilFunc]) 6 48 Tryz.underlying237 hi hz0 hz1 hz3 rfl (by decide) (.slice ao j Lv) j (ds.flatMap FD.cells) (by rfl) bj.out ⟨w1.heap.size,0,none⟩ 1 1 [.int .u64 sf,.func (.func 179) #[] #[.pointer (some ⟨ρf.av,0,none⟩)],.func (.func 181) #[] #[.pointer (some ⟨ρf.ev,0,none⟩)],.int .u64 zN,.func (.func 179) #[] #[.pointer (some ⟨ρb.av,0,none⟩)],.func (.func 181) #[] #[.pointer (some ⟨ρb.ev,0,none⟩)]] (by rfl) rfl ey.out (by simp[Value.oneCell']) (by unfold maxLen;omega) (by omega) (by simp;omega) ?_;intro v' w3 hown hg _ hv;have HX:=aa (Mk.out v' w3 hown hg hv);obtain ⟨g',cap',rfl⟩:=aB hown (by omega);clear hown hg hv))
   have HST:=aa (show Jd s.rs w (s.rs.length - (j+1)) (.slice (some ⟨g',0,none⟩) (j+1) cap') (.int .i64 ((j:Int)+1)) w3 from ⟨j+1,_,some ⟨g',0,none⟩,cap',by simp,rfl,by omega,by simp[hdl],by rw[List.map_append,YV.out,List.take_add_one,HRJ.out];simp,HB.out.trans HX.out.2,HX.out.1⟩);have hwr:IntKind.i64.wrap ((j:Int)+1)=(j:Int)+1:=by rw[IntKind.wrap_i64];omega
   clear HX Mk bj ey;go_wp2_with fail;go_roundg (s.rs.length - (j+1))
   case measure=>omega
   case rel=>exact HST.out
  ·have g1:decide (j<s.rs.length)=false:=by simp;omega
   obtain rfl:j=s.rs.length:=by omega
   have aq:=aa (show Jc s.rs w (.returned (.slice ao s.rs.length Lv)) wr from ⟨ao,_,Lv,ds,rfl,rfl,hb,by rw[QU,List.take_length],mr⟩);clear hb mr QU;go_wp2_with fail;go_ret;exact aq.out
def UJ(v:Value):Option (DataW Value×List MemPlace):=some (.held v,[])
def gS{κ:Type}(T:mF κ)(w:World)(b n:Nat)(f:κ->Option Value):Prop:=
 ∃D:DataW Value,w.ownsMap Tryz.prog T.K UJ b n D /\
  ∀x kl,T.ok x->keyOf Tryz.prog T.K (T.kv x)=some kl->Maps.has D kl=(f x).isSome/\∀z,D.atKey kl (.held z)=.held ((f x).getD z)
theorem gS.made(T:mF κ)(w:World):gS T (w.alloc (.map #[] 0)) w.heap.size 0 (λ_=>none):=
 ⟨.map [],World.ownsMap_made w _ _ _,λ_ _ _ _=>⟨rfl,λ_=>rfl⟩⟩
theorem gS.lt{T:mF κ}{f:κ->Option Value}(h:gS T w b n f):b<w.heap.size:=by obtain ⟨D,h,_⟩:=h;exact h.lt
theorem gS.keep{T:mF κ}{f:κ->Option Value}(h:gS T w b n f)(hb:w'.heap[b]?=w.heap[b]?):gS T w' b n f:=by obtain ⟨D,⟨es,clock,h1,h2⟩,h3⟩:=h;exact ⟨D,⟨es,clock,hb.trans h1,h2⟩,h3⟩
theorem gS.obj{T:mF κ}{f:κ->Option Value}(h:gS T w b n f):∃es clock,w.heap[b]?=some (.map es clock):=by obtain ⟨D,⟨es,clock,h1,h2⟩,h3⟩:=h;exact ⟨es,clock,h1⟩
theorem gS.look{T:mF κ}{f:κ->Option Value}(h:gS T w b n f)(ht:Tryz.prog.underlying t=some (.map T.K E)){z:Value}
  (hz:∀w,(zeroValue E).run Tryz.prog w=.ok z w) (x:κ) (hx:T.ok x):
  (Instr.lookup t (.map (some b)) (T.kv x) true).run Tryz.prog w=.ok (.tuple #[(f x).getD z,.bool (f x).isSome]) w:=by
 obtain ⟨D,h1,h2⟩:=h;obtain ⟨kl,mG⟩:=T.key x hx;obtain ⟨v,ps,hrun,hv⟩:=h1.look_ok T.keyed ht (hz w) (zd:=.held z) (zp:=[]) rfl mG;obtain ⟨h3,h4⟩:=h2 x kl hx mG;rw[h4 z]at hv;simp only[UJ,fA,Prod.mk.injEq,DataW.held.injEq]at hv;rw[hrun,h3,hv.1]
theorem gS.store [DecidableEq κ] {T:mF κ}{f:κ->Option Value}(h:gS T w b n f)(ht:Tryz.prog.underlying t=some (.map T.K E))
  (hn:n<1000000000000) (x:κ) (hx:T.ok x) (c:Value):
  ∃w',(Instr.mapUpdate t (.map (some b)) (T.kv x) c).run Tryz.prog w=.ok () w'/\gS T w' b (n+1) (λy=>if y=x then some c else f y)/\w.grownBy w' (some b):=by
 obtain ⟨D,h1,h2⟩:=h;obtain ⟨kl,mG⟩:=T.key x hx;obtain ⟨w',hrun,r1,r2⟩:=h1.update T.keyed ht (by unfold maxLen;omega) mG (d:=.held c) (ps:=[]) rfl;refine ⟨w',hrun,⟨_,r1,?_⟩,r2⟩;have hD:IsMap D:=h1.isMap;have hk:WideAt.IsKeyLit kl:=T.keyed.key mG;intro y ky hy Qw;by_cases e:y=x
 ·subst e;rw[mG]at Qw;cases Qw;simp[has_put_same hD hk,atKey_put_same hD hk]
 ·have hne:ky≠kl:=λe'=>e (T.inj y x kl hy hx (e'▸Qw) mG)
  rw[has_put_other hne];refine ⟨by simpa [e] using (h2 y ky hy Qw).1,λz=>?_⟩;rw[atKey_put_other hne];simpa [e] using (h2 y ky hy Qw).2 z
theorem P7(w:World):(zeroValue 237).run Tryz.prog w=.ok (.slice none 0 0) w:=by kernel_rfl
theorem Lx(K kv wk m:Nat)(f:Nat->Option Value)(i:Nat)(hi:i<=1000000000000)(ao:Option Addr)(n cap:Nat)(w:World)(pP:w.heap[kv]?=some (.cells #[.map (some K)] 276 (0,0)))(hM:gS oq w K m f)(hf:f i=some (.slice ao n cap)):
  Calls Tryz.prog 159 #[.int .i64 i,.pointer (some ⟨kv,0,none⟩),.pointer (some ⟨wk,0,none⟩)] w λe w'=>e=.returned (.slice ao n cap)/\w'=w:=by
 have c0:=aA pP;have hlk:=hM.look (t:=276) Tryz.underlying276 P7 i hi;rw[hf]at hlk;have xR:(Instr.lookup 276 (.map (some K)) (.int .i64 i) true).run Tryz.prog w=.ok (.tuple #[.slice ao n cap,.bool true]) w:=hlk;clear hlk hM hf pP
 go_enter Tryz.func159,Tryz.ntmps159;go_wp2;go_ret;exact ⟨rfl,rfl⟩
def zA(K i m:Nat)(f:Nat->Option Value)(Q:Value->World->Prop)(e:Ending)(w':World):Prop:=
 ∃(ao:Option Addr) (n cap:Nat) (w1:World),e=.returned (.slice ao n cap)/\Q (.slice ao n cap) w1/\gS oq w' K (m+1) (λy=>if y=i then some (.slice ao n cap) else f y)/\w1.grownBy w' (some K)
theorem He(K kv wk m:Nat)(f:Nat->Option Value)(i:Nat)(hi:i<=1000000000000)(P8:Array Value)(Q:Value->World->Prop)(w:World)(pP:w.heap[kv]?=some (.cells #[.map (some K)] 276 (0,0)))(ub:w.heap[wk]?=some (.cells #[.func (.func 120) #[] P8] 169 (0,0)))(hM:gS oq w K m f)(hm:m<1000000000000)(hf:f i=none)
  (hw:Calls Tryz.prog 120 (#[.int .i64 i]++P8) w λe w1=>∃(ao:Option Addr) (n cap:Nat),e=.returned (.slice ao n cap)/\w1.heap[kv]?=some (.cells #[.map (some K)] 276 (0,0))/\w1.heap[K]?=w.heap[K]?/\Q (.slice ao n cap) w1):
  Calls Tryz.prog 159 #[.int .i64 i,.pointer (some ⟨kv,0,none⟩),.pointer (some ⟨wk,0,none⟩)] w (zA K i m f Q):=by
 have c0:=aA pP;have c1:=aA ub;have hlk:=hM.look (t:=276) Tryz.underlying276 P7 i hi;rw[hf]at hlk;have xR:(Instr.lookup 276 (.map (some K)) (.int .i64 i) true).run Tryz.prog w=.ok (.tuple #[.slice none 0 0,.bool false]) w:=hlk;have HM:=aa hM;have HW:=aa hw;clear hlk hM hf pP ub hw
 go_enter Tryz.func159,Tryz.ntmps159;go_wp2_with fail;refine HW.out.mono ?_;rintro e w1 ⟨ao,n,cap,rfl,eY,J4,hq⟩;have k0:=aA eY;obtain ⟨w2,hrun,C2,hg⟩:=(HM.out.keep J4).store (t:=276) Tryz.underlying276 hm i hi (.slice ao n cap)
 have IC:(Instr.mapUpdate 276 (.map (some K)) (.int .i64 i) (.slice ao n cap)).run Tryz.prog w1=.ok () w2:=hrun;have aq:=aa (show zA K i m f Q (.returned (.slice ao n cap)) w2 from ⟨ao,n,cap,w1,rfl,hq,C2,hg⟩);clear eY J4 hq hrun C2 hg HM HW xR c1 c0;go_wp2;go_ret;exact aq.out
theorem P9(w:World):(zeroValue 57).run Tryz.prog w=.ok (.slice none 0 0) w:=by kernel_rfl
theorem Lz(K kv wk m:Nat)(f:Nat->Option Value)(i:Nat)(hi:i<=1000000000000)(ao:Option Addr)(n cap:Nat)(w:World)(pP:w.heap[kv]?=some (.cells #[.map (some K)] 278 (0,0)))(hM:gS oq w K m f)(hf:f i=some (.slice ao n cap)):
  Calls Tryz.prog 160 #[.int .i64 i,.pointer (some ⟨kv,0,none⟩),.pointer (some ⟨wk,0,none⟩)] w λe w'=>e=.returned (.slice ao n cap)/\w'=w:=by
 have c0:=aA pP;have hlk:=hM.look (t:=278) Tryz.underlying278 P9 i hi;rw[hf]at hlk;have xR:(Instr.lookup 278 (.map (some K)) (.int .i64 i) true).run Tryz.prog w=.ok (.tuple #[.slice ao n cap,.bool true]) w:=hlk;clear hlk hM hf pP;go_enter Tryz.func160,Tryz.ntmps160;go_wp2;go_ret
 exact ⟨rfl,rfl⟩
def zB(K i m:Nat)(f:Nat->Option Value)(Q:Value->World->Prop)(e:Ending)(w':World):Prop:=
 ∃(ao:Option Addr) (n cap:Nat) (w1:World),e=.returned (.slice ao n cap)/\Q (.slice ao n cap) w1/\gS oq w' K (m+1) (λy=>if y=i then some (.slice ao n cap) else f y)/\w1.grownBy w' (some K)
theorem Hg(K kv wk m:Nat)(f:Nat->Option Value)(i:Nat)(hi:i<=1000000000000)(P8:Array Value)(Q:Value->World->Prop)(w:World)(pP:w.heap[kv]?=some (.cells #[.map (some K)] 278 (0,0)))(ub:w.heap[wk]?=some (.cells #[.func (.func 124) #[] P8] 239 (0,0)))(hM:gS oq w K m f)(hm:m<1000000000000)(hf:f i=none)
  (hw:Calls Tryz.prog 124 (#[.int .i64 i]++P8) w λe w1=>∃(ao:Option Addr) (n cap:Nat),e=.returned (.slice ao n cap)/\w1.heap[kv]?=some (.cells #[.map (some K)] 278 (0,0))/\w1.heap[K]?=w.heap[K]?/\Q (.slice ao n cap) w1):
  Calls Tryz.prog 160 #[.int .i64 i,.pointer (some ⟨kv,0,none⟩),.pointer (some ⟨wk,0,none⟩)] w (zB K i m f Q):=by
 have c0:=aA pP;have c1:=aA ub;have hlk:=hM.look (t:=278) Tryz.underlying278 P9 i hi;rw[hf]at hlk;have xR:(Instr.lookup 278 (.map (some K)) (.int .i64 i) true).run Tryz.prog w=.ok (.tuple #[.slice none 0 0,.bool false]) w:=hlk;have HM:=aa hM;have HW:=aa hw;clear hlk hM hf pP ub hw
 go_enter Tryz.func160,Tryz.ntmps160;go_wp2_with fail;refine HW.out.mono ?_;rintro e w1 ⟨ao,n,cap,rfl,eY,J4,hq⟩;have k0:=aA eY;obtain ⟨w2,hrun,C2,hg⟩:=(HM.out.keep J4).store (t:=278) Tryz.underlying278 hm i hi (.slice ao n cap)
 have IC:(Instr.mapUpdate 278 (.map (some K)) (.int .i64 i) (.slice ao n cap)).run Tryz.prog w1=.ok () w2:=hrun;have aq:=aa (show zB K i m f Q (.returned (.slice ao n cap)) w2 from ⟨ao,n,cap,w1,rfl,hq,C2,hg⟩);clear eY J4 hq hrun C2 hg HM HW xR c1 c0;go_wp2;go_ret;exact aq.out
end Go.Proofs.YtgncgdkpkkdaeaaGreatDoor
