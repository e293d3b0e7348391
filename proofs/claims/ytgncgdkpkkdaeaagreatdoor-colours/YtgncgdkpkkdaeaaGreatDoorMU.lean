import Derived.RangeFuncNested
import Derived.Test.YtgncgdkpkkdaeaaGreatDoorMT
import Derived.Test.YtgncgdkpkkdaeaaGreatDoorMD
import Derived.Shelf.Abstract
namespace Go.Proofs.YtgncgdkpkkdaeaaGreatDoor
open Go.RowKit
variable {a:Act} {ps:Array Tmp} {args tmps:Array Value} {assign body:Code} {R:Ending->World->Prop} {Q:Exit->Act->World->Prop} {F:Fence} {fn:FuncId} {D l n:Nat} {g:Operand} {P:Program} {W w:World}
def kG(fn:FuncId)(tmps:Array Value)(ps:Array Tmp)(assign body:Code)(D:Nat)(st:LoopState)(pe:Option Code):Loop:={ state:=st,pending:=pe,fn,tmps,params:=ps,assign,body,defers:=D }
def NB(F:Fence)(n:Nat)(P:Program)(Q:Exit->Act->World->Prop)(a:Act)(l:Nat)(rc:LoopState->Option Code->Loop)(e:Ending)(W:World):Prop:=
 (∃v,e=.returned v) /\
  ((W.heap[l]?=some (.loop (rc .ready none))/\∀ro,Q .normal a (W.putObj l (.loop ro))) ∨
   ∃c,W.heap[l]?=some (.loop (rc .done (some c)))/\∀ro,c.wpIn F n P Q a (W.putObj l (.loop ro)))
theorem fE{st:LoopState}{pe:Option Code}(hl:W.heap[l]?=some (.loop (kG fn tmps ps assign body D st pe)))(hs:st≠.busy):(Instr.endLoop l).run P W=.ok pe (W.putObj l (.loop (kG fn tmps ps assign body D .exhausted pe))):=run_endLoop hl hs
theorem iG(hro:F.round=none)(h1:1<=n)
  {gf:Nat} {lb:Array Value} (hg:a.eval g=.func (.func gf) #[] lb) (hFg:F.fn gf) (eg:∀args w,(callFunc gf args).run P w=.ok (.enter gf args) w)
  (h:∀fn,F.fn fn->CallsIn F (n - 1) P gf (#[.func (.yield (w.heap.size+1)) #[] #[]]++lb) ((w.alloc (.deferred (some []))).alloc (.loop (kG fn a.tmps ps assign body w.heap.size .ready none)))
   (NB F n P Q { a with defers:={ target:=.collected w.heap.size,args:=#[] }::a.defers } (w.heap.size+1) (kG fn a.tmps ps assign body w.heap.size))):
  (Code.rangeFunc g ps assign body).wpIn F n P Q a w:=by
 refine wpIn_rangeFunc ?_;intro fn hfn;rw[hro];have ub:=h fn hfn;obtain ⟨W1,hW1⟩:∃W1,(w.alloc (.deferred (some []))).alloc (.loop (kG fn a.tmps ps assign body w.heap.size .ready none))=W1:=⟨_,rfl⟩;rw[hW1]at ub
 refine ⟨w.heap.size+1,[{ target:=.collected w.heap.size,args:=#[] }],W1,{ target:=.fn (.func gf) lb,args:=#[.func (.yield (w.heap.size+1)) #[] #[]] },W1,gf,
  #[.func (.yield (w.heap.size+1)) #[] #[]]++lb,W1,?_,?_,?_,?_,λ_=>h1,?_⟩
 ·rw[<-hW1];exact run_enterLoop_outer _ _ _ _ _
 ·simp only[resolve,hg];simp[go_sem]
 ·intro f' hf';simp[Target.leads]at hf';subst hf';exact hFg
 ·simp[invoke,go_sem,eg]
 ·refine ub.mono ?_;intro e W2 Ka;obtain ⟨⟨v,hv⟩,Ka⟩:=Ka;subst hv;rcases Ka with ⟨hl,hq⟩|⟨c,hl,hq⟩
  ·exact ⟨none,_,fE hl (by decide),hq _⟩
  ·exact ⟨some c,_,fE hl (by decide),hq _⟩
theorem qY{l₀:Nat}{r₀:Loop}(hro:F.round=some l₀)(hl₀:w.heap[l₀]?=some (.loop r₀))(h1:1<=n)
  {gf:Nat} {lb:Array Value} (hg:a.eval g=.func (.func gf) #[] lb) (hFg:F.fn gf) (eg:∀args w,(callFunc gf args).run P w=.ok (.enter gf args) w)
  (h:∀fn,F.fn fn->CallsIn F (n - 1) P gf (#[.func (.yield w.heap.size) #[] #[]]++lb) (w.alloc (.loop (kG fn a.tmps ps assign body r₀.defers .ready none)))
   (NB F n P Q a w.heap.size (kG fn a.tmps ps assign body r₀.defers))):
  (Code.rangeFunc g ps assign body).wpIn F n P Q a w:=by
 refine wpIn_rangeFunc ?_;intro fn hfn;rw[hro];have ub:=h fn hfn;obtain ⟨W1,hW1⟩:∃W1,w.alloc (.loop (kG fn a.tmps ps assign body r₀.defers .ready none))=W1:=⟨_,rfl⟩;rw[hW1]at ub
 refine ⟨w.heap.size,[],W1,{ target:=.fn (.func gf) lb,args:=#[.func (.yield w.heap.size) #[] #[]] },W1,gf,
  #[.func (.yield w.heap.size) #[] #[]]++lb,W1,?_,?_,?_,?_,λ_=>h1,?_⟩
 ·rw[<-hW1];exact run_enterLoop_inner hl₀ _ _ _ _ _
 ·simp only[resolve,hg];simp[go_sem]
 ·intro f' hf';simp[Target.leads]at hf';subst hf';exact hFg
 ·simp[invoke,go_sem,eg]
 ·refine ub.mono ?_;intro e W2 Ka;obtain ⟨⟨v,hv⟩,Ka⟩:=Ka;subst hv;rcases Ka with ⟨hl,hq⟩|⟨c,hl,hq⟩
  ·exact ⟨none,_,fE hl (by decide),hq _⟩
  ·exact ⟨some c,_,fE hl (by decide),hq _⟩
def NC(l:Nat)(r:Loop)(R:Ending->World->Prop):Exit->Act->World->Prop
 | .normal,_,W=>W.heap[l]?=some (.loop { r with state:=.busy })/\R (.returned (.bool true)) (W.putObj l (.loop { r with state:=.ready,pending:=none }))
 | .ret,_,W=>W.heap[l]?=some (.loop { r with state:=.busy })/\R (.returned (.bool false)) (W.putObj l (.loop { r with state:=.done,pending:=some .ret }))
 | .exit id,_,W=>W.heap[l]?=some (.loop { r with state:=.busy })/\R (.returned (.bool false)) (W.putObj l (.loop { r with state:=.done,pending:=some (.exit id) }))
 | .goto t,_,W=>W.heap[l]?=some (.loop { r with state:=.busy })/\R (.returned (.bool false)) (W.putObj l (.loop { r with state:=.done,pending:=some (.goto t) }))
 | .panic _,_,_=>False
 | .outgrown,_,_=>False
theorem ND{r:Loop}(hF:F.fn r.fn)(hl:W.heap[l]?=some (.loop r))(hr:r.state=.ready)(hs:args.size=r.params.size)
  (h:r.assign.wpIn (F.inRound l) n P (Exit.then (λa₁ w₁=>w₁.heap[l]?=some (.loop r)/\r.body.wpIn (F.inRound l) n P (NC l r R) a₁ (w₁.putObj l (.loop { r with state:=.busy }))) (λ_ _ _=>False))
   { tmps:=(r.params.zip args).foldl (λtmps (t,a)=>tmps.setIfInBounds t a) r.tmps,defers:=[] } W):YieldAt F n P l args W R:=by
 refine ⟨r.fn,_,r.assign,r.body,run_yield hl hs,roundIn_of_wpIn hF (wpIn_mono h ?_)⟩;intro e a₁ w₁ hq
 cases e with
 | normal=>
  obtain ⟨h1,h2⟩:=hq;refine ⟨_,run_beginRound h1 hr,wpIn_mono h2 ?_⟩;intro e₂ a₂ w₂ B9
  cases e₂ with
  | normal=>exact ⟨_,_,run_endRound none B9.1,B9.2⟩
  | ret=>exact ⟨_,_,run_endRound (some .ret) B9.1,B9.2⟩
  | exit id=>exact ⟨_,_,run_endRound (some (.exit id)) B9.1,B9.2⟩
  | goto t=>exact ⟨_,_,run_endRound (some (.goto t)) B9.1,B9.2⟩
  | panic c=>exact B9.elim
  | outgrown=>exact B9.elim
 | ret=>exact hq.elim
 | exit id=>exact hq.elim
 | goto t=>exact hq.elim
 | panic c=>exact hq.elim
 | outgrown=>exact hq.elim
def Jo(l:Nat)(b:Loop)(rc:LoopState->Option Code->Loop)(R:Ending->World->Prop):Exit->Act->World->Prop
 | .normal,_,W=>W.heap[l]?=some (.loop b)/\R (.returned (.bool true)) (W.putObj l (.loop (rc .ready none)))
 | .ret,_,W=>W.heap[l]?=some (.loop b)/\R (.returned (.bool false)) (W.putObj l (.loop (rc .done (some .ret))))
 | .exit id,_,W=>W.heap[l]?=some (.loop b)/\R (.returned (.bool false)) (W.putObj l (.loop (rc .done (some (.exit id)))))
 | .goto t,_,W=>W.heap[l]?=some (.loop b)/\R (.returned (.bool false)) (W.putObj l (.loop (rc .done (some (.goto t)))))
 | .panic _,_,_=>False
 | .outgrown,_,_=>False
theorem fK(hF:F.fn fn)(hl:W.heap[l]?=some (.loop (kG fn tmps ps assign body D .ready none)))(hs:args.size=ps.size)
  (h:∀(b:Loop) (rc:LoopState->Option Code->Loop),rc=kG fn tmps ps assign body D->assign.wpIn (F.inRound l) n P (Exit.then (λa₁ w₁=>w₁.heap[l]?=some (.loop (rc .ready none))/\body.wpIn (F.inRound l) n P (Jo l b rc R) a₁ (w₁.putObj l (.loop b))) (λ_ _ _=>False))
   { tmps:=(ps.zip args).foldl (λtmps (t,a)=>tmps.setIfInBounds t a) tmps,defers:=[] } W):YieldAt F n P l args W R:=by
 refine ND hF hl rfl hs (wpIn_mono (h { kG fn tmps ps assign body D .ready none with state:=.busy } _ rfl) ?_);intro e a₁ w₁ hq
 cases e with
 | normal=>
  obtain ⟨h1,h2⟩:=hq;refine ⟨h1,wpIn_mono h2 ?_⟩;intro e₂ a₂ w₂ B9
  cases e₂ with
  | normal=>exact B9
  | ret=>exact B9
  | exit id=>exact B9
  | goto t=>exact B9
  | panic c=>exact B9
  | outgrown=>exact B9
 | ret=>exact hq
 | exit id=>exact hq
 | goto t=>exact hq
 | panic c=>exact hq
 | outgrown=>exact hq
end Go.Proofs.YtgncgdkpkkdaeaaGreatDoor
namespace Go.Proofs.YtgncgdkpkkdaeaaGreatDoor
open Go.RowKit aQ Go.Maps Go.Shelf
variable {a:aM} {T:List UInt8} {rc:Loop} {f i p q sb sf:Nat} {O O':Nat->Prop} {ρb ρf:Rd} {r:Re} {W w:World}
attribute [local go_sem] Oper.semAt_some
def ry(ρf:Rd)(sf:Nat)(ρb:Rd)(sb:Nat)(text:ByteArray)(f:Nat)(w:World):World:=
 ((w.alloc (eB ρf sf ρb sb)).alloc (.cells #[.string text] 9)).alloc (.cells #[.int .i64 f] 3)
def QD(q:Nat):Value:=.func (.func 182) #[] #[.pointer (some ⟨q,0,none⟩),.pointer (some ⟨q+1,0,none⟩),.pointer (some ⟨q+1+1,0,none⟩)]
set_option maxHeartbeats 1000000 in
theorem xy(ρf:Rd)(sf:Nat)(ρb:Rd)(sb:Nat)(text:ByteArray)(f:Nat)(w:World):
  Calls Tryz.prog 142 #[wZ ρf sf ρb sb,.string text,.int .i64 f] w λe w'=>e=.returned (QD w.heap.size)/\w'=ry ρf sf ρb sb text f w:=by
 unfold wZ;go_enter Tryz.func142,Tryz.ntmps142;go_wp2_with fail;go_ret;exact ⟨rfl,rfl⟩
theorem Jp{o:Bool}(h:¬From r T i)(hs:Seen r T (i+1) p o):Seen r T i p o:=by
 refine ⟨λho=>?_,λho=>?_⟩
 ·obtain ⟨a1,a2,a3,a4⟩:=hs.1 ho;refine ⟨by omega,a2,a3,λj h1 h2=>?_⟩;rcases Nat.lt_or_ge i j with h3|h3
  ·exact a4 j h3 h2
  ·obtain rfl:j=i:=by omega
   exact h
 ·obtain ⟨a1,a2⟩:=hs.2 ho;refine ⟨a1,λj h1=>?_⟩;rcases Nat.lt_or_ge i j with h3|h3
  ·exact a2 j h3
  ·obtain rfl:j=i:=by omega
   exact h
theorem NE(hi:i<=T.length)(h:From r T i):Seen r T i i true:=
 ⟨λ_=>⟨Nat.le_refl _,hi,h,λ_ _ _=>by omega⟩,λh=>by cases h⟩
theorem EX(hi:T.length<i):Seen r T i 0 false:=
 ⟨λh=>(by cases h),λ_=>⟨rfl,λj h1=>by rintro ⟨k,h2,h3,_⟩;omega⟩⟩
theorem NF{e:Nat}(h:Seen r T f p true)(hl:yZ r T p e):IsMatch r T f (some (p,e)):=by
 obtain ⟨h1,h2,h3,h4⟩:=h.1 rfl;obtain ⟨k1,k2,k3,k4⟩:=hl;refine ⟨h1,k1,k2,?_,h4,k4⟩;rcases k3 with rfl|k3
 ·obtain ⟨j,a1,a2,a3⟩:=h3;rcases Nat.lt_or_ge e j with h|h
  ·exact absurd a3 (k4 j h a2)
  ·obtain rfl:j=e:=by omega
   exact a3
 ·exact k3
structure uF(O:Nat->Prop)(ρf:Rd)(sf:Nat)(ρb:Rd)(sb:Nat)(r:Re)(T:List UInt8)(q:Nat)(rc:Loop)(w:World)(i:Nat)(W:World):Prop where
 seen:∃(p:Nat) (o:Bool),W.heap[q+1]?=some (.cells #[.int .i64 p] 3 (0,0))/\W.heap[q+1+1]?=some (.cells #[.bool o] 4 (0,0))/\Seen r T i p o
 box:W.heap[q]?=some (eB ρf sf ρb sb)
 sy:W.heap[q+6]?=some (.deferred (some []))
 gQ:W.heap[q+6+1]?=some (.loop rc)
 off:aN O w W
structure Ca(ρf:Rd)(sf:Nat)(ρb:Rd)(sb:Nat)(text:ByteArray)(f q:Nat)(w V:World):Prop where
 size:V.heap.size=q+6
 below:Below w.heap.size w V
 box:V.heap[q]?=some (eB ρf sf ρb sb)
 start:V.heap[q+1]?=some (.cells #[.int .i64 (0:Nat)] 3 (0,0))
 ok:V.heap[q+1+1]?=some (.cells #[.bool false] 4 (0,0))
 abx:pn (q+3) (q+3+1) (q+3+1+1) ρf sf ρb sb text f V
theorem six(w:World)(o1 o2 o3 o4 o5 o6:Obj):∀V,V=(((((w.alloc o1).alloc o2).alloc o3).alloc o4).alloc o5).alloc o6->V.heap.size=w.heap.size+6/\Below w.heap.size w V/\V.heap[w.heap.size]?=some o1/\V.heap[w.heap.size+1]?=some o2/\V.heap[w.heap.size+1+1]?=some o3/\V.heap[w.heap.size+3]?=some o4/\V.heap[w.heap.size+3+1]?=some o5/\V.heap[w.heap.size+3+1+1]?=some o6:=by
 rintro V rfl;have h1:=af w o1;have h2:=af (w.alloc o1) o2;have h3:=af ((w.alloc o1).alloc o2) o3;have h4:=af (((w.alloc o1).alloc o2).alloc o3) o4;have h5:=af ((((w.alloc o1).alloc o2).alloc o3).alloc o4) o5;have h6:=af (((((w.alloc o1).alloc o2).alloc o3).alloc o4).alloc o5) o6
 rw[show (w.alloc o1).heap.size=w.heap.size+1 by simp]at h2;rw[show ((w.alloc o1).alloc o2).heap.size=w.heap.size+1+1 by simp]at h3;rw[show (((w.alloc o1).alloc o2).alloc o3).heap.size=w.heap.size+3 by simp]at h4;rw[show ((((w.alloc o1).alloc o2).alloc o3).alloc o4).heap.size=w.heap.size+3+1 by simp]at h5
 rw[show (((((w.alloc o1).alloc o2).alloc o3).alloc o4).alloc o5).heap.size=w.heap.size+3+1+1 by simp]at h6;refine ⟨by simp,?_,heap_alloc_old (heap_alloc_old (heap_alloc_old (heap_alloc_old (heap_alloc_old h1)))),heap_alloc_old (heap_alloc_old (heap_alloc_old (heap_alloc_old h2))),heap_alloc_old (heap_alloc_old (heap_alloc_old h3)),heap_alloc_old (heap_alloc_old h4),heap_alloc_old h5,h6⟩
 exact ((((((Below.refl _ _).alloc (Nat.le_refl _) _).alloc (by simp) _).alloc (by simp;omega) _).alloc (by simp;omega) _).alloc (by simp;omega) _).alloc (by simp;omega) _
theorem Cb(ρf:Rd)(sf:Nat)(ρb:Rd)(sb:Nat)(text:ByteArray)(f:Nat)(w:World)(hT:kB w)(h0:1 < w.heap.size):
  Calls Tryz.prog 142 #[wZ ρf sf ρb sb,.string text,.int .i64 f] (((w.alloc (eB ρf sf ρb sb)).alloc (.cells #[.int .i64 0] 3)).alloc (.cells #[.bool false] 4)) λe V=>e=.returned (QD (w.heap.size+3))/\Ca ρf sf ρb sb text f w.heap.size w V:=by
 refine (xy ρf sf ρb sb text f _).mono ?_;rintro e V ⟨rfl,hV⟩;obtain ⟨h1,h2,h3,h4,h5,h6,h7,h8⟩:=six w _ _ _ _ _ _ V hV;exact ⟨by simp,h1,h2,h3,h4,h5,⟨h6,h7,h8,hT.keep (h2.block _ h0)⟩⟩
def zh(O:Nat->Prop)(a:aM)(ρf:Rd)(sf:Nat)(ρb:Rd)(sb:Nat)(T:List UInt8)(f:Nat)(w:World)(e:Ending)(w':World):Prop:=
 ∃o,IsMatch a.re T f o/\e=.returned (found o)/\aN O w w'/\∃O',(∀k,O' k->O k∨w.heap.size<=k)/\aO w' O' a ρf sf ρb sb
def uG(q:Nat):Nat->Prop:=λk=>k=q+1∨k=q+1+1∨k=q+6+1
theorem Jq(O:Nat->Prop)(a:aM)(ρf:Rd)(sf:Nat)(ρb:Rd)(sb:Nat)(text:ByteArray)(f q:Nat)(w V:World)(hF:aO w O a ρf sf ρb sb)(hs:f<=text.size)(hsz:text.size<=maxLen)(hq:q=w.heap.size)(hV:Ca ρf sf ρb sb text f q w V)(rc:LoopState->Option Code->Loop)(K:Ending->World->Prop)
  (fj:∀i A,i<=text.size->From a.re text.data.toList i->uF O ρf sf ρb sb a.re text.data.toList q (rc .ready none) w (i+1) A->YieldAt Fence.wide 3 Tryz.prog (q+6+1) #[.int .i64 i] A λe B=>aN (uG q) A B/\((e=.returned (.bool true)/\uF O ρf sf ρb sb a.re text.data.toList q (rc .ready none) w i B)∨(e=.returned (.bool false)/\False)))
  (hend:∀v W O',(∀k,O' k->O k∨q+8<=k)->aO W O' a ρf sf ρb sb->uF O ρf sf ρb sb a.re text.data.toList q (rc .ready none) w f W->K (.returned v) W):
  CallsIn Fence.wide 4 Tryz.prog 182 #[.func (.yield (q+6+1)) #[] #[],.pointer (some ⟨q+3,0,none⟩),.pointer (some ⟨q+3+1,0,none⟩),.pointer (some ⟨q+3+1+1,0,none⟩)] ((V.alloc (.deferred (some []))).alloc (.loop (rc .ready none))) K:=by
 have R7:∀k,O k->k<q:=λk hk=>by rw[hq];exact hF.old k hk
 have Oz:Below V.heap.size V ((V.alloc (.deferred (some []))).alloc (.loop (rc .ready none))):=((Below.refl _ _).alloc (Nat.le_refl _) _).alloc (by simp) _;have pD:Below w.heap.size w ((V.alloc (.deferred (some []))).alloc (.loop (rc .ready none))):=hV.below.trans (Oz.mono hV.below.size);have hz:((V.alloc (.deferred (some []))).alloc (.loop (rc .ready none))).heap.size=q+8:=by simp[hV.size]
 have hk:∀(k:Nat) o,V.heap[k]?=some o->((V.alloc (.deferred (some []))).alloc (.loop (rc .ready none))).heap[k]?=some o:=λk o h=>(Oz.block k (ae h)).trans h
 have hd:((V.alloc (.deferred (some []))).alloc (.loop (rc .ready none))).heap[q+6]?=some (.deferred (some [])):=by have h1:=af V (.deferred (some []));rw[hV.size]at h1;exact heap_alloc_old h1
 have hr:((V.alloc (.deferred (some []))).alloc (.loop (rc .ready none))).heap[q+6+1]?=some (.loop (rc .ready none)):=by have h1:=af (V.alloc (.deferred (some []))) (.loop (rc .ready none));rw[show (V.alloc (.deferred (some []))).heap.size=q+6+1 by simp[hV.size]]at h1;exact h1
 have EB:=hV.abx;refine (q8 4 O (uG q) a ρf sf ρb sb text f (q+6+1) (q+3) (q+3+1) (q+3+1+1) (λi W=>uF O ρf sf ρb sb a.re text.data.toList q (rc .ready none) w i W) (λ_ _=>False) _ (hF.below pD) ⟨hk _ _ EB.fin,hk _ _ EB.txt,hk _ _ EB.VH,EB.tab.keep (Oz.block _ (by have:=hF.EF;have:=hV.size;omega))⟩ hs hsz ?_ ?_ ?_ ?_ ?_ ?_ ?_ ?_ ?_ ?_).mono ?_
 ·rintro k (rfl|rfl|rfl) hO<;>(have:=R7 _ hO;omega)
 ·rintro k (rfl|rfl|rfl)<;>(rw[hz];omega)
 ·exact ⟨λhO=>by have:=R7 _ hO;omega,by rintro (h|h|h)<;>omega⟩
 ·exact ⟨λhO=>by have:=R7 _ hO;omega,by rintro (h|h|h)<;>omega⟩
 ·exact ⟨λhO=>by have:=R7 _ hO;omega,by rintro (h|h|h)<;>omega⟩
 ·have:=hF.EF;rintro (h|h|h)<;>omega
 ·rintro i A B hj aX;rw[hz]at aX;have k9:∀(k:Nat) o,q<=k->k<q+8->A.heap[k]?=some o->B.heap[k]?=some o:=λk o h1 h2 h=>aX.same h (λhk=>hk.elim (λhO=>by have:=R7 _ hO;omega) (λkt=>by omega))
  obtain ⟨p,o,s1,s2,s3⟩:=hj.seen
  exact ⟨⟨p,o,k9 _ _ (by omega) (by omega) s1,k9 _ _ (by omega) (by omega) s2,s3⟩,k9 _ _ (by omega) (by omega) hj.box,k9 _ _ (by omega) (by omega) hj.sy,k9 _ _ (by omega) (by omega) hj.gQ,⟨aX.os.trans hj.off.os,aX.tape.trans hj.off.tape,aX.output.trans hj.off.output,Nat.le_trans hj.off.size aX.size,λk hk=>(aX.keep k ⟨Nat.lt_of_lt_of_le hk.1 hj.off.size,λhh=>hh.elim hk.2 (λkt=>by have:=hk.1;omega)⟩).trans (hj.off.keep k hk),λk c t ht hh=>aX.stay k c t ht (hj.off.stay k c t ht hh)⟩⟩
 ·rintro i A h1 h2 hn hj;obtain ⟨p,o,s1,s2,s3⟩:=hj.seen;exact ⟨⟨p,o,s1,s2,Jp hn s3⟩,hj.box,hj.sy,hj.gQ,hj.off⟩
 ·exact λi A h1 h2 lB hj=>fj i A h2 lB hj
 ·exact ⟨⟨0,false,hk _ _ hV.start,hk _ _ hV.ok,EX (by rw[ag];omega)⟩,hk _ _ hV.box,hd,hr,aN.ar pD⟩
 ·rintro e W ⟨⟨v,rfl⟩,⟨O',uW,hF'⟩,hJ|⟨i,hJ⟩⟩
  ·exact hend v W O' (λk hk=>(uW k hk).imp id λh=>by rw[hz]at h;exact h) hF' hJ
  ·exact hJ.elim
theorem EY{A:World}(hj:uF O ρf sf ρb sb r T q rc w (i+1) A)(hq:q=w.heap.size)(hi:i<=T.length)(lB:From r T i)(rb:Loop):
  ∃(p:Nat) (o:Bool),(A.putObj (q+6+1) (.loop rb)).cell? ⟨q+1,0,none⟩=some (.int .i64 p)/\(A.putObj (q+6+1) (.loop rb)).frozen? ⟨q+1,0,none⟩=false/\(A.putObj (q+6+1) (.loop rb)).cell? ⟨q+1+1,0,none⟩=some (.bool o)/\(A.putObj (q+6+1) (.loop rb)).frozen? ⟨q+1+1,0,none⟩=false /\
   ∀B,B=((A.putObj (q+6+1) (.loop rb)).setCell ⟨q+1,0,none⟩ (.int .i64 i)).setCell ⟨q+1+1,0,none⟩ (.bool true)->B.heap[q+6+1]?=some (.loop rb)/\aN (uG q) A (B.putObj (q+6+1) (.loop rc))/\uF O ρf sf ρb sb r T q rc w i (B.putObj (q+6+1) (.loop rc)):=by
 obtain ⟨p,o,s1,s2,s3⟩:=hj.seen;have hl:=ae hj.gQ;have p1:(A.putObj (q+6+1) (.loop rb)).heap[q+1]?=some (.cells #[.int .i64 p] 3 (0,0)):=(World.putObj_heap_other (by omega)).trans s1;have p2:(A.putObj (q+6+1) (.loop rb)).heap[q+1+1]?=some (.cells #[.bool o] 4 (0,0)):=(World.putObj_heap_other (by omega)).trans s2
 have pl:(A.putObj (q+6+1) (.loop rb)).heap[q+6+1]?=some (.loop rb):=World.putObj_heap_same hl;refine ⟨p,o,by simp[World.cell?,p1],by simp[World.frozen?,p1],by simp[World.cell?,p2],by simp[World.frozen?,p2],?_⟩;rintro B rfl;have q1:=heap_setCell_same _ (q+1) 0 (.int .i64 i) p1
 have q2:((A.putObj (q+6+1) (.loop rb)).setCell ⟨q+1,0,none⟩ (.int .i64 i)).heap[q+1+1]?=some (.cells #[.bool o] 4 (0,0)):=(Below.heap_setCell _ _ _ _ (by show q+1+1≠q+1;omega)).trans p2;have t2:=heap_setCell_same _ (q+1+1) 0 (.bool true) q2
 have t1:(((A.putObj (q+6+1) (.loop rb)).setCell ⟨q+1,0,none⟩ (.int .i64 i)).setCell ⟨q+1+1,0,none⟩ (.bool true)).heap[q+1]?=_:=(Below.heap_setCell _ _ _ _ (by show q+1≠q+1+1;omega)).trans q1
 have tl:(((A.putObj (q+6+1) (.loop rb)).setCell ⟨q+1,0,none⟩ (.int .i64 i)).setCell ⟨q+1+1,0,none⟩ (.bool true)).heap[q+6+1]?=some (.loop rb):=(Below.heap_setCell _ _ _ _ (by show q+6+1≠q+1+1;omega)).trans ((Below.heap_setCell _ _ _ _ (by show q+6+1≠q+1;omega)).trans pl)
 have aX:aN (uG q) A ((((A.putObj (q+6+1) (.loop rb)).setCell ⟨q+1,0,none⟩ (.int .i64 i)).setCell ⟨q+1+1,0,none⟩ (.bool true)).putObj (q+6+1) (.loop rc)):=
  (((aN.putObj _ hj.gQ (.inr (.inr rfl))).trans (aN.setCell (p:=⟨q+1,0,none⟩) (.inl rfl) p1 (by decide) _)).trans (aN.setCell (p:=⟨q+1+1,0,none⟩) (.inr (.inl rfl)) q2 (by decide) _)).trans (aN.putObj _ tl (.inr (.inr rfl)))
 have hk:∀(k:Nat) ob,¬uG q k->A.heap[k]?=some ob->((((A.putObj (q+6+1) (.loop rb)).setCell ⟨q+1,0,none⟩ (.int .i64 i)).setCell ⟨q+1+1,0,none⟩ (.bool true)).putObj (q+6+1) (.loop rc)).heap[k]?=some ob:=λk ob h1 h2=>aX.same h2 h1
 refine ⟨tl,aX,⟨i,true,(World.putObj_heap_other (by omega)).trans (by simpa using t1),(World.putObj_heap_other (by omega)).trans (by simpa using t2),NE hi lB⟩,hk _ _ (by rintro (h|h|h)<;>omega) hj.box,hk _ _ (by rintro (h|h|h)<;>omega) hj.sy,World.putObj_heap_same (ae tl),⟨aX.os.trans hj.off.os,aX.tape.trans hj.off.tape,aX.output.trans hj.off.output,Nat.le_trans hj.off.size aX.size,λk hk'=>(aX.keep k ⟨Nat.lt_of_lt_of_le hk'.1 hj.off.size,?_⟩).trans (hj.off.keep k hk'),λk c t ht hh=>aX.stay k c t ht (hj.off.stay k c t ht hh)⟩⟩
 have:=hk'.1;rintro (h|h|h)<;>omega
theorem EZ(hj:uF O ρf sf ρb sb a.re T q rc w f W)(hq:q=w.heap.size)(hT:kB w)(hF:aO w O a ρf sf ρb sb)(uW:∀k,O' k->O k∨q+8<=k)(hF':aO W O' a ρf sf ρb sb)(ro:Loop):
  ∃W1,W.putObj (q+6+1) (.loop ro)=W1/\∃(p:Nat) (o:Bool),W1.cell? ⟨q+1,0,none⟩=some (.int .i64 p)/\W1.cell? ⟨q+1+1,0,none⟩=some (.bool o)/\Seen a.re T f p o/\W1.heap[q]?=some (eB ρf sf ρb sb)/\W1.heap[q+6]?=some (.deferred (some []))/\aN O w W1/\aO W1 O' a ρf sf ρb sb/\kB W1/\q+8<=W1.heap.size:=by
 obtain ⟨p,o,s1,s2,s3⟩:=hj.seen;have aX:aN (λk=>k=q+6+1) W (W.putObj (q+6+1) (.loop ro)):=aN.putObj _ hj.gQ rfl;have c1:=aX.same s1 (by omega);have c2:=aX.same s2 (by omega)
 have hw:aN O w (W.putObj (q+6+1) (.loop ro)):=⟨aX.os.trans hj.off.os,aX.tape.trans hj.off.tape,aX.output.trans hj.off.output,Nat.le_trans hj.off.size aX.size,λk hk'=>(aX.keep k ⟨Nat.lt_of_lt_of_le hk'.1 hj.off.size,by have:=hk'.1;omega⟩).trans (hj.off.keep k hk'),λk c t ht hh=>aX.stay k c t ht (hj.off.stay k c t ht hh)⟩
 refine ⟨_,rfl,p,o,by simp[World.cell?,c1],by simp[World.cell?,c2],s3,aX.same hj.box (by omega),aX.same hj.sy (by omega),hw,hF'.off aX (λk hk e=>(uW k hk).elim (λh=>by have:=hF.old k h;omega) (λh=>by omega)),?_⟩;exact ⟨hT.keep (hw.keep _ ⟨hF.EF,hF.tab⟩),by have:=ae hj.gQ;simp;omega⟩
theorem aN.rU{Y:Nat->Prop}{l:Nat}{o':Obj}(o:Obj)(hl:w.heap[l]?=some o')(hn:∀c t fz,o'≠.cells c t fz)(hy:Y l):aN Y w (w.putObj l o):=
 ⟨rfl,rfl,rfl,by simp,λk hk=>World.putObj_heap_other (λe=>hk.2 (e▸hy)),λk c t _ hh=>(World.putObj_heap_other (λe=>by rw[e,hl]at hh;exact hn _ _ _ (Option.some.inj hh))).trans hh⟩
theorem Cc{o:Option (Nat×Nat)}(hq:q=w.heap.size)(hm:IsMatch a.re T f o)(hd:W.heap[q+6]?=some (.deferred (some [])))(aX:aN O w W)(hF:aO W O' a ρf sf ρb sb)(uW:∀k,O' k->O k∨q+8<=k)(hO:∀k,O k->k<q):
  zh O a ρf sf ρb sb T f w (.returned (found o)) (W.putObj (q+6) (.deferred none)):=by
 have h1:aN (λk=>k=q+6) W (W.putObj (q+6) (.deferred none)):=aN.rU _ hd (λ_ _ _ h=>by cases h) rfl
 refine ⟨o,hm,rfl,⟨h1.os.trans aX.os,h1.tape.trans aX.tape,h1.output.trans aX.output,Nat.le_trans aX.size h1.size,λk hk'=>(h1.keep k ⟨Nat.lt_of_lt_of_le hk'.1 aX.size,by have:=hk'.1;omega⟩).trans (aX.keep k hk'),λk c t ht hh=>h1.stay k c t ht (aX.stay k c t ht hh)⟩,O',λk hk=>(uW k hk).imp id λh=>by omega,hF.off h1 λk hk e=>(uW k hk).elim (λh=>by have:=hO k h;omega) (λh=>by omega)⟩
set_option maxRecDepth 20000 in
set_option maxHeartbeats 2000000 in
theorem ll(O:Nat->Prop)(a:aM)(ρf:Rd)(sf:Nat)(ρb:Rd)(sb:Nat)(text:ByteArray)(f:Nat)(w:World)(hT:kB w)(hF:aO w O a ρf sf ρb sb)(hs:f<=text.size)(hsz:text.size<=maxLen):
  Calls Tryz.prog 102 #[wZ ρf sf ρb sb,.string text,.int .i64 f] w (zh O a ρf sf ρb sb text.data.toList f w):=by
 have HT:=aa hT;have HF:=aa hF;clear hT hF;refine (callsIn_wide (n:=5)).1 (callsIn_of_wp_marks Tryz.func102 rfl trivial (wpIn_wide.2 ?_));simp only[Tryz.ntmps102,List.size_toArray,List.length_cons,List.length_nil,Nat.reduceAdd,Nat.reduceSub,Array.replicate_succ,Array.replicate_zero,List.push_toArray,List.append_toArray,List.nil_append,List.cons_append]
 unfold wZ;go_wp2_with fail;refine (Cb ρf sf ρb sb text f w HT.out HF.out.EF).mono ?_;rintro e V ⟨rfl,hV⟩;obtain ⟨q,hq⟩:∃q,q=w.heap.size:=⟨_,rfl⟩;rw[<-hq]at hV ⊢;have HV:=aa hV;have HQ:=aa hq;clear hV hq;unfold QD;go_wp2_with fail
 refine (wpIn_wide (n:=5)).1 (iG rfl (by decide) (gf:=182) (lb:=#[.pointer (some ⟨q+3,0,none⟩),.pointer (some ⟨q+3+1,0,none⟩),.pointer (some ⟨q+3+1+1,0,none⟩)]) rfl trivial (enters_of Tryz.func182 (by kernel_rfl) rfl) ?_);intro fn hfn;rw[HV.out.size]
 refine Jq O a ρf sf ρb sb text f q w V HF.out hs hsz HQ.out HV.out (kG fn _ _ _ _ _) _ ?_ ?_
 ·intro i A hi lB hj;have HJ:=aa hj;refine fK trivial hj.gQ rfl ?_;intro rb rc Kn;rw[<-Kn]at HJ ⊢;clear hj Kn;gi_wp2_with fail;refine ⟨HJ.out.gQ,?_⟩;obtain ⟨p,o,c1,f1,c2,f2,hB⟩:=EY HJ.out HQ.out (by rw[ag];exact hi) lB rb;have Fk:=aa (hB _ rfl);clear hB;gi_wp2_with fail;exact ⟨Fk.out.1,Fk.out.2.1,.inl ⟨rfl,Fk.out.2.2⟩⟩
 ·intro v W O' uW hF' hj;refine ⟨⟨v,rfl⟩,.inl ⟨hj.gQ,λro=>?_⟩⟩;obtain ⟨W1,hW1,p,o,c1,c2,R8,j3,hdf,aX,fH,Vt,hz8⟩:=EZ hj HQ.out HT.out HF.out uW hF' ro;rw[hW1];have hb0:W1.cell? ⟨q,0,none⟩=some (.int .u64 sf):=by simp[World.cell?,j3,eB]
  have hb1:W1.cell? ⟨q,1,none⟩=some (.func (.func 179) #[] #[.pointer (some ⟨ρf.av,0,none⟩)]):=by simp[World.cell?,j3,eB]
  have hb2:W1.cell? ⟨q,2,none⟩=some (.func (.func 181) #[] #[.pointer (some ⟨ρf.ev,0,none⟩)]):=by simp[World.cell?,j3,eB]
  have hb3:W1.cell? ⟨q,3,none⟩=some (.int .u64 sb):=by simp[World.cell?,j3,eB]
  have hb4:W1.cell? ⟨q,4,none⟩=some (.func (.func 179) #[] #[.pointer (some ⟨ρb.av,0,none⟩)]):=by simp[World.cell?,j3,eB]
  have gw:W1.cell? ⟨q,5,none⟩=some (.func (.func 181) #[] #[.pointer (some ⟨ρb.ev,0,none⟩)]):=by simp[World.cell?,j3,eB]
  have HS:=aa R8;have HD:=aa hdf;have FM:=aa aX;have jR:=aa fH;have HT1:=aa Vt;have HO:=aa uW;have uU:=aa j3;clear hj hF' hW1 R8 hdf aX fH Vt j3 uW;dsimp only;have R7:∀k,O k->k<q:=λk hk=>by rw[HQ.out];exact HF.out.old k hk
  have HOQ:=aa R7;clear R7
  cases o with
  | false=>
   have ai:=aa (Cc HQ.out (o:=none) (HS.out.2 rfl).2 HD.out FM.out jR.out HO.out HOQ.out);go_wp2_with fail;refine ⟨by simp,.inl ⟨_,_,rfl,run_takeDeferred HD.out,?_⟩⟩;exact ⟨_,(by simp[results,Tryz.results102,go_sem];rfl),ai.out⟩
  | true=>
   have Rl:p<=text.size:=by have:=(HS.out.1 rfl).2.1;rw[ag]at this;exact this
   have nG:=aa (Ge O' a ρf sf ρb sb text p W1.drew HT1.out (jR.out.below (Below.refl _ _).drew) Rl hsz);unfold wZ at nG
   have Uy:=aa (λ(w5:World) (stop:Nat) (h1:aN O' W1.drew w5) (h2:aO w5 (grow O' W1.drew w5) a ρf sf ρb sb) (h3:yZ a.re text.data.toList p stop)=>show (w5.cell? ⟨q+1,0,none⟩=some (.int .i64 p)/\w5.cell? ⟨q,0,none⟩=some (.int .u64 sf)/\w5.cell? ⟨q,1,none⟩=some (.func (.func 179) #[] #[.pointer (some ⟨ρf.av,0,none⟩)])/\w5.cell? ⟨q,2,none⟩=some (.func (.func 181) #[] #[.pointer (some ⟨ρf.ev,0,none⟩)])/\w5.cell? ⟨q,3,none⟩=some (.int .u64 sb)/\w5.cell? ⟨q,4,none⟩=some (.func (.func 179) #[] #[.pointer (some ⟨ρb.av,0,none⟩)])/\w5.cell? ⟨q,5,none⟩=some (.func (.func 181) #[] #[.pointer (some ⟨ρb.ev,0,none⟩)]))/\w5.heap[q+6]?=some (.deferred (some []))/\zh O a ρf sf ρb sb text.data.toList f w (.returned (found (some (p,stop)))) (w5.putObj (q+6) (.deferred none)) from by
    have hn:∀k,q<=k->k<q+8->¬O' k:=λk ha hb hk=>(HO.out k hk).elim (λh=>by have:=HOQ.out k h;omega) (λh=>by omega)
    have j3:=h1.same uU.out (hn q (by omega) (by omega));have hp:=(World.cell?_of_block (w:=W1) (a:=⟨q+1,0,none⟩) (h1.keep (q+1) ⟨show q+1<W1.heap.size by omega,hn _ (by omega) (by omega)⟩)).trans c1;have hd:=h1.same HD.out (hn (q+6) (by omega) (by omega));have Bv:W1.drew.heap.size=W1.heap.size:=rfl
    refine ⟨⟨hp,by simp[World.cell?,j3,eB],by simp[World.cell?,j3,eB],by simp[World.cell?,j3,eB],by simp[World.cell?,j3,eB],by simp[World.cell?,j3,eB],by simp[World.cell?,j3,eB]⟩,hd,Cc HQ.out (NF HS.out h3) hd ?_ h2 ?_ HOQ.out⟩
    ·exact ⟨h1.os.trans FM.out.os,h1.tape.trans FM.out.tape,h1.output.trans FM.out.output,Nat.le_trans FM.out.size h1.size,λk hk'=>(h1.keep k ⟨Nat.lt_of_lt_of_le hk'.1 FM.out.size,λhk=>(HO.out k hk).elim hk'.2 (λh=>by have:=hk'.1;have:=HQ.out;omega)⟩).trans (FM.out.keep k hk'),λk c t ht hh=>h1.stay k c t ht (FM.out.stay k c t ht hh)⟩
    ·intro k hk;rcases hk with hk|hk
     ·exact HO.out k hk
     ·exact .inr (by rw[Bv]at hk;omega))
   go_wp2_with fail
   go_region_held3 (λw'=>w'.cell? ⟨q+1,0,none⟩=some (.int .i64 p)/\w'.cell? ⟨q,0,none⟩=some (.int .u64 sf)/\w'.cell? ⟨q,1,none⟩=some (.func (.func 179) #[] #[.pointer (some ⟨ρf.av,0,none⟩)])/\w'.cell? ⟨q,2,none⟩=some (.func (.func 181) #[] #[.pointer (some ⟨ρf.ev,0,none⟩)])/\w'.cell? ⟨q,3,none⟩=some (.int .u64 sb)/\w'.cell? ⟨q,4,none⟩=some (.func (.func 179) #[] #[.pointer (some ⟨ρb.av,0,none⟩)])/\w'.cell? ⟨q,5,none⟩=some (.func (.func 181) #[] #[.pointer (some ⟨ρb.ev,0,none⟩)]))
    (first
     | with_reducible exact zu
     | go_keep)
    (first
     | (go_at_call 129;refine nG.out.mono ?_;rintro e5 w5 ⟨stop,rfl,h51,h52,h53⟩;obtain ⟨zu,hd5,he5⟩:=Uy.out w5 stop h51 h52 h53;have HD5:=aa hd5;have HE5:=aa he5;clear hd5 he5 h51 h52 h53))
   all_goals
    go_wp2_with fail;refine ⟨by simp,.inl ⟨_,_,rfl,run_takeDeferred HD5.out,?_⟩⟩;exact ⟨_,(by simp[results,Tryz.results102,go_sem];rfl),HE5.out⟩
end Go.Proofs.YtgncgdkpkkdaeaaGreatDoor
namespace Go.Proofs.YtgncgdkpkkdaeaaGreatDoor
open Go.RowKit aQ Go.Maps
variable {a:aM} {b n sb sf:Nat} {O:Nat->Prop} {ρb ρf:Rd} {κ:Type} {E t:TypeId} {w w':World}
theorem pj.lF{ρ:Rd}{st:Nat}(h:pj w O a ρ st)(hs:w.heap.size<=w'.heap.size)(hk:∀(k:Nat) o,w.heap[k]?=some o->(∀c fz,o≠.cells c 194 fz)->w'.heap[k]?=some o):pj w' O a ρ st:=by
 obtain ⟨n0,ts,en,hF,hi,hl⟩:=h.full
 have hw:Full w (ME O w') ρ n0 a ts en:=hF.uo λk hk=>by
  rcases Nat.lt_or_ge k w.heap.size with hlt|kt
  ·exact .inl ⟨hlt,hk.2⟩
  ·exact .inr kt
 exact ⟨λk hk=>Nat.lt_of_lt_of_le (h.old k hk) hs,⟨h.tab.1,Nat.lt_of_lt_of_le h.tab.2 hs⟩,n0,ts,en,hw.lF hk,hi,hl⟩
theorem aO.lF(h:aO w O a ρf sf ρb sb)(hs:w.heap.size<=w'.heap.size)(hk:∀(k:Nat) o,w.heap[k]?=some o->(∀c fz,o≠.cells c 194 fz)->w'.heap[k]?=some o):aO w' O a ρf sf ρb sb:=by obtain ⟨Of,Ob,h1,h2,h3,h4,h5⟩:=h.parts;exact ⟨λk hk=>Nat.lt_of_lt_of_le (h.old k hk) hs,h.tab,Of,Ob,h1,h2,h3,h4.lF hs hk,h5.lF hs hk⟩
structure FD where
 a:aM
 ρf:Rd
 sf:Nat
 ρb:Rd
 sb:Nat
 O:Nat->Prop
def FD.cells(d:FD):List Value:=[.int .u64 d.sf,.func (.func 179) #[] #[.pointer (some ⟨d.ρf.av,0,none⟩)],.func (.func 181) #[] #[.pointer (some ⟨d.ρf.ev,0,none⟩)],.int .u64 d.sb,.func (.func 179) #[] #[.pointer (some ⟨d.ρb.av,0,none⟩)],.func (.func 181) #[] #[.pointer (some ⟨d.ρb.ev,0,none⟩)]]
structure cE(w:World)(B:Nat)(v:Value)(ds:List FD):Prop where
 row:w.ownsRow B 194 6 v ds.length (ds.flatMap FD.cells)
 each:∀d∈ds,aO w d.O d.a d.ρf d.sf d.ρb d.sb/\∀k,d.O k->B<=k
 apart:∀(i j:Nat) x y k,ds[i]?=some x->ds[j]?=some y->i≠j->x.O k->¬y.O k
 off:∀d∈ds,∀k,v.ownBlock=some k->¬d.O k
theorem cE.nil(w:World)(B:Nat):cE w B (.slice none 0 0) []:=
 ⟨World.ownsRow_nil _ _ _ _,λd hd=>(by simp at hd),λi j x y k h=>(by simp at h),λd hd=>(by simp at hd)⟩
def Gn(rs:List GR)(w:World)(e:Ending)(w':World):Prop:=
 ∃(ao:Option Addr) (n cap:Nat) (ds:List FD),e=.returned (.slice ao n cap)/\n=rs.length/\Below w.heap.size w w'/\ds.map FD.a=rs.map GR.a/\cE w' w.heap.size (.slice ao n cap) ds
theorem cE.snoc{wr w0 w1 w2 w3:World}{B:Nat}{v v':Value}{ds:List FD}(h:cE wr B v ds)(hB:B<=wr.heap.size)(h0:Below wr.heap.size wr w0)(h1:Below w0.heap.size w0 w1)(hF:aO w1 (λk=>w0.heap.size<=k/\k<w1.heap.size) a ρf sf ρb sb)(h2:Below w1.heap.size w1 w2)
  (hrow:w3.ownsRow B 194 6 v' (ds.length+1) (ds.flatMap FD.cells++(FD.mk a ρf sf ρb sb (λk=>w0.heap.size<=k/\k<w1.heap.size)).cells)) (hg:w2.grownBy w3 v.ownBlock) (hv:v'.ownBlock=v.ownBlock∨v'.ownBlock=some w2.heap.size):
  cE w3 B v' (ds++[⟨a,ρf,sf,ρb,sb,λk=>w0.heap.size<=k/\k<w1.heap.size⟩])/\Below B wr w3:=by
 have s0:=h0.size;have s1:=h1.size;have s2:=h2.size;have b12:=h1.trans (h2.mono s1);have b02:=h0.trans (b12.mono s0);have MK:∀k,v.ownBlock=some k->B<=k/\∃c,wr.heap[k]?=some (.cells c 194 (0,0)):=λk hk=>aw h.row hk
 have hk:∀(k:Nat) o,w2.heap[k]?=some o->(∀c fz,o≠.cells c 194 fz)->w3.heap[k]?=some o:=λk o ho hne=>by refine (hg.block k (ae ho) (λe=>?_)).trans ho;obtain ⟨_,c,hc⟩:=MK k e.symm;have:=(b02.block k (ae hc)).trans hc;rw[this]at ho;cases ho;exact hne _ _ rfl
 refine ⟨⟨?_,?_,?_,?_⟩,(b02.mono hB).trans ⟨hg.os,hg.tape,hg.output,hg.size,λk hk=>hg.block k (by omega) (λe=>by have:=(MK k e.symm).1;omega)⟩⟩
 ·simpa using hrow
 ·intro d hd;rcases List.mem_append.1 hd with hd|hd
  ·obtain ⟨e1,e2⟩:=h.each d hd;exact ⟨(e1.below b02).lF hg.size hk,e2⟩
  ·obtain rfl:=List.mem_singleton.1 hd;exact ⟨(hF.below h2).lF hg.size hk,λk hk=>by omega⟩
 ·intro i j x y k hx hy vZ hxo hyo;have hold:∀z∈ds,z.O k->k<wr.heap.size:=λz hz hk=>(h.each z hz).1.old k hk
  rcases Nat.lt_or_ge i ds.length with hi|hi
  ·rw[List.getElem?_append_left hi]at hx;rcases Nat.lt_or_ge j ds.length with hj|hj
   ·rw[List.getElem?_append_left hj]at hy;exact h.apart i j x y k hx hy vZ hxo hyo
   ·rw[List.getElem?_append_right hj]at hy;obtain rfl:=List.mem_singleton.1 (List.mem_of_getElem? hy);have h1:=hold x (List.mem_of_getElem? hx) hxo;have h2:w0.heap.size<=k/\k<w1.heap.size:=hyo;omega
  ·rw[List.getElem?_append_right hi]at hx;obtain rfl:=List.mem_singleton.1 (List.mem_of_getElem? hx);have h2:w0.heap.size<=k/\k<w1.heap.size:=hxo;rcases Nat.lt_or_ge j ds.length with hj|hj
   ·rw[List.getElem?_append_left hj]at hy;have h1:=hold y (List.mem_of_getElem? hy) hyo;omega
   ·have h3:=au hx;have h4:=au hy;simp at h3 h4;omega
 ·intro d hd k hk ho;rcases List.mem_append.1 hd with hd|hd
  ·have h1:=(h.each d hd).1.old k ho;rcases hv with hv|hv
   ·exact h.off d hd k (hv▸hk) ho
   ·rw[hv]at hk;cases hk;omega
  ·obtain rfl:=List.mem_singleton.1 hd;have h2:w0.heap.size<=k/\k<w1.heap.size:=ho;rcases hv with hv|hv
   ·obtain ⟨_,c,hc⟩:=MK k (hv▸hk);have:=ae hc;omega
   ·rw[hv]at hk;cases hk;omega
def Gp(rs:List GR)(w:World)(k:Nat)(vf vi:Value)(wr:World):Prop:=
 ∃(j:Nat) (ds:List FD) (ao:Option Addr) (cap:Nat),vi=.int .i64 j/\vf=.slice ao j cap/\j+k=rs.length/\ds.length=j/\ds.map FD.a=(rs.take j).map GR.a/\Below w.heap.size w wr/\cE wr w.heap.size vf ds
set_option maxRecDepth 20000 in
set_option maxHeartbeats 2000000 in
theorem Ce(g n cap:Nat)(G:List GS)(i:Nat)(s:GS)(sb:Nat)(w:World)(hT:1 < w.heap.size)(hG:cP w g n cap G)(hs:G[i]?=some s)(EB:w.heap[sb]?=some (.cells #[.slice (some ⟨g,0,none⟩) n cap] 36 (0,0))):
  Calls Tryz.prog 120 #[.int .i64 i,.pointer (some ⟨sb,0,none⟩)] w (Gn s.rs w):=by
 have c0:=ay EB;have hlt:i<n:=by rw[hG.len];exact au hs
 obtain ⟨cn,CM,v,cv,hR⟩:=hG.at_ i s hs;obtain ⟨Xx,rcp,rfl,hR⟩:=hR;have HR:=aa hR;obtain ⟨i0,hi,hz0,hz1,hz3⟩:=info_parts (show (Tryz.prog.info? 194).map (λi=>(i.zero,i.size,i.bytes))=some (some (.agg #[.int .u64 0,.nilFunc,.nilFunc,.int .u64 0,.nilFunc,.nilFunc]),6,48) by kernel_rfl);clear hG cn hs EB hR;go_enter Tryz.func120,Tryz.ntmps120
 go_wp2_with fail;go_loopg [4,13] s.rs.length (λk vf vi wr=>Gp s.rs w k vf vi wr)
 case atStart=>exact ⟨0,[],none,0,rfl,rfl,by omega,rfl,rfl,Below.refl _ _,cE.nil _ _⟩
 case round=>
  obtain ⟨j,ds,ao,Jr,rfl,rfl,hj,hdl,OA,hb,lp⟩:=hrel;by_cases nD:j<s.rs.length
  ·have g1:decide ((j:Int)<(s.rs.length:Int))=true:=decide_eq_true (by omega);obtain ⟨r,hr⟩:∃r,s.rs[j]?=some r:=⟨_,List.getElem?_eq_getElem nD⟩;obtain ⟨rg,lg,ln,lc,rfl,zD⟩:=HR.out j r hr;have aby:=zD.below hb;obtain ⟨k0,k1,k2,k3,k4,ns,e1,e2,e3,e4,e5,e6,e7,e8,-⟩:=aby;subst e1
   obtain ⟨w0,hw0⟩:∃w0,wr.alloc (.cells #[.int .i64 r.k,.int .i64 r.op,.string r.co,.slice (some ⟨lg,0,none⟩) ns.length lc,.int .i64 r.a.ix] 231)=w0:=⟨_,rfl⟩;have hb0:Below wr.heap.size wr w0:=by rw[<-hw0];exact (Below.refl _ _).alloc (Nat.le_refl _) _
   have PL:=aa (ud (.slice (some ⟨lg,0,none⟩) ns.length lc) ns r.a w0 (Nat.lt_of_lt_of_le hT (Nat.le_trans hb.size hb0.size)) (e2.keep λx hx=>hb0.block x (ae (e2.block hx).2.choose_spec)) (e3.world (bu.ar hb0)) (e4.world (bu.ar hb0)) e5 e6 e7 e8 r.a.ix rfl);have HB:=aa hb;have Fj:=aa lp;have gR:=aa hb0;have Wd:=aa OA;have HRJ:=aa hr
   have oq:w0.heap[wr.heap.size]?=some (.cells #[.int .i64 r.k,.int .i64 r.op,.string r.co,.slice (some ⟨lg,0,none⟩) ns.length lc,.int .i64 r.a.ix] 231 (0,0)):=by rw[<-hw0];exact af _ _
   have q3:w0.cell? ⟨wr.heap.size,3,none⟩=some (.slice (some ⟨lg,0,none⟩) ns.length lc):=by simp[World.cell?,oq]
   have q4:w0.cell? ⟨wr.heap.size,4,none⟩=some (.int .i64 r.a.ix):=by simp[World.cell?,oq]
   have hjb:j<=40:=by omega
   clear hb lp hb0 e2 e3 e4 zD OA hr oq;go_wp2_with fail;refine PL.out.mono ?_;rintro e w1 ⟨ρf,sf,ρb,xN,rfl,eF,fH⟩
   have hb2:Below w1.heap.size w1 (w1.alloc (.cells #[.int .u64 sf,.func (.func 179) #[] #[.pointer (some ⟨ρf.av,0,none⟩)],.func (.func 181) #[] #[.pointer (some ⟨ρf.ev,0,none⟩)],.int .u64 xN,.func (.func 179) #[] #[.pointer (some ⟨ρb.av,0,none⟩)],.func (.func 181) #[] #[.pointer (some ⟨ρb.ev,0,none⟩)]] 194)):=(Below.refl _ _).alloc (Nat.le_refl _) _
   have bE:=aa (show (w1.alloc (.cells #[.int .u64 sf,.func (.func 179) #[] #[.pointer (some ⟨ρf.av,0,none⟩)],.func (.func 181) #[] #[.pointer (some ⟨ρf.ev,0,none⟩)],.int .u64 xN,.func (.func 179) #[] #[.pointer (some ⟨ρb.av,0,none⟩)],.func (.func 181) #[] #[.pointer (some ⟨ρb.ev,0,none⟩)]] 194)).ownsRow w.heap.size 194 6 (.slice ao j Jr) j (ds.flatMap FD.cells) from by
    have h:=Fj.out.row;rw[hdl]at h;exact aJ h λx hx=>((gR.out.trans ((eF.trans (hb2.mono eF.size)).mono gR.out.size)).block x (by obtain ⟨_,c,hc⟩:=aw h hx;exact ae hc)))
   have fp:=aa (λ(y:Nat) u (h:[.int .u64 sf,.func (.func 179) #[] #[.pointer (some ⟨ρf.av,0,none⟩)],.func (.func 181) #[] #[.pointer (some ⟨ρf.ev,0,none⟩)],.int .u64 xN,.func (.func 179) #[] #[.pointer (some ⟨ρb.av,0,none⟩)],.func (.func 181) #[] #[.pointer (some ⟨ρb.ev,0,none⟩)]][y]?=some u)=>show (w1.alloc (.cells #[.int .u64 sf,.func (.func 179) #[] #[.pointer (some ⟨ρf.av,0,none⟩)],.func (.func 181) #[] #[.pointer (some ⟨ρf.ev,0,none⟩)],.int .u64 xN,.func (.func 179) #[] #[.pointer (some ⟨ρb.av,0,none⟩)],.func (.func 181) #[] #[.pointer (some ⟨ρb.ev,0,none⟩)]] 194)).cell? ((⟨w1.heap.size,0,none⟩:Addr).add y)=some u from aF w1 #[.int .u64 sf,.func (.func 179) #[] #[.pointer (some ⟨ρf.av,0,none⟩)],.func (.func 181) #[] #[.pointer (some ⟨ρf.ev,0,none⟩)],.int .u64 xN,.func (.func 179) #[] #[.pointer (some ⟨ρb.av,0,none⟩)],.func (.func 181) #[] #[.pointer (some ⟨ρb.ev,0,none⟩)]] _ y u h)
   have J8:=aa (λ(v':Value) (w3:World) (hrow:w3.ownsRow w.heap.size 194 6 v' (j+1) (ds.flatMap FD.cells++[.int .u64 sf,.func (.func 179) #[] #[.pointer (some ⟨ρf.av,0,none⟩)],.func (.func 181) #[] #[.pointer (some ⟨ρf.ev,0,none⟩)],.int .u64 xN,.func (.func 179) #[] #[.pointer (some ⟨ρb.av,0,none⟩)],.func (.func 181) #[] #[.pointer (some ⟨ρb.ev,0,none⟩)]])) (hg:(w1.alloc (.cells #[.int .u64 sf,.func (.func 179) #[] #[.pointer (some ⟨ρf.av,0,none⟩)],.func (.func 181) #[] #[.pointer (some ⟨ρf.ev,0,none⟩)],.int .u64 xN,.func (.func 179) #[] #[.pointer (some ⟨ρb.av,0,none⟩)],.func (.func 181) #[] #[.pointer (some ⟨ρb.ev,0,none⟩)]] 194)).grownBy w3 (Value.slice ao j Jr).ownBlock) (hv:v'.ownBlock=(Value.slice ao j Jr).ownBlock∨v'.ownBlock=some (w1.alloc (.cells #[.int .u64 sf,.func (.func 179) #[] #[.pointer (some ⟨ρf.av,0,none⟩)],.func (.func 181) #[] #[.pointer (some ⟨ρf.ev,0,none⟩)],.int .u64 xN,.func (.func 179) #[] #[.pointer (some ⟨ρb.av,0,none⟩)],.func (.func 181) #[] #[.pointer (some ⟨ρb.ev,0,none⟩)]] 194)).heap.size)=>Fj.out.snoc HB.out.size gR.out eF fH hb2 (by rw[hdl];exact hrow) hg hv)
   have Bv:w.heap.size<=w1.heap.size:=Nat.le_trans HB.out.size (Nat.le_trans gR.out.size eF.size);clear eF fH hb2 PL;unfold wZ
   go_wp2_with (at_builtin;go_loud (refine wpList_append_own_at _ rfl (.tmp 17) (.tmp 21) 237 rfl w.heap.size 194 i0 (.agg #[.int .u64 0,.nilFunc,.nilFunc,.int .u64 0,.nilFunc,.nilFunc]) 6 48 Tryz.underlying237 hi hz0 hz1 hz3 rfl (by decide) (.slice ao j Jr) j (ds.flatMap FD.cells) (by rfl) bE.out ⟨w1.heap.size,0,none⟩ 1 1 [.int .u64 sf,.func (.func 179) #[] #[.pointer (some ⟨ρf.av,0,none⟩)],.func (.func 181) #[] #[.pointer (some ⟨ρf.ev,0,none⟩)],.int .u64 xN,.func (.func 179) #[] #[.pointer (some ⟨ρb.av,0,none⟩)],.func (.func 181) #[] #[.pointer (some ⟨ρb.ev,0,none⟩)]] (by rfl) rfl fp.out (by simp[Value.oneCell']) (by unfold maxLen;omega) (by omega) (by simp;omega) ?_;intro v' w3 hown hg _ hv;have HX:=aa (J8.out v' w3 hown hg hv);obtain ⟨g',cap',rfl⟩:=aC hown (by omega);clear hown hg hv))
   have HST:=aa (show Gp s.rs w (s.rs.length - (j+1)) (.slice (some ⟨g',0,none⟩) (j+1) cap') (.int .i64 ((j:Int)+1)) w3 from ⟨j+1,_,some ⟨g',0,none⟩,cap',by simp,rfl,by omega,by simp[hdl],by rw[List.map_append,Wd.out,List.take_add_one,HRJ.out];simp,HB.out.trans HX.out.2,HX.out.1⟩);have hwr:IntKind.i64.wrap ((j:Int)+1)=(j:Int)+1:=by rw[IntKind.wrap_i64];omega
   clear HX J8 bE fp;go_wp2_with fail;go_roundg (s.rs.length - (j+1))
   case measure=>omega
   case rel=>exact HST.out
  ·have g1:decide (j<s.rs.length)=false:=by simp;omega
   obtain rfl:j=s.rs.length:=by omega
   have ai:=aa (show Gn s.rs w (.returned (.slice ao s.rs.length Jr)) wr from ⟨ao,_,Jr,ds,rfl,rfl,hb,by rw[OA,List.take_length],lp⟩);clear hb lp OA;go_wp2_with fail;go_ret;exact ai.out
def R9(v:Value):Option (DataW Value×List MemPlace):=some (.held v,[])
def fU{κ:Type}(T:kW κ)(w:World)(b n:Nat)(f:κ->Option Value):Prop:=
 ∃D:DataW Value,w.ownsMap Tryz.prog T.K R9 b n D /\
  ∀x kl,T.ok x->keyOf Tryz.prog T.K (T.kv x)=some kl->Maps.has D kl=(f x).isSome/\∀z,D.atKey kl (.held z)=.held ((f x).getD z)
theorem fU.made(T:kW κ)(w:World):fU T (w.alloc (.map #[] 0)) w.heap.size 0 (λ_=>none):=
 ⟨.map [],World.ownsMap_made w _ _ _,λ_ _ _ _=>⟨rfl,λ_=>rfl⟩⟩
theorem fU.lt{T:kW κ}{f:κ->Option Value}(h:fU T w b n f):b<w.heap.size:=by obtain ⟨D,h,_⟩:=h;exact h.lt
theorem fU.keep{T:kW κ}{f:κ->Option Value}(h:fU T w b n f)(hb:w'.heap[b]?=w.heap[b]?):fU T w' b n f:=by obtain ⟨D,⟨es,clock,h1,h2⟩,h3⟩:=h;exact ⟨D,⟨es,clock,hb.trans h1,h2⟩,h3⟩
theorem fU.obj{T:kW κ}{f:κ->Option Value}(h:fU T w b n f):∃es clock,w.heap[b]?=some (.map es clock):=by obtain ⟨D,⟨es,clock,h1,h2⟩,h3⟩:=h;exact ⟨es,clock,h1⟩
theorem fU.look{T:kW κ}{f:κ->Option Value}(h:fU T w b n f)(ht:Tryz.prog.underlying t=some (.map T.K E)){z:Value}
  (hz:∀w,(zeroValue E).run Tryz.prog w=.ok z w) (x:κ) (hx:T.ok x):
  (Instr.lookup t (.map (some b)) (T.kv x) true).run Tryz.prog w=.ok (.tuple #[(f x).getD z,.bool (f x).isSome]) w:=by
 obtain ⟨D,h1,h2⟩:=h;obtain ⟨kl,kX⟩:=T.key x hx;obtain ⟨v,ps,hrun,hv⟩:=h1.look_ok T.keyed ht (hz w) (zd:=.held z) (zp:=[]) rfl kX;obtain ⟨h3,h4⟩:=h2 x kl hx kX;rw[h4 z]at hv;simp only[R9,Option.some.injEq,Prod.mk.injEq,DataW.held.injEq]at hv;rw[hrun,h3,hv.1]
theorem fU.store [DecidableEq κ] {T:kW κ}{f:κ->Option Value}(h:fU T w b n f)(ht:Tryz.prog.underlying t=some (.map T.K E))
  (hn:n<1000000000000) (x:κ) (hx:T.ok x) (c:Value):
  ∃w',(Instr.mapUpdate t (.map (some b)) (T.kv x) c).run Tryz.prog w=.ok () w'/\fU T w' b (n+1) (λy=>if y=x then some c else f y)/\w.grownBy w' (some b):=by
 obtain ⟨D,h1,h2⟩:=h;obtain ⟨kl,kX⟩:=T.key x hx;obtain ⟨w',hrun,r1,r2⟩:=h1.update T.keyed ht (by unfold maxLen;omega) kX (d:=.held c) (ps:=[]) rfl;refine ⟨w',hrun,⟨_,r1,?_⟩,r2⟩;have hD:IsMap D:=h1.isMap;have hk:WideAt.IsKeyLit kl:=T.keyed.key kX;intro y ky hy N7;by_cases e:y=x
 ·subst e;rw[kX]at N7;cases N7;simp[has_put_same hD hk,atKey_put_same hD hk]
 ·have hne:ky≠kl:=λe'=>e (T.inj y x kl hy hx (e'▸N7) kX)
  rw[has_put_other hne];refine ⟨by simpa [e] using (h2 y ky hy N7).1,λz=>?_⟩;rw[atKey_put_other hne];simpa [e] using (h2 y ky hy N7).2 z
theorem NG(w:World):(zeroValue 237).run Tryz.prog w=.ok (.slice none 0 0) w:=by kernel_rfl
set_option maxRecDepth 20000 in
set_option maxHeartbeats 1000000 in
theorem Js(K kv wk m:Nat)(f:Nat->Option Value)(i:Nat)(hi:i<=1000000000000)(ao:Option Addr)(n cap:Nat)(w:World)(od:w.heap[kv]?=some (.cells #[.map (some K)] 276 (0,0)))(hM:fU mE w K m f)(hf:f i=some (.slice ao n cap)):
  Calls Tryz.prog 159 #[.int .i64 i,.pointer (some ⟨kv,0,none⟩),.pointer (some ⟨wk,0,none⟩)] w λe w'=>e=.returned (.slice ao n cap)/\w'=w:=by
 have c0:=ay od;have hlk:=hM.look (t:=276) Tryz.underlying276 NG i hi;rw[hf]at hlk;have vG:(Instr.lookup 276 (.map (some K)) (.int .i64 i) true).run Tryz.prog w=.ok (.tuple #[.slice ao n cap,.bool true]) w:=hlk;clear hlk hM hf od
 go_enter Tryz.func159,Tryz.ntmps159;go_wp2;go_ret;exact ⟨rfl,rfl⟩
def xz(K i m:Nat)(f:Nat->Option Value)(Q:Value->World->Prop)(e:Ending)(w':World):Prop:=
 ∃(ao:Option Addr) (n cap:Nat) (w1:World),e=.returned (.slice ao n cap)/\Q (.slice ao n cap) w1/\fU mE w' K (m+1) (λy=>if y=i then some (.slice ao n cap) else f y)/\w1.grownBy w' (some K)
set_option maxRecDepth 20000 in
set_option maxHeartbeats 1000000 in
theorem E0(K kv wk m:Nat)(f:Nat->Option Value)(i:Nat)(hi:i<=1000000000000)(NH:Array Value)(Q:Value->World->Prop)(w:World)(od:w.heap[kv]?=some (.cells #[.map (some K)] 276 (0,0)))(vF:w.heap[wk]?=some (.cells #[.func (.func 120) #[] NH] 169 (0,0)))(hM:fU mE w K m f)(hm:m<1000000000000)(hf:f i=none)
  (hw:Calls Tryz.prog 120 (#[.int .i64 i]++NH) w λe w1=>∃(ao:Option Addr) (n cap:Nat),e=.returned (.slice ao n cap)/\w1.heap[kv]?=some (.cells #[.map (some K)] 276 (0,0))/\w1.heap[K]?=w.heap[K]?/\Q (.slice ao n cap) w1):
  Calls Tryz.prog 159 #[.int .i64 i,.pointer (some ⟨kv,0,none⟩),.pointer (some ⟨wk,0,none⟩)] w (xz K i m f Q):=by
 have c0:=ay od;have c1:=ay vF;have hlk:=hM.look (t:=276) Tryz.underlying276 NG i hi;rw[hf]at hlk;have vG:(Instr.lookup 276 (.map (some K)) (.int .i64 i) true).run Tryz.prog w=.ok (.tuple #[.slice none 0 0,.bool false]) w:=hlk;have HM:=aa hM;have HW:=aa hw;clear hlk hM hf od vF hw
 go_enter Tryz.func159,Tryz.ntmps159;go_wp2_with fail;refine HW.out.mono ?_;rintro e w1 ⟨ao,n,cap,rfl,ey,Hq,hq⟩;have k0:=ay ey;obtain ⟨w2,hrun,AY,hg⟩:=(HM.out.keep Hq).store (t:=276) Tryz.underlying276 hm i hi (.slice ao n cap)
 have FP:(Instr.mapUpdate 276 (.map (some K)) (.int .i64 i) (.slice ao n cap)).run Tryz.prog w1=.ok () w2:=hrun;have ai:=aa (show xz K i m f Q (.returned (.slice ao n cap)) w2 from ⟨ao,n,cap,w1,rfl,hq,AY,hg⟩);clear ey Hq hq hrun AY hg HM HW vG c1 c0;go_wp2;go_ret;exact ai.out
theorem NI(w:World):(zeroValue 57).run Tryz.prog w=.ok (.slice none 0 0) w:=by kernel_rfl
set_option maxRecDepth 20000 in
set_option maxHeartbeats 1000000 in
theorem Jt(K kv wk m:Nat)(f:Nat->Option Value)(i:Nat)(hi:i<=1000000000000)(ao:Option Addr)(n cap:Nat)(w:World)(od:w.heap[kv]?=some (.cells #[.map (some K)] 278 (0,0)))(hM:fU mE w K m f)(hf:f i=some (.slice ao n cap)):
  Calls Tryz.prog 160 #[.int .i64 i,.pointer (some ⟨kv,0,none⟩),.pointer (some ⟨wk,0,none⟩)] w λe w'=>e=.returned (.slice ao n cap)/\w'=w:=by
 have c0:=ay od;have hlk:=hM.look (t:=278) Tryz.underlying278 NI i hi;rw[hf]at hlk;have vG:(Instr.lookup 278 (.map (some K)) (.int .i64 i) true).run Tryz.prog w=.ok (.tuple #[.slice ao n cap,.bool true]) w:=hlk;clear hlk hM hf od;go_enter Tryz.func160,Tryz.ntmps160;go_wp2;go_ret
 exact ⟨rfl,rfl⟩
def xA(K i m:Nat)(f:Nat->Option Value)(Q:Value->World->Prop)(e:Ending)(w':World):Prop:=
 ∃(ao:Option Addr) (n cap:Nat) (w1:World),e=.returned (.slice ao n cap)/\Q (.slice ao n cap) w1/\fU mE w' K (m+1) (λy=>if y=i then some (.slice ao n cap) else f y)/\w1.grownBy w' (some K)
set_option maxRecDepth 20000 in
set_option maxHeartbeats 1000000 in
theorem E3(K kv wk m:Nat)(f:Nat->Option Value)(i:Nat)(hi:i<=1000000000000)(NH:Array Value)(Q:Value->World->Prop)(w:World)(od:w.heap[kv]?=some (.cells #[.map (some K)] 278 (0,0)))(vF:w.heap[wk]?=some (.cells #[.func (.func 124) #[] NH] 239 (0,0)))(hM:fU mE w K m f)(hm:m<1000000000000)(hf:f i=none)
  (hw:Calls Tryz.prog 124 (#[.int .i64 i]++NH) w λe w1=>∃(ao:Option Addr) (n cap:Nat),e=.returned (.slice ao n cap)/\w1.heap[kv]?=some (.cells #[.map (some K)] 278 (0,0))/\w1.heap[K]?=w.heap[K]?/\Q (.slice ao n cap) w1):
  Calls Tryz.prog 160 #[.int .i64 i,.pointer (some ⟨kv,0,none⟩),.pointer (some ⟨wk,0,none⟩)] w (xA K i m f Q):=by
 have c0:=ay od;have c1:=ay vF;have hlk:=hM.look (t:=278) Tryz.underlying278 NI i hi;rw[hf]at hlk;have vG:(Instr.lookup 278 (.map (some K)) (.int .i64 i) true).run Tryz.prog w=.ok (.tuple #[.slice none 0 0,.bool false]) w:=hlk;have HM:=aa hM;have HW:=aa hw;clear hlk hM hf od vF hw
 go_enter Tryz.func160,Tryz.ntmps160;go_wp2_with fail;refine HW.out.mono ?_;rintro e w1 ⟨ao,n,cap,rfl,ey,Hq,hq⟩;have k0:=ay ey;obtain ⟨w2,hrun,AY,hg⟩:=(HM.out.keep Hq).store (t:=278) Tryz.underlying278 hm i hi (.slice ao n cap)
 have FP:(Instr.mapUpdate 278 (.map (some K)) (.int .i64 i) (.slice ao n cap)).run Tryz.prog w1=.ok () w2:=hrun;have ai:=aa (show xA K i m f Q (.returned (.slice ao n cap)) w2 from ⟨ao,n,cap,w1,rfl,hq,AY,hg⟩);clear ey Hq hq hrun AY hg HM HW vG c1 c0;go_wp2;go_ret;exact ai.out
end Go.Proofs.YtgncgdkpkkdaeaaGreatDoor
