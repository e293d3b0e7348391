import Derived.Test.YtgncgdkpkkdaeaaGreatDoorAH
import Derived.Test.YtgncgdkpkkdaeaaGreatDoorAS13
import Derived.Maps.OwnIn
set_option maxRecDepth 20000
set_option maxHeartbeats 2000000
namespace Go.Proofs.YtgncgdkpkkdaeaaGreatDoor
open Go.RowKit bu Go.Maps
variable {B k:Nat} {v v':Value} {w w' w3:World}
def Sp.cells(x:Sp):List Value:=[.int .i64 x.fr,.int .i64 x.to,.string x.nm,.int .i64 x.jL,.string x.co]
def ck(w:World)(B:Nat)(v:Value)(bh:List Sp):Prop:=w.ownsRow B 70 5 v bh.length (bh.flatMap Sp.cells)
structure LE where
 st:List Nat
 sv:Value
 bh:List Sp
def LE.cells(x:LE):List Value:=aL x.st++[x.sv]
def LE.pr(x:LE):List Nat×List Sp:=(x.st,x.bh)
structure cL(w:World)(B:Nat)(v:Value)(ls:List LE):Prop where
 row:w.ownsRow B 151 10 v ls.length (ls.flatMap LE.cells)
 each:∀x∈ls,x.st.length<=8/\ck w B x.sv x.bh
def iE(v:Value)(ls:List LE)(k:Nat):Prop:=v.ownBlock≠some k/\∀x∈ls,x.sv.ownBlock≠some k
theorem cL.nil(w:World)(B:Nat):cL w B (.slice none 0 0) []:=⟨World.ownsRow_nil _ _ _ _,λx hx=>by simp at hx⟩
variable {ls:List LE}
theorem cL.off{Y:Nat->Prop}(h:cL w B v ls)(ho:aM Y w w')(hy:∀k,Y k->iE v ls k):cL w' B v ls:=
 ⟨aI h.row λk hk=>by obtain ⟨_,c,hc⟩:=ar h.row hk;rw[hc];exact ho.same hc (λe=>(hy k e).1 hk),λx hx=>⟨(h.each x hx).1,aI (h.each x hx).2 λk hk=>by obtain ⟨_,c,hc⟩:=ar (h.each x hx).2 hk;rw[hc];exact ho.same hc (λe=>(hy k e).2 x hx hk)⟩⟩
theorem cL.below(h:cL w B v ls)(hb:Below w.heap.size w w'):cL w' B v ls:=
 h.off (Y:=λ_=>False) (aM.ay hb) (λ_ h=>h.elim)
theorem cL.free(h:cL w B v ls)(hk:k<B∨w.heap.size<=k):iE v ls k:=by
 refine ⟨λe=>?_,λx hx e=>?_⟩
 ·obtain ⟨h1,c,hc⟩:=ar h.row e;have:=ae hc;omega
 ·obtain ⟨h1,c,hc⟩:=ar (h.each x hx).2 e;have:=ae hc;omega
theorem cL.other(h:cL w B v ls){o:Obj}(hk:w.heap[k]?=some o)(ho:∀c,o≠.cells c 151 (0,0)/\o≠.cells c 70 (0,0)):iE v ls k:=by
 refine ⟨λe=>?_,λx hx e=>?_⟩
 ·obtain ⟨h1,c,hc⟩:=ar h.row e;rw[hk]at hc;cases hc;exact (ho c).1 rfl
 ·obtain ⟨h1,c,hc⟩:=ar (h.each x hx).2 e;rw[hk]at hc;cases hc;exact (ho c).2 rfl
theorem cL.snoc{x:LE}(h:cL w B v ls)(h8:x.st.length<=8)(hx:ck w B x.sv x.bh)(hrow:w3.ownsRow B 151 10 v' (ls.length+1) (ls.flatMap LE.cells++x.cells))(hg:w.grownBy w3 v.ownBlock):cL w3 B v' (ls++[x]):=by
 refine ⟨by simpa using hrow,λy hy=>?_⟩;have key:∀sv bh,ck w B sv bh->ck w3 B sv bh:=λsv bh hs=>aI hs λk hk=>by obtain ⟨_,c,hc⟩:=ar hs hk;refine hg.block k (ae hc) (λe=>?_);obtain ⟨_,c',hc'⟩:=ar h.row e.symm;rw[hc]at hc';exact absurd hc' (by simp)
 rcases List.mem_append.1 hy with hy|hy
 ·exact ⟨(h.each y hy).1,key _ _ (h.each y hy).2⟩
 ·obtain rfl:=List.mem_singleton.1 hy;exact ⟨h8,key _ _ hx⟩
theorem ck.snoc{bh:List Sp}{x:Sp}(hrow:w3.ownsRow B 70 5 v' (bh.length+1) (bh.flatMap Sp.cells++x.cells)):ck w3 B v' (bh++[x]):=by unfold ck;simpa using hrow
theorem DR{a b:List Nat}(ha:a.length<=8)(hb:b.length<=8)(h:aL a=aL b):a=b:=by
 have h8:=congrArg (λl=>l[8]?) h;simp only[dV ha,dV hb]at h8;have hl:a.length=b.length:=by simp at h8;omega
 refine List.ext_getElem? λi=>?_
 rcases ed i a.length with hi|hi
 ·have h1:=congrArg (λl=>l[i]?) h;have e1:a[i]?=some a[i]:=cB hi;have e2:b[i]?=some (b[i]'(by omega)):=cB (by omega);simp only[jz e1,jz e2]at h1;rw[e1,e2];simp at h1;congr 1;omega
 ·rw[List.getElem?_eq_none (by omega),List.getElem?_eq_none (by omega)]
open Go.Shelf
variable {a:Act} {text tx:ByteArray} {bs:List (List Nat)} {G:List GS} {st0:List Nat} {N bS cap g n q touched work:Nat} {o:Oper} {d:PD} {bv lv:Value}
attribute [local go_sem] Oper.semAt_some
theorem aJ.lower{N0:Nat}{A:Nat->Prop}{f:Nat->Option Value}{F:Nat->List FD}(h:aJ w N A g n cap G d f F)(hle:N0<=N)(ht:1 < N0)(hG:∀w',Below N0 w w'->cd w' g n cap G):aJ w N0 A g n cap G d f F:=
 ⟨λk hk=>⟨bJ hle (h.old k hk).1,(h.old k hk).2⟩,bJ hle h.size,⟨ht,h.tab.2⟩,hG,h.LA,h.pR,h.uD,h.map,λi v hi=>by obtain ⟨s,ao,cp,e1,e2,e3,e4,e5⟩:=h.fin i v hi;exact ⟨s,ao,cp,e1,e2,e3,e4.base hle,e5⟩,h.own,h.apart⟩
def Hz(J:Nat->World->Prop)(Jx:Nat->World->Prop)(T:List UInt8)(e:Ending)(W:World):Prop:=(∃v,e=.returned v)/\(J (aF T).length W∨∃j,Jx j W)
def sR(J:Nat->World->Prop)(T:List UInt8)(k:Nat)(vr vm vi:Value)(wr:World):Prop:=
 ∃(j:Nat) (r:ByteArray) (m:Bool),vi=.int .i64 j/\vr=.string r/\vm=.bool m/\j+k=(aF T).length/\r.size<=T.length/\(m=true->(aF T).drop j=aF r.data.toList)/\(m=false->k=0)/\J j wr
theorem BB(m:Nat)(text:ByteArray)(bT l:Nat)(J Jx:Nat->World->Prop)(w:World)(hz:text.size<=1000000)(hbT:w.heap[bT]?=some (.cells #[.string text] 9 (0,0)))
  (hM:∀j A,J j A->Mx A) (hJ:∀j A n,J j A->J j (A.drewN n))
  (hY:∀j body A,(aF text.data.toList)[j]?=some (body:ByteArray).data.toList->J j A->YieldAt Fence.wide (m - 1) Tryz.prog l #[.int .i64 j,.string body] A λe B=>(e=.returned (.bool true)/\J (j+1) B)∨(e=.returned (.bool false)/\Jx j B))
  (h0:J 0 w):
  CallsIn Fence.wide m Tryz.prog 121 #[.func (.yield l) #[] #[],.pointer (some ⟨bT,0,none⟩)] w (Hz J Jx text.data.toList):=by
 refine callsIn_wide.2 ?_;have b0:=aA hbT;have HJ:=aa hJ;have HM:=aa hM;have HY:=aa hY;have H0:=aa h0;clear hJ hM hY h0;go_enter Tryz.func121,Tryz.ntmps121;go_wp2_with fail;go_loopg [3,4,5] (aF text.data.toList).length (λk vr vm vi wr=>sR J text.data.toList k vr vm vi wr)
 case atStart=>exact ⟨0,text,true,rfl,rfl,rfl,by omega,by rw[aj];exact bc _,λ_=>rfl,λh=>(by cases h),H0.out⟩
 case round=>
  obtain ⟨j,r,mo,rfl,rfl,rfl,hk,hr,ht,hf,hj⟩:=hrel;have hsz:(aF text.data.toList).length<=1000001:=by have h1:=aT text.data.toList;have h2:text.data.toList.count 10<=text.data.toList.length:=List.count_le_length;rw[aj]at h2;omega
  cases mo with
  | false=>
   have xE:=hf rfl;subst xE;have Q7:=aa (show J (aF text.data.toList).length wr from by rw[<-hk];exact hj);clear hj;go_wp2_with fail;go_end0;exact ⟨⟨_,rfl⟩,.inl Q7.out⟩
  | true=>
   have hdr:=ht rfl;rw[aj]at hr;have vC:=aa (uz r 10 wr (by omega) (HM.out j wr hj));have HJJ:=aa hj;clear hj ht hf
   have hwr:IntKind.i64.wrap ((j:Int)+1)=(j:Int)+1:=by
    have:0<(aF text.data.toList).length - j:=by rw[<-List.length_drop,hdr];exact List.length_pos_iff.2 (iK _)
    rw[IntKind.wrap_i64];omega
   refine (wpIn_wide (n:=m)).1 ?_;gi_wp2_with fail;refine ⟨trivial,λh=>(by cases h),(callsIn_wide.2 vC.out).mono ?_⟩;rintro e w2 ⟨⟨n,rfl⟩,(⟨a,b,h1,h2,rfl⟩|⟨h1,rfl⟩)⟩
   ·have hsp:aF r.data.toList=a.data.toList::aF b.data.toList:=by rw[h1];exact uM h2 _
    rw[hsp]at hdr;have sL:(aF text.data.toList)[j]?=some a.data.toList:=by have:=congrArg (λl=>l[0]?) hdr;simpa using this
    have adb:(aF text.data.toList).drop (j+1)=aF b.data.toList:=by rw[<-List.drop_drop,hdr];rfl
    have eF:b.size<=r.size:=by have:=congrArg List.length h1;simp only[dG,fe,aj]at this;omega
    obtain ⟨fn,tmps,assign,body,hy,hR⟩:=HY.out j a (wr.drewN n) sL (HJ.out j wr n HJJ.out);have uJ:=aa hR;clear hR vC;gi_wp2_with fail;refine ⟨λh=>(by cases h),uJ.out.mono ?_⟩;rintro e3 w3 (⟨rfl,yL⟩|⟨rfl,zI⟩)
    ·have HST:=aa (show sR J text.data.toList ((aF text.data.toList).length - (j+1)) (.string b) (.bool true) (.int .i64 ((j:Int)+1)) w3 from ⟨j+1,b,true,by simp,rfl,rfl,by have:=az sL;omega,by rw[aj];omega,λ_=>adb,λh=>(by cases h),yL⟩);have hlt:=az sL;clear yL uJ hy;gi_wp2_with fail;go_roundg ((aF text.data.toList).length - (j+1))
     case measure=>omega
     case rel=>exact HST.out
    ·have Mz:=aa zI;clear zI uJ hy;gi_wp2_with fail;go_end0;exact ⟨⟨_,rfl⟩,.inr ⟨j,Mz.out⟩⟩
   ·have hsp:aF r.data.toList=[r.data.toList]:=uN h1;rw[hsp]at hdr;have sL:(aF text.data.toList)[j]?=some r.data.toList:=by have:=congrArg (λl=>l[0]?) hdr;simpa using this
    have hlen:(aF text.data.toList).length=j+1:=by have:=congrArg List.length hdr;rw[List.length_drop]at this;simp at this;have:=az sL;omega
    obtain ⟨fn,tmps,assign,body,hy,hR⟩:=HY.out j r (wr.drewN n) sL (HJ.out j wr n HJJ.out);have uJ:=aa hR;clear hR vC;gi_wp2_with fail;refine ⟨λh=>(by cases h),uJ.out.mono ?_⟩;rintro e3 w3 (⟨rfl,yL⟩|⟨rfl,zI⟩)
    ·have HST:=aa (show sR J text.data.toList 0 (.string ⟨#[]⟩) (.bool false) (.int .i64 ((j:Int)+1)) w3 from ⟨j+1,⟨#[]⟩,false,by simp,rfl,rfl,by omega,Nat.zero_le _,λh=>(by cases h),λ_=>rfl,yL⟩);clear yL uJ hy;gi_wp2_with fail;go_roundg 0
     case measure=>omega
     case rel=>exact HST.out
    ·have Mz:=aa zI;clear zI uJ hy;gi_wp2_with fail;go_end0;exact ⟨⟨_,rfl⟩,.inr ⟨j,Mz.out⟩⟩
theorem GM(text:ByteArray)(w:World):Calls Tryz.prog 92 #[.string text] w λe w'=>e=.returned (.func (.func 121) #[] #[.pointer (some ⟨w.heap.size,0,none⟩)])/\w'=w.alloc (.cells #[.string text] 9):=by go_enter Tryz.func92,Tryz.ntmps92;go_wp2_with fail;go_ret;exact ⟨rfl,rfl⟩
theorem Pv(g n cap:Nat)(d:PD)(line:ByteArray)(st:List Nat)(h8:st.length<=8)(w:World):Calls Tryz.prog 93 #[pv g n cap d,.string line,lV st] w λe w'=>e=.returned (.func (.func 122) #[] #[.pointer (some ⟨w.heap.size+2,0,none⟩),.pointer (some ⟨w.heap.size,0,none⟩),.pointer (some ⟨w.heap.size+1,0,none⟩)])/\w'=((w.alloc (.cells #[.slice (some ⟨g,0,none⟩) n cap,jx d] 171)).alloc (.cells #[.string line] 9)).alloc (.cells (aL st).toArray 138):=by
 obtain ⟨a0,a1,a2,a3,a4,a5,a6,a7,a8,hst⟩:=nine h8;unfold lV pv jx;rw[hst];go_enter Tryz.func93,Tryz.ntmps93;go_wp2_with fail;go_ret;exact ⟨rfl,rfl⟩
section
variable {F:Fence} {n:Nat} {P:Program} {ops:Array Oper} {Q:Exit->Act->World->Prop} {md:Region.Mode}
def lB(o:Oper):Bool:=match o.op with
 | .defer _=>false
 | _=>true
theorem xp(h:lB o=true)(c:Call):o.op≠.defer c:=λe=>by unfold lB at h;rw[e]at h;cases h
theorem HZ{K K':Act->World->Prop}(l:Nat)(hro:F.round=none)(hd:lB o=true)(hk:∀a w,K a w->K' a w)(h:o.wpIn F n P a w K Q):o.wpIn (F.inRound l) n P a w K' Q:=by
 have h':=Oper.wpIn_mono hk h;clear h;unfold Oper.wpIn at *;refine ⟨h'.1,?_⟩;have h2:=h'.2;rw[hro,Oper.semAt_none]at h2;rw[Fence.inRound_round,Oper.semAt_some l _ _ (xp hd)];generalize (execOp a.eval o).run P w=r at *
 cases r with
 | ok x w'=>cases x<;>exact h2
 | halt x w'=>cases x<;>exact h2
theorem Eu(l:Nat)(hro:F.round=none)(hd:∀(i:Nat) (o:Oper),ops[i]?=some o->lB o=true):∀(fuel:Nat) (listed:Array Bool) (a:Act) (w:World),wpAnyIn F n P md ops Q fuel listed a w->wpAnyIn (F.inRound l) n P md ops Q fuel listed a w:=by
 intro fuel
 induction fuel with
 | zero=>intro listed a w h;exact h
 | succ fuel ih=>
  intro listed a w h;refine ⟨h.1,λi hi=>?_⟩;have h1:=h.2 i hi;unfold wpOpIn at *
  cases ho:ops[i]? with
  | none=>rw[ho]at h1;exact ih _ _ _ h1
  | some o=>
   rw[ho]at h1;simp only at h1 ⊢;split
   ·rename_i hw;rw[if_pos hw]at h1;exact HZ l hro (hd i o ho) (λa w h=>ih _ a w h) h1
   ·rename_i hw;rw[if_neg hw]at h1;exact ⟨h1.1,ih _ _ _ h1.2⟩
theorem jk{id:Nat}{os:List Oper}{l:Nat}(hro:F.round=none)(hm:P.follows .mixedOrders=true)(hd:os.all lB=true)(hB:Region.lexB .any os.toArray=true)
  (h:wpQuietIn F n P os.toArray (λw'=>∃n,w'=w.drewN n) (λa'=>∀w',(∃n,w'=w.drewN n)->Q .normal a' w') os a):(Code.region id os.toArray true).wpIn (F.inRound l) n P Q a w:=by
 simp only[Region.lexB,Bool.and_eq_true]at hB;refine wpIn_region_any hm (Eu l hro (λi o ho=>?_) _ _ _ _ (wpAnyIn_of_quiet (C:=λw'=>∃n,w'=w.drewN n) (Q:=λa'=>∀w',(∃n,w'=w.drewN n)->Q .normal a' w') hro (λ_ w' hw' h=>h w' hw') _ _ _ _ ⟨1,rfl⟩ ?_))
 ·exact List.all_eq_true.1 hd o (bn (by simpa using ho))
 ·have:=wpAnyQIn_lex (F:=F) (n:=n) (C:=λw'=>∃n,w'=w.drewN n) (md:=.any) hB.1 os.toArray.toList 0 (Array.replicate os.toArray.size false) a (by simp) (by simpa using hB.2) (by simpa using h);simpa using this
end
theorem semAt_plain(r:Option Nat)(ρ:Operand->Value)(o:Oper)(h:lB o=true):Oper.semAt r ρ o=execOp ρ o:=by
 cases r with
 | none=>exact Oper.semAt_none _ _
 | some l=>exact Oper.semAt_some l _ _ (xp h)
theorem cO{F:Fence}{P:Program}{ops:Array Oper}{rest:List Oper}{Q:Exit->Act->World->Prop}(hgd:o.guard=none)(ty:TypeId)(x y:Operand)(ho:o.op=.store ty x y)
  (g:Nat) (cells:Array Value) (hx:a.eval x=.pointer (some ⟨g,0,none⟩)) (hy:a.eval y=.agg cells)
  (t:TypeId) (old:Array Value) (hg:w.heap[g]?=some (.cells old t (0,0))) (hi:(P.info? ty).map (·.size)=some cells.size)
  (hold:old.size=cells.size) (h1:cells.all (·.oneCell')=true)
  (h:wpListIn F n P ops Q rest (a.put o.dst undef) (w.setRow g cells)):wpListIn F n P ops Q (o::rest) a w:=by
 refine wpListIn_plain hgd λK hK=>?_
 unfold Oper.wpIn;refine ⟨λf hf=>by simp[Oper.about,ho]at hf,?_⟩;rw[semAt_plain _ _ _ (by simp[lB,ho])];unfold execOp;simp only[ho,hx,hy,Instr.storeAt,Instr.sureAddr,Sem.run_bind,Sem.run_pure,Result.andThen_ok,run_storeVar_row w g t ty old cells hg hi hold h1];exact hK _ _ h
theorem et(w:World)(old cs:Array Value)(t:TypeId)(g:Nat)(hg:g=w.heap.size):(w.alloc (.cells old t)).setRow g cs=w.alloc (.cells cs t):=by
 subst hg;unfold World.setRow World.alloc;congr 1;apply Array.ext
 ·simp
 ·intro k h1 h2;simp only[Array.getElem_modify,Array.getElem_push];split
  ·rename_i hk;subst hk;simp
  ·rename_i hk;have h3:k<w.heap.size:=by simp at h1;omega
   simp[h3]
def TV(w:World)(bS:Nat)(v:Value)(bs:List (List Nat)):Prop:=
 ∃ao cp,v=.slice ao bs.length cp/\bs.length<=1000000/\∀(j:Nat) st,bs[j]?=some st->st.length<=8/\∃bg of,ao=some ⟨bg,of,none⟩/\bg≠bS/\∀(y:Nat) c,(aL st)[y]?=some c->w.cell? ⟨bg,of+j*10+y,none⟩=some c
structure CJ(w:World)(N bS g n cap:Nat)(G:List GS)(d:PD)(T:List UInt8)(st0:List Nat)(touched:Nat)(bv:Value)(bs:List (List Nat))(tx:ByteArray)(lv:Value)(work q p0:Nat)(rc:Loop)(j:Nat)(st:List Nat)(ls:List LE)(v:Value)(A1:Nat->Prop)(f1:Nat->Option Value)(F1:Nat->List FD)(W:World):Prop where
 sv:W.heap[q]?=some (.cells #[.pointer (some ⟨bS,0,none⟩)] 44 (0,0))
 kv:W.heap[q+1]?=some (.cells (aL st).toArray 138 (0,0))
 tv:W.heap[q+1+1]?=some (.cells #[.int .i64 touched] 3 (0,0))
 Yy:W.heap[q+1+1+1]?=some (.cells #[bv] 132 (0,0))
 pv:W.heap[p0]?=some (.cells #[.slice (some ⟨g,0,none⟩) n cap,jx d] 171 (0,0))
 av:W.heap[p0+1]?=some (.cells #[v] 132 (0,0))
 uF:W.heap[p0+3]?=some (.deferred (some []))
 iJ:W.heap[p0+3+1]?=some (.loop rc)
 sh:W.heap[bS]?=some (.cells #[.slice (some ⟨g,0,none⟩) n cap,.string tx,lv,.int .i64 ((work+j:Nat):Int)] 134 (0,0))
 fU:cL W q v ls
 runs:dZ G st0 ((aF T).take j) (ls.map LE.pr) st
 good:Good G st
 Tv:aJ W N A1 g n cap G d f1 F1
 apart:∀k,A1 k->q+4<=k/\(k<p0∨p0+5<=k)/\iE v ls k
 uG:∀(i:Nat) x,touched<=i->ls[i]?=some x->bs[i - touched]?≠some x.st
 off:aM (λk=>k=bS) w W
 ord:q=w.heap.size/\q+4<=p0/\p0+5<=W.heap.size/\bS<q/\N<=bS
theorem aD(w:World)(o:Obj)(g:Nat)(h:g=w.heap.size):(w.alloc o).heap[g]?=some o:=by rw[h];exact ag _ _
section
variable {w:World} {N bS g n cap:Nat} {G:List GS} {d:PD} {T:List UInt8} {st0:List Nat} {touched:Nat} {bv:Value} {bs:List (List Nat)} {tx:ByteArray} {lv:Value} {work q p0:Nat} {rc:Loop} {j:Nat} {st:List Nat} {ls:List LE} {v:Value} {A1:Nat->Prop} {f1:Nat->Option Value} {F1:Nat->List FD} {W W':World}
theorem CJ.same{Y:Nat->Prop}(h:CJ w N bS g n cap G d T st0 touched bv bs tx lv work q p0 rc j st ls v A1 f1 F1 W)(ho:aM Y W W')(hy:∀k,Y k->(p0+5<=k∨k=p0+2)/\¬A1 k/\iE v ls k):CJ w N bS g n cap G d T st0 touched bv bs tx lv work q p0 rc j st ls v A1 f1 F1 W':=by
 obtain ⟨o1,o2,o3,o4,o5⟩:=h.ord;have hs:∀(k:Nat) o,W.heap[k]?=some o->k<p0+5->k≠p0+2->W'.heap[k]?=some o:=λk o hk h1 h2=>ho.same hk (λe=>by have:=(hy k e).1;omega)
 refine ⟨hs _ _ h.sv (by omega) (by omega),hs _ _ h.kv (by omega) (by omega),hs _ _ h.tv (by omega) (by omega),hs _ _ h.Yy (by omega) (by omega),hs _ _ h.pv (by omega) (by omega),hs _ _ h.av (by omega) (by omega),hs _ _ h.uF (by omega) (by omega),hs _ _ h.iJ (by omega) (by omega),hs _ _ h.sh (by omega) (by omega),h.fU.off ho (λk hk=>(hy k hk).2.2),h.runs,h.good,h.Tv.off ho (λk hk=>⟨by have:=(hy k hk).1;omega,(hy k hk).2.1⟩),h.apart,h.uG,?_,o1,o2,bJ o3 ho.size,o4,o5⟩
 refine ⟨ho.os.trans h.off.os,ho.tape.trans h.off.tape,ho.output.trans h.off.output,bJ h.off.size ho.size,λk hk=>?_,λk c t ht hh=>ho.stay k c t ht (h.off.stay k c t ht hh)⟩;refine (ho.keep k ⟨dw hk.1 h.off.size,λe=>?_⟩).trans (h.off.keep k hk);have:=(hy k e).1;have:=hk.1;omega
theorem CJ.below(h:CJ w N bS g n cap G d T st0 touched bv bs tx lv work q p0 rc j st ls v A1 f1 F1 W)(hb:Below W.heap.size W W'):CJ w N bS g n cap G d T st0 touched bv bs tx lv work q p0 rc j st ls v A1 f1 F1 W':=
 h.same (Y:=λ_=>False) (aM.ay hb) (λ_ h=>h.elim)
theorem CJ.zJ(h:CJ w N bS g n cap G d T st0 touched bv bs tx lv work q p0 rc j st ls v A1 f1 F1 W)(rb:Loop):CJ w N bS g n cap G d T st0 touched bv bs tx lv work q p0 rb j st ls v A1 f1 F1 (W.putObj (p0+3+1) (.loop rb)):=by
 obtain ⟨o1,o2,o3,o4,o5⟩:=h.ord;have ho:aM (λk=>k=p0+3+1) W (W.putObj (p0+3+1) (.loop rb)):=aM.putObj _ h.iJ rfl;have hs:∀(k:Nat) o,W.heap[k]?=some o->k≠p0+3+1->(W.putObj (p0+3+1) (.loop rb)).heap[k]?=some o:=λk o hk h1=>ho.same hk h1
 have gh:iE v ls (p0+3+1):=h.fU.other h.iJ (λc=>⟨by simp,by simp⟩)
 refine ⟨hs _ _ h.sv (by omega),hs _ _ h.kv (by omega),hs _ _ h.tv (by omega),hs _ _ h.Yy (by omega),hs _ _ h.pv (by omega),hs _ _ h.av (by omega),hs _ _ h.uF (by omega),World.putObj_heap_same (by omega),hs _ _ h.sh (by omega),h.fU.off ho (λk hk=>by rw[hk];exact gh),h.runs,h.good,h.Tv.off ho (λk hk=>⟨by omega,λha=>by have:=h.apart k ha;omega⟩),h.apart,h.uG,?_,o1,o2,by simpa using o3,o4,o5⟩
 exact h.off.then ho (λk hk e=>by omega)
theorem CJ.acJ(h:CJ w N bS g n cap G d T st0 touched bv bs tx lv work q p0 rc j st ls v A1 f1 F1 W):CJ w N bS g n cap G d T st0 touched bv bs tx lv (work+1) q p0 rc j st ls v A1 f1 F1 (W.setCell ⟨bS,3,none⟩ (.int .i64 (((work+j:Nat):Int)+1))):=by
 obtain ⟨o1,o2,o3,o4,o5⟩:=h.ord;have ho:aM (λk=>k=bS) W (W.setCell ⟨bS,3,none⟩ (.int .i64 (((work+j:Nat):Int)+1))):=aM.setCell (Y:=λk=>k=bS) (p:=⟨bS,3,none⟩) rfl h.sh (by decide) _;have hs:∀(k:Nat) o,W.heap[k]?=some o->k≠bS->(W.setCell ⟨bS,3,none⟩ (.int .i64 (((work+j:Nat):Int)+1))).heap[k]?=some o:=λk o hk h1=>ho.same hk h1
 have Cc:=ah W bS 3 (.int .i64 (((work+j:Nat):Int)+1)) h.sh;have gh:iE v ls bS:=h.fU.free (.inl o4)
 refine ⟨hs _ _ h.sv (by omega),hs _ _ h.kv (by omega),hs _ _ h.tv (by omega),hs _ _ h.Yy (by omega),hs _ _ h.pv (by omega),hs _ _ h.av (by omega),hs _ _ h.uF (by omega),hs _ _ h.iJ (by omega),?_,h.fU.off ho (λk hk=>by rw[hk];exact gh),h.runs,h.good,h.Tv.off ho (λk hk=>⟨by omega,λha=>by have:=h.apart k ha;omega⟩),h.apart,h.uG,h.off.trans ho,o1,o2,bJ o3 ho.size,o4,o5⟩
 rw[Cc];have e:((work+j:Nat):Int)+1=((work+1+j:Nat):Int):=by omega
 rw[e];simp
theorem CJ.mx(h:CJ w N bS g n cap G d T st0 touched bv bs tx lv work q p0 rc j st ls v A1 f1 F1 W)(hM:Mx w)(BZ:0 < N):Mx W:=by obtain ⟨m,hm⟩:=hM;obtain ⟨o1,o2,o3,o4,o5⟩:=h.ord;exact ⟨m,(World.cell?_of_block (h.off.keep _ ⟨fh hm,by show ¬0=bS;omega⟩)).trans hm⟩
end
theorem Ps{W0 W1:World}{T:List UInt8}(hq:q=w.heap.size)(hN:N<=bS)(h0:1 < N)(hG:∀w',Below N w w'->cd w' g n cap G)
  (hS:w.heap[bS]?=some (.cells #[.slice (some ⟨g,0,none⟩) n cap,.string tx,lv,.int .i64 work] 134 (0,0))) (hs0:W0.heap.size=q+4) (oX:W0.heap[q]?=some (.cells #[.pointer (some ⟨bS,0,none⟩)] 44 (0,0))) (pP:W0.heap[q+1]?=some (.cells (aL st0).toArray 138 (0,0))) (DG:W0.heap[q+1+1]?=some (.cells #[.int .i64 touched] 3 (0,0))) (hbv:W0.heap[q+1+1+1]?=some (.cells #[bv] 132 (0,0)))
  (Ut:Below w.heap.size w W0) (fu:Below W0.heap.size W0 W1) (hP:aJ W1 W0.heap.size (λk=>W0.heap.size<=k/\k<W1.heap.size) g n cap G d (λ_=>none) (λ_=>[])) (cE:Good G st0) (rc:Loop):
  CJ w N bS g n cap G d T st0 touched bv bs tx lv work q W1.heap.size rc 0 st0 [] (.slice none 0 0) (λk=>W0.heap.size<=k/\k<W1.heap.size) (λ_=>none) (λ_=>[]) (((((W1.alloc (.cells #[.slice (some ⟨g,0,none⟩) n cap,jx d] 171)).alloc (.cells #[.slice none 0 0] 132)).alloc (.cells #[.string text] 9)).alloc (.deferred (some []))).alloc (.loop rc)):=by
 have Tw:=ae hS;have s1:=fu.size;obtain ⟨V,hV⟩:∃V,((((W1.alloc (.cells #[.slice (some ⟨g,0,none⟩) n cap,jx d] 171)).alloc (.cells #[.slice none 0 0] 132)).alloc (.cells #[.string text] 9)).alloc (.deferred (some []))).alloc (.loop rc)=V:=⟨_,rfl⟩
 have hv0:V.heap[W1.heap.size]?=some (.cells #[.slice (some ⟨g,0,none⟩) n cap,jx d] 171 (0,0)):=by rw[<-hV];exact af (af (af (af (aD _ _ _ rfl))))
 have hv1:V.heap[W1.heap.size+1]?=some (.cells #[.slice none 0 0] 132 (0,0)):=by rw[<-hV];exact af (af (af (aD _ _ _ (by simp))))
 have hv3:V.heap[W1.heap.size+3]?=some (.deferred (some [])):=by rw[<-hV];exact af (aD _ _ _ (by simp))
 have hv4:V.heap[W1.heap.size+3+1]?=some (.loop rc):=by rw[<-hV];exact aD _ _ _ (by simp)
 have hVs:V.heap.size=W1.heap.size+5:=by rw[<-hV];simp
 have hBV:Below W1.heap.size W1 V:=by rw[<-hV];exact ((((cq _ _).alloc (by simp) _).alloc (by simp;omega) _).alloc (by simp;omega) _).alloc (by simp;omega) _
 have abB:Below W0.heap.size W0 V:=fu.trans (hBV.mono s1);have hwV:Below w.heap.size w V:=Ut.trans (abB.mono Ut.size);have hk:∀(k:Nat) o,W0.heap[k]?=some o->V.heap[k]?=some o:=λk o h=>(abB.block k (ae h)).trans h
 rw[hV];refine ⟨hk _ _ oX,hk _ _ pP,hk _ _ DG,hk _ _ hbv,hv0,hv1,hv3,hv4,(hwV.block _ Tw).trans hS,cL.nil _ _,.nil,cE,?_,λk hk=>⟨by omega,.inl hk.2,⟨by simp[Value.ownBlock],λx hx=>by simp at hx⟩⟩,λi x _ hx=>by simp at hx,aM.ay hwV,hq,by omega,by omega,by omega,hN⟩;exact (hP.below hBV).lower (by omega) h0 (λw' hb=>hG w' ((hwV.mono (by omega)).trans hb))
theorem Pt{V:World}{p0:Nat}(hz:text.size<=3000)(hM:Mx w)(BZ:0 < N)(rc:LoopState->Option Code->Loop)(K:Ending->World->Prop)(Yp:V.heap[p0+2]?=some (.cells #[.string text] 9 (0,0)))
  {sta:List Nat} {lsa:List LE} {va:Value} {Aa:Nat->Prop} {fa:Nat->Option Value} {Fa:Nat->List FD} (Xs:CJ w N bS g n cap G d text.data.toList st0 touched bv bs tx lv work q p0 (rc .ready none) 0 sta lsa va Aa fa Fa ((V.alloc (.deferred (some []))).alloc (.loop (rc .ready none)))) (TL:lsa.length=0)
  (fZ:∀(j:Nat) (body:ByteArray) st ls v A1 f1 F1 B,(aF text.data.toList)[j]?=some body.data.toList->CJ w N bS g n cap G d text.data.toList st0 touched bv bs tx lv work q p0 (rc .ready none) j st ls v A1 f1 F1 B->ls.length=j->YieldAt Fence.wide 7 Tryz.prog (p0+3+1) #[.int .i64 j,.string body] B λe C=>
   (e=.returned (.bool true)/\∃st' ke v' A' f' F',CJ w N bS g n cap G d text.data.toList st0 touched bv bs tx lv work q p0 (rc .ready none) (j+1) st' ke v' A' f' F' C/\ke.length=j+1)∨(e=.returned (.bool false)/\(∃st' ke v' A' f' F',CJ w N bS g n cap G d text.data.toList st0 touched bv bs tx lv work q p0 (rc .done (some (.exit 0))) j st' ke v' A' f' F' C/\ke.length=j/\touched<=j/\bs[j - touched]?=some st')))
  (hend:∀r W st ls v A1 f1 F1,CJ w N bS g n cap G d text.data.toList st0 touched bv bs tx lv work q p0 (rc .ready none) ls.length st ls v A1 f1 F1 W->ls.length=(aF text.data.toList).length->K (.returned r) W)
  (ND:∀r W st ls v A1 f1 F1,CJ w N bS g n cap G d text.data.toList st0 touched bv bs tx lv work q p0 (rc .done (some (.exit 0))) ls.length st ls v A1 f1 F1 W->touched<=ls.length->bs[ls.length - touched]?=some st->K (.returned r) W):
  CallsIn Fence.wide 8 Tryz.prog 121 #[.func (.yield (p0+3+1)) #[] #[],.pointer (some ⟨p0+2,0,none⟩)] ((V.alloc (.deferred (some []))).alloc (.loop (rc .ready none))) K:=by
 refine (BB 8 text (p0+2) (p0+3+1) (λj W=>∃st ls v A1 f1 F1,CJ w N bS g n cap G d text.data.toList st0 touched bv bs tx lv work q p0 (rc .ready none) j st ls v A1 f1 F1 W/\ls.length=j) (λj W=>∃st ls v A1 f1 F1,CJ w N bS g n cap G d text.data.toList st0 touched bv bs tx lv work q p0 (rc .done (some (.exit 0))) j st ls v A1 f1 F1 W/\ls.length=j/\touched<=j/\bs[j - touched]?=some st) _ (by omega) (af (af Yp)) ?_ ?_ ?_ ⟨sta,lsa,va,Aa,fa,Fa,Xs,TL⟩).mono ?_
 ·rintro j A ⟨st,ls,v,A1,f1,F1,h,_⟩;exact h.mx hM BZ
 ·rintro j A n ⟨st,ls,v,A1,f1,F1,h,hl⟩;exact ⟨st,ls,v,A1,f1,F1,h.below ⟨rfl,rfl,rfl,bc _,λ_ _=>rfl⟩,hl⟩
 ·rintro j body A hb ⟨st,ls,v,A1,f1,F1,h,hl⟩;exact fZ j body st ls v A1 f1 F1 A hb h hl
 ·rintro e W ⟨⟨r,rfl⟩,(⟨st,ls,v,A1,f1,F1,h,hl⟩|⟨j,st,ls,v,A1,f1,F1,h,hl,h1,h2⟩)⟩
  ·exact hend r W st ls v A1 f1 F1 (by rw[hl];exact h) hl
  ·subst hl;exact ND r W st ls v A1 f1 F1 h h1 h2
end Go.Proofs.YtgncgdkpkkdaeaaGreatDoor
