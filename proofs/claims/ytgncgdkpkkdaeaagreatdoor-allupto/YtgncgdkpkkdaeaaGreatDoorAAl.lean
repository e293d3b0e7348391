/- The law tintlaw.All holds for every script whose steps hold together at most 1048576 values and letters: the call returns true and leaves its argument as it was. The conditions: that bound (a list that All itself keeps could else pass what a slice may hold); the library's table math/bits.deBruijn64tab holds what its initialiser lays (the card ties it to the program's text). -/
import Derived.Test.YtgncgdkpkkdaeaaGreatDoorCards
import Derived.Test.YtgncgdkpkkdaeaaGreatDoorTie
import Derived.ProofKit
import Derived.OpenShut
import Derived.Deep.DeepHandedRow
import Derived.Lib.LaidTab
import Derived.HandedShaped
import Derived.Deep.Slices
import Derived.Test.YtgncgdkpkkdaeaaGreatDoorAQE
namespace Go.Proofs.YtgncgdkpkkdaeaaGreatDoor
open Go.ChangeShapes Go.WideShapes Go.ChangeAt Go.RowKit
theorem M8:ownKnob Tryz.prog.godebug=none:=by kernel_rfl
theorem yB:Tryz.prog.globalNamed "math/bits.deBruijn64tab"=some 1:=by kernel_rfl
theorem M9:(Tryz.prog.globals[1]?).map (·.type)=some 326:=by kernel_rfl
theorem JM:Tryz.prog.cellsOf 326=64:=by kernel_rfl
theorem Ff:Tryz.prog.cellsOf 5=1:=by kernel_rfl
def ur:List Int:=Lib.deBruijn64tab.map Int.ofNat
theorem Cr{W:World}(h:laidMetH Tryz.prog [("math/bits.deBruijn64tab",Rows.laid_math_bits_deBruijn64tab)] W):lC W/\0<W.heap.size:=by
 have ht:Lib.TabIs Tryz.prog W "math/bits.deBruijn64tab" .u8 ur:=Lib.tabIs_of_head (rest:=[]) yB M9 Tryz.underlying326 Tryz.underlying5 Ff JM h
 have hT:lC W:=λj hj=>by
  rw[ht.cell yB j (by simpa [ur,Lib.deBruijn64tab] using hj)];have:∀j,j<64->ur.getD j 0=((Lib.deBruijn64tab.getD j 0:Nat):Int):=by decide +kernel
  rw[this j hj]
 refine ⟨hT,?_⟩;have h0:=hT 0 (by decide);rcases Nat.eq_zero_or_pos W.heap.size with h|h
 ·simp[World.cell?,Array.eq_empty_of_size_eq_zero h]at h0
 ·exact h
noncomputable def laidWorld(os:Os):World:=
 { World.holding Tryz.prog os ⟨#[],#[],[]⟩ with heap:=(World.holding Tryz.prog os ⟨#[],#[],[]⟩).heap.modify 1 fun
   | .cells _ t frozen=>.cells (ur.map (Value.int .u8)).toArray t frozen
   | o=>o }
open Go.ChangeMaps Go.Deep
variable {H:Type}
theorem Na:laidOutB Tryz.prog=true:=by kernel_rfl
theorem Cu:Tryz.prog.cellsOf 33=6:=by kernel_rfl
theorem Nc:Tryz.prog.bytesOf 33=64:=by kernel_rfl
theorem JN:Tryz.prog.cellsOf 3=1:=by kernel_rfl
theorem JO:Tryz.prog.cellsOf 9=1:=by kernel_rfl
theorem Ro{P:Program}{e:TypeId}{d:DataW H}{x:Nat}:∀{l:List (DataW H)},d∈l->x∈d.weights P e->x∈DataW.weightsAll P e l:=by
 intro l
 induction l with
 | nil=>intro h;simp at h
 | cons y l ih=>
  intro h hx;unfold DataW.weightsAll;rcases List.mem_cons.1 h with rfl|h
  ·exact List.mem_append_left _ hx
  ·exact List.mem_append_right _ (ih h hx)
set_option maxRecDepth 100000 in
theorem JP{enc:TypeId×Value->H}{W:World}{base:Nat}{v:Value}{d:DataW H}{ps:List MemPlace}(hv:Value.okWide Tryz.prog W .any base 30 v)(h:DataW.Trod enc Tryz.prog W 0 (λ_=>true) true 30 v d ps)
  (hs:∀x∈d.weights Tryz.prog 30,x<=reachBytes):∃n,Cv W v n/\(n=0∨∃es sp,d=.slice es sp/\es.length=n/\∀e∈es,∃l,e=.agg l):=by
 obtain ⟨a0,len,cap,rfl⟩:=okWide_slice Tryz.underlying30 hv;obtain ⟨fuel,hf⟩:=h;have hc:(Value.slice a0 len cap).cells.toList=[.slice a0 len cap]:=by simp[Value.cells]
 rcases open_slice Tryz.underlying30 hf with ⟨h1,_⟩|⟨a,len',cap',m,n,D,Pl,h1,hb,hl,hm,Fg,hx,hall⟩
 ·rw[hc]at h1;simp only[List.cons.injEq,and_true]at h1;exact ⟨0,⟨by omega,none,0,h1,λj hj=>by omega⟩,.inl rfl⟩
 ·rw[hc]at h1;simp only[List.cons.injEq,and_true]at h1;rw[h1];simp only[if_true]at Fg;simp only[Prod.mk.injEq]at hx;rw[hx.1]at hs
  have hn:len'<=100000000000000:=by have:=hs ((((List.range len').map D).length+((List.range (m - len')).map λj=>D (len'+j)).length) * Tryz.prog.bytesOf 33) (by unfold DataW.weights;rw[Tryz.underlying30];exact List.mem_cons_self);rw[Nc,List.length_map,List.length_range]at this;unfold reachBytes at this;omega
  refine ⟨len',⟨hn,some a,cap',rfl,λj hj=>?_⟩,.inr ⟨_,_,hx.1,by simp,λe he=>?_⟩⟩
  ·obtain ⟨sb,of,spot⟩:=a;have hsp:spot=none:=by obtain ⟨c0,p0,_⟩:=hall 0 (by omega);rw[Cu]at p0;obtain ⟨_,hl0,hc0⟩:=World.cells?_some p0;have h6:=hc0 0 (by omega);rw[List.getElem?_eq_getElem (by omega)]at h6;have:=World.cell?_spot h6;simpa [Addr.add] using this
   subst hsp;obtain ⟨cs',h2,h3⟩:=hall j (by omega);rw[Cu]at h2;obtain ⟨_,hlen,hcell⟩:=World.cells?_some h2;obtain ⟨xs,k,hk,Nf,_,Vi,mr⟩:=DataW.trod_struct Tryz.underlying33 h3;have gx:∀i,i<6->∃y,xs[i]?=some y:=λi hi=>⟨_,List.getElem?_eq_getElem (by rw[Vi];exact hi)⟩
   have gi:∀i,i<4->∃z,cs'[i]?=some (.int .i64 z)/\(Lit.int .i64 z).wf=true:=λi hi=>by
    have g:DataW.trod enc Tryz.prog W 0 (λ_=>true) true k 3 ((cs'.drop i).take (Tryz.prog.cellsOf 3))=xs[i]?:=by
     match i,hi with
     | 0,_=>exact mr 0 _ rfl
     | 1,_=>exact mr 1 _ rfl
     | 2,_=>exact mr 2 _ rfl
     | 3,_=>exact mr 3 _ rfl
    obtain ⟨y,e⟩:=gx i (by omega);rw[e,JN]at g;obtain ⟨z,hz,_,hw⟩:=DataW.trod_int Tryz.underlying3 g;have:=congrArg (·[0]?) hz;exact ⟨z,by simpa using this,hw⟩
   have gs:∀i,4<=i->i<6->∃s:ByteArray,cs'[i]?=some (.string s)/\s.size<=reachBytes:=λi h4 hi=>by
    have ⟨g,ht⟩:DataW.trod enc Tryz.prog W 0 (λ_=>true) true k 9 ((cs'.drop i).take (Tryz.prog.cellsOf 9))=xs[i]?/\([3,3,3,3,9,9]:List TypeId)[i]?=some 9:=by
     match i,h4,hi with
     | 4,_,_=>exact ⟨mr 4 _ rfl,rfl⟩
     | 5,_,_=>exact ⟨mr 5 _ rfl,rfl⟩
    obtain ⟨y,e⟩:=gx i (by omega);rw[e,JO]at g;obtain ⟨s,hz,hy,_⟩:=DataW.trod_string Tryz.underlying9 g;have e0:=congrArg (·[0]?) hz;refine ⟨s,by simpa using e0,hs _ ?_⟩;unfold DataW.weights;rw[Tryz.underlying30];refine List.mem_cons_of_mem _ (List.mem_append_left _ (Ro (d:=D j) (List.mem_map.2 ⟨j,List.mem_range.2 hj,rfl⟩) ?_))
    simp only[Prod.mk.injEq]at Nf;rw[Nf.1];unfold DataW.weights;rw[Tryz.underlying33];exact DataW.weights_mem_each (j:=i) (t:=9) (by simpa using ht) (by rw[List.getElem?_map,e,hy];rfl) _ (by unfold DataW.weights;exact List.mem_singleton.2 rfl)
   obtain ⟨z0,e0,_⟩:=gi 0 (by omega);obtain ⟨z1,e1,w1⟩:=gi 1 (by omega);obtain ⟨z2,e2,w2⟩:=gi 2 (by omega);obtain ⟨z3,e3,_⟩:=gi 3 (by omega);obtain ⟨s4,e4,q4⟩:=gs 4 (by omega) (by omega);obtain ⟨s5,e5,q5⟩:=gs 5 (by omega) (by omega)
   have il:∀i u,i<6->cs'[i]?=some u->W.cell? ⟨sb,of+j*6+i,none⟩=some u:=λi u hi hu=>by have:=hcell i hi;rw[addr_add,addr_add,hu]at this;simpa using this
   exact ⟨sb,of,rfl,z0,z1,z2,z3,s4,s5,⟨q4,q5,w1,w2⟩,il 0 _ (by omega) e0,il 1 _ (by omega) e1,il 2 _ (by omega) e2,il 3 _ (by omega) e3,il 4 _ (by omega) e4,il 5 _ (by omega) e5⟩
  ·obtain ⟨j,hj,rfl⟩:=List.mem_map.1 he;obtain ⟨cs',h2,h3⟩:=hall j (by have:=List.mem_range.1 hj;omega);obtain ⟨xs,k,hk,Nf,_⟩:=DataW.trod_struct Tryz.underlying33 h3;simp only[Prod.mk.injEq]at Nf;exact ⟨_,Nf.1⟩
end Go.Proofs.YtgncgdkpkkdaeaaGreatDoor
namespace Go.Proofs.YtgncgdkpkkdaeaaGreatDoor.YW
open Go.ChangeShapes Go.WideShapes Go.ChangeAt Go.ChangeMaps Go.RowKit Go.Deep
variable {H:Type}
theorem Ng:∀es:List (DataW H),(∀e∈es,∃l,e=.agg l)->es.length<=Rows.uptoBulkAll es:=by
 intro es
 induction es with
 | nil=>intro _;exact Nat.zero_le _
 | cons e l ih=>
  intro h;obtain ⟨x,rfl⟩:=h e List.mem_cons_self;have:=ih λy hy=>h y (List.mem_cons_of_mem _ hy)
  simp only[List.length_cons,Rows.uptoBulkAll,Rows.uptoBulk];omega
set_option maxRecDepth 100000 in
theorem contract(H:Type)(enc:TypeId×Value->H)(W:World)(base:Nat)(args:Array Value)(ds gs:List (DataW H))(before:List MemPlace)
  (hval:∀(j:Nat) t v,Tryz.f6.params[j]?=some t->args[j]?=some v->Value.okWide Tryz.prog W .any base t v)
  (hW:DataW.Whole enc Tryz.prog Tryz.f6.params.toList Rows.allSpec.vars false W args.toList ds gs before)
  (hcond:∀k,(Rows.OpenSpec.upto Rows.allSpec).cond=some k->k H (ds++gs)=true)
  (YX:(DataW.weightsEach Tryz.prog (Tryz.f6.params.toList++(Rows.OpenSpec.upto Rows.allSpec).bare.plain.varTypes Tryz.prog) (ds++gs)).all (·<=reachBytes)=true)
  (hL:laidMetH Tryz.prog Rows.allUptoRow.laid W) (Cc:W.ShapedOpen Tryz.prog):
  Calls Tryz.prog 6 args W λe W'=>∃v,e=.returned v/\Rows.allSpec.post enc Tryz.prog Tryz.f6 false true false false W args v W':=by
 have hW':=hW;obtain ⟨p,q,hA0,hV,rfl,hfz,hnd⟩:=hW;have hA:DataW.TrodAll enc Tryz.prog W 0 (λ_=>true) true Tryz.f6.params.toList args.toList ds p:=hA0;have hsz:(DataW.weightsEach Tryz.prog (Tryz.f6.params.toList++[]) (ds++gs)).all (·<=reachBytes)=true:=YX;rw[Tryz.params6]at hA hval hsz;obtain ⟨v2,vs2,d2,ds2,p2,q2,hargs,rfl,rfl,h2,r2⟩:=trodAll_cons hA
 obtain ⟨rfl,rfl,rfl⟩:=trodAll_nil r2;obtain rfl:args=#[v2]:=Array.toList_inj.1 hargs;obtain ⟨rfl,rfl⟩:=trodVars_none hV;have hlt:=hW'.lt;obtain ⟨n,abI,hlen⟩:=JP (hval 0 30 v2 rfl rfl) h2 (λx hx=>by have:=List.all_eq_true.1 hsz x (DataW.weights_mem_each (j:=0) (t:=30) rfl rfl x hx);simpa using this)
 have hn:n<=1500000:=by
  rcases hlen with rfl|⟨es,sp,rfl,he,hall⟩
  ·omega
  ·have hc:Rows.uptoSmall H ([.slice es sp]++[])=true:=hcond _ rfl;have h3:=of_decide_eq_true hc;have h4:=Ng es hall;simp only[List.cons_append,List.nil_append,Rows.uptoBulkAll,Rows.uptoBulk]at h3;omega
 clear hA0;obtain ⟨hT,-⟩:=Cr hL;have hm:Mx W:=cell_of_shapedOpen_int (P:=Tryz.prog) (zero:=#[.int .i64 0]) (t:=3) (k:=.i64) Cc (of_decide_eq_true (by kernel_rfl)) (by kernel_rfl) rfl (by kernel_rfl) (by kernel_rfl) Tryz.underlying3;simp only[List.append_nil]at hW';refine (Nh v2 n W hT hm abI hn).mono λe W' ⟨he,hB⟩=>?_
 subst he
 refine ⟨_,rfl,_,_,_,[],p2++[],[],hW',trodAll_cons_mk (shut_bool Tryz.underlying4 _) trodAll_mk0,
  trodAll_cons_mk (Below.trod Na (by kernel_rfl) (of_decide_eq_true (by kernel_rfl)) h2 hB (λx hx=>hlt x (by simp[hx]))) trodAll_mk0,rfl,hB.frame _,λh=>by cases h⟩
theorem laid_met(os:Os):laidMet Tryz.prog Rows.allUptoRow.laid ((laidWorld os).forCall (λ_ _=>0) ⟨#[],#[.slice none 0 0],[]⟩).memory:=
 laidMet_of_run' 8 (by kernel_rfl) (by kernel_rfl)
theorem reads(os:Os)(enc:TypeId×Value->H):∃places,DataW.whole enc Tryz.prog ((laidWorld os).forCall (λ_ _=>0) ⟨#[],#[.slice none 0 0],[]⟩).memory Tryz.f6.params.toList Rows.allSpec.vars false #[Value.slice none 0 0].toList 8=some ([.nil],[],places):=
 ⟨[],by kernel_rfl⟩
set_option maxRecDepth 100000 in
theorem lifted(os:Os)(started:os.Started)(H:Type)(enc:TypeId×Value->H)(F:Stop.Interp):
  ReturnsInHanded {} Tryz.checked os 6 .any ((Rows.OpenSpec.upto Rows.allSpec).preRow enc Tryz.prog Tryz.f6 Rows.allUptoRow.domain false Rows.allUptoRow.laid) (((Rows.OpenSpec.upto Rows.allSpec).at F).post enc Tryz.prog Tryz.f6 false true false false):=by
 obtain ⟨places,hx⟩:=reads os enc
 refine returnsInHanded_of_row (C:=Tryz.checked) (s:=Rows.OpenSpec.upto Rows.allSpec) M8 started (by kernel_rfl) Tryz.func6
  (witness_row_at (enc:=enc) (C:=Tryz.checked) false (laidWorld os) #[.slice none 0 0] rfl (by kernel_rfl) (by kernel_rfl) (by kernel_rfl)
   (OpenSpec.preRow_of_cond 8 hx (by kernel_rfl) (λk hk=>by cases hk;rfl) (by kernel_rfl) (laid_met os))) ?_
 intro W base args ds gs before hval hW _ hcond hsz hL Cc _;exact contract H enc W base args ds gs before hval hW hcond hsz hL Cc
theorem said:Rows.AllUptoSaid:=
 OpenClaim.holds_of_cond 6 Tryz.f6 rfl rfl rfl rfl rfl rfl rfl ⟨rfl,rfl,rfl,rfl,rfl⟩ rfl rfl rfl rfl rfl (by kernel_rfl) Tryz.func6 (by kernel_rfl)
  (of_decide_eq_true (by kernel_rfl)) (by unfold Func.isWrapper;first|(rw[if_pos (by decide +kernel)];kernel_rfl)|(rw[if_neg (by decide +kernel)];exact ⟨rfl,rfl⟩))
  (λos started H enc _ F=>by rw[OpenClaim.pre_eq_preRow];exact lifted os started H enc F)
theorem plain(f:FuncId)(fn:Func)(hf:Tryz.pinned.checked.prog.funcNamed "tint/tintlaw.All"=some f)(hfn:Tryz.pinned.checked.prog.funcs[f]?=some fn):
  false=Tryz.pinned.checked.prog.looks []/\∀(j:Nat) t,fn.params[j]?=some t->Tryz.pinned.checked.prog.wantsStandIn t=false:=by
 obtain rfl:f=6:=Option.some.inj ((show Tryz.prog.funcNamed "tint/tintlaw.All"=some 6 by kernel_rfl).symm.trans hf) |>.symm;obtain rfl:fn=Tryz.f6:=(Option.some.inj (Tryz.func6.symm.trans hfn)).symm;refine ⟨by kernel_rfl,λj t ht=>?_⟩;rw[Tryz.params6]at ht;have hm:=Array.mem_of_getElem? ht
 obtain rfl:t=30:=by simpa using hm
 exact (show Tryz.prog.wantsStandIn 30=false by kernel_rfl)
theorem card:Rows.AllUptoCardSaid:=
 Claim7.holds_tied_plain_at .later [] _ _ _ _ said (λ_ h=>by cases h) (by kernel_rfl) (λ_ h=>by cases h) allUpto_row_tie rfl ⟨rfl,rfl⟩ (by kernel_rfl) rfl plain (by kernel_rfl)
end Go.Proofs.YtgncgdkpkkdaeaaGreatDoor.YW
namespace Go.Proofs.YtgncgdkpkkdaeaaGreatDoor
theorem all_holds:Rows.AllUptoCardSaid:=YW.card
end Go.Proofs.YtgncgdkpkkdaeaaGreatDoor
