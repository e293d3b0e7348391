import Derived.Test.YtgncgdkpkkdaeaaGreatDoorMTb
import Derived.Test.YtgncgdkpkkdaeaaGreatDoorMDD
import Derived.HandedShaped
import Derived.Shelf.Vars
import Derived.Carry
import Derived.SizedLaws
import Derived.Deep.Slices
namespace Go.Proofs.YtgncgdkpkkdaeaaGreatDoor
open Go.ChangeShapes Go.WideShapes Go.ChangeAt Go.ChangeMaps Go.RowKit Go.Deep
variable {H:Type}
theorem M3:laidOutB Tryz.prog=true:=by kernel_rfl
theorem C2:Tryz.prog.cellsOf 33=6:=by kernel_rfl
theorem OA:Tryz.prog.bytesOf 33=64:=by kernel_rfl
theorem Ke:Tryz.prog.cellsOf 3=1:=by kernel_rfl
theorem Kf:Tryz.prog.cellsOf 9=1:=by kernel_rfl
theorem RO{P:Program}{e:TypeId}{d:DataW H}{x:Nat}:∀{l:List (DataW H)},d∈l->x∈d.weights P e->x∈DataW.weightsAll P e l:=by
 intro l
 induction l with
 | nil=>intro h;simp at h
 | cons y l ih=>
  intro h hx;unfold DataW.weightsAll;rcases List.mem_cons.1 h with rfl|h
  ·exact List.mem_append_left _ hx
  ·exact List.mem_append_right _ (ih h hx)
set_option maxRecDepth 100000 in
theorem Jn{enc:TypeId×Value->H}{W:World}{base:Nat}{v:Value}{d:DataW H}{ps:List MemPlace}(hv:Value.okWide Tryz.prog W .any base 30 v)(h:DataW.Trod enc Tryz.prog W 0 (λ_=>true) true 30 v d ps)
  (hs:∀x∈d.weights Tryz.prog 30,x<=reachBytes):∃n,B8 W v n/\(n=0∨∃es sp,d=.slice es sp/\es.length=n/\∀e∈es,∃l,e=.agg l):=by
 obtain ⟨a0,len,cap,rfl⟩:=okWide_slice Tryz.underlying30 hv;obtain ⟨fuel,hf⟩:=h;have hc:(Value.slice a0 len cap).cells.toList=[.slice a0 len cap]:=by simp[Value.cells]
 rcases open_slice Tryz.underlying30 hf with ⟨h1,_⟩|⟨a,len',cap',m,n,D,Pl,h1,hb,hl,hm,ED,hx,hall⟩
 ·rw[hc]at h1;simp only[List.cons.injEq,and_true]at h1;exact ⟨0,⟨by omega,none,0,h1,λj hj=>by omega⟩,.inl rfl⟩
 ·rw[hc]at h1;simp only[List.cons.injEq,and_true]at h1;rw[h1];simp only[if_true]at ED;simp only[Prod.mk.injEq]at hx;rw[hx.1]at hs
  have hn:len'<=100000000000000:=by have:=hs ((((List.range len').map D).length+((List.range (m - len')).map λj=>D (len'+j)).length) * Tryz.prog.bytesOf 33) (by unfold DataW.weights;rw[Tryz.underlying30];exact List.mem_cons_self);rw[OA,List.length_map,List.length_range]at this;unfold reachBytes at this;omega
  refine ⟨len',⟨hn,some a,cap',rfl,λj hj=>?_⟩,.inr ⟨_,_,hx.1,by simp,λe he=>?_⟩⟩
  ·obtain ⟨sb,of,spot⟩:=a;have hsp:spot=none:=by obtain ⟨c0,p0,_⟩:=hall 0 (by omega);rw[C2]at p0;obtain ⟨_,hl0,hc0⟩:=World.cells?_some p0;have h6:=hc0 0 (by omega);rw[List.getElem?_eq_getElem (by omega)]at h6;have:=World.cell?_spot h6;simpa [Addr.add] using this
   subst hsp;obtain ⟨cs',h2,h3⟩:=hall j (by omega);rw[C2]at h2;obtain ⟨_,hlen,hcell⟩:=World.cells?_some h2;obtain ⟨xs,k,hk,MN,_,U0,lZ⟩:=DataW.trod_struct Tryz.underlying33 h3;have gx:∀i,i<6->∃y,xs[i]?=some y:=λi hi=>⟨_,List.getElem?_eq_getElem (by rw[U0];exact hi)⟩
   have gi:∀i,i<4->∃z,cs'[i]?=some (.int .i64 z)/\(Lit.int .i64 z).wf=true:=λi hi=>by
    have g:DataW.trod enc Tryz.prog W 0 (λ_=>true) true k 3 ((cs'.drop i).take (Tryz.prog.cellsOf 3))=xs[i]?:=by
     match i,hi with
     | 0,_=>exact lZ 0 _ rfl
     | 1,_=>exact lZ 1 _ rfl
     | 2,_=>exact lZ 2 _ rfl
     | 3,_=>exact lZ 3 _ rfl
    obtain ⟨y,e⟩:=gx i (by omega);rw[e,Ke]at g;obtain ⟨z,hz,_,hw⟩:=DataW.trod_int Tryz.underlying3 g;have:=congrArg (·[0]?) hz;exact ⟨z,by simpa using this,hw⟩
   have gs:∀i,4<=i->i<6->∃s:ByteArray,cs'[i]?=some (.string s)/\s.size<=reachBytes:=λi h4 hi=>by
    have ⟨g,ht⟩:DataW.trod enc Tryz.prog W 0 (λ_=>true) true k 9 ((cs'.drop i).take (Tryz.prog.cellsOf 9))=xs[i]?/\([3,3,3,3,9,9]:List TypeId)[i]?=some 9:=by
     match i,h4,hi with
     | 4,_,_=>exact ⟨lZ 4 _ rfl,rfl⟩
     | 5,_,_=>exact ⟨lZ 5 _ rfl,rfl⟩
    obtain ⟨y,e⟩:=gx i (by omega);rw[e,Kf]at g;obtain ⟨s,hz,hy,_⟩:=DataW.trod_string Tryz.underlying9 g;have e0:=congrArg (·[0]?) hz;refine ⟨s,by simpa using e0,hs _ ?_⟩;unfold DataW.weights;rw[Tryz.underlying30];refine List.mem_cons_of_mem _ (List.mem_append_left _ (RO (d:=D j) (List.mem_map.2 ⟨j,List.mem_range.2 hj,rfl⟩) ?_))
    simp only[Prod.mk.injEq]at MN;rw[MN.1];unfold DataW.weights;rw[Tryz.underlying33];exact DataW.weights_mem_each (j:=i) (t:=9) (by simpa using ht) (by rw[List.getElem?_map,e,hy];rfl) _ (by unfold DataW.weights;exact List.mem_singleton.2 rfl)
   obtain ⟨z0,e0,_⟩:=gi 0 (by omega);obtain ⟨z1,e1,w1⟩:=gi 1 (by omega);obtain ⟨z2,e2,w2⟩:=gi 2 (by omega);obtain ⟨z3,e3,_⟩:=gi 3 (by omega);obtain ⟨s4,e4,q4⟩:=gs 4 (by omega) (by omega);obtain ⟨s5,e5,q5⟩:=gs 5 (by omega) (by omega)
   have gL:∀i u,i<6->cs'[i]?=some u->W.cell? ⟨sb,of+j*6+i,none⟩=some u:=λi u hi hu=>by have:=hcell i hi;rw[addr_add,addr_add,hu]at this;simpa using this
   exact ⟨sb,of,rfl,z0,z1,z2,z3,s4,s5,⟨q4,q5,w1,w2⟩,gL 0 _ (by omega) e0,gL 1 _ (by omega) e1,gL 2 _ (by omega) e2,gL 3 _ (by omega) e3,gL 4 _ (by omega) e4,gL 5 _ (by omega) e5⟩
  ·obtain ⟨j,hj,rfl⟩:=List.mem_map.1 he;obtain ⟨cs',h2,h3⟩:=hall j (by have:=List.mem_range.1 hj;omega);obtain ⟨xs,k,hk,MN,_⟩:=DataW.trod_struct Tryz.underlying33 h3;simp only[Prod.mk.injEq]at MN;exact ⟨_,MN.1⟩
end Go.Proofs.YtgncgdkpkkdaeaaGreatDoor
