import Derived.Test.YtgncgdkpkkdaeaaGreatDoorCards
import Derived.Test.YtgncgdkpkkdaeaaGreatDoorTie
import Derived.Test.YtgncgdkpkkdaeaaGreatDoorMF
import Derived.WalkKit
import Derived.ProofKit
import Derived.OpenShut
import Derived.Deep.DeepHandedRow
import Derived.Lib.LaidTab
namespace Go.Proofs.YtgncgdkpkkdaeaaGreatDoor
open Go.ChangeShapes Go.WideShapes Go.ChangeAt Go.RowKit
theorem BI:ownKnob Tryz.prog.godebug=none:=by kernel_rfl
theorem yD:Tryz.prog.globalNamed "math/bits.deBruijn64tab"=some 1:=by kernel_rfl
theorem O4:(Tryz.prog.globals[1]?).map (·.type)=some 326:=by kernel_rfl
theorem KE:Tryz.prog.cellsOf 326=64:=by kernel_rfl
theorem Gh:Tryz.prog.cellsOf 5=1:=by kernel_rfl
def tO:List Int:=Lib.deBruijn64tab.map Int.ofNat
theorem rT{W:World}(h:laidMetH Tryz.prog [("math/bits.deBruijn64tab",Rows.laid_math_bits_deBruijn64tab)] W):kK W/\0<W.heap.size:=by
 have ht:Lib.TabIs Tryz.prog W "math/bits.deBruijn64tab" .u8 tO:=Lib.tabIs_of_head (rest:=[]) yD O4 Tryz.underlying326 Tryz.underlying5 Gh KE h
 have hT:kK W:=λj hj=>by
  rw[ht.cell yD j (by simpa [tO,Lib.deBruijn64tab] using hj)];have:∀j,j<64->tO.getD j 0=((Lib.deBruijn64tab.getD j 0:Nat):Int):=by decide +kernel
  rw[this j hj]
 refine ⟨hT,?_⟩;have h0:=hT 0 (by decide);rcases Nat.eq_zero_or_pos W.heap.size with h|h
 ·simp[World.cell?,Array.eq_empty_of_size_eq_zero h]at h0
 ·exact h
noncomputable def laidWorld(os:Os):World:=
 { World.holding Tryz.prog os ⟨#[],#[],[]⟩ with heap:=(World.holding Tryz.prog os ⟨#[],#[],[]⟩).heap.modify 1 fun
   | .cells _ t frozen=>.cells (tO.map (Value.int .u8)).toArray t frozen
   | o=>o }
end Go.Proofs.YtgncgdkpkkdaeaaGreatDoor
