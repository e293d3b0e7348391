import Derived.Test.YtgncgdkpkkdaeaaGreatDoorCards
import Derived.Test.YtgncgdkpkkdaeaaGreatDoorTie
import Derived.Test.YtgncgdkpkkdaeaaGreatDoorMF
import Derived.WalkKit
import Derived.ProofKit
import Derived.OpenShut
import Derived.Deep.DeepHandedRow
import Derived.Lib.LaidTab
namespace Go.Proofs.YtgncgdkpkkdaeaaGreatDoor
open Go.ChangeShapes Go.WideShapes Go.ChangeAt Go.RowKit
theorem Aq:ownKnob Tryz.prog.godebug=none:=by kernel_rfl
theorem xx:Tryz.prog.globalNamed "math/bits.deBruijn64tab"=some 1:=by kernel_rfl
theorem NA:(Tryz.prog.globals[1]?).map (·.type)=some 326:=by kernel_rfl
theorem Jn:Tryz.prog.cellsOf 326=64:=by kernel_rfl
theorem EW:Tryz.prog.cellsOf 5=1:=by kernel_rfl
def sr:List Int:=Lib.deBruijn64tab.map Int.ofNat
theorem qL{W:World}(h:laidMetH Tryz.prog [("math/bits.deBruijn64tab",Rows.laid_math_bits_deBruijn64tab)] W):kB W/\0<W.heap.size:=by
 have ht:Lib.TabIs Tryz.prog W "math/bits.deBruijn64tab" .u8 sr:=Lib.tabIs_of_head (rest:=[]) xx NA Tryz.underlying326 Tryz.underlying5 EW Jn h
 have hT:kB W:=λj hj=>by
  rw[ht.cell xx j (by simpa [sr,Lib.deBruijn64tab] using hj)];have:∀j,j<64->sr.getD j 0=((Lib.deBruijn64tab.getD j 0:Nat):Int):=by decide +kernel
  rw[this j hj]
 refine ⟨hT,?_⟩;have h0:=hT 0 (by decide);rcases Nat.eq_zero_or_pos W.heap.size with h|h
 ·simp[World.cell?,Array.eq_empty_of_size_eq_zero h]at h0
 ·exact h
noncomputable def laidWorld(os:Os):World:=
 { World.holding Tryz.prog os ⟨#[],#[],[]⟩ with heap:=(World.holding Tryz.prog os ⟨#[],#[],[]⟩).heap.modify 1 fun
   | .cells _ t frozen=>.cells (sr.map (Value.int .u8)).toArray t frozen
   | o=>o }
end Go.Proofs.YtgncgdkpkkdaeaaGreatDoor
