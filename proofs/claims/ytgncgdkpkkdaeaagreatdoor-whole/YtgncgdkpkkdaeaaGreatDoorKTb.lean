import Derived.Test.YtgncgdkpkkdaeaaGreatDoorCards
import Derived.Test.YtgncgdkpkkdaeaaGreatDoorTie
import Derived.Test.YtgncgdkpkkdaeaaGreatDoorKF
import Derived.WalkKit
import Derived.ProofKit
import Derived.OpenShut
import Derived.Deep.DeepHandedRow
import Derived.Lib.LaidTab
namespace Go.Proofs.YtgncgdkpkkdaeaaGreatDoor
open Go.ChangeShapes Go.WideShapes Go.ChangeAt Go.RowKit
theorem own_knob : ownKnob Tryz.prog.godebug = none := by kernel_rfl
theorem tab_named : Tryz.prog.globalNamed "math/bits.deBruijn64tab" = some 1 := by kernel_rfl
theorem tab_type : (Tryz.prog.globals[1]?).map (·.type) = some 326 := by kernel_rfl
theorem tab_cells : Tryz.prog.cellsOf 326 = 64 := by kernel_rfl
theorem byte_cells : Tryz.prog.cellsOf 5 = 1 := by kernel_rfl
def tabInts : List Int := Lib.deBruijn64tab.map Int.ofNat
theorem tab_of_laid {W : World} (h : laidMetH Tryz.prog [("math/bits.deBruijn64tab", Rows.laid_math_bits_deBruijn64tab)] W) : Tab W ∧ 0 < W.heap.size := by
 have ht : Lib.TabIs Tryz.prog W "math/bits.deBruijn64tab" .u8 tabInts := Lib.tabIs_of_head (rest := []) tab_named tab_type Tryz.underlying326 Tryz.underlying5 byte_cells tab_cells h
 have hT : Tab W := fun j hj => by
  rw [ht.cell tab_named j (by simpa [tabInts, Lib.deBruijn64tab] using hj)]
  have : ∀ j, j < 64 → tabInts.getD j 0 = ((Lib.deBruijn64tab.getD j 0 : Nat) : Int) := by decide +kernel
  rw [this j hj]
 refine ⟨hT, ?_⟩
 have h0 := hT 0 (by decide)
 rcases Nat.eq_zero_or_pos W.heap.size with h | h
 ·simp [World.cell?, Array.eq_empty_of_size_eq_zero h] at h0
 ·exact h
noncomputable def laidWorld (os : Os) : World :=
 { World.holding Tryz.prog os ⟨#[], #[], []⟩ with heap := (World.holding Tryz.prog os ⟨#[], #[], []⟩).heap.modify 1 fun
   | .cells _ t frozen => .cells (tabInts.map (Value.int .u8)).toArray t frozen
   | o => o }
end Go.Proofs.YtgncgdkpkkdaeaaGreatDoor
