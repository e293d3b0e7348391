import Derived.Test.YtgncgdkpkkdaeaaGreatDoorKVG
import Derived.Test.YtgncgdkpkkdaeaaGreatDoorK3
import Derived.Test.YtgncgdkpkkdaeaaGreatDoorKL
import Derived.Test.YtgncgdkpkkdaeaaGreatDoorKI
import Derived.Deep.RegionHeld3
import Derived.Test.YtgncgdkpkkdaeaaGreatDoorK5
namespace Go.Proofs.YtgncgdkpkkdaeaaGreatDoor
open Go.RowKit Tint Go.Maps Go.Shelf
theorem Runs.good {G : List GS} (hok : GOk G) {st : List Nat} {ls : List (List UInt8)} {out : List (List Nat × List Sp)} {st' : List Nat} (h : Runs G st ls out st') (hg : Good G st) : ∀ y ∈ out, Good G y.1 := by
 induction h with
 | nil => intro y hy; simp at hy
 | cons ht _ ih =>
  intro y hy
  rcases List.mem_cons.1 hy with rfl | hy
  ·exact hg
  ·exact ih (ht.good hok hg) y hy
end Go.Proofs.YtgncgdkpkkdaeaaGreatDoor
