import Derived.Test.YtgncgdkpkkdaeaaGreatDoorKI
import Derived.Test.YtgncgdkpkkdaeaaGreatDoorKC
import Derived.Test.YtgncgdkpkkdaeaaGreatDoorKB
import Derived.Deep.LoopGhost
import Derived.Laws.MakeOwn
import Derived.Laws.OwnMore
import Derived.Test.YtgncgdkpkkdaeaaGreatDoorKD
import Derived.Maps.AppendAt
import Derived.Test.YtgncgdkpkkdaeaaGreatDoorKK
import Derived.WalkSmall
namespace Go.Proofs.YtgncgdkpkkdaeaaGreatDoor
open Go.RowKit Tint
theorem fst_none_mem {p : Lns → Ln → Prop} (hp : ∀ pre x, p pre x ↔ p [] x) {pre l : Lns} (h : Fst p pre l none) : ∀ y ∈ l, ¬ p [] y.2 := by
 generalize ho : (none : Option Nat) = o at h
 induction h with
 | nil => intro y hy; simp at hy
 | hit _ => cases ho
 | skip hn _ ih =>
  intro y hy
  rcases List.mem_cons.1 hy with rfl | hy
  ·exact fun h => hn ((hp _ _).2 h)
  ·exact ih ho y hy
end Go.Proofs.YtgncgdkpkkdaeaaGreatDoor
