/- Byte classes: what the closures tell. -/
import Derived.Test.YtgncgdkpkkdaeaaGreatDoorProg
import Derived.WalkKit
import Derived.WalkSpells
namespace Go.Proofs.YtgncgdkpkkdaeaaGreatDoor
open Go.RowKit

theorem hide {p : Prop} (h : p) : Hid p := h

set_option maxHeartbeats 400000 in
theorem between1 (lo hi b : UInt8) (p q : Addr) (w : World) (hp : w.cell? p = some (.int .u8 lo.toNat)) (hq : w.cell? q = some (.int .u8 hi.toNat)) :
    Calls Tryz.prog 216 #[.int .u8 b.toNat, .pointer (some p), .pointer (some q)] w fun e w' =>
      e = .returned (.bool (decide (lo.toNat ≤ b.toNat) && decide (b.toNat ≤ hi.toNat))) ∧ w' = w := by
  go_enter Tryz.func216, Tryz.ntmps216
  go_wp2
  all_goals
    go_ret
    refine ⟨?_, rfl⟩
    simp [*]

/-- A call of function number g enters it. -/
def Enters (g : FuncId) : Prop := ∀ args w, Sem.run Tryz.prog (callFunc g args) w = .ok (.enter g args) w

/-- A function value that takes a byte and tells what 'f' tells, and leaves the world. -/
def Tells (w : World) (v : Value) (f : UInt8 → Bool) : Prop :=
  ∃ g cap, v = .func (.func g) #[] cap ∧ Enters g ∧ ∀ b : UInt8, Calls Tryz.prog g (#[.int .u8 b.toNat] ++ cap) w fun e w' => e = .returned (.bool (f b)) ∧ w' = w

set_option maxRecDepth 20000 in
theorem enters_between : Enters 216 := fun _ _ => by rfl
set_option maxRecDepth 20000 in
theorem enters_either : Enters 217 := fun _ _ => by rfl
set_option maxRecDepth 20000 in
theorem enters_allBut : Enters 218 := fun _ _ => by rfl
set_option maxRecDepth 20000 in
theorem enters_every : Enters 209 := fun _ _ => by rfl

set_option maxHeartbeats 400000 in
theorem either1 (f g : UInt8 → Bool) (b : UInt8) (p q : Addr) (w : World) (v u : Value) (hp : w.cell? p = some v) (hq : w.cell? q = some u) (hv : Tells w v f) (hu : Tells w u g) :
    Calls Tryz.prog 217 #[.int .u8 b.toNat, .pointer (some p), .pointer (some q)] w fun e w' =>
      e = .returned (.bool (f b || g b)) ∧ w' = w := by
  obtain ⟨h1, c1, rfl, e1, t1⟩ := hv
  obtain ⟨h2, c2, rfl, e2, t2⟩ := hu
  have T1 := hide (t1 b)
  have T2 := hide (t2 b)
  unfold Enters at e1 e2
  clear t1 t2
  go_enter Tryz.func217, Tryz.ntmps217
  go_wp2_with fail
  refine T1.out.mono ?_
  rintro e w' ⟨rfl, rfl⟩
  by_cases hf : f b = true
  · go_wp2_with fail
    go_ret
    exact ⟨by simp [hf], rfl⟩
  · have hf' : f b = false := by simpa using hf
    go_wp2_with fail
    refine T2.out.mono ?_
    rintro e w' ⟨rfl, rfl⟩
    go_wp2_with fail
    go_ret
    exact ⟨by simp [hf'], rfl⟩

set_option maxHeartbeats 400000 in
theorem allBut1 (f : UInt8 → Bool) (b : UInt8) (p : Addr) (w : World) (v : Value) (hp : w.cell? p = some v) (hv : Tells w v f) :
    Calls Tryz.prog 218 #[.int .u8 b.toNat, .pointer (some p)] w fun e w' =>
      e = .returned (.bool (!f b)) ∧ w' = w := by
  obtain ⟨h1, c1, rfl, e1, t1⟩ := hv
  have T1 := hide (t1 b)
  unfold Enters at e1
  clear t1
  go_enter Tryz.func218, Tryz.ntmps218
  go_wp2_with fail
  refine T1.out.mono ?_
  rintro e w' ⟨rfl, rfl⟩
  go_wp2_with fail
  go_ret
  exact ⟨by simp, rfl⟩

set_option maxHeartbeats 400000 in
theorem every0 (b : UInt8) (w : World) :
    Calls Tryz.prog 209 #[.int .u8 b.toNat] w fun e w' => e = .returned (.bool true) ∧ w' = w := by
  go_enter Tryz.func209, Tryz.ntmps209
  go_wp2
  go_ret
  exact ⟨rfl, rfl⟩
end Go.Proofs.YtgncgdkpkkdaeaaGreatDoor
