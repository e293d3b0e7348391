import Derived.Test.YtgncgdkpkkdaeaaDoorBase
import Derived.Lib.IndexAny
import Derived.Laws.StandIn
namespace Go.Proofs.YtgncgdkpkkdaeaaDoor
open Go.RowKit Tint

theorem indexByteString_run (s : ByteArray) (b : UInt8) (w : World) :
    Sem.run Tryd.prog (callFunc 64 #[.string s, .int .u8 b.toNat]) w = .ok (.value (.int .i64 (Lib.indexByte s.data.toList b))) w := by
  rw [run_callFunc_indexByte (fn := Tryd.f64) Tryd.func64 (by kernel_rfl) (by kernel_rfl) (by kernel_rfl) (by kernel_rfl)]
  rw [Lib.run_indexByteString]
  simp [Result.andThen]

set_option maxHeartbeats 400000 in
theorem indexByte_any (s : ByteArray) (b : UInt8) (w : World) :
    Calls Tryd.prog 55 #[.string s, .int .u8 b.toNat] w fun e w' =>
      e = .returned (.int .i64 (Lib.indexByte s.data.toList b)) ∧ w' = w := by
  have hrun := indexByteString_run s b
  go_enter Tryd.func55, Tryd.ntmps55
  go_wp2
  go_ret
  exact ⟨rfl, rfl⟩

set_option maxHeartbeats 400000 in
theorem next_any (s : ByteArray) (B P : Nat) (text : ByteArray) (at_ : Nat) (ns : List (Nd Value)) (w : World) (hP : Psr w B P text at_ ns) :
    Calls Tryd.prog 44 #[.pointer (some ⟨P, 0, none⟩), .string s] w fun e w' =>
      e = .returned (.bool (match (rest text at_).head? with | none => false | some b => s.data.toList.contains b)) ∧ ∃ n, w' = w.drewN n := by
  obtain ⟨⟨sv, h1, h2⟩, hle, hs, hB⟩ := hP
  have c0 : w.cell? ⟨P, 0, none⟩ = some (.string text) := by simp [World.cell?, h1]
  have c1 : w.cell? ⟨P, 1, none⟩ = some (.int .i64 at_) := by simp [World.cell?, h1]
  clear h1 h2
  rcases Nat.lt_or_ge at_ text.size with hlt | hge
  · rw [rest_cons hlt]
    have hg : decide ((at_ : Int) < (text.size : Int)) = true := by simpa using hlt
    simp only [List.head?_cons]
    rw [Lib.contains_iff_indexByte]
    generalize hb : text[at_] = b
    go_enter Tryd.func44, Tryd.ntmps44
    go_wp2_with fail
    go_quiet ((go_at_call 55; exact Calls.quiet_of_same (indexByte_any _ _ _)))
    go_wp2
    go_ret
    exact ⟨rfl, nq, rfl⟩
  · have hg : decide (at_ < text.size) = false := by simp; omega
    rw [rest_nil hge]
    go_enter Tryd.func44, Tryd.ntmps44
    go_wp2_with fail
    go_quiet (fail)
    go_wp2
    go_ret
    exact ⟨rfl, nq, rfl⟩
end Go.Proofs.YtgncgdkpkkdaeaaDoor
