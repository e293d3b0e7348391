/- Which of n things a raw number speaks of: what the function pick answers. -/
import Derived.Test.YtgncgdkpkkdaeaaDoorBase
namespace Go.Proofs.YtgncgdkpkkdaeaaDoor
open Go.RowKit Tint

def PickPost (n : Nat) (w : World) (e : Ending) (w' : World) : Prop := ∃ r : Nat, r < n ∧ e = .returned (.int .i64 r) ∧ w' = w

theorem tmod_nat (c : Int) (n : Nat) (h0 : 0 ≤ c) (hn : 0 < n) : ∃ r : Nat, r < n ∧ c.tmod n = r := by
  obtain ⟨k, rfl⟩ := Int.eq_ofNat_of_zero_le h0
  exact ⟨k % n, Nat.mod_lt _ hn, by simp [Int.tmod]⟩

theorem pick_any (c : Int) (n : Nat) (w : World) (hc : (Lit.int .i64 c).wf = true) (hn : 0 < n) (hn2 : n < 2^62) :
    Calls Tryd.prog 13 #[.int .i64 c, .int .i64 n] w (PickPost n w) := by
  have hcb : -9223372036854775808 ≤ c ∧ c ≤ 9223372036854775807 := by
    simp [Lit.wf, IntKind.min, IntKind.max, IntKind.signed, IntKind.bits] at hc
    omega
  have hn0 : ¬ ((n : Int) = 0) := by omega
  by_cases h : c < 0
  · obtain ⟨r, hr, hr'⟩ := tmod_nat (-(c + 1)) n (by omega) hn
    go_enter Tryd.func13, Tryd.ntmps13
    go_wp2_with fail
    go_ret
    exact ⟨r, hr, rfl, rfl⟩
  · obtain ⟨r, hr, hr'⟩ := tmod_nat c n (by omega) hn
    go_enter Tryd.func13, Tryd.ntmps13
    go_wp2_with fail
    go_ret
    exact ⟨r, hr, rfl, rfl⟩
end Go.Proofs.YtgncgdkpkkdaeaaDoor
