/- The law Matches holds: the walk of it. -/
import Derived.Test.YtgncgdkpkkdaeaaDoorTE
import Derived.Test.YtgncgdkpkkdaeaaDoorL0
namespace Go.Proofs.YtgncgdkpkkdaeaaDoor.Ref
open Go.RowKit Tint

theorem num_any (n : Int) (w : World) : Calls Tryd.prog 7 #[.int .i64 n] w fun e w' => e = .returned (.int .i64 n) ∧ w' = w := by
  go_enter Tryd.func7, Tryd.ntmps7
  go_wp2_with fail
  go_ret
  exact ⟨rfl, rfl⟩

set_option maxRecDepth 20000 in
set_option maxHeartbeats 4000000 in
theorem matches_walk (pat text : ByteArray) (f : Int) (w : World) (hT : Tab w) (hw : 0 < w.heap.size) (hpz : pat.size ≤ 140737488351232) (htz : text.size ≤ 140737488351232) (hf : (Lit.int .i64 f).wf = true) :
    Calls Tryd.prog 3 #[.string pat, .string text, .int .i64 f] w fun e w' => e = .returned (.bool true) ∧ Below w.heap.size w w' := by
  have HM := hide (match_any pat text f w hT hw (by unfold maxLen; omega) (by unfold maxLen; omega) hf)
  clear hT hw hf
  go_enter Tryd.func3, Tryd.ntmps3
  go_wp2_with fail
  refine HM.out.mono ?_
  rintro e w1 ⟨v, rfl, hm, hB⟩
  have HB := hide hB
  clear hB HM
  rcases hm with ⟨h1, rfl⟩ | ⟨h1, h2, rfl⟩ | ⟨r, h1, h2, h3, rfl⟩ | ⟨r, h1, h2, f', rfl, h3, h4⟩
  · rw [text_length] at h1
    have g1 : decide ((60 : Int) < (pat.size : Int)) = true := by simp; omega
    go_wp2_with fail
    refine (num_any _ _).mono ?_
    rintro e w2 ⟨rfl, rfl⟩
    go_wp2_with fail
    go_ret
    exact ⟨rfl, HB.out⟩
  · rw [text_length] at h1
    have hn60 : ¬ 60 < pat.size := by omega
    have g1 : decide (60 < pat.size) = false := by simpa using hn60
    have HPA := hide (pattern_any pat w1 h1)
    have HNP := hide h2
    clear h2
    go_wp2_with fail
    refine HPA.out.mono ?_
    rintro e w2 ⟨hB2, ⟨rfl, hno⟩ | ⟨P, B, ls, first, r, rfl, hpa, hBw, hpi⟩⟩
    · have HB2 := hide (HB.out.trans (hB2.mono HB.out.size))
      clear hB2 hno
      go_wp2_with fail
      refine (num_any _ _).mono ?_
      rintro e w3 ⟨rfl, rfl⟩
      go_wp2_with fail
      go_ret
      exact ⟨rfl, HB2.out⟩
    · exfalso
      rcases HNP.out with h | ⟨r', s', hs, h⟩
      · have := PAlt.det hpa h; cases this
      · have := PAlt.det hpa h
        simp only [Option.some.injEq, Prod.mk.injEq] at this
        exact hs this.2.symm
  · rw [text_length] at h1
    have hn60 : ¬ 60 < pat.size := by omega
    have g1 : decide (60 < pat.size) = false := by simpa using hn60
    have HPA := hide (pattern_any pat w1 h1)
    have HP := hide h2
    rw [text_length] at h3
    clear h2
    go_wp2_with fail
    refine HPA.out.mono ?_
    rintro e w2 ⟨hB2, ⟨rfl, hno⟩ | ⟨P, B, ls, first, r2, rfl, hpa, hBw, hpi⟩⟩
    · exfalso
      rcases hno with h | ⟨r', s', hs, h⟩
      · have := PAlt.det HP.out h; cases this
      · have := PAlt.det HP.out h
        simp only [Option.some.injEq, Prod.mk.injEq] at this
        exact hs this.2.symm
    · have HB2 := hide (HB.out.trans (hB2.mono HB.out.size))
      clear hB2 hpa hpi hBw
      rcases h3 with h3 | h3
      · go_wp2_with fail
        refine (num_any _ _).mono ?_
        rintro e w3 ⟨rfl, rfl⟩
        go_wp2_with fail
        go_ret
        exact ⟨rfl, HB2.out⟩
      · have g2 : decide (f < 0) = false := by simp; omega
        have g3 : decide ((text.size : Int) < f) = true := by simpa using h3
        go_wp2_with fail
        refine (num_any _ _).mono ?_
        rintro e w3 ⟨rfl, rfl⟩
        go_wp2_with fail
        go_ret
        exact ⟨rfl, HB2.out⟩
  · rw [text_length] at h1 h3
    have hn60 : ¬ 60 < pat.size := by omega
    have g1 : decide (60 < pat.size) = false := by simpa using hn60
    have HPA := hide (pattern_any pat w1 h1)
    have HP := hide h2
    obtain ⟨o, ho, hv⟩ : ∃ o, IsMatch r text.data.toList f' o ∧ ∃ (a b : Nat) (x : Bool), v = .tuple #[.int .i64 a, .int .i64 b, .bool x, .int .i64 0] ∧ found o = .tuple #[.int .i64 a, .int .i64 b, .bool x] := by
      rcases h4 with ⟨h5, rfl⟩ | ⟨s, e, h5, rfl⟩
      · exact ⟨none, h5, 0, 0, false, rfl, rfl⟩
      · exact ⟨some (s, e), h5, s, e, true, rfl, rfl⟩
    obtain ⟨a, b, x, rfl, hfo⟩ := hv
    have HO := hide ho
    have HFO := hide hfo
    clear h2 h4 ho hfo
    go_wp2_with fail
    refine HPA.out.mono ?_
    rintro e w2 ⟨hB2, ⟨rfl, hno⟩ | ⟨P, B, ls, first, r2, rfl, hpa, hBw, hpi⟩⟩
    · exfalso
      rcases hno with h | ⟨r', s', hs, h⟩
      · have := PAlt.det HP.out h; cases this
      · have := PAlt.det HP.out h
        simp only [Option.some.injEq, Prod.mk.injEq] at this
        exact hs this.2.symm
    · have hr := PAlt.det hpa HP.out
      simp only [Option.some.injEq, Prod.mk.injEq, and_true] at hr
      subst hr
      have HB2 := hide (HB.out.trans (hB2.mono HB.out.size))
      have HFI := hide (find_any w2 B P ls first r2 hpi (Nat.le_trans hpi.plan.hP (Nat.le_of_lt hpi.plan.lt)) text f' h3 htz)
      have g2 : decide ((f' : Int) < 0) = false := by simp
      have hnf : ¬ text.size < f' := by omega
      have g3 : decide (text.size < f') = false := by simpa using hnf
      clear hB2 hpa hpi hBw
      go_wp2_with fail
      refine HFI.out.mono ?_
      rintro e w3 ⟨o2, ho2, rfl, hB3⟩
      obtain rfl := ho2.unique HO.out
      have HB3 := hide (HB2.out.trans (hB3.mono HB2.out.size))
      rw [HFO.out]
      clear hB3 ho2
      go_wp2_with fail
      refine (num_any _ _).mono ?_
      rintro e w4 ⟨rfl, rfl⟩
      cases x
      all_goals
        go_wp2_with fail
        go_ret
        exact ⟨rfl, HB3.out⟩
end Go.Proofs.YtgncgdkpkkdaeaaDoor.Ref

