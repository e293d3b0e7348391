/- Parse. -/
import Derived.Test.YtgncgdkpkkdaeaaDoorP12
namespace Go.Proofs.YtgncgdkpkkdaeaaDoor
open Go.RowKit Tint

def nd0 : Nd Value := ⟨0, .nilFunc, 0, 0, true⟩

/-- The world in which the reading of a pattern begins. -/
def pw (w : World) (s : ByteArray) : World :=
  ((w.alloc (.cells #[.slice none 0 0, .int .i64 0] 39)).alloc (.cells #[.int .i64 0, .nilFunc, .int .i64 0, .int .i64 0, .bool true] 84)).alloc
    (.cells #[.string s, .int .i64 0, .slice (some ⟨w.heap.size + 1, 0, none⟩) 1 1] 67)

theorem pw_below (w : World) (s : ByteArray) : Below w.heap.size w (pw w s) :=
  (((Below.refl _ _).alloc (Nat.le_refl _) _).alloc (by simp) _).alloc (by simp; omega) _

theorem pw_R (w : World) (s : ByteArray) : (pw w s).heap[w.heap.size]? = some (.cells #[.slice none 0 0, .int .i64 0] 39 (0, 0)) :=
  heap_alloc_old (heap_alloc_old (heap_alloc_last w _))

theorem pw_pre (w : World) (s : ByteArray) (h : s.size ≤ 60) : Pre w.heap.size (w.heap.size + 1 + 1) s 0 [nd0] (pw w s) := by
  refine ⟨⟨⟨.slice (some ⟨w.heap.size + 1, 0, none⟩) 1 1, ?_, ?_⟩, Nat.zero_le _, h, by omega⟩, ⟨.nilFunc, rfl⟩, ?_⟩
  · have := heap_alloc_last ((w.alloc (.cells #[.slice none 0 0, .int .i64 0] 39)).alloc (.cells #[.int .i64 0, .nilFunc, .int .i64 0, .int .i64 0, .bool true] 84)) (.cells #[.string s, .int .i64 0, .slice (some ⟨w.heap.size + 1, 0, none⟩) 1 1] 67)
    simpa [pw] using this
  · refine ⟨⟨rfl, .inr ⟨w.heap.size + 1, 1, #[.int .i64 0, .nilFunc, .int .i64 0, .int .i64 0, .bool true], rfl, by omega, ?_, Nat.le_refl _, by unfold maxLen; omega, rfl, rfl⟩⟩, fun d hd => by simp at hd; subst hd; exact .inl rfl⟩
    have := heap_alloc_last (w.alloc (.cells #[.slice none 0 0, .int .i64 0] 39)) (.cells #[.int .i64 0, .nilFunc, .int .i64 0, .int .i64 0, .bool true] 84)
    exact heap_alloc_old (by simpa using this)
  · rw [length_rest]; simp only [List.length_cons, List.length_nil]; omega

/-- What Parse leaves. -/
def ParsePost (s : ByteArray) (w : World) (e : Ending) (w' : World) : Prop :=
  Below w.heap.size w w' ∧ ((60 < s.size ∧ e = .returned (.tuple #[.agg #[.slice none 0 0, .int .i64 0], .int .i64 1])) ∨
    (s.size ≤ 60 ∧ (PAlt s.data.toList none ∨ ∃ r s', s' ≠ [] ∧ PAlt s.data.toList (some (r, s'))) ∧ e = .returned (.tuple #[.agg #[.slice none 0 0, .int .i64 0], .int .i64 6])) ∨
    (s.size ≤ 60 ∧ ∃ (sv : Value) (a : ARe) (ns : List (Nd Value)), e = .returned (.tuple #[.agg #[sv, .int .i64 a.ix], .int .i64 0]) ∧ PAlt s.data.toList (some (a.re, [])) ∧
      Lists w' w.heap.size sv ns ∧ Rep (IsCls w') ns a ∧ Rep (IsCls w') ns .eps ∧ ns.length ≤ 200))

set_option maxHeartbeats 1000000 in
theorem parse_long (s : ByteArray) (w : World) (hs : s.size ≤ maxLen) (h : 60 < s.size) :
    Calls Tryd.prog 14 #[.string s] w (ParsePost s w) := by
  unfold maxLen at hs
  go_enter Tryd.func14, Tryd.ntmps14
  go_wp2
  exact bodyPost_ret (v := .tuple #[.agg #[.slice none 0 0, .int .i64 0], .int .i64 1]) (by simp [results, Tryd.results14, go_sem]) rfl ⟨(Below.refl _ _).alloc (Nat.le_refl _) _, .inl ⟨h, rfl⟩⟩

theorem rest_zero (s : ByteArray) : rest s 0 = s.data.toList := by simp [rest]

theorem Below.trans_pfr {w w1 w2 : World} (h : Below w.heap.size w w1) (k : PFr w.heap.size w1 w2) : Below w.heap.size w w2 := h.trans (k.below h.size)

/-- Behind the stores of the result. -/
theorem parse_end {s : ByteArray} {w w1 : World} {sv : Value} {a : ARe} {at' : Nat} {ns : List (Nd Value)} (h : s.size ≤ 60) (hF : PFr w.heap.size (pw w s) w1) (hA : PAlt (rest s 0) (some (a.re, rest s at'))) (hat : at' = s.size)
    (hL : Lists w1 w.heap.size sv ns) (hR : Rep (IsCls w1) ns a) (h0 : Rep (IsCls w1) ns .eps) (hn : ns.length ≤ 200) (i : Value) :
    ParsePost s w (.returned (.tuple #[.agg #[sv, .int .i64 a.ix], .int .i64 0])) ((w1.setCell ⟨w.heap.size, 0, none⟩ sv).setCell ⟨w.heap.size, 1, none⟩ i) := by
  have hb := Below.trans_pfr (pw_below w s) hF
  have hRr := hF.other (pw_R w s) (by decide) (by decide)
  have hne : ∀ (k : Nat) c t, t ≠ 39 → w1.heap[k]? = some (.cells c t (0, 0)) → ((w1.setCell ⟨w.heap.size, 0, none⟩ sv).setCell ⟨w.heap.size, 1, none⟩ i).heap[k]? = some (.cells c t (0, 0)) := by
    intro k c t ht hk
    have hkw : k ≠ w.heap.size := by
      rintro rfl
      rw [hRr] at hk
      simp at hk
      exact ht hk.2.symm
    rw [Below.heap_setCell _ _ _ _ (by exact hkw), Below.heap_setCell _ _ _ _ (by exact hkw)]
    exact hk
  have hst : Stay w1 ((w1.setCell ⟨w.heap.size, 0, none⟩ sv).setCell ⟨w.heap.size, 1, none⟩ i) := fun k c t ht hk => hne k c t (by rcases ht with rfl | rfl <;> decide) hk
  refine ⟨(hb.setCell (Nat.le_refl _) _).setCell (Nat.le_refl _) _, .inr (.inr ⟨h, sv, a, ns, rfl, ?_, ?_, hR.world hst, h0.world hst, hn⟩)⟩
  · rw [← rest_zero, ← rest_nil (text := s) (at_ := at') (by omega)]; exact hA
  · refine hL.keep fun k hk => ?_
    obtain ⟨_, cur, hc⟩ := hL.block hk
    rw [hc]
    exact hne k _ _ (by decide) hc

set_option maxHeartbeats 1000000 in
theorem parse_short (s : ByteArray) (w : World) (h : s.size ≤ 60) :
    Calls Tryd.prog 14 #[.string s] w (ParsePost s w) := by
  have hg : decide ((60 : Int) < (s.size : Int)) = false := by simp; omega
  go_enter Tryd.func14, Tryd.ntmps14
  go_wp2_with (first | (go_at_call 21; go_in))
  refine (choices_all 61 w.heap.size (w.heap.size + 1 + 1) s 0 [nd0] (pw w s) (pw_pre w s h) (by rw [length_rest]; omega)).mono ?_
  rintro e w1 ⟨hF, ⟨a, at1, ms, rfl, hA, hP, hR, hb⟩ | ⟨i, rfl, hA⟩⟩
  · have hRr := hF.other (pw_R w s) (by decide) (by decide)
    have r0 : w1.cell? ⟨w.heap.size, 0, none⟩ = some (.slice none 0 0) := by simp [World.cell?, hRr]
    have r1 : w1.cell? ⟨w.heap.size, 1, none⟩ = some (.int .i64 0) := by simp [World.cell?, hRr]
    have g0 : w1.frozen? ⟨w.heap.size, 0, none⟩ = false := by simp [World.frozen?, hRr]
    have g1 : w1.frozen? ⟨w.heap.size, 1, none⟩ = false := by simp [World.frozen?, hRr]
    have HF := hide hF
    have HA := hide hA
    have HP := hide hP
    have HR := hide hR
    have H0 := hide (((pw_pre w s h).eps.append (ms := ms)).world hF.stay)
    have HB := hide hb
    obtain ⟨c0, c1, -⟩ := hP.cells
    have hle := hP.le
    obtain ⟨⟨sv, hp1, hp2⟩, -⟩ := hP
    have c2 : w1.cell? ⟨w.heap.size + 1 + 1, 2, none⟩ = some sv := by simp [World.cell?, hp1]
    have HL := hide hp2
    clear hF hA hR hb hp1 hp2 hRr
    by_cases hat : at1 < s.size
    · have hg2 : decide ((at1 : Int) < (s.size : Int)) = true := by simpa using hat
      go_wp2_with fail
      refine bodyPost_ret (v := .tuple #[.agg #[.slice none 0 0, .int .i64 0], .int .i64 6]) (by simp [results, Tryd.results14, go_sem, *]) rfl ?_
      refine ⟨?_, .inr (.inl ⟨h, .inr ⟨a.re, rest s at1, ?_, by rw [← rest_zero]; exact HA.out⟩, rfl⟩)⟩
      · exact ((Below.trans_pfr (pw_below w s) HF.out).setCell (Nat.le_refl _) _).setCell (Nat.le_refl _) _
      · rw [rest_cons hat]; simp
    · have hat' : at1 = s.size := by omega
      have hg2 : decide (at1 < s.size) = false := by simp; omega
      have HAT := hide hat'
      clear hat hat'
      have HLen := hide (show ([nd0] ++ ms).length ≤ 200 by have := HB.out; rw [length_rest, length_rest] at this; simp only [List.length_append, List.length_cons, List.length_nil]; omega)
      have hsv : ∃ g cap, sv = .slice (some ⟨g, 0, none⟩) ([nd0] ++ ms).length cap := own_form HL.out.1 (by simp)
      obtain ⟨g, cap, rfl⟩ := hsv
      go_wp2_with fail
      exact bodyPost_ret (v := .tuple #[.agg #[.slice (some ⟨g, 0, none⟩) ([nd0] ++ ms).length cap, .int .i64 a.ix], .int .i64 0]) (by simp [results, Tryd.results14, go_sem, *]) rfl (parse_end h HF.out HA.out HAT.out HL.out HR.out H0.out HLen.out _)
  · have hRr := hF.other (pw_R w s) (by decide) (by decide)
    have r0 : w1.cell? ⟨w.heap.size, 0, none⟩ = some (.slice none 0 0) := by simp [World.cell?, hRr]
    have r1 : w1.cell? ⟨w.heap.size, 1, none⟩ = some (.int .i64 0) := by simp [World.cell?, hRr]
    have g0 : w1.frozen? ⟨w.heap.size, 0, none⟩ = false := by simp [World.frozen?, hRr]
    have g1 : w1.frozen? ⟨w.heap.size, 1, none⟩ = false := by simp [World.frozen?, hRr]
    have HF := hide hF
    have HA := hide hA
    clear hF hA hRr
    go_wp2_with fail
    refine bodyPost_ret (v := .tuple #[.agg #[.slice none 0 0, .int .i64 0], .int .i64 6]) (by simp [results, Tryd.results14, go_sem, *]) rfl ?_
    exact ⟨((Below.trans_pfr (pw_below w s) HF.out).setCell (Nat.le_refl _) _).setCell (Nat.le_refl _) _, .inr (.inl ⟨h, .inl (by rw [← rest_zero]; exact HA.out), rfl⟩)⟩

theorem parse_any (s : ByteArray) (w : World) (hs : s.size ≤ maxLen) : Calls Tryd.prog 14 #[.string s] w (ParsePost s w) := by
  by_cases h : s.size ≤ 60
  · exact parse_short s w h
  · exact parse_long s w hs (by omega)

end Go.Proofs.YtgncgdkpkkdaeaaDoor
