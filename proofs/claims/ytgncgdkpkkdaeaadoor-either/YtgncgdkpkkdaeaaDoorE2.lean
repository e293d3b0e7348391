/- One pattern or the other: what it matches; the walk of the law Either. -/
import Derived.Test.YtgncgdkpkkdaeaaDoorE0
namespace Go.Proofs.YtgncgdkpkkdaeaaDoor
open Go.RowKit Tint

def join2 : Option (Nat × Nat) → Option (Nat × Nat) → Option (Nat × Nat)
  | none, o => o
  | some x, none => some x
  | some (a, b), some (c, d) => if c < a ∨ (c = a ∧ b < d) then some (c, d) else some (a, b)

theorem mt_alt_iff {r q : Re} {u : List UInt8} : Mt (.alt r q) u ↔ Mt r u ∨ Mt q u := by
  constructor
  · intro h
    cases h with
    | altl h => exact .inl h
    | altr h => exact .inr h
  · rintro (h | h)
    · exact .altl h
    · exact .altr h

theorem from_alt {r q : Re} {T : List UInt8} {i : Nat} : From (.alt r q) T i ↔ From r T i ∨ From q T i := by
  constructor
  · rintro ⟨j, h1, h2, h3⟩
    rcases mt_alt_iff.1 h3 with h | h
    · exact .inl ⟨j, h1, h2, h⟩
    · exact .inr ⟨j, h1, h2, h⟩
  · rintro (⟨j, h1, h2, h3⟩ | ⟨j, h1, h2, h3⟩)
    · exact ⟨j, h1, h2, mt_alt_iff.2 (.inl h3)⟩
    · exact ⟨j, h1, h2, mt_alt_iff.2 (.inr h3)⟩

theorem isMatch_alt {r q : Re} {T : List UInt8} {f : Nat} : ∀ {o1 o2 : Option (Nat × Nat)}, IsMatch r T f o1 → IsMatch q T f o2 → IsMatch (.alt r q) T f (join2 o1 o2)
  | none, none, h1, h2 => fun i hi hx => (from_alt.1 hx).elim (h1 i hi) (h2 i hi)
  | none, some (c, d), h1, h2 => by
    obtain ⟨g1, g2, g3, g4, g5, g6⟩ := h2
    refine ⟨g1, g2, g3, mt_alt_iff.2 (.inr g4), fun i hi hs hx => (from_alt.1 hx).elim (h1 i hi) (g5 i hi hs), fun j hj hl hx => ?_⟩
    exact (mt_alt_iff.1 hx).elim (fun h => h1 c g1 ⟨j, by omega, hl, h⟩) (g6 j hj hl)
  | some (a, b), none, h1, h2 => by
    obtain ⟨g1, g2, g3, g4, g5, g6⟩ := h1
    refine ⟨g1, g2, g3, mt_alt_iff.2 (.inl g4), fun i hi hs hx => (from_alt.1 hx).elim (g5 i hi hs) (h2 i hi), fun j hj hl hx => ?_⟩
    exact (mt_alt_iff.1 hx).elim (g6 j hj hl) (fun h => h2 a g1 ⟨j, by omega, hl, h⟩)
  | some (a, b), some (c, d), h1, h2 => by
    obtain ⟨g1, g2, g3, g4, g5, g6⟩ := h1
    obtain ⟨k1, k2, k3, k4, k5, k6⟩ := h2
    show IsMatch (.alt r q) T f (if c < a ∨ (c = a ∧ b < d) then some (c, d) else some (a, b))
    split
    · rename_i hc
      refine ⟨k1, k2, k3, mt_alt_iff.2 (.inr k4), fun i hi hs hx => (from_alt.1 hx).elim (g5 i hi (by omega)) (k5 i hi hs), fun j hj hl hx => ?_⟩
      refine (mt_alt_iff.1 hx).elim (fun h => ?_) (k6 j hj hl)
      rcases hc with hc | ⟨hc, hd⟩
      · exact g5 c k1 hc ⟨j, by omega, hl, h⟩
      · rw [hc] at h
        exact g6 j (by omega) hl h
    · rename_i hc
      refine ⟨g1, g2, g3, mt_alt_iff.2 (.inl g4), fun i hi hs hx => (from_alt.1 hx).elim (g5 i hi hs) (k5 i hi (by omega)), fun j hj hl hx => ?_⟩
      refine (mt_alt_iff.1 hx).elim (g6 j hj hl) (fun h => ?_)
      rcases Nat.lt_or_ge a c with ha | ha
      · exact k5 a g1 ha ⟨j, by omega, hl, h⟩
      · have hac : a = c := by omega
        rw [hac] at h
        exact k6 j (by omega) hl h

theorem mval_none_inv {a b : Nat} {x : Bool} (h : mval none = .tuple #[.int .i64 a, .int .i64 b, .bool x, .int .i64 0]) : a = 0 ∧ b = 0 ∧ x = false := by
  simp [mval] at h
  obtain ⟨h1, h2, h3⟩ := h
  exact ⟨by omega, by omega, h3⟩
theorem mval_some_inv {a b a' b' : Nat} {x : Bool} (h : mval (some (a', b')) = .tuple #[.int .i64 a, .int .i64 b, .bool x, .int .i64 0]) : a' = a ∧ b' = b ∧ x = true := by
  simp [mval] at h
  obtain ⟨h1, h2, h3⟩ := h
  exact ⟨by omega, by omega, h3⟩

theorem either_pat (p q : List UInt8) : ((⟨#[40]⟩ : ByteArray) ++ ⟨p.toArray⟩ ++ ⟨#[124]⟩ ++ ⟨q.toArray⟩ ++ ⟨#[41]⟩).data.toList = 40 :: (p ++ 124 :: (q ++ [41])) := by
  rw [show (⟨#[40]⟩ : ByteArray) = ⟨([40] : List UInt8).toArray⟩ from rfl, show (⟨#[124]⟩ : ByteArray) = ⟨([124] : List UInt8).toArray⟩ from rfl, show (⟨#[41]⟩ : ByteArray) = ⟨([41] : List UInt8).toArray⟩ from rfl, ba_append, ba_append, ba_append, ba_append]
  simp

set_option maxRecDepth 20000 in
set_option maxHeartbeats 2000000 in
theorem either_walk (v1 v2 v3 : Value) (n1 n2 n3 : Nat) (from_ : Int) (w : World) (hT : Tab w) (hw : 0 < w.heap.size) (h1 : Raws w v1 n1) (h2 : Raws w v2 n2) (h3 : Raws w v3 n3) (hf : (Lit.int .i64 from_).wf = true) :
    Calls Tryd.prog 4 #[v1, v2, v3, .int .i64 from_] w fun e w' => e = .returned (.bool true) ∧ Below w.heap.size w w' := by
  have HK := hide (known_any w hT hw)
  have HM := hide (fun (W : World) (hB : Below w.heap.size w W) (pat text : ByteArray) (f : Nat) (r : Re) hl hp hf htz => match_pat pat text f r W (hT.keep (hB.block 0 hw)) (Nat.lt_of_lt_of_le hw hB.size) hl hp hf htz)
  have HP1 := hide (fun (W : World) (hB : Below w.heap.size w W) => pattern_any v1 n1 W (h1.below hB))
  have HP2 := hide (fun (W : World) (hB : Below w.heap.size w W) => pattern_any v2 n2 W (h2.below hB))
  have HT := hide (fun (W : World) (hB : Below w.heap.size w W) => text_any v3 n3 W (h3.below hB))
  have HF := hide hf
  clear hT hw h1 h2 h3 hf
  go_enter Tryd.func4, Tryd.ntmps4
  go_wp2_with fail
  refine HK.out.mono ?_
  rintro e w1 ⟨rfl, hB⟩
  have HB1 := hide hB
  clear hB HK
  go_wp2_with fail
  refine (HP1.out _ HB1.out).mono ?_
  rintro e w2 ⟨p, rs, rfl, hpl, hpp, hB⟩
  have HB2 := hide (HB1.out.trans (hB.mono HB1.out.size))
  have HPP := hide hpp
  clear hB HP1 HB1 hpp
  go_wp2_with fail
  refine (HP2.out _ HB2.out).mono ?_
  rintro e w3 ⟨q, qs, rfl, hql, hqq, hB⟩
  have HB3 := hide (HB2.out.trans (hB.mono HB2.out.size))
  have HQQ := hide hqq
  clear hB HP2 HB2 hqq
  go_wp2_with fail
  refine (HT.out _ HB3.out).mono ?_
  rintro e w4 ⟨s, rfl, hsl, hB⟩
  have HB4 := hide (HB3.out.trans (hB.mono HB3.out.size))
  clear hB HT HB3
  obtain ⟨N, hN⟩ : ∃ N : Nat, N = s.size + 1 := ⟨_, rfl⟩
  have hw65 : (s.size : Int) + 1 = (N : Int) := by omega
  have HPK := hide (fun W => pick_any from_ N W HF.out (by omega) (by omega))
  have HN := hide hN
  clear hN HF
  go_wp2_with fail
  refine (HPK.out _).mono ?_
  rintro e w5 ⟨f, hf, rfl, rfl⟩
  have hfs : f ≤ s.size := by have := HN.out; omega
  clear hf hw65 HPK HN
  have HM1 := hide (HM.out _ HB4.out ⟨p.toArray⟩ s f _ (by show p.length ≤ 60; omega) (PAlt.pieces HPP.out) hfs (by unfold maxLen; omega))
  go_wp2_with fail
  refine HM1.out.mono ?_
  rintro e w6 ⟨o1, ho1, rfl, hB⟩
  have HB6 := hide (HB4.out.trans (hB.mono HB4.out.size))
  have HO1 := hide ho1
  clear hB HM1 HB4 ho1
  have HM2 := hide (HM.out _ HB6.out ⟨q.toArray⟩ s f _ (by show q.length ≤ 60; omega) (PAlt.pieces HQQ.out) hfs (by unfold maxLen; omega))
  obtain ⟨a, b, x, hv1⟩ : ∃ (a b : Nat) (x : Bool), mval o1 = .tuple #[.int .i64 a, .int .i64 b, .bool x, .int .i64 0] := by
    cases o1 with
    | none => exact ⟨0, 0, false, rfl⟩
    | some z => exact ⟨z.1, z.2, true, rfl⟩
  rw [hv1]
  have HV1 := hide hv1
  clear hv1
  go_wp2_with fail
  refine HM2.out.mono ?_
  rintro e w7 ⟨o2, ho2, rfl, hB⟩
  have HB7 := hide (HB6.out.trans (hB.mono HB6.out.size))
  have HO2 := hide ho2
  clear hB HM2 HB6 ho2
  have HM3 := hide (HM.out _ HB7.out (⟨#[40]⟩ ++ ⟨p.toArray⟩ ++ ⟨#[124]⟩ ++ ⟨q.toArray⟩ ++ ⟨#[41]⟩) s f _ (by rw [← text_length, either_pat]; simp; omega) (by rw [either_pat]; exact PAlt.either HPP.out HQQ.out) hfs (by unfold maxLen; omega))
  obtain ⟨c, d, y, hv2⟩ : ∃ (c d : Nat) (y : Bool), mval o2 = .tuple #[.int .i64 c, .int .i64 d, .bool y, .int .i64 0] := by
    cases o2 with
    | none => exact ⟨0, 0, false, rfl⟩
    | some z => exact ⟨z.1, z.2, true, rfl⟩
  rw [hv2]
  have HV2 := hide hv2
  clear hv2
  go_wp2_with fail
  refine HM3.out.mono ?_
  rintro e w8 ⟨o3, ho3, rfl, hB⟩
  have HB8 := hide (HB7.out.trans (hB.mono HB7.out.size))
  obtain rfl := ho3.unique (isMatch_alt HO1.out HO2.out)
  clear hB HM3 HB7 ho3 HO1 HO2
  rcases o1 with _ | ⟨a', b'⟩
  · obtain ⟨rfl, rfl, rfl⟩ := mval_none_inv HV1.out
    rcases o2 with _ | ⟨c', d'⟩
    · obtain ⟨rfl, rfl, rfl⟩ := mval_none_inv HV2.out
      simp only [join2, mval]
      clear HV1 HV2
      go_wp2_with fail
      go_ret
      exact ⟨rfl, HB8.out⟩
    · obtain ⟨rfl, rfl, rfl⟩ := mval_some_inv HV2.out
      simp only [join2, mval]
      clear HV1 HV2
      go_wp2_with fail
      go_ret
      exact ⟨rfl, HB8.out⟩
  · obtain ⟨rfl, rfl, rfl⟩ := mval_some_inv HV1.out
    rcases o2 with _ | ⟨c', d'⟩
    · obtain ⟨rfl, rfl, rfl⟩ := mval_none_inv HV2.out
      simp only [join2, mval]
      clear HV1 HV2
      go_wp2_with fail
      go_ret
      exact ⟨rfl, HB8.out⟩
    · obtain ⟨rfl, rfl, rfl⟩ := mval_some_inv HV2.out
      clear HV1 HV2
      by_cases hc : c' < a' ∨ (c' = a' ∧ b' < d')
      · simp only [join2, if_pos hc, mval]
        by_cases hca : c' < a'
        · have g1 : decide ((c' : Int) < (a' : Int)) = true := by simpa using hca
          clear hc
          go_wp2_with fail
          go_ret
          exact ⟨rfl, HB8.out⟩
        · have g1 : decide (c' < a') = false := by simpa using hca
          have g2 : ((c' : Int) == (a' : Int)) = true := by rw [beq_iff_eq]; omega
          have g3 : decide ((b' : Int) < (d' : Int)) = true := by simp; omega
          have hca2 : ¬ c' < a' := hca
          go_wp2_with fail
          go_ret
          exact ⟨rfl, HB8.out⟩
      · simp only [join2, if_neg hc, mval]
        have hca : ¬ c' < a' := by omega
        have g1 : decide (c' < a') = false := by simpa using hca
        by_cases hce : c' = a'
        · have g2 : ((c' : Int) == (a' : Int)) = true := by rw [beq_iff_eq]; omega
          have hbd : ¬ b' < d' := by omega
          have g3 : decide (b' < d') = false := by simpa using hbd
          clear hc
          go_wp2_with fail
          go_ret
          exact ⟨rfl, HB8.out⟩
        · have g2 : ((c' : Int) == (a' : Int)) = false := by rw [beq_eq_false_iff_ne]; omega
          clear hc
          go_wp2_with fail
          go_ret
          exact ⟨rfl, HB8.out⟩
end Go.Proofs.YtgncgdkpkkdaeaaDoor
