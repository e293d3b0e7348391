/- Classes are put together; RANGE; what stands behind a bracket. -/
import Derived.Test.YtgncgdkpkkdaeaaDoorP3
namespace Go.Proofs.YtgncgdkpkkdaeaaDoor
open Go.RowKit Tint

theorem IsCls.shape {w : World} {v : Value} {c : Cls} (h : IsCls w v c) : ∃ g cap, v = .func (.func g) #[] cap := by
  cases c with
  | any => exact ⟨_, _, h⟩
  | range lo hi => obtain ⟨p, q, e, _⟩ := h; exact ⟨_, _, e⟩
  | union a b => obtain ⟨p, q, va, vb, e, _⟩ := h; exact ⟨_, _, e⟩
  | compl a => obtain ⟨p, va, e, _⟩ := h; exact ⟨_, _, e⟩

set_option maxHeartbeats 400000 in
theorem between_any (lo hi : UInt8) (w : World) :
    Calls Tryd.prog 63 #[.int .u8 lo.toNat, .int .u8 hi.toNat] w fun e w' =>
      ∃ v, e = .returned v ∧ IsCls w' v (.range lo hi) ∧ Below w.heap.size w w' := by
  go_enter Tryd.func63, Tryd.ntmps63
  go_wp2
  go_ret
  refine ⟨_, rfl, ⟨_, _, rfl, ?_, ?_⟩, ?_⟩
  · exact heap_alloc_old (heap_alloc_last w _)
  · have := heap_alloc_last (w.alloc (.cells #[.int .u8 lo.toNat] 5)) (.cells #[.int .u8 hi.toNat] 5)
    simpa using this
  · exact ((Below.refl _ _).alloc (Nat.le_refl _) _).alloc (by simp) _

set_option maxHeartbeats 400000 in
theorem either_any (a b : Cls) (va vb : Value) (w : World) (ha : IsCls w va a) (hb : IsCls w vb b) :
    Calls Tryd.prog 66 #[va, vb] w fun e w' =>
      ∃ v, e = .returned v ∧ IsCls w' v (.union a b) ∧ Below w.heap.size w w' := by
  obtain ⟨g1, cap1, e1⟩ := ha.shape
  obtain ⟨g2, cap2, e2⟩ := hb.shape
  subst e1 e2
  have HA := hide ha
  have HB := hide hb
  clear ha hb
  go_enter Tryd.func66, Tryd.ntmps66
  go_wp2
  go_ret
  have hbl : Below w.heap.size w ((w.alloc (.cells #[.func (.func g1) #[] cap1] 82)).alloc (.cells #[.func (.func g2) #[] cap2] 82)) := ((Below.refl _ _).alloc (Nat.le_refl _) _).alloc (by simp) _
  refine ⟨_, rfl, ⟨_, _, _, _, rfl, ?_, ?_, HA.out.stay (Stay.of_below hbl), HB.out.stay (Stay.of_below hbl)⟩, hbl⟩
  · exact heap_alloc_old (heap_alloc_last w _)
  · have := heap_alloc_last (w.alloc (.cells #[.func (.func g1) #[] cap1] 82)) (.cells #[.func (.func g2) #[] cap2] 82)
    simpa using this

set_option maxHeartbeats 400000 in
theorem allBut_any (a : Cls) (va : Value) (w : World) (ha : IsCls w va a) :
    Calls Tryd.prog 67 #[va] w fun e w' =>
      ∃ v, e = .returned v ∧ IsCls w' v (.compl a) ∧ Below w.heap.size w w' := by
  obtain ⟨g1, cap1, e1⟩ := ha.shape
  subst e1
  have HA := hide ha
  clear ha
  go_enter Tryd.func67, Tryd.ntmps67
  go_wp2
  go_ret
  have hbl : Below w.heap.size w (w.alloc (.cells #[.func (.func g1) #[] cap1] 82)) := (Below.refl _ _).alloc (Nat.le_refl _) _
  exact ⟨_, rfl, ⟨_, _, rfl, heap_alloc_last w _, HA.out.stay (Stay.of_below hbl)⟩, hbl⟩

theorem pRange_bad {s : List UInt8} (h : pOne s = none) : pRange s = none := by simp [pRange, h]
theorem pRange_single {s t : List UInt8} {b : UInt8} (h : pOne s = some (b, t)) (ht : t.head? ≠ some 45) : pRange s = some (.range b b, t) := by
  cases t with
  | nil => simp [pRange, h]
  | cons c t => simp at ht; simp [pRange, h, ht]
theorem pRange_dash_bad {s t : List UInt8} {b : UInt8} (h : pOne s = some (b, 45 :: t)) (h2 : pOne t = none) : pRange s = none := by simp [pRange, h, h2]
theorem pRange_dash {s t u : List UInt8} {b c : UInt8} (h : pOne s = some (b, 45 :: t)) (h2 : pOne t = some (c, u)) :
    pRange s = if b.toNat ≤ c.toNat then some (.range b c, u) else none := by simp [pRange, h, h2]

-- RANGE: the class, or that it is none.
set_option maxHeartbeats 1000000 in
theorem oneRange_any (B P : Nat) (text : ByteArray) (at_ : Nat) (ns : List (Nd Value)) (w : World) (hP : Psr w B P text at_ ns) :
    Calls Tryd.prog 65 #[.pointer (some ⟨P, 0, none⟩)] w fun e w' =>
      PFr B w w' ∧ ∃ (v : Value) (at' : Nat) (c : Cls), Psr w' B P text at' ns ∧ IsCls w' v c ∧
        ((pRange (rest text at_) = some (c, rest text at') ∧ e = .returned (.tuple #[v, .bool true])) ∨
         (pRange (rest text at_) = none ∧ e = .returned (.tuple #[v, .bool false]))) := by
  have HP := hide hP
  clear hP
  go_enter Tryd.func65, Tryd.ntmps65
  go_wp2_with fail
  refine (one_any B P text at_ ns w HP.out).mono ?_
  rintro e w1 ⟨hF1, b, at1, hP1, ⟨h1, rfl⟩ | ⟨h1, rfl⟩⟩
  · have HP1 := hide hP1
    have HF1 := hide hF1
    have H1 := hide h1
    clear hP1 hF1 h1
    by_cases hd : (rest text at1).head? = some 45
    · obtain ⟨s, hs⟩ := head_cons hd
      have HS := hide hs
      clear hs hd
      go_wp2_with fail
      refine (take_hit 45 s B P text at1 ns w1 HP1.out HS.out).mono ?_
      rintro e w2 ⟨rfl, hP2, hF2, hr2⟩
      have HP2 := hide hP2
      have HF2 := hide hF2
      have HR2 := hide hr2
      clear hP2 hF2 hr2
      go_wp2_with fail
      refine (one_any B P text (at1 + 1) ns w2 HP2.out).mono ?_
      rintro e w3 ⟨hF3, b3, at3, hP3, ⟨h3, rfl⟩ | ⟨h3, rfl⟩⟩
      · have HP3 := hide hP3
        have HF3 := hide hF3
        have H3 := hide h3
        clear hP3 hF3 h3
        go_wp2_with fail
        refine (between_any b b3 w3).mono ?_
        rintro e w4 ⟨v, rfl, hv, hB4⟩
        have HV := hide hv
        have HB4 := hide hB4
        clear hv hB4
        go_wp2_with fail
        go_ret2
        have hpr := pRange_dash (HS.out ▸ H1.out) (HR2.out ▸ H3.out)
        refine ⟨((HF1.out.trans HF2.out).trans HF3.out).trans (PFr.of_below HB4.out), v, at3, _, HP3.out.below HB4.out, HV.out, ?_⟩
        by_cases hle : b.toNat ≤ b3.toNat
        · exact .inl ⟨by rw [hpr, if_pos hle], by simp [hle]⟩
        · exact .inr ⟨by rw [hpr, if_neg hle], by simp [hle]⟩
      · have HP3 := hide hP3
        have HF3 := hide hF3
        have H3 := hide h3
        clear hP3 hF3 h3
        go_wp2_with fail
        refine (between_any b b3 w3).mono ?_
        rintro e w4 ⟨v, rfl, hv, hB4⟩
        have HV := hide hv
        have HB4 := hide hB4
        clear hv hB4
        go_wp2_with fail
        go_ret2
        have hpr := pRange_dash_bad (HS.out ▸ H1.out) (HR2.out ▸ H3.out)
        exact ⟨((HF1.out.trans HF2.out).trans HF3.out).trans (PFr.of_below HB4.out), v, at3, _, HP3.out.below HB4.out, HV.out, .inr ⟨hpr, by simp⟩⟩
    · have HD := hide hd
      clear hd
      go_wp2_with fail
      refine (take_miss 45 B P text at1 ns w1 HP1.out HD.out).mono ?_
      rintro e w2 ⟨rfl, hP2, hF2⟩
      have HP2 := hide hP2
      have HF2 := hide hF2
      clear hP2 hF2
      go_wp2_with fail
      refine (between_any b b w2).mono ?_
      rintro e w4 ⟨v, rfl, hv, hB4⟩
      have HV := hide hv
      have HB4 := hide hB4
      clear hv hB4
      go_wp2_with fail
      go_ret2
      exact ⟨(HF1.out.trans HF2.out).trans (PFr.of_below HB4.out), v, at1, _, HP2.out.below HB4.out, HV.out, .inl ⟨pRange_single H1.out HD.out, by simp⟩⟩
  · have HP1 := hide hP1
    have HF1 := hide hF1
    have H1 := hide h1
    clear hP1 hF1 h1
    go_wp2_with fail
    refine (between_any b b w1).mono ?_
    rintro e w4 ⟨v, rfl, hv, hB4⟩
    have HV := hide hv
    have HB4 := hide hB4
    clear hv hB4
    go_wp2_with fail
    go_ret2
    exact ⟨HF1.out.trans (PFr.of_below HB4.out), v, at1, _, HP1.out.below HB4.out, HV.out, .inr ⟨pRange_bad H1.out, by simp⟩⟩
/-- RANGE, its second result as a Bool. -/
theorem oneRange_b (B P : Nat) (text : ByteArray) (at_ : Nat) (ns : List (Nd Value)) (w : World) (hP : Psr w B P text at_ ns) :
    Calls Tryd.prog 65 #[.pointer (some ⟨P, 0, none⟩)] w fun e w' =>
      ∃ (v : Value) (ok : Bool) (at' : Nat) (c : Cls), e = .returned (.tuple #[v, .bool ok]) ∧ PFr B w w' ∧ Psr w' B P text at' ns ∧ IsCls w' v c ∧
        ((ok = true ∧ pRange (rest text at_) = some (c, rest text at')) ∨ (ok = false ∧ pRange (rest text at_) = none)) := by
  refine (oneRange_any B P text at_ ns w hP).mono ?_
  rintro e w' ⟨hF, v, at', c, h1, h2, ⟨h3, rfl⟩ | ⟨h3, rfl⟩⟩
  · exact ⟨v, true, at', c, rfl, hF, h1, h2, .inl ⟨rfl, h3⟩⟩
  · exact ⟨v, false, at', c, rfl, hF, h1, h2, .inr ⟨rfl, h3⟩⟩

end Go.Proofs.YtgncgdkpkkdaeaaDoor
