/- ATOM, and the sign behind it. -/
import Derived.Test.YtgncgdkpkkdaeaaDoorP8
namespace Go.Proofs.YtgncgdkpkkdaeaaDoor
open Go.RowKit Tint

/-- What a part of the parser leaves: a tree that lies in the list, or that there is none. d: how much less is left to be made than may be. -/
def AltPost (PX : List UInt8 → Option (Re × List UInt8) → Prop) (d : Nat) (B P : Nat) (text : ByteArray) (at_ : Nat) (ns : List (Nd Value)) (w : World) (e : Ending) (w' : World) : Prop :=
  PFr B w w' ∧ ((∃ (a : ARe) (at' : Nat) (ms : List (Nd Value)), e = .returned (.tuple #[.int .i64 a.ix, .bool true]) ∧ PX (rest text at_) (some (a.re, rest text at')) ∧
      Psr w' B P text at' (ns ++ ms) ∧ Rep (IsCls w') (ns ++ ms) a ∧ ms.length + 3 * (rest text at').length + d ≤ 3 * (rest text at_).length) ∨
    (∃ i : Nat, e = .returned (.tuple #[.int .i64 i, .bool false]) ∧ PX (rest text at_) none))

structure Pre (B P : Nat) (text : ByteArray) (at_ : Nat) (ns : List (Nd Value)) (w : World) : Prop where
  psr : Psr w B P text at_ ns
  eps : Rep (IsCls w) ns .eps
  bound : ns.length + 3 * (rest text at_).length ≤ 200

def ChoicesAt (n : Nat) : Prop := ∀ B P text at_ ns w, Pre B P text at_ ns w → (rest text at_).length < n →
  Calls Tryd.prog 22 #[.pointer (some ⟨P, 0, none⟩)] w (AltPost PAlt 0 B P text at_ ns w)

theorem Emp.one (ns : List (Nd Value)) : Emp ns 1 0 0 false := .inl ⟨rfl, rfl⟩

theorem IsCls.one {w : World} {v : Value} {c : Cls} (h : IsCls w v c) : Form v := .inr h.shape

/-- The tree of the node that was added last. -/
theorem rep_leaf {w : World} {ns : List (Nd Value)} {v : Value} {c : Cls} (h0 : Rep (IsCls w) ns .eps) (hc : IsCls w v c) : Rep (IsCls w) (ns ++ [⟨1, v, 0, 0, false⟩]) (.cls ns.length c) := by
  refine ⟨?_, v, ?_, hc⟩
  · have := h0.lt; simp only [ARe.ix] at this; omega
  · rw [List.getElem?_append_right (Nat.le_refl _)]; simp

-- ( ALT )
set_option maxHeartbeats 1000000 in
theorem atom_paren (n : Nat) (hC : ChoicesAt n) (s : List UInt8) (B P : Nat) (text : ByteArray) (at_ : Nat) (ns : List (Nd Value)) (w : World) (hP : Pre B P text at_ ns w) (hr : rest text at_ = 40 :: s) (hn : (rest text at_).length ≤ n) :
    Calls Tryd.prog 56 #[.pointer (some ⟨P, 0, none⟩)] w (AltPost PAtom 1 B P text at_ ns w) := by
  have HP := hide hP
  have HR := hide hr
  have HN := hide hn
  clear hP hr hn
  go_enter Tryd.func56, Tryd.ntmps56
  go_wp2_with fail
  refine (take_hit 40 s B P text at_ ns w HP.out.psr HR.out).mono ?_
  rintro e w1 ⟨rfl, hP1, hF1, hr1⟩
  have hlen : (rest text (at_ + 1)).length + 1 = (rest text at_).length := by rw [hr1, HR.out]; rfl
  have hpre : Pre B P text (at_ + 1) ns w1 := ⟨hP1, HP.out.eps.world hF1.stay, by have := HP.out.bound; omega⟩
  have HPre := hide hpre
  have HF1 := hide hF1
  have HR1 := hide hr1
  have HLen := hide hlen
  clear hP1 hF1 hr1 hpre hlen
  go_wp2_with fail
  refine (hC B P text (at_ + 1) ns w1 HPre.out (by have := HLen.out; have := HN.out; omega)).mono ?_
  rintro e w2 ⟨hF2, ⟨a, at2, ms, rfl, hA2, hP2, hR2, hb2⟩ | ⟨i, rfl, hA2⟩⟩
  · have HF2 := hide hF2
    have HA2 := hide hA2
    have HP2 := hide hP2
    have HR2 := hide hR2
    have HB2 := hide hb2
    clear hF2 hA2 hP2 hR2 hb2
    go_wp2_with fail
    refine (take_any 41 B P text at2 (ns ++ ms) w2 HP2.out).mono ?_
    rintro e w3 ⟨r, at3, rfl, hP3, hF3, ⟨rfl, h3⟩ | ⟨rfl, -, h3⟩⟩
    · have HP3 := hide hP3
      have HF3 := hide hF3
      have H3 := hide h3
      clear hP3 hF3 h3
      go_wp2_with fail
      go_ret2
      refine ⟨(HF1.out.trans HF2.out).trans HF3.out, .inl ⟨a, at3, ms, by simp, ?_, HP3.out, HR2.out.world HF3.out.stay, ?_⟩⟩
      · rw [HR.out]
        refine .paren ?_
        rw [← H3.out, ← HR1.out]
        exact HA2.out
      · have h1 := HB2.out
        have h2 := HLen.out
        rw [H3.out, List.length_cons] at h1
        omega
    · have HF3 := hide hF3
      have H3 := hide h3
      clear hP3 hF3 h3
      go_wp2_with fail
      go_ret2
      refine ⟨(HF1.out.trans HF2.out).trans HF3.out, .inr ⟨a.ix, by simp, ?_⟩⟩
      rw [HR.out]
      exact .parenOpen (r := a.re) (by rw [← HR1.out]; exact HA2.out) H3.out
  · have HF2 := hide hF2
    have HA2 := hide hA2
    clear hF2 hA2
    go_wp2_with fail
    go_ret2
    refine ⟨HF1.out.trans HF2.out, .inr ⟨i, by simp, ?_⟩⟩
    rw [HR.out]
    refine .parenBad ?_
    rw [← HR1.out]; exact HA2.out

-- any byte
set_option maxHeartbeats 1000000 in
theorem atom_dot (s : List UInt8) (B P : Nat) (text : ByteArray) (at_ : Nat) (ns : List (Nd Value)) (w : World) (hP : Pre B P text at_ ns w) (hr : rest text at_ = 46 :: s) :
    Calls Tryd.prog 56 #[.pointer (some ⟨P, 0, none⟩)] w (AltPost PAtom 1 B P text at_ ns w) := by
  have HP := hide hP
  have HR := hide hr
  clear hP hr
  go_enter Tryd.func56, Tryd.ntmps56
  go_wp2_with fail
  refine (take_miss 40 B P text at_ ns w HP.out.psr (by rw [HR.out]; simp)).mono ?_
  rintro e w0 ⟨rfl, hP0, hF0⟩
  have HP0 := hide hP0
  have HF0 := hide hF0
  clear hP0 hF0
  go_wp2_with fail
  refine (take_hit 46 s B P text at_ ns w0 HP0.out HR.out).mono ?_
  rintro e w1 ⟨rfl, hP1, hF1, hr1⟩
  have HP1 := hide hP1
  have HF1 := hide hF1
  have HR1 := hide hr1
  clear hP1 hF1 hr1
  go_wp2_with fail
  refine (add_any B P text (at_ + 1) ns 1 0 0 (.func (.func 60) #[] #[]) false false w1 HP1.out (by have := HP.out.bound; omega) (Emp.one ns) (.inr ⟨_, _, rfl⟩)).mono ?_
  rintro e w2 ⟨rfl, hP2, hF2⟩
  have HP2 := hide hP2
  have HF2 := hide hF2
  clear hP2 hF2
  go_wp2_with fail
  go_ret2
  have hF := (HF0.out.trans HF1.out).trans HF2.out
  refine ⟨hF, .inl ⟨.cls ns.length .any, at_ + 1, _, by simp [ARe.ix], ?_, HP2.out, rep_leaf (HP.out.eps.world hF.stay) rfl, ?_⟩⟩
  · rw [HR.out, HR1.out]; exact .dot
  · rw [HR.out, HR1.out]; simp; omega

-- [ .. ]
set_option maxHeartbeats 1000000 in
theorem atom_class (s : List UInt8) (B P : Nat) (text : ByteArray) (at_ : Nat) (ns : List (Nd Value)) (w : World) (hP : Pre B P text at_ ns w) (hr : rest text at_ = 91 :: s) :
    Calls Tryd.prog 56 #[.pointer (some ⟨P, 0, none⟩)] w (AltPost PAtom 1 B P text at_ ns w) := by
  have HP := hide hP
  have HR := hide hr
  clear hP hr
  go_enter Tryd.func56, Tryd.ntmps56
  go_wp2_with fail
  refine (take_miss 40 B P text at_ ns w HP.out.psr (by rw [HR.out]; simp)).mono ?_
  rintro e w0 ⟨rfl, hP0, hF0⟩
  have HP0 := hide hP0
  have HF0 := hide hF0
  clear hP0 hF0
  go_wp2_with fail
  refine (take_miss 46 B P text at_ ns w0 HP0.out (by rw [HR.out]; simp)).mono ?_
  rintro e w00 ⟨rfl, hP00, hF00⟩
  have HP00 := hide hP00
  have HF00 := hide hF00
  clear hP00 hF00
  go_wp2_with fail
  refine (take_hit 91 s B P text at_ ns w00 HP00.out HR.out).mono ?_
  rintro e w1 ⟨rfl, hP1, hF1, hr1⟩
  have HP1 := hide hP1
  have HF1 := hide hF1
  have HR1 := hide hr1
  clear hP1 hF1 hr1
  go_wp2_with fail
  refine (class_any B P text (at_ + 1) ns w1 HP1.out).mono ?_
  rintro e w2 ⟨hF2, v, at2, c, hP2, hv, ⟨hc, rfl⟩ | ⟨hc, rfl⟩⟩
  all_goals
    have HP2 := hide hP2
    have HF2 := hide hF2
    have HV := hide hv
    have HC := hide hc
    obtain ⟨gv, cv, rfl⟩ := hv.shape
    clear hP2 hF2 hv hc
    go_wp2_with fail
    refine (add_any B P text at2 ns 1 0 0 (.func (.func gv) #[] cv) false false w2 HP2.out (by have := HP.out.bound; omega) (Emp.one ns) HV.out.one).mono ?_
    rintro e w3 ⟨rfl, hP3, hF3⟩
    have HP3 := hide hP3
    have HF3 := hide hF3
    clear hP3 hF3
    go_wp2_with fail
    go_ret2
    have hF := (((HF0.out.trans HF00.out).trans HF1.out).trans HF2.out).trans HF3.out
  · refine ⟨hF, .inl ⟨.cls ns.length c, at2, _, by simp [ARe.ix], ?_, HP3.out, rep_leaf (HP.out.eps.world hF.stay) (HV.out.stay HF3.out.stay), ?_⟩⟩
    · rw [HR.out, ← HR1.out]; exact .cls HC.out
    · have := HC.out.len
      have h2 := congrArg List.length HR1.out
      rw [HR.out]; simp only [List.length_cons, List.length_nil]; omega
  · refine ⟨hF, .inr ⟨ns.length, by simp, ?_⟩⟩
    rw [HR.out, ← HR1.out]; exact .cls HC.out

-- ONE
set_option maxHeartbeats 1000000 in
theorem atom_one (B P : Nat) (text : ByteArray) (at_ : Nat) (ns : List (Nd Value)) (w : World) (hP : Pre B P text at_ ns w) (h1 : (rest text at_).head? ≠ some 40) (h2 : (rest text at_).head? ≠ some 46) (h3 : (rest text at_).head? ≠ some 91) :
    Calls Tryd.prog 56 #[.pointer (some ⟨P, 0, none⟩)] w (AltPost PAtom 1 B P text at_ ns w) := by
  have HP := hide hP
  have H1 := hide h1
  have H2 := hide h2
  have H3 := hide h3
  clear hP h1 h2 h3
  go_enter Tryd.func56, Tryd.ntmps56
  go_wp2_with fail
  refine (take_miss 40 B P text at_ ns w HP.out.psr H1.out).mono ?_
  rintro e w0 ⟨rfl, hP0, hF0⟩
  have HP0 := hide hP0
  have HF0 := hide hF0
  clear hP0 hF0
  go_wp2_with fail
  refine (take_miss 46 B P text at_ ns w0 HP0.out H2.out).mono ?_
  rintro e w00 ⟨rfl, hP00, hF00⟩
  have HP00 := hide hP00
  have HF00 := hide hF00
  clear hP00 hF00
  go_wp2_with fail
  refine (take_miss 91 B P text at_ ns w00 HP00.out H3.out).mono ?_
  rintro e w1 ⟨rfl, hP1, hF1⟩
  have HP1 := hide hP1
  have HF1 := hide hF1
  clear hP1 hF1
  go_wp2_with fail
  refine (one_any B P text at_ ns w1 HP1.out).mono ?_
  rintro e w2 ⟨hF2, b, at2, hP2, ⟨hc, rfl⟩ | ⟨hc, rfl⟩⟩
  all_goals
    have HP2 := hide hP2
    have HF2 := hide hF2
    have HC := hide hc
    clear hP2 hF2 hc
    go_wp2_with fail
    refine (between_any b b w2).mono ?_
    rintro e w3 ⟨v, rfl, hv, hB3⟩
    have HV := hide hv
    have HP3 := hide (HP2.out.below hB3)
    have HF3 := hide (PFr.of_below (B := B) hB3)
    obtain ⟨gv, cv, rfl⟩ := hv.shape
    clear hv hB3
    go_wp2_with fail
    refine (add_any B P text at2 ns 1 0 0 (.func (.func gv) #[] cv) false false w3 HP3.out (by have := HP.out.bound; omega) (Emp.one ns) HV.out.one).mono ?_
    rintro e w4 ⟨rfl, hP4, hF4⟩
    have HP4 := hide hP4
    have HF4 := hide hF4
    clear hP4 hF4
    go_wp2_with fail
    go_ret2
    have hF := ((((HF0.out.trans HF00.out).trans HF1.out).trans HF2.out).trans HF3.out).trans HF4.out
    have hat := PAtom.one H1.out H2.out H3.out
    rw [HC.out] at hat
  · refine ⟨hF, .inl ⟨.cls ns.length (.range b b), at2, _, by simp [ARe.ix], hat, HP4.out, rep_leaf (HP.out.eps.world hF.stay) (HV.out.stay HF4.out.stay), ?_⟩⟩
    have := pOne_len HC.out
    simp only [List.length_cons, List.length_nil]; omega
  · exact ⟨hF, .inr ⟨ns.length, by simp, hat⟩⟩

theorem atom_any (n : Nat) (hC : ChoicesAt n) (B P : Nat) (text : ByteArray) (at_ : Nat) (ns : List (Nd Value)) (w : World) (hP : Pre B P text at_ ns w) (hn : (rest text at_).length ≤ n) :
    Calls Tryd.prog 56 #[.pointer (some ⟨P, 0, none⟩)] w (AltPost PAtom 1 B P text at_ ns w) := by
  by_cases h1 : (rest text at_).head? = some 40
  · obtain ⟨s, hs⟩ := head_cons h1
    exact atom_paren n hC s B P text at_ ns w hP hs hn
  · by_cases h2 : (rest text at_).head? = some 46
    · obtain ⟨s, hs⟩ := head_cons h2
      exact atom_dot s B P text at_ ns w hP hs
    · by_cases h3 : (rest text at_).head? = some 91
      · obtain ⟨s, hs⟩ := head_cons h3
        exact atom_class s B P text at_ ns w hP hs
      · exact atom_one B P text at_ ns w hP h1 h2 h3
end Go.Proofs.YtgncgdkpkkdaeaaDoor
