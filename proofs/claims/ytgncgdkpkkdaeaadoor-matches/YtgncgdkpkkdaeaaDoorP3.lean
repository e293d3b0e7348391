/- The parser's ONE. -/
import Derived.Test.YtgncgdkpkkdaeaaDoorP1
import Derived.Test.YtgncgdkpkkdaeaaDoorP2
namespace Go.Proofs.YtgncgdkpkkdaeaaDoor
open Go.RowKit Tint

def signs : ByteArray := ⟨#[92, 40, 41, 91, 93, 124, 42, 43, 63, 46, 94, 45]⟩

theorem sign_range : ∀ b : UInt8, isSign b = true → 32 ≤ b.toNat ∧ b.toNat ≤ 126 := by
  intro b h
  simp only [isSign, List.contains_cons, List.contains_nil, Bool.or_false, Bool.or_eq_true, beq_iff_eq] at h
  rcases h with h | h | h | h | h | h | h | h | h | h | h | h <;> subst h <;> decide

theorem next_signs (d : UInt8) (s : List UInt8) (B P : Nat) (text : ByteArray) (at_ : Nat) (ns : List (Nd Value)) (w : World) (hP : Psr w B P text at_ ns) (h : rest text at_ = d :: s) (f : Bool) (hf : isSign d = f) :
    Calls Tryd.prog 44 #[.pointer (some ⟨P, 0, none⟩), .string ⟨#[92, 40, 41, 91, 93, 124, 42, 43, 63, 46, 94, 45]⟩] w fun e w' => e = .returned (.bool f) ∧ ∃ n, w' = w.drewN n := by
  refine (next_any signs B P text at_ ns w hP).mono ?_
  rintro e w' ⟨rfl, n, rfl⟩
  refine ⟨?_, n, rfl⟩
  rw [h]
  simp only [List.head?_cons]
  rw [← hf]
  rfl

set_option maxHeartbeats 400000 in
theorem one_nil (B P : Nat) (text : ByteArray) (at_ : Nat) (ns : List (Nd Value)) (w : World) (hP : Psr w B P text at_ ns) (h : rest text at_ = [] ∨ rest text at_ = [92]) :
    Calls Tryd.prog 62 #[.pointer (some ⟨P, 0, none⟩)] w fun e w' =>
      PFr B w w' ∧ (∃ at', Psr w' B P text at' ns) ∧ e = .returned (.tuple #[.int .u8 0, .bool false]) := by
  have HP := hide hP
  rcases h with h | h
  · have he := rest_eq_nil hP.le h
    subst he
    have hh : (rest text text.size).head? ≠ some 92 := by rw [h]; simp
    clear hP h
    go_enter Tryd.func62, Tryd.ntmps62
    go_wp2_with fail
    refine (take_miss 92 B P text text.size ns w HP.out hh).mono ?_
    rintro e w' ⟨rfl, hP', hF⟩
    obtain ⟨c0, c1, f1⟩ := hP'.cells
    have HP' := hide hP'
    have HF := hide hF
    clear hP' hF
    go_wp2_with fail
    go_quiet (fail)
    go_wp2
    go_ret2
    exact ⟨HF.out.drewN nq, ⟨_, HP'.out.drewN nq⟩, rfl⟩
  · obtain ⟨hlt, _, hn⟩ := rest_eq_cons h
    have he : at_ + 1 = text.size := rest_eq_nil hlt hn
    have HH := hide h
    have HE := hide he
    clear hP h hn he
    go_enter Tryd.func62, Tryd.ntmps62
    go_wp2_with fail
    refine (take_hit 92 [] B P text at_ ns w HP.out HH.out).mono ?_
    rintro e w' ⟨rfl, hP', hF, hX⟩
    rw [HE.out] at hP'
    obtain ⟨c0, c1, f1⟩ := hP'.cells
    have HP' := hide hP'
    have HF := hide hF
    clear hP' hF hX
    go_wp2_with fail
    go_quiet (fail)
    go_wp2
    go_ret2
    exact ⟨HF.out.drewN nq, ⟨_, HP'.out.drewN nq⟩, rfl⟩

set_option maxHeartbeats 400000 in
theorem one_esc_ok (d : UInt8) (s : List UInt8) (B P : Nat) (text : ByteArray) (at_ : Nat) (ns : List (Nd Value)) (w : World) (hP : Psr w B P text at_ ns) (h : rest text at_ = 92 :: d :: s) (hs : isSign d = true) :
    Calls Tryd.prog 62 #[.pointer (some ⟨P, 0, none⟩)] w fun e w' =>
      PFr B w w' ∧ e = .returned (.tuple #[.int .u8 d.toNat, .bool true]) ∧ Psr w' B P text (at_ + 2) ns ∧ rest text (at_ + 2) = s := by
  have HP := hide hP
  have HH := hide h
  have hr := sign_range d hs
  have HS := hide hs
  clear hP h hs
  go_enter Tryd.func62, Tryd.ntmps62
  go_wp2_with fail
  refine (take_hit 92 (d :: s) B P text at_ ns w HP.out HH.out).mono ?_
  rintro e w' ⟨rfl, hP', hF, hX⟩
  obtain ⟨j, hj⟩ : ∃ j, j = at_ + 1 := ⟨_, rfl⟩
  have HJ := hide hj
  rw [← hj] at hP' hX
  clear hj
  obtain ⟨c0, c1, f1⟩ := hP'.cells
  obtain ⟨hlt1, hd, hn1⟩ := rest_eq_cons hX
  have hg : ((j : Int) == (text.size : Int)) = false := by rw [beq_eq_false_iff_ne]; omega
  have hsm := hP'.small
  have HP' := hide hP'
  have HF := hide hF
  have HX := hide hX
  have HN := hide hn1
  clear hP' hF hX hn1
  go_wp2_with fail
  go_quiet ((go_at_call 44; exact Calls.quiet_of (next_signs d s B P text j ns _ (HP'.out.drewN _) HX.out true HS.out)))
  rename Nat => nq0
  go_wp2_with fail
  go_quiet (fail)
  go_wp2
  go_ret2
  have hJ := HJ.out
  refine ⟨(HF.out.drewN _).setCell (HP'.out.drewN _).mine _, by simp; omega, ?_, ?_⟩
  · have := (HP'.out.drewN (nq0 + nq)).move (j + 1) (by omega)
    rw [show at_ + 2 = j + 1 by omega]
    exact this
  · rw [show at_ + 2 = j + 1 by omega]; exact HN.out

set_option maxHeartbeats 400000 in
theorem one_esc_bad (d : UInt8) (s : List UInt8) (B P : Nat) (text : ByteArray) (at_ : Nat) (ns : List (Nd Value)) (w : World) (hP : Psr w B P text at_ ns) (h : rest text at_ = 92 :: d :: s) (hs : isSign d = false) :
    Calls Tryd.prog 62 #[.pointer (some ⟨P, 0, none⟩)] w fun e w' =>
      PFr B w w' ∧ (∃ at', Psr w' B P text at' ns) ∧ e = .returned (.tuple #[.int .u8 0, .bool false]) := by
  have HP := hide hP
  have HH := hide h
  have HS := hide hs
  clear hP h hs
  go_enter Tryd.func62, Tryd.ntmps62
  go_wp2_with fail
  refine (take_hit 92 (d :: s) B P text at_ ns w HP.out HH.out).mono ?_
  rintro e w' ⟨rfl, hP', hF, hX⟩
  obtain ⟨j, hj⟩ : ∃ j, j = at_ + 1 := ⟨_, rfl⟩
  rw [← hj] at hP' hX
  clear hj
  obtain ⟨c0, c1, f1⟩ := hP'.cells
  obtain ⟨hlt1, hd, hn1⟩ := rest_eq_cons hX
  have hg : ((j : Int) == (text.size : Int)) = false := by rw [beq_eq_false_iff_ne]; omega
  have HP' := hide hP'
  have HF := hide hF
  have HX := hide hX
  clear hP' hF hX hn1
  go_wp2_with fail
  go_quiet ((go_at_call 44; exact Calls.quiet_of (next_signs d s B P text j ns _ (HP'.out.drewN _) HX.out false HS.out)))
  go_wp2
  go_ret2
  exact ⟨HF.out.drewN nq, ⟨_, HP'.out.drewN nq⟩, rfl⟩

set_option maxHeartbeats 400000 in
theorem one_sign (c : UInt8) (s : List UInt8) (B P : Nat) (text : ByteArray) (at_ : Nat) (ns : List (Nd Value)) (w : World) (hP : Psr w B P text at_ ns) (h : rest text at_ = c :: s) (h92 : c ≠ 92) (hs : isSign c = true) :
    Calls Tryd.prog 62 #[.pointer (some ⟨P, 0, none⟩)] w fun e w' =>
      PFr B w w' ∧ (∃ at', Psr w' B P text at' ns) ∧ e = .returned (.tuple #[.int .u8 0, .bool false]) := by
  have HP := hide hP
  have HH := hide h
  have HS := hide hs
  have h9 := hide (show (rest text at_).head? ≠ some 92 by rw [h]; simpa using h92)
  obtain ⟨hlt, hc, hn⟩ := rest_eq_cons h
  have hg : ((at_ : Int) == (text.size : Int)) = false := by rw [beq_eq_false_iff_ne]; omega
  clear hP h hs hn h92
  go_enter Tryd.func62, Tryd.ntmps62
  go_wp2_with fail
  refine (take_miss 92 B P text at_ ns w HP.out h9.out).mono ?_
  rintro e w' ⟨rfl, hP', hF⟩
  obtain ⟨c0, c1, f1⟩ := hP'.cells
  have HP' := hide hP'
  have HF := hide hF
  clear hP' hF
  go_wp2_with fail
  go_quiet ((go_at_call 44; exact Calls.quiet_of (next_signs c s B P text at_ ns _ (HP'.out.drewN _) HH.out true HS.out)))
  go_wp2
  go_ret2
  exact ⟨HF.out.drewN nq, ⟨_, HP'.out.drewN nq⟩, rfl⟩

set_option maxHeartbeats 400000 in
theorem one_plain (c : UInt8) (s : List UInt8) (B P : Nat) (text : ByteArray) (at_ : Nat) (ns : List (Nd Value)) (w : World) (hP : Psr w B P text at_ ns) (h : rest text at_ = c :: s) (h92 : c ≠ 92) (hs : isSign c = false) :
    Calls Tryd.prog 62 #[.pointer (some ⟨P, 0, none⟩)] w fun e w' =>
      PFr B w w' ∧ e = .returned (.tuple #[.int .u8 c.toNat, .bool (decide (32 ≤ c.toNat ∧ c.toNat ≤ 126))]) ∧ Psr w' B P text (at_ + 1) ns ∧ rest text (at_ + 1) = s := by
  have HP := hide hP
  have HH := hide h
  have HS := hide hs
  have h9 := hide (show (rest text at_).head? ≠ some 92 by rw [h]; simpa using h92)
  obtain ⟨hlt, hc, hn⟩ := rest_eq_cons h
  have hg : ((at_ : Int) == (text.size : Int)) = false := by rw [beq_eq_false_iff_ne]; omega
  have hsm := hP.small
  have HN := hide hn
  clear hP h hs hn h92
  go_enter Tryd.func62, Tryd.ntmps62
  go_wp2_with fail
  refine (take_miss 92 B P text at_ ns w HP.out h9.out).mono ?_
  rintro e w' ⟨rfl, hP', hF⟩
  obtain ⟨c0, c1, f1⟩ := hP'.cells
  have HP' := hide hP'
  have HF := hide hF
  clear hP' hF
  go_wp2_with fail
  go_quiet ((go_at_call 44; exact Calls.quiet_of (next_signs c s B P text at_ ns _ (HP'.out.drewN _) HH.out false HS.out)))
  rename Nat => nq0
  go_wp2_with fail
  go_quiet (fail)
  go_wp2
  all_goals
    go_ret2
    have hP2 := (HP'.out.drewN (nq0 + nq)).move (at_ + 1) hlt
    refine ⟨(HF.out.drewN (nq0 + nq)).setCell (HP'.out.drewN (nq0 + nq)).mine _, ?_, hP2, HN.out⟩
    rename_i h32
    simp
    first | omega | (rw [Bool.eq_iff_iff]; simp; omega)

/-- ONE, whatever stands there. -/
theorem one_any (B P : Nat) (text : ByteArray) (at_ : Nat) (ns : List (Nd Value)) (w : World) (hP : Psr w B P text at_ ns) :
    Calls Tryd.prog 62 #[.pointer (some ⟨P, 0, none⟩)] w fun e w' =>
      PFr B w w' ∧ ∃ (b : UInt8) (at' : Nat), Psr w' B P text at' ns ∧
        ((pOne (rest text at_) = some (b, rest text at') ∧ e = .returned (.tuple #[.int .u8 b.toNat, .bool true])) ∨
         (pOne (rest text at_) = none ∧ e = .returned (.tuple #[.int .u8 b.toNat, .bool false]))) := by
  cases hr : rest text at_ with
  | nil =>
    refine (one_nil B P text at_ ns w hP (.inl hr)).mono ?_
    rintro e w' ⟨hF, ⟨at', hP'⟩, rfl⟩
    exact ⟨hF, 0, at', hP', .inr ⟨rfl, rfl⟩⟩
  | cons c s =>
    by_cases h92 : c = 92
    · subst h92
      cases s with
      | nil =>
        refine (one_nil B P text at_ ns w hP (.inr hr)).mono ?_
        rintro e w' ⟨hF, ⟨at', hP'⟩, rfl⟩
        exact ⟨hF, 0, at', hP', .inr ⟨rfl, rfl⟩⟩
      | cons d s =>
        cases hs : isSign d with
        | true =>
          refine (one_esc_ok d s B P text at_ ns w hP hr hs).mono ?_
          rintro e w' ⟨hF, rfl, hP', h2⟩
          exact ⟨hF, d, at_ + 2, hP', .inl ⟨by simp [pOne, hs, h2], rfl⟩⟩
        | false =>
          refine (one_esc_bad d s B P text at_ ns w hP hr hs).mono ?_
          rintro e w' ⟨hF, ⟨at', hP'⟩, rfl⟩
          exact ⟨hF, 0, at', hP', .inr ⟨by simp [pOne, hs], rfl⟩⟩
    · cases hs : isSign c with
      | true =>
        refine (one_sign c s B P text at_ ns w hP hr h92 hs).mono ?_
        rintro e w' ⟨hF, ⟨at', hP'⟩, rfl⟩
        exact ⟨hF, 0, at', hP', .inr ⟨by simp [pOne, hs, h92], rfl⟩⟩
      | false =>
        refine (one_plain c s B P text at_ ns w hP hr h92 hs).mono ?_
        rintro e w' ⟨hF, rfl, hP', h2⟩
        refine ⟨hF, c, at_ + 1, hP', ?_⟩
        by_cases hc : 32 ≤ c.toNat ∧ c.toNat ≤ 126
        · exact .inl ⟨by simp [pOne, hs, h92, h2, hc], by simp [hc]⟩
        · exact .inr ⟨by simp [pOne, hs, h92]; omega, by simp [hc]⟩

end Go.Proofs.YtgncgdkpkkdaeaaDoor
