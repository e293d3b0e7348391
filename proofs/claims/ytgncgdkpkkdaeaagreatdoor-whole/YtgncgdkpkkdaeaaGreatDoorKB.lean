import Derived.Test.YtgncgdkpkkdaeaaGreatDoorKBase
import Derived.Lib.IndexAny
import Derived.Laws.StandIn
import Derived.Deep.LoopGhost
namespace Go.Proofs.YtgncgdkpkkdaeaaGreatDoor
open Go.RowKit Tint
set_option maxHeartbeats 400000 in
theorem take_hit (b : UInt8) (s : List UInt8) (B P : Nat) (text : ByteArray) (at_ : Nat) (ns : List (Nd Value)) (w : World) (hP : Psr w B P text at_ ns) (hb : rest text at_ = b :: s) :
  Calls Tryz.prog 171 #[.pointer (some ⟨P, 0, none⟩), .int .u8 b.toNat] w fun e w' =>
   e = .returned (.bool true) ∧ Psr w' B P text (at_ + 1) ns ∧ PFr B w w' ∧ rest text (at_ + 1) = s := by
 have hP0 := hP
 obtain ⟨⟨sv, h1, h2⟩, hle, hs, hB⟩ := hP
 have hlt : at_ < text.size := by
  rcases Nat.lt_or_ge at_ text.size with h | h
  ·exact h
  ·rw [rest_nil h] at hb; cases hb
 rw [rest_cons hlt] at hb
 simp only [List.cons.injEq] at hb
 obtain ⟨hb, hr⟩ := hb
 have c0 : w.cell? ⟨P, 0, none⟩ = some (.string text) := by simp [World.cell?, h1]
 have c1 : w.cell? ⟨P, 1, none⟩ = some (.int .i64 at_) := by simp [World.cell?, h1]
 have f1 : w.frozen? ⟨P, 1, none⟩ = false := by simp [World.frozen?, h1]
 have hg : decide ((at_ : Int) < (text.size : Int)) = true := by simpa using hlt
 have HP := hide hP0
 have HR := hide hr
 clear h1 h2 hP0 hr
 go_enter Tryz.func171, Tryz.ntmps171
 go_wp2_with fail
 go_quiet (fail)
 go_wp2
 go_ret
 refine ⟨rfl, ?_, ?_, HR.out⟩
 ·exact (HP.out.drewN nq).move (at_ + 1) hlt
 ·exact ((PFr.refl B w).drewN nq).setCell (HP.out.drewN nq).mine _
set_option maxHeartbeats 400000 in
theorem take_miss (b : UInt8) (B P : Nat) (text : ByteArray) (at_ : Nat) (ns : List (Nd Value)) (w : World) (hP : Psr w B P text at_ ns) (hb : (rest text at_).head? ≠ some b) :
  Calls Tryz.prog 171 #[.pointer (some ⟨P, 0, none⟩), .int .u8 b.toNat] w fun e w' =>
   e = .returned (.bool false) ∧ Psr w' B P text at_ ns ∧ PFr B w w' := by
 have HP := hide hP
 obtain ⟨⟨sv, h1, h2⟩, hle, hs, hB⟩ := hP
 have c0 : w.cell? ⟨P, 0, none⟩ = some (.string text) := by simp [World.cell?, h1]
 have c1 : w.cell? ⟨P, 1, none⟩ = some (.int .i64 at_) := by simp [World.cell?, h1]
 clear h1 h2
 rcases Nat.lt_or_ge at_ text.size with hlt | hge
 ·rw [rest_cons hlt] at hb
  simp only [List.head?_cons, ne_eq, Option.some.injEq] at hb
  have hg : decide ((at_ : Int) < (text.size : Int)) = true := by simpa using hlt
  have hb2 : (((text[at_]).toNat : Int) == (b.toNat : Int)) = false := by
   rw [beq_eq_false_iff_ne]
   intro h
   exact hb (UInt8.toNat_inj.1 (by omega))
  clear hb
  go_enter Tryz.func171, Tryz.ntmps171
  go_wp2_with fail
  go_quiet (fail)
  go_wp2
  go_ret
  exact ⟨rfl, HP.out.drewN nq, (PFr.refl B w).drewN nq⟩
 ·have hg : decide (at_ < text.size) = false := by simp; omega
  clear hb
  go_enter Tryz.func171, Tryz.ntmps171
  go_wp2_with fail
  go_quiet (fail)
  go_wp2
  go_ret
  exact ⟨rfl, HP.out.drewN nq, (PFr.refl B w).drewN nq⟩
theorem head_cons {t : List UInt8} {b : UInt8} (h : t.head? = some b) : ∃ s, t = b :: s := by
 cases t with
 | nil => cases h
 | cons c s => simp at h; exact ⟨s, by rw [h]⟩
theorem take_any (b : UInt8) (B P : Nat) (text : ByteArray) (at_ : Nat) (ns : List (Nd Value)) (w : World) (hP : Psr w B P text at_ ns) :
  Calls Tryz.prog 171 #[.pointer (some ⟨P, 0, none⟩), .int .u8 b.toNat] w fun e w' =>
   ∃ (r : Bool) (at' : Nat), e = .returned (.bool r) ∧ Psr w' B P text at' ns ∧ PFr B w w' ∧
    ((r = true ∧ rest text at_ = b :: rest text at') ∨ (r = false ∧ at' = at_ ∧ (rest text at_).head? ≠ some b)) := by
 by_cases h : (rest text at_).head? = some b
 ·obtain ⟨s, hs⟩ := head_cons h
  refine (take_hit b s B P text at_ ns w hP hs).mono ?_
  rintro e w' ⟨rfl, h1, h2, h3⟩
  exact ⟨true, _, rfl, h1, h2, .inl ⟨rfl, by rw [h3]; exact hs⟩⟩
 ·refine (take_miss b B P text at_ ns w hP h).mono ?_
  rintro e w' ⟨rfl, h1, h2⟩
  exact ⟨false, _, rfl, h1, h2, .inr ⟨rfl, rfl, h⟩⟩
theorem indexByteString_run (s : ByteArray) (b : UInt8) (w : World) :
  Sem.run Tryz.prog (callFunc 188 #[.string s, .int .u8 b.toNat]) w = .ok (.value (.int .i64 (Lib.indexByte s.data.toList b))) w := by
 rw [run_callFunc_indexByte (fn := Tryz.f188) Tryz.func188 (by kernel_rfl) (by kernel_rfl) (by kernel_rfl) (by kernel_rfl)]
 rw [Lib.run_indexByteString]
 simp [Result.andThen]
set_option maxHeartbeats 400000 in
theorem indexByte_any (s : ByteArray) (b : UInt8) (w : World) :
  Calls Tryz.prog 205 #[.string s, .int .u8 b.toNat] w fun e w' =>
   e = .returned (.int .i64 (Lib.indexByte s.data.toList b)) ∧ w' = w := by
 have hrun := indexByteString_run s b
 go_enter Tryz.func205, Tryz.ntmps205
 go_wp2
 go_ret
 exact ⟨rfl, rfl⟩
set_option maxHeartbeats 400000 in
theorem next_any (s : ByteArray) (B P : Nat) (text : ByteArray) (at_ : Nat) (ns : List (Nd Value)) (w : World) (hP : Psr w B P text at_ ns) :
  Calls Tryz.prog 192 #[.pointer (some ⟨P, 0, none⟩), .string s] w fun e w' =>
   e = .returned (.bool (match (rest text at_).head? with | none => false | some b => s.data.toList.contains b)) ∧ ∃ n, w' = w.drewN n := by
 obtain ⟨⟨sv, h1, h2⟩, hle, hs, hB⟩ := hP
 have c0 : w.cell? ⟨P, 0, none⟩ = some (.string text) := by simp [World.cell?, h1]
 have c1 : w.cell? ⟨P, 1, none⟩ = some (.int .i64 at_) := by simp [World.cell?, h1]
 clear h1 h2
 rcases Nat.lt_or_ge at_ text.size with hlt | hge
 ·rw [rest_cons hlt]
  have hg : decide ((at_ : Int) < (text.size : Int)) = true := by simpa using hlt
  simp only [List.head?_cons]
  rw [Lib.contains_iff_indexByte]
  generalize hb : text[at_] = b
  go_enter Tryz.func192, Tryz.ntmps192
  go_wp2_with fail
  go_quiet ((go_at_call 205; exact Calls.quiet_of_same (indexByte_any _ _ _)))
  go_wp2
  go_ret
  exact ⟨rfl, nq, rfl⟩
 ·have hg : decide (at_ < text.size) = false := by simp; omega
  rw [rest_nil hge]
  go_enter Tryz.func192, Tryz.ntmps192
  go_wp2_with fail
  go_quiet (fail)
  go_wp2
  go_ret
  exact ⟨rfl, nq, rfl⟩
def signs : ByteArray := ⟨#[92, 40, 41, 91, 93, 124, 42, 43, 63, 46, 94, 45]⟩
theorem sign_range : ∀ b : UInt8, isSign b = true → 32 ≤ b.toNat ∧ b.toNat ≤ 126 := by
 intro b h
 simp only [isSign, List.contains_cons, List.contains_nil, Bool.or_false, Bool.or_eq_true, beq_iff_eq] at h
 rcases h with h | h | h | h | h | h | h | h | h | h | h | h <;> subst h <;> decide
theorem next_signs (d : UInt8) (s : List UInt8) (B P : Nat) (text : ByteArray) (at_ : Nat) (ns : List (Nd Value)) (w : World) (hP : Psr w B P text at_ ns) (h : rest text at_ = d :: s) (f : Bool) (hf : isSign d = f) :
  Calls Tryz.prog 192 #[.pointer (some ⟨P, 0, none⟩), .string ⟨#[92, 40, 41, 91, 93, 124, 42, 43, 63, 46, 94, 45]⟩] w fun e w' => e = .returned (.bool f) ∧ ∃ n, w' = w.drewN n := by
 refine (next_any signs B P text at_ ns w hP).mono ?_
 rintro e w' ⟨rfl, n, rfl⟩
 refine ⟨?_, n, rfl⟩
 rw [h]
 simp only [List.head?_cons]
 rw [← hf]
 rfl
set_option maxHeartbeats 400000 in
theorem one_nil (B P : Nat) (text : ByteArray) (at_ : Nat) (ns : List (Nd Value)) (w : World) (hP : Psr w B P text at_ ns) (h : rest text at_ = [] ∨ rest text at_ = [92]) :
  Calls Tryz.prog 211 #[.pointer (some ⟨P, 0, none⟩)] w fun e w' =>
   PFr B w w' ∧ (∃ at', Psr w' B P text at' ns) ∧ e = .returned (.tuple #[.int .u8 0, .bool false]) := by
 have HP := hide hP
 rcases h with h | h
 ·have he := rest_eq_nil hP.le h
  subst he
  have hh : (rest text text.size).head? ≠ some 92 := by rw [h]; simp
  clear hP h
  go_enter Tryz.func211, Tryz.ntmps211
  go_wp2_with fail
  refine (take_miss 92 B P text text.size ns w HP.out hh).mono ?_
  rintro e w' ⟨rfl, hP', hF⟩
  obtain ⟨c0, c1, f1⟩ := hP'.cells
  have HP' := hide hP'
  have HF := hide hF
  clear hP' hF
  go_wp2_with fail
  go_quiet (fail)
  go_wp2
  go_ret2
  exact ⟨HF.out.drewN nq, ⟨_, HP'.out.drewN nq⟩, rfl⟩
 ·obtain ⟨hlt, _, hn⟩ := rest_eq_cons h
  have he : at_ + 1 = text.size := rest_eq_nil hlt hn
  have HH := hide h
  have HE := hide he
  clear hP h hn he
  go_enter Tryz.func211, Tryz.ntmps211
  go_wp2_with fail
  refine (take_hit 92 [] B P text at_ ns w HP.out HH.out).mono ?_
  rintro e w' ⟨rfl, hP', hF, hX⟩
  rw [HE.out] at hP'
  obtain ⟨c0, c1, f1⟩ := hP'.cells
  have HP' := hide hP'
  have HF := hide hF
  clear hP' hF hX
  go_wp2_with fail
  go_quiet (fail)
  go_wp2
  go_ret2
  exact ⟨HF.out.drewN nq, ⟨_, HP'.out.drewN nq⟩, rfl⟩
set_option maxHeartbeats 400000 in
theorem one_esc_ok (d : UInt8) (s : List UInt8) (B P : Nat) (text : ByteArray) (at_ : Nat) (ns : List (Nd Value)) (w : World) (hP : Psr w B P text at_ ns) (h : rest text at_ = 92 :: d :: s) (hs : isSign d = true) :
  Calls Tryz.prog 211 #[.pointer (some ⟨P, 0, none⟩)] w fun e w' =>
   PFr B w w' ∧ e = .returned (.tuple #[.int .u8 d.toNat, .bool true]) ∧ Psr w' B P text (at_ + 2) ns ∧ rest text (at_ + 2) = s := by
 have HP := hide hP
 have HH := hide h
 have hr := sign_range d hs
 have HS := hide hs
 clear hP h hs
 go_enter Tryz.func211, Tryz.ntmps211
 go_wp2_with fail
 refine (take_hit 92 (d :: s) B P text at_ ns w HP.out HH.out).mono ?_
 rintro e w' ⟨rfl, hP', hF, hX⟩
 obtain ⟨j, hj⟩ : ∃ j, j = at_ + 1 := ⟨_, rfl⟩
 have HJ := hide hj
 rw [← hj] at hP' hX
 clear hj
 obtain ⟨c0, c1, f1⟩ := hP'.cells
 obtain ⟨hlt1, hd, hn1⟩ := rest_eq_cons hX
 have hg : ((j : Int) == (text.size : Int)) = false := by rw [beq_eq_false_iff_ne]; omega
 have hsm := hP'.small
 have HP' := hide hP'
 have HF := hide hF
 have HX := hide hX
 have HN := hide hn1
 clear hP' hF hX hn1
 go_wp2_with fail
 go_quiet ((go_at_call 192; exact Calls.quiet_of (next_signs d s B P text j ns _ (HP'.out.drewN _) HX.out true HS.out)))
 rename Nat => nq0
 go_wp2_with fail
 go_quiet (fail)
 go_wp2
 go_ret2
 have hJ := HJ.out
 refine ⟨(HF.out.drewN _).setCell (HP'.out.drewN _).mine _, by simp; omega, ?_, ?_⟩
 ·have := (HP'.out.drewN (nq0 + nq)).move (j + 1) (by omega)
  rw [show at_ + 2 = j + 1 by omega]
  exact this
 ·rw [show at_ + 2 = j + 1 by omega]; exact HN.out
set_option maxHeartbeats 400000 in
theorem one_esc_bad (d : UInt8) (s : List UInt8) (B P : Nat) (text : ByteArray) (at_ : Nat) (ns : List (Nd Value)) (w : World) (hP : Psr w B P text at_ ns) (h : rest text at_ = 92 :: d :: s) (hs : isSign d = false) :
  Calls Tryz.prog 211 #[.pointer (some ⟨P, 0, none⟩)] w fun e w' =>
   PFr B w w' ∧ (∃ at', Psr w' B P text at' ns) ∧ e = .returned (.tuple #[.int .u8 0, .bool false]) := by
 have HP := hide hP
 have HH := hide h
 have HS := hide hs
 clear hP h hs
 go_enter Tryz.func211, Tryz.ntmps211
 go_wp2_with fail
 refine (take_hit 92 (d :: s) B P text at_ ns w HP.out HH.out).mono ?_
 rintro e w' ⟨rfl, hP', hF, hX⟩
 obtain ⟨j, hj⟩ : ∃ j, j = at_ + 1 := ⟨_, rfl⟩
 rw [← hj] at hP' hX
 clear hj
 obtain ⟨c0, c1, f1⟩ := hP'.cells
 obtain ⟨hlt1, hd, hn1⟩ := rest_eq_cons hX
 have hg : ((j : Int) == (text.size : Int)) = false := by rw [beq_eq_false_iff_ne]; omega
 have HP' := hide hP'
 have HF := hide hF
 have HX := hide hX
 clear hP' hF hX hn1
 go_wp2_with fail
 go_quiet ((go_at_call 192; exact Calls.quiet_of (next_signs d s B P text j ns _ (HP'.out.drewN _) HX.out false HS.out)))
 go_wp2
 go_ret2
 exact ⟨HF.out.drewN nq, ⟨_, HP'.out.drewN nq⟩, rfl⟩
set_option maxHeartbeats 400000 in
theorem one_sign (c : UInt8) (s : List UInt8) (B P : Nat) (text : ByteArray) (at_ : Nat) (ns : List (Nd Value)) (w : World) (hP : Psr w B P text at_ ns) (h : rest text at_ = c :: s) (h92 : c ≠ 92) (hs : isSign c = true) :
  Calls Tryz.prog 211 #[.pointer (some ⟨P, 0, none⟩)] w fun e w' =>
   PFr B w w' ∧ (∃ at', Psr w' B P text at' ns) ∧ e = .returned (.tuple #[.int .u8 0, .bool false]) := by
 have HP := hide hP
 have HH := hide h
 have HS := hide hs
 have h9 := hide (show (rest text at_).head? ≠ some 92 by rw [h]; simpa using h92)
 obtain ⟨hlt, hc, hn⟩ := rest_eq_cons h
 have hg : ((at_ : Int) == (text.size : Int)) = false := by rw [beq_eq_false_iff_ne]; omega
 clear hP h hs hn h92
 go_enter Tryz.func211, Tryz.ntmps211
 go_wp2_with fail
 refine (take_miss 92 B P text at_ ns w HP.out h9.out).mono ?_
 rintro e w' ⟨rfl, hP', hF⟩
 obtain ⟨c0, c1, f1⟩ := hP'.cells
 have HP' := hide hP'
 have HF := hide hF
 clear hP' hF
 go_wp2_with fail
 go_quiet ((go_at_call 192; exact Calls.quiet_of (next_signs c s B P text at_ ns _ (HP'.out.drewN _) HH.out true HS.out)))
 go_wp2
 go_ret2
 exact ⟨HF.out.drewN nq, ⟨_, HP'.out.drewN nq⟩, rfl⟩
set_option maxHeartbeats 400000 in
theorem one_plain (c : UInt8) (s : List UInt8) (B P : Nat) (text : ByteArray) (at_ : Nat) (ns : List (Nd Value)) (w : World) (hP : Psr w B P text at_ ns) (h : rest text at_ = c :: s) (h92 : c ≠ 92) (hs : isSign c = false) :
  Calls Tryz.prog 211 #[.pointer (some ⟨P, 0, none⟩)] w fun e w' =>
   PFr B w w' ∧ e = .returned (.tuple #[.int .u8 c.toNat, .bool (decide (32 ≤ c.toNat ∧ c.toNat ≤ 126))]) ∧ Psr w' B P text (at_ + 1) ns ∧ rest text (at_ + 1) = s := by
 have HP := hide hP
 have HH := hide h
 have HS := hide hs
 have h9 := hide (show (rest text at_).head? ≠ some 92 by rw [h]; simpa using h92)
 obtain ⟨hlt, hc, hn⟩ := rest_eq_cons h
 have hg : ((at_ : Int) == (text.size : Int)) = false := by rw [beq_eq_false_iff_ne]; omega
 have hsm := hP.small
 have HN := hide hn
 clear hP h hs hn h92
 go_enter Tryz.func211, Tryz.ntmps211
 go_wp2_with fail
 refine (take_miss 92 B P text at_ ns w HP.out h9.out).mono ?_
 rintro e w' ⟨rfl, hP', hF⟩
 obtain ⟨c0, c1, f1⟩ := hP'.cells
 have HP' := hide hP'
 have HF := hide hF
 clear hP' hF
 go_wp2_with fail
 go_quiet ((go_at_call 192; exact Calls.quiet_of (next_signs c s B P text at_ ns _ (HP'.out.drewN _) HH.out false HS.out)))
 rename Nat => nq0
 go_wp2_with fail
 go_quiet (fail)
 go_wp2
 all_goals
  go_ret2
  have hP2 := (HP'.out.drewN (nq0 + nq)).move (at_ + 1) hlt
  refine ⟨(HF.out.drewN (nq0 + nq)).setCell (HP'.out.drewN (nq0 + nq)).mine _, ?_, hP2, HN.out⟩
  rename_i h32
  simp
  first | omega | (rw [Bool.eq_iff_iff]; simp; omega)
theorem one_any (B P : Nat) (text : ByteArray) (at_ : Nat) (ns : List (Nd Value)) (w : World) (hP : Psr w B P text at_ ns) :
  Calls Tryz.prog 211 #[.pointer (some ⟨P, 0, none⟩)] w fun e w' =>
   PFr B w w' ∧ ∃ (b : UInt8) (at' : Nat), Psr w' B P text at' ns ∧
    ((pOne (rest text at_) = some (b, rest text at') ∧ e = .returned (.tuple #[.int .u8 b.toNat, .bool true])) ∨
     (pOne (rest text at_) = none ∧ e = .returned (.tuple #[.int .u8 b.toNat, .bool false]))) := by
 cases hr : rest text at_ with
 | nil =>
  refine (one_nil B P text at_ ns w hP (.inl hr)).mono ?_
  rintro e w' ⟨hF, ⟨at', hP'⟩, rfl⟩
  exact ⟨hF, 0, at', hP', .inr ⟨rfl, rfl⟩⟩
 | cons c s =>
  by_cases h92 : c = 92
  ·subst h92
   cases s with
   | nil =>
    refine (one_nil B P text at_ ns w hP (.inr hr)).mono ?_
    rintro e w' ⟨hF, ⟨at', hP'⟩, rfl⟩
    exact ⟨hF, 0, at', hP', .inr ⟨rfl, rfl⟩⟩
   | cons d s =>
    cases hs : isSign d with
    | true =>
     refine (one_esc_ok d s B P text at_ ns w hP hr hs).mono ?_
     rintro e w' ⟨hF, rfl, hP', h2⟩
     exact ⟨hF, d, at_ + 2, hP', .inl ⟨by simp [pOne, hs, h2], rfl⟩⟩
    | false =>
     refine (one_esc_bad d s B P text at_ ns w hP hr hs).mono ?_
     rintro e w' ⟨hF, ⟨at', hP'⟩, rfl⟩
     exact ⟨hF, 0, at', hP', .inr ⟨by simp [pOne, hs], rfl⟩⟩
  ·cases hs : isSign c with
   | true =>
    refine (one_sign c s B P text at_ ns w hP hr h92 hs).mono ?_
    rintro e w' ⟨hF, ⟨at', hP'⟩, rfl⟩
    exact ⟨hF, 0, at', hP', .inr ⟨by simp [pOne, hs, h92], rfl⟩⟩
   | false =>
    refine (one_plain c s B P text at_ ns w hP hr h92 hs).mono ?_
    rintro e w' ⟨hF, rfl, hP', h2⟩
    refine ⟨hF, c, at_ + 1, hP', ?_⟩
    by_cases hc : 32 ≤ c.toNat ∧ c.toNat ≤ 126
    ·exact .inl ⟨by simp [pOne, hs, h92, h2, hc], by simp [hc]⟩
    ·exact .inr ⟨by simp [pOne, hs, h92]; omega, by simp [hc]⟩
theorem IsCls.shape {w : World} {v : Value} {c : Cls} (h : IsCls w v c) : ∃ g cap, v = .func (.func g) #[] cap := by
 cases c with
 | any => exact ⟨_, _, h⟩
 | range lo hi => obtain ⟨p, q, e, _⟩ := h; exact ⟨_, _, e⟩
 | union a b => obtain ⟨p, q, va, vb, e, _⟩ := h; exact ⟨_, _, e⟩
 | compl a => obtain ⟨p, va, e, _⟩ := h; exact ⟨_, _, e⟩
set_option maxHeartbeats 400000 in
theorem between_any (lo hi : UInt8) (w : World) :
  Calls Tryz.prog 212 #[.int .u8 lo.toNat, .int .u8 hi.toNat] w fun e w' =>
   ∃ v, e = .returned v ∧ IsCls w' v (.range lo hi) ∧ Below w.heap.size w w' := by
 go_enter Tryz.func212, Tryz.ntmps212
 go_wp2
 go_ret
 refine ⟨_, rfl, ⟨_, _, rfl, ?_, ?_⟩, ?_⟩
 ·exact heap_alloc_old (heap_alloc_last w _)
 ·have := heap_alloc_last (w.alloc (.cells #[.int .u8 lo.toNat] 5)) (.cells #[.int .u8 hi.toNat] 5)
  simpa using this
 ·exact ((Below.refl _ _).alloc (Nat.le_refl _) _).alloc (by simp) _
set_option maxHeartbeats 400000 in
theorem either_any (a b : Cls) (va vb : Value) (w : World) (ha : IsCls w va a) (hb : IsCls w vb b) :
  Calls Tryz.prog 214 #[va, vb] w fun e w' =>
   ∃ v, e = .returned v ∧ IsCls w' v (.union a b) ∧ Below w.heap.size w w' := by
 obtain ⟨g1, cap1, e1⟩ := ha.shape
 obtain ⟨g2, cap2, e2⟩ := hb.shape
 subst e1 e2
 have HA := hide ha
 have HB := hide hb
 clear ha hb
 go_enter Tryz.func214, Tryz.ntmps214
 go_wp2
 go_ret
 have hbl : Below w.heap.size w ((w.alloc (.cells #[.func (.func g1) #[] cap1] 290)).alloc (.cells #[.func (.func g2) #[] cap2] 290)) := ((Below.refl _ _).alloc (Nat.le_refl _) _).alloc (by simp) _
 refine ⟨_, rfl, ⟨_, _, _, _, rfl, ?_, ?_, HA.out.stay (Stay.of_below hbl), HB.out.stay (Stay.of_below hbl)⟩, hbl⟩
 ·exact heap_alloc_old (heap_alloc_last w _)
 ·have := heap_alloc_last (w.alloc (.cells #[.func (.func g1) #[] cap1] 290)) (.cells #[.func (.func g2) #[] cap2] 290)
  simpa using this
set_option maxHeartbeats 400000 in
theorem allBut_any (a : Cls) (va : Value) (w : World) (ha : IsCls w va a) :
  Calls Tryz.prog 215 #[va] w fun e w' =>
   ∃ v, e = .returned v ∧ IsCls w' v (.compl a) ∧ Below w.heap.size w w' := by
 obtain ⟨g1, cap1, e1⟩ := ha.shape
 subst e1
 have HA := hide ha
 clear ha
 go_enter Tryz.func215, Tryz.ntmps215
 go_wp2
 go_ret
 have hbl : Below w.heap.size w (w.alloc (.cells #[.func (.func g1) #[] cap1] 290)) := (Below.refl _ _).alloc (Nat.le_refl _) _
 exact ⟨_, rfl, ⟨_, _, rfl, heap_alloc_last w _, HA.out.stay (Stay.of_below hbl)⟩, hbl⟩
theorem pRange_bad {s : List UInt8} (h : pOne s = none) : pRange s = none := by simp [pRange, h]
theorem pRange_single {s t : List UInt8} {b : UInt8} (h : pOne s = some (b, t)) (ht : t.head? ≠ some 45) : pRange s = some (.range b b, t) := by
 cases t with
 | nil => simp [pRange, h]
 | cons c t => simp at ht; simp [pRange, h, ht]
theorem pRange_dash_bad {s t : List UInt8} {b : UInt8} (h : pOne s = some (b, 45 :: t)) (h2 : pOne t = none) : pRange s = none := by simp [pRange, h, h2]
theorem pRange_dash {s t u : List UInt8} {b c : UInt8} (h : pOne s = some (b, 45 :: t)) (h2 : pOne t = some (c, u)) :
  pRange s = if b.toNat ≤ c.toNat then some (.range b c, u) else none := by simp [pRange, h, h2]
-- RANGE: the class, or that it is none.
set_option maxHeartbeats 1000000 in
theorem oneRange_any (B P : Nat) (text : ByteArray) (at_ : Nat) (ns : List (Nd Value)) (w : World) (hP : Psr w B P text at_ ns) :
  Calls Tryz.prog 213 #[.pointer (some ⟨P, 0, none⟩)] w fun e w' =>
   PFr B w w' ∧ ∃ (v : Value) (at' : Nat) (c : Cls), Psr w' B P text at' ns ∧ IsCls w' v c ∧
    ((pRange (rest text at_) = some (c, rest text at') ∧ e = .returned (.tuple #[v, .bool true])) ∨
     (pRange (rest text at_) = none ∧ e = .returned (.tuple #[v, .bool false]))) := by
 have HP := hide hP
 clear hP
 go_enter Tryz.func213, Tryz.ntmps213
 go_wp2_with fail
 refine (one_any B P text at_ ns w HP.out).mono ?_
 rintro e w1 ⟨hF1, b, at1, hP1, ⟨h1, rfl⟩ | ⟨h1, rfl⟩⟩
 ·have HP1 := hide hP1
  have HF1 := hide hF1
  have H1 := hide h1
  clear hP1 hF1 h1
  by_cases hd : (rest text at1).head? = some 45
  ·obtain ⟨s, hs⟩ := head_cons hd
   have HS := hide hs
   clear hs hd
   go_wp2_with fail
   refine (take_hit 45 s B P text at1 ns w1 HP1.out HS.out).mono ?_
   rintro e w2 ⟨rfl, hP2, hF2, hr2⟩
   have HP2 := hide hP2
   have HF2 := hide hF2
   have HR2 := hide hr2
   clear hP2 hF2 hr2
   go_wp2_with fail
   refine (one_any B P text (at1 + 1) ns w2 HP2.out).mono ?_
   rintro e w3 ⟨hF3, b3, at3, hP3, ⟨h3, rfl⟩ | ⟨h3, rfl⟩⟩
   ·have HP3 := hide hP3
    have HF3 := hide hF3
    have H3 := hide h3
    clear hP3 hF3 h3
    go_wp2_with fail
    refine (between_any b b3 w3).mono ?_
    rintro e w4 ⟨v, rfl, hv, hB4⟩
    have HV := hide hv
    have HB4 := hide hB4
    clear hv hB4
    go_wp2_with fail
    go_ret2
    have hpr := pRange_dash (HS.out ▸ H1.out) (HR2.out ▸ H3.out)
    refine ⟨((HF1.out.trans HF2.out).trans HF3.out).trans (PFr.of_below HB4.out), v, at3, _, HP3.out.below HB4.out, HV.out, ?_⟩
    by_cases hle : b.toNat ≤ b3.toNat
    ·exact .inl ⟨by rw [hpr, if_pos hle], by simp [hle]⟩
    ·exact .inr ⟨by rw [hpr, if_neg hle], by simp [hle]⟩
   ·have HP3 := hide hP3
    have HF3 := hide hF3
    have H3 := hide h3
    clear hP3 hF3 h3
    go_wp2_with fail
    refine (between_any b b3 w3).mono ?_
    rintro e w4 ⟨v, rfl, hv, hB4⟩
    have HV := hide hv
    have HB4 := hide hB4
    clear hv hB4
    go_wp2_with fail
    go_ret2
    have hpr := pRange_dash_bad (HS.out ▸ H1.out) (HR2.out ▸ H3.out)
    exact ⟨((HF1.out.trans HF2.out).trans HF3.out).trans (PFr.of_below HB4.out), v, at3, _, HP3.out.below HB4.out, HV.out, .inr ⟨hpr, by simp⟩⟩
  ·have HD := hide hd
   clear hd
   go_wp2_with fail
   refine (take_miss 45 B P text at1 ns w1 HP1.out HD.out).mono ?_
   rintro e w2 ⟨rfl, hP2, hF2⟩
   have HP2 := hide hP2
   have HF2 := hide hF2
   clear hP2 hF2
   go_wp2_with fail
   refine (between_any b b w2).mono ?_
   rintro e w4 ⟨v, rfl, hv, hB4⟩
   have HV := hide hv
   have HB4 := hide hB4
   clear hv hB4
   go_wp2_with fail
   go_ret2
   exact ⟨(HF1.out.trans HF2.out).trans (PFr.of_below HB4.out), v, at1, _, HP2.out.below HB4.out, HV.out, .inl ⟨pRange_single H1.out HD.out, by simp⟩⟩
 ·have HP1 := hide hP1
  have HF1 := hide hF1
  have H1 := hide h1
  clear hP1 hF1 h1
  go_wp2_with fail
  refine (between_any b b w1).mono ?_
  rintro e w4 ⟨v, rfl, hv, hB4⟩
  have HV := hide hv
  have HB4 := hide hB4
  clear hv hB4
  go_wp2_with fail
  go_ret2
  exact ⟨HF1.out.trans (PFr.of_below HB4.out), v, at1, _, HP1.out.below HB4.out, HV.out, .inr ⟨pRange_bad H1.out, by simp⟩⟩
theorem oneRange_b (B P : Nat) (text : ByteArray) (at_ : Nat) (ns : List (Nd Value)) (w : World) (hP : Psr w B P text at_ ns) :
  Calls Tryz.prog 213 #[.pointer (some ⟨P, 0, none⟩)] w fun e w' =>
   ∃ (v : Value) (ok : Bool) (at' : Nat) (c : Cls), e = .returned (.tuple #[v, .bool ok]) ∧ PFr B w w' ∧ Psr w' B P text at' ns ∧ IsCls w' v c ∧
    ((ok = true ∧ pRange (rest text at_) = some (c, rest text at')) ∨ (ok = false ∧ pRange (rest text at_) = none)) := by
 refine (oneRange_any B P text at_ ns w hP).mono ?_
 rintro e w' ⟨hF, v, at', c, h1, h2, ⟨h3, rfl⟩ | ⟨h3, rfl⟩⟩
 ·exact ⟨v, true, at', c, rfl, hF, h1, h2, .inl ⟨rfl, h3⟩⟩
 ·exact ⟨v, false, at', c, rfl, hF, h1, h2, .inr ⟨rfl, h3⟩⟩
def ClsLoop (B P : Nat) (text : ByteArray) (ns : List (Nd Value)) (w2 : World) (at2 : Nat) (c2 : Cls) (ok : Bool) (k : Nat) (has okv : Value) (wr : World) : Prop :=
 PFr B w2 wr ∧ ∃ at' c, Psr wr B P text at' ns ∧ IsCls wr has c ∧
   ((okv = .bool true ∧ ok = true ∧ k = 1 + (rest text at').length ∧ ∀ o, PRs c (rest text at') o → PRs c2 (rest text at2) o) ∨
    (okv = .bool false ∧ k = 0 ∧ (ok = true → PRs c2 (rest text at2) none)))
def ClsPost (B P : Nat) (text : ByteArray) (at_ : Nat) (ns : List (Nd Value)) (w : World) (e : Ending) (w' : World) : Prop :=
 PFr B w w' ∧ ∃ (v : Value) (at' : Nat) (c : Cls), Psr w' B P text at' ns ∧ IsCls w' v c ∧
  ((PClass (rest text at_) (some (c, rest text at')) ∧ e = .returned (.tuple #[v, .bool true])) ∨
   (PClass (rest text at_) none ∧ e = .returned (.tuple #[v, .bool false])))
set_option maxHeartbeats 1000000 in
theorem class_any (B P : Nat) (text : ByteArray) (at_ : Nat) (ns : List (Nd Value)) (w : World) (hP : Psr w B P text at_ ns) :
  Calls Tryz.prog 210 #[.pointer (some ⟨P, 0, none⟩)] w fun e w' =>
   ClsPost B P text at_ ns w e w' := by
 have HP := hide hP
 clear hP
 go_enter Tryz.func210, Tryz.ntmps210
 go_wp2_with fail
 refine (take_any 94 B P text at_ ns w HP.out).mono ?_
 rintro e w1 ⟨r, at1, rfl, hP1, hF1, hr1⟩
 have HP1 := hide hP1
 have HF1 := hide hF1
 have HR1 := hide hr1
 clear hP1 hF1 hr1
 go_wp2_with fail
 refine (oneRange_b B P text at1 ns w1 HP1.out).mono ?_
 rintro e w2 ⟨v, ok, at2, c2, rfl, hF2, hP2, hv2, h2⟩
 have HF2 := hide hF2
 have HP2 := hide hP2
 have HV2 := hide hv2
 have H2 := hide h2
 clear hF2 hP2 hv2 h2
 go_wp2_with fail
 go_loopg [5, 6] (if ok then 1 + (rest text at2).length else 0) (fun k has okv wr => ClsLoop B P text ns w2 at2 c2 ok k has okv wr)
 case atStart =>
  refine ⟨PFr.refl _ _, at2, c2, HP2.out, HV2.out, ?_⟩
  rcases H2.out with ⟨rfl, h⟩ | ⟨rfl, h⟩
  ·exact .inl ⟨rfl, rfl, rfl, fun o h => h⟩
  ·exact .inr ⟨rfl, rfl, fun h => by cases h⟩
 case round =>
  obtain ⟨hF3, at3, c3, hP3, hv3, ⟨rfl, hok, hk, hpr⟩ | ⟨rfl, hk, hpr⟩⟩ := hrel
  ·have HP3 := hide hP3
   have HF3 := hide hF3
   have HV3 := hide hv3
   have HK := hide hk
   have HPR := hide hpr
   have HOK := hide hok
   clear hP3 hF3 hv3 hk hpr hok
   go_wp2_with fail
   refine (take_any 93 B P text at3 ns wr HP3.out).mono ?_
   rintro e w4 ⟨r4, at4, rfl, hP4, hF4, ⟨rfl, hr4⟩ | ⟨rfl, he4, hr4⟩⟩
   ·have HP4 := hide hP4
    have HF4 := hide hF4
    have hfin : PRs c2 (rest text at2) (some (c3, rest text at4)) := HPR.out _ (by rw [hr4]; exact .stop)
    have HFIN := hide hfin
    clear hP4 hF4 hr4 hfin
    have h2 : pRange (rest text at1) = some (c2, rest text at2) := by
     rcases H2.out with h | h
     ·exact h.2
     ·rw [HOK.out] at h; cases h.1
    have H3 := hide h2
    clear h2
    rcases HR1.out with ⟨rfl, hR⟩ | ⟨rfl, hR⟩
    ·have HR := hide hR
     clear hR
     go_wp2_with fail
     refine (allBut_any c3 u5 w4 (HV3.out.stay HF4.out.stay)).mono ?_
     rintro e w5 ⟨v5, rfl, hv5, hB5⟩
     have HV5 := hide hv5
     have HB5 := hide hB5
     clear hv5 hB5
     go_wp2_with fail
     go_ret2
     refine ⟨(((HF1.out.trans HF2.out).trans HF3.out).trans HF4.out).trans (PFr.of_below HB5.out), v5, at4, _, HP4.out.below HB5.out, HV5.out, .inl ⟨?_, by simp⟩⟩
     rw [HR.out]
     exact .neg H3.out HFIN.out
    ·have HR := hide hR
     clear hR
     go_wp2_with fail
     go_ret2
     refine ⟨((HF1.out.trans HF2.out).trans HF3.out).trans HF4.out, u5, at4, c3, HP4.out, HV3.out.stay HF4.out.stay, .inl ⟨?_, by simp⟩⟩
     have h3 := H3.out
     rw [HR.out.1] at h3
     exact .pos HR.out.2 h3 HFIN.out
   ·subst he4
    have HP4 := hide hP4
    have HF4 := hide hF4
    have HR4 := hide hr4
    clear hP4 hF4 hr4
    go_wp2_with fail
    refine (oneRange_b B P text at4 ns w4 HP4.out).mono ?_
    rintro e w5 ⟨v5, ok5, at5, c5, rfl, hF5, hP5, hv5, h5⟩
    have HF5 := hide hF5
    have HP5 := hide hP5
    have HV5 := hide hv5
    have H5 := hide h5
    clear hF5 hP5 hv5 h5
    go_wp2_with fail
    refine (either_any c3 c5 u5 v5 w5 (HV3.out.stay (HF4.out.stay.trans HF5.out.stay)) HV5.out).mono ?_
    rintro e w6 ⟨v6, rfl, hv6, hB6⟩
    have HV6 := hide hv6
    have HB6 := hide hB6
    clear hv6 hB6
    go_wp2_with fail
    go_roundg (if ok5 then 1 + (rest text at5).length else 0)
    case measure =>
     rw [HK.out]
     rcases H5.out with ⟨rfl, h⟩ | ⟨rfl, h⟩
     ·have := pRange_len h; simp; omega
     ·simp; omega
    case rel =>
     refine ⟨((HF3.out.trans HF4.out).trans HF5.out).trans (PFr.of_below HB6.out), at5, _, HP5.out.below HB6.out, HV6.out, ?_⟩
     rcases H5.out with ⟨rfl, h⟩ | ⟨rfl, h⟩
     ·exact .inl ⟨rfl, HOK.out, rfl, fun o ho => HPR.out o (.more HR4.out h ho)⟩
     ·exact .inr ⟨rfl, rfl, fun _ => HPR.out _ (.bad HR4.out h)⟩
  ·have HP3 := hide hP3
   have HF3 := hide hF3
   have HV3 := hide hv3
   have HPR := hide hpr
   clear hP3 hF3 hv3 hpr hk
   rcases HR1.out with ⟨rfl, hR⟩ | ⟨rfl, hR⟩
   ·have HR := hide hR
    clear hR
    go_wp2_with fail
    refine (allBut_any c3 u5 wr HV3.out).mono ?_
    rintro e w5 ⟨v5, rfl, hv5, hB5⟩
    have HV5 := hide hv5
    have HB5 := hide hB5
    clear hv5 hB5
    go_wp2_with fail
    go_ret2
    refine ⟨((HF1.out.trans HF2.out).trans HF3.out).trans (PFr.of_below HB5.out), v5, at3, _, HP3.out.below HB5.out, HV5.out, .inr ⟨?_, by simp⟩⟩
    rw [HR.out]
    rcases H2.out with ⟨h, h2⟩ | ⟨h, h2⟩
    ·exact .neg h2 (HPR.out h)
    ·exact .negBad h2
   ·have HR := hide hR
    clear hR
    go_wp2_with fail
    go_ret2
    refine ⟨(HF1.out.trans HF2.out).trans HF3.out, u5, at3, c3, HP3.out, HV3.out, .inr ⟨?_, by simp⟩⟩
    rcases H2.out with ⟨h, h2⟩ | ⟨h, h2⟩
    ·rw [HR.out.1] at h2
     exact .pos HR.out.2 h2 (HPR.out h)
    ·rw [HR.out.1] at h2
     exact .posBad HR.out.2 h2
theorem Lists.at {w : World} {B : Nat} {sv : Value} {ns : List (Nd Value)} (h : Lists w B sv ns) {i : Nat} {nd : Nd Value} (hi : ns[i]? = some nd) :
  ∃ g cap, sv = .slice (some ⟨g, 0, none⟩) ns.length cap ∧ w.cell? ⟨g, i * 5, none⟩ = some (.int .i64 nd.kind) ∧ w.cell? ⟨g, i * 5 + 1, none⟩ = some nd.has ∧
   w.cell? ⟨g, i * 5 + 2, none⟩ = some (.int .i64 nd.left) ∧ w.cell? ⟨g, i * 5 + 3, none⟩ = some (.int .i64 nd.right) ∧ w.cell? ⟨g, i * 5 + 4, none⟩ = some (.bool nd.empty) := by
 have hlt : i < ns.length := by
  rcases Nat.lt_or_ge i ns.length with h' | h'
  ·exact h'
  ·rw [List.getElem?_eq_none h'] at hi; cases hi
 obtain ⟨⟨h1, h2⟩, _⟩ := h
 rcases h2 with ⟨rfl, h0⟩ | ⟨g, cap, cur, rfl, hg, hh, hn, hc, hs, ht⟩
 ·omega
 ·refine ⟨g, cap, rfl, ?_⟩
  have key : ∀ j, j < 5 → w.cell? ⟨g, i * 5 + j, none⟩ = (ndCells nd)[j]? := by
   intro j hj
   rw [← nsCells_get hi j hj, ← ht]
   have hb : i * 5 + j < ns.length * 5 := by omega
   rw [List.getElem?_take_of_lt hb]
   simp [World.cell?, hh]
  refine ⟨key 0 (by omega), key 1 (by omega), key 2 (by omega), key 3 (by omega), key 4 (by omega)⟩
theorem cell_alloc_old {w : World} {a : Addr} {v : Value} (h : w.cell? a = some v) (o : Obj) : (w.alloc o).cell? a = some v := by
 rw [World.cell?_of_block (w := w) (Below.heap_alloc _ _ _ (World.block_lt_of_cell? w a h))]; exact h
theorem get_lt {α : Type} {l : List α} {i : Nat} {x : α} (h : l[i]? = some x) : i < l.length := by
 rcases Nat.lt_or_ge i l.length with h' | h'
 ·exact h'
 ·rw [List.getElem?_eq_none h'] at h; cases h
set_option maxHeartbeats 400000 in
theorem matchesEmpty_seq (B : Nat) (sv : Value) (ns : List (Nd Value)) (l r : Nat) (x y : Nd Value) (h : Value) (em : Bool) (w : World) (hL : Lists w B sv ns) (hx : ns[l]? = some x) (hy : ns[r]? = some y) :
  Calls Tryz.prog 195 #[sv, .agg #[.int .i64 2, h, .int .i64 l, .int .i64 r, .bool em]] w fun e w' =>
   e = .returned (.bool (x.empty && y.empty)) ∧ Below w.heap.size w w' := by
 obtain ⟨g, cap, rfl, -, -, -, -, hx4⟩ := hL.at hx
 obtain ⟨g', cap', e', -, -, -, -, hy4⟩ := hL.at hy
 cases e'
 have hxa := cell_alloc_old hx4
 have hya := cell_alloc_old hy4
 have hl := get_lt hx
 have hr := get_lt hy
 clear hL hx hy hx4 hy4
 go_enter Tryz.func195, Tryz.ntmps195
 go_wp2
 all_goals
  go_ret
  exact ⟨by simp [*], (Below.refl _ _).alloc (Nat.le_refl _) _⟩
set_option maxHeartbeats 400000 in
theorem matchesEmpty_alt (B : Nat) (sv : Value) (ns : List (Nd Value)) (l r : Nat) (x y : Nd Value) (h : Value) (em : Bool) (w : World) (hL : Lists w B sv ns) (hx : ns[l]? = some x) (hy : ns[r]? = some y) :
  Calls Tryz.prog 195 #[sv, .agg #[.int .i64 3, h, .int .i64 l, .int .i64 r, .bool em]] w fun e w' =>
   e = .returned (.bool (x.empty || y.empty)) ∧ Below w.heap.size w w' := by
 obtain ⟨g, cap, rfl, -, -, -, -, hx4⟩ := hL.at hx
 obtain ⟨g', cap', e', -, -, -, -, hy4⟩ := hL.at hy
 cases e'
 have hxa := cell_alloc_old hx4
 have hya := cell_alloc_old hy4
 have hl := get_lt hx
 have hr := get_lt hy
 clear hL hx hy hx4 hy4
 go_enter Tryz.func195, Tryz.ntmps195
 go_wp2
 all_goals
  go_ret
  exact ⟨by simp [*], (Below.refl _ _).alloc (Nat.le_refl _) _⟩
set_option maxHeartbeats 400000 in
theorem matchesEmpty_plus (B : Nat) (sv : Value) (ns : List (Nd Value)) (l : Nat) (r : Int) (x : Nd Value) (h : Value) (em : Bool) (w : World) (hL : Lists w B sv ns) (hx : ns[l]? = some x) :
  Calls Tryz.prog 195 #[sv, .agg #[.int .i64 5, h, .int .i64 l, .int .i64 r, .bool em]] w fun e w' =>
   e = .returned (.bool x.empty) ∧ Below w.heap.size w w' := by
 obtain ⟨g, cap, rfl, -, -, -, -, hx4⟩ := hL.at hx
 have hxa := cell_alloc_old hx4
 have hl := get_lt hx
 clear hL hx hx4
 go_enter Tryz.func195, Tryz.ntmps195
 go_wp2
 go_ret
 exact ⟨by simp [*], (Below.refl _ _).alloc (Nat.le_refl _) _⟩
set_option maxHeartbeats 400000 in
theorem matchesEmpty_plain (sv : Value) (k : Nat) (l r : Int) (h : Value) (em b : Bool) (w : World) (hk : (k = 1 ∧ b = false) ∨ ((k = 4 ∨ k = 6) ∧ b = true)) :
  Calls Tryz.prog 195 #[sv, .agg #[.int .i64 k, h, .int .i64 l, .int .i64 r, .bool em]] w fun e w' =>
   e = .returned (.bool b) ∧ Below w.heap.size w w' := by
 rcases hk with ⟨rfl, rfl⟩ | ⟨rfl | rfl, rfl⟩
 all_goals
  go_enter Tryz.func195, Tryz.ntmps195
  go_wp2
  go_ret
  exact ⟨rfl, (Below.refl _ _).alloc (Nat.le_refl _) _⟩
def Emp (ns : List (Nd Value)) (k l r : Nat) (b : Bool) : Prop :=
 (k = 1 ∧ b = false) ∨ ((k = 4 ∨ k = 6) ∧ b = true) ∨ (k = 5 ∧ ∃ x, ns[l]? = some x ∧ b = x.empty) ∨
 (k = 2 ∧ ∃ x y, ns[l]? = some x ∧ ns[r]? = some y ∧ b = (x.empty && y.empty)) ∨
 (k = 3 ∧ ∃ x y, ns[l]? = some x ∧ ns[r]? = some y ∧ b = (x.empty || y.empty))
theorem matchesEmpty_any (B : Nat) (sv : Value) (ns : List (Nd Value)) (k l r : Nat) (h : Value) (em b : Bool) (w : World) (hL : Lists w B sv ns) (hE : Emp ns k l r b) :
  Calls Tryz.prog 195 #[sv, .agg #[.int .i64 k, h, .int .i64 l, .int .i64 r, .bool em]] w fun e w' =>
   e = .returned (.bool b) ∧ Below w.heap.size w w' := by
 rcases hE with hE | hE | ⟨rfl, x, hx, rfl⟩ | ⟨rfl, x, y, hx, hy, rfl⟩ | ⟨rfl, x, y, hx, hy, rfl⟩
 ·exact matchesEmpty_plain sv k l r h em b w (.inl hE)
 ·exact matchesEmpty_plain sv k l r h em b w (.inr hE)
 ·exact matchesEmpty_plus B sv ns l r x h em w hL hx
 ·exact matchesEmpty_seq B sv ns l r x y h em w hL hx hy
 ·exact matchesEmpty_alt B sv ns l r x y h em w hL hx hy
end Go.Proofs.YtgncgdkpkkdaeaaGreatDoor
