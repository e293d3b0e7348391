/- The parser's small steps: take, next. -/
import Derived.Test.YtgncgdkpkkdaeaaDoorBase
namespace Go.Proofs.YtgncgdkpkkdaeaaDoor
open Go.RowKit Tint

set_option maxHeartbeats 400000 in
theorem take_hit (b : UInt8) (s : List UInt8) (B P : Nat) (text : ByteArray) (at_ : Nat) (ns : List (Nd Value)) (w : World) (hP : Psr w B P text at_ ns) (hb : rest text at_ = b :: s) :
    Calls Tryd.prog 31 #[.pointer (some ⟨P, 0, none⟩), .int .u8 b.toNat] w fun e w' =>
      e = .returned (.bool true) ∧ Psr w' B P text (at_ + 1) ns ∧ PFr B w w' ∧ rest text (at_ + 1) = s := by
  have hP0 := hP
  obtain ⟨⟨sv, h1, h2⟩, hle, hs, hB⟩ := hP
  have hlt : at_ < text.size := by
    rcases Nat.lt_or_ge at_ text.size with h | h
    · exact h
    · rw [rest_nil h] at hb; cases hb
  rw [rest_cons hlt] at hb
  simp only [List.cons.injEq] at hb
  obtain ⟨hb, hr⟩ := hb
  have c0 : w.cell? ⟨P, 0, none⟩ = some (.string text) := by simp [World.cell?, h1]
  have c1 : w.cell? ⟨P, 1, none⟩ = some (.int .i64 at_) := by simp [World.cell?, h1]
  have f1 : w.frozen? ⟨P, 1, none⟩ = false := by simp [World.frozen?, h1]
  have hg : decide ((at_ : Int) < (text.size : Int)) = true := by simpa using hlt
  have HP := hide hP0
  have HR := hide hr
  clear h1 h2 hP0 hr
  go_enter Tryd.func31, Tryd.ntmps31
  go_wp2_with fail
  go_quiet (fail)
  go_wp2
  go_ret
  refine ⟨rfl, ?_, ?_, HR.out⟩
  · exact (HP.out.drewN nq).move (at_ + 1) hlt
  · exact ((PFr.refl B w).drewN nq).setCell (HP.out.drewN nq).mine _

set_option maxHeartbeats 400000 in
theorem take_miss (b : UInt8) (B P : Nat) (text : ByteArray) (at_ : Nat) (ns : List (Nd Value)) (w : World) (hP : Psr w B P text at_ ns) (hb : (rest text at_).head? ≠ some b) :
    Calls Tryd.prog 31 #[.pointer (some ⟨P, 0, none⟩), .int .u8 b.toNat] w fun e w' =>
      e = .returned (.bool false) ∧ Psr w' B P text at_ ns ∧ PFr B w w' := by
  have HP := hide hP
  obtain ⟨⟨sv, h1, h2⟩, hle, hs, hB⟩ := hP
  have c0 : w.cell? ⟨P, 0, none⟩ = some (.string text) := by simp [World.cell?, h1]
  have c1 : w.cell? ⟨P, 1, none⟩ = some (.int .i64 at_) := by simp [World.cell?, h1]
  clear h1 h2
  rcases Nat.lt_or_ge at_ text.size with hlt | hge
  · rw [rest_cons hlt] at hb
    simp only [List.head?_cons, ne_eq, Option.some.injEq] at hb
    have hg : decide ((at_ : Int) < (text.size : Int)) = true := by simpa using hlt
    have hb2 : (((text[at_]).toNat : Int) == (b.toNat : Int)) = false := by
      rw [beq_eq_false_iff_ne]
      intro h
      exact hb (UInt8.toNat_inj.1 (by omega))
    clear hb
    go_enter Tryd.func31, Tryd.ntmps31
    go_wp2_with fail
    go_quiet (fail)
    go_wp2
    go_ret
    exact ⟨rfl, HP.out.drewN nq, (PFr.refl B w).drewN nq⟩
  · have hg : decide (at_ < text.size) = false := by simp; omega
    clear hb
    go_enter Tryd.func31, Tryd.ntmps31
    go_wp2_with fail
    go_quiet (fail)
    go_wp2
    go_ret
    exact ⟨rfl, HP.out.drewN nq, (PFr.refl B w).drewN nq⟩

theorem head_cons {t : List UInt8} {b : UInt8} (h : t.head? = some b) : ∃ s, t = b :: s := by
  cases t with
  | nil => cases h
  | cons c s => simp at h; exact ⟨s, by rw [h]⟩

/-- 'take', whatever stands there. -/
theorem take_any (b : UInt8) (B P : Nat) (text : ByteArray) (at_ : Nat) (ns : List (Nd Value)) (w : World) (hP : Psr w B P text at_ ns) :
    Calls Tryd.prog 31 #[.pointer (some ⟨P, 0, none⟩), .int .u8 b.toNat] w fun e w' =>
      ∃ (r : Bool) (at' : Nat), e = .returned (.bool r) ∧ Psr w' B P text at' ns ∧ PFr B w w' ∧
        ((r = true ∧ rest text at_ = b :: rest text at') ∨ (r = false ∧ at' = at_ ∧ (rest text at_).head? ≠ some b)) := by
  by_cases h : (rest text at_).head? = some b
  · obtain ⟨s, hs⟩ := head_cons h
    refine (take_hit b s B P text at_ ns w hP hs).mono ?_
    rintro e w' ⟨rfl, h1, h2, h3⟩
    exact ⟨true, _, rfl, h1, h2, .inl ⟨rfl, by rw [h3]; exact hs⟩⟩
  · refine (take_miss b B P text at_ ns w hP h).mono ?_
    rintro e w' ⟨rfl, h1, h2⟩
    exact ⟨false, _, rfl, h1, h2, .inr ⟨rfl, rfl, h⟩⟩

end Go.Proofs.YtgncgdkpkkdaeaaDoor
