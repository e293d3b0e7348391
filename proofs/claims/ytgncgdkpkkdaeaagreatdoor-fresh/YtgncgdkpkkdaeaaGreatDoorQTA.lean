/- Put together from TA. -/
import Derived.Test.YtgncgdkpkkdaeaaGreatDoorQC
import Derived.Test.YtgncgdkpkkdaeaaGreatDoorQB
import Derived.Deep.LoopGhost
import Derived.Laws.MakeOwn
import Derived.Laws.OwnMore
/- The document's own reader of patterns: its scanner; is, sign, one. The document's own reader of patterns: ONE. The document's own reader of patterns: a class. The document's own reader of patterns: a class, the walk. -/
namespace Go.Proofs.YtgncgdkpkkdaeaaGreatDoor.Ref
open Go.RowKit Tint

/-- The scanner at block X. -/
def ScanAt (w : World) (X : Nat) (S : ByteArray) (at_ : Nat) (bad : Bool) : Prop := w.heap[X]? = some (.cells #[.string S, .int .i64 at_, .bool bad] 198 (0, 0))

/-- All but block X is as it was. -/
structure Ap (X : Nat) (w w' : World) : Prop where
  os : w'.os = w.os
  tape : w'.tape = w.tape
  output : w'.output = w.output
  size : w.heap.size ≤ w'.heap.size
  keep : ∀ k, k < w.heap.size → k ≠ X → w'.heap[k]? = w.heap[k]?

theorem Ap.refl (X : Nat) (w : World) : Ap X w w := ⟨rfl, rfl, rfl, Nat.le_refl _, fun _ _ _ => rfl⟩
theorem Ap.trans {X : Nat} {a b c : World} (h : Ap X a b) (k : Ap X b c) : Ap X a c :=
  ⟨k.os.trans h.os, k.tape.trans h.tape, k.output.trans h.output, Nat.le_trans h.size k.size, fun i hi hn => (k.keep i (Nat.lt_of_lt_of_le hi h.size) hn).trans (h.keep i hi hn)⟩
theorem Ap.drewN {X : Nat} {a w : World} (h : Ap X a w) (n : Nat) : Ap X a (w.drewN n) := ⟨h.os, h.tape, h.output, h.size, h.keep⟩
theorem Ap.alloc {X : Nat} {a w : World} (h : Ap X a w) (o : Obj) : Ap X a (w.alloc o) :=
  h.trans ⟨rfl, rfl, rfl, by simp, fun _ hk _ => Below.heap_alloc _ _ _ hk⟩
theorem Ap.setCell {X : Nat} {a w : World} (h : Ap X a w) {p : Addr} (hp : p.block = X) (u : Value) : Ap X a (w.setCell p u) :=
  h.trans ⟨rfl, rfl, rfl, by simp [World.setCell], fun _ _ hn => Below.heap_setCell _ _ _ _ (fun e => hn (e.trans hp))⟩
theorem Ap.setCell_new {X : Nat} {a w : World} (h : Ap X a w) {p : Addr} (hp : a.heap.size ≤ p.block) (u : Value) : Ap X a (w.setCell p u) :=
  ⟨h.os, h.tape, h.output, by simpa [World.setCell] using h.size, fun k hk hn => by rw [Below.heap_setCell _ _ _ _ (by omega)]; exact h.keep k hk hn⟩
theorem Ap.of_below {X : Nat} {w w' : World} (h : Below w.heap.size w w') : Ap X w w' := ⟨h.os, h.tape, h.output, h.size, fun k hk _ => h.block k hk⟩
theorem Ap.below {X B : Nat} {w w' : World} (h : Ap X w w') (hB : B ≤ w.heap.size) (hX : B ≤ X) : Below B w w' := ⟨h.os, h.tape, h.output, h.size, fun k hk => h.keep k (by omega) (by omega)⟩

theorem ScanAt.lt {w : World} {X : Nat} {S : ByteArray} {at_ : Nat} {bad : Bool} (h : ScanAt w X S at_ bad) : X < w.heap.size := lt_of_get h
theorem ScanAt.cells {w : World} {X : Nat} {S : ByteArray} {at_ : Nat} {bad : Bool} (h : ScanAt w X S at_ bad) :
    w.cell? ⟨X, 0, none⟩ = some (.string S) ∧ w.cell? ⟨X, 1, none⟩ = some (.int .i64 at_) ∧ w.cell? ⟨X, 2, none⟩ = some (.bool bad) ∧ w.frozen? ⟨X, 1, none⟩ = false ∧ w.frozen? ⟨X, 2, none⟩ = false := by
  unfold ScanAt at h
  refine ⟨?_, ?_, ?_, ?_, ?_⟩
  all_goals simp [World.cell?, World.frozen?, h]
theorem ScanAt.drewN {w : World} {X : Nat} {S : ByteArray} {at_ : Nat} {bad : Bool} (h : ScanAt w X S at_ bad) (n : Nat) : ScanAt (w.drewN n) X S at_ bad := h
theorem ScanAt.alloc {w : World} {X : Nat} {S : ByteArray} {at_ : Nat} {bad : Bool} (h : ScanAt w X S at_ bad) (o : Obj) : ScanAt (w.alloc o) X S at_ bad := heap_alloc_old h
theorem ScanAt.move {w : World} {X : Nat} {S : ByteArray} {at_ : Nat} {bad : Bool} (h : ScanAt w X S at_ bad) (m : Nat) : ScanAt (w.setCell ⟨X, 1, none⟩ (.int .i64 m)) X S m bad := heap_setCell_same w X 1 _ h
theorem ScanAt.spoil {w : World} {X : Nat} {S : ByteArray} {at_ : Nat} {bad : Bool} (h : ScanAt w X S at_ bad) (b : Bool) : ScanAt (w.setCell ⟨X, 2, none⟩ (.bool b)) X S at_ b := heap_setCell_same w X 2 _ h

set_option maxHeartbeats 400000 in
theorem is_any (c : UInt8) (X : Nat) (S : ByteArray) (at_ : Nat) (bad : Bool) (w : World) (h : ScanAt w X S at_ bad) :
    Calls Tryz.prog 144 #[.pointer (some ⟨X, 0, none⟩), .int .u8 c.toNat] w fun e w' => e = .returned (.bool ((rest S at_).head? == some c)) ∧ ∃ n, w' = w.drewN n := by
  obtain ⟨c0, c1, c2, f1, f2⟩ := h.cells
  clear h
  rcases Nat.lt_or_ge at_ S.size with hlt | hge
  · have hg : decide ((at_ : Int) < (S.size : Int)) = true := by simpa using hlt
    by_cases hb : S[at_] = c
    · have hq : (((S[at_]).toNat : Int) == (c.toNat : Int)) = true := by rw [beq_iff_eq, hb]
      have HV := hide (show ((rest S at_).head? == some c) = true by rw [rest_cons hlt, hb]; simp)
      clear hb
      go_enter Tryz.func144, Tryz.ntmps144
      go_wp2_with fail
      go_quiet (fail)
      go_wp2
      go_ret
      exact ⟨by rw [HV.out]; rfl, nq, rfl⟩
    · have hq : (((S[at_]).toNat : Int) == (c.toNat : Int)) = false := by
        rw [beq_eq_false_iff_ne]
        intro h
        exact hb (UInt8.toNat_inj.1 (by omega))
      have HV := hide (show ((rest S at_).head? == some c) = false by rw [rest_cons hlt]; simpa using hb)
      clear hb
      go_enter Tryz.func144, Tryz.ntmps144
      go_wp2_with fail
      go_quiet (fail)
      go_wp2
      go_ret
      exact ⟨by rw [HV.out]; rfl, nq, rfl⟩
  · have hg : decide (at_ < S.size) = false := by simp; omega
    have HV := hide (show ((rest S at_).head? == some c) = false by rw [rest_nil hge]; rfl)
    go_enter Tryz.func144, Tryz.ntmps144
    go_wp2_with fail
    go_quiet (fail)
    go_wp2
    go_ret
    exact ⟨by rw [HV.out]; rfl, nq, rfl⟩

def signList : List UInt8 := [92, 40, 41, 91, 93, 124, 42, 43, 63, 46, 94, 45]

def SignLoop (c : UInt8) (w : World) (k : Nat) (vi : Value) (wr : World) : Prop :=
  ∃ i : Nat, vi = .int .i64 i ∧ i + k = 12 ∧ wr = w ∧ ∀ j, j < i → signList[j]? ≠ some c

theorem sign_hit {c : UInt8} {i : Nat} (h : signList[i]? = some c) : isSign c = true := by
  show signList.contains c = true
  rw [List.contains_iff_mem]
  exact List.mem_of_getElem? h
theorem sign_miss {c : UInt8} (h : ∀ j, j < 12 → signList[j]? ≠ some c) : isSign c = false := by
  show signList.contains c = false
  rw [Bool.eq_false_iff, ne_eq, List.contains_iff_mem]
  intro hm
  obtain ⟨j, hj, he⟩ := List.getElem_of_mem hm
  exact h j hj (by rw [List.getElem?_eq_getElem hj, he])

set_option maxRecDepth 20000 in
set_option maxHeartbeats 1000000 in
theorem sign_any (c : UInt8) (w : World) : Calls Tryz.prog 208 #[.int .u8 c.toNat] w fun e w' => e = .returned (.bool (isSign c)) ∧ w' = w := by
  go_enter Tryz.func208, Tryz.ntmps208
  go_wp2_with fail
  go_loopg [3] 12 (fun k vi wr => SignLoop c w k vi wr)
  case atStart => exact ⟨0, rfl, rfl, rfl, fun j hj => by omega⟩
  case round =>
    obtain ⟨i, rfl, hk, rfl, hne⟩ := hrel
    cases gk with
    | zero =>
      obtain rfl : i = 12 := by omega
      have HNE := hide (sign_miss hne)
      clear hne
      go_wp2_with fail
      go_ret
      exact ⟨by rw [HNE.out]; rfl, rfl⟩
    | succ k =>
      have hi : i < 12 := by omega
      have hg : decide ((i : Int) < 12) = true := by simp; omega
      have hi2 : i < (⟨#[92, 40, 41, 91, 93, 124, 42, 43, 63, 46, 94, 45]⟩ : ByteArray).size := hi
      have hl : signList[i]? = some ((⟨#[92, 40, 41, 91, 93, 124, 42, 43, 63, 46, 94, 45]⟩ : ByteArray)[i]) := by
        rw [List.getElem?_eq_getElem (show i < signList.length from hi)]; rfl
      by_cases hc : (⟨#[92, 40, 41, 91, 93, 124, 42, 43, 63, 46, 94, 45]⟩ : ByteArray)[i] = c
      · have hq : (((⟨#[92, 40, 41, 91, 93, 124, 42, 43, 63, 46, 94, 45]⟩ : ByteArray)[i].toNat : Int) == (c.toNat : Int)) = true := by rw [hc, beq_iff_eq]
        have HS := hide (sign_hit (by rw [hl, hc] : signList[i]? = some c))
        clear hne hl hc
        go_wp2_with fail
        go_ret
        exact ⟨by rw [HS.out]; rfl, rfl⟩
      · have hq : (((⟨#[92, 40, 41, 91, 93, 124, 42, 43, 63, 46, 94, 45]⟩ : ByteArray)[i].toNat : Int) == (c.toNat : Int)) = false := by
          rw [beq_eq_false_iff_ne]; intro h; exact hc (UInt8.toNat_inj.1 (by omega))
        have HNE := hide (show ∀ j, j < i + 1 → signList[j]? ≠ some c from fun j hj => by
          rcases Nat.lt_or_ge j i with h | h
          · exact hne j h
          · obtain rfl : j = i := by omega
            rw [hl]
            intro e
            exact hc (Option.some.inj e))
        clear hne hl hc
        go_wp2_with fail
        go_roundg k
        case measure => omega
        case rel => exact ⟨i + 1, rfl, by omega, rfl, HNE.out⟩

/-- ONE: what the scanner answers. -/
def OnePost (X : Nat) (S : ByteArray) (at_ : Nat) (w : World) (e : Ending) (w' : World) : Prop :=
  Ap X w w' ∧ ∃ (b : UInt8) (at' : Nat), e = .returned (.int .u8 b.toNat) ∧ at' ≤ S.size ∧ ((pOne (rest S at_) = some (b, rest S at') ∧ at_ < at' ∧ ScanAt w' X S at' false) ∨ (pOne (rest S at_) = none ∧ ScanAt w' X S at' true))

end Go.Proofs.YtgncgdkpkkdaeaaGreatDoor.Ref

namespace Go.Proofs.YtgncgdkpkkdaeaaGreatDoor.Ref
open Go.RowKit Tint

set_option maxHeartbeats 1000000 in
theorem one_ok (X : Nat) (S : ByteArray) (at_ : Nat) (w : World) (h : ScanAt w X S at_ false)  (h60 : S.size ≤ 60) (h92 : (rest S at_).head? ≠ some 92) (c : UInt8) (s : List UInt8) (hr : rest S at_ = c :: s) (hs : isSign c = false) (h1 : 32 ≤ c.toNat) (h2 : c.toNat ≤ 126) (ho : pOne (rest S at_) = some (c, s)) :
    Calls Tryz.prog 202 #[.pointer (some ⟨X, 0, none⟩)] w (OnePost X S at_ w) := by
  have HK := hide (is_any 92 X S at_ false w h)
  have H := hide h
  have HO := hide ho
  have HH := hide (show ((rest S at_).head? == some 92) = false by rw [beq_eq_false_iff_ne]; exact h92)
  have HS := hide (fun W => sign_any c W)
  obtain ⟨hlt, hc, hs'⟩ := rest_eq_cons hr
  have HR := hide hs'
  have hg : decide ((S.size : Int) ≤ (at_ : Int)) = false := by simp; omega
  have hg2 : ¬ S.size ≤ at_ := by omega
  have g1 : decide ((c.toNat : Int) < 32) = false := by simp; omega
  have g2 : decide (126 < (c.toNat : Int)) = false := by simp; omega
  have HSF := hide hs
  clear hs
  clear h hr h92 ho hs'
  go_enter Tryz.func202, Tryz.ntmps202
  go_wp2_with fail
  refine HK.out.mono ?_
  rintro e w1 ⟨rfl, n1, rfl⟩
  rw [HH.out]
  obtain ⟨c0, c1, c2, f1, f2⟩ := (H.out.drewN n1).cells
  have H1 := hide (H.out.drewN n1)
  have HA := hide ((Ap.refl X w).drewN n1)
  generalize w.drewN n1 = w1 at *
  clear HK HH
  go_wp2_with fail
  generalize w1 = w2 at *
  go_quiet (fail)
  rename Nat => nq1
  have H3 := hide (H1.out.drewN nq1)
  have HA3 := hide (HA.out.drewN nq1)
  clear c0 c1 c2 f1 f2 H1 HA
  obtain ⟨c0, c1, c2, f1, f2⟩ := H3.out.cells
  generalize w2.drewN nq1 = w3 at *
  go_wp2_with fail
  go_quiet (fail)
  rename Nat => nq2
  have H4 := hide (H3.out.drewN nq2)
  have HA4 := hide (HA3.out.drewN nq2)
  clear c0 c1 c2 f1 f2 H3 HA3
  obtain ⟨c0, c1, c2, f1, f2⟩ := H4.out.cells
  generalize w3.drewN nq2 = w4 at *
  go_wp2_with fail
  refine (HS.out _).mono ?_
  rintro e w5 ⟨rfl, rfl⟩
  rw [HSF.out]
  go_wp2_with fail
  go_ret
  exact ⟨HA4.out.setCell rfl _, c, at_ + 1, rfl, by omega, .inl ⟨by rw [HO.out, HR.out], by omega, H4.out.move (at_ + 1)⟩⟩

set_option maxHeartbeats 1000000 in
theorem one_lo (X : Nat) (S : ByteArray) (at_ : Nat) (w : World) (h : ScanAt w X S at_ false)  (h60 : S.size ≤ 60) (h92 : (rest S at_).head? ≠ some 92) (c : UInt8) (s : List UInt8) (hr : rest S at_ = c :: s) (h1 : c.toNat < 32) (ho : pOne (rest S at_) = none) :
    Calls Tryz.prog 202 #[.pointer (some ⟨X, 0, none⟩)] w (OnePost X S at_ w) := by
  have HK := hide (is_any 92 X S at_ false w h)
  have H := hide h
  have HO := hide ho
  have HH := hide (show ((rest S at_).head? == some 92) = false by rw [beq_eq_false_iff_ne]; exact h92)
  have HS := hide (fun W => sign_any c W)
  obtain ⟨hlt, hc, hs'⟩ := rest_eq_cons hr
  have HR := hide hs'
  have hg : decide ((S.size : Int) ≤ (at_ : Int)) = false := by simp; omega
  have hg2 : ¬ S.size ≤ at_ := by omega
  have g1 : decide ((c.toNat : Int) < 32) = true := by simp; omega
  clear h hr h92 ho hs'
  go_enter Tryz.func202, Tryz.ntmps202
  go_wp2_with fail
  refine HK.out.mono ?_
  rintro e w1 ⟨rfl, n1, rfl⟩
  rw [HH.out]
  obtain ⟨c0, c1, c2, f1, f2⟩ := (H.out.drewN n1).cells
  have H1 := hide (H.out.drewN n1)
  have HA := hide ((Ap.refl X w).drewN n1)
  generalize w.drewN n1 = w1 at *
  clear HK HH
  go_wp2_with fail
  generalize w1 = w2 at *
  go_quiet (fail)
  rename Nat => nq1
  have H3 := hide (H1.out.drewN nq1)
  have HA3 := hide (HA.out.drewN nq1)
  clear c0 c1 c2 f1 f2 H1 HA
  obtain ⟨c0, c1, c2, f1, f2⟩ := H3.out.cells
  generalize w2.drewN nq1 = w3 at *
  go_wp2_with fail
  go_quiet (fail)
  rename Nat => nq2
  have H4 := hide (H3.out.drewN nq2)
  have HA4 := hide (HA3.out.drewN nq2)
  clear c0 c1 c2 f1 f2 H3 HA3
  obtain ⟨c0, c1, c2, f1, f2⟩ := H4.out.cells
  generalize w3.drewN nq2 = w4 at *
  go_wp2_with fail
  refine (HS.out _).mono ?_
  rintro e w5 ⟨rfl, rfl⟩
  go_wp2_with fail
  go_ret
  exact ⟨(HA4.out.setCell rfl _).setCell rfl _, c, at_ + 1, rfl, by omega, .inr ⟨HO.out, (H4.out.spoil true).move (at_ + 1)⟩⟩

set_option maxHeartbeats 1000000 in
theorem one_hi (X : Nat) (S : ByteArray) (at_ : Nat) (w : World) (h : ScanAt w X S at_ false)  (h60 : S.size ≤ 60) (h92 : (rest S at_).head? ≠ some 92) (c : UInt8) (s : List UInt8) (hr : rest S at_ = c :: s) (h1 : 126 < c.toNat) (ho : pOne (rest S at_) = none) :
    Calls Tryz.prog 202 #[.pointer (some ⟨X, 0, none⟩)] w (OnePost X S at_ w) := by
  have HK := hide (is_any 92 X S at_ false w h)
  have H := hide h
  have HO := hide ho
  have HH := hide (show ((rest S at_).head? == some 92) = false by rw [beq_eq_false_iff_ne]; exact h92)
  have HS := hide (fun W => sign_any c W)
  obtain ⟨hlt, hc, hs'⟩ := rest_eq_cons hr
  have HR := hide hs'
  have hg : decide ((S.size : Int) ≤ (at_ : Int)) = false := by simp; omega
  have hg2 : ¬ S.size ≤ at_ := by omega
  have g1 : decide ((c.toNat : Int) < 32) = false := by simp; omega
  have g2 : decide (126 < (c.toNat : Int)) = true := by simp; omega
  clear h hr h92 ho hs'
  go_enter Tryz.func202, Tryz.ntmps202
  go_wp2_with fail
  refine HK.out.mono ?_
  rintro e w1 ⟨rfl, n1, rfl⟩
  rw [HH.out]
  obtain ⟨c0, c1, c2, f1, f2⟩ := (H.out.drewN n1).cells
  have H1 := hide (H.out.drewN n1)
  have HA := hide ((Ap.refl X w).drewN n1)
  generalize w.drewN n1 = w1 at *
  clear HK HH
  go_wp2_with fail
  generalize w1 = w2 at *
  go_quiet (fail)
  rename Nat => nq1
  have H3 := hide (H1.out.drewN nq1)
  have HA3 := hide (HA.out.drewN nq1)
  clear c0 c1 c2 f1 f2 H1 HA
  obtain ⟨c0, c1, c2, f1, f2⟩ := H3.out.cells
  generalize w2.drewN nq1 = w3 at *
  go_wp2_with fail
  go_quiet (fail)
  rename Nat => nq2
  have H4 := hide (H3.out.drewN nq2)
  have HA4 := hide (HA3.out.drewN nq2)
  clear c0 c1 c2 f1 f2 H3 HA3
  obtain ⟨c0, c1, c2, f1, f2⟩ := H4.out.cells
  generalize w3.drewN nq2 = w4 at *
  go_wp2_with fail
  refine (HS.out _).mono ?_
  rintro e w5 ⟨rfl, rfl⟩
  go_wp2_with fail
  go_ret
  exact ⟨(HA4.out.setCell rfl _).setCell rfl _, c, at_ + 1, rfl, by omega, .inr ⟨HO.out, (H4.out.spoil true).move (at_ + 1)⟩⟩

set_option maxHeartbeats 1000000 in
theorem one_mis (X : Nat) (S : ByteArray) (at_ : Nat) (w : World) (h : ScanAt w X S at_ false)  (h60 : S.size ≤ 60) (h92 : (rest S at_).head? ≠ some 92) (c : UInt8) (s : List UInt8) (hr : rest S at_ = c :: s) (hs : isSign c = true) (h1 : 32 ≤ c.toNat) (h2 : c.toNat ≤ 126) (ho : pOne (rest S at_) = none) :
    Calls Tryz.prog 202 #[.pointer (some ⟨X, 0, none⟩)] w (OnePost X S at_ w) := by
  have HK := hide (is_any 92 X S at_ false w h)
  have H := hide h
  have HO := hide ho
  have HH := hide (show ((rest S at_).head? == some 92) = false by rw [beq_eq_false_iff_ne]; exact h92)
  have HS := hide (fun W => sign_any c W)
  obtain ⟨hlt, hc, hs'⟩ := rest_eq_cons hr
  have HR := hide hs'
  have hg : decide ((S.size : Int) ≤ (at_ : Int)) = false := by simp; omega
  have hg2 : ¬ S.size ≤ at_ := by omega
  have g1 : decide ((c.toNat : Int) < 32) = false := by simp; omega
  have g2 : decide (126 < (c.toNat : Int)) = false := by simp; omega
  have HSF := hide hs
  clear hs
  clear h hr h92 ho hs'
  go_enter Tryz.func202, Tryz.ntmps202
  go_wp2_with fail
  refine HK.out.mono ?_
  rintro e w1 ⟨rfl, n1, rfl⟩
  rw [HH.out]
  obtain ⟨c0, c1, c2, f1, f2⟩ := (H.out.drewN n1).cells
  have H1 := hide (H.out.drewN n1)
  have HA := hide ((Ap.refl X w).drewN n1)
  generalize w.drewN n1 = w1 at *
  clear HK HH
  go_wp2_with fail
  generalize w1 = w2 at *
  go_quiet (fail)
  rename Nat => nq1
  have H3 := hide (H1.out.drewN nq1)
  have HA3 := hide (HA.out.drewN nq1)
  clear c0 c1 c2 f1 f2 H1 HA
  obtain ⟨c0, c1, c2, f1, f2⟩ := H3.out.cells
  generalize w2.drewN nq1 = w3 at *
  go_wp2_with fail
  go_quiet (fail)
  rename Nat => nq2
  have H4 := hide (H3.out.drewN nq2)
  have HA4 := hide (HA3.out.drewN nq2)
  clear c0 c1 c2 f1 f2 H3 HA3
  obtain ⟨c0, c1, c2, f1, f2⟩ := H4.out.cells
  generalize w3.drewN nq2 = w4 at *
  go_wp2_with fail
  refine (HS.out _).mono ?_
  rintro e w5 ⟨rfl, rfl⟩
  rw [HSF.out]
  go_wp2_with fail
  go_ret
  exact ⟨(HA4.out.setCell rfl _).setCell rfl _, c, at_ + 1, rfl, by omega, .inr ⟨HO.out, (H4.out.spoil true).move (at_ + 1)⟩⟩

set_option maxHeartbeats 1000000 in
theorem one_end (X : Nat) (S : ByteArray) (at_ : Nat) (w : World) (h : ScanAt w X S at_ false)  (hle : at_ ≤ S.size) (h92 : (rest S at_).head? ≠ some 92) (hend : at_ = S.size) (ho : pOne (rest S at_) = none) :
    Calls Tryz.prog 202 #[.pointer (some ⟨X, 0, none⟩)] w (OnePost X S at_ w) := by
  have HK := hide (is_any 92 X S at_ false w h)
  have H := hide h
  have HO := hide ho
  have HH := hide (show ((rest S at_).head? == some 92) = false by rw [beq_eq_false_iff_ne]; exact h92)
  have hg : decide ((S.size : Int) ≤ (at_ : Int)) = true := decide_eq_true (by omega)
  clear h h92 ho
  go_enter Tryz.func202, Tryz.ntmps202
  go_wp2_with fail
  refine HK.out.mono ?_
  rintro e w1 ⟨rfl, n1, rfl⟩
  rw [HH.out]
  obtain ⟨c0, c1, c2, f1, f2⟩ := (H.out.drewN n1).cells
  have H1 := hide (H.out.drewN n1)
  have HA := hide ((Ap.refl X w).drewN n1)
  generalize w.drewN n1 = w1 at *
  clear HK HH
  go_wp2_with fail
  generalize w1 = w2 at *
  go_quiet (fail)
  rename Nat => nq1
  have H3 := hide (H1.out.drewN nq1)
  have HA3 := hide (HA.out.drewN nq1)
  clear c0 c1 c2 f1 f2 H1 HA
  obtain ⟨c0, c1, c2, f1, f2⟩ := H3.out.cells
  generalize w2.drewN nq1 = w3 at *
  go_wp2_with fail
  go_ret
  exact ⟨HA3.out.setCell rfl _, 0, at_, rfl, by omega, .inr ⟨HO.out, H3.out.spoil true⟩⟩

set_option maxHeartbeats 1000000 in
theorem oneb_ok (X : Nat) (S : ByteArray) (at_ : Nat) (w : World) (h : ScanAt w X S at_ false)  (h60 : S.size ≤ 60) (h92 : (rest S at_).head? = some 92) (c : UInt8) (s : List UInt8) (hr : rest S (at_ + 1) = c :: s) (hs : isSign c = true) (h1 : 32 ≤ c.toNat) (h2 : c.toNat ≤ 126) (ho : pOne (rest S at_) = some (c, s)) :
    Calls Tryz.prog 202 #[.pointer (some ⟨X, 0, none⟩)] w (OnePost X S at_ w) := by
  have HK := hide (is_any 92 X S at_ false w h)
  have H := hide h
  have HO := hide ho
  obtain ⟨a1, ha1⟩ : ∃ a1 : Nat, a1 = at_ + 1 := ⟨_, rfl⟩
  have HH := hide (show ((rest S at_).head? == some 92) = true by rw [h92]; rfl)
  have HS := hide (fun W => sign_any c W)
  rw [← ha1] at hr
  obtain ⟨hlt, hc, hs'⟩ := rest_eq_cons hr
  have HR := hide hs'
  have hg : decide ((S.size : Int) ≤ (a1 : Int)) = false := by simp; omega
  have hg2 : ¬ S.size ≤ a1 := by omega
  have g1 : decide ((c.toNat : Int) < 32) = false := by simp; omega
  have g2 : decide (126 < (c.toNat : Int)) = false := by simp; omega
  have HSF := hide hs
  clear hs
  clear h hr h92 ho hs'
  have hat : at_ ≤ 60 := by omega
  have ha61 : a1 ≤ 61 := by omega
  have HA1 := hide ha1
  clear ha1
  go_enter Tryz.func202, Tryz.ntmps202
  go_wp2_with fail
  refine HK.out.mono ?_
  rintro e w1 ⟨rfl, n1, rfl⟩
  rw [HH.out]
  obtain ⟨c0, c1, c2, f1, f2⟩ := (H.out.drewN n1).cells
  have H1 := hide (H.out.drewN n1)
  have HA := hide ((Ap.refl X w).drewN n1)
  generalize w.drewN n1 = w1 at *
  clear HK HH
  go_wp2_with fail
  have H2 := hide (show ScanAt (w1.setCell ⟨X, 1, none⟩ (.int .i64 ((at_ : Int) + 1))) X S a1 false by rw [HA1.out]; exact H1.out.move (at_ + 1))
  have HA2 := hide (HA.out.setCell (p := ⟨X, 1, none⟩) rfl (.int .i64 ((at_ : Int) + 1)))
  clear c0 c1 c2 f1 f2 H1 HA
  generalize w1.setCell ⟨X, 1, none⟩ (.int .i64 ((at_ : Int) + 1)) = w2 at *
  have H1 := hide H2.out
  have HA := hide HA2.out
  clear H2 HA2
  obtain ⟨c0, c1, c2, f1, f2⟩ := H1.out.cells
  go_quiet (fail)
  rename Nat => nq1
  have H3 := hide (H1.out.drewN nq1)
  have HA3 := hide (HA.out.drewN nq1)
  clear c0 c1 c2 f1 f2 H1 HA
  obtain ⟨c0, c1, c2, f1, f2⟩ := H3.out.cells
  generalize w2.drewN nq1 = w3 at *
  go_wp2_with fail
  go_quiet (fail)
  rename Nat => nq2
  have H4 := hide (H3.out.drewN nq2)
  have HA4 := hide (HA3.out.drewN nq2)
  clear c0 c1 c2 f1 f2 H3 HA3
  obtain ⟨c0, c1, c2, f1, f2⟩ := H4.out.cells
  generalize w3.drewN nq2 = w4 at *
  go_wp2_with fail
  refine (HS.out _).mono ?_
  rintro e w5 ⟨rfl, rfl⟩
  rw [HSF.out]
  go_wp2_with fail
  go_ret
  exact ⟨HA4.out.setCell rfl _, c, a1 + 1, rfl, by omega, .inl ⟨by rw [HO.out, HR.out], by have := HA1.out; omega, H4.out.move (a1 + 1)⟩⟩

set_option maxHeartbeats 1000000 in
theorem oneb_lo (X : Nat) (S : ByteArray) (at_ : Nat) (w : World) (h : ScanAt w X S at_ false)  (h60 : S.size ≤ 60) (h92 : (rest S at_).head? = some 92) (c : UInt8) (s : List UInt8) (hr : rest S (at_ + 1) = c :: s) (h1 : c.toNat < 32) (ho : pOne (rest S at_) = none) :
    Calls Tryz.prog 202 #[.pointer (some ⟨X, 0, none⟩)] w (OnePost X S at_ w) := by
  have HK := hide (is_any 92 X S at_ false w h)
  have H := hide h
  have HO := hide ho
  obtain ⟨a1, ha1⟩ : ∃ a1 : Nat, a1 = at_ + 1 := ⟨_, rfl⟩
  have HH := hide (show ((rest S at_).head? == some 92) = true by rw [h92]; rfl)
  have HS := hide (fun W => sign_any c W)
  rw [← ha1] at hr
  obtain ⟨hlt, hc, hs'⟩ := rest_eq_cons hr
  have HR := hide hs'
  have hg : decide ((S.size : Int) ≤ (a1 : Int)) = false := by simp; omega
  have hg2 : ¬ S.size ≤ a1 := by omega
  have g1 : decide ((c.toNat : Int) < 32) = true := by simp; omega
  clear h hr h92 ho hs'
  have hat : at_ ≤ 60 := by omega
  have ha61 : a1 ≤ 61 := by omega
  have HA1 := hide ha1
  clear ha1
  go_enter Tryz.func202, Tryz.ntmps202
  go_wp2_with fail
  refine HK.out.mono ?_
  rintro e w1 ⟨rfl, n1, rfl⟩
  rw [HH.out]
  obtain ⟨c0, c1, c2, f1, f2⟩ := (H.out.drewN n1).cells
  have H1 := hide (H.out.drewN n1)
  have HA := hide ((Ap.refl X w).drewN n1)
  generalize w.drewN n1 = w1 at *
  clear HK HH
  go_wp2_with fail
  have H2 := hide (show ScanAt (w1.setCell ⟨X, 1, none⟩ (.int .i64 ((at_ : Int) + 1))) X S a1 false by rw [HA1.out]; exact H1.out.move (at_ + 1))
  have HA2 := hide (HA.out.setCell (p := ⟨X, 1, none⟩) rfl (.int .i64 ((at_ : Int) + 1)))
  clear c0 c1 c2 f1 f2 H1 HA
  generalize w1.setCell ⟨X, 1, none⟩ (.int .i64 ((at_ : Int) + 1)) = w2 at *
  have H1 := hide H2.out
  have HA := hide HA2.out
  clear H2 HA2
  obtain ⟨c0, c1, c2, f1, f2⟩ := H1.out.cells
  go_quiet (fail)
  rename Nat => nq1
  have H3 := hide (H1.out.drewN nq1)
  have HA3 := hide (HA.out.drewN nq1)
  clear c0 c1 c2 f1 f2 H1 HA
  obtain ⟨c0, c1, c2, f1, f2⟩ := H3.out.cells
  generalize w2.drewN nq1 = w3 at *
  go_wp2_with fail
  go_quiet (fail)
  rename Nat => nq2
  have H4 := hide (H3.out.drewN nq2)
  have HA4 := hide (HA3.out.drewN nq2)
  clear c0 c1 c2 f1 f2 H3 HA3
  obtain ⟨c0, c1, c2, f1, f2⟩ := H4.out.cells
  generalize w3.drewN nq2 = w4 at *
  go_wp2_with fail
  refine (HS.out _).mono ?_
  rintro e w5 ⟨rfl, rfl⟩
  go_wp2_with fail
  go_ret
  exact ⟨(HA4.out.setCell rfl _).setCell rfl _, c, a1 + 1, rfl, by omega, .inr ⟨HO.out, (H4.out.spoil true).move (a1 + 1)⟩⟩

set_option maxHeartbeats 1000000 in
theorem oneb_hi (X : Nat) (S : ByteArray) (at_ : Nat) (w : World) (h : ScanAt w X S at_ false)  (h60 : S.size ≤ 60) (h92 : (rest S at_).head? = some 92) (c : UInt8) (s : List UInt8) (hr : rest S (at_ + 1) = c :: s) (h1 : 126 < c.toNat) (ho : pOne (rest S at_) = none) :
    Calls Tryz.prog 202 #[.pointer (some ⟨X, 0, none⟩)] w (OnePost X S at_ w) := by
  have HK := hide (is_any 92 X S at_ false w h)
  have H := hide h
  have HO := hide ho
  obtain ⟨a1, ha1⟩ : ∃ a1 : Nat, a1 = at_ + 1 := ⟨_, rfl⟩
  have HH := hide (show ((rest S at_).head? == some 92) = true by rw [h92]; rfl)
  have HS := hide (fun W => sign_any c W)
  rw [← ha1] at hr
  obtain ⟨hlt, hc, hs'⟩ := rest_eq_cons hr
  have HR := hide hs'
  have hg : decide ((S.size : Int) ≤ (a1 : Int)) = false := by simp; omega
  have hg2 : ¬ S.size ≤ a1 := by omega
  have g1 : decide ((c.toNat : Int) < 32) = false := by simp; omega
  have g2 : decide (126 < (c.toNat : Int)) = true := by simp; omega
  clear h hr h92 ho hs'
  have hat : at_ ≤ 60 := by omega
  have ha61 : a1 ≤ 61 := by omega
  have HA1 := hide ha1
  clear ha1
  go_enter Tryz.func202, Tryz.ntmps202
  go_wp2_with fail
  refine HK.out.mono ?_
  rintro e w1 ⟨rfl, n1, rfl⟩
  rw [HH.out]
  obtain ⟨c0, c1, c2, f1, f2⟩ := (H.out.drewN n1).cells
  have H1 := hide (H.out.drewN n1)
  have HA := hide ((Ap.refl X w).drewN n1)
  generalize w.drewN n1 = w1 at *
  clear HK HH
  go_wp2_with fail
  have H2 := hide (show ScanAt (w1.setCell ⟨X, 1, none⟩ (.int .i64 ((at_ : Int) + 1))) X S a1 false by rw [HA1.out]; exact H1.out.move (at_ + 1))
  have HA2 := hide (HA.out.setCell (p := ⟨X, 1, none⟩) rfl (.int .i64 ((at_ : Int) + 1)))
  clear c0 c1 c2 f1 f2 H1 HA
  generalize w1.setCell ⟨X, 1, none⟩ (.int .i64 ((at_ : Int) + 1)) = w2 at *
  have H1 := hide H2.out
  have HA := hide HA2.out
  clear H2 HA2
  obtain ⟨c0, c1, c2, f1, f2⟩ := H1.out.cells
  go_quiet (fail)
  rename Nat => nq1
  have H3 := hide (H1.out.drewN nq1)
  have HA3 := hide (HA.out.drewN nq1)
  clear c0 c1 c2 f1 f2 H1 HA
  obtain ⟨c0, c1, c2, f1, f2⟩ := H3.out.cells
  generalize w2.drewN nq1 = w3 at *
  go_wp2_with fail
  go_quiet (fail)
  rename Nat => nq2
  have H4 := hide (H3.out.drewN nq2)
  have HA4 := hide (HA3.out.drewN nq2)
  clear c0 c1 c2 f1 f2 H3 HA3
  obtain ⟨c0, c1, c2, f1, f2⟩ := H4.out.cells
  generalize w3.drewN nq2 = w4 at *
  go_wp2_with fail
  refine (HS.out _).mono ?_
  rintro e w5 ⟨rfl, rfl⟩
  go_wp2_with fail
  go_ret
  exact ⟨(HA4.out.setCell rfl _).setCell rfl _, c, a1 + 1, rfl, by omega, .inr ⟨HO.out, (H4.out.spoil true).move (a1 + 1)⟩⟩

set_option maxHeartbeats 1000000 in
theorem oneb_mis (X : Nat) (S : ByteArray) (at_ : Nat) (w : World) (h : ScanAt w X S at_ false)  (h60 : S.size ≤ 60) (h92 : (rest S at_).head? = some 92) (c : UInt8) (s : List UInt8) (hr : rest S (at_ + 1) = c :: s) (hs : isSign c = false) (h1 : 32 ≤ c.toNat) (h2 : c.toNat ≤ 126) (ho : pOne (rest S at_) = none) :
    Calls Tryz.prog 202 #[.pointer (some ⟨X, 0, none⟩)] w (OnePost X S at_ w) := by
  have HK := hide (is_any 92 X S at_ false w h)
  have H := hide h
  have HO := hide ho
  obtain ⟨a1, ha1⟩ : ∃ a1 : Nat, a1 = at_ + 1 := ⟨_, rfl⟩
  have HH := hide (show ((rest S at_).head? == some 92) = true by rw [h92]; rfl)
  have HS := hide (fun W => sign_any c W)
  rw [← ha1] at hr
  obtain ⟨hlt, hc, hs'⟩ := rest_eq_cons hr
  have HR := hide hs'
  have hg : decide ((S.size : Int) ≤ (a1 : Int)) = false := by simp; omega
  have hg2 : ¬ S.size ≤ a1 := by omega
  have g1 : decide ((c.toNat : Int) < 32) = false := by simp; omega
  have g2 : decide (126 < (c.toNat : Int)) = false := by simp; omega
  have HSF := hide hs
  clear hs
  clear h hr h92 ho hs'
  have hat : at_ ≤ 60 := by omega
  have ha61 : a1 ≤ 61 := by omega
  have HA1 := hide ha1
  clear ha1
  go_enter Tryz.func202, Tryz.ntmps202
  go_wp2_with fail
  refine HK.out.mono ?_
  rintro e w1 ⟨rfl, n1, rfl⟩
  rw [HH.out]
  obtain ⟨c0, c1, c2, f1, f2⟩ := (H.out.drewN n1).cells
  have H1 := hide (H.out.drewN n1)
  have HA := hide ((Ap.refl X w).drewN n1)
  generalize w.drewN n1 = w1 at *
  clear HK HH
  go_wp2_with fail
  have H2 := hide (show ScanAt (w1.setCell ⟨X, 1, none⟩ (.int .i64 ((at_ : Int) + 1))) X S a1 false by rw [HA1.out]; exact H1.out.move (at_ + 1))
  have HA2 := hide (HA.out.setCell (p := ⟨X, 1, none⟩) rfl (.int .i64 ((at_ : Int) + 1)))
  clear c0 c1 c2 f1 f2 H1 HA
  generalize w1.setCell ⟨X, 1, none⟩ (.int .i64 ((at_ : Int) + 1)) = w2 at *
  have H1 := hide H2.out
  have HA := hide HA2.out
  clear H2 HA2
  obtain ⟨c0, c1, c2, f1, f2⟩ := H1.out.cells
  go_quiet (fail)
  rename Nat => nq1
  have H3 := hide (H1.out.drewN nq1)
  have HA3 := hide (HA.out.drewN nq1)
  clear c0 c1 c2 f1 f2 H1 HA
  obtain ⟨c0, c1, c2, f1, f2⟩ := H3.out.cells
  generalize w2.drewN nq1 = w3 at *
  go_wp2_with fail
  go_quiet (fail)
  rename Nat => nq2
  have H4 := hide (H3.out.drewN nq2)
  have HA4 := hide (HA3.out.drewN nq2)
  clear c0 c1 c2 f1 f2 H3 HA3
  obtain ⟨c0, c1, c2, f1, f2⟩ := H4.out.cells
  generalize w3.drewN nq2 = w4 at *
  go_wp2_with fail
  refine (HS.out _).mono ?_
  rintro e w5 ⟨rfl, rfl⟩
  rw [HSF.out]
  go_wp2_with fail
  go_ret
  exact ⟨(HA4.out.setCell rfl _).setCell rfl _, c, a1 + 1, rfl, by omega, .inr ⟨HO.out, (H4.out.spoil true).move (a1 + 1)⟩⟩

set_option maxHeartbeats 1000000 in
theorem oneb_end (X : Nat) (S : ByteArray) (at_ : Nat) (w : World) (h : ScanAt w X S at_ false)  (h60 : S.size ≤ 60) (h92 : (rest S at_).head? = some 92) (hend : (at_ + 1) = S.size) (ho : pOne (rest S at_) = none) :
    Calls Tryz.prog 202 #[.pointer (some ⟨X, 0, none⟩)] w (OnePost X S at_ w) := by
  have HK := hide (is_any 92 X S at_ false w h)
  have H := hide h
  have HO := hide ho
  obtain ⟨a1, ha1⟩ : ∃ a1 : Nat, a1 = at_ + 1 := ⟨_, rfl⟩
  have HH := hide (show ((rest S at_).head? == some 92) = true by rw [h92]; rfl)
  have hg : decide ((S.size : Int) ≤ (a1 : Int)) = true := decide_eq_true (by omega)
  have hge : S.size ≤ a1 := by omega
  clear h h92 ho
  have hat : at_ ≤ 60 := by omega
  have ha61 : a1 ≤ 61 := by omega
  have HA1 := hide ha1
  clear ha1
  go_enter Tryz.func202, Tryz.ntmps202
  go_wp2_with fail
  refine HK.out.mono ?_
  rintro e w1 ⟨rfl, n1, rfl⟩
  rw [HH.out]
  obtain ⟨c0, c1, c2, f1, f2⟩ := (H.out.drewN n1).cells
  have H1 := hide (H.out.drewN n1)
  have HA := hide ((Ap.refl X w).drewN n1)
  generalize w.drewN n1 = w1 at *
  clear HK HH
  go_wp2_with fail
  have H2 := hide (show ScanAt (w1.setCell ⟨X, 1, none⟩ (.int .i64 ((at_ : Int) + 1))) X S a1 false by rw [HA1.out]; exact H1.out.move (at_ + 1))
  have HA2 := hide (HA.out.setCell (p := ⟨X, 1, none⟩) rfl (.int .i64 ((at_ : Int) + 1)))
  clear c0 c1 c2 f1 f2 H1 HA
  generalize w1.setCell ⟨X, 1, none⟩ (.int .i64 ((at_ : Int) + 1)) = w2 at *
  have H1 := hide H2.out
  have HA := hide HA2.out
  clear H2 HA2
  obtain ⟨c0, c1, c2, f1, f2⟩ := H1.out.cells
  go_quiet (fail)
  rename Nat => nq1
  have H3 := hide (H1.out.drewN nq1)
  have HA3 := hide (HA.out.drewN nq1)
  clear c0 c1 c2 f1 f2 H1 HA
  obtain ⟨c0, c1, c2, f1, f2⟩ := H3.out.cells
  generalize w2.drewN nq1 = w3 at *
  go_wp2_with fail
  go_ret
  exact ⟨HA3.out.setCell rfl _, 0, a1, rfl, by have := HA1.out; omega, .inr ⟨HO.out, H3.out.spoil true⟩⟩

theorem one_any (X : Nat) (S : ByteArray) (at_ : Nat) (w : World) (h : ScanAt w X S at_ false) (h60 : S.size ≤ 60) (hle : at_ ≤ S.size) :
    Calls Tryz.prog 202 #[.pointer (some ⟨X, 0, none⟩)] w (OnePost X S at_ w) := by
  rcases Nat.lt_or_ge at_ S.size with hlt | hge
  · have hr := rest_cons hlt
    generalize S[at_] = c at hr
    by_cases h92 : c = 92
    · subst h92
      have hh : (rest S at_).head? = some 92 := by rw [hr]; rfl
      rcases Nat.lt_or_ge (at_ + 1) S.size with hlt2 | hge2
      · have hr2 := rest_cons hlt2
        generalize S[at_ + 1] = d at hr2
        by_cases hs : isSign d = true
        · obtain ⟨h1, h2⟩ := sign_range d hs
          exact oneb_ok X S at_ w h h60 hh d _ hr2 hs h1 h2 (by rw [hr, hr2]; simp [pOne, hs])
        · have ho : pOne (rest S at_) = none := by rw [hr, hr2]; simp [pOne, hs]
          by_cases hlo : d.toNat < 32
          · exact oneb_lo X S at_ w h h60 hh d _ hr2 hlo ho
          · by_cases hhi : 126 < d.toNat
            · exact oneb_hi X S at_ w h h60 hh d _ hr2 hhi ho
            · exact oneb_mis X S at_ w h h60 hh d _ hr2 (by simpa using hs) (by omega) (by omega) ho
      · exact oneb_end X S at_ w h h60 hh (by omega) (by rw [hr, rest_nil hge2]; simp [pOne])
    · have hh : (rest S at_).head? ≠ some 92 := by rw [hr]; simpa using h92
      by_cases hlo : c.toNat < 32
      · have hns : isSign c = false := by
          rw [Bool.eq_false_iff]; intro hs; have := sign_range c hs; omega
        exact one_lo X S at_ w h h60 hh c _ hr hlo (by rw [hr]; simp [pOne, h92, hns]; omega)
      · by_cases hhi : 126 < c.toNat
        · have hns : isSign c = false := by
            rw [Bool.eq_false_iff]; intro hs; have := sign_range c hs; omega
          exact one_hi X S at_ w h h60 hh c _ hr hhi (by rw [hr]; simp [pOne, h92, hns]; omega)
        · by_cases hs : isSign c = true
          · exact one_mis X S at_ w h h60 hh c _ hr hs (by omega) (by omega) (by rw [hr]; simp [pOne, h92, hs])
          · exact one_ok X S at_ w h h60 hh c _ hr (by simpa using hs) (by omega) (by omega) (by rw [hr]; simp [pOne, h92, hs]; omega)
  · exact one_end X S at_ w h (by omega) (by rw [rest_nil hge]; simp) (by omega) (by rw [rest_nil hge]; rfl)
end Go.Proofs.YtgncgdkpkkdaeaaGreatDoor.Ref

namespace Go.Proofs.YtgncgdkpkkdaeaaGreatDoor.Ref
open Go.RowKit Tint

def bools (on : List Bool) : Array Value := (on.map Value.bool).toArray
def noBools : List Bool := List.replicate 256 false

theorem make_bools (w : World) : (Instr.makeSlice 201 (.int .i64 256) (.int .i64 256)).run Tryz.prog w = .ok (.slice (some ⟨w.heap.size, 0, none⟩) 256 256) (w.alloc (.cells (bools noBools) 4)) := by
  obtain ⟨i, hi, h0, h1, h2⟩ := info_parts (show (Tryz.prog.info? 4).map (fun i => (i.zero, i.size, i.bytes)) = some (some (.bool false), 1, 1) by kernel_rfl)
  rw [run_make w 201 4 i (.bool false) Tryz.underlying201 hi h0 .i64 .i64 256 256 (by decide) (by decide) (by rw [h2]; decide) (by decide)]
  have : madeCells (Value.bool false).cells ((256 : Int).toNat * i.size) = bools noBools := by
    rw [h1]
    apply Array.toList_inj.1
    show (madeCells #[.bool false] 256).toList = _
    rw [toList_madeCells_one]
    unfold bools noBools
    rw [List.map_replicate]
  rw [this]
  rfl

/-- A class's bytes, at block A. -/
def OnAt (w : World) (A : Nat) (on : List Bool) : Prop := w.heap[A]? = some (.cells (bools on) 4 (0, 0)) ∧ on.length = 256
/-- A node, at block p. -/
def NodeBlk (w : World) (p : Nat) (kind : Nat) (onv lv : Value) : Prop := w.heap[p]? = some (.cells #[.int .u8 kind, onv, lv] 267 (0, 0))


/-- While a class is read: the scanner, the node, its bytes. -/
structure Cs (X : Nat) (S : ByteArray) (w : World) (A nb : Nat) (wr : World) (a1 : Nat) (bad : Bool) (on : List Bool) : Prop where
  ap : Ap X w wr
  scan : ScanAt wr X S a1 bad
  node : NodeBlk wr nb 99 (.slice (some ⟨A, 0, none⟩) 256 256) (.slice none 0 0)
  ona : OnAt wr A on
  hA : w.heap.size ≤ A
  hnb : w.heap.size ≤ nb
  hAn : A ≠ nb
  hX : X < w.heap.size

section
variable {X : Nat} {S : ByteArray} {w : World} {A nb : Nat} {wr : World} {a1 : Nat} {bad : Bool} {on : List Bool}

theorem Cs.step (h : Cs X S w A nb wr a1 bad on) {wr' : World} {a2 : Nat} {bad2 : Bool} (hap : Ap X wr wr') (hs : ScanAt wr' X S a2 bad2) : Cs X S w A nb wr' a2 bad2 on :=
  have hx := h.hX
  have ha := h.hA
  have hn := h.hnb
  ⟨h.ap.trans hap, hs, (hap.keep nb (lt_of_get h.node) (by omega)).trans h.node, ⟨(hap.keep A (lt_of_get h.ona.1) (by omega)).trans h.ona.1, h.ona.2⟩, h.hA, h.hnb, h.hAn, h.hX⟩
theorem Cs.drewN (h : Cs X S w A nb wr a1 bad on) (n : Nat) : Cs X S w A nb (wr.drewN n) a1 bad on := h.step ((Ap.refl _ _).drewN n) (h.scan.drewN n)
theorem Cs.drew (h : Cs X S w A nb wr a1 bad on) : Cs X S w A nb wr.drew a1 bad on := ⟨⟨h.ap.os, h.ap.tape, h.ap.output, h.ap.size, h.ap.keep⟩, h.scan, h.node, h.ona, h.hA, h.hnb, h.hAn, h.hX⟩
theorem Cs.move (h : Cs X S w A nb wr a1 bad on) (m : Nat) : Cs X S w A nb (wr.setCell ⟨X, 1, none⟩ (.int .i64 m)) m bad on := h.step ((Ap.refl X wr).setCell (p := ⟨X, 1, none⟩) rfl _) (h.scan.move m)
theorem Cs.spoil (h : Cs X S w A nb wr a1 bad on) (b : Bool) : Cs X S w A nb (wr.setCell ⟨X, 2, none⟩ (.bool b)) a1 b on := h.step ((Ap.refl X wr).setCell (p := ⟨X, 2, none⟩) rfl _) (h.scan.spoil b)
theorem Cs.put (h : Cs X S w A nb wr a1 bad on) (j : Nat) (b : Bool) : Cs X S w A nb (wr.setCell ⟨A, j, none⟩ (.bool b)) a1 bad (on.set j b) := by
  have hx := h.hX
  have ha := h.hA
  have hn := h.hnb
  refine ⟨h.ap.setCell_new ha _, ?_, ?_, ⟨?_, by rw [List.length_set]; exact h.ona.2⟩, ha, hn, h.hAn, hx⟩
  · exact (Below.heap_setCell _ _ _ _ (by show X ≠ A; omega)).trans h.scan
  · exact (Below.heap_setCell _ _ _ _ (by show nb ≠ A; exact h.hAn.symm)).trans h.node
  · rw [heap_setCell_same wr A j _ h.ona.1]
    congr 2
    unfold bools
    rw [List.setIfInBounds_toArray, List.map_set]

theorem Cs.cells (h : Cs X S w A nb wr a1 bad on) : wr.cell? ⟨X, 0, none⟩ = some (.string S) ∧ wr.cell? ⟨X, 1, none⟩ = some (.int .i64 a1) ∧ wr.cell? ⟨X, 2, none⟩ = some (.bool bad) ∧ wr.frozen? ⟨X, 1, none⟩ = false ∧ wr.frozen? ⟨X, 2, none⟩ = false ∧
    wr.cell? ⟨nb, 1, none⟩ = some (.slice (some ⟨A, 0, none⟩) 256 256) := by
  obtain ⟨h1, h2, h3, h4, h5⟩ := h.scan.cells
  refine ⟨h1, h2, h3, h4, h5, ?_⟩
  have hn := h.node
  unfold NodeBlk at hn
  simp [World.cell?, hn]

theorem Cs.bit (h : Cs X S w A nb wr a1 bad on) {j : Nat} {b : Bool} (hj : on[j]? = some b) : wr.cell? ⟨A, j, none⟩ = some (.bool b) ∧ wr.frozen? ⟨A, j, none⟩ = false := by
  have hn := h.ona.1
  refine ⟨?_, by simp [World.frozen?, hn]⟩
  simp [World.cell?, hn, bools, hj]
end

theorem Cs.start {X : Nat} {S : ByteArray} {w : World} {a1 : Nat} (h : ScanAt w X S a1 false) :
    Cs X S w w.heap.size (w.heap.size + 1) ((w.alloc (.cells (bools noBools) 4)).alloc (.cells #[.int .u8 99, .slice (some ⟨w.heap.size, 0, none⟩) 256 256, .slice none 0 0] 267)) a1 false noBools := by
  refine ⟨((Ap.refl _ _).alloc _).alloc _, (h.alloc _).alloc _, ?_, ⟨heap_alloc_old (heap_alloc_last _ _), by unfold noBools; rw [List.length_replicate]⟩, Nat.le_refl _, by omega, by omega, h.lt⟩
  have := heap_alloc_last (w.alloc (.cells (bools noBools) 4)) (.cells #[.int .u8 99, .slice (some ⟨w.heap.size, 0, none⟩) 256 256, .slice none 0 0] 267)
  simpa [NodeBlk] using this

/-! ## The bytes of a class -/

def Tbl (on : List Bool) (c : Cls) : Prop := ∀ b : UInt8, on[b.toNat]? = some (c.has b)

def PBody (s : List UInt8) (o : Option (Cls × List UInt8)) : Prop := (pRange s = none ∧ o = none) ∨ ∃ c s', pRange s = some (c, s') ∧ PRs c s' o

theorem PBody.pos {s : List UInt8} {o : Option (Cls × List UInt8)} (h : PBody s o) (hn : s.head? ≠ some 94) : PClass s o := by
  rcases h with ⟨h1, rfl⟩ | ⟨c, s', h1, h2⟩
  · exact .posBad hn h1
  · exact .pos hn h1 h2
theorem PBody.neg {s : List UInt8} {o : Option (Cls × List UInt8)} (h : PBody s o) : PClass (94 :: s) (o.map fun p => (.compl p.1, p.2)) := by
  rcases h with ⟨h1, rfl⟩ | ⟨c, s', h1, h2⟩
  · exact .negBad h1
  · exact .neg h1 h2

theorem pRange_none {s : List UInt8} (h : pOne s = none) : pRange s = none := by simp [pRange, h]
theorem pRange_plain {s s1 : List UInt8} {lo : UInt8} (h : pOne s = some (lo, s1)) (h45 : s1.head? ≠ some 45) : pRange s = some (.range lo lo, s1) := by
  cases s1 with
  | nil => simp [pRange, h]
  | cons c s2 =>
    have : c ≠ 45 := fun e => h45 (by rw [e]; rfl)
    simp [pRange, h, this]
theorem pRange_dash_none {s s1 s2 : List UInt8} {lo : UInt8} (h : pOne s = some (lo, s1)) (h1 : s1 = 45 :: s2) (h2 : pOne s2 = none) : pRange s = none := by
  subst h1; simp [pRange, h, h2]
theorem pRange_dash {s s1 s2 s3 : List UInt8} {lo hi : UInt8} (h : pOne s = some (lo, s1)) (h1 : s1 = 45 :: s2) (h2 : pOne s2 = some (hi, s3)) (hl : ¬ hi.toNat < lo.toNat) : pRange s = some (.range lo hi, s3) := by
  subst h1; simp [pRange, h, h2]; omega
theorem pRange_rev {s s1 s2 s3 : List UInt8} {lo hi : UInt8} (h : pOne s = some (lo, s1)) (h1 : s1 = 45 :: s2) (h2 : pOne s2 = some (hi, s3)) (hl : hi.toNat < lo.toNat) : pRange s = none := by
  subst h1; simp [pRange, h, h2]; omega

theorem rest_head {S : ByteArray} {a : Nat} {c : UInt8} (h : (rest S a).head? = some c) : a < S.size ∧ rest S a = c :: rest S (a + 1) := by
  rcases Nat.lt_or_ge a S.size with hl | hl
  · refine ⟨hl, ?_⟩
    have := rest_cons hl
    rw [this] at h ⊢
    simp only [List.head?_cons, Option.some.injEq] at h
    rw [h]
  · rw [rest_nil hl] at h; cases h

/-- So far: nothing, or a class. -/
def Sofar (s0 : List UInt8) (i : Nat) (on : List Bool) (s : List UInt8) : Prop :=
  (i = 0 ∧ on = noBools ∧ s0 = s) ∨ (0 < i ∧ ∃ c, Tbl on c ∧ ∀ o, PRs c s o → PBody s0 o)

theorem noBools_get {j : Nat} (h : j < 256) : noBools[j]? = some false := by
  unfold noBools
  rw [List.getElem?_replicate, if_pos h]

theorem Sofar.bad {s0 s : List UInt8} {i : Nat} {on : List Bool} (h : Sofar s0 i on s) (hr : pRange s = none) (h93 : 0 < i → s.head? ≠ some 93) : PBody s0 none := by
  rcases h with ⟨_, _, rfl⟩ | ⟨hi, c, _, h2⟩
  · exact .inl ⟨hr, rfl⟩
  · exact h2 _ (.bad (h93 hi) hr)

theorem Sofar.more {s0 s s' : List UInt8} {i : Nat} {on on' : List Bool} {lo hi : UInt8} (h : Sofar s0 i on s) (hr : pRange s = some (.range lo hi, s')) (h93 : 0 < i → s.head? ≠ some 93)
    (hon : ∀ j, j < 256 → on'[j]? = (on[j]?).map (fun x => x || decide (lo.toNat ≤ j ∧ j ≤ hi.toNat))) : Sofar s0 (i + 1) on' s' := by
  right
  refine ⟨by omega, ?_⟩
  have hb : ∀ b : UInt8, b.toNat < 256 := fun b => b.toNat_lt
  rcases h with ⟨_, rfl, rfl⟩ | ⟨h0, c, h1, h2⟩
  · refine ⟨.range lo hi, fun b => ?_, fun o ho => .inr ⟨_, _, hr, ho⟩⟩
    rw [hon _ (hb b), noBools_get (hb b)]
    simp [Cls.has]
  · refine ⟨.union c (.range lo hi), fun b => ?_, fun o ho => h2 o (.more (h93 h0) hr ho)⟩
    rw [hon _ (hb b), h1 b]
    simp [Cls.has]

theorem Sofar.stop {s0 s : List UInt8} {i : Nat} {on : List Bool} (h : Sofar s0 i on (93 :: s)) (hi : 0 < i) : ∃ c, Tbl on c ∧ PBody s0 (some (c, s)) := by
  rcases h with ⟨h0, _⟩ | ⟨_, c, h1, h2⟩
  · omega
  · exact ⟨c, h1, h2 _ .stop⟩

/-- The end of a class's first loop. -/
def ClsEnd (s0 : List UInt8) (S : ByteArray) (a1 : Nat) (bad : Bool) (on : List Bool) : Prop := (bad = false ∧ ∃ c, Tbl on c ∧ PBody s0 (some (c, rest S a1))) ∨ (bad = true ∧ PBody s0 none)

def ClsLoop (X : Nat) (S : ByteArray) (w : World) (A nb : Nat) (s0 : List UInt8) (k : Nat) (vk : Value) (wr : World) : Prop :=
  ∃ (on : List Bool) (i a1 : Nat) (bad : Bool), vk = .int .i64 i ∧ a1 ≤ S.size ∧ Cs X S w A nb wr a1 bad on ∧ ((bad = false ∧ i ≤ a1 ∧ k = 1 + (S.size - a1) ∧ Sofar s0 i on (rest S a1)) ∨ (bad = true ∧ k = 0 ∧ PBody s0 none))

/-- A range is laid. -/
def FillLoop (X : Nat) (S : ByteArray) (w : World) (A nb : Nat) (a2 lo hi : Nat) (on : List Bool) (k : Nat) (vc : Value) (wr : World) : Prop :=
  ∃ (on' : List Bool) (j : Nat), vc = .int .i64 j ∧ lo ≤ j ∧ j + k = hi + 1 ∧ Cs X S w A nb wr a2 false on' ∧ ∀ m, m < 256 → on'[m]? = (on[m]?).map (fun x => x || decide (lo ≤ m ∧ m < j))

/-- All is turned. -/
def TurnLoop (X : Nat) (S : ByteArray) (w : World) (A nb : Nat) (a2 : Nat) (bad : Bool) (on : List Bool) (k : Nat) (vc : Value) (wr : World) : Prop :=
  ∃ (on' : List Bool) (j : Nat), vc = .int .i64 j ∧ j + k = 256 ∧ Cs X S w A nb wr a2 bad on' ∧ ∀ m, m < 256 → on'[m]? = (on[m]?).map (fun x => if m < j then !x else x)
end Go.Proofs.YtgncgdkpkkdaeaaGreatDoor.Ref

namespace Go.Proofs.YtgncgdkpkkdaeaaGreatDoor.Ref
open Go.RowKit Tint

def ClassPost (X : Nat) (S : ByteArray) (at_ : Nat) (w : World) (e : Ending) (w' : World) : Prop :=
  ∃ (A nb a1 : Nat) (bad : Bool) (on : List Bool), e = .returned (.pointer (some ⟨nb, 0, none⟩)) ∧ a1 ≤ S.size ∧ Cs X S w A nb w' a1 bad on ∧ ((bad = false ∧ ∃ c, Tbl on c ∧ PClass (rest S at_) (some (c, rest S a1))) ∨ (bad = true ∧ PClass (rest S at_) none))

theorem turn_zero (m : Nat) (o : Option Bool) : o = o.map (fun x => if m < 0 then !x else x) := by cases o <;> simp
theorem fill_zero (m lo : Nat) (o : Option Bool) : o = o.map (fun x => x || decide (lo ≤ m ∧ m < lo)) := by
  have : decide (lo ≤ m ∧ m < lo) = false := by simp
  cases o <;> simp [this]
theorem turn_step {on on2 : List Bool} {m j : Nat} {b : Bool} (hm : m < 256) (hb : on2[j]? = some b) (h : on2[m]? = (on[m]?).map (fun x => if m < j then !x else x)) : (on2.set j (!b))[m]? = (on[m]?).map (fun x => if m < j + 1 then !x else x) := by
  rw [List.getElem?_set]
  have hj : j < on2.length := (List.getElem?_eq_some_iff.1 hb).1
  by_cases hjm : j = m
  · subst hjm
    rw [if_pos rfl, if_pos hj]
    rw [hb] at h
    cases ho : on[j]? with
    | none => rw [ho] at h; cases h
    | some x => rw [ho] at h; simp at h; simp [h]
  · rw [if_neg hjm, h]
    have : (m < j + 1) ↔ m < j := by omega
    simp [this]
theorem turned {on on2 : List Bool} {c : Cls} (h : Tbl on c) (h2 : ∀ m, m < 256 → on2[m]? = (on[m]?).map (fun x => if m < 256 then !x else x)) : Tbl on2 (.compl c) := fun b => by
  have hb : b.toNat < 256 := b.toNat_lt
  rw [h2 _ hb, h b]
  simp [hb, Cls.has]
theorem fill_step {on on2 : List Bool} {m j lo : Nat} {b : Bool} (hm : m < 256) (hl : lo ≤ j) (hb : on2[j]? = some b) (h : on2[m]? = (on[m]?).map (fun x => x || decide (lo ≤ m ∧ m < j))) : (on2.set j true)[m]? = (on[m]?).map (fun x => x || decide (lo ≤ m ∧ m < j + 1)) := by
  rw [List.getElem?_set]
  have hj : j < on2.length := (List.getElem?_eq_some_iff.1 hb).1
  by_cases hjm : j = m
  · subst hjm
    rw [if_pos rfl, if_pos hj]
    rw [hb] at h
    cases ho : on[j]? with
    | none => rw [ho] at h; cases h
    | some x => simp [hl]
  · rw [if_neg hjm, h]
    have : (lo ≤ m ∧ m < j + 1) ↔ (lo ≤ m ∧ m < j) := by omega
    simp only [this]

set_option maxRecDepth 20000 in
set_option maxHeartbeats 4000000 in
theorem class_any (X : Nat) (S : ByteArray) (at_ : Nat) (w : World) (h : ScanAt w X S at_ false) (h60 : S.size ≤ 60) (hle : at_ ≤ S.size) :
    Calls Tryz.prog 201 #[.pointer (some ⟨X, 0, none⟩)] w (ClassPost X S at_ w) := by
  have hmk := make_bools w
  have H0 := hide (Cs.start h)
  clear h
  go_enter Tryz.func201, Tryz.ntmps201
  go_wp2_with fail
  obtain ⟨nb, hnb⟩ : ∃ nb, nb = w.heap.size + 1 := ⟨_, rfl⟩
  obtain ⟨A, hA⟩ : ∃ A, A = w.heap.size := ⟨_, rfl⟩
  rw [← hnb, ← hA]
  have H1 := hide (show Cs X S w A nb ((w.alloc (.cells (bools noBools) 4)).alloc (.cells #[.int .u8 99, .slice (some ⟨A, 0, none⟩) 256 256, .slice none 0 0] 267)) at_ false noBools by rw [hnb, hA]; exact H0.out)
  clear H0 hmk hnb hA
  generalize (w.alloc (.cells (bools noBools) 4)).alloc (.cells #[.int .u8 99, .slice (some ⟨A, 0, none⟩) 256 256, .slice none 0 0] 267) = w1 at *
  refine (is_any 94 X S at_ false w1 H1.out.scan).mono ?_
  rintro e w2 ⟨rfl, n1, rfl⟩
  have H2 := hide (H1.out.drewN n1)
  clear H1
  generalize w1.drewN n1 = w2 at *
  by_cases hneg : (rest S at_).head? = some 94
  · have hv : ((rest S at_).head? == some 94) = true := by rw [hneg]; rfl
    rw [hv]
    obtain ⟨hlt, hr⟩ : at_ < S.size ∧ rest S at_ = 94 :: rest S (at_ + 1) := by
      rcases Nat.lt_or_ge at_ S.size with h | h
      · refine ⟨h, ?_⟩
        have := rest_cons h
        rw [this] at hneg ⊢
        simp only [List.head?_cons, Option.some.injEq] at hneg
        rw [hneg]
      · rw [rest_nil h] at hneg; cases hneg
    obtain ⟨a0, ha0⟩ : ∃ a0, a0 = at_ + 1 := ⟨_, rfl⟩
    have HS0 := hide (show rest S at_ = 94 :: rest S a0 by rw [ha0]; exact hr)
    have ha0le : a0 ≤ S.size := by omega
    have HA0 := hide ha0
    have hat60 : at_ ≤ 60 := by omega
    obtain ⟨c0, c1, c2, f1, f2, c3⟩ := H2.out.cells
    clear hr hneg hv ha0 hlt
    go_wp2_with fail
    have H3 := hide (show Cs X S w A nb (w2.setCell ⟨X, 1, none⟩ (.int .i64 ((at_ : Int) + 1))) a0 false noBools by rw [HA0.out]; exact H2.out.move (at_ + 1))
    clear H2 c0 c1 c2 f1 f2 c3
    generalize w2.setCell ⟨X, 1, none⟩ (.int .i64 ((at_ : Int) + 1)) = w2 at *
    go_loopg [5] (1 + (S.size - a0)) (fun k vk wr => ClsLoop X S w A nb (rest S a0) k vk wr)
    case atStart => exact ⟨noBools, 0, a0, false, rfl, ha0le, H3.out, .inl ⟨rfl, Nat.zero_le _, rfl, .inl ⟨rfl, rfl, rfl⟩⟩⟩
    case round =>
      obtain ⟨on, i, a1, bad, rfl, ha1, hcs, ⟨rfl, hia, hk, hso⟩ | ⟨rfl, hk, hpb⟩⟩ := hrel
      · have HCS := hide hcs
        have HSO := hide hso
        have HK := hide hk
        obtain ⟨c0, c1, c2, f1, f2, c3⟩ := HCS.out.cells
        clear hcs hso hk
        go_wp2_with fail
        refine (is_any 93 X S a1 false wr HCS.out.scan).mono ?_
        rintro e w3 ⟨rfl, n3, rfl⟩
        have HCS3 := hide (HCS.out.drewN n3)
        clear HCS c0 c1 c2 f1 f2 c3
        generalize wr.drewN n3 = w3 at *
        obtain ⟨c0, c1, c2, f1, f2, c3⟩ := HCS3.out.cells
        by_cases h93 : (rest S a1).head? = some 93
        · have hv93 : ((rest S a1).head? == some 93) = true := by rw [h93]; rfl
          rw [hv93]
          by_cases hi0 : 0 < i
          · have g0 : decide (0 < (i : Int)) = true := by simp; omega
            obtain ⟨hlt2, hr2⟩ := rest_head h93
            obtain ⟨a3, ha3⟩ : ∃ a3, a3 = a1 + 1 := ⟨_, rfl⟩
            have HSS := hide (Sofar.stop (s := rest S a3) (by rw [ha3, ← hr2]; exact HSO.out) hi0)
            have ha3le : a3 ≤ S.size := by omega
            have HA3 := hide ha3
            have ha160 : a1 ≤ 60 := by omega
            clear hv93 h93 hr2 ha3 HSO
            go_wp2_with fail
            have HCS6 := hide (show Cs X S w A nb (w3.setCell ⟨X, 1, none⟩ (.int .i64 ((a1 : Int) + 1))) a3 false on by rw [HA3.out]; exact HCS3.out.move (a1 + 1))
            clear HCS3 c0 c1 c2 f1 f2 c3
            generalize w3.setCell ⟨X, 1, none⟩ (.int .i64 ((a1 : Int) + 1)) = w6 at *
            obtain ⟨cc, hcc1, hcc2⟩ := HSS.out
            have HC1 := hide hcc1
            have HC2 := hide hcc2
            clear hcc1 hcc2 HSS
            go_loopg [11] 256 (fun k vc wr' => TurnLoop X S w A nb a3 false on k vc wr')
            case atStart => exact ⟨on, 0, rfl, rfl, HCS6.out, fun m _ => turn_zero m _⟩
            case round =>
              obtain ⟨on2, j, rfl, hj, hcs2, hon2⟩ := hrel
              have HCS2 := hide hcs2
              have HON2 := hide hon2
              clear hcs2 hon2
              cases gk with
              | zero =>
                obtain rfl : j = 256 := by omega
                go_wp2_with fail
                go_ret
                exact ⟨A, nb, a3, false, on2, rfl, ha3le, HCS2.out, .inl ⟨rfl, ⟨.compl cc, turned HC1.out HON2.out, (by rw [HS0.out]; exact PBody.neg HC2.out)⟩⟩⟩
              | succ k =>
                have hj2 : j < 256 := by omega
                have hjg : decide ((j : Int) < 256) = true := by simp; omega
                obtain ⟨b2, hb2⟩ : ∃ b2, on2[j]? = some b2 := ⟨_, List.getElem?_eq_getElem (by rw [HCS2.out.ona.2]; exact hj2)⟩
                obtain ⟨c0, c1, c2, f1, f2, c3⟩ := HCS2.out.cells
                obtain ⟨o1, o2⟩ := HCS2.out.bit hb2
                have HB2 := hide hb2
                clear hb2
                go_wp2_with fail
                go_region
                go_wp2_with fail
                go_roundg k
                case measure => omega
                case rel => exact ⟨on2.set j (!b2), j + 1, rfl, by omega, (HCS2.out.put j (!b2)).drew, fun m hm => turn_step hm HB2.out (HON2.out m hm)⟩
          · obtain rfl : i = 0 := by omega
            have H93 := hide (show 0 < 0 → (rest S a1).head? ≠ some 93 from fun h => absurd h (Nat.lt_irrefl _))
            clear hv93 h93 hi0
            go_wp2_with fail
            refine (one_any X S a1 w3 HCS3.out.scan h60 ha1).mono ?_
            rintro e w4 ⟨hap, lo, a2, rfl, ha2, ⟨hp, hlt, hsc⟩ | ⟨hp, hsc⟩⟩
            · have hlo256 : lo.toNat < 256 := lo.toNat_lt
              have HCS4 := hide (HCS3.out.step hap hsc)
              have HP1 := hide hp
              clear hap hsc hp HCS3 c0 c1 c2 f1 f2 c3
              obtain ⟨c0, c1, c2, f1, f2, c3⟩ := HCS4.out.cells
              go_wp2_with fail
              refine (is_any 45 X S a2 false w4 HCS4.out.scan).mono ?_
              rintro e w5 ⟨rfl, n5, rfl⟩
              have HCS5 := hide (HCS4.out.drewN n5)
              clear HCS4 c0 c1 c2 f1 f2 c3
              generalize w4.drewN n5 = w5 at *
              obtain ⟨c0, c1, c2, f1, f2, c3⟩ := HCS5.out.cells
              by_cases h45 : (rest S a2).head? = some 45
              · have hv45 : ((rest S a2).head? == some 45) = true := by rw [h45]; rfl
                rw [hv45]
                obtain ⟨hlt2, hr2⟩ := rest_head h45
                obtain ⟨a3, ha3⟩ : ∃ a3, a3 = a2 + 1 := ⟨_, rfl⟩
                have HR2 := hide (show rest S a2 = 45 :: rest S a3 by rw [ha3]; exact hr2)
                have ha3le : a3 ≤ S.size := by omega
                have HA3 := hide ha3
                have ha260 : a2 ≤ 60 := by omega
                clear hv45 h45 hr2 ha3
                go_wp2_with fail
                have HCS6 := hide (show Cs X S w A nb (w5.setCell ⟨X, 1, none⟩ (.int .i64 ((a2 : Int) + 1))) a3 false on by rw [HA3.out]; exact HCS5.out.move (a2 + 1))
                clear HCS5 c0 c1 c2 f1 f2 c3
                generalize w5.setCell ⟨X, 1, none⟩ (.int .i64 ((a2 : Int) + 1)) = w6 at *
                refine (one_any X S a3 w6 HCS6.out.scan h60 ha3le).mono ?_
                rintro e w7 ⟨hap, hi, a4, rfl, ha4, ⟨hp, hlt4, hsc⟩ | ⟨hp, hsc⟩⟩
                · have hhi256 : hi.toNat < 256 := hi.toNat_lt
                  have HCS7 := hide (HCS6.out.step hap hsc)
                  have HP2 := hide hp
                  have HLT := hide (show 0 + 1 ≤ a4 by have := HA3.out; omega)
                  have HMS := hide (show a1 < a4 by have := HA3.out; omega)
                  clear hap hsc hp HCS6
                  obtain ⟨c0, c1, c2, f1, f2, c3⟩ := HCS7.out.cells
                  by_cases hlh : hi.toNat < lo.toNat
                  · have g1 : decide ((hi.toNat : Int) < (lo.toNat : Int)) = true := by simp; omega
                    have HPB := hide (HSO.out.bad (pRange_rev HP1.out HR2.out HP2.out hlh) H93.out)
                    have hnle : ¬ lo.toNat ≤ hi.toNat := by omega
                    have g3 : decide (lo.toNat ≤ hi.toNat) = false := by simpa using hnle
                    go_wp2_with fail
                    have HCS8 := hide (HCS7.out.spoil true)
                    clear HCS7 c0 c1 c2 f1 f2 c3
                    generalize w7.setCell ⟨X, 2, none⟩ (.bool true) = w8 at *
                    obtain ⟨c0, c1, c2, f1, f2, c3⟩ := HCS8.out.cells
                    go_loopg [10] 0 (fun _ vc wr' => vc = .int .i64 (lo.toNat : Int) ∧ wr' = w8)
                    case atStart => exact ⟨rfl, rfl⟩
                    case round =>
                      obtain ⟨rfl, rfl⟩ := hrel
                      go_wp2_with fail
                      go_roundg 0
                      case measure => have := HK.out; omega
                      case rel => exact ⟨on, 0 + 1, a4, true, rfl, ha4, HCS8.out, .inr ⟨rfl, rfl, HPB.out⟩⟩
                  · have g1 : decide (hi.toNat < lo.toNat) = false := by simpa using hlh
                    have hle2 : lo.toNat ≤ hi.toNat := by omega
                    have HPR := hide (pRange_dash HP1.out HR2.out HP2.out hlh)
                    go_wp2_with fail
                    clear c0 c1 c2 f1 f2 c3
                    go_loopg [10] ((hi).toNat + 1 - (lo).toNat) (fun k vc wr' => FillLoop X S w A nb a4 (lo).toNat (hi).toNat on k vc wr')
                    case atStart => exact ⟨on, (lo).toNat, rfl, Nat.le_refl _, by omega, HCS7.out, fun m _ => fill_zero m _ _⟩
                    case round =>
                      obtain ⟨on2, j, rfl, hj1, hj, hcs2, hon2⟩ := hrel
                      have HCS2 := hide hcs2
                      have HON2 := hide hon2
                      clear hcs2 hon2
                      obtain ⟨c0, c1, c2, f1, f2, c3⟩ := HCS2.out.cells
                      cases gk with
                      | zero =>
                        have hjn : ¬ j ≤ (hi).toNat := by omega
                        have hjg : decide (j ≤ (hi).toNat) = false := by simpa using hjn
                        go_wp2_with fail
                        go_roundg (1 + (S.size - a4))
                        case measure => have := HK.out; have := HMS.out; omega
                        case rel => exact ⟨on2, 0 + 1, a4, false, rfl, ha4, HCS2.out, .inl ⟨rfl, HLT.out, rfl, HSO.out.more HPR.out H93.out (fun m hm => by rw [HON2.out m hm]; congr 1; funext x; congr 2; exact propext ⟨fun h => ⟨h.1, by omega⟩, fun h => ⟨h.1, by omega⟩⟩)⟩⟩
                      | succ k =>
                        have hjl : j ≤ (hi).toNat := by omega
                        have hj2 : j < 256 := by have := (hi).toNat_lt; omega
                        have hjg : decide ((j : Int) ≤ ((hi).toNat : Int)) = true := by simp; omega
                        obtain ⟨b2, hb2⟩ : ∃ b2, on2[j]? = some b2 := ⟨_, List.getElem?_eq_getElem (by rw [HCS2.out.ona.2]; exact hj2)⟩
                        obtain ⟨o1, o2⟩ := HCS2.out.bit hb2
                        have HB2 := hide hb2
                        clear hb2
                        go_wp2_with fail
                        go_roundg k
                        case measure => omega
                        case rel => exact ⟨on2.set j true, j + 1, rfl, by omega, by omega, HCS2.out.put j true, fun m hm => fill_step hm hj1 HB2.out (HON2.out m hm)⟩
                · have hhi256 : hi.toNat < 256 := hi.toNat_lt
                  have HCS7 := hide (HCS6.out.step hap hsc)
                  have HPB := hide (HSO.out.bad (pRange_dash_none HP1.out HR2.out hp) H93.out)
                  clear hap hsc hp HCS6
                  obtain ⟨c0, c1, c2, f1, f2, c3⟩ := HCS7.out.cells
                  by_cases hlh : hi.toNat < lo.toNat
                  · have g1 : decide ((hi.toNat : Int) < (lo.toNat : Int)) = true := by simp; omega
                    have hnle : ¬ lo.toNat ≤ hi.toNat := by omega
                    have g3 : decide (lo.toNat ≤ hi.toNat) = false := by simpa using hnle
                    go_wp2_with fail
                    have HCS8 := hide (HCS7.out.spoil true)
                    clear HCS7 c0 c1 c2 f1 f2 c3
                    generalize w7.setCell ⟨X, 2, none⟩ (.bool true) = w8 at *
                    obtain ⟨c0, c1, c2, f1, f2, c3⟩ := HCS8.out.cells
                    go_loopg [10] 0 (fun _ vc wr' => vc = .int .i64 (lo.toNat : Int) ∧ wr' = w8)
                    case atStart => exact ⟨rfl, rfl⟩
                    case round =>
                      obtain ⟨rfl, rfl⟩ := hrel
                      go_wp2_with fail
                      go_roundg 0
                      case measure => have := HK.out; omega
                      case rel => exact ⟨on, 0 + 1, a4, true, rfl, ha4, HCS8.out, .inr ⟨rfl, rfl, HPB.out⟩⟩
                  · have g1 : decide (hi.toNat < lo.toNat) = false := by simpa using hlh
                    have hle2 : lo.toNat ≤ hi.toNat := by omega
                    have g3 : decide ((lo.toNat : Int) ≤ (hi.toNat : Int)) = true := by simp; omega
                    go_wp2_with fail
                    go_loopg [10] 0 (fun _ vc wr' => vc = .int .i64 (lo.toNat : Int) ∧ wr' = w7)
                    case atStart => exact ⟨rfl, rfl⟩
                    case round =>
                      obtain ⟨rfl, rfl⟩ := hrel
                      go_wp2_with fail
                      go_roundg 0
                      case measure => have := HK.out; omega
                      case rel => exact ⟨on, 0 + 1, a4, true, rfl, ha4, HCS7.out, .inr ⟨rfl, rfl, HPB.out⟩⟩
              · have hv45 : ((rest S a2).head? == some 45) = false := by rw [beq_eq_false_iff_ne]; exact h45
                rw [hv45]
                have HPR := hide (pRange_plain HP1.out h45)
                have HLT := hide (show 0 + 1 ≤ a2 by omega)
                have HMS := hide (show a1 < a2 by omega)
                clear hv45 h45
                go_wp2_with fail
                clear c0 c1 c2 f1 f2 c3
                go_loopg [10] ((lo).toNat + 1 - (lo).toNat) (fun k vc wr' => FillLoop X S w A nb a2 (lo).toNat (lo).toNat on k vc wr')
                case atStart => exact ⟨on, (lo).toNat, rfl, Nat.le_refl _, by omega, HCS5.out, fun m _ => fill_zero m _ _⟩
                case round =>
                  obtain ⟨on2, j, rfl, hj1, hj, hcs2, hon2⟩ := hrel
                  have HCS2 := hide hcs2
                  have HON2 := hide hon2
                  clear hcs2 hon2
                  obtain ⟨c0, c1, c2, f1, f2, c3⟩ := HCS2.out.cells
                  cases gk with
                  | zero =>
                    have hjn : ¬ j ≤ (lo).toNat := by omega
                    have hjg : decide (j ≤ (lo).toNat) = false := by simpa using hjn
                    go_wp2_with fail
                    go_roundg (1 + (S.size - a2))
                    case measure => have := HK.out; have := HMS.out; omega
                    case rel => exact ⟨on2, 0 + 1, a2, false, rfl, ha2, HCS2.out, .inl ⟨rfl, HLT.out, rfl, HSO.out.more HPR.out H93.out (fun m hm => by rw [HON2.out m hm]; congr 1; funext x; congr 2; exact propext ⟨fun h => ⟨h.1, by omega⟩, fun h => ⟨h.1, by omega⟩⟩)⟩⟩
                  | succ k =>
                    have hjl : j ≤ (lo).toNat := by omega
                    have hj2 : j < 256 := by have := (lo).toNat_lt; omega
                    have hjg : decide ((j : Int) ≤ ((lo).toNat : Int)) = true := by simp; omega
                    obtain ⟨b2, hb2⟩ : ∃ b2, on2[j]? = some b2 := ⟨_, List.getElem?_eq_getElem (by rw [HCS2.out.ona.2]; exact hj2)⟩
                    obtain ⟨o1, o2⟩ := HCS2.out.bit hb2
                    have HB2 := hide hb2
                    clear hb2
                    go_wp2_with fail
                    go_roundg k
                    case measure => omega
                    case rel => exact ⟨on2.set j true, j + 1, rfl, by omega, by omega, HCS2.out.put j true, fun m hm => fill_step hm hj1 HB2.out (HON2.out m hm)⟩
            · have hlo256 : lo.toNat < 256 := lo.toNat_lt
              have HCS4 := hide (HCS3.out.step hap hsc)
              have HPB := hide (HSO.out.bad (pRange_none hp) H93.out)
              clear hap hsc hp HCS3 c0 c1 c2 f1 f2 c3
              obtain ⟨c0, c1, c2, f1, f2, c3⟩ := HCS4.out.cells
              go_wp2_with fail
              refine (is_any 45 X S a2 true w4 HCS4.out.scan).mono ?_
              rintro e w5 ⟨rfl, n5, rfl⟩
              have HCS5 := hide (HCS4.out.drewN n5)
              clear HCS4 c0 c1 c2 f1 f2 c3
              generalize w4.drewN n5 = w5 at *
              obtain ⟨c0, c1, c2, f1, f2, c3⟩ := HCS5.out.cells
              obtain ⟨bd, hbd⟩ : ∃ bd, ((rest S a2).head? == some 45) = bd := ⟨_, rfl⟩
              rw [hbd]
              cases bd
              all_goals
                clear hbd
                go_wp2_with fail
                go_loopg [10] 0 (fun _ vc wr' => vc = .int .i64 (lo.toNat : Int) ∧ wr' = w5)
                case atStart => exact ⟨rfl, rfl⟩
                case round =>
                  obtain ⟨rfl, rfl⟩ := hrel
                  go_wp2_with fail
                  go_roundg 0
                  case measure => have := HK.out; omega
                  case rel => exact ⟨on, 0 + 1, a2, true, rfl, ha2, HCS5.out, .inr ⟨rfl, rfl, HPB.out⟩⟩
        · have hv93 : ((rest S a1).head? == some 93) = false := by rw [beq_eq_false_iff_ne]; exact h93
          rw [hv93]
          have H93 := hide (show 0 < i → (rest S a1).head? ≠ some 93 from fun _ => h93)
          clear hv93 h93
          go_wp2_with fail
          refine (one_any X S a1 w3 HCS3.out.scan h60 ha1).mono ?_
          rintro e w4 ⟨hap, lo, a2, rfl, ha2, ⟨hp, hlt, hsc⟩ | ⟨hp, hsc⟩⟩
          · have hlo256 : lo.toNat < 256 := lo.toNat_lt
            have HCS4 := hide (HCS3.out.step hap hsc)
            have HP1 := hide hp
            clear hap hsc hp HCS3 c0 c1 c2 f1 f2 c3
            obtain ⟨c0, c1, c2, f1, f2, c3⟩ := HCS4.out.cells
            go_wp2_with fail
            refine (is_any 45 X S a2 false w4 HCS4.out.scan).mono ?_
            rintro e w5 ⟨rfl, n5, rfl⟩
            have HCS5 := hide (HCS4.out.drewN n5)
            clear HCS4 c0 c1 c2 f1 f2 c3
            generalize w4.drewN n5 = w5 at *
            obtain ⟨c0, c1, c2, f1, f2, c3⟩ := HCS5.out.cells
            by_cases h45 : (rest S a2).head? = some 45
            · have hv45 : ((rest S a2).head? == some 45) = true := by rw [h45]; rfl
              rw [hv45]
              obtain ⟨hlt2, hr2⟩ := rest_head h45
              obtain ⟨a3, ha3⟩ : ∃ a3, a3 = a2 + 1 := ⟨_, rfl⟩
              have HR2 := hide (show rest S a2 = 45 :: rest S a3 by rw [ha3]; exact hr2)
              have ha3le : a3 ≤ S.size := by omega
              have HA3 := hide ha3
              have ha260 : a2 ≤ 60 := by omega
              clear hv45 h45 hr2 ha3
              go_wp2_with fail
              have HCS6 := hide (show Cs X S w A nb (w5.setCell ⟨X, 1, none⟩ (.int .i64 ((a2 : Int) + 1))) a3 false on by rw [HA3.out]; exact HCS5.out.move (a2 + 1))
              clear HCS5 c0 c1 c2 f1 f2 c3
              generalize w5.setCell ⟨X, 1, none⟩ (.int .i64 ((a2 : Int) + 1)) = w6 at *
              refine (one_any X S a3 w6 HCS6.out.scan h60 ha3le).mono ?_
              rintro e w7 ⟨hap, hi, a4, rfl, ha4, ⟨hp, hlt4, hsc⟩ | ⟨hp, hsc⟩⟩
              · have hhi256 : hi.toNat < 256 := hi.toNat_lt
                have HCS7 := hide (HCS6.out.step hap hsc)
                have HP2 := hide hp
                have HLT := hide (show i + 1 ≤ a4 by have := HA3.out; omega)
                have HMS := hide (show a1 < a4 by have := HA3.out; omega)
                clear hap hsc hp HCS6
                obtain ⟨c0, c1, c2, f1, f2, c3⟩ := HCS7.out.cells
                by_cases hlh : hi.toNat < lo.toNat
                · have g1 : decide ((hi.toNat : Int) < (lo.toNat : Int)) = true := by simp; omega
                  have HPB := hide (HSO.out.bad (pRange_rev HP1.out HR2.out HP2.out hlh) H93.out)
                  have hnle : ¬ lo.toNat ≤ hi.toNat := by omega
                  have g3 : decide (lo.toNat ≤ hi.toNat) = false := by simpa using hnle
                  go_wp2_with fail
                  have HCS8 := hide (HCS7.out.spoil true)
                  clear HCS7 c0 c1 c2 f1 f2 c3
                  generalize w7.setCell ⟨X, 2, none⟩ (.bool true) = w8 at *
                  obtain ⟨c0, c1, c2, f1, f2, c3⟩ := HCS8.out.cells
                  go_loopg [10] 0 (fun _ vc wr' => vc = .int .i64 (lo.toNat : Int) ∧ wr' = w8)
                  case atStart => exact ⟨rfl, rfl⟩
                  case round =>
                    obtain ⟨rfl, rfl⟩ := hrel
                    go_wp2_with fail
                    go_roundg 0
                    case measure => have := HK.out; omega
                    case rel => exact ⟨on, i + 1, a4, true, rfl, ha4, HCS8.out, .inr ⟨rfl, rfl, HPB.out⟩⟩
                · have g1 : decide (hi.toNat < lo.toNat) = false := by simpa using hlh
                  have hle2 : lo.toNat ≤ hi.toNat := by omega
                  have HPR := hide (pRange_dash HP1.out HR2.out HP2.out hlh)
                  go_wp2_with fail
                  clear c0 c1 c2 f1 f2 c3
                  go_loopg [10] ((hi).toNat + 1 - (lo).toNat) (fun k vc wr' => FillLoop X S w A nb a4 (lo).toNat (hi).toNat on k vc wr')
                  case atStart => exact ⟨on, (lo).toNat, rfl, Nat.le_refl _, by omega, HCS7.out, fun m _ => fill_zero m _ _⟩
                  case round =>
                    obtain ⟨on2, j, rfl, hj1, hj, hcs2, hon2⟩ := hrel
                    have HCS2 := hide hcs2
                    have HON2 := hide hon2
                    clear hcs2 hon2
                    obtain ⟨c0, c1, c2, f1, f2, c3⟩ := HCS2.out.cells
                    cases gk with
                    | zero =>
                      have hjn : ¬ j ≤ (hi).toNat := by omega
                      have hjg : decide (j ≤ (hi).toNat) = false := by simpa using hjn
                      go_wp2_with fail
                      go_roundg (1 + (S.size - a4))
                      case measure => have := HK.out; have := HMS.out; omega
                      case rel => exact ⟨on2, i + 1, a4, false, rfl, ha4, HCS2.out, .inl ⟨rfl, HLT.out, rfl, HSO.out.more HPR.out H93.out (fun m hm => by rw [HON2.out m hm]; congr 1; funext x; congr 2; exact propext ⟨fun h => ⟨h.1, by omega⟩, fun h => ⟨h.1, by omega⟩⟩)⟩⟩
                    | succ k =>
                      have hjl : j ≤ (hi).toNat := by omega
                      have hj2 : j < 256 := by have := (hi).toNat_lt; omega
                      have hjg : decide ((j : Int) ≤ ((hi).toNat : Int)) = true := by simp; omega
                      obtain ⟨b2, hb2⟩ : ∃ b2, on2[j]? = some b2 := ⟨_, List.getElem?_eq_getElem (by rw [HCS2.out.ona.2]; exact hj2)⟩
                      obtain ⟨o1, o2⟩ := HCS2.out.bit hb2
                      have HB2 := hide hb2
                      clear hb2
                      go_wp2_with fail
                      go_roundg k
                      case measure => omega
                      case rel => exact ⟨on2.set j true, j + 1, rfl, by omega, by omega, HCS2.out.put j true, fun m hm => fill_step hm hj1 HB2.out (HON2.out m hm)⟩
              · have hhi256 : hi.toNat < 256 := hi.toNat_lt
                have HCS7 := hide (HCS6.out.step hap hsc)
                have HPB := hide (HSO.out.bad (pRange_dash_none HP1.out HR2.out hp) H93.out)
                clear hap hsc hp HCS6
                obtain ⟨c0, c1, c2, f1, f2, c3⟩ := HCS7.out.cells
                by_cases hlh : hi.toNat < lo.toNat
                · have g1 : decide ((hi.toNat : Int) < (lo.toNat : Int)) = true := by simp; omega
                  have hnle : ¬ lo.toNat ≤ hi.toNat := by omega
                  have g3 : decide (lo.toNat ≤ hi.toNat) = false := by simpa using hnle
                  go_wp2_with fail
                  have HCS8 := hide (HCS7.out.spoil true)
                  clear HCS7 c0 c1 c2 f1 f2 c3
                  generalize w7.setCell ⟨X, 2, none⟩ (.bool true) = w8 at *
                  obtain ⟨c0, c1, c2, f1, f2, c3⟩ := HCS8.out.cells
                  go_loopg [10] 0 (fun _ vc wr' => vc = .int .i64 (lo.toNat : Int) ∧ wr' = w8)
                  case atStart => exact ⟨rfl, rfl⟩
                  case round =>
                    obtain ⟨rfl, rfl⟩ := hrel
                    go_wp2_with fail
                    go_roundg 0
                    case measure => have := HK.out; omega
                    case rel => exact ⟨on, i + 1, a4, true, rfl, ha4, HCS8.out, .inr ⟨rfl, rfl, HPB.out⟩⟩
                · have g1 : decide (hi.toNat < lo.toNat) = false := by simpa using hlh
                  have hle2 : lo.toNat ≤ hi.toNat := by omega
                  have g3 : decide ((lo.toNat : Int) ≤ (hi.toNat : Int)) = true := by simp; omega
                  go_wp2_with fail
                  go_loopg [10] 0 (fun _ vc wr' => vc = .int .i64 (lo.toNat : Int) ∧ wr' = w7)
                  case atStart => exact ⟨rfl, rfl⟩
                  case round =>
                    obtain ⟨rfl, rfl⟩ := hrel
                    go_wp2_with fail
                    go_roundg 0
                    case measure => have := HK.out; omega
                    case rel => exact ⟨on, i + 1, a4, true, rfl, ha4, HCS7.out, .inr ⟨rfl, rfl, HPB.out⟩⟩
            · have hv45 : ((rest S a2).head? == some 45) = false := by rw [beq_eq_false_iff_ne]; exact h45
              rw [hv45]
              have HPR := hide (pRange_plain HP1.out h45)
              have HLT := hide (show i + 1 ≤ a2 by omega)
              have HMS := hide (show a1 < a2 by omega)
              clear hv45 h45
              go_wp2_with fail
              clear c0 c1 c2 f1 f2 c3
              go_loopg [10] ((lo).toNat + 1 - (lo).toNat) (fun k vc wr' => FillLoop X S w A nb a2 (lo).toNat (lo).toNat on k vc wr')
              case atStart => exact ⟨on, (lo).toNat, rfl, Nat.le_refl _, by omega, HCS5.out, fun m _ => fill_zero m _ _⟩
              case round =>
                obtain ⟨on2, j, rfl, hj1, hj, hcs2, hon2⟩ := hrel
                have HCS2 := hide hcs2
                have HON2 := hide hon2
                clear hcs2 hon2
                obtain ⟨c0, c1, c2, f1, f2, c3⟩ := HCS2.out.cells
                cases gk with
                | zero =>
                  have hjn : ¬ j ≤ (lo).toNat := by omega
                  have hjg : decide (j ≤ (lo).toNat) = false := by simpa using hjn
                  go_wp2_with fail
                  go_roundg (1 + (S.size - a2))
                  case measure => have := HK.out; have := HMS.out; omega
                  case rel => exact ⟨on2, i + 1, a2, false, rfl, ha2, HCS2.out, .inl ⟨rfl, HLT.out, rfl, HSO.out.more HPR.out H93.out (fun m hm => by rw [HON2.out m hm]; congr 1; funext x; congr 2; exact propext ⟨fun h => ⟨h.1, by omega⟩, fun h => ⟨h.1, by omega⟩⟩)⟩⟩
                | succ k =>
                  have hjl : j ≤ (lo).toNat := by omega
                  have hj2 : j < 256 := by have := (lo).toNat_lt; omega
                  have hjg : decide ((j : Int) ≤ ((lo).toNat : Int)) = true := by simp; omega
                  obtain ⟨b2, hb2⟩ : ∃ b2, on2[j]? = some b2 := ⟨_, List.getElem?_eq_getElem (by rw [HCS2.out.ona.2]; exact hj2)⟩
                  obtain ⟨o1, o2⟩ := HCS2.out.bit hb2
                  have HB2 := hide hb2
                  clear hb2
                  go_wp2_with fail
                  go_roundg k
                  case measure => omega
                  case rel => exact ⟨on2.set j true, j + 1, rfl, by omega, by omega, HCS2.out.put j true, fun m hm => fill_step hm hj1 HB2.out (HON2.out m hm)⟩
          · have hlo256 : lo.toNat < 256 := lo.toNat_lt
            have HCS4 := hide (HCS3.out.step hap hsc)
            have HPB := hide (HSO.out.bad (pRange_none hp) H93.out)
            clear hap hsc hp HCS3 c0 c1 c2 f1 f2 c3
            obtain ⟨c0, c1, c2, f1, f2, c3⟩ := HCS4.out.cells
            go_wp2_with fail
            refine (is_any 45 X S a2 true w4 HCS4.out.scan).mono ?_
            rintro e w5 ⟨rfl, n5, rfl⟩
            have HCS5 := hide (HCS4.out.drewN n5)
            clear HCS4 c0 c1 c2 f1 f2 c3
            generalize w4.drewN n5 = w5 at *
            obtain ⟨c0, c1, c2, f1, f2, c3⟩ := HCS5.out.cells
            obtain ⟨bd, hbd⟩ : ∃ bd, ((rest S a2).head? == some 45) = bd := ⟨_, rfl⟩
            rw [hbd]
            cases bd
            all_goals
              clear hbd
              go_wp2_with fail
              go_loopg [10] 0 (fun _ vc wr' => vc = .int .i64 (lo.toNat : Int) ∧ wr' = w5)
              case atStart => exact ⟨rfl, rfl⟩
              case round =>
                obtain ⟨rfl, rfl⟩ := hrel
                go_wp2_with fail
                go_roundg 0
                case measure => have := HK.out; omega
                case rel => exact ⟨on, i + 1, a2, true, rfl, ha2, HCS5.out, .inr ⟨rfl, rfl, HPB.out⟩⟩
      · have HCS := hide hcs
        have HPB := hide hpb
        obtain ⟨c0, c1, c2, f1, f2, c3⟩ := HCS.out.cells
        clear hcs hpb hk
        go_wp2_with fail
        go_loopg [11] 256 (fun k vc wr' => TurnLoop X S w A nb a1 true on k vc wr')
        case atStart => exact ⟨on, 0, rfl, rfl, HCS.out, fun m _ => turn_zero m _⟩
        case round =>
          obtain ⟨on2, j, rfl, hj, hcs2, hon2⟩ := hrel
          have HCS2 := hide hcs2
          have HON2 := hide hon2
          clear hcs2 hon2
          cases gk with
          | zero =>
            obtain rfl : j = 256 := by omega
            go_wp2_with fail
            go_ret
            exact ⟨A, nb, a1, true, on2, rfl, ha1, HCS2.out, .inr ⟨rfl, (by rw [HS0.out]; exact PBody.neg (HPB.out))⟩⟩
          | succ k =>
            have hj2 : j < 256 := by omega
            have hjg : decide ((j : Int) < 256) = true := by simp; omega
            obtain ⟨b2, hb2⟩ : ∃ b2, on2[j]? = some b2 := ⟨_, List.getElem?_eq_getElem (by rw [HCS2.out.ona.2]; exact hj2)⟩
            obtain ⟨c0, c1, c2, f1, f2, c3⟩ := HCS2.out.cells
            obtain ⟨o1, o2⟩ := HCS2.out.bit hb2
            have HB2 := hide hb2
            clear hb2
            go_wp2_with fail
            go_region
            go_wp2_with fail
            go_roundg k
            case measure => omega
            case rel => exact ⟨on2.set j (!b2), j + 1, rfl, by omega, (HCS2.out.put j (!b2)).drew, fun m hm => turn_step hm HB2.out (HON2.out m hm)⟩
  · have hv : ((rest S at_).head? == some 94) = false := by rw [beq_eq_false_iff_ne]; exact hneg
    rw [hv]
    have HNEG := hide hneg
    obtain ⟨a0, ha0⟩ : ∃ a0, a0 = at_ := ⟨_, rfl⟩
    have ha0le : a0 ≤ S.size := by omega
    have H3 := hide (show Cs X S w A nb w2 a0 false noBools by rw [ha0]; exact H2.out)
    have HS0 := hide (show rest S at_ = rest S a0 by rw [ha0])
    clear hneg hv H2 ha0
    go_wp2_with fail
    go_loopg [5] (1 + (S.size - a0)) (fun k vk wr => ClsLoop X S w A nb (rest S a0) k vk wr)
    case atStart => exact ⟨noBools, 0, a0, false, rfl, ha0le, H3.out, .inl ⟨rfl, Nat.zero_le _, rfl, .inl ⟨rfl, rfl, rfl⟩⟩⟩
    case round =>
      obtain ⟨on, i, a1, bad, rfl, ha1, hcs, ⟨rfl, hia, hk, hso⟩ | ⟨rfl, hk, hpb⟩⟩ := hrel
      · have HCS := hide hcs
        have HSO := hide hso
        have HK := hide hk
        obtain ⟨c0, c1, c2, f1, f2, c3⟩ := HCS.out.cells
        clear hcs hso hk
        go_wp2_with fail
        refine (is_any 93 X S a1 false wr HCS.out.scan).mono ?_
        rintro e w3 ⟨rfl, n3, rfl⟩
        have HCS3 := hide (HCS.out.drewN n3)
        clear HCS c0 c1 c2 f1 f2 c3
        generalize wr.drewN n3 = w3 at *
        obtain ⟨c0, c1, c2, f1, f2, c3⟩ := HCS3.out.cells
        by_cases h93 : (rest S a1).head? = some 93
        · have hv93 : ((rest S a1).head? == some 93) = true := by rw [h93]; rfl
          rw [hv93]
          by_cases hi0 : 0 < i
          · have g0 : decide (0 < (i : Int)) = true := by simp; omega
            obtain ⟨hlt2, hr2⟩ := rest_head h93
            obtain ⟨a3, ha3⟩ : ∃ a3, a3 = a1 + 1 := ⟨_, rfl⟩
            have HSS := hide (Sofar.stop (s := rest S a3) (by rw [ha3, ← hr2]; exact HSO.out) hi0)
            have ha3le : a3 ≤ S.size := by omega
            have HA3 := hide ha3
            have ha160 : a1 ≤ 60 := by omega
            clear hv93 h93 hr2 ha3 HSO
            go_wp2_with fail
            have HCS6 := hide (show Cs X S w A nb (w3.setCell ⟨X, 1, none⟩ (.int .i64 ((a1 : Int) + 1))) a3 false on by rw [HA3.out]; exact HCS3.out.move (a1 + 1))
            clear HCS3 c0 c1 c2 f1 f2 c3
            generalize w3.setCell ⟨X, 1, none⟩ (.int .i64 ((a1 : Int) + 1)) = w6 at *
            obtain ⟨cc, hcc1, hcc2⟩ := HSS.out
            have HC1 := hide hcc1
            have HC2 := hide hcc2
            clear hcc1 hcc2 HSS
            go_loopg [11] 0 (fun _ vc wr' => vc = .int .i64 0 ∧ wr' = w6)
            case atStart => exact ⟨rfl, rfl⟩
            case round =>
              obtain ⟨rfl, rfl⟩ := hrel
              go_wp2_with fail
              go_ret
              exact ⟨A, nb, a3, false, on, rfl, ha3le, HCS6.out, .inl ⟨rfl, ⟨cc, HC1.out, (by rw [HS0.out]; exact PBody.pos HC2.out (by rw [← HS0.out]; exact HNEG.out))⟩⟩⟩
          · obtain rfl : i = 0 := by omega
            have H93 := hide (show 0 < 0 → (rest S a1).head? ≠ some 93 from fun h => absurd h (Nat.lt_irrefl _))
            clear hv93 h93 hi0
            go_wp2_with fail
            refine (one_any X S a1 w3 HCS3.out.scan h60 ha1).mono ?_
            rintro e w4 ⟨hap, lo, a2, rfl, ha2, ⟨hp, hlt, hsc⟩ | ⟨hp, hsc⟩⟩
            · have hlo256 : lo.toNat < 256 := lo.toNat_lt
              have HCS4 := hide (HCS3.out.step hap hsc)
              have HP1 := hide hp
              clear hap hsc hp HCS3 c0 c1 c2 f1 f2 c3
              obtain ⟨c0, c1, c2, f1, f2, c3⟩ := HCS4.out.cells
              go_wp2_with fail
              refine (is_any 45 X S a2 false w4 HCS4.out.scan).mono ?_
              rintro e w5 ⟨rfl, n5, rfl⟩
              have HCS5 := hide (HCS4.out.drewN n5)
              clear HCS4 c0 c1 c2 f1 f2 c3
              generalize w4.drewN n5 = w5 at *
              obtain ⟨c0, c1, c2, f1, f2, c3⟩ := HCS5.out.cells
              by_cases h45 : (rest S a2).head? = some 45
              · have hv45 : ((rest S a2).head? == some 45) = true := by rw [h45]; rfl
                rw [hv45]
                obtain ⟨hlt2, hr2⟩ := rest_head h45
                obtain ⟨a3, ha3⟩ : ∃ a3, a3 = a2 + 1 := ⟨_, rfl⟩
                have HR2 := hide (show rest S a2 = 45 :: rest S a3 by rw [ha3]; exact hr2)
                have ha3le : a3 ≤ S.size := by omega
                have HA3 := hide ha3
                have ha260 : a2 ≤ 60 := by omega
                clear hv45 h45 hr2 ha3
                go_wp2_with fail
                have HCS6 := hide (show Cs X S w A nb (w5.setCell ⟨X, 1, none⟩ (.int .i64 ((a2 : Int) + 1))) a3 false on by rw [HA3.out]; exact HCS5.out.move (a2 + 1))
                clear HCS5 c0 c1 c2 f1 f2 c3
                generalize w5.setCell ⟨X, 1, none⟩ (.int .i64 ((a2 : Int) + 1)) = w6 at *
                refine (one_any X S a3 w6 HCS6.out.scan h60 ha3le).mono ?_
                rintro e w7 ⟨hap, hi, a4, rfl, ha4, ⟨hp, hlt4, hsc⟩ | ⟨hp, hsc⟩⟩
                · have hhi256 : hi.toNat < 256 := hi.toNat_lt
                  have HCS7 := hide (HCS6.out.step hap hsc)
                  have HP2 := hide hp
                  have HLT := hide (show 0 + 1 ≤ a4 by have := HA3.out; omega)
                  have HMS := hide (show a1 < a4 by have := HA3.out; omega)
                  clear hap hsc hp HCS6
                  obtain ⟨c0, c1, c2, f1, f2, c3⟩ := HCS7.out.cells
                  by_cases hlh : hi.toNat < lo.toNat
                  · have g1 : decide ((hi.toNat : Int) < (lo.toNat : Int)) = true := by simp; omega
                    have HPB := hide (HSO.out.bad (pRange_rev HP1.out HR2.out HP2.out hlh) H93.out)
                    have hnle : ¬ lo.toNat ≤ hi.toNat := by omega
                    have g3 : decide (lo.toNat ≤ hi.toNat) = false := by simpa using hnle
                    go_wp2_with fail
                    have HCS8 := hide (HCS7.out.spoil true)
                    clear HCS7 c0 c1 c2 f1 f2 c3
                    generalize w7.setCell ⟨X, 2, none⟩ (.bool true) = w8 at *
                    obtain ⟨c0, c1, c2, f1, f2, c3⟩ := HCS8.out.cells
                    go_loopg [10] 0 (fun _ vc wr' => vc = .int .i64 (lo.toNat : Int) ∧ wr' = w8)
                    case atStart => exact ⟨rfl, rfl⟩
                    case round =>
                      obtain ⟨rfl, rfl⟩ := hrel
                      go_wp2_with fail
                      go_roundg 0
                      case measure => have := HK.out; omega
                      case rel => exact ⟨on, 0 + 1, a4, true, rfl, ha4, HCS8.out, .inr ⟨rfl, rfl, HPB.out⟩⟩
                  · have g1 : decide (hi.toNat < lo.toNat) = false := by simpa using hlh
                    have hle2 : lo.toNat ≤ hi.toNat := by omega
                    have HPR := hide (pRange_dash HP1.out HR2.out HP2.out hlh)
                    go_wp2_with fail
                    clear c0 c1 c2 f1 f2 c3
                    go_loopg [10] ((hi).toNat + 1 - (lo).toNat) (fun k vc wr' => FillLoop X S w A nb a4 (lo).toNat (hi).toNat on k vc wr')
                    case atStart => exact ⟨on, (lo).toNat, rfl, Nat.le_refl _, by omega, HCS7.out, fun m _ => fill_zero m _ _⟩
                    case round =>
                      obtain ⟨on2, j, rfl, hj1, hj, hcs2, hon2⟩ := hrel
                      have HCS2 := hide hcs2
                      have HON2 := hide hon2
                      clear hcs2 hon2
                      obtain ⟨c0, c1, c2, f1, f2, c3⟩ := HCS2.out.cells
                      cases gk with
                      | zero =>
                        have hjn : ¬ j ≤ (hi).toNat := by omega
                        have hjg : decide (j ≤ (hi).toNat) = false := by simpa using hjn
                        go_wp2_with fail
                        go_roundg (1 + (S.size - a4))
                        case measure => have := HK.out; have := HMS.out; omega
                        case rel => exact ⟨on2, 0 + 1, a4, false, rfl, ha4, HCS2.out, .inl ⟨rfl, HLT.out, rfl, HSO.out.more HPR.out H93.out (fun m hm => by rw [HON2.out m hm]; congr 1; funext x; congr 2; exact propext ⟨fun h => ⟨h.1, by omega⟩, fun h => ⟨h.1, by omega⟩⟩)⟩⟩
                      | succ k =>
                        have hjl : j ≤ (hi).toNat := by omega
                        have hj2 : j < 256 := by have := (hi).toNat_lt; omega
                        have hjg : decide ((j : Int) ≤ ((hi).toNat : Int)) = true := by simp; omega
                        obtain ⟨b2, hb2⟩ : ∃ b2, on2[j]? = some b2 := ⟨_, List.getElem?_eq_getElem (by rw [HCS2.out.ona.2]; exact hj2)⟩
                        obtain ⟨o1, o2⟩ := HCS2.out.bit hb2
                        have HB2 := hide hb2
                        clear hb2
                        go_wp2_with fail
                        go_roundg k
                        case measure => omega
                        case rel => exact ⟨on2.set j true, j + 1, rfl, by omega, by omega, HCS2.out.put j true, fun m hm => fill_step hm hj1 HB2.out (HON2.out m hm)⟩
                · have hhi256 : hi.toNat < 256 := hi.toNat_lt
                  have HCS7 := hide (HCS6.out.step hap hsc)
                  have HPB := hide (HSO.out.bad (pRange_dash_none HP1.out HR2.out hp) H93.out)
                  clear hap hsc hp HCS6
                  obtain ⟨c0, c1, c2, f1, f2, c3⟩ := HCS7.out.cells
                  by_cases hlh : hi.toNat < lo.toNat
                  · have g1 : decide ((hi.toNat : Int) < (lo.toNat : Int)) = true := by simp; omega
                    have hnle : ¬ lo.toNat ≤ hi.toNat := by omega
                    have g3 : decide (lo.toNat ≤ hi.toNat) = false := by simpa using hnle
                    go_wp2_with fail
                    have HCS8 := hide (HCS7.out.spoil true)
                    clear HCS7 c0 c1 c2 f1 f2 c3
                    generalize w7.setCell ⟨X, 2, none⟩ (.bool true) = w8 at *
                    obtain ⟨c0, c1, c2, f1, f2, c3⟩ := HCS8.out.cells
                    go_loopg [10] 0 (fun _ vc wr' => vc = .int .i64 (lo.toNat : Int) ∧ wr' = w8)
                    case atStart => exact ⟨rfl, rfl⟩
                    case round =>
                      obtain ⟨rfl, rfl⟩ := hrel
                      go_wp2_with fail
                      go_roundg 0
                      case measure => have := HK.out; omega
                      case rel => exact ⟨on, 0 + 1, a4, true, rfl, ha4, HCS8.out, .inr ⟨rfl, rfl, HPB.out⟩⟩
                  · have g1 : decide (hi.toNat < lo.toNat) = false := by simpa using hlh
                    have hle2 : lo.toNat ≤ hi.toNat := by omega
                    have g3 : decide ((lo.toNat : Int) ≤ (hi.toNat : Int)) = true := by simp; omega
                    go_wp2_with fail
                    go_loopg [10] 0 (fun _ vc wr' => vc = .int .i64 (lo.toNat : Int) ∧ wr' = w7)
                    case atStart => exact ⟨rfl, rfl⟩
                    case round =>
                      obtain ⟨rfl, rfl⟩ := hrel
                      go_wp2_with fail
                      go_roundg 0
                      case measure => have := HK.out; omega
                      case rel => exact ⟨on, 0 + 1, a4, true, rfl, ha4, HCS7.out, .inr ⟨rfl, rfl, HPB.out⟩⟩
              · have hv45 : ((rest S a2).head? == some 45) = false := by rw [beq_eq_false_iff_ne]; exact h45
                rw [hv45]
                have HPR := hide (pRange_plain HP1.out h45)
                have HLT := hide (show 0 + 1 ≤ a2 by omega)
                have HMS := hide (show a1 < a2 by omega)
                clear hv45 h45
                go_wp2_with fail
                clear c0 c1 c2 f1 f2 c3
                go_loopg [10] ((lo).toNat + 1 - (lo).toNat) (fun k vc wr' => FillLoop X S w A nb a2 (lo).toNat (lo).toNat on k vc wr')
                case atStart => exact ⟨on, (lo).toNat, rfl, Nat.le_refl _, by omega, HCS5.out, fun m _ => fill_zero m _ _⟩
                case round =>
                  obtain ⟨on2, j, rfl, hj1, hj, hcs2, hon2⟩ := hrel
                  have HCS2 := hide hcs2
                  have HON2 := hide hon2
                  clear hcs2 hon2
                  obtain ⟨c0, c1, c2, f1, f2, c3⟩ := HCS2.out.cells
                  cases gk with
                  | zero =>
                    have hjn : ¬ j ≤ (lo).toNat := by omega
                    have hjg : decide (j ≤ (lo).toNat) = false := by simpa using hjn
                    go_wp2_with fail
                    go_roundg (1 + (S.size - a2))
                    case measure => have := HK.out; have := HMS.out; omega
                    case rel => exact ⟨on2, 0 + 1, a2, false, rfl, ha2, HCS2.out, .inl ⟨rfl, HLT.out, rfl, HSO.out.more HPR.out H93.out (fun m hm => by rw [HON2.out m hm]; congr 1; funext x; congr 2; exact propext ⟨fun h => ⟨h.1, by omega⟩, fun h => ⟨h.1, by omega⟩⟩)⟩⟩
                  | succ k =>
                    have hjl : j ≤ (lo).toNat := by omega
                    have hj2 : j < 256 := by have := (lo).toNat_lt; omega
                    have hjg : decide ((j : Int) ≤ ((lo).toNat : Int)) = true := by simp; omega
                    obtain ⟨b2, hb2⟩ : ∃ b2, on2[j]? = some b2 := ⟨_, List.getElem?_eq_getElem (by rw [HCS2.out.ona.2]; exact hj2)⟩
                    obtain ⟨o1, o2⟩ := HCS2.out.bit hb2
                    have HB2 := hide hb2
                    clear hb2
                    go_wp2_with fail
                    go_roundg k
                    case measure => omega
                    case rel => exact ⟨on2.set j true, j + 1, rfl, by omega, by omega, HCS2.out.put j true, fun m hm => fill_step hm hj1 HB2.out (HON2.out m hm)⟩
            · have hlo256 : lo.toNat < 256 := lo.toNat_lt
              have HCS4 := hide (HCS3.out.step hap hsc)
              have HPB := hide (HSO.out.bad (pRange_none hp) H93.out)
              clear hap hsc hp HCS3 c0 c1 c2 f1 f2 c3
              obtain ⟨c0, c1, c2, f1, f2, c3⟩ := HCS4.out.cells
              go_wp2_with fail
              refine (is_any 45 X S a2 true w4 HCS4.out.scan).mono ?_
              rintro e w5 ⟨rfl, n5, rfl⟩
              have HCS5 := hide (HCS4.out.drewN n5)
              clear HCS4 c0 c1 c2 f1 f2 c3
              generalize w4.drewN n5 = w5 at *
              obtain ⟨c0, c1, c2, f1, f2, c3⟩ := HCS5.out.cells
              obtain ⟨bd, hbd⟩ : ∃ bd, ((rest S a2).head? == some 45) = bd := ⟨_, rfl⟩
              rw [hbd]
              cases bd
              all_goals
                clear hbd
                go_wp2_with fail
                go_loopg [10] 0 (fun _ vc wr' => vc = .int .i64 (lo.toNat : Int) ∧ wr' = w5)
                case atStart => exact ⟨rfl, rfl⟩
                case round =>
                  obtain ⟨rfl, rfl⟩ := hrel
                  go_wp2_with fail
                  go_roundg 0
                  case measure => have := HK.out; omega
                  case rel => exact ⟨on, 0 + 1, a2, true, rfl, ha2, HCS5.out, .inr ⟨rfl, rfl, HPB.out⟩⟩
        · have hv93 : ((rest S a1).head? == some 93) = false := by rw [beq_eq_false_iff_ne]; exact h93
          rw [hv93]
          have H93 := hide (show 0 < i → (rest S a1).head? ≠ some 93 from fun _ => h93)
          clear hv93 h93
          go_wp2_with fail
          refine (one_any X S a1 w3 HCS3.out.scan h60 ha1).mono ?_
          rintro e w4 ⟨hap, lo, a2, rfl, ha2, ⟨hp, hlt, hsc⟩ | ⟨hp, hsc⟩⟩
          · have hlo256 : lo.toNat < 256 := lo.toNat_lt
            have HCS4 := hide (HCS3.out.step hap hsc)
            have HP1 := hide hp
            clear hap hsc hp HCS3 c0 c1 c2 f1 f2 c3
            obtain ⟨c0, c1, c2, f1, f2, c3⟩ := HCS4.out.cells
            go_wp2_with fail
            refine (is_any 45 X S a2 false w4 HCS4.out.scan).mono ?_
            rintro e w5 ⟨rfl, n5, rfl⟩
            have HCS5 := hide (HCS4.out.drewN n5)
            clear HCS4 c0 c1 c2 f1 f2 c3
            generalize w4.drewN n5 = w5 at *
            obtain ⟨c0, c1, c2, f1, f2, c3⟩ := HCS5.out.cells
            by_cases h45 : (rest S a2).head? = some 45
            · have hv45 : ((rest S a2).head? == some 45) = true := by rw [h45]; rfl
              rw [hv45]
              obtain ⟨hlt2, hr2⟩ := rest_head h45
              obtain ⟨a3, ha3⟩ : ∃ a3, a3 = a2 + 1 := ⟨_, rfl⟩
              have HR2 := hide (show rest S a2 = 45 :: rest S a3 by rw [ha3]; exact hr2)
              have ha3le : a3 ≤ S.size := by omega
              have HA3 := hide ha3
              have ha260 : a2 ≤ 60 := by omega
              clear hv45 h45 hr2 ha3
              go_wp2_with fail
              have HCS6 := hide (show Cs X S w A nb (w5.setCell ⟨X, 1, none⟩ (.int .i64 ((a2 : Int) + 1))) a3 false on by rw [HA3.out]; exact HCS5.out.move (a2 + 1))
              clear HCS5 c0 c1 c2 f1 f2 c3
              generalize w5.setCell ⟨X, 1, none⟩ (.int .i64 ((a2 : Int) + 1)) = w6 at *
              refine (one_any X S a3 w6 HCS6.out.scan h60 ha3le).mono ?_
              rintro e w7 ⟨hap, hi, a4, rfl, ha4, ⟨hp, hlt4, hsc⟩ | ⟨hp, hsc⟩⟩
              · have hhi256 : hi.toNat < 256 := hi.toNat_lt
                have HCS7 := hide (HCS6.out.step hap hsc)
                have HP2 := hide hp
                have HLT := hide (show i + 1 ≤ a4 by have := HA3.out; omega)
                have HMS := hide (show a1 < a4 by have := HA3.out; omega)
                clear hap hsc hp HCS6
                obtain ⟨c0, c1, c2, f1, f2, c3⟩ := HCS7.out.cells
                by_cases hlh : hi.toNat < lo.toNat
                · have g1 : decide ((hi.toNat : Int) < (lo.toNat : Int)) = true := by simp; omega
                  have HPB := hide (HSO.out.bad (pRange_rev HP1.out HR2.out HP2.out hlh) H93.out)
                  have hnle : ¬ lo.toNat ≤ hi.toNat := by omega
                  have g3 : decide (lo.toNat ≤ hi.toNat) = false := by simpa using hnle
                  go_wp2_with fail
                  have HCS8 := hide (HCS7.out.spoil true)
                  clear HCS7 c0 c1 c2 f1 f2 c3
                  generalize w7.setCell ⟨X, 2, none⟩ (.bool true) = w8 at *
                  obtain ⟨c0, c1, c2, f1, f2, c3⟩ := HCS8.out.cells
                  go_loopg [10] 0 (fun _ vc wr' => vc = .int .i64 (lo.toNat : Int) ∧ wr' = w8)
                  case atStart => exact ⟨rfl, rfl⟩
                  case round =>
                    obtain ⟨rfl, rfl⟩ := hrel
                    go_wp2_with fail
                    go_roundg 0
                    case measure => have := HK.out; omega
                    case rel => exact ⟨on, i + 1, a4, true, rfl, ha4, HCS8.out, .inr ⟨rfl, rfl, HPB.out⟩⟩
                · have g1 : decide (hi.toNat < lo.toNat) = false := by simpa using hlh
                  have hle2 : lo.toNat ≤ hi.toNat := by omega
                  have HPR := hide (pRange_dash HP1.out HR2.out HP2.out hlh)
                  go_wp2_with fail
                  clear c0 c1 c2 f1 f2 c3
                  go_loopg [10] ((hi).toNat + 1 - (lo).toNat) (fun k vc wr' => FillLoop X S w A nb a4 (lo).toNat (hi).toNat on k vc wr')
                  case atStart => exact ⟨on, (lo).toNat, rfl, Nat.le_refl _, by omega, HCS7.out, fun m _ => fill_zero m _ _⟩
                  case round =>
                    obtain ⟨on2, j, rfl, hj1, hj, hcs2, hon2⟩ := hrel
                    have HCS2 := hide hcs2
                    have HON2 := hide hon2
                    clear hcs2 hon2
                    obtain ⟨c0, c1, c2, f1, f2, c3⟩ := HCS2.out.cells
                    cases gk with
                    | zero =>
                      have hjn : ¬ j ≤ (hi).toNat := by omega
                      have hjg : decide (j ≤ (hi).toNat) = false := by simpa using hjn
                      go_wp2_with fail
                      go_roundg (1 + (S.size - a4))
                      case measure => have := HK.out; have := HMS.out; omega
                      case rel => exact ⟨on2, i + 1, a4, false, rfl, ha4, HCS2.out, .inl ⟨rfl, HLT.out, rfl, HSO.out.more HPR.out H93.out (fun m hm => by rw [HON2.out m hm]; congr 1; funext x; congr 2; exact propext ⟨fun h => ⟨h.1, by omega⟩, fun h => ⟨h.1, by omega⟩⟩)⟩⟩
                    | succ k =>
                      have hjl : j ≤ (hi).toNat := by omega
                      have hj2 : j < 256 := by have := (hi).toNat_lt; omega
                      have hjg : decide ((j : Int) ≤ ((hi).toNat : Int)) = true := by simp; omega
                      obtain ⟨b2, hb2⟩ : ∃ b2, on2[j]? = some b2 := ⟨_, List.getElem?_eq_getElem (by rw [HCS2.out.ona.2]; exact hj2)⟩
                      obtain ⟨o1, o2⟩ := HCS2.out.bit hb2
                      have HB2 := hide hb2
                      clear hb2
                      go_wp2_with fail
                      go_roundg k
                      case measure => omega
                      case rel => exact ⟨on2.set j true, j + 1, rfl, by omega, by omega, HCS2.out.put j true, fun m hm => fill_step hm hj1 HB2.out (HON2.out m hm)⟩
              · have hhi256 : hi.toNat < 256 := hi.toNat_lt
                have HCS7 := hide (HCS6.out.step hap hsc)
                have HPB := hide (HSO.out.bad (pRange_dash_none HP1.out HR2.out hp) H93.out)
                clear hap hsc hp HCS6
                obtain ⟨c0, c1, c2, f1, f2, c3⟩ := HCS7.out.cells
                by_cases hlh : hi.toNat < lo.toNat
                · have g1 : decide ((hi.toNat : Int) < (lo.toNat : Int)) = true := by simp; omega
                  have hnle : ¬ lo.toNat ≤ hi.toNat := by omega
                  have g3 : decide (lo.toNat ≤ hi.toNat) = false := by simpa using hnle
                  go_wp2_with fail
                  have HCS8 := hide (HCS7.out.spoil true)
                  clear HCS7 c0 c1 c2 f1 f2 c3
                  generalize w7.setCell ⟨X, 2, none⟩ (.bool true) = w8 at *
                  obtain ⟨c0, c1, c2, f1, f2, c3⟩ := HCS8.out.cells
                  go_loopg [10] 0 (fun _ vc wr' => vc = .int .i64 (lo.toNat : Int) ∧ wr' = w8)
                  case atStart => exact ⟨rfl, rfl⟩
                  case round =>
                    obtain ⟨rfl, rfl⟩ := hrel
                    go_wp2_with fail
                    go_roundg 0
                    case measure => have := HK.out; omega
                    case rel => exact ⟨on, i + 1, a4, true, rfl, ha4, HCS8.out, .inr ⟨rfl, rfl, HPB.out⟩⟩
                · have g1 : decide (hi.toNat < lo.toNat) = false := by simpa using hlh
                  have hle2 : lo.toNat ≤ hi.toNat := by omega
                  have g3 : decide ((lo.toNat : Int) ≤ (hi.toNat : Int)) = true := by simp; omega
                  go_wp2_with fail
                  go_loopg [10] 0 (fun _ vc wr' => vc = .int .i64 (lo.toNat : Int) ∧ wr' = w7)
                  case atStart => exact ⟨rfl, rfl⟩
                  case round =>
                    obtain ⟨rfl, rfl⟩ := hrel
                    go_wp2_with fail
                    go_roundg 0
                    case measure => have := HK.out; omega
                    case rel => exact ⟨on, i + 1, a4, true, rfl, ha4, HCS7.out, .inr ⟨rfl, rfl, HPB.out⟩⟩
            · have hv45 : ((rest S a2).head? == some 45) = false := by rw [beq_eq_false_iff_ne]; exact h45
              rw [hv45]
              have HPR := hide (pRange_plain HP1.out h45)
              have HLT := hide (show i + 1 ≤ a2 by omega)
              have HMS := hide (show a1 < a2 by omega)
              clear hv45 h45
              go_wp2_with fail
              clear c0 c1 c2 f1 f2 c3
              go_loopg [10] ((lo).toNat + 1 - (lo).toNat) (fun k vc wr' => FillLoop X S w A nb a2 (lo).toNat (lo).toNat on k vc wr')
              case atStart => exact ⟨on, (lo).toNat, rfl, Nat.le_refl _, by omega, HCS5.out, fun m _ => fill_zero m _ _⟩
              case round =>
                obtain ⟨on2, j, rfl, hj1, hj, hcs2, hon2⟩ := hrel
                have HCS2 := hide hcs2
                have HON2 := hide hon2
                clear hcs2 hon2
                obtain ⟨c0, c1, c2, f1, f2, c3⟩ := HCS2.out.cells
                cases gk with
                | zero =>
                  have hjn : ¬ j ≤ (lo).toNat := by omega
                  have hjg : decide (j ≤ (lo).toNat) = false := by simpa using hjn
                  go_wp2_with fail
                  go_roundg (1 + (S.size - a2))
                  case measure => have := HK.out; have := HMS.out; omega
                  case rel => exact ⟨on2, i + 1, a2, false, rfl, ha2, HCS2.out, .inl ⟨rfl, HLT.out, rfl, HSO.out.more HPR.out H93.out (fun m hm => by rw [HON2.out m hm]; congr 1; funext x; congr 2; exact propext ⟨fun h => ⟨h.1, by omega⟩, fun h => ⟨h.1, by omega⟩⟩)⟩⟩
                | succ k =>
                  have hjl : j ≤ (lo).toNat := by omega
                  have hj2 : j < 256 := by have := (lo).toNat_lt; omega
                  have hjg : decide ((j : Int) ≤ ((lo).toNat : Int)) = true := by simp; omega
                  obtain ⟨b2, hb2⟩ : ∃ b2, on2[j]? = some b2 := ⟨_, List.getElem?_eq_getElem (by rw [HCS2.out.ona.2]; exact hj2)⟩
                  obtain ⟨o1, o2⟩ := HCS2.out.bit hb2
                  have HB2 := hide hb2
                  clear hb2
                  go_wp2_with fail
                  go_roundg k
                  case measure => omega
                  case rel => exact ⟨on2.set j true, j + 1, rfl, by omega, by omega, HCS2.out.put j true, fun m hm => fill_step hm hj1 HB2.out (HON2.out m hm)⟩
          · have hlo256 : lo.toNat < 256 := lo.toNat_lt
            have HCS4 := hide (HCS3.out.step hap hsc)
            have HPB := hide (HSO.out.bad (pRange_none hp) H93.out)
            clear hap hsc hp HCS3 c0 c1 c2 f1 f2 c3
            obtain ⟨c0, c1, c2, f1, f2, c3⟩ := HCS4.out.cells
            go_wp2_with fail
            refine (is_any 45 X S a2 true w4 HCS4.out.scan).mono ?_
            rintro e w5 ⟨rfl, n5, rfl⟩
            have HCS5 := hide (HCS4.out.drewN n5)
            clear HCS4 c0 c1 c2 f1 f2 c3
            generalize w4.drewN n5 = w5 at *
            obtain ⟨c0, c1, c2, f1, f2, c3⟩ := HCS5.out.cells
            obtain ⟨bd, hbd⟩ : ∃ bd, ((rest S a2).head? == some 45) = bd := ⟨_, rfl⟩
            rw [hbd]
            cases bd
            all_goals
              clear hbd
              go_wp2_with fail
              go_loopg [10] 0 (fun _ vc wr' => vc = .int .i64 (lo.toNat : Int) ∧ wr' = w5)
              case atStart => exact ⟨rfl, rfl⟩
              case round =>
                obtain ⟨rfl, rfl⟩ := hrel
                go_wp2_with fail
                go_roundg 0
                case measure => have := HK.out; omega
                case rel => exact ⟨on, i + 1, a2, true, rfl, ha2, HCS5.out, .inr ⟨rfl, rfl, HPB.out⟩⟩
      · have HCS := hide hcs
        have HPB := hide hpb
        obtain ⟨c0, c1, c2, f1, f2, c3⟩ := HCS.out.cells
        clear hcs hpb hk
        go_wp2_with fail
        go_loopg [11] 0 (fun _ vc wr' => vc = .int .i64 0 ∧ wr' = wr)
        case atStart => exact ⟨rfl, rfl⟩
        case round =>
          obtain ⟨rfl, rfl⟩ := hrel
          go_wp2_with fail
          go_ret
          exact ⟨A, nb, a1, true, on, rfl, ha1, HCS.out, .inr ⟨rfl, (by rw [HS0.out]; exact PBody.pos HPB.out (by rw [← HS0.out]; exact HNEG.out))⟩⟩
end Go.Proofs.YtgncgdkpkkdaeaaGreatDoor.Ref

