/- Names: rules.isName and tintref.IsName. -/
import Derived.Test.YtgncgdkpkkdaeaaG2
import Derived.Test.YtgncgdkpkkdaeaaA0
import Derived.Laws.IdiomStrings
namespace Go.Proofs.Ytgncgdkpkkdaeaa
open Go.RowKit Tint

def letter (x : UInt8) : Bool := decide (97 ≤ x.toNat) && decide (x.toNat ≤ 122)

theorem isName_eq (l : List UInt8) : isName l = (decide (1 ≤ l.length) && decide (l.length ≤ 12) && l.all letter) := rfl

theorem all_false {l : List UInt8} {i : Nat} {x : UInt8} (h : l[i]? = some x) (hx : letter x = false) : isName l = false := by
  rw [isName_eq]
  have : l.all letter = false := by
    rw [List.all_eq_false]
    exact ⟨x, List.mem_of_getElem? h, by simp [hx]⟩
  rw [this, Bool.and_false]

theorem all_true {l : List UInt8} (h : ∀ (j : Nat) (x : UInt8), l[j]? = some x → letter x = true) : isName l = (decide (1 ≤ l.length) && decide (l.length ≤ 12)) := by
  rw [isName_eq]
  have : l.all letter = true := by
    rw [List.all_eq_true]
    intro x hx
    obtain ⟨j, hj⟩ := List.getElem?_of_mem hx
    exact h j x hj
  rw [this, Bool.and_true]

theorem byte_get {t : ByteArray} {i : Nat} (h : i < t.size) : t.data.toList[i]? = some t[i] := by
  rw [List.getElem?_eq_getElem (show i < t.data.toList.length from h)]
  rfl

theorem byte_length (t : ByteArray) : t.data.toList.length = t.size := rfl

def NameLoop (t : ByteArray) (w : World) (k : Nat) (i : Value) (wr : World) : Prop :=
  ∃ j : Nat, i = .int .i64 j ∧ j + k = t.size ∧ wr = w ∧ ∀ (m : Nat) (x : UInt8), m < j → t.data.toList[m]? = some x → letter x = true

set_option maxRecDepth 20000 in
set_option maxHeartbeats 1000000 in
theorem refName_any (t : ByteArray) (w : World) (hz : t.size ≤ 1000000000) :
    Calls Try.prog 15 #[.string t] w fun e w' => e = .returned (.bool (isName t.data.toList)) ∧ w' = w := by
  go_enter Try.func15, Try.ntmps15
  go_wp2_with fail
  go_loopg [3] t.size (fun k i wr => NameLoop t w k i wr)
  case atStart => exact ⟨0, rfl, by omega, rfl, fun m x h => by omega⟩
  case round =>
    obtain ⟨j, rfl, hk, rfl, hall⟩ := hrel
    by_cases hlt : j < t.size
    · have g1 : decide ((j : Int) < (t.size : Int)) = true := by simp; omega
      have HG := hide (byte_get hlt)
      have HALL := hide hall
      clear hall
      by_cases h1 : t[j].toNat < 97
      · have HE := hide (all_false HG.out (show letter t[j] = false by simp [letter]; omega))
        have q1 : decide (((t[j].toNat : Nat) : Int) < 97) = true := by simp; omega
        go_wp2_with fail
        go_ret
        exact ⟨by rw [HE.out]; rfl, rfl⟩
      · by_cases h2 : 122 < t[j].toNat
        · have HE := hide (all_false HG.out (show letter t[j] = false by simp [letter]; omega))
          have q1 : decide (t[j].toNat < 97) = false := by simp; omega
          have q2 : decide ((122 : Int) < ((t[j].toNat : Nat) : Int)) = true := by simp; omega
          go_wp2_with fail
          go_ret
          exact ⟨by rw [HE.out]; rfl, rfl⟩
        · have q1 : decide (t[j].toNat < 97) = false := by simp; omega
          have q2 : decide (122 < t[j].toNat) = false := by simp; omega
          have HL := hide (show letter t[j] = true by simp [letter]; omega)
          obtain ⟨k', rfl⟩ : ∃ k', gk = k' + 1 := ⟨gk - 1, by omega⟩
          have hi : j + 1 ≤ 9223372036854775807 := by omega
          go_wp2_with fail
          go_roundg k'
          case measure => omega
          case rel =>
            refine ⟨j + 1, rfl, by omega, rfl, fun m x hm hx => ?_⟩
            rcases Nat.lt_or_ge m j with h | h
            · exact HALL.out m x h hx
            · have : m = j := by omega
              subst this
              rw [HG.out] at hx
              cases hx
              exact HL.out
    · have g1 : decide (j < t.size) = false := by simp; omega
      have HE := hide (all_true (l := t.data.toList) (fun m x hx => hall m x (by have := get_lt hx; rw [byte_length] at this; omega) hx))
      rw [byte_length] at HE
      clear hall
      by_cases h1 : 1 ≤ t.size
      · by_cases h2 : t.size ≤ 12
        · have q1 : decide ((1 : Int) ≤ (t.size : Int)) = true := by simp; omega
          have q2 : decide ((t.size : Int) ≤ 12) = true := by simp; omega
          go_wp2_with fail
          go_ret
          exact ⟨by rw [HE.out, decide_eq_true h1, decide_eq_true h2]; rfl, rfl⟩
        · have q1 : decide ((1 : Int) ≤ (t.size : Int)) = true := by simp; omega
          have q2 : decide ((t.size : Int) ≤ 12) = false := decide_eq_false (by omega)
          go_wp2_with fail
          go_ret
          exact ⟨by rw [HE.out, decide_eq_true h1, decide_eq_false h2]; rfl, rfl⟩
      · have q1 : decide ((1 : Int) ≤ (t.size : Int)) = false := decide_eq_false (by omega)
        go_wp2_with fail
        go_ret
        exact ⟨by rw [HE.out, decide_eq_false h1]; rfl, rfl⟩
end Go.Proofs.Ytgncgdkpkkdaeaa
