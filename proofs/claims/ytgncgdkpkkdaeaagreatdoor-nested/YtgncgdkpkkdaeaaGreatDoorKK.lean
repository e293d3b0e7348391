import Derived.Test.YtgncgdkpkkdaeaaGreatDoorKB
namespace Go.Proofs.YtgncgdkpkkdaeaaGreatDoor
open Go.RowKit Tint
def seg (T : List UInt8) (i j : Nat) : List UInt8 := (T.drop i).take (j - i)
theorem seg_self (T : List UInt8) (i : Nat) : seg T i i = [] := by simp [seg]
theorem seg_append (T : List UInt8) {i j k : Nat} (h1 : i ≤ j) (h2 : j ≤ k) : seg T i k = seg T i j ++ seg T j k := by
 unfold seg
 have e : k - i = (j - i) + (k - j) := by omega
 rw [e, List.take_add, List.drop_drop]
 have e2 : i + (j - i) = j := by omega
 rw [e2]
theorem seg_one (T : List UInt8) {i : Nat} {b : UInt8} (h : T[i]? = some b) : seg T i (i + 1) = [b] := by
 have hl := get_lt h
 rw [List.getElem?_eq_getElem hl] at h
 unfold seg
 rw [List.drop_eq_getElem_cons hl, Option.some.inj h]
 have e : i + 1 - i = 1 := by omega
 rw [e]
 rfl
def From (r : Re) (T : List UInt8) (i : Nat) : Prop := ∃ j, i ≤ j ∧ j ≤ T.length ∧ Mt r (seg T i j)
def IsMatch (r : Re) (T : List UInt8) (f : Nat) : Option (Nat × Nat) → Prop
 | none => ∀ i, f ≤ i → ¬ From r T i
 | some (s, e) => f ≤ s ∧ s ≤ e ∧ e ≤ T.length ∧ Mt r (seg T s e) ∧ (∀ i, f ≤ i → i < s → ¬ From r T i) ∧ ∀ j, e < j → j ≤ T.length → ¬ Mt r (seg T s j)
def found : Option (Nat × Nat) → Value
 | none => .tuple #[.int .i64 0, .int .i64 0, .bool false]
 | some (s, e) => .tuple #[.int .i64 s, .int .i64 e, .bool true]
theorem IsMatch.unique {r : Re} {T : List UInt8} {f : Nat} {o o' : Option (Nat × Nat)} (h : IsMatch r T f o) (h' : IsMatch r T f o') : o = o' := by
 have key : ∀ s e, IsMatch r T f (some (s, e)) → From r T s := fun s e h => ⟨e, h.2.1, h.2.2.1, h.2.2.2.1⟩
 cases o with
 | none => cases o' with
  | none => rfl
  | some p => exact absurd (key p.1 p.2 h') (h p.1 h'.1)
 | some p => cases o' with
  | none => exact absurd (key p.1 p.2 h) (h' p.1 h.1)
  | some q =>
   obtain ⟨s, e⟩ := p
   obtain ⟨s', e'⟩ := q
   have hs : s = s' := by
    rcases Nat.lt_trichotomy s s' with h1 | h1 | h1
    ·exact absurd (key s e h) (h'.2.2.2.2.1 s h.1 h1)
    ·exact h1
    ·exact absurd (key s' e' h') (h.2.2.2.2.1 s' h'.1 h1)
   subst hs
   have he : e = e' := by
    rcases Nat.lt_trichotomy e e' with h1 | h1 | h1
    ·exact absurd h'.2.2.2.1 (h.2.2.2.2.2 e' h1 h'.2.2.1)
    ·exact h1
    ·exact absurd h.2.2.2.1 (h'.2.2.2.2.2 e h1 h.2.2.1)
   subst he
   rfl
theorem text_get {text : ByteArray} {i : Nat} (h : i < text.size) : text.data.toList[i]? = some text[i] := by
 rw [List.getElem?_eq_getElem (show i < text.data.toList.length from h)]
 rfl
theorem text_length (text : ByteArray) : text.data.toList.length = text.size := rfl
end Go.Proofs.YtgncgdkpkkdaeaaGreatDoor
