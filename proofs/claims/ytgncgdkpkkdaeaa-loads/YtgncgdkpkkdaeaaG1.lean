/- Grammars, pure: what a line says, how the lines are gone through, which fault is told. Nothing of the program. -/
import Derived.Test.YtgncgdkpkkdaeaaPar
import Derived.Lib.CutLaws
namespace Tint

/-- The bytes ahead of the first c, and those behind it. -/
def cutAt (c : UInt8) : List UInt8 → List UInt8 × Option (List UInt8)
  | [] => ([], none)
  | x :: l => if x = c then ([], some l) else (x :: (cutAt c l).1, (cutAt c l).2)

theorem cutAt_hit {c : UInt8} {a : List UInt8} (b : List UInt8) (h : c ∉ a) : cutAt c (a ++ c :: b) = (a, some b) := by
  induction a with
  | nil => simp [cutAt]
  | cons x a ih =>
    have h1 : ¬ x = c := fun e => h (by simp [e])
    have h2 := ih (fun e => h (List.mem_cons_of_mem _ e))
    simp [cutAt, h1, h2]

theorem cutAt_miss {c : UInt8} {a : List UInt8} (h : c ∉ a) : cutAt c a = (a, none) := by
  induction a with
  | nil => rfl
  | cons x a ih =>
    have h1 : ¬ x = c := fun e => h (by simp [e])
    have h2 := ih (fun e => h (List.mem_cons_of_mem _ e))
    simp [cutAt, h1, h2]

theorem cutAt_cases (c : UInt8) (l : List UInt8) : (∃ a b, l = a ++ c :: b ∧ c ∉ a ∧ cutAt c l = (a, some b)) ∨ (c ∉ l ∧ cutAt c l = (l, none)) := by
  induction l with
  | nil => exact .inr ⟨by simp, rfl⟩
  | cons x l ih =>
    by_cases hx : x = c
    · subst hx
      exact .inl ⟨[], l, rfl, by simp, by simp [cutAt]⟩
    · rcases ih with ⟨a, b, rfl, hn, -⟩ | ⟨hn, -⟩
      · have h1 : c ∉ x :: a := by simp [hn, Ne.symm hx]
        exact .inl ⟨x :: a, b, rfl, h1, cutAt_hit b h1⟩
      · have h1 : c ∉ x :: l := by simp [hn, Ne.symm hx]
        exact .inr ⟨h1, cutAt_miss h1⟩

theorem index_hit {a b t : List UInt8} {c : UInt8} (h : c ∉ a) (ht : (c :: t).isPrefixOf (c :: b) = true) : Go.Lib.index (a ++ c :: b) (c :: t) = a.length := by
  refine Go.Lib.index_first (by simp) ?_ ?_
  · simp only [Go.Lib.occAt, List.drop_left]; exact ht
  · intro j hj
    rw [Go.Lib.occAt, List.drop_append_of_le_length (by omega), List.drop_eq_getElem_cons hj]
    simp only [List.cons_append, List.isPrefixOf, Bool.and_eq_false_iff]
    left
    rw [beq_eq_false_iff_ne]
    intro e
    exact h (e ▸ List.getElem_mem hj)

theorem index_miss {l t : List UInt8} {c : UInt8} (h : c ∉ l) : Go.Lib.index l (c :: t) = -1 := by
  refine Go.Lib.index_none ?_
  intro j _
  rw [Go.Lib.occAt]
  rcases Nat.lt_or_ge j l.length with hj | hj
  · rw [List.drop_eq_getElem_cons hj]
    simp only [List.isPrefixOf, Bool.and_eq_false_iff]
    left
    rw [beq_eq_false_iff_ne]
    intro e
    exact h (e ▸ List.getElem_mem hj)
  · rw [List.drop_of_length_le hj]; rfl

theorem cut_hit {a b t : List UInt8} {c : UInt8} (h : c ∉ a) : Go.Lib.cut (a ++ c :: (t ++ b)) (c :: t) = (a, b, true) := by
  have hp : (c :: t).isPrefixOf (c :: (t ++ b)) = true := by
    rw [List.isPrefixOf_iff_prefix]; exact ⟨b, by simp⟩
  unfold Go.Lib.cut
  rw [index_hit h hp, if_pos (by omega)]
  simp

theorem cut_miss {l t : List UInt8} {c : UInt8} (h : c ∉ l) : Go.Lib.cut l (c :: t) = (l, [], false) := by
  unfold Go.Lib.cut
  rw [index_miss h, if_neg (by omega)]

/-- Cut at one byte. -/
theorem cut_one (c : UInt8) (l : List UInt8) : (∃ a b, l = a ++ c :: b ∧ c ∉ a ∧ cutAt c l = (a, some b) ∧ Go.Lib.cut l [c] = (a, b, true)) ∨ (c ∉ l ∧ cutAt c l = (l, none) ∧ Go.Lib.cut l [c] = (l, [], false)) := by
  rcases cutAt_cases c l with ⟨a, b, rfl, hn, hc⟩ | ⟨hn, hc⟩
  · exact .inl ⟨a, b, rfl, hn, hc, cut_hit (t := []) hn⟩
  · exact .inr ⟨hn, hc, cut_miss hn⟩

def isName (l : List UInt8) : Bool := decide (1 ≤ l.length) && decide (l.length ≤ 12) && l.all fun x => decide (97 ≤ x.toNat) && decide (x.toNat ≤ 122)

theorem isName_mem {l : List UInt8} (h : isName l = true) {c : UInt8} (hc : c ∈ l) : 97 ≤ c.toNat := by
  simp only [isName, Bool.and_eq_true, List.all_eq_true, decide_eq_true_eq] at h
  exact (h.2 c hc).1

theorem isName_blank {l : List UInt8} (h : isName l = true) : (32 : UInt8) ∉ l := fun hc => by
  have := isName_mem h hc
  simp at this

/-- A rule's colour and pattern. -/
def ruleBody (r : List UInt8) : Option (List UInt8 × List UInt8) :=
  match cutAt 32 r with
  | (c, some (61 :: 32 :: p)) => if isName c = true then some (c, p) else none
  | _ => none

theorem ruleBody_some {r c p : List UInt8} (h : ruleBody r = some (c, p)) : r = c ++ 32 :: 61 :: 32 :: p ∧ isName c = true := by
  unfold ruleBody at h
  split at h
  · rename_i c' p' hc
    split at h
    · rename_i hn
      cases h
      rcases cutAt_cases 32 r with ⟨a, b, rfl, -, e⟩ | ⟨-, e⟩
      · rw [e] at hc; cases hc; exact ⟨rfl, hn⟩
      · rw [e] at hc; cases hc
    · cases h
  · cases h

theorem ruleBody_of {c p : List UInt8} (hn : isName c = true) : ruleBody (c ++ 32 :: 61 :: 32 :: p) = some (c, p) := by
  unfold ruleBody
  rw [cutAt_hit _ (isName_blank hn)]
  simp [hn]

/-- Cut at a blank, the sign = and a blank, and what is asked of its parts. -/
theorem cut_rule (r : List UInt8) : (∃ c p, ruleBody r = some (c, p) ∧ isName c = true ∧ Go.Lib.cut r [32, 61, 32] = (c, p, true)) ∨
    (ruleBody r = none ∧ ((Go.Lib.cut r [32, 61, 32]).2.2 = false ∨ isName (Go.Lib.cut r [32, 61, 32]).1 = false)) := by
  cases h : ruleBody r with
  | some cp =>
    obtain ⟨c, p⟩ := cp
    obtain ⟨rfl, hn⟩ := ruleBody_some h
    exact .inl ⟨c, p, rfl, hn, cut_hit (t := [61, 32]) (isName_blank hn)⟩
  | none =>
    refine .inr ⟨rfl, ?_⟩
    cases hb : (Go.Lib.cut r [32, 61, 32]).2.2 with
    | false => exact .inl rfl
    | true =>
      cases hm : isName (Go.Lib.cut r [32, 61, 32]).1 with
      | false => exact .inr rfl
      | true =>
        exfalso
        unfold Go.Lib.cut at hb hm
        split at hb
        · rename_i hi
          rw [if_pos hi] at hm
          rcases Go.Lib.index_spec r [32, 61, 32] with ⟨hn, -⟩ | ⟨i, hx, -, ho, -⟩
          · omega
          rw [hx] at hm
          simp only [Int.toNat_natCast] at hm
          rw [Go.Lib.occAt, List.isPrefixOf_iff_prefix] at ho
          obtain ⟨p, hp⟩ := ho
          have e : r = r.take i ++ 32 :: 61 :: 32 :: p := by
            rw [show (32 : UInt8) :: 61 :: 32 :: p = [32, 61, 32] ++ p from rfl, hp, List.take_append_drop]
          rw [e, ruleBody_of hm] at h
          cases h
        · cases hb
end Tint
