/- The grammar of patterns as a relation: what stands at the head of some bytes, and what is behind it; or that there is none. Nothing of the program. -/
import Derived.Test.YtgncgdkpkkdaeaaDoorRe
namespace Tint

def isSign (c : UInt8) : Bool := [92, 40, 41, 91, 93, 124, 42, 43, 63, 46, 94, 45].contains c

/-- ONE. -/
def pOne : List UInt8 → Option (UInt8 × List UInt8)
  | [] => none
  | c :: s =>
    if c = 92 then
      match s with
      | [] => none
      | d :: s => if isSign d then some (d, s) else none
    else if isSign c then none
    else if 32 ≤ c.toNat ∧ c.toNat ≤ 126 then some (c, s) else none

/-- RANGE. -/
def pRange (s : List UInt8) : Option (Cls × List UInt8) :=
  match pOne s with
  | none => none
  | some (lo, s1) =>
    match s1 with
    | [] => some (.range lo lo, [])
    | c :: s2 =>
      if c = 45 then
        match pOne s2 with
        | none => none
        | some (hi, s3) => if lo.toNat ≤ hi.toNat then some (.range lo hi, s3) else none
      else some (.range lo lo, c :: s2)

/-- More RANGES, up to the bracket. -/
inductive PRs : Cls → List UInt8 → Option (Cls × List UInt8) → Prop where
  | stop {k : Cls} {s : List UInt8} : PRs k (93 :: s) (some (k, s))
  | bad {k : Cls} {s : List UInt8} : s.head? ≠ some 93 → pRange s = none → PRs k s none
  | more {k c : Cls} {s s' : List UInt8} {o : Option (Cls × List UInt8)} : s.head? ≠ some 93 → pRange s = some (c, s') → PRs (.union k c) s' o → PRs k s o

/-- What stands behind a class's bracket. -/
inductive PClass : List UInt8 → Option (Cls × List UInt8) → Prop where
  | pos {s s' : List UInt8} {c : Cls} {o : Option (Cls × List UInt8)} : s.head? ≠ some 94 → pRange s = some (c, s') → PRs c s' o → PClass s o
  | posBad {s : List UInt8} : s.head? ≠ some 94 → pRange s = none → PClass s none
  | neg {s s' : List UInt8} {c : Cls} {o : Option (Cls × List UInt8)} : pRange s = some (c, s') → PRs c s' o → PClass (94 :: s) (o.map fun p => (.compl p.1, p.2))
  | negBad {s : List UInt8} : pRange s = none → PClass (94 :: s) none

/-- Parts one behind the other, the last two put together first. -/
def seqOf : List Re → Re
  | [] => .eps
  | [r] => r
  | r :: rs => .seq r (seqOf rs)

/-- Is a CAT at its end? -/
def atEnd (s : List UInt8) : Prop := s = [] ∨ s.head? = some 124 ∨ s.head? = some 41

mutual
inductive PAtom : List UInt8 → Option (Re × List UInt8) → Prop where
  | paren {s s' : List UInt8} {r : Re} : PAlt s (some (r, 41 :: s')) → PAtom (40 :: s) (some (r, s'))
  | parenBad {s : List UInt8} : PAlt s none → PAtom (40 :: s) none
  | parenOpen {s s' : List UInt8} {r : Re} : PAlt s (some (r, s')) → s'.head? ≠ some 41 → PAtom (40 :: s) none
  | dot {s : List UInt8} : PAtom (46 :: s) (some (.cls .any, s))
  | cls {s : List UInt8} {o : Option (Cls × List UInt8)} : PClass s o → PAtom (91 :: s) (o.map fun p => (.cls p.1, p.2))
  | one {s : List UInt8} : s.head? ≠ some 40 → s.head? ≠ some 46 → s.head? ≠ some 91 → PAtom s ((pOne s).map fun p => (.cls (.range p.1 p.1), p.2))
inductive PPiece : List UInt8 → Option (Re × List UInt8) → Prop where
  | bad {s : List UInt8} : PAtom s none → PPiece s none
  | star {s s' : List UInt8} {r : Re} : PAtom s (some (r, 42 :: s')) → PPiece s (some (.star r, s'))
  | plus {s s' : List UInt8} {r : Re} : PAtom s (some (r, 43 :: s')) → PPiece s (some (.plus r, s'))
  | opt {s s' : List UInt8} {r : Re} : PAtom s (some (r, 63 :: s')) → PPiece s (some (.opt r, s'))
  | plain {s s' : List UInt8} {r : Re} : PAtom s (some (r, s')) → s'.head? ≠ some 42 → s'.head? ≠ some 43 → s'.head? ≠ some 63 → PPiece s (some (r, s'))
inductive PCat : List UInt8 → Option (List Re × List UInt8) → Prop where
  | stop {s : List UInt8} : atEnd s → PCat s (some ([], s))
  | bad {s : List UInt8} : ¬ atEnd s → PPiece s none → PCat s none
  | more {s s' s'' : List UInt8} {r : Re} {rs : List Re} : ¬ atEnd s → PPiece s (some (r, s')) → PCat s' (some (rs, s'')) → PCat s (some (r :: rs, s''))
  | moreBad {s s' : List UInt8} {r : Re} : ¬ atEnd s → PPiece s (some (r, s')) → PCat s' none → PCat s none
inductive PMore : Re → List UInt8 → Option (Re × List UInt8) → Prop where
  | stop {k : Re} {s : List UInt8} : s.head? ≠ some 124 → PMore k s (some (k, s))
  | bad {k : Re} {s : List UInt8} : PCat s none → PMore k (124 :: s) none
  | more {k : Re} {s s' : List UInt8} {rs : List Re} {o : Option (Re × List UInt8)} : PCat s (some (rs, s')) → PMore (.alt k (seqOf rs)) s' o → PMore k (124 :: s) o
inductive PAlt : List UInt8 → Option (Re × List UInt8) → Prop where
  | bad {s : List UInt8} : PCat s none → PAlt s none
  | one {s s' : List UInt8} {rs : List Re} {o : Option (Re × List UInt8)} : PCat s (some (rs, s')) → PMore (seqOf rs) s' o → PAlt s o
end

/-! ## What is behind is less -/

theorem pOne_len {s s' : List UInt8} {b : UInt8} (h : pOne s = some (b, s')) : s'.length < s.length := by
  unfold pOne at h
  split at h
  · cases h
  · split at h
    · split at h
      · cases h
      · split at h
        · simp only [Option.some.injEq, Prod.mk.injEq] at h; obtain ⟨_, rfl⟩ := h; simp; omega
        · cases h
    · split at h
      · cases h
      · split at h
        · simp only [Option.some.injEq, Prod.mk.injEq] at h; obtain ⟨_, rfl⟩ := h; simp
        · cases h

theorem pRange_len {s s' : List UInt8} {c : Cls} (h : pRange s = some (c, s')) : s'.length < s.length := by
  unfold pRange at h
  split at h
  · cases h
  · rename_i lo s1 h1
    have l1 := pOne_len h1
    split at h
    · simp only [Option.some.injEq, Prod.mk.injEq] at h; obtain ⟨_, rfl⟩ := h; simpa using l1
    · split at h
      · split at h
        · cases h
        · rename_i hi s3 h3
          have l3 := pOne_len h3
          split at h
          · simp only [Option.some.injEq, Prod.mk.injEq] at h; obtain ⟨_, rfl⟩ := h; simp at l1; omega
          · cases h
      · simp only [Option.some.injEq, Prod.mk.injEq] at h; obtain ⟨_, rfl⟩ := h; exact l1

theorem PRs.len {k : Cls} {s : List UInt8} {o : Option (Cls × List UInt8)} (h : PRs k s o) : ∀ c s', o = some (c, s') → s'.length < s.length := by
  induction h with
  | stop => intro c s' e; cases e; simp
  | bad _ _ => intro c s' e; cases e
  | more _ h _ ih => intro c s' e; have := ih c s' e; have := pRange_len h; omega

theorem PClass.len {s s' : List UInt8} {c : Cls} (h : PClass s (some (c, s'))) : s'.length < s.length := by
  generalize ho : some (c, s') = o at h
  cases h with
  | pos _ h k => have := k.len _ _ ho.symm; have := pRange_len h; omega
  | posBad _ _ => cases ho
  | neg h k =>
    rename_i s s2 c2 o
    cases o with
    | none => cases ho
    | some p =>
      simp only [Option.map_some, Option.some.injEq, Prod.mk.injEq] at ho
      have := k.len p.1 p.2 rfl
      have := pRange_len h
      rw [ho.2]; simp; omega
  | negBad _ => cases ho

/-! ## There is one answer -/

theorem PRs.det {k : Cls} {s : List UInt8} {o o' : Option (Cls × List UInt8)} (h : PRs k s o) (h' : PRs k s o') : o = o' := by
  induction h with
  | stop => cases h' with
    | stop => rfl
    | bad n _ => simp at n
    | more n _ _ => simp at n
  | bad n e => cases h' with
    | stop => simp at n
    | bad _ _ => rfl
    | more _ e' _ => rw [e] at e'; cases e'
  | more n e _ ih => cases h' with
    | stop => simp at n
    | bad _ e' => rw [e] at e'; cases e'
    | more _ e' k' => rw [e] at e'; cases e'; exact ih k'

theorem PClass.det {s : List UInt8} {o o' : Option (Cls × List UInt8)} (h : PClass s o) (h' : PClass s o') : o = o' := by
  cases h with
  | pos n e k => cases h' with
    | pos _ e' k' => rw [e] at e'; cases e'; exact k.det k'
    | posBad _ e' => rw [e] at e'; cases e'
    | neg _ _ => simp at n
    | negBad _ => simp at n
  | posBad n e => cases h' with
    | pos _ e' k' => rw [e] at e'; cases e'
    | posBad _ e' => rfl
    | neg _ _ => simp at n
    | negBad _ => simp at n
  | neg e k => cases h' with
    | pos n _ _ => simp at n
    | posBad n _ => simp at n
    | neg e' k' => rw [e] at e'; cases e'; rw [k.det k']
    | negBad e' => rw [e] at e'; cases e'
  | negBad e => cases h' with
    | pos n _ _ => simp at n
    | posBad n _ => simp at n
    | neg e' k' => rw [e] at e'; cases e'
    | negBad e' => rfl

mutual
theorem PAtom.det {s : List UInt8} {o o' : Option (Re × List UInt8)} (h : PAtom s o) (h' : PAtom s o') : o = o' := by
  match h with
  | .paren k => cases h' with
    | paren k' => have := PAlt.det k k'; simp only [Option.some.injEq, Prod.mk.injEq, List.cons.injEq, true_and] at this; rw [this.1, this.2]
    | parenBad k' => have := PAlt.det k k'; cases this
    | parenOpen k' n => have := PAlt.det k k'; simp only [Option.some.injEq, Prod.mk.injEq] at this; rw [← this.2] at n; simp at n
    | one n _ _ => simp at n
  | .parenBad k => cases h' with
    | paren k' => have := PAlt.det k k'; cases this
    | parenBad k' => rfl
    | parenOpen k' n => rfl
    | one n _ _ => simp at n
  | .parenOpen k n => cases h' with
    | paren k' => have := PAlt.det k k'; simp only [Option.some.injEq, Prod.mk.injEq] at this; rw [this.2] at n; simp at n
    | parenBad k' => rfl
    | parenOpen k' n => rfl
    | one n _ _ => simp at n
  | .dot => cases h' with
    | dot => rfl
    | one _ n _ => simp at n
  | .cls k => cases h' with
    | cls k' => rw [k.det k']
    | one _ _ n => simp at n
  | .one n1 n2 n3 => cases h' with
    | paren _ => simp at n1
    | parenBad _ => simp at n1
    | parenOpen _ _ => simp at n1
    | dot => simp at n2
    | cls _ => simp at n3
    | one _ _ _ => rfl
  termination_by structural h
theorem PPiece.det {s : List UInt8} {o o' : Option (Re × List UInt8)} (h : PPiece s o) (h' : PPiece s o') : o = o' := by
  match h with
  | .bad k => cases h' with
    | bad _ => rfl
    | star k' => cases PAtom.det k k'
    | plus k' => cases PAtom.det k k'
    | opt k' => cases PAtom.det k k'
    | plain k' _ _ _ => cases PAtom.det k k'
  | .star k => cases h' with
    | bad k' => cases PAtom.det k k'
    | star k' => cases PAtom.det k k'; rfl
    | plus k' => cases PAtom.det k k'
    | opt k' => cases PAtom.det k k'
    | plain k' n _ _ => cases PAtom.det k k'; simp at n
  | .plus k => cases h' with
    | bad k' => cases PAtom.det k k'
    | star k' => cases PAtom.det k k'
    | plus k' => cases PAtom.det k k'; rfl
    | opt k' => cases PAtom.det k k'
    | plain k' _ n _ => cases PAtom.det k k'; simp at n
  | .opt k => cases h' with
    | bad k' => cases PAtom.det k k'
    | star k' => cases PAtom.det k k'
    | plus k' => cases PAtom.det k k'
    | opt k' => cases PAtom.det k k'; rfl
    | plain k' _ _ n => cases PAtom.det k k'; simp at n
  | .plain k n1 n2 n3 => cases h' with
    | bad k' => cases PAtom.det k k'
    | star k' => cases PAtom.det k k'; simp at n1
    | plus k' => cases PAtom.det k k'; simp at n2
    | opt k' => cases PAtom.det k k'; simp at n3
    | plain k' _ _ _ => cases PAtom.det k k'; rfl
  termination_by structural h
theorem PCat.det {s : List UInt8} {o o' : Option (List Re × List UInt8)} (h : PCat s o) (h' : PCat s o') : o = o' := by
  match h with
  | .stop e => cases h' with
    | stop _ => rfl
    | bad n _ => exact absurd e n
    | more n _ _ => exact absurd e n
    | moreBad n _ _ => exact absurd e n
  | .bad n k => cases h' with
    | stop e => exact absurd e n
    | bad _ _ => rfl
    | more _ k' _ => cases PPiece.det k k'
    | moreBad _ _ _ => rfl
  | .more n k m => cases h' with
    | stop e => exact absurd e n
    | bad _ k' => cases PPiece.det k k'
    | more _ k' m' => cases PPiece.det k k'; cases PCat.det m m'; rfl
    | moreBad _ k' m' => cases PPiece.det k k'; cases PCat.det m m'
  | .moreBad n k m => cases h' with
    | stop e => exact absurd e n
    | bad _ k' => rfl
    | more _ k' m' => cases PPiece.det k k'; cases PCat.det m m'
    | moreBad _ k' m' => rfl
  termination_by structural h
theorem PMore.det {k : Re} {s : List UInt8} {o o' : Option (Re × List UInt8)} (h : PMore k s o) (h' : PMore k s o') : o = o' := by
  match h with
  | .stop n => cases h' with
    | stop _ => rfl
    | bad _ => simp at n
    | more _ _ => simp at n
  | .bad c => cases h' with
    | stop n => simp at n
    | bad _ => rfl
    | more c' _ => cases PCat.det c c'
  | .more c m => cases h' with
    | stop n => simp at n
    | bad c' => cases PCat.det c c'
    | more c' m' => cases PCat.det c c'; exact PMore.det m m'
  termination_by structural h
theorem PAlt.det {s : List UInt8} {o o' : Option (Re × List UInt8)} (h : PAlt s o) (h' : PAlt s o') : o = o' := by
  match h with
  | .bad c => cases h' with
    | bad _ => rfl
    | one c' _ => cases PCat.det c c'
  | .one c m => cases h' with
    | bad c' => cases PCat.det c c'
    | one c' m' => cases PCat.det c c'; exact PMore.det m m'
  termination_by structural h
end

end Tint
