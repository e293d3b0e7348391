/- Patterns put together piece by piece, and what they match. -/
import Derived.Test.YtgncgdkpkkdaeaaDoorR22
namespace Go.Proofs.YtgncgdkpkkdaeaaDoor
open Tint

/-- Does a term match? By its derivatives. -/
def accB : List UInt8 → D → Bool
  | [], d => d.re.nullable
  | b :: u, d => (pd b d).any (accB u)

theorem accB_iff (u : List UInt8) (d : D) : accB u d = true ↔ Mt d.re u := by
  induction u generalizing d with
  | nil => rw [mt_nil]; rfl
  | cons b u ih =>
    rw [pd_spec]
    simp only [accB, List.any_eq_true]
    exact ⟨fun ⟨x, h1, h2⟩ => ⟨x, h1, (ih x).1 h2⟩, fun ⟨x, h1, h2⟩ => ⟨x, h1, (ih x).2 h2⟩⟩

/-! ## One behind the other -/

def MtL : List Re → List UInt8 → Prop
  | [], u => u = []
  | r :: rs, u => ∃ a b, u = a ++ b ∧ Mt r a ∧ MtL rs b

theorem mt_seqOf : ∀ (rs : List Re) (u : List UInt8), Mt (seqOf rs) u ↔ MtL rs u
  | [], u => by rw [show seqOf [] = .eps from rfl, mt_eps]; rfl
  | [r], u => by
    show Mt r u ↔ ∃ a b, u = a ++ b ∧ Mt r a ∧ b = []
    exact ⟨fun h => ⟨u, [], by simp, h, rfl⟩, fun ⟨a, b, h1, h2, h3⟩ => by subst h3; simp at h1; subst h1; exact h2⟩
  | r :: q :: rs, u => by
    show Mt (.seq r (seqOf (q :: rs))) u ↔ _
    rw [mt_seq]
    exact ⟨fun ⟨a, b, h1, h2, h3⟩ => ⟨a, b, h1, h2, (mt_seqOf (q :: rs) b).1 h3⟩, fun ⟨a, b, h1, h2, h3⟩ => ⟨a, b, h1, h2, (mt_seqOf (q :: rs) b).2 h3⟩⟩

/-- No sign stands here. -/
def NoSign (s : List UInt8) : Prop := s.head? ≠ some 42 ∧ s.head? ≠ some 43 ∧ s.head? ≠ some 63

/-- A piece of a pattern: whatever stands behind it, if it is no sign. -/
def IsPiece (b : List UInt8) (r : Re) : Prop := (∀ s, NoSign s → ¬ atEnd (b ++ s) ∧ PPiece (b ++ s) (some (r, s))) ∧ ∀ s, NoSign (b ++ s)

/-- Pieces one behind the other. -/
inductive Pieces : List UInt8 → List Re → Prop where
  | nil : Pieces [] []
  | snoc {b c : List UInt8} {rs : List Re} {r : Re} : Pieces b rs → IsPiece c r → Pieces (b ++ c) (rs ++ [r])

theorem noSign_end {s : List UInt8} (h : atEnd s) : NoSign s := by
  rcases h with rfl | h | h
  · simp [NoSign]
  · simp [NoSign, h]
  · simp [NoSign, h]

theorem PCat.pieces {b : List UInt8} {rs : List Re} (h : Pieces b rs) : ∀ s qs s', NoSign s → PCat s (some (qs, s')) → PCat (b ++ s) (some (rs ++ qs, s')) ∧ NoSign (b ++ s) := by
  induction h with
  | nil => intro s qs s' h1 h2; exact ⟨h2, h1⟩
  | snoc hb hc ih =>
    rename_i b c rs r
    intro s qs s' h1 h2
    obtain ⟨h3, h4⟩ := hc.1 s h1
    have := ih (c ++ s) (r :: qs) s' (hc.2 s) (.more h3 h4 h2)
    rw [List.append_assoc, List.append_assoc]
    exact this

theorem PAlt.pieces {b : List UInt8} {rs : List Re} (h : Pieces b rs) : PAlt b (some (seqOf rs, [])) := by
  have h1 := (PCat.pieces h [] [] [] (noSign_end (.inl rfl)) (.stop (.inl rfl))).1
  rw [List.append_nil, List.append_nil] at h1
  exact .one h1 (.stop (by simp))

/-- Two of them, in brackets. -/
theorem PAlt.either {b c : List UInt8} {rs qs : List Re} (h : Pieces b rs) (k : Pieces c qs) : PAlt (40 :: (b ++ 124 :: (c ++ [41]))) (some (.alt (seqOf rs) (seqOf qs), [])) := by
  have h2 := (PCat.pieces k [41] [] [41] (noSign_end (.inr (.inr rfl))) (.stop (.inr (.inr rfl)))).1
  have h1 := (PCat.pieces h (124 :: (c ++ [41])) [] (124 :: (c ++ [41])) (noSign_end (.inr (.inl rfl))) (.stop (.inr (.inl rfl)))).1
  rw [List.append_nil] at h1 h2
  have h3 : PAlt (b ++ 124 :: (c ++ [41])) (some (.alt (seqOf rs) (seqOf qs), [41])) := .one h1 (.more h2 (.stop (by simp)))
  have h4 : PAtom (40 :: (b ++ 124 :: (c ++ [41]))) (some (.alt (seqOf rs) (seqOf qs), [])) := .paren h3
  exact .one (.more (by simp [atEnd]) (.plain h4 (by simp) (by simp) (by simp)) (.stop (.inl rfl))) (.stop (by simp))

/-- Match of a pattern that is one. -/
theorem MatchIs.pat {p T : List UInt8} {f : Nat} {r : Re} {v : Value} (h : MatchIs p T f v) (hl : p.length ≤ 60) (hp : PAlt p (some (r, []))) (hf : f ≤ T.length) :
    ∃ o, IsMatch r T f o ∧ ((o = none ∧ v = .tuple #[.int .i64 0, .int .i64 0, .bool false, .int .i64 0]) ∨ ∃ s e : Nat, o = some (s, e) ∧ v = .tuple #[.int .i64 s, .int .i64 e, .bool true, .int .i64 0]) := by
  rcases h with ⟨h1, _⟩ | ⟨_, h2, _⟩ | ⟨r', _, _, h3, _⟩ | ⟨r', _, h4, f', h5, _, h6⟩
  · omega
  · rcases h2 with h2 | ⟨r', s', h3, h2⟩
    · have := PAlt.det hp h2; cases this
    · have := PAlt.det hp h2
      simp only [Option.some.injEq, Prod.mk.injEq] at this
      exact absurd this.2.symm h3
  · omega
  · have := PAlt.det hp h4
    simp only [Option.some.injEq, Prod.mk.injEq, and_true] at this
    subst this
    obtain rfl : f = f' := by omega
    rcases h6 with ⟨h6, h7⟩ | ⟨s, e, h6, h7⟩
    · exact ⟨none, h6, .inl ⟨rfl, h7⟩⟩
    · exact ⟨some (s, e), h6, .inr ⟨s, e, rfl, h7⟩⟩
end Go.Proofs.YtgncgdkpkkdaeaaDoor
