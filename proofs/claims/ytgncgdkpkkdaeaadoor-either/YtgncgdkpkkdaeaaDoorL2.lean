/- A text, its signs with a \ ahead, as a pattern: what it matches. -/
import Derived.Test.YtgncgdkpkkdaeaaDoorL1
namespace Go.Proofs.YtgncgdkpkkdaeaaDoor
open Tint

def escB (c : UInt8) : List UInt8 := if isSign c = true then [92, c] else [c]
def escL (cs : List UInt8) : List UInt8 := cs.flatMap escB
def Prints (cs : List UInt8) : Prop := ∀ c ∈ cs, 32 ≤ c.toNat ∧ c.toNat ≤ 126
def lits (cs : List UInt8) : List Re := cs.map fun c => .cls (.range c c)

theorem esc_piece {c : UInt8} (h : 32 ≤ c.toNat ∧ c.toNat ≤ 126) : IsPiece (escB c) (.cls (.range c c)) := by
  unfold escB
  split
  · rename_i hs
    exact (at_esc hs).plain
  · rename_i hs
    exact (at_one (by simpa using hs) h.1 h.2).plain

theorem Pieces.esc : ∀ (cs b : List UInt8) (rs : List Re), Pieces b rs → Prints cs → Pieces (b ++ escL cs) (rs ++ lits cs)
  | [], b, rs, hb, _ => by simpa [escL, lits] using hb
  | c :: cs, b, rs, hb, h => by
    have := Pieces.esc cs _ _ (hb.snoc (esc_piece (h c (by simp)))) (fun x hx => h x (by simp [hx]))
    simpa [escL, lits, List.append_assoc] using this

theorem escL_length : ∀ cs : List UInt8, (escL cs).length ≤ 2 * cs.length
  | [] => by simp [escL]
  | c :: cs => by
    have h1 := escL_length cs
    have h2 : (escB c).length ≤ 2 := by unfold escB; split <;> simp
    simp only [escL, List.flatMap_cons, List.length_append, List.length_cons] at *
    omega

theorem escL_snoc (cs : List UInt8) (c : UInt8) : escL (cs ++ [c]) = escL cs ++ escB c := by simp [escL]

theorem pat_esc {cs : List UInt8} (h : Prints cs) : PAlt (escL cs) (some (seqOf (lits cs), [])) := by
  have := PAlt.pieces (Pieces.esc cs [] [] .nil h)
  simpa using this

theorem pat_far {cs : List UInt8} (h : Prints cs) : PAlt ([46, 42] ++ escL cs) (some (seqOf (.star (.cls .any) :: lits cs), [])) :=
  PAlt.pieces (Pieces.esc cs [46, 42] [.star (.cls .any)] (.snoc (b := []) (rs := []) (c := [46, 42]) .nil at_dot.star) h)

theorem mt_one {c : UInt8} {u : List UInt8} : Mt (.cls (.range c c)) u ↔ u = [c] := by
  constructor
  · intro h
    cases h with
    | cls h =>
      rename_i b
      simp only [Cls.has, Bool.and_eq_true, decide_eq_true_eq] at h
      have : b = c := UInt8.toNat_inj.1 (by omega)
      rw [this]
  · rintro rfl
    exact .cls (by simp [Cls.has])

theorem mtL_lits : ∀ (cs u : List UInt8), MtL (lits cs) u ↔ u = cs
  | [], u => by simp [lits, MtL]
  | c :: cs, u => by
    show (∃ a b, u = a ++ b ∧ Mt (.cls (.range c c)) a ∧ MtL (lits cs) b) ↔ _
    simp only [mt_one, mtL_lits cs]
    constructor
    · rintro ⟨a, b, rfl, rfl, rfl⟩; rfl
    · rintro rfl; exact ⟨[c], cs, rfl, rfl, rfl⟩

theorem mt_all : ∀ u : List UInt8, Mt (.star (.cls .any)) u
  | [] => .star0
  | b :: u => .starS (u := [b]) (.cls rfl) (mt_all u)

theorem mt_esc (cs u : List UInt8) : Mt (seqOf (lits cs)) u ↔ u = cs := by rw [mt_seqOf, mtL_lits]
theorem mt_far (cs u : List UInt8) : Mt (seqOf (.star (.cls .any) :: lits cs)) u ↔ ∃ v, u = v ++ cs := by
  rw [mt_seqOf]
  constructor
  · rintro ⟨a, b, rfl, _, h⟩
    exact ⟨a, by rw [(mtL_lits cs b).1 h]⟩
  · rintro ⟨v, rfl⟩
    exact ⟨v, cs, rfl, mt_all v, (mtL_lits cs cs).2 rfl⟩

/-- The word stands there. -/
def Occ (T cs : List UInt8) (i : Nat) : Prop := i + cs.length ≤ T.length ∧ seg T i (i + cs.length) = cs

theorem seg_length {T : List UInt8} {i j : Nat} (h : i ≤ j) (hj : j ≤ T.length) : (seg T i j).length = j - i := by
  simp only [seg, List.length_take, List.length_drop]; omega

theorem seg_occ {T cs : List UInt8} {i j : Nat} (h : i ≤ j) (hj : j ≤ T.length) (hs : seg T i j = cs) : j = i + cs.length ∧ Occ T cs i := by
  have h1 := seg_length h hj
  rw [hs] at h1
  have h2 : j = i + cs.length := by omega
  exact ⟨h2, by omega, by rw [← h2]; exact hs⟩

theorem seg_tail {T cs v : List UInt8} {i j : Nat} (h : i ≤ j) (hj : j ≤ T.length) (hs : seg T i j = v ++ cs) : ∃ k, i ≤ k ∧ j = k + cs.length ∧ Occ T cs k := by
  have h1 := seg_length h hj
  rw [hs, List.length_append] at h1
  refine ⟨i + v.length, by omega, by omega, by omega, ?_⟩
  have h2 : j = i + v.length + cs.length := by omega
  have h3 := seg_append T (i := i) (j := i + v.length) (k := j) (by omega) (by omega)
  rw [hs] at h3
  have h4 := (List.append_inj h3 (by rw [seg_length (by omega) (by omega)]; omega)).2
  rw [← h2]
  exact h4.symm

/-- Up to i: the first and the last place where the word stands. -/
def Scan (T cs : List UInt8) (f i : Nat) : Option (Nat × Nat) → Prop
  | none => ∀ k, f ≤ k → k < i → ¬ Occ T cs k
  | some (a, b) => f ≤ a ∧ a ≤ b ∧ b < i ∧ Occ T cs a ∧ Occ T cs b ∧ (∀ k, f ≤ k → k < a → ¬ Occ T cs k) ∧ ∀ k, b < k → k < i → ¬ Occ T cs k

def scanStep (i : Nat) : Option (Nat × Nat) → Option (Nat × Nat)
  | none => some (i, i)
  | some (a, _) => some (a, i)

theorem Scan.start (T cs : List UInt8) (f : Nat) : Scan T cs f f none := fun k h1 h2 => by omega

theorem Scan.hit {T cs : List UInt8} {f i : Nat} {o : Option (Nat × Nat)} (h : Scan T cs f i o) (hf : f ≤ i) (ho : Occ T cs i) : Scan T cs f (i + 1) (scanStep i o) := by
  cases o with
  | none => exact ⟨hf, Nat.le_refl _, Nat.lt_succ_self _, ho, ho, h, fun k h1 h2 => by omega⟩
  | some p => exact ⟨h.1, by have := h.2.1; have := h.2.2.1; omega, Nat.lt_succ_self _, h.2.2.2.1, ho, h.2.2.2.2.2.1, fun k h1 h2 => by omega⟩

theorem Scan.miss {T cs : List UInt8} {f i : Nat} {o : Option (Nat × Nat)} (h : Scan T cs f i o) (ho : ¬ Occ T cs i) : Scan T cs f (i + 1) o := by
  have key : ∀ k, k < i + 1 → k < i ∨ k = i := fun k h => by omega
  cases o with
  | none => exact fun k h1 h2 => (key k h2).elim (h k h1) (fun e => by rw [e]; exact ho)
  | some p => exact ⟨h.1, h.2.1, Nat.lt_succ_of_lt h.2.2.1, h.2.2.2.1, h.2.2.2.2.1, h.2.2.2.2.2.1, fun k h1 h2 => (key k h2).elim (h.2.2.2.2.2.2 k h1) (fun e => by rw [e]; exact ho)⟩

def near (n : Nat) : Option (Nat × Nat) → Option (Nat × Nat)
  | none => none
  | some (a, _) => some (a, a + n)
def farther (n f : Nat) : Option (Nat × Nat) → Option (Nat × Nat)
  | none => none
  | some (_, b) => some (f, b + n)

theorem Scan.near {T cs : List UInt8} {f i : Nat} {o : Option (Nat × Nat)} (h : Scan T cs f i o) (hi : T.length < i + cs.length) : IsMatch (seqOf (lits cs)) T f (near cs.length o) := by
  cases o with
  | none =>
    rintro k hk ⟨j, h1, h2, h3⟩
    obtain ⟨h4, h5⟩ := seg_occ h1 h2 ((mt_esc cs _).1 h3)
    exact h k hk (by have := h5.1; omega) h5
  | some p =>
    obtain ⟨a, b⟩ := p
    obtain ⟨h1, h2, h3, h4, h5, h6, h7⟩ := h
    refine ⟨h1, by omega, h4.1, (mt_esc cs _).2 h4.2, ?_, ?_⟩
    · rintro k hk hka ⟨j, g1, g2, g3⟩
      exact h6 k hk hka (seg_occ g1 g2 ((mt_esc cs _).1 g3)).2
    · intro j g1 g2 g3
      have := (seg_occ (by omega) g2 ((mt_esc cs _).1 g3)).1
      omega

theorem Scan.far {T cs : List UInt8} {f i : Nat} {o : Option (Nat × Nat)} (h : Scan T cs f i o) (hi : T.length < i + cs.length) : IsMatch (seqOf (.star (.cls .any) :: lits cs)) T f (farther cs.length f o) := by
  cases o with
  | none =>
    rintro k hk ⟨j, h1, h2, h3⟩
    obtain ⟨v, hv⟩ := (mt_far cs _).1 h3
    obtain ⟨m, g1, g2, g3⟩ := seg_tail h1 h2 hv
    exact h m (by omega) (by have := g3.1; omega) g3
  | some p =>
    obtain ⟨a, b⟩ := p
    obtain ⟨h1, h2, h3, h4, h5, h6, h7⟩ := h
    refine ⟨Nat.le_refl _, by omega, h5.1, (mt_far cs _).2 ⟨seg T f b, ?_⟩, fun k g1 g2 => by omega, ?_⟩
    · rw [seg_append T (i := f) (j := b) (by omega) (by omega), h5.2]
    · intro j g1 g2 g3
      obtain ⟨v, hv⟩ := (mt_far cs _).1 g3
      obtain ⟨m, k1, k2, k3⟩ := seg_tail (by omega) g2 hv
      exact h7 m (by omega) (by have := k3.1; omega) k3
end Go.Proofs.YtgncgdkpkkdaeaaDoor
