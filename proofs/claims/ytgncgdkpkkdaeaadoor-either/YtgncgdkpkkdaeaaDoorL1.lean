/- Atoms; the document's two examples. -/
import Derived.Test.YtgncgdkpkkdaeaaDoorL0
namespace Go.Proofs.YtgncgdkpkkdaeaaDoor
open Go.RowKit Tint

def IsAtom (b : List UInt8) (r : Re) : Prop := (∀ s, PAtom (b ++ s) (some (r, s))) ∧ (∀ s, ¬ atEnd (b ++ s)) ∧ ∀ s, NoSign (b ++ s)

theorem at_one {c : UInt8} (h1 : isSign c = false) (h2 : 32 ≤ c.toNat) (h3 : c.toNat ≤ 126) : IsAtom [c] (.cls (.range c c)) := by
  have hn : ∀ d, isSign d = true → c ≠ d := fun d hd e => by rw [e, hd] at h1; cases h1
  have hp : ∀ s, pOne ([c] ++ s) = some (c, s) := fun s => by
    show pOne (c :: s) = _
    simp [pOne, hn 92 (by decide), h1, h2, h3]
  refine ⟨fun s => ?_, fun s => ?_, fun s => ?_⟩
  · have := PAtom.one (s := [c] ++ s) (by simpa using hn 40 (by decide)) (by simpa using hn 46 (by decide)) (by simpa using hn 91 (by decide))
    rw [hp] at this
    exact this
  · simp [atEnd, hn 124 (by decide), hn 41 (by decide)]
  · simp [NoSign, hn 42 (by decide), hn 43 (by decide), hn 63 (by decide)]

theorem at_esc {d : UInt8} (h : isSign d = true) : IsAtom [92, d] (.cls (.range d d)) := by
  have hp : ∀ s, pOne ([92, d] ++ s) = some (d, s) := fun s => by
    show pOne (92 :: d :: s) = _
    simp [pOne, h]
  refine ⟨fun s => ?_, fun s => ?_, fun s => ?_⟩
  · have := PAtom.one (s := [92, d] ++ s) (by simp) (by simp) (by simp)
    rw [hp] at this
    exact this
  · simp [atEnd]
  · simp [NoSign]

theorem at_dot : IsAtom [46] (.cls .any) := ⟨fun _ => .dot, fun s => by simp [atEnd], fun s => by simp [NoSign]⟩

theorem at_ab : IsAtom [91, 97, 45, 98, 93] (.cls (.range 97 98)) := by
  refine ⟨fun s => ?_, fun s => by simp [atEnd], fun s => by simp [NoSign]⟩
  exact PAtom.cls (s := 97 :: 45 :: 98 :: 93 :: s) (o := some (.range 97 98, s)) (.pos (s' := 93 :: s) (c := .range 97 98) (by simp) (by rfl) .stop)

theorem at_nac : IsAtom [91, 94, 97, 45, 99, 93] (.cls (.compl (.range 97 99))) := by
  refine ⟨fun s => ?_, fun s => by simp [atEnd], fun s => by simp [NoSign]⟩
  exact PAtom.cls (s := 94 :: 97 :: 45 :: 99 :: 93 :: s) (o := some (.compl (.range 97 99), s)) (.neg (s' := 93 :: s) (c := .range 97 99) (o := some (.range 97 99, s)) (by rfl) .stop)

theorem IsAtom.plain {b : List UInt8} {r : Re} (h : IsAtom b r) : IsPiece b r := ⟨fun s hs => ⟨h.2.1 s, .plain (h.1 s) hs.1 hs.2.1 hs.2.2⟩, h.2.2⟩

theorem IsAtom.star {b : List UInt8} {r : Re} (h : IsAtom b r) : IsPiece (b ++ [42]) (.star r) :=
  ⟨fun s _ => ⟨by rw [List.append_assoc]; exact h.2.1 _, by rw [List.append_assoc]; exact .star (h.1 _)⟩, fun s => by rw [List.append_assoc]; exact h.2.2 _⟩
theorem IsAtom.plus {b : List UInt8} {r : Re} (h : IsAtom b r) : IsPiece (b ++ [43]) (.plus r) :=
  ⟨fun s _ => ⟨by rw [List.append_assoc]; exact h.2.1 _, by rw [List.append_assoc]; exact .plus (h.1 _)⟩, fun s => by rw [List.append_assoc]; exact h.2.2 _⟩
theorem IsAtom.opt {b : List UInt8} {r : Re} (h : IsAtom b r) : IsPiece (b ++ [63]) (.opt r) :=
  ⟨fun s _ => ⟨by rw [List.append_assoc]; exact h.2.1 _, by rw [List.append_assoc]; exact .opt (h.1 _)⟩, fun s => by rw [List.append_assoc]; exact h.2.2 _⟩

/-! ## By computing -/

def checkB (a : ARe) (T : List UInt8) (f s e : Nat) : Bool :=
  decide (f ≤ s) && decide (s ≤ e) && decide (e ≤ T.length) && accB (seg T s e) (.base a) && ((List.range s).all fun i => decide (i < f) || (List.range (T.length + 1)).all fun j => !accB (seg T i j) (.base a)) && (List.range (T.length + 1)).all fun j => decide (j ≤ e) || !accB (seg T s j) (.base a)

theorem isMatch_of_check {a : ARe} {T : List UInt8} {f s e : Nat} (h : checkB a T f s e = true) : IsMatch a.re T f (some (s, e)) := by
  simp only [checkB, Bool.and_eq_true, decide_eq_true_eq, List.all_eq_true, List.mem_range, Bool.or_eq_true, Bool.not_eq_true'] at h
  obtain ⟨⟨⟨⟨⟨h1, h2⟩, h3⟩, h4⟩, h5⟩, h6⟩ := h
  refine ⟨h1, h2, h3, (accB_iff _ (.base a)).1 h4, fun i hi hs hx => ?_, fun j hj hl hx => ?_⟩
  · obtain ⟨j, k1, k2, k3⟩ := hx
    rcases h5 i hs with h | h
    · omega
    · have := h j (by omega)
      rw [(accB_iff _ (.base a)).2 k3] at this
      cases this
  · rcases h6 j (by omega) with h | h
    · omega
    · rw [(accB_iff _ (.base a)).2 hx] at h
      cases h

def known1 : ARe := .seq 1 (.cls 2 (.range 97 97)) (.star 3 (.cls 4 (.range 98 98)))
def known2 : ARe := .plus 1 2 (.cls 3 (.compl (.range 97 99)))

theorem known1_is : IsMatch known1.re [120, 97, 98, 98, 97, 98] 2 (some (4, 6)) := isMatch_of_check (by decide +kernel)
theorem known2_is : IsMatch known2.re [97, 98, 100, 100] 0 (some (2, 4)) := isMatch_of_check (by decide +kernel)

theorem known1_pat : PAlt [97, 98, 42] (some (known1.re, [])) :=
  PAlt.pieces (b := [97, 98, 42]) (rs := [.cls (.range 97 97), .star (.cls (.range 98 98))]) (.snoc (b := [97]) (c := [98, 42]) (rs := [.cls (.range 97 97)]) (.snoc (b := []) (rs := []) .nil (at_one (by decide) (by decide) (by decide)).plain) (at_one (c := 98) (by decide) (by decide) (by decide)).star)
theorem known2_pat : PAlt [91, 94, 97, 45, 99, 93, 43] (some (known2.re, [])) :=
  PAlt.pieces (b := [91, 94, 97, 45, 99, 93, 43]) (rs := [.plus (.cls (.compl (.range 97 99)))]) (.snoc (b := []) (c := [91, 94, 97, 45, 99, 93, 43]) (rs := []) .nil at_nac.plus)

def mval : Option (Nat × Nat) → Value
  | none => .tuple #[.int .i64 0, .int .i64 0, .bool false, .int .i64 0]
  | some (s, e) => .tuple #[.int .i64 s, .int .i64 e, .bool true, .int .i64 0]

/-- Match, of a pattern. -/
def PatPost (r : Re) (T : List UInt8) (f : Nat) (w : World) (e : Ending) (w' : World) : Prop := ∃ o, IsMatch r T f o ∧ e = .returned (mval o) ∧ Below w.heap.size w w'

theorem match_pat (pat text : ByteArray) (f : Nat) (r : Re) (w : World) (hT : Tab w) (hw : 0 < w.heap.size) (hl : pat.size ≤ 60) (hp : PAlt pat.data.toList (some (r, []))) (hf : f ≤ text.size) (hsz : text.size ≤ maxLen) :
    Calls Tryd.prog 6 #[.string pat, .string text, .int .i64 f] w (PatPost r text.data.toList f w) := by
  refine (match_any pat text f w hT hw (by unfold maxLen; omega) hsz (WalkArith.wf_i64 (by unfold maxLen at hsz; omega))).mono ?_
  rintro e w' ⟨v, rfl, h1, h2⟩
  obtain ⟨o, ho, ⟨rfl, rfl⟩ | ⟨s, e, rfl, rfl⟩⟩ := h1.pat hl hp hf
  · exact ⟨none, ho, rfl, h2⟩
  · exact ⟨some (s, e), ho, rfl, h2⟩

set_option maxRecDepth 20000 in
set_option maxHeartbeats 1000000 in
theorem known_any (w : World) (hT : Tab w) (hw : 0 < w.heap.size) : Calls Tryd.prog 10 #[] w fun e w' => e = .returned (.bool true) ∧ Below w.heap.size w w' := by
  go_enter Tryd.func10, Tryd.ntmps10
  go_wp2_with fail
  refine (match_pat ⟨#[97, 98, 42]⟩ ⟨#[120, 97, 98, 98, 97, 98]⟩ 2 known1.re w hT hw (by decide) known1_pat (by decide) (by unfold maxLen; decide)).mono ?_
  rintro e w1 ⟨o, ho, rfl, hB1⟩
  obtain rfl := ho.unique known1_is
  have HB1 := hide hB1
  have hT1 := hT.keep (hB1.block 0 hw)
  have hw1 := Nat.lt_of_lt_of_le hw hB1.size
  clear ho hB1
  simp only [mval]
  go_wp2_with fail
  refine (match_pat ⟨#[91, 94, 97, 45, 99, 93, 43]⟩ ⟨#[97, 98, 100, 100]⟩ 0 known2.re w1 hT1 hw1 (by decide) known2_pat (by decide) (by unfold maxLen; decide)).mono ?_
  rintro e w2 ⟨o, ho, rfl, hB2⟩
  obtain rfl := ho.unique known2_is
  have HB2 := hide (HB1.out.trans (hB2.mono HB1.out.size))
  clear ho hB2 hT1 hw1 HB1
  simp only [mval]
  go_wp2
  go_ret
  exact ⟨rfl, HB2.out⟩
end Go.Proofs.YtgncgdkpkkdaeaaDoor
