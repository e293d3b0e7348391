import Derived.Test.YtgncgdkpkkdaeaaGreatDoorKA
import Derived.Lib.CutLaws
import Derived.Test.YtgncgdkpkkdaeaaGreatDoorKD
import Derived.Laws.IdiomStrings
namespace Tint
def cutAt (c : UInt8) : List UInt8 → List UInt8 × Option (List UInt8)
 | [] => ([], none)
 | x :: l => if x = c then ([], some l) else (x :: (cutAt c l).1, (cutAt c l).2)
theorem cutAt_hit {c : UInt8} {a : List UInt8} (b : List UInt8) (h : c ∉ a) : cutAt c (a ++ c :: b) = (a, some b) := by
 induction a with
 | nil => simp [cutAt]
 | cons x a ih =>
  have h1 : ¬ x = c := fun e => h (by simp [e])
  have h2 := ih (fun e => h (List.mem_cons_of_mem _ e))
  simp [cutAt, h1, h2]
theorem cutAt_miss {c : UInt8} {a : List UInt8} (h : c ∉ a) : cutAt c a = (a, none) := by
 induction a with
 | nil => rfl
 | cons x a ih =>
  have h1 : ¬ x = c := fun e => h (by simp [e])
  have h2 := ih (fun e => h (List.mem_cons_of_mem _ e))
  simp [cutAt, h1, h2]
theorem cutAt_cases (c : UInt8) (l : List UInt8) : (∃ a b, l = a ++ c :: b ∧ c ∉ a ∧ cutAt c l = (a, some b)) ∨ (c ∉ l ∧ cutAt c l = (l, none)) := by
 induction l with
 | nil => exact .inr ⟨by simp, rfl⟩
 | cons x l ih =>
  by_cases hx : x = c
  ·subst hx
   exact .inl ⟨[], l, rfl, by simp, by simp [cutAt]⟩
  ·rcases ih with ⟨a, b, rfl, hn, -⟩ | ⟨hn, -⟩
   ·have h1 : c ∉ x :: a := by simp [hn, Ne.symm hx]
    exact .inl ⟨x :: a, b, rfl, h1, cutAt_hit b h1⟩
   ·have h1 : c ∉ x :: l := by simp [hn, Ne.symm hx]
    exact .inr ⟨h1, cutAt_miss h1⟩
theorem index_hit {a b t : List UInt8} {c : UInt8} (h : c ∉ a) (ht : (c :: t).isPrefixOf (c :: b) = true) : Go.Lib.index (a ++ c :: b) (c :: t) = a.length := by
 refine Go.Lib.index_first (by simp) ?_ ?_
 ·simp only [Go.Lib.occAt, List.drop_left]; exact ht
 ·intro j hj
  rw [Go.Lib.occAt, List.drop_append_of_le_length (by omega), List.drop_eq_getElem_cons hj]
  simp only [List.cons_append, List.isPrefixOf, Bool.and_eq_false_iff]
  left
  rw [beq_eq_false_iff_ne]
  intro e
  exact h (e ▸ List.getElem_mem hj)
theorem index_miss {l t : List UInt8} {c : UInt8} (h : c ∉ l) : Go.Lib.index l (c :: t) = -1 := by
 refine Go.Lib.index_none ?_
 intro j _
 rw [Go.Lib.occAt]
 rcases Nat.lt_or_ge j l.length with hj | hj
 ·rw [List.drop_eq_getElem_cons hj]
  simp only [List.isPrefixOf, Bool.and_eq_false_iff]
  left
  rw [beq_eq_false_iff_ne]
  intro e
  exact h (e ▸ List.getElem_mem hj)
 ·rw [List.drop_of_length_le hj]; rfl
theorem cut_hit {a b t : List UInt8} {c : UInt8} (h : c ∉ a) : Go.Lib.cut (a ++ c :: (t ++ b)) (c :: t) = (a, b, true) := by
 have hp : (c :: t).isPrefixOf (c :: (t ++ b)) = true := by
  rw [List.isPrefixOf_iff_prefix]; exact ⟨b, by simp⟩
 unfold Go.Lib.cut
 rw [index_hit h hp, if_pos (by omega)]
 simp
theorem cut_miss {l t : List UInt8} {c : UInt8} (h : c ∉ l) : Go.Lib.cut l (c :: t) = (l, [], false) := by
 unfold Go.Lib.cut
 rw [index_miss h, if_neg (by omega)]
theorem cut_one (c : UInt8) (l : List UInt8) : (∃ a b, l = a ++ c :: b ∧ c ∉ a ∧ cutAt c l = (a, some b) ∧ Go.Lib.cut l [c] = (a, b, true)) ∨ (c ∉ l ∧ cutAt c l = (l, none) ∧ Go.Lib.cut l [c] = (l, [], false)) := by
 rcases cutAt_cases c l with ⟨a, b, rfl, hn, hc⟩ | ⟨hn, hc⟩
 ·exact .inl ⟨a, b, rfl, hn, hc, cut_hit (t := []) hn⟩
 ·exact .inr ⟨hn, hc, cut_miss hn⟩
def isName (l : List UInt8) : Bool := decide (1 ≤ l.length) && decide (l.length ≤ 12) && l.all fun x => decide (97 ≤ x.toNat) && decide (x.toNat ≤ 122)
theorem isName_mem {l : List UInt8} (h : isName l = true) {c : UInt8} (hc : c ∈ l) : 97 ≤ c.toNat := by
 simp only [isName, Bool.and_eq_true, List.all_eq_true, decide_eq_true_eq] at h
 exact (h.2 c hc).1
theorem isName_blank {l : List UInt8} (h : isName l = true) : (32 : UInt8) ∉ l := fun hc => by
 have := isName_mem h hc
 simp at this
def ruleBody (r : List UInt8) : Option (List UInt8 × List UInt8) :=
 match cutAt 32 r with
 | (c, some (61 :: 32 :: p)) => if isName c = true then some (c, p) else none
 | _ => none
theorem ruleBody_some {r c p : List UInt8} (h : ruleBody r = some (c, p)) : r = c ++ 32 :: 61 :: 32 :: p ∧ isName c = true := by
 unfold ruleBody at h
 split at h
 ·rename_i c' p' hc
  split at h
  ·rename_i hn
   cases h
   rcases cutAt_cases 32 r with ⟨a, b, rfl, -, e⟩ | ⟨-, e⟩
   ·rw [e] at hc; cases hc; exact ⟨rfl, hn⟩
   ·rw [e] at hc; cases hc
  ·cases h
 ·cases h
theorem ruleBody_of {c p : List UInt8} (hn : isName c = true) : ruleBody (c ++ 32 :: 61 :: 32 :: p) = some (c, p) := by
 unfold ruleBody
 rw [cutAt_hit _ (isName_blank hn)]
 simp [hn]
theorem cut_rule (r : List UInt8) : (∃ c p, ruleBody r = some (c, p) ∧ isName c = true ∧ Go.Lib.cut r [32, 61, 32] = (c, p, true)) ∨
  (ruleBody r = none ∧ ((Go.Lib.cut r [32, 61, 32]).2.2 = false ∨ isName (Go.Lib.cut r [32, 61, 32]).1 = false)) := by
 cases h : ruleBody r with
 | some cp =>
  obtain ⟨c, p⟩ := cp
  obtain ⟨rfl, hn⟩ := ruleBody_some h
  exact .inl ⟨c, p, rfl, hn, cut_hit (t := [61, 32]) (isName_blank hn)⟩
 | none =>
  refine .inr ⟨rfl, ?_⟩
  cases hb : (Go.Lib.cut r [32, 61, 32]).2.2 with
  | false => exact .inl rfl
  | true =>
   cases hm : isName (Go.Lib.cut r [32, 61, 32]).1 with
   | false => exact .inr rfl
   | true =>
    exfalso
    unfold Go.Lib.cut at hb hm
    split at hb
    ·rename_i hi
     rw [if_pos hi] at hm
     rcases Go.Lib.index_spec r [32, 61, 32] with ⟨hn, -⟩ | ⟨i, hx, -, ho, -⟩
     ·omega
     rw [hx] at hm
     simp only [Int.toNat_natCast] at hm
     rw [Go.Lib.occAt, List.isPrefixOf_iff_prefix] at ho
     obtain ⟨p, hp⟩ := ho
     have e : r = r.take i ++ 32 :: 61 :: 32 :: p := by
      rw [show (32 : UInt8) :: 61 :: 32 :: p = [32, 61, 32] ++ p from rfl, hp, List.take_append_drop]
     rw [e, ruleBody_of hm] at h
     cases h
    ·cases hb
end Tint
namespace Tint
inductive Ln where
 | blank
 | state (s : List UInt8)
 | rule (does : Nat) (opens colour pat : List UInt8)
def Ln.isState : Ln → Bool
 | .state _ => true
 | _ => false
def Ln.isRule : Ln → Bool
 | .rule _ _ _ _ => true
 | _ => false
def Ln.nb : Ln → Bool
 | .blank => false
 | _ => true
def ruleLn (does : Nat) (opens r : List UInt8) : Option Ln := (ruleBody r).map fun cp => .rule does opens cp.1 cp.2
def wState : List UInt8 := [115, 116, 97, 116, 101]
def wToken : List UInt8 := [116, 111, 107, 101, 110]
def wPush : List UInt8 := [112, 117, 115, 104]
def wPop : List UInt8 := [112, 111, 112]
def pushLn (r : List UInt8) : Option Ln :=
 match cutAt 32 r with
 | (s, some r') => if isName s = true then ruleLn 1 s r' else none
 | (_, none) => none
def wordLn (w r : List UInt8) : Option Ln :=
 if w = wState then (if isName r = true then some (.state r) else none)
 else if w = wToken then ruleLn 0 [] r
 else if w = wPop then ruleLn 2 [] r
 else if w = wPush then pushLn r
 else none
def lineOf (l : List UInt8) : Option Ln :=
 if l = [] then some .blank else
 match cutAt 32 l with
 | (w, some r) => wordLn w r
 | (_, none) => none
abbrev Lns := List (Nat × Ln)
def rdRun : Nat → Nat → Lns → List UInt8 → Nat ⊕ Lns
 | 0, p, _, _ => .inl p
 | f + 1, p, acc, s =>
  if s = [] then .inr acc else
  match cutAt 10 s with
  | (_, none) => .inl p
  | (l, some r) =>
   match lineOf l with
   | none => .inl p
   | some x => if x.isRule = true ∧ acc.any (·.2.isState) = false then .inl p else rdRun f (p + l.length + 1) (acc ++ [(p, x)]) r
theorem rdRun_fuel : ∀ (f g p : Nat) (acc : Lns) (s : List UInt8), s.length < f → s.length < g → rdRun f p acc s = rdRun g p acc s := by
 intro f
 induction f with
 | zero => intro g p acc s hf; omega
 | succ f ih =>
  intro g p acc s hf hg
  cases g with
  | zero => omega
  | succ g =>
   unfold rdRun
   by_cases hs : s = []
   ·simp [hs]
   ·simp only [if_neg hs]
    rcases cutAt_cases 10 s with ⟨a, b, e, -, hc⟩ | ⟨-, hc⟩
    ·rw [hc]
     simp only
     have hl : s.length = a.length + b.length + 1 := by rw [e]; simp; omega
     cases hx : lineOf a with
     | none => rfl
     | some x =>
      simp only
      split
      ·rfl
      ·exact ih g _ _ b (by omega) (by omega)
    ·rw [hc]
def rd (p : Nat) (acc : Lns) (s : List UInt8) : Nat ⊕ Lns := rdRun (s.length + 1) p acc s
theorem rd_nil (p : Nat) (acc : Lns) : rd p acc [] = .inr acc := by simp [rd, rdRun]
theorem rd_open {p : Nat} {acc : Lns} {s : List UInt8} (hs : s ≠ []) (h : (10 : UInt8) ∉ s) : rd p acc s = .inl p := by
 unfold rd rdRun
 rw [if_neg hs, cutAt_miss h]
theorem rd_bad {p : Nat} {acc : Lns} {a b : List UInt8} (h : (10 : UInt8) ∉ a) (hl : lineOf a = none) : rd p acc (a ++ 10 :: b) = .inl p := by
 unfold rd rdRun
 rw [if_neg (by simp), cutAt_hit b h]
 simp [hl]
theorem rd_early {p : Nat} {acc : Lns} {a b : List UInt8} {x : Ln} (h : (10 : UInt8) ∉ a) (hl : lineOf a = some x) (hx : x.isRule = true) (ha : acc.any (·.2.isState) = false) : rd p acc (a ++ 10 :: b) = .inl p := by
 unfold rd rdRun
 rw [if_neg (by simp), cutAt_hit b h]
 simp only [hl]
 rw [if_pos ⟨hx, ha⟩]
theorem rd_step {p : Nat} {acc : Lns} {a b : List UInt8} {x : Ln} (h : (10 : UInt8) ∉ a) (hl : lineOf a = some x) (hx : ¬ (x.isRule = true ∧ acc.any (·.2.isState) = false)) : rd p acc (a ++ 10 :: b) = rd (p + a.length + 1) (acc ++ [(p, x)]) b := by
 rw [rd, rdRun, if_neg (by simp), cutAt_hit b h]
 simp only [hl]
 rw [if_neg hx, rd]
 exact rdRun_fuel _ _ _ _ _ (by simp only [List.length_append, List.length_cons]; omega) (by omega)
inductive Fst (p : Lns → Ln → Prop) : Lns → Lns → Option Nat → Prop where
 | nil {pre : Lns} : Fst p pre [] none
 | hit {pre : Lns} {a : Nat} {x : Ln} {l : Lns} : p pre x → Fst p pre ((a, x) :: l) (some a)
 | skip {pre : Lns} {a : Nat} {x : Ln} {l : Lns} {o : Option Nat} : ¬ p pre x → Fst p (pre ++ [(a, x)]) l o → Fst p pre ((a, x) :: l) o
theorem Fst.det {p : Lns → Ln → Prop} {pre l : Lns} {o o' : Option Nat} (h : Fst p pre l o) (h' : Fst p pre l o') : o = o' := by
 induction h with
 | nil => cases h'; rfl
 | hit hp =>
  cases h' with
  | hit _ => rfl
  | skip hn _ => exact absurd hp hn
 | skip hn _ ih =>
  cases h' with
  | hit hp => exact absurd hp hn
  | skip _ h2 => exact ih h2
theorem Fst.filter {p : Lns → Ln → Prop} (hb : ∀ pre, ¬ p pre .blank) (hf : ∀ pre x, p pre x ↔ p (pre.filter (·.2.nb)) x) {pre l : Lns} {o : Option Nat} (h : Fst p pre l o) : Fst p (pre.filter (·.2.nb)) (l.filter (·.2.nb)) o := by
 induction h with
 | nil => exact .nil
 | @hit pre a x l hp =>
  have hx : x.nb = true := by cases x with
   | blank => exact absurd hp (hb _)
   | state _ => rfl
   | rule _ _ _ _ => rfl
  rw [List.filter_cons_of_pos (p := fun (y : Nat × Ln) => y.2.nb) (a := (a, x)) hx]
  exact .hit ((hf _ _).1 hp)
 | @skip pre a x l o hn _ ih =>
  rw [List.filter_append] at ih
  cases hx : x.nb with
  | true =>
   rw [List.filter_cons_of_pos (p := fun (y : Nat × Ln) => y.2.nb) (a := (a, x)) hx]
   rw [List.filter_cons_of_pos (p := fun (y : Nat × Ln) => y.2.nb) (a := (a, x)) hx] at ih
   exact .skip (fun hp => hn ((hf _ _).2 hp)) ih
  | false =>
   rw [List.filter_cons_of_neg (p := fun (y : Nat × Ln) => y.2.nb) (a := (a, x)) (by simp [hx])]
   rw [List.filter_cons_of_neg (p := fun (y : Nat × Ln) => y.2.nb) (a := (a, x)) (by simp [hx])] at ih
   simpa using ih
inductive Chain (fs : Lns) : List (Nat × (Lns → Ln → Prop)) → Nat → Nat → Prop where
 | nil : Chain fs [] 0 0
 | hit {e a : Nat} {p : Lns → Ln → Prop} {l : List (Nat × (Lns → Ln → Prop))} : Fst p [] fs (some a) → Chain fs ((e, p) :: l) e a
 | skip {e e' a : Nat} {p : Lns → Ln → Prop} {l : List (Nat × (Lns → Ln → Prop))} : Fst p [] fs none → Chain fs l e' a → Chain fs ((e, p) :: l) e' a
theorem Chain.det {fs : Lns} {l : List (Nat × (Lns → Ln → Prop))} {e a e' a' : Nat} (h : Chain fs l e a) (h' : Chain fs l e' a') : e = e' ∧ a = a' := by
 induction h with
 | nil => cases h'; exact ⟨rfl, rfl⟩
 | hit h1 =>
  cases h' with
  | hit h2 => have := h1.det h2; simp at this; exact ⟨rfl, this⟩
  | skip h2 _ => have := h1.det h2; cases this
 | skip h1 _ ih =>
  cases h' with
  | hit h2 => have := h1.det h2; cases this
  | skip _ h3 => exact ih h3
def pTwice (pre : Lns) (x : Ln) : Prop := ∃ n, x = .state n ∧ ∃ a, (a, Ln.state n) ∈ pre
def pMany (pre : Lns) (x : Ln) : Prop := x.nb = true ∧ (12 < (pre.filter (·.2.isState)).length + (if x.isState = true then 1 else 0) ∨ 40 < (pre.filter (·.2.isRule)).length + (if x.isRule = true then 1 else 0))
def pUnknown (fs : Lns) (_ : Lns) (x : Ln) : Prop := ∃ o c p, x = .rule 1 o c p ∧ ∀ a, (a, Ln.state o) ∉ fs
def pLong (_ : Lns) (x : Ln) : Prop := ∃ d o c p, x = .rule d o c p ∧ 60 < p.length
def pPat (_ : Lns) (x : Ln) : Prop := ∃ d o c p, x = .rule d o c p ∧ p.length ≤ 60 ∧ ¬ ∃ r, PAlt p (some (r, []))
def pEmpty (_ : Lns) (x : Ln) : Prop := ∃ d o c p r, x = .rule d o c p ∧ PAlt p (some (r, [])) ∧ r.nullable = true
def tests (fs : Lns) : List (Nat × (Lns → Ln → Prop)) := [(3, pTwice), (4, pMany), (5, pUnknown fs), (1, pLong), (6, pPat), (7, pEmpty)]
theorem pTwice_filter (pre : Lns) (x : Ln) : pTwice pre x ↔ pTwice (pre.filter (·.2.nb)) x := by
 constructor
 ·rintro ⟨n, rfl, a, h⟩; exact ⟨n, rfl, a, List.mem_filter.2 ⟨h, rfl⟩⟩
 ·rintro ⟨n, rfl, a, h⟩; exact ⟨n, rfl, a, (List.mem_filter.1 h).1⟩
theorem filter_nb (q : Ln → Bool) (hq : q .blank = false) (l : Lns) : (l.filter (·.2.nb)).filter (q ·.2) = l.filter (q ·.2) := by
 rw [List.filter_filter]
 apply List.filter_congr
 rintro ⟨a, x⟩ _
 cases x with
 | blank => simp [hq, Ln.nb]
 | state _ => simp [Ln.nb]
 | rule _ _ _ _ => simp [Ln.nb]
theorem pMany_filter (pre : Lns) (x : Ln) : pMany pre x ↔ pMany (pre.filter (·.2.nb)) x := by
 unfold pMany
 rw [filter_nb Ln.isState rfl, filter_nb Ln.isRule rfl]
theorem Chain.filter {ls : Lns} {e a : Nat} (h : Chain ls (tests ls) e a) : Chain (ls.filter (·.2.nb)) (tests (ls.filter (·.2.nb))) e a := by
 have key : ∀ {p p' : Lns → Ln → Prop} {o : Option Nat}, (∀ pre, ¬ p' pre .blank) → (∀ pre x, p' pre x ↔ p' (pre.filter (·.2.nb)) x) → (∀ pre x, p pre x ↔ p' pre x) → Fst p [] ls o → Fst p' [] (ls.filter (·.2.nb)) o := by
  intro p p' o h1 h2 h3 hf
  obtain rfl : p = p' := funext fun a => funext fun b => propext (h3 a b)
  exact hf.filter h1 h2
 have k3 : ∀ {o}, Fst pTwice [] ls o → Fst pTwice [] (ls.filter (·.2.nb)) o := key (fun _ h => by obtain ⟨n, h, _⟩ := h; cases h) pTwice_filter (fun _ _ => Iff.rfl)
 have k4 : ∀ {o}, Fst pMany [] ls o → Fst pMany [] (ls.filter (·.2.nb)) o := key (fun _ h => by cases h.1) pMany_filter (fun _ _ => Iff.rfl)
 have k5 : ∀ {o}, Fst (pUnknown ls) [] ls o → Fst (pUnknown (ls.filter (·.2.nb))) [] (ls.filter (·.2.nb)) o := by
  refine key (fun _ h => by obtain ⟨_, _, _, h, _⟩ := h; cases h) (fun _ _ => Iff.rfl) (fun _ x => ?_)
  constructor
  ·rintro ⟨o, c, p, rfl, h⟩; exact ⟨o, c, p, rfl, fun a ha => h a (List.mem_filter.1 ha).1⟩
  ·rintro ⟨o, c, p, rfl, h⟩; exact ⟨o, c, p, rfl, fun a ha => h a (List.mem_filter.2 ⟨ha, rfl⟩)⟩
 have k1 : ∀ {o}, Fst pLong [] ls o → Fst pLong [] (ls.filter (·.2.nb)) o := key (fun _ h => by obtain ⟨_, _, _, _, h, _⟩ := h; cases h) (fun _ _ => Iff.rfl) (fun _ _ => Iff.rfl)
 have k6 : ∀ {o}, Fst pPat [] ls o → Fst pPat [] (ls.filter (·.2.nb)) o := key (fun _ h => by obtain ⟨_, _, _, _, h, _⟩ := h; cases h) (fun _ _ => Iff.rfl) (fun _ _ => Iff.rfl)
 have k7 : ∀ {o}, Fst pEmpty [] ls o → Fst pEmpty [] (ls.filter (·.2.nb)) o := key (fun _ h => by obtain ⟨_, _, _, _, _, h, _⟩ := h; cases h) (fun _ _ => Iff.rfl) (fun _ _ => Iff.rfl)
 unfold tests at h ⊢
 cases h with
 | hit h => exact .hit (k3 h)
 | skip h0 h =>
  refine .skip (k3 h0) ?_
  cases h with
  | hit h => exact .hit (k4 h)
  | skip h0 h =>
   refine .skip (k4 h0) ?_
   cases h with
   | hit h => exact .hit (k5 h)
   | skip h0 h =>
    refine .skip (k5 h0) ?_
    cases h with
    | hit h => exact .hit (k1 h)
    | skip h0 h =>
     refine .skip (k1 h0) ?_
     cases h with
     | hit h => exact .hit (k6 h)
     | skip h0 h =>
      refine .skip (k6 h0) ?_
      cases h with
      | hit h => exact .hit (k7 h)
      | skip h0 h => cases h; exact .skip (k7 h0) .nil
inductive LoadIs (s : List UInt8) : Nat → Nat → Lns → Prop where
 | long : 2000 < s.length → LoadIs s 1 0 []
 | form {a : Nat} : s.length ≤ 2000 → rd 0 [] s = .inl a → LoadIs s 2 a []
 | fault {ls : Lns} {e a : Nat} : s.length ≤ 2000 → rd 0 [] s = .inr ls → Chain (ls.filter (·.2.nb)) (tests (ls.filter (·.2.nb))) e a → e ≠ 0 → LoadIs s e a []
 | none {ls : Lns} : s.length ≤ 2000 → rd 0 [] s = .inr ls → ls.filter (·.2.nb) = [] → LoadIs s 4 s.length []
 | ok {ls : Lns} : s.length ≤ 2000 → rd 0 [] s = .inr ls → Chain (ls.filter (·.2.nb)) (tests (ls.filter (·.2.nb))) 0 0 → ls.filter (·.2.nb) ≠ [] → LoadIs s 0 0 (ls.filter (·.2.nb))
theorem chain_nil : Chain [] (tests []) 0 0 := .skip .nil (.skip .nil (.skip .nil (.skip .nil (.skip .nil (.skip .nil .nil)))))
theorem LoadIs.det {s : List UInt8} {e a e' a' : Nat} {l l' : Lns} (h : LoadIs s e a l) (h' : LoadIs s e' a' l') : e = e' ∧ a = a' ∧ l = l' := by
 cases h with
 | long h1 => cases h' with
  | long _ => exact ⟨rfl, rfl, rfl⟩
  | form h2 _ => omega
  | fault h2 _ _ _ => omega
  | none h2 _ _ => omega
  | ok h2 _ _ _ => omega
 | form h1 h2 => cases h' with
  | long h3 => omega
  | form _ h3 => rw [h2] at h3; cases h3; exact ⟨rfl, rfl, rfl⟩
  | fault _ h3 _ _ => rw [h2] at h3; cases h3
  | none _ h3 _ => rw [h2] at h3; cases h3
  | ok _ h3 _ _ => rw [h2] at h3; cases h3
 | fault h1 h2 hc hn => cases h' with
  | long h3 => omega
  | form _ h3 => rw [h2] at h3; cases h3
  | fault _ h3 hc' _ => rw [h2] at h3; cases h3; obtain ⟨h4, h5⟩ := hc.det hc'; exact ⟨h4, h5, rfl⟩
  | none _ h3 hz => rw [h2] at h3; cases h3; rw [hz] at hc; exact absurd (hc.det chain_nil).1 hn
  | ok _ h3 hc' _ => rw [h2] at h3; cases h3; exact absurd (hc.det hc').1 hn
 | none h1 h2 hz => cases h' with
  | long h3 => omega
  | form _ h3 => rw [h2] at h3; cases h3
  | fault _ h3 hc' hn => rw [h2] at h3; cases h3; rw [hz] at hc'; exact absurd (hc'.det chain_nil).1 hn
  | none _ _ _ => exact ⟨rfl, rfl, rfl⟩
  | ok _ h3 _ hz' => rw [h2] at h3; cases h3; exact absurd hz hz'
 | ok h1 h2 hc hz => cases h' with
  | long h3 => omega
  | form _ h3 => rw [h2] at h3; cases h3
  | fault _ h3 hc' hn => rw [h2] at h3; cases h3; exact absurd (hc'.det hc).1 hn
  | none _ h3 hz' => rw [h2] at h3; cases h3; exact absurd hz' hz
  | ok _ h3 _ _ => rw [h2] at h3; cases h3; exact ⟨rfl, rfl, rfl⟩
end Tint
namespace Go.Proofs.YtgncgdkpkkdaeaaGreatDoor
open Go.RowKit Tint
def letter (x : UInt8) : Bool := decide (97 ≤ x.toNat) && decide (x.toNat ≤ 122)
theorem isName_eq (l : List UInt8) : isName l = (decide (1 ≤ l.length) && decide (l.length ≤ 12) && l.all letter) := rfl
theorem all_false {l : List UInt8} {i : Nat} {x : UInt8} (h : l[i]? = some x) (hx : letter x = false) : isName l = false := by
 rw [isName_eq]
 have : l.all letter = false := by
  rw [List.all_eq_false]
  exact ⟨x, List.mem_of_getElem? h, by simp [hx]⟩
 rw [this, Bool.and_false]
theorem all_true {l : List UInt8} (h : ∀ (j : Nat) (x : UInt8), l[j]? = some x → letter x = true) : isName l = (decide (1 ≤ l.length) && decide (l.length ≤ 12)) := by
 rw [isName_eq]
 have : l.all letter = true := by
  rw [List.all_eq_true]
  intro x hx
  obtain ⟨j, hj⟩ := List.getElem?_of_mem hx
  exact h j x hj
 rw [this, Bool.and_true]
theorem byte_get {t : ByteArray} {i : Nat} (h : i < t.size) : t.data.toList[i]? = some t[i] := by
 rw [List.getElem?_eq_getElem (show i < t.data.toList.length from h)]
 rfl
theorem byte_length (t : ByteArray) : t.data.toList.length = t.size := rfl
theorem extract_list (s : ByteArray) (i j : Nat) : (s.extract i j).data.toList = (s.data.toList.drop i).take (j - i) := by
 simp [ByteArray.data_extract]
theorem extract_rest {s : ByteArray} {i j : Nat} (h : s.size ≤ j) : (s.extract i j).data.toList = rest s i := by
 rw [extract_list, rest, List.take_of_length_le]
 rw [List.length_drop, byte_length]
 omega
theorem extract_seg {s : ByteArray} {i j : Nat} (hij : i ≤ j) : rest s i = (s.extract i j).data.toList ++ rest s j := by
 rw [extract_list, rest, rest]
 conv => lhs; rw [← List.take_append_drop (j - i) (s.data.toList.drop i), List.drop_drop]
 rw [show i + (j - i) = j by omega]
theorem pushLn_miss {l : List UInt8} (h : (32 : UInt8) ∉ l) : pushLn l = none := by unfold pushLn; rw [cutAt_miss h]
theorem pushLn_hit {l w r : List UInt8} (h : l = w ++ 32 :: r) (hn : (32 : UInt8) ∉ w) : pushLn l = if isName w = true then ruleLn 1 w r else none := by
 unfold pushLn; rw [h, cutAt_hit r hn]
theorem ba_of {t : ByteArray} {l : List UInt8} (h : t.data.toList = l) : t = ⟨l.toArray⟩ := by
 apply ByteArray.ext
 rw [← h]
theorem str_ne {t : ByteArray} {l : List UInt8} (h : ¬ t.data.toList = l) : (t.toList == l) = false := by
 rw [beq_eq_false_iff_ne, ByteArray.toList_eq]; exact h
end Go.Proofs.YtgncgdkpkkdaeaaGreatDoor
