/- Grammars, pure: the lines of a grammar, the faults, in their order; at most one answer. -/
import Derived.Test.YtgncgdkpkkdaeaaG1
namespace Tint

/-- What stands in a line. -/
inductive Ln where
  | blank
  | state (s : List UInt8)
  | rule (does : Nat) (opens colour pat : List UInt8)

def Ln.isState : Ln → Bool
  | .state _ => true
  | _ => false

def Ln.isRule : Ln → Bool
  | .rule _ _ _ _ => true
  | _ => false

def Ln.nb : Ln → Bool
  | .blank => false
  | _ => true

def ruleLn (does : Nat) (opens r : List UInt8) : Option Ln := (ruleBody r).map fun cp => .rule does opens cp.1 cp.2

def wState : List UInt8 := [115, 116, 97, 116, 101]
def wToken : List UInt8 := [116, 111, 107, 101, 110]
def wPush : List UInt8 := [112, 117, 115, 104]
def wPop : List UInt8 := [112, 111, 112]

def pushLn (r : List UInt8) : Option Ln :=
  match cutAt 32 r with
  | (s, some r') => if isName s = true then ruleLn 1 s r' else none
  | (_, none) => none

def wordLn (w r : List UInt8) : Option Ln :=
  if w = wState then (if isName r = true then some (.state r) else none)
  else if w = wToken then ruleLn 0 [] r
  else if w = wPop then ruleLn 2 [] r
  else if w = wPush then pushLn r
  else none

/-- A line. -/
def lineOf (l : List UInt8) : Option Ln :=
  if l = [] then some .blank else
  match cutAt 32 l with
  | (w, some r) => wordLn w r
  | (_, none) => none

abbrev Lns := List (Nat × Ln)

/-- The lines from a place on, behind those that were read. -/
def rdRun : Nat → Nat → Lns → List UInt8 → Nat ⊕ Lns
  | 0, p, _, _ => .inl p
  | f + 1, p, acc, s =>
    if s = [] then .inr acc else
    match cutAt 10 s with
    | (_, none) => .inl p
    | (l, some r) =>
      match lineOf l with
      | none => .inl p
      | some x => if x.isRule = true ∧ acc.any (·.2.isState) = false then .inl p else rdRun f (p + l.length + 1) (acc ++ [(p, x)]) r

theorem rdRun_fuel : ∀ (f g p : Nat) (acc : Lns) (s : List UInt8), s.length < f → s.length < g → rdRun f p acc s = rdRun g p acc s := by
  intro f
  induction f with
  | zero => intro g p acc s hf; omega
  | succ f ih =>
    intro g p acc s hf hg
    cases g with
    | zero => omega
    | succ g =>
      unfold rdRun
      by_cases hs : s = []
      · simp [hs]
      · simp only [if_neg hs]
        rcases cutAt_cases 10 s with ⟨a, b, e, -, hc⟩ | ⟨-, hc⟩
        · rw [hc]
          simp only
          have hl : s.length = a.length + b.length + 1 := by rw [e]; simp; omega
          cases hx : lineOf a with
          | none => rfl
          | some x =>
            simp only
            split
            · rfl
            · exact ih g _ _ b (by omega) (by omega)
        · rw [hc]

/-- The whole of a grammar's lines: the place of the first one that may not be, or all of them. -/
def rd (p : Nat) (acc : Lns) (s : List UInt8) : Nat ⊕ Lns := rdRun (s.length + 1) p acc s

theorem rd_nil (p : Nat) (acc : Lns) : rd p acc [] = .inr acc := by simp [rd, rdRun]

theorem rd_open {p : Nat} {acc : Lns} {s : List UInt8} (hs : s ≠ []) (h : (10 : UInt8) ∉ s) : rd p acc s = .inl p := by
  unfold rd rdRun
  rw [if_neg hs, cutAt_miss h]

theorem rd_bad {p : Nat} {acc : Lns} {a b : List UInt8} (h : (10 : UInt8) ∉ a) (hl : lineOf a = none) : rd p acc (a ++ 10 :: b) = .inl p := by
  unfold rd rdRun
  rw [if_neg (by simp), cutAt_hit b h]
  simp [hl]

theorem rd_early {p : Nat} {acc : Lns} {a b : List UInt8} {x : Ln} (h : (10 : UInt8) ∉ a) (hl : lineOf a = some x) (hx : x.isRule = true) (ha : acc.any (·.2.isState) = false) : rd p acc (a ++ 10 :: b) = .inl p := by
  unfold rd rdRun
  rw [if_neg (by simp), cutAt_hit b h]
  simp only [hl]
  rw [if_pos ⟨hx, ha⟩]

theorem rd_step {p : Nat} {acc : Lns} {a b : List UInt8} {x : Ln} (h : (10 : UInt8) ∉ a) (hl : lineOf a = some x) (hx : ¬ (x.isRule = true ∧ acc.any (·.2.isState) = false)) : rd p acc (a ++ 10 :: b) = rd (p + a.length + 1) (acc ++ [(p, x)]) b := by
  rw [rd, rdRun, if_neg (by simp), cutAt_hit b h]
  simp only [hl]
  rw [if_neg hx, rd]
  exact rdRun_fuel _ _ _ _ _ (by simp only [List.length_append, List.length_cons]; omega) (by omega)

/-- The first line that a test speaks of, by what stands ahead of it; or none. -/
inductive Fst (p : Lns → Ln → Prop) : Lns → Lns → Option Nat → Prop where
  | nil {pre : Lns} : Fst p pre [] none
  | hit {pre : Lns} {a : Nat} {x : Ln} {l : Lns} : p pre x → Fst p pre ((a, x) :: l) (some a)
  | skip {pre : Lns} {a : Nat} {x : Ln} {l : Lns} {o : Option Nat} : ¬ p pre x → Fst p (pre ++ [(a, x)]) l o → Fst p pre ((a, x) :: l) o

theorem Fst.det {p : Lns → Ln → Prop} {pre l : Lns} {o o' : Option Nat} (h : Fst p pre l o) (h' : Fst p pre l o') : o = o' := by
  induction h with
  | nil => cases h'; rfl
  | hit hp =>
    cases h' with
    | hit _ => rfl
    | skip hn _ => exact absurd hp hn
  | skip hn _ ih =>
    cases h' with
    | hit hp => exact absurd hp hn
    | skip _ h2 => exact ih h2

/-- The same but for blank lines. -/
theorem Fst.filter {p : Lns → Ln → Prop} (hb : ∀ pre, ¬ p pre .blank) (hf : ∀ pre x, p pre x ↔ p (pre.filter (·.2.nb)) x) {pre l : Lns} {o : Option Nat} (h : Fst p pre l o) : Fst p (pre.filter (·.2.nb)) (l.filter (·.2.nb)) o := by
  induction h with
  | nil => exact .nil
  | @hit pre a x l hp =>
    have hx : x.nb = true := by cases x with
      | blank => exact absurd hp (hb _)
      | state _ => rfl
      | rule _ _ _ _ => rfl
    rw [List.filter_cons_of_pos (p := fun (y : Nat × Ln) => y.2.nb) (a := (a, x)) hx]
    exact .hit ((hf _ _).1 hp)
  | @skip pre a x l o hn _ ih =>
    rw [List.filter_append] at ih
    cases hx : x.nb with
    | true =>
      rw [List.filter_cons_of_pos (p := fun (y : Nat × Ln) => y.2.nb) (a := (a, x)) hx]
      rw [List.filter_cons_of_pos (p := fun (y : Nat × Ln) => y.2.nb) (a := (a, x)) hx] at ih
      exact .skip (fun hp => hn ((hf _ _).2 hp)) ih
    | false =>
      rw [List.filter_cons_of_neg (p := fun (y : Nat × Ln) => y.2.nb) (a := (a, x)) (by simp [hx])]
      rw [List.filter_cons_of_neg (p := fun (y : Nat × Ln) => y.2.nb) (a := (a, x)) (by simp [hx])] at ih
      simpa using ih

/-- The first fault of a list of tests. -/
inductive Chain (fs : Lns) : List (Nat × (Lns → Ln → Prop)) → Nat → Nat → Prop where
  | nil : Chain fs [] 0 0
  | hit {e a : Nat} {p : Lns → Ln → Prop} {l : List (Nat × (Lns → Ln → Prop))} : Fst p [] fs (some a) → Chain fs ((e, p) :: l) e a
  | skip {e e' a : Nat} {p : Lns → Ln → Prop} {l : List (Nat × (Lns → Ln → Prop))} : Fst p [] fs none → Chain fs l e' a → Chain fs ((e, p) :: l) e' a

theorem Chain.det {fs : Lns} {l : List (Nat × (Lns → Ln → Prop))} {e a e' a' : Nat} (h : Chain fs l e a) (h' : Chain fs l e' a') : e = e' ∧ a = a' := by
  induction h with
  | nil => cases h'; exact ⟨rfl, rfl⟩
  | hit h1 =>
    cases h' with
    | hit h2 => have := h1.det h2; simp at this; exact ⟨rfl, this⟩
    | skip h2 _ => have := h1.det h2; cases this
  | skip h1 _ ih =>
    cases h' with
    | hit h2 => have := h1.det h2; cases this
    | skip _ h3 => exact ih h3

/-- The tests. -/
def pTwice (pre : Lns) (x : Ln) : Prop := ∃ n, x = .state n ∧ ∃ a, (a, Ln.state n) ∈ pre
def pMany (pre : Lns) (x : Ln) : Prop := x.nb = true ∧ (12 < (pre.filter (·.2.isState)).length + (if x.isState = true then 1 else 0) ∨ 40 < (pre.filter (·.2.isRule)).length + (if x.isRule = true then 1 else 0))
def pUnknown (fs : Lns) (_ : Lns) (x : Ln) : Prop := ∃ o c p, x = .rule 1 o c p ∧ ∀ a, (a, Ln.state o) ∉ fs
def pLong (_ : Lns) (x : Ln) : Prop := ∃ d o c p, x = .rule d o c p ∧ 60 < p.length
def pPat (_ : Lns) (x : Ln) : Prop := ∃ d o c p, x = .rule d o c p ∧ p.length ≤ 60 ∧ ¬ ∃ r, PAlt p (some (r, []))
def pEmpty (_ : Lns) (x : Ln) : Prop := ∃ d o c p r, x = .rule d o c p ∧ PAlt p (some (r, [])) ∧ r.nullable = true

def tests (fs : Lns) : List (Nat × (Lns → Ln → Prop)) := [(3, pTwice), (4, pMany), (5, pUnknown fs), (1, pLong), (6, pPat), (7, pEmpty)]

theorem pTwice_filter (pre : Lns) (x : Ln) : pTwice pre x ↔ pTwice (pre.filter (·.2.nb)) x := by
  constructor
  · rintro ⟨n, rfl, a, h⟩; exact ⟨n, rfl, a, List.mem_filter.2 ⟨h, rfl⟩⟩
  · rintro ⟨n, rfl, a, h⟩; exact ⟨n, rfl, a, (List.mem_filter.1 h).1⟩

theorem filter_nb (q : Ln → Bool) (hq : q .blank = false) (l : Lns) : (l.filter (·.2.nb)).filter (q ·.2) = l.filter (q ·.2) := by
  rw [List.filter_filter]
  apply List.filter_congr
  rintro ⟨a, x⟩ _
  cases x with
  | blank => simp [hq, Ln.nb]
  | state _ => simp [Ln.nb]
  | rule _ _ _ _ => simp [Ln.nb]

theorem pMany_filter (pre : Lns) (x : Ln) : pMany pre x ↔ pMany (pre.filter (·.2.nb)) x := by
  unfold pMany
  rw [filter_nb Ln.isState rfl, filter_nb Ln.isRule rfl]

theorem Chain.filter {ls : Lns} {e a : Nat} (h : Chain ls (tests ls) e a) : Chain (ls.filter (·.2.nb)) (tests (ls.filter (·.2.nb))) e a := by
  have key : ∀ {p p' : Lns → Ln → Prop} {o : Option Nat}, (∀ pre, ¬ p' pre .blank) → (∀ pre x, p' pre x ↔ p' (pre.filter (·.2.nb)) x) → (∀ pre x, p pre x ↔ p' pre x) → Fst p [] ls o → Fst p' [] (ls.filter (·.2.nb)) o := by
    intro p p' o h1 h2 h3 hf
    obtain rfl : p = p' := funext fun a => funext fun b => propext (h3 a b)
    exact hf.filter h1 h2
  have k3 : ∀ {o}, Fst pTwice [] ls o → Fst pTwice [] (ls.filter (·.2.nb)) o := key (fun _ h => by obtain ⟨n, h, _⟩ := h; cases h) pTwice_filter (fun _ _ => Iff.rfl)
  have k4 : ∀ {o}, Fst pMany [] ls o → Fst pMany [] (ls.filter (·.2.nb)) o := key (fun _ h => by cases h.1) pMany_filter (fun _ _ => Iff.rfl)
  have k5 : ∀ {o}, Fst (pUnknown ls) [] ls o → Fst (pUnknown (ls.filter (·.2.nb))) [] (ls.filter (·.2.nb)) o := by
    refine key (fun _ h => by obtain ⟨_, _, _, h, _⟩ := h; cases h) (fun _ _ => Iff.rfl) (fun _ x => ?_)
    constructor
    · rintro ⟨o, c, p, rfl, h⟩; exact ⟨o, c, p, rfl, fun a ha => h a (List.mem_filter.1 ha).1⟩
    · rintro ⟨o, c, p, rfl, h⟩; exact ⟨o, c, p, rfl, fun a ha => h a (List.mem_filter.2 ⟨ha, rfl⟩)⟩
  have k1 : ∀ {o}, Fst pLong [] ls o → Fst pLong [] (ls.filter (·.2.nb)) o := key (fun _ h => by obtain ⟨_, _, _, _, h, _⟩ := h; cases h) (fun _ _ => Iff.rfl) (fun _ _ => Iff.rfl)
  have k6 : ∀ {o}, Fst pPat [] ls o → Fst pPat [] (ls.filter (·.2.nb)) o := key (fun _ h => by obtain ⟨_, _, _, _, h, _⟩ := h; cases h) (fun _ _ => Iff.rfl) (fun _ _ => Iff.rfl)
  have k7 : ∀ {o}, Fst pEmpty [] ls o → Fst pEmpty [] (ls.filter (·.2.nb)) o := key (fun _ h => by obtain ⟨_, _, _, _, _, h, _⟩ := h; cases h) (fun _ _ => Iff.rfl) (fun _ _ => Iff.rfl)
  unfold tests at h ⊢
  cases h with
  | hit h => exact .hit (k3 h)
  | skip h0 h =>
    refine .skip (k3 h0) ?_
    cases h with
    | hit h => exact .hit (k4 h)
    | skip h0 h =>
      refine .skip (k4 h0) ?_
      cases h with
      | hit h => exact .hit (k5 h)
      | skip h0 h =>
        refine .skip (k5 h0) ?_
        cases h with
        | hit h => exact .hit (k1 h)
        | skip h0 h =>
          refine .skip (k1 h0) ?_
          cases h with
          | hit h => exact .hit (k6 h)
          | skip h0 h =>
            refine .skip (k6 h0) ?_
            cases h with
            | hit h => exact .hit (k7 h)
            | skip h0 h => cases h; exact .skip (k7 h0) .nil

/-- What Load tells: the error, the place; and behind error 0 the lines. -/
inductive LoadIs (s : List UInt8) : Nat → Nat → Lns → Prop where
  | long : 2000 < s.length → LoadIs s 1 0 []
  | form {a : Nat} : s.length ≤ 2000 → rd 0 [] s = .inl a → LoadIs s 2 a []
  | fault {ls : Lns} {e a : Nat} : s.length ≤ 2000 → rd 0 [] s = .inr ls → Chain (ls.filter (·.2.nb)) (tests (ls.filter (·.2.nb))) e a → e ≠ 0 → LoadIs s e a []
  | none {ls : Lns} : s.length ≤ 2000 → rd 0 [] s = .inr ls → ls.filter (·.2.nb) = [] → LoadIs s 4 s.length []
  | ok {ls : Lns} : s.length ≤ 2000 → rd 0 [] s = .inr ls → Chain (ls.filter (·.2.nb)) (tests (ls.filter (·.2.nb))) 0 0 → ls.filter (·.2.nb) ≠ [] → LoadIs s 0 0 (ls.filter (·.2.nb))

theorem chain_nil : Chain [] (tests []) 0 0 := .skip .nil (.skip .nil (.skip .nil (.skip .nil (.skip .nil (.skip .nil .nil)))))

theorem LoadIs.det {s : List UInt8} {e a e' a' : Nat} {l l' : Lns} (h : LoadIs s e a l) (h' : LoadIs s e' a' l') : e = e' ∧ a = a' ∧ l = l' := by
  cases h with
  | long h1 => cases h' with
    | long _ => exact ⟨rfl, rfl, rfl⟩
    | form h2 _ => omega
    | fault h2 _ _ _ => omega
    | none h2 _ _ => omega
    | ok h2 _ _ _ => omega
  | form h1 h2 => cases h' with
    | long h3 => omega
    | form _ h3 => rw [h2] at h3; cases h3; exact ⟨rfl, rfl, rfl⟩
    | fault _ h3 _ _ => rw [h2] at h3; cases h3
    | none _ h3 _ => rw [h2] at h3; cases h3
    | ok _ h3 _ _ => rw [h2] at h3; cases h3
  | fault h1 h2 hc hn => cases h' with
    | long h3 => omega
    | form _ h3 => rw [h2] at h3; cases h3
    | fault _ h3 hc' _ => rw [h2] at h3; cases h3; obtain ⟨h4, h5⟩ := hc.det hc'; exact ⟨h4, h5, rfl⟩
    | none _ h3 hz => rw [h2] at h3; cases h3; rw [hz] at hc; exact absurd (hc.det chain_nil).1 hn
    | ok _ h3 hc' _ => rw [h2] at h3; cases h3; exact absurd (hc.det hc').1 hn
  | none h1 h2 hz => cases h' with
    | long h3 => omega
    | form _ h3 => rw [h2] at h3; cases h3
    | fault _ h3 hc' hn => rw [h2] at h3; cases h3; rw [hz] at hc'; exact absurd (hc'.det chain_nil).1 hn
    | none _ _ _ => exact ⟨rfl, rfl, rfl⟩
    | ok _ h3 _ hz' => rw [h2] at h3; cases h3; exact absurd hz hz'
  | ok h1 h2 hc hz => cases h' with
    | long h3 => omega
    | form _ h3 => rw [h2] at h3; cases h3
    | fault _ h3 hc' hn => rw [h2] at h3; cases h3; exact absurd (hc'.det hc).1 hn
    | none _ h3 hz' => rw [h2] at h3; cases h3; exact absurd hz' hz
    | ok _ h3 _ _ => rw [h2] at h3; cases h3; exact ⟨rfl, rfl, rfl⟩
end Tint
