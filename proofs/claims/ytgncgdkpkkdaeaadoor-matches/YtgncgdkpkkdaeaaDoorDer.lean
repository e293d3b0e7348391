/- Derivatives, as the program takes them: trees whose parts bear their places in a list; what is left of one, given a byte; there are never more of them than bytes in the pattern. -/
import Derived.Test.YtgncgdkpkkdaeaaDoorRe
namespace Tint

/-- A tree whose parts bear their places. The empty text is at place 0. 'plus' bears the place of its star, too. -/
inductive ARe where
  | eps
  | cls (i : Nat) (c : Cls)
  | seq (i : Nat) (a b : ARe)
  | alt (i : Nat) (a b : ARe)
  | star (i : Nat) (a : ARe)
  | plus (i j : Nat) (a : ARe)
  | opt (i : Nat) (a : ARe)

def ARe.ix : ARe → Nat
  | .eps => 0
  | .cls i _ => i
  | .seq i _ _ => i
  | .alt i _ _ => i
  | .star i _ => i
  | .plus i _ _ => i
  | .opt i _ => i

def ARe.re : ARe → Re
  | .eps => .eps
  | .cls _ c => .cls c
  | .seq _ a b => .seq a.re b.re
  | .alt _ a b => .alt a.re b.re
  | .star _ a => .star a.re
  | .plus _ _ a => .plus a.re
  | .opt _ a => .opt a.re

/-- What is left: a tree, or what is left of one and a tree behind it. -/
inductive D where
  | base (a : ARe)
  | snoc (d : D) (a : ARe)

def D.re : D → Re
  | .base a => a.re
  | .snoc d a => .seq d.re a.re

def tcat : D → ARe → D
  | .base .eps, a => .base a
  | d, a => .snoc d a

theorem mt_tcat (d : D) (a : ARe) (w : List UInt8) : Mt (tcat d a).re w ↔ Mt (.seq d.re a.re) w := by
  unfold tcat
  split
  · simp only [D.re, ARe.re, mt_seq, mt_eps]
    constructor
    · intro h; exact ⟨[], w, rfl, rfl, h⟩
    · rintro ⟨u, v, rfl, rfl, h⟩; exact h
  · rfl

def pdA (b : UInt8) : ARe → List D
  | .eps => []
  | .cls _ c => if c.has b then [.base .eps] else []
  | .seq _ x y => (pdA b x).map (tcat · y) ++ (if x.re.nullable then pdA b y else [])
  | .alt _ x y => pdA b x ++ pdA b y
  | .star i x => (pdA b x).map (tcat · (.star i x))
  | .plus _ j x => (pdA b x).map (tcat · (.star j x))
  | .opt _ x => pdA b x

def pd (b : UInt8) : D → List D
  | .base a => pdA b a
  | .snoc d a => (pd b d).map (tcat · a) ++ (if d.re.nullable then pdA b a else [])

theorem ex_map_tcat {l : List D} {y : ARe} {w : List UInt8} :
    (∃ d ∈ l.map (tcat · y), Mt d.re w) ↔ ∃ u v, w = u ++ v ∧ (∃ d ∈ l, Mt d.re u) ∧ Mt y.re v := by
  constructor
  · rintro ⟨d, hd, hm⟩
    obtain ⟨d', hd', rfl⟩ := List.mem_map.1 hd
    rw [mt_tcat, mt_seq] at hm
    obtain ⟨u, v, e, h1, h2⟩ := hm
    exact ⟨u, v, e, ⟨d', hd', h1⟩, h2⟩
  · rintro ⟨u, v, e, ⟨d, hd, h1⟩, h2⟩
    refine ⟨tcat d y, List.mem_map.2 ⟨d, hd, rfl⟩, ?_⟩
    rw [mt_tcat, mt_seq]
    exact ⟨u, v, e, h1, h2⟩

theorem pdA_spec (b : UInt8) (a : ARe) (w : List UInt8) : Mt a.re (b :: w) ↔ ∃ d ∈ pdA b a, Mt d.re w := by
  induction a generalizing w with
  | eps => simp [ARe.re, pdA, mt_eps]
  | cls i c =>
    simp only [ARe.re, pdA, mt_cls]
    by_cases h : c.has b = true
    · simp only [h, if_true, List.mem_singleton]
      constructor
      · rintro ⟨c', e, _⟩
        simp only [List.cons.injEq] at e
        exact ⟨_, rfl, by simp [D.re, ARe.re, mt_eps, e.2]⟩
      · rintro ⟨d, rfl, hm⟩
        simp only [D.re, ARe.re, mt_eps] at hm
        exact ⟨b, by simp [hm], h⟩
    · simp only [h]
      constructor
      · rintro ⟨c', e, h2⟩
        simp only [List.cons.injEq] at e
        rw [← e.1] at h2
        exact absurd h2 h
      · rintro ⟨d, hd, _⟩
        simp at hd
  | seq i x y ihx ihy =>
    simp only [ARe.re, pdA, mt_seq_cons, List.mem_append]
    rw [show (∃ d, (d ∈ (pdA b x).map (tcat · y) ∨ d ∈ (if x.re.nullable = true then pdA b y else [])) ∧ Mt d.re w) ↔
      (∃ d ∈ (pdA b x).map (tcat · y), Mt d.re w) ∨ (∃ d ∈ (if x.re.nullable = true then pdA b y else []), Mt d.re w) from
      ⟨fun ⟨d, h, m⟩ => h.elim (fun h => .inl ⟨d, h, m⟩) (fun h => .inr ⟨d, h, m⟩),
       fun h => h.elim (fun ⟨d, h, m⟩ => ⟨d, .inl h, m⟩) (fun ⟨d, h, m⟩ => ⟨d, .inr h, m⟩)⟩]
    rw [ex_map_tcat]
    simp only [ihx, ihy]
    by_cases h : x.re.nullable = true
    · simp [h]
    · simp [h]
  | alt i x y ihx ihy =>
    simp only [ARe.re, pdA, mt_alt, List.mem_append, ihx, ihy]
    exact ⟨fun h => h.elim (fun ⟨d, h, m⟩ => ⟨d, .inl h, m⟩) (fun ⟨d, h, m⟩ => ⟨d, .inr h, m⟩),
      fun ⟨d, h, m⟩ => h.elim (fun h => .inl ⟨d, h, m⟩) (fun h => .inr ⟨d, h, m⟩)⟩
  | star i x ih =>
    simp only [ARe.re, pdA, ex_map_tcat]
    constructor
    · intro h
      obtain ⟨u, v, e, h1, h2⟩ := mt_star_cons h
      exact ⟨u, v, e, (ih u).1 h1, h2⟩
    · rintro ⟨u, v, e, h1, h2⟩
      subst e
      exact Mt.starS (u := b :: u) ((ih u).2 h1) h2
  | plus i j x ih =>
    simp only [ARe.re, pdA, ex_map_tcat, mt_plus]
    constructor
    · rintro ⟨u, v, e, h1, h2⟩
      cases u with
      | nil =>
        simp only [List.nil_append] at e
        subst e
        obtain ⟨u, v, e, h3, h4⟩ := mt_star_cons h2
        exact ⟨u, v, e, (ih u).1 h3, h4⟩
      | cons c u =>
        simp only [List.cons_append, List.cons.injEq] at e
        obtain ⟨rfl, rfl⟩ := e
        exact ⟨u, v, rfl, (ih u).1 h1, h2⟩
    · rintro ⟨u, v, e, h1, h2⟩
      subst e
      exact ⟨b :: u, v, rfl, (ih u).2 h1, h2⟩
  | opt i x ih =>
    simp only [ARe.re, pdA, mt_opt, ih]
    simp

theorem pd_spec (b : UInt8) (d : D) (w : List UInt8) : Mt d.re (b :: w) ↔ ∃ d' ∈ pd b d, Mt d'.re w := by
  induction d generalizing w with
  | base a => exact pdA_spec b a w
  | snoc d a ih =>
    simp only [D.re, pd, mt_seq_cons, List.mem_append]
    rw [show (∃ d', (d' ∈ (pd b d).map (tcat · a) ∨ d' ∈ (if d.re.nullable = true then pdA b a else [])) ∧ Mt d'.re w) ↔
      (∃ d' ∈ (pd b d).map (tcat · a), Mt d'.re w) ∨ (∃ d' ∈ (if d.re.nullable = true then pdA b a else []), Mt d'.re w) from
      ⟨fun ⟨d, h, m⟩ => h.elim (fun h => .inl ⟨d, h, m⟩) (fun h => .inr ⟨d, h, m⟩),
       fun h => h.elim (fun ⟨d, h, m⟩ => ⟨d, .inl h, m⟩) (fun ⟨d, h, m⟩ => ⟨d, .inr h, m⟩)⟩]
    rw [ex_map_tcat]
    simp only [ih, pdA_spec b a]
    by_cases h : d.re.nullable = true
    · simp [h]
    · simp [h]

/-! ## There are few -/

def ARe.leaves : ARe → Nat
  | .eps => 0
  | .cls _ _ => 1
  | .seq _ a b => a.leaves + b.leaves
  | .alt _ a b => a.leaves + b.leaves
  | .star _ a => a.leaves
  | .plus _ _ a => a.leaves
  | .opt _ a => a.leaves

/-- All that may be left of a tree behind one byte or more. -/
def allA : ARe → List D
  | .eps => []
  | .cls _ _ => [.base .eps]
  | .seq _ x y => (allA x).map (tcat · y) ++ allA y
  | .alt _ x y => allA x ++ allA y
  | .star i x => (allA x).map (tcat · (.star i x))
  | .plus _ j x => (allA x).map (tcat · (.star j x))
  | .opt _ x => allA x

def allD : D → List D
  | .base a => allA a
  | .snoc d a => (allD d).map (tcat · a) ++ allA a

theorem length_allA (a : ARe) : (allA a).length = a.leaves := by
  induction a <;> simp_all [allA, ARe.leaves]

theorem pdA_sub (b : UInt8) (a : ARe) : ∀ d ∈ pdA b a, d ∈ allA a := by
  induction a with
  | eps => simp [pdA]
  | cls i c => simp only [pdA, allA]; split <;> simp
  | seq i x y ihx ihy =>
    intro d hd
    simp only [pdA, List.mem_append, List.mem_map] at hd
    simp only [allA, List.mem_append, List.mem_map]
    rcases hd with ⟨d', h, rfl⟩ | h
    · exact .inl ⟨d', ihx _ h, rfl⟩
    · split at h
      · exact .inr (ihy _ h)
      · simp at h
  | alt i x y ihx ihy =>
    intro d hd
    simp only [pdA, List.mem_append] at hd
    simp only [allA, List.mem_append]
    exact hd.imp (ihx _) (ihy _)
  | star i x ih =>
    intro d hd
    simp only [pdA, List.mem_map] at hd
    simp only [allA, List.mem_map]
    obtain ⟨d', h, rfl⟩ := hd
    exact ⟨d', ih _ h, rfl⟩
  | plus i j x ih =>
    intro d hd
    simp only [pdA, List.mem_map] at hd
    simp only [allA, List.mem_map]
    obtain ⟨d', h, rfl⟩ := hd
    exact ⟨d', ih _ h, rfl⟩
  | opt i x ih => exact ih

theorem pd_sub (b : UInt8) (d : D) : ∀ d' ∈ pd b d, d' ∈ allD d := by
  induction d with
  | base a => exact pdA_sub b a
  | snoc d a ih =>
    intro d' hd
    simp only [pd, List.mem_append, List.mem_map] at hd
    simp only [allD, List.mem_append, List.mem_map]
    rcases hd with ⟨d', h, rfl⟩ | h
    · exact .inl ⟨d', ih _ h, rfl⟩
    · split at h
      · exact .inr (pdA_sub b a _ h)
      · simp at h

theorem allD_tcat {d : D} {a : ARe} {x : D} (h : x ∈ allD (tcat d a)) : (∃ y ∈ allD d, x = tcat y a) ∨ x ∈ allA a := by
  unfold tcat at h
  split at h
  · exact .inr h
  · simp only [allD, List.mem_append, List.mem_map] at h
    exact h.imp (fun ⟨y, h, e⟩ => ⟨y, h, e.symm⟩) id

theorem allA_closed (a : ARe) : ∀ d ∈ allA a, ∀ x ∈ allD d, x ∈ allA a := by
  induction a with
  | eps => simp [allA]
  | cls i c => intro d hd x hx; simp only [allA, List.mem_singleton] at hd; subst hd; simp [allD, allA] at hx
  | seq i p q ihp ihq =>
    intro d hd x hx
    simp only [allA, List.mem_append, List.mem_map] at hd ⊢
    rcases hd with ⟨d', h, rfl⟩ | h
    · rcases allD_tcat hx with ⟨y, hy, rfl⟩ | h2
      · exact .inl ⟨y, ihp _ h _ hy, rfl⟩
      · exact .inr h2
    · exact .inr (ihq _ h _ hx)
  | alt i p q ihp ihq =>
    intro d hd x hx
    simp only [allA, List.mem_append] at hd ⊢
    exact hd.imp (fun h => ihp _ h _ hx) (fun h => ihq _ h _ hx)
  | star i p ih =>
    intro d hd x hx
    simp only [allA, List.mem_map] at hd
    obtain ⟨d', h, rfl⟩ := hd
    rcases allD_tcat hx with ⟨y, hy, rfl⟩ | h2
    · simp only [allA, List.mem_map]
      exact ⟨y, ih _ h _ hy, rfl⟩
    · exact h2
  | plus i j p ih =>
    intro d hd x hx
    simp only [allA, List.mem_map] at hd
    obtain ⟨d', h, rfl⟩ := hd
    rcases allD_tcat hx with ⟨y, hy, rfl⟩ | h2
    · simp only [allA, List.mem_map]
      exact ⟨y, ih _ h _ hy, rfl⟩
    · simpa [allA] using h2
  | opt i p ih => exact ih

/-- What may be met when a tree is given bytes: itself, and what may be left of it. -/
def met (a : ARe) : List D := .base a :: allA a

theorem met_closed (a : ARe) (b : UInt8) (d : D) (hd : d ∈ met a) : ∀ x ∈ pd b d, x ∈ met a := by
  intro x hx
  simp only [met, List.mem_cons] at hd ⊢
  rcases hd with rfl | h
  · exact .inr (pdA_sub b a _ hx)
  · exact .inr (allA_closed a d h x (pd_sub b d _ hx))

theorem length_met (a : ARe) : (met a).length = a.leaves + 1 := by simp [met, length_allA]

/-- A list without repeats whose members all are members of another is no longer than that. -/
theorem nodup_length_le {α : Type} [DecidableEq α] {l m : List α} (hn : l.Nodup) (h : ∀ x ∈ l, x ∈ m) : l.length ≤ m.length := by
  induction l generalizing m with
  | nil => simp
  | cons a l ih =>
    have ha : a ∈ m := h a (by simp)
    rw [List.nodup_cons] at hn
    have h2 : ∀ x ∈ l, x ∈ m.erase a := fun x hx => by
      rw [List.mem_erase_of_ne (fun e => by subst e; exact hn.1 hx)]
      exact h x (by simp [hx])
    have h3 := ih hn.2 h2
    rw [List.length_erase_of_mem ha] at h3
    have : 0 < m.length := List.length_pos_of_mem ha
    simp; omega

/-! ## A list of nodes that a tree lies in -/

/-- A node of a list: what it is made of; its class, as something that 'isC' knows; its parts' places; does it match the empty text? -/
structure Nd (α : Type) where
  kind : Nat
  has : α
  left : Nat
  right : Nat
  empty : Bool

/-- The tree lies in the list. -/
def Rep {α : Type} (isC : α → Cls → Prop) (ns : List (Nd α)) : ARe → Prop
  | .eps => ∃ h, ns[0]? = some ⟨0, h, 0, 0, true⟩
  | .cls i c => i ≠ 0 ∧ ∃ h, ns[i]? = some ⟨1, h, 0, 0, false⟩ ∧ isC h c
  | .seq i a b => i ≠ 0 ∧ (∃ h, ns[i]? = some ⟨2, h, a.ix, b.ix, a.re.nullable && b.re.nullable⟩) ∧ Rep isC ns a ∧ Rep isC ns b
  | .alt i a b => i ≠ 0 ∧ (∃ h, ns[i]? = some ⟨3, h, a.ix, b.ix, a.re.nullable || b.re.nullable⟩) ∧ Rep isC ns a ∧ Rep isC ns b
  | .star i a => i ≠ 0 ∧ (∃ h, ns[i]? = some ⟨4, h, a.ix, 0, true⟩) ∧ Rep isC ns a
  | .plus i j a => i ≠ 0 ∧ j ≠ 0 ∧ (∃ h, ns[i]? = some ⟨5, h, a.ix, j, a.re.nullable⟩) ∧ (∃ h, ns[j]? = some ⟨4, h, a.ix, 0, true⟩) ∧ Rep isC ns a
  | .opt i a => i ≠ 0 ∧ (∃ h, ns[i]? = some ⟨6, h, a.ix, 0, true⟩) ∧ Rep isC ns a

theorem Rep.mono {α : Type} {isC isC' : α → Cls → Prop} {ns ns' : List (Nd α)} (hc : ∀ h c, isC h c → isC' h c) (hn : ∀ (i : Nat) nd, ns[i]? = some nd → ns'[i]? = some nd) {a : ARe} (h : Rep isC ns a) : Rep isC' ns' a := by
  induction a with
  | eps => obtain ⟨x, h⟩ := h; exact ⟨x, hn _ _ h⟩
  | cls i c => obtain ⟨h0, x, h1, h2⟩ := h; exact ⟨h0, x, hn _ _ h1, hc _ _ h2⟩
  | seq i a b iha ihb => obtain ⟨h0, ⟨x, h1⟩, h2, h3⟩ := h; exact ⟨h0, ⟨x, hn _ _ h1⟩, iha h2, ihb h3⟩
  | alt i a b iha ihb => obtain ⟨h0, ⟨x, h1⟩, h2, h3⟩ := h; exact ⟨h0, ⟨x, hn _ _ h1⟩, iha h2, ihb h3⟩
  | star i a ih => obtain ⟨h0, ⟨x, h1⟩, h2⟩ := h; exact ⟨h0, ⟨x, hn _ _ h1⟩, ih h2⟩
  | plus i j a ih => obtain ⟨h0, h0', ⟨x, h1⟩, ⟨y, h2⟩, h3⟩ := h; exact ⟨h0, h0', ⟨x, hn _ _ h1⟩, ⟨y, hn _ _ h2⟩, ih h3⟩
  | opt i a ih => obtain ⟨h0, ⟨x, h1⟩, h2⟩ := h; exact ⟨h0, ⟨x, hn _ _ h1⟩, ih h2⟩

theorem Rep.append {α : Type} {isC : α → Cls → Prop} {ns ms : List (Nd α)} {a : ARe} (h : Rep isC ns a) : Rep isC (ns ++ ms) a :=
  h.mono (fun _ _ h => h) (fun i nd h => by
    have hi : i < ns.length := by
      rcases Nat.lt_or_ge i ns.length with h' | h'
      · exact h'
      · rw [List.getElem?_eq_none h'] at h; cases h
    rw [List.getElem?_append_left hi]; exact h)

/-- The node at a tree's place tells whether the tree matches the empty text. -/
theorem Rep.empty {α : Type} {isC : α → Cls → Prop} {ns : List (Nd α)} {a : ARe} (h : Rep isC ns a) : ∃ nd, ns[a.ix]? = some nd ∧ nd.empty = a.re.nullable := by
  cases a with
  | eps => obtain ⟨x, h⟩ := h; exact ⟨_, h, rfl⟩
  | cls i c => obtain ⟨h0, x, h1, h2⟩ := h; exact ⟨_, h1, rfl⟩
  | seq i a b => obtain ⟨h0, ⟨x, h1⟩, h2, h3⟩ := h; exact ⟨_, h1, rfl⟩
  | alt i a b => obtain ⟨h0, ⟨x, h1⟩, h2, h3⟩ := h; exact ⟨_, h1, rfl⟩
  | star i a => obtain ⟨h0, ⟨x, h1⟩, h2⟩ := h; exact ⟨_, h1, rfl⟩
  | plus i j a => obtain ⟨h0, h0', ⟨x, h1⟩, ⟨y, h2⟩, h3⟩ := h; exact ⟨_, h1, rfl⟩
  | opt i a => obtain ⟨h0, ⟨x, h1⟩, h2⟩ := h; exact ⟨_, h1, rfl⟩

theorem Rep.lt {α : Type} {isC : α → Cls → Prop} {ns : List (Nd α)} {a : ARe} (h : Rep isC ns a) : a.ix < ns.length := by
  obtain ⟨nd, h1, _⟩ := h.empty
  rcases Nat.lt_or_ge a.ix ns.length with h' | h'
  · exact h'
  · rw [List.getElem?_eq_none h'] at h1; cases h1

end Tint
