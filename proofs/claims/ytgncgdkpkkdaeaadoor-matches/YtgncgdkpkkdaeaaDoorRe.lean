/- Patterns as trees, what they match, their derivatives; nothing of the program. -/
namespace Tint

/-- A byte class, as it is put together. -/
inductive Cls where
  | any
  | range (lo hi : UInt8)
  | union (a b : Cls)
  | compl (a : Cls)

def Cls.has : Cls → UInt8 → Bool
  | .any, _ => true
  | .range lo hi, b => decide (lo.toNat ≤ b.toNat) && decide (b.toNat ≤ hi.toNat)
  | .union a b, x => a.has x || b.has x
  | .compl a, x => !a.has x

inductive Re where
  | eps
  | cls (c : Cls)
  | seq (a b : Re)
  | alt (a b : Re)
  | star (a : Re)
  | plus (a : Re)
  | opt (a : Re)

/-- What a pattern matches. -/
inductive Mt : Re → List UInt8 → Prop where
  | eps : Mt .eps []
  | cls {c : Cls} {b : UInt8} : c.has b = true → Mt (.cls c) [b]
  | seq {a b : Re} {u v : List UInt8} : Mt a u → Mt b v → Mt (.seq a b) (u ++ v)
  | altl {a b : Re} {u : List UInt8} : Mt a u → Mt (.alt a b) u
  | altr {a b : Re} {u : List UInt8} : Mt b u → Mt (.alt a b) u
  | star0 {a : Re} : Mt (.star a) []
  | starS {a : Re} {u v : List UInt8} : Mt a u → Mt (.star a) v → Mt (.star a) (u ++ v)
  | plus {a : Re} {u v : List UInt8} : Mt a u → Mt (.star a) v → Mt (.plus a) (u ++ v)
  | opt0 {a : Re} : Mt (.opt a) []
  | opt1 {a : Re} {u : List UInt8} : Mt a u → Mt (.opt a) u

def Re.nullable : Re → Bool
  | .eps => true
  | .cls _ => false
  | .seq a b => a.nullable && b.nullable
  | .alt a b => a.nullable || b.nullable
  | .star _ => true
  | .plus a => a.nullable
  | .opt _ => true

theorem mt_nil (r : Re) : Mt r [] ↔ r.nullable = true := by
  induction r with
  | eps => exact ⟨fun _ => rfl, fun _ => .eps⟩
  | cls c => exact ⟨fun h => (by cases h), fun h => (by simp [Re.nullable] at h)⟩
  | seq a b iha ihb =>
    constructor
    · intro h
      generalize hn : ([] : List UInt8) = w at h
      cases h with
      | seq ha hb =>
        have h1 := List.append_eq_nil_iff.1 hn.symm
        rw [h1.1] at ha; rw [h1.2] at hb
        simp [Re.nullable, iha.1 ha, ihb.1 hb]
    · intro h
      simp [Re.nullable] at h
      exact Mt.seq (u := []) (v := []) (iha.2 h.1) (ihb.2 h.2)
  | alt a b iha ihb =>
    constructor
    · intro h
      cases h with
      | altl h => simp [Re.nullable, iha.1 h]
      | altr h => simp [Re.nullable, ihb.1 h]
    · intro h
      simp [Re.nullable] at h
      rcases h with h | h
      · exact .altl (iha.2 h)
      · exact .altr (ihb.2 h)
  | star a iha => exact ⟨fun _ => rfl, fun _ => .star0⟩
  | plus a iha =>
    constructor
    · intro h
      generalize hn : ([] : List UInt8) = w at h
      cases h with
      | plus ha hb =>
        have h1 := List.append_eq_nil_iff.1 hn.symm
        rw [h1.1] at ha
        simp [Re.nullable, iha.1 ha]
    · intro h
      exact Mt.plus (u := []) (v := []) (iha.2 h) .star0
  | opt a iha => exact ⟨fun _ => rfl, fun _ => .opt0⟩

theorem mt_seq {a b : Re} {w : List UInt8} : Mt (.seq a b) w ↔ ∃ u v, w = u ++ v ∧ Mt a u ∧ Mt b v :=
  ⟨fun h => by cases h with | seq ha hb => exact ⟨_, _, rfl, ha, hb⟩, fun ⟨_, _, e, ha, hb⟩ => e ▸ .seq ha hb⟩
theorem mt_alt {a b : Re} {w : List UInt8} : Mt (.alt a b) w ↔ Mt a w ∨ Mt b w :=
  ⟨fun h => by cases h with | altl h => exact .inl h | altr h => exact .inr h, fun h => h.elim .altl .altr⟩
theorem mt_opt {a : Re} {w : List UInt8} : Mt (.opt a) w ↔ w = [] ∨ Mt a w :=
  ⟨fun h => by cases h with | opt0 => exact .inl rfl | opt1 h => exact .inr h, fun h => h.elim (fun e => e ▸ .opt0) .opt1⟩
theorem mt_plus {a : Re} {w : List UInt8} : Mt (.plus a) w ↔ ∃ u v, w = u ++ v ∧ Mt a u ∧ Mt (.star a) v :=
  ⟨fun h => by cases h with | plus ha hb => exact ⟨_, _, rfl, ha, hb⟩, fun ⟨_, _, e, ha, hb⟩ => e ▸ .plus ha hb⟩
theorem mt_cls {c : Cls} {w : List UInt8} : Mt (.cls c) w ↔ ∃ b, w = [b] ∧ c.has b = true :=
  ⟨fun h => by cases h with | cls h => exact ⟨_, rfl, h⟩, fun ⟨_, e, h⟩ => e ▸ .cls h⟩
theorem mt_eps {w : List UInt8} : Mt .eps w ↔ w = [] :=
  ⟨fun h => by cases h; rfl, fun e => e ▸ .eps⟩

/-- A word of one byte or more that a star matches begins with a word of one byte or more that its part matches. -/
theorem mt_star_cons {a : Re} {b : UInt8} {w : List UInt8} (h : Mt (.star a) (b :: w)) :
    ∃ u v, w = u ++ v ∧ Mt a (b :: u) ∧ Mt (.star a) v := by
  generalize hr : Re.star a = r at h
  generalize hw : b :: w = x at h
  induction h with
  | eps | cls _ | seq _ _ | altl _ | altr _ | plus _ _ | opt0 | opt1 _ => cases hr
  | star0 => cases hw
  | starS ha hb iha ihb =>
    cases hr
    rename_i u v
    cases u with
    | nil => exact ihb rfl hw
    | cons c u =>
      simp only [List.cons_append, List.cons.injEq] at hw
      obtain ⟨rfl, rfl⟩ := hw
      exact ⟨u, v, rfl, ha, hb⟩

theorem mt_seq_cons {a b : Re} {x : UInt8} {w : List UInt8} :
    Mt (.seq a b) (x :: w) ↔ (∃ u v, w = u ++ v ∧ Mt a (x :: u) ∧ Mt b v) ∨ (a.nullable = true ∧ Mt b (x :: w)) := by
  rw [mt_seq]
  constructor
  · rintro ⟨u, v, e, ha, hb⟩
    cases u with
    | nil => exact .inr ⟨(mt_nil _).1 ha, by simpa [e] using hb⟩
    | cons c u =>
      simp only [List.cons_append, List.cons.injEq] at e
      obtain ⟨rfl, rfl⟩ := e
      exact .inl ⟨u, v, rfl, ha, hb⟩
  · rintro (⟨u, v, e, ha, hb⟩ | ⟨hn, hb⟩)
    · exact ⟨x :: u, v, by simp [e], ha, hb⟩
    · exact ⟨[], x :: w, rfl, (mt_nil _).2 hn, hb⟩

/-! ## In reverse -/

def Re.rev : Re → Re
  | .eps => .eps
  | .cls c => .cls c
  | .seq a b => .seq b.rev a.rev
  | .alt a b => .alt a.rev b.rev
  | .star a => .star a.rev
  | .plus a => .plus a.rev
  | .opt a => .opt a.rev

theorem Re.rev_rev (r : Re) : r.rev.rev = r := by
  induction r <;> simp_all [Re.rev]

theorem mt_star_snoc {a : Re} {u v : List UInt8} (h : Mt (.star a) u) (k : Mt a v) : Mt (.star a) (u ++ v) := by
  generalize hr : Re.star a = r at h
  induction h with
  | eps | cls _ | seq _ _ | altl _ | altr _ | plus _ _ | opt0 | opt1 _ => cases hr
  | star0 => cases hr; simpa using Mt.starS k .star0
  | starS ha hb iha ihb =>
    cases hr
    rw [List.append_assoc]
    exact .starS ha (ihb rfl)

theorem mt_star_one {a : Re} {u : List UInt8} (h : Mt a u) : Mt (.star a) u := by
  simpa using Mt.starS h .star0

theorem mt_plus' {a : Re} {u v : List UInt8} (h : Mt (.star a) u) (k : Mt a v) : Mt (.plus a) (u ++ v) := by
  generalize hr : Re.star a = r at h
  induction h with
  | eps | cls _ | seq _ _ | altl _ | altr _ | plus _ _ | opt0 | opt1 _ => cases hr
  | star0 => cases hr; simpa using Mt.plus k .star0
  | starS ha hb iha ihb =>
    cases hr
    have h2 := ihb rfl
    rw [List.append_assoc]
    refine .plus ha ?_
    exact mt_star_snoc hb k

theorem mt_rev_of {r : Re} {w : List UInt8} (h : Mt r w) : Mt r.rev w.reverse := by
  induction h with
  | eps => exact .eps
  | cls h => exact .cls h
  | seq _ _ iha ihb => rw [List.reverse_append]; exact .seq ihb iha
  | altl _ ih => exact .altl ih
  | altr _ ih => exact .altr ih
  | star0 => exact .star0
  | starS _ _ iha ihb => rw [List.reverse_append]; exact mt_star_snoc ihb iha
  | plus _ _ iha ihb => rw [List.reverse_append]; exact mt_plus' ihb iha
  | opt0 => exact .opt0
  | opt1 _ ih => exact .opt1 ih

theorem mt_rev {r : Re} {w : List UInt8} : Mt r.rev w ↔ Mt r w.reverse := by
  constructor
  · intro h; simpa [Re.rev_rev] using mt_rev_of h
  · intro h; simpa using mt_rev_of h

theorem nullable_rev (r : Re) : r.rev.nullable = r.nullable := by
  induction r <;> simp_all [Re.rev, Re.nullable, Bool.and_comm]

end Tint
