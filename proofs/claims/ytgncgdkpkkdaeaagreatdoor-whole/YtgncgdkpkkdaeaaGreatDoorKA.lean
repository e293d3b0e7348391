namespace Tint
inductive Cls where
 | any
 | range (lo hi : UInt8)
 | union (a b : Cls)
 | compl (a : Cls)
def Cls.has : Cls → UInt8 → Bool
 | .any, _ => true
 | .range lo hi, b => decide (lo.toNat ≤ b.toNat) && decide (b.toNat ≤ hi.toNat)
 | .union a b, x => a.has x || b.has x
 | .compl a, x => !a.has x
inductive Re where
 | eps
 | cls (c : Cls)
 | seq (a b : Re)
 | alt (a b : Re)
 | star (a : Re)
 | plus (a : Re)
 | opt (a : Re)
inductive Mt : Re → List UInt8 → Prop where
 | eps : Mt .eps []
 | cls {c : Cls} {b : UInt8} : c.has b = true → Mt (.cls c) [b]
 | seq {a b : Re} {u v : List UInt8} : Mt a u → Mt b v → Mt (.seq a b) (u ++ v)
 | altl {a b : Re} {u : List UInt8} : Mt a u → Mt (.alt a b) u
 | altr {a b : Re} {u : List UInt8} : Mt b u → Mt (.alt a b) u
 | star0 {a : Re} : Mt (.star a) []
 | starS {a : Re} {u v : List UInt8} : Mt a u → Mt (.star a) v → Mt (.star a) (u ++ v)
 | plus {a : Re} {u v : List UInt8} : Mt a u → Mt (.star a) v → Mt (.plus a) (u ++ v)
 | opt0 {a : Re} : Mt (.opt a) []
 | opt1 {a : Re} {u : List UInt8} : Mt a u → Mt (.opt a) u
def Re.nullable : Re → Bool
 | .eps => true
 | .cls _ => false
 | .seq a b => a.nullable && b.nullable
 | .alt a b => a.nullable || b.nullable
 | .star _ => true
 | .plus a => a.nullable
 | .opt _ => true
theorem mt_nil (r : Re) : Mt r [] ↔ r.nullable = true := by
 induction r with
 | eps => exact ⟨fun _ => rfl, fun _ => .eps⟩
 | cls c => exact ⟨fun h => (by cases h), fun h => (by simp [Re.nullable] at h)⟩
 | seq a b iha ihb =>
  constructor
  ·intro h
   generalize hn : ([] : List UInt8) = w at h
   cases h with
   | seq ha hb =>
    have h1 := List.append_eq_nil_iff.1 hn.symm
    rw [h1.1] at ha; rw [h1.2] at hb
    simp [Re.nullable, iha.1 ha, ihb.1 hb]
  ·intro h
   simp [Re.nullable] at h
   exact Mt.seq (u := []) (v := []) (iha.2 h.1) (ihb.2 h.2)
 | alt a b iha ihb =>
  constructor
  ·intro h
   cases h with
   | altl h => simp [Re.nullable, iha.1 h]
   | altr h => simp [Re.nullable, ihb.1 h]
  ·intro h
   simp [Re.nullable] at h
   rcases h with h | h
   ·exact .altl (iha.2 h)
   ·exact .altr (ihb.2 h)
 | star a iha => exact ⟨fun _ => rfl, fun _ => .star0⟩
 | plus a iha =>
  constructor
  ·intro h
   generalize hn : ([] : List UInt8) = w at h
   cases h with
   | plus ha hb =>
    have h1 := List.append_eq_nil_iff.1 hn.symm
    rw [h1.1] at ha
    simp [Re.nullable, iha.1 ha]
  ·intro h
   exact Mt.plus (u := []) (v := []) (iha.2 h) .star0
 | opt a iha => exact ⟨fun _ => rfl, fun _ => .opt0⟩
theorem mt_seq {a b : Re} {w : List UInt8} : Mt (.seq a b) w ↔ ∃ u v, w = u ++ v ∧ Mt a u ∧ Mt b v :=
 ⟨fun h => by cases h with | seq ha hb => exact ⟨_, _, rfl, ha, hb⟩, fun ⟨_, _, e, ha, hb⟩ => e ▸ .seq ha hb⟩
theorem mt_alt {a b : Re} {w : List UInt8} : Mt (.alt a b) w ↔ Mt a w ∨ Mt b w :=
 ⟨fun h => by cases h with | altl h => exact .inl h | altr h => exact .inr h, fun h => h.elim .altl .altr⟩
theorem mt_opt {a : Re} {w : List UInt8} : Mt (.opt a) w ↔ w = [] ∨ Mt a w :=
 ⟨fun h => by cases h with | opt0 => exact .inl rfl | opt1 h => exact .inr h, fun h => h.elim (fun e => e ▸ .opt0) .opt1⟩
theorem mt_plus {a : Re} {w : List UInt8} : Mt (.plus a) w ↔ ∃ u v, w = u ++ v ∧ Mt a u ∧ Mt (.star a) v :=
 ⟨fun h => by cases h with | plus ha hb => exact ⟨_, _, rfl, ha, hb⟩, fun ⟨_, _, e, ha, hb⟩ => e ▸ .plus ha hb⟩
theorem mt_cls {c : Cls} {w : List UInt8} : Mt (.cls c) w ↔ ∃ b, w = [b] ∧ c.has b = true :=
 ⟨fun h => by cases h with | cls h => exact ⟨_, rfl, h⟩, fun ⟨_, e, h⟩ => e ▸ .cls h⟩
theorem mt_eps {w : List UInt8} : Mt .eps w ↔ w = [] :=
 ⟨fun h => by cases h; rfl, fun e => e ▸ .eps⟩
theorem mt_star_cons {a : Re} {b : UInt8} {w : List UInt8} (h : Mt (.star a) (b :: w)) :
  ∃ u v, w = u ++ v ∧ Mt a (b :: u) ∧ Mt (.star a) v := by
 generalize hr : Re.star a = r at h
 generalize hw : b :: w = x at h
 induction h with
 | eps | cls _ | seq _ _ | altl _ | altr _ | plus _ _ | opt0 | opt1 _ => cases hr
 | star0 => cases hw
 | starS ha hb iha ihb =>
  cases hr
  rename_i u v
  cases u with
  | nil => exact ihb rfl hw
  | cons c u =>
   simp only [List.cons_append, List.cons.injEq] at hw
   obtain ⟨rfl, rfl⟩ := hw
   exact ⟨u, v, rfl, ha, hb⟩
theorem mt_seq_cons {a b : Re} {x : UInt8} {w : List UInt8} :
  Mt (.seq a b) (x :: w) ↔ (∃ u v, w = u ++ v ∧ Mt a (x :: u) ∧ Mt b v) ∨ (a.nullable = true ∧ Mt b (x :: w)) := by
 rw [mt_seq]
 constructor
 ·rintro ⟨u, v, e, ha, hb⟩
  cases u with
  | nil => exact .inr ⟨(mt_nil _).1 ha, by simpa [e] using hb⟩
  | cons c u =>
   simp only [List.cons_append, List.cons.injEq] at e
   obtain ⟨rfl, rfl⟩ := e
   exact .inl ⟨u, v, rfl, ha, hb⟩
 ·rintro (⟨u, v, e, ha, hb⟩ | ⟨hn, hb⟩)
  ·exact ⟨x :: u, v, by simp [e], ha, hb⟩
  ·exact ⟨[], x :: w, rfl, (mt_nil _).2 hn, hb⟩
def Re.rev : Re → Re
 | .eps => .eps
 | .cls c => .cls c
 | .seq a b => .seq b.rev a.rev
 | .alt a b => .alt a.rev b.rev
 | .star a => .star a.rev
 | .plus a => .plus a.rev
 | .opt a => .opt a.rev
theorem Re.rev_rev (r : Re) : r.rev.rev = r := by
 induction r <;> simp_all [Re.rev]
theorem mt_star_snoc {a : Re} {u v : List UInt8} (h : Mt (.star a) u) (k : Mt a v) : Mt (.star a) (u ++ v) := by
 generalize hr : Re.star a = r at h
 induction h with
 | eps | cls _ | seq _ _ | altl _ | altr _ | plus _ _ | opt0 | opt1 _ => cases hr
 | star0 => cases hr; simpa using Mt.starS k .star0
 | starS ha hb iha ihb =>
  cases hr
  rw [List.append_assoc]
  exact .starS ha (ihb rfl)
theorem mt_plus' {a : Re} {u v : List UInt8} (h : Mt (.star a) u) (k : Mt a v) : Mt (.plus a) (u ++ v) := by
 generalize hr : Re.star a = r at h
 induction h with
 | eps | cls _ | seq _ _ | altl _ | altr _ | plus _ _ | opt0 | opt1 _ => cases hr
 | star0 => cases hr; simpa using Mt.plus k .star0
 | starS ha hb iha ihb =>
  cases hr
  have h2 := ihb rfl
  rw [List.append_assoc]
  refine .plus ha ?_
  exact mt_star_snoc hb k
theorem mt_rev_of {r : Re} {w : List UInt8} (h : Mt r w) : Mt r.rev w.reverse := by
 induction h with
 | eps => exact .eps
 | cls h => exact .cls h
 | seq _ _ iha ihb => rw [List.reverse_append]; exact .seq ihb iha
 | altl _ ih => exact .altl ih
 | altr _ ih => exact .altr ih
 | star0 => exact .star0
 | starS _ _ iha ihb => rw [List.reverse_append]; exact mt_star_snoc ihb iha
 | plus _ _ iha ihb => rw [List.reverse_append]; exact mt_plus' ihb iha
 | opt0 => exact .opt0
 | opt1 _ ih => exact .opt1 ih
theorem mt_rev {r : Re} {w : List UInt8} : Mt r.rev w ↔ Mt r w.reverse := by
 constructor
 ·intro h; simpa [Re.rev_rev] using mt_rev_of h
 ·intro h; simpa using mt_rev_of h
theorem nullable_rev (r : Re) : r.rev.nullable = r.nullable := by
 induction r <;> simp_all [Re.rev, Re.nullable, Bool.and_comm]
end Tint
namespace Tint
inductive ARe where
 | eps
 | cls (i : Nat) (c : Cls)
 | seq (i : Nat) (a b : ARe)
 | alt (i : Nat) (a b : ARe)
 | star (i : Nat) (a : ARe)
 | plus (i j : Nat) (a : ARe)
 | opt (i : Nat) (a : ARe)
def ARe.ix : ARe → Nat
 | .eps => 0
 | .cls i _ => i
 | .seq i _ _ => i
 | .alt i _ _ => i
 | .star i _ => i
 | .plus i _ _ => i
 | .opt i _ => i
def ARe.re : ARe → Re
 | .eps => .eps
 | .cls _ c => .cls c
 | .seq _ a b => .seq a.re b.re
 | .alt _ a b => .alt a.re b.re
 | .star _ a => .star a.re
 | .plus _ _ a => .plus a.re
 | .opt _ a => .opt a.re
inductive D where
 | base (a : ARe)
 | snoc (d : D) (a : ARe)
def D.re : D → Re
 | .base a => a.re
 | .snoc d a => .seq d.re a.re
def tcat : D → ARe → D
 | .base .eps, a => .base a
 | d, a => .snoc d a
theorem mt_tcat (d : D) (a : ARe) (w : List UInt8) : Mt (tcat d a).re w ↔ Mt (.seq d.re a.re) w := by
 unfold tcat
 split
 ·simp only [D.re, ARe.re, mt_seq, mt_eps]
  constructor
  ·intro h; exact ⟨[], w, rfl, rfl, h⟩
  ·rintro ⟨u, v, rfl, rfl, h⟩; exact h
 ·rfl
def pdA (b : UInt8) : ARe → List D
 | .eps => []
 | .cls _ c => if c.has b then [.base .eps] else []
 | .seq _ x y => (pdA b x).map (tcat · y) ++ (if x.re.nullable then pdA b y else [])
 | .alt _ x y => pdA b x ++ pdA b y
 | .star i x => (pdA b x).map (tcat · (.star i x))
 | .plus _ j x => (pdA b x).map (tcat · (.star j x))
 | .opt _ x => pdA b x
def pd (b : UInt8) : D → List D
 | .base a => pdA b a
 | .snoc d a => (pd b d).map (tcat · a) ++ (if d.re.nullable then pdA b a else [])
theorem ex_map_tcat {l : List D} {y : ARe} {w : List UInt8} :
  (∃ d ∈ l.map (tcat · y), Mt d.re w) ↔ ∃ u v, w = u ++ v ∧ (∃ d ∈ l, Mt d.re u) ∧ Mt y.re v := by
 constructor
 ·rintro ⟨d, hd, hm⟩
  obtain ⟨d', hd', rfl⟩ := List.mem_map.1 hd
  rw [mt_tcat, mt_seq] at hm
  obtain ⟨u, v, e, h1, h2⟩ := hm
  exact ⟨u, v, e, ⟨d', hd', h1⟩, h2⟩
 ·rintro ⟨u, v, e, ⟨d, hd, h1⟩, h2⟩
  refine ⟨tcat d y, List.mem_map.2 ⟨d, hd, rfl⟩, ?_⟩
  rw [mt_tcat, mt_seq]
  exact ⟨u, v, e, h1, h2⟩
theorem pdA_spec (b : UInt8) (a : ARe) (w : List UInt8) : Mt a.re (b :: w) ↔ ∃ d ∈ pdA b a, Mt d.re w := by
 induction a generalizing w with
 | eps => simp [ARe.re, pdA, mt_eps]
 | cls i c =>
  simp only [ARe.re, pdA, mt_cls]
  by_cases h : c.has b = true
  ·simp only [h, if_true, List.mem_singleton]
   constructor
   ·rintro ⟨c', e, _⟩
    simp only [List.cons.injEq] at e
    exact ⟨_, rfl, by simp [D.re, ARe.re, mt_eps, e.2]⟩
   ·rintro ⟨d, rfl, hm⟩
    simp only [D.re, ARe.re, mt_eps] at hm
    exact ⟨b, by simp [hm], h⟩
  ·simp only [h]
   constructor
   ·rintro ⟨c', e, h2⟩
    simp only [List.cons.injEq] at e
    rw [← e.1] at h2
    exact absurd h2 h
   ·rintro ⟨d, hd, _⟩
    simp at hd
 | seq i x y ihx ihy =>
  simp only [ARe.re, pdA, mt_seq_cons, List.mem_append]
  rw [show (∃ d, (d ∈ (pdA b x).map (tcat · y) ∨ d ∈ (if x.re.nullable = true then pdA b y else [])) ∧ Mt d.re w) ↔
   (∃ d ∈ (pdA b x).map (tcat · y), Mt d.re w) ∨ (∃ d ∈ (if x.re.nullable = true then pdA b y else []), Mt d.re w) from
   ⟨fun ⟨d, h, m⟩ => h.elim (fun h => .inl ⟨d, h, m⟩) (fun h => .inr ⟨d, h, m⟩),
    fun h => h.elim (fun ⟨d, h, m⟩ => ⟨d, .inl h, m⟩) (fun ⟨d, h, m⟩ => ⟨d, .inr h, m⟩)⟩]
  rw [ex_map_tcat]
  simp only [ihx, ihy]
  by_cases h : x.re.nullable = true
  ·simp [h]
  ·simp [h]
 | alt i x y ihx ihy =>
  simp only [ARe.re, pdA, mt_alt, List.mem_append, ihx, ihy]
  exact ⟨fun h => h.elim (fun ⟨d, h, m⟩ => ⟨d, .inl h, m⟩) (fun ⟨d, h, m⟩ => ⟨d, .inr h, m⟩),
   fun ⟨d, h, m⟩ => h.elim (fun h => .inl ⟨d, h, m⟩) (fun h => .inr ⟨d, h, m⟩)⟩
 | star i x ih =>
  simp only [ARe.re, pdA, ex_map_tcat]
  constructor
  ·intro h
   obtain ⟨u, v, e, h1, h2⟩ := mt_star_cons h
   exact ⟨u, v, e, (ih u).1 h1, h2⟩
  ·rintro ⟨u, v, e, h1, h2⟩
   subst e
   exact Mt.starS (u := b :: u) ((ih u).2 h1) h2
 | plus i j x ih =>
  simp only [ARe.re, pdA, ex_map_tcat, mt_plus]
  constructor
  ·rintro ⟨u, v, e, h1, h2⟩
   cases u with
   | nil =>
    simp only [List.nil_append] at e
    subst e
    obtain ⟨u, v, e, h3, h4⟩ := mt_star_cons h2
    exact ⟨u, v, e, (ih u).1 h3, h4⟩
   | cons c u =>
    simp only [List.cons_append, List.cons.injEq] at e
    obtain ⟨rfl, rfl⟩ := e
    exact ⟨u, v, rfl, (ih u).1 h1, h2⟩
  ·rintro ⟨u, v, e, h1, h2⟩
   subst e
   exact ⟨b :: u, v, rfl, (ih u).2 h1, h2⟩
 | opt i x ih =>
  simp only [ARe.re, pdA, mt_opt, ih]
  simp
theorem pd_spec (b : UInt8) (d : D) (w : List UInt8) : Mt d.re (b :: w) ↔ ∃ d' ∈ pd b d, Mt d'.re w := by
 induction d generalizing w with
 | base a => exact pdA_spec b a w
 | snoc d a ih =>
  simp only [D.re, pd, mt_seq_cons, List.mem_append]
  rw [show (∃ d', (d' ∈ (pd b d).map (tcat · a) ∨ d' ∈ (if d.re.nullable = true then pdA b a else [])) ∧ Mt d'.re w) ↔
   (∃ d' ∈ (pd b d).map (tcat · a), Mt d'.re w) ∨ (∃ d' ∈ (if d.re.nullable = true then pdA b a else []), Mt d'.re w) from
   ⟨fun ⟨d, h, m⟩ => h.elim (fun h => .inl ⟨d, h, m⟩) (fun h => .inr ⟨d, h, m⟩),
    fun h => h.elim (fun ⟨d, h, m⟩ => ⟨d, .inl h, m⟩) (fun ⟨d, h, m⟩ => ⟨d, .inr h, m⟩)⟩]
  rw [ex_map_tcat]
  simp only [ih, pdA_spec b a]
  by_cases h : d.re.nullable = true
  ·simp [h]
  ·simp [h]
def ARe.leaves : ARe → Nat
 | .eps => 0
 | .cls _ _ => 1
 | .seq _ a b => a.leaves + b.leaves
 | .alt _ a b => a.leaves + b.leaves
 | .star _ a => a.leaves
 | .plus _ _ a => a.leaves
 | .opt _ a => a.leaves
def allA : ARe → List D
 | .eps => []
 | .cls _ _ => [.base .eps]
 | .seq _ x y => (allA x).map (tcat · y) ++ allA y
 | .alt _ x y => allA x ++ allA y
 | .star i x => (allA x).map (tcat · (.star i x))
 | .plus _ j x => (allA x).map (tcat · (.star j x))
 | .opt _ x => allA x
def allD : D → List D
 | .base a => allA a
 | .snoc d a => (allD d).map (tcat · a) ++ allA a
theorem length_allA (a : ARe) : (allA a).length = a.leaves := by
 induction a <;> simp_all [allA, ARe.leaves]
theorem pdA_sub (b : UInt8) (a : ARe) : ∀ d ∈ pdA b a, d ∈ allA a := by
 induction a with
 | eps => simp [pdA]
 | cls i c => simp only [pdA, allA]; split <;> simp
 | seq i x y ihx ihy =>
  intro d hd
  simp only [pdA, List.mem_append, List.mem_map] at hd
  simp only [allA, List.mem_append, List.mem_map]
  rcases hd with ⟨d', h, rfl⟩ | h
  ·exact .inl ⟨d', ihx _ h, rfl⟩
  ·split at h
   ·exact .inr (ihy _ h)
   ·simp at h
 | alt i x y ihx ihy =>
  intro d hd
  simp only [pdA, List.mem_append] at hd
  simp only [allA, List.mem_append]
  exact hd.imp (ihx _) (ihy _)
 | star i x ih =>
  intro d hd
  simp only [pdA, List.mem_map] at hd
  simp only [allA, List.mem_map]
  obtain ⟨d', h, rfl⟩ := hd
  exact ⟨d', ih _ h, rfl⟩
 | plus i j x ih =>
  intro d hd
  simp only [pdA, List.mem_map] at hd
  simp only [allA, List.mem_map]
  obtain ⟨d', h, rfl⟩ := hd
  exact ⟨d', ih _ h, rfl⟩
 | opt i x ih => exact ih
theorem pd_sub (b : UInt8) (d : D) : ∀ d' ∈ pd b d, d' ∈ allD d := by
 induction d with
 | base a => exact pdA_sub b a
 | snoc d a ih =>
  intro d' hd
  simp only [pd, List.mem_append, List.mem_map] at hd
  simp only [allD, List.mem_append, List.mem_map]
  rcases hd with ⟨d', h, rfl⟩ | h
  ·exact .inl ⟨d', ih _ h, rfl⟩
  ·split at h
   ·exact .inr (pdA_sub b a _ h)
   ·simp at h
theorem allD_tcat {d : D} {a : ARe} {x : D} (h : x ∈ allD (tcat d a)) : (∃ y ∈ allD d, x = tcat y a) ∨ x ∈ allA a := by
 unfold tcat at h
 split at h
 ·exact .inr h
 ·simp only [allD, List.mem_append, List.mem_map] at h
  exact h.imp (fun ⟨y, h, e⟩ => ⟨y, h, e.symm⟩) id
theorem allA_closed (a : ARe) : ∀ d ∈ allA a, ∀ x ∈ allD d, x ∈ allA a := by
 induction a with
 | eps => simp [allA]
 | cls i c => intro d hd x hx; simp only [allA, List.mem_singleton] at hd; subst hd; simp [allD, allA] at hx
 | seq i p q ihp ihq =>
  intro d hd x hx
  simp only [allA, List.mem_append, List.mem_map] at hd ⊢
  rcases hd with ⟨d', h, rfl⟩ | h
  ·rcases allD_tcat hx with ⟨y, hy, rfl⟩ | h2
   ·exact .inl ⟨y, ihp _ h _ hy, rfl⟩
   ·exact .inr h2
  ·exact .inr (ihq _ h _ hx)
 | alt i p q ihp ihq =>
  intro d hd x hx
  simp only [allA, List.mem_append] at hd ⊢
  exact hd.imp (fun h => ihp _ h _ hx) (fun h => ihq _ h _ hx)
 | star i p ih =>
  intro d hd x hx
  simp only [allA, List.mem_map] at hd
  obtain ⟨d', h, rfl⟩ := hd
  rcases allD_tcat hx with ⟨y, hy, rfl⟩ | h2
  ·simp only [allA, List.mem_map]
   exact ⟨y, ih _ h _ hy, rfl⟩
  ·exact h2
 | plus i j p ih =>
  intro d hd x hx
  simp only [allA, List.mem_map] at hd
  obtain ⟨d', h, rfl⟩ := hd
  rcases allD_tcat hx with ⟨y, hy, rfl⟩ | h2
  ·simp only [allA, List.mem_map]
   exact ⟨y, ih _ h _ hy, rfl⟩
  ·simpa [allA] using h2
 | opt i p ih => exact ih
def met (a : ARe) : List D := .base a :: allA a
theorem met_closed (a : ARe) (b : UInt8) (d : D) (hd : d ∈ met a) : ∀ x ∈ pd b d, x ∈ met a := by
 intro x hx
 simp only [met, List.mem_cons] at hd ⊢
 rcases hd with rfl | h
 ·exact .inr (pdA_sub b a _ hx)
 ·exact .inr (allA_closed a d h x (pd_sub b d _ hx))
theorem length_met (a : ARe) : (met a).length = a.leaves + 1 := by simp [met, length_allA]
theorem nodup_length_le {α : Type} [DecidableEq α] {l m : List α} (hn : l.Nodup) (h : ∀ x ∈ l, x ∈ m) : l.length ≤ m.length := by
 induction l generalizing m with
 | nil => simp
 | cons a l ih =>
  have ha : a ∈ m := h a (by simp)
  rw [List.nodup_cons] at hn
  have h2 : ∀ x ∈ l, x ∈ m.erase a := fun x hx => by
   rw [List.mem_erase_of_ne (fun e => by subst e; exact hn.1 hx)]
   exact h x (by simp [hx])
  have h3 := ih hn.2 h2
  rw [List.length_erase_of_mem ha] at h3
  have : 0 < m.length := List.length_pos_of_mem ha
  simp; omega
structure Nd (α : Type) where
 kind : Nat
 has : α
 left : Nat
 right : Nat
 empty : Bool
def Rep {α : Type} (isC : α → Cls → Prop) (ns : List (Nd α)) : ARe → Prop
 | .eps => ∃ h, ns[0]? = some ⟨0, h, 0, 0, true⟩
 | .cls i c => i ≠ 0 ∧ ∃ h, ns[i]? = some ⟨1, h, 0, 0, false⟩ ∧ isC h c
 | .seq i a b => i ≠ 0 ∧ (∃ h, ns[i]? = some ⟨2, h, a.ix, b.ix, a.re.nullable && b.re.nullable⟩) ∧ Rep isC ns a ∧ Rep isC ns b
 | .alt i a b => i ≠ 0 ∧ (∃ h, ns[i]? = some ⟨3, h, a.ix, b.ix, a.re.nullable || b.re.nullable⟩) ∧ Rep isC ns a ∧ Rep isC ns b
 | .star i a => i ≠ 0 ∧ (∃ h, ns[i]? = some ⟨4, h, a.ix, 0, true⟩) ∧ Rep isC ns a
 | .plus i j a => i ≠ 0 ∧ j ≠ 0 ∧ (∃ h, ns[i]? = some ⟨5, h, a.ix, j, a.re.nullable⟩) ∧ (∃ h, ns[j]? = some ⟨4, h, a.ix, 0, true⟩) ∧ Rep isC ns a
 | .opt i a => i ≠ 0 ∧ (∃ h, ns[i]? = some ⟨6, h, a.ix, 0, true⟩) ∧ Rep isC ns a
theorem Rep.mono {α : Type} {isC isC' : α → Cls → Prop} {ns ns' : List (Nd α)} (hc : ∀ h c, isC h c → isC' h c) (hn : ∀ (i : Nat) nd, ns[i]? = some nd → ns'[i]? = some nd) {a : ARe} (h : Rep isC ns a) : Rep isC' ns' a := by
 induction a with
 | eps => obtain ⟨x, h⟩ := h; exact ⟨x, hn _ _ h⟩
 | cls i c => obtain ⟨h0, x, h1, h2⟩ := h; exact ⟨h0, x, hn _ _ h1, hc _ _ h2⟩
 | seq i a b iha ihb => obtain ⟨h0, ⟨x, h1⟩, h2, h3⟩ := h; exact ⟨h0, ⟨x, hn _ _ h1⟩, iha h2, ihb h3⟩
 | alt i a b iha ihb => obtain ⟨h0, ⟨x, h1⟩, h2, h3⟩ := h; exact ⟨h0, ⟨x, hn _ _ h1⟩, iha h2, ihb h3⟩
 | star i a ih => obtain ⟨h0, ⟨x, h1⟩, h2⟩ := h; exact ⟨h0, ⟨x, hn _ _ h1⟩, ih h2⟩
 | plus i j a ih => obtain ⟨h0, h0', ⟨x, h1⟩, ⟨y, h2⟩, h3⟩ := h; exact ⟨h0, h0', ⟨x, hn _ _ h1⟩, ⟨y, hn _ _ h2⟩, ih h3⟩
 | opt i a ih => obtain ⟨h0, ⟨x, h1⟩, h2⟩ := h; exact ⟨h0, ⟨x, hn _ _ h1⟩, ih h2⟩
theorem Rep.append {α : Type} {isC : α → Cls → Prop} {ns ms : List (Nd α)} {a : ARe} (h : Rep isC ns a) : Rep isC (ns ++ ms) a :=
 h.mono (fun _ _ h => h) (fun i nd h => by
  have hi : i < ns.length := by
   rcases Nat.lt_or_ge i ns.length with h' | h'
   ·exact h'
   ·rw [List.getElem?_eq_none h'] at h; cases h
  rw [List.getElem?_append_left hi]; exact h)
theorem Rep.empty {α : Type} {isC : α → Cls → Prop} {ns : List (Nd α)} {a : ARe} (h : Rep isC ns a) : ∃ nd, ns[a.ix]? = some nd ∧ nd.empty = a.re.nullable := by
 cases a with
 | eps => obtain ⟨x, h⟩ := h; exact ⟨_, h, rfl⟩
 | cls i c => obtain ⟨h0, x, h1, h2⟩ := h; exact ⟨_, h1, rfl⟩
 | seq i a b => obtain ⟨h0, ⟨x, h1⟩, h2, h3⟩ := h; exact ⟨_, h1, rfl⟩
 | alt i a b => obtain ⟨h0, ⟨x, h1⟩, h2, h3⟩ := h; exact ⟨_, h1, rfl⟩
 | star i a => obtain ⟨h0, ⟨x, h1⟩, h2⟩ := h; exact ⟨_, h1, rfl⟩
 | plus i j a => obtain ⟨h0, h0', ⟨x, h1⟩, ⟨y, h2⟩, h3⟩ := h; exact ⟨_, h1, rfl⟩
 | opt i a => obtain ⟨h0, ⟨x, h1⟩, h2⟩ := h; exact ⟨_, h1, rfl⟩
theorem Rep.lt {α : Type} {isC : α → Cls → Prop} {ns : List (Nd α)} {a : ARe} (h : Rep isC ns a) : a.ix < ns.length := by
 obtain ⟨nd, h1, _⟩ := h.empty
 rcases Nat.lt_or_ge a.ix ns.length with h' | h'
 ·exact h'
 ·rw [List.getElem?_eq_none h'] at h1; cases h1
end Tint
namespace Tint
def isSign (c : UInt8) : Bool := [92, 40, 41, 91, 93, 124, 42, 43, 63, 46, 94, 45].contains c
def pOne : List UInt8 → Option (UInt8 × List UInt8)
 | [] => none
 | c :: s =>
  if c = 92 then
   match s with
   | [] => none
   | d :: s => if isSign d then some (d, s) else none
  else if isSign c then none
  else if 32 ≤ c.toNat ∧ c.toNat ≤ 126 then some (c, s) else none
def pRange (s : List UInt8) : Option (Cls × List UInt8) :=
 match pOne s with
 | none => none
 | some (lo, s1) =>
  match s1 with
  | [] => some (.range lo lo, [])
  | c :: s2 =>
   if c = 45 then
    match pOne s2 with
    | none => none
    | some (hi, s3) => if lo.toNat ≤ hi.toNat then some (.range lo hi, s3) else none
   else some (.range lo lo, c :: s2)
inductive PRs : Cls → List UInt8 → Option (Cls × List UInt8) → Prop where
 | stop {k : Cls} {s : List UInt8} : PRs k (93 :: s) (some (k, s))
 | bad {k : Cls} {s : List UInt8} : s.head? ≠ some 93 → pRange s = none → PRs k s none
 | more {k c : Cls} {s s' : List UInt8} {o : Option (Cls × List UInt8)} : s.head? ≠ some 93 → pRange s = some (c, s') → PRs (.union k c) s' o → PRs k s o
inductive PClass : List UInt8 → Option (Cls × List UInt8) → Prop where
 | pos {s s' : List UInt8} {c : Cls} {o : Option (Cls × List UInt8)} : s.head? ≠ some 94 → pRange s = some (c, s') → PRs c s' o → PClass s o
 | posBad {s : List UInt8} : s.head? ≠ some 94 → pRange s = none → PClass s none
 | neg {s s' : List UInt8} {c : Cls} {o : Option (Cls × List UInt8)} : pRange s = some (c, s') → PRs c s' o → PClass (94 :: s) (o.map fun p => (.compl p.1, p.2))
 | negBad {s : List UInt8} : pRange s = none → PClass (94 :: s) none
def seqOf : List Re → Re
 | [] => .eps
 | [r] => r
 | r :: rs => .seq r (seqOf rs)
def atEnd (s : List UInt8) : Prop := s = [] ∨ s.head? = some 124 ∨ s.head? = some 41
mutual
inductive PAtom : List UInt8 → Option (Re × List UInt8) → Prop where
 | paren {s s' : List UInt8} {r : Re} : PAlt s (some (r, 41 :: s')) → PAtom (40 :: s) (some (r, s'))
 | parenBad {s : List UInt8} : PAlt s none → PAtom (40 :: s) none
 | parenOpen {s s' : List UInt8} {r : Re} : PAlt s (some (r, s')) → s'.head? ≠ some 41 → PAtom (40 :: s) none
 | dot {s : List UInt8} : PAtom (46 :: s) (some (.cls .any, s))
 | cls {s : List UInt8} {o : Option (Cls × List UInt8)} : PClass s o → PAtom (91 :: s) (o.map fun p => (.cls p.1, p.2))
 | one {s : List UInt8} : s.head? ≠ some 40 → s.head? ≠ some 46 → s.head? ≠ some 91 → PAtom s ((pOne s).map fun p => (.cls (.range p.1 p.1), p.2))
inductive PPiece : List UInt8 → Option (Re × List UInt8) → Prop where
 | bad {s : List UInt8} : PAtom s none → PPiece s none
 | star {s s' : List UInt8} {r : Re} : PAtom s (some (r, 42 :: s')) → PPiece s (some (.star r, s'))
 | plus {s s' : List UInt8} {r : Re} : PAtom s (some (r, 43 :: s')) → PPiece s (some (.plus r, s'))
 | opt {s s' : List UInt8} {r : Re} : PAtom s (some (r, 63 :: s')) → PPiece s (some (.opt r, s'))
 | plain {s s' : List UInt8} {r : Re} : PAtom s (some (r, s')) → s'.head? ≠ some 42 → s'.head? ≠ some 43 → s'.head? ≠ some 63 → PPiece s (some (r, s'))
inductive PCat : List UInt8 → Option (List Re × List UInt8) → Prop where
 | stop {s : List UInt8} : atEnd s → PCat s (some ([], s))
 | bad {s : List UInt8} : ¬ atEnd s → PPiece s none → PCat s none
 | more {s s' s'' : List UInt8} {r : Re} {rs : List Re} : ¬ atEnd s → PPiece s (some (r, s')) → PCat s' (some (rs, s'')) → PCat s (some (r :: rs, s''))
 | moreBad {s s' : List UInt8} {r : Re} : ¬ atEnd s → PPiece s (some (r, s')) → PCat s' none → PCat s none
inductive PMore : Re → List UInt8 → Option (Re × List UInt8) → Prop where
 | stop {k : Re} {s : List UInt8} : s.head? ≠ some 124 → PMore k s (some (k, s))
 | bad {k : Re} {s : List UInt8} : PCat s none → PMore k (124 :: s) none
 | more {k : Re} {s s' : List UInt8} {rs : List Re} {o : Option (Re × List UInt8)} : PCat s (some (rs, s')) → PMore (.alt k (seqOf rs)) s' o → PMore k (124 :: s) o
inductive PAlt : List UInt8 → Option (Re × List UInt8) → Prop where
 | bad {s : List UInt8} : PCat s none → PAlt s none
 | one {s s' : List UInt8} {rs : List Re} {o : Option (Re × List UInt8)} : PCat s (some (rs, s')) → PMore (seqOf rs) s' o → PAlt s o
end
theorem pOne_len {s s' : List UInt8} {b : UInt8} (h : pOne s = some (b, s')) : s'.length < s.length := by
 unfold pOne at h
 split at h
 ·cases h
 ·split at h
  ·split at h
   ·cases h
   ·split at h
    ·simp only [Option.some.injEq, Prod.mk.injEq] at h; obtain ⟨_, rfl⟩ := h; simp; omega
    ·cases h
  ·split at h
   ·cases h
   ·split at h
    ·simp only [Option.some.injEq, Prod.mk.injEq] at h; obtain ⟨_, rfl⟩ := h; simp
    ·cases h
theorem pRange_len {s s' : List UInt8} {c : Cls} (h : pRange s = some (c, s')) : s'.length < s.length := by
 unfold pRange at h
 split at h
 ·cases h
 ·rename_i lo s1 h1
  have l1 := pOne_len h1
  split at h
  ·simp only [Option.some.injEq, Prod.mk.injEq] at h; obtain ⟨_, rfl⟩ := h; simpa using l1
  ·split at h
   ·split at h
    ·cases h
    ·rename_i hi s3 h3
     have l3 := pOne_len h3
     split at h
     ·simp only [Option.some.injEq, Prod.mk.injEq] at h; obtain ⟨_, rfl⟩ := h; simp at l1; omega
     ·cases h
   ·simp only [Option.some.injEq, Prod.mk.injEq] at h; obtain ⟨_, rfl⟩ := h; exact l1
theorem PRs.len {k : Cls} {s : List UInt8} {o : Option (Cls × List UInt8)} (h : PRs k s o) : ∀ c s', o = some (c, s') → s'.length < s.length := by
 induction h with
 | stop => intro c s' e; cases e; simp
 | bad _ _ => intro c s' e; cases e
 | more _ h _ ih => intro c s' e; have := ih c s' e; have := pRange_len h; omega
theorem PClass.len {s s' : List UInt8} {c : Cls} (h : PClass s (some (c, s'))) : s'.length < s.length := by
 generalize ho : some (c, s') = o at h
 cases h with
 | pos _ h k => have := k.len _ _ ho.symm; have := pRange_len h; omega
 | posBad _ _ => cases ho
 | neg h k =>
  rename_i s s2 c2 o
  cases o with
  | none => cases ho
  | some p =>
   simp only [Option.map_some, Option.some.injEq, Prod.mk.injEq] at ho
   have := k.len p.1 p.2 rfl
   have := pRange_len h
   rw [ho.2]; simp; omega
 | negBad _ => cases ho
theorem PRs.det {k : Cls} {s : List UInt8} {o o' : Option (Cls × List UInt8)} (h : PRs k s o) (h' : PRs k s o') : o = o' := by
 induction h with
 | stop => cases h' with
  | stop => rfl
  | bad n _ => simp at n
  | more n _ _ => simp at n
 | bad n e => cases h' with
  | stop => simp at n
  | bad _ _ => rfl
  | more _ e' _ => rw [e] at e'; cases e'
 | more n e _ ih => cases h' with
  | stop => simp at n
  | bad _ e' => rw [e] at e'; cases e'
  | more _ e' k' => rw [e] at e'; cases e'; exact ih k'
theorem PClass.det {s : List UInt8} {o o' : Option (Cls × List UInt8)} (h : PClass s o) (h' : PClass s o') : o = o' := by
 cases h with
 | pos n e k => cases h' with
  | pos _ e' k' => rw [e] at e'; cases e'; exact k.det k'
  | posBad _ e' => rw [e] at e'; cases e'
  | neg _ _ => simp at n
  | negBad _ => simp at n
 | posBad n e => cases h' with
  | pos _ e' k' => rw [e] at e'; cases e'
  | posBad _ e' => rfl
  | neg _ _ => simp at n
  | negBad _ => simp at n
 | neg e k => cases h' with
  | pos n _ _ => simp at n
  | posBad n _ => simp at n
  | neg e' k' => rw [e] at e'; cases e'; rw [k.det k']
  | negBad e' => rw [e] at e'; cases e'
 | negBad e => cases h' with
  | pos n _ _ => simp at n
  | posBad n _ => simp at n
  | neg e' k' => rw [e] at e'; cases e'
  | negBad e' => rfl
mutual
theorem PAtom.det {s : List UInt8} {o o' : Option (Re × List UInt8)} (h : PAtom s o) (h' : PAtom s o') : o = o' := by
 match h with
 | .paren k => cases h' with
  | paren k' => have := PAlt.det k k'; simp only [Option.some.injEq, Prod.mk.injEq, List.cons.injEq, true_and] at this; rw [this.1, this.2]
  | parenBad k' => have := PAlt.det k k'; cases this
  | parenOpen k' n => have := PAlt.det k k'; simp only [Option.some.injEq, Prod.mk.injEq] at this; rw [← this.2] at n; simp at n
  | one n _ _ => simp at n
 | .parenBad k => cases h' with
  | paren k' => have := PAlt.det k k'; cases this
  | parenBad k' => rfl
  | parenOpen k' n => rfl
  | one n _ _ => simp at n
 | .parenOpen k n => cases h' with
  | paren k' => have := PAlt.det k k'; simp only [Option.some.injEq, Prod.mk.injEq] at this; rw [this.2] at n; simp at n
  | parenBad k' => rfl
  | parenOpen k' n => rfl
  | one n _ _ => simp at n
 | .dot => cases h' with
  | dot => rfl
  | one _ n _ => simp at n
 | .cls k => cases h' with
  | cls k' => rw [k.det k']
  | one _ _ n => simp at n
 | .one n1 n2 n3 => cases h' with
  | paren _ => simp at n1
  | parenBad _ => simp at n1
  | parenOpen _ _ => simp at n1
  | dot => simp at n2
  | cls _ => simp at n3
  | one _ _ _ => rfl
 termination_by structural h
theorem PPiece.det {s : List UInt8} {o o' : Option (Re × List UInt8)} (h : PPiece s o) (h' : PPiece s o') : o = o' := by
 match h with
 | .bad k => cases h' with
  | bad _ => rfl
  | star k' => cases PAtom.det k k'
  | plus k' => cases PAtom.det k k'
  | opt k' => cases PAtom.det k k'
  | plain k' _ _ _ => cases PAtom.det k k'
 | .star k => cases h' with
  | bad k' => cases PAtom.det k k'
  | star k' => cases PAtom.det k k'; rfl
  | plus k' => cases PAtom.det k k'
  | opt k' => cases PAtom.det k k'
  | plain k' n _ _ => cases PAtom.det k k'; simp at n
 | .plus k => cases h' with
  | bad k' => cases PAtom.det k k'
  | star k' => cases PAtom.det k k'
  | plus k' => cases PAtom.det k k'; rfl
  | opt k' => cases PAtom.det k k'
  | plain k' _ n _ => cases PAtom.det k k'; simp at n
 | .opt k => cases h' with
  | bad k' => cases PAtom.det k k'
  | star k' => cases PAtom.det k k'
  | plus k' => cases PAtom.det k k'
  | opt k' => cases PAtom.det k k'; rfl
  | plain k' _ _ n => cases PAtom.det k k'; simp at n
 | .plain k n1 n2 n3 => cases h' with
  | bad k' => cases PAtom.det k k'
  | star k' => cases PAtom.det k k'; simp at n1
  | plus k' => cases PAtom.det k k'; simp at n2
  | opt k' => cases PAtom.det k k'; simp at n3
  | plain k' _ _ _ => cases PAtom.det k k'; rfl
 termination_by structural h
theorem PCat.det {s : List UInt8} {o o' : Option (List Re × List UInt8)} (h : PCat s o) (h' : PCat s o') : o = o' := by
 match h with
 | .stop e => cases h' with
  | stop _ => rfl
  | bad n _ => exact absurd e n
  | more n _ _ => exact absurd e n
  | moreBad n _ _ => exact absurd e n
 | .bad n k => cases h' with
  | stop e => exact absurd e n
  | bad _ _ => rfl
  | more _ k' _ => cases PPiece.det k k'
  | moreBad _ _ _ => rfl
 | .more n k m => cases h' with
  | stop e => exact absurd e n
  | bad _ k' => cases PPiece.det k k'
  | more _ k' m' => cases PPiece.det k k'; cases PCat.det m m'; rfl
  | moreBad _ k' m' => cases PPiece.det k k'; cases PCat.det m m'
 | .moreBad n k m => cases h' with
  | stop e => exact absurd e n
  | bad _ k' => rfl
  | more _ k' m' => cases PPiece.det k k'; cases PCat.det m m'
  | moreBad _ k' m' => rfl
 termination_by structural h
theorem PMore.det {k : Re} {s : List UInt8} {o o' : Option (Re × List UInt8)} (h : PMore k s o) (h' : PMore k s o') : o = o' := by
 match h with
 | .stop n => cases h' with
  | stop _ => rfl
  | bad _ => simp at n
  | more _ _ => simp at n
 | .bad c => cases h' with
  | stop n => simp at n
  | bad _ => rfl
  | more c' _ => cases PCat.det c c'
 | .more c m => cases h' with
  | stop n => simp at n
  | bad c' => cases PCat.det c c'
  | more c' m' => cases PCat.det c c'; exact PMore.det m m'
 termination_by structural h
theorem PAlt.det {s : List UInt8} {o o' : Option (Re × List UInt8)} (h : PAlt s o) (h' : PAlt s o') : o = o' := by
 match h with
 | .bad c => cases h' with
  | bad _ => rfl
  | one c' _ => cases PCat.det c c'
 | .one c m => cases h' with
  | bad c' => cases PCat.det c c'
  | one c' m' => cases PCat.det c c'; exact PMore.det m m'
 termination_by structural h
end
end Tint
