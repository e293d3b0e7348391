/- What the shelf holds: terms and their places; there are few. -/
import Derived.Test.YtgncgdkpkkdaeaaDoorDer
namespace Tint

/-- Two lists, member by member. -/
inductive F2 {α β : Type} (R : α → β → Prop) : List α → List β → Prop where
  | nil : F2 R [] []
  | cons {a : α} {b : β} {l : List α} {m : List β} : R a b → F2 R l m → F2 R (a :: l) (b :: m)

theorem F2.mono {α β : Type} {R R' : α → β → Prop} (h : ∀ a b, R a b → R' a b) {l : List α} {m : List β} (f : F2 R l m) : F2 R' l m := by
  induction f with
  | nil => exact .nil
  | cons h1 _ ih => exact .cons (h _ _ h1) ih

theorem F2.length {α β : Type} {R : α → β → Prop} {l : List α} {m : List β} (f : F2 R l m) : l.length = m.length := by
  induction f with
  | nil => rfl
  | cons _ _ ih => simp [ih]

theorem F2.append {α β : Type} {R : α → β → Prop} {l l' : List α} {m m' : List β} (f : F2 R l m) (g : F2 R l' m') : F2 R (l ++ l') (m ++ m') := by
  induction f with
  | nil => exact g
  | cons h _ ih => exact .cons h ih

theorem F2.get {α β : Type} {R : α → β → Prop} {l : List α} {m : List β} (f : F2 R l m) {i : Nat} {b : β} (h : m[i]? = some b) : ∃ a, l[i]? = some a ∧ R a b := by
  induction f generalizing i with
  | nil => simp at h
  | cons h1 _ ih =>
    cases i with
    | zero => simp at h; subst h; exact ⟨_, rfl, h1⟩
    | succ i => simp at h ⊢; exact ih h

theorem F2.snoc {α β : Type} {R : α → β → Prop} {l : List α} {m : List β} {a : α} {b : β} (f : F2 R l m) (h : R a b) : F2 R (l ++ [a]) (m ++ [b]) := f.append (.cons h .nil)

/-- The terms that are put together while a tree is given a byte. -/
def joinsA : ARe → List D
  | .eps => []
  | .cls _ _ => []
  | .seq _ x y => joinsA x ++ (allA x).map (tcat · y) ++ joinsA y
  | .alt _ x y => joinsA x ++ joinsA y
  | .star i x => joinsA x ++ (allA x).map (tcat · (.star i x))
  | .plus _ j x => joinsA x ++ (allA x).map (tcat · (.star j x))
  | .opt _ x => joinsA x

def joinsD : D → List D
  | .base a => joinsA a
  | .snoc d a => joinsD d ++ (allD d).map (tcat · a) ++ joinsA a

def ARe.sz : ARe → Nat
  | .eps => 1
  | .cls _ _ => 1
  | .seq _ a b => a.sz + b.sz + 1
  | .alt _ a b => a.sz + b.sz + 1
  | .star _ a => a.sz + 1
  | .plus _ _ a => a.sz + 2
  | .opt _ a => a.sz + 1

def D.sz : D → Nat
  | .base a => a.sz
  | .snoc d a => d.sz + a.sz

theorem ARe.sz_pos (a : ARe) : 1 ≤ a.sz := by cases a <;> simp [ARe.sz]

theorem tcat_sz (d : D) (a : ARe) : (tcat d a).sz ≤ d.sz + a.sz := by
  unfold tcat
  split
  · simp [D.sz]
  · simp [D.sz]

theorem sq_le {a b c : Nat} (h : a + b ≤ c) : a * a + b * b ≤ c * c := by
  have h1 : (a + b) * (a + b) ≤ c * c := Nat.mul_le_mul h h
  have h2 : (a + b) * (a + b) = a * a + b * b + 2 * (a * b) := by
    rw [Nat.add_mul, Nat.mul_add, Nat.mul_add, Nat.mul_comm b a]; omega
  omega

theorem sq_one {a c : Nat} (h : a + 1 ≤ c) : a * a + 2 * a + 1 ≤ c * c := by
  have h1 : (a + 1) * (a + 1) ≤ c * c := Nat.mul_le_mul h h
  have h2 : (a + 1) * (a + 1) = a * a + 2 * a + 1 := by
    rw [Nat.add_mul, Nat.mul_add, Nat.mul_one, Nat.one_mul]; omega
  omega

theorem allA_sz (a : ARe) : ∀ d ∈ allA a, d.sz ≤ a.sz * a.sz := by
  induction a with
  | eps => simp [allA]
  | cls i c => intro d hd; simp only [allA, List.mem_singleton] at hd; subst hd; simp [D.sz, ARe.sz]
  | seq i x y ihx ihy =>
    intro d hd
    simp only [allA, List.mem_append, List.mem_map] at hd
    have h1 := sq_le (a := x.sz) (b := y.sz + 1) (c := x.sz + y.sz + 1) (by omega)
    have h2 := sq_one (a := y.sz) (c := y.sz + 1) (by omega)
    have hx : x.sz ≤ x.sz * x.sz := Nat.le_mul_of_pos_left _ x.sz_pos
    simp only [ARe.sz]
    rcases hd with ⟨d', h, rfl⟩ | h
    · have h3 := tcat_sz d' y
      have h4 := ihx _ h
      omega
    · have h4 := ihy _ h
      omega
  | alt i x y ihx ihy =>
    intro d hd
    simp only [allA, List.mem_append] at hd
    have h1 := sq_le (a := x.sz) (b := y.sz) (c := x.sz + y.sz + 1) (by omega)
    simp only [ARe.sz]
    rcases hd with h | h
    · have h4 := ihx _ h; omega
    · have h4 := ihy _ h; omega
  | star i x ih =>
    intro d hd
    simp only [allA, List.mem_map] at hd
    obtain ⟨d', h, rfl⟩ := hd
    have h3 := tcat_sz d' (.star i x)
    have h4 := ih _ h
    have h2 := sq_one (a := x.sz) (c := x.sz + 1) (by omega)
    have := x.sz_pos
    simp only [ARe.sz] at h3 ⊢
    omega
  | plus i j x ih =>
    intro d hd
    simp only [allA, List.mem_map] at hd
    obtain ⟨d', h, rfl⟩ := hd
    have h3 := tcat_sz d' (.star j x)
    have h4 := ih _ h
    have h2 := sq_one (a := x.sz) (c := x.sz + 2) (by omega)
    have := x.sz_pos
    simp only [ARe.sz] at h3 ⊢
    omega
  | opt i x ih =>
    intro d hd
    have h4 := ih _ hd
    have h2 := sq_one (a := x.sz) (c := x.sz + 1) (by omega)
    simp only [ARe.sz]
    omega

theorem leaves_sz (a : ARe) : a.leaves ≤ a.sz := by
  induction a <;> simp_all [ARe.leaves, ARe.sz] <;> omega

theorem length_allD (d : D) : (allD d).length ≤ d.sz := by
  induction d with
  | base a => simp only [allD, length_allA, D.sz]; exact leaves_sz a
  | snoc d a ih => simp only [allD, List.length_append, List.length_map, length_allA, D.sz]; have := leaves_sz a; omega

theorem length_joinsA (a : ARe) : (joinsA a).length ≤ a.sz * a.sz := by
  induction a with
  | eps => simp [joinsA]
  | cls i c => simp [joinsA]
  | seq i x y ihx ihy =>
    have h1 := sq_le (a := x.sz + 1) (b := y.sz) (c := x.sz + y.sz + 1) (by omega)
    have h2 := sq_one (a := x.sz) (c := x.sz + 1) (by omega)
    have h3 := leaves_sz x
    simp only [joinsA, List.length_append, List.length_map, length_allA, ARe.sz]
    omega
  | alt i x y ihx ihy =>
    have h1 := sq_le (a := x.sz) (b := y.sz) (c := x.sz + y.sz + 1) (by omega)
    simp only [joinsA, List.length_append, ARe.sz]
    omega
  | star i x ih =>
    have h2 := sq_one (a := x.sz) (c := x.sz + 1) (by omega)
    have h3 := leaves_sz x
    simp only [joinsA, List.length_append, List.length_map, length_allA, ARe.sz]
    omega
  | plus i j x ih =>
    have h2 := sq_one (a := x.sz) (c := x.sz + 2) (by omega)
    have h3 := leaves_sz x
    simp only [joinsA, List.length_append, List.length_map, length_allA, ARe.sz]
    omega
  | opt i x ih =>
    have h2 := sq_one (a := x.sz) (c := x.sz + 1) (by omega)
    simp only [joinsA, ARe.sz]
    omega

theorem D.sz_pos (d : D) : 1 ≤ d.sz := by
  induction d with
  | base a => exact a.sz_pos
  | snoc d a ih => simp only [D.sz]; omega

theorem length_joinsD (d : D) : (joinsD d).length ≤ d.sz * d.sz := by
  induction d with
  | base a => exact length_joinsA a
  | snoc d a ih =>
    have h1 := length_joinsA a
    have h2 := length_allD d
    have h3 : d.sz * d.sz + a.sz * a.sz + 2 * (d.sz * a.sz) ≤ (d.sz + a.sz) * (d.sz + a.sz) := by
      rw [Nat.add_mul, Nat.mul_add, Nat.mul_add, Nat.mul_comm a.sz d.sz]; omega
    have h4 : d.sz ≤ d.sz * a.sz := Nat.le_mul_of_pos_right _ a.sz_pos
    simp only [joinsD, List.length_append, List.length_map, D.sz]
    omega

/-- All terms that are put together while what may be met of a tree is given bytes. -/
def shelved (a : ARe) : List D := (met a).flatMap joinsD

theorem length_flatMap_le {α β : Type} (f : α → List β) (n : Nat) : ∀ l : List α, (∀ x ∈ l, (f x).length ≤ n) → (l.flatMap f).length ≤ l.length * n
  | [], _ => by simp
  | x :: l, h => by
    have h1 := h x (by simp)
    have h2 := length_flatMap_le f n l (fun y hy => h y (by simp [hy]))
    simp only [List.flatMap_cons, List.length_append, List.length_cons]
    have h3 : (l.length + 1) * n = l.length * n + n := by rw [Nat.add_mul, Nat.one_mul]
    omega

theorem length_shelved (a : ARe) (h : a.sz ≤ 200) (hl : a.leaves ≤ 60) : (shelved a).length ≤ 100000000000 := by
  have h1 := length_flatMap_le joinsD (40000 * 40000) (met a) (fun d hd => by
    refine Nat.le_trans (length_joinsD d) ?_
    have hs : d.sz ≤ 40000 := by
      have h200 : a.sz * a.sz ≤ 200 * 200 := Nat.mul_le_mul h h
      simp only [met, List.mem_cons] at hd
      rcases hd with rfl | hd
      · simp only [D.sz]; omega
      · have := allA_sz a d hd; omega
    exact Nat.mul_le_mul hs hs)
  have h2 : (met a).length ≤ 61 := by rw [length_met]; omega
  have h3 : (met a).length * (40000 * 40000) ≤ 61 * (40000 * 40000) := Nat.mul_le_mul_right _ h2
  unfold shelved
  omega

theorem joins_shelved {a : ARe} {d : D} (h : d ∈ met a) : ∀ t ∈ joinsD d, t ∈ shelved a := fun _ ht => List.mem_flatMap.2 ⟨d, h, ht⟩

/-! ## A term's place in the list -/

/-- All places of a tree are ahead of n0. -/
def ARe.lt (n0 : Nat) : ARe → Prop
  | .eps => 0 < n0
  | .cls i _ => i < n0
  | .seq i a b => i < n0 ∧ a.lt n0 ∧ b.lt n0
  | .alt i a b => i < n0 ∧ a.lt n0 ∧ b.lt n0
  | .star i a => i < n0 ∧ a.lt n0
  | .plus i j a => i < n0 ∧ j < n0 ∧ a.lt n0
  | .opt i a => i < n0 ∧ a.lt n0

theorem ARe.lt.lt_ix {n0 : Nat} {a : ARe} (h : a.lt n0) : a.ix < n0 := by
  cases a with
  | eps => exact h
  | cls i c => exact h
  | seq i a b => exact h.1
  | alt i a b => exact h.1
  | star i a => exact h.1
  | plus i j a => exact h.1
  | opt i a => exact h.1

theorem Rep.all_lt {α : Type} {isC : α → Cls → Prop} {ns : List (Nd α)} {a : ARe} (h : Rep isC ns a) : a.lt ns.length := by
  have hl : ∀ {i : Nat} {nd : Nd α}, ns[i]? = some nd → i < ns.length := fun {i nd} h => by
    rcases Nat.lt_or_ge i ns.length with h' | h'
    · exact h'
    · rw [List.getElem?_eq_none h'] at h; cases h
  induction a with
  | eps => obtain ⟨_, h⟩ := h; exact hl h
  | cls i c => obtain ⟨_, _, h, _⟩ := h; exact hl h
  | seq i a b iha ihb => obtain ⟨_, ⟨_, h⟩, h1, h2⟩ := h; exact ⟨hl h, iha h1, ihb h2⟩
  | alt i a b iha ihb => obtain ⟨_, ⟨_, h⟩, h1, h2⟩ := h; exact ⟨hl h, iha h1, ihb h2⟩
  | star i a ih => obtain ⟨_, ⟨_, h⟩, h1⟩ := h; exact ⟨hl h, ih h1⟩
  | plus i j a ih => obtain ⟨_, _, ⟨_, h⟩, ⟨_, h'⟩, h1⟩ := h; exact ⟨hl h, hl h', ih h1⟩
  | opt i a ih => obtain ⟨_, ⟨_, h⟩, h1⟩ := h; exact ⟨hl h, ih h1⟩

def RepD {α : Type} (isC : α → Cls → Prop) (n0 : Nat) (ns : List (Nd α)) : D → Nat → Prop
  | .base a, k => k = a.ix ∧ a.lt n0 ∧ Rep isC ns a
  | .snoc d a, k => n0 ≤ k ∧ a.lt n0 ∧ Rep isC ns a ∧ ∃ m, m ≠ 0 ∧ RepD isC n0 ns d m ∧ ∃ h, ns[k]? = some ⟨2, h, m, a.ix, d.re.nullable && a.re.nullable⟩

theorem RepD.mono {α : Type} {isC isC' : α → Cls → Prop} {n0 : Nat} {ns ns' : List (Nd α)} (hc : ∀ h c, isC h c → isC' h c) (hn : ∀ (i : Nat) nd, ns[i]? = some nd → ns'[i]? = some nd) {d : D} {k : Nat} (h : RepD isC n0 ns d k) : RepD isC' n0 ns' d k := by
  induction d generalizing k with
  | base a => obtain ⟨h1, h2, h3⟩ := h; exact ⟨h1, h2, h3.mono hc hn⟩
  | snoc d a ih =>
    obtain ⟨h1, h2, h3, m, h4, h5, x, h6⟩ := h
    exact ⟨h1, h2, h3.mono hc hn, m, h4, ih h5, x, hn _ _ h6⟩

theorem get_append_left {α : Type} {ns ms : List α} {i : Nat} {x : α} (h : ns[i]? = some x) : (ns ++ ms)[i]? = some x := by
  rcases Nat.lt_or_ge i ns.length with h' | h'
  · rw [List.getElem?_append_left h']; exact h
  · rw [List.getElem?_eq_none h'] at h; cases h

theorem RepD.append {α : Type} {isC : α → Cls → Prop} {n0 : Nat} {ns ms : List (Nd α)} {d : D} {k : Nat} (h : RepD isC n0 ns d k) : RepD isC n0 (ns ++ ms) d k :=
  h.mono (fun _ _ h => h) (fun _ _ h => get_append_left h)

theorem RepD.empty {α : Type} {isC : α → Cls → Prop} {n0 : Nat} {ns : List (Nd α)} {d : D} {k : Nat} (h : RepD isC n0 ns d k) : ∃ nd, ns[k]? = some nd ∧ nd.empty = d.re.nullable := by
  cases d with
  | base a => obtain ⟨rfl, _, h⟩ := h; exact h.empty
  | snoc d a => obtain ⟨_, _, _, m, _, _, x, h⟩ := h; exact ⟨_, h, rfl⟩

theorem RepD.lt {α : Type} {isC : α → Cls → Prop} {n0 : Nat} {ns : List (Nd α)} {d : D} {k : Nat} (h : RepD isC n0 ns d k) : k < ns.length := by
  obtain ⟨nd, h, _⟩ := h.empty
  rcases Nat.lt_or_ge k ns.length with h' | h'
  · exact h'
  · rw [List.getElem?_eq_none h'] at h; cases h

/-- Place 0 is the empty text's, and no other term's. -/
theorem Rep.zero {α : Type} {isC : α → Cls → Prop} {ns : List (Nd α)} {a : ARe} (h : Rep isC ns a) (h0 : a.ix = 0) : a = .eps := by
  cases a with
  | eps => rfl
  | cls i c => exact absurd h0 h.1
  | seq i a b => exact absurd h0 h.1
  | alt i a b => exact absurd h0 h.1
  | star i a => exact absurd h0 h.1
  | plus i j a => exact absurd h0 h.1
  | opt i a => exact absurd h0 h.1

theorem RepD.zero {α : Type} {isC : α → Cls → Prop} {n0 : Nat} {ns : List (Nd α)} {d : D} (hn : 0 < n0) (h : RepD isC n0 ns d 0) : d = .base .eps := by
  cases d with
  | base a => obtain ⟨h1, _, h⟩ := h; rw [h.zero h1.symm]
  | snoc d a => obtain ⟨h1, _⟩ := h; omega

theorem RepD.pos {α : Type} {isC : α → Cls → Prop} {n0 : Nat} {ns : List (Nd α)} {d : D} {k : Nat} (h : RepD isC n0 ns d k) (hk : k ≠ 0) (a : ARe) : tcat d a = .snoc d a := by
  unfold tcat
  split
  · obtain ⟨h1, _⟩ := h; exact absurd h1 hk
  · rfl

/-- No two places behind n0 hold the same pair. -/
def Uniq {α : Type} (n0 : Nat) (ns : List (Nd α)) : Prop := ∀ (j k : Nat) nd nd', n0 ≤ j → n0 ≤ k → ns[j]? = some nd → ns[k]? = some nd' → nd.left = nd'.left → nd.right = nd'.right → j = k

theorem RepD.func {α : Type} {isC : α → Cls → Prop} {n0 : Nat} {ns : List (Nd α)} (hu : Uniq n0 ns) {d : D} {k k' : Nat} (h : RepD isC n0 ns d k) (h' : RepD isC n0 ns d k') : k = k' := by
  induction d generalizing k k' with
  | base a => rw [h.1, h'.1]
  | snoc d a ih =>
    obtain ⟨h1, _, _, m, _, h2, x, h3⟩ := h
    obtain ⟨h1', _, _, m', _, h2', x', h3'⟩ := h'
    exact hu k k' _ _ h1 h1' h3 h3' (ih h2 h2') rfl

/-- As many numbers, each of which is some member's, as there are members. -/
theorem pigeon {α β : Type} [DecidableEq β] {R : α → β → Prop} (hf : ∀ a b b', R a b → R a b' → b = b') {l : List β} {P : List α} (hn : l.Nodup) (h : ∀ b ∈ l, ∃ a ∈ P, R a b) : l.length ≤ P.length := by
  classical
  let f : α → Option β := fun a => if h : ∃ b, R a b then some h.choose else none
  have h1 : ∀ b ∈ l, b ∈ P.filterMap f := by
    intro b hb
    obtain ⟨a, ha, hr⟩ := h b hb
    refine List.mem_filterMap.2 ⟨a, ha, ?_⟩
    have he : ∃ b, R a b := ⟨b, hr⟩
    simp only [f, dif_pos he]
    rw [hf a _ _ he.choose_spec hr]
  exact Nat.le_trans (nodup_length_le hn h1) (List.length_filterMap_le f P)

theorem length_pdA (b : UInt8) (a : ARe) : (pdA b a).length ≤ a.sz := by
  induction a with
  | eps => simp [pdA, ARe.sz]
  | cls i c => simp only [pdA]; split <;> simp [ARe.sz]
  | seq i x y ihx ihy =>
    simp only [pdA, List.length_append, List.length_map, ARe.sz]
    split <;> (try simp only [List.length_nil]) <;> omega
  | alt i x y ihx ihy => simp only [pdA, List.length_append, ARe.sz]; omega
  | star i x ih => simp only [pdA, List.length_map, ARe.sz]; omega
  | plus i j x ih => simp only [pdA, List.length_map, ARe.sz]; omega
  | opt i x ih => simp only [pdA, ARe.sz]; omega

theorem length_pd (b : UInt8) (d : D) : (pd b d).length ≤ d.sz := by
  induction d with
  | base a => exact length_pdA b a
  | snoc d a ih =>
    have := length_pdA b a
    simp only [pd, List.length_append, List.length_map, D.sz]
    split <;> (try simp only [List.length_nil]) <;> omega

end Tint
