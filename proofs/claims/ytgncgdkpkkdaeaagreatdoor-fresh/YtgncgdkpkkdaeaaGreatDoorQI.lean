/- Put together from Ne, N4, N5, N7. -/
import Derived.Test.YtgncgdkpkkdaeaaGreatDoorQD
import Derived.Test.YtgncgdkpkkdaeaaGreatDoorQN3
/- A row of elements in memory each of which holds a row of its own (states and their rules). -/
namespace Go.Proofs.YtgncgdkpkkdaeaaGreatDoor
open Go.RowKit Tint

theorem row_keep {w w' : World} {B : Nat} {e : TypeId} {size : Nat} {sv : Value} {n : Nat} {xs : List Value} (h : w.ownsRow B e size sv n xs) (hk : ∀ k, sv.ownBlock = some k → w'.heap[k]? = w.heap[k]?) : w'.ownsRow B e size sv n xs := by
  obtain ⟨h1, h2⟩ := h
  refine ⟨h1, ?_⟩
  rcases h2 with h2 | ⟨g, cap, cur, hv, hg, hh, r⟩
  · exact .inl h2
  · exact .inr ⟨g, cap, cur, hv, hg, by rw [hk g (by rw [hv]; rfl)]; exact hh, r⟩

theorem row_type {w : World} {B : Nat} {e : TypeId} {size : Nat} {sv : Value} {n : Nat} {xs : List Value} (h : w.ownsRow B e size sv n xs) {k : Nat} (hk : sv.ownBlock = some k) : B ≤ k ∧ ∃ cur, w.heap[k]? = some (.cells cur e (0, 0)) := by
  rcases h.2 with ⟨rfl, _⟩ | ⟨g, cap, cur, rfl, hg, hh, _⟩
  · cases hk
  · cases hk; exact ⟨hg, cur, hh⟩

/-- A cell of a row. -/
theorem row_cell {w : World} {B : Nat} {e : TypeId} {size : Nat} {g n cap : Nat} {xs : List Value} (h : w.ownsRow B e size (.slice (some ⟨g, 0, none⟩) n cap) n xs) {j : Nat} {u : Value} (hj : xs[j]? = some u) : w.cell? ⟨g, j, none⟩ = some u ∧ w.frozen? ⟨g, j, none⟩ = false := by
  rcases h.2 with ⟨h0, _⟩ | ⟨g', cap', cur, e1, hg, hh, hn, hm, hs, ht⟩
  · cases h0
  · cases e1
    have hl := get_lt hj
    rw [h.1] at hl
    rw [← ht, List.getElem?_take_of_lt hl] at hj
    constructor
    · simp [World.cell?, hh]
      simpa using hj
    · simp [World.frozen?, hh]

/-- A cell of a row is written. -/
theorem row_set {w : World} {B : Nat} {e : TypeId} {size : Nat} {g n cap : Nat} {xs : List Value} (h : w.ownsRow B e size (.slice (some ⟨g, 0, none⟩) n cap) n xs) {j : Nat} (u : Value) : (w.setCell ⟨g, j, none⟩ u).ownsRow B e size (.slice (some ⟨g, 0, none⟩) n cap) n (xs.set j u) := by
  rcases h.2 with ⟨h0, _⟩ | ⟨g', cap', cur, e1, hg, hh, hn, hm, hs, ht⟩
  · cases h0
  · cases e1
    refine ⟨by rw [List.length_set]; exact h.1, .inr ⟨g, cap, cur.setIfInBounds j u, rfl, hg, heap_setCell_same w g j u hh, hn, hm, by simpa using hs, ?_⟩⟩
    rw [show (cur.setIfInBounds j u).toList = cur.toList.set j u by simp, List.take_set, ht]

/-- An element of the outer row: what stands ahead of its own row, that row, what stands behind. -/
structure El where
  pre : List Value
  rv : Value
  post : List Value
  rs : List (List Value)

def El.cells (x : El) : List Value := x.pre ++ x.rv :: x.post

/-- The elements' cells, so many each. -/
def Sized (so si : Nat) (els : List El) : Prop := ∀ x ∈ els, x.cells.length = so ∧ ∀ r ∈ x.rs, r.length = si

structure Nest (w : World) (B : Nat) (to ti : TypeId) (so si : Nat) (sv : Value) (els : List El) : Prop where
  outer : w.ownsRow B to so sv els.length (els.flatMap El.cells)
  inner : ∀ x ∈ els, w.ownsRow B ti si x.rv x.rs.length x.rs.flatten
  apart : ∀ (i j : Nat) x y k, els[i]? = some x → els[j]? = some y → i ≠ j → x.rv.ownBlock = some k → y.rv.ownBlock ≠ some k
  sized : Sized so si els

theorem Nest.keep {w w' : World} {B : Nat} {to ti : TypeId} {so si : Nat} {sv : Value} {els : List El} (h : Nest w B to ti so si sv els) (hk : ∀ k, (sv.ownBlock = some k ∨ ∃ x ∈ els, x.rv.ownBlock = some k) → w'.heap[k]? = w.heap[k]?) : Nest w' B to ti so si sv els :=
  ⟨row_keep h.outer fun k e => hk k (.inl e), fun x hx => row_keep (h.inner x hx) fun k e => hk k (.inr ⟨x, hx, e⟩), h.apart, h.sized⟩

theorem Nest.block {w : World} {B : Nat} {to ti : TypeId} {so si : Nat} {sv : Value} {els : List El} (h : Nest w B to ti so si sv els) {k : Nat} (hk : sv.ownBlock = some k ∨ ∃ x ∈ els, x.rv.ownBlock = some k) : B ≤ k ∧ ∃ cur t, w.heap[k]? = some (.cells cur t (0, 0)) ∧ (t = to ∨ t = ti) := by
  rcases hk with hk | ⟨x, hx, hk⟩
  · obtain ⟨h1, cur, h2⟩ := row_type h.outer hk; exact ⟨h1, cur, to, h2, .inl rfl⟩
  · obtain ⟨h1, cur, h2⟩ := row_type (h.inner x hx) hk; exact ⟨h1, cur, ti, h2, .inr rfl⟩

theorem Nest.below {w w' : World} {B : Nat} {to ti : TypeId} {so si : Nat} {sv : Value} {els : List El} (h : Nest w B to ti so si sv els) (hb : Below w.heap.size w w') : Nest w' B to ti so si sv els :=
  h.keep fun k hk => by obtain ⟨_, cur, t, h1, _⟩ := h.block hk; exact hb.block k (lt_of_get h1)

/-- Blocks of other types may be written. -/
theorem Nest.other {w w' : World} {B : Nat} {to ti : TypeId} {so si : Nat} {sv : Value} {els : List El} (h : Nest w B to ti so si sv els) (hk : ∀ (k : Nat) c t, (t = to ∨ t = ti) → w.heap[k]? = some (.cells c t (0, 0)) → w'.heap[k]? = some (.cells c t (0, 0))) : Nest w' B to ti so si sv els :=
  h.keep fun k hb => by obtain ⟨_, cur, t, h1, h2⟩ := h.block hb; rw [h1]; exact hk k cur t h2 h1

theorem Nest.nil (w : World) (B : Nat) (to ti : TypeId) (so si : Nat) : Nest w B to ti so si (.slice none 0 0) [] :=
  ⟨World.ownsRow_nil _ _ _ _, fun x hx => by simp at hx, fun i j x y k h => by simp at h, fun x hx => by simp at hx⟩

theorem flatMap_get {so si : Nat} {els : List El} (hs : Sized so si els) {i : Nat} {x : El} (h : els[i]? = some x) (j : Nat) (hj : j < so) : (els.flatMap El.cells)[i * so + j]? = x.cells[j]? := by
  induction els generalizing i with
  | nil => simp at h
  | cons a l ih =>
    have ha := (hs a (by simp)).1
    cases i with
    | zero =>
      simp only [List.getElem?_cons_zero, Option.some.injEq] at h
      subst h
      simp only [List.flatMap_cons]
      rw [List.getElem?_append_left (by omega)]
      simp
    | succ i =>
      simp only [List.getElem?_cons_succ] at h
      have := ih (fun x hx => hs x (List.mem_cons_of_mem _ hx)) h
      simp only [List.flatMap_cons]
      rw [List.getElem?_append_right (by rw [ha, Nat.succ_mul]; omega), ← this]
      congr 1
      rw [ha, Nat.succ_mul]; omega

theorem flatMap_set {so si : Nat} {els : List El} (hs : Sized so si els) {i : Nat} {x y : El} (h : els[i]? = some x) (hp : y.pre = x.pre) (hq : y.post = x.post) : (els.set i y).flatMap El.cells = (els.flatMap El.cells).set (i * so + x.pre.length) y.rv := by
  induction els generalizing i with
  | nil => simp at h
  | cons a l ih =>
    have ha := (hs a (by simp)).1
    cases i with
    | zero =>
      simp only [List.getElem?_cons_zero, Option.some.injEq] at h
      subst h
      simp only [List.set_cons_zero, List.flatMap_cons, Nat.zero_mul, Nat.zero_add]
      have hl : a.pre.length < a.cells.length := by simp [El.cells]
      rw [List.set_append_left _ _ hl]
      congr 1
      simp [El.cells, hp, hq]
    | succ i =>
      simp only [List.getElem?_cons_succ] at h
      simp only [List.set_cons_succ, List.flatMap_cons]
      rw [List.set_append_right _ _ (by rw [ha, Nat.succ_mul]; omega), ih (fun x hx => hs x (List.mem_cons_of_mem _ hx)) h]
      congr 2
      rw [ha, Nat.succ_mul]; omega

/-- One more element, with an empty row. -/
theorem Nest.push {w w' : World} {B : Nat} {to ti : TypeId} {so si : Nat} {sv v' : Value} {els : List El} {x : El} (h : Nest w B to ti so si sv els) (hti : to ≠ ti) (hrv : x.rv = .slice none 0 0) (hrs : x.rs = []) (hx : x.cells.length = so)
    (hown : w'.ownsRow B to so v' (els.length + 1) (els.flatMap El.cells ++ x.cells)) (hg : w.grownBy w' sv.ownBlock) : Nest w' B to ti so si v' (els ++ [x]) := by
  refine ⟨by simpa using hown, fun y hy => ?_, fun i j a b k hi hj hne hk hb => ?_, fun y hy => ?_⟩
  · rcases List.mem_append.1 hy with hy | hy
    · refine row_keep (h.inner y hy) fun k e => ?_
      obtain ⟨_, cur, hc⟩ := row_type (h.inner y hy) e
      refine hg.block k (lt_of_get hc) fun e' => ?_
      obtain ⟨_, cur', hc'⟩ := row_type h.outer e'.symm
      rw [hc] at hc'
      simp only [Option.some.injEq, Obj.cells.injEq] at hc'
      exact hti hc'.2.1.symm
    · rw [List.mem_singleton.1 hy, hrv, hrs]
      exact World.ownsRow_nil _ _ _ _
  · rcases Nat.lt_or_ge i els.length with h1 | h1
    · rw [List.getElem?_append_left h1] at hi
      rcases Nat.lt_or_ge j els.length with h2 | h2
      · rw [List.getElem?_append_left h2] at hj
        exact h.apart i j a b k hi hj hne hk hb
      · rw [List.getElem?_append_right h2] at hj
        have : b = x := by
          have := List.mem_of_getElem? hj
          exact List.mem_singleton.1 this
        rw [this, hrv] at hb
        cases hb
    · rw [List.getElem?_append_right h1] at hi
      have : a = x := List.mem_singleton.1 (List.mem_of_getElem? hi)
      rw [this, hrv] at hk
      cases hk
  · rcases List.mem_append.1 hy with hy | hy
    · exact h.sized y hy
    · rw [List.mem_singleton.1 hy]
      exact ⟨hx, fun r hr => by rw [hrs] at hr; simp at hr⟩

/-- An element's row grows, and the new row is put into its cell. -/
theorem Nest.grow {w w' : World} {B : Nat} {to ti : TypeId} {so si g n cap i : Nat} {v' : Value} {els : List El} {x : El} {r : List Value} (h : Nest w B to ti so si (.slice (some ⟨g, 0, none⟩) n cap) els) (hti : to ≠ ti) (hi : els[i]? = some x) (hr : r.length = si)
    (hown : w'.ownsRow B ti si v' (x.rs.length + 1) (x.rs.flatten ++ r)) (hg : w.grownBy w' x.rv.ownBlock) (hnew : v'.ownBlock = x.rv.ownBlock ∨ v'.ownBlock = some w.heap.size) :
    Nest (w'.setCell ⟨g, i * so + x.pre.length, none⟩ v') B to ti so si (.slice (some ⟨g, 0, none⟩) n cap) (els.set i { x with rv := v', rs := x.rs ++ [r] }) := by
  have hxm := List.mem_of_getElem? hi
  have hil := get_lt hi
  have hne : ∀ k, x.rv.ownBlock = some k → k ≠ g := fun k e => by
    rintro rfl
    obtain ⟨_, cur, hc⟩ := row_type (h.inner x hxm) e
    obtain ⟨_, cur', hc'⟩ := row_type (k := k) h.outer rfl
    rw [hc] at hc'
    simp only [Option.some.injEq, Obj.cells.injEq] at hc'
    exact hti hc'.2.1.symm
  have hgl : g < w.heap.size := by
    obtain ⟨_, cur', hc'⟩ := row_type (k := g) h.outer rfl
    exact lt_of_get hc'
  have hv'g : ∀ k, v'.ownBlock = some k → k ≠ g := fun k e => by
    rcases hnew with h1 | h1
    · rw [h1] at e; exact hne k e
    · rw [h1] at e; cases e; omega
  have ho1 : w'.ownsRow B to so (.slice (some ⟨g, 0, none⟩) n cap) els.length (els.flatMap El.cells) := row_keep h.outer fun k e => by
    cases e
    exact hg.block g hgl fun e' => hne g e'.symm rfl
  have hn : n = els.length := by
    rcases h.outer.2 with ⟨h0, _⟩ | ⟨g', cap', cur, e1, _⟩
    · cases h0
    · cases e1; rfl
  subst hn
  have hpl : i * so + x.pre.length < (els.flatMap El.cells).length := by
    have h1 := (h.sized x hxm).1
    rw [h.outer.1]
    have h2 : x.pre.length < x.cells.length := by simp [El.cells]
    have h3 : (i + 1) * so ≤ els.length * so := Nat.mul_le_mul_right _ hil
    rw [Nat.succ_mul] at h3
    omega
  have hset : ∀ k, k ≠ g → (w'.setCell ⟨g, i * so + x.pre.length, none⟩ v').heap[k]? = w'.heap[k]? := fun k e => Below.heap_setCell _ _ _ _ e
  have hinner : ∀ (j : Nat) y, els[j]? = some y → j ≠ i → (w'.setCell ⟨g, i * so + x.pre.length, none⟩ v').ownsRow B ti si y.rv y.rs.length y.rs.flatten := fun j y hj hji => by
    have hy := List.mem_of_getElem? hj
    refine row_keep (h.inner y hy) fun k e => ?_
    obtain ⟨_, cur, hc⟩ := row_type (h.inner y hy) e
    have hkg : k ≠ g := by
      rintro rfl
      obtain ⟨_, cur', hc'⟩ := row_type (k := k) h.outer rfl
      rw [hc] at hc'
      simp only [Option.some.injEq, Obj.cells.injEq] at hc'
      exact hti hc'.2.1.symm
    rw [hset k hkg]
    exact hg.block k (lt_of_get hc) fun e' => h.apart j i y x k hj hi hji e e'.symm
  refine ⟨?_, fun y hy => ?_, fun a b p q k ha hb hab hk hk' => ?_, fun y hy => ?_⟩
  · rw [flatMap_set (y := { x with rv := v', rs := x.rs ++ [r] }) h.sized hi rfl rfl, List.length_set]
    exact row_set ho1 v'
  · obtain ⟨j, hj⟩ := List.getElem?_of_mem hy
    by_cases hji : j = i
    · subst hji
      rw [List.getElem?_set_self (by simpa using hil)] at hj
      cases hj
      have : (x.rs ++ [r]).flatten = x.rs.flatten ++ r := by simp
      simp only [List.length_append, List.length_cons, List.length_nil, this]
      exact row_keep hown fun k e => hset k (hv'g k e)
    · rw [List.getElem?_set_ne (Ne.symm hji)] at hj
      exact hinner j y hj hji
  · by_cases h1 : a = i
    · subst h1
      rw [List.getElem?_set_self (by simpa using hil)] at ha
      cases ha
      rw [List.getElem?_set_ne hab] at hb
      have hq := List.mem_of_getElem? hb
      rcases hnew with h2 | h2
      · rw [h2] at hk
        exact h.apart a b x q k hi hb hab hk hk'
      · rw [h2] at hk
        cases hk
        obtain ⟨_, cur, hc⟩ := row_type (h.inner q hq) hk'
        have := lt_of_get hc
        omega
    · rw [List.getElem?_set_ne (Ne.symm h1)] at ha
      by_cases h3 : b = i
      · subst h3
        rw [List.getElem?_set_self (by simpa using hil)] at hb
        cases hb
        have hp := List.mem_of_getElem? ha
        rcases hnew with h2 | h2
        · rw [h2] at hk'
          exact h.apart a b p x k ha hi hab hk hk'
        · rw [h2] at hk'
          cases hk'
          obtain ⟨_, cur, hc⟩ := row_type (h.inner p hp) hk
          have := lt_of_get hc
          omega
      · rw [List.getElem?_set_ne (Ne.symm h3)] at hb
        exact h.apart a b p q k ha hb hab hk hk'
  · obtain ⟨j, hj⟩ := List.getElem?_of_mem hy
    by_cases hji : j = i
    · subst hji
      rw [List.getElem?_set_self (by simpa using hil)] at hj
      cases hj
      have h1 := h.sized x hxm
      refine ⟨by simpa [El.cells] using h1.1, fun r' hr' => ?_⟩
      rcases List.mem_append.1 hr' with h2 | h2
      · exact h1.2 r' h2
      · rw [List.mem_singleton.1 h2]; exact hr
    · rw [List.getElem?_set_ne (Ne.symm hji)] at hj
      exact h.sized y (List.mem_of_getElem? hj)
end Go.Proofs.YtgncgdkpkkdaeaaGreatDoor

/- The document's grammar in memory; Index. -/
namespace Go.Proofs.YtgncgdkpkkdaeaaGreatDoor
open Go.RowKit Tint

/-- A rule as it lies in memory: its word's number, its word, the state that it opens, its colour, its pattern, the plan, the place. -/
structure RRl where
  d : Nat
  a : ByteArray
  b : ByteArray
  c : ByteArray
  p : ByteArray
  n : Value
  at_ : Nat

def RRl.cells (r : RRl) : List Value := [.string r.a, .string r.b, .string r.c, .string r.p, r.n, .int .i64 r.at_]
def RRl.ln (r : RRl) : Nat × Ln := (r.at_, .rule r.d r.b.data.toList r.c.data.toList r.p.data.toList)

structure RSt where
  name : ByteArray
  rv : Value
  at_ : Nat
  rs : List RRl

def RSt.el (s : RSt) : El := ⟨[.string s.name], s.rv, [.int .i64 s.at_], s.rs.map RRl.cells⟩
def RSt.lns (s : RSt) : Lns := (s.at_, .state s.name.data.toList) :: s.rs.map RRl.ln

/-- The lines that a grammar was made of, without the blank ones. -/
def flat (ss : List RSt) : Lns := ss.flatMap RSt.lns

/-- The document's grammar at block P. -/
structure Grm (w : World) (B P : Nat) (sv : Value) (ss : List RSt) : Prop where
  top : w.heap[P]? = some (.cells #[sv] 117 (0, 0))
  nest : Nest w B 123 128 3 6 sv (ss.map RSt.el)
  words : ∀ s ∈ ss, ∀ r ∈ s.rs, r.d ≤ 2 ∧ r.a.data.toList = ruleWord r.d
  hP : B ≤ P

theorem Grm.form {w : World} {B P : Nat} {sv : Value} {ss : List RSt} (h : Grm w B P sv ss) : ∃ ao cap, sv = .slice ao ss.length cap ∧ (0 < ss.length → ∃ g, ao = some ⟨g, 0, none⟩) := by
  rcases h.nest.outer.2 with ⟨rfl, h0⟩ | ⟨g, cap, cur, rfl, _⟩
  · simp at h0
    exact ⟨none, 0, by rw [h0]; rfl, fun h => by rw [h0] at h; simp at h⟩
  · exact ⟨some ⟨g, 0, none⟩, cap, by simp, fun _ => ⟨g, rfl⟩⟩

theorem Grm.at {w : World} {B P : Nat} {g n cap : Nat} {ss : List RSt} (h : Grm w B P (.slice (some ⟨g, 0, none⟩) n cap) ss) {i : Nat} {s : RSt} (hi : ss[i]? = some s) :
    w.cell? ⟨g, i * 3, none⟩ = some (.string s.name) ∧ w.cell? ⟨g, i * 3 + 1, none⟩ = some s.rv ∧ w.cell? ⟨g, i * 3 + 2, none⟩ = some (.int .i64 s.at_) ∧ w.frozen? ⟨g, i * 3 + 1, none⟩ = false := by
  have hn : n = (ss.map RSt.el).length := by
    rcases h.nest.outer.2 with ⟨h0, _⟩ | ⟨g', cap', cur, e1, _⟩
    · cases h0
    · cases e1; rfl
  subst hn
  have he : (ss.map RSt.el)[i]? = some s.el := by rw [List.getElem?_map, hi]; rfl
  have f := fun j (hj : j < 3) => flatMap_get h.nest.sized he j hj
  exact ⟨(row_cell h.nest.outer (f 0 (by omega))).1, (row_cell h.nest.outer (f 1 (by omega))).1, (row_cell h.nest.outer (f 2 (by omega))).1, (row_cell h.nest.outer (f 1 (by omega) : _ = some s.rv)).2⟩

theorem Grm.top_cell {w : World} {B P : Nat} {sv : Value} {ss : List RSt} (h : Grm w B P sv ss) : w.cell? ⟨P, 0, none⟩ = some sv ∧ w.frozen? ⟨P, 0, none⟩ = false := by
  have := h.top
  exact ⟨by simp [World.cell?, this], by simp [World.frozen?, this]⟩

/-- The grammar behind what turned nothing of it. -/
theorem Grm.keep {w w' : World} {B P : Nat} {sv : Value} {ss : List RSt} (h : Grm w B P sv ss) (hk : ∀ (k : Nat) c t, (t = 117 ∨ t = 123 ∨ t = 128) → w.heap[k]? = some (.cells c t (0, 0)) → w'.heap[k]? = some (.cells c t (0, 0))) : Grm w' B P sv ss :=
  ⟨hk _ _ _ (.inl rfl) h.top, h.nest.other (fun k c t ht hh => hk k c t (.inr ht) hh), h.words, h.hP⟩
theorem Grm.below {w w' : World} {B P : Nat} {sv : Value} {ss : List RSt} (h : Grm w B P sv ss) (hb : Below w.heap.size w w') : Grm w' B P sv ss :=
  h.keep fun k _ _ _ hh => (hb.block k (lt_of_get hh)).trans hh

def IndexPost (ss : List RSt) (n : List UInt8) (w : World) (e : Ending) (w' : World) : Prop :=
  w' = w ∧ ((∃ (i : Nat) (s : RSt), e = .returned (.int .i64 i) ∧ ss[i]? = some s ∧ s.name.data.toList = n ∧ ∀ (j : Nat) (t : RSt), j < i → ss[j]? = some t → t.name.data.toList ≠ n) ∨
    (e = .returned (.int .i64 (-1)) ∧ ∀ t ∈ ss, t.name.data.toList ≠ n))

def IndexLoop (ss : List RSt) (n : List UInt8) (w : World) (k : Nat) (i : Value) (wr : World) : Prop :=
  ∃ j : Nat, i = .int .i64 j ∧ j + k = ss.length ∧ wr = w ∧ ∀ (m : Nat) (t : RSt), m < j → ss[m]? = some t → t.name.data.toList ≠ n

set_option maxRecDepth 20000 in
set_option maxHeartbeats 1000000 in
theorem index_any (B P : Nat) (sv : Value) (ss : List RSt) (n : ByteArray) (w : World) (h : Grm w B P sv ss) (hz : ss.length ≤ 1000000000) :
    Calls Tryz.prog 86 #[.pointer (some ⟨P, 0, none⟩), .string n] w (IndexPost ss n.data.toList w) := by
  obtain ⟨ao, cap, rfl, hao⟩ := h.form
  have c0 := h.top_cell.1
  have HG := hide h
  have HAO := hide hao
  clear h hao
  go_enter Tryz.func86, Tryz.ntmps86
  go_wp2_with fail
  go_loopg [5] ss.length (fun k i wr => IndexLoop ss n.data.toList w k i wr)
  case atStart => exact ⟨0, rfl, by omega, rfl, fun m t h => by omega⟩
  case round =>
    obtain ⟨j, rfl, hk, rfl, hall⟩ := hrel
    by_cases hlt : j < ss.length
    · have g1 : decide ((j : Int) < (ss.length : Int)) = true := decide_eq_true (by omega)
      obtain ⟨g, rfl⟩ := HAO.out (by omega)
      obtain ⟨s, hs⟩ : ∃ s, ss[j]? = some s := ⟨ss[j], List.getElem?_eq_getElem hlt⟩
      obtain ⟨a0, -, -, -⟩ := HG.out.at hs
      have HALL := hide hall
      have HS := hide hs
      clear hall hs
      by_cases hq : s.name.data.toList = n.data.toList
      · have q1 : (s.name.toList == n.toList) = true := by rw [ByteArray.toList_eq, ByteArray.toList_eq, hq]; simp
        have HEND := hide (show IndexPost ss n.data.toList wr (.returned (.int .i64 j)) wr from ⟨rfl, .inl ⟨j, s, rfl, HS.out, hq, HALL.out⟩⟩)
        clear HALL HS hq
        go_wp2_with fail
        go_ret
        exact HEND.out
      · have q1 : (s.name.toList == n.toList) = false := by rw [beq_eq_false_iff_ne, ByteArray.toList_eq, ByteArray.toList_eq]; exact hq
        obtain ⟨k', rfl⟩ : ∃ k', gk = k' + 1 := ⟨gk - 1, by omega⟩
        have HQ := hide hq
        have hi : j + 1 ≤ 9223372036854775807 := by omega
        clear hq
        go_wp2_with fail
        go_roundg k'
        case measure => omega
        case rel =>
          refine ⟨j + 1, rfl, by omega, rfl, fun m t hm ht => ?_⟩
          rcases Nat.lt_or_ge m j with h | h
          · exact HALL.out m t h ht
          · have : m = j := by omega
            subst this
            rw [HS.out] at ht
            cases ht
            exact HQ.out
    · have g1 : decide ((j : Int) < (ss.length : Int)) = false := decide_eq_false (by omega)
      have HEND := hide (show IndexPost ss n.data.toList wr (.returned (.int .i64 (-1))) wr from ⟨rfl, .inr ⟨rfl, fun t ht => by
        obtain ⟨m, hm⟩ := List.getElem?_of_mem ht
        exact hall m t (by have := get_lt hm; omega) hm⟩⟩)
      clear hall
      go_wp2_with fail
      go_ret
      exact HEND.out
end Go.Proofs.YtgncgdkpkkdaeaaGreatDoor

/- tintref: the lines of a grammar, read. -/
namespace Go.Proofs.YtgncgdkpkkdaeaaGreatDoor
open Go.RowKit Tint

theorem lineOf_state {l x : List UInt8} (h : l = [115, 116, 97, 116, 101, 32] ++ x) : lineOf l = if isName x = true then some (.state x) else none := by
  have e : l = wState ++ 32 :: x := h
  have hn : (32 : UInt8) ∉ wState := by decide
  have hl : l ≠ [] := by rw [e]; simp
  unfold lineOf
  rw [if_neg hl, e, cutAt_hit x hn]
  simp [wordLn]

theorem lineOf_rule {l : List UInt8} (h : ∀ x, x ≠ [] → l ≠ [115, 116, 97, 116, 101, 32] ++ x) (hl : l ≠ []) : lineOf l = ruleLnOf l := by
  unfold lineOf ruleLnOf
  rw [if_neg hl]
  rcases cutAt_cases 32 l with ⟨a, b, e, hn, hc⟩ | ⟨hn, hc⟩
  · rw [hc]
    simp only [wordLn]
    by_cases ha : a = wState
    · have hb : b = [] := Classical.byContradiction fun hb => h b hb (by rw [e, ha]; rfl)
      rw [if_pos ha, hb]
      have h1 : isName [] = false := rfl
      have h2 : a ≠ wToken := by rw [ha]; decide
      have h3 : a ≠ wPop := by rw [ha]; decide
      have h4 : a ≠ wPush := by rw [ha]; decide
      rw [if_neg (by rw [h1]; simp), if_neg h2, if_neg h3, if_neg h4]
    · rw [if_neg ha]
  · rw [hc]

theorem any_filter (acc : Lns) : acc.any (·.2.isState) = (acc.filter (·.2.nb)).any (·.2.isState) := by
  rw [List.any_filter]
  congr 1
  funext x
  obtain ⟨a, x⟩ := x
  cases x <;> rfl

theorem any_state {ss : List RSt} {acc : Lns} (h : flat ss = acc.filter (·.2.nb)) : acc.any (·.2.isState) = false ↔ ss = [] := by
  rw [any_filter, ← h]
  cases ss with
  | nil => simp [flat]
  | cons s t => simp [flat, RSt.lns, Ln.isState]

theorem flat_snoc (ss : List RSt) (s : RSt) : flat (ss ++ [s]) = flat ss ++ s.lns := by simp [flat]

theorem flat_grow (ss : List RSt) (s : RSt) (r : RRl) (v : Value) : flat (ss ++ [{ s with rv := v, rs := s.rs ++ [r] }]) = flat (ss ++ [s]) ++ [r.ln] := by
  simp [flat, RSt.lns]

theorem info_state : (Tryz.prog.info? 123).map (fun i => (i.zero, i.size, i.bytes)) = some (some (.agg #[.string ⟨#[]⟩, .slice none 0 0, .int .i64 0]), 3, 48) := by kernel_rfl
theorem info_rule : (Tryz.prog.info? 128).map (fun i => (i.zero, i.size, i.bytes)) = some (some (.agg #[.string ⟨#[]⟩, .string ⟨#[]⟩, .string ⟨#[]⟩, .string ⟨#[]⟩, .pointer none, .int .i64 0]), 6, 80) := by kernel_rfl

theorem Grm.row {w : World} {B P : Nat} {sv : Value} {ss : List RSt} (h : Grm w B P sv ss) {k : Nat} (hk : sv.ownBlock = some k ∨ ∃ x ∈ ss.map RSt.el, x.rv.ownBlock = some k) : B ≤ k ∧ k ≠ P := by
  obtain ⟨h1, cur, t, h2, h3⟩ := h.nest.block hk
  refine ⟨h1, ?_⟩
  rintro rfl
  rw [h.top] at h2
  simp only [Option.some.injEq, Obj.cells.injEq] at h2
  rcases h3 with rfl | rfl
  · exact absurd h2.2.1 (by decide)
  · exact absurd h2.2.1 (by decide)

theorem below_grown {B : Nat} {W w3 : World} {row : Option Nat} (hB : B ≤ W.heap.size) (hg : W.grownBy w3 row) (hr : ∀ k, row = some k → B ≤ k) : Below B W w3 :=
  ⟨hg.os, hg.tape, hg.output, hg.size, fun k hk => hg.block k (Nat.lt_of_lt_of_le hk hB) (fun e => by have := hr k e.symm; omega)⟩

/-- One more state. -/
theorem Grm.push {W w3 : World} {B P : Nat} {sv v' : Value} {ss : List RSt} {name : ByteArray} {at_ : Nat} (hG : Grm W B P sv ss) (hB : B ≤ W.heap.size)
    (hown : w3.ownsRow B 123 3 v' (ss.length + 1) ((ss.map RSt.el).flatMap El.cells ++ [.string name, .slice none 0 0, .int .i64 at_])) (hg : W.grownBy w3 sv.ownBlock) :
    Grm (w3.setCell ⟨P, 0, none⟩ v') B P v' (ss ++ [⟨name, .slice none 0 0, at_, []⟩]) ∧ Below B W (w3.setCell ⟨P, 0, none⟩ v') ∧ w3.heap[P]? = some (.cells #[sv] 117 (0, 0)) := by
  have h3 : w3.heap[P]? = some (.cells #[sv] 117 (0, 0)) := (hg.block P (lt_of_get hG.top) (fun e => (hG.row (.inl e.symm)).2 rfl)).trans hG.top
  have hN : Nest w3 B 123 128 3 6 v' ((ss ++ [(⟨name, .slice none 0 0, at_, []⟩ : RSt)]).map RSt.el) := by
    rw [List.map_append]
    exact hG.nest.push (by decide) rfl rfl rfl (by rw [List.length_map]; exact hown) hg
  have hb : Below B W w3 := below_grown hB hg (fun k e => (hG.row (.inl e)).1)
  refine ⟨⟨heap_setCell_same w3 P 0 _ h3, hN.other fun k c t ht hh => ?_, fun s hs r hr => ?_, hG.hP⟩, hb.setCell hG.hP _, h3⟩
  · rw [Below.heap_setCell _ _ _ _ (fun e => by
      have e : k = P := e
      rw [e, h3] at hh
      simp only [Option.some.injEq, Obj.cells.injEq] at hh
      rcases ht with rfl | rfl
      · exact absurd hh.2.1 (by decide)
      · exact absurd hh.2.1 (by decide))]
    exact hh
  · rcases List.mem_append.1 hs with h | h
    · exact hG.words s h r hr
    · rw [List.mem_singleton.1 h] at hr; simp at hr

/-- One more rule of the last state. -/
theorem Grm.grow {W w3 : World} {B P g n cap : Nat} {v' : Value} {ss : List RSt} {s : RSt} {r : RRl} (hG : Grm W B P (.slice (some ⟨g, 0, none⟩) n cap) (ss ++ [s])) (hB : B ≤ W.heap.size) (hr : r.d ≤ 2 ∧ r.a.data.toList = ruleWord r.d)
    (hown : w3.ownsRow B 128 6 v' (s.rs.length + 1) ((s.rs.map RRl.cells).flatten ++ r.cells)) (hg : W.grownBy w3 s.rv.ownBlock) (hnew : v'.ownBlock = s.rv.ownBlock ∨ v'.ownBlock = some W.heap.size) :
    Grm (w3.setCell ⟨g, ss.length * 3 + 1, none⟩ v') B P (.slice (some ⟨g, 0, none⟩) n cap) (ss ++ [{ s with rv := v', rs := s.rs ++ [r] }]) ∧ Below B W (w3.setCell ⟨g, ss.length * 3 + 1, none⟩ v') ∧ w3.cell? ⟨P, 0, none⟩ = some (.slice (some ⟨g, 0, none⟩) n cap) ∧ w3.cell? ⟨g, ss.length * 3 + 1, none⟩ = some s.rv ∧ w3.frozen? ⟨g, ss.length * 3 + 1, none⟩ = false := by
  have hi : (ss ++ [s])[ss.length]? = some s := by simp
  have hie : ((ss ++ [s]).map RSt.el)[ss.length]? = some s.el := by rw [List.getElem?_map, hi]; rfl
  have hm : s.el ∈ (ss ++ [s]).map RSt.el := List.mem_of_getElem? hie
  have hgr : B ≤ g ∧ g ≠ P := hG.row (k := g) (.inl rfl)
  have h3 : w3.heap[P]? = some (.cells #[.slice (some ⟨g, 0, none⟩) n cap] 117 (0, 0)) := (hg.block P (lt_of_get hG.top) (fun e => (hG.row (.inr ⟨s.el, hm, e.symm⟩)).2 rfl)).trans hG.top
  have hN := hG.nest.grow (w' := w3) (v' := v') (r := r.cells) (by decide) hie rfl (by rw [show s.el.rs.length = s.rs.length from List.length_map ..]; exact hown) hg hnew
  have hb : Below B W w3 := below_grown hB hg (fun k e => (hG.row (.inr ⟨s.el, hm, e⟩)).1)
  have hgne : some g ≠ s.rv.ownBlock := fun e => by
    obtain ⟨_, c1, h1⟩ := row_type (hG.nest.inner _ hm) e.symm
    obtain ⟨_, c2, h2⟩ := row_type (k := g) hG.nest.outer rfl
    rw [h1] at h2
    simp only [Option.some.injEq, Obj.cells.injEq] at h2
    exact absurd h2.2.1 (by decide)
  have hgl : g < W.heap.size := by
    obtain ⟨_, c2, h2⟩ := row_type (k := g) hG.nest.outer rfl
    exact lt_of_get h2
  obtain ⟨-, a1, -, a2⟩ := hG.at hi
  have e1 : (ss ++ [s]).set ss.length { s with rv := v', rs := s.rs ++ [r] } = ss ++ [{ s with rv := v', rs := s.rs ++ [r] }] := by simp
  refine ⟨⟨?_, ?_, fun t ht q hq => ?_, hG.hP⟩, hb.setCell hgr.1 _, by simp [World.cell?, h3], ?_, ?_⟩
  · rw [Below.heap_setCell _ _ _ _ (fun e => hgr.2 (Eq.symm e))]; exact h3
  · have e2 : ((ss ++ [{ s with rv := v', rs := s.rs ++ [r] }]).map RSt.el) = ((ss ++ [s]).map RSt.el).set ss.length { s.el with rv := v', rs := s.el.rs ++ [r.cells] } := by
      rw [← e1, List.map_set]
      simp [RSt.el]
    rw [e2]
    exact hN
  · rcases List.mem_append.1 ht with h | h
    · exact hG.words t (List.mem_append_left _ h) q hq
    · rw [List.mem_singleton.1 h] at hq
      rcases List.mem_append.1 hq with h' | h'
      · exact hG.words s (by simp) q h'
      · rw [List.mem_singleton.1 h']; exact hr
  · rw [World.cell?_of_block (w := W) (hg.block g hgl hgne)]; exact a1
  · rw [World.frozen?_of_block (w := W) (hg.block g hgl hgne)]; exact a2

def ReadPost (B P : Nat) (s : List UInt8) (w : World) (e : Ending) (w' : World) : Prop :=
  Below B w w' ∧ ((∃ a : Nat, e = .returned (.int .i64 a) ∧ rd 0 [] s = .inl a) ∨
    (e = .returned (.int .i64 (-1)) ∧ ∃ (acc : Lns) (sv : Value) (ss : List RSt), rd 0 [] s = .inr acc ∧ Grm w' B P sv ss ∧ flat ss = acc.filter (·.2.nb) ∧ ss.length ≤ s.length ∧ ∀ t ∈ ss, t.rs.length ≤ s.length))

structure ReadAt (B P : Nat) (s : ByteArray) (w : World) (a i : Nat) (acc : Lns) (sv : Value) (ss : List RSt) (wr : World) : Prop where
  le : a ≤ i
  li : i ≤ s.size
  nt : ∀ m, a ≤ m → m < i → s.data.toList[m]? ≠ some 10
  run : rd 0 [] s.data.toList = rd a acc (rest s a)
  grm : Grm wr B P sv ss
  flt : flat ss = acc.filter (·.2.nb)
  below : Below B w wr
  few : ss.length ≤ a
  few2 : ∀ t ∈ ss, t.rs.length ≤ a

def ReadLoop (B P : Nat) (s : ByteArray) (w : World) (k : Nat) (va vi : Value) (wr : World) : Prop :=
  ∃ (a i : Nat) (acc : Lns) (sv : Value) (ss : List RSt), va = .int .i64 a ∧ vi = .int .i64 i ∧ i + k = s.size ∧ ReadAt B P s w a i acc sv ss wr

theorem line_split {l : ByteArray} {n : Nat} (hn : l.size ≤ n) : l.data.toList = (l.extract 0 6).data.toList ++ (l.extract 6 n).data.toList := by
  rw [extract_rest hn, ← extract_seg (Nat.zero_le 6)]
  simp [rest]

theorem row_new {w : World} {B : Nat} {e : TypeId} {size : Nat} {sv : Value} {n : Nat} {xs : List Value} (h : w.ownsRow B e size sv n xs) (o : Obj) : (w.alloc o).ownsRow B e size sv n xs :=
  row_keep h fun k hk => by obtain ⟨_, cur, hc⟩ := row_type h hk; exact Below.heap_alloc _ _ _ (lt_of_get hc)

theorem Grm.drew {w : World} {B P : Nat} {sv : Value} {ss : List RSt} (h : Grm w B P sv ss) : Grm w.drew B P sv ss := h.keep fun _ _ _ _ hh => hh

theorem Grm.outer {w : World} {B P : Nat} {sv : Value} {ss : List RSt} (h : Grm w B P sv ss) : w.ownsRow B 123 3 sv ss.length ((ss.map RSt.el).flatMap El.cells) := by
  have := h.nest.outer
  rwa [List.length_map] at this

theorem Grm.inner {w : World} {B P : Nat} {sv : Value} {ss : List RSt} (h : Grm w B P sv ss) {s : RSt} (hs : s ∈ ss) : w.ownsRow B 128 6 s.rv s.rs.length (s.rs.map RRl.cells).flatten := by
  have := h.nest.inner s.el (List.mem_map_of_mem hs)
  rwa [show s.el.rs.length = s.rs.length from List.length_map ..] at this

theorem ReadAt.push {B P : Nat} {s : ByteArray} {w wr w' : World} {a i : Nat} {acc : Lns} {sv v' : Value} {ss : List RSt} {nm : ByteArray} (h : ReadAt B P s w a i acc sv ss wr) (hlt : i < s.size) (hrs : rest s a = (s.extract a i).data.toList ++ 10 :: rest s (i + 1)) (hten : (10 : UInt8) ∉ (s.extract a i).data.toList) (hl : lineOf (s.extract a i).data.toList = some (.state nm.data.toList))
    (hz : (s.extract a i).size = i - a) (hG : Grm w' B P v' (ss ++ [⟨nm, .slice none 0 0, a, []⟩])) (hb : Below B wr w') : ReadAt B P s w (i + 1) (i + 1) (acc ++ [(a, .state nm.data.toList)]) v' (ss ++ [⟨nm, .slice none 0 0, a, []⟩]) w' := by
  have hle := h.le
  refine ⟨Nat.le_refl _, hlt, fun m h1 h2 => by omega, ?_, hG, ?_, h.below.trans hb, ?_, fun t ht => ?_⟩
  · rw [h.run, hrs, rd_step hten hl (by simp [Ln.isRule]), byte_length, hz, show a + (i - a) + 1 = i + 1 by omega]
  · rw [flat_snoc, h.flt, List.filter_append]
    rfl
  · have := h.few
    simp only [List.length_append, List.length_cons, List.length_nil]
    omega
  · rcases List.mem_append.1 ht with h1 | h1
    · have := h.few2 t h1; omega
    · rw [List.mem_singleton.1 h1]; exact Nat.zero_le _

theorem ReadAt.blank {B P : Nat} {s : ByteArray} {w wr : World} {a i : Nat} {acc : Lns} {sv : Value} {ss : List RSt} (h : ReadAt B P s w a i acc sv ss wr) (hlt : i < s.size) (hrs : rest s a = (s.extract a i).data.toList ++ 10 :: rest s (i + 1)) (hai : i = a) : ReadAt B P s w (i + 1) (i + 1) (acc ++ [(a, .blank)]) sv ss wr := by
  subst hai
  have e : (s.extract i i).data.toList = [] := by rw [extract_list]; simp
  rw [e] at hrs
  refine ⟨Nat.le_refl _, hlt, fun m h1 h2 => by omega, ?_, h.grm, ?_, h.below, by have := h.few; omega, fun t ht => by have := h.few2 t ht; omega⟩
  · rw [h.run, hrs, rd_step (by simp) (show lineOf [] = some .blank from rfl) (by simp [Ln.isRule])]
    simp
  · rw [h.flt, List.filter_append]
    simp [Ln.nb]

theorem ReadAt.grow {B P : Nat} {s : ByteArray} {w wr w' : World} {a i : Nat} {acc : Lns} {sv v' : Value} {ss : List RSt} {t : RSt} {r : RRl} (h : ReadAt B P s w a i acc sv (ss ++ [t]) wr) (hlt : i < s.size) (hrs : rest s a = (s.extract a i).data.toList ++ 10 :: rest s (i + 1)) (hten : (10 : UInt8) ∉ (s.extract a i).data.toList)
    (hl : lineOf (s.extract a i).data.toList = some r.ln.2) (ha : r.at_ = a) (hz : (s.extract a i).size = i - a) (hG : Grm w' B P sv (ss ++ [{ t with rv := v', rs := t.rs ++ [r] }])) (hb : Below B wr w') : ReadAt B P s w (i + 1) (i + 1) (acc ++ [r.ln]) sv (ss ++ [{ t with rv := v', rs := t.rs ++ [r] }]) w' := by
  have hle := h.le
  have hrl : r.ln = (a, r.ln.2) := by rw [← ha]; rfl
  refine ⟨Nat.le_refl _, hlt, fun m h1 h2 => by omega, ?_, hG, ?_, h.below.trans hb, ?_, fun q hq => ?_⟩
  · rw [h.run, hrs, rd_step hten hl (fun hx => by have := (any_state h.flt).1 hx.2; simp at this), byte_length, hz, show a + (i - a) + 1 = i + 1 by omega, hrl]
  · rw [flat_grow, h.flt, List.filter_append]
    rfl
  · have := h.few
    simp only [List.length_append, List.length_cons, List.length_nil] at this ⊢
    omega
  · rcases List.mem_append.1 hq with h1 | h1
    · have := h.few2 q (List.mem_append_left _ h1); omega
    · have := h.few2 t (by simp)
      rw [List.mem_singleton.1 h1]
      simp only [List.length_append, List.length_cons, List.length_nil]
      omega

theorem no_ten {s : ByteArray} {i j : Nat} (h : ∀ m, i ≤ m → m < j → s.data.toList[m]? ≠ some 10) : (10 : UInt8) ∉ (s.extract i j).data.toList := by
  intro hm
  rw [extract_list] at hm
  obtain ⟨k, hk⟩ := List.getElem?_of_mem hm
  have hl := get_lt hk
  rw [List.length_take] at hl
  rw [List.getElem?_take_of_lt (by omega), List.getElem?_drop] at hk
  exact h (i + k) (by omega) (by omega) hk

end Go.Proofs.YtgncgdkpkkdaeaaGreatDoor

/- tintref: counted. -/
namespace Tint

theorem Fst.snoc {p : Lns → Ln → Prop} {pre l : Lns} (h : Fst p pre l none) {a : Nat} {x : Ln} (hx : ¬ p (pre ++ l) x) : Fst p pre (l ++ [(a, x)]) none := by
  generalize ho : (none : Option Nat) = o at h
  induction h with
  | nil => exact .skip (by simpa using hx) .nil
  | hit _ => cases ho
  | skip hn _ ih => exact .skip hn (ih (by simpa using hx) ho)

theorem Fst.hit_at {p : Lns → Ln → Prop} {pre l : Lns} (h : Fst p pre l none) {a : Nat} {x : Ln} (r : Lns) (hx : p (pre ++ l) x) : Fst p pre (l ++ (a, x) :: r) (some a) := by
  generalize ho : (none : Option Nat) = o at h
  induction h with
  | nil => exact .hit (by simpa using hx)
  | hit _ => cases ho
  | skip hn _ ih => exact .skip hn (ih (by simpa using hx) ho)

end Tint
namespace Go.Proofs.YtgncgdkpkkdaeaaGreatDoor
open Go.RowKit Tint

theorem flat_mem {l : List RSt} {a : Nat} {n : List UInt8} : (a, Ln.state n) ∈ flat l ↔ ∃ t ∈ l, t.at_ = a ∧ t.name.data.toList = n := by
  simp only [flat, List.mem_flatMap, RSt.lns, List.mem_cons, List.mem_map]
  constructor
  · rintro ⟨t, ht, h | ⟨r, _, h⟩⟩
    · simp only [Prod.mk.injEq, Ln.state.injEq] at h
      exact ⟨t, ht, h.1.symm, h.2.symm⟩
    · simp [RRl.ln] at h
  · rintro ⟨t, ht, rfl, rfl⟩
    exact ⟨t, ht, .inl rfl⟩

theorem fst_rules {p : Lns → Ln → Prop} (hp : ∀ pre r, ¬ p pre (RRl.ln r).2) {pre l : Lns} (h : Fst p pre l none) (rs : List RRl) : Fst p pre (l ++ rs.map RRl.ln) none := by
  induction rs generalizing l with
  | nil => simpa using h
  | cons r rs ih =>
    have h1 : Fst p pre (l ++ [r.ln]) none := h.snoc (a := r.at_) (hp _ r)
    have := ih h1
    simpa using this

theorem twice_rule (pre : Lns) (r : RRl) : ¬ pTwice pre r.ln.2 := by rintro ⟨n, h, _⟩; cases h

/-- So many states, so many rules. -/
def nRules (l : List RSt) : Nat := (l.map (·.rs.length)).sum

theorem count_states (l : List RSt) : ((flat l).filter (·.2.isState)).length = l.length := by
  induction l with
  | nil => rfl
  | cons s l ih =>
    have h : flat (s :: l) = s.lns ++ flat l := rfl
    rw [h, List.filter_append, List.length_append, ih]
    have : (s.lns.filter (·.2.isState)).length = 1 := by
      simp [RSt.lns, Ln.isState, List.filter_map, RRl.ln, Function.comp_def]
    simp [this]; omega

theorem filter_rules (rs : List RRl) : (rs.map RRl.ln).filter (·.2.isRule) = rs.map RRl.ln := by
  rw [List.filter_eq_self]
  intro x hx
  obtain ⟨r, _, rfl⟩ := List.mem_map.1 hx
  rfl

theorem filter_nostates (rs : List RRl) : (rs.map RRl.ln).filter (·.2.isState) = [] := by
  rw [List.filter_eq_nil_iff]
  intro x hx
  obtain ⟨r, _, rfl⟩ := List.mem_map.1 hx
  simp [RRl.ln, Ln.isState]

theorem count_rules (l : List RSt) : ((flat l).filter (·.2.isRule)).length = nRules l := by
  induction l with
  | nil => rfl
  | cons s l ih =>
    have h : flat (s :: l) = (s.at_, .state s.name.data.toList) :: (s.rs.map RRl.ln ++ flat l) := rfl
    rw [h, List.filter_cons_of_neg (by simp [Ln.isRule]), List.filter_append, List.length_append, ih, filter_rules]
    simp [nRules]

theorem flat_split {ss : List RSt} {i : Nat} {s : RSt} (h : ss[i]? = some s) : flat ss = flat (ss.take i) ++ (s.at_, .state s.name.data.toList) :: (s.rs.map RRl.ln ++ flat (ss.drop (i + 1))) := by
  have hl := get_lt h
  rw [List.getElem?_eq_getElem hl] at h
  conv => lhs; rw [← List.take_append_drop i ss, List.drop_eq_getElem_cons hl, Option.some.inj h]
  simp [flat, RSt.lns]

theorem flat_take {ss : List RSt} {i : Nat} {s : RSt} (h : ss[i]? = some s) : flat (ss.take (i + 1)) = (flat (ss.take i) ++ [(s.at_, .state s.name.data.toList)]) ++ s.rs.map RRl.ln := by
  have hl := get_lt h
  rw [List.getElem?_eq_getElem hl] at h
  rw [List.take_succ_eq_append_getElem hl, Option.some.inj h, flat_snoc]
  simp [RSt.lns]

theorem nRules_take {ss : List RSt} {i : Nat} {s : RSt} (h : ss[i]? = some s) : nRules (ss.take (i + 1)) = nRules (ss.take i) + s.rs.length := by
  have hl := get_lt h
  rw [List.getElem?_eq_getElem hl] at h
  rw [List.take_succ_eq_append_getElem hl, Option.some.inj h]
  simp [nRules]

def CountPost (ss : List RSt) (size : Nat) (w : World) (e : Ending) (w' : World) : Prop :=
  Below w.heap.size w w' ∧ ((∃ a : Nat, e = .returned (.tuple #[.int .i64 3, .int .i64 a]) ∧ Fst pTwice [] (flat ss) (some a)) ∨
    (Fst pTwice [] (flat ss) none ∧ ((∃ a : Nat, e = .returned (.tuple #[.int .i64 4, .int .i64 a]) ∧ Fst pMany [] (flat ss) (some a)) ∨
      (Fst pMany [] (flat ss) none ∧ ((ss = [] ∧ e = .returned (.tuple #[.int .i64 4, .int .i64 size])) ∨ (ss ≠ [] ∧ e = .returned (.tuple #[.int .i64 0, .int .i64 0])))))))

def TwiceLoop (ss : List RSt) (w : World) (k : Nat) (i : Value) (wr : World) : Prop :=
  ∃ j : Nat, i = .int .i64 j ∧ j + k = ss.length ∧ wr = w ∧ Fst pTwice [] (flat (ss.take j)) none

def ManyLoop (ss : List RSt) (w : World) (k : Nat) (n i : Value) (wr : World) : Prop :=
  ∃ j : Nat, n = .int .i64 (nRules (ss.take j) : Nat) ∧ i = .int .i64 j ∧ j + k = ss.length ∧ wr = w ∧ Fst pMany [] (flat (ss.take j)) none ∧ j ≤ 12 ∧ nRules (ss.take j) ≤ 40

def ManyIn (ss : List RSt) (j : Nat) (s : RSt) (w : World) (m : Nat) (n i : Value) (wr : World) : Prop :=
  ∃ k : Nat, n = .int .i64 (nRules (ss.take j) + k : Nat) ∧ i = .int .i64 k ∧ k + m = s.rs.length ∧ wr = w ∧ Fst pMany [] ((flat (ss.take j) ++ [(s.at_, .state s.name.data.toList)]) ++ (s.rs.take k).map RRl.ln) none ∧ nRules (ss.take j) + k ≤ 40

theorem pMany_state (l : List RSt) (n : List UInt8) (hr : nRules l ≤ 40) : pMany (flat l) (.state n) ↔ 12 ≤ l.length := by
  unfold pMany
  rw [count_states, count_rules]
  simp [Ln.nb, Ln.isState, Ln.isRule]
  omega

theorem pMany_rule (l : List RSt) (a : Nat) (n : List UInt8) (rs : List RRl) (r : RRl) (hl : l.length < 12) : pMany ((flat l ++ [(a, .state n)]) ++ rs.map RRl.ln) r.ln.2 ↔ 40 ≤ nRules l + rs.length := by
  unfold pMany
  simp only [List.filter_append, List.length_append, count_states, count_rules, filter_rules, filter_nostates]
  simp [Ln.nb, Ln.isState, Ln.isRule, RRl.ln]
  omega

theorem Grm.rules {w : World} {B P : Nat} {sv : Value} {ss : List RSt} (h : Grm w B P sv ss) {s : RSt} (hs : s ∈ ss) : ∃ ao cap, s.rv = .slice ao s.rs.length cap ∧ (0 < s.rs.length → ∃ g, ao = some ⟨g, 0, none⟩) := by
  rcases (h.inner hs).2 with ⟨h1, h0⟩ | ⟨g, cap, cur, h1, _⟩
  · exact ⟨none, 0, by rw [h1, h0], fun h => by omega⟩
  · exact ⟨some ⟨g, 0, none⟩, cap, h1, fun _ => ⟨g, rfl⟩⟩

theorem ruleCells_get {rs : List RRl} {k : Nat} {r : RRl} (h : rs[k]? = some r) (j : Nat) (hj : j < 6) : (rs.map RRl.cells).flatten[k * 6 + j]? = r.cells[j]? := by
  induction rs generalizing k with
  | nil => simp at h
  | cons a l ih =>
    cases k with
    | zero =>
      simp only [List.getElem?_cons_zero, Option.some.injEq] at h
      subst h
      simp only [List.map_cons, List.flatten_cons]
      rw [List.getElem?_append_left (by simp [RRl.cells]; omega)]
      simp
    | succ k =>
      simp only [List.getElem?_cons_succ] at h
      have := ih h
      simp only [List.map_cons, List.flatten_cons]
      rw [List.getElem?_append_right (by simp [RRl.cells]; omega), ← this]
      congr 1
      simp [RRl.cells]; omega

/-- A rule's cells. -/
theorem Grm.rule {w : World} {B P : Nat} {sv : Value} {ss : List RSt} (h : Grm w B P sv ss) {s : RSt} (hs : s ∈ ss) {g n cap : Nat} (hv : s.rv = .slice (some ⟨g, 0, none⟩) n cap) {k : Nat} {r : RRl} (hr : s.rs[k]? = some r) (j : Nat) (hj : j < 6) {u : Value} (hu : r.cells[j]? = some u) :
    w.cell? ⟨g, k * 6 + j, none⟩ = some u ∧ w.frozen? ⟨g, k * 6 + j, none⟩ = false := by
  have hi := h.inner hs
  rw [hv] at hi
  have hn : n = s.rs.length := by
    rcases hi.2 with ⟨h0, _⟩ | ⟨g', cap', cur, e1, _⟩
    · cases h0
    · cases e1; rfl
  subst hn
  exact row_cell hi (by rw [ruleCells_get hr j hj]; exact hu)

end Go.Proofs.YtgncgdkpkkdaeaaGreatDoor
