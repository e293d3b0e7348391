/- A cell of an inner row is written; plans of patterns stand by their grammar. -/
import Derived.Test.YtgncgdkpkkdaeaaN7
import Derived.Test.YtgncgdkpkkdaeaaTC
namespace Go.Proofs.Ytgncgdkpkkdaeaa
open Go.RowKit Tint

theorem flatten_set {si : Nat} {rs : List (List Value)} (hs : ∀ r ∈ rs, r.length = si) {j o : Nat} {r : List Value} (h : rs[j]? = some r) (ho : o < si) (u : Value) : (rs.set j (r.set o u)).flatten = rs.flatten.set (j * si + o) u := by
  induction rs generalizing j with
  | nil => simp at h
  | cons a l ih =>
    have ha := hs a (by simp)
    cases j with
    | zero =>
      simp only [List.getElem?_cons_zero, Option.some.injEq] at h
      subst h
      simp only [List.set_cons_zero, List.flatten_cons, Nat.zero_mul, Nat.zero_add]
      rw [List.set_append_left _ _ (by omega)]
    | succ j =>
      simp only [List.getElem?_cons_succ] at h
      simp only [List.set_cons_succ, List.flatten_cons]
      rw [List.set_append_right _ _ (by rw [ha, Nat.succ_mul]; omega), ih (fun x hx => hs x (List.mem_cons_of_mem _ hx)) h]
      congr 2
      rw [ha, Nat.succ_mul]; omega

theorem flatMap_same {els : List El} {i : Nat} {x y : El} (h : els[i]? = some x) (hc : y.cells = x.cells) : (els.set i y).flatMap El.cells = els.flatMap El.cells := by
  induction els generalizing i with
  | nil => simp
  | cons a l ih =>
    cases i with
    | zero =>
      simp only [List.getElem?_cons_zero, Option.some.injEq] at h
      subst h
      simp [hc]
    | succ i =>
      simp only [List.getElem?_cons_succ] at h
      simp only [List.set_cons_succ, List.flatMap_cons, ih h]

/-- A cell of an element's row is written. -/
theorem Nest.setIn {w : World} {B : Nat} {to ti : TypeId} {so si : Nat} {sv : Value} {els : List El} (h : Nest w B to ti so si sv els) (hti : to ≠ ti) {i : Nat} {x : El} (hi : els[i]? = some x) {g n cap : Nat} (hv : x.rv = .slice (some ⟨g, 0, none⟩) n cap) {j o : Nat} {r : List Value} (hj : x.rs[j]? = some r) (ho : o < si) (u : Value) :
    Nest (w.setCell ⟨g, j * si + o, none⟩ u) B to ti so si sv (els.set i { x with rs := x.rs.set j (r.set o u) }) := by
  have hxm := List.mem_of_getElem? hi
  have hil := get_lt hi
  have hsz := h.sized x hxm
  have hin := h.inner x hxm
  have hset : ∀ k, k ≠ g → (w.setCell ⟨g, j * si + o, none⟩ u).heap[k]? = w.heap[k]? := fun k e => Below.heap_setCell _ _ _ _ e
  have hn : n = x.rs.length := by
    rw [hv] at hin
    rcases hin.2 with ⟨h0, _⟩ | ⟨g', cap', cur, e1, _⟩
    · cases h0
    · cases e1; rfl
  subst hn
  have hgo : ∀ k, sv.ownBlock = some k → k ≠ g := fun k e => by
    rintro rfl
    obtain ⟨_, cur, hc⟩ := row_type h.outer e
    obtain ⟨_, cur', hc'⟩ := row_type (k := k) hin (by rw [hv]; rfl)
    rw [hc] at hc'
    simp only [Option.some.injEq, Obj.cells.injEq] at hc'
    exact hti hc'.2.1
  refine ⟨?_, fun y hy => ?_, fun a b p q k ha hb hab hk hk' => ?_, fun y hy => ?_⟩
  · rw [flatMap_same (y := { x with rs := x.rs.set j (r.set o u) }) hi rfl, List.length_set]
    exact row_keep h.outer fun k e => hset k (hgo k e)
  · obtain ⟨m, hm⟩ := List.getElem?_of_mem hy
    by_cases hmi : m = i
    · subst hmi
      rw [List.getElem?_set_self (by simpa using hil)] at hm
      cases hm
      simp only [List.length_set]
      rw [flatten_set hsz.2 hj ho]
      rw [hv] at hin ⊢
      exact row_set hin u
    · rw [List.getElem?_set_ne (Ne.symm hmi)] at hm
      refine row_keep (h.inner y (List.mem_of_getElem? hm)) fun k e => hset k ?_
      rintro rfl
      exact h.apart m i y x k hm hi hmi e (by rw [hv]; rfl)
  · have key : ∀ (c : Nat) z, (els.set i { x with rs := x.rs.set j (r.set o u) })[c]? = some z → ∃ z', els[c]? = some z' ∧ z'.rv = z.rv := fun c z hc => by
      by_cases hci : c = i
      · subst hci
        rw [List.getElem?_set_self (by simpa using hil)] at hc
        cases hc
        exact ⟨x, hi, rfl⟩
      · rw [List.getElem?_set_ne (Ne.symm hci)] at hc
        exact ⟨z, hc, rfl⟩
    obtain ⟨p', hp, ep⟩ := key a p ha
    obtain ⟨q', hq, eq⟩ := key b q hb
    rw [← ep] at hk
    rw [← eq] at hk'
    exact h.apart a b p' q' k hp hq hab hk hk'
  · obtain ⟨m, hm⟩ := List.getElem?_of_mem hy
    by_cases hmi : m = i
    · subst hmi
      rw [List.getElem?_set_self (by simpa using hil)] at hm
      cases hm
      refine ⟨hsz.1, fun r' hr' => ?_⟩
      obtain ⟨m', hm'⟩ := List.getElem?_of_mem hr'
      by_cases he : m' = j
      · subst he
        rw [List.getElem?_set_self (by simpa using get_lt hj)] at hm'
        cases hm'
        rw [List.length_set]
        exact hsz.2 r (List.mem_of_getElem? hj)
      · rw [List.getElem?_set_ne (Ne.symm he)] at hm'
        exact hsz.2 r' (List.mem_of_getElem? hm')
    · rw [List.getElem?_set_ne (Ne.symm hmi)] at hm
      exact h.sized y (List.mem_of_getElem? hm)

/-- The rule at (i, j) gets a plan. -/
def setN (ss : List RSt) (i j : Nat) (s : RSt) (r : RRl) (v : Value) : List RSt := ss.set i { s with rs := s.rs.set j { r with n := v } }

theorem set_self {α : Type} {l : List α} {i : Nat} {a : α} (h : l[i]? = some a) : l.set i a = l := by
  have hl := get_lt h
  rw [List.getElem?_eq_getElem hl] at h
  rw [← Option.some.inj h]
  exact List.set_getElem_self hl

theorem flat_setN {ss : List RSt} {i j : Nat} {s : RSt} {r : RRl} {v : Value} (hi : ss[i]? = some s) (hj : s.rs[j]? = some r) : flat (setN ss i j s r v) = flat ss := by
  have e : ({ s with rs := s.rs.set j { r with n := v } } : RSt).lns = s.lns := by
    unfold RSt.lns
    simp only [List.map_set]
    rw [show RRl.ln { r with n := v } = r.ln from rfl, set_self (by rw [List.getElem?_map, hj]; rfl)]
  have e2 : flat (setN ss i j s r v) = ((ss.map RSt.lns).set i s.lns).flatten := by
    rw [flat, List.flatMap_def, setN, List.map_set, e]
  rw [e2, set_self (by rw [List.getElem?_map, hi]; rfl), flat, List.flatMap_def]

theorem Grm.setN {w : World} {B P : Nat} {sv : Value} {ss : List RSt} (h : Grm w B P sv ss) {i j : Nat} {s : RSt} {r : RRl} (hi : ss[i]? = some s) (hj : s.rs[j]? = some r) {g n cap : Nat} (hv : s.rv = .slice (some ⟨g, 0, none⟩) n cap) (u : Value) :
    Grm (w.setCell ⟨g, j * 6 + 4, none⟩ u) B P sv (setN ss i j s r u) ∧ Below B w (w.setCell ⟨g, j * 6 + 4, none⟩ u) := by
  have hie : (ss.map RSt.el)[i]? = some s.el := by rw [List.getElem?_map, hi]; rfl
  have hgr := h.row (k := g) (.inr ⟨s.el, List.mem_of_getElem? hie, by show s.rv.ownBlock = _; rw [hv]; rfl⟩)
  refine ⟨⟨?_, ?_, fun t ht q hq => ?_, h.hP⟩, (Below.refl B w).setCell hgr.1 _⟩
  · rw [Below.heap_setCell _ _ _ _ (fun e => hgr.2 (Eq.symm e))]; exact h.top
  · have := h.nest.setIn (by decide) hie (g := g) (n := n) (cap := cap) hv (j := j) (o := 4) (r := r.cells) (by rw [show s.el.rs = s.rs.map RRl.cells from rfl, List.getElem?_map, hj]; rfl) (by omega) u
    have e : (Go.Proofs.Ytgncgdkpkkdaeaa.setN ss i j s r u).map RSt.el = (ss.map RSt.el).set i { s.el with rs := s.el.rs.set j (r.cells.set 4 u) } := by
      rw [Go.Proofs.Ytgncgdkpkkdaeaa.setN, List.map_set]
      simp [RSt.el, RRl.cells]
    rw [e]
    exact this
  · obtain ⟨m, hm⟩ := List.getElem?_of_mem ht
    by_cases hmi : m = i
    · subst hmi
      rw [Go.Proofs.Ytgncgdkpkkdaeaa.setN, List.getElem?_set_self (by simpa using get_lt hi)] at hm
      cases hm
      obtain ⟨m', hm'⟩ := List.getElem?_of_mem hq
      by_cases he : m' = j
      · subst he
        rw [List.getElem?_set_self (by simpa using get_lt hj)] at hm'
        cases hm'
        exact h.words s (List.mem_of_getElem? hi) r (List.mem_of_getElem? hj)
      · rw [List.getElem?_set_ne (Ne.symm he)] at hm'
        exact h.words s (List.mem_of_getElem? hi) q (List.mem_of_getElem? hm')
    · rw [Go.Proofs.Ytgncgdkpkkdaeaa.setN, List.getElem?_set_ne (Ne.symm hmi)] at hm
      exact h.words t (List.mem_of_getElem? hm) q hq

theorem PlanIs.keep {w w' : World} {B P : Nat} {ls : List (Value × Sp)} {first : Nat} {r : Re} (h : Ref.PlanIs w B P ls first r) (hk : ∀ (k : Nat) c t, (t = 105 ∨ t = 102 ∨ t = 4) → w.heap[k]? = some (.cells c t (0, 0)) → w'.heap[k]? = some (.cells c t (0, 0))) : Ref.PlanIs w' B P ls first r := by
  obtain ⟨⟨⟨sv, h1, h2⟩, h3, h4⟩, h5, h6, h7, h8, h9⟩ := h
  refine ⟨⟨⟨sv, hk _ _ _ (.inl rfl) h1, row_keep h2 fun k e => ?_⟩, fun l hl => ?_, h4⟩, h5, h6, h7, h8, h9⟩
  · obtain ⟨_, cur, hc⟩ := row_type h2 e
    rw [hc]; exact hk _ _ _ (.inr (.inl rfl)) hc
  · have := h3 l hl
    cases ho : l.2.on with
    | none => rw [ho] at this; exact this
    | some c =>
      rw [ho] at this
      obtain ⟨A, on, a1, a2, a3, a4⟩ := this
      exact ⟨A, on, a1, a2, ⟨hk _ _ _ (.inr (.inr rfl)) a3.1, a3.2⟩, a4⟩

/-- The rule's pattern has been read, and its plan stands by it. -/
def HasPlan (w : World) (r : RRl) : Prop := ∃ P B ls first re, r.n = .pointer (some ⟨P, 0, none⟩) ∧ PAlt r.p.data.toList (some (re, [])) ∧ Ref.PlanIs w B P ls first re ∧ B ≤ w.heap.size

theorem HasPlan.keep {w w' : World} {r : RRl} (h : HasPlan w r) (hs : w.heap.size ≤ w'.heap.size) (hk : ∀ (k : Nat) c t, (t = 105 ∨ t = 102 ∨ t = 4) → w.heap[k]? = some (.cells c t (0, 0)) → w'.heap[k]? = some (.cells c t (0, 0))) : HasPlan w' r := by
  obtain ⟨P, B, ls, first, re, h1, h2, h3, h4⟩ := h
  exact ⟨P, B, ls, first, re, h1, h2, PlanIs.keep h3 hk, Nat.le_trans h4 hs⟩

theorem HasPlan.below {w w' : World} {r : RRl} (h : HasPlan w r) (hb : Below w.heap.size w w') : HasPlan w' r :=
  h.keep hb.size fun k _ _ _ hh => (hb.block k (lt_of_get hh)).trans hh
end Go.Proofs.Ytgncgdkpkkdaeaa
