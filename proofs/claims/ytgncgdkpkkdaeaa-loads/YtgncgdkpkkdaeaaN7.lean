/- tintref: counted. -/
import Derived.Test.YtgncgdkpkkdaeaaN5
namespace Tint

theorem Fst.snoc {p : Lns → Ln → Prop} {pre l : Lns} (h : Fst p pre l none) {a : Nat} {x : Ln} (hx : ¬ p (pre ++ l) x) : Fst p pre (l ++ [(a, x)]) none := by
  generalize ho : (none : Option Nat) = o at h
  induction h with
  | nil => exact .skip (by simpa using hx) .nil
  | hit _ => cases ho
  | skip hn _ ih => exact .skip hn (ih (by simpa using hx) ho)

theorem Fst.hit_at {p : Lns → Ln → Prop} {pre l : Lns} (h : Fst p pre l none) {a : Nat} {x : Ln} (r : Lns) (hx : p (pre ++ l) x) : Fst p pre (l ++ (a, x) :: r) (some a) := by
  generalize ho : (none : Option Nat) = o at h
  induction h with
  | nil => exact .hit (by simpa using hx)
  | hit _ => cases ho
  | skip hn _ ih => exact .skip hn (ih (by simpa using hx) ho)

end Tint
namespace Go.Proofs.Ytgncgdkpkkdaeaa
open Go.RowKit Tint

theorem flat_mem {l : List RSt} {a : Nat} {n : List UInt8} : (a, Ln.state n) ∈ flat l ↔ ∃ t ∈ l, t.at_ = a ∧ t.name.data.toList = n := by
  simp only [flat, List.mem_flatMap, RSt.lns, List.mem_cons, List.mem_map]
  constructor
  · rintro ⟨t, ht, h | ⟨r, _, h⟩⟩
    · simp only [Prod.mk.injEq, Ln.state.injEq] at h
      exact ⟨t, ht, h.1.symm, h.2.symm⟩
    · simp [RRl.ln] at h
  · rintro ⟨t, ht, rfl, rfl⟩
    exact ⟨t, ht, .inl rfl⟩

theorem fst_rules {p : Lns → Ln → Prop} (hp : ∀ pre r, ¬ p pre (RRl.ln r).2) {pre l : Lns} (h : Fst p pre l none) (rs : List RRl) : Fst p pre (l ++ rs.map RRl.ln) none := by
  induction rs generalizing l with
  | nil => simpa using h
  | cons r rs ih =>
    have h1 : Fst p pre (l ++ [r.ln]) none := h.snoc (a := r.at_) (hp _ r)
    have := ih h1
    simpa using this

theorem twice_rule (pre : Lns) (r : RRl) : ¬ pTwice pre r.ln.2 := by rintro ⟨n, h, _⟩; cases h

/-- So many states, so many rules. -/
def nRules (l : List RSt) : Nat := (l.map (·.rs.length)).sum

theorem count_states (l : List RSt) : ((flat l).filter (·.2.isState)).length = l.length := by
  induction l with
  | nil => rfl
  | cons s l ih =>
    have h : flat (s :: l) = s.lns ++ flat l := rfl
    rw [h, List.filter_append, List.length_append, ih]
    have : (s.lns.filter (·.2.isState)).length = 1 := by
      simp [RSt.lns, Ln.isState, List.filter_map, RRl.ln, Function.comp_def]
    simp [this]; omega

theorem filter_rules (rs : List RRl) : (rs.map RRl.ln).filter (·.2.isRule) = rs.map RRl.ln := by
  rw [List.filter_eq_self]
  intro x hx
  obtain ⟨r, _, rfl⟩ := List.mem_map.1 hx
  rfl

theorem filter_nostates (rs : List RRl) : (rs.map RRl.ln).filter (·.2.isState) = [] := by
  rw [List.filter_eq_nil_iff]
  intro x hx
  obtain ⟨r, _, rfl⟩ := List.mem_map.1 hx
  simp [RRl.ln, Ln.isState]

theorem count_rules (l : List RSt) : ((flat l).filter (·.2.isRule)).length = nRules l := by
  induction l with
  | nil => rfl
  | cons s l ih =>
    have h : flat (s :: l) = (s.at_, .state s.name.data.toList) :: (s.rs.map RRl.ln ++ flat l) := rfl
    rw [h, List.filter_cons_of_neg (by simp [Ln.isRule]), List.filter_append, List.length_append, ih, filter_rules]
    simp [nRules]

theorem flat_split {ss : List RSt} {i : Nat} {s : RSt} (h : ss[i]? = some s) : flat ss = flat (ss.take i) ++ (s.at_, .state s.name.data.toList) :: (s.rs.map RRl.ln ++ flat (ss.drop (i + 1))) := by
  have hl := get_lt h
  rw [List.getElem?_eq_getElem hl] at h
  conv => lhs; rw [← List.take_append_drop i ss, List.drop_eq_getElem_cons hl, Option.some.inj h]
  simp [flat, RSt.lns]

theorem flat_take {ss : List RSt} {i : Nat} {s : RSt} (h : ss[i]? = some s) : flat (ss.take (i + 1)) = (flat (ss.take i) ++ [(s.at_, .state s.name.data.toList)]) ++ s.rs.map RRl.ln := by
  have hl := get_lt h
  rw [List.getElem?_eq_getElem hl] at h
  rw [List.take_succ_eq_append_getElem hl, Option.some.inj h, flat_snoc]
  simp [RSt.lns]

theorem nRules_take {ss : List RSt} {i : Nat} {s : RSt} (h : ss[i]? = some s) : nRules (ss.take (i + 1)) = nRules (ss.take i) + s.rs.length := by
  have hl := get_lt h
  rw [List.getElem?_eq_getElem hl] at h
  rw [List.take_succ_eq_append_getElem hl, Option.some.inj h]
  simp [nRules]

def CountPost (ss : List RSt) (size : Nat) (w : World) (e : Ending) (w' : World) : Prop :=
  Below w.heap.size w w' ∧ ((∃ a : Nat, e = .returned (.tuple #[.int .i64 3, .int .i64 a]) ∧ Fst pTwice [] (flat ss) (some a)) ∨
    (Fst pTwice [] (flat ss) none ∧ ((∃ a : Nat, e = .returned (.tuple #[.int .i64 4, .int .i64 a]) ∧ Fst pMany [] (flat ss) (some a)) ∨
      (Fst pMany [] (flat ss) none ∧ ((ss = [] ∧ e = .returned (.tuple #[.int .i64 4, .int .i64 size])) ∨ (ss ≠ [] ∧ e = .returned (.tuple #[.int .i64 0, .int .i64 0])))))))

def TwiceLoop (ss : List RSt) (w : World) (k : Nat) (i : Value) (wr : World) : Prop :=
  ∃ j : Nat, i = .int .i64 j ∧ j + k = ss.length ∧ wr = w ∧ Fst pTwice [] (flat (ss.take j)) none

def ManyLoop (ss : List RSt) (w : World) (k : Nat) (n i : Value) (wr : World) : Prop :=
  ∃ j : Nat, n = .int .i64 (nRules (ss.take j) : Nat) ∧ i = .int .i64 j ∧ j + k = ss.length ∧ wr = w ∧ Fst pMany [] (flat (ss.take j)) none ∧ j ≤ 12 ∧ nRules (ss.take j) ≤ 40

def ManyIn (ss : List RSt) (j : Nat) (s : RSt) (w : World) (m : Nat) (n i : Value) (wr : World) : Prop :=
  ∃ k : Nat, n = .int .i64 (nRules (ss.take j) + k : Nat) ∧ i = .int .i64 k ∧ k + m = s.rs.length ∧ wr = w ∧ Fst pMany [] ((flat (ss.take j) ++ [(s.at_, .state s.name.data.toList)]) ++ (s.rs.take k).map RRl.ln) none ∧ nRules (ss.take j) + k ≤ 40

theorem pMany_state (l : List RSt) (n : List UInt8) (hr : nRules l ≤ 40) : pMany (flat l) (.state n) ↔ 12 ≤ l.length := by
  unfold pMany
  rw [count_states, count_rules]
  simp [Ln.nb, Ln.isState, Ln.isRule]
  omega

theorem pMany_rule (l : List RSt) (a : Nat) (n : List UInt8) (rs : List RRl) (r : RRl) (hl : l.length < 12) : pMany ((flat l ++ [(a, .state n)]) ++ rs.map RRl.ln) r.ln.2 ↔ 40 ≤ nRules l + rs.length := by
  unfold pMany
  simp only [List.filter_append, List.length_append, count_states, count_rules, filter_rules, filter_nostates]
  simp [Ln.nb, Ln.isState, Ln.isRule, RRl.ln]
  omega

theorem Grm.rules {w : World} {B P : Nat} {sv : Value} {ss : List RSt} (h : Grm w B P sv ss) {s : RSt} (hs : s ∈ ss) : ∃ ao cap, s.rv = .slice ao s.rs.length cap ∧ (0 < s.rs.length → ∃ g, ao = some ⟨g, 0, none⟩) := by
  rcases (h.inner hs).2 with ⟨h1, h0⟩ | ⟨g, cap, cur, h1, _⟩
  · exact ⟨none, 0, by rw [h1, h0], fun h => by omega⟩
  · exact ⟨some ⟨g, 0, none⟩, cap, h1, fun _ => ⟨g, rfl⟩⟩

theorem ruleCells_get {rs : List RRl} {k : Nat} {r : RRl} (h : rs[k]? = some r) (j : Nat) (hj : j < 6) : (rs.map RRl.cells).flatten[k * 6 + j]? = r.cells[j]? := by
  induction rs generalizing k with
  | nil => simp at h
  | cons a l ih =>
    cases k with
    | zero =>
      simp only [List.getElem?_cons_zero, Option.some.injEq] at h
      subst h
      simp only [List.map_cons, List.flatten_cons]
      rw [List.getElem?_append_left (by simp [RRl.cells]; omega)]
      simp
    | succ k =>
      simp only [List.getElem?_cons_succ] at h
      have := ih h
      simp only [List.map_cons, List.flatten_cons]
      rw [List.getElem?_append_right (by simp [RRl.cells]; omega), ← this]
      congr 1
      simp [RRl.cells]; omega

/-- A rule's cells. -/
theorem Grm.rule {w : World} {B P : Nat} {sv : Value} {ss : List RSt} (h : Grm w B P sv ss) {s : RSt} (hs : s ∈ ss) {g n cap : Nat} (hv : s.rv = .slice (some ⟨g, 0, none⟩) n cap) {k : Nat} {r : RRl} (hr : s.rs[k]? = some r) (j : Nat) (hj : j < 6) {u : Value} (hu : r.cells[j]? = some u) :
    w.cell? ⟨g, k * 6 + j, none⟩ = some u ∧ w.frozen? ⟨g, k * 6 + j, none⟩ = false := by
  have hi := h.inner hs
  rw [hv] at hi
  have hn : n = s.rs.length := by
    rcases hi.2 with ⟨h0, _⟩ | ⟨g', cap', cur, e1, _⟩
    · cases h0
    · cases e1; rfl
  subst hn
  exact row_cell hi (by rw [ruleCells_get hr j hj]; exact hu)

end Go.Proofs.Ytgncgdkpkkdaeaa
