/- tintref: what stands while the rules are gone through, error by error. -/
import Derived.Test.YtgncgdkpkkdaeaaN10
namespace Go.Proofs.Ytgncgdkpkkdaeaa
open Go.RowKit Tint

def tst (fs : Lns) : Nat → Lns → Ln → Prop
  | 0 => pUnknown fs
  | 1 => pLong
  | 2 => pPat
  | _ => pEmpty

def ecode : Nat → Nat
  | 0 => 5
  | 1 => 1
  | 2 => 6
  | _ => 7

theorem tst_pre (fs : Lns) (k : Nat) (pre : Lns) (x : Ln) : tst fs k pre x ↔ tst fs k [] x := by
  match k with
  | 0 => exact Iff.rfl
  | 1 => exact Iff.rfl
  | 2 => exact Iff.rfl
  | _ + 3 => exact Iff.rfl

theorem tst_state (fs : Lns) (k : Nat) (pre : Lns) (n : List UInt8) : ¬ tst fs k pre (.state n) := by
  match k with
  | 0 => rintro ⟨_, _, _, h, _⟩; cases h
  | 1 => rintro ⟨_, _, _, _, h, _⟩; cases h
  | 2 => rintro ⟨_, _, _, _, h, _⟩; cases h
  | _ + 3 => rintro ⟨_, _, _, _, _, h, _⟩; cases h

/-- The same but for the plans. -/
def Shape (ss0 ss : List RSt) : Prop := ss.map (fun s => (s.rv, s.lns)) = ss0.map (fun s => (s.rv, s.lns))

theorem Shape.refl (ss : List RSt) : Shape ss ss := rfl

theorem Shape.length {ss0 ss : List RSt} (h : Shape ss0 ss) : ss.length = ss0.length := by
  have := congrArg List.length h
  simpa using this

theorem Shape.flat {ss0 ss : List RSt} (h : Shape ss0 ss) : flat ss = flat ss0 := by
  have := congrArg (fun l => (l.map Prod.snd).flatten) h
  simpa [Go.Proofs.Ytgncgdkpkkdaeaa.flat, List.flatMap_def, Function.comp_def] using this

theorem Shape.get {ss0 ss : List RSt} (h : Shape ss0 ss) {i : Nat} {s0 : RSt} (hi : ss0[i]? = some s0) : ∃ s, ss[i]? = some s ∧ s.rv = s0.rv ∧ s.lns = s0.lns := by
  have := congrArg (fun l => l[i]?) h
  simp only [List.getElem?_map, hi, Option.map_some] at this
  cases hs : ss[i]? with
  | none => rw [hs] at this; cases this
  | some s =>
    rw [hs] at this
    simp only [Option.map_some, Option.some.injEq, Prod.mk.injEq] at this
    exact ⟨s, rfl, this.1, this.2⟩

theorem lns_rules {s s0 : RSt} (h : s.lns = s0.lns) : s.rs.map RRl.ln = s0.rs.map RRl.ln := by
  simp only [RSt.lns, List.cons.injEq] at h
  exact h.2

theorem lns_rule {s s0 : RSt} (h : s.lns = s0.lns) {j : Nat} {r0 : RRl} (hj : s0.rs[j]? = some r0) : ∃ r, s.rs[j]? = some r ∧ r.ln = r0.ln := by
  have := congrArg (fun l => l[j]?) (lns_rules h)
  simp only [List.getElem?_map, hj, Option.map_some] at this
  cases hs : s.rs[j]? with
  | none => rw [hs] at this; cases this
  | some r =>
    rw [hs] at this
    exact ⟨r, rfl, Option.some.inj this⟩

theorem lns_length {s s0 : RSt} (h : s.lns = s0.lns) : s.rs.length = s0.rs.length := by
  have := congrArg List.length (lns_rules h)
  simpa using this

theorem Shape.setN {ss0 ss : List RSt} (h : Shape ss0 ss) {i j : Nat} {s : RSt} {r : RRl} {v : Value} (hi : ss[i]? = some s) (hj : s.rs[j]? = some r) : Shape ss0 (setN ss i j s r v) := by
  have e : ({ s with rs := s.rs.set j { r with n := v } } : RSt).lns = s.lns := by
    unfold RSt.lns
    simp only [List.map_set]
    rw [show RRl.ln { r with n := v } = r.ln from rfl, set_self (by rw [List.getElem?_map, hj]; rfl)]
  unfold Shape Go.Proofs.Ytgncgdkpkkdaeaa.setN
  rw [List.map_set, e, set_self (by rw [List.getElem?_map, hi]; rfl)]
  exact h

/-- The list of the errors, in memory. -/
def EsAt (w : World) (E : Nat) : Prop := w.heap[E]? = some (.cells #[.int .i64 5, .int .i64 1, .int .i64 6, .int .i64 7] 3 (0, 0))

theorem EsAt.below {w w' : World} {E : Nat} (h : EsAt w E) (hb : Below w.heap.size w w') : EsAt w' E := (hb.block E (lt_of_get h)).trans h

structure LInv (E B P : Nat) (sv : Value) (ss0 : List RSt) (w0 : World) (k i j : Nat) (ss : List RSt) (w : World) : Prop where
  es : EsAt w E
  grm : Grm w B P sv ss
  shape : Shape ss0 ss
  below : Below B w0 w
  short : 2 ≤ k → ∀ s ∈ ss, ∀ r ∈ s.rs, r.p.size ≤ 60
  plans : ∀ (i' j' : Nat) s r, ss[i']? = some s → s.rs[j']? = some r → (3 ≤ k ∨ (k = 2 ∧ (i' < i ∨ (i' = i ∧ j' < j)))) → HasPlan w r

theorem LInv.keep {E B P : Nat} {sv : Value} {ss0 : List RSt} {w0 : World} {k i j : Nat} {ss : List RSt} {w w' : World} (h : LInv E B P sv ss0 w0 k i j ss w) (hk : k ≠ 2) (hB : B ≤ w.heap.size) (hb : Below w.heap.size w w') (i2 j2 : Nat) : LInv E B P sv ss0 w0 k i2 j2 ss w' :=
  ⟨h.es.below hb, h.grm.below hb, h.shape, h.below.trans (hb.mono hB), h.short, fun i' j' s r h1 h2 h3 => (h.plans i' j' s r h1 h2 (by rcases h3 with h3 | h3; exact .inl h3; exact absurd h3.1 hk)).below hb⟩

def WrongPost (E B P : Nat) (sv : Value) (ss0 : List RSt) (w0 : World) (k i j : Nat) (r0 : RRl) (e : Ending) (w' : World) : Prop :=
  ∃ b ss', e = .returned (.bool b) ∧ (b = true ↔ tst (flat ss0) k [] r0.ln.2) ∧ EsAt w' E ∧ Grm w' B P sv ss' ∧ Shape ss0 ss' ∧ Below B w0 w' ∧ (b = false → LInv E B P sv ss0 w0 k i (j + 1) ss' w')

theorem wrong_any (E B P : Nat) (sv : Value) (ss0 : List RSt) (w0 : World) (k i j : Nat) (ss : List RSt) (w : World) (h : LInv E B P sv ss0 w0 k i j ss w) (hk : k ≤ 3) (hB : B ≤ w.heap.size) (hz : ss0.length ≤ 1000000) {s0 : RSt} {r0 : RRl} {g n cap : Nat} (hi : ss0[i]? = some s0) (hj : s0.rs[j]? = some r0) (hv : s0.rv = .slice (some ⟨g, 0, none⟩) n cap) :
    Calls Try.prog 11 #[.pointer (some ⟨P, 0, none⟩), .pointer (some ⟨g, j * 6, none⟩), .int .i64 (ecode k : Nat)] w (WrongPost E B P sv ss0 w0 k i j r0) := by
  obtain ⟨s, hs, hrv, hln⟩ := h.shape.get hi
  obtain ⟨r, hr, hrl⟩ := lns_rule hln hj
  rw [← hrv] at hv
  have hl := h.shape.length
  have hfl := h.shape.flat
  match k, hk with
  | 0, _ =>
    refine (wrong5 B P sv ss w h.grm (by omega) hs hv hr).mono ?_
    rintro e w' ⟨hb, b, rfl, hbb⟩
    refine ⟨b, ss, rfl, ?_, h.es.below hb, h.grm.below hb, h.shape, h.below.trans (hb.mono hB), fun _ => h.keep (by omega) hB hb _ _⟩
    rw [hbb, hrl, hfl]; exact Iff.rfl
  | 1, _ =>
    refine (wrong1 B P sv ss w h.grm hs hv hr).mono ?_
    rintro e w' ⟨hb, b, rfl, hbb⟩
    refine ⟨b, ss, rfl, ?_, h.es.below hb, h.grm.below hb, h.shape, h.below.trans (hb.mono hB), fun _ => h.keep (by omega) hB hb _ _⟩
    rw [hbb, hrl]; exact Iff.rfl
  | 2, _ =>
    refine (wrong6 B P sv ss w h.grm hB hs hv hr (h.short (by omega) s (List.mem_of_getElem? hs) r (List.mem_of_getElem? hr))).mono ?_
    rintro e w' ⟨b, q, w1, rfl, hb1, rfl, hG, hBw, hbb, hpl⟩
    have hst : ∀ (m : Nat) c t, (t = 105 ∨ t = 102 ∨ t = 4) → w.heap[m]? = some (.cells c t (0, 0)) → (w1.setCell ⟨g, j * 6 + 4, none⟩ (.pointer q)).heap[m]? = some (.cells c t (0, 0)) := fun m c t ht hh => by
      rw [Below.heap_setCell _ _ _ _ (fun e => by
        have e : m = g := e
        obtain ⟨_, cur, hc⟩ := row_type (k := g) (h.grm.inner (List.mem_of_getElem? hs)) (by rw [hv]; rfl)
        rw [e, hc] at hh
        simp only [Option.some.injEq, Obj.cells.injEq] at hh
        rcases ht with rfl | rfl | rfl
        · exact absurd hh.2.1 (by decide)
        · exact absurd hh.2.1 (by decide)
        · exact absurd hh.2.1 (by decide))]
      exact (hb1.block m (lt_of_get hh)).trans hh
    have hes : EsAt (w1.setCell ⟨g, j * 6 + 4, none⟩ (.pointer q)) E := by
      unfold EsAt
      rw [Below.heap_setCell _ _ _ _ (fun e => by
        have e : E = g := e
        obtain ⟨_, cur, hc⟩ := row_type (k := g) (h.grm.inner (List.mem_of_getElem? hs)) (by rw [hv]; rfl)
        have hh := h.es
        unfold EsAt at hh
        rw [e, hc] at hh
        simp only [Option.some.injEq, Obj.cells.injEq] at hh
        exact absurd hh.2.1 (by decide))]
      exact h.es.below hb1
    have hmem : ∀ s' ∈ setN ss i j s r (.pointer q), ∀ r' ∈ s'.rs, (∃ s1 ∈ ss, r' ∈ s1.rs) ∨ r' = { r with n := .pointer q } := fun s' hs' r' hr' => by
      obtain ⟨m, hm⟩ := List.getElem?_of_mem hs'
      by_cases hmi : m = i
      · subst hmi
        rw [setN, List.getElem?_set_self (by simpa using get_lt hs)] at hm
        cases hm
        rcases List.mem_or_eq_of_mem_set hr' with hh | hh
        · exact .inl ⟨s, List.mem_of_getElem? hs, hh⟩
        · exact .inr hh
      · rw [setN, List.getElem?_set_ne (Ne.symm hmi)] at hm
        exact .inl ⟨s', List.mem_of_getElem? hm, hr'⟩
    refine ⟨b, setN ss i j s r (.pointer q), rfl, ?_, hes, hG, h.shape.setN hs hr, h.below.trans hBw, fun hbf => ⟨hes, hG, h.shape.setN hs hr, h.below.trans hBw, fun _ s' hs' r' hr' => ?_, fun i' j' s' r' h1 h2 h3 => ?_⟩⟩
    · rw [hbb, hrl]; exact Iff.rfl
    · rcases hmem s' hs' r' hr' with ⟨s1, hs1, hr1⟩ | rfl
      · exact h.short (by omega) s1 hs1 r' hr1
      · exact h.short (by omega) s (List.mem_of_getElem? hs) r (List.mem_of_getElem? hr)
    · have hsz : w.heap.size ≤ (w1.setCell ⟨g, j * 6 + 4, none⟩ (.pointer q)).heap.size := by have := hb1.size; simpa [World.setCell] using this
      by_cases hii : i' = i
      · subst hii
        rw [setN, List.getElem?_set_self (by simpa using get_lt hs)] at h1
        cases h1
        by_cases hjj : j' = j
        · subst hjj
          rw [List.getElem?_set_self (by simpa using get_lt hr)] at h2
          cases h2
          exact hpl hbf
        · rw [List.getElem?_set_ne (Ne.symm hjj)] at h2
          exact (h.plans i' j' s r' hs h2 (by rcases h3 with h3 | ⟨_, h3 | h3⟩; omega; omega; exact .inr ⟨rfl, .inr ⟨rfl, by omega⟩⟩)).keep hsz hst
      · rw [setN, List.getElem?_set_ne (Ne.symm hii)] at h1
        exact (h.plans i' j' s' r' h1 h2 (by rcases h3 with h3 | ⟨_, h3 | h3⟩; omega; exact .inr ⟨rfl, .inl h3⟩; omega)).keep hsz hst
  | 3, _ =>
    refine (wrong7 B P sv ss w h.grm hs hv hr (h.plans i j s r hs hr (.inl (Nat.le_refl _)))).mono ?_
    rintro e w' ⟨hb, b, rfl, hbb⟩
    refine ⟨b, ss, rfl, ?_, h.es.below hb, h.grm.below hb, h.shape, h.below.trans (hb.mono hB), fun _ => h.keep (by omega) hB hb _ _⟩
    rw [hbb, hrl]; exact Iff.rfl

theorem fst_none_mem {p : Lns → Ln → Prop} (hp : ∀ pre x, p pre x ↔ p [] x) {pre l : Lns} (h : Fst p pre l none) : ∀ y ∈ l, ¬ p [] y.2 := by
  generalize ho : (none : Option Nat) = o at h
  induction h with
  | nil => intro y hy; simp at hy
  | hit _ => cases ho
  | skip hn _ ih =>
    intro y hy
    rcases List.mem_cons.1 hy with rfl | hy
    · exact fun h => hn ((hp _ _).2 h)
    · exact ih ho y hy

theorem LInv.nextI {E B P : Nat} {sv : Value} {ss0 : List RSt} {w0 : World} {k i j : Nat} {ss : List RSt} {w : World} (h : LInv E B P sv ss0 w0 k i j ss w) {s0 : RSt} (hi : ss0[i]? = some s0) (hj : j = s0.rs.length) : LInv E B P sv ss0 w0 k (i + 1) 0 ss w := by
  refine { h with plans := fun i' j' s r h1 h2 h3 => h.plans i' j' s r h1 h2 ?_ }
  rcases h3 with h3 | ⟨h3, h4⟩
  · exact .inl h3
  · refine .inr ⟨h3, ?_⟩
    rcases Nat.lt_or_ge i' i with h5 | h5
    · exact .inl h5
    · have : i' = i := by omega
      subst this
      obtain ⟨s', hs', _, hl⟩ := h.shape.get hi
      rw [h1] at hs'
      cases hs'
      have := lns_length hl
      have := get_lt h2
      exact .inr ⟨rfl, by omega⟩

theorem LInv.nextK {E B P : Nat} {sv : Value} {ss0 : List RSt} {w0 : World} {k i j : Nat} {ss : List RSt} {w : World} (h : LInv E B P sv ss0 w0 k i j ss w) (hi : i = ss0.length) (hf : Fst (tst (flat ss0) k) [] (flat ss0) none) : LInv E B P sv ss0 w0 (k + 1) 0 0 ss w := by
  refine { h with short := fun hk s hs r hr => ?_, plans := fun i' j' s r h1 h2 h3 => h.plans i' j' s r h1 h2 ?_ }
  · rcases Nat.lt_or_ge k 2 with h2 | h2
    · have : k = 1 := by omega
      subst this
      have hm : r.ln ∈ flat ss0 := by
        rw [← h.shape.flat]
        exact List.mem_flatMap.2 ⟨s, hs, List.mem_cons_of_mem _ (List.mem_map_of_mem hr)⟩
      have := fst_none_mem (tst_pre _ 1) hf _ hm
      rcases Nat.lt_or_ge 60 r.p.size with h3 | h3
      · exact absurd ⟨_, _, _, _, rfl, h3⟩ this
      · exact h3
    · exact h.short h2 s hs r hr
  · rcases h3 with h3 | ⟨h3, h4⟩
    · rcases Nat.lt_or_ge k 3 with h5 | h5
      · have := get_lt h1
        have := h.shape.length
        exact .inr ⟨by omega, .inl (by omega)⟩
      · exact .inl h5
    · rcases h4 with h4 | ⟨_, h4⟩
      · omega
      · omega
end Go.Proofs.Ytgncgdkpkkdaeaa
