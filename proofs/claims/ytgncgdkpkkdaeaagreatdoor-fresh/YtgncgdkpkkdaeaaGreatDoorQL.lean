/- Put together from N10, N11. -/
import Derived.Test.YtgncgdkpkkdaeaaGreatDoorQTC
import Derived.Test.YtgncgdkpkkdaeaaGreatDoorQTE
/- tintref: wrong. -/
namespace Go.Proofs.YtgncgdkpkkdaeaaGreatDoor
open Go.RowKit Tint

theorem Grm.fst {w : World} {B P : Nat} {sv : Value} {ss : List RSt} (h : Grm w B P sv ss) {i : Nat} {s : RSt} (hi : ss[i]? = some s) {g n cap : Nat} (hv : s.rv = .slice (some ⟨g, 0, none⟩) n cap) {j : Nat} {r : RRl} (hr : s.rs[j]? = some r) :
    w.cell? ⟨g, j * 6, none⟩ = some (.string r.a) ∧ w.cell? ⟨g, j * 6 + 1, none⟩ = some (.string r.b) ∧ w.cell? ⟨g, j * 6 + 3, none⟩ = some (.string r.p) ∧ w.cell? ⟨g, j * 6 + 4, none⟩ = some r.n ∧ w.cell? ⟨g, j * 6 + 5, none⟩ = some (.int .i64 r.at_) ∧ w.frozen? ⟨g, j * 6 + 4, none⟩ = false := by
  have hs := List.mem_of_getElem? hi
  exact ⟨(h.rule hs hv hr 0 (by omega) rfl).1, (h.rule hs hv hr 1 (by omega) rfl).1, (h.rule hs hv hr 3 (by omega) rfl).1, (h.rule hs hv hr 4 (by omega) rfl).1, (h.rule hs hv hr 5 (by omega) rfl).1, (h.rule hs hv hr 4 (by omega) (u := r.n) rfl).2⟩

theorem unknown_iff {w : World} {B P : Nat} {sv : Value} {ss : List RSt} (h : Grm w B P sv ss) {s : RSt} (hs : s ∈ ss) {r : RRl} (hr : r ∈ s.rs) (pre : Lns) : pUnknown (flat ss) pre r.ln.2 ↔ r.a.data.toList = wPush ∧ ∀ t ∈ ss, t.name.data.toList ≠ r.b.data.toList := by
  obtain ⟨h1, h2⟩ := h.words s hs r hr
  have hd : r.d = 1 ↔ r.a.data.toList = wPush := by
    rw [h2]
    match hh : r.d with
    | 0 => simp [ruleWord]; decide
    | 1 => simp [ruleWord]
    | 2 => simp [ruleWord]; decide
    | n + 3 => omega
  unfold pUnknown
  constructor
  · rintro ⟨o, c, p, e, hn⟩
    simp only [RRl.ln, Ln.rule.injEq] at e
    obtain ⟨e1, rfl, _, _⟩ := e
    exact ⟨hd.1 e1, fun t ht hh => hn t.at_ (flat_mem.2 ⟨t, ht, rfl, hh⟩)⟩
  · rintro ⟨e1, hn⟩
    refine ⟨_, _, _, by simp only [RRl.ln]; rw [hd.2 e1], fun a ha => ?_⟩
    obtain ⟨t, ht, _, hh⟩ := flat_mem.1 ha
    exact hn t ht hh

set_option maxRecDepth 20000 in
set_option maxHeartbeats 1000000 in
theorem wrong5 (B P : Nat) (sv : Value) (ss : List RSt) (w : World) (h : Grm w B P sv ss) (hz : ss.length ≤ 1000000) {i j g n cap : Nat} {s : RSt} {r : RRl} (hi : ss[i]? = some s) (hv : s.rv = .slice (some ⟨g, 0, none⟩) n cap) (hr : s.rs[j]? = some r) :
    Calls Tryz.prog 62 #[.pointer (some ⟨P, 0, none⟩), .pointer (some ⟨g, j * 6, none⟩), .int .i64 5] w fun e w' => Below w.heap.size w w' ∧ ∃ b, e = .returned (.bool b) ∧ (b = true ↔ pUnknown (flat ss) [] r.ln.2) := by
  obtain ⟨c0, c1, c3, c4, c5, f4⟩ := h.fst hi hv hr
  have HU := hide (unknown_iff h (List.mem_of_getElem? hi) (List.mem_of_getElem? hr) [])
  have HIX := hide (index_any B P sv ss r.b w h (by omega))
  clear h hi hv hr
  by_cases hp : r.a.data.toList = wPush
  · have q1 : (r.a.toList == [112, 117, 115, 104]) = true := by rw [ByteArray.toList_eq, hp]; rfl
    go_enter Tryz.func62, Tryz.ntmps62
    go_wp2_with fail
    refine HIX.out.mono ?_
    rintro e w1 ⟨rfl, ⟨i0, s0, rfl, hs0, hn0, -⟩ | ⟨rfl, hno⟩⟩
    · have q2 : decide ((i0 : Int) < 0) = false := decide_eq_false (by omega)
      have HEND := hide (show ¬ pUnknown (flat ss) [] r.ln.2 from fun hu => ((HU.out.1 hu).2 s0 (List.mem_of_getElem? hs0)) hn0)
      clear HU HIX hs0 hn0 hp
      go_wp2_with fail
      go_ret
      exact ⟨Below.refl _ _, false, rfl, ⟨fun hx => (by cases hx), fun hx => absurd hx HEND.out⟩⟩
    · have HEND := hide (HU.out.2 ⟨hp, hno⟩)
      clear HU HIX hno hp
      go_wp2_with fail
      go_ret
      exact ⟨Below.refl _ _, true, rfl, ⟨fun _ => HEND.out, fun _ => rfl⟩⟩
  · have q1 := str_ne hp
    unfold wPush at q1
    have HEND := hide (fun n' => show Below w.heap.size w (w.drewN n') ∧ ∃ b, Ending.returned (.bool false) = .returned (.bool b) ∧ (b = true ↔ pUnknown (flat ss) [] r.ln.2) from ⟨Below.drewN' (Below.refl _ _) n', false, rfl, by rw [HU.out]; simp [hp]⟩)
    clear HU HIX hp
    go_enter Tryz.func62, Tryz.ntmps62
    go_wp2_with fail
    go_ret
    exact HEND.out 0

set_option maxRecDepth 20000 in
set_option maxHeartbeats 1000000 in
theorem wrong1 (B P : Nat) (sv : Value) (ss : List RSt) (w : World) (h : Grm w B P sv ss) {i j g n cap : Nat} {s : RSt} {r : RRl} (hi : ss[i]? = some s) (hv : s.rv = .slice (some ⟨g, 0, none⟩) n cap) (hr : s.rs[j]? = some r) :
    Calls Tryz.prog 62 #[.pointer (some ⟨P, 0, none⟩), .pointer (some ⟨g, j * 6, none⟩), .int .i64 1] w fun e w' => Below w.heap.size w w' ∧ ∃ b, e = .returned (.bool b) ∧ (b = true ↔ pLong [] r.ln.2) := by
  obtain ⟨c0, c1, c3, c4, c5, f4⟩ := h.fst hi hv hr
  have HL := hide (show pLong [] r.ln.2 ↔ 60 < r.p.size from ⟨fun ⟨d, o, c, p, e, hl⟩ => by simp only [RRl.ln, Ln.rule.injEq] at e; obtain ⟨_, _, _, rfl⟩ := e; exact hl, fun hl => ⟨_, _, _, _, rfl, hl⟩⟩)
  clear h hi hv hr
  go_enter Tryz.func62, Tryz.ntmps62
  go_wp2_with fail
  go_ret
  refine ⟨Below.refl _ _, _, rfl, ?_⟩
  rw [HL.out]
  simp only [decide_eq_true_eq]
  omega

set_option maxRecDepth 20000 in
set_option maxHeartbeats 1000000 in
theorem wrong6 (B P : Nat) (sv : Value) (ss : List RSt) (w : World) (h : Grm w B P sv ss) (hB : B ≤ w.heap.size) {i j g n cap : Nat} {s : RSt} {r : RRl} (hi : ss[i]? = some s) (hv : s.rv = .slice (some ⟨g, 0, none⟩) n cap) (hr : s.rs[j]? = some r) (h60 : r.p.size ≤ 60) :
    Calls Tryz.prog 62 #[.pointer (some ⟨P, 0, none⟩), .pointer (some ⟨g, j * 6, none⟩), .int .i64 6] w fun e w' => ∃ b q w1, e = .returned (.bool b) ∧ Below w.heap.size w w1 ∧ w' = w1.setCell ⟨g, j * 6 + 4, none⟩ (.pointer q) ∧ Grm w' B P sv (setN ss i j s r (.pointer q)) ∧ Below B w w' ∧ (b = true ↔ pPat [] r.ln.2) ∧ (b = false → HasPlan w' { r with n := .pointer q }) := by
  obtain ⟨c0, c1, c3, c4, c5, f4⟩ := h.fst hi hv hr
  have HPA := hide (Ref.pattern_any r.p w h60)
  have HG := hide h
  have HI := hide hi
  have HV := hide hv
  have HR := hide hr
  have HPP := hide (show pPat [] r.ln.2 ↔ ¬ ∃ re, PAlt r.p.data.toList (some (re, [])) from ⟨fun ⟨d, o, c, p, e, hl, hn⟩ => by simp only [RRl.ln, Ln.rule.injEq] at e; obtain ⟨_, _, _, rfl⟩ := e; exact hn, fun hn => ⟨_, _, _, _, rfl, h60, hn⟩⟩)
  clear h hi hv hr
  go_enter Tryz.func62, Tryz.ntmps62
  go_wp2_with fail
  refine HPA.out.mono ?_
  rintro e w1 ⟨hB1, ⟨rfl, hno⟩ | ⟨P1, B1, ls, first, re, rfl, hpa, hBw, hpi⟩⟩
  · have HG1 := hide (HG.out.below hB1)
    obtain ⟨-, -, -, d4, -, df⟩ := HG1.out.fst HI.out HV.out HR.out
    have HEND := hide (show ∃ b q w2, Ending.returned (.bool true) = .returned (.bool b) ∧ Below w.heap.size w w2 ∧ w1.setCell ⟨g, j * 6 + 4, none⟩ (.pointer none) = w2.setCell ⟨g, j * 6 + 4, none⟩ (.pointer q) ∧ Grm (w1.setCell ⟨g, j * 6 + 4, none⟩ (.pointer none)) B P sv (setN ss i j s r (.pointer q)) ∧ Below B w (w1.setCell ⟨g, j * 6 + 4, none⟩ (.pointer none)) ∧ (b = true ↔ pPat [] r.ln.2) ∧ (b = false → HasPlan (w1.setCell ⟨g, j * 6 + 4, none⟩ (.pointer none)) { r with n := .pointer q }) from
      ⟨true, none, w1, rfl, hB1, rfl, (HG1.out.setN HI.out HR.out HV.out _).1, (hB1.mono hB).trans (HG1.out.setN HI.out HR.out HV.out _).2, ⟨fun _ => HPP.out.2 (by
        rintro ⟨re, hre⟩
        rcases hno with h | ⟨r', s', hs', h⟩
        · have := PAlt.det h hre; cases this
        · have := PAlt.det h hre
          simp only [Option.some.injEq, Prod.mk.injEq] at this
          exact hs' this.2), fun _ => rfl⟩, fun h => by cases h⟩)
    clear HPA HG HG1 HI HV HR HPP hno hB1 c0 c1 c3 c4 c5 f4
    go_wp2_with fail
    go_ret
    exact HEND.out
  · have HG1 := hide (HG.out.below hB1)
    obtain ⟨-, -, -, d4, -, df⟩ := HG1.out.fst HI.out HV.out HR.out
    have HEND := hide (show ∃ b q w2, Ending.returned (.bool false) = .returned (.bool b) ∧ Below w.heap.size w w2 ∧ w1.setCell ⟨g, j * 6 + 4, none⟩ (.pointer (some ⟨P1, 0, none⟩)) = w2.setCell ⟨g, j * 6 + 4, none⟩ (.pointer q) ∧ Grm (w1.setCell ⟨g, j * 6 + 4, none⟩ (.pointer (some ⟨P1, 0, none⟩))) B P sv (setN ss i j s r (.pointer q)) ∧ Below B w (w1.setCell ⟨g, j * 6 + 4, none⟩ (.pointer (some ⟨P1, 0, none⟩))) ∧ (b = true ↔ pPat [] r.ln.2) ∧ (b = false → HasPlan (w1.setCell ⟨g, j * 6 + 4, none⟩ (.pointer (some ⟨P1, 0, none⟩))) { r with n := .pointer q }) from
      ⟨false, some ⟨P1, 0, none⟩, w1, rfl, hB1, rfl, (HG1.out.setN HI.out HR.out HV.out _).1, (hB1.mono hB).trans (HG1.out.setN HI.out HR.out HV.out _).2, ⟨fun h => (by cases h), fun h => absurd ⟨re, hpa⟩ (HPP.out.1 h)⟩, fun _ => ⟨P1, B1, ls, first, re, rfl, hpa, PlanIs.keep hpi (fun k c t ht hh => by
        rw [Below.heap_setCell _ _ _ _ (fun e => by
          have e : k = g := e
          obtain ⟨_, cur, hc⟩ := row_type (k := g) (HG1.out.inner (List.mem_of_getElem? HI.out)) (by rw [HV.out]; rfl)
          rw [e, hc] at hh
          simp only [Option.some.injEq, Obj.cells.injEq] at hh
          rcases ht with rfl | rfl | rfl
          · exact absurd hh.2.1 (by decide)
          · exact absurd hh.2.1 (by decide)
          · exact absurd hh.2.1 (by decide))]
        exact hh), by have := hpi.plan.lt; have := hpi.plan.hP; simp [World.setCell]; omega⟩⟩)
    clear HPA HG HG1 HI HV HR HPP hpa hpi hB1 c0 c1 c3 c4 c5 f4
    go_wp2_with fail
    go_ret
    exact HEND.out

set_option maxRecDepth 20000 in
set_option maxHeartbeats 1000000 in
theorem wrong7 (B P : Nat) (sv : Value) (ss : List RSt) (w : World) (h : Grm w B P sv ss) {i j g n cap : Nat} {s : RSt} {r : RRl} (hi : ss[i]? = some s) (hv : s.rv = .slice (some ⟨g, 0, none⟩) n cap) (hr : s.rs[j]? = some r) (hp : HasPlan w r) :
    Calls Tryz.prog 62 #[.pointer (some ⟨P, 0, none⟩), .pointer (some ⟨g, j * 6, none⟩), .int .i64 7] w fun e w' => Below w.heap.size w w' ∧ ∃ b, e = .returned (.bool b) ∧ (b = true ↔ pEmpty [] r.ln.2) := by
  obtain ⟨c0, c1, c3, c4, c5, f4⟩ := h.fst hi hv hr
  obtain ⟨P1, B1, ls, first, re, hn, hpa, hpl, hb1⟩ := hp
  rw [hn] at c4
  have HF := hide (Ref.find_any w B1 P1 ls first re hpl hb1 ⟨#[]⟩ 0 (Nat.le_refl _) (by decide))
  have HE := hide (show pEmpty [] r.ln.2 ↔ re.nullable = true from ⟨fun ⟨d, o, c, p, re', e, h1, h2⟩ => by
    simp only [RRl.ln, Ln.rule.injEq] at e
    obtain ⟨_, _, _, rfl⟩ := e
    have := PAlt.det h1 hpa
    simp only [Option.some.injEq, Prod.mk.injEq, and_true] at this
    rw [← this]; exact h2, fun h => ⟨_, _, _, _, re, rfl, hpa, h⟩⟩)
  clear h hi hv hr hpl hpa
  go_enter Tryz.func62, Tryz.ntmps62
  go_wp2_with fail
  refine HF.out.mono ?_
  rintro e w1 ⟨o, ho, rfl, hB1⟩
  have hmt : re.nullable = true ↔ o.isSome = true := by
    cases o with
    | none =>
      have h0 := ho 0 (Nat.le_refl _)
      constructor
      · intro hx; exact absurd ⟨0, Nat.le_refl _, Nat.le_refl _, by simpa [seg] using (mt_nil re).2 hx⟩ h0
      · intro hx; cases hx
    | some p =>
      obtain ⟨a, b⟩ := p
      obtain ⟨_, h2, h3, h4, _, _⟩ := ho
      have hb0 : b = 0 := by simpa using h3
      have ha0 : a = 0 := by omega
      subst hb0
      subst ha0
      exact ⟨fun _ => rfl, fun _ => (mt_nil re).1 (by simpa [seg] using h4)⟩
  have HMT := hide (HE.out.trans hmt)
  clear HF HE hmt ho
  cases o with
  | none =>
    simp only [found]
    go_wp2_with fail
    go_ret
    exact ⟨hB1, false, rfl, by rw [HMT.out]; simp⟩
  | some p =>
    obtain ⟨a, b⟩ := p
    simp only [found]
    go_wp2_with fail
    go_ret
    exact ⟨hB1, true, rfl, by rw [HMT.out]; simp⟩
end Go.Proofs.YtgncgdkpkkdaeaaGreatDoor

/- tintref: what stands while the rules are gone through, error by error. -/
namespace Go.Proofs.YtgncgdkpkkdaeaaGreatDoor
open Go.RowKit Tint

def tst (fs : Lns) : Nat → Lns → Ln → Prop
  | 0 => pUnknown fs
  | 1 => pLong
  | 2 => pPat
  | _ => pEmpty

def ecode : Nat → Nat
  | 0 => 5
  | 1 => 1
  | 2 => 6
  | _ => 7

theorem tst_pre (fs : Lns) (k : Nat) (pre : Lns) (x : Ln) : tst fs k pre x ↔ tst fs k [] x := by
  match k with
  | 0 => exact Iff.rfl
  | 1 => exact Iff.rfl
  | 2 => exact Iff.rfl
  | _ + 3 => exact Iff.rfl

theorem tst_state (fs : Lns) (k : Nat) (pre : Lns) (n : List UInt8) : ¬ tst fs k pre (.state n) := by
  match k with
  | 0 => rintro ⟨_, _, _, h, _⟩; cases h
  | 1 => rintro ⟨_, _, _, _, h, _⟩; cases h
  | 2 => rintro ⟨_, _, _, _, h, _⟩; cases h
  | _ + 3 => rintro ⟨_, _, _, _, _, h, _⟩; cases h

/-- The same but for the plans. -/
def Shape (ss0 ss : List RSt) : Prop := ss.map (fun s => (s.rv, s.lns)) = ss0.map (fun s => (s.rv, s.lns))

theorem Shape.refl (ss : List RSt) : Shape ss ss := rfl

theorem Shape.length {ss0 ss : List RSt} (h : Shape ss0 ss) : ss.length = ss0.length := by
  have := congrArg List.length h
  simpa using this

theorem Shape.flat {ss0 ss : List RSt} (h : Shape ss0 ss) : flat ss = flat ss0 := by
  have := congrArg (fun l => (l.map Prod.snd).flatten) h
  simpa [Go.Proofs.YtgncgdkpkkdaeaaGreatDoor.flat, List.flatMap_def, Function.comp_def] using this

theorem Shape.get {ss0 ss : List RSt} (h : Shape ss0 ss) {i : Nat} {s0 : RSt} (hi : ss0[i]? = some s0) : ∃ s, ss[i]? = some s ∧ s.rv = s0.rv ∧ s.lns = s0.lns := by
  have := congrArg (fun l => l[i]?) h
  simp only [List.getElem?_map, hi, Option.map_some] at this
  cases hs : ss[i]? with
  | none => rw [hs] at this; cases this
  | some s =>
    rw [hs] at this
    simp only [Option.map_some, Option.some.injEq, Prod.mk.injEq] at this
    exact ⟨s, rfl, this.1, this.2⟩

theorem lns_rules {s s0 : RSt} (h : s.lns = s0.lns) : s.rs.map RRl.ln = s0.rs.map RRl.ln := by
  simp only [RSt.lns, List.cons.injEq] at h
  exact h.2

theorem lns_rule {s s0 : RSt} (h : s.lns = s0.lns) {j : Nat} {r0 : RRl} (hj : s0.rs[j]? = some r0) : ∃ r, s.rs[j]? = some r ∧ r.ln = r0.ln := by
  have := congrArg (fun l => l[j]?) (lns_rules h)
  simp only [List.getElem?_map, hj, Option.map_some] at this
  cases hs : s.rs[j]? with
  | none => rw [hs] at this; cases this
  | some r =>
    rw [hs] at this
    exact ⟨r, rfl, Option.some.inj this⟩

theorem lns_length {s s0 : RSt} (h : s.lns = s0.lns) : s.rs.length = s0.rs.length := by
  have := congrArg List.length (lns_rules h)
  simpa using this

theorem Shape.setN {ss0 ss : List RSt} (h : Shape ss0 ss) {i j : Nat} {s : RSt} {r : RRl} {v : Value} (hi : ss[i]? = some s) (hj : s.rs[j]? = some r) : Shape ss0 (setN ss i j s r v) := by
  have e : ({ s with rs := s.rs.set j { r with n := v } } : RSt).lns = s.lns := by
    unfold RSt.lns
    simp only [List.map_set]
    rw [show RRl.ln { r with n := v } = r.ln from rfl, set_self (by rw [List.getElem?_map, hj]; rfl)]
  unfold Shape Go.Proofs.YtgncgdkpkkdaeaaGreatDoor.setN
  rw [List.map_set, e, set_self (by rw [List.getElem?_map, hi]; rfl)]
  exact h

/-- The list of the errors, in memory. -/
def EsAt (w : World) (E : Nat) : Prop := w.heap[E]? = some (.cells #[.int .i64 5, .int .i64 1, .int .i64 6, .int .i64 7] 3 (0, 0))

theorem EsAt.below {w w' : World} {E : Nat} (h : EsAt w E) (hb : Below w.heap.size w w') : EsAt w' E := (hb.block E (lt_of_get h)).trans h

structure LInv (E B P : Nat) (sv : Value) (ss0 : List RSt) (w0 : World) (k i j : Nat) (ss : List RSt) (w : World) : Prop where
  es : EsAt w E
  grm : Grm w B P sv ss
  shape : Shape ss0 ss
  below : Below B w0 w
  short : 2 ≤ k → ∀ s ∈ ss, ∀ r ∈ s.rs, r.p.size ≤ 60
  plans : ∀ (i' j' : Nat) s r, ss[i']? = some s → s.rs[j']? = some r → (3 ≤ k ∨ (k = 2 ∧ (i' < i ∨ (i' = i ∧ j' < j)))) → HasPlan w r

theorem LInv.keep {E B P : Nat} {sv : Value} {ss0 : List RSt} {w0 : World} {k i j : Nat} {ss : List RSt} {w w' : World} (h : LInv E B P sv ss0 w0 k i j ss w) (hk : k ≠ 2) (hB : B ≤ w.heap.size) (hb : Below w.heap.size w w') (i2 j2 : Nat) : LInv E B P sv ss0 w0 k i2 j2 ss w' :=
  ⟨h.es.below hb, h.grm.below hb, h.shape, h.below.trans (hb.mono hB), h.short, fun i' j' s r h1 h2 h3 => (h.plans i' j' s r h1 h2 (by rcases h3 with h3 | h3; exact .inl h3; exact absurd h3.1 hk)).below hb⟩

def WrongPost (E B P : Nat) (sv : Value) (ss0 : List RSt) (w0 : World) (k i j : Nat) (r0 : RRl) (e : Ending) (w' : World) : Prop :=
  ∃ b ss', e = .returned (.bool b) ∧ (b = true ↔ tst (flat ss0) k [] r0.ln.2) ∧ EsAt w' E ∧ Grm w' B P sv ss' ∧ Shape ss0 ss' ∧ Below B w0 w' ∧ (b = false → LInv E B P sv ss0 w0 k i (j + 1) ss' w')

theorem wrong_any (E B P : Nat) (sv : Value) (ss0 : List RSt) (w0 : World) (k i j : Nat) (ss : List RSt) (w : World) (h : LInv E B P sv ss0 w0 k i j ss w) (hk : k ≤ 3) (hB : B ≤ w.heap.size) (hz : ss0.length ≤ 1000000) {s0 : RSt} {r0 : RRl} {g n cap : Nat} (hi : ss0[i]? = some s0) (hj : s0.rs[j]? = some r0) (hv : s0.rv = .slice (some ⟨g, 0, none⟩) n cap) :
    Calls Tryz.prog 62 #[.pointer (some ⟨P, 0, none⟩), .pointer (some ⟨g, j * 6, none⟩), .int .i64 (ecode k : Nat)] w (WrongPost E B P sv ss0 w0 k i j r0) := by
  obtain ⟨s, hs, hrv, hln⟩ := h.shape.get hi
  obtain ⟨r, hr, hrl⟩ := lns_rule hln hj
  rw [← hrv] at hv
  have hl := h.shape.length
  have hfl := h.shape.flat
  match k, hk with
  | 0, _ =>
    refine (wrong5 B P sv ss w h.grm (by omega) hs hv hr).mono ?_
    rintro e w' ⟨hb, b, rfl, hbb⟩
    refine ⟨b, ss, rfl, ?_, h.es.below hb, h.grm.below hb, h.shape, h.below.trans (hb.mono hB), fun _ => h.keep (by omega) hB hb _ _⟩
    rw [hbb, hrl, hfl]; exact Iff.rfl
  | 1, _ =>
    refine (wrong1 B P sv ss w h.grm hs hv hr).mono ?_
    rintro e w' ⟨hb, b, rfl, hbb⟩
    refine ⟨b, ss, rfl, ?_, h.es.below hb, h.grm.below hb, h.shape, h.below.trans (hb.mono hB), fun _ => h.keep (by omega) hB hb _ _⟩
    rw [hbb, hrl]; exact Iff.rfl
  | 2, _ =>
    refine (wrong6 B P sv ss w h.grm hB hs hv hr (h.short (by omega) s (List.mem_of_getElem? hs) r (List.mem_of_getElem? hr))).mono ?_
    rintro e w' ⟨b, q, w1, rfl, hb1, rfl, hG, hBw, hbb, hpl⟩
    have hst : ∀ (m : Nat) c t, (t = 206 ∨ t = 203 ∨ t = 4) → w.heap[m]? = some (.cells c t (0, 0)) → (w1.setCell ⟨g, j * 6 + 4, none⟩ (.pointer q)).heap[m]? = some (.cells c t (0, 0)) := fun m c t ht hh => by
      rw [Below.heap_setCell _ _ _ _ (fun e => by
        have e : m = g := e
        obtain ⟨_, cur, hc⟩ := row_type (k := g) (h.grm.inner (List.mem_of_getElem? hs)) (by rw [hv]; rfl)
        rw [e, hc] at hh
        simp only [Option.some.injEq, Obj.cells.injEq] at hh
        rcases ht with rfl | rfl | rfl
        · exact absurd hh.2.1 (by decide)
        · exact absurd hh.2.1 (by decide)
        · exact absurd hh.2.1 (by decide))]
      exact (hb1.block m (lt_of_get hh)).trans hh
    have hes : EsAt (w1.setCell ⟨g, j * 6 + 4, none⟩ (.pointer q)) E := by
      unfold EsAt
      rw [Below.heap_setCell _ _ _ _ (fun e => by
        have e : E = g := e
        obtain ⟨_, cur, hc⟩ := row_type (k := g) (h.grm.inner (List.mem_of_getElem? hs)) (by rw [hv]; rfl)
        have hh := h.es
        unfold EsAt at hh
        rw [e, hc] at hh
        simp only [Option.some.injEq, Obj.cells.injEq] at hh
        exact absurd hh.2.1 (by decide))]
      exact h.es.below hb1
    have hmem : ∀ s' ∈ setN ss i j s r (.pointer q), ∀ r' ∈ s'.rs, (∃ s1 ∈ ss, r' ∈ s1.rs) ∨ r' = { r with n := .pointer q } := fun s' hs' r' hr' => by
      obtain ⟨m, hm⟩ := List.getElem?_of_mem hs'
      by_cases hmi : m = i
      · subst hmi
        rw [setN, List.getElem?_set_self (by simpa using get_lt hs)] at hm
        cases hm
        rcases List.mem_or_eq_of_mem_set hr' with hh | hh
        · exact .inl ⟨s, List.mem_of_getElem? hs, hh⟩
        · exact .inr hh
      · rw [setN, List.getElem?_set_ne (Ne.symm hmi)] at hm
        exact .inl ⟨s', List.mem_of_getElem? hm, hr'⟩
    refine ⟨b, setN ss i j s r (.pointer q), rfl, ?_, hes, hG, h.shape.setN hs hr, h.below.trans hBw, fun hbf => ⟨hes, hG, h.shape.setN hs hr, h.below.trans hBw, fun _ s' hs' r' hr' => ?_, fun i' j' s' r' h1 h2 h3 => ?_⟩⟩
    · rw [hbb, hrl]; exact Iff.rfl
    · rcases hmem s' hs' r' hr' with ⟨s1, hs1, hr1⟩ | rfl
      · exact h.short (by omega) s1 hs1 r' hr1
      · exact h.short (by omega) s (List.mem_of_getElem? hs) r (List.mem_of_getElem? hr)
    · have hsz : w.heap.size ≤ (w1.setCell ⟨g, j * 6 + 4, none⟩ (.pointer q)).heap.size := by have := hb1.size; simpa [World.setCell] using this
      by_cases hii : i' = i
      · subst hii
        rw [setN, List.getElem?_set_self (by simpa using get_lt hs)] at h1
        cases h1
        by_cases hjj : j' = j
        · subst hjj
          rw [List.getElem?_set_self (by simpa using get_lt hr)] at h2
          cases h2
          exact hpl hbf
        · rw [List.getElem?_set_ne (Ne.symm hjj)] at h2
          exact (h.plans i' j' s r' hs h2 (by rcases h3 with h3 | ⟨_, h3 | h3⟩; omega; omega; exact .inr ⟨rfl, .inr ⟨rfl, by omega⟩⟩)).keep hsz hst
      · rw [setN, List.getElem?_set_ne (Ne.symm hii)] at h1
        exact (h.plans i' j' s' r' h1 h2 (by rcases h3 with h3 | ⟨_, h3 | h3⟩; omega; exact .inr ⟨rfl, .inl h3⟩; omega)).keep hsz hst
  | 3, _ =>
    refine (wrong7 B P sv ss w h.grm hs hv hr (h.plans i j s r hs hr (.inl (Nat.le_refl _)))).mono ?_
    rintro e w' ⟨hb, b, rfl, hbb⟩
    refine ⟨b, ss, rfl, ?_, h.es.below hb, h.grm.below hb, h.shape, h.below.trans (hb.mono hB), fun _ => h.keep (by omega) hB hb _ _⟩
    rw [hbb, hrl]; exact Iff.rfl

theorem fst_none_mem {p : Lns → Ln → Prop} (hp : ∀ pre x, p pre x ↔ p [] x) {pre l : Lns} (h : Fst p pre l none) : ∀ y ∈ l, ¬ p [] y.2 := by
  generalize ho : (none : Option Nat) = o at h
  induction h with
  | nil => intro y hy; simp at hy
  | hit _ => cases ho
  | skip hn _ ih =>
    intro y hy
    rcases List.mem_cons.1 hy with rfl | hy
    · exact fun h => hn ((hp _ _).2 h)
    · exact ih ho y hy

theorem LInv.nextI {E B P : Nat} {sv : Value} {ss0 : List RSt} {w0 : World} {k i j : Nat} {ss : List RSt} {w : World} (h : LInv E B P sv ss0 w0 k i j ss w) {s0 : RSt} (hi : ss0[i]? = some s0) (hj : j = s0.rs.length) : LInv E B P sv ss0 w0 k (i + 1) 0 ss w := by
  refine { h with plans := fun i' j' s r h1 h2 h3 => h.plans i' j' s r h1 h2 ?_ }
  rcases h3 with h3 | ⟨h3, h4⟩
  · exact .inl h3
  · refine .inr ⟨h3, ?_⟩
    rcases Nat.lt_or_ge i' i with h5 | h5
    · exact .inl h5
    · have : i' = i := by omega
      subst this
      obtain ⟨s', hs', _, hl⟩ := h.shape.get hi
      rw [h1] at hs'
      cases hs'
      have := lns_length hl
      have := get_lt h2
      exact .inr ⟨rfl, by omega⟩

theorem LInv.nextK {E B P : Nat} {sv : Value} {ss0 : List RSt} {w0 : World} {k i j : Nat} {ss : List RSt} {w : World} (h : LInv E B P sv ss0 w0 k i j ss w) (hi : i = ss0.length) (hf : Fst (tst (flat ss0) k) [] (flat ss0) none) : LInv E B P sv ss0 w0 (k + 1) 0 0 ss w := by
  refine { h with short := fun hk s hs r hr => ?_, plans := fun i' j' s r h1 h2 h3 => h.plans i' j' s r h1 h2 ?_ }
  · rcases Nat.lt_or_ge k 2 with h2 | h2
    · have : k = 1 := by omega
      subst this
      have hm : r.ln ∈ flat ss0 := by
        rw [← h.shape.flat]
        exact List.mem_flatMap.2 ⟨s, hs, List.mem_cons_of_mem _ (List.mem_map_of_mem hr)⟩
      have := fst_none_mem (tst_pre _ 1) hf _ hm
      rcases Nat.lt_or_ge 60 r.p.size with h3 | h3
      · exact absurd ⟨_, _, _, _, rfl, h3⟩ this
      · exact h3
    · exact h.short h2 s hs r hr
  · rcases h3 with h3 | ⟨h3, h4⟩
    · rcases Nat.lt_or_ge k 3 with h5 | h5
      · have := get_lt h1
        have := h.shape.length
        exact .inr ⟨by omega, .inl (by omega)⟩
      · exact .inl h5
    · rcases h4 with h4 | ⟨_, h4⟩
      · omega
      · omega
end Go.Proofs.YtgncgdkpkkdaeaaGreatDoor
