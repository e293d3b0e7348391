/- tintref: wrong. -/
import Derived.Test.YtgncgdkpkkdaeaaN9
import Derived.Test.YtgncgdkpkkdaeaaTE
namespace Go.Proofs.Ytgncgdkpkkdaeaa
open Go.RowKit Tint

theorem Grm.fst {w : World} {B P : Nat} {sv : Value} {ss : List RSt} (h : Grm w B P sv ss) {i : Nat} {s : RSt} (hi : ss[i]? = some s) {g n cap : Nat} (hv : s.rv = .slice (some ⟨g, 0, none⟩) n cap) {j : Nat} {r : RRl} (hr : s.rs[j]? = some r) :
    w.cell? ⟨g, j * 6, none⟩ = some (.string r.a) ∧ w.cell? ⟨g, j * 6 + 1, none⟩ = some (.string r.b) ∧ w.cell? ⟨g, j * 6 + 3, none⟩ = some (.string r.p) ∧ w.cell? ⟨g, j * 6 + 4, none⟩ = some r.n ∧ w.cell? ⟨g, j * 6 + 5, none⟩ = some (.int .i64 r.at_) ∧ w.frozen? ⟨g, j * 6 + 4, none⟩ = false := by
  have hs := List.mem_of_getElem? hi
  exact ⟨(h.rule hs hv hr 0 (by omega) rfl).1, (h.rule hs hv hr 1 (by omega) rfl).1, (h.rule hs hv hr 3 (by omega) rfl).1, (h.rule hs hv hr 4 (by omega) rfl).1, (h.rule hs hv hr 5 (by omega) rfl).1, (h.rule hs hv hr 4 (by omega) (u := r.n) rfl).2⟩

theorem unknown_iff {w : World} {B P : Nat} {sv : Value} {ss : List RSt} (h : Grm w B P sv ss) {s : RSt} (hs : s ∈ ss) {r : RRl} (hr : r ∈ s.rs) (pre : Lns) : pUnknown (flat ss) pre r.ln.2 ↔ r.a.data.toList = wPush ∧ ∀ t ∈ ss, t.name.data.toList ≠ r.b.data.toList := by
  obtain ⟨h1, h2⟩ := h.words s hs r hr
  have hd : r.d = 1 ↔ r.a.data.toList = wPush := by
    rw [h2]
    match hh : r.d with
    | 0 => simp [ruleWord]; decide
    | 1 => simp [ruleWord]
    | 2 => simp [ruleWord]; decide
    | n + 3 => omega
  unfold pUnknown
  constructor
  · rintro ⟨o, c, p, e, hn⟩
    simp only [RRl.ln, Ln.rule.injEq] at e
    obtain ⟨e1, rfl, _, _⟩ := e
    exact ⟨hd.1 e1, fun t ht hh => hn t.at_ (flat_mem.2 ⟨t, ht, rfl, hh⟩)⟩
  · rintro ⟨e1, hn⟩
    refine ⟨_, _, _, by simp only [RRl.ln]; rw [hd.2 e1], fun a ha => ?_⟩
    obtain ⟨t, ht, _, hh⟩ := flat_mem.1 ha
    exact hn t ht hh

set_option maxRecDepth 20000 in
set_option maxHeartbeats 1000000 in
theorem wrong5 (B P : Nat) (sv : Value) (ss : List RSt) (w : World) (h : Grm w B P sv ss) (hz : ss.length ≤ 1000000) {i j g n cap : Nat} {s : RSt} {r : RRl} (hi : ss[i]? = some s) (hv : s.rv = .slice (some ⟨g, 0, none⟩) n cap) (hr : s.rs[j]? = some r) :
    Calls Try.prog 11 #[.pointer (some ⟨P, 0, none⟩), .pointer (some ⟨g, j * 6, none⟩), .int .i64 5] w fun e w' => Below w.heap.size w w' ∧ ∃ b, e = .returned (.bool b) ∧ (b = true ↔ pUnknown (flat ss) [] r.ln.2) := by
  obtain ⟨c0, c1, c3, c4, c5, f4⟩ := h.fst hi hv hr
  have HU := hide (unknown_iff h (List.mem_of_getElem? hi) (List.mem_of_getElem? hr) [])
  have HIX := hide (index_any B P sv ss r.b w h (by omega))
  clear h hi hv hr
  by_cases hp : r.a.data.toList = wPush
  · have q1 : (r.a.toList == [112, 117, 115, 104]) = true := by rw [ByteArray.toList_eq, hp]; rfl
    go_enter Try.func11, Try.ntmps11
    go_wp2_with fail
    refine HIX.out.mono ?_
    rintro e w1 ⟨rfl, ⟨i0, s0, rfl, hs0, hn0, -⟩ | ⟨rfl, hno⟩⟩
    · have q2 : decide ((i0 : Int) < 0) = false := decide_eq_false (by omega)
      have HEND := hide (show ¬ pUnknown (flat ss) [] r.ln.2 from fun hu => ((HU.out.1 hu).2 s0 (List.mem_of_getElem? hs0)) hn0)
      clear HU HIX hs0 hn0 hp
      go_wp2_with fail
      go_ret
      exact ⟨Below.refl _ _, false, rfl, ⟨fun hx => (by cases hx), fun hx => absurd hx HEND.out⟩⟩
    · have HEND := hide (HU.out.2 ⟨hp, hno⟩)
      clear HU HIX hno hp
      go_wp2_with fail
      go_ret
      exact ⟨Below.refl _ _, true, rfl, ⟨fun _ => HEND.out, fun _ => rfl⟩⟩
  · have q1 := str_ne hp
    unfold wPush at q1
    have HEND := hide (fun n' => show Below w.heap.size w (w.drewN n') ∧ ∃ b, Ending.returned (.bool false) = .returned (.bool b) ∧ (b = true ↔ pUnknown (flat ss) [] r.ln.2) from ⟨Below.drewN' (Below.refl _ _) n', false, rfl, by rw [HU.out]; simp [hp]⟩)
    clear HU HIX hp
    go_enter Try.func11, Try.ntmps11
    go_wp2_with fail
    go_ret
    exact HEND.out 0

set_option maxRecDepth 20000 in
set_option maxHeartbeats 1000000 in
theorem wrong1 (B P : Nat) (sv : Value) (ss : List RSt) (w : World) (h : Grm w B P sv ss) {i j g n cap : Nat} {s : RSt} {r : RRl} (hi : ss[i]? = some s) (hv : s.rv = .slice (some ⟨g, 0, none⟩) n cap) (hr : s.rs[j]? = some r) :
    Calls Try.prog 11 #[.pointer (some ⟨P, 0, none⟩), .pointer (some ⟨g, j * 6, none⟩), .int .i64 1] w fun e w' => Below w.heap.size w w' ∧ ∃ b, e = .returned (.bool b) ∧ (b = true ↔ pLong [] r.ln.2) := by
  obtain ⟨c0, c1, c3, c4, c5, f4⟩ := h.fst hi hv hr
  have HL := hide (show pLong [] r.ln.2 ↔ 60 < r.p.size from ⟨fun ⟨d, o, c, p, e, hl⟩ => by simp only [RRl.ln, Ln.rule.injEq] at e; obtain ⟨_, _, _, rfl⟩ := e; exact hl, fun hl => ⟨_, _, _, _, rfl, hl⟩⟩)
  clear h hi hv hr
  go_enter Try.func11, Try.ntmps11
  go_wp2_with fail
  go_ret
  refine ⟨Below.refl _ _, _, rfl, ?_⟩
  rw [HL.out]
  simp only [decide_eq_true_eq]
  omega

set_option maxRecDepth 20000 in
set_option maxHeartbeats 1000000 in
theorem wrong6 (B P : Nat) (sv : Value) (ss : List RSt) (w : World) (h : Grm w B P sv ss) (hB : B ≤ w.heap.size) {i j g n cap : Nat} {s : RSt} {r : RRl} (hi : ss[i]? = some s) (hv : s.rv = .slice (some ⟨g, 0, none⟩) n cap) (hr : s.rs[j]? = some r) (h60 : r.p.size ≤ 60) :
    Calls Try.prog 11 #[.pointer (some ⟨P, 0, none⟩), .pointer (some ⟨g, j * 6, none⟩), .int .i64 6] w fun e w' => ∃ b q w1, e = .returned (.bool b) ∧ Below w.heap.size w w1 ∧ w' = w1.setCell ⟨g, j * 6 + 4, none⟩ (.pointer q) ∧ Grm w' B P sv (setN ss i j s r (.pointer q)) ∧ Below B w w' ∧ (b = true ↔ pPat [] r.ln.2) ∧ (b = false → HasPlan w' { r with n := .pointer q }) := by
  obtain ⟨c0, c1, c3, c4, c5, f4⟩ := h.fst hi hv hr
  have HPA := hide (Ref.pattern_any r.p w h60)
  have HG := hide h
  have HI := hide hi
  have HV := hide hv
  have HR := hide hr
  have HPP := hide (show pPat [] r.ln.2 ↔ ¬ ∃ re, PAlt r.p.data.toList (some (re, [])) from ⟨fun ⟨d, o, c, p, e, hl, hn⟩ => by simp only [RRl.ln, Ln.rule.injEq] at e; obtain ⟨_, _, _, rfl⟩ := e; exact hn, fun hn => ⟨_, _, _, _, rfl, h60, hn⟩⟩)
  clear h hi hv hr
  go_enter Try.func11, Try.ntmps11
  go_wp2_with fail
  refine HPA.out.mono ?_
  rintro e w1 ⟨hB1, ⟨rfl, hno⟩ | ⟨P1, B1, ls, first, re, rfl, hpa, hBw, hpi⟩⟩
  · have HG1 := hide (HG.out.below hB1)
    obtain ⟨-, -, -, d4, -, df⟩ := HG1.out.fst HI.out HV.out HR.out
    have HEND := hide (show ∃ b q w2, Ending.returned (.bool true) = .returned (.bool b) ∧ Below w.heap.size w w2 ∧ w1.setCell ⟨g, j * 6 + 4, none⟩ (.pointer none) = w2.setCell ⟨g, j * 6 + 4, none⟩ (.pointer q) ∧ Grm (w1.setCell ⟨g, j * 6 + 4, none⟩ (.pointer none)) B P sv (setN ss i j s r (.pointer q)) ∧ Below B w (w1.setCell ⟨g, j * 6 + 4, none⟩ (.pointer none)) ∧ (b = true ↔ pPat [] r.ln.2) ∧ (b = false → HasPlan (w1.setCell ⟨g, j * 6 + 4, none⟩ (.pointer none)) { r with n := .pointer q }) from
      ⟨true, none, w1, rfl, hB1, rfl, (HG1.out.setN HI.out HR.out HV.out _).1, (hB1.mono hB).trans (HG1.out.setN HI.out HR.out HV.out _).2, ⟨fun _ => HPP.out.2 (by
        rintro ⟨re, hre⟩
        rcases hno with h | ⟨r', s', hs', h⟩
        · have := PAlt.det h hre; cases this
        · have := PAlt.det h hre
          simp only [Option.some.injEq, Prod.mk.injEq] at this
          exact hs' this.2), fun _ => rfl⟩, fun h => by cases h⟩)
    clear HPA HG HG1 HI HV HR HPP hno hB1 c0 c1 c3 c4 c5 f4
    go_wp2_with fail
    go_ret
    exact HEND.out
  · have HG1 := hide (HG.out.below hB1)
    obtain ⟨-, -, -, d4, -, df⟩ := HG1.out.fst HI.out HV.out HR.out
    have HEND := hide (show ∃ b q w2, Ending.returned (.bool false) = .returned (.bool b) ∧ Below w.heap.size w w2 ∧ w1.setCell ⟨g, j * 6 + 4, none⟩ (.pointer (some ⟨P1, 0, none⟩)) = w2.setCell ⟨g, j * 6 + 4, none⟩ (.pointer q) ∧ Grm (w1.setCell ⟨g, j * 6 + 4, none⟩ (.pointer (some ⟨P1, 0, none⟩))) B P sv (setN ss i j s r (.pointer q)) ∧ Below B w (w1.setCell ⟨g, j * 6 + 4, none⟩ (.pointer (some ⟨P1, 0, none⟩))) ∧ (b = true ↔ pPat [] r.ln.2) ∧ (b = false → HasPlan (w1.setCell ⟨g, j * 6 + 4, none⟩ (.pointer (some ⟨P1, 0, none⟩))) { r with n := .pointer q }) from
      ⟨false, some ⟨P1, 0, none⟩, w1, rfl, hB1, rfl, (HG1.out.setN HI.out HR.out HV.out _).1, (hB1.mono hB).trans (HG1.out.setN HI.out HR.out HV.out _).2, ⟨fun h => (by cases h), fun h => absurd ⟨re, hpa⟩ (HPP.out.1 h)⟩, fun _ => ⟨P1, B1, ls, first, re, rfl, hpa, PlanIs.keep hpi (fun k c t ht hh => by
        rw [Below.heap_setCell _ _ _ _ (fun e => by
          have e : k = g := e
          obtain ⟨_, cur, hc⟩ := row_type (k := g) (HG1.out.inner (List.mem_of_getElem? HI.out)) (by rw [HV.out]; rfl)
          rw [e, hc] at hh
          simp only [Option.some.injEq, Obj.cells.injEq] at hh
          rcases ht with rfl | rfl | rfl
          · exact absurd hh.2.1 (by decide)
          · exact absurd hh.2.1 (by decide)
          · exact absurd hh.2.1 (by decide))]
        exact hh), by have := hpi.plan.lt; have := hpi.plan.hP; simp [World.setCell]; omega⟩⟩)
    clear HPA HG HG1 HI HV HR HPP hpa hpi hB1 c0 c1 c3 c4 c5 f4
    go_wp2_with fail
    go_ret
    exact HEND.out

set_option maxRecDepth 20000 in
set_option maxHeartbeats 1000000 in
theorem wrong7 (B P : Nat) (sv : Value) (ss : List RSt) (w : World) (h : Grm w B P sv ss) {i j g n cap : Nat} {s : RSt} {r : RRl} (hi : ss[i]? = some s) (hv : s.rv = .slice (some ⟨g, 0, none⟩) n cap) (hr : s.rs[j]? = some r) (hp : HasPlan w r) :
    Calls Try.prog 11 #[.pointer (some ⟨P, 0, none⟩), .pointer (some ⟨g, j * 6, none⟩), .int .i64 7] w fun e w' => Below w.heap.size w w' ∧ ∃ b, e = .returned (.bool b) ∧ (b = true ↔ pEmpty [] r.ln.2) := by
  obtain ⟨c0, c1, c3, c4, c5, f4⟩ := h.fst hi hv hr
  obtain ⟨P1, B1, ls, first, re, hn, hpa, hpl, hb1⟩ := hp
  rw [hn] at c4
  have HF := hide (Ref.find_any w B1 P1 ls first re hpl hb1 ⟨#[]⟩ 0 (Nat.le_refl _) (by decide))
  have HE := hide (show pEmpty [] r.ln.2 ↔ re.nullable = true from ⟨fun ⟨d, o, c, p, re', e, h1, h2⟩ => by
    simp only [RRl.ln, Ln.rule.injEq] at e
    obtain ⟨_, _, _, rfl⟩ := e
    have := PAlt.det h1 hpa
    simp only [Option.some.injEq, Prod.mk.injEq, and_true] at this
    rw [← this]; exact h2, fun h => ⟨_, _, _, _, re, rfl, hpa, h⟩⟩)
  clear h hi hv hr hpl hpa
  go_enter Try.func11, Try.ntmps11
  go_wp2_with fail
  refine HF.out.mono ?_
  rintro e w1 ⟨o, ho, rfl, hB1⟩
  have hmt : re.nullable = true ↔ o.isSome = true := by
    cases o with
    | none =>
      have h0 := ho 0 (Nat.le_refl _)
      constructor
      · intro hx; exact absurd ⟨0, Nat.le_refl _, Nat.le_refl _, by simpa [seg] using (mt_nil re).2 hx⟩ h0
      · intro hx; cases hx
    | some p =>
      obtain ⟨a, b⟩ := p
      obtain ⟨_, h2, h3, h4, _, _⟩ := ho
      have hb0 : b = 0 := by simpa using h3
      have ha0 : a = 0 := by omega
      subst hb0
      subst ha0
      exact ⟨fun _ => rfl, fun _ => (mt_nil re).1 (by simpa [seg] using h4)⟩
  have HMT := hide (HE.out.trans hmt)
  clear HF HE hmt ho
  cases o with
  | none =>
    simp only [found]
    go_wp2_with fail
    go_ret
    exact ⟨hB1, false, rfl, by rw [HMT.out]; simp⟩
  | some p =>
    obtain ⟨a, b⟩ := p
    simp only [found]
    go_wp2_with fail
    go_ret
    exact ⟨hB1, true, rfl, by rw [HMT.out]; simp⟩
end Go.Proofs.Ytgncgdkpkkdaeaa
