/- A range over a function: the statement and its rounds, at whatever is kept. -/
import Derived.RangeFuncNested
namespace Go.Proofs.YtgncgdkpkkdaeaaDoor
open Go.RowKit

/-- The record of a loop. -/
def recd (fn : FuncId) (tmps : Array Value) (ps : Array Tmp) (assign body : Code) (D : Nat) (st : LoopState) (pe : Option Code) : Loop := { state := st, pending := pe, fn, tmps, params := ps, assign, body, defers := D }

/-- How the function that is ranged over ends: no round left the loop, or one did. -/
def SeqEnd (F : Fence) (n : Nat) (P : Program) (Q : Exit → Act → World → Prop) (a : Act) (l : Nat) (rc : LoopState → Option Code → Loop) (e : Ending) (W : World) : Prop :=
  (∃ v, e = .returned v) ∧
    ((W.heap[l]? = some (.loop (rc .ready none)) ∧ ∀ ro, Q .normal a (W.putObj l (.loop ro))) ∨
     ∃ c, W.heap[l]? = some (.loop (rc .done (some c))) ∧ ∀ ro, c.wpIn F n P Q a (W.putObj l (.loop ro)))

theorem recd_exhausted {P : Program} {W : World} {l : Nat} {fn : FuncId} {tmps : Array Value} {ps : Array Tmp} {assign body : Code} {D : Nat} {st : LoopState} {pe : Option Code} (hl : W.heap[l]? = some (.loop (recd fn tmps ps assign body D st pe))) (hs : st ≠ .busy) : (Instr.endLoop l).run P W = .ok pe (W.putObj l (.loop (recd fn tmps ps assign body D .exhausted pe))) := run_endLoop hl hs

theorem range_outer {F : Fence} {n : Nat} {P : Program} {g : Operand} {ps : Array Tmp} {assign body : Code} {Q : Exit → Act → World → Prop} {a : Act} {w : World} (hro : F.round = none) (h1 : 1 ≤ n)
    {gf : Nat} {lb : Array Value} (hg : a.eval g = .func (.func gf) #[] lb) (hFg : F.fn gf) (eg : ∀ args w, (callFunc gf args).run P w = .ok (.enter gf args) w)
    (h : ∀ fn, F.fn fn → CallsIn F (n - 1) P gf (#[.func (.yield (w.heap.size + 1)) #[] #[]] ++ lb) ((w.alloc (.deferred (some []))).alloc (.loop (recd fn a.tmps ps assign body w.heap.size .ready none)))
      (SeqEnd F n P Q { a with defers := { target := .collected w.heap.size, args := #[] } :: a.defers } (w.heap.size + 1) (recd fn a.tmps ps assign body w.heap.size))) :
    (Code.rangeFunc g ps assign body).wpIn F n P Q a w := by
  refine wpIn_rangeFunc ?_
  intro fn hfn
  rw [hro]
  have hcall := h fn hfn
  obtain ⟨W1, hW1⟩ : ∃ W1, (w.alloc (.deferred (some []))).alloc (.loop (recd fn a.tmps ps assign body w.heap.size .ready none)) = W1 := ⟨_, rfl⟩
  rw [hW1] at hcall
  refine ⟨w.heap.size + 1, [{ target := .collected w.heap.size, args := #[] }], W1, { target := .fn (.func gf) lb, args := #[.func (.yield (w.heap.size + 1)) #[] #[]] }, W1, gf,
    #[.func (.yield (w.heap.size + 1)) #[] #[]] ++ lb, W1, ?_, ?_, ?_, ?_, fun _ => h1, ?_⟩
  · rw [← hW1]; exact run_enterLoop_outer _ _ _ _ _
  · simp only [resolve, hg]
    simp [go_sem]
  · intro f' hf'; simp [Target.leads] at hf'; subst hf'; exact hFg
  · simp [invoke, go_sem, eg]
  · refine hcall.mono ?_
    intro e W2 hse
    obtain ⟨⟨v, hv⟩, hse⟩ := hse
    subst hv
    rcases hse with ⟨hl, hq⟩ | ⟨c, hl, hq⟩
    · exact ⟨none, _, recd_exhausted hl (by decide), hq _⟩
    · exact ⟨some c, _, recd_exhausted hl (by decide), hq _⟩

theorem range_inner {F : Fence} {n : Nat} {P : Program} {g : Operand} {ps : Array Tmp} {assign body : Code} {Q : Exit → Act → World → Prop} {a : Act} {w : World} {l₀ : Nat} {r₀ : Loop} (hro : F.round = some l₀) (hl₀ : w.heap[l₀]? = some (.loop r₀)) (h1 : 1 ≤ n)
    {gf : Nat} {lb : Array Value} (hg : a.eval g = .func (.func gf) #[] lb) (hFg : F.fn gf) (eg : ∀ args w, (callFunc gf args).run P w = .ok (.enter gf args) w)
    (h : ∀ fn, F.fn fn → CallsIn F (n - 1) P gf (#[.func (.yield w.heap.size) #[] #[]] ++ lb) (w.alloc (.loop (recd fn a.tmps ps assign body r₀.defers .ready none)))
      (SeqEnd F n P Q a w.heap.size (recd fn a.tmps ps assign body r₀.defers))) :
    (Code.rangeFunc g ps assign body).wpIn F n P Q a w := by
  refine wpIn_rangeFunc ?_
  intro fn hfn
  rw [hro]
  have hcall := h fn hfn
  obtain ⟨W1, hW1⟩ : ∃ W1, w.alloc (.loop (recd fn a.tmps ps assign body r₀.defers .ready none)) = W1 := ⟨_, rfl⟩
  rw [hW1] at hcall
  refine ⟨w.heap.size, [], W1, { target := .fn (.func gf) lb, args := #[.func (.yield w.heap.size) #[] #[]] }, W1, gf,
    #[.func (.yield w.heap.size) #[] #[]] ++ lb, W1, ?_, ?_, ?_, ?_, fun _ => h1, ?_⟩
  · rw [← hW1]; exact run_enterLoop_inner hl₀ _ _ _ _ _
  · simp only [resolve, hg]
    simp [go_sem]
  · intro f' hf'; simp [Target.leads] at hf'; subst hf'; exact hFg
  · simp [invoke, go_sem, eg]
  · refine hcall.mono ?_
    intro e W2 hse
    obtain ⟨⟨v, hv⟩, hse⟩ := hse
    subst hv
    rcases hse with ⟨hl, hq⟩ | ⟨c, hl, hq⟩
    · exact ⟨none, _, recd_exhausted hl (by decide), hq _⟩
    · exact ⟨some c, _, recd_exhausted hl (by decide), hq _⟩

/-- How a round's body is left. -/
def RoundEnd (l : Nat) (r : Loop) (R : Ending → World → Prop) : Exit → Act → World → Prop
  | .normal, _, W => W.heap[l]? = some (.loop { r with state := .busy }) ∧ R (.returned (.bool true)) (W.putObj l (.loop { r with state := .ready, pending := none }))
  | .ret, _, W => W.heap[l]? = some (.loop { r with state := .busy }) ∧ R (.returned (.bool false)) (W.putObj l (.loop { r with state := .done, pending := some .ret }))
  | .exit id, _, W => W.heap[l]? = some (.loop { r with state := .busy }) ∧ R (.returned (.bool false)) (W.putObj l (.loop { r with state := .done, pending := some (.exit id) }))
  | .goto t, _, W => W.heap[l]? = some (.loop { r with state := .busy }) ∧ R (.returned (.bool false)) (W.putObj l (.loop { r with state := .done, pending := some (.goto t) }))
  | .panic _, _, _ => False
  | .outgrown, _, _ => False

theorem round_of {F : Fence} {n : Nat} {P : Program} {l : Nat} {r : Loop} {args : Array Value} {W : World} {R : Ending → World → Prop} (hF : F.fn r.fn) (hl : W.heap[l]? = some (.loop r)) (hr : r.state = .ready) (hs : args.size = r.params.size)
    (h : r.assign.wpIn (F.inRound l) n P (Exit.then (fun a₁ w₁ => w₁.heap[l]? = some (.loop r) ∧ r.body.wpIn (F.inRound l) n P (RoundEnd l r R) a₁ (w₁.putObj l (.loop { r with state := .busy }))) (fun _ _ _ => False))
      { tmps := (r.params.zip args).foldl (fun tmps (t, a) => tmps.setIfInBounds t a) r.tmps, defers := [] } W) : YieldAt F n P l args W R := by
  refine ⟨r.fn, _, r.assign, r.body, run_yield hl hs, roundIn_of_wpIn hF (wpIn_mono h ?_)⟩
  intro e a₁ w₁ hq
  cases e with
  | normal =>
    obtain ⟨h1, h2⟩ := hq
    refine ⟨_, run_beginRound h1 hr, wpIn_mono h2 ?_⟩
    intro e₂ a₂ w₂ hq₂
    cases e₂ with
    | normal => exact ⟨_, _, run_endRound none hq₂.1, hq₂.2⟩
    | ret => exact ⟨_, _, run_endRound (some .ret) hq₂.1, hq₂.2⟩
    | exit id => exact ⟨_, _, run_endRound (some (.exit id)) hq₂.1, hq₂.2⟩
    | goto t => exact ⟨_, _, run_endRound (some (.goto t)) hq₂.1, hq₂.2⟩
    | panic c => exact hq₂.elim
    | outgrown => exact hq₂.elim
  | ret => exact hq.elim
  | exit id => exact hq.elim
  | goto t => exact hq.elim
  | panic c => exact hq.elim
  | outgrown => exact hq.elim

/-- The same, the record of a busy loop being b, of one that is not rc. -/
def RoundEndB (l : Nat) (b : Loop) (rc : LoopState → Option Code → Loop) (R : Ending → World → Prop) : Exit → Act → World → Prop
  | .normal, _, W => W.heap[l]? = some (.loop b) ∧ R (.returned (.bool true)) (W.putObj l (.loop (rc .ready none)))
  | .ret, _, W => W.heap[l]? = some (.loop b) ∧ R (.returned (.bool false)) (W.putObj l (.loop (rc .done (some .ret))))
  | .exit id, _, W => W.heap[l]? = some (.loop b) ∧ R (.returned (.bool false)) (W.putObj l (.loop (rc .done (some (.exit id)))))
  | .goto t, _, W => W.heap[l]? = some (.loop b) ∧ R (.returned (.bool false)) (W.putObj l (.loop (rc .done (some (.goto t)))))
  | .panic _, _, _ => False
  | .outgrown, _, _ => False

theorem round_recd {F : Fence} {n : Nat} {P : Program} {l : Nat} {fn : FuncId} {tmps : Array Value} {ps : Array Tmp} {assign body : Code} {D : Nat} {args : Array Value} {W : World} {R : Ending → World → Prop} (hF : F.fn fn) (hl : W.heap[l]? = some (.loop (recd fn tmps ps assign body D .ready none))) (hs : args.size = ps.size)
    (h : ∀ (b : Loop) (rc : LoopState → Option Code → Loop), rc = recd fn tmps ps assign body D → assign.wpIn (F.inRound l) n P (Exit.then (fun a₁ w₁ => w₁.heap[l]? = some (.loop (rc .ready none)) ∧ body.wpIn (F.inRound l) n P (RoundEndB l b rc R) a₁ (w₁.putObj l (.loop b))) (fun _ _ _ => False))
      { tmps := (ps.zip args).foldl (fun tmps (t, a) => tmps.setIfInBounds t a) tmps, defers := [] } W) : YieldAt F n P l args W R := by
  refine round_of hF hl rfl hs (wpIn_mono (h { recd fn tmps ps assign body D .ready none with state := .busy } _ rfl) ?_)
  intro e a₁ w₁ hq
  cases e with
  | normal =>
    obtain ⟨h1, h2⟩ := hq
    refine ⟨h1, wpIn_mono h2 ?_⟩
    intro e₂ a₂ w₂ hq₂
    cases e₂ with
    | normal => exact hq₂
    | ret => exact hq₂
    | exit id => exact hq₂
    | goto t => exact hq₂
    | panic c => exact hq₂
    | outgrown => exact hq₂
  | ret => exact hq
  | exit id => exact hq
  | goto t => exact hq
  | panic c => exact hq
  | outgrown => exact hq
end Go.Proofs.YtgncgdkpkkdaeaaDoor
