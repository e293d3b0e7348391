/- Maps that the program makes, as functions. -/
import Derived.Test.YtgncgdkpkkdaeaaDoorP13
import Derived.Maps.OwnSet
import Derived.Maps.OwnOps
import Derived.DeepKeys4
namespace Go.Proofs.YtgncgdkpkkdaeaaDoor
open Go.RowKit Tint Go.Maps

theorem laidOut : laidOutB Tryd.prog = true := by kernel_rfl
theorem law_int : Keyed Tryd.prog 3 := int_keyed Tryd.underlying3
theorem row_pair : (120 : TypeId) < Tryd.prog.types.size := of_decide_eq_true (by kernel_rfl)
theorem wide_pair : (match Tryd.prog.underlying 120 with | some (.array _ _) | some (.struct _) => true | _ => false) = true := by kernel_rfl
set_option maxRecDepth 100000 in
theorem law_pair : Keyed Tryd.prog 120 := Keyed.of_law (deep_law_laid laidOut (m := 3) (by omega) row_pair (by kernel_rfl) wide_pair)
theorem row_given : (98 : TypeId) < Tryd.prog.types.size := of_decide_eq_true (by kernel_rfl)
theorem wide_given : (match Tryd.prog.underlying 98 with | some (.array _ _) | some (.struct _) => true | _ => false) = true := by kernel_rfl
set_option maxRecDepth 100000 in
theorem law_given : Keyed Tryd.prog 98 := Keyed.of_law (deep_law_laid laidOut (m := 3) (by omega) row_given (by kernel_rfl) wide_given)
set_option maxRecDepth 100000 in
theorem tiled_pair : Tryd.prog.tiled 3 120 = true := tiled_of_laidOut laidOut 3 _ (by kernel_rfl) (by kernel_rfl)
set_option maxRecDepth 100000 in
theorem tiled_given : Tryd.prog.tiled 3 98 = true := tiled_of_laidOut laidOut 3 _ (by kernel_rfl) (by kernel_rfl)

theorem wf_nat (a : Nat) (h : a ≤ 1000000000000) : (Lit.int .i64 (a : Int)).wf = true := by
  exact WalkArith.wf_i64 (by omega)

theorem size_types : ∃ m, Tryd.prog.types.size = m + 1 := ⟨Tryd.prog.types.size - 1, by kernel_rfl⟩
theorem keyType_pair : Tryd.prog.keyType 120 = true := by kernel_rfl
theorem keyType_given : Tryd.prog.keyType 98 = true := by kernel_rfl
theorem cellsOf_pair : Tryd.prog.cellsOf 120 = 2 := by kernel_rfl
theorem cellsOf_given : Tryd.prog.cellsOf 98 = 2 := by kernel_rfl
theorem cellsOf_int : Tryd.prog.cellsOf 3 = 1 := by kernel_rfl
theorem cellsOf_u8 : Tryd.prog.cellsOf 5 = 1 := by kernel_rfl

theorem lits_int (m : Nat) (a : Int) (h : (Lit.int .i64 a).wf = true) : Tryd.prog.keyLits (m + 1) 3 [.int .i64 a] = some [.int .i64 a] := by
  unfold Program.keyLits
  simp [Tryd.underlying3, h]
theorem lits_u8 (m : Nat) (a : Int) (h : (Lit.int .u8 a).wf = true) : Tryd.prog.keyLits (m + 1) 5 [.int .u8 a] = some [.int .u8 a] := by
  unfold Program.keyLits
  simp [Tryd.underlying5, h]

theorem key_pair (a b : Nat) (ha : a ≤ 1000000000000) (hb : b ≤ 1000000000000) : ∃ kl, keyOf Tryd.prog 120 (.agg #[.int .i64 a, .int .i64 b]) = some kl := by
  have wa := wf_nat a ha
  have wb := wf_nat b hb
  obtain ⟨m, hm⟩ := size_types
  refine ⟨.string (keyBytes [.int .i64 a, .int .i64 b]), ?_⟩
  have h1 : Tryd.prog.keyLits (m + 1 + 1) 120 [.int .i64 a, .int .i64 b] = some [.int .i64 a, .int .i64 b] := by
    unfold Program.keyLits
    simp [Tryd.underlying120, cellsOf_pair, cellsOf_int, lits_int, wa, wb]
  simp only [keyOf, Tryd.underlying120, keyType_pair, hm]
  simp [Value.formed, cellsOf_pair, h1, Value.cells, Tryd.underlying120]

theorem wf_u8 (b : UInt8) : (Lit.int .u8 (b.toNat : Int)).wf = true := by
  have := b.toNat_lt
  have h1 : IntKind.u8.min = 0 := rfl
  have h2 : IntKind.u8.max = 255 := rfl
  simp only [Lit.wf, h1, h2, Bool.and_eq_true, decide_eq_true_eq]
  omega

theorem key_given (a : Nat) (b : UInt8) (ha : a ≤ 1000000000000) : ∃ kl, keyOf Tryd.prog 98 (.agg #[.int .i64 a, .int .u8 b.toNat]) = some kl := by
  have wa := wf_nat a ha
  have wb := wf_u8 b
  obtain ⟨m, hm⟩ := size_types
  refine ⟨.string (keyBytes [.int .i64 a, .int .u8 b.toNat]), ?_⟩
  have h1 : Tryd.prog.keyLits (m + 1 + 1) 98 [.int .i64 a, .int .u8 b.toNat] = some [.int .i64 a, .int .u8 b.toNat] := by
    unfold Program.keyLits
    simp [Tryd.underlying98, cellsOf_given, cellsOf_int, cellsOf_u8, lits_int, lits_u8, wa, wb]
  simp only [keyOf, Tryd.underlying98, keyType_given, hm]
  simp [Value.formed, cellsOf_given, h1, Value.cells, Tryd.underlying98]

set_option maxRecDepth 100000 in
theorem inj_pair {a b : Value} {l : Lit} (ha : keyOf Tryd.prog 120 a = some l) (hb : keyOf Tryd.prog 120 b = some l) : a = b := keyOf_inj_deep tiled_pair wide_pair ha hb
set_option maxRecDepth 100000 in
theorem inj_given {a b : Value} {l : Lit} (ha : keyOf Tryd.prog 98 a = some l) (hb : keyOf Tryd.prog 98 b = some l) : a = b := keyOf_inj_deep tiled_given wide_given ha hb

/-- A kind of keys. -/
structure KeyT (κ : Type) where
  K : TypeId
  kv : κ → Value
  ok : κ → Prop
  keyed : Keyed Tryd.prog K
  key : ∀ x, ok x → ∃ kl, keyOf Tryd.prog K (kv x) = some kl
  inj : ∀ x y kl, ok x → ok y → keyOf Tryd.prog K (kv x) = some kl → keyOf Tryd.prog K (kv y) = some kl → x = y

def pairT : KeyT (Nat × Nat) where
  K := 120
  kv x := .agg #[.int .i64 x.1, .int .i64 x.2]
  ok x := x.1 ≤ 1000000000000 ∧ x.2 ≤ 1000000000000
  keyed := law_pair
  key x h := key_pair x.1 x.2 h.1 h.2
  inj x y kl _ _ h1 h2 := by
    have := inj_pair h1 h2
    simp at this
    exact Prod.ext (by omega) (by omega)

def givenT : KeyT (Nat × UInt8) where
  K := 98
  kv x := .agg #[.int .i64 x.1, .int .u8 x.2.toNat]
  ok x := x.1 ≤ 1000000000000
  keyed := law_given
  key x h := key_given x.1 x.2 h
  inj x y kl _ _ h1 h2 := by
    have := inj_given h1 h2
    simp at this
    exact Prod.ext (by omega) (UInt8.toNat_inj.1 (by omega))

def intT : KeyT Nat where
  K := 3
  kv x := .int .i64 x
  ok x := x ≤ 1000000000000
  keyed := law_int
  key x h := ⟨_, keyOf_int_mk Tryd.underlying3 (wf_nat x h)⟩
  inj x y kl hx hy h1 h2 := by
    rw [keyOf_int_mk Tryd.underlying3 (wf_nat x hx)] at h1
    rw [keyOf_int_mk Tryd.underlying3 (wf_nat y hy)] at h2
    rw [← h1] at h2
    simp at h2
    omega

/-- Block b is a map that is the function f. -/
def MapIs {κ : Type} (T : KeyT κ) (E : TypeId) (q : IntKind) (w : World) (b n : Nat) (f : κ → Option Int) : Prop :=
  ∃ D : DataW Unit, w.ownsMap Tryd.prog T.K (plainElem Tryd.prog E) b n D ∧
    ∀ x kl, T.ok x → keyOf Tryd.prog T.K (T.kv x) = some kl → Maps.has D kl = (f x).isSome ∧ D.atKey kl (.lit (.int q 0)) = .lit (.int q ((f x).getD 0))

theorem MapIs.made {κ : Type} (T : KeyT κ) (E : TypeId) (q : IntKind) (w : World) : MapIs T E q (w.alloc (.map #[] 0)) w.heap.size 0 (fun _ => none) :=
  ⟨.map [], World.ownsMap_made w _ _ _, fun _ _ _ _ => ⟨rfl, rfl⟩⟩

theorem MapIs.lt {κ : Type} {T : KeyT κ} {E : TypeId} {q : IntKind} {w : World} {b n : Nat} {f : κ → Option Int} (h : MapIs T E q w b n f) : b < w.heap.size := by
  obtain ⟨D, h, _⟩ := h; exact h.lt

theorem MapIs.keep {κ : Type} {T : KeyT κ} {E : TypeId} {q : IntKind} {w w' : World} {b n : Nat} {f : κ → Option Int} (h : MapIs T E q w b n f) (hb : w'.heap[b]? = w.heap[b]?) : MapIs T E q w' b n f := by
  obtain ⟨D, ⟨es, clock, h1, h2⟩, h3⟩ := h
  exact ⟨D, ⟨es, clock, hb.trans h1, h2⟩, h3⟩

theorem MapIs.obj {κ : Type} {T : KeyT κ} {E : TypeId} {q : IntKind} {w : World} {b n : Nat} {f : κ → Option Int} (h : MapIs T E q w b n f) : ∃ es clock, w.heap[b]? = some (.map es clock) := by
  obtain ⟨D, ⟨es, clock, h1, h2⟩, h3⟩ := h
  exact ⟨es, clock, h1⟩

theorem MapIs.look {κ : Type} {T : KeyT κ} {E : TypeId} {q : IntKind} {w : World} {b n : Nat} {f : κ → Option Int} (h : MapIs T E q w b n f) {t : TypeId} (ht : Tryd.prog.underlying t = some (.map T.K E)) (he : Tryd.prog.underlying E = some (.int q))
    (hz : ∀ w, (zeroValue E).run Tryd.prog w = .ok (.int q 0) w) (x : κ) (hx : T.ok x) :
    (Instr.lookup t (.map (some b)) (T.kv x) true).run Tryd.prog w = .ok (.tuple #[.int q ((f x).getD 0), .bool (f x).isSome]) w := by
  obtain ⟨D, h1, h2⟩ := h
  obtain ⟨kl, hkl⟩ := T.key x hx
  have hw0 : (Lit.int q 0).wf = true := by cases q <;> decide
  obtain ⟨v, ps, hrun, hv⟩ := h1.look_ok T.keyed ht (hz w) (plainElem_int he hw0) hkl
  obtain ⟨c, rfl, hc, hwc⟩ := plainElem_int_inv he hv
  simp only [Prod.mk.injEq] at hc
  obtain ⟨h3, h4⟩ := h2 x kl hx hkl
  rw [h4] at hc
  simp at hc
  rw [hrun, h3, hc.1]

theorem MapIs.store {κ : Type} [DecidableEq κ] {T : KeyT κ} {E : TypeId} {q : IntKind} {w : World} {b n : Nat} {f : κ → Option Int} (h : MapIs T E q w b n f) {t : TypeId} (ht : Tryd.prog.underlying t = some (.map T.K E)) (he : Tryd.prog.underlying E = some (.int q))
    (hn : n < 1000000000000) (x : κ) (hx : T.ok x) (c : Int) (hc : (Lit.int q c).wf = true) :
    ∃ w', (Instr.mapUpdate t (.map (some b)) (T.kv x) (.int q c)).run Tryd.prog w = .ok () w' ∧ MapIs T E q w' b (n + 1) (fun y => if y = x then some c else f y) ∧ w.grownBy w' (some b) := by
  obtain ⟨D, h1, h2⟩ := h
  obtain ⟨kl, hkl⟩ := T.key x hx
  obtain ⟨w', hrun, r1, r2⟩ := h1.update T.keyed ht (by unfold maxLen; omega) hkl (plainElem_int he hc)
  refine ⟨w', hrun, ⟨_, r1, ?_⟩, r2⟩
  have hD : IsMap D := h1.isMap
  have hk : WideAt.IsKeyLit kl := T.keyed.key hkl
  intro y ky hy hky
  by_cases e : y = x
  · subst e
    rw [hkl] at hky
    cases hky
    simp [has_put_same hD hk, atKey_put_same hD hk]
  · have hne : ky ≠ kl := fun e' => e (T.inj y x kl hy hx (e' ▸ hky) hkl)
    rw [has_put_other hne, atKey_put_other hne]
    simpa [e] using h2 y ky hy hky

end Go.Proofs.YtgncgdkpkkdaeaaDoor
