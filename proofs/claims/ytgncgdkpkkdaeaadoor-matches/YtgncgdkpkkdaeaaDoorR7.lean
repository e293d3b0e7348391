/- math/bits.TrailingZeros64, by the library's arithmetic. -/
import Derived.Test.YtgncgdkpkkdaeaaDoorR6
import Derived.Laws.Bits64b
import Derived.Lib.TrailingZeros
namespace Go.Proofs.YtgncgdkpkkdaeaaDoor
open Go.RowKit Tint Go.Maps

set_option maxHeartbeats 1000000 in
theorem tz_core (x k idx : Nat) (w : World) (hx0 : ((x : Int) == 0) = false)
    (key : IntKind.u64.wrap (bits BinOp.and IntKind.u64 (x : Int) (IntKind.u64.wrap (-(x : Int))) * 285870213051353865) / 288230376151711744 = (idx : Int))
    (hi : idx < 64) (hk : k < 64) (hcell : w.cell? ⟨0, idx, none⟩ = some (.int .u8 k)) :
    Calls Tryd.prog 52 #[.int .u64 x] w fun e w' => e = .returned (.int .i64 k) ∧ w' = w := by
  go_enter Tryd.func52, Tryd.ntmps52
  go_wp2_with (simp only [key])
  go_ret
  exact ⟨rfl, rfl⟩

/-- The library's table, in its variable. -/
def Tab (w : World) : Prop := ∀ j, j < 64 → w.cell? ⟨0, j, none⟩ = some (.int .u8 (Lib.deBruijn64tab.getD j 0))

theorem Tab.keep {w w' : World} (h : Tab w) (hk : w'.heap[0]? = w.heap[0]?) : Tab w' := fun j hj => (World.cell?_of_block (w := w) hk).trans (h j hj)

theorem tz_key (x a : Nat) (hx : x < 18446744073709551616) (hx0 : x ≠ 0) (h : x &&& (18446744073709551616 - x) = a) :
    IntKind.u64.wrap (bits BinOp.and IntKind.u64 (x : Int) (IntKind.u64.wrap (-(x : Int))) * 285870213051353865) / 288230376151711744 = ((a * 285870213051353865 % 18446744073709551616 / 288230376151711744 : Nat) : Int) := by
  have hneg : IntKind.u64.wrap (-(x : Int)) = ((18446744073709551616 - x : Nat) : Int) := by rw [IntKind.wrap_u64]; omega
  rw [hneg, bits_and_u64_nat x _ hx (by omega), h, IntKind.wrap_u64]
  omega

theorem tz_any (x : Nat) (w : World) (hx : x < 18446744073709551616) (hx0 : x ≠ 0) (hT : Tab w) :
    Calls Tryd.prog 52 #[.int .u64 x] w fun e w' => e = .returned (.int .i64 (Lib.ctz 64 x)) ∧ w' = w := by
  obtain ⟨h1, h2⟩ := Lib.lowest_bit 64 x hx0 hx
  obtain ⟨h3, h4⟩ := Lib.deBruijn64_at _ h2
  have hc := hT _ h3
  rw [h4] at hc
  exact tz_core x (Lib.ctz 64 x) _ w (by rw [beq_eq_false_iff_ne]; omega) (tz_key x _ hx hx0 h1) h3 h2 hc

/-- The lowest bit, and what is left without it. -/
theorem low_bit (x : Nat) (hx : x < 18446744073709551616) (hx0 : x ≠ 0) : Lib.ctz 64 x < 64 ∧ x.testBit (Lib.ctz 64 x) = true ∧ (∀ i, (x &&& (x - 1)).testBit i = (x.testBit i && decide (i ≠ Lib.ctz 64 x))) ∧ x &&& (x - 1) < x := by
  obtain ⟨m, hm, hk⟩ := Lib.ctzFrom_spec 64 x (by omega) (by omega)
  have e : Lib.ctz 64 x = Lib.ctzFrom 64 x := by simp [Lib.ctz, hx0]
  rw [e]
  generalize Lib.ctzFrom 64 x = k at hm hk
  have hp : 0 < 2 ^ k := Nat.two_pow_pos k
  have h1 : x = 2 ^ k * (2 * m + 1) + 0 := by omega
  have h2 : x - 1 = 2 ^ k * (2 * m) + (2 ^ k - 1) := by
    rw [hm, Nat.mul_add, Nat.mul_one]; omega
  have b1 : ∀ i, x.testBit i = if i < k then false else (2 * m + 1).testBit (i - k) := fun i => by
    rw [h1, Nat.testBit_two_pow_mul_add _ hp]; simp
  have b2 : ∀ i, (x - 1).testBit i = if i < k then true else (2 * m).testBit (i - k) := fun i => by
    rw [h2, Nat.testBit_two_pow_mul_add _ (by omega), Nat.testBit_two_pow_sub_one]
    by_cases h : i < k <;> simp [h]
  refine ⟨hk, by rw [b1]; simp [Nat.testBit_zero], fun i => ?_, ?_⟩
  · rw [Nat.testBit_and, b1, b2]
    by_cases h : i < k
    · simp [h]
    · by_cases h' : i = k
      · subst h'; simp [Nat.testBit_zero]
      · obtain ⟨j, rfl⟩ : ∃ j, i = k + (j + 1) := ⟨i - k - 1, by omega⟩
        have e3 : k + (j + 1) - k = j + 1 := by omega
        rw [if_neg h, if_neg h, e3, Nat.testBit_succ, Nat.testBit_succ]
        have d1 : (2 * m + 1) / 2 = m := by omega
        have d2 : 2 * m / 2 = m := by omega
        rw [d1, d2]
        simp
  · have : x &&& (x - 1) ≤ x - 1 := Nat.and_le_right
    omega

/-! ## The reader -/

/-- The blocks of a reader. -/
structure Rd where
  S : Nat
  sv : Nat
  M : Nat
  mv : Nat
  pl : Nat
  nv : Nat
  xv : Nat
  ev : Nat
  kk : Nat
  wk : Nat
  K : Nat
  kv : Nat
  av : Nat

/-- What is written once. -/
structure Stc (w : World) (ρ : Rd) : Prop where
  sv : w.heap[ρ.sv]? = some (.cells #[.pointer (some ⟨ρ.S, 0, none⟩)] 87 (0, 0))
  mv : w.heap[ρ.mv]? = some (.cells #[.map (some ρ.M)] 105 (0, 0))
  nv : w.heap[ρ.nv]? = some (.cells #[.func (.func 48) #[] #[.pointer (some ⟨ρ.mv, 0, none⟩), .pointer (some ⟨ρ.pl, 0, none⟩)]] 91 (0, 0))
  xv : w.heap[ρ.xv]? = some (.cells #[.func (.func 49) #[] #[.pointer (some ⟨ρ.pl, 0, none⟩)]] 91 (0, 0))
  kk : w.heap[ρ.kk]? = some (.cells #[.func (.func 35) #[] #[.pointer (some ⟨ρ.nv, 0, none⟩), .pointer (some ⟨ρ.sv, 0, none⟩), .pointer (some ⟨ρ.ev, 0, none⟩)]] 94 (0, 0))
  wk : w.heap[ρ.wk]? = some (.cells #[.func (.func 37) #[] #[.pointer (some ⟨ρ.sv, 0, none⟩), .pointer (some ⟨ρ.xv, 0, none⟩), .pointer (some ⟨ρ.kk, 0, none⟩)]] 95 (0, 0))
  kv : w.heap[ρ.kv]? = some (.cells #[.map (some ρ.K)] 106 (0, 0))
  av : w.heap[ρ.av]? = some (.cells #[.func (.func 50) #[] #[.pointer (some ⟨ρ.kv, 0, none⟩), .pointer (some ⟨ρ.wk, 0, none⟩)]] 95 (0, 0))

theorem Stc.fx {w w' : World} {ρ : Rd} {X : Nat → Prop} (h : Stc w ρ) (hF : Fx X w w') : Stc w' ρ :=
  ⟨hF.stay _ _ _ (by decide) h.sv, hF.stay _ _ _ (by decide) h.mv, hF.stay _ _ _ (by decide) h.nv, hF.stay _ _ _ (by decide) h.xv, hF.stay _ _ _ (by decide) h.kk, hF.stay _ _ _ (by decide) h.wk, hF.stay _ _ _ (by decide) h.kv, hF.stay _ _ _ (by decide) h.av⟩

/-- Foreign to the shelf: the reader's two other maps. -/
def plus (X : Nat → Prop) (ρ : Rd) : Nat → Prop := fun k => X k ∨ k = ρ.M ∨ k = ρ.K

/-- What a reader has so far: nodes, the terms that have numbers, their places; which match the empty text. (Without what it remembers.) -/
structure Dyn (w : World) (X : Nat → Prop) (ρ : Rd) (n0 : Nat) (root : ARe) (ns : List (Nd Value)) (ts : List D) (pls : List Nat) (en : Nat) : Prop where
  shelf : Shelf w (plus X ρ) ρ.S n0 ns (shelved root)
  nums : ∃ pv, Nums w ρ.M ρ.pl pv pls ∧ ∀ k, pv.ownBlock = some k → ¬ X k
  ev : w.heap[ρ.ev]? = some (.cells #[.int .u64 en] 43 (0, 0))
  nX : ¬ X ρ.M ∧ ¬ X ρ.pl ∧ ¬ X ρ.ev
  reps : F2 (RepD (IsCls w) n0 ns) ts pls
  met : ∀ t ∈ ts, t ∈ met root
  bits : ∀ n, en.testBit n = true ↔ ∃ t, ts[n]? = some t ∧ t.re.nullable = true
  sz : root.sz ≤ 200
  leaves : root.leaves ≤ 60

theorem Dyn.few {w : World} {X : Nat → Prop} {ρ : Rd} {n0 : Nat} {root : ARe} {ns : List (Nd Value)} {ts : List D} {pls : List Nat} {en : Nat} (h : Dyn w X ρ n0 root ns ts pls en) : pls.length ≤ 61 := by
  obtain ⟨pv, hN, _⟩ := h.nums
  have h1 := pigeon (R := fun d k => RepD (IsCls w) n0 ns d k) (fun d b b' r r' => r.func h.shelf.uniq r') (P := Tint.met root) hN.nodup (fun k hk => by
    obtain ⟨i, hi⟩ := List.mem_iff_getElem?.1 hk
    obtain ⟨t, ht, hr⟩ := h.reps.get hi
    exact ⟨t, h.met t (List.mem_of_getElem? ht), hr⟩)
  rw [length_met] at h1
  have := h.leaves
  omega

theorem Dyn.en_lt {w : World} {X : Nat → Prop} {ρ : Rd} {n0 : Nat} {root : ARe} {ns : List (Nd Value)} {ts : List D} {pls : List Nat} {en : Nat} (h : Dyn w X ρ n0 root ns ts pls en) : en < 18446744073709551616 := by
  have h1 := h.few
  rw [← h.reps.length] at h1
  refine Nat.lt_pow_two_of_testBit (n := 64) en fun i hi => ?_
  cases hb : en.testBit i with
  | false => rfl
  | true =>
    obtain ⟨t, ht, _⟩ := (h.bits i).1 hb
    have := get_lt ht
    omega

end Go.Proofs.YtgncgdkpkkdaeaaDoor
