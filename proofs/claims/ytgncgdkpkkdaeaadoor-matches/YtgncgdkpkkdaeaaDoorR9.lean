/- mark, the walk. -/
import Derived.Test.YtgncgdkpkkdaeaaDoorR8
namespace Go.Proofs.YtgncgdkpkkdaeaaDoor
open Go.RowKit Tint Go.Maps

theorem Keeps.fx {C X : Nat → Prop} {w w' : World} (h : Keeps C w w') (hX : Old X w) (h1 : ∀ k, C k → ¬ X k) (h2 : ∀ k, C k → ∀ c t fz, w.heap[k]? = some (.cells c t fz) → stable t = false) : Fx X w w' :=
  ⟨h.os, h.tape, h.output, h.size, fun k hk => h.keep k (hX k hk) (fun hc => h1 k hc hk), fun k c t ht hh => by
    rw [h.keep k (lt_of_get hh) (fun hc => by rw [h2 k hc c t _ hh] at ht; cases ht)]
    exact hh⟩

theorem Nums.types {w : World} {M pl : Nat} {pv : Value} {pls : List Nat} (h : Nums w M pl pv pls) {k : Nat} (hk : numC M pl pv k) : ∀ c t fz, w.heap[k]? = some (.cells c t fz) → t = 31 ∨ t = 3 := by
  intro c t fz hh
  rcases hk with rfl | rfl | hk
  · obtain ⟨m, f, hm, _⟩ := h.map
    obtain ⟨es, clk, ho⟩ := hm.obj
    rw [ho] at hh; cases hh
  · rw [h.var] at hh; cases hh; exact .inl rfl
  · obtain ⟨c', hc⟩ := h.row.block hk
    rw [hc] at hh; cases hh; exact .inr rfl

/-- What a new number leaves of the rest. -/
theorem Dyn.numbered {w w' : World} {X : Nat → Prop} {ρ : Rd} {n0 : Nat} {root : ARe} {ns : List (Nd Value)} {ts : List D} {pls : List Nat} {en : Nat} {pv : Value} (h : Dyn w X ρ n0 root ns ts pls en) (hX : Old X w) (hN : Nums w ρ.M ρ.pl pv pls) (hv : ∀ k, pv.ownBlock = some k → ¬ X k) (hk : Keeps (numC ρ.M ρ.pl pv) w w') :
    Fx X w w' ∧ Shelf w' (plus X ρ) ρ.S n0 ns (shelved root) ∧ w'.heap[ρ.ev]? = some (.cells #[.int .u64 en] 43 (0, 0)) := by
  have hF : Fx X w w' := hk.fx hX (fun k hc => by
    rcases hc with rfl | rfl | hc
    · exact h.nX.1
    · exact h.nX.2.1
    · exact hv k hc) (fun k hc c t fz hh => by rcases hN.types hc c t fz hh with rfl | rfl <;> rfl)
  refine ⟨hF, h.shelf.keep hF.staying (fun k o hnp ho hty => ?_) (fun _ h => .inl h), ?_⟩
  · rw [hk.keep k (lt_of_get ho) (fun hc => ?_)]
    · exact ho
    · cases o with
      | cells c t fz =>
        rcases hN.types hc c t fz ho with rfl | rfl
        · rcases hty _ _ _ rfl with e | e <;> cases e
        · rcases hty _ _ _ rfl with e | e <;> cases e
      | _ =>
        rcases hc with rfl | rfl | hc
        · exact hnp (.inr (.inl rfl))
        · rw [hN.var] at ho; cases ho
        · obtain ⟨c', hc'⟩ := hN.row.block hc
          rw [hc'] at ho; cases ho
  · rw [hk.keep ρ.ev (lt_of_get h.ev) (fun hc => by
      rcases hN.types hc _ _ _ h.ev with e | e <;> cases e)]
    exact h.ev

def MarkPost (X : Nat → Prop) (ρ : Rd) (n0 : Nat) (root : ARe) (ns : List (Nd Value)) (ts : List D) (t : D) (w : World) (e : Ending) (w' : World) : Prop :=
  ∃ (n : Nat) (ts' : List D) (pls' : List Nat) (en' : Nat), e = .returned (.int .u64 (2 ^ n : Nat)) ∧ Fx X w w' ∧ Dyn w' X ρ n0 root ns ts' pls' en' ∧ ts'[n]? = some t ∧ (ts' = ts ∨ ts' = ts ++ [t])

theorem mark_end {X : Nat → Prop} {ρ : Rd} {n0 : Nat} {root : ARe} {ns : List (Nd Value)} {ts : List D} {pls pls' : List Nat} {en n k : Nat} {t : D} {pv pv' : Value} {w w1 w2 : World} (hX : Old X w) (hD : Dyn w X ρ n0 root ns ts pls en) (hr : RepD (IsCls w) n0 ns t k) (ht : t ∈ met root) (hv : ∀ k, pv.ownBlock = some k → ¬ X k)
    (hF1 : Fx X w w1) (hS1 : Shelf w1 (plus X ρ) ρ.S n0 ns (shelved root)) (he1 : w1.heap[ρ.ev]? = some (.cells #[.int .u64 en] 43 (0, 0))) (hN1 : Nums w1 ρ.M ρ.pl pv' pls') (hn1 : pls'[n]? = some k) (hp1 : pls' = pls ∨ pls' = pls ++ [k]) (hb1 : pv'.ownBlock = pv.ownBlock ∨ ∃ b, pv'.ownBlock = some b ∧ w.heap.size ≤ b)
    (en' : Nat) (hen : en' = if t.re.nullable then en ||| 2 ^ n else en) (hw2 : w2 = w1 ∧ en' = en ∨ w2 = w1.setCell ⟨ρ.ev, 0, none⟩ (.int .u64 en')) :
    MarkPost X ρ n0 root ns ts t w (.returned (.int .u64 (2 ^ n : Nat))) w2 := by
  have hvX : ∀ j, pv'.ownBlock = some j → ¬ X j := fun j hj hXj => by
    rcases hb1 with e | ⟨b, e, hb⟩
    · rw [e] at hj; exact hv j hj hXj
    · rw [e] at hj
      have := hX j hXj
      have : b = j := Option.some.inj hj
      omega
  -- the second step, where there is one
  have h12 : Fx X w1 w2 ∧ Shelf w2 (plus X ρ) ρ.S n0 ns (shelved root) ∧ Nums w2 ρ.M ρ.pl pv' pls' ∧ w2.heap[ρ.ev]? = some (.cells #[.int .u64 en'] 43 (0, 0)) := by
    rcases hw2 with ⟨rfl, rfl⟩ | rfl
    · exact ⟨Fx.refl _ _, hS1, hN1, he1⟩
    · have hF2 : Fx X w1 (w1.setCell ⟨ρ.ev, 0, none⟩ (.int .u64 en')) := (Fx.refl X w1).setCell hD.nX.2.2 he1 (by rfl) _
      have hne : ∀ j : Nat, j ≠ ρ.ev → (w1.setCell ⟨ρ.ev, 0, none⟩ (.int .u64 en')).heap[j]? = w1.heap[j]? := fun j hj => Below.heap_setCell _ _ _ _ hj
      refine ⟨hF2, hS1.keep hF2.staying (fun j o _ ho hty => ?_) (fun _ h => .inl h), ⟨?_, ?_, ?_, hN1.nodup, hN1.small⟩, heap_setCell_same w1 ρ.ev 0 _ he1⟩
      · rw [hne j (by rintro rfl; rw [he1] at ho; cases ho; rcases hty _ _ _ rfl with e | e <;> cases e)]
        exact ho
      · rw [hne ρ.pl (by intro e; have h9 := hN1.var; rw [e, he1] at h9; simp at h9)]
        exact hN1.var
      · refine hN1.row.keepB fun j hj => hne j ?_
        obtain ⟨c, hc⟩ := hN1.row.block hj
        rintro rfl
        rw [he1] at hc; simp at hc
      · obtain ⟨m, f, hm, h1, h2⟩ := hN1.map
        obtain ⟨es, clk, ho⟩ := hm.obj
        exact ⟨m, f, hm.keep (hne _ (by intro e; rw [e, he1] at ho; cases ho)), h1, h2⟩
  obtain ⟨hF2, hS2, hN2, he2⟩ := h12
  have hF := hF1.trans hF2
  have hst := hF.staying
  have hlen := hD.reps.length
  have hreps : F2 (RepD (IsCls w2) n0 ns) ts pls := hD.reps.mono fun d j h => RepD.world hst h
  have hrw := RepD.world hst hr
  rcases hp1 with rfl | rfl
  · -- an old number
    obtain ⟨t', ht', hr'⟩ := hD.reps.get hn1
    obtain rfl := RepD.inj hr hr'
    refine ⟨n, ts, pls', en', rfl, hF, ⟨hS2, ⟨pv', hN2, hvX⟩, he2, hD.nX, hreps, hD.met, ?_, hD.sz, hD.leaves⟩, ht', .inl rfl⟩
    intro m
    rw [hen]
    cases hnl : t.re.nullable with
    | false => simpa using hD.bits m
    | true =>
      simp only [if_true]
      rw [Nat.testBit_or, Bool.or_eq_true, hD.bits m, Nat.testBit_two_pow]
      constructor
      · rintro (h | h)
        · exact h
        · simp at h; subst h; exact ⟨t, ht', hnl⟩
      · exact .inl
  · -- a new one
    have hn : n = pls.length := nodup_get hN1.nodup hn1 (by simp)
    subst hn
    have htl : ∀ m t', (ts ++ [t])[m]? = some t' ↔ ts[m]? = some t' ∨ (m = pls.length ∧ t' = t) := by
      intro m t'
      rcases Nat.lt_trichotomy m ts.length with h | h | h
      · rw [List.getElem?_append_left h]
        exact ⟨.inl, fun h' => h'.elim id (fun h'' => by omega)⟩
      · subst h
        rw [List.getElem?_append_right (Nat.le_refl _)]
        simp [hlen, eq_comm]
      · rw [List.getElem?_eq_none (by simp; omega), List.getElem?_eq_none (by omega)]
        simp; omega
    refine ⟨pls.length, ts ++ [t], pls ++ [k], en', rfl, hF, ⟨hS2, ⟨pv', hN2, hvX⟩, he2, hD.nX, hreps.snoc hrw, ?_, ?_, hD.sz, hD.leaves⟩, (htl _ _).2 (.inr ⟨rfl, rfl⟩), .inr rfl⟩
    · intro x hx
      rcases List.mem_append.1 hx with h | h
      · exact hD.met x h
      · simp at h; rw [h]; exact ht
    · intro m
      rw [hen]
      cases hnl : t.re.nullable with
      | false =>
        simp only [Bool.false_eq_true, if_false]
        rw [hD.bits m]
        constructor
        · rintro ⟨x, hx, hx2⟩; exact ⟨x, (htl m x).2 (.inl hx), hx2⟩
        · rintro ⟨x, hx, hx2⟩
          rcases (htl m x).1 hx with h | ⟨_, rfl⟩
          · exact ⟨x, h, hx2⟩
          · rw [hnl] at hx2; cases hx2
      | true =>
        simp only [if_true]
        rw [Nat.testBit_or, Bool.or_eq_true, hD.bits m, Nat.testBit_two_pow]
        constructor
        · rintro (⟨x, hx, hx2⟩ | h)
          · exact ⟨x, (htl m x).2 (.inl hx), hx2⟩
          · simp at h; subst h; exact ⟨t, (htl _ _).2 (.inr ⟨rfl, rfl⟩), hnl⟩
        · rintro ⟨x, hx, hx2⟩
          rcases (htl m x).1 hx with h | ⟨rfl, rfl⟩
          · exact .inl ⟨x, h, hx2⟩
          · exact .inr (by simp)

theorem two_pow_lt {n : Nat} (h : n < 64) : 2 ^ n < 18446744073709551616 := Nat.pow_lt_pow_right (a := 2) (m := n) (n := 64) (by omega) h

theorem wrap_two_pow {n : Nat} (h : n < 64) : IntKind.u64.wrap ((2 : Int) ^ n) = ((2 ^ n : Nat) : Int) := by
  have h1 := two_pow_lt h
  have h2 : ((2 ^ n : Nat) : Int) = (2 : Int) ^ n := by simp
  rw [← h2, IntKind.wrap_u64]
  generalize 2 ^ n = m at h1
  omega

theorem Enters47 : Enters 48 := fun _ _ => by rfl

set_option maxHeartbeats 1000000 in
theorem mark_any (X : Nat → Prop) (ρ : Rd) (n0 : Nat) (root : ARe) (ns : List (Nd Value)) (ts : List D) (pls : List Nat) (en : Nat) (t : D) (k : Nat) (w : World) (hX : Old X w) (hD : Dyn w X ρ n0 root ns ts pls en) (hs : Stc w ρ) (hr : RepD (IsCls w) n0 ns t k) (ht : t ∈ met root) :
    Calls Tryd.prog 35 #[.int .i64 k, .pointer (some ⟨ρ.nv, 0, none⟩), .pointer (some ⟨ρ.sv, 0, none⟩), .pointer (some ⟨ρ.ev, 0, none⟩)] w (MarkPost X ρ n0 root ns ts t w) := by
  obtain ⟨pv, hN, hv⟩ := hD.nums
  have c0 := cell_one hs.nv
  have hkl := hr.lt
  have hlen := hD.shelf.length
  have hnum := number_any ρ.M ρ.pl ρ.mv pv pls k w hN hs.mv (by omega) (by have := hD.few; omega)
  have HNUM := hide hnum
  have HX := hide hX
  have HD := hide hD
  have HS := hide hs
  have HR := hide hr
  have HT := hide ht
  have HN := hide hN
  have HV := hide hv
  clear hX hD hs hr ht hN hv hnum
  go_enter Tryd.func35, Tryd.ntmps35
  go_wp2_with fail
  refine HNUM.out.mono ?_
  rintro e w1 ⟨n, pv', pls', rfl, hK1, hN1, hn1, hp1, hb1⟩
  obtain ⟨hF1, hS1, he1⟩ := HD.out.numbered HX.out HN.out HV.out hK1
  have hs1 := HS.out.fx hF1
  have hr1 := RepD.world hF1.staying HR.out
  obtain ⟨g, len, cap, f0, f1, f2, f4⟩ := hS1.flag hr1
  have s0 := cell_one hs1.sv
  have x0 := cell_one he1
  have xf : w1.frozen? ⟨ρ.ev, 0, none⟩ = false := by simp [World.frozen?, he1]
  have hn64 : n < 64 := by
    have h1 := get_lt hn1
    have h2 := HD.out.few
    rcases hp1 with rfl | rfl
    · omega
    · simp at h1; omega
  have HF1 := hide hF1
  have HS1 := hide hS1
  have HE1 := hide he1
  have HR1 := hide hr1
  have HN1 := hide hN1
  have Hn1 := hide hn1
  have HP1 := hide hp1
  have HB1 := hide hb1
  clear hF1 hS1 he1 hr1 hN1 hn1 hp1 hb1 hK1 hs1
  cases hnl : t.re.nullable with
  | false =>
    rw [hnl] at f4
    have HEND := hide (mark_end HX.out HD.out HR.out HT.out HV.out HF1.out HS1.out HE1.out HN1.out Hn1.out HP1.out HB1.out en (by rw [hnl]; rfl) (.inl ⟨rfl, rfl⟩))
    clear hnl
    go_wp2_with fail
    go_ret
    have hwp := wrap_two_pow hn64
    simp only [hwp]
    exact HEND.out
  | true =>
    rw [hnl] at f4
    have HEND := hide (mark_end HX.out HD.out HR.out HT.out HV.out HF1.out HS1.out HE1.out HN1.out Hn1.out HP1.out HB1.out (en ||| 2 ^ n) (by rw [hnl]; rfl) (.inr rfl))
    have hor := bits_or_u64_nat en (2 ^ n) HD.out.en_lt (two_pow_lt hn64)
    have HOR := hide hor
    clear hnl hor
    go_wp2_with fail
    go_ret
    have hwp := wrap_two_pow hn64
    simp only [hwp]
    rw [HOR.out]
    exact HEND.out
end Go.Proofs.YtgncgdkpkkdaeaaDoor
