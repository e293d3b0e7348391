/- numbering's two functions. -/
import Derived.Test.YtgncgdkpkkdaeaaDoorR5
namespace Go.Proofs.YtgncgdkpkkdaeaaDoor
open Go.RowKit Tint Go.Maps

theorem Ints.form {w : World} {B : Nat} {v : Value} {xs : List Nat} (h : Ints w B v xs) : ∃ ao cap, v = .slice ao xs.length cap := by
  rcases h.2 with ⟨rfl, h0⟩ | ⟨g, cap, _, rfl, _⟩
  · exact ⟨none, 0, by rw [h0]⟩
  · exact ⟨_, cap, rfl⟩

/-- What was there but for these blocks is as it was. -/
structure Keeps (C : Nat → Prop) (w w' : World) : Prop where
  os : w'.os = w.os
  tape : w'.tape = w.tape
  output : w'.output = w.output
  size : w.heap.size ≤ w'.heap.size
  keep : ∀ k, k < w.heap.size → ¬ C k → w'.heap[k]? = w.heap[k]?

theorem Keeps.refl (C : Nat → Prop) (w : World) : Keeps C w w := ⟨rfl, rfl, rfl, Nat.le_refl _, fun _ _ _ => rfl⟩
theorem Keeps.of_below {C : Nat → Prop} {w w' : World} (h : Below w.heap.size w w') : Keeps C w w' := ⟨h.os, h.tape, h.output, h.size, fun k hk _ => h.block k hk⟩
theorem Keeps.drewN {C : Nat → Prop} {w w' : World} (h : Keeps C w w') (n : Nat) : Keeps C w (w'.drewN n) := ⟨h.os, h.tape, h.output, h.size, h.keep⟩

/-- Numbers that expressions were given: 'pls' has them in their order. -/
structure Nums (w : World) (M pl : Nat) (pv : Value) (pls : List Nat) : Prop where
  var : w.heap[pl]? = some (.cells #[pv] 31 (0, 0))
  row : Ints w 0 pv pls
  map : ∃ m f, MapIs intT 3 .i64 w M m f ∧ m ≤ pls.length ∧ ∀ k c, f k = some c ↔ ∃ n : Nat, c = n ∧ pls[n]? = some k
  nodup : pls.Nodup
  small : ∀ k ∈ pls, k ≤ 1000000000000

/-- The blocks that hold them. -/
def numC (M pl : Nat) (pv : Value) : Nat → Prop := fun k => k = M ∨ k = pl ∨ pv.ownBlock = some k

def NumPost (M pl : Nat) (pv : Value) (pls : List Nat) (k : Nat) (w : World) (e : Ending) (w' : World) : Prop :=
  ∃ (n : Nat) (pv' : Value) (pls' : List Nat), e = .returned (.int .i64 n) ∧ Keeps (numC M pl pv) w w' ∧ Nums w' M pl pv' pls' ∧ pls'[n]? = some k ∧ (pls' = pls ∨ pls' = pls ++ [k]) ∧ (pv'.ownBlock = pv.ownBlock ∨ ∃ b, pv'.ownBlock = some b ∧ w.heap.size ≤ b)

theorem nodup_get {l : List Nat} (hn : l.Nodup) {i j x : Nat} (h1 : l[i]? = some x) (h2 : l[j]? = some x) : i = j := by
  have l1 := get_lt h1
  have l2 := get_lt h2
  rw [List.getElem?_eq_getElem l1] at h1
  rw [List.getElem?_eq_getElem l2] at h2
  exact (List.getElem_inj hn).1 ((Option.some.inj h1).trans (Option.some.inj h2).symm)

set_option maxHeartbeats 1000000 in
theorem number_old (M pl mv : Nat) (pv : Value) (pls : List Nat) (k n : Nat) (w : World) (hN : Nums w M pl pv pls) (hmv : w.heap[mv]? = some (.cells #[.map (some M)] 105 (0, 0))) (hk : k ≤ 1000000000000) (h : pls[n]? = some k) :
    Calls Tryd.prog 48 #[.int .i64 k, .pointer (some ⟨mv, 0, none⟩), .pointer (some ⟨pl, 0, none⟩)] w (NumPost M pl pv pls k w) := by
  obtain ⟨m, f, hM, hm, hf⟩ := hN.map
  have c0 := cell_one hmv
  have hlk := hM.look (t := 105) Tryd.underlying105 Tryd.underlying3 zero_int k hk
  rw [(hf k n).2 ⟨n, rfl, h⟩] at hlk
  have hlk2 : (Instr.lookup 105 (.map (some M)) (.int .i64 k) true).run Tryd.prog w = .ok (.tuple #[.int .i64 n, .bool true]) w := hlk
  have HEND := hide (show NumPost M pl pv pls k w (.returned (.int .i64 n)) w from ⟨n, pv, pls, rfl, Keeps.refl _ _, hN, h, .inl rfl, .inl rfl⟩)
  clear hN hM hm hf hlk hmv h
  go_enter Tryd.func48, Tryd.ntmps48
  go_wp2
  go_ret
  exact HEND.out

/-- Behind the two stores. -/
theorem number_end {M pl k m : Nat} {pv pv' : Value} {pls : List Nat} {f : Nat → Option Int} {w w1 w2 : World} {c : Array Value} (hN : Nums w M pl pv pls) (hk : k ≤ 1000000000000) (hnew : k ∉ pls) (hm : m ≤ pls.length) (hf : ∀ k c, f k = some c ↔ ∃ n : Nat, c = n ∧ pls[n]? = some k)
    (hM1 : MapIs intT 3 .i64 w1 M (m + 1) (fun y => if y = k then some (pls.length : Int) else f y)) (hg1 : w.grownBy w1 (some M)) (hI2 : Ints w2 0 pv' (pls ++ [k])) (hg2 : (w1.alloc (.cells c 3)).grownBy w2 pv.ownBlock)
    (hl2 : pv'.ownBlock = pv.ownBlock ∨ pv'.ownBlock = some (w1.alloc (.cells c 3)).heap.size) :
    w2.heap[pl]? = some (.cells #[pv] 31 (0, 0)) ∧ NumPost M pl pv pls k w (.returned (.int .i64 pls.length)) (w2.setCell ⟨pl, 0, none⟩ pv') := by
  obtain ⟨es, clk, hMo⟩ : ∃ es clk, w.heap[M]? = some (.map es clk) := by obtain ⟨_, _, h, _⟩ := hN.map; exact h.obj
  obtain ⟨es1, clk1, hMo1⟩ := hM1.obj
  have hplM : pl ≠ M := by rintro rfl; rw [hN.var] at hMo; cases hMo
  have hpl1 : w1.heap[pl]? = some (.cells #[pv] 31 (0, 0)) := by
    rw [hg1.block pl (lt_of_get hN.var) (fun e => hplM (Option.some.inj e))]; exact hN.var
  have hrow : ∀ j, pv.ownBlock = some j → ∃ cur, w.heap[j]? = some (.cells cur 3 (0, 0)) := fun j hj => hN.row.block hj
  have hpl2 : w2.heap[pl]? = some (.cells #[pv] 31 (0, 0)) := by
    rw [hg2.block pl (by have := lt_of_get hpl1; simp; omega) (fun e => by
      obtain ⟨cur, hc⟩ := hrow pl e.symm
      rw [hN.var] at hc; simp at hc)]
    exact heap_alloc_old hpl1
  have hM2 : w2.heap[M]? = some (.map es1 clk1) := by
    rw [hg2.block M (by have := lt_of_get hMo1; simp; omega) (fun e => by
      obtain ⟨cur, hc⟩ := hrow M e.symm
      rw [hMo] at hc; cases hc)]
    exact heap_alloc_old hMo1
  refine ⟨hpl2, pls.length, pv', pls ++ [k], rfl, ⟨hg2.os.trans hg1.os, hg2.tape.trans hg1.tape, hg2.output.trans hg1.output, ?_, ?_⟩, ⟨heap_setCell_same w2 pl 0 _ hpl2, ?_, ⟨m + 1, (fun y => if y = k then some (pls.length : Int) else f y), ?_, ?_, ?_⟩, ?_, ?_⟩, ?_, .inr rfl, ?_⟩
  · have h1 := hg1.size
    have h2 := hg2.size
    simp [World.setCell] at h2 ⊢
    omega
  · intro j hj hC
    have hjM : j ≠ M := fun e => hC (.inl e)
    have hjp : j ≠ pl := fun e => hC (.inr (.inl e))
    rw [Below.heap_setCell _ _ _ _ (by exact hjp), hg2.block j (by have := hg1.size; simp; omega) (fun e => hC (.inr (.inr e.symm))), Below.heap_alloc _ _ _ (by have := hg1.size; omega), hg1.block j hj (fun e => hjM (Option.some.inj e))]
  · refine hI2.keepB fun j hj => Below.heap_setCell _ _ _ _ ?_
    obtain ⟨cur, hc⟩ := hI2.block hj
    rintro rfl
    rw [hpl2] at hc
    simp at hc
  · refine hM1.keep ?_
    rw [Below.heap_setCell _ _ _ _ (by exact fun e => hplM e.symm), hM2, hMo1]
  · simp; omega
  · intro x c
    show (if x = k then some (pls.length : Int) else f x) = some c ↔ _
    by_cases e : x = k
    · subst e
      rw [if_pos rfl]
      constructor
      · intro h
        refine ⟨pls.length, by simpa using h.symm, by simp⟩
      · rintro ⟨n, rfl, h⟩
        rcases Nat.lt_or_ge n pls.length with hl | hl
        · rw [List.getElem?_append_left hl] at h
          exact absurd (List.mem_of_getElem? h) hnew
        · have := get_lt h
          simp at this
          rw [show n = pls.length by omega]
    · rw [if_neg e, hf]
      constructor
      · rintro ⟨n, rfl, h⟩; exact ⟨n, rfl, get_append_left h⟩
      · rintro ⟨n, rfl, h⟩
        rcases Nat.lt_or_ge n pls.length with hl | hl
        · rw [List.getElem?_append_left hl] at h; exact ⟨n, rfl, h⟩
        · have := get_lt h
          simp at this
          rw [show n = pls.length by omega] at h
          simp at h
          exact absurd h.symm e
  · exact List.nodup_append.2 ⟨hN.nodup, by simp, fun a ha b hb => by simp at hb; subst hb; rintro rfl; exact hnew ha⟩
  · intro x hx
    rcases List.mem_append.1 hx with h | h
    · exact hN.small x h
    · simp at h; omega
  · simp
  · rcases hl2 with e | e
    · exact .inl e
    · refine .inr ⟨_, e, ?_⟩
      have := hg1.size
      simp; omega

set_option maxHeartbeats 1000000 in
theorem number_new (M pl mv : Nat) (pv : Value) (pls : List Nat) (k : Nat) (w : World) (hN : Nums w M pl pv pls) (hmv : w.heap[mv]? = some (.cells #[.map (some M)] 105 (0, 0))) (hk : k ≤ 1000000000000) (hl : pls.length ≤ 1000000) (h : k ∉ pls) :
    Calls Tryd.prog 48 #[.int .i64 k, .pointer (some ⟨mv, 0, none⟩), .pointer (some ⟨pl, 0, none⟩)] w (NumPost M pl pv pls k w) := by
  obtain ⟨m, f, hM, hm, hf⟩ := hN.map
  have c0 := cell_one hmv
  have c1 := cell_one hN.var
  have hlk := hM.look (t := 105) Tryd.underlying105 Tryd.underlying3 zero_int k hk
  have hnone : f k = none := by
    cases hfk : f k with
    | none => rfl
    | some c => obtain ⟨n, _, h2⟩ := (hf k c).1 hfk; exact absurd (List.mem_of_getElem? h2) h
  rw [hnone] at hlk
  have hlk2 : (Instr.lookup 105 (.map (some M)) (.int .i64 k) true).run Tryd.prog w = .ok (.tuple #[.int .i64 0, .bool false]) w := hlk
  obtain ⟨w1, hrun, hM1, hg1⟩ := hM.store (t := 105) Tryd.underlying105 Tryd.underlying3 (by omega) k hk (pls.length : Int) (wf_nat _ (by omega))
  have hrun2 : (Instr.mapUpdate 105 (.map (some M)) (.int .i64 k) (.int .i64 pls.length)).run Tryd.prog w = .ok () w1 := hrun
  obtain ⟨es, clk, hMo⟩ := hM.obj
  have hplM : pl ≠ M := by rintro rfl; rw [hN.var] at hMo; cases hMo
  have hmvM : mv ≠ M := by rintro rfl; rw [hmv] at hMo; cases hMo
  have hpl1 : w1.heap[pl]? = some (.cells #[pv] 31 (0, 0)) := by
    rw [hg1.block pl (lt_of_get hN.var) (fun e => hplM (Option.some.inj e))]; exact hN.var
  have d1 := cell_one hpl1
  have hI1 : Ints w1 0 pv pls := hN.row.keepB fun j hj => hg1.block j (lt_of_get (hN.row.block hj).choose_spec) (fun e => by
    obtain ⟨cur, hc⟩ := hN.row.block hj
    rw [Option.some.inj e, hMo] at hc; cases hc)
  have hform : ∃ ao cap, pv = .slice ao pls.length cap := by
    rcases hN.row.2 with ⟨rfl, h0⟩ | ⟨g, cap, _, rfl, _⟩
    · exact ⟨none, 0, by rw [h0]⟩
    · exact ⟨_, cap, rfl⟩
  obtain ⟨ao, cap, rfl⟩ := hform
  have hone : Ints (w1.alloc (.cells #[.int .i64 k] 3)) 0 (.slice (some ⟨w1.heap.size, 0, none⟩) 1 1) [k] :=
    ⟨by simp, .inr ⟨w1.heap.size, 1, #[.int .i64 k], rfl, Nat.zero_le _, heap_alloc_last _ _, Nat.le_refl _, by unfold maxLen; omega, rfl, rfl⟩⟩
  have HONE := hide hone
  have HI1 := hide (hI1.keepB (w' := w1.alloc (.cells #[.int .i64 k] 3)) fun j hj => Below.heap_alloc _ _ _ (lt_of_get (hI1.block hj).choose_spec))
  have HN := hide hN
  have HH := hide h
  have HM := hide hm
  have HF := hide hf
  have HM1 := hide hM1
  have HG1 := hide hg1
  clear hN hM hm hf hlk hmv h hI1 hM1 hg1 hrun hMo hnone hpl1 hone
  go_enter Tryd.func48, Tryd.ntmps48
  go_wp2_with (at_builtin; refine wpList_append_ints _ rfl (.tmp 20) (.tmp 22) rfl _ _ pls [k] (by rfl) (by rfl) HI1.out HONE.out (by simp; omega) ?_; intro v' w2 hI2 hg2 hl2; obtain ⟨hp2, hpost⟩ := number_end HN.out hk HH.out HM.out HF.out HM1.out HG1.out hI2 hg2 hl2; have p0 := cell_one hp2; have pf : w2.frozen? ⟨pl, 0, none⟩ = false := (by simp [World.frozen?, hp2]); obtain ⟨ao2, cap2, rfl⟩ := hI2.form; rw [List.length_append, List.length_cons, List.length_nil] at hpost; have HP := hide hpost; clear hI2 hg2 hl2 hp2 hpost)
  go_ret
  exact HP.out

theorem number_any (M pl mv : Nat) (pv : Value) (pls : List Nat) (k : Nat) (w : World) (hN : Nums w M pl pv pls) (hmv : w.heap[mv]? = some (.cells #[.map (some M)] 105 (0, 0))) (hk : k ≤ 1000000000000) (hl : pls.length ≤ 1000000) :
    Calls Tryd.prog 48 #[.int .i64 k, .pointer (some ⟨mv, 0, none⟩), .pointer (some ⟨pl, 0, none⟩)] w (NumPost M pl pv pls k w) := by
  by_cases h : k ∈ pls
  · obtain ⟨n, hn⟩ := List.mem_iff_getElem?.1 h
    exact number_old M pl mv pv pls k n w hN hmv hk hn
  · exact number_new M pl mv pv pls k w hN hmv hk hl h

set_option maxHeartbeats 1000000 in
theorem expressionOf_any (M pl : Nat) (pv : Value) (pls : List Nat) (k n : Nat) (w : World) (hN : Nums w M pl pv pls) (h : pls[n]? = some k) :
    Calls Tryd.prog 49 #[.int .i64 n, .pointer (some ⟨pl, 0, none⟩)] w fun e w' => e = .returned (.int .i64 k) ∧ w' = w := by
  have c1 := cell_one hN.var
  obtain ⟨g, cap, rfl, hc⟩ := hN.row.at h
  have hlt := get_lt h
  clear hN h
  go_enter Tryd.func49, Tryd.ntmps49
  go_wp2
  go_ret
  exact ⟨rfl, rfl⟩
end Go.Proofs.YtgncgdkpkkdaeaaDoor
