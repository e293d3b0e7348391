/- join. -/
import Derived.Test.YtgncgdkpkkdaeaaDoorR0
namespace Go.Proofs.YtgncgdkpkkdaeaaDoor
open Go.RowKit Tint Go.Maps

theorem zero_int (w : World) : (zeroValue 3).run Tryd.prog w = .ok (.int .i64 0) w := by kernel_rfl

def JoinPost (X : Nat → Prop) (S n0 : Nat) (ns : List (Nd Value)) (Q : List D) (t : D) (w : World) (e : Ending) (w' : World) : Prop :=
  ∃ (j : Nat) (ms : List (Nd Value)), e = .returned (.int .i64 j) ∧ Fx X w w' ∧ Shelf w' X S n0 (ns ++ ms) Q ∧ RepD (IsCls w') n0 (ns ++ ms) t j

set_option maxHeartbeats 1000000 in
theorem join_zero (X : Nat → Prop) (S n0 : Nat) (ns : List (Nd Value)) (Q : List D) (x : D) (a : ARe) (w : World) (hS : Shelf w X S n0 ns Q) (hx : RepD (IsCls w) n0 ns x 0) (hal : a.lt n0) (hr : Rep (IsCls w) ns a) :
    Calls Tryd.prog 57 #[.pointer (some ⟨S, 0, none⟩), .int .i64 0, .int .i64 a.ix] w (JoinPost X S n0 ns Q (tcat x a) w) := by
  have HAL := hide hal
  clear hal
  have hz := hx.zero hS.pos
  subst hz
  have HS := hide hS
  have HR := hide hr
  clear hS hr hx
  go_enter Tryd.func57, Tryd.ntmps57
  go_wp2
  go_ret
  exact ⟨a.ix, [], by simp, Fx.refl _ _, by simpa using HS.out, by simpa using ⟨rfl, HAL.out, HR.out⟩⟩

set_option maxHeartbeats 1000000 in
theorem join_found (X : Nat → Prop) (S n0 : Nat) (ns : List (Nd Value)) (Q : List D) (x : D) (a : ARe) (k : Nat) (w : World) (hX : Old X w) (hS : Shelf w X S n0 ns Q) (hx : RepD (IsCls w) n0 ns x k) (hk : k ≠ 0) (hal : a.lt n0) (hr : Rep (IsCls w) ns a)
    (sv : Value) (J m : Nat) (f : Nat × Nat → Option Int) (h1 : w.heap[S]? = some (.cells #[sv, .map (some J)] 90 (0, 0))) (h4 : MapIs pairT 3 .i64 w J m f) (j : Nat) (hf : f (k, a.ix) = some (j : Int)) (hn : n0 ≤ j) (hd : Value) (e : Bool) (hj : ns[j]? = some ⟨2, hd, k, a.ix, e⟩) :
    Calls Tryd.prog 57 #[.pointer (some ⟨S, 0, none⟩), .int .i64 k, .int .i64 a.ix] w (JoinPost X S n0 ns Q (tcat x a) w) := by
  have hlen := hS.length
  have ha := hal.lt_ix
  have HAL := hide hal
  clear hal
  have hkl := hx.lt
  have hsm := hS.small
  have hk0 : ((k : Int) == 0) = false := by rw [beq_eq_false_iff_ne]; omega
  have c1 : w.cell? ⟨S, 1, none⟩ = some (.map (some J)) := by simp [World.cell?, h1]
  have c1' := cell_alloc_old c1
  have hlk : ∀ n, (Instr.lookup 88 (.map (some J)) (.agg #[.int .i64 k, .int .i64 a.ix]) true).run Tryd.prog ((w.alloc (.cells #[.int .i64 k, .int .i64 a.ix] 120)).drewN n) = .ok (.tuple #[.int .i64 j, .bool true]) ((w.alloc (.cells #[.int .i64 k, .int .i64 a.ix] 120)).drewN n) := by
    intro n
    have h5 : MapIs pairT 3 .i64 ((w.alloc (.cells #[.int .i64 k, .int .i64 a.ix] 120)).drewN n) J m f := h4.keep (Below.heap_alloc _ _ _ h4.lt)
    have h6 := h5.look (t := 88) Tryd.underlying88 Tryd.underlying3 zero_int (k, a.ix) ⟨by show k ≤ _; omega, by show a.ix ≤ _; omega⟩
    rw [hf] at h6
    exact h6
  have HS := hide hS
  have HX := hide hx
  have HR := hide hr
  have HJ := hide hj
  have HO := hide hX
  clear hS hx hr hj hX h1 h4 hf hkl hlen
  go_enter Tryd.func57, Tryd.ntmps57
  go_wp2_with fail
  go_quiet (fail)
  go_wp2
  go_ret
  have hb : Below w.heap.size w ((w.alloc (.cells #[.int .i64 k, .int .i64 a.ix] 120)).drewN nq) := Below.drewN' ((Below.refl _ _).alloc (Nat.le_refl _) _) nq
  have hX' := RepD.world (Stay.of_below hb) HX.out
  have hR' := HR.out.world (Stay.of_below hb)
  refine ⟨j, [], by simp, Fx.of_below HO.out hb, by simpa using HS.out.below hb, ?_⟩
  rw [HX.out.pos hk a]
  simp only [List.append_nil]
  refine ⟨hn, HAL.out, hR', k, hk, hX', hd, ?_⟩
  rw [← HS.out.node hn HJ.out HX.out HR.out]
  exact HJ.out

theorem join_mid {w W1 w1 : World} {c : Array Value} {k i : Nat} {b em : Bool} (hB : Below w.heap.size w W1) (hT : W1.heap[w.heap.size]? = some (.cells c 120 (0, 0)))
    (hb1 : Below (W1.alloc (.cells #[.int .i64 2, .nilFunc, .int .i64 k, .int .i64 i, .bool em] 84)).drew.heap.size (W1.alloc (.cells #[.int .i64 2, .nilFunc, .int .i64 k, .int .i64 i, .bool em] 84)).drew w1) :
    Below w.heap.size w (w1.setCell ⟨W1.heap.size, 4, none⟩ (.bool b)) ∧ (w1.setCell ⟨W1.heap.size, 4, none⟩ (.bool b)).heap[w.heap.size]? = some (.cells c 120 (0, 0)) ∧
      (w1.setCell ⟨W1.heap.size, 4, none⟩ (.bool b)).heap[W1.heap.size]? = some (.cells #[.int .i64 2, .nilFunc, .int .i64 k, .int .i64 i, .bool b] 84 (0, 0)) := by
  have hs : w.heap.size ≤ W1.heap.size := hB.size
  have hTl := lt_of_get hT
  have hb2 : Below W1.heap.size W1 w1 := by
    have h3 : Below W1.heap.size W1 (W1.alloc (.cells #[.int .i64 2, .nilFunc, .int .i64 k, .int .i64 i, .bool em] 84)).drew := ((Below.refl _ _).alloc (Nat.le_refl _) _).drew
    exact h3.trans (hb1.mono (by simp))
  refine ⟨(hB.trans (hb2.mono hs)).setCell hs _, ?_, ?_⟩
  · rw [Below.heap_setCell _ _ _ _ (by show w.heap.size ≠ W1.heap.size; omega), hb2.block _ hTl]; exact hT
  · refine heap_setCell_same w1 W1.heap.size 4 _ (c := #[.int .i64 2, .nilFunc, .int .i64 k, .int .i64 i, .bool em]) ?_
    rw [hb1.block _ (by simp)]
    exact heap_alloc_last _ _

/-- Behind the append and its store. -/
theorem join_app {X : Nat → Prop} {S n0 J m : Nat} {ns : List (Nd Value)} {Q : List D} {f : Nat × Nat → Option Int} {w W2 w3 : World} {sv v' : Value} {nd : Nd Value} {c c' : Array Value} {t : TypeId} {T : Nat} (hfm : Form nd.has) (hX : Old X w) (hS : Shelf w X S n0 ns Q)
    (h1 : w.heap[S]? = some (.cells #[sv, .map (some J)] 90 (0, 0))) (hL : Lists w 0 sv ns) (hLX : ∀ k, sv.ownBlock = some k → ¬ X k) (h4 : MapIs pairT 3 .i64 w J m f) (hB : Below w.heap.size w W2) (hT : W2.heap[T]? = some (.cells c 120 (0, 0)))
    (hown : w3.ownsRow 0 84 5 v' (ns.length + 1) (nsCells ns ++ ndCells nd)) (hg : (W2.alloc (.cells c' t)).drew.grownBy w3 sv.ownBlock) (hloc : v'.ownBlock = sv.ownBlock ∨ v'.ownBlock = some (W2.alloc (.cells c' t)).drew.heap.size) :
    w3.heap[S]? = some (.cells #[sv, .map (some J)] 90 (0, 0)) ∧ (w3.setCell ⟨S, 0, none⟩ v').heap[S]? = some (.cells #[v', .map (some J)] 90 (0, 0)) ∧ Lists (w3.setCell ⟨S, 0, none⟩ v') 0 v' (ns ++ [nd]) ∧
      (∀ k, v'.ownBlock = some k → ¬ X k) ∧ (w3.setCell ⟨S, 0, none⟩ v').heap[T]? = some (.cells c 120 (0, 0)) ∧ MapIs pairT 3 .i64 (w3.setCell ⟨S, 0, none⟩ v') J m f ∧ Fx X w (w3.setCell ⟨S, 0, none⟩ v') := by
  have hbA : Below w.heap.size w (W2.alloc (.cells c' t)).drew := (hB.alloc hB.size _).drew
  have hSl := lt_of_get h1
  have hA1 : (W2.alloc (.cells c' t)).drew.heap[S]? = some (.cells #[sv, .map (some J)] 90 (0, 0)) := (hbA.block S hSl).trans h1
  have hLl : ∀ k, sv.ownBlock = some k → ∃ cur, (W2.alloc (.cells c' t)).drew.heap[k]? = some (.cells cur 84 (0, 0)) := fun k hk => by
    obtain ⟨_, cur, hc⟩ := hL.block hk
    exact ⟨cur, (hbA.block k (lt_of_get hc)).trans hc⟩
  have hS3 : w3.heap[S]? = some (.cells #[sv, .map (some J)] 90 (0, 0)) := by
    rw [hg.block S (lt_of_get hA1) (fun e => by obtain ⟨cur, hc⟩ := hLl S e.symm; rw [hA1] at hc; simp at hc)]
    exact hA1
  have hT3 : w3.heap[T]? = some (.cells c 120 (0, 0)) := by
    have hTA : (W2.alloc (.cells c' t)).drew.heap[T]? = some (.cells c 120 (0, 0)) := heap_alloc_old hT
    rw [hg.block T (lt_of_get hTA) (fun e => by obtain ⟨cur, hc⟩ := hLl T e.symm; rw [hTA] at hc; simp at hc)]
    exact hTA
  obtain ⟨es, clk, hJ⟩ := h4.obj
  have hJA : (W2.alloc (.cells c' t)).drew.heap[J]? = some (.map es clk) := (hbA.block J (lt_of_get hJ)).trans hJ
  have hJ3 : w3.heap[J]? = some (.map es clk) := by
    rw [hg.block J (lt_of_get hJA) (fun e => by obtain ⟨cur, hc⟩ := hLl J e.symm; rw [hJA] at hc; simp at hc)]
    exact hJA
  have hL3 : Lists w3 0 v' (ns ++ [nd]) := by
    refine ⟨?_, fun d hd => ?_⟩
    · rw [nsCells_append]
      simpa [nsCells] using hown
    · rcases List.mem_append.1 hd with h | h
      · exact hL.2 d h
      · simp only [List.mem_singleton] at h
        rw [h]; exact hfm
  have hF3 : Fx X w w3 := (Fx.of_below hX hbA).grown hg (hX.mono hbA.size) (fun k hk => hLX k hk) (fun k hk c2 t2 fz h => by
    obtain ⟨cur, hc⟩ := hLl k hk
    rw [hc] at h
    cases h
    rfl)
  refine ⟨hS3, ?_, ?_, ?_, ?_, ?_, hF3.setCell hS.notX hS3 (by rfl) _⟩
  · exact heap_setCell_same w3 S 0 _ hS3
  · refine hL3.keep fun k hk => Below.heap_setCell _ _ _ _ ?_
    obtain ⟨_, cur, hc⟩ := hL3.block hk
    rintro rfl
    rw [hS3] at hc
    simp at hc
  · intro k hk hXk
    rcases hloc with e | e
    · rw [e] at hk; exact hLX k hk hXk
    · rw [e] at hk
      simp only [Option.some.injEq] at hk
      have h5 := hX k hXk
      have h6 := hbA.size
      omega
  · rw [Below.heap_setCell _ _ _ _ (by
      rintro rfl
      rw [hS3] at hT3
      simp at hT3)]
    exact hT3
  · refine h4.keep ?_
    rw [Below.heap_setCell _ _ _ _ (by
      rintro rfl
      rw [hS3] at hJ3
      simp at hJ3), hJ3, hJ]

/-- Behind the store into the map. -/
theorem join_end {X : Nat → Prop} {S n0 J m k : Nat} {ns : List (Nd Value)} {Q : List D} {f : Nat × Nat → Option Int} {w W4 W5 : World} {v' : Value} {x : D} {a : ARe} (hX : Old X w) (hS : Shelf w X S n0 ns Q) (hx : RepD (IsCls w) n0 ns x k) (hk : k ≠ 0) (hal : a.lt n0) (hr : Rep (IsCls w) ns a) (hQ : tcat x a ∈ Q)
    (hf : f (k, a.ix) = none) (hm : m + n0 ≤ ns.length) (p1 : ∀ l r c, f (l, r) = some c → ∃ j : Nat, c = j ∧ n0 ≤ j ∧ ∃ h e, ns[j]? = some ⟨2, h, l, r, e⟩) (p2 : ∀ (j : Nat) nd, n0 ≤ j → ns[j]? = some nd → nd.kind = 2 ∧ f (nd.left, nd.right) = some (j : Int)) (hJX : ¬ X J)
    (h1 : W4.heap[S]? = some (.cells #[v', .map (some J)] 90 (0, 0))) (hL : Lists W4 0 v' (ns ++ [⟨2, .nilFunc, k, a.ix, x.re.nullable && a.re.nullable⟩])) (hv : ∀ k, v'.ownBlock = some k → ¬ X k) (hF : Fx X w W4)
    (h4 : MapIs pairT 3 .i64 W5 J (m + 1) (fun y => if y = (k, a.ix) then some (ns.length : Int) else f y)) (hg : W4.drew.grownBy W5 (some J)) (hJ : ∃ es clk, W4.heap[J]? = some (.map es clk)) :
    JoinPost X S n0 ns Q (tcat x a) w (.returned (.int .i64 ns.length)) W5 := by
  obtain ⟨es, clk, hJ⟩ := hJ
  have hF5 : Fx X w W5 := hF.drew.grown hg (hX.mono hF.size) (fun j hj => by cases hj; exact hJX) (fun j hj c t fz h => by cases hj; rw [show W4.drew.heap[J]? = some (.map es clk) from hJ] at h; cases h)
  have hst := hF5.staying
  have hn : ∀ (i : Nat) nd, ns[i]? = some nd → (ns ++ [⟨2, .nilFunc, k, a.ix, x.re.nullable && a.re.nullable⟩])[i]? = some nd := fun i nd h => get_append_left h
  have hlast : (ns ++ [(⟨2, .nilFunc, k, a.ix, x.re.nullable && a.re.nullable⟩ : Nd Value)])[ns.length]? = some ⟨2, .nilFunc, k, a.ix, x.re.nullable && a.re.nullable⟩ := ix_last _
  have hkeep : ∀ j : Nat, j ≠ J → j < W4.heap.size → W5.heap[j]? = W4.heap[j]? := fun j hj hl => hg.block j hl (fun e => hj (Option.some.inj e))
  have hrep : RepD (IsCls W5) n0 (ns ++ [⟨2, .nilFunc, k, a.ix, x.re.nullable && a.re.nullable⟩]) (tcat x a) ns.length := by
    rw [hx.pos hk a]
    exact ⟨hS.le, hal, (hr.world hst).append, k, hk, (RepD.world hst hx).append, .nilFunc, hlast⟩
  refine ⟨ns.length, [⟨2, .nilFunc, k, a.ix, x.re.nullable && a.re.nullable⟩], rfl, hF5, ⟨hS.notX, ⟨v', J, m + 1, _, ?_, ?_, hv, h4, hJX, ?_, ?_, ?_⟩, hS.pos, ?_, hS.small, (hS.eps.world hst).append, ?_, hS.few⟩, hrep⟩
  · rw [hkeep S (by rintro rfl; rw [h1] at hJ; cases hJ) (lt_of_get h1)]; exact h1
  · refine hL.keep fun j hj => ?_
    obtain ⟨_, cur, hc⟩ := hL.block hj
    exact hkeep j (by rintro rfl; rw [hc] at hJ; cases hJ) (lt_of_get hc)
  · simp only [List.length_append, List.length_cons, List.length_nil]; omega
  · intro l r c hc
    by_cases e : (l, r) = (k, a.ix)
    · rw [if_pos e] at hc
      simp only [Prod.mk.injEq] at e
      obtain ⟨rfl, rfl⟩ := e
      refine ⟨ns.length, by simpa using hc.symm, hS.le, _, _, hlast⟩
    · rw [if_neg e] at hc
      obtain ⟨j, h2, h3, hh, ee, h5⟩ := p1 l r c hc
      exact ⟨j, h2, h3, hh, ee, hn _ _ h5⟩
  · intro j nd hj hnd
    rcases Nat.lt_or_ge j ns.length with hlt | hge
    · rw [List.getElem?_append_left hlt] at hnd
      obtain ⟨q1, q2⟩ := p2 j nd hj hnd
      refine ⟨q1, ?_⟩
      by_cases e : (nd.left, nd.right) = (k, a.ix)
      · rw [e, hf] at q2; cases q2
      · rw [if_neg e]; exact q2
    · have hj2 : j = ns.length := by
        have := get_lt hnd
        simp at this; omega
      subst hj2
      rw [hlast] at hnd
      cases hnd
      exact ⟨rfl, by simp⟩
  · simp only [List.length_append, List.length_cons, List.length_nil]; have := hS.le; omega
  · intro j hj hl
    rcases Nat.lt_or_ge j ns.length with hlt | hge
    · obtain ⟨d, hd, hr2⟩ := hS.terms j hj hlt
      exact ⟨d, hd, (RepD.world hst hr2).append⟩
    · have hj2 : j = ns.length := by simp at hl; omega
      subst hj2
      exact ⟨_, hQ, hrep⟩

set_option maxHeartbeats 2000000 in
theorem join_new (X : Nat → Prop) (S n0 : Nat) (ns : List (Nd Value)) (Q : List D) (x : D) (a : ARe) (k : Nat) (w : World) (hX : Old X w) (hS : Shelf w X S n0 ns Q) (hx : RepD (IsCls w) n0 ns x k) (hk : k ≠ 0) (hal : a.lt n0) (hr : Rep (IsCls w) ns a) (hQ : tcat x a ∈ Q)
    (sv : Value) (J m : Nat) (f : Nat × Nat → Option Int) (h1 : w.heap[S]? = some (.cells #[sv, .map (some J)] 90 (0, 0))) (hL : Lists w 0 sv ns) (hLX : ∀ k, sv.ownBlock = some k → ¬ X k) (h4 : MapIs pairT 3 .i64 w J m f) (hf : f (k, a.ix) = none) (hJX : ¬ X J) (hm : m + n0 ≤ ns.length)
    (p1 : ∀ l r c, f (l, r) = some c → ∃ j : Nat, c = j ∧ n0 ≤ j ∧ ∃ h e, ns[j]? = some ⟨2, h, l, r, e⟩) (p2 : ∀ (j : Nat) nd, n0 ≤ j → ns[j]? = some nd → nd.kind = 2 ∧ f (nd.left, nd.right) = some (j : Int)) :
    Calls Tryd.prog 57 #[.pointer (some ⟨S, 0, none⟩), .int .i64 k, .int .i64 a.ix] w (JoinPost X S n0 ns Q (tcat x a) w) := by
  have hlen := hS.length
  have ha := hal.lt_ix
  have HAL := hide hal
  clear hal
  have hkl := hx.lt
  have hsm := hS.small
  have hk0 : ((k : Int) == 0) = false := by rw [beq_eq_false_iff_ne]; omega
  have c1 : w.cell? ⟨S, 1, none⟩ = some (.map (some J)) := by simp [World.cell?, h1]
  have c0 : w.cell? ⟨S, 0, none⟩ = some sv := by simp [World.cell?, h1]
  have c1' := cell_alloc_old c1
  have c0' := fun o p => cell_alloc_old (cell_alloc_old c0 o) p
  have hlk : ∀ n, (Instr.lookup 88 (.map (some J)) (.agg #[.int .i64 k, .int .i64 a.ix]) true).run Tryd.prog ((w.alloc (.cells #[.int .i64 k, .int .i64 a.ix] 120)).drewN n) = .ok (.tuple #[.int .i64 0, .bool false]) ((w.alloc (.cells #[.int .i64 k, .int .i64 a.ix] 120)).drewN n) := by
    intro n
    have h5 : MapIs pairT 3 .i64 ((w.alloc (.cells #[.int .i64 k, .int .i64 a.ix] 120)).drewN n) J m f := h4.keep (Below.heap_alloc _ _ _ h4.lt)
    have h6 := h5.look (t := 88) Tryd.underlying88 Tryd.underlying3 zero_int (k, a.ix) ⟨by show k ≤ _; omega, by show a.ix ≤ _; omega⟩
    rw [hf] at h6
    exact h6
  obtain ⟨y, hy, hye⟩ := hx.empty
  obtain ⟨z, hz, hze⟩ := hr.empty
  have HE := hide (show Emp ns 2 k a.ix (x.re.nullable && a.re.nullable) from .inr (.inr (.inr (.inl ⟨rfl, y, z, hy, hz, by rw [hye, hze]⟩))))
  have HS := hide hS
  have HX := hide hx
  have HR := hide hr
  have HO := hide hX
  have HL := hide hL
  have H1 := hide h1
  have H4 := hide h4
  have HF := hide hf
  have HQ := hide hQ
  have HLX := hide hLX
  have HJX := hide hJX
  have HM := hide hm
  have HP1 := hide p1
  have HP2 := hide p2
  have hnpos : 0 < ns.length := by have := hS.pos; have := hS.le; omega
  obtain ⟨g, cap, rfl⟩ := own_form hL.1 hnpos
  obtain ⟨i0, hi, hz0, hz1, hz3⟩ := info_parts info_expr
  clear hS hx hr hX h1 h4 hf hkl hL hQ hy hye hz hze hLX hJX hm p1 p2
  go_enter Tryd.func57, Tryd.ntmps57
  go_wp2_with fail
  go_quiet (fail)
  clear hlk
  have hbW : Below w.heap.size w ((w.alloc (.cells #[.int .i64 k, .int .i64 a.ix] 120)).drewN nq) := Below.drewN' ((Below.refl _ _).alloc (Nat.le_refl _) _) nq
  have hTW : ((w.alloc (.cells #[.int .i64 k, .int .i64 a.ix] 120)).drewN nq).heap[w.heap.size]? = some (.cells #[.int .i64 k, .int .i64 a.ix] 120 (0, 0)) := heap_alloc_last w _
  generalize (w.alloc (.cells #[.int .i64 k, .int .i64 a.ix] 120)).drewN nq = W1 at hbW hTW ⊢
  have HB1 := hide hbW
  have HT1 := hide hTW
  have HS1 := hide (HS.out.below hbW)
  have HL1 := hide (HL.out.keep (fun k hk => hbW.block k (lt_of_get (HL.out.block hk).2.choose_spec)))
  have hq1 : W1.heap[S]? = some (.cells #[.slice (some ⟨g, 0, none⟩) ns.length cap, .map (some J)] 90 (0, 0)) := (hbW.block S (lt_of_get H1.out)).trans H1.out
  have HQ1 := hide hq1
  have d0 : W1.cell? ⟨S, 0, none⟩ = some (.slice (some ⟨g, 0, none⟩) ns.length cap) := by simp [World.cell?, hq1]
  have d0' := cell_alloc_old d0
  clear hbW hTW hq1 c0 c0' c1 c1'
  go_wp2_with fail
  have HL2 := hide (HL1.out.alloc (.cells #[.int .i64 2, .nilFunc, .int .i64 k, .int .i64 a.ix, .bool false] 84))
  go_region_with (go_at_call 47; refine (matchesEmpty_any 0 (.slice (some ⟨g, 0, none⟩) ns.length cap) ns 2 k a.ix .nilFunc false (x.re.nullable && a.re.nullable) _ (by exact HL2.out) HE.out).mono ?_; rintro e w1 ⟨rfl, hb1⟩; obtain ⟨hc1, hf1⟩ := bcell hb1)
  all_goals
    obtain ⟨hB2, hT2, hE2⟩ := join_mid (b := x.re.nullable && a.re.nullable) HB1.out HT1.out hb1
    clear hc1 hf1 hb1 HL1 HL2 d0 d0'
    obtain ⟨W2, hW2⟩ : ∃ W, W = w1.setCell ⟨W1.heap.size, 4, none⟩ (.bool (x.re.nullable && a.re.nullable)) := ⟨_, rfl⟩
    rw [← hW2] at hB2 hT2 hE2 ⊢
    clear hW2
    have hq2 : W2.heap[S]? = some (.cells #[.slice (some ⟨g, 0, none⟩) ns.length cap, .map (some J)] 90 (0, 0)) := (hB2.block S (lt_of_get H1.out)).trans H1.out
    have HL2 := hide (HL.out.keep (fun k hk => hB2.block k (lt_of_get (HL.out.block hk).2.choose_spec)))
    have s0 : W2.cell? ⟨S, 0, none⟩ = some (.slice (some ⟨g, 0, none⟩) ns.length cap) := by simp [World.cell?, hq2]
    have s0' := cell_alloc_old s0
    have e0 : W2.cell? ⟨W1.heap.size, 0, none⟩ = some (.int .i64 2) := by simp [World.cell?, hE2]
    have e1 : W2.cell? ⟨W1.heap.size, 1, none⟩ = some .nilFunc := by simp [World.cell?, hE2]
    have e2 : W2.cell? ⟨W1.heap.size, 2, none⟩ = some (.int .i64 k) := by simp [World.cell?, hE2]
    have e3 : W2.cell? ⟨W1.heap.size, 3, none⟩ = some (.int .i64 a.ix) := by simp [World.cell?, hE2]
    have e4 : W2.cell? ⟨W1.heap.size, 4, none⟩ = some (.bool (x.re.nullable && a.re.nullable)) := by simp [World.cell?, hE2]
    have HB2 := hide hB2
    have HT2 := hide hT2
    have HONE : Hid (∀ u ∈ [Value.int .i64 2, .nilFunc, .int .i64 k, .int .i64 a.ix, .bool (x.re.nullable && a.re.nullable)], u.oneCell' = true) := by
      intro u hu
      simp only [List.mem_cons, List.not_mem_nil, or_false] at hu
      rcases hu with rfl | rfl | rfl | rfl | rfl <;> rfl
    clear hB2 hT2 hE2 hq2
    go_wp2_with fail
    go_region_law (refine step_append_at rfl (.tmp 47) (.tmp 49) 37 rfl 0 84 i0 (.agg #[.int .i64 0, .nilFunc, .int .i64 0, .int .i64 0, .bool false]) 5 40 Tryd.underlying37 hi hz0 hz1 hz3 rfl (by decide) (.slice (some ⟨g, 0, none⟩) ns.length cap) ns.length (nsCells ns) (by rfl) (by exact (HL2.out.alloc _).1) ⟨W2.heap.size, 0, none⟩ 1 1 [.int .i64 2, .nilFunc, .int .i64 k, .int .i64 a.ix, .bool (x.re.nullable && a.re.nullable)] (by rfl) (by rfl) (by exact cell_new_row W2 #[.int .i64 2, .nilFunc, .int .i64 k, .int .i64 a.ix, .bool (x.re.nullable && a.re.nullable)] _) HONE.out (by unfold maxLen; omega) (by omega) (Nat.zero_le _) ?_; intro v' w3 hown hg hloc; obtain ⟨g', cap', rfl⟩ := own_form hown (by omega); obtain ⟨hq3, hq4, hL4, hv4, hT4, hM4, hF4⟩ := join_app (nd := ⟨2, .nilFunc, k, a.ix, x.re.nullable && a.re.nullable⟩) (.inl rfl) HO.out HS.out H1.out HL.out HLX.out H4.out HB2.out HT2.out hown hg hloc; have g2 : w3.cell? ⟨S, 0, none⟩ = some (.slice (some ⟨g, 0, none⟩) ns.length cap) := (by simp [World.cell?, hq3]); have gf : w3.frozen? ⟨S, 0, none⟩ = false := (by simp [World.frozen?, hq3]); have Hq4 := hide hq4; have HL4 := hide hL4; have Hv4 := hide hv4; have HT4 := hide hT4; have HM4 := hide hM4; have HF4 := hide hF4; clear hown hg hq3 hq4 hL4 hv4 hT4 hM4 hF4 hloc)
    all_goals
      clear g2 gf s0 s0' e0 e1 e2 e3 e4
      obtain ⟨W4, hW4⟩ : ∃ W, W = w3.setCell ⟨S, 0, none⟩ (.slice (some ⟨g', 0, none⟩) (ns.length + 1) cap') := ⟨_, rfl⟩
      rw [← hW4] at Hq4 HL4 HT4 HM4 HF4 ⊢
      clear hW4
      have t1 : W4.cell? ⟨S, 1, none⟩ = some (.map (some J)) := by simp [World.cell?, Hq4.out]
      have k0 : W4.cell? ⟨w.heap.size, 0, none⟩ = some (.int .i64 k) := by simp [World.cell?, HT4.out]
      have k1 : W4.cell? ⟨w.heap.size, 1, none⟩ = some (.int .i64 a.ix) := by simp [World.cell?, HT4.out]
      obtain ⟨W5, hrun, hM5, hg5⟩ := (show MapIs pairT 3 .i64 W4.drew J m f from HM4.out.keep rfl).store (t := 88) Tryd.underlying88 Tryd.underlying3 (by have := HM.out; omega) (k, a.ix) ⟨by have := HX.out.lt; show k ≤ _; omega, by show a.ix ≤ _; omega⟩ (ns.length : Int) (wf_nat _ (by omega))
      have hrun2 : (Instr.mapUpdate 88 (.map (some J)) (.agg #[.int .i64 k, .int .i64 a.ix]) (.int .i64 ns.length)).run Tryd.prog W4.drew = .ok () W5 := hrun
      have hend := join_end HO.out HS.out HX.out hk HAL.out HR.out HQ.out HF.out HM.out HP1.out HP2.out HJX.out Hq4.out HL4.out Hv4.out HF4.out hM5 hg5 HM4.out.obj
      have HEND := hide hend
      clear hrun hM5 hg5 hend
      go_wp2_with fail
      go_region
      all_goals
        go_wp2
        go_ret
        exact HEND.out
end Go.Proofs.YtgncgdkpkkdaeaaDoor
