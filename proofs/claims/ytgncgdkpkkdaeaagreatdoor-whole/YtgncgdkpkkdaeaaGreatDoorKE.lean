import Derived.Test.YtgncgdkpkkdaeaaGreatDoorKD
namespace Go.Proofs.YtgncgdkpkkdaeaaGreatDoor
open Go.RowKit Tint Go.Maps
def stable (t : TypeId) : Bool :=
 t == 5 || t == 290 || t == 295 || t == 284 || t == 301 || t == 302 || t == 318 || t == 319 || t == 305 || t == 192 || t == 194
structure Fx (X : Nat → Prop) (w w' : World) : Prop where
 os : w'.os = w.os
 tape : w'.tape = w.tape
 output : w'.output = w.output
 size : w.heap.size ≤ w'.heap.size
 keep : ∀ k, X k → w'.heap[k]? = w.heap[k]?
 stay : ∀ (k : Nat) c t, stable t = true → w.heap[k]? = some (.cells c t (0, 0)) → w'.heap[k]? = some (.cells c t (0, 0))
def Old (X : Nat → Prop) (w : World) : Prop := ∀ k, X k → k < w.heap.size
theorem Fx.refl (X : Nat → Prop) (w : World) : Fx X w w := ⟨rfl, rfl, rfl, Nat.le_refl _, fun _ _ => rfl, fun _ _ _ _ h => h⟩
theorem Fx.trans {X : Nat → Prop} {a b c : World} (h : Fx X a b) (k : Fx X b c) : Fx X a c :=
 ⟨k.os.trans h.os, k.tape.trans h.tape, k.output.trans h.output, Nat.le_trans h.size k.size, fun i hi => (k.keep i hi).trans (h.keep i hi), fun i x t ht hh => k.stay i x t ht (h.stay i x t ht hh)⟩
theorem Fx.drew {X : Nat → Prop} {a w : World} (h : Fx X a w) : Fx X a w.drew := ⟨h.os, h.tape, h.output, h.size, h.keep, h.stay⟩
theorem Fx.drewN {X : Nat → Prop} {a w : World} (h : Fx X a w) (n : Nat) : Fx X a (w.drewN n) := ⟨h.os, h.tape, h.output, h.size, h.keep, h.stay⟩
theorem Fx.sub {X Y : Nat → Prop} {a w : World} (h : Fx X a w) (hs : ∀ k, Y k → X k) : Fx Y a w := ⟨h.os, h.tape, h.output, h.size, fun k hk => h.keep k (hs k hk), h.stay⟩
theorem Old.mono {X : Nat → Prop} {w w' : World} (h : Old X w) (hs : w.heap.size ≤ w'.heap.size) : Old X w' := fun k hk => Nat.lt_of_lt_of_le (h k hk) hs
theorem Old.fx {X Y : Nat → Prop} {w w' : World} (h : Old X w) (hs : Fx Y w w') : Old X w' := h.mono hs.size
theorem Fx.of_below {X : Nat → Prop} {w w' : World} (hX : Old X w) (h : Below w.heap.size w w') : Fx X w w' :=
 ⟨h.os, h.tape, h.output, h.size, fun k hk => h.block k (hX k hk), fun k _ _ _ hh => (h.block k (lt_of_get hh)).trans hh⟩
theorem Fx.setCell {X : Nat → Prop} {a w : World} (h : Fx X a w) {p : Addr} {c : Array Value} {t : TypeId} {fz : Nat × Nat} (hp : ¬ X p.block) (hb : w.heap[p.block]? = some (.cells c t fz)) (ht : stable t = false) (u : Value) : Fx X a (w.setCell p u) :=
 h.trans ⟨rfl, rfl, rfl, by simp [World.setCell], fun k hk => Below.heap_setCell _ _ _ _ (fun e => hp (e ▸ hk)), fun k x t' ht' hh => by
  rw [Below.heap_setCell _ _ _ _ (fun e => by
   rw [e, hb] at hh
   simp only [Option.some.injEq, Obj.cells.injEq] at hh
   rw [hh.2.1, ht'] at ht
   cases ht)]
  exact hh⟩
theorem Fx.grown {X : Nat → Prop} {a w w' : World} {row : Option Nat} (h : Fx X a w) (hg : w.grownBy w' row) (hX : Old X w) (hr : ∀ k, row = some k → ¬ X k) (ht : ∀ k, row = some k → ∀ c t fz, w.heap[k]? = some (.cells c t fz) → stable t = false) : Fx X a w' :=
 h.trans ⟨hg.os, hg.tape, hg.output, hg.size, fun k hk => hg.block k (hX k hk) (fun e => hr k e.symm hk), fun k c t hs hh => by
  rw [hg.block k (lt_of_get hh) (fun e => by have := ht k e.symm c t _ hh; rw [hs] at this; cases this)]
  exact hh⟩
theorem Fx.staying {X : Nat → Prop} {w w' : World} (h : Fx X w w') : Stay w w' := fun k c t ht hh => h.stay k c t (by rcases ht with rfl | rfl <;> decide) hh
def Row (w : World) (X : Nat → Prop) (v : Value) (xs : List Nat) : Prop := Ints w 0 v xs ∧ ∀ k, v.ownBlock = some k → ¬ X k
theorem Ints.block {w : World} {B : Nat} {v : Value} {xs : List Nat} (h : Ints w B v xs) {k : Nat} (hk : v.ownBlock = some k) : ∃ c, w.heap[k]? = some (.cells c 3 (0, 0)) := by
 rcases h.2 with ⟨rfl, _⟩ | ⟨g, cap, cur, rfl, hg, hh, _⟩
 ·cases hk
 ·cases hk; exact ⟨cur, hh⟩
theorem Ints.keepB {w w' : World} {B : Nat} {v : Value} {xs : List Nat} (h : Ints w B v xs) (hk : ∀ k, v.ownBlock = some k → w'.heap[k]? = w.heap[k]?) : Ints w' B v xs := by
 obtain ⟨h1, h2⟩ := h
 refine ⟨h1, ?_⟩
 rcases h2 with h2 | ⟨g, cap, cur, hv, hg, hh, r⟩
 ·exact .inl h2
 ·exact .inr ⟨g, cap, cur, hv, hg, by rw [hk g (by rw [hv]; rfl)]; exact hh, r⟩
def orBlock (X : Nat → Prop) (v : Value) : Nat → Prop := fun k => X k ∨ v.ownBlock = some k
theorem Old.orBlock {X : Nat → Prop} {w : World} (h : Old X w) {v : Value} {xs : List Nat} {B : Nat} (hv : Ints w B v xs) : Old (orBlock X v) w := by
 rintro k (hk | hk)
 ·exact h k hk
 ·obtain ⟨c, hc⟩ := hv.block hk; exact lt_of_get hc
theorem run_append_ints (w : World) (ty : TypeId) (v u : Value) (xs ys : List Nat) (hv : Ints w 0 v xs) (hu : Ints w 0 u ys) (hn : xs.length + ys.length ≤ 1000000000000) :
  ∃ v' w', (Builtin.append_ #[57, 57] ty #[v, u]).run Tryz.prog w = .ok v' w' ∧ Ints w' 0 v' (xs ++ ys) ∧ w.grownBy w' v.ownBlock ∧ (v'.ownBlock = v.ownBlock ∨ v'.ownBlock = some w.heap.size) := by
 obtain ⟨i0, hi, hz0, hz1, hz2⟩ := info_parts info_int
 rcases hu.2 with ⟨rfl, h0⟩ | ⟨g, cap, cur, rfl, hg, hh, hnc, hc, hs, ht⟩
 ·obtain rfl : ys = [] := List.eq_nil_of_length_eq_zero h0
  refine ⟨v, w, ?_, by simpa using hv, ⟨rfl, rfl, rfl, Nat.le_refl _, fun _ _ _ => rfl⟩, .inl rfl⟩
  rcases hv.2 with ⟨rfl, h1⟩ | ⟨g, cap, cur, rfl, hg, hh, hnc, hc, hs, ht⟩
  ·obtain rfl : xs = [] := List.eq_nil_of_length_eq_zero h1
   have hs := Src.ofNil (P := Tryz.prog) (size := i0.size) w Tryz.underlying57 0
   simp [Builtin.append_, run_underlying (P := Tryz.prog) Tryz.underlying57, sizeOf, typeInfo, hi, hs.len, hs.cells]
  ·have := run_append_room_src (P := Tryz.prog) w 57 57 ty 3 i0 Tryz.underlying57 hi g 0 xs.length cap (.slice none 0 0) 0 [] (Src.ofNil w Tryz.underlying57 0) (by omega) (by simp) (by simp)
   simpa [World.setCells] using this
 ·have hnews : ∀ j x, (ys.map fun x : Nat => Value.int .i64 (x : Int))[j]? = some x → w.cell? ((⟨g, 0, none⟩ : Addr).add j) = some x := by
   intro j x hj
   rw [Addr.add_lit, Nat.zero_add]
   have hlt := get_lt hj
   rw [← ht, List.getElem?_take_of_lt (by simpa using hlt)] at hj
   simpa [World.cell?, hh] using hj
  have hone : ∀ x ∈ (ys.map fun x : Nat => Value.int .i64 (x : Int)), x.oneCell' = true := by
   intro x hx
   obtain ⟨y, _, rfl⟩ := List.mem_map.1 hx
   rfl
  obtain ⟨v', w', hr, h2, h3, h4, h5⟩ := run_append_own_at (P := Tryz.prog) w 0 57 ty 3 i0 (.int .i64 0) 1 8 Tryz.underlying57 hi hz0 hz1 hz2 rfl (by decide) v xs.length _ hv ⟨g, 0, none⟩ ys.length cap (ys.map fun x : Nat => Value.int .i64 (x : Int)) (by simp) hnews hone (by unfold maxLen; omega) (by omega) (Nat.zero_le _)
  refine ⟨v', w', hr, ?_, h3, h5⟩
  unfold Ints
  simpa using h2
structure Shelf (w : World) (X : Nat → Prop) (S n0 : Nat) (ns : List (Nd Value)) (Q : List D) : Prop where
 notX : ¬ X S
 ex : ∃ sv J m f, w.heap[S]? = some (.cells #[sv, .map (some J)] 298 (0, 0)) ∧ Lists w 0 sv ns ∧ (∀ k, sv.ownBlock = some k → ¬ X k) ∧ MapIs pairT 3 .i64 w J m f ∧ ¬ X J ∧ m + n0 ≤ ns.length ∧
  (∀ l r c, f (l, r) = some c → ∃ j : Nat, c = j ∧ n0 ≤ j ∧ ∃ h e, ns[j]? = some ⟨2, h, l, r, e⟩) ∧
  (∀ (j : Nat) nd, n0 ≤ j → ns[j]? = some nd → nd.kind = 2 ∧ f (nd.left, nd.right) = some (j : Int))
 pos : 0 < n0
 le : n0 ≤ ns.length
 small : n0 ≤ 200
 eps : Rep (IsCls w) ns .eps
 terms : ∀ j, n0 ≤ j → j < ns.length → ∃ d ∈ Q, RepD (IsCls w) n0 ns d j
 few : Q.length ≤ 100000000000
theorem Shelf.uniq {w : World} {X : Nat → Prop} {S n0 : Nat} {ns : List (Nd Value)} {Q : List D} (h : Shelf w X S n0 ns Q) : Uniq n0 ns := by
 obtain ⟨sv, J, m, f, _, _, _, _, _, _, _, h2⟩ := h.ex
 intro j k nd nd' hj hk h3 h4 e1 e2
 have a1 := (h2 j nd hj h3).2
 have a2 := (h2 k nd' hk h4).2
 rw [e1, e2, a2] at a1
 simp at a1
 omega
theorem Shelf.length {w : World} {X : Nat → Prop} {S n0 : Nat} {ns : List (Nd Value)} {Q : List D} (h : Shelf w X S n0 ns Q) : ns.length ≤ 100000000200 := by
 have h1 := pigeon (R := fun d k => RepD (IsCls w) n0 ns d k) (fun d b b' r r' => r.func h.uniq r') (l := List.range' n0 (ns.length - n0)) (P := Q) List.nodup_range' (fun b hb => by
  rw [List.mem_range'_1] at hb
  exact h.terms b hb.1 (by omega))
 have h2 := h.few
 have h3 := h.small
 simp at h1
 omega
theorem RepD.world {w w' : World} (h : Stay w w') {n0 : Nat} {ns : List (Nd Value)} {d : D} {k : Nat} (hr : RepD (IsCls w) n0 ns d k) : RepD (IsCls w') n0 ns d k :=
 hr.mono (fun _ _ hc => hc.stay h) (fun _ _ hn => hn)
theorem Shelf.keep {w w' : World} {X Y : Nat → Prop} {S n0 : Nat} {ns : List (Nd Value)} {Q : List D} (h : Shelf w X S n0 ns Q) (hs : Stay w w') (hk : ∀ k o, ¬ X k → w.heap[k]? = some o → (∀ c t fz, o = .cells c t fz → t = 298 ∨ t = 292) → w'.heap[k]? = some o)
  (hY : ∀ k, Y k → X k ∨ ∀ o, w.heap[k]? = some o → ∃ c t fz, o = .cells c t fz ∧ t ≠ 298 ∧ t ≠ 292) : Shelf w' Y S n0 ns Q := by
 obtain ⟨hX, ⟨sv, J, m, f, h1, h2, h3, h4, h5, h6, h7, h8⟩, p, l, sm, ep, tm, fw⟩ := h
 obtain ⟨es, clk, hJ⟩ := h4.obj
 have nY : ∀ k o, ¬ X k → w.heap[k]? = some o → (∀ c t fz, o = .cells c t fz → t = 298 ∨ t = 292) → ¬ Y k := by
  intro k o hx ho hc hy
  rcases hY k hy with hh | hh
  ·exact hx hh
  ·obtain ⟨c, t, fz, e1, e2, e3⟩ := hh o ho
   exact (hc c t fz e1).elim e2 e3
 refine ⟨nY S _ hX h1 (fun c t fz e => by cases e; exact .inl rfl), ⟨sv, J, m, f, hk S _ hX h1 (fun c t fz e => by cases e; exact .inl rfl), ?_, ?_, ?_, ?_, h6, h7, h8⟩, p, l, sm, ep.world hs, fun j hj hl => ?_, fw⟩
 ·refine h2.keep fun k hb => ?_
  obtain ⟨_, cur, hc⟩ := h2.block hb
  rw [hc]
  exact hk k _ (h3 k hb) hc (fun c t fz e => by cases e; exact .inr rfl)
 ·intro k hb
  obtain ⟨_, cur, hc⟩ := h2.block hb
  exact nY k _ (h3 k hb) hc (fun c t fz e => by cases e; exact .inr rfl)
 ·refine h4.keep ?_
  rw [hJ]
  exact hk J _ h5 hJ (fun c t fz e => by cases e)
 ·exact nY J _ h5 hJ (fun c t fz e => by cases e)
 ·obtain ⟨d, hd, hr⟩ := tm j hj hl
  exact ⟨d, hd, RepD.world hs hr⟩
theorem Shelf.below {w w' : World} {X : Nat → Prop} {S n0 : Nat} {ns : List (Nd Value)} {Q : List D} (h : Shelf w X S n0 ns Q) (hb : Below w.heap.size w w') : Shelf w' X S n0 ns Q :=
 h.keep (Stay.of_below hb) (fun k _ _ ho _ => (hb.block k (lt_of_get ho)).trans ho) (fun _ hk => .inl hk)
theorem Shelf.drewN {w : World} {X : Nat → Prop} {S n0 : Nat} {ns : List (Nd Value)} {Q : List D} (h : Shelf w X S n0 ns Q) (n : Nat) : Shelf (w.drewN n) X S n0 ns Q :=
 h.keep (w' := w.drewN n) (fun _ _ _ _ h => h) (fun _ _ _ h _ => h) (fun _ hk => .inl hk)
theorem Shelf.node {w : World} {X : Nat → Prop} {S n0 : Nat} {ns : List (Nd Value)} {Q : List D} (h : Shelf w X S n0 ns Q) {j k : Nat} {x : D} {a : ARe} {v : Value} {e : Bool} (hj : n0 ≤ j) (hn : ns[j]? = some ⟨2, v, k, a.ix, e⟩)
  (hx : RepD (IsCls w) n0 ns x k) (ha : Rep (IsCls w) ns a) : e = (x.re.nullable && a.re.nullable) := by
 obtain ⟨d, _, hr⟩ := h.terms j hj (get_lt hn)
 cases d with
 | base b => obtain ⟨h1, h2, _⟩ := hr; have := h2.lt_ix; omega
 | snoc d b =>
  obtain ⟨_, _, hb, m, _, hd, y, h3⟩ := hr
  rw [hn] at h3
  simp only [Option.some.injEq, Nd.mk.injEq] at h3
  obtain ⟨_, _, rfl, h4, rfl⟩ := h3
  obtain ⟨n1, e1, e2⟩ := hx.empty
  obtain ⟨n2, e3, e4⟩ := hd.empty
  obtain ⟨n3, e5, e6⟩ := ha.empty
  obtain ⟨n4, e7, e8⟩ := hb.empty
  rw [e1] at e3
  rw [h4] at e5
  rw [e5] at e7
  cases e3
  cases e7
  rw [← e2, e4, ← e6, e8]
theorem zero_int (w : World) : (zeroValue 3).run Tryz.prog w = .ok (.int .i64 0) w := by kernel_rfl
def JoinPost (X : Nat → Prop) (S n0 : Nat) (ns : List (Nd Value)) (Q : List D) (t : D) (w : World) (e : Ending) (w' : World) : Prop :=
 ∃ (j : Nat) (ms : List (Nd Value)), e = .returned (.int .i64 j) ∧ Fx X w w' ∧ Shelf w' X S n0 (ns ++ ms) Q ∧ RepD (IsCls w') n0 (ns ++ ms) t j
set_option maxHeartbeats 1000000 in
theorem join_zero (X : Nat → Prop) (S n0 : Nat) (ns : List (Nd Value)) (Q : List D) (x : D) (a : ARe) (w : World) (hS : Shelf w X S n0 ns Q) (hx : RepD (IsCls w) n0 ns x 0) (hal : a.lt n0) (hr : Rep (IsCls w) ns a) :
  Calls Tryz.prog 207 #[.pointer (some ⟨S, 0, none⟩), .int .i64 0, .int .i64 a.ix] w (JoinPost X S n0 ns Q (tcat x a) w) := by
 have HAL := hide hal
 clear hal
 have hz := hx.zero hS.pos
 subst hz
 have HS := hide hS
 have HR := hide hr
 clear hS hr hx
 go_enter Tryz.func207, Tryz.ntmps207
 go_wp2
 go_ret
 exact ⟨a.ix, [], by simp, Fx.refl _ _, by simpa using HS.out, by simpa using ⟨rfl, HAL.out, HR.out⟩⟩
set_option maxHeartbeats 1000000 in
theorem join_found (X : Nat → Prop) (S n0 : Nat) (ns : List (Nd Value)) (Q : List D) (x : D) (a : ARe) (k : Nat) (w : World) (hX : Old X w) (hS : Shelf w X S n0 ns Q) (hx : RepD (IsCls w) n0 ns x k) (hk : k ≠ 0) (hal : a.lt n0) (hr : Rep (IsCls w) ns a)
  (sv : Value) (J m : Nat) (f : Nat × Nat → Option Int) (h1 : w.heap[S]? = some (.cells #[sv, .map (some J)] 298 (0, 0))) (h4 : MapIs pairT 3 .i64 w J m f) (j : Nat) (hf : f (k, a.ix) = some (j : Int)) (hn : n0 ≤ j) (hd : Value) (e : Bool) (hj : ns[j]? = some ⟨2, hd, k, a.ix, e⟩) :
  Calls Tryz.prog 207 #[.pointer (some ⟨S, 0, none⟩), .int .i64 k, .int .i64 a.ix] w (JoinPost X S n0 ns Q (tcat x a) w) := by
 have hlen := hS.length
 have ha := hal.lt_ix
 have HAL := hide hal
 clear hal
 have hkl := hx.lt
 have hsm := hS.small
 have hk0 : ((k : Int) == 0) = false := by rw [beq_eq_false_iff_ne]; omega
 have c1 : w.cell? ⟨S, 1, none⟩ = some (.map (some J)) := by simp [World.cell?, h1]
 have c1' := cell_alloc_old c1
 have hlk : ∀ n, (Instr.lookup 296 (.map (some J)) (.agg #[.int .i64 k, .int .i64 a.ix]) true).run Tryz.prog ((w.alloc (.cells #[.int .i64 k, .int .i64 a.ix] 333)).drewN n) = .ok (.tuple #[.int .i64 j, .bool true]) ((w.alloc (.cells #[.int .i64 k, .int .i64 a.ix] 333)).drewN n) := by
  intro n
  have h5 : MapIs pairT 3 .i64 ((w.alloc (.cells #[.int .i64 k, .int .i64 a.ix] 333)).drewN n) J m f := h4.keep (Below.heap_alloc _ _ _ h4.lt)
  have h6 := h5.look (t := 296) Tryz.underlying296 Tryz.underlying3 zero_int (k, a.ix) ⟨by show k ≤ _; omega, by show a.ix ≤ _; omega⟩
  rw [hf] at h6
  exact h6
 have HS := hide hS
 have HX := hide hx
 have HR := hide hr
 have HJ := hide hj
 have HO := hide hX
 clear hS hx hr hj hX h1 h4 hf hkl hlen
 go_enter Tryz.func207, Tryz.ntmps207
 go_wp2_with fail
 go_quiet (fail)
 go_wp2
 go_ret
 have hb : Below w.heap.size w ((w.alloc (.cells #[.int .i64 k, .int .i64 a.ix] 333)).drewN nq) := Below.drewN' ((Below.refl _ _).alloc (Nat.le_refl _) _) nq
 have hX' := RepD.world (Stay.of_below hb) HX.out
 have hR' := HR.out.world (Stay.of_below hb)
 refine ⟨j, [], by simp, Fx.of_below HO.out hb, by simpa using HS.out.below hb, ?_⟩
 rw [HX.out.pos hk a]
 simp only [List.append_nil]
 refine ⟨hn, HAL.out, hR', k, hk, hX', hd, ?_⟩
 rw [← HS.out.node hn HJ.out HX.out HR.out]
 exact HJ.out
theorem join_mid {w W1 w1 : World} {c : Array Value} {k i : Nat} {b em : Bool} (hB : Below w.heap.size w W1) (hT : W1.heap[w.heap.size]? = some (.cells c 333 (0, 0)))
  (hb1 : Below (W1.alloc (.cells #[.int .i64 2, .nilFunc, .int .i64 k, .int .i64 i, .bool em] 292)).drew.heap.size (W1.alloc (.cells #[.int .i64 2, .nilFunc, .int .i64 k, .int .i64 i, .bool em] 292)).drew w1) :
  Below w.heap.size w (w1.setCell ⟨W1.heap.size, 4, none⟩ (.bool b)) ∧ (w1.setCell ⟨W1.heap.size, 4, none⟩ (.bool b)).heap[w.heap.size]? = some (.cells c 333 (0, 0)) ∧
   (w1.setCell ⟨W1.heap.size, 4, none⟩ (.bool b)).heap[W1.heap.size]? = some (.cells #[.int .i64 2, .nilFunc, .int .i64 k, .int .i64 i, .bool b] 292 (0, 0)) := by
 have hs : w.heap.size ≤ W1.heap.size := hB.size
 have hTl := lt_of_get hT
 have hb2 : Below W1.heap.size W1 w1 := by
  have h3 : Below W1.heap.size W1 (W1.alloc (.cells #[.int .i64 2, .nilFunc, .int .i64 k, .int .i64 i, .bool em] 292)).drew := ((Below.refl _ _).alloc (Nat.le_refl _) _).drew
  exact h3.trans (hb1.mono (by simp))
 refine ⟨(hB.trans (hb2.mono hs)).setCell hs _, ?_, ?_⟩
 ·rw [Below.heap_setCell _ _ _ _ (by show w.heap.size ≠ W1.heap.size; omega), hb2.block _ hTl]; exact hT
 ·refine heap_setCell_same w1 W1.heap.size 4 _ (c := #[.int .i64 2, .nilFunc, .int .i64 k, .int .i64 i, .bool em]) ?_
  rw [hb1.block _ (by simp)]
  exact heap_alloc_last _ _
theorem join_app {X : Nat → Prop} {S n0 J m : Nat} {ns : List (Nd Value)} {Q : List D} {f : Nat × Nat → Option Int} {w W2 w3 : World} {sv v' : Value} {nd : Nd Value} {c c' : Array Value} {t : TypeId} {T : Nat} (hfm : Form nd.has) (hX : Old X w) (hS : Shelf w X S n0 ns Q)
  (h1 : w.heap[S]? = some (.cells #[sv, .map (some J)] 298 (0, 0))) (hL : Lists w 0 sv ns) (hLX : ∀ k, sv.ownBlock = some k → ¬ X k) (h4 : MapIs pairT 3 .i64 w J m f) (hB : Below w.heap.size w W2) (hT : W2.heap[T]? = some (.cells c 333 (0, 0)))
  (hown : w3.ownsRow 0 292 5 v' (ns.length + 1) (nsCells ns ++ ndCells nd)) (hg : (W2.alloc (.cells c' t)).drew.grownBy w3 sv.ownBlock) (hloc : v'.ownBlock = sv.ownBlock ∨ v'.ownBlock = some (W2.alloc (.cells c' t)).drew.heap.size) :
  w3.heap[S]? = some (.cells #[sv, .map (some J)] 298 (0, 0)) ∧ (w3.setCell ⟨S, 0, none⟩ v').heap[S]? = some (.cells #[v', .map (some J)] 298 (0, 0)) ∧ Lists (w3.setCell ⟨S, 0, none⟩ v') 0 v' (ns ++ [nd]) ∧
   (∀ k, v'.ownBlock = some k → ¬ X k) ∧ (w3.setCell ⟨S, 0, none⟩ v').heap[T]? = some (.cells c 333 (0, 0)) ∧ MapIs pairT 3 .i64 (w3.setCell ⟨S, 0, none⟩ v') J m f ∧ Fx X w (w3.setCell ⟨S, 0, none⟩ v') := by
 have hbA : Below w.heap.size w (W2.alloc (.cells c' t)).drew := (hB.alloc hB.size _).drew
 have hSl := lt_of_get h1
 have hA1 : (W2.alloc (.cells c' t)).drew.heap[S]? = some (.cells #[sv, .map (some J)] 298 (0, 0)) := (hbA.block S hSl).trans h1
 have hLl : ∀ k, sv.ownBlock = some k → ∃ cur, (W2.alloc (.cells c' t)).drew.heap[k]? = some (.cells cur 292 (0, 0)) := fun k hk => by
  obtain ⟨_, cur, hc⟩ := hL.block hk
  exact ⟨cur, (hbA.block k (lt_of_get hc)).trans hc⟩
 have hS3 : w3.heap[S]? = some (.cells #[sv, .map (some J)] 298 (0, 0)) := by
  rw [hg.block S (lt_of_get hA1) (fun e => by obtain ⟨cur, hc⟩ := hLl S e.symm; rw [hA1] at hc; simp at hc)]
  exact hA1
 have hT3 : w3.heap[T]? = some (.cells c 333 (0, 0)) := by
  have hTA : (W2.alloc (.cells c' t)).drew.heap[T]? = some (.cells c 333 (0, 0)) := heap_alloc_old hT
  rw [hg.block T (lt_of_get hTA) (fun e => by obtain ⟨cur, hc⟩ := hLl T e.symm; rw [hTA] at hc; simp at hc)]
  exact hTA
 obtain ⟨es, clk, hJ⟩ := h4.obj
 have hJA : (W2.alloc (.cells c' t)).drew.heap[J]? = some (.map es clk) := (hbA.block J (lt_of_get hJ)).trans hJ
 have hJ3 : w3.heap[J]? = some (.map es clk) := by
  rw [hg.block J (lt_of_get hJA) (fun e => by obtain ⟨cur, hc⟩ := hLl J e.symm; rw [hJA] at hc; simp at hc)]
  exact hJA
 have hL3 : Lists w3 0 v' (ns ++ [nd]) := by
  refine ⟨?_, fun d hd => ?_⟩
  ·rw [nsCells_append]
   simpa [nsCells] using hown
  ·rcases List.mem_append.1 hd with h | h
   ·exact hL.2 d h
   ·simp only [List.mem_singleton] at h
    rw [h]; exact hfm
 have hF3 : Fx X w w3 := (Fx.of_below hX hbA).grown hg (hX.mono hbA.size) (fun k hk => hLX k hk) (fun k hk c2 t2 fz h => by
  obtain ⟨cur, hc⟩ := hLl k hk
  rw [hc] at h
  cases h
  rfl)
 refine ⟨hS3, ?_, ?_, ?_, ?_, ?_, hF3.setCell hS.notX hS3 (by rfl) _⟩
 ·exact heap_setCell_same w3 S 0 _ hS3
 ·refine hL3.keep fun k hk => Below.heap_setCell _ _ _ _ ?_
  obtain ⟨_, cur, hc⟩ := hL3.block hk
  rintro rfl
  rw [hS3] at hc
  simp at hc
 ·intro k hk hXk
  rcases hloc with e | e
  ·rw [e] at hk; exact hLX k hk hXk
  ·rw [e] at hk
   simp only [Option.some.injEq] at hk
   have h5 := hX k hXk
   have h6 := hbA.size
   omega
 ·rw [Below.heap_setCell _ _ _ _ (by
   rintro rfl
   rw [hS3] at hT3
   simp at hT3)]
  exact hT3
 ·refine h4.keep ?_
  rw [Below.heap_setCell _ _ _ _ (by
   rintro rfl
   rw [hS3] at hJ3
   simp at hJ3), hJ3, hJ]
theorem join_end {X : Nat → Prop} {S n0 J m k : Nat} {ns : List (Nd Value)} {Q : List D} {f : Nat × Nat → Option Int} {w W4 W5 : World} {v' : Value} {x : D} {a : ARe} (hX : Old X w) (hS : Shelf w X S n0 ns Q) (hx : RepD (IsCls w) n0 ns x k) (hk : k ≠ 0) (hal : a.lt n0) (hr : Rep (IsCls w) ns a) (hQ : tcat x a ∈ Q)
  (hf : f (k, a.ix) = none) (hm : m + n0 ≤ ns.length) (p1 : ∀ l r c, f (l, r) = some c → ∃ j : Nat, c = j ∧ n0 ≤ j ∧ ∃ h e, ns[j]? = some ⟨2, h, l, r, e⟩) (p2 : ∀ (j : Nat) nd, n0 ≤ j → ns[j]? = some nd → nd.kind = 2 ∧ f (nd.left, nd.right) = some (j : Int)) (hJX : ¬ X J)
  (h1 : W4.heap[S]? = some (.cells #[v', .map (some J)] 298 (0, 0))) (hL : Lists W4 0 v' (ns ++ [⟨2, .nilFunc, k, a.ix, x.re.nullable && a.re.nullable⟩])) (hv : ∀ k, v'.ownBlock = some k → ¬ X k) (hF : Fx X w W4)
  (h4 : MapIs pairT 3 .i64 W5 J (m + 1) (fun y => if y = (k, a.ix) then some (ns.length : Int) else f y)) (hg : W4.drew.grownBy W5 (some J)) (hJ : ∃ es clk, W4.heap[J]? = some (.map es clk)) :
  JoinPost X S n0 ns Q (tcat x a) w (.returned (.int .i64 ns.length)) W5 := by
 obtain ⟨es, clk, hJ⟩ := hJ
 have hF5 : Fx X w W5 := hF.drew.grown hg (hX.mono hF.size) (fun j hj => by cases hj; exact hJX) (fun j hj c t fz h => by cases hj; rw [show W4.drew.heap[J]? = some (.map es clk) from hJ] at h; cases h)
 have hst := hF5.staying
 have hn : ∀ (i : Nat) nd, ns[i]? = some nd → (ns ++ [⟨2, .nilFunc, k, a.ix, x.re.nullable && a.re.nullable⟩])[i]? = some nd := fun i nd h => get_append_left h
 have hlast : (ns ++ [(⟨2, .nilFunc, k, a.ix, x.re.nullable && a.re.nullable⟩ : Nd Value)])[ns.length]? = some ⟨2, .nilFunc, k, a.ix, x.re.nullable && a.re.nullable⟩ := ix_last _
 have hkeep : ∀ j : Nat, j ≠ J → j < W4.heap.size → W5.heap[j]? = W4.heap[j]? := fun j hj hl => hg.block j hl (fun e => hj (Option.some.inj e))
 have hrep : RepD (IsCls W5) n0 (ns ++ [⟨2, .nilFunc, k, a.ix, x.re.nullable && a.re.nullable⟩]) (tcat x a) ns.length := by
  rw [hx.pos hk a]
  exact ⟨hS.le, hal, (hr.world hst).append, k, hk, (RepD.world hst hx).append, .nilFunc, hlast⟩
 refine ⟨ns.length, [⟨2, .nilFunc, k, a.ix, x.re.nullable && a.re.nullable⟩], rfl, hF5, ⟨hS.notX, ⟨v', J, m + 1, _, ?_, ?_, hv, h4, hJX, ?_, ?_, ?_⟩, hS.pos, ?_, hS.small, (hS.eps.world hst).append, ?_, hS.few⟩, hrep⟩
 ·rw [hkeep S (by rintro rfl; rw [h1] at hJ; cases hJ) (lt_of_get h1)]; exact h1
 ·refine hL.keep fun j hj => ?_
  obtain ⟨_, cur, hc⟩ := hL.block hj
  exact hkeep j (by rintro rfl; rw [hc] at hJ; cases hJ) (lt_of_get hc)
 ·simp only [List.length_append, List.length_cons, List.length_nil]; omega
 ·intro l r c hc
  by_cases e : (l, r) = (k, a.ix)
  ·rw [if_pos e] at hc
   simp only [Prod.mk.injEq] at e
   obtain ⟨rfl, rfl⟩ := e
   refine ⟨ns.length, by simpa using hc.symm, hS.le, _, _, hlast⟩
  ·rw [if_neg e] at hc
   obtain ⟨j, h2, h3, hh, ee, h5⟩ := p1 l r c hc
   exact ⟨j, h2, h3, hh, ee, hn _ _ h5⟩
 ·intro j nd hj hnd
  rcases Nat.lt_or_ge j ns.length with hlt | hge
  ·rw [List.getElem?_append_left hlt] at hnd
   obtain ⟨q1, q2⟩ := p2 j nd hj hnd
   refine ⟨q1, ?_⟩
   by_cases e : (nd.left, nd.right) = (k, a.ix)
   ·rw [e, hf] at q2; cases q2
   ·rw [if_neg e]; exact q2
  ·have hj2 : j = ns.length := by
    have := get_lt hnd
    simp at this; omega
   subst hj2
   rw [hlast] at hnd
   cases hnd
   exact ⟨rfl, by simp⟩
 ·simp only [List.length_append, List.length_cons, List.length_nil]; have := hS.le; omega
 ·intro j hj hl
  rcases Nat.lt_or_ge j ns.length with hlt | hge
  ·obtain ⟨d, hd, hr2⟩ := hS.terms j hj hlt
   exact ⟨d, hd, (RepD.world hst hr2).append⟩
  ·have hj2 : j = ns.length := by simp at hl; omega
   subst hj2
   exact ⟨_, hQ, hrep⟩
set_option maxHeartbeats 2000000 in
theorem join_new (X : Nat → Prop) (S n0 : Nat) (ns : List (Nd Value)) (Q : List D) (x : D) (a : ARe) (k : Nat) (w : World) (hX : Old X w) (hS : Shelf w X S n0 ns Q) (hx : RepD (IsCls w) n0 ns x k) (hk : k ≠ 0) (hal : a.lt n0) (hr : Rep (IsCls w) ns a) (hQ : tcat x a ∈ Q)
  (sv : Value) (J m : Nat) (f : Nat × Nat → Option Int) (h1 : w.heap[S]? = some (.cells #[sv, .map (some J)] 298 (0, 0))) (hL : Lists w 0 sv ns) (hLX : ∀ k, sv.ownBlock = some k → ¬ X k) (h4 : MapIs pairT 3 .i64 w J m f) (hf : f (k, a.ix) = none) (hJX : ¬ X J) (hm : m + n0 ≤ ns.length)
  (p1 : ∀ l r c, f (l, r) = some c → ∃ j : Nat, c = j ∧ n0 ≤ j ∧ ∃ h e, ns[j]? = some ⟨2, h, l, r, e⟩) (p2 : ∀ (j : Nat) nd, n0 ≤ j → ns[j]? = some nd → nd.kind = 2 ∧ f (nd.left, nd.right) = some (j : Int)) :
  Calls Tryz.prog 207 #[.pointer (some ⟨S, 0, none⟩), .int .i64 k, .int .i64 a.ix] w (JoinPost X S n0 ns Q (tcat x a) w) := by
 have hlen := hS.length
 have ha := hal.lt_ix
 have HAL := hide hal
 clear hal
 have hkl := hx.lt
 have hsm := hS.small
 have hk0 : ((k : Int) == 0) = false := by rw [beq_eq_false_iff_ne]; omega
 have c1 : w.cell? ⟨S, 1, none⟩ = some (.map (some J)) := by simp [World.cell?, h1]
 have c0 : w.cell? ⟨S, 0, none⟩ = some sv := by simp [World.cell?, h1]
 have c1' := cell_alloc_old c1
 have c0' := fun o p => cell_alloc_old (cell_alloc_old c0 o) p
 have hlk : ∀ n, (Instr.lookup 296 (.map (some J)) (.agg #[.int .i64 k, .int .i64 a.ix]) true).run Tryz.prog ((w.alloc (.cells #[.int .i64 k, .int .i64 a.ix] 333)).drewN n) = .ok (.tuple #[.int .i64 0, .bool false]) ((w.alloc (.cells #[.int .i64 k, .int .i64 a.ix] 333)).drewN n) := by
  intro n
  have h5 : MapIs pairT 3 .i64 ((w.alloc (.cells #[.int .i64 k, .int .i64 a.ix] 333)).drewN n) J m f := h4.keep (Below.heap_alloc _ _ _ h4.lt)
  have h6 := h5.look (t := 296) Tryz.underlying296 Tryz.underlying3 zero_int (k, a.ix) ⟨by show k ≤ _; omega, by show a.ix ≤ _; omega⟩
  rw [hf] at h6
  exact h6
 obtain ⟨y, hy, hye⟩ := hx.empty
 obtain ⟨z, hz, hze⟩ := hr.empty
 have HE := hide (show Emp ns 2 k a.ix (x.re.nullable && a.re.nullable) from .inr (.inr (.inr (.inl ⟨rfl, y, z, hy, hz, by rw [hye, hze]⟩))))
 have HS := hide hS
 have HX := hide hx
 have HR := hide hr
 have HO := hide hX
 have HL := hide hL
 have H1 := hide h1
 have H4 := hide h4
 have HF := hide hf
 have HQ := hide hQ
 have HLX := hide hLX
 have HJX := hide hJX
 have HM := hide hm
 have HP1 := hide p1
 have HP2 := hide p2
 have hnpos : 0 < ns.length := by have := hS.pos; have := hS.le; omega
 obtain ⟨g, cap, rfl⟩ := own_form hL.1 hnpos
 obtain ⟨i0, hi, hz0, hz1, hz3⟩ := info_parts info_expr
 clear hS hx hr hX h1 h4 hf hkl hL hQ hy hye hz hze hLX hJX hm p1 p2
 go_enter Tryz.func207, Tryz.ntmps207
 go_wp2_with fail
 go_quiet (fail)
 clear hlk
 have hbW : Below w.heap.size w ((w.alloc (.cells #[.int .i64 k, .int .i64 a.ix] 333)).drewN nq) := Below.drewN' ((Below.refl _ _).alloc (Nat.le_refl _) _) nq
 have hTW : ((w.alloc (.cells #[.int .i64 k, .int .i64 a.ix] 333)).drewN nq).heap[w.heap.size]? = some (.cells #[.int .i64 k, .int .i64 a.ix] 333 (0, 0)) := heap_alloc_last w _
 generalize (w.alloc (.cells #[.int .i64 k, .int .i64 a.ix] 333)).drewN nq = W1 at hbW hTW ⊢
 have HB1 := hide hbW
 have HT1 := hide hTW
 have HS1 := hide (HS.out.below hbW)
 have HL1 := hide (HL.out.keep (fun k hk => hbW.block k (lt_of_get (HL.out.block hk).2.choose_spec)))
 have hq1 : W1.heap[S]? = some (.cells #[.slice (some ⟨g, 0, none⟩) ns.length cap, .map (some J)] 298 (0, 0)) := (hbW.block S (lt_of_get H1.out)).trans H1.out
 have HQ1 := hide hq1
 have d0 : W1.cell? ⟨S, 0, none⟩ = some (.slice (some ⟨g, 0, none⟩) ns.length cap) := by simp [World.cell?, hq1]
 have d0' := cell_alloc_old d0
 clear hbW hTW hq1 c0 c0' c1 c1'
 go_wp2_with fail
 have HL2 := hide (HL1.out.alloc (.cells #[.int .i64 2, .nilFunc, .int .i64 k, .int .i64 a.ix, .bool false] 292))
 go_region_with (go_at_call 195; refine (matchesEmpty_any 0 (.slice (some ⟨g, 0, none⟩) ns.length cap) ns 2 k a.ix .nilFunc false (x.re.nullable && a.re.nullable) _ (by exact HL2.out) HE.out).mono ?_; rintro e w1 ⟨rfl, hb1⟩; obtain ⟨hc1, hf1⟩ := bcell hb1)
 all_goals
  obtain ⟨hB2, hT2, hE2⟩ := join_mid (b := x.re.nullable && a.re.nullable) HB1.out HT1.out hb1
  clear hc1 hf1 hb1 HL1 HL2 d0 d0'
  obtain ⟨W2, hW2⟩ : ∃ W, W = w1.setCell ⟨W1.heap.size, 4, none⟩ (.bool (x.re.nullable && a.re.nullable)) := ⟨_, rfl⟩
  rw [← hW2] at hB2 hT2 hE2 ⊢
  clear hW2
  have hq2 : W2.heap[S]? = some (.cells #[.slice (some ⟨g, 0, none⟩) ns.length cap, .map (some J)] 298 (0, 0)) := (hB2.block S (lt_of_get H1.out)).trans H1.out
  have HL2 := hide (HL.out.keep (fun k hk => hB2.block k (lt_of_get (HL.out.block hk).2.choose_spec)))
  have s0 : W2.cell? ⟨S, 0, none⟩ = some (.slice (some ⟨g, 0, none⟩) ns.length cap) := by simp [World.cell?, hq2]
  have s0' := cell_alloc_old s0
  have e0 : W2.cell? ⟨W1.heap.size, 0, none⟩ = some (.int .i64 2) := by simp [World.cell?, hE2]
  have e1 : W2.cell? ⟨W1.heap.size, 1, none⟩ = some .nilFunc := by simp [World.cell?, hE2]
  have e2 : W2.cell? ⟨W1.heap.size, 2, none⟩ = some (.int .i64 k) := by simp [World.cell?, hE2]
  have e3 : W2.cell? ⟨W1.heap.size, 3, none⟩ = some (.int .i64 a.ix) := by simp [World.cell?, hE2]
  have e4 : W2.cell? ⟨W1.heap.size, 4, none⟩ = some (.bool (x.re.nullable && a.re.nullable)) := by simp [World.cell?, hE2]
  have HB2 := hide hB2
  have HT2 := hide hT2
  have HONE : Hid (∀ u ∈ [Value.int .i64 2, .nilFunc, .int .i64 k, .int .i64 a.ix, .bool (x.re.nullable && a.re.nullable)], u.oneCell' = true) := by
   intro u hu
   simp only [List.mem_cons, List.not_mem_nil, or_false] at hu
   rcases hu with rfl | rfl | rfl | rfl | rfl <;> rfl
  clear hB2 hT2 hE2 hq2
  go_wp2_with fail
  go_region_law (refine step_append_at rfl (.tmp 47) (.tmp 49) 182 rfl 0 292 i0 (.agg #[.int .i64 0, .nilFunc, .int .i64 0, .int .i64 0, .bool false]) 5 40 Tryz.underlying182 hi hz0 hz1 hz3 rfl (by decide) (.slice (some ⟨g, 0, none⟩) ns.length cap) ns.length (nsCells ns) (by rfl) (by exact (HL2.out.alloc _).1) ⟨W2.heap.size, 0, none⟩ 1 1 [.int .i64 2, .nilFunc, .int .i64 k, .int .i64 a.ix, .bool (x.re.nullable && a.re.nullable)] (by rfl) (by rfl) (by exact cell_new_row W2 #[.int .i64 2, .nilFunc, .int .i64 k, .int .i64 a.ix, .bool (x.re.nullable && a.re.nullable)] _) HONE.out (by unfold maxLen; omega) (by omega) (Nat.zero_le _) ?_; intro v' w3 hown hg hloc; obtain ⟨g', cap', rfl⟩ := own_form hown (by omega); obtain ⟨hq3, hq4, hL4, hv4, hT4, hM4, hF4⟩ := join_app (nd := ⟨2, .nilFunc, k, a.ix, x.re.nullable && a.re.nullable⟩) (.inl rfl) HO.out HS.out H1.out HL.out HLX.out H4.out HB2.out HT2.out hown hg hloc; have g2 : w3.cell? ⟨S, 0, none⟩ = some (.slice (some ⟨g, 0, none⟩) ns.length cap) := (by simp [World.cell?, hq3]); have gf : w3.frozen? ⟨S, 0, none⟩ = false := (by simp [World.frozen?, hq3]); have Hq4 := hide hq4; have HL4 := hide hL4; have Hv4 := hide hv4; have HT4 := hide hT4; have HM4 := hide hM4; have HF4 := hide hF4; clear hown hg hq3 hq4 hL4 hv4 hT4 hM4 hF4 hloc)
  all_goals
   clear g2 gf s0 s0' e0 e1 e2 e3 e4
   obtain ⟨W4, hW4⟩ : ∃ W, W = w3.setCell ⟨S, 0, none⟩ (.slice (some ⟨g', 0, none⟩) (ns.length + 1) cap') := ⟨_, rfl⟩
   rw [← hW4] at Hq4 HL4 HT4 HM4 HF4 ⊢
   clear hW4
   have t1 : W4.cell? ⟨S, 1, none⟩ = some (.map (some J)) := by simp [World.cell?, Hq4.out]
   have k0 : W4.cell? ⟨w.heap.size, 0, none⟩ = some (.int .i64 k) := by simp [World.cell?, HT4.out]
   have k1 : W4.cell? ⟨w.heap.size, 1, none⟩ = some (.int .i64 a.ix) := by simp [World.cell?, HT4.out]
   obtain ⟨W5, hrun, hM5, hg5⟩ := (show MapIs pairT 3 .i64 W4.drew J m f from HM4.out.keep rfl).store (t := 296) Tryz.underlying296 Tryz.underlying3 (by have := HM.out; omega) (k, a.ix) ⟨by have := HX.out.lt; show k ≤ _; omega, by show a.ix ≤ _; omega⟩ (ns.length : Int) (wf_nat _ (by omega))
   have hrun2 : (Instr.mapUpdate 296 (.map (some J)) (.agg #[.int .i64 k, .int .i64 a.ix]) (.int .i64 ns.length)).run Tryz.prog W4.drew = .ok () W5 := hrun
   have hend := join_end HO.out HS.out HX.out hk HAL.out HR.out HQ.out HF.out HM.out HP1.out HP2.out HJX.out Hq4.out HL4.out Hv4.out HF4.out hM5 hg5 HM4.out.obj
   have HEND := hide hend
   clear hrun hM5 hg5 hend
   go_wp2_with fail
   go_region
   all_goals
    go_wp2
    go_ret
    exact HEND.out
theorem join_any (X : Nat → Prop) (S n0 : Nat) (ns : List (Nd Value)) (Q : List D) (x : D) (a : ARe) (k : Nat) (w : World) (hX : Old X w) (hS : Shelf w X S n0 ns Q) (hx : RepD (IsCls w) n0 ns x k) (ha : a.lt n0) (hr : Rep (IsCls w) ns a) (hQ : tcat x a ∈ Q) :
  Calls Tryz.prog 207 #[.pointer (some ⟨S, 0, none⟩), .int .i64 k, .int .i64 a.ix] w (JoinPost X S n0 ns Q (tcat x a) w) := by
 by_cases hk : k = 0
 ·subst hk
  exact join_zero X S n0 ns Q x a w hS hx ha hr
 ·obtain ⟨sv, J, m, f, h1, h2, h3, h4, h5, h6, h7, h8⟩ := hS.ex
  cases hf : f (k, a.ix) with
  | none => exact join_new X S n0 ns Q x a k w hX hS hx hk ha hr hQ sv J m f h1 h2 h3 h4 hf h5 h6 h7 h8
  | some c =>
   obtain ⟨j, rfl, hj, hd, e, hn⟩ := h7 k a.ix c hf
   exact join_found X S n0 ns Q x a k w hX hS hx hk ha hr sv J m f h1 h4 j hf hj hd e hn
theorem make_ints (n : Nat) (hn : n ≤ 1000000000000) : ∃ cz : Array Value, cz.size = n ∧ ∀ w, (Instr.makeSlice 57 (.int .i64 n) (.int .i64 n)).run Tryz.prog w = .ok (.slice (some ⟨w.heap.size, 0, none⟩) n n) (w.alloc (.cells cz 3)) := by
 obtain ⟨i0, hi, hz0, hz1, hz2⟩ := info_parts info_int
 refine ⟨madeCells (Value.int .i64 0).cells (n * i0.size), ?_, fun w => ?_⟩
 ·rw [size_madeCells, hz1, Nat.mul_one]
 ·have := run_make (P := Tryz.prog) w 57 3 i0 (.int .i64 0) Tryz.underlying57 hi hz0 .i64 .i64 (n : Int) (n : Int) (by omega) (by omega) (by rw [hz2]; omega) (by omega)
  simpa using this
def EachPost (X : Nat → Prop) (S n0 : Nat) (ns : List (Nd Value)) (Q : List D) (ts : List D) (w : World) (e : Ending) (w' : World) : Prop :=
 ∃ (v : Value) (js : List Nat) (ms : List (Nd Value)), e = .returned v ∧ Fx X w w' ∧ Shelf w' X S n0 (ns ++ ms) Q ∧ Row w' X v js ∧ F2 (RepD (IsCls w') n0 (ns ++ ms)) ts js
def two (X : Nat → Prop) (fv : Value) (O : Nat) : Nat → Prop := fun k => X k ∨ fv.ownBlock = some k ∨ k = O
def EachLoop (X : Nat → Prop) (S n0 : Nat) (ns : List (Nd Value)) (Q : List D) (xs : List D) (a : ARe) (fv : Value) (fs : List Nat) (w : World) (O : Nat) (k : Nat) (i : Value) (wr : World) : Prop :=
 ∃ (j : Nat) (js : List Nat) (ms : List (Nd Value)) (cur : Array Value), i = .int .i64 j ∧ j + k = fs.length ∧ Fx X w wr ∧ Shelf wr (two X fv O) S n0 (ns ++ ms) Q ∧ Ints wr 0 fv fs ∧ wr.heap[O]? = some (.cells cur 3 (0, 0)) ∧ cur.size = fs.length ∧
  cur.toList.take j = js.map (fun x : Nat => Value.int .i64 (x : Int)) ∧ F2 (RepD (IsCls wr) n0 (ns ++ ms)) ((xs.take j).map (tcat · a)) js
theorem two_shelf {X : Nat → Prop} {S n0 : Nat} {ns : List (Nd Value)} {Q : List D} {w : World} {fv : Value} {fs : List Nat} {O : Nat} {cur : Array Value} (h : Shelf w X S n0 ns Q) (hf : Ints w 0 fv fs) (hO : w.heap[O]? = some (.cells cur 3 (0, 0))) : Shelf w (two X fv O) S n0 ns Q :=
 h.keep (Stay.refl w) (fun _ _ _ ho _ => ho) (fun k hk => by
  rcases hk with hk | hk | rfl
  ·exact .inl hk
  ·refine .inr fun o ho => ?_
   obtain ⟨c, hc⟩ := hf.block hk
   rw [hc] at ho
   cases ho
   exact ⟨_, _, _, rfl, by decide, by decide⟩
  ·refine .inr fun o ho => ?_
   rw [hO] at ho
   cases ho
   exact ⟨_, _, _, rfl, by decide, by decide⟩)
theorem each_step {X : Nat → Prop} {S n0 : Nat} {ns : List (Nd Value)} {Q : List D} {xs : List D} {a : ARe} {fv : Value} {fs : List Nat} {w wr w2 : World} {j k i2 : Nat} {js : List Nat} {ms ks : List (Nd Value)} {cur : Array Value} {xj : D}
  (hX : Old X w) (hI : Ints w 0 fv fs) (hj : j + (k + 1) = fs.length) (hF : Fx X w wr) (hI3 : Ints wr 0 fv fs) (hsz : cur.size = fs.length) (htk : cur.toList.take j = js.map (fun x : Nat => Value.int .i64 (x : Int)))
  (hF2 : F2 (RepD (IsCls wr) n0 (ns ++ ms)) ((xs.take j).map (tcat · a)) js) (hxj : xs[j]? = some xj) (hF2' : Fx (two X fv w.heap.size) wr w2) (hS2 : Shelf w2 (two X fv w.heap.size) S n0 (ns ++ ms ++ ks) Q) (hR2 : RepD (IsCls w2) n0 (ns ++ ms ++ ks) (tcat xj a) i2)
  (hO2 : w2.heap[w.heap.size]? = some (.cells cur 3 (0, 0))) :
  EachLoop X S n0 ns Q xs a fv fs w w.heap.size k (.int .i64 (j + 1 : Nat)) (w2.setCell ⟨w.heap.size, j, none⟩ (.int .i64 i2)) := by
 have hnX : ¬ X w.heap.size := fun h => by have := hX _ h; omega
 have hOne : ∀ b : Nat, b ≠ w.heap.size → (w2.setCell ⟨w.heap.size, j, none⟩ (.int .i64 i2)).heap[b]? = w2.heap[b]? := fun b hb => Below.heap_setCell _ _ _ _ hb
 have hst : Stay w2 (w2.setCell ⟨w.heap.size, j, none⟩ (.int .i64 i2)) := fun b c t ht hh => by
  rw [hOne b (by rintro rfl; rw [hO2] at hh; simp at hh; rcases ht with rfl | rfl <;> simp at hh)]
  exact hh
 refine ⟨j + 1, js ++ [i2], ms ++ ks, cur.setIfInBounds j (.int .i64 i2), rfl, by omega, (hF.trans (hF2'.sub fun _ h => .inl h)).setCell hnX hO2 (by rfl) _, ?_, ?_, ?_, by simpa using hsz, ?_, ?_⟩
 ·rw [← List.append_assoc]
  exact hS2.keep hst (fun b o hb ho _ => by rw [hOne b (fun e => hb (.inr (.inr e)))]; exact ho) (fun b hb => .inl hb)
 ·refine hI3.keepB fun b hb => ?_
  rw [hOne b (by
   obtain ⟨c, hc⟩ := hI.block hb
   have := lt_of_get hc
   omega)]
  exact hF2'.keep b (.inr (.inl hb))
 ·exact heap_setCell_same w2 w.heap.size j _ hO2
 ·have hjl : j < cur.toList.length := by simp; omega
  have e1 : (cur.setIfInBounds j (.int .i64 i2)).toList = cur.toList.set j (.int .i64 i2) := by simp
  rw [e1, List.take_succ_eq_append_getElem (by simpa using hjl), List.take_set_of_le (Nat.le_refl _), htk]
  simp
 ·rw [← List.append_assoc]
  have hxl := get_lt hxj
  rw [List.take_succ_eq_append_getElem hxl, List.map_append, List.map_cons, List.map_nil]
  rw [List.getElem?_eq_getElem hxl] at hxj
  rw [Option.some.inj hxj]
  have hs1 := hF2'.staying
  exact (hF2.mono fun d k h => RepD.world hst (RepD.world hs1 h).append).snoc (RepD.world hst hR2)
theorem each_end {X : Nat → Prop} {S n0 : Nat} {ns : List (Nd Value)} {Q : List D} {xs : List D} {a : ARe} {fv : Value} {fs : List Nat} {w wr : World} {j : Nat} {js : List Nat} {ms : List (Nd Value)} {cur : Array Value}
  (hX : Old X w) (hlen : fs.length ≤ 1000000000) (hF0 : xs.length = fs.length) (hj : j = fs.length) (hF : Fx X w wr) (hS : Shelf wr (two X fv w.heap.size) S n0 (ns ++ ms) Q) (hO : wr.heap[w.heap.size]? = some (.cells cur 3 (0, 0))) (hsz : cur.size = fs.length)
  (htk : cur.toList.take j = js.map (fun x : Nat => Value.int .i64 (x : Int))) (hF2 : F2 (RepD (IsCls wr) n0 (ns ++ ms)) ((xs.take j).map (tcat · a)) js) :
  EachPost X S n0 ns Q (xs.map (tcat · a)) w (.returned (.slice (some ⟨w.heap.size, 0, none⟩) fs.length fs.length)) wr := by
 subst hj
 rw [List.take_of_length_le (by omega)] at hF2
 have hjs : js.length = fs.length := by
  have := congrArg List.length htk
  simp at this
  omega
 refine ⟨_, js, ms, rfl, hF, hS.keep (Stay.refl _) (fun _ _ _ h _ => h) (fun _ h => .inl (.inl h)), ⟨⟨by simp, .inr ⟨w.heap.size, fs.length, cur, by rw [hjs], Nat.zero_le _, hO, by omega, by unfold maxLen; omega, by omega, ?_⟩⟩, ?_⟩, hF2⟩
 ·rw [hjs, Nat.mul_one]; exact htk
 ·intro k hk hXk
  have e : w.heap.size = k := Option.some.inj hk
  have := hX _ hXk
  omega
set_option maxHeartbeats 2000000 in
theorem joinEach_any (X : Nat → Prop) (S n0 : Nat) (ns : List (Nd Value)) (Q : List D) (xs : List D) (a : ARe) (fv : Value) (fs : List Nat) (w : World) (hX : Old X w) (hS : Shelf w X S n0 ns Q) (hI : Ints w 0 fv fs) (hx : F2 (RepD (IsCls w) n0 ns) xs fs) (ha : a.lt n0) (hr : Rep (IsCls w) ns a)
  (hQ : ∀ x ∈ xs, tcat x a ∈ Q) (hlen : fs.length ≤ 1000000000) :
  Calls Tryz.prog 199 #[.pointer (some ⟨S, 0, none⟩), fv, .int .i64 a.ix] w (EachPost X S n0 ns Q (xs.map (tcat · a)) w) := by
 obtain ⟨cz, hcz, hmk⟩ := make_ints fs.length (by omega)
 have hform : ∃ ao cap, fv = .slice ao fs.length cap ∧ (0 < fs.length → ∃ g, ao = some ⟨g, 0, none⟩) := by
  rcases hI.2 with ⟨rfl, h0⟩ | ⟨g, cap, _, rfl, _⟩
  ·exact ⟨none, 0, by rw [h0], fun h => by omega⟩
  ·exact ⟨_, cap, rfl, fun _ => ⟨g, rfl⟩⟩
 obtain ⟨ao, cap, rfl, hao⟩ := hform
 have HX := hide hX
 have HS := hide hS
 have HI := hide hI
 have HF := hide hx
 have HR := hide hr
 have HQ := hide hQ
 have HAO := hide hao
 clear hX hS hI hx hr hQ hao
 go_enter Tryz.func199, Tryz.ntmps199
 go_wp2_with fail
 clear hmk
 go_loopg [15] fs.length (fun k i wr => EachLoop X S n0 ns Q xs a (.slice ao fs.length cap) fs w w.heap.size k i wr)
 case atStart =>
  have hb : Below w.heap.size w (w.alloc (.cells cz 3)) := (Below.refl _ _).alloc (Nat.le_refl _) _
  have hO := heap_alloc_last w (.cells cz 3)
  have hI2 : Ints (w.alloc (.cells cz 3)) 0 (.slice ao fs.length cap) fs := HI.out.keep fun k c hk => (hb.block k (lt_of_get hk)).trans hk
  exact ⟨0, [], [], cz, by simp, by simp, Fx.of_below HX.out hb, by simpa using two_shelf (HS.out.below hb) hI2 hO, hI2, hO, hcz, by simp, by simpa using F2.nil⟩
 case round =>
  obtain ⟨j, js, ms, cur, rfl, hj, hFx, hSh, hI3, hO, hsz, htk, hF2⟩ := hrel
  by_cases hlt : j < fs.length
  ·obtain ⟨f, hf⟩ : ∃ f, fs[j]? = some f := ⟨fs[j], List.getElem?_eq_getElem hlt⟩
   obtain ⟨g, rfl⟩ := HAO.out (by omega)
   obtain ⟨g', cap', e', hcj⟩ := hI3.at hf
   cases e'
   obtain ⟨xj, hxj, hrj⟩ := HF.out.get hf
   have hst := hFx.staying
   have HRJ := hide ((RepD.world hst hrj).append (ms := ms))
   have HRA := hide ((HR.out.world hst).append (ms := ms))
   have HOld := hide (show Old (two X (.slice (some ⟨g, 0, none⟩) fs.length cap) w.heap.size) wr from by
    rintro k (hk | hk | rfl)
    ·exact (HX.out.fx hFx) k hk
    ·obtain ⟨c, hc⟩ := hI3.block hk; exact lt_of_get hc
    ·exact lt_of_get hO)
   have HQJ := hide (HQ.out xj (List.mem_of_getElem? hxj))
   have HFx := hide hFx
   have HSh := hide hSh
   have HI3 := hide hI3
   have HO := hide hO
   have HTK := hide htk
   have HF2 := hide hF2
   have HXJ := hide hxj
   clear hFx hSh hI3 hO htk hF2 hxj hrj hst hf
   go_wp2_with fail
   refine (join_any _ S n0 (ns ++ ms) Q xj a f wr HOld.out HSh.out HRJ.out ha HRA.out HQJ.out).mono ?_
   rintro e w2 ⟨i2, ks, rfl, hF2, hS2, hR2⟩
   have hO2 : w2.heap[w.heap.size]? = some (.cells cur 3 (0, 0)) := (hF2.keep _ (.inr (.inr rfl))).trans HO.out
   have o1 : w2.cell? ⟨w.heap.size, j, none⟩ = some (cur[j]'(by omega)) := by
    simp [World.cell?, hO2, hsz, hlt]
   have of : w2.frozen? ⟨w.heap.size, j, none⟩ = false := by simp [World.frozen?, hO2]
   have HF2' := hide hF2
   have HS2 := hide hS2
   have HR2 := hide hR2
   have HO2 := hide hO2
   clear hF2 hS2 hR2 hO2
   go_wp2_with fail
   obtain ⟨k', rfl⟩ : ∃ k', gk = k' + 1 := ⟨gk - 1, by omega⟩
   have hstep := each_step HX.out HI.out hj HFx.out HI3.out hsz HTK.out HF2.out HXJ.out HF2'.out HS2.out HR2.out HO2.out
   go_roundg k'
   case measure => omega
   case rel => exact hstep
  ·have HFx := hide hFx
   have HSh := hide hSh
   have HO := hide hO
   have HTK := hide htk
   have HF2 := hide hF2
   clear hFx hSh hI3 hO htk hF2
   go_wp2_with fail
   go_ret
   exact each_end HX.out hlen HF.out.length (by omega) HFx.out HSh.out HO.out hsz HTK.out HF2.out
def DOK (b : UInt8) (d : D) : Prop := ∀ X S n0 ns Q k w, Old X w → Shelf w X S n0 ns Q → RepD (IsCls w) n0 ns d k → (∀ t ∈ joinsD d, t ∈ Q) → d.sz ≤ 1000000 →
 Calls Tryz.prog 178 #[.pointer (some ⟨S, 0, none⟩), .int .i64 k, .int .u8 b.toNat] w (EachPost X S n0 ns Q (pd b d) w)
theorem Shelf.at {w : World} {X : Nat → Prop} {S n0 : Nat} {ns : List (Nd Value)} {Q : List D} (h : Shelf w X S n0 ns Q) {k : Nat} {nd : Nd Value} (hk : ns[k]? = some nd) :
  ∃ g cap, w.cell? ⟨S, 0, none⟩ = some (.slice (some ⟨g, 0, none⟩) ns.length cap) ∧ w.cell? ⟨g, k * 5, none⟩ = some (.int .i64 nd.kind) ∧ w.cell? ⟨g, k * 5 + 1, none⟩ = some nd.has ∧
   w.cell? ⟨g, k * 5 + 2, none⟩ = some (.int .i64 nd.left) ∧ w.cell? ⟨g, k * 5 + 3, none⟩ = some (.int .i64 nd.right) ∧ w.cell? ⟨g, k * 5 + 4, none⟩ = some (.bool nd.empty) ∧ Form nd.has := by
 obtain ⟨sv, J, m, f, h1, h2, _⟩ := h.ex
 obtain ⟨g, cap, rfl, q0, q1, q2, q3, q4⟩ := h2.at hk
 exact ⟨g, cap, by simp [World.cell?, h1], q0, q1, q2, q3, q4, h2.2 nd (List.mem_of_getElem? hk)⟩
def andE (X : Nat → Prop) (E : Nat) : Nat → Prop := fun k => X k ∨ k = E
theorem andE_shelf {X : Nat → Prop} {S n0 : Nat} {ns : List (Nd Value)} {Q : List D} {w : World} (h : Shelf w X S n0 ns Q) (o : Obj) : Shelf (w.alloc o) (andE X w.heap.size) S n0 ns Q :=
 h.keep (Stay.of_below ((Below.refl _ _).alloc (Nat.le_refl _) _)) (fun _ _ _ ho _ => heap_alloc_old ho) (fun k hk => by
  rcases hk with hk | rfl
  ·exact .inl hk
  ·exact .inr fun o ho => by have := lt_of_get ho; omega)
theorem andE_old {X : Nat → Prop} {w : World} (h : Old X w) (o : Obj) : Old (andE X w.heap.size) (w.alloc o) := by
 rintro k (hk | rfl)
 ·have := h k hk; simp; omega
 ·simp
theorem Fx.undrew {X : Nat → Prop} {w w' : World} (h : Fx X w.drew w') : Fx X w w' := ⟨h.os, h.tape, h.output, h.size, h.keep, h.stay⟩
theorem Shelf.drew {w : World} {X : Nat → Prop} {S n0 : Nat} {ns : List (Nd Value)} {Q : List D} (h : Shelf w X S n0 ns Q) : Shelf w.drew X S n0 ns Q := h.drewN 1
theorem cells_E {w w' : World} {X : Nat → Prop} {E : Nat} {a0 a1 a2 a3 a4 : Value} (hE : w.heap[E]? = some (.cells #[a0, a1, a2, a3, a4] 292 (0, 0))) (hF : Fx (andE X E) w w') :
  w'.cell? ⟨E, 2, none⟩ = some a2 ∧ w'.cell? ⟨E, 3, none⟩ = some a3 := by
 have h := (hF.keep E (.inr rfl)).trans hE
 exact ⟨by simp [World.cell?, h], by simp [World.cell?, h]⟩
theorem Shelf.less {X : Nat → Prop} {S n0 : Nat} {ns : List (Nd Value)} {Q : List D} {w : World} {E : Nat} (h : Shelf w (andE X E) S n0 ns Q) : Shelf w X S n0 ns Q :=
 h.keep (Stay.refl _) (fun _ _ _ h _ => h) (fun _ h => .inl (.inl h))
theorem Row.less {X : Nat → Prop} {w : World} {E : Nat} {v : Value} {js : List Nat} (h : Row w (andE X E) v js) : Row w X v js := ⟨h.1, fun k hk hx => h.2 k hk (.inl hx)⟩
theorem store_form {v : Value} (h : Form v) (a : Addr) (m : Mode) (w : World) : (store a v m).run Tryz.prog w = stored Tryz.prog w a v m := run_store _ w a v m h.one
theorem pd_joins {b : UInt8} {d : D} {a : ARe} {Q : List D} (h : ∀ t ∈ (allD d).map (tcat · a), t ∈ Q) : ∀ x ∈ pd b d, tcat x a ∈ Q :=
 fun x hx => h _ (List.mem_map.2 ⟨x, pd_sub b d x hx, rfl⟩)
set_option maxHeartbeats 2000000 in
theorem derive_star_node (b : UInt8) (k l : Nat) (hv : Value) (r : Nat) (e : Bool) (d : D) (a : ARe) (hd : DOK b d) (X : Nat → Prop) (S n0 : Nat) (ns : List (Nd Value)) (Q : List D) (w : World) (hX : Old X w) (hS : Shelf w X S n0 ns Q)
  (hn : ns[k]? = some ⟨4, hv, l, r, e⟩) (hak : a.ix = k) (hR : RepD (IsCls w) n0 ns d l) (ha : a.lt n0) (hra : Rep (IsCls w) ns a) (hQ1 : ∀ t ∈ joinsD d, t ∈ Q) (hQ2 : ∀ x ∈ pd b d, tcat x a ∈ Q) (hsz : d.sz ≤ 1000000) :
  Calls Tryz.prog 178 #[.pointer (some ⟨S, 0, none⟩), .int .i64 k, .int .u8 b.toNat] w (EachPost X S n0 ns Q ((pd b d).map (tcat · a)) w) := by
 obtain ⟨g, cap, c0, m0, m1, m2, m3, m4, hfm⟩ := hS.at hn
 have hkl := get_lt hn
 have hlen := hS.length
 have hst := store_form hfm
 have HX := hide hX
 have HS := hide hS
 have HR := hide hR
 have HRA := hide hra
 have HQ1 := hide hQ1
 have HQ2 := hide hQ2
 have HA := hide ha
 have HAK := hide hak
 have hb : Below w.heap.size w (w.alloc (.cells #[.int .i64 4, hv, .int .i64 l, .int .i64 r, .bool e] 292)) := (Below.refl _ _).alloc (Nat.le_refl _) _
 have HS1 := hide (andE_shelf hS (.cells #[.int .i64 4, hv, .int .i64 l, .int .i64 r, .bool e] 292))
 have HX1 := hide (andE_old hX (.cells #[.int .i64 4, hv, .int .i64 l, .int .i64 r, .bool e] 292))
 have HB := hide hb
 clear hX hS hn hR hra hQ1 hQ2 hfm hb ha hak
 go_enter Tryz.func178, Tryz.ntmps178
 go_wp2_with fail
 refine (hd _ S n0 ns Q l _ HX1.out HS1.out (RepD.world (Stay.of_below HB.out) HR.out) HQ1.out hsz).mono ?_
 rintro e2 w2 ⟨v2, js, ms, rfl, hF2, hS2, hI2, hj2⟩
 have HF2 := hide hF2
 have HS2 := hide hS2
 have HI2 := hide hI2
 have HJ2 := hide hj2
 clear hF2 hS2 hI2 hj2
 go_wp2_with fail
 have hst2 := (Stay.of_below HB.out).trans HF2.out.staying
 have hjl : js.length ≤ 1000000000 := by
  have h1 := HJ2.out.length
  have h2 := length_pd b d
  omega
 have hj := joinEach_any _ S n0 (ns ++ ms) Q (pd b d) a v2 js w2 (HX1.out.fx HF2.out) HS2.out HI2.out.1 HJ2.out HA.out ((HRA.out.world hst2).append) HQ2.out hjl
 rw [HAK.out] at hj
 refine hj.mono ?_
 rintro e3 w3 ⟨v3, js3, ms3, rfl, hF3, hS3, hI3, hj3⟩
 have HEND := hide (show EachPost X S n0 ns Q ((pd b d).map (tcat · a)) w (.returned v3) w3 from ⟨v3, js3, ms ++ ms3, rfl, ((Fx.of_below HX.out HB.out).trans (HF2.out.sub fun _ h => .inl h)).trans (hF3.sub fun _ h => .inl h), by rw [← List.append_assoc]; exact hS3.less, hI3.less, by rw [← List.append_assoc]; exact hj3⟩)
 clear hF3 hS3 hI3 hj3 hj hst2
 go_wp2_with fail
 go_ret
 exact HEND.out
set_option maxHeartbeats 2000000 in
theorem derive_opt_node (b : UInt8) (k l : Nat) (hv : Value) (r : Nat) (e : Bool) (d : D) (hd : DOK b d) (X : Nat → Prop) (S n0 : Nat) (ns : List (Nd Value)) (Q : List D) (w : World) (hX : Old X w) (hS : Shelf w X S n0 ns Q)
  (hn : ns[k]? = some ⟨6, hv, l, r, e⟩) (hR : RepD (IsCls w) n0 ns d l) (hQ1 : ∀ t ∈ joinsD d, t ∈ Q) (hsz : d.sz ≤ 1000000) :
  Calls Tryz.prog 178 #[.pointer (some ⟨S, 0, none⟩), .int .i64 k, .int .u8 b.toNat] w (EachPost X S n0 ns Q (pd b d) w) := by
 obtain ⟨g, cap, c0, m0, m1, m2, m3, m4, hfm⟩ := hS.at hn
 have hkl := get_lt hn
 have hlen := hS.length
 have hst := store_form hfm
 have HX := hide hX
 have HS := hide hS
 have HR := hide hR
 have HQ1 := hide hQ1
 have hb : Below w.heap.size w (w.alloc (.cells #[.int .i64 6, hv, .int .i64 l, .int .i64 r, .bool e] 292)) := (Below.refl _ _).alloc (Nat.le_refl _) _
 have HS1 := hide (andE_shelf hS (.cells #[.int .i64 6, hv, .int .i64 l, .int .i64 r, .bool e] 292))
 have HX1 := hide (andE_old hX (.cells #[.int .i64 6, hv, .int .i64 l, .int .i64 r, .bool e] 292))
 have HB := hide hb
 clear hX hS hn hR hQ1 hfm hb
 go_enter Tryz.func178, Tryz.ntmps178
 go_wp2_with fail
 refine (hd _ S n0 ns Q l _ HX1.out HS1.out (RepD.world (Stay.of_below HB.out) HR.out) HQ1.out hsz).mono ?_
 rintro e2 w2 ⟨v2, js, ms, rfl, hF2, hS2, hI2, hj2⟩
 have HEND := hide (show EachPost X S n0 ns Q (pd b d) w (.returned v2) w2 from ⟨v2, js, ms, rfl, (Fx.of_below HX.out HB.out).trans (hF2.sub fun _ h => .inl h), hS2.less, hI2.less, hj2⟩)
 clear hF2 hS2 hI2 hj2
 go_wp2_with fail
 go_ret
 exact HEND.out
set_option maxHeartbeats 2000000 in
theorem derive_eps_node (b : UInt8) (k l : Nat) (hv : Value) (r : Nat) (e : Bool) (X : Nat → Prop) (S n0 : Nat) (ns : List (Nd Value)) (Q : List D) (w : World) (hX : Old X w) (hS : Shelf w X S n0 ns Q)
  (hn : ns[k]? = some ⟨0, hv, l, r, e⟩) :
  Calls Tryz.prog 178 #[.pointer (some ⟨S, 0, none⟩), .int .i64 k, .int .u8 b.toNat] w (EachPost X S n0 ns Q [] w) := by
 obtain ⟨g, cap, c0, m0, m1, m2, m3, m4, hfm⟩ := hS.at hn
 have hkl := get_lt hn
 have hlen := hS.length
 have hst := store_form hfm
 have hb : Below w.heap.size w (w.alloc (.cells #[.int .i64 0, hv, .int .i64 l, .int .i64 r, .bool e] 292)) := (Below.refl _ _).alloc (Nat.le_refl _) _
 have HEND := hide (show EachPost X S n0 ns Q [] w (.returned (.slice none 0 0)) (w.alloc (.cells #[.int .i64 0, hv, .int .i64 l, .int .i64 r, .bool e] 292)) from
  ⟨_, [], [], rfl, Fx.of_below hX hb, by simpa using hS.below hb, ⟨World.ownsRow_nil _ _ _ _, fun k hk => by cases hk⟩, .nil⟩)
 clear hX hS hn hfm hb
 go_enter Tryz.func178, Tryz.ntmps178
 go_wp2_with fail
 go_ret
 exact HEND.out
set_option maxHeartbeats 2000000 in
theorem derive_leaf_node (b : UInt8) (k l : Nat) (hv : Value) (r : Nat) (e : Bool) (c : Cls) (X : Nat → Prop) (S n0 : Nat) (ns : List (Nd Value)) (Q : List D) (w : World) (hX : Old X w) (hS : Shelf w X S n0 ns Q)
  (hn : ns[k]? = some ⟨1, hv, l, r, e⟩) (hc : IsCls w hv c) :
  Calls Tryz.prog 178 #[.pointer (some ⟨S, 0, none⟩), .int .i64 k, .int .u8 b.toNat] w (EachPost X S n0 ns Q (if c.has b then [.base .eps] else []) w) := by
 obtain ⟨g, cap, c0, m0, m1, m2, m3, m4, hfm⟩ := hS.at hn
 have hkl := get_lt hn
 have hlen := hS.length
 have hst := store_form hfm
 have hb : Below w.heap.size w (w.alloc (.cells #[.int .i64 1, hv, .int .i64 l, .int .i64 r, .bool e] 292)) := (Below.refl _ _).alloc (Nat.le_refl _) _
 obtain ⟨gf, cf, ev, hen, htl⟩ := (hc.stay (Stay.of_below hb)).tells
 subst ev
 have HT := hide (htl b)
 unfold Enters at hen
 have HX := hide hX
 have HS := hide hS
 have HB := hide hb
 clear hX hS hn hfm hb htl hc
 cases hcb : c.has b with
 | true =>
  have hb2 : Below w.heap.size w ((w.alloc (.cells #[.int .i64 1, .func (.func gf) #[] cf, .int .i64 l, .int .i64 r, .bool e] 292)).alloc (.cells #[.int .i64 0] 3)) := HB.out.alloc (by simp) _
  have HEND := hide (show EachPost X S n0 ns Q [.base .eps] w (.returned (.slice (some ⟨w.heap.size + 1, 0, none⟩) 1 1)) ((w.alloc (.cells #[.int .i64 1, .func (.func gf) #[] cf, .int .i64 l, .int .i64 r, .bool e] 292)).alloc (.cells #[.int .i64 0] 3)) from by
   have hO := heap_alloc_last (w.alloc (.cells #[.int .i64 1, .func (.func gf) #[] cf, .int .i64 l, .int .i64 r, .bool e] 292)) (.cells #[.int .i64 0] 3)
   refine ⟨_, [0], [], rfl, Fx.of_below HX.out hb2, by simpa using HS.out.below hb2, ⟨⟨by simp, .inr ⟨w.heap.size + 1, 1, #[.int .i64 0], rfl, Nat.zero_le _, by simpa using hO, Nat.le_refl _, by unfold maxLen; omega, rfl, rfl⟩⟩, ?_⟩, ?_⟩
   ·intro k hk hXk
    have e : w.heap.size + 1 = k := Option.some.inj hk
    have := HX.out _ hXk
    omega
   ·have h0 := HS.out.eps.world (Stay.of_below hb2)
    simp only [List.append_nil]
    exact .cons ⟨rfl, HS.out.pos, h0⟩ .nil)
  simp only [if_true]
  clear hb2
  go_enter Tryz.func178, Tryz.ntmps178
  go_wp2_with fail
  refine HT.out.mono ?_
  rintro e2 w2 ⟨rfl, rfl⟩
  rw [hcb]
  go_wp2_with fail
  go_ret
  exact HEND.out
 | false =>
  have HEND := hide (show EachPost X S n0 ns Q [] w (.returned (.slice none 0 0)) (w.alloc (.cells #[.int .i64 1, .func (.func gf) #[] cf, .int .i64 l, .int .i64 r, .bool e] 292)) from
   ⟨_, [], [], rfl, Fx.of_below HX.out HB.out, by simpa using HS.out.below HB.out, ⟨World.ownsRow_nil _ _ _ _, fun k hk => by cases hk⟩, .nil⟩)
  simp only [Bool.false_eq_true, if_false]
  go_enter Tryz.func178, Tryz.ntmps178
  go_wp2_with fail
  refine HT.out.mono ?_
  rintro e2 w2 ⟨rfl, rfl⟩
  rw [hcb]
  go_wp2_with fail
  go_ret
  exact HEND.out
set_option maxHeartbeats 4000000 in
theorem derive_plus_node (b : UInt8) (k l : Nat) (hv : Value) (r : Nat) (e : Bool) (d : D) (a : ARe) (hd : DOK b d) (X : Nat → Prop) (S n0 : Nat) (ns : List (Nd Value)) (Q : List D) (w : World) (hX : Old X w) (hS : Shelf w X S n0 ns Q)
  (hn : ns[k]? = some ⟨5, hv, l, r, e⟩) (hak : a.ix = r) (hR : RepD (IsCls w) n0 ns d l) (ha : a.lt n0) (hra : Rep (IsCls w) ns a) (hQ1 : ∀ t ∈ joinsD d, t ∈ Q) (hQ2 : ∀ x ∈ pd b d, tcat x a ∈ Q) (hsz : d.sz ≤ 1000000) :
  Calls Tryz.prog 178 #[.pointer (some ⟨S, 0, none⟩), .int .i64 k, .int .u8 b.toNat] w (EachPost X S n0 ns Q ((pd b d).map (tcat · a)) w) := by
 obtain ⟨g, cap, c0, m0, m1, m2, m3, m4, hfm⟩ := hS.at hn
 have hkl := get_lt hn
 have hlen := hS.length
 have hst := store_form hfm
 subst hak
 have HX := hide hX
 have HS := hide hS
 have HR := hide hR
 have HRA := hide hra
 have HQ1 := hide hQ1
 have HQ2 := hide hQ2
 have HA := hide ha
 obtain ⟨r, hr⟩ : ∃ r, r = a.ix := ⟨_, rfl⟩
 rw [← hr] at m3
 have HRR := hide hr
 have hb : Below w.heap.size w (w.alloc (.cells #[.int .i64 5, hv, .int .i64 l, .int .i64 r, .bool e] 292)) := (Below.refl _ _).alloc (Nat.le_refl _) _
 have HS1 := hide (andE_shelf hS (.cells #[.int .i64 5, hv, .int .i64 l, .int .i64 r, .bool e] 292))
 have HX1 := hide (andE_old hX (.cells #[.int .i64 5, hv, .int .i64 l, .int .i64 r, .bool e] 292))
 have HB := hide hb
 have HE := hide (heap_alloc_last w (.cells #[.int .i64 5, hv, .int .i64 l, .int .i64 r, .bool e] 292))
 have HD := hide (hd _ S n0 ns Q l (w.alloc (.cells #[.int .i64 5, hv, .int .i64 l, .int .i64 r, .bool e] 292)).drew HX1.out HS1.out.drew (RepD.world (Stay.of_below hb.drew) hR) hQ1 hsz)
 have HJ := hide (fun (w2 : World) (v2 : Value) (js : List Nat) (ms : List (Nd Value)) (hF2 : Fx (andE X w.heap.size) (w.alloc (.cells #[.int .i64 5, hv, .int .i64 l, .int .i64 r, .bool e] 292)) w2) (hS2 : Shelf w2 (andE X w.heap.size) S n0 (ns ++ ms) Q) (hI2 : Row w2 (andE X w.heap.size) v2 js) (hj2 : F2 (RepD (IsCls w2) n0 (ns ++ ms)) (pd b d) js) => by
  have hjl : js.length ≤ 1000000000 := by
   have h1 := hj2.length
   have h2 := length_pd b d
   omega
  have hst2 := (Stay.of_below hb).trans hF2.staying
  have := joinEach_any _ S n0 (ns ++ ms) Q (pd b d) a v2 js w2 (HX1.out.fx hF2) hS2 hI2.1 hj2 ha ((hra.world hst2).append) hQ2 hjl
  rw [← hr] at this
  exact this)
 clear hX hS hn hR hra hQ1 hQ2 hfm hb ha hr
 go_enter Tryz.func178, Tryz.ntmps178
 go_wp2_with fail
 go_region_with (first
  | (go_at_call 178; refine HD.out.mono ?_; rintro e2 w2 ⟨v2, js, ms, rfl, hF2, hS2, hI2, hj2⟩; have HF2 := hide hF2.undrew; have HS2 := hide hS2; have HI2 := hide hI2; have HJ2 := hide hj2; clear hF2 hS2 hI2 hj2; obtain ⟨q2, q3⟩ := cells_E HE.out HF2.out)
  | (go_at_call 199; refine (HJ.out w2 v2 js ms HF2.out HS2.out HI2.out HJ2.out).mono ?_; rintro e3 w3 ⟨v3, js3, ms3, rfl, hF3, hS3, hI3, hj3⟩; have HF3 := hide hF3; have HS3 := hide hS3; have HI3 := hide hI3; have HJ3 := hide hj3; clear hF3 hS3 hI3 hj3))
 all_goals
  have HEND := hide (show EachPost X S n0 ns Q ((pd b d).map (tcat · a)) w (.returned v3) w3 from ⟨v3, js3, ms ++ ms3, rfl, ((Fx.of_below HX.out HB.out).trans (HF2.out.sub fun _ h => .inl h)).trans (HF3.out.sub fun _ h => .inl h), by rw [← List.append_assoc]; exact HS3.out.less, HI3.out.less, by rw [← List.append_assoc]; exact HJ3.out⟩)
  go_wp2_with fail
  go_ret
  exact HEND.out
end Go.Proofs.YtgncgdkpkkdaeaaGreatDoor
