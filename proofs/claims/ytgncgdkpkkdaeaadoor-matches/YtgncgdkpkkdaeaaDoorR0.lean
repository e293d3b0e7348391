/- What a reader's functions leave alone; the shelf; rows of numbers. -/
import Derived.Test.YtgncgdkpkkdaeaaDoorM0
import Derived.Test.YtgncgdkpkkdaeaaDoorA0
import Derived.Test.YtgncgdkpkkdaeaaDoorDer2
namespace Go.Proofs.YtgncgdkpkkdaeaaDoor
open Go.RowKit Tint Go.Maps

/-- Types of variables that are written once. -/
def stable (t : TypeId) : Bool :=
  t == 5 || t == 82 || t == 87 || t == 91 || t == 94 || t == 95 || t == 105 || t == 106 || t == 98 || t == 47 || t == 49

/-- What is foreign (X) and what is written once is as it was. -/
structure Fx (X : Nat → Prop) (w w' : World) : Prop where
  os : w'.os = w.os
  tape : w'.tape = w.tape
  output : w'.output = w.output
  size : w.heap.size ≤ w'.heap.size
  keep : ∀ k, X k → w'.heap[k]? = w.heap[k]?
  stay : ∀ (k : Nat) c t, stable t = true → w.heap[k]? = some (.cells c t (0, 0)) → w'.heap[k]? = some (.cells c t (0, 0))

/-- What is foreign was there. -/
def Old (X : Nat → Prop) (w : World) : Prop := ∀ k, X k → k < w.heap.size

theorem Fx.refl (X : Nat → Prop) (w : World) : Fx X w w := ⟨rfl, rfl, rfl, Nat.le_refl _, fun _ _ => rfl, fun _ _ _ _ h => h⟩
theorem Fx.trans {X : Nat → Prop} {a b c : World} (h : Fx X a b) (k : Fx X b c) : Fx X a c :=
  ⟨k.os.trans h.os, k.tape.trans h.tape, k.output.trans h.output, Nat.le_trans h.size k.size, fun i hi => (k.keep i hi).trans (h.keep i hi), fun i x t ht hh => k.stay i x t ht (h.stay i x t ht hh)⟩
theorem Fx.drew {X : Nat → Prop} {a w : World} (h : Fx X a w) : Fx X a w.drew := ⟨h.os, h.tape, h.output, h.size, h.keep, h.stay⟩
theorem Fx.drewN {X : Nat → Prop} {a w : World} (h : Fx X a w) (n : Nat) : Fx X a (w.drewN n) := ⟨h.os, h.tape, h.output, h.size, h.keep, h.stay⟩
theorem Fx.sub {X Y : Nat → Prop} {a w : World} (h : Fx X a w) (hs : ∀ k, Y k → X k) : Fx Y a w := ⟨h.os, h.tape, h.output, h.size, fun k hk => h.keep k (hs k hk), h.stay⟩
theorem Old.mono {X : Nat → Prop} {w w' : World} (h : Old X w) (hs : w.heap.size ≤ w'.heap.size) : Old X w' := fun k hk => Nat.lt_of_lt_of_le (h k hk) hs
theorem Old.fx {X Y : Nat → Prop} {w w' : World} (h : Old X w) (hs : Fx Y w w') : Old X w' := h.mono hs.size

theorem Fx.of_below {X : Nat → Prop} {w w' : World} (hX : Old X w) (h : Below w.heap.size w w') : Fx X w w' :=
  ⟨h.os, h.tape, h.output, h.size, fun k hk => h.block k (hX k hk), fun k _ _ _ hh => (h.block k (lt_of_get hh)).trans hh⟩

theorem Fx.alloc {X : Nat → Prop} {a w : World} (h : Fx X a w) (hX : Old X w) (o : Obj) : Fx X a (w.alloc o) :=
  h.trans (Fx.of_below hX ((Below.refl _ _).alloc (Nat.le_refl _) o))

theorem Fx.setCell {X : Nat → Prop} {a w : World} (h : Fx X a w) {p : Addr} {c : Array Value} {t : TypeId} {fz : Nat × Nat} (hp : ¬ X p.block) (hb : w.heap[p.block]? = some (.cells c t fz)) (ht : stable t = false) (u : Value) : Fx X a (w.setCell p u) :=
  h.trans ⟨rfl, rfl, rfl, by simp [World.setCell], fun k hk => Below.heap_setCell _ _ _ _ (fun e => hp (e ▸ hk)), fun k x t' ht' hh => by
    rw [Below.heap_setCell _ _ _ _ (fun e => by
      rw [e, hb] at hh
      simp only [Option.some.injEq, Obj.cells.injEq] at hh
      rw [hh.2.1, ht'] at ht
      cases ht)]
    exact hh⟩

/-- A law that ends in 'grownBy': the row is not foreign, and holds what is no variable. -/
theorem Fx.grown {X : Nat → Prop} {a w w' : World} {row : Option Nat} (h : Fx X a w) (hg : w.grownBy w' row) (hX : Old X w) (hr : ∀ k, row = some k → ¬ X k) (ht : ∀ k, row = some k → ∀ c t fz, w.heap[k]? = some (.cells c t fz) → stable t = false) : Fx X a w' :=
  h.trans ⟨hg.os, hg.tape, hg.output, hg.size, fun k hk => hg.block k (hX k hk) (fun e => hr k e.symm hk), fun k c t hs hh => by
    rw [hg.block k (lt_of_get hh) (fun e => by have := ht k e.symm c t _ hh; rw [hs] at this; cases this)]
    exact hh⟩

theorem Fx.staying {X : Nat → Prop} {w w' : World} (h : Fx X w w') : Stay w w' := fun k c t ht hh => h.stay k c t (by rcases ht with rfl | rfl <;> decide) hh

/-- A row of numbers that is not foreign. -/
def Row (w : World) (X : Nat → Prop) (v : Value) (xs : List Nat) : Prop := Ints w 0 v xs ∧ ∀ k, v.ownBlock = some k → ¬ X k

theorem Ints.block {w : World} {B : Nat} {v : Value} {xs : List Nat} (h : Ints w B v xs) {k : Nat} (hk : v.ownBlock = some k) : ∃ c, w.heap[k]? = some (.cells c 3 (0, 0)) := by
  rcases h.2 with ⟨rfl, _⟩ | ⟨g, cap, cur, rfl, hg, hh, _⟩
  · cases hk
  · cases hk; exact ⟨cur, hh⟩

theorem Ints.keepB {w w' : World} {B : Nat} {v : Value} {xs : List Nat} (h : Ints w B v xs) (hk : ∀ k, v.ownBlock = some k → w'.heap[k]? = w.heap[k]?) : Ints w' B v xs := by
  obtain ⟨h1, h2⟩ := h
  refine ⟨h1, ?_⟩
  rcases h2 with h2 | ⟨g, cap, cur, hv, hg, hh, r⟩
  · exact .inl h2
  · exact .inr ⟨g, cap, cur, hv, hg, by rw [hk g (by rw [hv]; rfl)]; exact hh, r⟩

/-- The row's own block beside what is foreign. -/
def orBlock (X : Nat → Prop) (v : Value) : Nat → Prop := fun k => X k ∨ v.ownBlock = some k

theorem Old.orBlock {X : Nat → Prop} {w : World} (h : Old X w) {v : Value} {xs : List Nat} {B : Nat} (hv : Ints w B v xs) : Old (orBlock X v) w := by
  rintro k (hk | hk)
  · exact h k hk
  · obtain ⟨c, hc⟩ := hv.block hk; exact lt_of_get hc

/-- append(dst, src...) on rows of numbers. -/
theorem run_append_ints (w : World) (ty : TypeId) (v u : Value) (xs ys : List Nat) (hv : Ints w 0 v xs) (hu : Ints w 0 u ys) (hn : xs.length + ys.length ≤ 1000000000000) :
    ∃ v' w', (Builtin.append_ #[31, 31] ty #[v, u]).run Tryd.prog w = .ok v' w' ∧ Ints w' 0 v' (xs ++ ys) ∧ w.grownBy w' v.ownBlock ∧ (v'.ownBlock = v.ownBlock ∨ v'.ownBlock = some w.heap.size) := by
  obtain ⟨i0, hi, hz0, hz1, hz2⟩ := info_parts info_int
  rcases hu.2 with ⟨rfl, h0⟩ | ⟨g, cap, cur, rfl, hg, hh, hnc, hc, hs, ht⟩
  · obtain rfl : ys = [] := List.eq_nil_of_length_eq_zero h0
    refine ⟨v, w, ?_, by simpa using hv, ⟨rfl, rfl, rfl, Nat.le_refl _, fun _ _ _ => rfl⟩, .inl rfl⟩
    rcases hv.2 with ⟨rfl, h1⟩ | ⟨g, cap, cur, rfl, hg, hh, hnc, hc, hs, ht⟩
    · obtain rfl : xs = [] := List.eq_nil_of_length_eq_zero h1
      have hs := Src.ofNil (P := Tryd.prog) (size := i0.size) w Tryd.underlying31 0
      simp [Builtin.append_, run_underlying (P := Tryd.prog) Tryd.underlying31, sizeOf, typeInfo, hi, hs.len, hs.cells]
    · have := run_append_room_src (P := Tryd.prog) w 31 31 ty 3 i0 Tryd.underlying31 hi g 0 xs.length cap (.slice none 0 0) 0 [] (Src.ofNil w Tryd.underlying31 0) (by omega) (by simp) (by simp)
      simpa [World.setCells] using this
  · have hnews : ∀ j x, (ys.map fun x : Nat => Value.int .i64 (x : Int))[j]? = some x → w.cell? ((⟨g, 0, none⟩ : Addr).add j) = some x := by
      intro j x hj
      rw [Addr.add_lit, Nat.zero_add]
      have hlt := get_lt hj
      rw [← ht, List.getElem?_take_of_lt (by simpa using hlt)] at hj
      simpa [World.cell?, hh] using hj
    have hone : ∀ x ∈ (ys.map fun x : Nat => Value.int .i64 (x : Int)), x.oneCell' = true := by
      intro x hx
      obtain ⟨y, _, rfl⟩ := List.mem_map.1 hx
      rfl
    obtain ⟨v', w', hr, h2, h3, h4, h5⟩ := run_append_own_at (P := Tryd.prog) w 0 31 ty 3 i0 (.int .i64 0) 1 8 Tryd.underlying31 hi hz0 hz1 hz2 rfl (by decide) v xs.length _ hv ⟨g, 0, none⟩ ys.length cap (ys.map fun x : Nat => Value.int .i64 (x : Int)) (by simp) hnews hone (by unfold maxLen; omega) (by omega) (Nat.zero_le _)
    refine ⟨v', w', hr, ?_, h3, h5⟩
    unfold Ints
    simpa using h2

/-- The shelf at block S: n0 nodes of a pattern, and such as were put together of them, each once; Q: the terms that they are. -/
structure Shelf (w : World) (X : Nat → Prop) (S n0 : Nat) (ns : List (Nd Value)) (Q : List D) : Prop where
  notX : ¬ X S
  ex : ∃ sv J m f, w.heap[S]? = some (.cells #[sv, .map (some J)] 90 (0, 0)) ∧ Lists w 0 sv ns ∧ (∀ k, sv.ownBlock = some k → ¬ X k) ∧ MapIs pairT 3 .i64 w J m f ∧ ¬ X J ∧ m + n0 ≤ ns.length ∧
    (∀ l r c, f (l, r) = some c → ∃ j : Nat, c = j ∧ n0 ≤ j ∧ ∃ h e, ns[j]? = some ⟨2, h, l, r, e⟩) ∧
    (∀ (j : Nat) nd, n0 ≤ j → ns[j]? = some nd → nd.kind = 2 ∧ f (nd.left, nd.right) = some (j : Int))
  pos : 0 < n0
  le : n0 ≤ ns.length
  small : n0 ≤ 200
  eps : Rep (IsCls w) ns .eps
  terms : ∀ j, n0 ≤ j → j < ns.length → ∃ d ∈ Q, RepD (IsCls w) n0 ns d j
  few : Q.length ≤ 100000000000

theorem Shelf.uniq {w : World} {X : Nat → Prop} {S n0 : Nat} {ns : List (Nd Value)} {Q : List D} (h : Shelf w X S n0 ns Q) : Uniq n0 ns := by
  obtain ⟨sv, J, m, f, _, _, _, _, _, _, _, h2⟩ := h.ex
  intro j k nd nd' hj hk h3 h4 e1 e2
  have a1 := (h2 j nd hj h3).2
  have a2 := (h2 k nd' hk h4).2
  rw [e1, e2, a2] at a1
  simp at a1
  omega

theorem Shelf.length {w : World} {X : Nat → Prop} {S n0 : Nat} {ns : List (Nd Value)} {Q : List D} (h : Shelf w X S n0 ns Q) : ns.length ≤ 100000000200 := by
  have h1 := pigeon (R := fun d k => RepD (IsCls w) n0 ns d k) (fun d b b' r r' => r.func h.uniq r') (l := List.range' n0 (ns.length - n0)) (P := Q) List.nodup_range' (fun b hb => by
    rw [List.mem_range'_1] at hb
    exact h.terms b hb.1 (by omega))
  have h2 := h.few
  have h3 := h.small
  simp at h1
  omega

theorem RepD.world {w w' : World} (h : Stay w w') {n0 : Nat} {ns : List (Nd Value)} {d : D} {k : Nat} (hr : RepD (IsCls w) n0 ns d k) : RepD (IsCls w') n0 ns d k :=
  hr.mono (fun _ _ hc => hc.stay h) (fun _ _ hn => hn)

/-- The shelf behind what turned nothing of it. -/
theorem Shelf.keep {w w' : World} {X Y : Nat → Prop} {S n0 : Nat} {ns : List (Nd Value)} {Q : List D} (h : Shelf w X S n0 ns Q) (hs : Stay w w') (hk : ∀ k o, ¬ X k → w.heap[k]? = some o → (∀ c t fz, o = .cells c t fz → t = 90 ∨ t = 84) → w'.heap[k]? = some o)
    (hY : ∀ k, Y k → X k ∨ ∀ o, w.heap[k]? = some o → ∃ c t fz, o = .cells c t fz ∧ t ≠ 90 ∧ t ≠ 84) : Shelf w' Y S n0 ns Q := by
  obtain ⟨hX, ⟨sv, J, m, f, h1, h2, h3, h4, h5, h6, h7, h8⟩, p, l, sm, ep, tm, fw⟩ := h
  obtain ⟨es, clk, hJ⟩ := h4.obj
  have nY : ∀ k o, ¬ X k → w.heap[k]? = some o → (∀ c t fz, o = .cells c t fz → t = 90 ∨ t = 84) → ¬ Y k := by
    intro k o hx ho hc hy
    rcases hY k hy with hh | hh
    · exact hx hh
    · obtain ⟨c, t, fz, e1, e2, e3⟩ := hh o ho
      exact (hc c t fz e1).elim e2 e3
  refine ⟨nY S _ hX h1 (fun c t fz e => by cases e; exact .inl rfl), ⟨sv, J, m, f, hk S _ hX h1 (fun c t fz e => by cases e; exact .inl rfl), ?_, ?_, ?_, ?_, h6, h7, h8⟩, p, l, sm, ep.world hs, fun j hj hl => ?_, fw⟩
  · refine h2.keep fun k hb => ?_
    obtain ⟨_, cur, hc⟩ := h2.block hb
    rw [hc]
    exact hk k _ (h3 k hb) hc (fun c t fz e => by cases e; exact .inr rfl)
  · intro k hb
    obtain ⟨_, cur, hc⟩ := h2.block hb
    exact nY k _ (h3 k hb) hc (fun c t fz e => by cases e; exact .inr rfl)
  · refine h4.keep ?_
    rw [hJ]
    exact hk J _ h5 hJ (fun c t fz e => by cases e)
  · exact nY J _ h5 hJ (fun c t fz e => by cases e)
  · obtain ⟨d, hd, hr⟩ := tm j hj hl
    exact ⟨d, hd, RepD.world hs hr⟩

/-- .. behind new blocks. -/
theorem Shelf.below {w w' : World} {X : Nat → Prop} {S n0 : Nat} {ns : List (Nd Value)} {Q : List D} (h : Shelf w X S n0 ns Q) (hb : Below w.heap.size w w') : Shelf w' X S n0 ns Q :=
  h.keep (Stay.of_below hb) (fun k _ _ ho _ => (hb.block k (lt_of_get ho)).trans ho) (fun _ hk => .inl hk)

theorem Shelf.drewN {w : World} {X : Nat → Prop} {S n0 : Nat} {ns : List (Nd Value)} {Q : List D} (h : Shelf w X S n0 ns Q) (n : Nat) : Shelf (w.drewN n) X S n0 ns Q :=
  h.keep (w' := w.drewN n) (fun _ _ _ _ h => h) (fun _ _ _ h _ => h) (fun _ hk => .inl hk)


/-- What a node that was put together tells of the empty text. -/
theorem Shelf.node {w : World} {X : Nat → Prop} {S n0 : Nat} {ns : List (Nd Value)} {Q : List D} (h : Shelf w X S n0 ns Q) {j k : Nat} {x : D} {a : ARe} {v : Value} {e : Bool} (hj : n0 ≤ j) (hn : ns[j]? = some ⟨2, v, k, a.ix, e⟩)
    (hx : RepD (IsCls w) n0 ns x k) (ha : Rep (IsCls w) ns a) : e = (x.re.nullable && a.re.nullable) := by
  obtain ⟨d, _, hr⟩ := h.terms j hj (get_lt hn)
  cases d with
  | base b => obtain ⟨h1, h2, _⟩ := hr; have := h2.lt_ix; omega
  | snoc d b =>
    obtain ⟨_, _, hb, m, _, hd, y, h3⟩ := hr
    rw [hn] at h3
    simp only [Option.some.injEq, Nd.mk.injEq] at h3
    obtain ⟨_, _, rfl, h4, rfl⟩ := h3
    obtain ⟨n1, e1, e2⟩ := hx.empty
    obtain ⟨n2, e3, e4⟩ := hd.empty
    obtain ⟨n3, e5, e6⟩ := ha.empty
    obtain ⟨n4, e7, e8⟩ := hb.empty
    rw [e1] at e3
    rw [h4] at e5
    rw [e5] at e7
    cases e3
    cases e7
    rw [← e2, e4, ← e6, e8]

end Go.Proofs.YtgncgdkpkkdaeaaDoor
