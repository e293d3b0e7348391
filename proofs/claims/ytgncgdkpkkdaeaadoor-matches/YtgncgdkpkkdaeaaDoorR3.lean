/- derive, node by node. -/
import Derived.Test.YtgncgdkpkkdaeaaDoorR2
namespace Go.Proofs.YtgncgdkpkkdaeaaDoor
open Go.RowKit Tint Go.Maps

/-- derive does what it should of this term, given this byte. -/
def DOK (b : UInt8) (d : D) : Prop := ∀ X S n0 ns Q k w, Old X w → Shelf w X S n0 ns Q → RepD (IsCls w) n0 ns d k → (∀ t ∈ joinsD d, t ∈ Q) → d.sz ≤ 1000000 →
  Calls Tryd.prog 38 #[.pointer (some ⟨S, 0, none⟩), .int .i64 k, .int .u8 b.toNat] w (EachPost X S n0 ns Q (pd b d) w)

/-- What the walk wants of a node. -/
theorem Shelf.at {w : World} {X : Nat → Prop} {S n0 : Nat} {ns : List (Nd Value)} {Q : List D} (h : Shelf w X S n0 ns Q) {k : Nat} {nd : Nd Value} (hk : ns[k]? = some nd) :
    ∃ g cap, w.cell? ⟨S, 0, none⟩ = some (.slice (some ⟨g, 0, none⟩) ns.length cap) ∧ w.cell? ⟨g, k * 5, none⟩ = some (.int .i64 nd.kind) ∧ w.cell? ⟨g, k * 5 + 1, none⟩ = some nd.has ∧
      w.cell? ⟨g, k * 5 + 2, none⟩ = some (.int .i64 nd.left) ∧ w.cell? ⟨g, k * 5 + 3, none⟩ = some (.int .i64 nd.right) ∧ w.cell? ⟨g, k * 5 + 4, none⟩ = some (.bool nd.empty) ∧ Form nd.has := by
  obtain ⟨sv, J, m, f, h1, h2, _⟩ := h.ex
  obtain ⟨g, cap, rfl, q0, q1, q2, q3, q4⟩ := h2.at hk
  exact ⟨g, cap, by simp [World.cell?, h1], q0, q1, q2, q3, q4, h2.2 nd (List.mem_of_getElem? hk)⟩

/-- Foreign too: the block in which the node lies while it is looked at. -/
def andE (X : Nat → Prop) (E : Nat) : Nat → Prop := fun k => X k ∨ k = E

theorem andE_shelf {X : Nat → Prop} {S n0 : Nat} {ns : List (Nd Value)} {Q : List D} {w : World} (h : Shelf w X S n0 ns Q) (o : Obj) : Shelf (w.alloc o) (andE X w.heap.size) S n0 ns Q :=
  h.keep (Stay.of_below ((Below.refl _ _).alloc (Nat.le_refl _) _)) (fun _ _ _ ho _ => heap_alloc_old ho) (fun k hk => by
    rcases hk with hk | rfl
    · exact .inl hk
    · exact .inr fun o ho => by have := lt_of_get ho; omega)

theorem andE_old {X : Nat → Prop} {w : World} (h : Old X w) (o : Obj) : Old (andE X w.heap.size) (w.alloc o) := by
  rintro k (hk | rfl)
  · have := h k hk; simp; omega
  · simp

theorem Fx.undrew {X : Nat → Prop} {w w' : World} (h : Fx X w.drew w') : Fx X w w' := ⟨h.os, h.tape, h.output, h.size, h.keep, h.stay⟩
theorem Shelf.drew {w : World} {X : Nat → Prop} {S n0 : Nat} {ns : List (Nd Value)} {Q : List D} (h : Shelf w X S n0 ns Q) : Shelf w.drew X S n0 ns Q := h.drewN 1

theorem cells_E {w w' : World} {X : Nat → Prop} {E : Nat} {a0 a1 a2 a3 a4 : Value} (hE : w.heap[E]? = some (.cells #[a0, a1, a2, a3, a4] 84 (0, 0))) (hF : Fx (andE X E) w w') :
    w'.cell? ⟨E, 2, none⟩ = some a2 ∧ w'.cell? ⟨E, 3, none⟩ = some a3 := by
  have h := (hF.keep E (.inr rfl)).trans hE
  exact ⟨by simp [World.cell?, h], by simp [World.cell?, h]⟩

theorem Shelf.less {X : Nat → Prop} {S n0 : Nat} {ns : List (Nd Value)} {Q : List D} {w : World} {E : Nat} (h : Shelf w (andE X E) S n0 ns Q) : Shelf w X S n0 ns Q :=
  h.keep (Stay.refl _) (fun _ _ _ h _ => h) (fun _ h => .inl (.inl h))

theorem Row.less {X : Nat → Prop} {w : World} {E : Nat} {v : Value} {js : List Nat} (h : Row w (andE X E) v js) : Row w X v js := ⟨h.1, fun k hk hx => h.2 k hk (.inl hx)⟩

theorem store_form {v : Value} (h : Form v) (a : Addr) (m : Mode) (w : World) : (store a v m).run Tryd.prog w = stored Tryd.prog w a v m := run_store _ w a v m h.one

/-- What the terms of a part may be put together to. -/
theorem pd_joins {b : UInt8} {d : D} {a : ARe} {Q : List D} (h : ∀ t ∈ (allD d).map (tcat · a), t ∈ Q) : ∀ x ∈ pd b d, tcat x a ∈ Q :=
  fun x hx => h _ (List.mem_map.2 ⟨x, pd_sub b d x hx, rfl⟩)

set_option maxHeartbeats 2000000 in
theorem derive_star_node (b : UInt8) (k l : Nat) (hv : Value) (r : Nat) (e : Bool) (d : D) (a : ARe) (hd : DOK b d) (X : Nat → Prop) (S n0 : Nat) (ns : List (Nd Value)) (Q : List D) (w : World) (hX : Old X w) (hS : Shelf w X S n0 ns Q)
    (hn : ns[k]? = some ⟨4, hv, l, r, e⟩) (hak : a.ix = k) (hR : RepD (IsCls w) n0 ns d l) (ha : a.lt n0) (hra : Rep (IsCls w) ns a) (hQ1 : ∀ t ∈ joinsD d, t ∈ Q) (hQ2 : ∀ x ∈ pd b d, tcat x a ∈ Q) (hsz : d.sz ≤ 1000000) :
    Calls Tryd.prog 38 #[.pointer (some ⟨S, 0, none⟩), .int .i64 k, .int .u8 b.toNat] w (EachPost X S n0 ns Q ((pd b d).map (tcat · a)) w) := by
  obtain ⟨g, cap, c0, m0, m1, m2, m3, m4, hfm⟩ := hS.at hn
  have hkl := get_lt hn
  have hlen := hS.length
  have hst := store_form hfm
  have HX := hide hX
  have HS := hide hS
  have HR := hide hR
  have HRA := hide hra
  have HQ1 := hide hQ1
  have HQ2 := hide hQ2
  have HA := hide ha
  have HAK := hide hak
  have hb : Below w.heap.size w (w.alloc (.cells #[.int .i64 4, hv, .int .i64 l, .int .i64 r, .bool e] 84)) := (Below.refl _ _).alloc (Nat.le_refl _) _
  have HS1 := hide (andE_shelf hS (.cells #[.int .i64 4, hv, .int .i64 l, .int .i64 r, .bool e] 84))
  have HX1 := hide (andE_old hX (.cells #[.int .i64 4, hv, .int .i64 l, .int .i64 r, .bool e] 84))
  have HB := hide hb
  clear hX hS hn hR hra hQ1 hQ2 hfm hb ha hak
  go_enter Tryd.func38, Tryd.ntmps38
  go_wp2_with fail
  refine (hd _ S n0 ns Q l _ HX1.out HS1.out (RepD.world (Stay.of_below HB.out) HR.out) HQ1.out hsz).mono ?_
  rintro e2 w2 ⟨v2, js, ms, rfl, hF2, hS2, hI2, hj2⟩
  have HF2 := hide hF2
  have HS2 := hide hS2
  have HI2 := hide hI2
  have HJ2 := hide hj2
  clear hF2 hS2 hI2 hj2
  go_wp2_with fail
  have hst2 := (Stay.of_below HB.out).trans HF2.out.staying
  have hjl : js.length ≤ 1000000000 := by
    have h1 := HJ2.out.length
    have h2 := length_pd b d
    omega
  have hj := joinEach_any _ S n0 (ns ++ ms) Q (pd b d) a v2 js w2 (HX1.out.fx HF2.out) HS2.out HI2.out.1 HJ2.out HA.out ((HRA.out.world hst2).append) HQ2.out hjl
  rw [HAK.out] at hj
  refine hj.mono ?_
  rintro e3 w3 ⟨v3, js3, ms3, rfl, hF3, hS3, hI3, hj3⟩
  have HEND := hide (show EachPost X S n0 ns Q ((pd b d).map (tcat · a)) w (.returned v3) w3 from ⟨v3, js3, ms ++ ms3, rfl, ((Fx.of_below HX.out HB.out).trans (HF2.out.sub fun _ h => .inl h)).trans (hF3.sub fun _ h => .inl h), by rw [← List.append_assoc]; exact hS3.less, hI3.less, by rw [← List.append_assoc]; exact hj3⟩)
  clear hF3 hS3 hI3 hj3 hj hst2
  go_wp2_with fail
  go_ret
  exact HEND.out

set_option maxHeartbeats 2000000 in
theorem derive_opt_node (b : UInt8) (k l : Nat) (hv : Value) (r : Nat) (e : Bool) (d : D) (hd : DOK b d) (X : Nat → Prop) (S n0 : Nat) (ns : List (Nd Value)) (Q : List D) (w : World) (hX : Old X w) (hS : Shelf w X S n0 ns Q)
    (hn : ns[k]? = some ⟨6, hv, l, r, e⟩) (hR : RepD (IsCls w) n0 ns d l) (hQ1 : ∀ t ∈ joinsD d, t ∈ Q) (hsz : d.sz ≤ 1000000) :
    Calls Tryd.prog 38 #[.pointer (some ⟨S, 0, none⟩), .int .i64 k, .int .u8 b.toNat] w (EachPost X S n0 ns Q (pd b d) w) := by
  obtain ⟨g, cap, c0, m0, m1, m2, m3, m4, hfm⟩ := hS.at hn
  have hkl := get_lt hn
  have hlen := hS.length
  have hst := store_form hfm
  have HX := hide hX
  have HS := hide hS
  have HR := hide hR
  have HQ1 := hide hQ1
  have hb : Below w.heap.size w (w.alloc (.cells #[.int .i64 6, hv, .int .i64 l, .int .i64 r, .bool e] 84)) := (Below.refl _ _).alloc (Nat.le_refl _) _
  have HS1 := hide (andE_shelf hS (.cells #[.int .i64 6, hv, .int .i64 l, .int .i64 r, .bool e] 84))
  have HX1 := hide (andE_old hX (.cells #[.int .i64 6, hv, .int .i64 l, .int .i64 r, .bool e] 84))
  have HB := hide hb
  clear hX hS hn hR hQ1 hfm hb
  go_enter Tryd.func38, Tryd.ntmps38
  go_wp2_with fail
  refine (hd _ S n0 ns Q l _ HX1.out HS1.out (RepD.world (Stay.of_below HB.out) HR.out) HQ1.out hsz).mono ?_
  rintro e2 w2 ⟨v2, js, ms, rfl, hF2, hS2, hI2, hj2⟩
  have HEND := hide (show EachPost X S n0 ns Q (pd b d) w (.returned v2) w2 from ⟨v2, js, ms, rfl, (Fx.of_below HX.out HB.out).trans (hF2.sub fun _ h => .inl h), hS2.less, hI2.less, hj2⟩)
  clear hF2 hS2 hI2 hj2
  go_wp2_with fail
  go_ret
  exact HEND.out

set_option maxHeartbeats 2000000 in
theorem derive_eps_node (b : UInt8) (k l : Nat) (hv : Value) (r : Nat) (e : Bool) (X : Nat → Prop) (S n0 : Nat) (ns : List (Nd Value)) (Q : List D) (w : World) (hX : Old X w) (hS : Shelf w X S n0 ns Q)
    (hn : ns[k]? = some ⟨0, hv, l, r, e⟩) :
    Calls Tryd.prog 38 #[.pointer (some ⟨S, 0, none⟩), .int .i64 k, .int .u8 b.toNat] w (EachPost X S n0 ns Q [] w) := by
  obtain ⟨g, cap, c0, m0, m1, m2, m3, m4, hfm⟩ := hS.at hn
  have hkl := get_lt hn
  have hlen := hS.length
  have hst := store_form hfm
  have hb : Below w.heap.size w (w.alloc (.cells #[.int .i64 0, hv, .int .i64 l, .int .i64 r, .bool e] 84)) := (Below.refl _ _).alloc (Nat.le_refl _) _
  have HEND := hide (show EachPost X S n0 ns Q [] w (.returned (.slice none 0 0)) (w.alloc (.cells #[.int .i64 0, hv, .int .i64 l, .int .i64 r, .bool e] 84)) from
    ⟨_, [], [], rfl, Fx.of_below hX hb, by simpa using hS.below hb, ⟨World.ownsRow_nil _ _ _ _, fun k hk => by cases hk⟩, .nil⟩)
  clear hX hS hn hfm hb
  go_enter Tryd.func38, Tryd.ntmps38
  go_wp2_with fail
  go_ret
  exact HEND.out

set_option maxHeartbeats 2000000 in
theorem derive_leaf_node (b : UInt8) (k l : Nat) (hv : Value) (r : Nat) (e : Bool) (c : Cls) (X : Nat → Prop) (S n0 : Nat) (ns : List (Nd Value)) (Q : List D) (w : World) (hX : Old X w) (hS : Shelf w X S n0 ns Q)
    (hn : ns[k]? = some ⟨1, hv, l, r, e⟩) (hc : IsCls w hv c) :
    Calls Tryd.prog 38 #[.pointer (some ⟨S, 0, none⟩), .int .i64 k, .int .u8 b.toNat] w (EachPost X S n0 ns Q (if c.has b then [.base .eps] else []) w) := by
  obtain ⟨g, cap, c0, m0, m1, m2, m3, m4, hfm⟩ := hS.at hn
  have hkl := get_lt hn
  have hlen := hS.length
  have hst := store_form hfm
  have hb : Below w.heap.size w (w.alloc (.cells #[.int .i64 1, hv, .int .i64 l, .int .i64 r, .bool e] 84)) := (Below.refl _ _).alloc (Nat.le_refl _) _
  obtain ⟨gf, cf, ev, hen, htl⟩ := (hc.stay (Stay.of_below hb)).tells
  subst ev
  have HT := hide (htl b)
  unfold Enters at hen
  have HX := hide hX
  have HS := hide hS
  have HB := hide hb
  clear hX hS hn hfm hb htl hc
  cases hcb : c.has b with
  | true =>
    have hb2 : Below w.heap.size w ((w.alloc (.cells #[.int .i64 1, .func (.func gf) #[] cf, .int .i64 l, .int .i64 r, .bool e] 84)).alloc (.cells #[.int .i64 0] 3)) := HB.out.alloc (by simp) _
    have HEND := hide (show EachPost X S n0 ns Q [.base .eps] w (.returned (.slice (some ⟨w.heap.size + 1, 0, none⟩) 1 1)) ((w.alloc (.cells #[.int .i64 1, .func (.func gf) #[] cf, .int .i64 l, .int .i64 r, .bool e] 84)).alloc (.cells #[.int .i64 0] 3)) from by
      have hO := heap_alloc_last (w.alloc (.cells #[.int .i64 1, .func (.func gf) #[] cf, .int .i64 l, .int .i64 r, .bool e] 84)) (.cells #[.int .i64 0] 3)
      refine ⟨_, [0], [], rfl, Fx.of_below HX.out hb2, by simpa using HS.out.below hb2, ⟨⟨by simp, .inr ⟨w.heap.size + 1, 1, #[.int .i64 0], rfl, Nat.zero_le _, by simpa using hO, Nat.le_refl _, by unfold maxLen; omega, rfl, rfl⟩⟩, ?_⟩, ?_⟩
      · intro k hk hXk
        have e : w.heap.size + 1 = k := Option.some.inj hk
        have := HX.out _ hXk
        omega
      · have h0 := HS.out.eps.world (Stay.of_below hb2)
        simp only [List.append_nil]
        exact .cons ⟨rfl, HS.out.pos, h0⟩ .nil)
    simp only [if_true]
    clear hb2
    go_enter Tryd.func38, Tryd.ntmps38
    go_wp2_with fail
    refine HT.out.mono ?_
    rintro e2 w2 ⟨rfl, rfl⟩
    rw [hcb]
    go_wp2_with fail
    go_ret
    exact HEND.out
  | false =>
    have HEND := hide (show EachPost X S n0 ns Q [] w (.returned (.slice none 0 0)) (w.alloc (.cells #[.int .i64 1, .func (.func gf) #[] cf, .int .i64 l, .int .i64 r, .bool e] 84)) from
      ⟨_, [], [], rfl, Fx.of_below HX.out HB.out, by simpa using HS.out.below HB.out, ⟨World.ownsRow_nil _ _ _ _, fun k hk => by cases hk⟩, .nil⟩)
    simp only [Bool.false_eq_true, if_false]
    go_enter Tryd.func38, Tryd.ntmps38
    go_wp2_with fail
    refine HT.out.mono ?_
    rintro e2 w2 ⟨rfl, rfl⟩
    rw [hcb]
    go_wp2_with fail
    go_ret
    exact HEND.out

set_option maxHeartbeats 4000000 in
theorem derive_plus_node (b : UInt8) (k l : Nat) (hv : Value) (r : Nat) (e : Bool) (d : D) (a : ARe) (hd : DOK b d) (X : Nat → Prop) (S n0 : Nat) (ns : List (Nd Value)) (Q : List D) (w : World) (hX : Old X w) (hS : Shelf w X S n0 ns Q)
    (hn : ns[k]? = some ⟨5, hv, l, r, e⟩) (hak : a.ix = r) (hR : RepD (IsCls w) n0 ns d l) (ha : a.lt n0) (hra : Rep (IsCls w) ns a) (hQ1 : ∀ t ∈ joinsD d, t ∈ Q) (hQ2 : ∀ x ∈ pd b d, tcat x a ∈ Q) (hsz : d.sz ≤ 1000000) :
    Calls Tryd.prog 38 #[.pointer (some ⟨S, 0, none⟩), .int .i64 k, .int .u8 b.toNat] w (EachPost X S n0 ns Q ((pd b d).map (tcat · a)) w) := by
  obtain ⟨g, cap, c0, m0, m1, m2, m3, m4, hfm⟩ := hS.at hn
  have hkl := get_lt hn
  have hlen := hS.length
  have hst := store_form hfm
  subst hak
  have HX := hide hX
  have HS := hide hS
  have HR := hide hR
  have HRA := hide hra
  have HQ1 := hide hQ1
  have HQ2 := hide hQ2
  have HA := hide ha
  obtain ⟨r, hr⟩ : ∃ r, r = a.ix := ⟨_, rfl⟩
  rw [← hr] at m3
  have HRR := hide hr
  have hb : Below w.heap.size w (w.alloc (.cells #[.int .i64 5, hv, .int .i64 l, .int .i64 r, .bool e] 84)) := (Below.refl _ _).alloc (Nat.le_refl _) _
  have HS1 := hide (andE_shelf hS (.cells #[.int .i64 5, hv, .int .i64 l, .int .i64 r, .bool e] 84))
  have HX1 := hide (andE_old hX (.cells #[.int .i64 5, hv, .int .i64 l, .int .i64 r, .bool e] 84))
  have HB := hide hb
  have HE := hide (heap_alloc_last w (.cells #[.int .i64 5, hv, .int .i64 l, .int .i64 r, .bool e] 84))
  have HD := hide (hd _ S n0 ns Q l (w.alloc (.cells #[.int .i64 5, hv, .int .i64 l, .int .i64 r, .bool e] 84)).drew HX1.out HS1.out.drew (RepD.world (Stay.of_below hb.drew) hR) hQ1 hsz)
  have HJ := hide (fun (w2 : World) (v2 : Value) (js : List Nat) (ms : List (Nd Value)) (hF2 : Fx (andE X w.heap.size) (w.alloc (.cells #[.int .i64 5, hv, .int .i64 l, .int .i64 r, .bool e] 84)) w2) (hS2 : Shelf w2 (andE X w.heap.size) S n0 (ns ++ ms) Q) (hI2 : Row w2 (andE X w.heap.size) v2 js) (hj2 : F2 (RepD (IsCls w2) n0 (ns ++ ms)) (pd b d) js) => by
    have hjl : js.length ≤ 1000000000 := by
      have h1 := hj2.length
      have h2 := length_pd b d
      omega
    have hst2 := (Stay.of_below hb).trans hF2.staying
    have := joinEach_any _ S n0 (ns ++ ms) Q (pd b d) a v2 js w2 (HX1.out.fx hF2) hS2 hI2.1 hj2 ha ((hra.world hst2).append) hQ2 hjl
    rw [← hr] at this
    exact this)
  clear hX hS hn hR hra hQ1 hQ2 hfm hb ha hr
  go_enter Tryd.func38, Tryd.ntmps38
  go_wp2_with fail
  go_region_with (first
    | (go_at_call 38; refine HD.out.mono ?_; rintro e2 w2 ⟨v2, js, ms, rfl, hF2, hS2, hI2, hj2⟩; have HF2 := hide hF2.undrew; have HS2 := hide hS2; have HI2 := hide hI2; have HJ2 := hide hj2; clear hF2 hS2 hI2 hj2; obtain ⟨q2, q3⟩ := cells_E HE.out HF2.out)
    | (go_at_call 51; refine (HJ.out w2 v2 js ms HF2.out HS2.out HI2.out HJ2.out).mono ?_; rintro e3 w3 ⟨v3, js3, ms3, rfl, hF3, hS3, hI3, hj3⟩; have HF3 := hide hF3; have HS3 := hide hS3; have HI3 := hide hI3; have HJ3 := hide hj3; clear hF3 hS3 hI3 hj3))
  all_goals
    have HEND := hide (show EachPost X S n0 ns Q ((pd b d).map (tcat · a)) w (.returned v3) w3 from ⟨v3, js3, ms ++ ms3, rfl, ((Fx.of_below HX.out HB.out).trans (HF2.out.sub fun _ h => .inl h)).trans (HF3.out.sub fun _ h => .inl h), by rw [← List.append_assoc]; exact HS3.out.less, HI3.out.less, by rw [← List.append_assoc]; exact HJ3.out⟩)
    go_wp2_with fail
    go_ret
    exact HEND.out
end Go.Proofs.YtgncgdkpkkdaeaaDoor
