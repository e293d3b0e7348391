import Derived.Test.YtgncgdkpkkdaeaaGreatDoorKU
namespace Go.Proofs.YtgncgdkpkkdaeaaGreatDoor
open Go.RowKit Tint Go.Maps
structure PD where
 K : Nat
 kv : Nat
 wk : Nat
 sb : Nat
def Free (d : PD) (f : Nat → Option Value) (k : Nat) : Prop := k ≠ d.sb ∧ k ≠ d.kv ∧ k ≠ d.wk ∧ k ≠ d.K ∧ ∀ i v, f i = some v → v.ownBlock ≠ some k
def known12 (f : Nat → Option Value) : Nat := ((List.range 12).filter fun i => (f i).isSome).length
theorem known12_set {f : Nat → Option Value} {i : Nat} {v : Value} (hi : i < 12) (hf : f i = none) : known12 (fun y => if y = i then some v else f y) = known12 f + 1 := by
 have key : ∀ (l : List Nat), l.Nodup → (l.filter fun y => ((if y = i then some v else f y) : Option Value).isSome).length = (l.filter fun y => (f y).isSome).length + (if i ∈ l then 1 else 0) := by
  intro l hl
  induction l with
  | nil => simp
  | cons x t ih =>
   have ht := ih (List.nodup_cons.1 hl).2
   have hx := (List.nodup_cons.1 hl).1
   by_cases e : x = i
   ·subst e
    have : (t.filter fun y => ((if y = x then some v else f y) : Option Value).isSome).length = (t.filter fun y => (f y).isSome).length := by rw [ht, if_neg hx]; rfl
    simp [hf, this]
   ·have hmem : (i ∈ x :: t) = (i ∈ t) := by simp [Ne.symm e]
    rw [List.filter_cons, List.filter_cons]
    simp only [if_neg e, hmem]
    split <;> simp [ht] <;> omega
 have := key (List.range 12) List.nodup_range
 rw [if_pos (List.mem_range.2 hi)] at this
 exact this
structure PainterIs (w : World) (N : Nat) (A : Nat → Prop) (g n cap : Nat) (G : List GS) (d : PD) (f : Nat → Option Value) (F : Nat → List FD) : Prop where
 old : ∀ k, A k → N ≤ k ∧ k < w.heap.size
 size : N ≤ w.heap.size
 tab : 1 < N ∧ Tab w
 gram : ∀ w', Below N w w' → GramIs w' g n cap G
 sbx : A d.sb ∧ w.heap[d.sb]? = some (.cells #[.slice (some ⟨g, 0, none⟩) n cap] 36 (0, 0))
 kvx : A d.kv ∧ w.heap[d.kv]? = some (.cells #[.map (some d.K)] 276 (0, 0))
 wkx : A d.wk ∧ w.heap[d.wk]? = some (.cells #[.func (.func 120) #[] #[.pointer (some ⟨d.sb, 0, none⟩)]] 169 (0, 0))
 map : A d.K ∧ ∃ m, MapV intT w d.K m f ∧ m ≤ known12 f
 fin : ∀ i v, f i = some v → ∃ s ao cp, v = .slice ao s.rs.length cp ∧ G[i]? = some s ∧ (F i).map FD.a = s.rs.map GR.a ∧ FinList w N v (F i) ∧ ∀ k, v.ownBlock = some k → A k
 own : ∀ i v, f i = some v → ∀ x ∈ F i, ∀ k, x.O k → A k ∧ Free d f k
 apart : ∀ i j vi vj, f i = some vi → f j = some vj → i ≠ j → ∀ x ∈ F i, ∀ y ∈ F j, ∀ k, x.O k → ¬ y.O k
theorem FinList.kept {w w' : World} {B : Nat} {v : Value} {ds : List FD} {Z : Nat → Prop} (h : FinList w B v ds) (ho : Off Z w w') (hv : ∀ k, v.ownBlock = some k → ¬ Z k) (hd : ∀ x ∈ ds, ∀ k, x.O k → ¬ Z k) : FinList w' B v ds :=
 ⟨row_keep h.row fun k hk => by obtain ⟨_, c, hc⟩ := row_type h.row hk; exact ho.keep k ⟨lt_of_get hc, hv k hk⟩, fun x hx => ⟨(h.each x hx).1.off ho (hd x hx), (h.each x hx).2⟩, h.apart, h.off⟩
theorem PainterIs.off {w w' : World} {N : Nat} {A Z : Nat → Prop} {g n cap : Nat} {G : List GS} {d : PD} {f : Nat → Option Value} {F : Nat → List FD} (h : PainterIs w N A g n cap G d f F) (ho : Off Z w w') (hz : ∀ k, Z k → N ≤ k ∧ ¬ A k) : PainterIs w' N A g n cap G d f F := by
 have hb : Below N w w' := ⟨ho.os, ho.tape, ho.output, ho.size, fun k hk => ho.keep k ⟨Nat.lt_of_lt_of_le hk h.size, fun hz' => by have := (hz k hz').1; omega⟩⟩
 have hA : ∀ k, A k → ¬ Z k := fun k ha hz' => (hz k hz').2 ha
 refine ⟨fun k hk => ⟨(h.old k hk).1, Nat.lt_of_lt_of_le (h.old k hk).2 ho.size⟩, Nat.le_trans h.size ho.size, ⟨h.tab.1, h.tab.2.keep (hb.block _ h.tab.1)⟩, fun w'' hb' => h.gram w'' (hb.trans hb'), ⟨h.sbx.1, ho.same h.sbx.2 (hA _ h.sbx.1)⟩, ⟨h.kvx.1, ho.same h.kvx.2 (hA _ h.kvx.1)⟩, ⟨h.wkx.1, ho.same h.wkx.2 (hA _ h.wkx.1)⟩, ⟨h.map.1, ?_⟩, fun i v hi => ?_, h.own, h.apart⟩
 ·obtain ⟨m, hm, hk⟩ := h.map.2
  exact ⟨m, hm.keep (ho.keep _ ⟨hm.lt, hA _ h.map.1⟩), hk⟩
 ·obtain ⟨s, ao, cp, e1, e2, e3, e4, e5⟩ := h.fin i v hi
  exact ⟨s, ao, cp, e1, e2, e3, e4.kept ho (fun k hk => hA k (e5 k hk)) (fun x hx k hk => hA k (h.own i v hi x hx k hk).1), e5⟩
theorem PainterIs.below {w w' : World} {N : Nat} {A : Nat → Prop} {g n cap : Nat} {G : List GS} {d : PD} {f : Nat → Option Value} {F : Nat → List FD} (h : PainterIs w N A g n cap G d f F) (hb : Below w.heap.size w w') : PainterIs w' N A g n cap G d f F :=
 h.off (Z := fun _ => False) (Off.of_below hb) (fun _ hk => hk.elim)
theorem get_set {α : Type} {l : List α} {j q : Nat} {x y : α} (h : (l.set j x)[q]? = some y) : (q = j ∧ y = x) ∨ (q ≠ j ∧ l[q]? = some y) := by
 rw [List.getElem?_set] at h
 split at h
 ·rename_i e
  split at h
  ·exact .inl ⟨e.symm, (Option.some.inj h).symm⟩
  ·cases h
 ·rename_i e
  exact .inr ⟨fun e' => e e'.symm, h⟩
theorem PainterIs.use {w w' : World} {N : Nat} {A Z O' : Nat → Prop} {g n cap : Nat} {G : List GS} {d : PD} {f : Nat → Option Value} {F : Nat → List FD} (h : PainterIs w N A g n cap G d f F) {i j : Nat} {v : Value} {x : FD} (hi : f i = some v) (hx : (F i)[j]? = some x) (ho : Off (fun k => x.O k ∨ Z k) w w') (hz : ∀ k, Z k → N ≤ k ∧ ¬ A k) (hO : ∀ k, O' k → x.O k ∨ w.heap.size ≤ k) (hF : FinderIs w' O' x.a x.ρf x.sf x.ρb x.sb) :
  PainterIs w' N (fun k => A k ∨ O' k) g n cap G d f (fun y => if y = i then (F i).set j { x with O := O' } else F y) := by
 have hxm := List.mem_of_getElem? hx
 have hxA : ∀ k, x.O k → A k := fun k hk => (h.own i v hi x hxm k hk).1
 have hb : Below N w w' := ⟨ho.os, ho.tape, ho.output, ho.size, fun k hk => ho.keep k ⟨Nat.lt_of_lt_of_le hk h.size, fun hz' => by
  rcases hz' with h1 | h1
  ·have := (h.old k (hxA k h1)).1; omega
  ·have := (hz k h1).1; omega⟩⟩
 have hA : ∀ k, A k → ¬ x.O k → ¬ (x.O k ∨ Z k) := fun k ha hn hz' => hz'.elim hn (fun h1 => (hz k h1).2 ha)
 have hfree : ∀ k, x.O k → Free d f k := fun k hk => (h.own i v hi x hxm k hk).2
 have hO'lt : ∀ k, O' k → k < w'.heap.size := hF.old
 refine ⟨fun k hk => ?_, Nat.le_trans h.size ho.size, ⟨h.tab.1, h.tab.2.keep (hb.block _ h.tab.1)⟩, fun w'' hb' => h.gram w'' (hb.trans hb'), ⟨.inl h.sbx.1, ho.same h.sbx.2 (hA _ h.sbx.1 fun e => (hfree _ e).1 rfl)⟩, ⟨.inl h.kvx.1, ho.same h.kvx.2 (hA _ h.kvx.1 fun e => (hfree _ e).2.1 rfl)⟩, ⟨.inl h.wkx.1, ho.same h.wkx.2 (hA _ h.wkx.1 fun e => (hfree _ e).2.2.1 rfl)⟩, ⟨.inl h.map.1, ?_⟩, fun i' v' hi' => ?_, fun i' v' hi' y hy k hk => ?_, fun i' j' vi vj hi' hj' hne y hy z hz' k hk1 hk2 => ?_⟩
 ·rcases hk with hk | hk
  ·exact ⟨(h.old k hk).1, Nat.lt_of_lt_of_le (h.old k hk).2 ho.size⟩
  ·refine ⟨?_, hO'lt k hk⟩
   rcases hO k hk with h1 | h1
   ·exact (h.old k (hxA k h1)).1
   ·exact Nat.le_trans h.size h1
 ·obtain ⟨m, hm, hk⟩ := h.map.2
  exact ⟨m, hm.keep (ho.keep _ ⟨hm.lt, hA _ h.map.1 fun e => (hfree _ e).2.2.2.1 rfl⟩), hk⟩
 ·obtain ⟨s, ao, cp, e1, e2, e3, e4, e5⟩ := h.fin i' v' hi'
  have hrow : ∀ k, v'.ownBlock = some k → ¬ (x.O k ∨ Z k) := fun k hk => hA k (e5 k hk) (fun hx' => (hfree k hx').2.2.2.2 i' v' hi' hk)
  by_cases hii : i' = i
  ·subst hii
   rw [hi] at hi'
   cases hi'
   refine ⟨s, ao, cp, e1, e2, ?_, ⟨?_, fun y hy => ?_, fun a b y z k hy hz' hab hk1 hk2 => ?_, fun y hy k hk hk1 => ?_⟩, fun k hk => .inl (e5 k hk)⟩
   ·rw [if_pos rfl, ← e3, List.map_set]
    refine List.ext_getElem? fun q => ?_
    rw [List.getElem?_set]
    split
    ·rename_i e
     subst e
     have := get_lt hx
     rw [if_pos (by simpa using this), List.getElem?_map, hx]; rfl
    ·rfl
   ·rw [if_pos rfl]
    have hl : ((F i').set j { x with O := O' }).length = (F i').length := List.length_set ..
    have hc : ((F i').set j { x with O := O' }).flatMap FD.cells = (F i').flatMap FD.cells := by
     rw [List.flatMap_def, List.flatMap_def, List.map_set]
     congr 1
     refine List.ext_getElem? fun q => ?_
     rw [List.getElem?_set]
     split
     ·rename_i e
      subst e
      have := get_lt hx
      rw [if_pos (by simpa using this), List.getElem?_map, hx]; rfl
     ·rfl
    rw [hl, hc]
    exact row_keep e4.row fun k hk => by obtain ⟨_, c, hc⟩ := row_type e4.row hk; exact ho.keep k ⟨lt_of_get hc, hrow k hk⟩
   ·rw [if_pos rfl] at hy
    obtain ⟨q, hq⟩ := List.mem_iff_getElem?.1 hy
    rcases get_set hq with ⟨_, rfl⟩ | ⟨hqj, hq⟩
    ·refine ⟨hF, fun k hk => ?_⟩
     rcases hO k hk with h1 | h1
     ·exact (h.old k (hxA k h1)).1
     ·exact Nat.le_trans h.size h1
    ·have hym := List.mem_of_getElem? hq
     exact ⟨(e4.each y hym).1.off ho fun k hk => hA k (h.own i' v hi y hym k hk).1 (fun hxk => e4.apart q j y x k hq hx hqj hk hxk), (e4.each y hym).2⟩
   ·rw [if_pos rfl] at hy hz'
    rcases get_set hy with ⟨ha, rfl⟩ | ⟨ha, hy⟩
    ·rcases get_set hz' with ⟨hb', rfl⟩ | ⟨hb', hz'⟩
     ·omega
     ·rcases hO k hk1 with h1 | h1
      ·exact e4.apart j b x z k hx hz' (by omega) h1 hk2
      ·have := (e4.each z (List.mem_of_getElem? hz')).1.old k hk2; omega
    ·rcases get_set hz' with ⟨hb', rfl⟩ | ⟨hb', hz'⟩
     ·rcases hO k hk2 with h1 | h1
      ·exact e4.apart a j y x k hy hx (by omega) hk1 h1
      ·have := (e4.each y (List.mem_of_getElem? hy)).1.old k hk1; omega
     ·exact e4.apart a b y z k hy hz' hab hk1 hk2
   ·rw [if_pos rfl] at hy
    obtain ⟨q, hq⟩ := List.mem_iff_getElem?.1 hy
    rcases get_set hq with ⟨_, rfl⟩ | ⟨hqj, hq⟩
    ·rcases hO k hk1 with h1 | h1
     ·exact e4.off x hxm k hk h1
     ·obtain ⟨_, c, hc⟩ := row_type e4.row hk
      have := lt_of_get hc
      omega
    ·exact e4.off y (List.mem_of_getElem? hq) k hk hk1
  ·rw [if_neg hii]
   exact ⟨s, ao, cp, e1, e2, e3, e4.kept ho hrow (fun y hy k hk => hA k (h.own i' v' hi' y hy k hk).1 (fun hxk => h.apart i' i v' v hi' hi hii y hy x hxm k hk hxk)), fun k hk => .inl (e5 k hk)⟩
 ·have hnew : ∀ k, w.heap.size ≤ k → Free d f k := fun k hk => ⟨fun e => by have := (h.old _ h.sbx.1).2; omega, fun e => by have := (h.old _ h.kvx.1).2; omega, fun e => by have := (h.old _ h.wkx.1).2; omega, fun e => by have := (h.old _ h.map.1).2; omega, fun i2 v2 h2 e => by
   obtain ⟨_, _, _, _, _, _, _, e5⟩ := h.fin i2 v2 h2
   have := (h.old _ (e5 k e)).2
   omega⟩
  by_cases hii : i' = i
  ·subst hii
   rw [if_pos rfl] at hy
   obtain ⟨q, hq⟩ := List.mem_iff_getElem?.1 hy
   rcases get_set hq with ⟨_, rfl⟩ | ⟨hqj, hq⟩
   ·refine ⟨.inr hk, ?_⟩
    rcases hO k hk with h1 | h1
    ·exact hfree k h1
    ·exact hnew k h1
   ·have := h.own i' v' hi' y (List.mem_of_getElem? hq) k hk
    exact ⟨.inl this.1, this.2⟩
  ·rw [if_neg hii] at hy
   have := h.own i' v' hi' y hy k hk
   exact ⟨.inl this.1, this.2⟩
 ·have hlt : ∀ i2 v2, f i2 = some v2 → ∀ y ∈ F i2, y.O k → k < w.heap.size := fun i2 v2 h2 y hy hk => (h.old k (h.own i2 v2 h2 y hy k hk).1).2
  by_cases hii : i' = i
  ·subst hii
   rw [if_pos rfl] at hy
   rw [if_neg (Ne.symm hne)] at hz'
   obtain ⟨q, hq⟩ := List.mem_iff_getElem?.1 hy
   rcases get_set hq with ⟨_, rfl⟩ | ⟨hqj, hq⟩
   ·rcases hO k hk1 with h1 | h1
    ·exact h.apart i' j' vi vj hi' hj' hne x hxm z hz' k h1 hk2
    ·have := hlt j' vj hj' z hz' hk2; omega
   ·exact h.apart i' j' vi vj hi' hj' hne y (List.mem_of_getElem? hq) z hz' k hk1 hk2
  ·rw [if_neg hii] at hy
   by_cases hjj : j' = i
   ·subst hjj
    rw [if_pos rfl] at hz'
    obtain ⟨q, hq⟩ := List.mem_iff_getElem?.1 hz'
    rcases get_set hq with ⟨_, rfl⟩ | ⟨hqj, hq⟩
    ·rcases hO k hk2 with h1 | h1
     ·exact h.apart i' j' vi vj hi' hj' hne y hy x hxm k hk1 h1
     ·have := hlt i' vi hi' y hy hk1; omega
    ·exact h.apart i' j' vi vj hi' hj' hne y hy z (List.mem_of_getElem? hq) k hk1 hk2
   ·rw [if_neg hjj] at hz'
    exact h.apart i' j' vi vj hi' hj' hne y hy z hz' k hk1 hk2
def pfn (d : PD) : Value := .func (.func 159) #[] #[.pointer (some ⟨d.kv, 0, none⟩), .pointer (some ⟨d.wk, 0, none⟩)]
def pv (g n cap : Nat) (d : PD) : Value := .agg #[.slice (some ⟨g, 0, none⟩) n cap, pfn d]
def RemFPost (v : Array Value) (w : World) (e : Ending) (w' : World) : Prop :=
 e = .returned (.func (.func 159) #[] #[.pointer (some ⟨w.heap.size + 1 + 1, 0, none⟩), .pointer (some ⟨w.heap.size, 0, none⟩)]) ∧ Below w.heap.size w w' ∧ w'.heap.size = w.heap.size + 3 ∧ w'.heap[w.heap.size + 1 + 1]? = some (.cells #[.map (some (w.heap.size + 1))] 276 (0, 0)) ∧
  w'.heap[w.heap.size]? = some (.cells #[.func (.func 120) #[] v] 169 (0, 0)) ∧ MapV intT w' (w.heap.size + 1) 0 (fun _ => none)
set_option maxRecDepth 20000 in
set_option maxHeartbeats 1000000 in
theorem rememberF_any (v : Array Value) (w : World) : Calls Tryz.prog 119 #[.func (.func 120) #[] v] w (RemFPost v w) := by
 have hmm := @run_makeMap Tryz.prog
 go_enter Tryz.func119, Tryz.ntmps119
 go_wp2_with fail
 go_ret
 have hM := MapV.made intT (w.alloc (.cells #[.func (.func 120) #[] v] 169))
 have h1 := heap_alloc_last w (.cells #[.func (.func 120) #[] v] 169)
 have h2 := heap_alloc_last ((w.alloc (.cells #[.func (.func 120) #[] v] 169)).alloc (.map #[] 0)) (.cells #[.map (some (w.heap.size + 1))] 276)
 have b1 : Below w.heap.size w (w.alloc (.cells #[.func (.func 120) #[] v] 169)) := (Below.refl _ _).alloc (Nat.le_refl _) _
 have b2 := b1.alloc (o := .map #[] 0) (by simp)
 have b3 := b2.alloc (o := .cells #[.map (some (w.heap.size + 1))] 276) (by simp; omega)
 refine ⟨rfl, b3, by simp, by simpa using h2, heap_alloc_old (heap_alloc_old h1), ?_⟩
 rw [show (w.alloc (.cells #[.func (.func 120) #[] v] 169)).heap.size = w.heap.size + 1 by simp] at hM
 refine hM.keep ?_
 obtain ⟨es, clk, ho⟩ := hM.obj
 rw [ho]
 exact heap_alloc_old ho
def NewPost (g n cap : Nat) (G : List GS) (w : World) (e : Ending) (w' : World) : Prop :=
 ∃ d, e = .returned (pv g n cap d) ∧ Below w.heap.size w w' ∧ PainterIs w' w.heap.size (fun k => w.heap.size ≤ k ∧ k < w'.heap.size) g n cap G d (fun _ => none) (fun _ => [])
set_option maxRecDepth 20000 in
set_option maxHeartbeats 1000000 in
theorem new_any (g n cap : Nat) (G : List GS) (w : World) (hT : Tab w) (h0 : 1 < w.heap.size) (hG : GramIs w g n cap G) :
  Calls Tryz.prog 91 #[.slice (some ⟨g, 0, none⟩) n cap] w (NewPost g n cap G w) := by
 obtain ⟨q, hq⟩ : ∃ q, q = w.heap.size := ⟨_, rfl⟩
 obtain ⟨W, hW⟩ : ∃ W, (w.alloc (.cells #[.slice (some ⟨g, 0, none⟩) n cap] 36)).alloc (.cells #[.slice none 0 0, .nilFunc] 171) = W := ⟨_, rfl⟩
 have hbW : Below w.heap.size w W := by rw [← hW]; exact ((Below.refl _ _).alloc (Nat.le_refl _) _).alloc (by simp) _
 have hWs : W.heap.size = q + 1 + 1 := by rw [← hW, hq]; simp
 have HW := hide (show W.heap[q]? = some (.cells #[.slice (some ⟨g, 0, none⟩) n cap] 36 (0, 0)) ∧ W.heap[q + 1]? = some (.cells #[.slice none 0 0, .nilFunc] 171 (0, 0)) from by
  rw [← hW, hq]
  have h1 := heap_alloc_last w (.cells #[.slice (some ⟨g, 0, none⟩) n cap] 36)
  have h2 := heap_alloc_last (w.alloc (.cells #[.slice (some ⟨g, 0, none⟩) n cap] 36)) (.cells #[.slice none 0 0, .nilFunc] 171)
  simp only [World.size_alloc] at h2
  exact ⟨heap_alloc_old h1, h2⟩)
 have HKP := hide (fun (W' : World) (hb : Below W.heap.size W W') => show W'.cell? ⟨q, 0, none⟩ = some (.slice (some ⟨g, 0, none⟩) n cap) ∧ (W'.cell? ⟨q + 1, 0, none⟩ = some (.slice none 0 0) ∧ W'.frozen? ⟨q + 1, 0, none⟩ = false ∧ W'.cell? ⟨q + 1, 1, none⟩ = some .nilFunc ∧ W'.frozen? ⟨q + 1, 1, none⟩ = false) from by
  obtain ⟨h1, h2⟩ := HW.out
  have k1 := (hb.block _ (lt_of_get h1)).trans h1
  have k2 := (hb.block _ (lt_of_get h2)).trans h2
  exact ⟨by simp [World.cell?, k1], by simp [World.cell?, World.frozen?, k2]⟩)
 have HR := hide (rememberF_any #[.pointer (some ⟨q, 0, none⟩)] W.drew)
 have HEND := hide (show ∀ (e4 : Ending) (w4 : World), RemFPost #[.pointer (some ⟨q, 0, none⟩)] W.drew e4 w4 → ∃ w5, (w4.setCell ⟨q + 1, 0, none⟩ (.slice (some ⟨g, 0, none⟩) n cap)).setCell ⟨q + 1, 1, none⟩ (.func (.func 159) #[] #[.pointer (some ⟨q + 1 + 1 + 1 + 1, 0, none⟩), .pointer (some ⟨q + 1 + 1, 0, none⟩)]) = w5 ∧ w5.heap[q + 1]? = some (.cells #[.slice (some ⟨g, 0, none⟩) n cap, .func (.func 159) #[] #[.pointer (some ⟨q + 1 + 1 + 1 + 1, 0, none⟩), .pointer (some ⟨q + 1 + 1, 0, none⟩)]] 171 (0, 0)) ∧ NewPost g n cap G w (.returned (.agg #[.slice (some ⟨g, 0, none⟩) n cap, .func (.func 159) #[] #[.pointer (some ⟨q + 1 + 1 + 1 + 1, 0, none⟩), .pointer (some ⟨q + 1 + 1, 0, none⟩)]])) w5 from by
  rintro e4 w4 ⟨-, hb4, hs4, h4a, h4b, h4c⟩
  have hd : W.drew.heap.size = q + 1 + 1 := hWs
  rw [hd] at hs4 h4a h4b h4c
  have hB4 : Below W.heap.size W w4 := ⟨hb4.os, hb4.tape, hb4.output, hb4.size, hb4.block⟩
  obtain ⟨h1, h2⟩ := HW.out
  have k1 := (hB4.block _ (lt_of_get h1)).trans h1
  have k2 := (hB4.block _ (lt_of_get h2)).trans h2
  have s1 := heap_setCell_same w4 (q + 1) 0 (.slice (some ⟨g, 0, none⟩) n cap) k2
  have s2 := heap_setCell_same _ (q + 1) 1 (.func (.func 159) #[] #[.pointer (some ⟨q + 1 + 1 + 1 + 1, 0, none⟩), .pointer (some ⟨q + 1 + 1, 0, none⟩)]) s1
  have hoth : ∀ k, k ≠ q + 1 → ((w4.setCell ⟨q + 1, 0, none⟩ (.slice (some ⟨g, 0, none⟩) n cap)).setCell ⟨q + 1, 1, none⟩ (.func (.func 159) #[] #[.pointer (some ⟨q + 1 + 1 + 1 + 1, 0, none⟩), .pointer (some ⟨q + 1 + 1, 0, none⟩)])).heap[k]? = w4.heap[k]? := fun k hk => by
   rw [Below.heap_setCell _ _ _ _ (by exact hk), Below.heap_setCell _ _ _ _ (by exact hk)]
  have hsz : ((w4.setCell ⟨q + 1, 0, none⟩ (.slice (some ⟨g, 0, none⟩) n cap)).setCell ⟨q + 1, 1, none⟩ (.func (.func 159) #[] #[.pointer (some ⟨q + 1 + 1 + 1 + 1, 0, none⟩), .pointer (some ⟨q + 1 + 1, 0, none⟩)])).heap.size = q + 1 + 1 + 3 := by rw [← hs4]; simp [World.setCell]
  have hb5 : Below w.heap.size w4 ((w4.setCell ⟨q + 1, 0, none⟩ (.slice (some ⟨g, 0, none⟩) n cap)).setCell ⟨q + 1, 1, none⟩ (.func (.func 159) #[] #[.pointer (some ⟨q + 1 + 1 + 1 + 1, 0, none⟩), .pointer (some ⟨q + 1 + 1, 0, none⟩)])) := ((Below.refl _ _).setCell (by show w.heap.size ≤ q + 1; omega) _).setCell (by show w.heap.size ≤ q + 1; omega) _
  have hbw : Below w.heap.size w ((w4.setCell ⟨q + 1, 0, none⟩ (.slice (some ⟨g, 0, none⟩) n cap)).setCell ⟨q + 1, 1, none⟩ (.func (.func 159) #[] #[.pointer (some ⟨q + 1 + 1 + 1 + 1, 0, none⟩), .pointer (some ⟨q + 1 + 1, 0, none⟩)])) := (hbW.trans (hB4.mono hbW.size)).trans hb5
  refine ⟨_, rfl, by simpa using s2, ⟨q + 1 + 1 + 1, q + 1 + 1 + 1 + 1, q + 1 + 1, q⟩, rfl, hbw, ⟨fun k hk => hk, by rw [hsz]; omega, ⟨h0, hT.keep (hbw.block _ h0)⟩, fun w' hb => hG.below (hbw.trans hb), ⟨⟨by show w.heap.size ≤ q; omega, by rw [hsz]; show q < _; omega⟩, (hoth q (by omega)).trans k1⟩, ⟨⟨by show w.heap.size ≤ q + 1 + 1 + 1 + 1; omega, by rw [hsz]; show q + 1 + 1 + 1 + 1 < _; omega⟩, (hoth _ (by show q + 1 + 1 + 1 + 1 ≠ q + 1; omega)).trans h4a⟩, ⟨⟨by show w.heap.size ≤ q + 1 + 1; omega, by rw [hsz]; show q + 1 + 1 < _; omega⟩, (hoth _ (by show q + 1 + 1 ≠ q + 1; omega)).trans h4b⟩, ⟨⟨by show w.heap.size ≤ q + 1 + 1 + 1; omega, by rw [hsz]; show q + 1 + 1 + 1 < _; omega⟩, 0, h4c.keep (hoth _ (by show q + 1 + 1 + 1 ≠ q + 1; omega)), Nat.zero_le _⟩, fun i v h => (by cases h), fun i v h => (by cases h), fun i j vi vj h => (by cases h)⟩⟩)
 clear hG hT hbW
 go_enter Tryz.func91, Tryz.ntmps91
 go_wp2_with fail
 rw [← hq]
 clear hW
 have HQ := hide hq
 clear hq
 have hS0 := (HKP.out W.drew (Below.refl _ _).drew).1
 go_region_held3 (fun w' => w'.cell? ⟨q, 0, none⟩ = some (.slice (some ⟨g, 0, none⟩) n cap))
  (first
   | with_reducible exact hS3
   | with_reducible exact hS0
   | go_keep)
  (first
   | (go_at_call 119; refine HR.out.mono ?_; clear HR; rintro e4 w4 hp; have HP := hide hp; obtain ⟨rfl, hb4, -⟩ := hp; have hB4 : Below W.heap.size W w4 := ⟨hb4.os, hb4.tape, hb4.output, hb4.size, hb4.block⟩; clear hb4; obtain ⟨hS3, z0, y0, z1, y1⟩ := HKP.out w4 hB4; have HB4 := hide hB4; clear hB4))
 all_goals
  obtain ⟨w5, hw5, hb5, hN5⟩ := HEND.out _ w4 HP.out
  rw [hw5]
  have v0 : w5.cell? ⟨q + 1, 0, none⟩ = some (.slice (some ⟨g, 0, none⟩) n cap) := by simp [World.cell?, hb5]
  have v1 : w5.cell? ⟨q + 1, 1, none⟩ = some (.func (.func 159) #[] #[.pointer (some ⟨q + 1 + 1 + 1 + 1, 0, none⟩), .pointer (some ⟨q + 1 + 1, 0, none⟩)]) := by simp [World.cell?, hb5]
  have HE := hide hN5
  clear hw5 hb5 hN5 z0 y0 z1 y1 hS0 hS3 HP HEND
  go_wp2_with fail
  exact bodyPost_ret (v := .agg #[.slice (some ⟨g, 0, none⟩) n cap, .func (.func 159) #[] #[.pointer (some ⟨q + 1 + 1 + 1 + 1, 0, none⟩), .pointer (some ⟨q + 1 + 1, 0, none⟩)]]) (by simp [results, Tryz.results91, go_sem, *]) rfl HE.out
theorem FinList.base {w : World} {B N : Nat} {v : Value} {ds : List FD} (h : FinList w B v ds) (hN : N ≤ B) : FinList w N v ds := by
 refine ⟨?_, fun x hx => ⟨(h.each x hx).1, fun k hk => Nat.le_trans hN ((h.each x hx).2 k hk)⟩, h.apart, h.off⟩
 obtain ⟨h1, h2⟩ := h.row
 refine ⟨h1, ?_⟩
 rcases h2 with h2 | ⟨g, cap, cur, a1, a2, a3⟩
 ·exact .inl h2
 ·exact .inr ⟨g, cap, cur, a1, Nat.le_trans hN a2, a3⟩
def PFindPost (N : Nat) (A : Nat → Prop) (g n cap : Nat) (G : List GS) (d : PD) (i : Nat) (s : GS) (w : World) (e : Ending) (w' : World) : Prop :=
 ∃ ao cp A' f' F', e = .returned (.slice ao s.rs.length cp) ∧ f' i = some (.slice ao s.rs.length cp) ∧ Off A w w' ∧ (∀ k, A' k → A k ∨ w.heap.size ≤ k) ∧ (∀ k, A k → A' k) ∧ PainterIs w' N A' g n cap G d f' F'
theorem PainterIs.learn {w w1 w2 : World} {N : Nat} {A : Nat → Prop} {g n cap : Nat} {G : List GS} {d : PD} {f : Nat → Option Value} {F : Nat → List FD} (h : PainterIs w N A g n cap G d f F) {i m : Nat} {s : GS} {ao : Option Addr} {cp : Nat} {ds : List FD} (hs : G[i]? = some s) (hi : i < 12) (hf : f i = none) (hm : m ≤ known12 f) (hb : Below w.heap.size w w1) (hda : ds.map FD.a = s.rs.map GR.a) (hfl : FinList w1 w.heap.size (.slice ao s.rs.length cp) ds)
  (hM : MapV intT w2 d.K (m + 1) (fun y => if y = i then some (.slice ao s.rs.length cp) else f y)) (hg : w1.grownBy w2 (some d.K)) :
  Off A w w2 ∧ PainterIs w2 N (fun k => A k ∨ (w.heap.size ≤ k ∧ k < w2.heap.size)) g n cap G d (fun y => if y = i then some (.slice ao s.rs.length cp) else f y) (fun y => if y = i then ds else F y) := by
 have h1 := h.below hb
 obtain ⟨m1, hm1, _⟩ := h1.map.2
 obtain ⟨es, clk, hKo⟩ := hm1.obj
 have hoK : Off (fun k => k = d.K) w1 w2 := ⟨hg.os, hg.tape, hg.output, hg.size, fun k hk => hg.block k hk.1 (fun e => hk.2 (Option.some.inj e)), fun k c t _ hh => (hg.block k (lt_of_get hh) (fun e => by cases e; rw [hKo] at hh; cases hh)).trans hh⟩
 have hsz := Nat.le_trans hb.size hg.size
 have hold : ∀ k, A k → k < w.heap.size := fun k hk => (h.old k hk).2
 have hbN : Below N w1 w2 := ⟨hg.os, hg.tape, hg.output, hg.size, fun k hk => hg.block k (Nat.lt_of_lt_of_le hk h1.size) (fun e => by cases e; have := (h.old _ h.map.1).1; omega)⟩
 have hwK : Off A w w2 := ⟨hoK.os.trans hb.os, hoK.tape.trans hb.tape, hoK.output.trans hb.output, hsz, fun k hk => (hoK.keep k ⟨Nat.lt_of_lt_of_le hk.1 hb.size, fun e => hk.2 (e ▸ h.map.1)⟩).trans (hb.block k hk.1), fun k c t ht hh => hoK.stay k c t ht ((hb.block k (lt_of_get hh)).trans hh)⟩
 have hvb : ∀ k, (Value.slice ao s.rs.length cp).ownBlock = some k → w.heap.size ≤ k ∧ k < w2.heap.size := fun k hk => by
  obtain ⟨e1, c, hc⟩ := row_type hfl.row hk
  exact ⟨e1, Nat.lt_of_lt_of_le (lt_of_get hc) hg.size⟩
 have hne : ∀ k, A k → k ≠ d.K → ∀ o, w1.heap[k]? = some o → w2.heap[k]? = some o := fun k _ hk o ho => hoK.same ho hk
 have hty : d.sb ≠ d.K ∧ d.kv ≠ d.K ∧ d.wk ≠ d.K := ⟨fun e => (by have := h1.sbx.2; rw [e, hKo] at this; cases this), fun e => (by have := h1.kvx.2; rw [e, hKo] at this; cases this), fun e => (by have := h1.wkx.2; rw [e, hKo] at this; cases this)⟩
 refine ⟨hwK, ⟨fun k hk => ?_, Nat.le_trans h.size hsz, ⟨h.tab.1, h1.tab.2.keep (hbN.block _ h.tab.1)⟩, fun w' hb' => h1.gram w' (hbN.trans hb'), ⟨.inl h.sbx.1, hoK.same h1.sbx.2 hty.1⟩, ⟨.inl h.kvx.1, hoK.same h1.kvx.2 hty.2.1⟩, ⟨.inl h.wkx.1, hoK.same h1.wkx.2 hty.2.2⟩, ⟨.inl h.map.1, m + 1, hM, by rw [known12_set hi hf]; omega⟩, fun i' v' hi' => ?_, fun i' v' hi' y hy k hk => ?_, fun i' j' vi vj hi' hj' hij y hy z hz k hk1 hk2 => ?_⟩⟩
 ·rcases hk with hk | hk
  ·exact ⟨(h.old k hk).1, Nat.lt_of_lt_of_le (hold k hk) hsz⟩
  ·exact ⟨Nat.le_trans h.size hk.1, hk.2⟩
 ·by_cases hii : i' = i
  ·subst hii
   simp only [if_true] at hi' ⊢
   cases hi'
   exact ⟨s, ao, cp, rfl, hs, hda, (hfl.kept hoK (fun k hk e => by have := (hvb k hk).1; have := hold _ h.map.1; omega) (fun x hx k hk e => by have := (hfl.each x hx).2 k hk; have := hold _ h.map.1; omega)).base h.size, fun k hk => .inr (hvb k hk)⟩
  ·simp only [if_neg hii] at hi' ⊢
   obtain ⟨s', ao', cp', e1, e2, e3, e4, e5⟩ := h1.fin i' v' hi'
   refine ⟨s', ao', cp', e1, e2, e3, e4.kept hoK (fun k hk e => ?_) (fun x hx k hk e => (h.own i' v' hi' x hx k hk).2.2.2.2.1 e), fun k hk => .inl (e5 k hk)⟩
   obtain ⟨_, c, hc⟩ := row_type e4.row hk
   rw [e, hKo] at hc
   cases hc
 ·by_cases hii : i' = i
  ·subst hii
   simp only [if_true] at hi' hy
   have hk' := (hfl.each y hy).2 k hk
   have hk2 := (hfl.each y hy).1.old k hk
   refine ⟨.inr ⟨hk', Nat.lt_of_lt_of_le hk2 hg.size⟩, fun e => by have := hold _ h.sbx.1; omega, fun e => by have := hold _ h.kvx.1; omega, fun e => by have := hold _ h.wkx.1; omega, fun e => by have := hold _ h.map.1; omega, fun i2 v2 h2 e => ?_⟩
   by_cases hi2 : i2 = i'
   ·subst hi2
    simp only [if_true] at h2
    cases h2
    exact hfl.off y hy k e hk
   ·simp only [if_neg hi2] at h2
    obtain ⟨_, _, _, _, _, _, _, e5⟩ := h.fin i2 v2 h2
    have := hold k (e5 k e)
    omega
  ·simp only [if_neg hii] at hi' hy
   obtain ⟨o1, o2, o3, o4, o5, o6⟩ := h.own i' v' hi' y hy k hk
   refine ⟨.inl o1, o2, o3, o4, o5, fun i2 v2 h2 e => ?_⟩
   by_cases hi2 : i2 = i
   ·subst hi2
    simp only [if_true] at h2
    cases h2
    have := (hvb k e).1
    have := hold k o1
    omega
   ·simp only [if_neg hi2] at h2
    exact o6 i2 v2 h2 e
 ·have hnew : ∀ x ∈ ds, x.O k → w.heap.size ≤ k := fun x hx hk => (hfl.each x hx).2 k hk
  by_cases hii : i' = i
  ·subst hii
   simp only [if_true] at hi' hy
   simp only [if_neg (Ne.symm hij)] at hj' hz
   have := hnew y hy hk1
   have := hold k (h.own j' vj hj' z hz k hk2).1
   omega
  ·simp only [if_neg hii] at hi' hy
   by_cases hjj : j' = i
   ·subst hjj
    simp only [if_true] at hj' hz
    have := hnew z hz hk2
    have := hold k (h.own i' vi hi' y hy k hk1).1
    omega
   ·simp only [if_neg hjj] at hj' hz
    exact h.apart i' j' vi vj hi' hj' hij y hy z hz k hk1 hk2
theorem known12_le (f : Nat → Option Value) : known12 f ≤ 12 := by
 have := List.length_filter_le (fun i => (f i).isSome) (List.range 12)
 unfold known12
 simpa using this
theorem pfind_any (N : Nat) (A : Nat → Prop) (g n cap : Nat) (G : List GS) (d : PD) (f : Nat → Option Value) (F : Nat → List FD) (i : Nat) (s : GS) (w : World) (h : PainterIs w N A g n cap G d f F) (hs : G[i]? = some s) :
  Calls Tryz.prog 159 #[.int .i64 i, .pointer (some ⟨d.kv, 0, none⟩), .pointer (some ⟨d.wk, 0, none⟩)] w (PFindPost N A g n cap G d i s w) := by
 have hG := h.gram w (Below.refl _ _)
 have hi : i < 12 := by have := get_lt hs; have := hG.few; have := hG.len; omega
 obtain ⟨m, hM, hm⟩ := h.map.2
 cases hf : f i with
 | some v =>
  obtain ⟨s', ao, cp, rfl, e2, -⟩ := h.fin i v hf
  rw [hs] at e2
  cases e2
  refine (memoF_hit d.K d.kv d.wk m f i (by omega) ao s.rs.length cp w h.kvx.2 hM hf).mono ?_
  rintro e w' ⟨rfl, rfl⟩
  exact ⟨ao, cp, A, f, F, rfl, hf, Off.refl _ _, fun k hk => .inl hk, fun k hk => hk, h⟩
 | none =>
  refine (memoF_miss d.K d.kv d.wk m f i (by omega) #[.pointer (some ⟨d.sb, 0, none⟩)] (fun v w1 => ∃ ao cp ds, v = .slice ao s.rs.length cp ∧ Below w.heap.size w w1 ∧ ds.map FD.a = s.rs.map GR.a ∧ FinList w1 w.heap.size v ds) w h.kvx.2 h.wkx.2 hM (by have := known12_le f; omega) hf ((finders_any g n cap G i s d.sb w (Nat.lt_of_lt_of_le h.tab.1 h.size) hG hs h.sbx.2).mono ?_)).mono ?_
  ·rintro e w1 ⟨ao, n', cp, ds, rfl, rfl, hb, hda, hfl⟩
   exact ⟨ao, _, cp, rfl, (hb.block _ (lt_of_get h.kvx.2)).trans h.kvx.2, hb.block _ hM.lt, ao, cp, ds, rfl, hb, hda, hfl⟩
  ·rintro e w2 ⟨ao, n', cp, w1, rfl, ⟨ao', cp', ds, hv, hb, hda, hfl⟩, hM2, hg⟩
   cases hv
   obtain ⟨ho, hp⟩ := h.learn hs hi hf hm hb hda hfl hM2 hg
   exact ⟨ao, cp, _, _, _, rfl, by simp, ho, fun k hk => hk.imp id fun h => h.1, fun k hk => .inl hk, hp⟩
end Go.Proofs.YtgncgdkpkkdaeaaGreatDoor
namespace Go.Proofs.YtgncgdkpkkdaeaaGreatDoor
open Go.RowKit Tint Go.Maps Go.Shelf
attribute [local go_sem] Oper.semAt_some
def BackIs (bs : Nat) (ao : Option Addr) (len cap : Nat) (ds : List FD) (w : World) : Prop :=
 w.heap[bs]? = some (.cells #[.slice ao len cap] 237 (0, 0)) ∧ ∀ (q : Nat) x, ds[q]? = some x → ∃ g, ao = some ⟨g, 0, none⟩ ∧ ∀ (y : Nat) c, x.cells[y]? = some c → w.cell? ⟨g, q * 6 + y, none⟩ = some c
def fdv (x : FD) : Value := fnv x.ρf x.sf x.ρb x.sb
theorem fdv_cells (x : FD) : fdv x = .agg x.cells.toArray := rfl
theorem FinList.back {w : World} {B bs cap : Nat} {ao : Option Addr} {ds es : List FD} (h : FinList w B (.slice ao ds.length cap) ds) (hb : w.heap[bs]? = some (.cells #[.slice ao ds.length cap] 237 (0, 0))) (hc : es.map FD.cells = ds.map FD.cells) : BackIs bs ao es.length cap es w := by
 have hl : es.length = ds.length := by have := congrArg List.length hc; simpa using this
 refine ⟨by rw [hl]; exact hb, fun q x hx => ?_⟩
 have hq : q < ds.length := by rw [← hl]; exact get_lt hx
 obtain ⟨g, cap', hv⟩ := own_form h.row (by omega)
 cases hv
 refine ⟨g, rfl, fun y c hy => ?_⟩
 have hy6 : y < 6 := by have := get_lt hy; simpa [FD.cells] using this
 have hfm : ∀ (l : List FD) (q : Nat) (x : FD), l[q]? = some x → (l.flatMap FD.cells)[q * 6 + y]? = x.cells[y]? := by
  intro l
  induction l with
  | nil => intro q x h; simp at h
  | cons a t ih =>
   intro q x h
   cases q with
   | zero =>
    simp at h
    subst h
    rw [List.flatMap_cons, List.getElem?_append_left (by simp [FD.cells]; omega)]
    simp
   | succ q =>
    rw [List.flatMap_cons, List.getElem?_append_right (by simp [FD.cells]; omega)]
    have e : (q + 1) * 6 + y - a.cells.length = q * 6 + y := by simp [FD.cells]; omega
    rw [e]
    exact ih q x (by simpa using h)
 have hfl : es.flatMap FD.cells = ds.flatMap FD.cells := by rw [List.flatMap_def, List.flatMap_def, hc]
 have := h.row.cells rfl (q * 6 + y) c (by rw [← hfl, hfm es q x hx]; exact hy)
 by_cases h0 : q * 6 + y = 0
 ·rw [h0] at this ⊢; simpa [Addr.add] using this
 ·have hn : ¬ (q * 6 = 0 ∧ y = 0) := by omega
  simpa [Addr.add, hn] using this
def BackPost (J Jx : Nat → World → Prop) (e : Ending) (w' : World) : Prop := (∃ v, e = .returned v) ∧ (J 0 w' ∨ ∃ i, Jx i w')
def BackLoop (J : Nat → World → Prop) (len k : Nat) (vi : Value) (wr : World) : Prop := k ≤ len ∧ vi = .int .i64 ((k : Int) - 1) ∧ J k wr
set_option maxHeartbeats 2000000 in
theorem backward_any (m : Nat) (bs : Nat) (ao : Option Addr) (cap : Nat) (ds : List FD) (l : Nat) (J Jx : Nat → World → Prop) (w : World) (hlen : ds.length ≤ 40) (hJb : ∀ i W, J i W → BackIs bs ao ds.length cap ds W)
  (hY : ∀ i x A, ds[i]? = some x → J (i + 1) A → YieldAt Fence.wide (m - 1) Tryz.prog l #[.int .i64 i, fdv x] A fun e B => (e = .returned (.bool true) ∧ J i B) ∨ (e = .returned (.bool false) ∧ Jx i B)) (h0 : J ds.length w) :
  CallsIn Fence.wide m Tryz.prog 187 #[.func (.yield l) #[] #[], .pointer (some ⟨bs, 0, none⟩)] w (BackPost J Jx) := by
 refine callsIn_wide.2 ?_
 have b0 := cell_one (hJb _ _ h0).1
 have HJ := hide hJb
 have HY := hide hY
 have H0 := hide h0
 clear hJb hY h0
 go_enter Tryz.func187, Tryz.ntmps187
 go_wp2_with fail
 go_loopg [3] ds.length (fun k vi wr => BackLoop J ds.length k vi wr)
 case atStart => exact ⟨Nat.le_refl _, rfl, H0.out⟩
 case round =>
  obtain ⟨hk, rfl, hj⟩ := hrel
  cases gk with
  | zero =>
   have g0 : decide ((0 : Int) ≤ -1) = false := by decide
   go_wp2_with fail
   go_end0
   exact ⟨⟨_, rfl⟩, .inl hj⟩
  | succ i =>
   have hi : i < ds.length := by omega
   obtain ⟨x, hx⟩ : ∃ x, ds[i]? = some x := ⟨_, List.getElem?_eq_getElem hi⟩
   obtain ⟨hb, hc⟩ := HJ.out _ _ hj
   have c0 := cell_one hb
   obtain ⟨g, hao, hc2⟩ := hc i x hx
   subst hao
   have d0 := hc2 0 _ rfl
   have d1 := hc2 1 _ rfl
   have d2 := hc2 2 _ rfl
   have d3 := hc2 3 _ rfl
   have d4 := hc2 4 _ rfl
   have d5 := hc2 5 _ rfl
   rw [Nat.add_zero] at d0
   obtain ⟨fn, tmps, assign, body, hy, hR⟩ := HY.out i x wr hx hj
   unfold fdv fnv at hy
   have HR := hide hR
   have e1 : (((i + 1 : Nat) : Int) - 1) = (i : Int) := by omega
   have g0 : decide ((0 : Int) ≤ (i : Int)) = true := by simp
   have hwr : IntKind.i64.wrap ((i : Int) - 1) = (i : Int) - 1 := by rw [IntKind.wrap_i64]; omega
   rw [e1]
   clear hb hc hc2 hj hR hx
   refine (wpIn_wide (n := m)).1 ?_
   gi_wp2_with fail
   refine ⟨fun h => (by cases h), HR.out.mono ?_⟩
   rintro e W' (⟨rfl, hj'⟩ | ⟨rfl, hjx⟩)
   ·have HST := hide (show BackLoop J ds.length i (.int .i64 ((i : Int) - 1)) W' from ⟨by omega, rfl, hj'⟩)
    clear hj' HR hy
    gi_wp2_with fail
    go_roundg i
    case measure => omega
    case rel => exact HST.out
   ·have HJX := hide hjx
    clear hjx HR hy
    gi_wp2_with fail
    go_end0
    exact ⟨⟨_, rfl⟩, .inr ⟨i, HJX.out⟩⟩
end Go.Proofs.YtgncgdkpkkdaeaaGreatDoor
