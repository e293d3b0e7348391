import Derived.Test.YtgncgdkpkkdaeaaGreatDoorKD
import Derived.Test.YtgncgdkpkkdaeaaGreatDoorKG
namespace Go.Proofs.YtgncgdkpkkdaeaaGreatDoor
open Go.RowKit Tint
theorem row_keep {w w' : World} {B : Nat} {e : TypeId} {size : Nat} {sv : Value} {n : Nat} {xs : List Value} (h : w.ownsRow B e size sv n xs) (hk : ∀ k, sv.ownBlock = some k → w'.heap[k]? = w.heap[k]?) : w'.ownsRow B e size sv n xs := by
 obtain ⟨h1, h2⟩ := h
 refine ⟨h1, ?_⟩
 rcases h2 with h2 | ⟨g, cap, cur, hv, hg, hh, r⟩
 ·exact .inl h2
 ·exact .inr ⟨g, cap, cur, hv, hg, by rw [hk g (by rw [hv]; rfl)]; exact hh, r⟩
theorem row_type {w : World} {B : Nat} {e : TypeId} {size : Nat} {sv : Value} {n : Nat} {xs : List Value} (h : w.ownsRow B e size sv n xs) {k : Nat} (hk : sv.ownBlock = some k) : B ≤ k ∧ ∃ cur, w.heap[k]? = some (.cells cur e (0, 0)) := by
 rcases h.2 with ⟨rfl, _⟩ | ⟨g, cap, cur, rfl, hg, hh, _⟩
 ·cases hk
 ·cases hk; exact ⟨hg, cur, hh⟩
theorem row_cell {w : World} {B : Nat} {e : TypeId} {size : Nat} {g n cap : Nat} {xs : List Value} (h : w.ownsRow B e size (.slice (some ⟨g, 0, none⟩) n cap) n xs) {j : Nat} {u : Value} (hj : xs[j]? = some u) : w.cell? ⟨g, j, none⟩ = some u ∧ w.frozen? ⟨g, j, none⟩ = false := by
 rcases h.2 with ⟨h0, _⟩ | ⟨g', cap', cur, e1, hg, hh, hn, hm, hs, ht⟩
 ·cases h0
 ·cases e1
  have hl := get_lt hj
  rw [h.1] at hl
  rw [← ht, List.getElem?_take_of_lt hl] at hj
  constructor
  ·simp [World.cell?, hh]
   simpa using hj
  ·simp [World.frozen?, hh]
theorem row_set {w : World} {B : Nat} {e : TypeId} {size : Nat} {g n cap : Nat} {xs : List Value} (h : w.ownsRow B e size (.slice (some ⟨g, 0, none⟩) n cap) n xs) {j : Nat} (u : Value) : (w.setCell ⟨g, j, none⟩ u).ownsRow B e size (.slice (some ⟨g, 0, none⟩) n cap) n (xs.set j u) := by
 rcases h.2 with ⟨h0, _⟩ | ⟨g', cap', cur, e1, hg, hh, hn, hm, hs, ht⟩
 ·cases h0
 ·cases e1
  refine ⟨by rw [List.length_set]; exact h.1, .inr ⟨g, cap, cur.setIfInBounds j u, rfl, hg, heap_setCell_same w g j u hh, hn, hm, by simpa using hs, ?_⟩⟩
  rw [show (cur.setIfInBounds j u).toList = cur.toList.set j u by simp, List.take_set, ht]
structure El where
 pre : List Value
 rv : Value
 post : List Value
 rs : List (List Value)
def El.cells (x : El) : List Value := x.pre ++ x.rv :: x.post
def Sized (so si : Nat) (els : List El) : Prop := ∀ x ∈ els, x.cells.length = so ∧ ∀ r ∈ x.rs, r.length = si
structure Nest (w : World) (B : Nat) (to ti : TypeId) (so si : Nat) (sv : Value) (els : List El) : Prop where
 outer : w.ownsRow B to so sv els.length (els.flatMap El.cells)
 inner : ∀ x ∈ els, w.ownsRow B ti si x.rv x.rs.length x.rs.flatten
 apart : ∀ (i j : Nat) x y k, els[i]? = some x → els[j]? = some y → i ≠ j → x.rv.ownBlock = some k → y.rv.ownBlock ≠ some k
 sized : Sized so si els
theorem Nest.keep {w w' : World} {B : Nat} {to ti : TypeId} {so si : Nat} {sv : Value} {els : List El} (h : Nest w B to ti so si sv els) (hk : ∀ k, (sv.ownBlock = some k ∨ ∃ x ∈ els, x.rv.ownBlock = some k) → w'.heap[k]? = w.heap[k]?) : Nest w' B to ti so si sv els :=
 ⟨row_keep h.outer fun k e => hk k (.inl e), fun x hx => row_keep (h.inner x hx) fun k e => hk k (.inr ⟨x, hx, e⟩), h.apart, h.sized⟩
theorem Nest.block {w : World} {B : Nat} {to ti : TypeId} {so si : Nat} {sv : Value} {els : List El} (h : Nest w B to ti so si sv els) {k : Nat} (hk : sv.ownBlock = some k ∨ ∃ x ∈ els, x.rv.ownBlock = some k) : B ≤ k ∧ ∃ cur t, w.heap[k]? = some (.cells cur t (0, 0)) ∧ (t = to ∨ t = ti) := by
 rcases hk with hk | ⟨x, hx, hk⟩
 ·obtain ⟨h1, cur, h2⟩ := row_type h.outer hk; exact ⟨h1, cur, to, h2, .inl rfl⟩
 ·obtain ⟨h1, cur, h2⟩ := row_type (h.inner x hx) hk; exact ⟨h1, cur, ti, h2, .inr rfl⟩
theorem Nest.below {w w' : World} {B : Nat} {to ti : TypeId} {so si : Nat} {sv : Value} {els : List El} (h : Nest w B to ti so si sv els) (hb : Below w.heap.size w w') : Nest w' B to ti so si sv els :=
 h.keep fun k hk => by obtain ⟨_, cur, t, h1, _⟩ := h.block hk; exact hb.block k (lt_of_get h1)
theorem Nest.nil (w : World) (B : Nat) (to ti : TypeId) (so si : Nat) : Nest w B to ti so si (.slice none 0 0) [] :=
 ⟨World.ownsRow_nil _ _ _ _, fun x hx => by simp at hx, fun i j x y k h => by simp at h, fun x hx => by simp at hx⟩
theorem flatMap_get {so si : Nat} {els : List El} (hs : Sized so si els) {i : Nat} {x : El} (h : els[i]? = some x) (j : Nat) (hj : j < so) : (els.flatMap El.cells)[i * so + j]? = x.cells[j]? := by
 induction els generalizing i with
 | nil => simp at h
 | cons a l ih =>
  have ha := (hs a (by simp)).1
  cases i with
  | zero =>
   simp only [List.getElem?_cons_zero, Option.some.injEq] at h
   subst h
   simp only [List.flatMap_cons]
   rw [List.getElem?_append_left (by omega)]
   simp
  | succ i =>
   simp only [List.getElem?_cons_succ] at h
   have := ih (fun x hx => hs x (List.mem_cons_of_mem _ hx)) h
   simp only [List.flatMap_cons]
   rw [List.getElem?_append_right (by rw [ha, Nat.succ_mul]; omega), ← this]
   congr 1
   rw [ha, Nat.succ_mul]; omega
theorem flatMap_set {so si : Nat} {els : List El} (hs : Sized so si els) {i : Nat} {x y : El} (h : els[i]? = some x) (hp : y.pre = x.pre) (hq : y.post = x.post) : (els.set i y).flatMap El.cells = (els.flatMap El.cells).set (i * so + x.pre.length) y.rv := by
 induction els generalizing i with
 | nil => simp at h
 | cons a l ih =>
  have ha := (hs a (by simp)).1
  cases i with
  | zero =>
   simp only [List.getElem?_cons_zero, Option.some.injEq] at h
   subst h
   simp only [List.set_cons_zero, List.flatMap_cons, Nat.zero_mul, Nat.zero_add]
   have hl : a.pre.length < a.cells.length := by simp [El.cells]
   rw [List.set_append_left _ _ hl]
   congr 1
   simp [El.cells, hp, hq]
  | succ i =>
   simp only [List.getElem?_cons_succ] at h
   simp only [List.set_cons_succ, List.flatMap_cons]
   rw [List.set_append_right _ _ (by rw [ha, Nat.succ_mul]; omega), ih (fun x hx => hs x (List.mem_cons_of_mem _ hx)) h]
   congr 2
   rw [ha, Nat.succ_mul]; omega
theorem Nest.push {w w' : World} {B : Nat} {to ti : TypeId} {so si : Nat} {sv v' : Value} {els : List El} {x : El} (h : Nest w B to ti so si sv els) (hti : to ≠ ti) (hrv : x.rv = .slice none 0 0) (hrs : x.rs = []) (hx : x.cells.length = so)
  (hown : w'.ownsRow B to so v' (els.length + 1) (els.flatMap El.cells ++ x.cells)) (hg : w.grownBy w' sv.ownBlock) : Nest w' B to ti so si v' (els ++ [x]) := by
 refine ⟨by simpa using hown, fun y hy => ?_, fun i j a b k hi hj hne hk hb => ?_, fun y hy => ?_⟩
 ·rcases List.mem_append.1 hy with hy | hy
  ·refine row_keep (h.inner y hy) fun k e => ?_
   obtain ⟨_, cur, hc⟩ := row_type (h.inner y hy) e
   refine hg.block k (lt_of_get hc) fun e' => ?_
   obtain ⟨_, cur', hc'⟩ := row_type h.outer e'.symm
   rw [hc] at hc'
   simp only [Option.some.injEq, Obj.cells.injEq] at hc'
   exact hti hc'.2.1.symm
  ·rw [List.mem_singleton.1 hy, hrv, hrs]
   exact World.ownsRow_nil _ _ _ _
 ·rcases Nat.lt_or_ge i els.length with h1 | h1
  ·rw [List.getElem?_append_left h1] at hi
   rcases Nat.lt_or_ge j els.length with h2 | h2
   ·rw [List.getElem?_append_left h2] at hj
    exact h.apart i j a b k hi hj hne hk hb
   ·rw [List.getElem?_append_right h2] at hj
    have : b = x := by
     have := List.mem_of_getElem? hj
     exact List.mem_singleton.1 this
    rw [this, hrv] at hb
    cases hb
  ·rw [List.getElem?_append_right h1] at hi
   have : a = x := List.mem_singleton.1 (List.mem_of_getElem? hi)
   rw [this, hrv] at hk
   cases hk
 ·rcases List.mem_append.1 hy with hy | hy
  ·exact h.sized y hy
  ·rw [List.mem_singleton.1 hy]
   exact ⟨hx, fun r hr => by rw [hrs] at hr; simp at hr⟩
theorem Nest.grow {w w' : World} {B : Nat} {to ti : TypeId} {so si g n cap i : Nat} {v' : Value} {els : List El} {x : El} {r : List Value} (h : Nest w B to ti so si (.slice (some ⟨g, 0, none⟩) n cap) els) (hti : to ≠ ti) (hi : els[i]? = some x) (hr : r.length = si)
  (hown : w'.ownsRow B ti si v' (x.rs.length + 1) (x.rs.flatten ++ r)) (hg : w.grownBy w' x.rv.ownBlock) (hnew : v'.ownBlock = x.rv.ownBlock ∨ v'.ownBlock = some w.heap.size) :
  Nest (w'.setCell ⟨g, i * so + x.pre.length, none⟩ v') B to ti so si (.slice (some ⟨g, 0, none⟩) n cap) (els.set i { x with rv := v', rs := x.rs ++ [r] }) := by
 have hxm := List.mem_of_getElem? hi
 have hil := get_lt hi
 have hne : ∀ k, x.rv.ownBlock = some k → k ≠ g := fun k e => by
  rintro rfl
  obtain ⟨_, cur, hc⟩ := row_type (h.inner x hxm) e
  obtain ⟨_, cur', hc'⟩ := row_type (k := k) h.outer rfl
  rw [hc] at hc'
  simp only [Option.some.injEq, Obj.cells.injEq] at hc'
  exact hti hc'.2.1.symm
 have hgl : g < w.heap.size := by
  obtain ⟨_, cur', hc'⟩ := row_type (k := g) h.outer rfl
  exact lt_of_get hc'
 have hv'g : ∀ k, v'.ownBlock = some k → k ≠ g := fun k e => by
  rcases hnew with h1 | h1
  ·rw [h1] at e; exact hne k e
  ·rw [h1] at e; cases e; omega
 have ho1 : w'.ownsRow B to so (.slice (some ⟨g, 0, none⟩) n cap) els.length (els.flatMap El.cells) := row_keep h.outer fun k e => by
  cases e
  exact hg.block g hgl fun e' => hne g e'.symm rfl
 have hn : n = els.length := by
  rcases h.outer.2 with ⟨h0, _⟩ | ⟨g', cap', cur, e1, _⟩
  ·cases h0
  ·cases e1; rfl
 subst hn
 have hpl : i * so + x.pre.length < (els.flatMap El.cells).length := by
  have h1 := (h.sized x hxm).1
  rw [h.outer.1]
  have h2 : x.pre.length < x.cells.length := by simp [El.cells]
  have h3 : (i + 1) * so ≤ els.length * so := Nat.mul_le_mul_right _ hil
  rw [Nat.succ_mul] at h3
  omega
 have hset : ∀ k, k ≠ g → (w'.setCell ⟨g, i * so + x.pre.length, none⟩ v').heap[k]? = w'.heap[k]? := fun k e => Below.heap_setCell _ _ _ _ e
 have hinner : ∀ (j : Nat) y, els[j]? = some y → j ≠ i → (w'.setCell ⟨g, i * so + x.pre.length, none⟩ v').ownsRow B ti si y.rv y.rs.length y.rs.flatten := fun j y hj hji => by
  have hy := List.mem_of_getElem? hj
  refine row_keep (h.inner y hy) fun k e => ?_
  obtain ⟨_, cur, hc⟩ := row_type (h.inner y hy) e
  have hkg : k ≠ g := by
   rintro rfl
   obtain ⟨_, cur', hc'⟩ := row_type (k := k) h.outer rfl
   rw [hc] at hc'
   simp only [Option.some.injEq, Obj.cells.injEq] at hc'
   exact hti hc'.2.1.symm
  rw [hset k hkg]
  exact hg.block k (lt_of_get hc) fun e' => h.apart j i y x k hj hi hji e e'.symm
 refine ⟨?_, fun y hy => ?_, fun a b p q k ha hb hab hk hk' => ?_, fun y hy => ?_⟩
 ·rw [flatMap_set (y := { x with rv := v', rs := x.rs ++ [r] }) h.sized hi rfl rfl, List.length_set]
  exact row_set ho1 v'
 ·obtain ⟨j, hj⟩ := List.getElem?_of_mem hy
  by_cases hji : j = i
  ·subst hji
   rw [List.getElem?_set_self (by simpa using hil)] at hj
   cases hj
   have : (x.rs ++ [r]).flatten = x.rs.flatten ++ r := by simp
   simp only [List.length_append, List.length_cons, List.length_nil, this]
   exact row_keep hown fun k e => hset k (hv'g k e)
  ·rw [List.getElem?_set_ne (Ne.symm hji)] at hj
   exact hinner j y hj hji
 ·by_cases h1 : a = i
  ·subst h1
   rw [List.getElem?_set_self (by simpa using hil)] at ha
   cases ha
   rw [List.getElem?_set_ne hab] at hb
   have hq := List.mem_of_getElem? hb
   rcases hnew with h2 | h2
   ·rw [h2] at hk
    exact h.apart a b x q k hi hb hab hk hk'
   ·rw [h2] at hk
    cases hk
    obtain ⟨_, cur, hc⟩ := row_type (h.inner q hq) hk'
    have := lt_of_get hc
    omega
  ·rw [List.getElem?_set_ne (Ne.symm h1)] at ha
   by_cases h3 : b = i
   ·subst h3
    rw [List.getElem?_set_self (by simpa using hil)] at hb
    cases hb
    have hp := List.mem_of_getElem? ha
    rcases hnew with h2 | h2
    ·rw [h2] at hk'
     exact h.apart a b p x k ha hi hab hk hk'
    ·rw [h2] at hk'
     cases hk'
     obtain ⟨_, cur, hc⟩ := row_type (h.inner p hp) hk
     have := lt_of_get hc
     omega
   ·rw [List.getElem?_set_ne (Ne.symm h3)] at hb
    exact h.apart a b p q k ha hb hab hk hk'
 ·obtain ⟨j, hj⟩ := List.getElem?_of_mem hy
  by_cases hji : j = i
  ·subst hji
   rw [List.getElem?_set_self (by simpa using hil)] at hj
   cases hj
   have h1 := h.sized x hxm
   refine ⟨by simpa [El.cells] using h1.1, fun r' hr' => ?_⟩
   rcases List.mem_append.1 hr' with h2 | h2
   ·exact h1.2 r' h2
   ·rw [List.mem_singleton.1 h2]; exact hr
  ·rw [List.getElem?_set_ne (Ne.symm hji)] at hj
   exact h.sized y (List.mem_of_getElem? hj)
theorem below_grown {B : Nat} {W w3 : World} {row : Option Nat} (hB : B ≤ W.heap.size) (hg : W.grownBy w3 row) (hr : ∀ k, row = some k → B ≤ k) : Below B W w3 :=
 ⟨hg.os, hg.tape, hg.output, hg.size, fun k hk => hg.block k (Nat.lt_of_lt_of_le hk hB) (fun e => by have := hr k e.symm; omega)⟩
theorem row_new {w : World} {B : Nat} {e : TypeId} {size : Nat} {sv : Value} {n : Nat} {xs : List Value} (h : w.ownsRow B e size sv n xs) (o : Obj) : (w.alloc o).ownsRow B e size sv n xs :=
 row_keep h fun k hk => by obtain ⟨_, cur, hc⟩ := row_type h hk; exact Below.heap_alloc _ _ _ (lt_of_get hc)
theorem no_ten {s : ByteArray} {i j : Nat} (h : ∀ m, i ≤ m → m < j → s.data.toList[m]? ≠ some 10) : (10 : UInt8) ∉ (s.extract i j).data.toList := by
 intro hm
 rw [extract_list] at hm
 obtain ⟨k, hk⟩ := List.getElem?_of_mem hm
 have hl := get_lt hk
 rw [List.length_take] at hl
 rw [List.getElem?_take_of_lt (by omega), List.getElem?_drop] at hk
 exact h (i + k) (by omega) (by omega) hk
end Go.Proofs.YtgncgdkpkkdaeaaGreatDoor
namespace Tint
theorem Fst.snoc {p : Lns → Ln → Prop} {pre l : Lns} (h : Fst p pre l none) {a : Nat} {x : Ln} (hx : ¬ p (pre ++ l) x) : Fst p pre (l ++ [(a, x)]) none := by
 generalize ho : (none : Option Nat) = o at h
 induction h with
 | nil => exact .skip (by simpa using hx) .nil
 | hit _ => cases ho
 | skip hn _ ih => exact .skip hn (ih (by simpa using hx) ho)
theorem Fst.hit_at {p : Lns → Ln → Prop} {pre l : Lns} (h : Fst p pre l none) {a : Nat} {x : Ln} (r : Lns) (hx : p (pre ++ l) x) : Fst p pre (l ++ (a, x) :: r) (some a) := by
 generalize ho : (none : Option Nat) = o at h
 induction h with
 | nil => exact .hit (by simpa using hx)
 | hit _ => cases ho
 | skip hn _ ih => exact .skip hn (ih (by simpa using hx) ho)
end Tint
namespace Go.Proofs.YtgncgdkpkkdaeaaGreatDoor
open Go.RowKit Tint
end Go.Proofs.YtgncgdkpkkdaeaaGreatDoor
