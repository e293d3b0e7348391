import Derived.Test.YtgncgdkpkkdaeaaGreatDoorKD
import Derived.Maps.AppendAt
import Derived.Test.YtgncgdkpkkdaeaaGreatDoorKI
import Derived.Test.YtgncgdkpkkdaeaaGreatDoorKF
namespace Go.Proofs.YtgncgdkpkkdaeaaGreatDoor
open Go.RowKit Tint Go.Maps
def stCells (st : List Nat) : List Value := (st ++ List.replicate (8 - st.length) 0 ++ [st.length]).map fun x : Nat => Value.int .i64 (x : Int)
def stv (st : List Nat) : Value := .agg (stCells st).toArray
theorem stCells_length {st : List Nat} (h : st.length ≤ 8) : (stCells st).length = 9 := by simp [stCells]; omega
theorem stCells_get {st : List Nat} {i x : Nat} (h : st[i]? = some x) : (stCells st)[i]? = some (.int .i64 x) := by
 have hi : i < st.length := get_lt h
 unfold stCells
 rw [List.getElem?_map, List.append_assoc, List.getElem?_append_left hi, h]
 rfl
theorem stCells_depth {st : List Nat} (h : st.length ≤ 8) : (stCells st)[8]? = some (.int .i64 st.length) := by
 unfold stCells
 rw [List.getElem?_map, List.getElem?_append_right (by simp; omega)]
 have : 8 - (st ++ List.replicate (8 - st.length) 0).length = 0 := by simp; omega
 rw [this]
 rfl
set_option maxHeartbeats 1000000 in
theorem uppermost_any (st : List Nat) (top : Nat) (h8 : st.length ≤ 8) (ht : st[st.length - 1]? = some top) (w : World) :
  Calls Tryz.prog 126 #[stv st] w fun e w' => e = .returned (.int .i64 top) ∧ Below w.heap.size w w' := by
 obtain ⟨d, hd⟩ : ∃ d, st.length = d + 1 := ⟨st.length - 1, by have := get_lt ht; omega⟩
 have c8 := stCells_depth h8
 rw [hd] at c8 ht
 rw [Nat.add_sub_cancel] at ht
 have ct := stCells_get ht
 have hw1 : IntKind.i64.wrap ((d : Int) + 1 - 1) = (d : Int) := by rw [IntKind.wrap_i64]; omega
 have hd8 : d < 8 := by omega
 unfold stv
 clear ht
 go_enter Tryz.func126, Tryz.ntmps126
 go_wp2_with fail
 go_ret
 exact ⟨rfl, (Below.refl _ _).alloc (Nat.le_refl _) _⟩
def aft (k op : Nat) (st : List Nat) : List Nat := if k = 1 ∧ st.length < 8 then st ++ [op] else if k = 2 ∧ 1 < st.length then st.dropLast else st
theorem aft_length {k op : Nat} {st : List Nat} (h : st.length ≤ 8) (h1 : 1 ≤ st.length) : (aft k op st).length ≤ 8 ∧ 1 ≤ (aft k op st).length := by
 unfold aft
 split
 ·simp; omega
 ·split
  ·simp; omega
  ·exact ⟨h, h1⟩
theorem nine {st : List Nat} (h : st.length ≤ 8) : ∃ a0 a1 a2 a3 a4 a5 a6 a7 a8 : Nat, stCells st = [.int .i64 a0, .int .i64 a1, .int .i64 a2, .int .i64 a3, .int .i64 a4, .int .i64 a5, .int .i64 a6, .int .i64 a7, .int .i64 a8] := by
 have hl : (st ++ List.replicate (8 - st.length) 0 ++ [st.length]).length = 9 := by simp; omega
 unfold stCells
 match (st ++ List.replicate (8 - st.length) 0 ++ [st.length]), hl with
 | [a0, a1, a2, a3, a4, a5, a6, a7, a8], _ => exact ⟨a0, a1, a2, a3, a4, a5, a6, a7, a8, rfl⟩
theorem push_cells {st : List Nat} {op : Nat} (h : st.length < 8) : ((stCells st).set st.length (.int .i64 op)).set 8 (.int .i64 ((st.length + 1 : Nat) : Int)) = stCells (st ++ [op]) := by
 obtain ⟨m, hm⟩ : ∃ m, 8 - st.length = m + 1 := ⟨7 - st.length, by omega⟩
 have hm' : 8 - (st ++ [op]).length = m := by simp; omega
 have e8 : 8 = (st ++ op :: List.replicate m 0).length := by simp; omega
 unfold stCells
 rw [hm, hm', ← List.map_set, ← List.map_set, List.append_assoc, List.set_append_right _ _ (Nat.le_refl _), Nat.sub_self, List.replicate_succ, List.cons_append, List.set_cons_zero]
 rw [show st ++ op :: (List.replicate m 0 ++ [st.length]) = (st ++ op :: List.replicate m 0) ++ [st.length] by simp]
 rw [e8, List.set_append_right _ _ (Nat.le_refl _), Nat.sub_self, List.set_cons_zero]
 simp
theorem pop_cells {st : List Nat} (h : st.length ≤ 8) (h1 : 1 < st.length) : ((stCells st).set 8 (.int .i64 ((st.length - 1 : Nat) : Int))).set (st.length - 1) (.int .i64 0) = stCells st.dropLast := by
 obtain ⟨l, x, rfl⟩ : ∃ l x, st = l ++ [x] := ⟨st.dropLast, st.getLast (by intro e; simp [e] at h1), (List.dropLast_concat_getLast _).symm⟩
 rw [List.dropLast_concat]
 have hl : (l ++ [x]).length = l.length + 1 := by simp
 rw [hl] at h h1 ⊢
 obtain ⟨m, hm⟩ : ∃ m, 8 - (l.length + 1) = m := ⟨_, rfl⟩
 have hm' : 8 - l.length = m + 1 := by omega
 have e8 : 8 = (l ++ x :: List.replicate m 0).length := by simp; omega
 unfold stCells
 rw [hl, hm, hm', Nat.add_sub_cancel]
 rw [show (Value.int .i64 (0 : Int)) = Value.int .i64 ((0 : Nat) : Int) from rfl, ← List.map_set, ← List.map_set]
 rw [show l ++ [x] ++ List.replicate m 0 ++ [l.length + 1] = (l ++ x :: List.replicate m 0) ++ [l.length + 1] by simp]
 rw [e8, List.set_append_right _ _ (Nat.le_refl _), Nat.sub_self, List.set_cons_zero, List.append_assoc, List.set_append_right _ _ (Nat.le_refl _), Nat.sub_self, List.cons_append, List.set_cons_zero]
 simp [List.replicate_succ]
theorem below3 (w : World) (o1 o2 o3 : Obj) : Below w.heap.size w (((w.alloc o1).alloc o2).alloc o3) := (((Below.refl _ _).alloc (Nat.le_refl _) _).alloc (by simp) _).alloc (by simp; omega) _
def AftPost (k op : Nat) (st : List Nat) (w : World) (e : Ending) (w' : World) : Prop := e = .returned (stv (aft k op st)) ∧ Below w.heap.size w w'
set_option maxHeartbeats 2000000 in
theorem after_stack (st : List Nat) (k op : Nat) (co : ByteArray) (ao : Option Addr) (ln cp wh : Nat) (h8 : st.length ≤ 8) (h1 : 1 ≤ st.length) (w : World) :
  Calls Tryz.prog 130 #[stv st, .agg #[.int .i64 k, .int .i64 op, .string co, .slice ao ln cp, .int .i64 wh]] w (AftPost k op st w) := by
 have c8 := stCells_depth h8
 have hl9 := stCells_length h8
 obtain ⟨hA8, hA1⟩ := aft_length (k := k) (op := op) h8 h1
 obtain ⟨a0, a1, a2, a3, a4, a5, a6, a7, a8, hy⟩ := nine hA8
 have HEND := hide (show ∀ W, Below w.heap.size w W → AftPost k op st w (.returned (.agg #[.int .i64 a0, .int .i64 a1, .int .i64 a2, .int .i64 a3, .int .i64 a4, .int .i64 a5, .int .i64 a6, .int .i64 a7, .int .i64 a8])) W from fun W hb => ⟨by unfold stv; rw [hy], hb⟩)
 by_cases hp : k = 1 ∧ st.length < 8
 ·obtain ⟨hk, hlt⟩ := hp
  have p0 : ((st.length : Int) < 8) = True := by simp; omega
  have p1 : ∃ v, (stCells st)[st.length]? = some v := ⟨_, List.getElem?_eq_getElem (by omega)⟩
  obtain ⟨v1, p1⟩ := p1
  have p2 : ((stCells st).set st.length (.int .i64 (op : Int)))[8]? = some (.int .i64 (st.length : Int)) := by
   rw [List.getElem?_set_ne (by omega)]; exact c8
  have p3 : ((stCells st).set st.length (.int .i64 (op : Int))).set 8 (.int .i64 ((st.length : Int) + 1)) = [.int .i64 a0, .int .i64 a1, .int .i64 a2, .int .i64 a3, .int .i64 a4, .int .i64 a5, .int .i64 a6, .int .i64 a7, .int .i64 a8] := by
   have h := push_cells (op := op) hlt
   rw [← hy, aft, if_pos ⟨hk, hlt⟩, ← h]
   simp
  have hwr : IntKind.i64.wrap ((st.length : Int) + 1) = (st.length : Int) + 1 := by rw [IntKind.wrap_i64]; omega
  subst hk
  unfold stv
  clear hy hA8 hA1 hl9
  go_enter Tryz.func130, Tryz.ntmps130
  go_wp2_with fail
  exact bodyPost_ret (v := .agg #[.int .i64 a0, .int .i64 a1, .int .i64 a2, .int .i64 a3, .int .i64 a4, .int .i64 a5, .int .i64 a6, .int .i64 a7, .int .i64 a8]) (by simp [results, Tryz.results130, go_sem, *]) rfl (HEND.out _ (below3 _ _ _ _))
 ·by_cases hq : k = 2 ∧ 1 < st.length
  ·obtain ⟨hk, hgt⟩ := hq
   have hpop := pop_cells h8 hgt
   obtain ⟨d, hd⟩ : ∃ d, st.length = d + 1 := ⟨st.length - 1, by omega⟩
   rw [hd] at hpop hgt
   rw [Nat.add_sub_cancel] at hpop
   have p0 : ((1 : Int) < (d : Int) + 1) = True := by simp; omega
   have p1 : ∃ v, ((stCells st).set 8 (.int .i64 (d : Int)))[d]? = some v := ⟨_, List.getElem?_eq_getElem (by rw [List.length_set]; omega)⟩
   obtain ⟨v1, p1⟩ := p1
   have p2 : ((stCells st).set 8 (.int .i64 (d : Int)))[8]? = some (.int .i64 (d : Int)) := by rw [List.getElem?_set_self (by omega)]
   have p3 : ((stCells st).set 8 (.int .i64 (d : Int))).set d (.int .i64 0) = [.int .i64 a0, .int .i64 a1, .int .i64 a2, .int .i64 a3, .int .i64 a4, .int .i64 a5, .int .i64 a6, .int .i64 a7, .int .i64 a8] := by
    rw [← hy, aft, if_neg hp, if_pos ⟨hk, by omega⟩, ← hpop]
   have hwr : IntKind.i64.wrap ((d : Int) + 1 - 1) = (d : Int) := by rw [IntKind.wrap_i64]; omega
   have hd8 : d < 8 := by omega
   rw [hd] at c8
   subst hk
   unfold stv
   clear hy hA8 hA1 hl9 hpop hp h8 h1 hd
   go_enter Tryz.func130, Tryz.ntmps130
   go_wp2_with fail
   exact bodyPost_ret (v := .agg #[.int .i64 a0, .int .i64 a1, .int .i64 a2, .int .i64 a3, .int .i64 a4, .int .i64 a5, .int .i64 a6, .int .i64 a7, .int .i64 a8]) (by simp [results, Tryz.results130, go_sem, *]) rfl (HEND.out _ (below3 _ _ _ _))
  ·have hst : stCells st = [.int .i64 a0, .int .i64 a1, .int .i64 a2, .int .i64 a3, .int .i64 a4, .int .i64 a5, .int .i64 a6, .int .i64 a7, .int .i64 a8] := by rw [← hy, aft, if_neg hp, if_neg hq]
   rw [hst] at c8
   have h88 : a8 = st.length := by simp at c8; omega
   clear c8
   unfold stv
   rw [hst]
   rw [h88] at HEND ⊢
   clear hst hy hA8 hA1 hl9
   by_cases hk1 : k = 1
   ·have hlen : st.length = 8 := by omega
    subst hk1
    rw [hlen] at HEND ⊢
    clear hp hq h88 hlen
    go_enter Tryz.func130, Tryz.ntmps130
    go_wp2_with fail
    exact bodyPost_ret (v := .agg #[.int .i64 a0, .int .i64 a1, .int .i64 a2, .int .i64 a3, .int .i64 a4, .int .i64 a5, .int .i64 a6, .int .i64 a7, .int .i64 (8 : Nat)]) (by simp [results, Tryz.results130, go_sem, *]) rfl (HEND.out _ (below3 _ _ _ _))
   ·by_cases hk2 : k = 2
    ·have hlen : st.length = 1 := by omega
     subst hk2
     rw [hlen] at HEND ⊢
     clear hp hq h88 hlen
     go_enter Tryz.func130, Tryz.ntmps130
     go_wp2_with fail
     exact bodyPost_ret (v := .agg #[.int .i64 a0, .int .i64 a1, .int .i64 a2, .int .i64 a3, .int .i64 a4, .int .i64 a5, .int .i64 a6, .int .i64 a7, .int .i64 (1 : Nat)]) (by simp [results, Tryz.results130, go_sem, *]) rfl (HEND.out _ (below3 _ _ _ _))
    ·have e1 : ((k : Int) == 1) = false := by rw [beq_eq_false_iff_ne]; omega
     have e2 : ((k : Int) == 2) = false := by rw [beq_eq_false_iff_ne]; omega
     clear hp hq h88
     go_enter Tryz.func130, Tryz.ntmps130
     go_wp2_with fail
     exact bodyPost_ret (v := .agg #[.int .i64 a0, .int .i64 a1, .int .i64 a2, .int .i64 a3, .int .i64 a4, .int .i64 a5, .int .i64 a6, .int .i64 a7, .int .i64 st.length]) (by simp [results, Tryz.results130, go_sem, *]) rfl (HEND.out _ (below3 _ _ _ _))
set_option maxHeartbeats 1000000 in
theorem bottom_any (w : World) : Calls Tryz.prog 70 #[] w fun e w' => e = .returned (stv [0]) ∧ Below w.heap.size w w' := by
 have HEND := hide (show ∀ W, Below w.heap.size w W → (Ending.returned (.agg #[.int .i64 0, .int .i64 0, .int .i64 0, .int .i64 0, .int .i64 0, .int .i64 0, .int .i64 0, .int .i64 0, .int .i64 1]) = .returned (stv [0]) ∧ Below w.heap.size w W) from fun W hb => ⟨rfl, hb⟩)
 go_enter Tryz.func70, Tryz.ntmps70
 go_wp2_with fail
 exact bodyPost_ret (v := .agg #[.int .i64 0, .int .i64 0, .int .i64 0, .int .i64 0, .int .i64 0, .int .i64 0, .int .i64 0, .int .i64 0, .int .i64 1]) (by simp [results, Tryz.results70, go_sem, *]) rfl (HEND.out _ ((Below.refl _ _).alloc (Nat.le_refl _) _))
def NextIs (fr : List Int) (at_ r : Nat) : Prop := at_ ≤ r ∧ r ≤ fr.length ∧ (∀ i, at_ ≤ i → i < r → fr[i]? = some (-1)) ∧ (r < fr.length → fr[r]? ≠ some (-1))
def NextLoop (fr : List Int) (at0 : Nat) (w : World) (k : Nat) (va : Value) (wr : World) : Prop :=
 ∃ a : Nat, va = .int .i64 a ∧ a + k = fr.length ∧ at0 ≤ a ∧ (∀ i, at0 ≤ i → i < a → fr[i]? = some (-1)) ∧ wr = w
set_option maxHeartbeats 1000000 in
theorem nextMatch_any (G : Nat) (fr : List Int) (at0 : Nat) (w : World) (hr : w.heap[G]? = some (.cells (fr.map (Value.int .i64)).toArray 3 (0, 0))) (hn : fr.length ≤ 1000000) (ha : at0 ≤ fr.length) :
  Calls Tryz.prog 127 #[.slice (some ⟨G, 0, none⟩) fr.length fr.length, .int .i64 at0] w fun e w' => ∃ r : Nat, e = .returned (.int .i64 r) ∧ NextIs fr at0 r ∧ w' = w := by
 have HR := hide hr
 clear hr
 go_enter Tryz.func127, Tryz.ntmps127
 go_wp2_with fail
 go_loopg [1] (fr.length - at0) (fun k va wr => NextLoop fr at0 w k va wr)
 case atStart => exact ⟨at0, rfl, by omega, Nat.le_refl _, fun i h1 h2 => by omega, rfl⟩
 case round =>
  obtain ⟨a, rfl, hk, h1, h2, rfl⟩ := hrel
  have H2 := hide h2
  clear h2
  by_cases hlt : a < fr.length
  ·have g1 : decide ((a : Int) < (fr.length : Int)) = true := decide_eq_true (by omega)
   obtain ⟨x, hx⟩ : ∃ x, fr[a]? = some x := ⟨_, List.getElem?_eq_getElem hlt⟩
   have c1 : wr.cell? ⟨G, a, none⟩ = some (.int .i64 x) := by simp [World.cell?, HR.out, hx]
   have HX := hide hx
   by_cases hm : x = -1
   ·subst hm
    have HST := hide (show NextLoop fr at0 wr (fr.length - (a + 1)) (.int .i64 ((a : Int) + 1)) wr from ⟨a + 1, by simp, by omega, by omega, fun i h3 h4 => by
     rcases Nat.lt_or_ge i a with h | h
     ·exact H2.out i h3 h
     ·obtain rfl : i = a := by omega
      exact HX.out, rfl⟩)
    have hwr : IntKind.i64.wrap ((a : Int) + 1) = (a : Int) + 1 := by rw [IntKind.wrap_i64]; omega
    clear hx
    go_wp2_with fail
    go_roundg (fr.length - (a + 1))
    case measure => omega
    case rel => exact HST.out
   ·have g2 : (x == -1) = false := by rw [beq_eq_false_iff_ne]; exact hm
    have HEND := hide (show NextIs fr at0 a from ⟨h1, by omega, H2.out, fun _ e => hm (by rw [HX.out] at e; exact Option.some.inj e)⟩)
    clear hx
    go_wp2_with fail
    go_ret
    exact ⟨a, rfl, HEND.out, rfl⟩
  ·have g1 : decide (a < fr.length) = false := by simp; omega
   have HEND := hide (show NextIs fr at0 a from ⟨h1, by omega, H2.out, fun h => absurd h hlt⟩)
   go_wp2_with fail
   go_ret
   exact ⟨a, rfl, HEND.out, rfl⟩
theorem IsCls.inj {w : World} {v : Value} {c c' : Cls} (h : IsCls w v c) (h' : IsCls w v c') : c = c' := by
 induction c generalizing v c' with
 | any =>
  cases c' with
  | any => rfl
  | range lo hi => obtain ⟨p, q, e, _⟩ := h'; rw [show v = _ from h] at e; simp at e
  | union a b => obtain ⟨p, q, va, vb, e, _⟩ := h'; rw [show v = _ from h] at e; simp at e
  | compl a => obtain ⟨p, va, e, _⟩ := h'; rw [show v = _ from h] at e; simp at e
 | range lo hi =>
  obtain ⟨p, q, rfl, h1, h2⟩ := h
  cases c' with
  | any => simp [IsCls] at h'
  | range lo' hi' =>
   obtain ⟨p', q', e, h3, h4⟩ := h'
   simp at e
   obtain ⟨rfl, rfl⟩ := e
   rw [h1] at h3
   rw [h2] at h4
   simp at h3 h4
   rw [UInt8.toNat_inj.1 (by omega : lo.toNat = lo'.toNat), UInt8.toNat_inj.1 (by omega : hi.toNat = hi'.toNat)]
  | union a b => obtain ⟨p, q, va, vb, e, _⟩ := h'; simp at e
  | compl a => obtain ⟨p, va, e, _⟩ := h'; simp at e
 | union a b iha ihb =>
  obtain ⟨p, q, va, vb, rfl, h1, h2, h3, h4⟩ := h
  cases c' with
  | any => simp [IsCls] at h'
  | range lo' hi' => obtain ⟨p', q', e, _⟩ := h'; simp at e
  | union a' b' =>
   obtain ⟨p', q', va', vb', e, h5, h6, h7, h8⟩ := h'
   simp at e
   obtain ⟨rfl, rfl⟩ := e
   rw [h1] at h5
   rw [h2] at h6
   simp at h5 h6
   subst h5 h6
   rw [iha h3 h7, ihb h4 h8]
  | compl a => obtain ⟨p, va, e, _⟩ := h'; simp at e
 | compl a ih =>
  obtain ⟨p, va, rfl, h1, h2⟩ := h
  cases c' with
  | any => simp [IsCls] at h'
  | range lo' hi' => obtain ⟨p', q', e, _⟩ := h'; simp at e
  | union a' b' => obtain ⟨p', q', va', vb', e, _⟩ := h'; simp at e
  | compl a' =>
   obtain ⟨p', va', e, h3, h4⟩ := h'
   simp at e
   subst e
   rw [h1] at h3
   simp at h3
   subst h3
   rw [ih h2 h4]
theorem Rep.inj {w : World} {ns : List (Nd Value)} {a a' : ARe} (h : Rep (IsCls w) ns a) (h' : Rep (IsCls w) ns a') (e : a.ix = a'.ix) : a = a' := by
 induction a generalizing a' with
 | eps => exact (h'.zero e.symm).symm
 | cls i c =>
  obtain ⟨hi, v, hn, hc⟩ := h
  cases a' with
  | eps => exact absurd e hi
  | cls i' c' =>
   obtain ⟨_, v', hn', hc'⟩ := h'
   simp only [ARe.ix] at e
   subst e
   rw [hn] at hn'
   simp at hn'
   subst hn'
   rw [hc.inj hc']
  | seq i' a b => obtain ⟨_, ⟨v', hn'⟩, _⟩ := h'; simp only [ARe.ix] at e; subst e; rw [hn] at hn'; simp at hn'
  | alt i' a b => obtain ⟨_, ⟨v', hn'⟩, _⟩ := h'; simp only [ARe.ix] at e; subst e; rw [hn] at hn'; simp at hn'
  | star i' a => obtain ⟨_, ⟨v', hn'⟩, _⟩ := h'; simp only [ARe.ix] at e; subst e; rw [hn] at hn'; simp at hn'
  | plus i' j a => obtain ⟨_, _, ⟨v', hn'⟩, _⟩ := h'; simp only [ARe.ix] at e; subst e; rw [hn] at hn'; simp at hn'
  | opt i' a => obtain ⟨_, ⟨v', hn'⟩, _⟩ := h'; simp only [ARe.ix] at e; subst e; rw [hn] at hn'; simp at hn'
 | seq i x y ihx ihy =>
  obtain ⟨hi, ⟨v, hn⟩, hx, hy⟩ := h
  cases a' with
  | eps => exact absurd e hi
  | cls i' c' => obtain ⟨_, v', hn', _⟩ := h'; simp only [ARe.ix] at e; subst e; rw [hn] at hn'; simp at hn'
  | seq i' x' y' =>
   obtain ⟨_, ⟨v', hn'⟩, hx', hy'⟩ := h'
   simp only [ARe.ix] at e
   subst e
   rw [hn] at hn'
   simp only [Option.some.injEq, Nd.mk.injEq] at hn'
   rw [ihx hx hx' hn'.2.2.1, ihy hy hy' hn'.2.2.2.1]
  | alt i' a b => obtain ⟨_, ⟨v', hn'⟩, _⟩ := h'; simp only [ARe.ix] at e; subst e; rw [hn] at hn'; simp at hn'
  | star i' a => obtain ⟨_, ⟨v', hn'⟩, _⟩ := h'; simp only [ARe.ix] at e; subst e; rw [hn] at hn'; simp at hn'
  | plus i' j a => obtain ⟨_, _, ⟨v', hn'⟩, _⟩ := h'; simp only [ARe.ix] at e; subst e; rw [hn] at hn'; simp at hn'
  | opt i' a => obtain ⟨_, ⟨v', hn'⟩, _⟩ := h'; simp only [ARe.ix] at e; subst e; rw [hn] at hn'; simp at hn'
 | alt i x y ihx ihy =>
  obtain ⟨hi, ⟨v, hn⟩, hx, hy⟩ := h
  cases a' with
  | eps => exact absurd e hi
  | cls i' c' => obtain ⟨_, v', hn', _⟩ := h'; simp only [ARe.ix] at e; subst e; rw [hn] at hn'; simp at hn'
  | seq i' a b => obtain ⟨_, ⟨v', hn'⟩, _⟩ := h'; simp only [ARe.ix] at e; subst e; rw [hn] at hn'; simp at hn'
  | alt i' x' y' =>
   obtain ⟨_, ⟨v', hn'⟩, hx', hy'⟩ := h'
   simp only [ARe.ix] at e
   subst e
   rw [hn] at hn'
   simp only [Option.some.injEq, Nd.mk.injEq] at hn'
   rw [ihx hx hx' hn'.2.2.1, ihy hy hy' hn'.2.2.2.1]
  | star i' a => obtain ⟨_, ⟨v', hn'⟩, _⟩ := h'; simp only [ARe.ix] at e; subst e; rw [hn] at hn'; simp at hn'
  | plus i' j a => obtain ⟨_, _, ⟨v', hn'⟩, _⟩ := h'; simp only [ARe.ix] at e; subst e; rw [hn] at hn'; simp at hn'
  | opt i' a => obtain ⟨_, ⟨v', hn'⟩, _⟩ := h'; simp only [ARe.ix] at e; subst e; rw [hn] at hn'; simp at hn'
 | star i x ih =>
  obtain ⟨hi, ⟨v, hn⟩, hx⟩ := h
  cases a' with
  | eps => exact absurd e hi
  | cls i' c' => obtain ⟨_, v', hn', _⟩ := h'; simp only [ARe.ix] at e; subst e; rw [hn] at hn'; simp at hn'
  | seq i' a b => obtain ⟨_, ⟨v', hn'⟩, _⟩ := h'; simp only [ARe.ix] at e; subst e; rw [hn] at hn'; simp at hn'
  | alt i' a b => obtain ⟨_, ⟨v', hn'⟩, _⟩ := h'; simp only [ARe.ix] at e; subst e; rw [hn] at hn'; simp at hn'
  | star i' x' =>
   obtain ⟨_, ⟨v', hn'⟩, hx'⟩ := h'
   simp only [ARe.ix] at e
   subst e
   rw [hn] at hn'
   simp only [Option.some.injEq, Nd.mk.injEq] at hn'
   rw [ih hx hx' hn'.2.2.1]
  | plus i' j a => obtain ⟨_, _, ⟨v', hn'⟩, _⟩ := h'; simp only [ARe.ix] at e; subst e; rw [hn] at hn'; simp at hn'
  | opt i' a => obtain ⟨_, ⟨v', hn'⟩, _⟩ := h'; simp only [ARe.ix] at e; subst e; rw [hn] at hn'; simp at hn'
 | plus i j x ih =>
  obtain ⟨hi, hj, ⟨v, hn⟩, _, hx⟩ := h
  cases a' with
  | eps => exact absurd e hi
  | cls i' c' => obtain ⟨_, v', hn', _⟩ := h'; simp only [ARe.ix] at e; subst e; rw [hn] at hn'; simp at hn'
  | seq i' a b => obtain ⟨_, ⟨v', hn'⟩, _⟩ := h'; simp only [ARe.ix] at e; subst e; rw [hn] at hn'; simp at hn'
  | alt i' a b => obtain ⟨_, ⟨v', hn'⟩, _⟩ := h'; simp only [ARe.ix] at e; subst e; rw [hn] at hn'; simp at hn'
  | star i' a => obtain ⟨_, ⟨v', hn'⟩, _⟩ := h'; simp only [ARe.ix] at e; subst e; rw [hn] at hn'; simp at hn'
  | plus i' j' x' =>
   obtain ⟨_, _, ⟨v', hn'⟩, _, hx'⟩ := h'
   simp only [ARe.ix] at e
   subst e
   rw [hn] at hn'
   simp only [Option.some.injEq, Nd.mk.injEq] at hn'
   rw [ih hx hx' hn'.2.2.1, hn'.2.2.2.1]
  | opt i' a => obtain ⟨_, ⟨v', hn'⟩, _⟩ := h'; simp only [ARe.ix] at e; subst e; rw [hn] at hn'; simp at hn'
 | opt i x ih =>
  obtain ⟨hi, ⟨v, hn⟩, hx⟩ := h
  cases a' with
  | eps => exact absurd e hi
  | cls i' c' => obtain ⟨_, v', hn', _⟩ := h'; simp only [ARe.ix] at e; subst e; rw [hn] at hn'; simp at hn'
  | seq i' a b => obtain ⟨_, ⟨v', hn'⟩, _⟩ := h'; simp only [ARe.ix] at e; subst e; rw [hn] at hn'; simp at hn'
  | alt i' a b => obtain ⟨_, ⟨v', hn'⟩, _⟩ := h'; simp only [ARe.ix] at e; subst e; rw [hn] at hn'; simp at hn'
  | star i' a => obtain ⟨_, ⟨v', hn'⟩, _⟩ := h'; simp only [ARe.ix] at e; subst e; rw [hn] at hn'; simp at hn'
  | plus i' j a => obtain ⟨_, _, ⟨v', hn'⟩, _⟩ := h'; simp only [ARe.ix] at e; subst e; rw [hn] at hn'; simp at hn'
  | opt i' x' =>
   obtain ⟨_, ⟨v', hn'⟩, hx'⟩ := h'
   simp only [ARe.ix] at e
   subst e
   rw [hn] at hn'
   simp only [Option.some.injEq, Nd.mk.injEq] at hn'
   rw [ih hx hx' hn'.2.2.1]
theorem RepD.inj {w : World} {n0 : Nat} {ns : List (Nd Value)} {d d' : D} {k : Nat} (h : RepD (IsCls w) n0 ns d k) (h' : RepD (IsCls w) n0 ns d' k) : d = d' := by
 induction d generalizing d' k with
 | base a =>
  obtain ⟨h1, h2, h3⟩ := h
  cases d' with
  | base a' => obtain ⟨h1', _, h3'⟩ := h'; rw [Rep.inj h3 h3' (by rw [← h1, ← h1'])]
  | snoc d' a' => obtain ⟨h1', _⟩ := h'; have := h2.lt_ix; omega
 | snoc d a ih =>
  obtain ⟨h1, h2, h3, m, hm, hd, v, hn⟩ := h
  cases d' with
  | base a' => obtain ⟨h1', h2', _⟩ := h'; have := h2'.lt_ix; omega
  | snoc d' a' =>
   obtain ⟨_, _, h3', m', _, hd', v', hn'⟩ := h'
   rw [hn] at hn'
   simp only [Option.some.injEq, Nd.mk.injEq] at hn'
   obtain ⟨_, _, rfl, h5, _⟩ := hn'
   rw [ih hd hd', Rep.inj h3 h3' h5]
theorem Keeps.fx {C X : Nat → Prop} {w w' : World} (h : Keeps C w w') (hX : Old X w) (h1 : ∀ k, C k → ¬ X k) (h2 : ∀ k, C k → ∀ c t fz, w.heap[k]? = some (.cells c t fz) → stable t = false) : Fx X w w' :=
 ⟨h.os, h.tape, h.output, h.size, fun k hk => h.keep k (hX k hk) (fun hc => h1 k hc hk), fun k c t ht hh => by
  rw [h.keep k (lt_of_get hh) (fun hc => by rw [h2 k hc c t _ hh] at ht; cases ht)]
  exact hh⟩
theorem Nums.types {w : World} {M pl : Nat} {pv : Value} {pls : List Nat} (h : Nums w M pl pv pls) {k : Nat} (hk : numC M pl pv k) : ∀ c t fz, w.heap[k]? = some (.cells c t fz) → t = 57 ∨ t = 3 := by
 intro c t fz hh
 rcases hk with rfl | rfl | hk
 ·obtain ⟨m, f, hm, _⟩ := h.map
  obtain ⟨es, clk, ho⟩ := hm.obj
  rw [ho] at hh; cases hh
 ·rw [h.var] at hh; cases hh; exact .inl rfl
 ·obtain ⟨c', hc⟩ := h.row.block hk
  rw [hc] at hh; cases hh; exact .inr rfl
theorem Dyn.numbered {w w' : World} {X : Nat → Prop} {ρ : Rd} {n0 : Nat} {root : ARe} {ns : List (Nd Value)} {ts : List D} {pls : List Nat} {en : Nat} {pv : Value} (h : Dyn w X ρ n0 root ns ts pls en) (hX : Old X w) (hN : Nums w ρ.M ρ.pl pv pls) (hv : ∀ k, pv.ownBlock = some k → ¬ X k) (hk : Keeps (numC ρ.M ρ.pl pv) w w') :
  Fx X w w' ∧ Shelf w' (plus X ρ) ρ.S n0 ns (shelved root) ∧ w'.heap[ρ.ev]? = some (.cells #[.int .u64 en] 188 (0, 0)) := by
 have hF : Fx X w w' := hk.fx hX (fun k hc => by
  rcases hc with rfl | rfl | hc
  ·exact h.nX.1
  ·exact h.nX.2.1
  ·exact hv k hc) (fun k hc c t fz hh => by rcases hN.types hc c t fz hh with rfl | rfl <;> rfl)
 refine ⟨hF, h.shelf.keep hF.staying (fun k o hnp ho hty => ?_) (fun _ h => .inl h), ?_⟩
 ·rw [hk.keep k (lt_of_get ho) (fun hc => ?_)]
  ·exact ho
  ·cases o with
   | cells c t fz =>
    rcases hN.types hc c t fz ho with rfl | rfl
    ·rcases hty _ _ _ rfl with e | e <;> cases e
    ·rcases hty _ _ _ rfl with e | e <;> cases e
   | _ =>
    rcases hc with rfl | rfl | hc
    ·exact hnp (.inr (.inl rfl))
    ·rw [hN.var] at ho; cases ho
    ·obtain ⟨c', hc'⟩ := hN.row.block hc
     rw [hc'] at ho; cases ho
 ·rw [hk.keep ρ.ev (lt_of_get h.ev) (fun hc => by
   rcases hN.types hc _ _ _ h.ev with e | e <;> cases e)]
  exact h.ev
def MarkPost (X : Nat → Prop) (ρ : Rd) (n0 : Nat) (root : ARe) (ns : List (Nd Value)) (ts : List D) (t : D) (w : World) (e : Ending) (w' : World) : Prop :=
 ∃ (n : Nat) (ts' : List D) (pls' : List Nat) (en' : Nat), e = .returned (.int .u64 (2 ^ n : Nat)) ∧ Fx X w w' ∧ Dyn w' X ρ n0 root ns ts' pls' en' ∧ ts'[n]? = some t ∧ (ts' = ts ∨ ts' = ts ++ [t])
theorem mark_end {X : Nat → Prop} {ρ : Rd} {n0 : Nat} {root : ARe} {ns : List (Nd Value)} {ts : List D} {pls pls' : List Nat} {en n k : Nat} {t : D} {pv pv' : Value} {w w1 w2 : World} (hX : Old X w) (hD : Dyn w X ρ n0 root ns ts pls en) (hr : RepD (IsCls w) n0 ns t k) (ht : t ∈ met root) (hv : ∀ k, pv.ownBlock = some k → ¬ X k)
  (hF1 : Fx X w w1) (hS1 : Shelf w1 (plus X ρ) ρ.S n0 ns (shelved root)) (he1 : w1.heap[ρ.ev]? = some (.cells #[.int .u64 en] 188 (0, 0))) (hN1 : Nums w1 ρ.M ρ.pl pv' pls') (hn1 : pls'[n]? = some k) (hp1 : pls' = pls ∨ pls' = pls ++ [k]) (hb1 : pv'.ownBlock = pv.ownBlock ∨ ∃ b, pv'.ownBlock = some b ∧ w.heap.size ≤ b)
  (en' : Nat) (hen : en' = if t.re.nullable then en ||| 2 ^ n else en) (hw2 : w2 = w1 ∧ en' = en ∨ w2 = w1.setCell ⟨ρ.ev, 0, none⟩ (.int .u64 en')) :
  MarkPost X ρ n0 root ns ts t w (.returned (.int .u64 (2 ^ n : Nat))) w2 := by
 have hvX : ∀ j, pv'.ownBlock = some j → ¬ X j := fun j hj hXj => by
  rcases hb1 with e | ⟨b, e, hb⟩
  ·rw [e] at hj; exact hv j hj hXj
  ·rw [e] at hj
   have := hX j hXj
   have : b = j := Option.some.inj hj
   omega
 -- the second step, where there is one
 have h12 : Fx X w1 w2 ∧ Shelf w2 (plus X ρ) ρ.S n0 ns (shelved root) ∧ Nums w2 ρ.M ρ.pl pv' pls' ∧ w2.heap[ρ.ev]? = some (.cells #[.int .u64 en'] 188 (0, 0)) := by
  rcases hw2 with ⟨rfl, rfl⟩ | rfl
  ·exact ⟨Fx.refl _ _, hS1, hN1, he1⟩
  ·have hF2 : Fx X w1 (w1.setCell ⟨ρ.ev, 0, none⟩ (.int .u64 en')) := (Fx.refl X w1).setCell hD.nX.2.2 he1 (by rfl) _
   have hne : ∀ j : Nat, j ≠ ρ.ev → (w1.setCell ⟨ρ.ev, 0, none⟩ (.int .u64 en')).heap[j]? = w1.heap[j]? := fun j hj => Below.heap_setCell _ _ _ _ hj
   refine ⟨hF2, hS1.keep hF2.staying (fun j o _ ho hty => ?_) (fun _ h => .inl h), ⟨?_, ?_, ?_, hN1.nodup, hN1.small⟩, heap_setCell_same w1 ρ.ev 0 _ he1⟩
   ·rw [hne j (by rintro rfl; rw [he1] at ho; cases ho; rcases hty _ _ _ rfl with e | e <;> cases e)]
    exact ho
   ·rw [hne ρ.pl (by intro e; have h9 := hN1.var; rw [e, he1] at h9; simp at h9)]
    exact hN1.var
   ·refine hN1.row.keepB fun j hj => hne j ?_
    obtain ⟨c, hc⟩ := hN1.row.block hj
    rintro rfl
    rw [he1] at hc; simp at hc
   ·obtain ⟨m, f, hm, h1, h2⟩ := hN1.map
    obtain ⟨es, clk, ho⟩ := hm.obj
    exact ⟨m, f, hm.keep (hne _ (by intro e; rw [e, he1] at ho; cases ho)), h1, h2⟩
 obtain ⟨hF2, hS2, hN2, he2⟩ := h12
 have hF := hF1.trans hF2
 have hst := hF.staying
 have hlen := hD.reps.length
 have hreps : F2 (RepD (IsCls w2) n0 ns) ts pls := hD.reps.mono fun d j h => RepD.world hst h
 have hrw := RepD.world hst hr
 rcases hp1 with rfl | rfl
 · -- an old number
  obtain ⟨t', ht', hr'⟩ := hD.reps.get hn1
  obtain rfl := RepD.inj hr hr'
  refine ⟨n, ts, pls', en', rfl, hF, ⟨hS2, ⟨pv', hN2, hvX⟩, he2, hD.nX, hreps, hD.met, ?_, hD.sz, hD.leaves⟩, ht', .inl rfl⟩
  intro m
  rw [hen]
  cases hnl : t.re.nullable with
  | false => simpa using hD.bits m
  | true =>
   simp only [if_true]
   rw [Nat.testBit_or, Bool.or_eq_true, hD.bits m, Nat.testBit_two_pow]
   constructor
   ·rintro (h | h)
    ·exact h
    ·simp at h; subst h; exact ⟨t, ht', hnl⟩
   ·exact .inl
 · -- a new one
  have hn : n = pls.length := nodup_get hN1.nodup hn1 (by simp)
  subst hn
  have htl : ∀ m t', (ts ++ [t])[m]? = some t' ↔ ts[m]? = some t' ∨ (m = pls.length ∧ t' = t) := by
   intro m t'
   rcases Nat.lt_trichotomy m ts.length with h | h | h
   ·rw [List.getElem?_append_left h]
    exact ⟨.inl, fun h' => h'.elim id (fun h'' => by omega)⟩
   ·subst h
    rw [List.getElem?_append_right (Nat.le_refl _)]
    simp [hlen, eq_comm]
   ·rw [List.getElem?_eq_none (by simp; omega), List.getElem?_eq_none (by omega)]
    simp; omega
  refine ⟨pls.length, ts ++ [t], pls ++ [k], en', rfl, hF, ⟨hS2, ⟨pv', hN2, hvX⟩, he2, hD.nX, hreps.snoc hrw, ?_, ?_, hD.sz, hD.leaves⟩, (htl _ _).2 (.inr ⟨rfl, rfl⟩), .inr rfl⟩
  ·intro x hx
   rcases List.mem_append.1 hx with h | h
   ·exact hD.met x h
   ·simp at h; rw [h]; exact ht
  ·intro m
   rw [hen]
   cases hnl : t.re.nullable with
   | false =>
    simp only [Bool.false_eq_true, if_false]
    rw [hD.bits m]
    constructor
    ·rintro ⟨x, hx, hx2⟩; exact ⟨x, (htl m x).2 (.inl hx), hx2⟩
    ·rintro ⟨x, hx, hx2⟩
     rcases (htl m x).1 hx with h | ⟨_, rfl⟩
     ·exact ⟨x, h, hx2⟩
     ·rw [hnl] at hx2; cases hx2
   | true =>
    simp only [if_true]
    rw [Nat.testBit_or, Bool.or_eq_true, hD.bits m, Nat.testBit_two_pow]
    constructor
    ·rintro (⟨x, hx, hx2⟩ | h)
     ·exact ⟨x, (htl m x).2 (.inl hx), hx2⟩
     ·simp at h; subst h; exact ⟨t, (htl _ _).2 (.inr ⟨rfl, rfl⟩), hnl⟩
    ·rintro ⟨x, hx, hx2⟩
     rcases (htl m x).1 hx with h | ⟨rfl, rfl⟩
     ·exact .inl ⟨x, h, hx2⟩
     ·exact .inr (by simp)
theorem two_pow_lt {n : Nat} (h : n < 64) : 2 ^ n < 18446744073709551616 := Nat.pow_lt_pow_right (a := 2) (m := n) (n := 64) (by omega) h
theorem wrap_two_pow {n : Nat} (h : n < 64) : IntKind.u64.wrap ((2 : Int) ^ n) = ((2 ^ n : Nat) : Int) := by
 have h1 := two_pow_lt h
 have h2 : ((2 ^ n : Nat) : Int) = (2 : Int) ^ n := by simp
 rw [← h2, IntKind.wrap_u64]
 generalize 2 ^ n = m at h1
 omega
set_option maxHeartbeats 1000000 in
theorem mark_any (X : Nat → Prop) (ρ : Rd) (n0 : Nat) (root : ARe) (ns : List (Nd Value)) (ts : List D) (pls : List Nat) (en : Nat) (t : D) (k : Nat) (w : World) (hX : Old X w) (hD : Dyn w X ρ n0 root ns ts pls en) (hs : Stc w ρ) (hr : RepD (IsCls w) n0 ns t k) (ht : t ∈ met root) :
  Calls Tryz.prog 175 #[.int .i64 k, .pointer (some ⟨ρ.nv, 0, none⟩), .pointer (some ⟨ρ.sv, 0, none⟩), .pointer (some ⟨ρ.ev, 0, none⟩)] w (MarkPost X ρ n0 root ns ts t w) := by
 obtain ⟨pv, hN, hv⟩ := hD.nums
 have c0 := cell_one hs.nv
 have hkl := hr.lt
 have hlen := hD.shelf.length
 have hnum := number_any ρ.M ρ.pl ρ.mv pv pls k w hN hs.mv (by omega) (by have := hD.few; omega)
 have HNUM := hide hnum
 have HX := hide hX
 have HD := hide hD
 have HS := hide hs
 have HR := hide hr
 have HT := hide ht
 have HN := hide hN
 have HV := hide hv
 clear hX hD hs hr ht hN hv hnum
 go_enter Tryz.func175, Tryz.ntmps175
 go_wp2_with fail
 refine HNUM.out.mono ?_
 rintro e w1 ⟨n, pv', pls', rfl, hK1, hN1, hn1, hp1, hb1⟩
 obtain ⟨hF1, hS1, he1⟩ := HD.out.numbered HX.out HN.out HV.out hK1
 have hs1 := HS.out.fx hF1
 have hr1 := RepD.world hF1.staying HR.out
 obtain ⟨g, len, cap, f0, f1, f2, f4⟩ := hS1.flag hr1
 have s0 := cell_one hs1.sv
 have x0 := cell_one he1
 have xf : w1.frozen? ⟨ρ.ev, 0, none⟩ = false := by simp [World.frozen?, he1]
 have hn64 : n < 64 := by
  have h1 := get_lt hn1
  have h2 := HD.out.few
  rcases hp1 with rfl | rfl
  ·omega
  ·simp at h1; omega
 have HF1 := hide hF1
 have HS1 := hide hS1
 have HE1 := hide he1
 have HR1 := hide hr1
 have HN1 := hide hN1
 have Hn1 := hide hn1
 have HP1 := hide hp1
 have HB1 := hide hb1
 clear hF1 hS1 he1 hr1 hN1 hn1 hp1 hb1 hK1 hs1
 cases hnl : t.re.nullable with
 | false =>
  rw [hnl] at f4
  have HEND := hide (mark_end HX.out HD.out HR.out HT.out HV.out HF1.out HS1.out HE1.out HN1.out Hn1.out HP1.out HB1.out en (by rw [hnl]; rfl) (.inl ⟨rfl, rfl⟩))
  clear hnl
  go_wp2_with fail
  go_ret
  have hwp := wrap_two_pow hn64
  simp only [hwp]
  exact HEND.out
 | true =>
  rw [hnl] at f4
  have HEND := hide (mark_end HX.out HD.out HR.out HT.out HV.out HF1.out HS1.out HE1.out HN1.out Hn1.out HP1.out HB1.out (en ||| 2 ^ n) (by rw [hnl]; rfl) (.inr rfl))
  have hor := bits_or_u64_nat en (2 ^ n) HD.out.en_lt (two_pow_lt hn64)
  have HOR := hide hor
  clear hnl hor
  go_wp2_with fail
  go_ret
  have hwp := wrap_two_pow hn64
  simp only [hwp]
  rw [HOR.out]
  exact HEND.out
end Go.Proofs.YtgncgdkpkkdaeaaGreatDoor
