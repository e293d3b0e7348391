import Derived.Test.YtgncgdkpkkdaeaaGreatDoorK7
import Derived.Lib.AppendZerosOnto
import Derived.Test.YtgncgdkpkkdaeaaGreatDoorKX
import Derived.Test.YtgncgdkpkkdaeaaGreatDoorSh3
import Derived.Deep.CutRange
namespace Go.Proofs.YtgncgdkpkkdaeaaGreatDoor
open Go.RowKit Tint Go.Maps Go.Shelf
theorem info_shline' : (Tryz.prog.info? 151).map (fun i => (i.zero, i.size, i.bytes)) = some (some (.agg #[.int .i64 0, .int .i64 0, .int .i64 0, .int .i64 0, .int .i64 0, .int .i64 0, .int .i64 0, .int .i64 0, .int .i64 0, .slice none 0 0]), 10, 96) := by kernel_rfl
def GrowPost (w : World) (e : Ending) (w' : World) : Prop := ∃ ao c, e = .returned (.slice ao 0 c) ∧ w'.ownsRow w.heap.size 151 10 (.slice ao 0 c) 0 [] ∧ Below w.heap.size w w'
set_option maxRecDepth 20000 in
set_option maxHeartbeats 1000000 in
theorem grow_any (n : Nat) (hn : n ≤ 1000000) (hp : 0 < n) (w : World) : Calls Tryz.prog 137 #[.slice none 0 0, .int .i64 n] w (GrowPost w) := by
 obtain ⟨i0, hi0, hz0, hs0, hb0⟩ := info_parts info_shline'
 have g0 : decide ((n : Int) < 0) = false := decide_eq_false (by omega)
 have g1 : decide ((0 : Int) < (n : Int)) = true := decide_eq_true (by omega)
 have hwn : IntKind.i64.wrap ((n : Int) - 0) = (n : Int) := by rw [IntKind.wrap_i64]; omega
 obtain ⟨G, hG⟩ : ∃ G, G = grownCap w n 0 151 := ⟨_, rfl⟩
 have hGn : n ≤ G := by rw [hG]; exact grownCap_ge w _ _ _
 have hGm : G ≤ maxLen := by rw [hG]; exact grownCap_le_maxLen w n 0 _ (by unfold maxLen; omega)
 obtain ⟨cz, hcz⟩ : ∃ cz, cz = (([] : List Value).toArray ++ Builtin.zeroCells (Value.agg #[.int .i64 0, .int .i64 0, .int .i64 0, .int .i64 0, .int .i64 0, .int .i64 0, .int .i64 0, .int .i64 0, .int .i64 0, .slice none 0 0]).cells n ++ Builtin.zeroCells (Value.agg #[.int .i64 0, .int .i64 0, .int .i64 0, .int .i64 0, .int .i64 0, .int .i64 0, .int .i64 0, .int .i64 0, .int .i64 0, .slice none 0 0]).cells (G - n)) := ⟨_, rfl⟩
 have hsz : cz.size = G * 10 := by
  rw [hcz]
  have hzs : (Value.agg #[.int .i64 0, .int .i64 0, .int .i64 0, .int .i64 0, .int .i64 0, .int .i64 0, .int .i64 0, .int .i64 0, .int .i64 0, .slice none 0 0]).cells.size = 10 := rfl
  simp only [Array.size_append, List.size_toArray, size_zeroCells, hzs, List.length_nil]
  omega
 have hrz : ∀ ty, (Builtin.append_ #[132, 3] ty #[.slice none 0 0, .int .i64 (n : Int)]).run Tryz.prog w = .ok (.slice (some ⟨w.heap.size, 0, none⟩) n G) (w.drew.alloc (.cells cz 151)) := fun ty => by
  have h := Lib.run_append_grow_zeros w 132 3 ty 151 i0 _ .i64 .i64 Tryz.underlying132 Tryz.underlying3 hi0 hz0 none 0 0 [] (run_firstCells_none w.drew i0.size 0 0 0) n hp (by omega) (by omega) (by omega) (by rw [hb0]; omega) (by rw [hb0, Nat.zero_add]; exact growslice_fits hp (by omega))
  rw [Nat.zero_add, ← hG, ← hcz] at h
  exact h
 have HEND := hide (show GrowPost w (.returned (.slice (some ⟨w.heap.size, 0, none⟩) 0 G)) (w.drew.alloc (.cells cz 151)) from
  ⟨_, _, rfl, ⟨rfl, .inr ⟨w.heap.size, G, cz, rfl, Nat.le_refl _, heap_alloc_last w.drew _, Nat.zero_le _, hGm, hsz, rfl⟩⟩, ((Below.refl _ _).drew).alloc (Nat.le_refl _) _⟩)
 clear hG hcz hsz
 go_enter Tryz.func137, Tryz.ntmps137
 go_wp2_with (at_builtin; refine Lib.wpList_append_run _ rfl _ _ _ _ rfl _ _ rfl rfl _ _ (hrz _) ?_)
 all_goals (go_ret; exact HEND.out)
structure Src where
 ad : Addr
 n : Nat
 c : Nat
 xs : List Value
def SrcAt (w : World) (s : Src) : Prop := s.xs.length = s.n * 10 ∧ (∀ (y : Nat) u, s.xs[y]? = some u → w.cell? (s.ad.add y) = some u) ∧ ∀ u ∈ s.xs, u.oneCell' = true
theorem SrcAt.below {w w' : World} {s : Src} (h : SrcAt w s) (hb : Below w.heap.size w w') : SrcAt w' s := ⟨h.1, fun y u hu => cell_below (h.2.1 y u hu) hb, h.2.2⟩
def sumN (l : List Src) : Nat := (l.map Src.n).sum
theorem sumN_step {l : List Src} {j : Nat} {s : Src} (h : l[j]? = some s) : sumN (l.take (j + 1)) = sumN (l.take j) + s.n := by
 unfold sumN
 rw [List.take_add_one, h]
 simp
theorem sumN_le (l : List Src) (j : Nat) : sumN (l.take j) ≤ sumN l := by
 unfold sumN
 conv => rhs; rw [← List.take_append_drop j l]
 rw [List.map_append, List.sum_append]
 omega
def CatPost (l : List Src) (w : World) (e : Ending) (w' : World) : Prop := ∃ v, e = .returned v ∧ w'.ownsRow w.heap.size 151 10 v (sumN l) (l.flatMap Src.xs) ∧ Below w.heap.size w w'
def CatLoop1 (l : List Src) (w : World) (k : Nat) (vn vi : Value) (wr : World) : Prop := ∃ j m : Nat, vi = .int .i64 j ∧ vn = .int .i64 m ∧ m = sumN (l.take j) ∧ j + k = l.length ∧ wr = w
def CatLoop2 (l : List Src) (w : World) (k : Nat) (vn vi : Value) (wr : World) : Prop := ∃ (j m : Nat) (ao : Option Addr) (c : Nat), vi = .int .i64 j ∧ vn = .slice ao m c ∧ m = sumN (l.take j) ∧ j + k = l.length ∧ wr.ownsRow w.heap.size 151 10 (.slice ao m c) m ((l.take j).flatMap Src.xs) ∧ Below w.heap.size w wr
set_option maxRecDepth 20000 in
set_option maxHeartbeats 1000000 in
theorem concat_any (bk c : Nat) (l : List Src) (w : World) (hl : l.length ≤ 10) (hp : 0 < sumN l) (hs : sumN l ≤ 1000000) (hc : ∀ (j : Nat) s, l[j]? = some s → w.cell? ⟨bk, j, none⟩ = some (.slice (some s.ad) s.n s.c) ∧ SrcAt w s) :
  Calls Tryz.prog 99 #[.slice (some ⟨bk, 0, none⟩) l.length c] w (CatPost l w) := by
 have HC := hide hc
 obtain ⟨nl, hnl⟩ : ∃ nl, nl = l.length := ⟨_, rfl⟩
 rw [← hnl] at hl ⊢
 have HNL := hide hnl
 clear hc hnl
 go_enter Tryz.func99, Tryz.ntmps99
 go_wp2_with fail
 go_loopg [3, 11] nl (fun k vn vi wr => CatLoop1 l w k vn vi wr)
 case atStart => exact ⟨0, 0, rfl, rfl, rfl, by rw [← HNL.out]; omega, rfl⟩
 case round =>
  obtain ⟨j, m, rfl, rfl, hm, hk, rfl⟩ := hrel
  rw [← HNL.out] at hk
  by_cases hlt : j < nl
  ·have g1 : decide ((j : Int) < (nl : Int)) = true := decide_eq_true (by omega)
   have hwr : IntKind.i64.wrap ((j : Int) + 1) = (j : Int) + 1 := by rw [IntKind.wrap_i64]; omega
   obtain ⟨s, hsj⟩ : ∃ s, l[j]? = some s := ⟨_, List.getElem?_eq_getElem (by rw [← HNL.out]; exact hlt)⟩
   have c1 := (HC.out j s hsj).1
   have hst := sumN_step hsj
   have hle := sumN_le l (j + 1)
   have hw1 : IntKind.i64.wrap ((m : Int) + (s.n : Int)) = (m : Int) + (s.n : Int) := by rw [IntKind.wrap_i64]; omega
   have g2 : decide ((m : Int) + (s.n : Int) < 0) = false := decide_eq_false (by omega)
   have HST := hide (show m + s.n = sumN (l.take (j + 1)) by omega)
   clear hst hle hm hsj
   go_wp2_with fail
   go_roundg (nl - (j + 1))
   case measure => omega
   case rel => exact ⟨j + 1, m + s.n, by simp, by simp, HST.out, by rw [← HNL.out]; omega, rfl⟩
  ·have g1 : decide ((j : Int) < (nl : Int)) = false := decide_eq_false (by omega)
   have hmm : m = sumN l := by rw [hm, List.take_of_length_le (by have := HNL.out; omega)]
   obtain ⟨w0, hw0⟩ : ∃ w0, w0 = wr := ⟨_, rfl⟩
   subst hw0
   rw [← hmm] at hp hs
   have HGR := hide (grow_any m hs hp w0)
   have HM := hide hmm
   clear hm hmm
   go_wp2_with fail
   refine HGR.out.mono ?_
   rintro e w1 ⟨ao1, c1, rfl, ho1, hb1⟩
   have HO1 := hide ho1
   have HB1 := hide hb1
   obtain ⟨i0, hi0, hz0, hs0, hby0⟩ := info_parts info_shline'
   clear ho1 hb1 HGR
   go_wp2_with fail
   go_loopg [6, 27] nl (fun k vn vi wr => CatLoop2 l w0 k vn vi wr)
   case atStart => exact ⟨0, 0, ao1, c1, rfl, rfl, rfl, by rw [← HNL.out]; omega, HO1.out, HB1.out⟩
   case round =>
    obtain ⟨j2, m2, ao, cp, rfl, rfl, hm2, hk2, hrow, hb⟩ := hrel
    rw [← HNL.out] at hk2
    by_cases hlt2 : j2 < nl
    ·have g3 : decide ((j2 : Int) < (nl : Int)) = true := decide_eq_true (by omega)
     have hwr : IntKind.i64.wrap ((j2 : Int) + 1) = (j2 : Int) + 1 := by rw [IntKind.wrap_i64]; omega
     obtain ⟨s, hsj⟩ : ∃ s, l[j2]? = some s := ⟨_, List.getElem?_eq_getElem (by rw [← HNL.out]; exact hlt2)⟩
     have cs := cell_below (HC.out j2 s hsj).1 hb
     have hsrc := (HC.out j2 s hsj).2.below hb
     have hst := sumN_step hsj
     have hle := sumN_le l (j2 + 1)
     have hmm := HM.out
     have hbz : m2 + s.n ≤ 1000000 := by omega
     have hbase : w0.heap.size ≤ wr.heap.size := hb.size
     have HROW := hide hrow
     have HSRC := hide hsrc
     have HNX := hide (fun (v' : Value) (W : World) (hr : W.ownsRow w0.heap.size 151 10 v' (m2 + s.n) ((l.take j2).flatMap Src.xs ++ s.xs)) (hg : wr.grownBy W (Value.slice ao m2 cp).ownBlock) => show CatLoop2 l w0 (nl - (j2 + 1)) v' (.int .i64 ((j2 : Int) + 1)) W from by
      obtain ⟨ao', c', hv'⟩ := row_slice hr
      subst hv'
      refine ⟨j2 + 1, m2 + s.n, ao', c', by simp, rfl, by omega, by rw [← HNL.out]; omega, ?_, ?_⟩
      ·rw [List.take_add_one, hsj, List.flatMap_append]
       simpa using hr
      ·exact hb.trans ⟨hg.os, hg.tape, hg.output, hg.size, fun k hk => hg.block k (Nat.lt_of_lt_of_le hk hb.size) (fun e => by have := (row_type HROW.out e.symm).1; omega)⟩)
     clear hrow hb hsrc hst hle hmm hm2 hsj
     go_wp2_with (at_builtin; go_loud (refine wpList_append_own_at _ rfl (.tmp 31) (.tmp 32) 132 rfl w0.heap.size 151 i0 _ 10 96 Tryz.underlying132 hi0 hz0 hs0 hby0 rfl (by decide) (.slice ao m2 cp) m2 ((l.take j2).flatMap Src.xs) (by rfl) HROW.out s.ad s.n s.c s.xs (by rfl) HSRC.out.1 HSRC.out.2.1 HSRC.out.2.2 (by unfold maxLen; omega) (by omega) hbase ?_; intro v' W hown hg _ _; have HST := hide (HNX.out v' W hown hg); obtain ⟨ao', c', hv'⟩ := row_slice hown; subst hv'; clear hown hg HNX HROW HSRC))
     go_wp2_with fail
     go_roundg (nl - (j2 + 1))
     case measure => omega
     case rel => exact HST.out
    ·have g3 : decide ((j2 : Int) < (nl : Int)) = false := decide_eq_false (by omega)
     have HEND := hide (show CatPost l w0 (.returned (.slice ao m2 cp)) wr from ⟨_, rfl, by
      have e := HNL.out
      rw [List.take_of_length_le (by omega)] at hm2 hrow
      rw [← hm2]
      exact hrow, hb⟩)
     clear hrow hb hm2
     go_wp2_with fail
     go_ret
     exact HEND.out
end Go.Proofs.YtgncgdkpkkdaeaaGreatDoor
namespace Go.Proofs.YtgncgdkpkkdaeaaGreatDoor
open Go.RowKit Tint Go.Maps
theorem splitL_two (p q : List UInt8) : splitL (p ++ 10 :: q) = splitL p ++ splitL q := by
 induction p with
 | nil => simp [splitL]
 | cons x t ih =>
  rw [List.cons_append, splitL, splitL, ih]
  by_cases h : x = 10
  ·rw [if_pos h, if_pos h, List.cons_append]
  ·rw [if_neg h, if_neg h]
   cases hs : splitL t with
   | nil => exact absurd hs (splitL_ne t)
   | cons l ls => rfl
theorem splitL_behind (U R : List UInt8) : (splitL (U ++ R)).drop (1 + U.count 10) = (splitL R).tail := by
 induction U with
 | nil => simp
 | cons x t ih =>
  rw [List.cons_append, splitL]
  by_cases h : x = 10
  ·rw [if_pos h, h, List.count_cons_self, show 1 + (List.count 10 t + 1) = (1 + List.count 10 t) + 1 by omega, List.drop_succ_cons, ih]
  ·rw [if_neg h, List.count_cons_of_ne (by simpa using h)]
   rw [show 1 + List.count 10 t = List.count 10 t + 1 by omega] at ih ⊢
   cases hs : splitL (t ++ R) with
   | nil => exact absurd hs (splitL_ne _)
   | cons l ls =>
    rw [hs, List.drop_succ_cons] at ih
    show List.drop (List.count 10 t + 1) ((x :: l) :: ls) = _
    rw [List.drop_succ_cons, ih]
def BegL (A : List UInt8) (k : Nat) : Prop := k ≤ A.length ∧ (10 : UInt8) ∉ A.drop k ∧ (k = 0 ∨ ∃ p, A.take k = p ++ [10])
theorem splitL_begin {A : List UInt8} {k : Nat} (h : BegL A k) : ∃ xs, xs.length = A.count 10 ∧ ∀ b, splitL (A ++ b) = xs ++ splitL (A.drop k ++ b) := by
 obtain ⟨h1, h2, rfl | ⟨p, hp⟩⟩ := h
 ·exact ⟨[], by rw [List.count_eq_zero.2 (by simpa using h2)]; rfl, fun b => by simp⟩
 ·have hA : A = p ++ 10 :: A.drop k := by
   have := List.take_append_drop k A
   rw [hp] at this
   simpa using this.symm
  refine ⟨splitL p, ?_, fun b => ?_⟩
  ·have h3 : A.count 10 = p.count 10 + ((A.drop k).count 10 + 1) := by
    conv => lhs; rw [hA]
    rw [List.count_append, List.count_cons_self]
   rw [splitL_length, h3, List.count_eq_zero.2 h2]
   omega
  ·have : A ++ b = p ++ 10 :: (A.drop k ++ b) := by
    rw [← List.cons_append, ← List.append_assoc, ← hA]
   rw [this, splitL_two]
theorem Runs.at {G : List GS} {st : List Nat} {ls : List (List UInt8)} {out : List (List Nat × List Sp)} {st' : List Nat} (h : Runs G st ls out st') : ∀ {k : Nat} {x : List Nat × List Sp}, out[k]? = some x → Runs G st (ls.take k) (out.take k) x.1 ∧ Runs G x.1 (ls.drop k) (out.drop k) st' := by
 induction h with
 | nil => intro k x hx; simp at hx
 | cons a b ih =>
  intro k x hx
  cases k with
  | zero => simp at hx; subst hx; exact ⟨.nil, .cons a b⟩
  | succ k =>
   simp only [List.getElem?_cons_succ] at hx
   exact ⟨.cons a (ih hx).1, (ih hx).2⟩
theorem Runs.edit {G : List GS} {A O R P : List UInt8} {k : Nat} (hk : BegL A k) {s0 : List Nat} {ls : List (List Nat × List Sp)} {sE : List Nat} (h : Runs G s0 (splitL (A ++ O ++ R)) ls sE) {x : List Nat × List Sp} (hx : ls[A.count 10]? = some x)
  {anew : List (List Nat × List Sp)} {st : List Nat} (ha : Runs G x.1 ((splitL (A.drop k ++ P ++ R)).take anew.length) anew st)
  (hstop : anew.length = (splitL (A.drop k ++ P ++ R)).length ∨ (1 + P.count 10 ≤ anew.length ∧ ((ls.drop (A.count 10 + O.count 10 + 1)).map (·.1))[anew.length - (1 + P.count 10)]? = some st)) :
  ∃ sF, Runs G s0 (splitL (A ++ P ++ R)) (ls.take (A.count 10) ++ anew ++ (ls.drop (A.count 10 + O.count 10 + 1)).drop (anew.length - (1 + P.count 10))) sF := by
 obtain ⟨xs, hxs, hsp⟩ := splitL_begin hk
 have hL10 : (A.drop k).count 10 = 0 := List.count_eq_zero.2 hk.2.1
 have hlen := h.length
 rw [splitL_length] at hlen
 simp only [List.count_append] at hlen
 have h1 := (h.at hx).1
 rw [List.append_assoc, hsp, List.take_left' hxs] at h1
 have hw : (splitL (A.drop k ++ P ++ R)).length = 1 + P.count 10 + R.count 10 := by
  rw [splitL_length]; simp only [List.count_append, hL10]; omega
 have htot : splitL (A ++ P ++ R) = xs ++ splitL (A.drop k ++ P ++ R) := by
  rw [List.append_assoc, hsp, ← List.append_assoc]
 rcases hstop with he | ⟨ht, hs⟩
 ·refine ⟨st, ?_⟩
  rw [he, List.take_length] at ha
  rw [List.drop_drop, List.drop_of_length_le (by omega), List.append_nil, htot]
  exact h1.append ha
 ·obtain ⟨m, hm⟩ : ∃ m, anew.length = 1 + P.count 10 + m := ⟨anew.length - (1 + P.count 10), by omega⟩
  rw [hm, Nat.add_sub_cancel_left] at hs ⊢
  rw [List.getElem?_map] at hs
  cases hy : (ls.drop (A.count 10 + O.count 10 + 1))[m]? with
  | none => rw [hy] at hs; simp at hs
  | some y =>
   rw [hy] at hs
   simp only [Option.map_some, Option.some.injEq] at hs
   rw [List.getElem?_drop] at hy
   have h2 := (h.at hy).2
   rw [hs, ← List.drop_drop, show A.count 10 + O.count 10 + 1 = 1 + (A ++ O).count 10 by rw [List.count_append]; omega, splitL_behind, ← List.drop_drop] at h2
   refine ⟨sE, ?_⟩
   have hd : (splitL (A.drop k ++ P ++ R)).drop anew.length = (splitL R).tail.drop m := by
    have := splitL_behind (A.drop k ++ P) R
    rw [hm, ← List.drop_drop, ← this]
    congr 2
    simp only [List.count_append, hL10]
    omega
   rw [htot, ← List.take_append_drop anew.length (splitL (A.drop k ++ P ++ R)), hd, List.append_assoc (ls.take _)]
   refine h1.append (ha.append ?_)
   rw [show A.count 10 + O.count 10 + 1 = 1 + (A ++ O).count 10 by rw [List.count_append]; omega]
   exact h2
theorem countP_tail {p : Nat → Bool} {b d : Nat} (hd : d ≤ b) (h : ∀ j, b - d ≤ j → j < b → p j = true) : d ≤ (List.range b).countP p := by
 have e : List.range b = (List.range b).take (b - d) ++ (List.range b).drop (b - d) := (List.take_append_drop _ _).symm
 rw [e, List.countP_append]
 have : ((List.range b).drop (b - d)).countP p = d := by
  rw [List.countP_eq_length.2]
  ·simp; omega
  ·intro a ha
   obtain ⟨i, hi, rfl⟩ := List.mem_iff_getElem.1 ha
   simp at hi ⊢
   exact h _ (by omega) (by omega)
 omega
def moreN (old now : List (List Nat)) (b : Nat) : Nat := (List.range b).countP fun j => decide (old[old.length - (j + 1)]? ≠ now[now.length - (j + 1)]?)
theorem more_bound {ls anew : List (List Nat × List Sp)} {f o t b : Nat} (hls : ls.length = f + o + 1 + b) (ha : anew.length ≤ t + b) (hd : ∀ (i : Nat) x, t ≤ i → anew[i]? = some x → ((ls.drop (f + o + 1)).map (·.1))[i - t]? ≠ some x.1) :
  anew.length ≤ t + moreN (ls.map (·.1)) ((ls.take f ++ anew ++ (ls.drop (f + o + 1)).drop (anew.length - t)).map (·.1)) b := by
 rcases Nat.lt_or_ge t anew.length with hlt | hge
 ·obtain ⟨d, hdd⟩ : ∃ d, anew.length = t + d := ⟨anew.length - t, by omega⟩
  have key := countP_tail (b := b) (d := d) (p := fun j => decide ((ls.map (·.1))[(ls.map (·.1)).length - (j + 1)]? ≠ ((ls.take f ++ anew ++ (ls.drop (f + o + 1)).drop (anew.length - t)).map (·.1))[((ls.take f ++ anew ++ (ls.drop (f + o + 1)).drop (anew.length - t)).map (·.1)).length - (j + 1)]?)) (by omega) (fun j h1 h2 => by
   obtain ⟨x, hx⟩ : ∃ x, anew[t + (b - 1 - j)]? = some x := ⟨_, List.getElem?_eq_getElem (by omega)⟩
   have h3 := hd _ x (by omega) hx
   rw [List.getElem?_map, List.getElem?_drop] at h3
   have hl : (ls.map (·.1)).length - (j + 1) = f + o + 1 + (b - 1 - j) := by rw [List.length_map]; omega
   have hn : ((ls.take f ++ anew ++ (ls.drop (f + o + 1)).drop (anew.length - t)).map (·.1)).length - (j + 1) = f + (t + (b - 1 - j)) := by simp; omega
   have hnow : ((ls.take f ++ anew ++ (ls.drop (f + o + 1)).drop (anew.length - t)).map (·.1))[f + (t + (b - 1 - j))]? = some x.1 := by
    rw [List.getElem?_map, List.append_assoc, List.getElem?_append_right (by simp; omega), List.getElem?_append_left (by simp; omega)]
    rw [show f + (t + (b - 1 - j)) - (ls.take f).length = t + (b - 1 - j) by simp; omega, hx]
    rfl
   simp only [decide_eq_true_eq]
   rw [hl, hn, hnow, List.getElem?_map]
   rw [show t + (b - 1 - j) - t = b - 1 - j by omega] at h3
   exact h3)
  unfold moreN
  omega
 ·omega
end Go.Proofs.YtgncgdkpkkdaeaaGreatDoor
namespace Go.Proofs.YtgncgdkpkkdaeaaGreatDoor
open Go.RowKit Tint Go.Maps Go.Shelf
theorem byte_bang {t : ByteArray} {j : Nat} {x : UInt8} (h : t.data.toList[j]? = some x) : t.data[j]! = x := by
 rw [Array.getElem?_toList] at h
 rw [getElem!_def, h]
theorem beg_of (A : ByteArray) : ∃ k : Nat, Lib.lastIndexByte A 10 + 1 = (k : Int) ∧ k ≤ A.size ∧ BegL A.data.toList k := by
 rcases Lib.lastIndexByte_spec A 10 with ⟨h1, h2⟩ | ⟨i, h1, h2, h3, h4⟩
 ·refine ⟨0, by rw [h1]; rfl, Nat.zero_le _, Nat.zero_le _, ?_, .inl rfl⟩
  intro hm
  rw [List.drop_zero] at hm
  obtain ⟨j, hj⟩ := List.mem_iff_getElem?.1 hm
  have := get_lt hj
  rw [text_length] at this
  refine h2 j this ?_
  rw [byte_bang hj]
  rfl
 ·have hi : A.data.toList[i]? = some 10 := by
   have hlt : i < A.data.toList.length := by rw [text_length]; exact h1
   obtain ⟨x, hx⟩ : ∃ x, A.data.toList[i]? = some x := ⟨_, List.getElem?_eq_getElem hlt⟩
   rw [byte_bang hx] at h3
   rw [hx]
   congr 1
   exact UInt8.toNat_inj.1 (by simpa using Int.ofNat_inj.1 h3)
  refine ⟨i + 1, by rw [h2]; rfl, by omega, by rw [text_length]; omega, ?_, .inr ⟨A.data.toList.take i, by rw [List.take_add_one, hi]; rfl⟩⟩
  intro hm
  obtain ⟨j, hj⟩ := List.mem_iff_getElem?.1 hm
  rw [List.getElem?_drop] at hj
  have := get_lt hj
  rw [text_length] at this
  refine h4 (i + 1 + j) (by omega) this ?_
  rw [byte_bang hj]
  rfl
theorem join3 (a b c : List UInt8) : Lib.join [a, b, c] [] = a ++ b ++ c := by
 rw [Lib.join_cons]
 simp [Lib.joinTail]
theorem addr_add (b o y : Nat) : (⟨b, o, none⟩ : Addr).add y = ⟨b, o + y, none⟩ := by
 unfold Addr.add
 split
 ·rename_i h; subst h; rfl
 ·rfl
theorem LnsIs.len10 {w : World} {B : Nat} {v : Value} {ls : List LE} (h : LnsIs w B v ls) : ∀ x ∈ ls, x.cells.length = 10 := fun x hx => LE.length (h.each x hx).1
theorem flat_len {l : List LE} (h : ∀ x ∈ l, x.cells.length = 10) : (l.flatMap LE.cells).length = l.length * 10 := by
 induction l with
 | nil => rfl
 | cons x l ih => rw [List.flatMap_cons, List.length_append, ih (fun y hy => h y (List.mem_cons_of_mem _ hy)), h x List.mem_cons_self, List.length_cons]; omega
theorem flat_drop {l : List LE} (h : ∀ x ∈ l, x.cells.length = 10) (q : Nat) : (l.drop q).flatMap LE.cells = (l.flatMap LE.cells).drop (q * 10) := by
 induction q generalizing l with
 | zero => simp
 | succ q ih =>
  cases l with
  | nil => simp
  | cons x l =>
   rw [List.drop_succ_cons, ih (fun y hy => h y (List.mem_cons_of_mem _ hy)), List.flatMap_cons, show (q + 1) * 10 = 10 + q * 10 by omega, ← List.drop_drop, ← h x List.mem_cons_self, List.drop_left]
theorem flat_pre {l : List LE} {f y : Nat} {u : Value} (h : ((l.take f).flatMap LE.cells)[y]? = some u) : (l.flatMap LE.cells)[y]? = some u := by
 conv => lhs; rw [← List.take_append_drop f l, List.flatMap_append]
 rw [List.getElem?_append_left (get_lt h)]
 exact h
theorem LnsIs.all_len {w : World} {B : Nat} {v : Value} {ls : List LE} (h : LnsIs w B v ls) : (ls.flatMap LE.cells).length = ls.length * 10 := flat_len h.len10
theorem LnsIs.take_len {w : World} {B : Nat} {v : Value} {ls : List LE} (h : LnsIs w B v ls) {f : Nat} (hf : f ≤ ls.length) : ((ls.take f).flatMap LE.cells).length = f * 10 := by
 rw [flat_len (fun x hx => h.len10 x (List.mem_of_mem_take hx)), List.length_take]
 congr 1
 omega
theorem LnsIs.drop_len {w : World} {B : Nat} {v : Value} {ls : List LE} (h : LnsIs w B v ls) {q : Nat} : ((ls.drop q).flatMap LE.cells).length = (ls.length - q) * 10 := by
 rw [flat_len (fun x hx => h.len10 x (List.mem_of_mem_drop hx)), List.length_drop]
theorem LnsIs.part {w : World} {B lb n cp : Nat} {ls : List LE} (h : LnsIs w B (.slice (some ⟨lb, 0, none⟩) n cp) ls) {q y : Nat} {u : Value} (hu : ((ls.drop q).flatMap LE.cells)[y]? = some u) : w.cell? ⟨lb, q * 10 + y, none⟩ = some u := by
 obtain ⟨ao, c, hv⟩ := row_slice h.row
 cases hv
 rw [flat_drop h.len10, List.getElem?_drop] at hu
 exact (row_cell h.row hu).1
theorem LnsIs.one {w : World} {B : Nat} {v : Value} {ls : List LE} (h : LnsIs w B v ls) {u : Value} (hu : ∃ x, x ∈ ls ∧ u ∈ x.cells) : u.oneCell' = true := by
 obtain ⟨x, hx, hu⟩ := hu
 unfold LE.cells at hu
 rcases List.mem_append.1 hu with hu | hu
 ·unfold stCells at hu
  obtain ⟨y, _, rfl⟩ := List.mem_map.1 hu
  rfl
 ·rw [List.mem_singleton.1 hu]
  obtain ⟨ao, c, hv⟩ := row_slice (h.each x hx).2
  rw [hv]
  rfl
def ReplPost (B bS g n cap : Nat) (G : List GS) (text : ByteArray) (ls : List LE) (work a an : Nat) (put : ByteArray) (w : World) (e : Ending) (w' : World) : Prop :=
 e = .returned (.tuple #[]) ∧ Off (fun k => k = bS) w w' ∧ ∃ (text' : ByteArray) (lv' : Value) (ls' : List LE) (work' : Nat) (sF : List Nat),
  text'.data.toList = text.data.toList.take a ++ put.data.toList ++ text.data.toList.drop an ∧ SheetIs w' B bS g n cap text' lv' ls' work' ∧ Runs G [0] (splitL text'.data.toList) (ls'.map LE.pr) sF ∧
  work ≤ work' ∧ work' ≤ work + (1 + put.data.toList.count 10 + moreN (ls.map LE.st) (ls'.map LE.st) ((text.data.toList.drop an).count 10)) ∧ work' ≤ work + 3001
set_option maxRecDepth 20000 in
set_option maxHeartbeats 4000000 in
theorem replace_any
  (N B bS g n cap : Nat) (G : List GS) (text : ByteArray) (lv : Value) (ls : List LE) (work a nn : Nat) (put : ByteArray) (sE : List Nat) (w : World)
  (hok : GOk G) (hpos : 0 < G.length) (hT : Tab w) (h0 : 1 < N) (hG : ∀ w', Below N w w' → GramIs w' g n cap G) (hN : N ≤ B) (hM : Mx w) (hMN : 0 < N)
  (h : SheetIs w B bS g n cap text lv ls work) (hr : Runs G [0] (splitL text.data.toList) (ls.map LE.pr) sE) (hwk : work ≤ 1000000000000000000) (ha : a + nn ≤ text.size) (hz : text.size + put.size ≤ 3000 + nn) :
  Calls Tryz.prog 72 #[.pointer (some ⟨bS, 0, none⟩), .int .i64 a, .int .i64 nn, .string put] w (ReplPost B bS g n cap G text ls work a (a + nn) put w) := by
 have hlen := hr.length
 rw [List.length_map, splitL_length] at hlen
 obtain ⟨lao, cp, hlv⟩ := row_slice h.lns.row
 obtain ⟨x0, hx0⟩ : ∃ x, ls[0]? = some x := ⟨_, List.getElem?_eq_getElem (by omega)⟩
 subst hlv
 obtain ⟨lb, hlb, hlbs, -⟩ := h.lns.cells hx0
 subst hlb
 obtain ⟨an, han⟩ : ∃ an, an = a + nn := ⟨_, rfl⟩
 rw [← han]
 have hw0 : IntKind.i64.wrap ((a : Int) + (nn : Int)) = (an : Int) := by rw [IntKind.wrap_i64]; have := h.size; omega
 by_cases hq : nn = 0 ∧ put = ⟨#[]⟩
 ·obtain ⟨rfl, rfl⟩ := hq
  have HEND := hide (show ReplPost B bS g n cap G text ls work a an ⟨#[]⟩ w (.returned (.tuple #[])) w from ⟨rfl, Off.refl _ _, text, _, ls, work, sE, by rw [han]; simp, h, hr, Nat.le_refl _, Nat.le_add_right _ _, Nat.le_add_right _ _⟩)
  clear h hr hlen hx0 hT hG hM
  go_enter Tryz.func72, Tryz.ntmps72
  go_wp2_with fail
  exact bodyPost_ret (v := .tuple #[]) (by simp [results, Tryz.results72, go_sem]) rfl HEND.out
 ·have c1 : w.cell? ⟨bS, 1, none⟩ = some (.string text) := cell_at h.sh rfl
  have hanz : an ≤ text.size := by omega
  have haan : a ≤ an := by omega
  have hz3 := h.size
  have HS := hide h
  have HR := hide hr
  have HLEN := hide hlen
  have HAN := hide han
  have HKK := hide (And.intro hT (And.intro hG hM))
  have HQ := hide hq
  clear h hr hlen hT hG hM han hx0 hq
  go_enter Tryz.func72, Tryz.ntmps72
  refine wp_seq_k fun K1 hK1 => ?_
  go_cut [] from 16 to 106 (fun wc => wc = w)
  case first =>
   by_cases hn0 : nn = 0
   ·have q1 : ((nn : Int) == 0) = true := by rw [hn0]; rfl
    have q2 : put.toList.isEmpty = false := by
     rw [Lib.toList_data]
     cases hb : put.data.toList with
     | nil => exact absurd ⟨hn0, WideShapes.bytes_inj (by rw [hb])⟩ HQ.out
     | cons _ _ => rfl
    clear hn0
    go_wp2_with fail
    go_meet
    case rel => rfl
   ·have q1 : ((nn : Int) == 0) = false := by rw [beq_eq_false_iff_ne]; omega
    clear hn0
    go_wp2_with fail
    go_meet
    case rel => rfl
  case rest =>
   subst hcut
   go_wp2_with fail
   go_quiet (fail)
   go_wp2_with fail
   obtain ⟨nL, hnL⟩ : ∃ nL, nL = ls.length := ⟨_, rfl⟩
   obtain ⟨A, hA⟩ : ∃ A, A = text.extract 0 a := ⟨_, rfl⟩
   obtain ⟨O, hO⟩ : ∃ O, O = text.extract a an := ⟨_, rfl⟩
   obtain ⟨R, hR⟩ : ∃ R, R = text.extract an text.size := ⟨_, rfl⟩
   obtain ⟨W1, hW1⟩ : ∃ W1, W1 = wc.drewN nq := ⟨_, rfl⟩
   have hb1 : Below wc.heap.size wc W1 := by rw [hW1]; exact Below.drewN' (Below.refl _ _) nq
   have lA : A.data.toList = text.data.toList.take a := by rw [hA, extract_list]; simp
   have lR : R.data.toList = text.data.toList.drop an := by rw [hR, extract_list, List.take_of_length_le (by rw [List.length_drop, text_length]; omega)]
   have lT : text.data.toList = A.data.toList ++ O.data.toList ++ R.data.toList := by
    rw [lA, lR, hO, extract_list]
    conv => lhs; rw [← List.take_append_drop a text.data.toList, ← List.take_append_drop (an - a) (text.data.toList.drop a), List.drop_drop]
    rw [show a + (an - a) = an by omega, List.append_assoc]
   rw [← hA, ← hO, ← hR, ← hW1]
   obtain ⟨f, hf⟩ : ∃ f, f = Lib.countByte A.data.toList 10 := ⟨_, rfl⟩
   obtain ⟨co, hco⟩ : ∃ co, co = Lib.countByte O.data.toList 10 := ⟨_, rfl⟩
   obtain ⟨cpu, hcpu⟩ : ∃ cpu, cpu = Lib.countByte put.data.toList 10 := ⟨_, rfl⟩
   obtain ⟨cR, hcR⟩ : ∃ cR, cR = R.data.toList.count 10 := ⟨_, rfl⟩
   obtain ⟨tc, htc⟩ : ∃ tc, tc = 1 + cpu := ⟨_, rfl⟩
   obtain ⟨fo, hfo⟩ : ∃ fo, fo = f + co := ⟨_, rfl⟩
   obtain ⟨kb, hkb⟩ : ∃ kb, kb = fo + 1 := ⟨_, rfl⟩
   have hcnt : nL = f + co + 1 + cR := by
    have h1 := HLEN.out
    rw [lT, List.count_append, List.count_append] at h1
    rw [hnL, h1, hf, hco, hcR]
    unfold Lib.countByte
    omega
   have hcz : cpu ≤ put.size := by rw [hcpu, ← text_length]; exact List.count_le_length
   have htz : nL ≤ 3001 := by
    have h1 := HLEN.out
    have h2 := List.count_le_length (a := (10 : UInt8)) (l := text.data.toList)
    rw [text_length] at h2
    omega
   have hpz : put.size ≤ 6000 := by omega
   have hCA := Tryz.strings_Count_one A 10 W1
   have hCP := Tryz.strings_Count_one put 10 W1
   have hCO := Tryz.strings_Count_one O 10 W1.drew
   rw [← hf] at hCA
   rw [← hcpu] at hCP
   rw [← hco] at hCO
   have HCA := hide hCA
   have HCP := hide hCP
   have HCO := hide hCO
   have wt : IntKind.i64.wrap (1 + (cpu : Int)) = (tc : Int) := by rw [IntKind.wrap_i64]; omega
   have wf : IntKind.i64.wrap ((f : Int) + (co : Int)) = (fo : Int) := by rw [IntKind.wrap_i64]; omega
   have wk : IntKind.i64.wrap ((fo : Int) + 1) = (kb : Int) := by rw [IntKind.wrap_i64]; omega
   have hkl : kb ≤ nL := by omega
   have hsh1 := HS.out.below hb1
   have hncp : nL ≤ cp := by
    rcases hsh1.lns.row.2 with ⟨h1, _⟩ | ⟨_, _, _, h1, _, _, h2, _⟩
    ·cases h1
    ·cases h1; rw [hnL]; exact h2
   have c12 : W1.cell? ⟨bS, 2, none⟩ = some (.slice (some ⟨lb, 0, none⟩) nL cp) := by rw [hnL]; exact cell_at hsh1.sh rfl
   have HSH1 := hide hsh1
   have HNL := hide hnL
   have HCNT := hide hcnt
   have HL := hide (And.intro lA (And.intro lR lT))
   have HF := hide (And.intro hf (And.intro hco (And.intro hcpu hcR)))
   have HB1 := hide hb1
   have HTC := hide htc
   have HKB := hide (And.intro hfo hkb)
   clear hnL hA hO hR hW1 lA lR lT hf hco hcpu hcR htc hfo hkb hcnt hCA hCP hCO hsh1 hb1 c1 hw0
   refine HCA.out.mono ?_
   rintro e w2 ⟨rfl, h2⟩
   subst w2
   clear HCA
   go_wp2_with fail
   refine HCP.out.mono ?_
   rintro e w2 ⟨rfl, h2⟩
   subst w2
   clear HCP
   go_wp2_with fail
   go_region_held3 (fun w' => w'.cell? ⟨bS, 2, none⟩ = some (.slice (some ⟨lb, 0, none⟩) nL cp))
    (go_keep)
    (first | (go_at_call 71; refine HCO.out.mono ?_; clear HCO; rintro e w3 ⟨rfl, h3⟩; subst w3))
   all_goals
    obtain ⟨of, hof, hof2⟩ : ∃ of, (if cp = kb then some (⟨lb, 0, none⟩ : Addr) else some ⟨lb, kb * 10, none⟩) = some ⟨lb, of, none⟩ ∧ (kb < nL → of = kb * 10) := by
     by_cases h : cp = kb
     ·exact ⟨0, by rw [if_pos h], fun h' => by omega⟩
     ·exact ⟨kb * 10, by rw [if_neg h], fun _ => rfl⟩
    obtain ⟨nb, hnb⟩ : ∃ nb, nb = nL - kb := ⟨_, rfl⟩
    obtain ⟨cb, hcb⟩ : ∃ cb, cb = cp - kb := ⟨_, rfl⟩
    obtain ⟨W2, hW2⟩ : ∃ W2, W2 = W1.drew := ⟨_, rfl⟩
    rw [hof, ← hnb, ← hcb, ← hW2]
    have hb2 : Below wc.heap.size wc W2 := by rw [hW2]; exact HB1.out.drew
    obtain ⟨W3, hW3⟩ : ∃ W3, W2.alloc (.cells #[.string A, .string put, .string R] 9) = W3 := ⟨_, rfl⟩
    have hb3 : Below wc.heap.size wc W3 := by rw [← hW3]; exact hb2.alloc hb2.size _
    have h3c : W3.heap[W2.heap.size]? = some (.cells #[.string A, .string put, .string R] 9 (0, 0)) := by rw [← hW3]; exact heap_alloc_last _ _
    obtain ⟨text', ht'⟩ : ∃ t : ByteArray, t = ⟨(Lib.join ([A, put, R].map (·.data.toList)) (⟨#[]⟩ : ByteArray).data.toList).toArray⟩ := ⟨_, rfl⟩
    have lT' : text'.data.toList = A.data.toList ++ put.data.toList ++ R.data.toList := by rw [ht']; exact join3 _ _ _
    have hszT : text'.size = a + put.size + (text.size - an) := by
     rw [← text_length, lT', HL.out.1, HL.out.2.1, List.length_append, List.length_append, List.length_take, List.length_drop, text_length, text_length]
     omega
    have HJ := hide (show Calls Tryz.prog 97 #[.slice (some ⟨W2.heap.size, 0, none⟩) 3 3, .string ⟨#[]⟩] W3 (fun e w' => e = .returned (.string text') ∧ Below W3.heap.size W3 w') from by
     rw [ht']
     refine Tryz.strings_Join W2.heap.size 0 3 [A, put, R] ⟨#[]⟩ W3 (fun j x hj => ?_) (lt_of_get h3c) (by simp) (by simp) ?_
     ·rw [Nat.zero_add]
      match j, hj with
      | 0, hj => simp at hj; subst hj; exact cell_at h3c rfl
      | 1, hj => simp at hj; subst hj; exact cell_at h3c rfl
      | 2, hj => simp at hj; subst hj; exact cell_at h3c rfl
      | j + 3, hj => simp at hj
     ·have e : (Lib.join ([A, put, R].map (·.data.toList)) (⟨#[]⟩ : ByteArray).data.toList).length = a + put.size + (text.size - an) := by
       rw [← hszT, ht', ← text_length]
      rw [e]
      omega)
    have HB3 := hide hb3
    have HT' := hide lT'
    have HSZ := hide hszT
    have HOF := hide hof2
    have HNB := hide (And.intro hnb hcb)
    clear hof hof2 hnb hcb hW2 hb2 hb3 h3c ht' lT' hszT c12
    go_wp2_with fail
    refine HJ.out.mono ?_
    rintro e W4 ⟨rfl, hb4⟩
    clear HJ hW3
    have hbw4 : Below wc.heap.size wc W4 := HB3.out.trans (hb4.mono HB3.out.size)
    have hs4 := HS.out.below hbw4
    have z1 : W4.cell? ⟨bS, 1, none⟩ = some (.string text) := cell_at hs4.sh rfl
    have z1f : W4.frozen? ⟨bS, 1, none⟩ = false := by simp [World.frozen?, hs4.sh]
    obtain ⟨W5, hW5⟩ : ∃ W5, W4.setCell ⟨bS, 1, none⟩ (.string text') = W5 := ⟨_, rfl⟩
    have hS5 : W5.heap[bS]? = some (.cells #[.slice (some ⟨g, 0, none⟩) n cap, .string text', .slice (some ⟨lb, 0, none⟩) ls.length cp, .int .i64 work] 134 (0, 0)) := by rw [← hW5]; simpa using heap_setCell_same W4 bS 1 (.string text') hs4.sh
    have o45 : Off (fun k => k = bS) W4 W5 := by rw [← hW5]; exact Off.setCell (Y := fun k => k = bS) (p := ⟨bS, 1, none⟩) rfl hs4.sh (by decide) _
    have o5 : Off (fun k => k = bS) wc W5 := (Off.of_below hbw4).trans o45
    have l5 : LnsIs W5 B (.slice (some ⟨lb, 0, none⟩) ls.length cp) ls := hs4.lns.off o45 (fun k hk => by rw [hk]; exact hs4.lns.other hs4.sh (fun c => ⟨by simp, by simp⟩))
    obtain ⟨k, hk1, hk2, hk3⟩ := beg_of A
    obtain ⟨li, hli⟩ : ∃ li, li = Lib.lastIndexByte A 10 := ⟨_, rfl⟩
    rw [← hli] at hk1
    have haz : A.size ≤ 3000 := by
     have := congrArg List.length HL.out.1
     rw [text_length, List.length_take, text_length] at this
     omega
    have wl : IntKind.i64.wrap (li + 1) = (k : Int) := by rw [IntKind.wrap_i64]; omega
    have HLI := hide (show Calls Tryz.prog 98 #[.string A, .string ⟨#[10]⟩] W5 (fun e w' => e = .returned (.int .i64 li) ∧ w' = W5) from by
     rw [hli]
     exact Tryz.strings_LastIndex_one A ⟨#[10]⟩ rfl (by omega) W5)
    have HO5 := hide o5
    have HL5 := hide l5
    have HS5 := hide hS5
    have HBEG := hide hk3
    clear hb4 hbw4 hs4 hS5 o45 o5 l5 hk1 hli hk3
    go_wp2_with fail
    refine HLI.out.mono ?_
    rintro e w6 ⟨rfl, h6⟩
    subst w6
    clear HLI
    have hfn : f < nL := by have := HCNT.out; omega
    obtain ⟨x, hx⟩ : ∃ x, ls[f]? = some x := ⟨_, List.getElem?_eq_getElem (by rw [← HNL.out]; exact hfn)⟩
    have hgd : Good G x.st := HR.out.good hok ⟨⟨by simp, by simp⟩, fun y hy => by rw [List.mem_singleton.1 hy]; exact hpos⟩ x.pr (List.mem_map_of_mem (List.mem_of_getElem? hx))
    obtain ⟨a0, a1, a2, a3, a4, a5, a6, a7, a8, hst⟩ := nine hgd.1.2
    obtain ⟨lb', hlb', _, hcl⟩ := HL5.out.cells hx
    cases hlb'
    have hcc : ∀ (y : Nat) c, (stCells x.st)[y]? = some c → W5.cell? ⟨lb, f * 10 + y, none⟩ = some c := fun y c hy => hcl y c (by unfold LE.cells; rw [List.getElem?_append_left (get_lt hy)]; exact hy)
    rw [hst] at hcc
    have d0 := hcc 0 _ rfl
    have d1 := hcc 1 _ rfl
    have d2 := hcc 2 _ rfl
    have d3 := hcc 3 _ rfl
    have d4 := hcc 4 _ rfl
    have d5 := hcc 5 _ rfl
    have d6 := hcc 6 _ rfl
    have d7 := hcc 7 _ rfl
    have d8 := hcc 8 _ rfl
    rw [Nat.add_zero] at d0
    have e1 : W5.cell? ⟨bS, 1, none⟩ = some (.string text') := cell_at HS5.out rfl
    have e2 : W5.cell? ⟨bS, 2, none⟩ = some (.slice (some ⟨lb, 0, none⟩) nL cp) := by rw [HNL.out]; exact cell_at HS5.out rfl
    obtain ⟨T7, hT7⟩ : ∃ T7, T7 = text'.extract k text'.size := ⟨_, rfl⟩
    have hkt : k ≤ text'.size := by
     have h1 := congrArg List.length HL.out.1
     rw [text_length, List.length_take, text_length] at h1
     rw [HSZ.out]
     omega
    have lT7 : T7.data.toList = A.data.toList.drop k ++ put.data.toList ++ R.data.toList := by
     rw [hT7, extract_list, List.take_of_length_le (by rw [List.length_drop, text_length]; omega), HT'.out, List.append_assoc, List.append_assoc, List.drop_append_of_le_length (by rw [text_length]; exact hk2)]
    have hlb : lb ≠ bS := fun e => by
     have := HL5.out.other HS5.out (fun c => ⟨by simp, by simp⟩)
     exact this.1 (by rw [← e]; rfl)
    have hN5 : N ≤ bS := Nat.le_trans hN HS.out.base
    have hT5 : Tab W5 := HKK.out.1.keep (HO5.out.keep _ ⟨cell_lt (HKK.out.1 0 (by decide)), by omega⟩)
    have hM5 : Mx W5 := by
     obtain ⟨m, hm⟩ := HKK.out.2.2
     exact ⟨m, (World.cell?_of_block (HO5.out.keep 0 ⟨cell_lt hm, by show ¬ 0 = bS; omega⟩)).trans hm⟩
    have hG5 : ∀ w', Below N W5 w' → GramIs w' g n cap G := fun w' hb => HKK.out.2.1 w' ⟨hb.os.trans HO5.out.os, hb.tape.trans HO5.out.tape, hb.output.trans HO5.out.output, Nat.le_trans HO5.out.size hb.size, fun k hk => (hb.block k hk).trans (HO5.out.keep k ⟨by have := lt_of_get HS.out.sh; omega, by omega⟩)⟩
    have hbl : ((ls.drop kb).map LE.st).length = nb := by rw [List.length_map, List.length_drop, ← HNL.out, HNB.out.1]
    have hbeh : BehAt W5.drew bS (.slice (some ⟨lb, of, none⟩) nb cb) ((ls.drop kb).map LE.st) := by
     refine ⟨_, _, by rw [hbl], by rw [hbl]; have := HNB.out.1; omega, fun j st hj => ?_⟩
     rw [List.getElem?_map, List.getElem?_drop] at hj
     cases hy : ls[kb + j]? with
     | none => rw [hy] at hj; simp at hj
     | some y =>
      rw [hy] at hj
      simp only [Option.map_some, Option.some.injEq] at hj
      subst hj
      obtain ⟨lb', hlb', _, hcy⟩ := HL5.out.cells hy
      cases hlb'
      refine ⟨(HL5.out.each y (List.mem_of_getElem? hy)).1, lb, of, rfl, hlb, fun z c hz => ?_⟩
      have hlt := get_lt hy
      rw [← HNL.out] at hlt
      rw [HOF.out (by omega), show kb * 10 + j * 10 + z = (kb + j) * 10 + z by omega]
      exact hcy z c (by unfold LE.cells; rw [List.getElem?_append_left (get_lt hz)]; exact hz)
    have hlen7 : (splitL T7.data.toList).length = tc + ((ls.drop kb).map LE.st).length := by
     have h1 := HCNT.out
     have h2 := HF.out
     rw [hbl, splitL_length, lT7, List.count_append, List.count_append, List.count_eq_zero.2 HBEG.out.2.1, ← h2.2.2.2, HNB.out.1, HTC.out, h2.2.2.1]
     have h3 := HKB.out
     unfold Lib.countByte
     omega
    have hcol := colour_any N bS g n cap G T7 x.st tc (.slice (some ⟨lb, of, none⟩) nb cb) ((ls.drop kb).map LE.st) text' (.slice (some ⟨lb, 0, none⟩) ls.length cp) work W5.drew hok hgd (by
     have h1 := congrArg List.length lT7
     rw [text_length, List.length_append, List.length_append, List.length_drop, text_length, text_length, text_length] at h1
     have h2 := congrArg List.length HL.out.1
     rw [text_length, List.length_take, text_length] at h2
     have h3 := congrArg List.length HL.out.2.1
     rw [text_length, List.length_drop, text_length] at h3
     have h4 := HAN.out
     omega) hwk hT5 h0 (fun w' hb => hG5 w' ⟨hb.os, hb.tape, hb.output, hb.size, hb.block⟩) hN5 hM5 hMN HS5.out hbeh hlen7
    unfold stv at hcol
    rw [hst] at hcol
    have HCL := hide hcol
    have HKP := hide (fun (w' : World) (ho : Off (fun k => k = bS) W5.drew w') (hs : w'.heap[bS]? = some (.cells #[.slice (some ⟨g, 0, none⟩) n cap, .string text', .slice (some ⟨lb, 0, none⟩) ls.length cp, .int .i64 0] 134 (0, 0)) ∨ ∃ v, w'.heap[bS]? = some (.cells #[.slice (some ⟨g, 0, none⟩) n cap, .string text', .slice (some ⟨lb, 0, none⟩) ls.length cp, v] 134 (0, 0))) => show w'.cell? ⟨bS, 1, none⟩ = some (.string text') ∧ w'.cell? ⟨bS, 2, none⟩ = some (.slice (some ⟨lb, 0, none⟩) nL cp) ∧ w'.cell? ⟨lb, f * 10, none⟩ = some (.int .i64 a0) ∧ w'.cell? ⟨lb, f * 10 + 1, none⟩ = some (.int .i64 a1) ∧ w'.cell? ⟨lb, f * 10 + 2, none⟩ = some (.int .i64 a2) ∧ w'.cell? ⟨lb, f * 10 + 3, none⟩ = some (.int .i64 a3) ∧ w'.cell? ⟨lb, f * 10 + 4, none⟩ = some (.int .i64 a4) ∧ w'.cell? ⟨lb, f * 10 + 5, none⟩ = some (.int .i64 a5) ∧ w'.cell? ⟨lb, f * 10 + 6, none⟩ = some (.int .i64 a6) ∧ w'.cell? ⟨lb, f * 10 + 7, none⟩ = some (.int .i64 a7) ∧ w'.cell? ⟨lb, f * 10 + 8, none⟩ = some (.int .i64 a8) from by
     have key : ∀ j v, W5.cell? ⟨lb, j, none⟩ = some v → w'.cell? ⟨lb, j, none⟩ = some v := fun j v hj => (World.cell?_of_block (w := W5) (ho.keep lb ⟨cell_lt hj, hlb⟩)).trans hj
     obtain ⟨v, hv⟩ : ∃ v, w'.heap[bS]? = some (.cells #[.slice (some ⟨g, 0, none⟩) n cap, .string text', .slice (some ⟨lb, 0, none⟩) ls.length cp, v] 134 (0, 0)) := by
      rcases hs with h | h
      ·exact ⟨_, h⟩
      ·exact h
     exact ⟨cell_at hv rfl, by rw [HNL.out]; exact cell_at hv rfl, key _ _ d0, key _ _ d1, key _ _ d2, key _ _ d3, key _ _ d4, key _ _ d5, key _ _ d6, key _ _ d7, key _ _ d8⟩)
    have HX := hide hx
    have HT7 := hide lT7
    have HBL := hide hbl
    have hnl31 := htz
    have HT7E := hide hT7
    clear hcl hcc hst hgd hT5 hM5 hG5 hbeh hlen7 hcol hx lT7 hbl hT7
    go_wp2_with fail
    go_region_held3 (fun w' => w'.cell? ⟨bS, 1, none⟩ = some (.string text') ∧ w'.cell? ⟨bS, 2, none⟩ = some (.slice (some ⟨lb, 0, none⟩) nL cp) ∧ w'.cell? ⟨lb, f * 10, none⟩ = some (.int .i64 a0) ∧ w'.cell? ⟨lb, f * 10 + 1, none⟩ = some (.int .i64 a1) ∧ w'.cell? ⟨lb, f * 10 + 2, none⟩ = some (.int .i64 a2) ∧ w'.cell? ⟨lb, f * 10 + 3, none⟩ = some (.int .i64 a3) ∧ w'.cell? ⟨lb, f * 10 + 4, none⟩ = some (.int .i64 a4) ∧ w'.cell? ⟨lb, f * 10 + 5, none⟩ = some (.int .i64 a5) ∧ w'.cell? ⟨lb, f * 10 + 6, none⟩ = some (.int .i64 a6) ∧ w'.cell? ⟨lb, f * 10 + 7, none⟩ = some (.int .i64 a7) ∧ w'.cell? ⟨lb, f * 10 + 8, none⟩ = some (.int .i64 a8))
     (first
      | with_reducible exact hS6
      | go_keep)
     (first
      | (go_at_call 69; rw [← HT7E.out]; refine HCL.out.mono ?_; clear HCL; rintro e W6 ⟨v, anew, st, rfl, hl6, hr6, hg6, hle6, hs6, ho6, hd6, hf6⟩; have hS6 := HKP.out W6 ho6 (.inr ⟨_, hs6⟩); have HL6 := hide hl6; have HR6 := hide hr6; have HLE6 := hide hle6; have HS6 := hide hs6; have HO6 := hide ho6; have HD6 := hide hd6; have HF6 := hide hf6; obtain ⟨vao, vc, hv⟩ := row_slice hl6.row; subst hv; clear hl6 hr6 hg6 hle6 hs6 ho6 hd6 hf6))
    all_goals
     have hwt := HTC.out
     obtain ⟨na, hna⟩ : ∃ na, na = anew.length := ⟨_, rfl⟩
     have htot : (splitL T7.data.toList).length = tc + nb := by
      have h1 := HCNT.out
      have h2 := HF.out
      rw [splitL_length, HT7.out, List.count_append, List.count_append, List.count_eq_zero.2 HBEG.out.2.1, ← h2.2.2.2, HNB.out.1, HTC.out, h2.2.2.1]
      have h3 := HKB.out
      unfold Lib.countByte
      omega
     have htn : tc ≤ na := by
      rcases HF6.out with h | h
      ·omega
      ·omega
     have hnn : na ≤ tc + nb := by rw [hna, ← htot]; exact HLE6.out
     obtain ⟨dm, hdm⟩ : ∃ dm, dm = na - tc := ⟨_, rfl⟩
     have hdn : dm ≤ nb := by omega
     have wd : IntKind.i64.wrap ((na : Int) - (tc : Int)) = (dm : Int) := by rw [IntKind.wrap_i64]; have := HNB.out.1; omega
     obtain ⟨of2, hof, hof2⟩ : ∃ of2, (if cb = dm then some (⟨lb, of, none⟩ : Addr) else some ⟨lb, of + dm * 10, none⟩) = some ⟨lb, of2, none⟩ ∧ (dm < nb → of2 = (kb + dm) * 10) := by
      have h1 := HNB.out
      by_cases h : cb = dm
      ·exact ⟨of, by rw [if_pos h], fun h' => by omega⟩
      ·refine ⟨of + dm * 10, by rw [if_neg h], fun h' => ?_⟩
       rw [HOF.out (by omega)]
       omega
     have hvr := HL6.out.row
     rw [← hna] at hvr ⊢
     obtain ⟨va, _, hvv⟩ := own_form hvr (by omega)
     cases hvv
     have e62 := hS6.2.1
     have l6 : LnsIs W6 B (.slice (some ⟨lb, 0, none⟩) ls.length cp) ls := (HL5.out.below (Below.refl _ _).drew).off HO6.out (fun k hk => by rw [hk]; exact HL5.out.other HS5.out (fun c => ⟨by simp, by simp⟩))
     obtain ⟨W7, hW7⟩ : ∃ W7, (W6.alloc (.cells #[.slice (some ⟨lb, 0, none⟩) f cp, .slice (some ⟨va, 0, none⟩) na vc, .slice (some ⟨lb, of2, none⟩) (nb - dm) (cb - dm)] 132)).drew = W7 := ⟨_, rfl⟩
     have h7c : W7.heap[W6.heap.size]? = some (.cells #[.slice (some ⟨lb, 0, none⟩) f cp, .slice (some ⟨va, 0, none⟩) na vc, .slice (some ⟨lb, of2, none⟩) (nb - dm) (cb - dm)] 132 (0, 0)) := by rw [← hW7]; exact heap_alloc_last W6 _
     have hb7 : Below W6.heap.size W6 W7 := by rw [← hW7]; exact ((Below.refl _ _).alloc (Nat.le_refl _) _).drew
     have hparts : ∀ (j : Nat) s, ([⟨⟨lb, 0, none⟩, f, cp, (ls.take f).flatMap LE.cells⟩, ⟨⟨va, 0, none⟩, na, vc, anew.flatMap LE.cells⟩, ⟨⟨lb, of2, none⟩, nb - dm, cb - dm, ((ls.drop kb).drop dm).flatMap LE.cells⟩] : List Src)[j]? = some s → W7.cell? ⟨W6.heap.size, j, none⟩ = some (.slice (some s.ad) s.n s.c) ∧ SrcAt W7 s := by
      have h1 := HNB.out
      have h2 := HNL.out
      intro j s hj
      match j, hj with
      | 0, hj =>
       simp at hj; subst hj
       refine ⟨cell_at h7c rfl, SrcAt.below ⟨by rw [l6.take_len (by omega)], fun y u hu => ?_, fun u hu => l6.one (List.mem_flatMap.1 hu |>.imp fun x hx => ⟨List.mem_of_mem_take hx.1, hx.2⟩)⟩ hb7⟩
       have := l6.part (q := 0) (by rw [List.drop_zero]; exact flat_pre hu)
       rw [addr_add]
       simpa using this
      | 1, hj =>
       simp at hj; subst hj
       have l6a := HL6.out
       rw [← hna] at l6a
       refine ⟨cell_at h7c rfl, SrcAt.below ⟨by rw [hna]; exact l6a.all_len, fun y u hu => ?_, fun u hu => l6a.one (List.mem_flatMap.1 hu)⟩ hb7⟩
       rw [hna] at l6a
       have := l6a.part (q := 0) (by rw [List.drop_zero]; exact hu)
       rw [addr_add]
       simpa using this
      | 2, hj =>
       simp at hj; subst hj
       refine ⟨cell_at h7c rfl, SrcAt.below ⟨?_, fun y u hu => ?_, fun u hu => l6.one (List.mem_flatMap.1 hu |>.imp fun x hx => ⟨List.mem_of_mem_drop hx.1, hx.2⟩)⟩ hb7⟩
       ·show _ = (nb - dm) * 10
        rw [l6.drop_len]; congr 1; omega
       ·have hlt : dm < nb := by
         have h3 := get_lt hu
         rw [l6.drop_len] at h3
         omega
        have := l6.part hu
        rw [addr_add, hof2 hlt]
        exact this
      | j + 3, hj => simp at hj
     have hcat := concat_any W6.heap.size 3 [⟨⟨lb, 0, none⟩, f, cp, (ls.take f).flatMap LE.cells⟩, ⟨⟨va, 0, none⟩, na, vc, anew.flatMap LE.cells⟩, ⟨⟨lb, of2, none⟩, nb - dm, cb - dm, ((ls.drop kb).drop dm).flatMap LE.cells⟩] W7 (by simp) (by simp [sumN]; omega) (by simp [sumN]; have := HNB.out.1; omega) hparts
     have HCAT := hide (show Calls Tryz.prog 99 #[.slice (some ⟨W6.heap.size, 0, none⟩) 3 3] W7 _ from hcat)
     have HB7 := hide hb7
     have HS8 := hide (fun (W8 : World) (hb : Below W7.heap.size W7 W8) => show W8.heap[bS]? = some (.cells #[.slice (some ⟨g, 0, none⟩) n cap, .string text', .slice (some ⟨lb, 0, none⟩) ls.length cp, .int .i64 ((work + na : Nat) : Int)] 134 (0, 0)) from by
      have h1 := HS6.out
      have h2 := (hb7.block _ (lt_of_get h1)).trans h1
      rw [hna]
      exact (hb.block _ (lt_of_get h2)).trans h2)
     have HL6L := hide l6
     have HNA := hide hna
     have HOF2 := hide hof2
     have HDM := hide hdm
     have hfc : (f : Int) ≤ (cp : Int) := by omega
     have hdi : (dm : Int) ≤ (nb : Int) := by omega
     clear hS6 htot hna hdm hof2 hvr hparts hcat l6 hb7 h7c hwt d0 d1 d2 d3 d4 d5 d6 d7 d8 e1 e2 HKP
     go_wp2_with fail
     go_region_with (first
      | (go_at_call 99; refine HCAT.out.mono ?_; rintro e W8 ⟨v8, rfl, h8, hb8⟩; obtain ⟨ao8, c8, hv8⟩ := row_slice h8; subst hv8; have z8 := HS8.out W8 hb8; have z2 : W8.cell? ⟨bS, 2, none⟩ = some (.slice (some ⟨lb, 0, none⟩) ls.length cp) := (cell_at z8 rfl); have z2f : W8.frozen? ⟨bS, 2, none⟩ = false := (by simp [World.frozen?, z8]); have HZ8 := hide z8; have HH8 := hide h8; have HB8 := hide hb8; clear z8 h8 hb8))
     all_goals
      have HEND := hide (show ReplPost B bS g n cap G text ls work a an put wc (.returned (.tuple #[])) (W8.setCell ⟨bS, 2, none⟩ (.slice ao8 (sumN [⟨⟨lb, 0, none⟩, f, cp, (ls.take f).flatMap LE.cells⟩, ⟨⟨va, 0, none⟩, na, vc, anew.flatMap LE.cells⟩, ⟨⟨lb, of2, none⟩, nb - dm, cb - dm, ((ls.drop kb).drop dm).flatMap LE.cells⟩]) c8)) from by
       have hF := HF.out
       have hCN := HCNT.out
       have hNL := HNL.out
       have hKB := HKB.out
       have hNB := HNB.out
       have hDM := HDM.out
       have hNA := HNA.out
       have hTC := HTC.out
       have hsum : sumN [⟨⟨lb, 0, none⟩, f, cp, (ls.take f).flatMap LE.cells⟩, ⟨⟨va, 0, none⟩, na, vc, anew.flatMap LE.cells⟩, ⟨⟨lb, of2, none⟩, nb - dm, cb - dm, ((ls.drop kb).drop dm).flatMap LE.cells⟩] = (ls.take f ++ anew ++ (ls.drop kb).drop dm).length := by
        simp only [sumN, List.map_cons, List.map_nil, List.sum_cons, List.sum_nil, List.length_append, List.length_take, List.length_drop]
        omega
       have h8 := HH8.out
       rw [hsum] at h8 ⊢
       have hxs : ([⟨⟨lb, 0, none⟩, f, cp, (ls.take f).flatMap LE.cells⟩, ⟨⟨va, 0, none⟩, na, vc, anew.flatMap LE.cells⟩, ⟨⟨lb, of2, none⟩, nb - dm, cb - dm, ((ls.drop kb).drop dm).flatMap LE.cells⟩] : List Src).flatMap Src.xs = (ls.take f ++ anew ++ (ls.drop kb).drop dm).flatMap LE.cells := by
        simp only [List.flatMap_cons, List.flatMap_nil, List.flatMap_append, List.append_nil, List.append_assoc]
       rw [hxs] at h8
       obtain ⟨W9, hW9⟩ : ∃ W9, W8.setCell ⟨bS, 2, none⟩ (.slice ao8 (ls.take f ++ anew ++ (ls.drop kb).drop dm).length c8) = W9 := ⟨_, rfl⟩
       rw [hW9]
       have o9 : Off (fun k => k = bS) W8 W9 := by rw [← hW9]; exact Off.setCell (Y := fun k => k = bS) (p := ⟨bS, 2, none⟩) rfl HZ8.out (by decide) _
       have hS9 : W9.heap[bS]? = some (.cells #[.slice (some ⟨g, 0, none⟩) n cap, .string text', .slice ao8 (ls.take f ++ anew ++ (ls.drop kb).drop dm).length c8, .int .i64 ((work + na : Nat) : Int)] 134 (0, 0)) := by rw [← hW9]; simpa using heap_setCell_same W8 bS 2 _ HZ8.out
       have o69 : Off (fun k => k = bS) W6 W9 := ((Off.of_below HB7.out).trans (Off.of_below HB8.out)).trans o9
       have o56 : Off (fun k => k = bS) W5 W6 := (Off.of_below (Below.refl _ _).drew).trans HO6.out
       have key : ∀ (t : TypeId) (k : Nat) c, t ≠ 134 → W6.heap[k]? = some (.cells c t (0, 0)) → W9.heap[k]? = some (.cells c t (0, 0)) := fun t k c ht hh => off_typ o69 HS6.out hh ht
       have hbS := lt_of_get HS.out.sh
       have hz56 : B ≤ W5.heap.size := by have := HO5.out.size; have := HS.out.base; omega
       have hz67 : B ≤ W7.heap.size := by have := o56.size; have := HB7.out.size; omega
       have hlT : text.data.toList = A.data.toList ++ O.data.toList ++ R.data.toList := HL.out.2.2
       have hcA : A.data.toList.count 10 = f := hF.1.symm
       have hcO : O.data.toList.count 10 = co := hF.2.1.symm
       have hcP : put.data.toList.count 10 = cpu := hF.2.2.1.symm
       have hcRR : R.data.toList.count 10 = cR := hF.2.2.2.symm
       have hRun := HR.out
       rw [hlT] at hRun
       have hkbe : A.data.toList.count 10 + O.data.toList.count 10 + 1 = kb := by rw [hcA, hcO]; omega
       have htce : 1 + put.data.toList.count 10 = tc := by rw [hcP]; omega
       have hR6 := HR6.out
       rw [HT7.out] at hR6
       have hF6 := HF6.out
       rw [HT7.out] at hF6
       have hed := Runs.edit (P := put.data.toList) HBEG.out hRun (x := x.pr) (by rw [List.getElem?_map, hcA, HX.out]; rfl) (anew := anew.map LE.pr) (by rw [List.length_map]; exact hR6) (by
        rw [List.length_map, hkbe, htce]
        rcases hF6 with h | ⟨h1, h2⟩
        ·exact .inl h
        ·refine .inr ⟨h1, ?_⟩
         rw [← List.map_drop, List.map_map]
         exact h2)
       rw [hkbe, htce, hcA, List.length_map, ← hNA, ← hDM, ← List.map_take, ← List.map_drop, ← List.map_drop, ← List.map_append, ← List.map_append] at hed
       obtain ⟨sF, hed⟩ := hed
       have hbnd := more_bound (ls := ls.map LE.pr) (anew := anew.map LE.pr) (f := f) (o := co) (t := tc) (b := cR) (by rw [List.length_map]; omega) (by rw [List.length_map]; omega) (fun i y h1 h2 => by
        rw [List.getElem?_map] at h2
        cases hy : anew[i]? with
        | none => rw [hy] at h2; simp at h2
        | some z =>
         rw [hy] at h2
         simp only [Option.map_some, Option.some.injEq] at h2
         subst h2
         have := HD6.out i z h1 hy
         rw [show f + co + 1 = kb by omega, ← List.map_drop, List.map_map]
         exact this)
       rw [List.length_map, show f + co + 1 = kb by omega, ← hNA, ← hDM, ← List.map_take, ← List.map_drop, ← List.map_drop, ← List.map_append, ← List.map_append, List.map_map, List.map_map] at hbnd
       refine ⟨rfl, (HO5.out.trans o56).trans o69, text', _, ls.take f ++ anew ++ (ls.drop kb).drop dm, work + na, sF, by rw [HT'.out, HL.out.1, HL.out.2.1], ⟨hS9, ⟨?_, ?_⟩, HS.out.base, by have := HSZ.out; have := HAN.out; omega⟩, by rw [HT'.out]; exact hed, Nat.le_add_right _ _, ?_, by have h1 := HLE6.out; rw [splitL_length] at h1; have h2 := List.count_le_length (a := (10 : UInt8)) (l := T7.data.toList); rw [text_length] at h2; have h3 := congrArg List.length HT7.out; rw [text_length, List.length_append, List.length_append, List.length_drop, text_length, text_length, text_length] at h3; have h4 := HSZ.out; have h5 := HAN.out; have h6 := congrArg List.length HL.out.1; rw [text_length, List.length_take, text_length] at h6; have h7 := congrArg List.length HL.out.2.1; rw [text_length, List.length_drop, text_length] at h7; omega⟩
       ·exact row_base (row_typ h8 fun k c hh => off_typ o9 HZ8.out hh (by decide)) hz67
       ·intro y hy
        rcases List.mem_append.1 hy with hy | hy
        ·rcases List.mem_append.1 hy with hy | hy
         ·have hm := List.mem_of_mem_take hy
          exact ⟨(HL6L.out.each y hm).1, row_typ (HL6L.out.each y hm).2 (fun k c => key _ k c (by decide))⟩
         ·exact ⟨(HL6.out.each y hy).1, row_base (row_typ (HL6.out.each y hy).2 (fun k c => key _ k c (by decide))) hz56⟩
        ·have hm := List.mem_of_mem_drop (List.mem_of_mem_drop hy)
         exact ⟨(HL6L.out.each y hm).1, row_typ (HL6L.out.each y hm).2 (fun k c => key _ k c (by decide))⟩
       ·rw [← HL.out.2.1, hcRR, htce]
        have : na ≤ tc + moreN (ls.map LE.st) ((ls.take f ++ anew ++ (ls.drop kb).drop dm).map LE.st) cR := hbnd
        omega)
      go_end0
      exact HEND.out
theorem moreN_succ (old now : List (List Nat)) (j : Nat) : moreN old now (j + 1) = moreN old now j + (if old[old.length - (j + 1)]? = now[now.length - (j + 1)]? then 0 else 1) := by
 unfold moreN
 rw [List.range_succ, List.countP_append]
 by_cases h : old[old.length - (j + 1)]? = now[now.length - (j + 1)]?
 ·rw [if_pos h]; simp [h]
 ·rw [if_neg h]; simp [h]
theorem moreN_le (old now : List (List Nat)) (b : Nat) : moreN old now b ≤ b := by
 unfold moreN
 exact Nat.le_trans List.countP_le_length (by simp)
def MoreLoop (w : World) (c0 b : Nat) (old now : List (List Nat)) (k : Nat) (vn vk : Value) (wr : World) : Prop :=
 ∃ kk n : Nat, vk = .int .i64 kk ∧ vn = .int .i64 n ∧ 1 ≤ kk ∧ kk + k = b + 1 ∧ n = c0 + moreN old now (kk - 1) ∧ Below w.heap.size w wr
end Go.Proofs.YtgncgdkpkkdaeaaGreatDoor
