import Derived.Test.YtgncgdkpkkdaeaaGreatDoorKFa
import Derived.Deep.CutRange
import Derived.Deep.CutBlock
namespace Go.Proofs.YtgncgdkpkkdaeaaGreatDoor
open Go.RowKit Tint Go.Maps
def NB (c : UInt8) : Prop := c = 60 ∨ c = 62 ∨ c = 32 ∨ c = 53
def nd (d : Nat) (c : UInt8) : Nat := if c = 60 ∧ d < 8 then d + 1 else if c = 62 ∧ 1 < d then d - 1 else d
def dAt (T : List UInt8) (d j : Nat) : Nat := (T.take j).foldl nd d
theorem dAt_succ {T : List UInt8} {d j : Nat} {c : UInt8} (h : T[j]? = some c) : dAt T d (j + 1) = nd (dAt T d j) c := by
 unfold dAt
 rw [List.take_add_one, h]
 simp
theorem nd_in {d : Nat} {c : UInt8} (h : 1 ≤ d ∧ d ≤ 8) : 1 ≤ nd d c ∧ nd d c ≤ 8 := by
 unfold nd
 split
 ·omega
 ·split <;> omega
theorem dAt_in {T : List UInt8} {d : Nat} (h : 1 ≤ d ∧ d ≤ 8) : ∀ j, 1 ≤ dAt T d j ∧ dAt T d j ≤ 8 := by
 intro j
 induction j with
 | zero => exact h
 | succ j ih =>
  cases hc : T[j]? with
  | some c => rw [dAt_succ hc]; exact nd_in ih
  | none =>
   have : dAt T d (j + 1) = dAt T d j := by unfold dAt; rw [List.take_add_one, hc]; simp
   rw [this]; exact ih
def stk (d : Nat) : List Nat := 0 :: List.replicate (d - 1) 2
theorem stk_length {d : Nat} (h : 1 ≤ d) : (stk d).length = d := by simp [stk]; omega
theorem stk_top {d : Nat} (h : 1 ≤ d) : (stk d)[(stk d).length - 1]? = some (if d = 1 then 0 else 2) := by
 rw [stk_length h]
 unfold stk
 by_cases hd : d = 1
 ·subst hd; rfl
 ·obtain ⟨k, rfl⟩ : ∃ k, d = k + 2 := ⟨d - 2, by omega⟩
  rw [if_neg hd]
  simp
theorem stk_push {d : Nat} (h : 1 ≤ d) : stk d ++ [2] = stk (d + 1) := by
 obtain ⟨k, rfl⟩ : ∃ k, d = k + 1 := ⟨d - 1, by omega⟩
 simp [stk, List.replicate_succ']
theorem stk_pop {d : Nat} (h : 1 < d) : (stk d).dropLast = stk (d - 1) := by
 obtain ⟨k, rfl⟩ : ∃ k, d = k + 2 := ⟨d - 2, by omega⟩
 rw [← stk_push (d := k + 1) (by omega)]
 simp
def markB : ByteArray := ⟨#[109, 97, 114, 107]⟩
def numberB : ByteArray := ⟨#[110, 117, 109, 98, 101, 114]⟩
def noteB : ByteArray := ⟨#[110, 111, 116, 101]⟩
structure CodeG (G : List GS) (s0 s2 : GS) (r0 r1 r2 r3 q0 q1 : GR) : Prop where
 g0 : G[0]? = some s0
 g2 : G[2]? = some s2
 rs0 : s0.rs = [r0, r1, r2, r3]
 rs2 : s2.rs = [q0, q1]
 nm : s2.nm = noteB
 a0 : r0.a.re = .cls (.range 34 34)
 a1 : r1.a.re = .cls (.range 60 60) ∧ r1.k = 1 ∧ r1.op = 2 ∧ r1.co = markB
 a2 : r2.a.re = .plus (.cls (.range 48 57)) ∧ r2.k = 0 ∧ r2.co = numberB
 a3 : r3.a.re = .plus (.cls (.range 97 122))
 b0 : q0.a.re = .cls (.range 60 60) ∧ q0.k = 1 ∧ q0.op = 2 ∧ q0.co = markB
 b1 : q1.a.re = .cls (.range 62 62) ∧ q1.k = 2 ∧ q1.co = markB
theorem bytes_of {b : ByteArray} {l : List UInt8} (h : b.data.toList = l) : b = ⟨l.toArray⟩ := by
 cases b with
 | mk d => congr 1; exact Array.toList_inj.1 (by simpa using h)
theorem list4 {α : Type} {l : List α} (h : l.length = 4) : ∃ a b c d, l = [a, b, c, d] := by
 match l, h with
 | [a, b, c, d], _ => exact ⟨a, b, c, d, rfl⟩
theorem list2 {α : Type} {l : List α} (h : l.length = 2) : ∃ a b, l = [a, b] := by
 match l, h with
 | [a, b], _ => exact ⟨a, b, rfl⟩
theorem rule_of {names : List (List UInt8)} {d : Nat} {o c p : List UInt8} {r : GR} {re : Re} (h : RuleIs names (.rule d o c p) r) (hp : PAlt p (some (re, []))) : r.a.re = re ∧ r.k = d ∧ r.co = ⟨c.toArray⟩ ∧ (d = 1 → names[r.op]? = some o) := by
 obtain ⟨d', o', c', p', e, h1, _, h3, h4, h5, _⟩ := h
 cases e
 have := h5.det hp
 simp only [Option.some.injEq, Prod.mk.injEq, and_true] at this
 exact ⟨this, h1, bytes_of h3, h4⟩
theorem op_note {i : Nat} (h : (lnNames codeLns)[i]? = some [110, 111, 116, 101]) : i = 2 := by
 have e : lnNames codeLns = [[99, 111, 100, 101], [116, 101, 120, 116], [110, 111, 116, 101]] := rfl
 rw [e] at h
 match i, h with
 | 0, h => simp at h
 | 1, h => simp at h
 | 2, _ => rfl
 | i + 3, h => simp at h
theorem code_g {G : List GS} (h : LnsG codeLns G) : ∃ s0 s2 r0 r1 r2 r3 q0 q1, CodeG G s0 s2 r0 r1 r2 r3 q0 q1 := by
 have e : lnNames codeLns = [[99, 111, 100, 101], [116, 101, 120, 116], [110, 111, 116, 101]] := rfl
 have hn := h.names
 rw [e] at hn
 have hl : G.length = 3 := by simpa using (congrArg List.length hn).symm
 obtain ⟨s0, hs0⟩ : ∃ s, G[0]? = some s := ⟨_, List.getElem?_eq_getElem (by omega)⟩
 obtain ⟨s2, hs2⟩ : ∃ s, G[2]? = some s := ⟨_, List.getElem?_eq_getElem (by omega)⟩
 obtain ⟨l0, f0⟩ := h.rules 0 s0 hs0
 obtain ⟨l2, f2⟩ := h.rules 2 s2 hs2
 have e0 : secL 0 codeLns 0 = [(11, .rule 1 [116, 101, 120, 116] [113, 117, 111, 116, 101] [34]), (31, .rule 1 [110, 111, 116, 101] [109, 97, 114, 107] [60]), (50, .rule 0 [] [110, 117, 109, 98, 101, 114] [91, 48, 45, 57, 93, 43]), (72, .rule 0 [] [119, 111, 114, 100] [91, 97, 45, 122, 93, 43])] := rfl
 have e2 : secL 0 codeLns 2 = [(145, .rule 1 [110, 111, 116, 101] [109, 97, 114, 107] [60]), (164, .rule 2 [] [109, 97, 114, 107] [62])] := rfl
 rw [e0] at l0 f0
 rw [e2] at l2 f2
 obtain ⟨r0, r1, r2, r3, hr⟩ := list4 l0.symm
 obtain ⟨q0, q1, hq⟩ := list2 l2.symm
 rw [hr] at f0
 rw [hq] at f2
 have k0 := rule_of (f0 0 _ r0 rfl rfl) pat_quote
 have k1 := rule_of (f0 1 _ r1 rfl rfl) pat_lt
 have k2 := rule_of (f0 2 _ r2 rfl rfl) pat_number
 have k3 := rule_of (f0 3 _ r3 rfl rfl) pat_word
 have j0 := rule_of (f2 0 _ q0 rfl rfl) pat_lt
 have j1 := rule_of (f2 1 _ q1 rfl rfl) pat_gt
 refine ⟨s0, s2, r0, r1, r2, r3, q0, q1, hs0, hs2, hr, hq, ?_, k0.1, ⟨k1.1, k1.2.1, op_note (k1.2.2.2 rfl), k1.2.2.1⟩, ⟨k2.1, k2.2.1, k2.2.2.1⟩, k3.1, ⟨j0.1, j0.2.1, op_note (j0.2.2.2 rfl), j0.2.2.1⟩, j1.1, j1.2.1, j1.2.2.1⟩
 have h2 := congrArg (·[2]?) hn
 simp only [List.getElem?_map, hs2, Option.map_some] at h2
 simp only [List.getElem?_cons_succ, List.getElem?_cons_zero, Option.some.injEq] at h2
 exact bytes_of h2.symm
theorem seg_get {T : List UInt8} {i e j : Nat} (h1 : i ≤ j) (h2 : j < e) : (seg T i e)[j - i]? = T[j]? := by
 unfold seg
 rw [List.getElem?_take, if_pos (by omega), List.getElem?_drop]
 congr 1
 omega
theorem seg_head {T u : List UInt8} {i j : Nat} {c : UInt8} (h : seg T i j = c :: u) : i < j ∧ T[i]? = some c := by
 have hlt : i < j := by
  rcases Nat.lt_or_ge i j with h1 | h1
  ·exact h1
  ·unfold seg at h
   rw [Nat.sub_eq_zero_of_le h1] at h
   simp at h
 refine ⟨hlt, ?_⟩
 rw [← seg_get (Nat.le_refl i) hlt, h]
 simp
theorem from_cls {c : Cls} {T : List UInt8} {p : Nat} (h : From (.cls c) T p) : ∃ b, T[p]? = some b ∧ c.has b = true := by
 obtain ⟨j, _, _, hm⟩ := h
 obtain ⟨b, hb, hc⟩ := mt_cls.1 hm
 exact ⟨b, (seg_head hb).2, hc⟩
theorem from_plus {c : Cls} {T : List UInt8} {p : Nat} (h : From (.plus (.cls c)) T p) : ∃ b, T[p]? = some b ∧ c.has b = true := by
 obtain ⟨j, _, _, hm⟩ := h
 obtain ⟨u, v, hs, h1, _⟩ := mt_plus.1 hm
 obtain ⟨b, rfl, hc⟩ := mt_cls.1 h1
 exact ⟨b, (seg_head hs).2, hc⟩
theorem cls_from {c : Cls} {T : List UInt8} {p : Nat} {b : UInt8} (h : T[p]? = some b) (hc : c.has b = true) : From (.cls c) T p ∧ From (.plus (.cls c)) T p := by
 have hl : p + 1 ≤ T.length := get_lt h
 refine ⟨⟨p + 1, by omega, hl, ?_⟩, ⟨p + 1, by omega, hl, ?_⟩⟩
 ·rw [seg_one T h]; exact .cls hc
 ·rw [seg_one T h]; exact Mt.plus (u := [b]) (v := []) (.cls hc) .star0
theorem long_cls {c : Cls} {T : List UInt8} {p e : Nat} (h : Long (.cls c) T p e) (hf : From (.cls c) T p) : e = p + 1 := by
 obtain ⟨b, hb, hc⟩ := from_cls hf
 obtain ⟨h1, h2, h3, h4⟩ := h
 have hl : p + 1 ≤ T.length := get_lt hb
 have hm : Mt (.cls c) (seg T p (p + 1)) := by rw [seg_one T hb]; exact .cls hc
 rcases Nat.lt_or_ge e (p + 1) with h5 | h5
 ·exact absurd hm (h4 _ h5 hl)
 ·rcases h3 with h3 | h3
  ·omega
  ·obtain ⟨b', hb', _⟩ := mt_cls.1 h3
   have hlen := congrArg List.length hb'
   simp only [seg, List.length_take, List.length_drop, List.length_singleton] at hlen
   omega
theorem star_all {c : Cls} {u : List UInt8} (h : Mt (.star (.cls c)) u) : ∀ x ∈ u, c.has x = true := by
 generalize hr : Re.star (.cls c) = r at h
 induction h with
 | star0 => intro x hx; simp at hx
 | starS ha _ _ ih =>
  cases hr
  intro x hx
  obtain ⟨b, rfl, hc⟩ := mt_cls.1 ha
  rcases List.mem_append.1 hx with hx | hx
  ·rw [List.mem_singleton.1 hx]; exact hc
  ·exact ih rfl x hx
 | _ => cases hr
theorem long_plus {c : Cls} {T : List UInt8} {p e : Nat} (h : Long (.plus (.cls c)) T p e) : ∀ j b, p ≤ j → j < e → T[j]? = some b → c.has b = true := by
 intro j b h1 h2 hb
 obtain ⟨_, _, h3 | h3, _⟩ := h
 ·omega
 ·obtain ⟨u, v, hs, ha, hv⟩ := mt_plus.1 h3
  have hm : b ∈ seg T p e := List.mem_of_getElem? ((seg_get h1 h2).trans hb)
  rw [hs] at hm
  obtain ⟨x, rfl, hc⟩ := mt_cls.1 ha
  rcases List.mem_append.1 hm with hm | hm
  ·rw [List.mem_singleton.1 hm]; exact hc
  ·exact star_all hv b hm
theorem range_one {a b : UInt8} (h : (Cls.range a a).has b = true) : b = a := by
 simp only [Cls.has, Bool.and_eq_true, decide_eq_true_eq] at h
 exact UInt8.toNat_inj.1 (by omega)
theorem one_range (a : UInt8) : (Cls.range a a).has a = true := by simp [Cls.has]
def ByteOk (T : List UInt8) (d0 : Nat) (x : Sp) : Prop := ∀ j c, x.fr ≤ j → j < x.to → T[j]? = some c →
 x.dep = dAt T d0 j ∧ (x.co = markB ↔ (c = 60 ∨ c = 62 ∧ 1 < dAt T d0 j)) ∧ (x.co = numberB ↔ (c = 53 ∧ dAt T d0 j = 1))
def Still (d : Nat) (c : UInt8) : Prop := c ≠ 60 ∧ (d = 1 → c ≠ 53) ∧ (d ≠ 1 → c ≠ 62)
theorem Still.nd {d : Nat} {c : UInt8} (h : Still d c) : nd d c = d := by
 unfold Go.Proofs.YtgncgdkpkkdaeaaGreatDoor.nd
 rw [if_neg (fun e => h.1 e.1)]
 by_cases h1 : d = 1
 ·rw [if_neg (by omega)]
 ·rw [if_neg (fun e => h.2.2 h1 e.1)]
theorem still_run {T : List UInt8} {d0 a b : Nat} (h : ∀ j c, a ≤ j → j < b → T[j]? = some c → Still (dAt T d0 a) c) (hb : b ≤ T.length) : ∀ j, a ≤ j → j ≤ b → dAt T d0 j = dAt T d0 a := by
 intro j
 induction j with
 | zero => intro h1 _; rw [show a = 0 by omega]
 | succ j ih =>
  intro h1 h2
  rcases Nat.lt_or_ge j a with h3 | h3
  ·rw [show a = j + 1 by omega]
  ·have e := ih h3 (by omega)
   obtain ⟨c, hc⟩ : ∃ c, T[j]? = some c := ⟨_, List.getElem?_eq_getElem (by omega)⟩
   rw [dAt_succ hc, e, (h j c h3 (by omega) hc).nd]
theorem gap_ok {T : List UInt8} {d0 a b : Nat} (h : ∀ j c, a ≤ j → j < b → T[j]? = some c → Still (dAt T d0 a) c) (hb : b ≤ T.length) (nm : ByteArray) : ByteOk T d0 ⟨a, b, nm, dAt T d0 a, ⟨#[]⟩⟩ := by
 intro j c h1 h2 hc
 have e := still_run h hb j h1 (Nat.le_of_lt h2)
 have hs := h j c h1 h2 hc
 refine ⟨e.symm, ⟨fun h0 => absurd (show (⟨#[]⟩ : ByteArray) = markB from h0) (by decide), fun h0 => ?_⟩, ⟨fun h0 => absurd (show (⟨#[]⟩ : ByteArray) = numberB from h0) (by decide), fun h0 => ?_⟩⟩
 ·rcases h0 with h0 | ⟨h0, h3⟩
  ·exact absurd h0 hs.1
  ·rw [e] at h3
   exact absurd h0 (hs.2.2 (by omega))
 ·rw [e] at h0
  exact absurd h0.1 (hs.2.1 h0.2)
section
variable {G : List GS} {s0 s2 : GS} {r0 r1 r2 r3 q0 q1 : GR} (hG : CodeG G s0 s2 r0 r1 r2 r3 q0 q1)
include hG
theorem top_rules {d top : Nat} {s : GS} (hd : 1 ≤ d) (ht : (stk d)[(stk d).length - 1]? = some top) (hs : G[top]? = some s) : (d = 1 ∧ s.rs = [r0, r1, r2, r3]) ∨ (d ≠ 1 ∧ s.rs = [q0, q1]) := by
 rw [stk_top hd] at ht
 simp only [Option.some.injEq] at ht
 by_cases h1 : d = 1
 ·rw [if_pos h1] at ht
  subst ht
  rw [hG.g0] at hs
  cases hs
  exact .inl ⟨h1, hG.rs0⟩
 ·rw [if_neg h1] at ht
  subst ht
  rw [hG.g2] at hs
  cases hs
  exact .inr ⟨h1, hG.rs2⟩
theorem still_of {T : List UInt8} {d j : Nat} {c : UInt8} {rs : List GR} (hr : (d = 1 ∧ rs = [r0, r1, r2, r3]) ∨ (d ≠ 1 ∧ rs = [q0, q1])) (hc : T[j]? = some c) (h : ∀ (k : Nat) (r : GR), rs[k]? = some r → ¬ From r.a.re T j) : Still d c := by
 rcases hr with ⟨h1, rfl⟩ | ⟨h1, rfl⟩
 ·refine ⟨fun e => ?_, fun _ e => ?_, fun e => absurd h1 e⟩
  ·subst e
   refine h 1 r1 rfl ?_
   rw [hG.a1.1]
   exact (cls_from hc (one_range 60)).1
  ·subst e
   refine h 2 r2 rfl ?_
   rw [hG.a2.1]
   exact (cls_from hc (by decide)).2
 ·refine ⟨fun e => ?_, fun e => absurd e h1, fun _ e => ?_⟩
  ·subst e
   refine h 0 q0 rfl ?_
   rw [hG.b0.1]
   exact (cls_from hc (one_range 60)).1
  ·subst e
   refine h 1 q1 rfl ?_
   rw [hG.b1.1]
   exact (cls_from hc (one_range 62)).1
theorem hit_ok {T : List UInt8} (hT : ∀ c ∈ T, NB c) {d0 p : Nat} (hd0 : 1 ≤ d0 ∧ d0 ≤ 8) {rs : List GR} (hr : (dAt T d0 p = 1 ∧ rs = [r0, r1, r2, r3]) ∨ (dAt T d0 p ≠ 1 ∧ rs = [q0, q1])) {k : Nat} {r : GR} {e : Nat} (hk : rs[k]? = some r) (hf : From r.a.re T p) (hl : Long r.a.re T p e) (nm : ByteArray) :
  ByteOk T d0 ⟨p, e, nm, dAt T d0 p, r.co⟩ ∧ aft r.k r.op (stk (dAt T d0 p)) = stk (dAt T d0 e) := by
 have hin := dAt_in (T := T) hd0 p
 have one : ∀ {b : UInt8}, T[p]? = some b → e = p + 1 → (r.co = markB) → (b = 60 ∨ b = 62 ∧ 1 < dAt T d0 p) → ByteOk T d0 ⟨p, e, nm, dAt T d0 p, r.co⟩ := by
  intro b hb he hco hor j c h1 h2 hc
  have hj : j = p := by have : j < e := h2; have : p ≤ j := h1; omega
  subst hj
  rw [hb] at hc
  cases hc
  refine ⟨rfl, ⟨fun _ => hor, fun _ => hco⟩, ⟨fun h => ?_, fun h => ?_⟩⟩
  ·have h' : r.co = numberB := h
   rw [hco] at h'
   exact absurd h' (by decide)
  ·rcases hor with h0 | ⟨h0, _⟩ <;> rw [h0] at h <;> exact absurd h.1 (by decide)
 rcases hr with ⟨h1, rfl⟩ | ⟨h1, rfl⟩
 ·match k, hk with
  | 0, hk =>
   simp at hk
   subst hk
   rw [hG.a0] at hf
   obtain ⟨b, hb, hc⟩ := from_cls hf
   have := hT b (List.mem_of_getElem? hb)
   rw [range_one hc] at this
   rcases this with h | h | h | h <;> exact absurd h (by decide)
  | 1, hk =>
   simp at hk
   subst hk
   obtain ⟨a1, a2, a3, a4⟩ := hG.a1
   rw [a1] at hf hl
   obtain ⟨b, hb, hc⟩ := from_cls hf
   have he := long_cls hl hf
   have hb60 := range_one hc
   refine ⟨one hb he a4 (.inl hb60), ?_⟩
   rw [he, dAt_succ hb, h1, a2, a3, hb60]
   rfl
  | 2, hk =>
   simp at hk
   subst hk
   obtain ⟨a1, a2, a3⟩ := hG.a2
   rw [a1] at hl
   have hdig : ∀ j c, p ≤ j → j < e → T[j]? = some c → c = 53 := by
    intro j c j1 j2 hc
    have h5 := long_plus hl j c j1 j2 hc
    rcases hT c (List.mem_of_getElem? hc) with h | h | h | h
    ·rw [h] at h5; exact absurd h5 (by decide)
    ·rw [h] at h5; exact absurd h5 (by decide)
    ·rw [h] at h5; exact absurd h5 (by decide)
    ·exact h
   have hrun : ∀ j, p ≤ j → j ≤ e → dAt T d0 j = 1 := by
    intro j
    induction j with
    | zero => intro j1 _; obtain rfl : p = 0 := (by omega); exact h1
    | succ j ih =>
     intro j1 j2
     rcases Nat.lt_or_ge j p with j3 | j3
     ·obtain rfl : p = j + 1 := by omega
      exact h1
     ·obtain ⟨c, hc⟩ : ∃ c, T[j]? = some c := ⟨_, List.getElem?_eq_getElem (by have := hl.2.1; omega)⟩
      rw [dAt_succ hc, ih j3 (by omega), hdig j c j3 (by omega) hc]
      rfl
   refine ⟨fun j c j1 j2 hc => ?_, ?_⟩
   ·have j2' : j < e := j2
    have e1 := hrun j j1 (Nat.le_of_lt j2')
    have e2 := hdig j c j1 j2' hc
    refine ⟨by rw [e1]; exact h1, ⟨fun h => ?_, fun h => ?_⟩, ⟨fun _ => ⟨e2, e1⟩, fun _ => a3⟩⟩
    ·have h' : r2.co = markB := h
     rw [a3] at h'
     exact absurd h' (by decide)
    ·rw [e2] at h
     rcases h with h | ⟨h, _⟩ <;> exact absurd h (by decide)
   ·rw [hrun e hl.1 (Nat.le_refl _), h1, a2]
    rfl
  | 3, hk =>
   simp at hk
   subst hk
   rw [hG.a3] at hf
   obtain ⟨b, hb, hc⟩ := from_plus hf
   rcases hT b (List.mem_of_getElem? hb) with h | h | h | h <;> rw [h] at hc <;> exact absurd hc (by decide)
  | k + 4, hk => simp at hk
 ·match k, hk with
  | 0, hk =>
   simp at hk
   subst hk
   obtain ⟨a1, a2, a3, a4⟩ := hG.b0
   rw [a1] at hf hl
   obtain ⟨b, hb, hc⟩ := from_cls hf
   have he := long_cls hl hf
   have hb60 := range_one hc
   refine ⟨one hb he a4 (.inl hb60), ?_⟩
   rw [he, dAt_succ hb, a2, a3, hb60]
   unfold aft nd
   rw [stk_length hin.1]
   by_cases h8 : dAt T d0 p < 8
   ·rw [if_pos ⟨rfl, h8⟩, if_pos ⟨rfl, h8⟩, stk_push hin.1]
   ·have n1 : ¬ ((1 : Nat) = 1 ∧ dAt T d0 p < 8) := fun h => h8 h.2
    have n2 : ¬ ((1 : Nat) = 2 ∧ 1 < dAt T d0 p) := fun h => absurd h.1 (by decide)
    have n3 : ¬ ((60 : UInt8) = 60 ∧ dAt T d0 p < 8) := fun h => h8 h.2
    have n4 : ¬ ((60 : UInt8) = 62 ∧ 1 < dAt T d0 p) := fun h => absurd h.1 (by decide)
    rw [if_neg n1, if_neg n2, if_neg n3, if_neg n4]
  | 1, hk =>
   simp at hk
   subst hk
   obtain ⟨a1, a2, a4⟩ := hG.b1
   rw [a1] at hf hl
   obtain ⟨b, hb, hc⟩ := from_cls hf
   have he := long_cls hl hf
   have hb62 := range_one hc
   have hgt : 1 < dAt T d0 p := by omega
   refine ⟨one hb he a4 (.inr ⟨hb62, hgt⟩), ?_⟩
   rw [he, dAt_succ hb, a2, hb62]
   unfold aft nd
   rw [stk_length hin.1, if_neg (fun h => absurd h.1 (by decide)), if_pos ⟨rfl, hgt⟩, if_neg (fun h => absurd h.1 (by decide)), if_pos ⟨rfl, hgt⟩, stk_pop hgt]
  | k + 2, hk => simp at hk
theorem Fwd.nest {T : List UInt8} (hT : ∀ c ∈ T, NB c) {d0 : Nat} (hd0 : 1 ≤ d0 ∧ d0 ≤ 8) {at_ : Nat} {st : List Nat} {sps : List Sp} {st' : List Nat} (h : Fwd G T at_ st sps st') : st = stk (dAt T d0 at_) → (∀ x ∈ sps, ByteOk T d0 x) ∧ st' = stk (dAt T d0 T.length) := by
 induction h with
 | done h1 => intro e; rw [← h1]; exact ⟨fun x hx => by simp at hx, e⟩
 | @none at_ st top s h1 h2 h3 h4 =>
  intro e
  have hin := dAt_in (T := T) hd0 at_
  rw [e] at h2
  have hr := top_rules hG hin.1 h2 h3
  have hst : ∀ j c, at_ ≤ j → j < T.length → T[j]? = some c → Still (dAt T d0 at_) c := fun j c j1 j2 hc => still_of hG hr hc (h4 j j1 j2)
  refine ⟨fun x hx => ?_, by rw [e, still_run hst (Nat.le_refl _) T.length (Nat.le_of_lt h1) (Nat.le_refl _)]⟩
  rw [List.mem_singleton.1 hx, e, stk_length hin.1]
  exact gap_ok hst (Nat.le_refl _) _
 | @hit at_ st top s p k r e' sps st' h1 h2 h3 h4 h5 ih =>
  intro e
  have hin := dAt_in (T := T) hd0 at_
  rw [e] at h2
  have hr := top_rules hG hin.1 h2 h3
  have hst : ∀ j c, at_ ≤ j → j < p → T[j]? = some c → Still (dAt T d0 at_) c := fun j c j1 j2 hc => still_of hG hr hc (fun k' r' => h4.least j j1 j2 k' r')
  have hp : p ≤ T.length := Nat.le_of_lt h4.lt
  have hrun := still_run hst hp p h4.le (Nat.le_refl _)
  rw [← hrun] at hr
  obtain ⟨k1, k2⟩ := hit_ok hG hT hd0 hr h4.rule h4.from_ h4.long s.nm
  rw [hrun] at k2
  rw [← e] at k2
  obtain ⟨i1, i2⟩ := ih k2
  refine ⟨fun x hx => ?_, i2⟩
  rw [e, stk_length hin.1] at hx
  rcases List.mem_append.1 hx with hx | hx
  ·unfold gapL at hx
   split at hx
   ·rw [List.mem_singleton.1 hx]
    exact gap_ok hst hp _
   ·simp at hx
  ·rcases List.mem_cons.1 hx with rfl | hx
   ·rw [← hrun]; exact k1
   ·exact i1 x hx
end
def dL (ls : List (List UInt8)) (d : Nat) : Nat → Nat
 | 0 => d
 | i + 1 => match ls[i]? with
  | some l => dAt l (dL ls d i) l.length
  | none => dL ls d i
theorem dL_in {ls : List (List UInt8)} {d : Nat} (h : 1 ≤ d ∧ d ≤ 8) : ∀ i, 1 ≤ dL ls d i ∧ dL ls d i ≤ 8 := by
 intro i
 induction i with
 | zero => exact h
 | succ i ih =>
  unfold dL
  split
  ·exact dAt_in ih _
  ·exact ih
theorem dL_succ {ls : List (List UInt8)} {d i : Nat} {l : List UInt8} (h : ls[i]? = some l) : dL ls d (i + 1) = dAt l (dL ls d i) l.length := by
 conv => lhs; unfold dL
 rw [h]
theorem dL_cons {l : List UInt8} {ls : List (List UInt8)} {d : Nat} : ∀ i, dL (l :: ls) d (i + 1) = dL ls (dAt l d l.length) i := by
 intro i
 induction i with
 | zero => rfl
 | succ i ih =>
  conv => lhs; unfold dL
  conv => rhs; unfold dL
  rw [List.getElem?_cons_succ, ih]
theorem Runs.nest {G : List GS} {s0 s2 : GS} {r0 r1 r2 r3 q0 q1 : GR} (hG : CodeG G s0 s2 r0 r1 r2 r3 q0 q1) {st : List Nat} {ls : List (List UInt8)} {out : List (List Nat × List Sp)} {st' : List Nat} (h : Runs G st ls out st') :
  ∀ {d : Nat}, 1 ≤ d ∧ d ≤ 8 → st = stk d → (∀ l ∈ ls, ∀ c ∈ l, NB c) → ∀ (i : Nat) y, out[i]? = some y → ∃ l, ls[i]? = some l ∧ y.1 = stk (dL ls d i) ∧ ∀ x ∈ y.2, ByteOk l (dL ls d i) x := by
 induction h with
 | nil => intro d _ _ _ i y hy; simp at hy
 | @cons st l ls sps st1 out st' ht hr ih =>
  intro d hd e hb i y hy
  obtain ⟨k1, k2⟩ := ht.fwd.nest hG (hb l List.mem_cons_self) hd (by rw [e]; rfl)
  cases i with
  | zero => simp at hy; subst hy; exact ⟨l, rfl, e, k1⟩
  | succ i =>
   simp only [List.getElem?_cons_succ] at hy
   obtain ⟨l', a1, a2, a3⟩ := ih (dAt_in hd _) k2 (fun l hl => hb l (List.mem_cons_of_mem _ hl)) i y hy
   refine ⟨l', by simpa using a1, by rw [dL_cons]; exact a2, by rw [dL_cons]; exact a3⟩
end Go.Proofs.YtgncgdkpkkdaeaaGreatDoor
namespace Go.Proofs.YtgncgdkpkkdaeaaGreatDoor
open Go.RowKit Tint Go.Maps Go.Shelf
def NsDoc (w : World) (n k : Nat) (vs vi : Value) (wr : World) : Prop :=
 ∃ (i : Nat) (s : ByteArray), vs = .string s ∧ vi = .int .i64 i ∧ s.size = i ∧ i + k = min n 200 ∧ (∀ c ∈ s.data.toList, NB c ∨ c = 10) ∧ Below w.heap.size w wr
def NsLoop (w : World) (ls : List (List UInt8)) (nl : Nat) (k : Nat) (vd vi : Value) (wr : World) : Prop :=
 ∃ j : Nat, vi = .int .i64 j ∧ vd = .int .i64 (dL ls 1 j) ∧ j + k = nl ∧ Below w.heap.size w wr
def NsIn (w : World) (sps : List Sp) (l : List UInt8) (d0 : Nat) (k : Nat) (vd vk vj : Value) (wr : World) : Prop :=
 ∃ (j q : Nat), vj = .int .i64 j ∧ vk = .int .i64 q ∧ vd = .int .i64 (dAt l d0 j) ∧ j + k = l.length ∧ q ≤ sps.length ∧ endOf (sps.take q) ≤ j ∧ (∀ z, sps[q]? = some z → j ≤ z.to) ∧ Below w.heap.size w wr
def NsDone (w : World) (vs vi : Value) (wr : World) : Prop :=
 ∃ (i : Nat) (s : ByteArray), vs = .string s ∧ vi = .int .i64 i ∧ s.size ≤ 200 ∧ (∀ c ∈ s.data.toList, NB c ∨ c = 10) ∧ Below w.heap.size w wr
theorem sign_bytes (r : Nat) : ∀ c ∈ ((⟨#[60, 60, 60, 62, 62, 32, 53, 10]⟩ : ByteArray).extract r (r + 1)).data.toList, NB c ∨ c = 10 := by
 intro c hc
 have hm : c ∈ (⟨#[60, 60, 60, 62, 62, 32, 53, 10]⟩ : ByteArray).data.toList := by
  rw [extract_list] at hc
  exact List.mem_of_mem_drop (List.mem_of_mem_take hc)
 simp at hm
 unfold NB
 rcases hm with h | h | h | h | h <;> simp [h]
theorem bytes_eq {b : ByteArray} {l : List UInt8} (h : b.toList = l) : b = ⟨l.toArray⟩ := bytes_of (by rw [← Lib.toList_data]; exact h)
theorem splitL_mem {t l : List UInt8} (h : l ∈ splitL t) : ∀ c ∈ l, c ∈ t ∧ c ≠ 10 := by
 induction t generalizing l with
 | nil => simp [splitL] at h; subst h; intro c hc; simp at hc
 | cons x t ih =>
  unfold splitL at h
  by_cases hx : x = 10
  ·rw [if_pos hx] at h
   rcases List.mem_cons.1 h with rfl | h
   ·intro c hc; simp at hc
   ·intro c hc; exact ⟨List.mem_cons_of_mem _ (ih h c hc).1, (ih h c hc).2⟩
  ·rw [if_neg hx] at h
   cases hs : splitL t with
   | nil => exact absurd hs (splitL_ne t)
   | cons l' ls =>
    rw [hs] at h ih
    rcases List.mem_cons.1 h with rfl | h
    ·intro c hc
     rcases List.mem_cons.1 hc with rfl | hc
     ·exact ⟨List.mem_cons_self, hx⟩
     ·exact ⟨List.mem_cons_of_mem _ (ih List.mem_cons_self c hc).1, (ih List.mem_cons_self c hc).2⟩
    ·intro c hc
     exact ⟨List.mem_cons_of_mem _ (ih (List.mem_cons_of_mem _ h) c hc).1, (ih (List.mem_cons_of_mem _ h) c hc).2⟩
theorem lines_nb {t : List UInt8} (h : ∀ c ∈ t, NB c ∨ c = 10) : ∀ l ∈ splitL t, ∀ c ∈ l, NB c := fun l hl c hc => by
 obtain ⟨h1, h2⟩ := splitL_mem hl c hc
 exact (h c h1).resolve_right h2
set_option maxRecDepth 20000 in
set_option maxHeartbeats 4000000 in
theorem nested_walk (v : Value) (len : Nat) (w : World) (hT : Tab w) (hm : Mx w) (hR : Raws w v len) : Calls Tryz.prog 8 #[v] w fun e w' => e = .returned (.bool true) ∧ Below w.heap.size w w' := by
 have HO := hide (kOpened_any ⟨#[]⟩ w hT hm (by decide))
 have HK := hide (And.intro hT hm)
 have HR := hide hR
 have t0 : 1 < w.heap.size := cell_lt (hT 0 (by decide))
 have m0 : 0 < w.heap.size := by obtain ⟨m, h⟩ := hm; exact cell_lt h
 obtain ⟨ao, cap, hv, hlen⟩ : ∃ ao cap, v = .slice ao len cap ∧ len ≤ 17592186044416 := by
  rcases hR with ⟨h1, h2⟩ | ⟨a, cap, h1, h2, _⟩
  ·exact ⟨none, 0, by rw [h1, h2], by omega⟩
  ·exact ⟨_, _, h1, h2⟩
 subst hv
 clear hT hm hR
 go_enter Tryz.func8, Tryz.ntmps8
 go_wp2_with fail
 refine HO.out.mono ?_
 rintro e w1 ⟨hb1, kd, t, rfl, hki, hkt, hts, htw, hN⟩
 have HKI := hide hki
 have HB1 := hide hb1
 have HN := hide hN
 clear hki hkt hts htw hN hb1 HO
 obtain ⟨bX, hbX⟩ : ∃ bX, bX = t.bX := ⟨_, rfl⟩
 rw [← hbX]
 clear hbX t
 go_upto_block 0 with fail
 go_cut [5, 6] from 25 to 45 (fun vs vi wc => NsDone w1 vs vi wc)
 case first =>
  go_wp2_with fail
  go_loopg [5, 6] (min len 200) (fun k vs vi wr => NsDoc w1 len k vs vi wr)
  case atStart => exact ⟨0, ⟨#[]⟩, rfl, rfl, rfl, by omega, fun c hc => by simp at hc, Below.refl _ _⟩
  case round =>
   obtain ⟨i, s, rfl, rfl, hs, hk, hby, hbr⟩ := hrel
   have HBY := hide hby
   have HBR := hide hbr
   have HS := hide hs
   have hs200 : s.size ≤ 200 := by omega
   clear hby hbr hs
   by_cases hgo : i < len ∧ i < 200
   ·obtain ⟨k', rfl⟩ : ∃ k', gk = k' + 1 := ⟨gk - 1, by omega⟩
    have g1 : decide ((i : Int) < (len : Int)) = true := decide_eq_true (by omega)
    have g2 : decide ((i : Int) < 200) = true := decide_eq_true (by omega)
    have g1' : decide (i < len) = true := decide_eq_true hgo.1
    have g2' : decide (i < 200) = true := decide_eq_true hgo.2
    have p1 : i < len := hgo.1
    have p2 : i < 200 := hgo.2
    have hbw := HB1.out.trans (HBR.out.mono HB1.out.size)
    obtain ⟨a, hao, z, hz, hwf⟩ : ∃ a, ao = some a ∧ ∃ z, wr.cell? (a.add i) = some (.int .i64 z) ∧ (Lit.int .i64 z).wf = true := by
     rcases HR.out.below hbw with ⟨h, h0⟩ | ⟨a', cap', h, _, h3⟩
     ·omega
     ·cases h; exact ⟨a', rfl, h3 i p1⟩
    subst hao
    have HPK := hide (fun W => pick_any z 8 W hwf (by decide) (by decide))
    clear hbw hgo
    go_wp2_with fail
    refine (HPK.out _).mono ?_
    rintro e w2 ⟨r, hr, rfl, e2⟩
    subst w2
    have hw1 : IntKind.i64.wrap ((r : Int) + 1) = (r : Int) + 1 := by rw [IntKind.wrap_i64]; omega
    have hwi : IntKind.i64.wrap ((i : Int) + 1) = (i : Int) + 1 := by rw [IntKind.wrap_i64]; omega
    have HK2 := hide hk
    have HX := hide (show ((⟨#[60, 60, 60, 62, 62, 32, 53, 10]⟩ : ByteArray).extract r (r + 1)).size = 1 from by
     rw [ByteArray.size_extract]
     show min (r + 1) 8 - r = 1
     omega)
    have HSB := hide (sign_bytes r)
    clear hk hz
    go_wp2_with fail
    go_roundg k'
    case measure => omega
    case rel => exact ⟨i + 1, _, rfl, by simp, by rw [ByteArray.size_append, HS.out, HX.out], by have := HK2.out; omega, fun c hc => by
      rw [ByteArray.data_append, Array.toList_append] at hc
      exact (List.mem_append.1 hc).elim (HBY.out c) (HSB.out c), HBR.out⟩
   ·by_cases h1 : i < len
    case' pos =>
     have q1 : decide ((i : Int) < (len : Int)) = true := decide_eq_true (by omega)
     have q2 : decide ((i : Int) < 200) = false := decide_eq_false (by omega)
     have q1' : decide (i < len) = true := decide_eq_true h1
     have q2' : decide (i < 200) = false := decide_eq_false (by omega)
     have p2 : ¬ i < 200 := by omega
    case' neg =>
     have q1 : decide ((i : Int) < (len : Int)) = false := decide_eq_false (by omega)
     have q1' : decide (i < len) = false := decide_eq_false h1
    all_goals
     clear hgo hk
     go_wp2_with fail
     go_meet
     case rel => exact ⟨i, s, rfl, rfl, hs200, HBY.out, HBR.out⟩
 case rest =>
  obtain ⟨i, s, rfl, rfl, hs200, hby, hbr⟩ := hcut
  have HBY := hide hby
  have HBR := hide hbr
  clear hby hbr
  generalize wc = wr at *
  have hki := HKI.out.below HBR.out
  have hn0 : 0 < kd.n := by
   have h1 := (hki.gram wr (Below.refl _ _)).len
   have h2 := hki.pos
   omega
  have hbw := HB1.out.trans (HBR.out.mono HB1.out.size)
  have hNw := HN.out
  have HOP := hide (open_any kd.N kd.P kd.g kd.n kd.cap kd.G s wr hki.top hn0 hki.ok hki.pos (HK.out.1.below hbw) (by omega) hki.gram hki.hN (HK.out.2.below hbw) (by omega))
  have HK1 := hide hki
  have HBW := hide hbw
  clear hki hn0 hbw hNw
  go_wp2_with fail
  refine HOP.out.mono ?_
  rintro e w5 ⟨hb5, ⟨hbad, rfl⟩ | ⟨_, bX5, bS5, lv5, ls5, st5, rfl, hx5, hbX5, hs5, hr5⟩⟩
  ·omega
  ·have ht : KText w5 kd ⟨bX5, bS5, lv5, ls5, ls5.length, wr.heap.size, s⟩ := ⟨hx5, hs5, ⟨st5, hr5⟩, HK1.out.hN, hbX5⟩
   have HKT := hide ht
   have HKI5 := hide (HK1.out.below hb5)
   have HB5 := hide (HBW.out.trans (hb5.mono HBW.out.size))
   have HSP := hide (split_any s w5 (by omega))
   clear hb5 hx5 hs5 hr5 ht HOP hbX5
   go_wp2_with fail
   refine HSP.out.mono ?_
   rintro e w3 ⟨lv, nms, rfl, hnr, hnm, hb3⟩
   have hkt3 := HKT.out.below hb3
   have hki3 := HKI5.out.below hb3
   have hlen : ls5.length = nms.length := by
    obtain ⟨_, hr⟩ := hkt3.runs
    have h1 : (ls5.map LE.pr).length = (splitL s.data.toList).length := hr.length
    rw [List.length_map] at h1
    have h2 := congrArg List.length hnm
    rw [List.length_map] at h2
    omega
   have hpos : 0 < nms.length := by
    have := congrArg List.length hnm
    rw [List.length_map, splitL_length] at this
    omega
   have hn31 : nms.length ≤ 3001 := by
    have := congrArg List.length hnm
    rw [List.length_map, splitL_length] at this
    have h2 := List.count_le_length (a := (10 : UInt8)) (l := s.data.toList)
    rw [text_length] at h2
    omega
   obtain ⟨lg, lc, hlv⟩ := own_form hnr hpos
   subst hlv
   obtain ⟨nl, hnl⟩ : ∃ nl, nl = nms.length := ⟨_, rfl⟩
   have HNR := hide hnr
   have HNM := hide hnm
   have HB3 := hide (HB5.out.trans (hb3.mono HB5.out.size))
   have HK3 := hide (And.intro hki3 hkt3)
   have HLEN := hide hlen
   rw [← hnl] at hn31 ⊢
   have HNL := hide hnl
   clear hnr hnm hb3 hkt3 hki3 HSP hlen hpos hnl
   go_wp2_with fail
   obtain ⟨LS, hLS⟩ : ∃ LS, LS = splitL s.data.toList := ⟨_, rfl⟩
   have HLS := hide hLS
   have HNBS := hide (show ∀ l ∈ LS, ∀ c ∈ l, NB c from by rw [hLS]; exact lines_nb HBY.out)
   clear hLS
   go_loopg [11, 12] nl (fun k vd vi wr => NsLoop w3 LS nl k vd vi wr)
   case atStart => exact ⟨0, rfl, rfl, by omega, Below.refl _ _⟩
   case round =>
    obtain ⟨j, rfl, rfl, hjk, hbr⟩ := hrel
    have hdin := dL_in (ls := LS) (d := 1) ⟨Nat.le_refl _, by omega⟩ j
    by_cases hlt : j < nl
    ·have gj : decide ((j : Int) < (nl : Int)) = true := decide_eq_true (by omega)
     have hwr : IntKind.i64.wrap ((j : Int) + 1) = (j : Int) + 1 := by rw [IntKind.wrap_i64]; omega
     have hki := HK3.out.1.below hbr
     have hkt := HK3.out.2.below hbr
     have hgd := hkt.good hki
     obtain ⟨x, hx⟩ : ∃ x, ls5[j]? = some x := ⟨_, List.getElem?_eq_getElem (by rw [HLEN.out, ← HNL.out]; exact hlt)⟩
     obtain ⟨s0, s2, r0, r1, r2, r3, q0, q1, hcg⟩ := code_g hki.code
     obtain ⟨_, hrr⟩ := hkt.runs
     obtain ⟨l, hl, hxs, hbo⟩ := hrr.nest hcg ⟨Nat.le_refl 1, by omega⟩ rfl (by have := HNBS.out; rw [HLS.out] at this; exact this) j x.pr (by rw [List.getElem?_map, hx]; rfl)
     rw [← HLS.out] at hl hxs hbo
     have hxl : x.st = stk (dL LS 1 j) := hxs
     obtain ⟨d0, hd0⟩ : ∃ d0, d0 = dL LS 1 j := ⟨_, rfl⟩
     rw [← hd0] at hxl hdin hbo ⊢
     have hsl : x.st.length = d0 := by rw [hxl]; exact stk_length hdin.1
     obtain ⟨_, hbot, l', top, gs, bb, hl', htop, hgs, htil, hend⟩ := hkt.line hki hx
     have hl2 : l' = l := by
      have h2 : (splitL s.data.toList)[j]? = some l' := hl'
      rw [← HLS.out, hl] at h2
      cases h2
      rfl
     rw [hl2] at hend
     have HTIL := hide htil
     have HEND := hide hend
     have HBO := hide hbo
     have HL := hide hl
     have HX := hide hx
     have HD0 := hide hd0
     have HSK := hide (txStack_any (j : Int) kd.G hgd.1 (hki.gram _ (Below.refl _ _)) hkt.sheet hkt.tx)
     have hnm2 : noteB = (⟨#[110, 111, 116, 101]⟩ : ByteArray) := rfl
     have hnote : d0 ≠ 1 → gs.nm = ⟨#[110, 111, 116, 101]⟩ := fun h1 => by
      rw [hxl, stk_top hdin.1, if_neg h1] at htop
      cases htop
      rw [hcg.g2] at hgs
      cases hgs
      rw [← hnm2]
      exact hcg.nm
     have HNOTE := hide hnote
     have HBR := hide hbr
     have HST := hide (And.intro hsl (And.intro hbot (And.intro htop hgs)))
     clear hki hkt hgd hx hcg hrr hl hxs hbo hd0 htil hend hl' htop hgs hbr hxl hnm2 hnote hsl hbot hl2
     go_wp2_with fail
     refine HSK.out.mono ?_
     rintro e w6 ⟨hb6, ⟨hbad, rfl⟩ | ⟨j2, x2, v2, hj2, hx2, rfl, hnm2⟩⟩
     ·exact absurd ⟨by omega, by show (j : Int) < ls5.length; rw [HLEN.out, ← HNL.out]; omega⟩ hbad
     ·obtain rfl : j2 = j := by omega
      have hx2' : ls5[j2]? = some x2 := hx2
      rw [HX.out] at hx2'
      cases hx2'
      have hbr6 := HBR.out.trans (hb6.mono HBR.out.size)
      have hkt6 := HK3.out.2.below hbr6
      have HLN := hide (txLine_any (j2 : Int) (hkt6.good (HK3.out.1.below hbr6)).2 hkt6.sheet hkt6.tx)
      have hnl2 : (nmsOf kd.G x.st).length = x.st.length := by simp [nmsOf]
      rw [HST.out.1] at hnl2
      obtain ⟨sg, sc, hv2⟩ := own_form hnm2 (by rw [hnl2]; omega)
      subst hv2
      obtain ⟨s0', hs0, hs0n⟩ := code_name0 HKI.out.code
      have y0 : w6.cell? ⟨sg, 0, none⟩ = some (.string ⟨#[99, 111, 100, 101]⟩) := (row_cell hnm2 (j := 0) (by
       rw [List.getElem?_map, nmsOf, List.getElem?_map, HST.out.2.1]
       simp [hs0, hs0n])).1
      obtain ⟨dz, hdz⟩ : ∃ dz, dz = d0 - 1 := ⟨_, rfl⟩
      have yL : w6.cell? ⟨sg, dz, none⟩ = some (.string gs.nm) := (row_cell hnm2 (j := dz) (by
       have h1 := HST.out.2.2.1
       rw [HST.out.1, ← hdz] at h1
       rw [List.getElem?_map, nmsOf, List.getElem?_map, h1]
       simp [HST.out.2.2.2])).1
      have wz : IntKind.i64.wrap ((d0 : Int) - 1) = (dz : Int) := by rw [IntKind.wrap_i64]; omega
      have hszn : dz < d0 := by omega
      rw [hnl2]
      have HBR6 := hide hbr6
      have HY := hide (And.intro y0 yL)
      clear hb6 hbr6 hkt6 hnl2 hnm2 hs0 hs0n hdz hj2 hx2 HSK y0 yL
      go_wp2_with fail
      refine HLN.out.mono ?_
      rintro e w7 ⟨hb7, ⟨hbad, rfl⟩ | ⟨j3, x3, v3, hj3, hx3, rfl, hsp⟩⟩
      ·exact absurd ⟨by omega, by show (j2 : Int) < ls5.length; rw [HLEN.out, ← HNL.out]; omega⟩ hbad
      ·obtain rfl : j3 = j2 := by omega
       have hx3' : ls5[j3]? = some x3 := hx3
       rw [HX.out] at hx3'
       cases hx3'
       have y0 := cell_below HY.out.1 hb7
       have yL := cell_below HY.out.2 hb7
       have hbr7 := HBR6.out.trans (hb7.mono HBR6.out.size)
       have hm7 : x.sps.length ≤ 7000 := ((HK3.out.2.below hbr7).good (HK3.out.1.below hbr7)).2 x (List.mem_of_getElem? HX.out)
       obtain ⟨m, hm⟩ : ∃ m, m = x.sps.length := ⟨_, rfl⟩
       obtain ⟨nm, hnmj⟩ : ∃ nm, nms[j3]? = some nm := ⟨_, List.getElem?_eq_getElem (by rw [← HNL.out]; exact hlt)⟩
       have hnl3 : nm.data.toList = l := by
        have h1 := HL.out
        rw [HLS.out, ← HNM.out, List.getElem?_map, hnmj] at h1
        cases h1
        rfl
       have c5 : w7.cell? ⟨lg, j3, none⟩ = some (.string nm) := cell_below (row_cell HNR.out (j := j3) (u := .string nm) (by rw [List.getElem?_map, hnmj]; rfl)).1 hbr7
       have HNL3 := hide hnl3
       have HSPR := hide hsp
       obtain ⟨pao, pc, hv3⟩ := row_slice hsp
       subst hv3
       have HBR7 := hide hbr7
       rw [← hm] at hm7 ⊢
       have HM := hide hm
       have hsz : nm.size ≤ 3000 := by
        have h1 := splitL_short (List.mem_of_getElem? (by have := HL.out; rw [HLS.out] at this; exact this))
        rw [text_length, ← hnl3, text_length] at h1
        omega
       clear hb7 hbr7 hm hnmj hnl3 hsp hj3 hx3 HLN HY HST
       go_upto_region 20 with fail
       go_cut [109] from 80 to 108 (fun vt wc => vt = .bool false ∧ wc = w7)
       case first =>
        by_cases h1 : d0 = 1
        case' pos =>
         have gd : decide ((1 : Int) < (d0 : Int)) = false := decide_eq_false (by omega)
         have gd' : decide (1 < d0) = false := decide_eq_false (by omega)
         have pd : ¬ 1 < d0 := by omega
        case' neg =>
         have gd : decide ((1 : Int) < (d0 : Int)) = true := decide_eq_true (by omega)
         have gd' : decide (1 < d0) = true := decide_eq_true (by omega)
         have pd : 1 < d0 := by omega
         rw [HNOTE.out h1] at yL
        all_goals
         clear h1
         go_wp2_with fail
         go_meet
         case rel => exact ⟨rfl, rfl⟩
       case rest =>
        obtain ⟨rfl, hw⟩ := hcut
        rw [hw]
        clear y0 yL hw
        go_wp2_with fail
        go_loopg [11, 17, 18] nm.size (fun k vd vk vj W => NsIn w7 x.sps l d0 k vd vk vj W)
        case atStart => exact ⟨0, 0, rfl, rfl, rfl, by rw [← HNL3.out, text_length]; omega, Nat.zero_le _, by simp [endOf], fun z _ => Nat.zero_le _, Below.refl _ _⟩
        case round =>
         obtain ⟨jj, q, rfl, rfl, rfl, hjm, hqm, hqe, hqt, hbi⟩ := hrel
         rw [← HNL3.out, text_length] at hjm
         have c5i := cell_below c5 hbi
         by_cases hltj : jj < nm.size
         ·have g3 : decide ((jj : Int) < (nm.size : Int)) = true := decide_eq_true (by omega)
          have hwj : IntKind.i64.wrap ((jj : Int) + 1) = (jj : Int) + 1 := by rw [IntKind.wrap_i64]; omega
          have hspi := row_typ HSPR.out (w' := wr) (fun k c hh => (hbi.block k (lt_of_get hh)).trans hh)
          have hel : endOf x.sps = nm.size := by rw [HEND.out, ← HNL3.out, text_length]
          have hqm2 : q < m := by
           rcases Nat.lt_or_ge q m with h | h
           ·exact h
           ·rw [List.take_of_length_le (by rw [← HM.out]; exact h), hel] at hqe
            omega
          obtain ⟨z, hz⟩ : ∃ z, x.sps[q]? = some z := ⟨_, List.getElem?_eq_getElem (by rw [← HM.out]; exact hqm2)⟩
          have hta := HTIL.out.at hz
          have hzt := hqt z hz
          obtain ⟨pg, pc2, hpv⟩ := own_form hspi (by rw [← HM.out]; omega)
          cases hpv
          have hcj : l[jj]? = some nm[jj] := by
           rw [← HNL3.out, List.getElem?_eq_getElem (by rw [text_length]; exact hltj)]
           rfl
          have hdj := dAt_in (T := l) hdin jj
          have hnext := dAt_succ (d := d0) hcj
          have hNBc : NB nm[jj] := HNBS.out l (List.mem_of_getElem? HL.out) _ (List.mem_of_getElem? hcj)
          have e1 := sp_cell hspi hz (u := 1) rfl
          have e0 : decide ((q : Int) < (m : Int)) = true := decide_eq_true (by omega)
          obtain ⟨dj, hdjj⟩ : ∃ dj, dj = dAt l d0 jj := ⟨_, rfl⟩
          obtain ⟨q2, z2, hq2, hz2, hfr, hto2, hst⟩ : ∃ q2 z2, q2 < m ∧ x.sps[q2]? = some z2 ∧ z2.fr ≤ jj ∧ jj < z2.to ∧ ((z.to ≤ jj ∧ q2 = q + 1) ∨ (¬ z.to ≤ jj ∧ q2 = q)) := by
           by_cases h : z.to ≤ jj
           ·have hq1 : q + 1 < m := by
             rcases Nat.lt_or_ge (q + 1) m with h2 | h2
             ·exact h2
             ·have h3 := hta.next
              rw [List.take_of_length_le (by rw [← HM.out]; exact h2), hel] at h3
              omega
            obtain ⟨z2, hz2⟩ : ∃ z, x.sps[q + 1]? = some z := ⟨_, List.getElem?_eq_getElem (by rw [← HM.out]; exact hq1)⟩
            have ht2 := HTIL.out.at hz2
            have h3 := hta.next
            exact ⟨q + 1, z2, hq1, hz2, by rw [ht2.fr]; omega, by have := ht2.lt; omega, .inl ⟨h, rfl⟩⟩
           ·exact ⟨q, z, hqm2, hz, by rw [hta.fr]; exact hqe, by omega, .inr ⟨h, rfl⟩⟩
          have hby := HBO.out z2 (List.mem_of_getElem? hz2) jj nm[jj] hfr hto2 hcj
          have f0 := sp_cell hspi hz2 (u := 0) rfl
          have f3 := sp_cell hspi hz2 (u := 3) rfl
          have f4 := sp_cell hspi hz2 (u := 4) rfl
          have f1 := sp_cell hspi hz2 (u := 1) rfl
          rw [← hdjj] at hby hdj hnext ⊢
          rw [hby.1] at f3
          rw [Nat.add_zero] at f0
          have gq2 : decide ((m : Int) ≤ (q2 : Int)) = false := decide_eq_false (by omega)
          have gfr : decide ((jj : Int) < (z2.fr : Int)) = false := decide_eq_false (by omega)
          have gq3 : ¬ m ≤ q2 := by omega
          have gfr3 : ¬ jj < z2.fr := by omega
          have HNX := hide (fun n => show NsIn w7 x.sps l d0 (nm.size - (jj + 1)) (.int .i64 (nd dj nm[jj])) (.int .i64 q2) (.int .i64 ((jj : Int) + 1)) (wr.drewN n) from ⟨jj + 1, q2, by simp, rfl, by rw [hnext], by rw [← HNL3.out, text_length]; omega, by rw [← HM.out]; omega, by have := (HTIL.out.at hz2).fr; omega, fun z' hz' => by rw [hz2] at hz'; cases hz'; omega, Below.drewN' hbi n⟩)
          have HBY2 := hide hby.2
          clear hby hnext hdjj hqt hta hspi hbi hel hz hz2 hcj
          clear HK HR t0 m0 HKI HB1 HN HBY HK1 HBW HKT HKI5 HB5 HNR HNM HB3 HK3 HLEN HNL HLS HNBS HTIL HEND HBO HL HX HD0 HNOTE HBR HBR6 HNL3 HSPR HBR7 HM hfr hto2 hqe hqm
          go_upto_if 131 with fail
          go_cut [17] from 110 to 210 (fun vk wc => vk = .int .i64 q2 ∧ wc = wr)
          case first =>
           rcases hst with ⟨hzt2, hq2e⟩ | ⟨hzt2, hq2e⟩
           ·have hwq : IntKind.i64.wrap ((q : Int) + 1) = (q2 : Int) := by rw [IntKind.wrap_i64]; omega
            have e2 : decide ((z.to : Int) ≤ (jj : Int)) = true := decide_eq_true (by omega)
            go_wp2_with fail
            go_meet
            case rel => exact ⟨by rw [hq2e]; simp, rfl⟩
           ·have e2 : decide ((z.to : Int) ≤ (jj : Int)) = false := decide_eq_false (by omega)
            subst hq2e
            go_wp2_with fail
            go_meet
            case rel => exact ⟨rfl, rfl⟩
          case rest =>
           obtain ⟨rfl, hw⟩ := hcut
           rw [hw]
           clear hst e0 e1 hw
           go_upto_region 30 with fail
           have hsp : (nm[jj] = 60 ∧ dj < 8) ∨ (nm[jj] = 60 ∧ ¬ dj < 8) ∨ (nm[jj] = 62 ∧ 1 < dj) ∨ (nm[jj] = 62 ∧ ¬ 1 < dj) ∨ (nm[jj] = 32 ∧ True) ∨ (nm[jj] = 53 ∧ 1 < dj) ∨ (nm[jj] = 53 ∧ ¬ 1 < dj) := by
            rcases hNBc with h | h | h | h
            ·by_cases h8 : dj < 8
             ·exact .inl ⟨h, h8⟩
             ·exact .inr (.inl ⟨h, h8⟩)
            ·by_cases h8 : 1 < dj
             ·exact .inr (.inr (.inl ⟨h, h8⟩))
             ·exact .inr (.inr (.inr (.inl ⟨h, h8⟩)))
            ·exact .inr (.inr (.inr (.inr (.inl ⟨h, trivial⟩))))
            ·by_cases h8 : 1 < dj
             ·exact .inr (.inr (.inr (.inr (.inr (.inl ⟨h, h8⟩)))))
             ·exact .inr (.inr (.inr (.inr (.inr (.inr ⟨h, h8⟩)))))
           clear hNBc
           rcases hsp with hsp | hsp | hsp | hsp | hsp | hsp | hsp
           all_goals
            obtain ⟨hc, hdd⟩ := hsp
            first | have k60 : (((nm[jj]).toNat : Int) == 60) = true := by rw [hc]; rfl | have k60 : (((nm[jj]).toNat : Int) == 60) = false := by rw [hc]; rfl
            first | have k62 : (((nm[jj]).toNat : Int) == 62) = true := by rw [hc]; rfl | have k62 : (((nm[jj]).toNat : Int) == 62) = false := by rw [hc]; rfl
            first | have k53 : (((nm[jj]).toNat : Int) == 53) = true := by rw [hc]; rfl | have k53 : (((nm[jj]).toNat : Int) == 53) = false := by rw [hc]; rfl
            first | have ge : ((dj : Int) == 1) = true := (by have : dj = 1 := (by omega); rw [this]; rfl) | have ge : ((dj : Int) == 1) = false := (by rw [beq_eq_false_iff_ne]; omega) | skip
            have hnd : nd dj nm[jj] = (if nm[jj] = 60 ∧ dj < 8 then dj + 1 else if nm[jj] = 62 ∧ 1 < dj then dj - 1 else dj) := rfl
            obtain ⟨dn, hdn⟩ : ∃ dn, dn = nd dj nm[jj] := ⟨_, rfl⟩
            rw [← hdn] at hnd HNX
            simp [hc, hdd] at hnd
            clear hdn
            first | have wd : IntKind.i64.wrap ((dj : Int) + 1) = (dn : Int) := (by rw [IntKind.wrap_i64]; omega) | have wd : IntKind.i64.wrap ((dj : Int) - 1) = (dn : Int) := (by rw [IntKind.wrap_i64]; omega) | subst hnd
            first
             | (
              have hco : z2.co = ⟨#[109, 97, 114, 107]⟩ := HBY2.out.1.2 (.inl hc)
              rw [hco] at f4)
             | (
              have hco : z2.co = ⟨#[109, 97, 114, 107]⟩ := HBY2.out.1.2 (.inr ⟨hc, hdd⟩)
              rw [hco] at f4)
             | (
              have hco : z2.co = ⟨#[110, 117, 109, 98, 101, 114]⟩ := HBY2.out.2.2 ⟨hc, by omega⟩
              rw [hco] at f4)
             | (
              have hm1 : ¬ z2.co.toList = [109, 97, 114, 107] := fun e => by
               rcases HBY2.out.1.1 (bytes_eq e) with h | ⟨h, h2⟩
               ·rw [hc] at h; exact absurd h (by decide)
               ·rw [hc] at h; first | exact absurd h (by decide) | exact hdd h2
              have hn1 : ¬ z2.co.toList = [110, 117, 109, 98, 101, 114] := fun e => by
               obtain ⟨h, h2⟩ := HBY2.out.2.1 (bytes_eq e)
               rw [hc] at h
               first | exact absurd h (by decide) | omega
              have hm2 : (z2.co.toList == [109, 97, 114, 107]) = false := beq_eq_false_iff_ne.2 hm1
              have hn2 : (z2.co.toList == [110, 117, 109, 98, 101, 114]) = false := beq_eq_false_iff_ne.2 hn1)
            clear hc HBY2
            go_wp2_with fail
            go_roundg (nm.size - (jj + 1))
            case measure => omega
            case rel => first | exact HNX.out 0 | (have h := HNX.out 0; rw [hnd] at h; first | exact h | simpa using h)
         ·have g3 : decide ((jj : Int) < (nm.size : Int)) = false := decide_eq_false (by omega)
          have hbw := HBR7.out.trans (hbi.mono HBR7.out.size)
          have HNX := hide (show NsLoop w3 LS nl (nl - (j3 + 1)) (.int .i64 (dAt l d0 jj)) (.int .i64 ((j3 : Int) + 1)) wr from ⟨j3 + 1, by simp, by
           rw [dL_succ HL.out, ← HD0.out, ← HNL3.out, text_length, show jj = nm.size by omega], by omega, hbw⟩)
          clear hbw hbi hqe hqt
          go_wp2_with fail
          go_roundg (nl - (j3 + 1))
          case measure => omega
          case rel => exact HNX.out
    ·have gj : decide ((j : Int) < (nl : Int)) = false := decide_eq_false (by omega)
     have HFIN := hide (HB3.out.trans (hbr.mono HB3.out.size))
     clear hbr
     go_wp2_with fail
     go_ret
     exact ⟨rfl, HFIN.out⟩
end Go.Proofs.YtgncgdkpkkdaeaaGreatDoor
