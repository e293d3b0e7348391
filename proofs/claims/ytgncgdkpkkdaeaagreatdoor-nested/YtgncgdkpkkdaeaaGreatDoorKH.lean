import Derived.Test.YtgncgdkpkkdaeaaGreatDoorKV1
import Derived.Test.YtgncgdkpkkdaeaaGreatDoorKG
namespace Go.Proofs.YtgncgdkpkkdaeaaGreatDoor
open Go.RowKit Tint
def PatIs (w : World) (B : Nat) (p : List UInt8) (lv : Value) (wh fl : Nat) : Prop :=
 (60 < p.length ∧ lv = .slice none 0 0 ∧ wh = 0 ∧ fl = 1) ∨
 (p.length ≤ 60 ∧ (PAlt p none ∨ ∃ r s', s' ≠ [] ∧ PAlt p (some (r, s'))) ∧ lv = .slice none 0 0 ∧ wh = 0 ∧ fl = 6) ∨
 (p.length ≤ 60 ∧ fl = 0 ∧ ∃ (a : ARe) (ns : List (Nd Value)) (g cap : Nat), lv = .slice (some ⟨g, 0, none⟩) ns.length cap ∧ wh = a.ix ∧ PAlt p (some (a.re, [])) ∧ Lists w B lv ns ∧ Rep (IsCls w) ns a ∧ Rep (IsCls w) ns .eps ∧ ns.length ≤ 200)
theorem PatIs.keep {w w' : World} {B : Nat} {p : List UInt8} {lv : Value} {wh fl : Nat} (h : PatIs w B p lv wh fl) (hk : ∀ (k : Nat) c t, (t = 292 ∨ t = 5 ∨ t = 290) → w.heap[k]? = some (.cells c t (0, 0)) → w'.heap[k]? = some (.cells c t (0, 0))) : PatIs w' B p lv wh fl := by
 have hst : Stay w w' := fun k c t ht hh => hk k c t (.inr ht) hh
 rcases h with h | h | ⟨h1, h2, a, ns, g, cap, h3, h4, h5, h6, h7, h8, h9⟩
 ·exact .inl h
 ·exact .inr (.inl h)
 ·exact .inr (.inr ⟨h1, h2, a, ns, g, cap, h3, h4, h5, h6.keep fun k hb => by obtain ⟨_, cur, hc⟩ := h6.block hb; rw [hc]; exact hk k _ _ (.inl rfl) hc, h7.world hst, h8.world hst, h9⟩)
theorem PatIs.below {w w' : World} {B : Nat} {p : List UInt8} {lv : Value} {wh fl : Nat} (h : PatIs w B p lv wh fl) (hb : Below w.heap.size w w') : PatIs w' B p lv wh fl :=
 h.keep fun k _ _ _ hh => (hb.block k (lt_of_get hh)).trans hh
structure OnlyR (R : Nat) (w w' : World) : Prop where
 below : Below R w w'
 size : w'.heap.size = w.heap.size
 other : ∀ k, k ≠ R → w'.heap[k]? = w.heap[k]?
theorem OnlyR.refl (R : Nat) (w : World) : OnlyR R w w := ⟨Below.refl _ _, rfl, fun _ _ => rfl⟩
theorem OnlyR.set {R : Nat} {w w' : World} (h : OnlyR R w w') (j : Nat) (v : Value) : OnlyR R w (w'.setCell ⟨R, j, none⟩ v) :=
 ⟨h.below.setCell (Nat.le_refl _) _, by rw [← h.size]; simp [World.setCell], fun k hk => (Below.heap_setCell _ _ _ _ hk).trans (h.other k hk)⟩
theorem OnlyR.drew {R : Nat} {w w' : World} (h : OnlyR R w w') : OnlyR R w w'.drew := ⟨h.below.drew, h.size, h.other⟩
theorem PatIs.only {w w' : World} {R B : Nat} {p : List UInt8} {lv : Value} {wh fl : Nat} {c0 : Array Value} {t0 : TypeId} {fz : Nat × Nat} (h : PatIs w B p lv wh fl) (ho : OnlyR R w w') (hR : w.heap[R]? = some (.cells c0 t0 fz)) (h1 : t0 ≠ 292) (h2 : t0 ≠ 5) (h3 : t0 ≠ 290) : PatIs w' B p lv wh fl :=
 h.keep fun k c t ht hh => by
  rw [ho.other k (fun e => by
   rw [e, hR] at hh
   simp only [Option.some.injEq, Obj.cells.injEq] at hh
   rcases ht with rfl | rfl | rfl
   ·exact h1 hh.2.1
   ·exact h2 hh.2.1
   ·exact h3 hh.2.1)]
  exact hh
theorem PatIs.mono {w : World} {B B' : Nat} {p : List UInt8} {lv : Value} {wh fl : Nat} (h : PatIs w B p lv wh fl) (hB : B' ≤ B) : PatIs w B' p lv wh fl := by
 rcases h with h | h | ⟨h1, h2, a, ns, g, cap, h3, h4, h5, h6, h7, h8, h9⟩
 ·exact .inl h
 ·exact .inr (.inl h)
 ·refine .inr (.inr ⟨h1, h2, a, ns, g, cap, h3, h4, h5, ⟨⟨h6.1.1, ?_⟩, h6.2⟩, h7, h8, h9⟩)
  rcases h6.1.2 with hh | ⟨g', cap', cur, e1, e2, e3⟩
  ·exact .inl hh
  ·exact .inr ⟨g', cap', cur, e1, Nat.le_trans hB e2, e3⟩
theorem zl_cells {w : World} {R : Nat} (h : w.heap[R]? = some (.cells #[.int .i64 0, .int .i64 0, .string ⟨#[]⟩, .int .i64 0, .string ⟨#[]⟩, .slice none 0 0, .int .i64 0, .int .i64 0] 219 (0, 0))) : (w.cell? ⟨R, 0, none⟩ = some (.int .i64 0) ∧ w.cell? ⟨R, 1, none⟩ = some (.int .i64 0) ∧ w.cell? ⟨R, 2, none⟩ = some (.string ⟨#[]⟩) ∧ w.cell? ⟨R, 3, none⟩ = some (.int .i64 0) ∧ w.cell? ⟨R, 4, none⟩ = some (.string ⟨#[]⟩) ∧ w.cell? ⟨R, 5, none⟩ = some (.slice none 0 0) ∧ w.cell? ⟨R, 6, none⟩ = some (.int .i64 0) ∧ w.cell? ⟨R, 7, none⟩ = some (.int .i64 0)) ∧
  w.frozen? ⟨R, 0, none⟩ = false ∧ w.frozen? ⟨R, 1, none⟩ = false ∧ w.frozen? ⟨R, 2, none⟩ = false ∧ w.frozen? ⟨R, 3, none⟩ = false ∧ w.frozen? ⟨R, 4, none⟩ = false ∧ w.frozen? ⟨R, 5, none⟩ = false ∧ w.frozen? ⟨R, 6, none⟩ = false ∧ w.frozen? ⟨R, 7, none⟩ = false := by
 simp [World.cell?, World.frozen?, h]
theorem OnlyR.eight {R : Nat} {w : World} (a b c d e f g h : Value) : OnlyR R w ((((((((w.setCell ⟨R, 0, none⟩ a).setCell ⟨R, 1, none⟩ b).setCell ⟨R, 2, none⟩ c).setCell ⟨R, 3, none⟩ d).setCell ⟨R, 4, none⟩ e).setCell ⟨R, 5, none⟩ f).setCell ⟨R, 6, none⟩ g).setCell ⟨R, 7, none⟩ h) :=
 ((((((((OnlyR.refl R w).set 0 a).set 1 b).set 2 c).set 3 d).set 4 e).set 5 f).set 6 g).set 7 h
theorem OnlyR.more {R : Nat} {w0 w : World} (hx : OnlyR R w0 w) (a b c d e f g h : Value) : OnlyR R w0 ((((((((w.setCell ⟨R, 0, none⟩ a).setCell ⟨R, 1, none⟩ b).setCell ⟨R, 2, none⟩ c).setCell ⟨R, 3, none⟩ d).setCell ⟨R, 4, none⟩ e).setCell ⟨R, 5, none⟩ f).setCell ⟨R, 6, none⟩ g).setCell ⟨R, 7, none⟩ h) :=
 (((((((hx.set 0 a).set 1 b).set 2 c).set 3 d).set 4 e).set 5 f).set 6 g).set 7 h
def RlPost (d : Nat) (t : List UInt8) (w : World) (e : Ending) (w' : World) : Prop :=
 Below w.heap.size w w' ∧ ((e = .returned (.tuple #[.agg #[.int .i64 0, .int .i64 0, .string ⟨#[]⟩, .int .i64 0, .string ⟨#[]⟩, .slice none 0 0, .int .i64 0, .int .i64 0], .bool false]) ∧ ruleBody t = none) ∨
  ∃ (co : ByteArray) (p : List UInt8) (ao : Option Addr) (ln cp wh fl : Nat), e = .returned (.tuple #[.agg #[.int .i64 0, .int .i64 2, .string ⟨#[]⟩, .int .i64 d, .string co, .slice ao ln cp, .int .i64 wh, .int .i64 fl], .bool true]) ∧ ruleBody t = some (co.data.toList, p) ∧ PatIs w' w.heap.size p (.slice ao ln cp) wh fl)
set_option maxRecDepth 20000 in
set_option maxHeartbeats 1000000 in
theorem readRule_any (d : Nat) (t : ByteArray) (w : World) (hz : t.size ≤ 2000) (hm : Mx w) :
  Calls Tryz.prog 148 #[.int .i64 d, .string t] w (RlPost d t.data.toList w) := by
 have HM := hide hm
 clear hm
 have HR := hide (heap_alloc_last w (.cells #[.int .i64 0, .int .i64 0, .string ⟨#[]⟩, .int .i64 0, .string ⟨#[]⟩, .slice none 0 0, .int .i64 0, .int .i64 0] 219))
 have HB := hide (show Below w.heap.size w (w.alloc (.cells #[.int .i64 0, .int .i64 0, .string ⟨#[]⟩, .int .i64 0, .string ⟨#[]⟩, .slice none 0 0, .int .i64 0, .int .i64 0] 219)) from (Below.refl _ _).alloc (Nat.le_refl _) _)
 go_enter Tryz.func148, Tryz.ntmps148
 go_wp2_with fail
 generalize w.alloc (.cells #[.int .i64 0, .int .i64 0, .string ⟨#[]⟩, .int .i64 0, .string ⟨#[]⟩, .slice none 0 0, .int .i64 0, .int .i64 0] 219) = W at *
 obtain ⟨R, hRw⟩ : ∃ R, R = w.heap.size := ⟨_, rfl⟩
 rw [← hRw] at HR ⊢
 have HRw := hide hRw
 clear hRw
 refine (cutRule_any t W (by omega) (HM.out.below HB.out)).mono ?_
 rintro e w1 ⟨⟨n1, rfl⟩, co, so, o, rfl, hcz, hsz, hcase⟩
 have HB1 := hide (Below.drewN' HB.out n1)
 have HR1 := hide (show (W.drewN n1).heap[R]? = _ from HR.out)
 generalize W.drewN n1 = W1 at *
 rcases hcase with ⟨rfl, hnm, hrb⟩ | ⟨hrb, ho⟩
 ·have HNM := hide (isName_any co W1 (by omega))
  have HRB := hide hrb
  rw [hnm] at HNM
  clear hrb hnm
  go_wp2_with fail
  refine HNM.out.mono ?_
  rintro e w2 ⟨rfl, hB2⟩
  have HB2 := hide (HB1.out.trans (hB2.mono HB1.out.size))
  have HR2 := hide ((hB2.block R (lt_of_get HR1.out)).trans HR1.out)
  clear hB2 HNM
  go_wp2_with fail
  refine (parse_any so w2 (by unfold maxLen; omega)).mono ?_
  rintro e w3 ⟨hB3, hcase⟩
  have HB3 := hide (HB2.out.trans (hB3.mono HB2.out.size))
  have HR3 := hide ((hB3.block R (lt_of_get HR2.out)).trans HR2.out)
  obtain ⟨ao, ln, cp, wh, fl, rfl, hpat⟩ : ∃ (ao : Option Addr) (ln cp wh fl : Nat), e = .returned (.tuple #[.agg #[.slice ao ln cp, .int .i64 wh], .int .i64 fl]) ∧ PatIs w3 w2.heap.size so.data.toList (.slice ao ln cp) wh fl := by
   rcases hcase with ⟨h1, rfl⟩ | ⟨h1, h2, rfl⟩ | ⟨h1, sv, a, ns, rfl, h2, h3, h4, h5, h6⟩
   ·exact ⟨none, 0, 0, 0, 1, rfl, .inl ⟨h1, rfl, rfl, rfl⟩⟩
   ·exact ⟨none, 0, 0, 0, 6, rfl, .inr (.inl ⟨h1, h2, rfl, rfl, rfl⟩)⟩
   ·have h0 : 0 < ns.length := by obtain ⟨x, hx⟩ := h5; exact get_lt hx
    obtain ⟨g, cap, rfl⟩ := own_form h3.1 h0
    exact ⟨some ⟨g, 0, none⟩, ns.length, cap, a.ix, 0, rfl, .inr (.inr ⟨h1, rfl, a, ns, g, cap, rfl, rfl, h2, h3, h4, h5, h6⟩)⟩
  obtain ⟨⟨c0, c1, c2, c3, c4, c5, c6, c7⟩, f0, f1, f2, f3, f4, f5, f6, f7⟩ := zl_cells (heap_alloc_old (o := .cells #[.slice ao ln cp, .int .i64 wh] 184) HR3.out)
  have HEND := hide (fun w' (ho : OnlyR R (w3.alloc (.cells #[.slice ao ln cp, .int .i64 wh] 184)) w') => show RlPost d t.data.toList w (.returned (.tuple #[.agg #[.int .i64 0, .int .i64 2, .string ⟨#[]⟩, .int .i64 d, .string co, .slice ao ln cp, .int .i64 wh, .int .i64 fl], .bool true])) w' from
   ⟨(HB3.out.alloc HB3.out.size _).trans (by rw [← HRw.out]; exact ho.below), .inr ⟨co, so.data.toList, ao, ln, cp, wh, fl, rfl, HRB.out, ((hpat.mono HB2.out.size).below ((Below.refl _ _).alloc (Nat.le_refl _) _)).only ho (heap_alloc_old HR3.out) (by decide) (by decide) (by decide)⟩⟩)
  clear hpat hB3 hcase HR3 HR2 HR1 HR HB3 HB2 HB1 HB HRB
  go_wp2_with fail
  exact bodyPost_ret (v := .tuple #[.agg #[.int .i64 0, .int .i64 2, .string ⟨#[]⟩, .int .i64 d, .string co, .slice ao ln cp, .int .i64 wh, .int .i64 fl], .bool true]) (by simp [results, Tryz.results148, go_sem, *]) rfl (HEND.out _ (OnlyR.eight _ _ _ _ _ _ _ _))
 ·have HRB := hide hrb
  clear hrb
  by_cases ho0 : o = true
  ·subst ho0
   have hnm : isName co.data.toList = false := by rcases ho with h | h; cases h; exact h
   have HNM := hide (isName_any co W1 (by omega))
   rw [hnm] at HNM
   clear hnm ho
   go_wp2_with fail
   refine HNM.out.mono ?_
   rintro e w2 ⟨rfl, hB2⟩
   obtain ⟨⟨c0, c1, c2, c3, c4, c5, c6, c7⟩, f0, f1, f2, f3, f4, f5, f6, f7⟩ := zl_cells ((hB2.block R (lt_of_get HR1.out)).trans HR1.out)
   have HEND := hide (fun w' (hx : OnlyR R w2 w') => show RlPost d t.data.toList w (.returned (.tuple #[.agg #[.int .i64 0, .int .i64 0, .string ⟨#[]⟩, .int .i64 0, .string ⟨#[]⟩, .slice none 0 0, .int .i64 0, .int .i64 0], .bool false])) w' from ⟨(HB1.out.trans (hB2.mono HB1.out.size)).trans (by rw [← HRw.out]; exact hx.below), .inl ⟨rfl, HRB.out⟩⟩)
   clear hB2 HNM HR1 HR HB1 HB HRB
   go_wp2_with fail
   exact bodyPost_ret (v := .tuple #[.agg #[.int .i64 0, .int .i64 0, .string ⟨#[]⟩, .int .i64 0, .string ⟨#[]⟩, .slice none 0 0, .int .i64 0, .int .i64 0], .bool false]) (by simp [results, Tryz.results148, go_sem, *]) rfl (HEND.out _ (OnlyR.eight _ _ _ _ _ _ _ _))
  ·obtain rfl : o = false := by simpa using ho0
   obtain ⟨⟨c0, c1, c2, c3, c4, c5, c6, c7⟩, f0, f1, f2, f3, f4, f5, f6, f7⟩ := zl_cells HR1.out
   have HEND := hide (fun w' (hx : OnlyR R W1 w') => show RlPost d t.data.toList w (.returned (.tuple #[.agg #[.int .i64 0, .int .i64 0, .string ⟨#[]⟩, .int .i64 0, .string ⟨#[]⟩, .slice none 0 0, .int .i64 0, .int .i64 0], .bool false])) w' from ⟨HB1.out.trans (by rw [← HRw.out]; exact hx.below), .inl ⟨rfl, HRB.out⟩⟩)
   clear HR1 HR HB1 HB HRB ho ho0
   go_wp2_with fail
   exact bodyPost_ret (v := .tuple #[.agg #[.int .i64 0, .int .i64 0, .string ⟨#[]⟩, .int .i64 0, .string ⟨#[]⟩, .slice none 0 0, .int .i64 0, .int .i64 0], .bool false]) (by simp [results, Tryz.results148, go_sem, *]) rfl (HEND.out _ (OnlyR.eight _ _ _ _ _ _ _ _))
def LineIs (w : World) (B : Nat) (kd d : Nat) (st co : ByteArray) (lv : Value) (wh fl : Nat) : Ln → Prop
 | .blank => kd = 0 ∧ d = 0 ∧ lv = .slice none 0 0 ∧ wh = 0 ∧ fl = 0
 | .state n => kd = 1 ∧ d = 0 ∧ st.data.toList = n ∧ lv = .slice none 0 0 ∧ wh = 0 ∧ fl = 0
 | .rule d' o c p => kd = 2 ∧ d' = d ∧ d ≤ 2 ∧ st.data.toList = o ∧ co.data.toList = c ∧ PatIs w B p lv wh fl
theorem LineIs.keep {w w' : World} {B kd d : Nat} {st co : ByteArray} {lv : Value} {wh fl : Nat} {x : Ln} (h : LineIs w B kd d st co lv wh fl x) (hk : ∀ {p : List UInt8}, PatIs w B p lv wh fl → PatIs w' B p lv wh fl) : LineIs w' B kd d st co lv wh fl x := by
 cases x with
 | blank => exact h
 | state n => exact h
 | rule d' o c p => exact ⟨h.1, h.2.1, h.2.2.1, h.2.2.2.1, h.2.2.2.2.1, hk h.2.2.2.2.2⟩
def LnPost (s : List UInt8) (w : World) (e : Ending) (w' : World) : Prop :=
 Below w.heap.size w w' ∧ ∃ (kd d wh fl : Nat) (st co : ByteArray) (ao : Option Addr) (ln cp : Nat) (ok : Bool), e = .returned (.tuple #[.agg #[.int .i64 0, .int .i64 kd, .string st, .int .i64 d, .string co, .slice ao ln cp, .int .i64 wh, .int .i64 fl], .bool ok]) ∧
  ((ok = true ∧ ∃ x, lineOf s = some x ∧ LineIs w' w.heap.size kd d st co (.slice ao ln cp) wh fl x) ∨ (ok = false ∧ lineOf s = none))
theorem undrew1 {w w' : World} (h : Below w.drew.heap.size w.drew w') : Below w.heap.size w w' := ⟨h.os, h.tape, h.output, h.size, h.block⟩
theorem wordLn_nil (w : List UInt8) : wordLn w [] = none := by
 unfold wordLn
 split
 ·rfl
 ·split
  ·rfl
  ·split
   ·rfl
   ·split
    ·rfl
    ·rfl
theorem lineOf_cut {s : List UInt8} (h : s ≠ []) : (∀ a b, s = a ++ 32 :: b → (32 : UInt8) ∉ a → lineOf s = wordLn a b) ∧ ((32 : UInt8) ∉ s → lineOf s = wordLn s []) := by
 constructor
 ·intro a b e hn
  unfold lineOf
  rw [if_neg h, e, cutAt_hit b hn]
 ·intro hn
  unfold lineOf
  rw [if_neg h, cutAt_miss hn, wordLn_nil]
set_option maxRecDepth 20000 in
set_option maxHeartbeats 2000000 in
theorem readLine_any (t : ByteArray) (w : World) (hz : t.size ≤ 2000) (hm : Mx w) :
  Calls Tryz.prog 109 #[.string t] w (LnPost t.data.toList w) := by
 have HM := hide hm
 clear hm
 have HR := hide (heap_alloc_last w (.cells #[.int .i64 0, .int .i64 0, .string ⟨#[]⟩, .int .i64 0, .string ⟨#[]⟩, .slice none 0 0, .int .i64 0, .int .i64 0] 219))
 have HB := hide (show Below w.heap.size w (w.alloc (.cells #[.int .i64 0, .int .i64 0, .string ⟨#[]⟩, .int .i64 0, .string ⟨#[]⟩, .slice none 0 0, .int .i64 0, .int .i64 0] 219)) from (Below.refl _ _).alloc (Nat.le_refl _) _)
 by_cases h0 : t.data.toList = []
 ·obtain rfl : t = ⟨#[]⟩ := ba_of h0
  have q0 : ((⟨#[]⟩ : ByteArray).toList == []) = true := by rw [ByteArray.toList_eq]; rfl
  have HEND := hide (show LnPost (⟨#[]⟩ : ByteArray).data.toList w (.returned (.tuple #[.agg #[.int .i64 0, .int .i64 (0 : Nat), .string ⟨#[]⟩, .int .i64 (0 : Nat), .string ⟨#[]⟩, .slice none 0 0, .int .i64 (0 : Nat), .int .i64 (0 : Nat)], .bool true])) (w.alloc (.cells #[.int .i64 0, .int .i64 0, .string ⟨#[]⟩, .int .i64 0, .string ⟨#[]⟩, .slice none 0 0, .int .i64 0, .int .i64 0] 219)) from
   ⟨HB.out, 0, 0, 0, 0, ⟨#[]⟩, ⟨#[]⟩, none, 0, 0, true, rfl, .inl ⟨rfl, .blank, rfl, rfl, rfl, rfl, rfl, rfl⟩⟩)
  clear HR HB HM
  go_enter Tryz.func109, Tryz.ntmps109
  go_wp2_with fail
  exact bodyPost_ret (v := .tuple #[.agg #[.int .i64 0, .int .i64 (0 : Nat), .string ⟨#[]⟩, .int .i64 (0 : Nat), .string ⟨#[]⟩, .slice none 0 0, .int .i64 (0 : Nat), .int .i64 (0 : Nat)], .bool true]) (by simp [results, Tryz.results109, go_sem, *]) rfl HEND.out
 ·have q0 : (t.toList == []) = false := by rw [beq_eq_false_iff_ne, ByteArray.toList_eq]; exact h0
  have HLC := hide (lineOf_cut h0)
  clear h0
  go_enter Tryz.func109, Tryz.ntmps109
  go_wp2_with fail
  generalize w.alloc (.cells #[.int .i64 0, .int .i64 0, .string ⟨#[]⟩, .int .i64 0, .string ⟨#[]⟩, .slice none 0 0, .int .i64 0, .int .i64 0] 219) = W at *
  obtain ⟨R, hRw⟩ : ∃ R, R = w.heap.size := ⟨_, rfl⟩
  rw [← hRw] at HR ⊢
  have HRw := hide hRw
  clear hRw
  refine (cut_any t 32 W (by omega) (HM.out.below HB.out)).mono ?_
  rintro e w1 ⟨⟨n1, rfl⟩, hcase⟩
  have HB1 := hide (Below.drewN' HB.out n1)
  have HR1 := hide (show (W.drewN n1).heap[R]? = _ from HR.out)
  generalize W.drewN n1 = W1 at *
  obtain ⟨wd, rs, o, rfl, hrz, hL⟩ : ∃ (wd rs : ByteArray) (o : Bool), e = .returned (.tuple #[.string wd, .string rs, .bool o]) ∧ rs.size ≤ 2000 ∧ lineOf t.data.toList = wordLn wd.data.toList rs.data.toList := by
   rcases hcase with ⟨a, b, h1, h2, rfl⟩ | ⟨h1, rfl⟩
   ·exact ⟨a, b, true, rfl, by have := congrArg List.length h1; rw [List.length_append, List.length_cons, byte_length, byte_length, byte_length] at this; omega, HLC.out.1 _ _ h1 h2⟩
   ·exact ⟨t, ⟨#[]⟩, false, rfl, by decide, HLC.out.2 h1⟩
  have HL := hide hL
  clear hcase hL HLC HB HR
  by_cases h1 : wd.data.toList = wState
  ·obtain rfl : wd = ⟨#[115, 116, 97, 116, 101]⟩ := ba_of h1
   have q1 : ((⟨#[115, 116, 97, 116, 101]⟩ : ByteArray).toList == [115, 116, 97, 116, 101]) = true := by rw [ByteArray.toList_eq]; rfl
   have HNM := hide (isName_any rs W1 (by omega))
   clear h1
   go_wp2_with fail
   refine HNM.out.mono ?_
   rintro e w2 ⟨rfl, hB2⟩
   obtain ⟨⟨c0, c1, c2, c3, c4, c5, c6, c7⟩, f0, f1, f2, f3, f4, f5, f6, f7⟩ := zl_cells ((hB2.block R (lt_of_get HR1.out)).trans HR1.out)
   have HEND := hide (fun w' (hx : OnlyR R w2 w') => show LnPost t.data.toList w (.returned (.tuple #[.agg #[.int .i64 0, .int .i64 (1 : Nat), .string rs, .int .i64 (0 : Nat), .string ⟨#[]⟩, .slice none 0 0, .int .i64 (0 : Nat), .int .i64 (0 : Nat)], .bool (isName rs.data.toList)])) w' from ⟨(HB1.out.trans (hB2.mono HB1.out.size)).trans (by rw [← HRw.out]; exact hx.below), 1, 0, 0, 0, rs, ⟨#[]⟩, none, 0, 0, isName rs.data.toList, rfl, by
    have hw : lineOf t.data.toList = if isName rs.data.toList = true then some (.state rs.data.toList) else none := HL.out
    cases hnm : isName rs.data.toList with
    | true => rw [hnm] at hw; exact .inl ⟨rfl, .state rs.data.toList, hw, rfl, rfl, rfl, rfl, rfl, rfl⟩
    | false => rw [hnm] at hw; exact .inr ⟨rfl, hw⟩⟩)
   clear hB2 HNM HL HR1 HB1
   go_wp2_with fail
   exact bodyPost_ret (v := .tuple #[.agg #[.int .i64 0, .int .i64 (1 : Nat), .string rs, .int .i64 (0 : Nat), .string ⟨#[]⟩, .slice none 0 0, .int .i64 (0 : Nat), .int .i64 (0 : Nat)], .bool (isName rs.data.toList)]) (by simp [results, Tryz.results109, go_sem, *]) rfl (HEND.out _ (OnlyR.eight _ _ _ _ _ _ _ _))
  ·by_cases h2 : wd.data.toList = wToken
   ·clear h1
    have h1 := h2
    clear h2
    obtain rfl : wd = ⟨#[116, 111, 107, 101, 110]⟩ := ba_of h1
    have q1 : ((⟨#[116, 111, 107, 101, 110]⟩ : ByteArray).toList == [115, 116, 97, 116, 101]) = false := by rw [ByteArray.toList_eq]; rfl
    have q2 : ((⟨#[116, 111, 107, 101, 110]⟩ : ByteArray).toList == [116, 111, 107, 101, 110]) = true := by rw [ByteArray.toList_eq]; rfl
    have HRL := hide (readRule_any 0 rs W1 hrz (HM.out.below HB1.out))
    clear h1
    go_wp2_with fail
    refine HRL.out.mono ?_
    rintro e w2 ⟨hB2, ⟨rfl, hno⟩ | ⟨co, p, ao, ln, cp, wh, fl, rfl, hyes, hpat⟩⟩
    ·obtain ⟨⟨c0, c1, c2, c3, c4, c5, c6, c7⟩, f0, f1, f2, f3, f4, f5, f6, f7⟩ := zl_cells ((hB2.block R (lt_of_get HR1.out)).trans HR1.out)
     have HEND := hide (fun w' (hx : OnlyR R w2 w') => show LnPost t.data.toList w (.returned (.tuple #[.agg #[.int .i64 0, .int .i64 (0 : Nat), .string ⟨#[]⟩, .int .i64 (0 : Nat), .string ⟨#[]⟩, .slice none 0 0, .int .i64 (0 : Nat), .int .i64 (0 : Nat)], .bool false])) w' from ⟨(HB1.out.trans (hB2.mono HB1.out.size)).trans (by rw [← HRw.out]; exact hx.below), 0, 0, 0, 0, ⟨#[]⟩, ⟨#[]⟩, none, 0, 0, false, rfl, .inr ⟨rfl, by
      rw [HL.out, show wordLn [116, 111, 107, 101, 110] rs.data.toList = ruleLn 0 [] rs.data.toList from rfl, ruleLn, hno]; rfl⟩⟩)
     clear hB2 hno HRL HL HR1 HB1
     go_wp2_with fail
     exact bodyPost_ret (v := .tuple #[.agg #[.int .i64 0, .int .i64 (0 : Nat), .string ⟨#[]⟩, .int .i64 (0 : Nat), .string ⟨#[]⟩, .slice none 0 0, .int .i64 (0 : Nat), .int .i64 (0 : Nat)], .bool false]) (by simp [results, Tryz.results109, go_sem, *]) rfl (HEND.out _ (OnlyR.eight _ _ _ _ _ _ _ _))
    ·have hR2 := (hB2.block R (lt_of_get HR1.out)).trans HR1.out
     obtain ⟨⟨c0, c1, c2, c3, c4, c5, c6, c7⟩, f0, f1, f2, f3, f4, f5, f6, f7⟩ := zl_cells hR2
     have HEND := hide (fun w' (hx : OnlyR R w2 w') => show LnPost t.data.toList w (.returned (.tuple #[.agg #[.int .i64 0, .int .i64 (2 : Nat), .string ⟨#[]⟩, .int .i64 (0 : Nat), .string co, .slice ao ln cp, .int .i64 wh, .int .i64 fl], .bool true])) w' from ⟨(HB1.out.trans (hB2.mono HB1.out.size)).trans (by rw [← HRw.out]; exact hx.below), 2, 0, wh, fl, ⟨#[]⟩, co, ao, ln, cp, true, rfl, .inl ⟨rfl, .rule 0 [] co.data.toList p, by
      rw [HL.out, show wordLn [116, 111, 107, 101, 110] rs.data.toList = ruleLn 0 [] rs.data.toList from rfl, ruleLn, hyes]; rfl, rfl, rfl, by omega, rfl, rfl, (hpat.mono HB1.out.size).only hx hR2 (by decide) (by decide) (by decide)⟩⟩)
     clear hB2 hyes hpat hR2 HRL HL HR1 HB1
     go_wp2_with fail
     exact bodyPost_ret (v := .tuple #[.agg #[.int .i64 0, .int .i64 (2 : Nat), .string ⟨#[]⟩, .int .i64 (0 : Nat), .string co, .slice ao ln cp, .int .i64 wh, .int .i64 fl], .bool true]) (by simp [results, Tryz.results109, go_sem, *]) rfl (HEND.out _ (OnlyR.eight _ _ _ _ _ _ _ _))
   ·by_cases h3 : wd.data.toList = wPop
    ·clear h1 h2
     have h1 := h3
     clear h3
     obtain rfl : wd = ⟨#[112, 111, 112]⟩ := ba_of h1
     have q1 : ((⟨#[112, 111, 112]⟩ : ByteArray).toList == [115, 116, 97, 116, 101]) = false := by rw [ByteArray.toList_eq]; rfl
     have q2 : ((⟨#[112, 111, 112]⟩ : ByteArray).toList == [116, 111, 107, 101, 110]) = false := by rw [ByteArray.toList_eq]; rfl
     have q3 : ((⟨#[112, 111, 112]⟩ : ByteArray).toList == [112, 111, 112]) = true := by rw [ByteArray.toList_eq]; rfl
     have HRL := hide (readRule_any 2 rs W1 hrz (HM.out.below HB1.out))
     clear h1
     go_wp2_with fail
     refine HRL.out.mono ?_
     rintro e w2 ⟨hB2, ⟨rfl, hno⟩ | ⟨co, p, ao, ln, cp, wh, fl, rfl, hyes, hpat⟩⟩
     ·obtain ⟨⟨c0, c1, c2, c3, c4, c5, c6, c7⟩, f0, f1, f2, f3, f4, f5, f6, f7⟩ := zl_cells ((hB2.block R (lt_of_get HR1.out)).trans HR1.out)
      have HEND := hide (fun w' (hx : OnlyR R w2 w') => show LnPost t.data.toList w (.returned (.tuple #[.agg #[.int .i64 0, .int .i64 (0 : Nat), .string ⟨#[]⟩, .int .i64 (0 : Nat), .string ⟨#[]⟩, .slice none 0 0, .int .i64 (0 : Nat), .int .i64 (0 : Nat)], .bool false])) w' from ⟨(HB1.out.trans (hB2.mono HB1.out.size)).trans (by rw [← HRw.out]; exact hx.below), 0, 0, 0, 0, ⟨#[]⟩, ⟨#[]⟩, none, 0, 0, false, rfl, .inr ⟨rfl, by
       rw [HL.out, show wordLn [112, 111, 112] rs.data.toList = ruleLn 2 [] rs.data.toList from rfl, ruleLn, hno]; rfl⟩⟩)
      clear hB2 hno HRL HL HR1 HB1
      go_wp2_with fail
      exact bodyPost_ret (v := .tuple #[.agg #[.int .i64 0, .int .i64 (0 : Nat), .string ⟨#[]⟩, .int .i64 (0 : Nat), .string ⟨#[]⟩, .slice none 0 0, .int .i64 (0 : Nat), .int .i64 (0 : Nat)], .bool false]) (by simp [results, Tryz.results109, go_sem, *]) rfl (HEND.out _ (OnlyR.eight _ _ _ _ _ _ _ _))
     ·have hR2 := (hB2.block R (lt_of_get HR1.out)).trans HR1.out
      obtain ⟨⟨c0, c1, c2, c3, c4, c5, c6, c7⟩, f0, f1, f2, f3, f4, f5, f6, f7⟩ := zl_cells hR2
      have HEND := hide (fun w' (hx : OnlyR R w2 w') => show LnPost t.data.toList w (.returned (.tuple #[.agg #[.int .i64 0, .int .i64 (2 : Nat), .string ⟨#[]⟩, .int .i64 (2 : Nat), .string co, .slice ao ln cp, .int .i64 wh, .int .i64 fl], .bool true])) w' from ⟨(HB1.out.trans (hB2.mono HB1.out.size)).trans (by rw [← HRw.out]; exact hx.below), 2, 2, wh, fl, ⟨#[]⟩, co, ao, ln, cp, true, rfl, .inl ⟨rfl, .rule 2 [] co.data.toList p, by
       rw [HL.out, show wordLn [112, 111, 112] rs.data.toList = ruleLn 2 [] rs.data.toList from rfl, ruleLn, hyes]; rfl, rfl, rfl, by omega, rfl, rfl, (hpat.mono HB1.out.size).only hx hR2 (by decide) (by decide) (by decide)⟩⟩)
      clear hB2 hyes hpat hR2 HRL HL HR1 HB1
      go_wp2_with fail
      exact bodyPost_ret (v := .tuple #[.agg #[.int .i64 0, .int .i64 (2 : Nat), .string ⟨#[]⟩, .int .i64 (2 : Nat), .string co, .slice ao ln cp, .int .i64 wh, .int .i64 fl], .bool true]) (by simp [results, Tryz.results109, go_sem, *]) rfl (HEND.out _ (OnlyR.eight _ _ _ _ _ _ _ _))
    ·by_cases h4 : wd.data.toList = wPush
     ·obtain rfl : wd = ⟨#[112, 117, 115, 104]⟩ := ba_of h4
      have q1 : ((⟨#[112, 117, 115, 104]⟩ : ByteArray).toList == [115, 116, 97, 116, 101]) = false := by rw [ByteArray.toList_eq]; rfl
      have q2 : ((⟨#[112, 117, 115, 104]⟩ : ByteArray).toList == [116, 111, 107, 101, 110]) = false := by rw [ByteArray.toList_eq]; rfl
      have q3 : ((⟨#[112, 117, 115, 104]⟩ : ByteArray).toList == [112, 111, 112]) = false := by rw [ByteArray.toList_eq]; rfl
      have q4 : ((⟨#[112, 117, 115, 104]⟩ : ByteArray).toList == [112, 117, 115, 104]) = true := by rw [ByteArray.toList_eq]; rfl
      clear h1 h2 h3 h4
      go_wp2_with fail
      refine (cut_any rs 32 W1 (by omega) (HM.out.below HB1.out)).mono ?_
      rintro e w2 ⟨⟨n2, rfl⟩, hcase⟩
      have HB2 := hide (Below.drewN' HB1.out n2)
      have HR2 := hide (show (W1.drewN n2).heap[R]? = _ from HR1.out)
      generalize W1.drewN n2 = W2 at *
      obtain ⟨st, r2, o2, rfl, hr2z, hstz, hL2⟩ : ∃ (st r2 : ByteArray) (o : Bool), e = .returned (.tuple #[.string st, .string r2, .bool o]) ∧ r2.size ≤ 2000 ∧ st.size ≤ 2000 ∧ lineOf t.data.toList = if isName st.data.toList = true then ruleLn 1 st.data.toList r2.data.toList else none := by
       have hw : lineOf t.data.toList = pushLn rs.data.toList := HL.out
       rcases hcase with ⟨a, b, h1, h2, rfl⟩ | ⟨h1, rfl⟩
       ·have hl := congrArg List.length h1
        rw [List.length_append, List.length_cons, byte_length, byte_length, byte_length] at hl
        exact ⟨a, b, true, rfl, by omega, by omega, by rw [hw, pushLn_hit h1 h2]⟩
       ·exact ⟨rs, ⟨#[]⟩, false, rfl, by decide, hrz, by rw [hw, pushLn_miss h1]; split <;> rfl⟩
      have HL2 := hide hL2
      clear hcase hL2 HL HB1 HR1
      go_wp2_with fail
      refine (readRule_any 1 r2 W2 hr2z (HM.out.below HB2.out)).mono ?_
      rintro e w3 ⟨hB3, ⟨rfl, hno⟩ | ⟨co, p, ao, ln, cp, wh, fl, rfl, hyes, hpat⟩⟩
      ·have HB3 := hide (HB2.out.trans (hB3.mono HB2.out.size))
       have HR3 := hide ((hB3.block R (lt_of_get HR2.out)).trans HR2.out)
       have HB4 := hide (HB3.out.alloc HB3.out.size (.cells #[.int .i64 0, .int .i64 0, .string st, .int .i64 0, .string ⟨#[]⟩, .slice none 0 0, .int .i64 0, .int .i64 0] 219))
       have HR4 := hide (heap_alloc_old (o := (.cells #[.int .i64 0, .int .i64 0, .string st, .int .i64 0, .string ⟨#[]⟩, .slice none 0 0, .int .i64 0, .int .i64 0] 219)) HR3.out)
       have HLB := hide (heap_alloc_last w3 (.cells #[.int .i64 0, .int .i64 0, .string st, .int .i64 0, .string ⟨#[]⟩, .slice none 0 0, .int .i64 0, .int .i64 0] 219))
       have HNO := hide hno
       obtain ⟨L, hLq⟩ : ∃ L, L = w3.heap.size := ⟨_, rfl⟩
       clear hB3 hno HB2 HR2 HB3 HR3
       go_wp2_with fail
       rw [← hLq] at HLB ⊢
       clear hLq
       generalize w3.alloc (.cells #[.int .i64 0, .int .i64 0, .string st, .int .i64 0, .string ⟨#[]⟩, .slice none 0 0, .int .i64 0, .int .i64 0] 219) = W4 at *
       obtain ⟨⟨c0, c1, c2, c3, c4, c5, c6, c7⟩, f0, f1, f2, f3, f4, f5, f6, f7⟩ := zl_cells HR4.out
       have hlb := HLB.out
       have d0 : W4.cell? ⟨L, 0, none⟩ = some (.int .i64 0) := by simp [World.cell?, hlb]
       have d1 : W4.cell? ⟨L, 1, none⟩ = some (.int .i64 0) := by simp [World.cell?, hlb]
       have d2 : W4.cell? ⟨L, 2, none⟩ = some (.string st) := by simp [World.cell?, hlb]
       have d3 : W4.cell? ⟨L, 3, none⟩ = some (.int .i64 0) := by simp [World.cell?, hlb]
       have d4 : W4.cell? ⟨L, 4, none⟩ = some (.string ⟨#[]⟩) := by simp [World.cell?, hlb]
       have d5 : W4.cell? ⟨L, 5, none⟩ = some (.slice none 0 0) := by simp [World.cell?, hlb]
       have d6 : W4.cell? ⟨L, 6, none⟩ = some (.int .i64 0) := by simp [World.cell?, hlb]
       have d7 : W4.cell? ⟨L, 7, none⟩ = some (.int .i64 0) := by simp [World.cell?, hlb]
       clear hlb
       have HEND := hide (fun w' (hx : OnlyR R W4 w') => show LnPost t.data.toList w (.returned (.tuple #[.agg #[.int .i64 0, .int .i64 (0 : Nat), .string st, .int .i64 (0 : Nat), .string ⟨#[]⟩, .slice none 0 0, .int .i64 (0 : Nat), .int .i64 (0 : Nat)], .bool false])) w' from ⟨HB4.out.trans (by rw [← HRw.out]; exact hx.below), 0, 0, 0, 0, st, ⟨#[]⟩, none, 0, 0, false, rfl, .inr ⟨rfl, by
        rw [HL2.out, ruleLn, HNO.out]; split <;> rfl⟩⟩)
       clear HNO HL2 HB4 HR4 HLB
       go_region
       all_goals
        go_wp2_with fail
        exact bodyPost_ret (v := .tuple #[.agg #[.int .i64 0, .int .i64 (0 : Nat), .string st, .int .i64 (0 : Nat), .string ⟨#[]⟩, .slice none 0 0, .int .i64 (0 : Nat), .int .i64 (0 : Nat)], .bool false]) (by simp [results, Tryz.results109, go_sem, *]) rfl (HEND.out _ (((OnlyR.refl R W4).more _ _ _ _ _ _ _ _).drew))
      ·have HB3 := hide (HB2.out.trans (hB3.mono HB2.out.size))
       have HR3 := hide ((hB3.block R (lt_of_get HR2.out)).trans HR2.out)
       have HPAT := hide ((hpat.mono HB2.out.size).below ((Below.refl _ _).alloc (Nat.le_refl _) (.cells #[.int .i64 0, .int .i64 2, .string st, .int .i64 1, .string co, .slice ao ln cp, .int .i64 wh, .int .i64 fl] 219)))
       have HB4 := hide (HB3.out.alloc HB3.out.size (.cells #[.int .i64 0, .int .i64 2, .string st, .int .i64 1, .string co, .slice ao ln cp, .int .i64 wh, .int .i64 fl] 219))
       have HR4 := hide (heap_alloc_old (o := .cells #[.int .i64 0, .int .i64 2, .string st, .int .i64 1, .string co, .slice ao ln cp, .int .i64 wh, .int .i64 fl] 219) HR3.out)
       have HLB := hide (heap_alloc_last w3 (.cells #[.int .i64 0, .int .i64 2, .string st, .int .i64 1, .string co, .slice ao ln cp, .int .i64 wh, .int .i64 fl] 219))
       have HYES := hide hyes
       clear hB3 hyes hpat HB2 HR2 HB3 HR3
       obtain ⟨L, hLq⟩ : ∃ L, L = w3.heap.size := ⟨_, rfl⟩
       go_wp2_with fail
       rw [← hLq] at HLB ⊢
       clear hLq
       generalize w3.alloc (.cells #[.int .i64 0, .int .i64 2, .string st, .int .i64 1, .string co, .slice ao ln cp, .int .i64 wh, .int .i64 fl] 219) = W4 at *
       have HCL := hide (fun (w5 : World) (hh : w5.heap[L]? = some (.cells #[.int .i64 0, .int .i64 2, .string st, .int .i64 1, .string co, .slice ao ln cp, .int .i64 wh, .int .i64 fl] 219 (0, 0))) => show w5.cell? ⟨L, 0, none⟩ = some (.int .i64 0) ∧ w5.cell? ⟨L, 1, none⟩ = some (.int .i64 2) ∧ w5.cell? ⟨L, 2, none⟩ = some (.string st) ∧ w5.cell? ⟨L, 3, none⟩ = some (.int .i64 1) ∧ w5.cell? ⟨L, 4, none⟩ = some (.string co) ∧ w5.cell? ⟨L, 5, none⟩ = some (.slice ao ln cp) ∧ w5.cell? ⟨L, 6, none⟩ = some (.int .i64 wh) ∧ w5.cell? ⟨L, 7, none⟩ = some (.int .i64 fl) from by simp [World.cell?, hh])
       obtain ⟨d0, d1, d2, d3, d4, d5, d6, d7⟩ := HCL.out W4 HLB.out
       have HNM := hide (isName_any st W4.drew (by omega))
       have HEND := hide (fun (w5 w' : World) (hB5 : Below W4.heap.size W4 w5) (hx : OnlyR R w5 w') => show LnPost t.data.toList w (.returned (.tuple #[.agg #[.int .i64 0, .int .i64 (2 : Nat), .string st, .int .i64 (1 : Nat), .string co, .slice ao ln cp, .int .i64 wh, .int .i64 fl], .bool (isName st.data.toList)])) w' from ⟨(HB4.out.trans (hB5.mono HB4.out.size)).trans (by rw [← HRw.out]; exact hx.below), 2, 1, wh, fl, st, co, ao, ln, cp, isName st.data.toList, rfl, by
        have hw := HL2.out
        cases hnm : isName st.data.toList with
        | true =>
         rw [hnm, if_pos rfl, ruleLn, HYES.out] at hw
         exact .inl ⟨rfl, _, hw, rfl, rfl, by omega, rfl, rfl, (HPAT.out.below hB5).only hx ((hB5.block R (lt_of_get HR4.out)).trans HR4.out) (by decide) (by decide) (by decide)⟩
        | false =>
         rw [hnm] at hw
         exact .inr ⟨rfl, hw⟩⟩)
       have HZL := hide (fun (w5 : World) (hB5 : Below W4.heap.size W4 w5) => And.intro (HCL.out w5 ((hB5.block L (lt_of_get HLB.out)).trans HLB.out)) (zl_cells ((hB5.block R (lt_of_get HR4.out)).trans HR4.out)))
       clear HPAT HB4 HR4 HLB HYES HL2 HCL
       go_region_with (first
        | (go_at_call 147; refine HNM.out.mono ?_; rintro e w5 ⟨rfl, hB5⟩; have hB5' := undrew1 hB5; obtain ⟨⟨x0, x1, x2, x3, x4, x5, x6, x7⟩, ⟨c0, c1, c2, c3, c4, c5, c6, c7⟩, f0, f1, f2, f3, f4, f5, f6, f7⟩ := HZL.out w5 hB5'; have HB5 := hide hB5'; clear hB5 hB5'))
       all_goals
        go_wp2_with fail
        exact bodyPost_ret (v := .tuple #[.agg #[.int .i64 0, .int .i64 (2 : Nat), .string st, .int .i64 (1 : Nat), .string co, .slice ao ln cp, .int .i64 wh, .int .i64 fl], .bool (isName st.data.toList)]) (by simp [results, Tryz.results109, go_sem, *]) rfl (HEND.out _ _ HB5.out (OnlyR.eight _ _ _ _ _ _ _ _))
     ·have q1 := str_ne h1
      have q2 := str_ne h2
      have q3 := str_ne h3
      have q4 := str_ne h4
      unfold wState at q1
      unfold wToken at q2
      unfold wPop at q3
      unfold wPush at q4
      obtain ⟨⟨c0, c1, c2, c3, c4, c5, c6, c7⟩, f0, f1, f2, f3, f4, f5, f6, f7⟩ := zl_cells HR1.out
      have HEND := hide (fun w' (hx : OnlyR R W1 w') => show LnPost t.data.toList w (.returned (.tuple #[.agg #[.int .i64 0, .int .i64 (0 : Nat), .string ⟨#[]⟩, .int .i64 (0 : Nat), .string ⟨#[]⟩, .slice none 0 0, .int .i64 (0 : Nat), .int .i64 (0 : Nat)], .bool false])) w' from ⟨HB1.out.trans (by rw [← HRw.out]; exact hx.below), 0, 0, 0, 0, ⟨#[]⟩, ⟨#[]⟩, none, 0, 0, false, rfl, .inr ⟨rfl, by
       rw [HL.out, wordLn, if_neg h1, if_neg h2, if_neg h3, if_neg h4]⟩⟩)
      clear h1 h2 h3 h4 HL HR1 HB1
      go_wp2_with fail
      exact bodyPost_ret (v := .tuple #[.agg #[.int .i64 0, .int .i64 (0 : Nat), .string ⟨#[]⟩, .int .i64 (0 : Nat), .string ⟨#[]⟩, .slice none 0 0, .int .i64 (0 : Nat), .int .i64 (0 : Nat)], .bool false]) (by simp [results, Tryz.results109, go_sem, *]) rfl (HEND.out _ (OnlyR.eight _ _ _ _ _ _ _ _))
end Go.Proofs.YtgncgdkpkkdaeaaGreatDoor
