/- The program's lines: readRule, readLine. -/
import Derived.Test.YtgncgdkpkkdaeaaV1
import Derived.Test.YtgncgdkpkkdaeaaN3
namespace Go.Proofs.Ytgncgdkpkkdaeaa
open Go.RowKit Tint

/-- What Parse made of a pattern. -/
def PatIs (w : World) (B : Nat) (p : List UInt8) (lv : Value) (wh fl : Nat) : Prop :=
  (60 < p.length ∧ lv = .slice none 0 0 ∧ wh = 0 ∧ fl = 1) ∨
  (p.length ≤ 60 ∧ (PAlt p none ∨ ∃ r s', s' ≠ [] ∧ PAlt p (some (r, s'))) ∧ lv = .slice none 0 0 ∧ wh = 0 ∧ fl = 6) ∨
  (p.length ≤ 60 ∧ fl = 0 ∧ ∃ (a : ARe) (ns : List (Nd Value)) (g cap : Nat), lv = .slice (some ⟨g, 0, none⟩) ns.length cap ∧ wh = a.ix ∧ PAlt p (some (a.re, [])) ∧ Lists w B lv ns ∧ Rep (IsCls w) ns a ∧ Rep (IsCls w) ns .eps ∧ ns.length ≤ 200)

theorem PatIs.keep {w w' : World} {B : Nat} {p : List UInt8} {lv : Value} {wh fl : Nat} (h : PatIs w B p lv wh fl) (hk : ∀ (k : Nat) c t, (t = 130 ∨ t = 5 ∨ t = 128) → w.heap[k]? = some (.cells c t (0, 0)) → w'.heap[k]? = some (.cells c t (0, 0))) : PatIs w' B p lv wh fl := by
  have hst : Stay w w' := fun k c t ht hh => hk k c t (.inr ht) hh
  rcases h with h | h | ⟨h1, h2, a, ns, g, cap, h3, h4, h5, h6, h7, h8, h9⟩
  · exact .inl h
  · exact .inr (.inl h)
  · exact .inr (.inr ⟨h1, h2, a, ns, g, cap, h3, h4, h5, h6.keep fun k hb => by obtain ⟨_, cur, hc⟩ := h6.block hb; rw [hc]; exact hk k _ _ (.inl rfl) hc, h7.world hst, h8.world hst, h9⟩)

theorem PatIs.below {w w' : World} {B : Nat} {p : List UInt8} {lv : Value} {wh fl : Nat} (h : PatIs w B p lv wh fl) (hb : Below w.heap.size w w') : PatIs w' B p lv wh fl :=
  h.keep fun k _ _ _ hh => (hb.block k (lt_of_get hh)).trans hh

/-- Block R alone was written. -/
structure OnlyR (R : Nat) (w w' : World) : Prop where
  below : Below R w w'
  size : w'.heap.size = w.heap.size
  other : ∀ k, k ≠ R → w'.heap[k]? = w.heap[k]?

theorem OnlyR.refl (R : Nat) (w : World) : OnlyR R w w := ⟨Below.refl _ _, rfl, fun _ _ => rfl⟩
theorem OnlyR.set {R : Nat} {w w' : World} (h : OnlyR R w w') (j : Nat) (v : Value) : OnlyR R w (w'.setCell ⟨R, j, none⟩ v) :=
  ⟨h.below.setCell (Nat.le_refl _) _, by rw [← h.size]; simp [World.setCell], fun k hk => (Below.heap_setCell _ _ _ _ hk).trans (h.other k hk)⟩

theorem OnlyR.drew {R : Nat} {w w' : World} (h : OnlyR R w w') : OnlyR R w w'.drew := ⟨h.below.drew, h.size, h.other⟩

theorem PatIs.only {w w' : World} {R B : Nat} {p : List UInt8} {lv : Value} {wh fl : Nat} {c0 : Array Value} {t0 : TypeId} {fz : Nat × Nat} (h : PatIs w B p lv wh fl) (ho : OnlyR R w w') (hR : w.heap[R]? = some (.cells c0 t0 fz)) (h1 : t0 ≠ 130) (h2 : t0 ≠ 5) (h3 : t0 ≠ 128) : PatIs w' B p lv wh fl :=
  h.keep fun k c t ht hh => by
    rw [ho.other k (fun e => by
      rw [e, hR] at hh
      simp only [Option.some.injEq, Obj.cells.injEq] at hh
      rcases ht with rfl | rfl | rfl
      · exact h1 hh.2.1
      · exact h2 hh.2.1
      · exact h3 hh.2.1)]
    exact hh

theorem PatIs.mono {w : World} {B B' : Nat} {p : List UInt8} {lv : Value} {wh fl : Nat} (h : PatIs w B p lv wh fl) (hB : B' ≤ B) : PatIs w B' p lv wh fl := by
  rcases h with h | h | ⟨h1, h2, a, ns, g, cap, h3, h4, h5, h6, h7, h8, h9⟩
  · exact .inl h
  · exact .inr (.inl h)
  · refine .inr (.inr ⟨h1, h2, a, ns, g, cap, h3, h4, h5, ⟨⟨h6.1.1, ?_⟩, h6.2⟩, h7, h8, h9⟩)
    rcases h6.1.2 with hh | ⟨g', cap', cur, e1, e2, e3⟩
    · exact .inl hh
    · exact .inr ⟨g', cap', cur, e1, Nat.le_trans hB e2, e3⟩

theorem zl_cells {w : World} {R : Nat} (h : w.heap[R]? = some (.cells #[.int .i64 0, .int .i64 0, .string ⟨#[]⟩, .int .i64 0, .string ⟨#[]⟩, .slice none 0 0, .int .i64 0, .int .i64 0] 75 (0, 0))) : (w.cell? ⟨R, 0, none⟩ = some (.int .i64 0) ∧ w.cell? ⟨R, 1, none⟩ = some (.int .i64 0) ∧ w.cell? ⟨R, 2, none⟩ = some (.string ⟨#[]⟩) ∧ w.cell? ⟨R, 3, none⟩ = some (.int .i64 0) ∧ w.cell? ⟨R, 4, none⟩ = some (.string ⟨#[]⟩) ∧ w.cell? ⟨R, 5, none⟩ = some (.slice none 0 0) ∧ w.cell? ⟨R, 6, none⟩ = some (.int .i64 0) ∧ w.cell? ⟨R, 7, none⟩ = some (.int .i64 0)) ∧
    w.frozen? ⟨R, 0, none⟩ = false ∧ w.frozen? ⟨R, 1, none⟩ = false ∧ w.frozen? ⟨R, 2, none⟩ = false ∧ w.frozen? ⟨R, 3, none⟩ = false ∧ w.frozen? ⟨R, 4, none⟩ = false ∧ w.frozen? ⟨R, 5, none⟩ = false ∧ w.frozen? ⟨R, 6, none⟩ = false ∧ w.frozen? ⟨R, 7, none⟩ = false := by
  simp [World.cell?, World.frozen?, h]

theorem OnlyR.eight {R : Nat} {w : World} (a b c d e f g h : Value) : OnlyR R w ((((((((w.setCell ⟨R, 0, none⟩ a).setCell ⟨R, 1, none⟩ b).setCell ⟨R, 2, none⟩ c).setCell ⟨R, 3, none⟩ d).setCell ⟨R, 4, none⟩ e).setCell ⟨R, 5, none⟩ f).setCell ⟨R, 6, none⟩ g).setCell ⟨R, 7, none⟩ h) :=
  ((((((((OnlyR.refl R w).set 0 a).set 1 b).set 2 c).set 3 d).set 4 e).set 5 f).set 6 g).set 7 h

theorem OnlyR.more {R : Nat} {w0 w : World} (hx : OnlyR R w0 w) (a b c d e f g h : Value) : OnlyR R w0 ((((((((w.setCell ⟨R, 0, none⟩ a).setCell ⟨R, 1, none⟩ b).setCell ⟨R, 2, none⟩ c).setCell ⟨R, 3, none⟩ d).setCell ⟨R, 4, none⟩ e).setCell ⟨R, 5, none⟩ f).setCell ⟨R, 6, none⟩ g).setCell ⟨R, 7, none⟩ h) :=
  (((((((hx.set 0 a).set 1 b).set 2 c).set 3 d).set 4 e).set 5 f).set 6 g).set 7 h

def RlPost (d : Nat) (t : List UInt8) (w : World) (e : Ending) (w' : World) : Prop :=
  Below w.heap.size w w' ∧ ((e = .returned (.tuple #[.agg #[.int .i64 0, .int .i64 0, .string ⟨#[]⟩, .int .i64 0, .string ⟨#[]⟩, .slice none 0 0, .int .i64 0, .int .i64 0], .bool false]) ∧ ruleBody t = none) ∨
    ∃ (co : ByteArray) (p : List UInt8) (ao : Option Addr) (ln cp wh fl : Nat), e = .returned (.tuple #[.agg #[.int .i64 0, .int .i64 2, .string ⟨#[]⟩, .int .i64 d, .string co, .slice ao ln cp, .int .i64 wh, .int .i64 fl], .bool true]) ∧ ruleBody t = some (co.data.toList, p) ∧ PatIs w' w.heap.size p (.slice ao ln cp) wh fl)

set_option maxRecDepth 20000 in
set_option maxHeartbeats 1000000 in
theorem readRule_any (d : Nat) (t : ByteArray) (w : World) (hz : t.size ≤ 2000) (hm : Mx w) :
    Calls Try.prog 37 #[.int .i64 d, .string t] w (RlPost d t.data.toList w) := by
  have HM := hide hm
  clear hm
  have HR := hide (heap_alloc_last w (.cells #[.int .i64 0, .int .i64 0, .string ⟨#[]⟩, .int .i64 0, .string ⟨#[]⟩, .slice none 0 0, .int .i64 0, .int .i64 0] 75))
  have HB := hide (show Below w.heap.size w (w.alloc (.cells #[.int .i64 0, .int .i64 0, .string ⟨#[]⟩, .int .i64 0, .string ⟨#[]⟩, .slice none 0 0, .int .i64 0, .int .i64 0] 75)) from (Below.refl _ _).alloc (Nat.le_refl _) _)
  go_enter Try.func37, Try.ntmps37
  go_wp2_with fail
  generalize w.alloc (.cells #[.int .i64 0, .int .i64 0, .string ⟨#[]⟩, .int .i64 0, .string ⟨#[]⟩, .slice none 0 0, .int .i64 0, .int .i64 0] 75) = W at *
  obtain ⟨R, hRw⟩ : ∃ R, R = w.heap.size := ⟨_, rfl⟩
  rw [← hRw] at HR ⊢
  have HRw := hide hRw
  clear hRw
  refine (cutRule_any t W (by omega) (HM.out.below HB.out)).mono ?_
  rintro e w1 ⟨⟨n1, rfl⟩, co, so, o, rfl, hcz, hsz, hcase⟩
  have HB1 := hide (Below.drewN' HB.out n1)
  have HR1 := hide (show (W.drewN n1).heap[R]? = _ from HR.out)
  generalize W.drewN n1 = W1 at *
  rcases hcase with ⟨rfl, hnm, hrb⟩ | ⟨hrb, ho⟩
  · have HNM := hide (isName_any co W1 (by omega))
    have HRB := hide hrb
    rw [hnm] at HNM
    clear hrb hnm
    go_wp2_with fail
    refine HNM.out.mono ?_
    rintro e w2 ⟨rfl, hB2⟩
    have HB2 := hide (HB1.out.trans (hB2.mono HB1.out.size))
    have HR2 := hide ((hB2.block R (lt_of_get HR1.out)).trans HR1.out)
    clear hB2 HNM
    go_wp2_with fail
    refine (parse_any so w2 (by unfold maxLen; omega)).mono ?_
    rintro e w3 ⟨hB3, hcase⟩
    have HB3 := hide (HB2.out.trans (hB3.mono HB2.out.size))
    have HR3 := hide ((hB3.block R (lt_of_get HR2.out)).trans HR2.out)
    obtain ⟨ao, ln, cp, wh, fl, rfl, hpat⟩ : ∃ (ao : Option Addr) (ln cp wh fl : Nat), e = .returned (.tuple #[.agg #[.slice ao ln cp, .int .i64 wh], .int .i64 fl]) ∧ PatIs w3 w2.heap.size so.data.toList (.slice ao ln cp) wh fl := by
      rcases hcase with ⟨h1, rfl⟩ | ⟨h1, h2, rfl⟩ | ⟨h1, sv, a, ns, rfl, h2, h3, h4, h5, h6⟩
      · exact ⟨none, 0, 0, 0, 1, rfl, .inl ⟨h1, rfl, rfl, rfl⟩⟩
      · exact ⟨none, 0, 0, 0, 6, rfl, .inr (.inl ⟨h1, h2, rfl, rfl, rfl⟩)⟩
      · have h0 : 0 < ns.length := by obtain ⟨x, hx⟩ := h5; exact get_lt hx
        obtain ⟨g, cap, rfl⟩ := own_form h3.1 h0
        exact ⟨some ⟨g, 0, none⟩, ns.length, cap, a.ix, 0, rfl, .inr (.inr ⟨h1, rfl, a, ns, g, cap, rfl, rfl, h2, h3, h4, h5, h6⟩)⟩
    obtain ⟨⟨c0, c1, c2, c3, c4, c5, c6, c7⟩, f0, f1, f2, f3, f4, f5, f6, f7⟩ := zl_cells (heap_alloc_old (o := .cells #[.slice ao ln cp, .int .i64 wh] 73) HR3.out)
    have HEND := hide (fun w' (ho : OnlyR R (w3.alloc (.cells #[.slice ao ln cp, .int .i64 wh] 73)) w') => show RlPost d t.data.toList w (.returned (.tuple #[.agg #[.int .i64 0, .int .i64 2, .string ⟨#[]⟩, .int .i64 d, .string co, .slice ao ln cp, .int .i64 wh, .int .i64 fl], .bool true])) w' from
      ⟨(HB3.out.alloc HB3.out.size _).trans (by rw [← HRw.out]; exact ho.below), .inr ⟨co, so.data.toList, ao, ln, cp, wh, fl, rfl, HRB.out, ((hpat.mono HB2.out.size).below ((Below.refl _ _).alloc (Nat.le_refl _) _)).only ho (heap_alloc_old HR3.out) (by decide) (by decide) (by decide)⟩⟩)
    clear hpat hB3 hcase HR3 HR2 HR1 HR HB3 HB2 HB1 HB HRB
    go_wp2_with fail
    exact bodyPost_ret (v := .tuple #[.agg #[.int .i64 0, .int .i64 2, .string ⟨#[]⟩, .int .i64 d, .string co, .slice ao ln cp, .int .i64 wh, .int .i64 fl], .bool true]) (by simp [results, Try.results37, go_sem, *]) rfl (HEND.out _ (OnlyR.eight _ _ _ _ _ _ _ _))
  · have HRB := hide hrb
    clear hrb
    by_cases ho0 : o = true
    · subst ho0
      have hnm : isName co.data.toList = false := by rcases ho with h | h; cases h; exact h
      have HNM := hide (isName_any co W1 (by omega))
      rw [hnm] at HNM
      clear hnm ho
      go_wp2_with fail
      refine HNM.out.mono ?_
      rintro e w2 ⟨rfl, hB2⟩
      obtain ⟨⟨c0, c1, c2, c3, c4, c5, c6, c7⟩, f0, f1, f2, f3, f4, f5, f6, f7⟩ := zl_cells ((hB2.block R (lt_of_get HR1.out)).trans HR1.out)
      have HEND := hide (fun w' (hx : OnlyR R w2 w') => show RlPost d t.data.toList w (.returned (.tuple #[.agg #[.int .i64 0, .int .i64 0, .string ⟨#[]⟩, .int .i64 0, .string ⟨#[]⟩, .slice none 0 0, .int .i64 0, .int .i64 0], .bool false])) w' from ⟨(HB1.out.trans (hB2.mono HB1.out.size)).trans (by rw [← HRw.out]; exact hx.below), .inl ⟨rfl, HRB.out⟩⟩)
      clear hB2 HNM HR1 HR HB1 HB HRB
      go_wp2_with fail
      exact bodyPost_ret (v := .tuple #[.agg #[.int .i64 0, .int .i64 0, .string ⟨#[]⟩, .int .i64 0, .string ⟨#[]⟩, .slice none 0 0, .int .i64 0, .int .i64 0], .bool false]) (by simp [results, Try.results37, go_sem, *]) rfl (HEND.out _ (OnlyR.eight _ _ _ _ _ _ _ _))
    · obtain rfl : o = false := by simpa using ho0
      obtain ⟨⟨c0, c1, c2, c3, c4, c5, c6, c7⟩, f0, f1, f2, f3, f4, f5, f6, f7⟩ := zl_cells HR1.out
      have HEND := hide (fun w' (hx : OnlyR R W1 w') => show RlPost d t.data.toList w (.returned (.tuple #[.agg #[.int .i64 0, .int .i64 0, .string ⟨#[]⟩, .int .i64 0, .string ⟨#[]⟩, .slice none 0 0, .int .i64 0, .int .i64 0], .bool false])) w' from ⟨HB1.out.trans (by rw [← HRw.out]; exact hx.below), .inl ⟨rfl, HRB.out⟩⟩)
      clear HR1 HR HB1 HB HRB ho ho0
      go_wp2_with fail
      exact bodyPost_ret (v := .tuple #[.agg #[.int .i64 0, .int .i64 0, .string ⟨#[]⟩, .int .i64 0, .string ⟨#[]⟩, .slice none 0 0, .int .i64 0, .int .i64 0], .bool false]) (by simp [results, Try.results37, go_sem, *]) rfl (HEND.out _ (OnlyR.eight _ _ _ _ _ _ _ _))
end Go.Proofs.Ytgncgdkpkkdaeaa
