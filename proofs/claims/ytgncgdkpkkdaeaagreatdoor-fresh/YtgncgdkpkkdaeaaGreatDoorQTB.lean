/- Put together from TB. -/
import Derived.Test.YtgncgdkpkkdaeaaGreatDoorQTA
import Derived.Test.YtgncgdkpkkdaeaaGreatDoorQD
import Derived.Maps.AppendAt
/- The document's own reader of patterns: nodes in memory; ATOM. The document's own reader of patterns: CAT and ALT. The document's own reader of patterns: CAT, the walk. The document's own reader of patterns: ALT, the walk. -/
namespace Go.Proofs.YtgncgdkpkkdaeaaGreatDoor.Ref
open Go.RowKit Tint

/-- What a node of parts matches. -/
def Parts (kind : Nat) (rs : List Re) (r : Re) : Prop :=
  (kind = 38 ∧ r = seqOf rs) ∨ (kind = 124 ∧ ∃ r0 rs', rs = r0 :: rs' ∧ r = rs'.foldl Re.alt r0) ∨ (kind = 42 ∧ ∃ q, rs = [q] ∧ r = .star q) ∨ (kind = 43 ∧ ∃ q, rs = [q] ∧ r = .plus q) ∨ (kind = 63 ∧ ∃ q, rs = [q] ∧ r = .opt q)

/-- A pattern as nodes, in blocks of K. -/
inductive NodeIs (w : World) (K : Nat → Prop) : Value → Re → Prop where
  | cls {p A : Nat} {on : List Bool} {c : Cls} : K p → K A → NodeBlk w p 99 (.slice (some ⟨A, 0, none⟩) 256 256) (.slice none 0 0) → OnAt w A on → Tbl on c → NodeIs w K (.pointer (some ⟨p, 0, none⟩)) (.cls c)
  | many {p kind : Nat} {sv : Value} {vs : List Value} {rs : List Re} {r : Re} : K p → NodeBlk w p kind (.slice none 0 0) sv → w.ownsRow 0 199 1 sv vs.length vs → (∀ k, sv.ownBlock = some k → K k) → vs.length = rs.length →
      (∀ (i : Nat) (v : Value) (q : Re), vs[i]? = some v → rs[i]? = some q → NodeIs w K v q) → Parts kind rs r → NodeIs w K (.pointer (some ⟨p, 0, none⟩)) r

theorem ownsRow_keep {w w' : World} {B : Nat} {e : TypeId} {size : Nat} {sv : Value} {n : Nat} {xs : List Value} (h : w.ownsRow B e size sv n xs) (hk : ∀ k, sv.ownBlock = some k → w'.heap[k]? = w.heap[k]?) : w'.ownsRow B e size sv n xs := by
  obtain ⟨h1, h2⟩ := h
  refine ⟨h1, ?_⟩
  rcases h2 with h2 | ⟨g, cap, cur, hv, hg, hh, r⟩
  · exact .inl h2
  · exact .inr ⟨g, cap, cur, hv, hg, by rw [hk g (by rw [hv]; rfl)]; exact hh, r⟩

theorem NodeIs.keep {w w' : World} {K : Nat → Prop} {v : Value} {r : Re} (h : NodeIs w K v r) (hk : ∀ k, K k → w'.heap[k]? = w.heap[k]?) : NodeIs w' K v r := by
  induction h with
  | cls h1 h2 h3 h4 h5 => exact .cls h1 h2 ((hk _ h1).trans h3) ⟨(hk _ h2).trans h4.1, h4.2⟩ h5
  | many h1 h2 h3 h4 h5 _ h7 ih => exact .many h1 ((hk _ h1).trans h2) (ownsRow_keep h3 fun k e => hk k (h4 k e)) h4 h5 ih h7
theorem NodeIs.mono {w : World} {K K' : Nat → Prop} {v : Value} {r : Re} (h : NodeIs w K v r) (hk : ∀ k, K k → K' k) : NodeIs w K' v r := by
  induction h with
  | cls h1 h2 h3 h4 h5 => exact .cls (hk _ h1) (hk _ h2) h3 h4 h5
  | many h1 h2 h3 h4 h5 _ h7 ih => exact .many (hk _ h1) h2 h3 (fun k e => hk k (h4 k e)) h5 ih h7
theorem NodeIs.ptr {w : World} {K : Nat → Prop} {v : Value} {r : Re} (h : NodeIs w K v r) : ∃ p, v = .pointer (some ⟨p, 0, none⟩) ∧ K p := by
  cases h with
  | cls h1 => exact ⟨_, rfl, h1⟩
  | many h1 => exact ⟨_, rfl, h1⟩

theorem ownsRow_lt {w : World} {B : Nat} {e : TypeId} {size : Nat} {sv : Value} {n : Nat} {xs : List Value} (h : w.ownsRow B e size sv n xs) {k : Nat} (hk : sv.ownBlock = some k) : B ≤ k ∧ k < w.heap.size := by
  rcases h.2 with ⟨rfl, _⟩ | ⟨g, cap, cur, rfl, hg, hh, _⟩
  · cases hk
  · cases hk; exact ⟨hg, lt_of_get hh⟩

theorem NodeIs.bound {w : World} {K : Nat → Prop} {v : Value} {r : Re} (h : NodeIs w K v r) : NodeIs w (fun k => K k ∧ k < w.heap.size) v r := by
  induction h with
  | cls h1 h2 h3 h4 h5 => exact .cls ⟨h1, lt_of_get h3⟩ ⟨h2, lt_of_get h4.1⟩ h3 h4 h5
  | many h1 h2 h3 h4 h5 _ h7 ih => exact .many ⟨h1, lt_of_get h2⟩ h2 h3 (fun k e => ⟨h4 k e, (ownsRow_lt h3 e).2⟩) h5 ih h7

theorem NodeIs.ap {X B : Nat} {w w' : World} {v : Value} {r : Re} (h : NodeIs w (fun k => B ≤ k) v r) (hX : X < B) (hap : Ap X w w') : NodeIs w' (fun k => B ≤ k) v r :=
  (h.bound.keep (fun k hk => hap.keep k hk.2 (by have := hk.1; omega))).mono (fun _ hk => hk.1)

/-- What a part of the reader answers. -/
def TreePost (P : List UInt8 → Option (Re × List UInt8) → Prop) (X : Nat) (S : ByteArray) (at_ : Nat) (w : World) (e : Ending) (w' : World) : Prop :=
  ∃ (v : Value) (a1 : Nat) (bad : Bool), e = .returned v ∧ Ap X w w' ∧ ScanAt w' X S a1 bad ∧ (∃ p, v = .pointer (some ⟨p, 0, none⟩)) ∧
    ((bad = false ∧ a1 ≤ S.size ∧ ∃ r, P (rest S at_) (some (r, rest S a1)) ∧ NodeIs w' (fun k => w.heap.size ≤ k) v r) ∨ (bad = true ∧ a1 + at_ ≤ 2 * S.size + 1 ∧ P (rest S at_) none))

def AltAt (n : Nat) : Prop := ∀ (X : Nat) (S : ByteArray) (at_ : Nat) (w : World), ScanAt w X S at_ false → S.size ≤ 60 → at_ ≤ S.size → S.size - at_ < n →
  Calls Tryz.prog 103 #[.pointer (some ⟨X, 0, none⟩)] w (TreePost PAlt X S at_ w)

theorem Cs.tree {X : Nat} {S : ByteArray} {w : World} {A nb : Nat} {wr : World} {a1 : Nat} {bad : Bool} {on : List Bool} {c : Cls} (h : Cs X S w A nb wr a1 bad on) (hc : Tbl on c) : NodeIs wr (fun k => w.heap.size ≤ k) (.pointer (some ⟨nb, 0, none⟩)) (.cls c) :=
  .cls h.hnb h.hA h.node h.ona hc

theorem tbl_any {on : List Bool} (h : ∀ m, m < 256 → on[m]? = some true) : Tbl on .any := fun b => h _ b.toNat_lt
theorem tbl_one (b : UInt8) : Tbl (noBools.set b.toNat true) (.range b b) := fun d => by
  have hb : b.toNat < 256 := b.toNat_lt
  have hd : d.toNat < 256 := d.toNat_lt
  rw [List.getElem?_set]
  by_cases h : b.toNat = d.toNat
  · rw [if_pos h, if_pos (by unfold noBools; rw [List.length_replicate]; exact hb)]
    simp [Cls.has, h]
  · rw [if_neg h, noBools_get hd]
    simp only [Cls.has, Option.some.injEq]
    rcases Nat.lt_or_ge d.toNat b.toNat with h1 | h1
    · have : decide (b.toNat ≤ d.toNat) = false := by simp; omega
      rw [this]; rfl
    · have : decide (d.toNat ≤ b.toNat) = false := by simp; omega
      rw [this, Bool.and_false]

def DotLoop (X : Nat) (S : ByteArray) (w : World) (A nb : Nat) (a1 : Nat) (k : Nat) (vc : Value) (wr : World) : Prop :=
  ∃ (on : List Bool) (j : Nat), vc = .int .i64 j ∧ j + k = 256 ∧ Cs X S w A nb wr a1 false on ∧ ∀ m, m < j → on[m]? = some true

theorem dot_step {on : List Bool} {j m : Nat} (hl : on.length = 256) (hj : j < 256) (h : ∀ m, m < j → on[m]? = some true) (hm : m < j + 1) : (on.set j true)[m]? = some true := by
  rw [List.getElem?_set]
  by_cases hjm : j = m
  · rw [if_pos hjm, if_pos (by omega)]
  · rw [if_neg hjm]; exact h m (by omega)

theorem OnePost.parts {X : Nat} {S : ByteArray} {at_ : Nat} {w : World} {e : Ending} {w' : World} (h : OnePost X S at_ w e w') : ∃ (b : UInt8) (a1 : Nat) (bad : Bool), e = .returned (.int .u8 b.toNat) ∧ Ap X w w' ∧ ScanAt w' X S a1 bad ∧ a1 ≤ S.size ∧ ((bad = false ∧ pOne (rest S at_) = some (b, rest S a1)) ∨ (bad = true ∧ pOne (rest S at_) = none)) := by
  obtain ⟨hap, b, a1, he, ha, ⟨h1, _, h3⟩ | ⟨h1, h3⟩⟩ := h
  · exact ⟨b, a1, false, he, hap, h3, ha, .inl ⟨rfl, h1⟩⟩
  · exact ⟨b, a1, true, he, hap, h3, ha, .inr ⟨rfl, h1⟩⟩

theorem atom_last {X : Nat} {S : ByteArray} {at_ : Nat} {w w1 w4 : World} {A nb a1 : Nat} {bad : Bool} {b : UInt8} (hlt : at_ < S.size) (hap : Ap X w w1) (hcs : Cs X S w1 A nb w4 a1 bad noBools) (ha1 : a1 ≤ S.size)
    (hA : PAtom (rest S at_) ((pOne (rest S at_)).map fun p => (Re.cls (Cls.range p.1 p.1), p.2))) (ho : (bad = false ∧ pOne (rest S at_) = some (b, rest S a1)) ∨ (bad = true ∧ pOne (rest S at_) = none)) :
    TreePost PAtom X S at_ w (.returned (.pointer (some ⟨nb, 0, none⟩))) (w4.setCell ⟨A, b.toNat, none⟩ (.bool true)) := by
  have h1 := hcs.put b.toNat true
  refine ⟨_, a1, bad, rfl, hap.trans h1.ap, h1.scan, ⟨nb, rfl⟩, ?_⟩
  rcases ho with ⟨rfl, h⟩ | ⟨rfl, h⟩
  · rw [h] at hA
    exact .inl ⟨rfl, ha1, _, hA, (h1.tree (tbl_one b)).mono (fun k hk => Nat.le_trans hap.size hk)⟩
  · rw [h] at hA
    exact .inr ⟨rfl, by omega, hA⟩

set_option maxRecDepth 20000 in
set_option maxHeartbeats 4000000 in
theorem atom_any (n : Nat) (hC : AltAt n) (X : Nat) (S : ByteArray) (at_ : Nat) (w : World) (h : ScanAt w X S at_ false) (h60 : S.size ≤ 60) (hlt : at_ < S.size) (hn : S.size - at_ ≤ n) :
    Calls Tryz.prog 183 #[.pointer (some ⟨X, 0, none⟩)] w (TreePost PAtom X S at_ w) := by
  obtain ⟨c0, c1, c2, f1, f2⟩ := h.cells
  have H0 := hide h
  have hr := rest_cons hlt
  have hat60 : at_ ≤ 60 := by omega
  obtain ⟨a0, ha0⟩ : ∃ a0, a0 = at_ + 1 := ⟨_, rfl⟩
  have ha0le : a0 ≤ S.size := by omega
  have ha060 : a0 ≤ 60 := by omega
  rw [← ha0] at hr
  have HA0 := hide ha0
  have HN := hide hn
  have HC := hide hC
  have HM := hide (show ∀ W, ScanAt W X S at_ false → ScanAt (W.setCell ⟨X, 1, none⟩ (.int .i64 ((at_ : Int) + 1))) X S a0 false from fun W hW => by rw [ha0]; exact hW.move (at_ + 1))
  clear h ha0 hn hC
  by_cases h40 : S[at_] = 40
  · have q40 : (((S[at_]).toNat : Int) == 40) = true := by rw [h40]; rfl
    rw [h40] at hr
    have HR := hide hr
    clear hr h40
    go_enter Tryz.func183, Tryz.ntmps183
    go_wp2_with fail
    go_quiet (fail)
    rename Nat => nq1
    have H1 := hide (H0.out.drewN nq1)
    have HAp := hide ((Ap.refl X w).drewN nq1)
    have HX := hide H0.out.lt
    clear c0 c1 c2 f1 f2 H0
    obtain ⟨c0, c1, c2, f1, f2⟩ := H1.out.cells
    generalize w.drewN nq1 = w1 at *
    go_wp2_with fail
    have H2 := hide (HM.out w1 H1.out)
    have HAp2 := hide (HAp.out.setCell (p := ⟨X, 1, none⟩) rfl (.int .i64 ((at_ : Int) + 1)))
    clear c0 c1 c2 f1 f2 H1 HAp HM
    generalize w1.setCell ⟨X, 1, none⟩ (.int .i64 ((at_ : Int) + 1)) = w2 at *
    refine (HC.out X S a0 w2 H2.out h60 ha0le (by have := HN.out; have := HA0.out; omega)).mono ?_
    rintro e w3 ⟨v, a1, bad, rfl, hap, hsc, ⟨p, rfl⟩, ⟨rfl, ha1, r, hP, hN⟩ | ⟨rfl, hb, hP⟩⟩
    · have H3 := hide hsc
      have HAp3 := hide (HAp2.out.trans hap)
      have HT := hide (hN.mono (K' := fun k => w.heap.size ≤ k) (fun k hk => Nat.le_trans HAp2.out.size hk))
      have HP := hide hP
      clear hsc hap hN hP H2 HAp2
      go_wp2_with fail
      refine (is_any 41 X S a1 false w3 H3.out).mono ?_
      rintro e w4 ⟨rfl, n4, rfl⟩
      have H4 := hide (H3.out.drewN n4)
      have HAp4 := hide ((Ap.refl X w3).drewN n4)
      clear H3
      generalize w3.drewN n4 = w4 at *
      obtain ⟨c0, c1, c2, f1, f2⟩ := H4.out.cells
      have ha160 : a1 ≤ 60 := by omega
      by_cases h41 : (rest S a1).head? = some 41
      · have hv41 : ((rest S a1).head? == some 41) = true := by rw [h41]; rfl
        rw [hv41]
        obtain ⟨hlt2, hr2⟩ := rest_head h41
        have HR2 := hide hr2
        clear hv41 h41 hr2
        go_wp2_with fail
        go_ret
        have hap5 := HAp4.out.setCell (p := ⟨X, 1, none⟩) rfl (.int .i64 ((a1 : Int) + 1))
        exact ⟨_, a1 + 1, false, rfl, HAp3.out.trans hap5, H4.out.move (a1 + 1), ⟨p, rfl⟩, .inl ⟨rfl, by omega, r, by rw [HR.out]; exact .paren (by rw [← HR2.out]; exact HP.out), HT.out.ap HX.out hap5⟩⟩
      · have hv41 : ((rest S a1).head? == some 41) = false := by rw [beq_eq_false_iff_ne]; exact h41
        rw [hv41]
        have H41 := hide h41
        clear hv41 h41
        go_wp2_with fail
        go_ret
        exact ⟨_, a1 + 1, true, rfl, HAp3.out.trans ((HAp4.out.setCell (p := ⟨X, 2, none⟩) rfl (.bool true)).setCell (p := ⟨X, 1, none⟩) rfl (.int .i64 ((a1 : Int) + 1))), (H4.out.spoil true).move (a1 + 1), ⟨p, rfl⟩, .inr ⟨rfl, by omega, by rw [HR.out]; exact .parenOpen HP.out H41.out⟩⟩
    · have H3 := hide hsc
      have HAp3 := hide (HAp2.out.trans hap)
      have HP := hide hP
      clear hsc hap hP H2 HAp2
      go_wp2_with fail
      refine (is_any 41 X S a1 true w3 H3.out).mono ?_
      rintro e w4 ⟨rfl, n4, rfl⟩
      have H4 := hide (H3.out.drewN n4)
      have HAp4 := hide (HAp3.out.drewN n4)
      clear H3 HAp3
      generalize w3.drewN n4 = w4 at *
      obtain ⟨c0, c1, c2, f1, f2⟩ := H4.out.cells
      have ha1200 : a1 ≤ 200 := by omega
      have HB := hide hb
      clear hb
      obtain ⟨bd, hbd⟩ : ∃ bd, ((rest S a1).head? == some 41) = bd := ⟨_, rfl⟩
      rw [hbd]
      clear hbd
      cases bd
      · go_wp2_with fail
        go_ret
        exact ⟨_, a1 + 1, true, rfl, (HAp4.out.setCell (p := ⟨X, 2, none⟩) rfl (.bool true)).setCell (p := ⟨X, 1, none⟩) rfl (.int .i64 ((a1 : Int) + 1)), (H4.out.spoil true).move (a1 + 1), ⟨p, rfl⟩, .inr ⟨rfl, by have := HB.out; have := HA0.out; omega, by rw [HR.out]; exact .parenBad HP.out⟩⟩
      · go_wp2_with fail
        go_ret
        exact ⟨_, a1 + 1, true, rfl, HAp4.out.setCell (p := ⟨X, 1, none⟩) rfl (.int .i64 ((a1 : Int) + 1)), H4.out.move (a1 + 1), ⟨p, rfl⟩, .inr ⟨rfl, by have := HB.out; have := HA0.out; omega, by rw [HR.out]; exact .parenBad HP.out⟩⟩
  · have q40 : (((S[at_]).toNat : Int) == 40) = false := by
      rw [beq_eq_false_iff_ne]; intro h; exact h40 (UInt8.toNat_inj.1 (by simp; omega))
    by_cases h91 : S[at_] = 91
    · have q91 : (((S[at_]).toNat : Int) == 91) = true := by rw [h91]; rfl
      rw [h91] at hr
      have HR := hide hr
      clear hr h40 h91
      go_enter Tryz.func183, Tryz.ntmps183
      go_wp2_with fail
      go_quiet (fail)
      rename Nat => nq1
      have H1 := hide (H0.out.drewN nq1)
      have HAp := hide ((Ap.refl X w).drewN nq1)
      clear c0 c1 c2 f1 f2 H0
      obtain ⟨c0, c1, c2, f1, f2⟩ := H1.out.cells
      generalize w.drewN nq1 = w1 at *
      go_wp2_with fail
      have H2 := hide (HM.out w1 H1.out)
      have HAp2 := hide (HAp.out.setCell (p := ⟨X, 1, none⟩) rfl (.int .i64 ((at_ : Int) + 1)))
      clear c0 c1 c2 f1 f2 H1 HAp HM
      generalize w1.setCell ⟨X, 1, none⟩ (.int .i64 ((at_ : Int) + 1)) = w2 at *
      refine (class_any X S a0 w2 H2.out h60 ha0le).mono ?_
      rintro e w3 ⟨A, nb, a1, bad, on, rfl, ha1, hcs, ⟨rfl, c, hT, hP⟩ | ⟨rfl, hP⟩⟩
      · have HEND := hide (show TreePost PAtom X S at_ w (.returned (.pointer (some ⟨nb, 0, none⟩))) w3 from ⟨_, a1, false, rfl, HAp2.out.trans hcs.ap, hcs.scan, ⟨nb, rfl⟩, .inl ⟨rfl, ha1, .cls c, by rw [HR.out]; exact PAtom.cls (o := some (c, rest S a1)) hP, (hcs.tree hT).mono (fun k hk => Nat.le_trans HAp2.out.size hk)⟩⟩)
        clear hcs hT hP H2 HAp2
        go_wp2_with fail
        go_ret
        exact HEND.out
      · have HEND := hide (show TreePost PAtom X S at_ w (.returned (.pointer (some ⟨nb, 0, none⟩))) w3 from ⟨_, a1, true, rfl, HAp2.out.trans hcs.ap, hcs.scan, ⟨nb, rfl⟩, .inr ⟨rfl, by omega, by rw [HR.out]; exact PAtom.cls (o := none) hP⟩⟩)
        clear hcs hP H2 HAp2
        go_wp2_with fail
        go_ret
        exact HEND.out
    · have q91 : (((S[at_]).toNat : Int) == 91) = false := by
        rw [beq_eq_false_iff_ne]; intro h; exact h91 (UInt8.toNat_inj.1 (by simp; omega))
      by_cases h46 : S[at_] = 46
      · have q46 : (((S[at_]).toNat : Int) == 46) = true := by rw [h46]; rfl
        rw [h46] at hr
        have HR := hide hr
        clear hr h40 h91 h46
        go_enter Tryz.func183, Tryz.ntmps183
        go_wp2_with fail
        go_quiet (fail)
        rename Nat => nq1
        have H1 := hide (H0.out.drewN nq1)
        have HAp := hide ((Ap.refl X w).drewN nq1)
        clear c0 c1 c2 f1 f2 H0
        obtain ⟨c0, c1, c2, f1, f2⟩ := H1.out.cells
        generalize w.drewN nq1 = w1 at *
        have hmk := make_bools (w1.setCell ⟨X, 1, none⟩ (.int .i64 ((at_ : Int) + 1)))
        have hsz : (w1.setCell ⟨X, 1, none⟩ (.int .i64 ((at_ : Int) + 1))).heap.size = w1.heap.size := by simp [World.setCell]
        rw [hsz] at hmk
        have HCS0 := hide (Cs.start (HM.out w1 H1.out))
        have HAp2 := hide (HAp.out.setCell (p := ⟨X, 1, none⟩) rfl (.int .i64 ((at_ : Int) + 1)))
        go_wp2_with fail
        obtain ⟨nb, hnb⟩ : ∃ nb, nb = w1.heap.size + 1 := ⟨_, rfl⟩
        obtain ⟨A, hA⟩ : ∃ A, A = w1.heap.size := ⟨_, rfl⟩
        rw [← hnb, ← hA]
        have HCS1 := hide HCS0.out
        rw [hsz, ← hnb, ← hA] at HCS1
        clear HCS0 hmk hnb hA hsz c0 c1 c2 f1 f2 H1 HM HAp
        generalize w1.setCell ⟨X, 1, none⟩ (.int .i64 ((at_ : Int) + 1)) = w2 at *
        generalize (w2.alloc (.cells (bools noBools) 4)).alloc (.cells #[.int .u8 99, .slice (some ⟨A, 0, none⟩) 256 256, .slice none 0 0] 267) = w3 at *
        go_loopg [6] 256 (fun k vc wr => DotLoop X S w2 A nb a0 k vc wr)
        case atStart => exact ⟨noBools, 0, rfl, rfl, HCS1.out, fun m hm => by omega⟩
        case round =>
          obtain ⟨on, j, rfl, hj, hcs, hon⟩ := hrel
          have HCS := hide hcs
          have HON := hide hon
          obtain ⟨c0, c1, c2, f1, f2, c3⟩ := HCS.out.cells
          clear hcs hon
          cases gk with
          | zero =>
            obtain rfl : j = 256 := by omega
            have HEND := hide (show TreePost PAtom X S at_ w (.returned (.pointer (some ⟨nb, 0, none⟩))) wr from ⟨_, a0, false, rfl, HAp2.out.trans HCS.out.ap, HCS.out.scan, ⟨nb, rfl⟩, .inl ⟨rfl, ha0le, .cls .any, by rw [HR.out]; exact .dot, (HCS.out.tree (tbl_any HON.out)).mono (fun k hk => Nat.le_trans HAp2.out.size hk)⟩⟩)
            go_wp2_with fail
            go_ret
            exact HEND.out
          | succ k =>
            have hj2 : j < 256 := by omega
            have hjg : decide ((j : Int) < 256) = true := by simp; omega
            obtain ⟨b2, hb2⟩ : ∃ b2, on[j]? = some b2 := ⟨_, List.getElem?_eq_getElem (by rw [HCS.out.ona.2]; exact hj2)⟩
            obtain ⟨o1, o2⟩ := HCS.out.bit hb2
            clear hb2
            go_wp2_with fail
            go_roundg k
            case measure => omega
            case rel => exact ⟨on.set j true, j + 1, rfl, by omega, HCS.out.put j true, fun m hm => dot_step HCS.out.ona.2 hj2 HON.out hm⟩
      · have q46 : (((S[at_]).toNat : Int) == 46) = false := by
          rw [beq_eq_false_iff_ne]; intro h; exact h46 (UInt8.toNat_inj.1 (by simp; omega))
        have HA := hide (PAtom.one (s := rest S at_) (by rw [hr]; simpa using h40) (by rw [hr]; simpa using h46) (by rw [hr]; simpa using h91))
        clear hr h40 h91 h46
        go_enter Tryz.func183, Tryz.ntmps183
        go_wp2_with fail
        go_quiet (fail)
        rename Nat => nq1
        have H1 := hide (H0.out.drewN nq1)
        have HAp := hide ((Ap.refl X w).drewN nq1)
        clear c0 c1 c2 f1 f2 H0
        generalize w.drewN nq1 = w1 at *
        have hmk := make_bools w1
        have HCS0 := hide (Cs.start H1.out)
        go_wp2_with fail
        obtain ⟨nb, hnb⟩ : ∃ nb, nb = w1.heap.size + 1 := ⟨_, rfl⟩
        obtain ⟨A, hA⟩ : ∃ A, A = w1.heap.size := ⟨_, rfl⟩
        rw [← hnb, ← hA]
        have HCS1 := hide HCS0.out
        rw [← hnb, ← hA] at HCS1
        clear HCS0 hmk hnb hA H1 HM
        generalize (w1.alloc (.cells (bools noBools) 4)).alloc (.cells #[.int .u8 99, .slice (some ⟨A, 0, none⟩) 256 256, .slice none 0 0] 267) = w3 at *
        obtain ⟨c0, c1, c2, f1, f2, c3⟩ := HCS1.out.cells
        have hle : at_ ≤ S.size := by omega
        go_region_with (go_at_call 202; refine (one_any X S at_ _ (by exact HCS1.out.scan) h60 hle).mono ?_; rintro e w4 hpost; obtain ⟨b, a1, bad, rfl, hap, hsc, ha1, ho⟩ := hpost.parts; have HCS4 := hide (HCS1.out.drew.step hap hsc); have HO := hide ho; clear hap hsc ho hpost c0 c1 c2 f1 f2 c3; obtain ⟨c0, c1, c2, f1, f2, c3⟩ := HCS4.out.cells; obtain ⟨o1, o2⟩ := HCS4.out.bit (noBools_get b.toNat_lt); have hb256 : b.toNat < 256 := b.toNat_lt; have HEND := hide (atom_last hlt HAp.out HCS4.out ha1 HA.out HO.out))
        all_goals
          go_wp2_with fail
          go_ret
          exact HEND.out
end Go.Proofs.YtgncgdkpkkdaeaaGreatDoor.Ref

namespace Go.Proofs.YtgncgdkpkkdaeaaGreatDoor.Ref
open Go.RowKit Tint

/-- While parts are gathered: the scanner; the node nb; its row of parts. -/
structure Ct (X : Nat) (S : ByteArray) (w : World) (nb kind : Nat) (wr : World) (a1 : Nat) (bad : Bool) (sv : Value) (vs : List Value) (rs : List Re) : Prop where
  ap : Ap X w wr
  scan : ScanAt wr X S a1 bad
  hX : X < w.heap.size
  hnb : w.heap.size ≤ nb
  node : NodeBlk wr nb kind (.slice none 0 0) sv
  row : wr.ownsRow (nb + 1) 199 1 sv vs.length vs
  len : vs.length = rs.length
  kids : ∃ K : Nat → Prop, (∀ k, K k → nb < k ∧ k < wr.heap.size ∧ sv.ownBlock ≠ some k) ∧ ∀ (i : Nat) (v : Value) (q : Re), vs[i]? = some v → rs[i]? = some q → NodeIs wr K v q

section
variable {X : Nat} {S : ByteArray} {w : World} {nb kind : Nat} {wr : World} {a1 : Nat} {bad : Bool} {sv : Value} {vs : List Value} {rs : List Re}

theorem Ct.step (h : Ct X S w nb kind wr a1 bad sv vs rs) {wr' : World} {a2 : Nat} {bad2 : Bool} (hap : Ap X wr wr') (hs : ScanAt wr' X S a2 bad2) : Ct X S w nb kind wr' a2 bad2 sv vs rs := by
  have hx := h.hX
  have hn := h.hnb
  obtain ⟨K, hK, hk⟩ := h.kids
  refine ⟨h.ap.trans hap, hs, hx, hn, (hap.keep nb (lt_of_get h.node) (by omega)).trans h.node, ownsRow_keep h.row (fun k e => ?_), h.len, K, fun k e => ⟨(hK k e).1, Nat.lt_of_lt_of_le (hK k e).2.1 hap.size, (hK k e).2.2⟩, fun i v q h1 h2 => (hk i v q h1 h2).keep (fun k e => ?_)⟩
  · have := ownsRow_lt h.row e
    exact hap.keep k this.2 (by omega)
  · exact hap.keep k (hK k e).2.1 (by have := (hK k e).1; omega)

theorem Ct.cells (h : Ct X S w nb kind wr a1 bad sv vs rs) : wr.cell? ⟨X, 0, none⟩ = some (.string S) ∧ wr.cell? ⟨X, 1, none⟩ = some (.int .i64 a1) ∧ wr.cell? ⟨X, 2, none⟩ = some (.bool bad) ∧ wr.frozen? ⟨X, 1, none⟩ = false ∧ wr.frozen? ⟨X, 2, none⟩ = false ∧
    wr.cell? ⟨nb, 2, none⟩ = some sv ∧ wr.frozen? ⟨nb, 2, none⟩ = false := by
  obtain ⟨h1, h2, h3, h4, h5⟩ := h.scan.cells
  have hn := h.node
  unfold NodeBlk at hn
  exact ⟨h1, h2, h3, h4, h5, by simp [World.cell?, hn], by simp [World.frozen?, hn]⟩

/-- All of it, as a node. -/
theorem Ct.tree (h : Ct X S w nb kind wr a1 bad sv vs rs) {r : Re} (hp : Parts kind rs r) : NodeIs wr (fun k => w.heap.size ≤ k) (.pointer (some ⟨nb, 0, none⟩)) r := by
  obtain ⟨K, hK, hk⟩ := h.kids
  have hn := h.hnb
  refine .many (vs := vs) (rs := rs) hn h.node ⟨h.row.1, ?_⟩ (fun k e => ?_) h.len (fun i v q h1 h2 => (hk i v q h1 h2).mono (fun k e => ?_)) hp
  · rcases h.row.2 with h2 | ⟨g, cap, cur, hv, hg, r⟩
    · exact .inl h2
    · exact .inr ⟨g, cap, cur, hv, Nat.zero_le _, r⟩
  · have := ownsRow_lt h.row e
    omega
  · have := (hK k e).1
    omega

/-- One part more. -/
theorem Ct.push (h : Ct X S w nb kind wr a1 bad sv vs rs) {W w3 : World} {v' v : Value} {q : Re} {B : Nat} (hB : nb < B) (hv : NodeIs wr (fun k => B ≤ k) v q) (hsv : ∀ k, sv.ownBlock = some k → k < B) (hW : Below wr.heap.size wr W)
    (hown : w3.ownsRow (nb + 1) 199 1 v' (vs.length + 1) (vs ++ [v])) (hg : W.grownBy w3 sv.ownBlock) (hloc : v'.ownBlock = sv.ownBlock ∨ v'.ownBlock = some W.heap.size) :
    Ct X S w nb kind (w3.setCell ⟨nb, 2, none⟩ v') a1 bad v' (vs ++ [v]) (rs ++ [q]) ∧ w3.heap[nb]? = some (.cells #[.int .u8 kind, .slice none 0 0, sv] 267 (0, 0)) := by
  have hx := h.hX
  have hn := h.hnb
  obtain ⟨K, hK, hk⟩ := h.kids
  have hrow : ∀ k, sv.ownBlock = some k → nb + 1 ≤ k ∧ k < wr.heap.size := fun k e => ownsRow_lt h.row e
  have hnbl := lt_of_get h.node
  have hsame : ∀ k, k < wr.heap.size → sv.ownBlock ≠ some k → w3.heap[k]? = wr.heap[k]? := fun k h1 h2 =>
    (hg.block k (Nat.lt_of_lt_of_le h1 hW.size) (fun e => h2 e.symm)).trans (hW.block k h1)
  have hset : ∀ k, k ≠ nb → (w3.setCell ⟨nb, 2, none⟩ v').heap[k]? = w3.heap[k]? := fun k e => Below.heap_setCell _ _ _ _ e
  have hnode : w3.heap[nb]? = some (.cells #[.int .u8 kind, .slice none 0 0, sv] 267 (0, 0)) := (hsame nb hnbl (fun e => by have := hrow nb e; omega)).trans h.node
  have hXl : X < wr.heap.size := h.scan.lt
  have hw4 : (w3.setCell ⟨nb, 2, none⟩ v').heap.size = w3.heap.size := by simp [World.setCell]
  have h34 : wr.heap.size ≤ w3.heap.size := Nat.le_trans hW.size hg.size
  refine ⟨⟨⟨?_, ?_, ?_, ?_, ?_⟩, ?_, hx, hn, ?_, ?_, by simp [h.len], fun k => K k ∨ (B ≤ k ∧ k < wr.heap.size), ?_, ?_⟩, hnode⟩
  · exact hg.os.trans (hW.os.trans h.ap.os)
  · exact hg.tape.trans (hW.tape.trans h.ap.tape)
  · exact hg.output.trans (hW.output.trans h.ap.output)
  · rw [hw4]; exact Nat.le_trans h.ap.size h34
  · intro k hk1 hk2
    rw [hset k (by omega), hsame k (Nat.lt_of_lt_of_le hk1 h.ap.size) (fun e => by have := hrow k e; omega)]
    exact h.ap.keep k hk1 hk2
  · show (w3.setCell ⟨nb, 2, none⟩ v').heap[X]? = _
    rw [hset X (by omega), hsame X hXl (fun e => by have := hrow X e; omega)]
    exact h.scan
  · exact heap_setCell_same w3 nb 2 _ hnode
  · have : (vs ++ [v]).length = vs.length + 1 := by simp
    rw [this]
    exact ownsRow_keep hown (fun k e => hset k (by have := ownsRow_lt hown e; omega))
  · rintro k (e | ⟨e1, e2⟩)
    · obtain ⟨k1, k2, k3⟩ := hK k e
      refine ⟨k1, by rw [hw4]; omega, fun e' => ?_⟩
      rcases hloc with hl | hl
      · exact k3 (hl ▸ e')
      · rw [hl] at e'; have := Option.some.inj e'; have := hW.size; omega
    · refine ⟨by omega, by rw [hw4]; omega, fun e' => ?_⟩
      rcases hloc with hl | hl
      · have := hsv k (hl ▸ e'); omega
      · rw [hl] at e'; have := Option.some.inj e'; have := hW.size; omega
  · have key : ∀ k, (K k ∨ (B ≤ k ∧ k < wr.heap.size)) → (w3.setCell ⟨nb, 2, none⟩ v').heap[k]? = wr.heap[k]? := by
      rintro k (e | ⟨e1, e2⟩)
      · obtain ⟨k1, k2, k3⟩ := hK k e
        rw [hset k (by omega)]
        exact hsame k k2 k3
      · rw [hset k (by omega)]
        exact hsame k e2 (fun e' => by have := hsv k e'; omega)
    intro i v0 q0 h1 h2
    rcases Nat.lt_or_ge i vs.length with hi | hi
    · rw [List.getElem?_append_left hi] at h1
      rw [List.getElem?_append_left (by have := h.len; omega)] at h2
      exact ((hk i v0 q0 h1 h2).mono (fun k e => Or.inl e)).keep key
    · rw [List.getElem?_append_right hi] at h1
      rw [List.getElem?_append_right (by have := h.len; omega)] at h2
      have h0 : i - vs.length = 0 := by
        rcases Nat.eq_zero_or_pos (i - vs.length) with h0 | h0
        · exact h0
        · rw [List.getElem?_eq_none (by simp; omega)] at h1; cases h1
      have h0' : i - rs.length = 0 := by have := h.len; omega
      rw [h0] at h1
      rw [h0'] at h2
      simp only [List.getElem?_cons_zero, Option.some.injEq] at h1 h2
      subst h1 h2
      exact (hv.bound.mono (fun k e => Or.inr e)).keep key

theorem Ct.pushBad (h : Ct X S w nb kind wr a1 bad sv vs rs) {W w3 : World} {v' : Value} (hW : Below wr.heap.size wr W) (hg : W.grownBy w3 sv.ownBlock) :
    Ap X w (w3.setCell ⟨nb, 2, none⟩ v') ∧ ScanAt (w3.setCell ⟨nb, 2, none⟩ v') X S a1 bad ∧ w3.heap[nb]? = some (.cells #[.int .u8 kind, .slice none 0 0, sv] 267 (0, 0)) := by
  have hx := h.hX
  have hn := h.hnb
  have hrow : ∀ k, sv.ownBlock = some k → nb + 1 ≤ k ∧ k < wr.heap.size := fun k e => ownsRow_lt h.row e
  have hnbl := lt_of_get h.node
  have hsame : ∀ k, k < wr.heap.size → sv.ownBlock ≠ some k → w3.heap[k]? = wr.heap[k]? := fun k h1 h2 =>
    (hg.block k (Nat.lt_of_lt_of_le h1 hW.size) (fun e => h2 e.symm)).trans (hW.block k h1)
  have hset : ∀ k, k ≠ nb → (w3.setCell ⟨nb, 2, none⟩ v').heap[k]? = w3.heap[k]? := fun k e => Below.heap_setCell _ _ _ _ e
  have hXl : X < wr.heap.size := h.scan.lt
  have hw4 : (w3.setCell ⟨nb, 2, none⟩ v').heap.size = w3.heap.size := by simp [World.setCell]
  refine ⟨⟨hg.os.trans (hW.os.trans h.ap.os), hg.tape.trans (hW.tape.trans h.ap.tape), hg.output.trans (hW.output.trans h.ap.output), ?_, ?_⟩, ?_, (hsame nb hnbl (fun e => by have := hrow nb e; omega)).trans h.node⟩
  · rw [hw4]; exact Nat.le_trans h.ap.size (Nat.le_trans hW.size hg.size)
  · intro k hk1 hk2
    rw [hset k (by omega), hsame k (Nat.lt_of_lt_of_le hk1 h.ap.size) (fun e => by have := hrow k e; omega)]
    exact h.ap.keep k hk1 hk2
  · show (w3.setCell ⟨nb, 2, none⟩ v').heap[X]? = _
    rw [hset X (by omega), hsame X hXl (fun e => by have := hrow X e; omega)]
    exact h.scan
end

theorem Ct.start {X : Nat} {S : ByteArray} {w : World} {a1 : Nat} {bad : Bool} (h : ScanAt w X S a1 bad) (kind : Nat) : Ct X S w w.heap.size kind (w.alloc (.cells #[.int .u8 kind, .slice none 0 0, .slice none 0 0] 267)) a1 bad (.slice none 0 0) [] [] :=
  ⟨(Ap.refl _ _).alloc _, h.alloc _, h.lt, Nat.le_refl _, heap_alloc_last _ _, ⟨rfl, .inl ⟨rfl, rfl⟩⟩, rfl, fun _ => False, fun _ e => e.elim, fun i v q h1 => by simp at h1⟩

theorem Ct.drewN {X : Nat} {S : ByteArray} {w : World} {nb kind : Nat} {wr : World} {a1 : Nat} {bad : Bool} {sv : Value} {vs : List Value} {rs : List Re} (h : Ct X S w nb kind wr a1 bad sv vs rs) (n : Nat) : Ct X S w nb kind (wr.drewN n) a1 bad sv vs rs := h.step ((Ap.refl _ _).drewN n) (h.scan.drewN n)
theorem Ct.move {X : Nat} {S : ByteArray} {w : World} {nb kind : Nat} {wr : World} {a1 : Nat} {bad : Bool} {sv : Value} {vs : List Value} {rs : List Re} (h : Ct X S w nb kind wr a1 bad sv vs rs) (m : Nat) : Ct X S w nb kind (wr.setCell ⟨X, 1, none⟩ (.int .i64 m)) m bad sv vs rs := h.step ((Ap.refl X wr).setCell (p := ⟨X, 1, none⟩) rfl _) (h.scan.move m)

/-- Parts so far: what is behind goes on. -/
def CatSofar (s0 : List UInt8) (rs : List Re) (s : List UInt8) : Prop := ∀ o, PCat s o → PCat s0 (o.map fun p => (rs ++ p.1, p.2))

theorem CatSofar.start (s : List UInt8) : CatSofar s [] s := fun o h => by cases o <;> exact h
theorem CatSofar.more {s0 s s' : List UInt8} {rs : List Re} {r : Re} (h : CatSofar s0 rs s) (hn : ¬ atEnd s) (hp : PPiece s (some (r, s'))) : CatSofar s0 (rs ++ [r]) s' := fun o ho => by
  cases o with
  | none => exact h none (.moreBad hn hp ho)
  | some p =>
    have := h (some (r :: p.1, p.2)) (.more hn hp ho)
    simpa using this
theorem CatSofar.bad {s0 s : List UInt8} {rs : List Re} (h : CatSofar s0 rs s) (hn : ¬ atEnd s) (hp : PPiece s none) : PCat s0 none := h none (.bad hn hp)
theorem CatSofar.stop {s0 s : List UInt8} {rs : List Re} (h : CatSofar s0 rs s) (hn : atEnd s) : PCat s0 (some (rs, s)) := by
  have := h (some ([], s)) (.stop hn)
  simpa using this

def PCatR (s : List UInt8) (o : Option (Re × List UInt8)) : Prop := ∃ o', PCat s o' ∧ o = o'.map fun p => (seqOf p.1, p.2)

def CatLoop (X : Nat) (S : ByteArray) (w : World) (nb : Nat) (at_ : Nat) (k : Nat) (wr : World) : Prop :=
  (∃ (sv : Value) (vs : List Value) (rs : List Re) (a1 : Nat), Ct X S w nb 38 wr a1 false sv vs rs ∧ vs.length ≤ a1 ∧ a1 ≤ S.size ∧ at_ ≤ a1 ∧ k = 1 + (S.size - a1) ∧ CatSofar (rest S at_) rs (rest S a1)) ∨ ∃ a1, k = 0 ∧ Ap X w wr ∧ ScanAt wr X S a1 true ∧ a1 + at_ ≤ 2 * S.size + 1 ∧ PCat (rest S at_) none
end Go.Proofs.YtgncgdkpkkdaeaaGreatDoor.Ref

namespace Go.Proofs.YtgncgdkpkkdaeaaGreatDoor.Ref
open Go.RowKit Tint

theorem atEnd_cases {S : ByteArray} {a : Nat} (ha : a ≤ S.size) : (a = S.size ∧ atEnd (rest S a)) ∨ (∃ h : a < S.size, S[a] = 124 ∧ atEnd (rest S a)) ∨ (∃ h : a < S.size, S[a] = 41 ∧ atEnd (rest S a)) ∨ (∃ h : a < S.size, S[a] ≠ 124 ∧ S[a] ≠ 41 ∧ ¬ atEnd (rest S a)) := by
  rcases Nat.lt_or_ge a S.size with h | h
  · have hr := rest_cons h
    by_cases h1 : S[a] = 124
    · exact .inr (.inl ⟨h, h1, by rw [hr, h1]; exact .inr (.inl rfl)⟩)
    · by_cases h2 : S[a] = 41
      · exact .inr (.inr (.inl ⟨h, h2, by rw [hr, h2]; exact .inr (.inr rfl)⟩))
      · refine .inr (.inr (.inr ⟨h, h1, h2, ?_⟩))
        rw [hr]
        rintro (h3 | h3 | h3)
        · cases h3
        · simp at h3; exact h1 h3
        · simp at h3; exact h2 h3
  · exact .inl ⟨by omega, by rw [rest_nil h]; exact .inl rfl⟩

theorem info_ptr : (Tryz.prog.info? 199).map (fun i => (i.zero, i.size, i.bytes)) = some (some (.pointer none), 1, 8) := by kernel_rfl

theorem row_alloc {w : World} {B : Nat} {e : TypeId} {size : Nat} {sv : Value} {n : Nat} {xs : List Value} (h : w.ownsRow B e size sv n xs) (o : Obj) : (w.alloc o).ownsRow B e size sv n xs :=
  ownsRow_keep h (fun _ hk => Below.heap_alloc _ _ _ (ownsRow_lt h hk).2)

theorem one_ptr (p : Nat) : ∀ u ∈ [Value.pointer (some ⟨p, 0, none⟩)], u.oneCell' = true := by
  intro u hu
  rw [List.mem_singleton.1 hu]
  rfl

theorem rest_len (S : ByteArray) (a : Nat) : (rest S a).length = S.size - a := by
  unfold rest
  rw [List.length_drop]
  rfl

theorem sign_step {X : Nat} {S : ByteArray} {w : World} {nb : Nat} {w4 : World} {a2 : Nat} {sv : Value} {vs : List Value} {rs : List Re} {B p : Nat} {r q : Re} (hct : Ct X S w nb 38 w4 a2 false sv vs rs) (hni : NodeIs w4 (fun k => B ≤ k) (.pointer (some ⟨p, 0, none⟩)) r) (hB : B ≤ w4.heap.size) (kind : Nat) (hp : Parts kind [r] q) :
    Ct X S w nb 38 ((w4.alloc (.cells #[.pointer (some ⟨p, 0, none⟩)] 199)).alloc (.cells #[.int .u8 kind, .slice none 0 0, .slice (some ⟨w4.heap.size, 0, none⟩) 1 1] 267)).drew a2 false sv vs rs ∧
    NodeIs ((w4.alloc (.cells #[.pointer (some ⟨p, 0, none⟩)] 199)).alloc (.cells #[.int .u8 kind, .slice none 0 0, .slice (some ⟨w4.heap.size, 0, none⟩) 1 1] 267)).drew (fun k => B ≤ k) (.pointer (some ⟨w4.heap.size + 1, 0, none⟩)) q := by
  have hap : Ap X w4 ((w4.alloc (.cells #[.pointer (some ⟨p, 0, none⟩)] 199)).alloc (.cells #[.int .u8 kind, .slice none 0 0, .slice (some ⟨w4.heap.size, 0, none⟩) 1 1] 267)) := ((Ap.refl X w4).alloc _).alloc _
  have hbel : ∀ k, k < w4.heap.size → ((w4.alloc (.cells #[.pointer (some ⟨p, 0, none⟩)] 199)).alloc (.cells #[.int .u8 kind, .slice none 0 0, .slice (some ⟨w4.heap.size, 0, none⟩) 1 1] 267)).heap[k]? = w4.heap[k]? := fun k hk => (Below.heap_alloc _ _ _ (by simp; omega)).trans (Below.heap_alloc _ _ _ hk)
  refine ⟨hct.step ⟨hap.os, hap.tape, hap.output, hap.size, hap.keep⟩ ((hct.scan.alloc _).alloc _), ?_⟩
  refine .many (kind := kind) (sv := .slice (some ⟨w4.heap.size, 0, none⟩) 1 1) (vs := [.pointer (some ⟨p, 0, none⟩)]) (rs := [r]) (by omega) ?_ ⟨rfl, .inr ⟨w4.heap.size, 1, #[.pointer (some ⟨p, 0, none⟩)], rfl, Nat.zero_le _, ?_, Nat.le_refl _, by unfold maxLen; omega, rfl, rfl⟩⟩ ?_ rfl ?_ hp
  · have := heap_alloc_last (w4.alloc (.cells #[.pointer (some ⟨p, 0, none⟩)] 199)) (.cells #[.int .u8 kind, .slice none 0 0, .slice (some ⟨w4.heap.size, 0, none⟩) 1 1] 267)
    have hsz : (w4.alloc (.cells #[.pointer (some ⟨p, 0, none⟩)] 199)).heap.size = w4.heap.size + 1 := by simp
    rw [hsz] at this
    exact this
  · exact heap_alloc_old (heap_alloc_last w4 _)
  · intro k hk
    cases hk
    exact hB
  · intro i v0 q0 h1 h2
    rcases i with _ | i
    · simp only [List.getElem?_cons_zero, Option.some.injEq] at h1 h2
      subst h1 h2
      refine NodeIs.mono (hni.bound.keep (fun k hk => ?_)) (fun _ hk => hk.1)
      exact hbel k hk.2
    · simp at h1

theorem cat_end {X : Nat} {S : ByteArray} {w : World} {nb at_ : Nat} {wr : World} {a1 : Nat} {sv : Value} {vs : List Value} {rs : List Re} (hct : Ct X S w nb 38 wr a1 false sv vs rs) (ha1 : a1 ≤ S.size) (hso : CatSofar (rest S at_) rs (rest S a1)) (hend : atEnd (rest S a1)) (n : Nat) :
    TreePost PCatR X S at_ w (.returned (.pointer (some ⟨nb, 0, none⟩))) (wr.drewN n) :=
  ⟨_, a1, false, rfl, hct.ap.drewN n, hct.scan.drewN n, ⟨nb, rfl⟩, .inl ⟨rfl, ha1, seqOf rs, ⟨_, hso.stop hend, rfl⟩, (hct.drewN n).tree (.inl ⟨rfl, rfl⟩)⟩⟩
theorem cat_end_bad {X : Nat} {S : ByteArray} {w : World} {nb at_ : Nat} {wr : World} {a1 : Nat} (hap : Ap X w wr) (hsc : ScanAt wr X S a1 true) (hb : a1 + at_ ≤ 2 * S.size + 1) (hp : PCat (rest S at_) none) (n : Nat) :
    TreePost PCatR X S at_ w (.returned (.pointer (some ⟨nb, 0, none⟩))) (wr.drewN n) :=
  ⟨_, a1, true, rfl, hap.drewN n, hsc.drewN n, ⟨nb, rfl⟩, .inr ⟨rfl, hb, ⟨_, hp, rfl⟩⟩⟩

set_option maxRecDepth 20000 in
set_option maxHeartbeats 4000000 in
theorem cat_any (n : Nat) (hC : AltAt n) (X : Nat) (S : ByteArray) (at_ : Nat) (w : World) (h : ScanAt w X S at_ false) (h60 : S.size ≤ 60) (hle : at_ ≤ S.size) (hn : S.size - at_ ≤ n) :
    Calls Tryz.prog 143 #[.pointer (some ⟨X, 0, none⟩)] w (TreePost PCatR X S at_ w) := by
  have HC := hide hC
  have HN := hide hn
  have H0 := hide (Ct.start h 38)
  clear h hC hn
  go_enter Tryz.func143, Tryz.ntmps143
  go_wp2_with fail
  obtain ⟨nb, hnb⟩ : ∃ nb, nb = w.heap.size := ⟨_, rfl⟩
  have H1 := hide H0.out
  rw [← hnb] at H1 ⊢
  clear H0 hnb
  generalize w.alloc (.cells #[.int .u8 38, .slice none 0 0, .slice none 0 0] 267) = w1 at *
  go_loopg [4] (1 + (S.size - at_)) (fun k _ wr => CatLoop X S w nb at_ k wr)
  case atStart => exact .inl ⟨_, [], [], at_, H1.out, Nat.zero_le _, hle, Nat.le_refl _, rfl, CatSofar.start _⟩
  case round =>
    rcases hrel with ⟨sv, vs, rs, a1, hct, hvs, ha1, hat1, hk, hso⟩ | ⟨a1, hk, hap, hsc, hb, hp⟩
    · have HCT := hide hct
      have HSO := hide hso
      have HK := hide hk
      obtain ⟨c0, c1, c2, f1, f2, c3, f3⟩ := HCT.out.cells
      clear hct hso hk
      rcases atEnd_cases ha1 with ⟨he, hend⟩ | ⟨hlt, hb, hend⟩ | ⟨hlt, hb, hend⟩ | ⟨hlt, hb1, hb2, hend⟩
      · have HEND := hide (cat_end HCT.out ha1 HSO.out hend)
        have hg : decide (a1 < S.size) = false := by simp; omega
        clear hend
        go_wp2_with fail
        go_quiet (fail)
        rename Nat => nq1
        go_wp2_with fail
        go_ret
        exact HEND.out nq1
      · have HEND := hide (cat_end HCT.out ha1 HSO.out hend)
        have hg : decide ((a1 : Int) < (S.size : Int)) = true := by simp; omega
        have q1 : (((S[a1]).toNat : Int) != 124) = false := by rw [hb]; rfl
        clear hend hb
        go_wp2_with fail
        go_quiet (fail)
        rename Nat => nq1
        go_wp2_with fail
        go_ret
        exact HEND.out nq1
      · have HEND := hide (cat_end HCT.out ha1 HSO.out hend)
        have hg : decide ((a1 : Int) < (S.size : Int)) = true := by simp; omega
        have q1 : (((S[a1]).toNat : Int) != 124) = true := by rw [hb]; rfl
        have q2 : (((S[a1]).toNat : Int) != 41) = false := by rw [hb]; rfl
        clear hend hb
        go_wp2_with fail
        go_quiet (fail)
        rename Nat => nq1
        go_wp2_with fail
        go_ret
        exact HEND.out nq1
      · have hg : decide ((a1 : Int) < (S.size : Int)) = true := by simp; omega
        have q1 : (((S[a1]).toNat : Int) != 124) = true := by
          rw [bne_iff_ne]; intro h; exact hb1 (UInt8.toNat_inj.1 (by simp; omega))
        have q2 : (((S[a1]).toNat : Int) != 41) = true := by
          rw [bne_iff_ne]; intro h; exact hb2 (UInt8.toNat_inj.1 (by simp; omega))
        have HE := hide hend
        clear hend hb1 hb2
        go_wp2_with fail
        go_quiet (fail)
        rename Nat => nq1
        have HCT2 := hide (HCT.out.drewN nq1)
        clear HCT c0 c1 c2 f1 f2 c3 f3
        generalize wr.drewN nq1 = w2 at *
        go_wp2_with fail
        refine (atom_any n HC.out X S a1 w2 HCT2.out.scan h60 hlt (by have := HN.out; omega)).mono ?_
        rintro e w3 ⟨v, a2, bad, rfl, hap, hsc, ⟨p, rfl⟩, ⟨rfl, ha2, r, hP, hN⟩ | ⟨rfl, hb, hP⟩⟩
        · have HCT3 := hide (HCT2.out.step hap hsc)
          have HP := hide hP
          have HNI := hide hN
          have HSZ := hide (show w2.heap.size ≤ w3.heap.size from hap.size)
          clear hP hN hap hsc
          obtain ⟨c0, c1, c2, f1, f2, c3, f3⟩ := HCT3.out.cells
          have HLT := hide (show a1 < a2 by
            have h1 := (PAtom.size HP.out _ _ rfl).1
            rw [rest_len, rest_len] at h1
            omega)
          have HNB := hide (lt_of_get HCT2.out.node)
          have HSV := hide (fun k e => (ownsRow_lt HCT2.out.row (k := k) e).2)
          rcases Nat.lt_or_ge a2 S.size with hlt2 | hge2
          · have hg2 : decide ((a2 : Int) < (S.size : Int)) = true := by simp; omega
            by_cases hS : S[a2] = 42
            · have k1 : (((S[a2]).toNat : Int) == 42) = true := by rw [hS]; rfl
              go_wp2_with fail
              go_quiet (fail)
              rename Nat => nq2
              have HCT4 := hide (HCT3.out.drewN nq2)
              have HNI4 := hide (HNI.out.keep (w' := w3.drewN nq2) (fun _ _ => rfl))
              have HSZ4 := hide (show w2.heap.size ≤ (w3.drewN nq2).heap.size from HSZ.out)
              clear HCT3 HNI c0 c1 c2 f1 f2 c3 f3
              generalize w3.drewN nq2 = w4 at *
              obtain ⟨c0, c1, c2, f1, f2, c3, f3⟩ := HCT4.out.cells
              have e0 := cell_alloc_old c0 (.cells #[.pointer (some ⟨p, 0, none⟩)] 199)
              have e1 := cell_alloc_old c1 (.cells #[.pointer (some ⟨p, 0, none⟩)] 199)
              obtain ⟨hct5, hni5⟩ := sign_step HCT4.out HNI4.out HSZ4.out 42 (q := .star r) (.inr (.inr (.inl ⟨rfl, r, rfl, rfl⟩)))
              have HCT5 := hide hct5
              have HNI5 := hide hni5
              clear hct5 hni5
              go_wp2_with fail
              go_region
              obtain ⟨pp, hpp⟩ : ∃ pp, pp = w4.heap.size + 1 := ⟨_, rfl⟩
              rw [← hpp] at HNI5 ⊢
              clear hpp e0 e1 c0 c1 c2 f1 f2 c3 f3
              generalize ((w4.alloc (.cells #[.pointer (some ⟨p, 0, none⟩)] 199)).alloc (.cells #[.int .u8 42, .slice none 0 0, .slice (some ⟨w4.heap.size, 0, none⟩) 1 1] 267)).drew = w6 at *
              obtain ⟨c0, c1, c2, f1, f2, c3, f3⟩ := HCT5.out.cells
              obtain ⟨a3, ha3⟩ : ∃ a3, a3 = a2 + 1 := ⟨_, rfl⟩
              have HR2 := hide (show rest S a2 = 42 :: rest S a3 by rw [ha3, rest_cons hlt2, hS])
              have HA3 := hide ha3
              have HCT6 := hide (show Ct X S w nb 38 (w6.setCell ⟨X, 1, none⟩ (.int .i64 ((a2 : Int) + 1))) a3 false sv vs rs by rw [ha3]; exact HCT5.out.move (a2 + 1))
              have HNI6 := hide (HNI5.out.ap (by have := HCT2.out.hX; have := HCT2.out.ap.size; omega : X < w2.heap.size) ((Ap.refl X w6).setCell (p := ⟨X, 1, none⟩) rfl (.int .i64 ((a2 : Int) + 1))))
              have hs6 : (w6.setCell ⟨X, 1, none⟩ (.int .i64 ((a2 : Int) + 1))).heap.size = w6.heap.size := by simp [World.setCell]
              have HCELL := hide (by have := cell_new_row (w6.setCell ⟨X, 1, none⟩ (.int .i64 ((a2 : Int) + 1))) #[.pointer (some ⟨pp, 0, none⟩)] 199; rw [hs6] at this; exact this : ∀ j u, [Value.pointer (some ⟨pp, 0, none⟩)][j]? = some u → ((w6.setCell ⟨X, 1, none⟩ (.int .i64 ((a2 : Int) + 1))).alloc (.cells #[.pointer (some ⟨pp, 0, none⟩)] 199)).cell? ((⟨w6.heap.size, 0, none⟩ : Addr).add j) = some u)
              have HBASE := hide (show nb + 1 ≤ ((w6.setCell ⟨X, 1, none⟩ (.int .i64 ((a2 : Int) + 1))).alloc (.cells #[.pointer (some ⟨pp, 0, none⟩)] 199)).heap.size by have := lt_of_get HCT5.out.node; simp [World.setCell]; omega)
              have ha260 : a2 ≤ 60 := by omega
              have c3' : (w6.setCell ⟨X, 1, none⟩ (.int .i64 ((a2 : Int) + 1))).cell? ⟨nb, 2, none⟩ = some sv := HCT6.out.cells.2.2.2.2.2.1
              have c3'' := cell_alloc_old c3' (.cells #[.pointer (some ⟨pp, 0, none⟩)] 199)
              clear ha3 hs6 HCT5 HNI5
              obtain ⟨i0, hi, hz0, hz1, hz3⟩ := info_parts info_ptr
              go_wp2_with (at_builtin; go_loud (refine wpList_append_own_at _ rfl (.tmp 127) (.tmp 129) 265 rfl (nb + 1) 199 i0 (.pointer none) 1 8 Tryz.underlying265 hi hz0 hz1 hz3 rfl (by decide) sv vs.length vs (by rfl) (by exact row_alloc HCT6.out.row _) ⟨w6.heap.size, 0, none⟩ 1 1 [.pointer (some ⟨pp, 0, none⟩)] (by rfl) (by rfl) (by exact HCELL.out) (one_ptr pp) (by unfold maxLen; omega) (by omega) (by exact HBASE.out) ?_; intro v' w5 hown hg5 _ hloc; obtain ⟨gg, cap, rfl⟩ := own_form hown (by omega); obtain ⟨hpu, hq⟩ := HCT6.out.push HNB.out HNI6.out HSV.out ((Below.refl _ _).alloc (Nat.le_refl _) _) hown hg5 hloc; have HPU := hide hpu; clear hpu; have d2 : w5.cell? ⟨nb, 2, none⟩ = some sv := (by simp [World.cell?, hq]); have df : w5.frozen? ⟨nb, 2, none⟩ = false := (by simp [World.frozen?, hq]); clear hown hg5 hloc hq))
              go_roundg (1 + (S.size - a3))
              case measure => have := HK.out; have := HA3.out; have := HLT.out; omega
              case rel => exact .inl ⟨_, _, _, a3, HPU.out, by have := HLT.out; have := HA3.out; simp only [List.length_append, List.length_cons, List.length_nil]; omega, by have := HA3.out; omega, by have := HA3.out; have := HLT.out; omega, rfl, HSO.out.more HE.out (.star (by rw [← HR2.out]; exact HP.out))⟩
            · have H42 := hide (show (rest S a2).head? ≠ some 42 by rw [rest_cons hlt2]; simpa using hS)
              have k1 : (((S[a2]).toNat : Int) == 42) = false := by
                rw [beq_eq_false_iff_ne]; intro h; exact hS (UInt8.toNat_inj.1 (by simp; omega))
              clear hS
              by_cases hS : S[a2] = 43
              · have k2 : (((S[a2]).toNat : Int) == 43) = true := by rw [hS]; rfl
                go_wp2_with fail
                go_quiet (fail)
                rename Nat => nq2
                have HCT4 := hide (HCT3.out.drewN nq2)
                have HNI4 := hide (HNI.out.keep (w' := w3.drewN nq2) (fun _ _ => rfl))
                have HSZ4 := hide (show w2.heap.size ≤ (w3.drewN nq2).heap.size from HSZ.out)
                clear HCT3 HNI c0 c1 c2 f1 f2 c3 f3
                generalize w3.drewN nq2 = w4 at *
                obtain ⟨c0, c1, c2, f1, f2, c3, f3⟩ := HCT4.out.cells
                have e0 := cell_alloc_old c0 (.cells #[.pointer (some ⟨p, 0, none⟩)] 199)
                have e1 := cell_alloc_old c1 (.cells #[.pointer (some ⟨p, 0, none⟩)] 199)
                obtain ⟨hct5, hni5⟩ := sign_step HCT4.out HNI4.out HSZ4.out 43 (q := .plus r) (.inr (.inr (.inr (.inl ⟨rfl, r, rfl, rfl⟩))))
                have HCT5 := hide hct5
                have HNI5 := hide hni5
                clear hct5 hni5
                go_wp2_with fail
                go_region
                obtain ⟨pp, hpp⟩ : ∃ pp, pp = w4.heap.size + 1 := ⟨_, rfl⟩
                rw [← hpp] at HNI5 ⊢
                clear hpp e0 e1 c0 c1 c2 f1 f2 c3 f3
                generalize ((w4.alloc (.cells #[.pointer (some ⟨p, 0, none⟩)] 199)).alloc (.cells #[.int .u8 43, .slice none 0 0, .slice (some ⟨w4.heap.size, 0, none⟩) 1 1] 267)).drew = w6 at *
                obtain ⟨c0, c1, c2, f1, f2, c3, f3⟩ := HCT5.out.cells
                obtain ⟨a3, ha3⟩ : ∃ a3, a3 = a2 + 1 := ⟨_, rfl⟩
                have HR2 := hide (show rest S a2 = 43 :: rest S a3 by rw [ha3, rest_cons hlt2, hS])
                have HA3 := hide ha3
                have HCT6 := hide (show Ct X S w nb 38 (w6.setCell ⟨X, 1, none⟩ (.int .i64 ((a2 : Int) + 1))) a3 false sv vs rs by rw [ha3]; exact HCT5.out.move (a2 + 1))
                have HNI6 := hide (HNI5.out.ap (by have := HCT2.out.hX; have := HCT2.out.ap.size; omega : X < w2.heap.size) ((Ap.refl X w6).setCell (p := ⟨X, 1, none⟩) rfl (.int .i64 ((a2 : Int) + 1))))
                have hs6 : (w6.setCell ⟨X, 1, none⟩ (.int .i64 ((a2 : Int) + 1))).heap.size = w6.heap.size := by simp [World.setCell]
                have HCELL := hide (by have := cell_new_row (w6.setCell ⟨X, 1, none⟩ (.int .i64 ((a2 : Int) + 1))) #[.pointer (some ⟨pp, 0, none⟩)] 199; rw [hs6] at this; exact this : ∀ j u, [Value.pointer (some ⟨pp, 0, none⟩)][j]? = some u → ((w6.setCell ⟨X, 1, none⟩ (.int .i64 ((a2 : Int) + 1))).alloc (.cells #[.pointer (some ⟨pp, 0, none⟩)] 199)).cell? ((⟨w6.heap.size, 0, none⟩ : Addr).add j) = some u)
                have HBASE := hide (show nb + 1 ≤ ((w6.setCell ⟨X, 1, none⟩ (.int .i64 ((a2 : Int) + 1))).alloc (.cells #[.pointer (some ⟨pp, 0, none⟩)] 199)).heap.size by have := lt_of_get HCT5.out.node; simp [World.setCell]; omega)
                have ha260 : a2 ≤ 60 := by omega
                have c3' : (w6.setCell ⟨X, 1, none⟩ (.int .i64 ((a2 : Int) + 1))).cell? ⟨nb, 2, none⟩ = some sv := HCT6.out.cells.2.2.2.2.2.1
                have c3'' := cell_alloc_old c3' (.cells #[.pointer (some ⟨pp, 0, none⟩)] 199)
                clear ha3 hs6 HCT5 HNI5
                obtain ⟨i0, hi, hz0, hz1, hz3⟩ := info_parts info_ptr
                go_wp2_with (at_builtin; go_loud (refine wpList_append_own_at _ rfl (.tmp 127) (.tmp 129) 265 rfl (nb + 1) 199 i0 (.pointer none) 1 8 Tryz.underlying265 hi hz0 hz1 hz3 rfl (by decide) sv vs.length vs (by rfl) (by exact row_alloc HCT6.out.row _) ⟨w6.heap.size, 0, none⟩ 1 1 [.pointer (some ⟨pp, 0, none⟩)] (by rfl) (by rfl) (by exact HCELL.out) (one_ptr pp) (by unfold maxLen; omega) (by omega) (by exact HBASE.out) ?_; intro v' w5 hown hg5 _ hloc; obtain ⟨gg, cap, rfl⟩ := own_form hown (by omega); obtain ⟨hpu, hq⟩ := HCT6.out.push HNB.out HNI6.out HSV.out ((Below.refl _ _).alloc (Nat.le_refl _) _) hown hg5 hloc; have HPU := hide hpu; clear hpu; have d2 : w5.cell? ⟨nb, 2, none⟩ = some sv := (by simp [World.cell?, hq]); have df : w5.frozen? ⟨nb, 2, none⟩ = false := (by simp [World.frozen?, hq]); clear hown hg5 hloc hq))
                go_roundg (1 + (S.size - a3))
                case measure => have := HK.out; have := HA3.out; have := HLT.out; omega
                case rel => exact .inl ⟨_, _, _, a3, HPU.out, by have := HLT.out; have := HA3.out; simp only [List.length_append, List.length_cons, List.length_nil]; omega, by have := HA3.out; omega, by have := HA3.out; have := HLT.out; omega, rfl, HSO.out.more HE.out (.plus (by rw [← HR2.out]; exact HP.out))⟩
              · have H43 := hide (show (rest S a2).head? ≠ some 43 by rw [rest_cons hlt2]; simpa using hS)
                have k2 : (((S[a2]).toNat : Int) == 43) = false := by
                  rw [beq_eq_false_iff_ne]; intro h; exact hS (UInt8.toNat_inj.1 (by simp; omega))
                clear hS
                by_cases hS : S[a2] = 63
                · have k3 : (((S[a2]).toNat : Int) == 63) = true := by rw [hS]; rfl
                  go_wp2_with fail
                  go_quiet (fail)
                  rename Nat => nq2
                  have HCT4 := hide (HCT3.out.drewN nq2)
                  have HNI4 := hide (HNI.out.keep (w' := w3.drewN nq2) (fun _ _ => rfl))
                  have HSZ4 := hide (show w2.heap.size ≤ (w3.drewN nq2).heap.size from HSZ.out)
                  clear HCT3 HNI c0 c1 c2 f1 f2 c3 f3
                  generalize w3.drewN nq2 = w4 at *
                  obtain ⟨c0, c1, c2, f1, f2, c3, f3⟩ := HCT4.out.cells
                  have e0 := cell_alloc_old c0 (.cells #[.pointer (some ⟨p, 0, none⟩)] 199)
                  have e1 := cell_alloc_old c1 (.cells #[.pointer (some ⟨p, 0, none⟩)] 199)
                  obtain ⟨hct5, hni5⟩ := sign_step HCT4.out HNI4.out HSZ4.out 63 (q := .opt r) (.inr (.inr (.inr (.inr ⟨rfl, r, rfl, rfl⟩))))
                  have HCT5 := hide hct5
                  have HNI5 := hide hni5
                  clear hct5 hni5
                  go_wp2_with fail
                  go_region
                  obtain ⟨pp, hpp⟩ : ∃ pp, pp = w4.heap.size + 1 := ⟨_, rfl⟩
                  rw [← hpp] at HNI5 ⊢
                  clear hpp e0 e1 c0 c1 c2 f1 f2 c3 f3
                  generalize ((w4.alloc (.cells #[.pointer (some ⟨p, 0, none⟩)] 199)).alloc (.cells #[.int .u8 63, .slice none 0 0, .slice (some ⟨w4.heap.size, 0, none⟩) 1 1] 267)).drew = w6 at *
                  obtain ⟨c0, c1, c2, f1, f2, c3, f3⟩ := HCT5.out.cells
                  obtain ⟨a3, ha3⟩ : ∃ a3, a3 = a2 + 1 := ⟨_, rfl⟩
                  have HR2 := hide (show rest S a2 = 63 :: rest S a3 by rw [ha3, rest_cons hlt2, hS])
                  have HA3 := hide ha3
                  have HCT6 := hide (show Ct X S w nb 38 (w6.setCell ⟨X, 1, none⟩ (.int .i64 ((a2 : Int) + 1))) a3 false sv vs rs by rw [ha3]; exact HCT5.out.move (a2 + 1))
                  have HNI6 := hide (HNI5.out.ap (by have := HCT2.out.hX; have := HCT2.out.ap.size; omega : X < w2.heap.size) ((Ap.refl X w6).setCell (p := ⟨X, 1, none⟩) rfl (.int .i64 ((a2 : Int) + 1))))
                  have hs6 : (w6.setCell ⟨X, 1, none⟩ (.int .i64 ((a2 : Int) + 1))).heap.size = w6.heap.size := by simp [World.setCell]
                  have HCELL := hide (by have := cell_new_row (w6.setCell ⟨X, 1, none⟩ (.int .i64 ((a2 : Int) + 1))) #[.pointer (some ⟨pp, 0, none⟩)] 199; rw [hs6] at this; exact this : ∀ j u, [Value.pointer (some ⟨pp, 0, none⟩)][j]? = some u → ((w6.setCell ⟨X, 1, none⟩ (.int .i64 ((a2 : Int) + 1))).alloc (.cells #[.pointer (some ⟨pp, 0, none⟩)] 199)).cell? ((⟨w6.heap.size, 0, none⟩ : Addr).add j) = some u)
                  have HBASE := hide (show nb + 1 ≤ ((w6.setCell ⟨X, 1, none⟩ (.int .i64 ((a2 : Int) + 1))).alloc (.cells #[.pointer (some ⟨pp, 0, none⟩)] 199)).heap.size by have := lt_of_get HCT5.out.node; simp [World.setCell]; omega)
                  have ha260 : a2 ≤ 60 := by omega
                  have c3' : (w6.setCell ⟨X, 1, none⟩ (.int .i64 ((a2 : Int) + 1))).cell? ⟨nb, 2, none⟩ = some sv := HCT6.out.cells.2.2.2.2.2.1
                  have c3'' := cell_alloc_old c3' (.cells #[.pointer (some ⟨pp, 0, none⟩)] 199)
                  clear ha3 hs6 HCT5 HNI5
                  obtain ⟨i0, hi, hz0, hz1, hz3⟩ := info_parts info_ptr
                  go_wp2_with (at_builtin; go_loud (refine wpList_append_own_at _ rfl (.tmp 127) (.tmp 129) 265 rfl (nb + 1) 199 i0 (.pointer none) 1 8 Tryz.underlying265 hi hz0 hz1 hz3 rfl (by decide) sv vs.length vs (by rfl) (by exact row_alloc HCT6.out.row _) ⟨w6.heap.size, 0, none⟩ 1 1 [.pointer (some ⟨pp, 0, none⟩)] (by rfl) (by rfl) (by exact HCELL.out) (one_ptr pp) (by unfold maxLen; omega) (by omega) (by exact HBASE.out) ?_; intro v' w5 hown hg5 _ hloc; obtain ⟨gg, cap, rfl⟩ := own_form hown (by omega); obtain ⟨hpu, hq⟩ := HCT6.out.push HNB.out HNI6.out HSV.out ((Below.refl _ _).alloc (Nat.le_refl _) _) hown hg5 hloc; have HPU := hide hpu; clear hpu; have d2 : w5.cell? ⟨nb, 2, none⟩ = some sv := (by simp [World.cell?, hq]); have df : w5.frozen? ⟨nb, 2, none⟩ = false := (by simp [World.frozen?, hq]); clear hown hg5 hloc hq))
                  go_roundg (1 + (S.size - a3))
                  case measure => have := HK.out; have := HA3.out; have := HLT.out; omega
                  case rel => exact .inl ⟨_, _, _, a3, HPU.out, by have := HLT.out; have := HA3.out; simp only [List.length_append, List.length_cons, List.length_nil]; omega, by have := HA3.out; omega, by have := HA3.out; have := HLT.out; omega, rfl, HSO.out.more HE.out (.opt (by rw [← HR2.out]; exact HP.out))⟩
                · have H63 := hide (show (rest S a2).head? ≠ some 63 by rw [rest_cons hlt2]; simpa using hS)
                  have k3 : (((S[a2]).toNat : Int) == 63) = false := by
                    rw [beq_eq_false_iff_ne]; intro h; exact hS (UInt8.toNat_inj.1 (by simp; omega))
                  clear hS
                  go_wp2_with fail
                  go_quiet (fail)
                  rename Nat => nq2
                  have HCT4 := hide (HCT3.out.drewN nq2)
                  have HNI4 := hide (HNI.out.keep (w' := w3.drewN nq2) (fun _ _ => rfl))
                  have HSZ4 := hide (show w2.heap.size ≤ (w3.drewN nq2).heap.size from HSZ.out)
                  clear HCT3 HNI c0 c1 c2 f1 f2 c3 f3
                  generalize w3.drewN nq2 = w4 at *
                  obtain ⟨c0, c1, c2, f1, f2, c3, f3⟩ := HCT4.out.cells
                  have HCELL := hide (cell_new_row w4 #[.pointer (some ⟨p, 0, none⟩)] 199)
                  have HBASE := hide (show nb + 1 ≤ (w4.alloc (.cells #[.pointer (some ⟨p, 0, none⟩)] 199)).heap.size by have := lt_of_get HCT4.out.node; simp; omega)
                  obtain ⟨i0, hi, hz0, hz1, hz3⟩ := info_parts info_ptr
                  go_wp2_with (at_builtin; go_loud (refine wpList_append_own_at _ rfl (.tmp 127) (.tmp 129) 265 rfl (nb + 1) 199 i0 (.pointer none) 1 8 Tryz.underlying265 hi hz0 hz1 hz3 rfl (by decide) sv vs.length vs (by rfl) (by exact row_alloc HCT4.out.row _) ⟨w4.heap.size, 0, none⟩ 1 1 [.pointer (some ⟨p, 0, none⟩)] (by rfl) (by rfl) (by exact HCELL.out) (one_ptr p) (by unfold maxLen; omega) (by omega) (by exact HBASE.out) ?_; intro v' w5 hown hg5 _ hloc; obtain ⟨gg, cap, rfl⟩ := own_form hown (by omega); obtain ⟨hpu, hq⟩ := HCT4.out.push HNB.out HNI4.out HSV.out ((Below.refl _ _).alloc (Nat.le_refl _) _) hown hg5 hloc; have HPU := hide hpu; clear hpu; have d2 : w5.cell? ⟨nb, 2, none⟩ = some sv := (by simp [World.cell?, hq]); have df : w5.frozen? ⟨nb, 2, none⟩ = false := (by simp [World.frozen?, hq]); clear hown hg5 hloc hq))
                  go_roundg (1 + (S.size - a2))
                  case measure => have := HK.out; have := HLT.out; omega
                  case rel => exact .inl ⟨_, _, _, a2, HPU.out, by have := HLT.out; simp only [List.length_append, List.length_cons, List.length_nil]; omega, ha2, by have := HLT.out; omega, rfl, HSO.out.more HE.out (.plain HP.out H42.out H43.out H63.out)⟩
          · have hg2 : decide (a2 < S.size) = false := by simp; omega
            have H42 := hide (show (rest S a2).head? ≠ some 42 by rw [rest_nil hge2]; simp)
            have H43 := hide (show (rest S a2).head? ≠ some 43 by rw [rest_nil hge2]; simp)
            have H63 := hide (show (rest S a2).head? ≠ some 63 by rw [rest_nil hge2]; simp)
            go_wp2_with fail
            go_quiet (fail)
            rename Nat => nq2
            have HCT4 := hide (HCT3.out.drewN nq2)
            have HNI4 := hide (HNI.out.keep (w' := w3.drewN nq2) (fun _ _ => rfl))
            have HSZ4 := hide (show w2.heap.size ≤ (w3.drewN nq2).heap.size from HSZ.out)
            clear HCT3 HNI c0 c1 c2 f1 f2 c3 f3
            generalize w3.drewN nq2 = w4 at *
            obtain ⟨c0, c1, c2, f1, f2, c3, f3⟩ := HCT4.out.cells
            have HCELL := hide (cell_new_row w4 #[.pointer (some ⟨p, 0, none⟩)] 199)
            have HBASE := hide (show nb + 1 ≤ (w4.alloc (.cells #[.pointer (some ⟨p, 0, none⟩)] 199)).heap.size by have := lt_of_get HCT4.out.node; simp; omega)
            obtain ⟨i0, hi, hz0, hz1, hz3⟩ := info_parts info_ptr
            go_wp2_with (at_builtin; go_loud (refine wpList_append_own_at _ rfl (.tmp 127) (.tmp 129) 265 rfl (nb + 1) 199 i0 (.pointer none) 1 8 Tryz.underlying265 hi hz0 hz1 hz3 rfl (by decide) sv vs.length vs (by rfl) (by exact row_alloc HCT4.out.row _) ⟨w4.heap.size, 0, none⟩ 1 1 [.pointer (some ⟨p, 0, none⟩)] (by rfl) (by rfl) (by exact HCELL.out) (one_ptr p) (by unfold maxLen; omega) (by omega) (by exact HBASE.out) ?_; intro v' w5 hown hg5 _ hloc; obtain ⟨gg, cap, rfl⟩ := own_form hown (by omega); obtain ⟨hpu, hq⟩ := HCT4.out.push HNB.out HNI4.out HSV.out ((Below.refl _ _).alloc (Nat.le_refl _) _) hown hg5 hloc; have HPU := hide hpu; clear hpu; have d2 : w5.cell? ⟨nb, 2, none⟩ = some sv := (by simp [World.cell?, hq]); have df : w5.frozen? ⟨nb, 2, none⟩ = false := (by simp [World.frozen?, hq]); clear hown hg5 hloc hq))
            go_roundg (1 + (S.size - a2))
            case measure => have := HK.out; have := HLT.out; omega
            case rel => exact .inl ⟨_, _, _, a2, HPU.out, by have := HLT.out; simp only [List.length_append, List.length_cons, List.length_nil]; omega, ha2, by have := HLT.out; omega, rfl, HSO.out.more HE.out (.plain HP.out H42.out H43.out H63.out)⟩
        · have HCT3 := hide (HCT2.out.step hap hsc)
          have HPB := hide (HSO.out.bad HE.out (.bad hP))
          have HB := hide (show a2 + at_ ≤ 2 * S.size + 1 by omega)
          clear hP hap hsc hb
          obtain ⟨c0, c1, c2, f1, f2, c3, f3⟩ := HCT3.out.cells
          go_wp2_with fail
          go_quiet (fail)
          rename Nat => nq2
          have HCT4 := hide (HCT3.out.drewN nq2)
          clear HCT3 c0 c1 c2 f1 f2 c3 f3
          generalize w3.drewN nq2 = w4 at *
          obtain ⟨c0, c1, c2, f1, f2, c3, f3⟩ := HCT4.out.cells
          have HCELL := hide (cell_new_row w4 #[.pointer (some ⟨p, 0, none⟩)] 199)
          have HBASE := hide (show nb + 1 ≤ (w4.alloc (.cells #[.pointer (some ⟨p, 0, none⟩)] 199)).heap.size by have := lt_of_get HCT4.out.node; simp; omega)
          obtain ⟨i0, hi, hz0, hz1, hz3⟩ := info_parts info_ptr
          go_wp2_with (at_builtin; go_loud (refine wpList_append_own_at _ rfl (.tmp 127) (.tmp 129) 265 rfl (nb + 1) 199 i0 (.pointer none) 1 8 Tryz.underlying265 hi hz0 hz1 hz3 rfl (by decide) sv vs.length vs (by rfl) (by exact row_alloc HCT4.out.row _) ⟨w4.heap.size, 0, none⟩ 1 1 [.pointer (some ⟨p, 0, none⟩)] (by rfl) (by rfl) (by exact HCELL.out) (one_ptr p) (by unfold maxLen; omega) (by omega) (by exact HBASE.out) ?_; intro v' w5 hown hg5 _ hloc; obtain ⟨gg, cap, rfl⟩ := own_form hown (by omega); obtain ⟨hpa, hps, hq⟩ := HCT4.out.pushBad (v' := .slice (some ⟨gg, 0, none⟩) (vs.length + 1) cap) ((Below.refl _ _).alloc (Nat.le_refl _) _) hg5; have HPA := hide hpa; have HPS := hide hps; clear hpa hps; have d2 : w5.cell? ⟨nb, 2, none⟩ = some sv := (by simp [World.cell?, hq]); have df : w5.frozen? ⟨nb, 2, none⟩ = false := (by simp [World.frozen?, hq]); clear hown hg5 hloc hq))
          go_roundg 0
          case measure => have := HK.out; omega
          case rel => exact .inr ⟨a2, rfl, HPA.out, HPS.out, HB.out, HPB.out⟩
    · have HEND := hide (cat_end_bad (nb := nb) hap hsc hb hp)
      obtain ⟨c0, c1, c2, f1, f2⟩ := hsc.cells
      clear hap hsc hp hb hk
      go_wp2_with fail
      go_quiet (fail)
      rename Nat => nq1
      go_wp2_with fail
      go_ret
      exact HEND.out nq1
end Go.Proofs.YtgncgdkpkkdaeaaGreatDoor.Ref

namespace Go.Proofs.YtgncgdkpkkdaeaaGreatDoor.Ref
open Go.RowKit Tint

/-- Choices so far. -/
def AltT (s0 : List UInt8) (rs : List Re) (s : List UInt8) : Prop := ∃ r0 rs', rs = r0 :: rs' ∧ ∀ o, PMore (rs'.foldl Re.alt r0) s o → PAlt s0 o
/-- Choices so far, a '|' behind them. -/
def AltS (s0 : List UInt8) (rs : List Re) (s : List UInt8) : Prop := (rs = [] ∧ s0 = s) ∨ AltT s0 rs (124 :: s)

theorem AltS.next {s0 s s' : List UInt8} {rs qs : List Re} (h : AltS s0 rs s) (hc : PCat s (some (qs, s'))) : AltT s0 (rs ++ [seqOf qs]) s' := by
  rcases h with ⟨rfl, rfl⟩ | ⟨r0, rs', rfl, h3⟩
  · exact ⟨seqOf qs, [], rfl, fun o ho => .one hc ho⟩
  · refine ⟨r0, rs' ++ [seqOf qs], rfl, fun o ho => h3 o (.more hc ?_)⟩
    rw [List.foldl_append] at ho
    exact ho
theorem AltS.bad {s0 s : List UInt8} {rs : List Re} (h : AltS s0 rs s) (hc : PCat s none) : PAlt s0 none := by
  rcases h with ⟨rfl, rfl⟩ | ⟨r0, rs', rfl, h3⟩
  · exact .bad hc
  · exact h3 none (.bad hc)
theorem AltT.more {s0 s : List UInt8} {rs : List Re} (h : AltT s0 rs (124 :: s)) : AltS s0 rs s := .inr h
theorem AltT.stop {s0 s : List UInt8} {rs : List Re} (h : AltT s0 rs s) (hn : s.head? ≠ some 124) : ∃ r, Parts 124 rs r ∧ PAlt s0 (some (r, s)) := by
  obtain ⟨r0, rs', h1, h3⟩ := h
  exact ⟨_, .inr (.inl ⟨rfl, r0, rs', h1, rfl⟩), h3 _ (.stop hn)⟩

theorem catR_some {s s' : List UInt8} {r : Re} (h : PCatR s (some (r, s'))) : ∃ rs, PCat s (some (rs, s')) ∧ r = seqOf rs := by
  obtain ⟨o, h1, h2⟩ := h
  cases o with
  | none => cases h2
  | some p => simp only [Option.map_some, Option.some.injEq, Prod.mk.injEq] at h2; exact ⟨p.1, by rw [h2.2]; exact h1, h2.1⟩
theorem catR_none {s : List UInt8} (h : PCatR s none) : PCat s none := by
  obtain ⟨o, h1, h2⟩ := h
  cases o with
  | none => exact h1
  | some p => cases h2

def AltLoop (X : Nat) (S : ByteArray) (w : World) (nb : Nat) (at_ : Nat) (k : Nat) (wr : World) : Prop :=
  ∃ (sv : Value) (vs : List Value) (rs : List Re) (a1 : Nat), Ct X S w nb 124 wr a1 false sv vs rs ∧ vs.length ≤ a1 ∧ a1 ≤ S.size ∧ at_ ≤ a1 ∧ k = S.size - a1 ∧ AltS (rest S at_) rs (rest S a1)

set_option maxRecDepth 20000 in
set_option maxHeartbeats 4000000 in
theorem alt_any (n : Nat) (hC : AltAt n) (X : Nat) (S : ByteArray) (at_ : Nat) (w : World) (h : ScanAt w X S at_ false) (h60 : S.size ≤ 60) (hle : at_ ≤ S.size) (hn : S.size - at_ ≤ n) :
    Calls Tryz.prog 103 #[.pointer (some ⟨X, 0, none⟩)] w (TreePost PAlt X S at_ w) := by
  have HC := hide hC
  have HN := hide hn
  have H0 := hide (Ct.start h 124)
  clear h hC hn
  go_enter Tryz.func103, Tryz.ntmps103
  go_wp2_with fail
  obtain ⟨nb, hnb⟩ : ∃ nb, nb = w.heap.size := ⟨_, rfl⟩
  have H1 := hide H0.out
  rw [← hnb] at H1 ⊢
  clear H0 hnb
  generalize w.alloc (.cells #[.int .u8 124, .slice none 0 0, .slice none 0 0] 267) = w1 at *
  go_loopg [4] (S.size - at_) (fun k _ wr => AltLoop X S w nb at_ k wr)
  case atStart => exact ⟨_, [], [], at_, H1.out, Nat.zero_le _, hle, Nat.le_refl _, rfl, .inl ⟨rfl, rfl⟩⟩
  case round =>
    obtain ⟨sv, vs, rs, a1, hct, hvs, ha1, hat1, hk, hso⟩ := hrel
    have HCT := hide hct
    have HSO := hide hso
    have HK := hide hk
    clear hct hso hk
    go_wp2_with fail
    refine (cat_any n HC.out X S a1 wr HCT.out.scan h60 ha1 (by have := HN.out; omega)).mono ?_
    rintro e w3 ⟨v, a2, bad, rfl, hap, hsc, ⟨p, rfl⟩, ⟨rfl, ha2, r, hP, hN⟩ | ⟨rfl, hb, hP⟩⟩
    · obtain ⟨qs, hc, rfl⟩ := catR_some hP
      have HT := hide (HSO.out.next hc)
      have HLT := hide (show a1 ≤ a2 by
        have h1 := PCat.size hc _ _ rfl
        rw [rest_len, rest_len] at h1
        omega)
      have HCT3 := hide (HCT.out.step hap hsc)
      have HNI := hide hN
      have HNB := hide (lt_of_get HCT.out.node)
      have HSV := hide (fun k e => (ownsRow_lt HCT.out.row (k := k) e).2)
      clear hP hN hap hsc hc HSO
      obtain ⟨c0, c1, c2, f1, f2, c3, f3⟩ := HCT3.out.cells
      have HCELL := hide (cell_new_row w3 #[.pointer (some ⟨p, 0, none⟩)] 199)
      have HBASE := hide (show nb + 1 ≤ (w3.alloc (.cells #[.pointer (some ⟨p, 0, none⟩)] 199)).heap.size by have := lt_of_get HCT3.out.node; simp; omega)
      obtain ⟨i0, hi, hz0, hz1, hz3⟩ := info_parts info_ptr
      go_wp2_with (at_builtin; go_loud (refine wpList_append_own_at _ rfl (.tmp 14) (.tmp 16) 265 rfl (nb + 1) 199 i0 (.pointer none) 1 8 Tryz.underlying265 hi hz0 hz1 hz3 rfl (by decide) sv vs.length vs (by rfl) (by exact row_alloc HCT3.out.row _) ⟨w3.heap.size, 0, none⟩ 1 1 [.pointer (some ⟨p, 0, none⟩)] (by rfl) (by rfl) (by exact HCELL.out) (one_ptr p) (by unfold maxLen; omega) (by omega) (by exact HBASE.out) ?_; intro v' w5 hown hg5 _ hloc; obtain ⟨gg, cap, rfl⟩ := own_form hown (by omega); obtain ⟨hpu, hq⟩ := HCT3.out.push HNB.out HNI.out HSV.out ((Below.refl _ _).alloc (Nat.le_refl _) _) hown hg5 hloc; have HPU := hide hpu; clear hpu; have d2 : w5.cell? ⟨nb, 2, none⟩ = some sv := (by simp [World.cell?, hq]); have df : w5.frozen? ⟨nb, 2, none⟩ = false := (by simp [World.frozen?, hq]); clear hown hg5 hloc hq))
      clear d2 df c0 c1 c2 f1 f2 c3 f3 HCELL HBASE HCT3 HNI
      generalize w5.setCell ⟨nb, 2, none⟩ (.slice (some ⟨gg, 0, none⟩) (vs.length + 1) cap) = w6 at *
      refine (is_any 124 X S a2 false w6 HPU.out.scan).mono ?_
      rintro e w7 ⟨rfl, n7, rfl⟩
      have HCT7 := hide (HPU.out.drewN n7)
      clear HPU
      generalize w6.drewN n7 = w7 at *
      obtain ⟨c0, c1, c2, f1, f2, c3, f3⟩ := HCT7.out.cells
      by_cases h124 : (rest S a2).head? = some 124
      · have hv : ((rest S a2).head? == some 124) = true := by rw [h124]; rfl
        rw [hv]
        obtain ⟨hlt2, hr2⟩ := rest_head h124
        have HS := hide (show AltS (rest S at_) (rs ++ [seqOf qs]) (rest S (a2 + 1)) from AltT.more (by rw [← hr2]; exact HT.out))
        have ha260 : a2 ≤ 60 := by omega
        clear hv h124 hr2
        go_wp2_with fail
        go_roundg (S.size - (a2 + 1))
        case measure => have := HK.out; have := HLT.out; omega
        case rel => exact ⟨_, _, _, a2 + 1, HCT7.out.move (a2 + 1), by have := HLT.out; simp only [List.length_append, List.length_cons, List.length_nil]; omega, by omega, by have := HLT.out; omega, rfl, HS.out⟩
      · have hv : ((rest S a2).head? == some 124) = false := by rw [beq_eq_false_iff_ne]; exact h124
        rw [hv]
        obtain ⟨r, hpr, hpa⟩ := HT.out.stop h124
        have HEND := hide (show TreePost PAlt X S at_ w (.returned (.pointer (some ⟨nb, 0, none⟩))) w7 from ⟨_, a2, false, rfl, HCT7.out.ap, HCT7.out.scan, ⟨nb, rfl⟩, .inl ⟨rfl, ha2, r, hpa, HCT7.out.tree hpr⟩⟩)
        clear hv h124 hpr hpa
        go_wp2_with fail
        go_ret
        exact HEND.out
    · have HCT3 := hide (HCT.out.step hap hsc)
      have HPB := hide (HSO.out.bad (catR_none hP))
      have HB := hide (show a2 + at_ ≤ 2 * S.size + 1 by omega)
      clear hP hap hsc hb
      obtain ⟨c0, c1, c2, f1, f2, c3, f3⟩ := HCT3.out.cells
      have HCELL := hide (cell_new_row w3 #[.pointer (some ⟨p, 0, none⟩)] 199)
      have HBASE := hide (show nb + 1 ≤ (w3.alloc (.cells #[.pointer (some ⟨p, 0, none⟩)] 199)).heap.size by have := lt_of_get HCT3.out.node; simp; omega)
      obtain ⟨i0, hi, hz0, hz1, hz3⟩ := info_parts info_ptr
      go_wp2_with (at_builtin; go_loud (refine wpList_append_own_at _ rfl (.tmp 14) (.tmp 16) 265 rfl (nb + 1) 199 i0 (.pointer none) 1 8 Tryz.underlying265 hi hz0 hz1 hz3 rfl (by decide) sv vs.length vs (by rfl) (by exact row_alloc HCT3.out.row _) ⟨w3.heap.size, 0, none⟩ 1 1 [.pointer (some ⟨p, 0, none⟩)] (by rfl) (by rfl) (by exact HCELL.out) (one_ptr p) (by unfold maxLen; omega) (by omega) (by exact HBASE.out) ?_; intro v' w5 hown hg5 _ hloc; obtain ⟨gg, cap, rfl⟩ := own_form hown (by omega); obtain ⟨hpa, hps, hq⟩ := HCT3.out.pushBad (v' := .slice (some ⟨gg, 0, none⟩) (vs.length + 1) cap) ((Below.refl _ _).alloc (Nat.le_refl _) _) hg5; have HPA := hide hpa; have HPS := hide hps; clear hpa hps; have d2 : w5.cell? ⟨nb, 2, none⟩ = some sv := (by simp [World.cell?, hq]); have df : w5.frozen? ⟨nb, 2, none⟩ = false := (by simp [World.frozen?, hq]); clear hown hg5 hloc hq))
      clear d2 df c0 c1 c2 f1 f2 c3 f3 HCELL HBASE HCT3
      generalize w5.setCell ⟨nb, 2, none⟩ (.slice (some ⟨gg, 0, none⟩) (vs.length + 1) cap) = w6 at *
      refine (is_any 124 X S a2 true w6 HPS.out).mono ?_
      rintro e w7 ⟨rfl, n7, rfl⟩
      have HPS7 := hide (HPS.out.drewN n7)
      have HPA7 := hide (HPA.out.drewN n7)
      clear HPS HPA
      generalize w6.drewN n7 = w7 at *
      obtain ⟨c0, c1, c2, f1, f2⟩ := HPS7.out.cells
      obtain ⟨bd, hbd⟩ : ∃ bd, ((rest S a2).head? == some 124) = bd := ⟨_, rfl⟩
      rw [hbd]
      have HEND := hide (show TreePost PAlt X S at_ w (.returned (.pointer (some ⟨nb, 0, none⟩))) w7 from ⟨_, a2, true, rfl, HPA7.out, HPS7.out, ⟨nb, rfl⟩, .inr ⟨rfl, HB.out, HPB.out⟩⟩)
      cases bd
      all_goals
        clear hbd
        go_wp2_with fail
        go_ret
        exact HEND.out

theorem alt_all (n : Nat) : AltAt n := by
  induction n with
  | zero => intro X S at_ w _ _ _ h; omega
  | succ n ih => intro X S at_ w h h60 hle hn; exact alt_any n ih X S at_ w h h60 hle (by omega)
end Go.Proofs.YtgncgdkpkkdaeaaGreatDoor.Ref

