/- Put together from R15, Ry. -/
import Derived.Test.YtgncgdkpkkdaeaaDoorRX
import Derived.RangeFuncNested
import Derived.RangeFuncBound
import Derived.RangeFuncCalls
import Derived.RangeFuncLeaves
import Derived.Shelf.Abstract
import Derived.Shelf.RegionOpen
import Derived.WalkKit
import Derived.OwnWalkIn
import Derived.TacticsInMore
import Derived.LoopNIn
import Derived.LoopIn
import Derived.Test.YtgncgdkpkkdaeaaDoorSiz
/- The places where a pattern matches, the last one first: an iterator. -/
namespace Go.Proofs.YtgncgdkpkkdaeaaDoor
open Go.RowKit Tint Go.Maps Go.Shelf
attribute [local go_sem] Oper.semAt_some

theorem from_lang {ts : List D} {root : ARe} {r : Re} {T : List UInt8} {L i : Nat} (hr : root.re = r.rev) (hl : ∀ u, Lang ts L u ↔ ∃ j, i ≤ j ∧ j ≤ T.length ∧ Mt root.re ((seg T i j).reverse ++ u)) : Lang ts L [] ↔ From r T i := by
  rw [hl]
  unfold From
  simp only [List.append_nil, hr, mt_rev, List.reverse_reverse]

/-- What is known once place i was looked at. -/
def Seen (r : Re) (T : List UInt8) (i p : Nat) (o : Bool) : Prop := (o = true → i ≤ p ∧ p ≤ T.length ∧ From r T p ∧ ∀ j, i ≤ j → j < p → ¬ From r T j) ∧ (o = false → p = 0 ∧ ∀ j, i ≤ j → ¬ From r T j)

theorem seen_now {r : Re} {T : List UInt8} {i p : Nat} {o : Bool} (hi : i ≤ T.length) (h1 : o = true → i < p ∧ p ≤ T.length ∧ From r T p ∧ ∀ j, i < j → j < p → ¬ From r T j) (h2 : o = false → p = 0 ∧ ∀ j, i < j → ¬ From r T j) : (From r T i → Seen r T i i true) ∧ (¬ From r T i → Seen r T i p o) := by
  refine ⟨fun h => ⟨fun _ => ⟨Nat.le_refl _, hi, h, fun j _ _ => by omega⟩, fun h => by cases h⟩, fun h => ⟨fun ho => ?_, fun ho => ?_⟩⟩
  · obtain ⟨a1, a2, a3, a4⟩ := h1 ho
    refine ⟨by omega, a2, a3, fun j h3 h4 => ?_⟩
    rcases Nat.lt_or_ge i j with h5 | h5
    · exact a4 j h5 h4
    · have : j = i := by omega
      subst this; exact h
  · obtain ⟨a1, a2⟩ := h2 ho
    refine ⟨a1, fun j h3 => ?_⟩
    rcases Nat.lt_or_ge i j with h5 | h5
    · exact a2 j h5
    · have : j = i := by omega
      subst this; exact h

/-- Going through the starts: J i: those from i on have been told. -/
def StartLoop (X : Nat → Prop) (ρ : Rd) (n0 : Nat) (root : ARe) (ts : List D) (T : List UInt8) (f : Nat) (J : Nat → World → Prop) (B : World → Prop) (w : World) (k : Nat) (left at_ : Value) (wr : World) : Prop :=
  ∃ (L i : Nat) (us : List D) (en' : Nat), left = .int .u64 L ∧ at_ = .int .i64 i ∧ f + k = i ∧ i ≤ T.length ∧ w.heap.size ≤ wr.heap.size ∧ B wr ∧ Full wr X ρ n0 root (ts ++ us) en' ∧ Inr (ts ++ us) L ∧ (∀ u, Lang (ts ++ us) L u ↔ ∃ j, i ≤ j ∧ j ≤ T.length ∧ Mt root.re ((seg T i j).reverse ++ u)) ∧ J (i + 1) wr

theorem starts_step {X : Nat → Prop} {ρ : Rd} {n0 : Nat} {root : ARe} {ts us us' : List D} {T : List UInt8} {f st L R i en' : Nat} {b : UInt8} {J : Nat → World → Prop} {B : World → Prop} {k : Nat} {w wr w3 : World} (hf : f + (k + 1) = i + 1) (hB : B w3) (hi : i + 1 ≤ T.length) (hsz : w.heap.size ≤ wr.heap.size) (hl : ∀ u, Lang (ts ++ us) L u ↔ ∃ j, i + 1 ≤ j ∧ j ≤ T.length ∧ Mt root.re ((seg T (i + 1) j).reverse ++ u))
    (hJ : J (i + 1) w3) (hb : T[i]? = some b) (hst : Inr ts st) (hsl : ∀ u, Lang ts st u ↔ Mt root.re u) (hF3 : Fx X wr w3) (hFu : Full w3 X ρ n0 root (ts ++ us ++ us') en') (hR : Inr (ts ++ us ++ us') R) (hRl : ∀ u, Lang (ts ++ us ++ us') R u ↔ Lang (ts ++ us) L (b :: u)) :
    StartLoop X ρ n0 root ts T f J B w k (.int .u64 ((R ||| st : Nat) : Int)) (.int .i64 i) w3 := by
  rw [List.append_assoc] at hFu hR hRl
  have e1 : ∀ j, i + 1 ≤ j → ∀ u, (seg T i j).reverse ++ u = (seg T (i + 1) j).reverse ++ b :: u := fun j hj u => by
    rw [seg_append T (Nat.le_succ i) hj, seg_one T hb]; simp
  refine ⟨R ||| st, i, us ++ us', en', rfl, rfl, by omega, by omega, Nat.le_trans hsz hF3.size, hB, hFu, hR.or hst.append, fun u => ?_, hJ⟩
  rw [Lang.or, hRl, hl, Lang.append hst, hsl]
  constructor
  · rintro (⟨j, h1, h2, h3⟩ | h)
    · exact ⟨j, by omega, h2, by rw [e1 j h1]; exact h3⟩
    · exact ⟨i, Nat.le_refl _, by omega, by rw [seg_self]; simpa using h⟩
  · rintro ⟨j, h1, h2, h3⟩
    rcases Nat.lt_or_ge i j with h | h
    · exact .inl ⟨j, h, h2, by rw [← e1 j h]; exact h3⟩
    · have : j = i := by omega
      subst this
      rw [seg_self] at h3
      exact .inr (by simpa using h3)

/-- What the iterator ends in. -/
def StartsPost (X : Nat → Prop) (ρ : Rd) (n0 : Nat) (root : ARe) (ts : List D) (f : Nat) (J Jx : Nat → World → Prop) (e : Ending) (w' : World) : Prop :=
  (∃ v, e = .returned v) ∧ (∃ us en', Full w' X ρ n0 root (ts ++ us) en') ∧ (J f w' ∨ ∃ i, Jx i w')

def fbox (ρf : Rd) (sf : Nat) (ρ : Rd) (st : Nat) : Obj := .cells #[.int .u64 sf, .func (.func 39) #[] #[.pointer (some ⟨ρf.av, 0, none⟩)], .func (.func 41) #[] #[.pointer (some ⟨ρf.ev, 0, none⟩)], .int .u64 st, .func (.func 39) #[] #[.pointer (some ⟨ρ.av, 0, none⟩)], .func (.func 41) #[] #[.pointer (some ⟨ρ.ev, 0, none⟩)]] 49 (0, 0)

/-- What the iterator reads behind a round. -/
structure SBox (bf bt bi : Nat) (ρf : Rd) (sf : Nat) (ρ : Rd) (st : Nat) (text : ByteArray) (f : Nat) (w : World) : Prop where
  fin : w.heap[bf]? = some (fbox ρf sf ρ st)
  txt : w.heap[bt]? = some (.cells #[.string text] 9 (0, 0))
  frm : w.heap[bi]? = some (.cells #[.int .i64 f] 3 (0, 0))
  tab : Tab w

structure SOut (X Y : Nat → Prop) (bf bt bi : Nat) : Prop where
  sub : ∀ k, Y k → X k
  f : X bf ∧ ¬ Y bf
  t : X bt ∧ ¬ Y bt
  i : X bi ∧ ¬ Y bi
  z : X 0 ∧ ¬ Y 0

theorem SBox.fx {X Y : Nat → Prop} {bf bt bi : Nat} {ρf : Rd} {sf : Nat} {ρ : Rd} {st : Nat} {text : ByteArray} {f : Nat} {w w' : World} (h : SBox bf bt bi ρf sf ρ st text f w) (ho : SOut X Y bf bt bi) (hF : Fx X w w') : SBox bf bt bi ρf sf ρ st text f w' :=
  ⟨(hF.keep _ ho.f.1).trans h.fin, (hF.keep _ ho.t.1).trans h.txt, (hF.keep _ ho.i.1).trans h.frm, h.tab.keep (hF.keep 0 ho.z.1)⟩

theorem SBox.off {X Y : Nat → Prop} {bf bt bi : Nat} {ρf : Rd} {sf : Nat} {ρ : Rd} {st : Nat} {text : ByteArray} {f : Nat} {w w' : World} (h : SBox bf bt bi ρf sf ρ st text f w) (ho : SOut X Y bf bt bi) (h0 : 0 < w.heap.size) (hF : Off Y w w') : SBox bf bt bi ρf sf ρ st text f w' :=
  ⟨hF.same h.fin ho.f.2, hF.same h.txt ho.t.2, hF.same h.frm ho.i.2, h.tab.keep (hF.keep 0 ⟨h0, ho.z.2⟩)⟩

set_option maxHeartbeats 2000000 in
theorem starts_any (n : Nat) (X Y : Nat → Prop) (ρf : Rd) (sf : Nat) (ρ : Rd) (n0 : Nat) (root : ARe) (ts : List D) (en : Nat) (st : Nat) (r : Re) (text : ByteArray) (f l bf bt bi : Nat) (J Jx : Nat → World → Prop) (w : World) (hX : Old X w) (ho : SOut X Y bf bt bi) (hB : SBox bf bt bi ρf sf ρ st text f w) (hF : Full w X ρ n0 root ts en) (hi : Inr ts st) (hl : ∀ u, Lang ts st u ↔ Mt root.re u) (hr : root.re = r.rev) (hs : f ≤ text.size) (hsz : text.size ≤ maxLen)
    (hJ : ∀ i A B, J i A → Fx X A B → J i B) (hJs : ∀ i A, f ≤ i → i ≤ text.size → ¬ From r text.data.toList i → J (i + 1) A → J i A)
    (hY : ∀ i A, f ≤ i → i ≤ text.size → From r text.data.toList i → J (i + 1) A → YieldAt Fence.wide (n - 1) Tryd.prog l #[.int .i64 i] A fun e B => Off Y A B ∧ ((e = .returned (.bool true) ∧ J i B) ∨ (e = .returned (.bool false) ∧ Jx i B)))
    (h0 : J (text.size + 1) w) :
    CallsIn Fence.wide n Tryd.prog 42 #[.func (.yield l) #[] #[], .pointer (some ⟨bf, 0, none⟩), .pointer (some ⟨bt, 0, none⟩), .pointer (some ⟨bi, 0, none⟩)] w (StartsPost X ρ n0 root ts f J Jx) := by
  refine callsIn_wide.2 ?_
  have b3 : w.cell? ⟨bf, 3, none⟩ = some (.int .u64 st) := by simp [World.cell?, hB.fin, fbox]
  have b4 : w.cell? ⟨bt, 0, none⟩ = some (.string text) := by simp [World.cell?, hB.txt]
  have hst64 := hi.lt (by have := hF.few; omega)
  have hT0 := hX _ ho.z.1
  have HX := hide hX
  have HO := hide ho
  have HB := hide hB
  have HF := hide hF
  have HI := hide hi
  have HL := hide hl
  have HR := hide hr
  have HJ := hide hJ
  have HJS := hide hJs
  have HY := hide hY
  have H0 := hide h0
  clear hX ho hB hF hi hl hr hJ hJs hY h0
  go_enter Tryd.func42, Tryd.ntmps42
  go_wp2_with fail
  go_loopg [5, 6] (text.size - f) (fun k left at_ wr => StartLoop X ρ n0 root ts text.data.toList f J (SBox bf bt bi ρf sf ρ st text f) w k left at_ wr)
  case atStart =>
    refine ⟨st, text.size, [], en, rfl, rfl, by omega, Nat.le_refl _, Nat.le_refl _, HB.out, by simpa using HF.out, by simpa using HI.out, fun u => ?_, H0.out⟩
    rw [List.append_nil, HL.out]
    constructor
    · intro h; exact ⟨text.size, Nat.le_refl _, Nat.le_refl _, by rw [seg_self]; simpa using h⟩
    · rintro ⟨j, h1, h2, h3⟩
      have : j = text.size := by rw [text_length] at h2; omega
      subst this
      rw [seg_self] at h3
      simpa using h3
  case round =>
    obtain ⟨L, i, us, en', rfl, rfl, hk, hi, hsw, hbx, hFu, hL, hl, hj⟩ := hrel
    have r5 : wr.cell? ⟨bf, 5, none⟩ = some (.func (.func 41) #[] #[.pointer (some ⟨ρ.ev, 0, none⟩)]) := by simp [World.cell?, hbx.fin, fbox]
    have HEN := hide (ends4_any X ρ n0 root (ts ++ us) en' L wr hFu hL)
    have HFL := hide (from_lang HR.out hl)
    rw [text_length] at hi
    have HBX := hide hbx
    have HFu := hide hFu
    have HLr := hide hL
    have Hl := hide hl
    have Hj := hide hj
    clear hFu hL hl hj hbx
    refine (wpIn_wide (n := n)).1 ?_
    gi_wp2_with fail
    refine ⟨trivial, fun h => (by cases h), (callsIn_wide.2 HEN.out).mono ?_⟩
    rintro e w1 ⟨x, rfl, rfl, hx⟩
    have c0 : w1.cell? ⟨bi, 0, none⟩ = some (.int .i64 f) := by simp [World.cell?, HBX.out.frm]
    cases x with
    | true =>
      obtain ⟨fn, tmps, assign, body, hy, hR⟩ := HY.out i w1 (by omega) hi (HFL.out.1 (hx.1 rfl)) Hj.out
      have HRR := hide hR
      clear hR hx HEN HFL
      gi_wp2_with fail
      refine ⟨fun h => (by cases h), HRR.out.mono ?_⟩
      rintro e W' ⟨hoff, (⟨rfl, hj'⟩ | ⟨rfl, hjx⟩)⟩
      · have HOF := hide hoff
        have HBX2 := hide (HBX.out.off HO.out (Nat.lt_of_lt_of_le hT0 hsw) hoff)
        have HFu2 := hide (HFu.out.off (hoff.sub fun k _ hk => HO.out.sub k hk))
        have HJ2 := hide hj'
        have c1 : W'.cell? ⟨bi, 0, none⟩ = some (.int .i64 f) := by simp [World.cell?, HBX2.out.frm]
        clear hoff hj' HRR hy
        by_cases hat : i ≤ f
        · obtain rfl : i = f := by omega
          gi_wp2_with fail
          go_end0
          exact ⟨⟨_, rfl⟩, ⟨us, en', HFu2.out⟩, .inl HJ2.out⟩
        · have hat' : decide (i ≤ f) = false := by simp; omega
          obtain ⟨i0, rfl⟩ : ∃ i0, i = i0 + 1 := ⟨i - 1, by omega⟩
          have hlt : i0 < text.size := by omega
          have hi1 : i0 + 1 ≤ 9223372036854775807 := by unfold maxLen at hsz; omega
          obtain ⟨k', rfl⟩ : ∃ k', gk = k' + 1 := ⟨gk - 1, by omega⟩
          have HGV := hide (give3_any X ρ n0 root (ts ++ us) en' L text[i0] W'.drew ((HX.out.mono hsw).mono HOF.out.size) HO.out.z.1 HBX2.out.tab (HFu2.out.below (Below.refl _ _).drew) HLr.out)
          have HTG := hide (text_get hlt)
          have HK := hide hk
          have hwr : IntKind.i64.wrap (i0 : Int) = (i0 : Int) := by rw [IntKind.wrap_i64]; omega
          have g3 : W'.cell? ⟨bf, 3, none⟩ = some (.int .u64 st) := by simp [World.cell?, HBX2.out.fin, fbox]
          have g4 : W'.cell? ⟨bf, 4, none⟩ = some (.func (.func 39) #[] #[.pointer (some ⟨ρ.av, 0, none⟩)]) := by simp [World.cell?, HBX2.out.fin, fbox]
          have g5 : W'.cell? ⟨bt, 0, none⟩ = some (.string text) := by simp [World.cell?, HBX2.out.txt]
          have HSW := hide (show w.heap.size ≤ W'.heap.size from Nat.le_trans hsw HOF.out.size)
          have HKP := hide (fun (w3 : World) (h3 : SBox bf bt bi ρf sf ρ st text f w3) => show w3.cell? ⟨bf, 3, none⟩ = some (.int .u64 st) ∧ w3.cell? ⟨bf, 4, none⟩ = some (.func (.func 39) #[] #[.pointer (some ⟨ρ.av, 0, none⟩)]) ∧ w3.cell? ⟨bt, 0, none⟩ = some (.string text) from ⟨by simp [World.cell?, h3.fin, fbox], by simp [World.cell?, h3.fin, fbox], by simp [World.cell?, h3.txt]⟩)
          gi_wp2_with fail
          refine wpIn_wide.2 ?_
          go_region_held3 (fun w' => w'.cell? ⟨bf, 3, none⟩ = some (.int .u64 st) ∧ w'.cell? ⟨bf, 4, none⟩ = some (.func (.func 39) #[] #[.pointer (some ⟨ρ.av, 0, none⟩)]) ∧ w'.cell? ⟨bt, 0, none⟩ = some (.string text))
            (first
              | with_reducible exact hS5
              | go_keep)
            (first
              | (go_at_call 39; refine HGV.out.mono ?_; rintro e3 w3 ⟨R, us', en3, rfl, hF3, hFu3, hR3, hl3⟩; have hB3 := SBox.fx HBX2.out HO.out hF3.undrew; have hS5 := HKP.out w3 hB3; have HST := hide (starts_step HK.out hB3 (by rw [text_length]; omega) HSW.out Hl.out (HJ.out _ _ _ HJ2.out hF3.undrew) HTG.out HI.out HL.out hF3.undrew hFu3 hR3 hl3); have HOR := hide (bits_or_u64_nat R st (hR3.lt (by have := hFu3.few; omega)) hst64); clear hF3 hFu3 hR3 hl3 hB3))
          all_goals
            gi_wp2_with fail
            go_roundg k'
            case measure => omega
            case rel =>
              have hst := HST.out
              rw [← HOR.out] at hst
              exact hst
      · have HFu2 := hide (HFu.out.off (hoff.sub fun k _ hk => HO.out.sub k hk))
        have HJ2 := hide hjx
        clear hoff hjx HRR hy
        gi_wp2_with fail
        go_end0
        exact ⟨⟨_, rfl⟩, ⟨us, en', HFu2.out⟩, .inr ⟨i, HJ2.out⟩⟩
    | false =>
      have HJN := hide (HJS.out i w1 (by omega) hi (fun h => by simpa using hx.2 (HFL.out.2 h)) Hj.out)
      clear hx HEN
      by_cases hat : i ≤ f
      · obtain rfl : i = f := by omega
        gi_wp2_with fail
        refine ⟨fun _ h => (by cases h), ?_⟩
        gi_wp2_with fail
        go_end0
        exact ⟨⟨_, rfl⟩, ⟨us, en', HFu.out⟩, .inl HJN.out⟩
      · have hat' : decide (i ≤ f) = false := by simp; omega
        obtain ⟨i0, rfl⟩ : ∃ i0, i = i0 + 1 := ⟨i - 1, by omega⟩
        have hlt : i0 < text.size := by omega
        have hi1 : i0 + 1 ≤ 9223372036854775807 := by unfold maxLen at hsz; omega
        obtain ⟨k', rfl⟩ : ∃ k', gk = k' + 1 := ⟨gk - 1, by omega⟩
        have HGV := hide (give3_any X ρ n0 root (ts ++ us) en' L text[i0] w1.drew ((HX.out.mono hsw).mono (Nat.le_refl _)) HO.out.z.1 HBX.out.tab (HFu.out.below (Below.refl _ _).drew) HLr.out)
        have HTG := hide (text_get hlt)
        have HK := hide hk
        have hwr : IntKind.i64.wrap (i0 : Int) = (i0 : Int) := by rw [IntKind.wrap_i64]; omega
        have g3 : w1.cell? ⟨bf, 3, none⟩ = some (.int .u64 st) := by simp [World.cell?, HBX.out.fin, fbox]
        have g4 : w1.cell? ⟨bf, 4, none⟩ = some (.func (.func 39) #[] #[.pointer (some ⟨ρ.av, 0, none⟩)]) := by simp [World.cell?, HBX.out.fin, fbox]
        have g5 : w1.cell? ⟨bt, 0, none⟩ = some (.string text) := by simp [World.cell?, HBX.out.txt]
        have HSW := hide (show w.heap.size ≤ w1.heap.size from Nat.le_trans hsw (Nat.le_refl _))
        have HKP := hide (fun (w3 : World) (h3 : SBox bf bt bi ρf sf ρ st text f w3) => show w3.cell? ⟨bf, 3, none⟩ = some (.int .u64 st) ∧ w3.cell? ⟨bf, 4, none⟩ = some (.func (.func 39) #[] #[.pointer (some ⟨ρ.av, 0, none⟩)]) ∧ w3.cell? ⟨bt, 0, none⟩ = some (.string text) from ⟨by simp [World.cell?, h3.fin, fbox], by simp [World.cell?, h3.fin, fbox], by simp [World.cell?, h3.txt]⟩)
        gi_wp2_with fail
        refine ⟨fun _ h => (by cases h), ?_⟩
        gi_wp2_with fail
        refine wpIn_wide.2 ?_
        go_region_held3 (fun w' => w'.cell? ⟨bf, 3, none⟩ = some (.int .u64 st) ∧ w'.cell? ⟨bf, 4, none⟩ = some (.func (.func 39) #[] #[.pointer (some ⟨ρ.av, 0, none⟩)]) ∧ w'.cell? ⟨bt, 0, none⟩ = some (.string text))
          (first
            | with_reducible exact hS5
            | go_keep)
          (first
            | (go_at_call 39; refine HGV.out.mono ?_; rintro e3 w3 ⟨R, us', en3, rfl, hF3, hFu3, hR3, hl3⟩; have hB3 := SBox.fx HBX.out HO.out hF3.undrew; have hS5 := HKP.out w3 hB3; have HST := hide (starts_step HK.out hB3 (by rw [text_length]; omega) HSW.out Hl.out (HJ.out _ _ _ HJN.out hF3.undrew) HTG.out HI.out HL.out hF3.undrew hFu3 hR3 hl3); have HOR := hide (bits_or_u64_nat R st (hR3.lt (by have := hFu3.few; omega)) hst64); clear hF3 hFu3 hR3 hl3 hB3))
        all_goals
          gi_wp2_with fail
          go_roundg k'
          case measure => omega
          case rel =>
            have hst := HST.out
            rw [← HOR.out] at hst
            exact hst
end Go.Proofs.YtgncgdkpkkdaeaaDoor

/- A finder by the blocks that are its own. -/
namespace Go.Proofs.YtgncgdkpkkdaeaaDoor
open Go.RowKit Tint Go.Maps

/-- A finder of the tree a whose own blocks are among O. -/
structure FinderIs (w : World) (O : Nat → Prop) (a : ARe) (ρf : Rd) (sf : Nat) (ρb : Rd) (sb : Nat) : Prop where
  old : ∀ k, O k → k < w.heap.size
  tab : ¬ O 0
  parts : ∃ Of Ob : Nat → Prop, (∀ k, Of k → O k) ∧ (∀ k, Ob k → O k) ∧ (∀ k, Of k → ¬ Ob k) ∧ RdIs w Of a ρf sf ∧ RdIs w Ob a.mir ρb sb

theorem FinderIs.tab0 {w : World} {O : Nat → Prop} {a : ARe} {ρf ρb : Rd} {sf sb : Nat} (h : FinderIs w O a ρf sf ρb sb) : 0 < w.heap.size := by
  obtain ⟨Of, Ob, h1, h2, h3, h4, h5⟩ := h.parts
  exact h4.tab.2

theorem FinderIs.off {w w' : World} {O Y : Nat → Prop} {a : ARe} {ρf ρb : Rd} {sf sb : Nat} (h : FinderIs w O a ρf sf ρb sb) (ho : Off Y w w') (hd : ∀ k, O k → ¬ Y k) : FinderIs w' O a ρf sf ρb sb := by
  obtain ⟨Of, Ob, h1, h2, h3, h4, h5⟩ := h.parts
  exact ⟨fun k hk => Nat.lt_of_lt_of_le (h.old k hk) ho.size, h.tab, Of, Ob, h1, h2, h3, h4.off ho (fun k hk => hd k (h1 k hk)), h5.off ho (fun k hk => hd k (h2 k hk))⟩

theorem FinderIs.wider {w : World} {O Z : Nat → Prop} {a : ARe} {ρf ρb : Rd} {sf sb : Nat} (h : FinderIs w O a ρf sf ρb sb) (hz : ∀ k, Z k → k < w.heap.size) (ht : ¬ Z 0) (hs : ∀ k, O k → Z k) : FinderIs w Z a ρf sf ρb sb := by
  obtain ⟨Of, Ob, h1, h2, h3, h4, h5⟩ := h.parts
  exact ⟨hz, ht, Of, Ob, fun k hk => hs k (h1 k hk), fun k hk => hs k (h2 k hk), h3, h4, h5⟩

theorem FinderIs.below {w w' : World} {O : Nat → Prop} {a : ARe} {ρf ρb : Rd} {sf sb : Nat} (h : FinderIs w O a ρf sf ρb sb) (hb : Below w.heap.size w w') : FinderIs w' O a ρf sf ρb sb :=
  h.off (Y := fun _ => False) (Off.of_below hb) (fun _ _ h => h)

/-- How long the match from s is. -/
def Long (r : Re) (T : List UInt8) (s stop : Nat) : Prop := s ≤ stop ∧ stop ≤ T.length ∧ (stop = s ∨ Mt r (seg T s stop)) ∧ ∀ j, stop < j → j ≤ T.length → ¬ Mt r (seg T s j)

def EndPost (O : Nat → Prop) (a : ARe) (ρf : Rd) (sf : Nat) (ρb : Rd) (sb : Nat) (T : List UInt8) (s : Nat) (w : World) (e : Ending) (w' : World) : Prop :=
  ∃ stop : Nat, e = .returned (.int .i64 stop) ∧ Off O w w' ∧ FinderIs w' (grow O w w') a ρf sf ρb sb ∧ Long a.re T s stop

theorem grow_sub {O : Nat → Prop} {w w' : World} {k : Nat} (h : O k) : grow O w w' k := .inl h

theorem end_any (O : Nat → Prop) (a : ARe) (ρf : Rd) (sf : Nat) (ρb : Rd) (sb : Nat) (text : ByteArray) (s : Nat) (w : World) (hT : Tab w) (hF : FinderIs w O a ρf sf ρb sb) (hs : s ≤ text.size) (hsz : text.size ≤ maxLen) :
    Calls Tryd.prog 26 #[fnv ρf sf ρb sb, .string text, .int .i64 s] w (EndPost O a ρf sf ρb sb text.data.toList s w) := by
  obtain ⟨Of, Ob, h1, h2, h3, h4, h5⟩ := hF.parts
  obtain ⟨n0, ts, en, hFu, hi, hl⟩ := h4.full
  refine (longest_any (cpl Of w) ρf n0 a ts en sf ρb sb text s w (cpl_old _ _) ⟨h4.tab.2, h4.tab.1⟩ hT hFu hi hl hs hsz).mono ?_
  rintro e w' ⟨stop, us, en', rfl, hFx, hFu', hlong⟩
  refine ⟨stop, rfl, (Off.of_cpl hFx).sub fun k _ hk => h1 k hk, ⟨fun k hk => ?_, fun hk => hk.elim hF.tab (fun h => by have := hF.tab0; omega), grow Of w w', Ob, fun k hk => ?_, fun k hk => .inl (h2 k hk), fun k hk hb => ?_, h4.grown hFx hFu' hi hl, h5.off (Off.of_cpl hFx) fun k hb hk => h3 k hk hb⟩, hlong⟩
  · exact hk.elim (fun h => Nat.lt_of_lt_of_le (hF.old k h) hFx.size) (fun h => h.2)
  · exact hk.elim (fun h => .inl (h1 k h)) .inr
  · rcases hk with hk | hk
    · exact h3 k hk hb
    · have := h5.old k hb
      omega

/-- The iterator of the starts, by the blocks that are the finder's own. -/
theorem starts_iter (n : Nat) (O Y : Nat → Prop) (a : ARe) (ρf : Rd) (sf : Nat) (ρb : Rd) (sb : Nat) (text : ByteArray) (f l bf bt bi : Nat) (J Jx : Nat → World → Prop) (w : World) (hF : FinderIs w O a ρf sf ρb sb) (hB : SBox bf bt bi ρf sf ρb sb text f w) (hs : f ≤ text.size) (hsz : text.size ≤ maxLen)
    (hYO : ∀ k, Y k → ¬ O k) (hYw : ∀ k, Y k → k < w.heap.size) (hf : ¬ O bf ∧ ¬ Y bf) (ht : ¬ O bt ∧ ¬ Y bt) (hfr : ¬ O bi ∧ ¬ Y bi) (hz : ¬ Y 0)
    (hJ : ∀ i A B, J i A → Off (fun k => O k ∨ w.heap.size ≤ k) A B → J i B) (hJs : ∀ i A, f ≤ i → i ≤ text.size → ¬ From a.re text.data.toList i → J (i + 1) A → J i A)
    (hY : ∀ i A, f ≤ i → i ≤ text.size → From a.re text.data.toList i → J (i + 1) A → YieldAt Fence.wide (n - 1) Tryd.prog l #[.int .i64 i] A fun e B => Off Y A B ∧ ((e = .returned (.bool true) ∧ J i B) ∨ (e = .returned (.bool false) ∧ Jx i B)))
    (h0 : J (text.size + 1) w) :
    CallsIn Fence.wide n Tryd.prog 42 #[.func (.yield l) #[] #[], .pointer (some ⟨bf, 0, none⟩), .pointer (some ⟨bt, 0, none⟩), .pointer (some ⟨bi, 0, none⟩)] w (fun e w' => (∃ v, e = .returned v) ∧ (∃ O', (∀ k, O' k → O k ∨ w.heap.size ≤ k) ∧ FinderIs w' O' a ρf sf ρb sb) ∧ (J f w' ∨ ∃ i, Jx i w')) := by
  obtain ⟨Of, Ob, h1, h2, h3, h4, h5⟩ := hF.parts
  obtain ⟨n0, ts, en, hFu, hi, hl⟩ := h5.full
  have hso : SOut (cpl Ob w) Y bf bt bi := ⟨fun k hk => ⟨hYw k hk, fun h => hYO k hk (h2 k h)⟩, ⟨⟨lt_of_get hB.fin, fun h => hf.1 (h2 _ h)⟩, hf.2⟩, ⟨⟨lt_of_get hB.txt, fun h => ht.1 (h2 _ h)⟩, ht.2⟩, ⟨⟨lt_of_get hB.frm, fun h => hfr.1 (h2 _ h)⟩, hfr.2⟩, ⟨⟨h5.tab.2, h5.tab.1⟩, hz⟩⟩
  have hX : ∀ (A B : World), w.heap.size ≤ A.heap.size → Fx (cpl Ob w) A B → Off (fun k => Ob k ∨ w.heap.size ≤ k) A B := fun A B _ h => h.sub fun k hk => ⟨Nat.lt_of_not_le fun h => hk.2 (.inr h), fun h => hk.2 (.inl h)⟩
  have hnf : ∀ k, Of k → ¬ (Ob k ∨ w.heap.size ≤ k) := fun k hk h => h.elim (h3 k hk) (fun h => by have := h4.old k hk; omega)
  refine (starts_any n (cpl Ob w) Y ρf sf ρb n0 a.mir ts en sb a.re text f l bf bt bi (fun i W => J i W ∧ w.heap.size ≤ W.heap.size ∧ RdIs W Of a ρf sf) (fun i W => Jx i W ∧ w.heap.size ≤ W.heap.size ∧ RdIs W Of a ρf sf) w (cpl_old _ _) hso hB hFu hi hl a.mir_re hs hsz ?_ ?_ ?_ ⟨h0, Nat.le_refl _, h4⟩).mono ?_
  · rintro i A B ⟨hj, hsA, hr⟩ hFx
    have hoff := hX A B hsA hFx
    exact ⟨hJ i A B hj (hoff.sub fun k _ hk => hk.elim (fun h => .inl (h2 k h)) .inr), Nat.le_trans hsA hFx.size, hr.off hoff hnf⟩
  · rintro i A hi1 hi2 hn ⟨hj, hr⟩
    exact ⟨hJs i A hi1 hi2 hn hj, hr⟩
  · rintro i A hi1 hi2 hfrom ⟨hj, hsA, hr⟩
    obtain ⟨fn, tmps, assign, body, hy, hR⟩ := hY i A hi1 hi2 hfrom hj
    refine ⟨fn, tmps, assign, body, hy, hR.mono ?_⟩
    rintro e B ⟨hoff, hjj⟩
    have hr' := hr.off hoff (fun k hk hy => hYO k hy (h1 k hk))
    exact ⟨hoff, hjj.imp (fun h => ⟨h.1, h.2, Nat.le_trans hsA hoff.size, hr'⟩) (fun h => ⟨h.1, h.2, Nat.le_trans hsA hoff.size, hr'⟩)⟩
  · rintro e w' ⟨hv, ⟨us, en', hFu'⟩, hend⟩
    have hrd : w.heap.size ≤ w'.heap.size ∧ RdIs w' Of a ρf sf ∧ (J f w' ∨ ∃ i, Jx i w') := by
      rcases hend with ⟨hj, hs, hr⟩ | ⟨i, hj, hs, hr⟩
      · exact ⟨hs, hr, .inl hj⟩
      · exact ⟨hs, hr, .inr ⟨i, hj⟩⟩
    obtain ⟨hsz', hr, hend'⟩ := hrd
    refine ⟨hv, ⟨fun k => (O k ∨ w.heap.size ≤ k) ∧ k < w'.heap.size, fun k hk => hk.1, ⟨fun k hk => hk.2, fun hk => hk.1.elim hF.tab (fun h => by have := hF.tab0; omega), Of, grow Ob w w', fun k hk => ⟨.inl (h1 k hk), hr.old k hk⟩, fun k hk => ?_, fun k hk hb => ?_, hr, ?_⟩⟩, hend'⟩
    · rcases hk with hk | hk
      · exact ⟨.inl (h2 k hk), Nat.lt_of_lt_of_le (h5.old k hk) hsz'⟩
      · exact ⟨.inr hk.1, hk.2⟩
    · rcases hb with hb | hb
      · exact h3 k hk hb
      · have := h4.old k hk
        omega
    · refine ⟨fun k hk => hk.elim (fun h1 => Nat.lt_of_lt_of_le (h5.old k h1) hsz') (fun h => h.2), ⟨fun hk => hk.elim h5.tab.1 (fun h1 => by have := h5.tab.2; omega), Nat.lt_of_lt_of_le h5.tab.2 hsz'⟩, n0, ts ++ us, en', hFu'.wider fun k hk => ?_, hi.append, fun u => (Lang.append hi u).trans (hl u)⟩
      refine .inl ⟨?_, fun h => hk.2 (.inl h)⟩
      rcases Nat.lt_or_ge k w.heap.size with hlt | hge
      · exact hlt
      · exact absurd (.inr ⟨hge, hk.1⟩) hk.2
end Go.Proofs.YtgncgdkpkkdaeaaDoor
