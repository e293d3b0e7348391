import Derived.Test.YtgncgdkpkkdaeaaGreatDoorKR
import Derived.RangeFuncNested
import Derived.RangeFuncBound
import Derived.RangeFuncCalls
import Derived.RangeFuncLeaves
import Derived.Shelf.Abstract
import Derived.Shelf.RegionOpen
import Derived.WalkKit
import Derived.OwnWalkIn
import Derived.TacticsInMore
import Derived.LoopNIn
import Derived.LoopIn
import Derived.Test.YtgncgdkpkkdaeaaGreatDoorKD
import Derived.Test.YtgncgdkpkkdaeaaGreatDoorKP
import Derived.Deep.RegionHeld3
namespace Go.Proofs.YtgncgdkpkkdaeaaGreatDoor
open Go.RowKit Tint Go.Maps Go.Shelf
attribute [local go_sem] Oper.semAt_some
theorem from_lang {ts : List D} {root : ARe} {r : Re} {T : List UInt8} {L i : Nat} (hr : root.re = r.rev) (hl : ∀ u, Lang ts L u ↔ ∃ j, i ≤ j ∧ j ≤ T.length ∧ Mt root.re ((seg T i j).reverse ++ u)) : Lang ts L [] ↔ From r T i := by
 rw [hl]
 unfold From
 simp only [List.append_nil, hr, mt_rev, List.reverse_reverse]
def Seen (r : Re) (T : List UInt8) (i p : Nat) (o : Bool) : Prop := (o = true → i ≤ p ∧ p ≤ T.length ∧ From r T p ∧ ∀ j, i ≤ j → j < p → ¬ From r T j) ∧ (o = false → p = 0 ∧ ∀ j, i ≤ j → ¬ From r T j)
def StartLoop (X : Nat → Prop) (ρ : Rd) (n0 : Nat) (root : ARe) (ts : List D) (T : List UInt8) (f : Nat) (J : Nat → World → Prop) (B : World → Prop) (w : World) (k : Nat) (left at_ : Value) (wr : World) : Prop :=
 ∃ (L i : Nat) (us : List D) (en' : Nat), left = .int .u64 L ∧ at_ = .int .i64 i ∧ f + k = i ∧ i ≤ T.length ∧ w.heap.size ≤ wr.heap.size ∧ B wr ∧ Full wr X ρ n0 root (ts ++ us) en' ∧ Inr (ts ++ us) L ∧ (∀ u, Lang (ts ++ us) L u ↔ ∃ j, i ≤ j ∧ j ≤ T.length ∧ Mt root.re ((seg T i j).reverse ++ u)) ∧ J (i + 1) wr
theorem starts_step {X : Nat → Prop} {ρ : Rd} {n0 : Nat} {root : ARe} {ts us us' : List D} {T : List UInt8} {f st L R i en' : Nat} {b : UInt8} {J : Nat → World → Prop} {B : World → Prop} {k : Nat} {w wr w3 : World} (hf : f + (k + 1) = i + 1) (hB : B w3) (hi : i + 1 ≤ T.length) (hsz : w.heap.size ≤ wr.heap.size) (hl : ∀ u, Lang (ts ++ us) L u ↔ ∃ j, i + 1 ≤ j ∧ j ≤ T.length ∧ Mt root.re ((seg T (i + 1) j).reverse ++ u))
  (hJ : J (i + 1) w3) (hb : T[i]? = some b) (hst : Inr ts st) (hsl : ∀ u, Lang ts st u ↔ Mt root.re u) (hF3 : Fx X wr w3) (hFu : Full w3 X ρ n0 root (ts ++ us ++ us') en') (hR : Inr (ts ++ us ++ us') R) (hRl : ∀ u, Lang (ts ++ us ++ us') R u ↔ Lang (ts ++ us) L (b :: u)) :
  StartLoop X ρ n0 root ts T f J B w k (.int .u64 ((R ||| st : Nat) : Int)) (.int .i64 i) w3 := by
 rw [List.append_assoc] at hFu hR hRl
 have e1 : ∀ j, i + 1 ≤ j → ∀ u, (seg T i j).reverse ++ u = (seg T (i + 1) j).reverse ++ b :: u := fun j hj u => by
  rw [seg_append T (Nat.le_succ i) hj, seg_one T hb]; simp
 refine ⟨R ||| st, i, us ++ us', en', rfl, rfl, by omega, by omega, Nat.le_trans hsz hF3.size, hB, hFu, hR.or hst.append, fun u => ?_, hJ⟩
 rw [Lang.or, hRl, hl, Lang.append hst, hsl]
 constructor
 ·rintro (⟨j, h1, h2, h3⟩ | h)
  ·exact ⟨j, by omega, h2, by rw [e1 j h1]; exact h3⟩
  ·exact ⟨i, Nat.le_refl _, by omega, by rw [seg_self]; simpa using h⟩
 ·rintro ⟨j, h1, h2, h3⟩
  rcases Nat.lt_or_ge i j with h | h
  ·exact .inl ⟨j, h, h2, by rw [← e1 j h]; exact h3⟩
  ·have : j = i := by omega
   subst this
   rw [seg_self] at h3
   exact .inr (by simpa using h3)
def StartsPost (X : Nat → Prop) (ρ : Rd) (n0 : Nat) (root : ARe) (ts : List D) (f : Nat) (J Jx : Nat → World → Prop) (e : Ending) (w' : World) : Prop :=
 (∃ v, e = .returned v) ∧ (∃ us en', Full w' X ρ n0 root (ts ++ us) en') ∧ (J f w' ∨ ∃ i, Jx i w')
def fbox (ρf : Rd) (sf : Nat) (ρ : Rd) (st : Nat) : Obj := .cells #[.int .u64 sf, .func (.func 179) #[] #[.pointer (some ⟨ρf.av, 0, none⟩)], .func (.func 181) #[] #[.pointer (some ⟨ρf.ev, 0, none⟩)], .int .u64 st, .func (.func 179) #[] #[.pointer (some ⟨ρ.av, 0, none⟩)], .func (.func 181) #[] #[.pointer (some ⟨ρ.ev, 0, none⟩)]] 194 (0, 0)
structure SBox (bf bt bi : Nat) (ρf : Rd) (sf : Nat) (ρ : Rd) (st : Nat) (text : ByteArray) (f : Nat) (w : World) : Prop where
 fin : w.heap[bf]? = some (fbox ρf sf ρ st)
 txt : w.heap[bt]? = some (.cells #[.string text] 9 (0, 0))
 frm : w.heap[bi]? = some (.cells #[.int .i64 f] 3 (0, 0))
 tab : Tab w
structure SOut (X Y : Nat → Prop) (bf bt bi : Nat) : Prop where
 sub : ∀ k, Y k → X k
 f : X bf ∧ ¬ Y bf
 t : X bt ∧ ¬ Y bt
 i : X bi ∧ ¬ Y bi
 z : X 1 ∧ ¬ Y 1
theorem SBox.fx {X Y : Nat → Prop} {bf bt bi : Nat} {ρf : Rd} {sf : Nat} {ρ : Rd} {st : Nat} {text : ByteArray} {f : Nat} {w w' : World} (h : SBox bf bt bi ρf sf ρ st text f w) (ho : SOut X Y bf bt bi) (hF : Fx X w w') : SBox bf bt bi ρf sf ρ st text f w' :=
 ⟨(hF.keep _ ho.f.1).trans h.fin, (hF.keep _ ho.t.1).trans h.txt, (hF.keep _ ho.i.1).trans h.frm, h.tab.keep (hF.keep 1 ho.z.1)⟩
theorem SBox.off {X Y : Nat → Prop} {bf bt bi : Nat} {ρf : Rd} {sf : Nat} {ρ : Rd} {st : Nat} {text : ByteArray} {f : Nat} {w w' : World} (h : SBox bf bt bi ρf sf ρ st text f w) (ho : SOut X Y bf bt bi) (h0 : 1 < w.heap.size) (hF : Off Y w w') : SBox bf bt bi ρf sf ρ st text f w' :=
 ⟨hF.same h.fin ho.f.2, hF.same h.txt ho.t.2, hF.same h.frm ho.i.2, h.tab.keep (hF.keep 1 ⟨h0, ho.z.2⟩)⟩
set_option maxHeartbeats 2000000 in
theorem starts_any (n : Nat) (X Y : Nat → Prop) (ρf : Rd) (sf : Nat) (ρ : Rd) (n0 : Nat) (root : ARe) (ts : List D) (en : Nat) (st : Nat) (r : Re) (text : ByteArray) (f l bf bt bi : Nat) (J Jx : Nat → World → Prop) (w : World) (hX : Old X w) (ho : SOut X Y bf bt bi) (hB : SBox bf bt bi ρf sf ρ st text f w) (hF : Full w X ρ n0 root ts en) (hi : Inr ts st) (hl : ∀ u, Lang ts st u ↔ Mt root.re u) (hr : root.re = r.rev) (hs : f ≤ text.size) (hsz : text.size ≤ maxLen)
  (hJ : ∀ i A B, J i A → Fx X A B → J i B) (hJs : ∀ i A, f ≤ i → i ≤ text.size → ¬ From r text.data.toList i → J (i + 1) A → J i A)
  (hY : ∀ i A, f ≤ i → i ≤ text.size → From r text.data.toList i → J (i + 1) A → YieldAt Fence.wide (n - 1) Tryz.prog l #[.int .i64 i] A fun e B => Off Y A B ∧ ((e = .returned (.bool true) ∧ J i B) ∨ (e = .returned (.bool false) ∧ Jx i B)))
  (h0 : J (text.size + 1) w) :
  CallsIn Fence.wide n Tryz.prog 182 #[.func (.yield l) #[] #[], .pointer (some ⟨bf, 0, none⟩), .pointer (some ⟨bt, 0, none⟩), .pointer (some ⟨bi, 0, none⟩)] w (StartsPost X ρ n0 root ts f J Jx) := by
 refine callsIn_wide.2 ?_
 have b3 : w.cell? ⟨bf, 3, none⟩ = some (.int .u64 st) := by simp [World.cell?, hB.fin, fbox]
 have b4 : w.cell? ⟨bt, 0, none⟩ = some (.string text) := by simp [World.cell?, hB.txt]
 have hst64 := hi.lt (by have := hF.few; omega)
 have hT0 := hX _ ho.z.1
 have HX := hide hX
 have HO := hide ho
 have HB := hide hB
 have HF := hide hF
 have HI := hide hi
 have HL := hide hl
 have HR := hide hr
 have HJ := hide hJ
 have HJS := hide hJs
 have HY := hide hY
 have H0 := hide h0
 clear hX ho hB hF hi hl hr hJ hJs hY h0
 go_enter Tryz.func182, Tryz.ntmps182
 go_wp2_with fail
 go_loopg [5, 6] (text.size - f) (fun k left at_ wr => StartLoop X ρ n0 root ts text.data.toList f J (SBox bf bt bi ρf sf ρ st text f) w k left at_ wr)
 case atStart =>
  refine ⟨st, text.size, [], en, rfl, rfl, by omega, Nat.le_refl _, Nat.le_refl _, HB.out, by simpa using HF.out, by simpa using HI.out, fun u => ?_, H0.out⟩
  rw [List.append_nil, HL.out]
  constructor
  ·intro h; exact ⟨text.size, Nat.le_refl _, Nat.le_refl _, by rw [seg_self]; simpa using h⟩
  ·rintro ⟨j, h1, h2, h3⟩
   have : j = text.size := by rw [text_length] at h2; omega
   subst this
   rw [seg_self] at h3
   simpa using h3
 case round =>
  obtain ⟨L, i, us, en', rfl, rfl, hk, hi, hsw, hbx, hFu, hL, hl, hj⟩ := hrel
  have r5 : wr.cell? ⟨bf, 5, none⟩ = some (.func (.func 181) #[] #[.pointer (some ⟨ρ.ev, 0, none⟩)]) := by simp [World.cell?, hbx.fin, fbox]
  have HEN := hide (ends4_any X ρ n0 root (ts ++ us) en' L wr hFu hL)
  have HFL := hide (from_lang HR.out hl)
  rw [text_length] at hi
  have HBX := hide hbx
  have HFu := hide hFu
  have HLr := hide hL
  have Hl := hide hl
  have Hj := hide hj
  clear hFu hL hl hj hbx
  refine (wpIn_wide (n := n)).1 ?_
  gi_wp2_with fail
  refine ⟨trivial, fun h => (by cases h), (callsIn_wide.2 HEN.out).mono ?_⟩
  rintro e w1 ⟨x, rfl, rfl, hx⟩
  have c0 : w1.cell? ⟨bi, 0, none⟩ = some (.int .i64 f) := by simp [World.cell?, HBX.out.frm]
  cases x with
  | true =>
   obtain ⟨fn, tmps, assign, body, hy, hR⟩ := HY.out i w1 (by omega) hi (HFL.out.1 (hx.1 rfl)) Hj.out
   have HRR := hide hR
   clear hR hx HEN HFL
   gi_wp2_with fail
   refine ⟨fun h => (by cases h), HRR.out.mono ?_⟩
   rintro e W' ⟨hoff, (⟨rfl, hj'⟩ | ⟨rfl, hjx⟩)⟩
   ·have HOF := hide hoff
    have HBX2 := hide (HBX.out.off HO.out (Nat.lt_of_lt_of_le hT0 hsw) hoff)
    have HFu2 := hide (HFu.out.off (hoff.sub fun k _ hk => HO.out.sub k hk))
    have HJ2 := hide hj'
    have c1 : W'.cell? ⟨bi, 0, none⟩ = some (.int .i64 f) := by simp [World.cell?, HBX2.out.frm]
    clear hoff hj' HRR hy
    by_cases hat : i ≤ f
    ·obtain rfl : i = f := by omega
     gi_wp2_with fail
     go_end0
     exact ⟨⟨_, rfl⟩, ⟨us, en', HFu2.out⟩, .inl HJ2.out⟩
    ·have hat' : decide (i ≤ f) = false := by simp; omega
     obtain ⟨i0, rfl⟩ : ∃ i0, i = i0 + 1 := ⟨i - 1, by omega⟩
     have hlt : i0 < text.size := by omega
     have hi1 : i0 + 1 ≤ 9223372036854775807 := by unfold maxLen at hsz; omega
     obtain ⟨k', rfl⟩ : ∃ k', gk = k' + 1 := ⟨gk - 1, by omega⟩
     have HGV := hide (give3_any X ρ n0 root (ts ++ us) en' L text[i0] W'.drew ((HX.out.mono hsw).mono HOF.out.size) HO.out.z.1 HBX2.out.tab (HFu2.out.below (Below.refl _ _).drew) HLr.out)
     have HTG := hide (text_get hlt)
     have HK := hide hk
     have hwr : IntKind.i64.wrap (i0 : Int) = (i0 : Int) := by rw [IntKind.wrap_i64]; omega
     have g3 : W'.cell? ⟨bf, 3, none⟩ = some (.int .u64 st) := by simp [World.cell?, HBX2.out.fin, fbox]
     have g4 : W'.cell? ⟨bf, 4, none⟩ = some (.func (.func 179) #[] #[.pointer (some ⟨ρ.av, 0, none⟩)]) := by simp [World.cell?, HBX2.out.fin, fbox]
     have g5 : W'.cell? ⟨bt, 0, none⟩ = some (.string text) := by simp [World.cell?, HBX2.out.txt]
     have HSW := hide (show w.heap.size ≤ W'.heap.size from Nat.le_trans hsw HOF.out.size)
     have HKP := hide (fun (w3 : World) (h3 : SBox bf bt bi ρf sf ρ st text f w3) => show w3.cell? ⟨bf, 3, none⟩ = some (.int .u64 st) ∧ w3.cell? ⟨bf, 4, none⟩ = some (.func (.func 179) #[] #[.pointer (some ⟨ρ.av, 0, none⟩)]) ∧ w3.cell? ⟨bt, 0, none⟩ = some (.string text) from ⟨by simp [World.cell?, h3.fin, fbox], by simp [World.cell?, h3.fin, fbox], by simp [World.cell?, h3.txt]⟩)
     gi_wp2_with fail
     refine wpIn_wide.2 ?_
     go_region_held3 (fun w' => w'.cell? ⟨bf, 3, none⟩ = some (.int .u64 st) ∧ w'.cell? ⟨bf, 4, none⟩ = some (.func (.func 179) #[] #[.pointer (some ⟨ρ.av, 0, none⟩)]) ∧ w'.cell? ⟨bt, 0, none⟩ = some (.string text))
      (first
       | with_reducible exact hS5
       | go_keep)
      (first
       | (go_at_call 179; refine HGV.out.mono ?_; rintro e3 w3 ⟨R, us', en3, rfl, hF3, hFu3, hR3, hl3⟩; have hB3 := SBox.fx HBX2.out HO.out hF3.undrew; have hS5 := HKP.out w3 hB3; have HST := hide (starts_step HK.out hB3 (by rw [text_length]; omega) HSW.out Hl.out (HJ.out _ _ _ HJ2.out hF3.undrew) HTG.out HI.out HL.out hF3.undrew hFu3 hR3 hl3); have HOR := hide (bits_or_u64_nat R st (hR3.lt (by have := hFu3.few; omega)) hst64); clear hF3 hFu3 hR3 hl3 hB3))
     all_goals
      gi_wp2_with fail
      go_roundg k'
      case measure => omega
      case rel =>
       have hst := HST.out
       rw [← HOR.out] at hst
       exact hst
   ·have HFu2 := hide (HFu.out.off (hoff.sub fun k _ hk => HO.out.sub k hk))
    have HJ2 := hide hjx
    clear hoff hjx HRR hy
    gi_wp2_with fail
    go_end0
    exact ⟨⟨_, rfl⟩, ⟨us, en', HFu2.out⟩, .inr ⟨i, HJ2.out⟩⟩
  | false =>
   have HJN := hide (HJS.out i w1 (by omega) hi (fun h => by simpa using hx.2 (HFL.out.2 h)) Hj.out)
   clear hx HEN
   by_cases hat : i ≤ f
   ·obtain rfl : i = f := by omega
    gi_wp2_with fail
    refine ⟨fun _ h => (by cases h), ?_⟩
    gi_wp2_with fail
    go_end0
    exact ⟨⟨_, rfl⟩, ⟨us, en', HFu.out⟩, .inl HJN.out⟩
   ·have hat' : decide (i ≤ f) = false := by simp; omega
    obtain ⟨i0, rfl⟩ : ∃ i0, i = i0 + 1 := ⟨i - 1, by omega⟩
    have hlt : i0 < text.size := by omega
    have hi1 : i0 + 1 ≤ 9223372036854775807 := by unfold maxLen at hsz; omega
    obtain ⟨k', rfl⟩ : ∃ k', gk = k' + 1 := ⟨gk - 1, by omega⟩
    have HGV := hide (give3_any X ρ n0 root (ts ++ us) en' L text[i0] w1.drew ((HX.out.mono hsw).mono (Nat.le_refl _)) HO.out.z.1 HBX.out.tab (HFu.out.below (Below.refl _ _).drew) HLr.out)
    have HTG := hide (text_get hlt)
    have HK := hide hk
    have hwr : IntKind.i64.wrap (i0 : Int) = (i0 : Int) := by rw [IntKind.wrap_i64]; omega
    have g3 : w1.cell? ⟨bf, 3, none⟩ = some (.int .u64 st) := by simp [World.cell?, HBX.out.fin, fbox]
    have g4 : w1.cell? ⟨bf, 4, none⟩ = some (.func (.func 179) #[] #[.pointer (some ⟨ρ.av, 0, none⟩)]) := by simp [World.cell?, HBX.out.fin, fbox]
    have g5 : w1.cell? ⟨bt, 0, none⟩ = some (.string text) := by simp [World.cell?, HBX.out.txt]
    have HSW := hide (show w.heap.size ≤ w1.heap.size from Nat.le_trans hsw (Nat.le_refl _))
    have HKP := hide (fun (w3 : World) (h3 : SBox bf bt bi ρf sf ρ st text f w3) => show w3.cell? ⟨bf, 3, none⟩ = some (.int .u64 st) ∧ w3.cell? ⟨bf, 4, none⟩ = some (.func (.func 179) #[] #[.pointer (some ⟨ρ.av, 0, none⟩)]) ∧ w3.cell? ⟨bt, 0, none⟩ = some (.string text) from ⟨by simp [World.cell?, h3.fin, fbox], by simp [World.cell?, h3.fin, fbox], by simp [World.cell?, h3.txt]⟩)
    gi_wp2_with fail
    refine ⟨fun _ h => (by cases h), ?_⟩
    gi_wp2_with fail
    refine wpIn_wide.2 ?_
    go_region_held3 (fun w' => w'.cell? ⟨bf, 3, none⟩ = some (.int .u64 st) ∧ w'.cell? ⟨bf, 4, none⟩ = some (.func (.func 179) #[] #[.pointer (some ⟨ρ.av, 0, none⟩)]) ∧ w'.cell? ⟨bt, 0, none⟩ = some (.string text))
     (first
      | with_reducible exact hS5
      | go_keep)
     (first
      | (go_at_call 179; refine HGV.out.mono ?_; rintro e3 w3 ⟨R, us', en3, rfl, hF3, hFu3, hR3, hl3⟩; have hB3 := SBox.fx HBX.out HO.out hF3.undrew; have hS5 := HKP.out w3 hB3; have HST := hide (starts_step HK.out hB3 (by rw [text_length]; omega) HSW.out Hl.out (HJ.out _ _ _ HJN.out hF3.undrew) HTG.out HI.out HL.out hF3.undrew hFu3 hR3 hl3); have HOR := hide (bits_or_u64_nat R st (hR3.lt (by have := hFu3.few; omega)) hst64); clear hF3 hFu3 hR3 hl3 hB3))
    all_goals
     gi_wp2_with fail
     go_roundg k'
     case measure => omega
     case rel =>
      have hst := HST.out
      rw [← HOR.out] at hst
      exact hst
end Go.Proofs.YtgncgdkpkkdaeaaGreatDoor
namespace Go.Proofs.YtgncgdkpkkdaeaaGreatDoor
open Go.RowKit Tint Go.Maps
structure FinderIs (w : World) (O : Nat → Prop) (a : ARe) (ρf : Rd) (sf : Nat) (ρb : Rd) (sb : Nat) : Prop where
 old : ∀ k, O k → k < w.heap.size
 tab : ¬ O 1
 parts : ∃ Of Ob : Nat → Prop, (∀ k, Of k → O k) ∧ (∀ k, Ob k → O k) ∧ (∀ k, Of k → ¬ Ob k) ∧ RdIs w Of a ρf sf ∧ RdIs w Ob a.mir ρb sb
theorem FinderIs.tab0 {w : World} {O : Nat → Prop} {a : ARe} {ρf ρb : Rd} {sf sb : Nat} (h : FinderIs w O a ρf sf ρb sb) : 1 < w.heap.size := by
 obtain ⟨Of, Ob, h1, h2, h3, h4, h5⟩ := h.parts
 exact h4.tab.2
theorem FinderIs.off {w w' : World} {O Y : Nat → Prop} {a : ARe} {ρf ρb : Rd} {sf sb : Nat} (h : FinderIs w O a ρf sf ρb sb) (ho : Off Y w w') (hd : ∀ k, O k → ¬ Y k) : FinderIs w' O a ρf sf ρb sb := by
 obtain ⟨Of, Ob, h1, h2, h3, h4, h5⟩ := h.parts
 exact ⟨fun k hk => Nat.lt_of_lt_of_le (h.old k hk) ho.size, h.tab, Of, Ob, h1, h2, h3, h4.off ho (fun k hk => hd k (h1 k hk)), h5.off ho (fun k hk => hd k (h2 k hk))⟩
theorem FinderIs.below {w w' : World} {O : Nat → Prop} {a : ARe} {ρf ρb : Rd} {sf sb : Nat} (h : FinderIs w O a ρf sf ρb sb) (hb : Below w.heap.size w w') : FinderIs w' O a ρf sf ρb sb :=
 h.off (Y := fun _ => False) (Off.of_below hb) (fun _ _ h => h)
def Long (r : Re) (T : List UInt8) (s stop : Nat) : Prop := s ≤ stop ∧ stop ≤ T.length ∧ (stop = s ∨ Mt r (seg T s stop)) ∧ ∀ j, stop < j → j ≤ T.length → ¬ Mt r (seg T s j)
def EndPost (O : Nat → Prop) (a : ARe) (ρf : Rd) (sf : Nat) (ρb : Rd) (sb : Nat) (T : List UInt8) (s : Nat) (w : World) (e : Ending) (w' : World) : Prop :=
 ∃ stop : Nat, e = .returned (.int .i64 stop) ∧ Off O w w' ∧ FinderIs w' (grow O w w') a ρf sf ρb sb ∧ Long a.re T s stop
theorem end_any (O : Nat → Prop) (a : ARe) (ρf : Rd) (sf : Nat) (ρb : Rd) (sb : Nat) (text : ByteArray) (s : Nat) (w : World) (hT : Tab w) (hF : FinderIs w O a ρf sf ρb sb) (hs : s ≤ text.size) (hsz : text.size ≤ maxLen) :
  Calls Tryz.prog 129 #[fnv ρf sf ρb sb, .string text, .int .i64 s] w (EndPost O a ρf sf ρb sb text.data.toList s w) := by
 obtain ⟨Of, Ob, h1, h2, h3, h4, h5⟩ := hF.parts
 obtain ⟨n0, ts, en, hFu, hi, hl⟩ := h4.full
 refine (longest_any (cpl Of w) ρf n0 a ts en sf ρb sb text s w (cpl_old _ _) ⟨h4.tab.2, h4.tab.1⟩ hT hFu hi hl hs hsz).mono ?_
 rintro e w' ⟨stop, us, en', rfl, hFx, hFu', hlong⟩
 refine ⟨stop, rfl, (Off.of_cpl hFx).sub fun k _ hk => h1 k hk, ⟨fun k hk => ?_, fun hk => hk.elim hF.tab (fun h => by have := hF.tab0; omega), grow Of w w', Ob, fun k hk => ?_, fun k hk => .inl (h2 k hk), fun k hk hb => ?_, h4.grown hFx hFu' hi hl, h5.off (Off.of_cpl hFx) fun k hb hk => h3 k hk hb⟩, hlong⟩
 ·exact hk.elim (fun h => Nat.lt_of_lt_of_le (hF.old k h) hFx.size) (fun h => h.2)
 ·exact hk.elim (fun h => .inl (h1 k h)) .inr
 ·rcases hk with hk | hk
  ·exact h3 k hk hb
  ·have := h5.old k hb
   omega
theorem starts_iter (n : Nat) (O Y : Nat → Prop) (a : ARe) (ρf : Rd) (sf : Nat) (ρb : Rd) (sb : Nat) (text : ByteArray) (f l bf bt bi : Nat) (J Jx : Nat → World → Prop) (w : World) (hF : FinderIs w O a ρf sf ρb sb) (hB : SBox bf bt bi ρf sf ρb sb text f w) (hs : f ≤ text.size) (hsz : text.size ≤ maxLen)
  (hYO : ∀ k, Y k → ¬ O k) (hYw : ∀ k, Y k → k < w.heap.size) (hf : ¬ O bf ∧ ¬ Y bf) (ht : ¬ O bt ∧ ¬ Y bt) (hfr : ¬ O bi ∧ ¬ Y bi) (hz : ¬ Y 1)
  (hJ : ∀ i A B, J i A → Off (fun k => O k ∨ w.heap.size ≤ k) A B → J i B) (hJs : ∀ i A, f ≤ i → i ≤ text.size → ¬ From a.re text.data.toList i → J (i + 1) A → J i A)
  (hY : ∀ i A, f ≤ i → i ≤ text.size → From a.re text.data.toList i → J (i + 1) A → YieldAt Fence.wide (n - 1) Tryz.prog l #[.int .i64 i] A fun e B => Off Y A B ∧ ((e = .returned (.bool true) ∧ J i B) ∨ (e = .returned (.bool false) ∧ Jx i B)))
  (h0 : J (text.size + 1) w) :
  CallsIn Fence.wide n Tryz.prog 182 #[.func (.yield l) #[] #[], .pointer (some ⟨bf, 0, none⟩), .pointer (some ⟨bt, 0, none⟩), .pointer (some ⟨bi, 0, none⟩)] w (fun e w' => (∃ v, e = .returned v) ∧ (∃ O', (∀ k, O' k → O k ∨ w.heap.size ≤ k) ∧ FinderIs w' O' a ρf sf ρb sb) ∧ (J f w' ∨ ∃ i, Jx i w')) := by
 obtain ⟨Of, Ob, h1, h2, h3, h4, h5⟩ := hF.parts
 obtain ⟨n0, ts, en, hFu, hi, hl⟩ := h5.full
 have hso : SOut (cpl Ob w) Y bf bt bi := ⟨fun k hk => ⟨hYw k hk, fun h => hYO k hk (h2 k h)⟩, ⟨⟨lt_of_get hB.fin, fun h => hf.1 (h2 _ h)⟩, hf.2⟩, ⟨⟨lt_of_get hB.txt, fun h => ht.1 (h2 _ h)⟩, ht.2⟩, ⟨⟨lt_of_get hB.frm, fun h => hfr.1 (h2 _ h)⟩, hfr.2⟩, ⟨⟨h5.tab.2, h5.tab.1⟩, hz⟩⟩
 have hX : ∀ (A B : World), w.heap.size ≤ A.heap.size → Fx (cpl Ob w) A B → Off (fun k => Ob k ∨ w.heap.size ≤ k) A B := fun A B _ h => h.sub fun k hk => ⟨Nat.lt_of_not_le fun h => hk.2 (.inr h), fun h => hk.2 (.inl h)⟩
 have hnf : ∀ k, Of k → ¬ (Ob k ∨ w.heap.size ≤ k) := fun k hk h => h.elim (h3 k hk) (fun h => by have := h4.old k hk; omega)
 refine (starts_any n (cpl Ob w) Y ρf sf ρb n0 a.mir ts en sb a.re text f l bf bt bi (fun i W => J i W ∧ w.heap.size ≤ W.heap.size ∧ RdIs W Of a ρf sf) (fun i W => Jx i W ∧ w.heap.size ≤ W.heap.size ∧ RdIs W Of a ρf sf) w (cpl_old _ _) hso hB hFu hi hl a.mir_re hs hsz ?_ ?_ ?_ ⟨h0, Nat.le_refl _, h4⟩).mono ?_
 ·rintro i A B ⟨hj, hsA, hr⟩ hFx
  have hoff := hX A B hsA hFx
  exact ⟨hJ i A B hj (hoff.sub fun k _ hk => hk.elim (fun h => .inl (h2 k h)) .inr), Nat.le_trans hsA hFx.size, hr.off hoff hnf⟩
 ·rintro i A hi1 hi2 hn ⟨hj, hr⟩
  exact ⟨hJs i A hi1 hi2 hn hj, hr⟩
 ·rintro i A hi1 hi2 hfrom ⟨hj, hsA, hr⟩
  obtain ⟨fn, tmps, assign, body, hy, hR⟩ := hY i A hi1 hi2 hfrom hj
  refine ⟨fn, tmps, assign, body, hy, hR.mono ?_⟩
  rintro e B ⟨hoff, hjj⟩
  have hr' := hr.off hoff (fun k hk hy => hYO k hy (h1 k hk))
  exact ⟨hoff, hjj.imp (fun h => ⟨h.1, h.2, Nat.le_trans hsA hoff.size, hr'⟩) (fun h => ⟨h.1, h.2, Nat.le_trans hsA hoff.size, hr'⟩)⟩
 ·rintro e w' ⟨hv, ⟨us, en', hFu'⟩, hend⟩
  have hrd : w.heap.size ≤ w'.heap.size ∧ RdIs w' Of a ρf sf ∧ (J f w' ∨ ∃ i, Jx i w') := by
   rcases hend with ⟨hj, hs, hr⟩ | ⟨i, hj, hs, hr⟩
   ·exact ⟨hs, hr, .inl hj⟩
   ·exact ⟨hs, hr, .inr ⟨i, hj⟩⟩
  obtain ⟨hsz', hr, hend'⟩ := hrd
  refine ⟨hv, ⟨fun k => (O k ∨ w.heap.size ≤ k) ∧ k < w'.heap.size, fun k hk => hk.1, ⟨fun k hk => hk.2, fun hk => hk.1.elim hF.tab (fun h => by have := hF.tab0; omega), Of, grow Ob w w', fun k hk => ⟨.inl (h1 k hk), hr.old k hk⟩, fun k hk => ?_, fun k hk hb => ?_, hr, ?_⟩⟩, hend'⟩
  ·rcases hk with hk | hk
   ·exact ⟨.inl (h2 k hk), Nat.lt_of_lt_of_le (h5.old k hk) hsz'⟩
   ·exact ⟨.inr hk.1, hk.2⟩
  ·rcases hb with hb | hb
   ·exact h3 k hk hb
   ·have := h4.old k hk
    omega
  ·refine ⟨fun k hk => hk.elim (fun h1 => Nat.lt_of_lt_of_le (h5.old k h1) hsz') (fun h => h.2), ⟨fun hk => hk.elim h5.tab.1 (fun h1 => by have := h5.tab.2; omega), Nat.lt_of_lt_of_le h5.tab.2 hsz'⟩, n0, ts ++ us, en', hFu'.wider fun k hk => ?_, hi.append, fun u => (Lang.append hi u).trans (hl u)⟩
   refine .inl ⟨?_, fun h => hk.2 (.inl h)⟩
   rcases Nat.lt_or_ge k w.heap.size with hlt | hge
   ·exact hlt
   ·exact absurd (.inr ⟨hge, hk.1⟩) hk.2
theorem rep_mirrored {w : World} {ns : List (Nd Value)} {a : ARe} (h : Rep (IsCls w) ns a) : Rep (IsCls w) (ns.map swp) a.mir := by
 refine h.mir (fun i x l r e hi => ?_) (fun i nd hk hi => ?_)
 ·rw [List.getElem?_map, hi]; rfl
 ·rw [List.getElem?_map, hi]
  simp [swp, hk]
theorem Lists.base {w : World} {B : Nat} {sv : Value} {ns : List (Nd Value)} (h : Lists w B sv ns) : Lists w 0 sv ns := by
 obtain ⟨⟨h1, h2⟩, h3⟩ := h
 refine ⟨⟨h1, ?_⟩, h3⟩
 rcases h2 with h2 | ⟨g, cap, cur, a1, a2, a3⟩
 ·exact .inl h2
 ·exact .inr ⟨g, cap, cur, a1, Nat.zero_le _, a3⟩
def FinderPost (a : ARe) (w : World) (e : Ending) (w' : World) : Prop :=
 ∃ ρf sf ρb sb, e = .returned (fnv ρf sf ρb sb) ∧ Below w.heap.size w w' ∧ FinderIs w' (fun k => w.heap.size ≤ k ∧ k < w'.heap.size) a ρf sf ρb sb
theorem Full.otherF {w w' : World} {X : Nat → Prop} {ρ : Rd} {n0 : Nat} {root : ARe} {ts : List D} {en : Nat} (h : Full w X ρ n0 root ts en) (hk : ∀ (k : Nat) o, w.heap[k]? = some o → (∀ c fz, o ≠ .cells c 194 fz) → w'.heap[k]? = some o) : Full w' X ρ n0 root ts en := by
 obtain ⟨⟨ns, pls, hD⟩, hs, hK, m, f, ks, hm, h1, h2, h3, h4⟩ := h
 have hc : ∀ (k : Nat) c t fz, t ≠ 194 → w.heap[k]? = some (.cells c t fz) → w'.heap[k]? = some (.cells c t fz) := fun k c t fz ht hh => hk k _ hh (fun c' fz' e => by cases e; exact ht rfl)
 have hmap : ∀ (k : Nat) es clk, w.heap[k]? = some (.map es clk) → w'.heap[k]? = some (.map es clk) := fun k es clk hh => hk k _ hh (fun c' fz' e => by cases e)
 have hst : Stay w w' := fun k c t ht hh => hc k c t _ (by rcases ht with rfl | rfl <;> decide) hh
 obtain ⟨pv, hN, hv⟩ := hD.nums
 refine ⟨⟨ns, pls, hD.shelf.keep hst (fun k o _ ho hty => hk k o ho (fun c fz e => ?_)) (fun _ h => .inl h), ⟨pv, ⟨hc _ _ _ _ (by decide) hN.var, hN.row.keepB fun k hk => ?_, ?_, hN.nodup, hN.small⟩, hv⟩, hc _ _ _ _ (by decide) hD.ev, hD.nX, hD.reps.mono fun d k hh => RepD.world hst hh, hD.met, hD.bits, hD.sz, hD.leaves⟩, ⟨hc _ _ _ _ (by decide) hs.sv, hc _ _ _ _ (by decide) hs.mv, hc _ _ _ _ (by decide) hs.nv, hc _ _ _ _ (by decide) hs.xv, hc _ _ _ _ (by decide) hs.kk, hc _ _ _ _ (by decide) hs.wk, hc _ _ _ _ (by decide) hs.kv, hc _ _ _ _ (by decide) hs.av⟩, hK, m, f, ks, hm.keep ?_, h1, h2, h3, h4⟩
 ·rcases hty _ _ _ e with h | h <;> cases h
 ·obtain ⟨c, hcc⟩ := hN.row.block hk
  rw [hcc]; exact hc _ _ _ _ (by decide) hcc
 ·obtain ⟨m, f, hm, h1, h2⟩ := hN.map
  obtain ⟨es, clk, ho⟩ := hm.obj
  exact ⟨m, f, hm.keep ((hmap _ _ _ ho).trans ho.symm), h1, h2⟩
 ·obtain ⟨es, clk, ho⟩ := hm.obj
  exact (hmap _ _ _ ho).trans ho.symm
theorem box6 {w4 : World} {bz : Nat} {z0 z1 z2 z3 z4 z5 x0 x1 x2 x3 x4 x5 : Value} (h : w4.heap[bz]? = some (.cells #[z0, z1, z2, z3, z4, z5] 194 (0, 0))) :
  ∃ w5, ((((((w4.setCell ⟨bz, 0, none⟩ x0).setCell ⟨bz, 1, none⟩ x1).setCell ⟨bz, 2, none⟩ x2).setCell ⟨bz, 3, none⟩ x3).setCell ⟨bz, 4, none⟩ x4).setCell ⟨bz, 5, none⟩ x5) = w5 ∧ w5.heap[bz]? = some (.cells #[x0, x1, x2, x3, x4, x5] 194 (0, 0)) ∧ (∀ B, B ≤ bz → Below B w4 w5) ∧ w5.heap.size = w4.heap.size ∧
   ∀ {X : Nat → Prop} {ρ : Rd} {n0 : Nat} {root : ARe} {ts : List D} {en : Nat}, Full w4 X ρ n0 root ts en → Full w5 X ρ n0 root ts en := by
 have h1 := heap_setCell_same w4 bz 0 x0 h
 have h2 := heap_setCell_same _ bz 1 x1 h1
 have h3 := heap_setCell_same _ bz 2 x2 h2
 have h4 := heap_setCell_same _ bz 3 x3 h3
 have h5 := heap_setCell_same _ bz 4 x4 h4
 have h6 := heap_setCell_same _ bz 5 x5 h5
 refine ⟨_, rfl, by simpa using h6, fun B hB => ((((((Below.refl _ _).setCell hB _).setCell hB _).setCell hB _).setCell hB _).setCell hB _).setCell hB _, by simp [World.setCell], fun hF => hF.otherF (fun j o ho hne => ?_)⟩
 have hj : j ≠ bz := by
  rintro rfl
  rw [h] at ho
  cases ho
  exact hne _ _ rfl
 rw [Below.heap_setCell _ _ _ _ (by exact hj), Below.heap_setCell _ _ _ _ (by exact hj), Below.heap_setCell _ _ _ _ (by exact hj), Below.heap_setCell _ _ _ _ (by exact hj), Below.heap_setCell _ _ _ _ (by exact hj), Below.heap_setCell _ _ _ _ (by exact hj)]
 exact ho
theorem finder_end {w W w1 w3 w4 w5 : World} {a : ARe} {nf nb sf sb : Nat} {ρf ρb : Rd} {tf tb : List D} {ef eb : Nat} (h0 : 1 < w.heap.size) (hbW : Below w.heap.size w W) (hb1 : Below W.heap.size W w1) (hf : Full w1 (old W.heap.size) ρf nf a tf ef) (hfi : Inr tf sf) (hfl : ∀ u, Lang tf sf u ↔ Mt a.re u)
  (hb3 : Below w1.heap.size w1 w3) (hb4 : Below w3.heap.size w3 w4) (hB : Full w4 (old w3.heap.size) ρb nb a.mir tb eb) (hbi : Inr tb sb) (hbl : ∀ u, Lang tb sb u ↔ Mt a.mir.re u) (hb5 : Below w.heap.size w4 w5) (hs5 : w5.heap.size = w4.heap.size)
  (h5 : ∀ {X : Nat → Prop} {ρ : Rd} {n0 : Nat} {root : ARe} {ts : List D} {en : Nat}, Full w4 X ρ n0 root ts en → Full w5 X ρ n0 root ts en) : FinderPost a w (.returned (fnv ρf sf ρb sb)) w5 := by
 have s0 := hbW.size
 have s1 := hb1.size
 have s3 := hb3.size
 have s4 := hb4.size
 have b14 := hb3.trans (hb4.mono s3)
 have bw4 : Below w.heap.size w w4 := hbW.trans ((hb1.trans (b14.mono s1)).mono s0)
 refine ⟨ρf, sf, ρb, sb, rfl, bw4.trans hb5, fun k hk => hk.2, fun hk => by have := hk.1; omega, fun k => W.heap.size ≤ k ∧ k < w1.heap.size, fun k => w3.heap.size ≤ k ∧ k < w4.heap.size, fun k hk => ⟨by omega, by omega⟩, fun k hk => ⟨by omega, by omega⟩, fun k hk hb => by omega, ⟨fun k hk => by omega, ⟨fun hk => by omega, by omega⟩, nf, tf, ef, h5 (Full.below (hf.wider fun k hk => ?_) b14), hfi, hfl⟩, ⟨fun k hk => by omega, ⟨fun hk => by omega, by omega⟩, nb, tb, eb, h5 (hB.wider fun k hk => ?_), hbi, hbl⟩⟩
 ·rcases Nat.lt_or_ge k w1.heap.size with h | h
  ·exact .inl (show k < W.heap.size from Nat.lt_of_not_le fun hge => hk.2 ⟨hge, h⟩)
  ·exact .inr h
 ·rcases Nat.lt_or_ge k w4.heap.size with h | h
  ·exact .inl (show k < w3.heap.size from Nat.lt_of_not_le fun hge => hk.2 ⟨hge, h⟩)
  ·exact .inr h
set_option maxRecDepth 20000 in
set_option maxHeartbeats 2000000 in
theorem finder_any (sv : Value) (ns : List (Nd Value)) (a : ARe) (w : World) (hw : 1 < w.heap.size) (hL : Lists w 0 sv ns) (hr : Rep (IsCls w) ns a) (he : Rep (IsCls w) ns .eps) (h0 : 0 < ns.length) (hn : ns.length ≤ 200) (hz : a.sz ≤ 200) (hl : a.leaves ≤ 60) (k : Nat) (hk : k = a.ix) :
  Calls Tryz.prog 101 #[.agg #[sv, .int .i64 k]] w (FinderPost a w) := by
 obtain ⟨g, cap, rfl⟩ := own_form hL.1 h0
 have hlen : (ns.map swp).length = ns.length := by simp
 obtain ⟨W, hW⟩ : ∃ W, (w.alloc (.cells #[.slice (some ⟨g, 0, none⟩) ns.length cap, .int .i64 k] 184)).alloc (.cells #[.int .u64 0, .nilFunc, .nilFunc, .int .u64 0, .nilFunc, .nilFunc] 194) = W := ⟨_, rfl⟩
 have hbW : Below w.heap.size w W := by rw [← hW]; exact ((Below.refl _ _).alloc (Nat.le_refl _) _).alloc (by simp) _
 have hq0 : W.heap[w.heap.size]? = some (.cells #[.slice (some ⟨g, 0, none⟩) ns.length cap, .int .i64 k] 184 (0, 0)) := by rw [← hW]; exact heap_alloc_old (heap_alloc_last _ _)
 have hq1 : W.heap[w.heap.size + 1]? = some (.cells #[.int .u64 0, .nilFunc, .nilFunc, .int .u64 0, .nilFunc, .nilFunc] 194 (0, 0)) := by
  have h1 := heap_alloc_last (w.alloc (.cells #[.slice (some ⟨g, 0, none⟩) ns.length cap, .int .i64 k] 184)) (.cells #[.int .u64 0, .nilFunc, .nilFunc, .int .u64 0, .nilFunc, .nilFunc] 194)
  rw [hW, show (w.alloc (.cells #[.slice (some ⟨g, 0, none⟩) ns.length cap, .int .i64 k] 184)).heap.size = w.heap.size + 1 by simp] at h1
  exact h1
 have hLW : ∀ W', Below W.heap.size W W' → Lists W' 0 (.slice (some ⟨g, 0, none⟩) ns.length cap) ns := fun W' hb => hL.keep fun j hj => ((hbW.trans (hb.mono hbW.size)).block j (lt_of_get (hL.block hj).2.choose_spec))
 have hst : ∀ W', Below W.heap.size W W' → Stay w W' := fun W' hb => Stay.of_below (hbW.trans (hb.mono hbW.size))
 have HN1 := hide (newReader_any (.slice (some ⟨g, 0, none⟩) ns.length cap) ns a W.drew (hLW _ (Below.refl _ _).drew) (hr.world (hst _ (Below.refl _ _).drew)) (he.world (hst _ (Below.refl _ _).drew)) h0 hn hz hl k hk)
 have HMR := hide (fun (W' : World) (hb : Below W.heap.size W W') => mirrored_any (.slice (some ⟨g, 0, none⟩) ns.length cap) ns W' (hLW W' hb) h0 hn)
 have HN2 := hide (fun (W' : World) (hb : Below W.heap.size W W') (g3 cap3 : Nat) (hL3 : Lists W' 0 (.slice (some ⟨g3, 0, none⟩) ns.length cap3) (ns.map swp)) => newReader_any (.slice (some ⟨g3, 0, none⟩) ns.length cap3) (ns.map swp) a.mir W' hL3 (rep_mirrored (hr.world (hst W' hb))) (rep_mirrored (he.world (hst W' hb))) (by simpa using h0) (by simpa using hn) (by rw [ARe.mir_sz]; exact hz) (by rw [ARe.mir_leaves]; exact hl) k (by rw [ARe.mir_ix]; exact hk))
 obtain ⟨q, hq⟩ : ∃ q, q = w.heap.size := ⟨_, rfl⟩
 have HQ := hide hq
 have HKP := hide (fun (W' : World) (hb : Below W.heap.size W W') => show (W'.cell? ⟨q, 0, none⟩ = some (.slice (some ⟨g, 0, none⟩) ns.length cap) ∧ W'.cell? ⟨q, 1, none⟩ = some (.int .i64 k)) ∧ (W'.cell? ⟨q + 1, 0, none⟩ = some (.int .u64 0) ∧ W'.frozen? ⟨q + 1, 0, none⟩ = false ∧ W'.cell? ⟨q + 1, 1, none⟩ = some (.nilFunc) ∧ W'.frozen? ⟨q + 1, 1, none⟩ = false ∧ W'.cell? ⟨q + 1, 2, none⟩ = some (.nilFunc) ∧ W'.frozen? ⟨q + 1, 2, none⟩ = false ∧ W'.cell? ⟨q + 1, 3, none⟩ = some (.int .u64 0) ∧ W'.frozen? ⟨q + 1, 3, none⟩ = false ∧ W'.cell? ⟨q + 1, 4, none⟩ = some (.nilFunc) ∧ W'.frozen? ⟨q + 1, 4, none⟩ = false ∧ W'.cell? ⟨q + 1, 5, none⟩ = some (.nilFunc) ∧ W'.frozen? ⟨q + 1, 5, none⟩ = false) ∧ W'.heap[q + 1]? = some (.cells #[.int .u64 0, .nilFunc, .nilFunc, .int .u64 0, .nilFunc, .nilFunc] 194 (0, 0)) from by
  have h1 := (hb.block _ (lt_of_get hq0)).trans hq0
  have h2 := (hb.block _ (lt_of_get hq1)).trans hq1
  rw [hq]
  exact ⟨by simp [World.cell?, h1], by simp [World.cell?, World.frozen?, h2], h2⟩)
 have HBW := hide hbW
 clear hbW hq0 hq1 hLW hst hL hr he hk
 go_enter Tryz.func101, Tryz.ntmps101
 go_wp2_with fail
 rw [← hq]
 clear hW hq
 have hS0 := (HKP.out W.drew (Below.refl _ _).drew).1
 go_region_held3 (fun w' => w'.cell? ⟨q, 0, none⟩ = some (.slice (some ⟨g, 0, none⟩) ns.length cap) ∧ w'.cell? ⟨q, 1, none⟩ = some (.int .i64 k))
  (first
   | with_reducible exact hS3
   | with_reducible exact hS2
   | with_reducible exact hS1
   | with_reducible exact hS0
   | go_keep)
  (first
   | (go_at_call 140; refine HN1.out.mono ?_; clear HN1; rintro e1 w1 ⟨ρf, sf, tf, ef, rfl, hB1', hF1, hI1, hl1⟩; have hB1 : Below W.heap.size W w1 := ⟨hB1'.os, hB1'.tape, hB1'.output, hB1'.size, hB1'.block⟩; clear hB1'; have hS1 := (HKP.out w1 hB1).1; have HB1 := hide hB1; have HF1 := hide hF1; have HI1 := hide hI1; have Hl1 := hide hl1; clear hB1 hF1 hI1 hl1)
   | (go_at_call 141; refine (HMR.out w1 HB1.out).mono ?_; clear HMR; rintro e3 w3 ⟨sv3, rfl, hB3, hL3⟩; obtain ⟨g3, cap3, rfl⟩ := own_form hL3.1 (by simpa using h0); rw [hlen]; rw [hlen] at hL3; have hS2 := (HKP.out w3 (HB1.out.trans (hB3.mono HB1.out.size))).1; have HB3 := hide hB3; have HL3 := hide hL3.base; clear hB3 hL3)
   | (go_at_call 140; refine (HN2.out w3 (HB1.out.trans (HB3.out.mono HB1.out.size)) g3 cap3 HL3.out).mono ?_; clear HN2; rintro e4 w4 ⟨ρb, sb, tb, eb, rfl, hB4, hF4, hI4, hl4⟩; have hX3 := HKP.out w4 (HB1.out.trans ((HB3.out.trans (hB4.mono HB3.out.size)).mono HB1.out.size)); have hS3 := hX3.1; obtain ⟨z0, y0, z1, y1, z2, y2, z3, y3, z4, y4, z5, y5⟩ := hX3.2.1; have HX3 := hide hX3.2.2; clear hX3; have HB4 := hide hB4; have HF4 := hide hF4; have HI4 := hide hI4; have Hl4 := hide hl4; clear hB4 hF4 hI4 hl4; unfold rdv))
 all_goals
  obtain ⟨w5, hw5, hb5, hB5, hs5, hF5⟩ := box6 (x0 := .int .u64 sf) (x1 := .func (.func 179) #[] #[.pointer (some ⟨ρf.av, 0, none⟩)]) (x2 := .func (.func 181) #[] #[.pointer (some ⟨ρf.ev, 0, none⟩)]) (x3 := .int .u64 sb) (x4 := .func (.func 179) #[] #[.pointer (some ⟨ρb.av, 0, none⟩)]) (x5 := .func (.func 181) #[] #[.pointer (some ⟨ρb.ev, 0, none⟩)]) HX3.out
  rw [hw5]
  have v0 : w5.cell? ⟨q + 1, 0, none⟩ = some (.int .u64 sf) := by simp [World.cell?, hb5]
  have v1 : w5.cell? ⟨q + 1, 1, none⟩ = some (.func (.func 179) #[] #[.pointer (some ⟨ρf.av, 0, none⟩)]) := by simp [World.cell?, hb5]
  have v2 : w5.cell? ⟨q + 1, 2, none⟩ = some (.func (.func 181) #[] #[.pointer (some ⟨ρf.ev, 0, none⟩)]) := by simp [World.cell?, hb5]
  have v3 : w5.cell? ⟨q + 1, 3, none⟩ = some (.int .u64 sb) := by simp [World.cell?, hb5]
  have v4 : w5.cell? ⟨q + 1, 4, none⟩ = some (.func (.func 179) #[] #[.pointer (some ⟨ρb.av, 0, none⟩)]) := by simp [World.cell?, hb5]
  have v5 : w5.cell? ⟨q + 1, 5, none⟩ = some (.func (.func 181) #[] #[.pointer (some ⟨ρb.ev, 0, none⟩)]) := by simp [World.cell?, hb5]
  have HEND := hide (finder_end hw HBW.out HB1.out HF1.out HI1.out Hl1.out HB3.out HB4.out HF4.out HI4.out Hl4.out (hB5 _ (by rw [← HQ.out]; omega)) hs5 hF5)
  clear hw5 hb5 hB5 hs5 hF5 z0 y0 z1 y1 z2 y2 z3 y3 z4 y4 z5 y5 hS0 hS1 hS2 hS3
  go_wp2_with fail
  exact bodyPost_ret (v := .agg #[.int .u64 sf, .func (.func 179) #[] #[.pointer (some ⟨ρf.av, 0, none⟩)], .func (.func 181) #[] #[.pointer (some ⟨ρf.ev, 0, none⟩)], .int .u64 sb, .func (.func 179) #[] #[.pointer (some ⟨ρb.av, 0, none⟩)], .func (.func 181) #[] #[.pointer (some ⟨ρb.ev, 0, none⟩)]]) (by simp [results, Tryz.results101, go_sem, *]) rfl HEND.out
structure GR where
 k : Nat
 op : Nat
 co : ByteArray
 a : ARe
structure GS where
 nm : ByteArray
 rs : List GR
structure RuleAt (w : World) (g o : Nat) (r : GR) (lg ln cp : Nat) : Prop where
 c0 : w.cell? ⟨g, o, none⟩ = some (.int .i64 r.k)
 c1 : w.cell? ⟨g, o + 1, none⟩ = some (.int .i64 r.op)
 c2 : w.cell? ⟨g, o + 2, none⟩ = some (.string r.co)
 c3 : w.cell? ⟨g, o + 3, none⟩ = some (.slice (some ⟨lg, 0, none⟩) ln cp)
 c4 : w.cell? ⟨g, o + 4, none⟩ = some (.int .i64 r.a.ix)
 pat : ∃ ns, ns.length = ln ∧ Lists w 0 (.slice (some ⟨lg, 0, none⟩) ln cp) ns ∧ Rep (IsCls w) ns r.a ∧ Rep (IsCls w) ns .eps ∧ 0 < ns.length ∧ ns.length ≤ 200 ∧ r.a.sz ≤ 200 ∧ r.a.leaves ≤ 60 ∧ r.a.re.nullable = false
def RulesAt (w : World) (v : Value) (rs : List GR) : Prop :=
 ∃ ao cp, v = .slice ao rs.length cp ∧ ∀ (j : Nat) r, rs[j]? = some r → ∃ rg lg ln lc, ao = some ⟨rg, 0, none⟩ ∧ RuleAt w rg (j * 5) r lg ln lc
structure GramIs (w : World) (g n cap : Nat) (G : List GS) : Prop where
 len : n = G.length
 few : n ≤ 12
 at_ : ∀ (i : Nat) s, G[i]? = some s → w.cell? ⟨g, i * 2, none⟩ = some (.string s.nm) ∧ s.rs.length ≤ 40 ∧ ∃ v, w.cell? ⟨g, i * 2 + 1, none⟩ = some v ∧ RulesAt w v s.rs
theorem cell_lt {w : World} {p : Addr} {v : Value} (h : w.cell? p = some v) : p.block < w.heap.size := by
 unfold World.cell? at h
 cases ho : w.heap[p.block]? with
 | none => simp [ho] at h
 | some o => exact lt_of_get ho
theorem cell_below {w w' : World} {p : Addr} {v : Value} (h : w.cell? p = some v) (hb : Below w.heap.size w w') : w'.cell? p = some v := by
 refine (World.cell?_of_block (hb.block p.block ?_)).trans h
 unfold World.cell? at h
 cases ho : w.heap[p.block]? with
 | none => simp [ho] at h
 | some o => exact lt_of_get ho
theorem RuleAt.below {w w' : World} {g o : Nat} {r : GR} {lg ln cp : Nat} (h : RuleAt w g o r lg ln cp) (hb : Below w.heap.size w w') : RuleAt w' g o r lg ln cp := by
 obtain ⟨ns, h1, h2, h3, h4, h5⟩ := h.pat
 exact ⟨cell_below h.c0 hb, cell_below h.c1 hb, cell_below h.c2 hb, cell_below h.c3 hb, cell_below h.c4 hb, ns, h1, h2.keep fun j hj => hb.block j (lt_of_get (h2.block hj).2.choose_spec), h3.world (Stay.of_below hb), h4.world (Stay.of_below hb), h5⟩
theorem RulesAt.below {w w' : World} {v : Value} {rs : List GR} (h : RulesAt w v rs) (hb : Below w.heap.size w w') : RulesAt w' v rs := by
 obtain ⟨ao, cp, h1, h2⟩ := h
 exact ⟨ao, cp, h1, fun j r hr => let ⟨rg, lg, ln, lc, h0, h⟩ := h2 j r hr; ⟨rg, lg, ln, lc, h0, h.below hb⟩⟩
theorem GramIs.below {w w' : World} {g n cap : Nat} {G : List GS} (h : GramIs w g n cap G) (hb : Below w.heap.size w w') : GramIs w' g n cap G :=
 ⟨h.len, h.few, fun i s hs => let ⟨h1, h2, v, h3, h4⟩ := h.at_ i s hs; ⟨cell_below h1 hb, h2, v, cell_below h3 hb, h4.below hb⟩⟩
theorem box5 {w4 : World} {bz : Nat} {t : TypeId} {z0 z1 z2 z3 z4 x0 x1 x2 x3 x4 : Value} (h : w4.heap[bz]? = some (.cells #[z0, z1, z2, z3, z4] t (0, 0))) :
  ∃ w5, (((((w4.setCell ⟨bz, 0, none⟩ x0).setCell ⟨bz, 1, none⟩ x1).setCell ⟨bz, 2, none⟩ x2).setCell ⟨bz, 3, none⟩ x3).setCell ⟨bz, 4, none⟩ x4) = w5 ∧ w5.heap[bz]? = some (.cells #[x0, x1, x2, x3, x4] t (0, 0)) ∧ (∀ B, B ≤ bz → Below B w4 w5) ∧ w5.heap.size = w4.heap.size ∧ ∀ k, k ≠ bz → w5.heap[k]? = w4.heap[k]? := by
 have h1 := heap_setCell_same w4 bz 0 x0 h
 have h2 := heap_setCell_same _ bz 1 x1 h1
 have h3 := heap_setCell_same _ bz 2 x2 h2
 have h4 := heap_setCell_same _ bz 3 x3 h3
 have h5 := heap_setCell_same _ bz 4 x4 h4
 refine ⟨_, rfl, by simpa using h5, fun B hB => (((((Below.refl _ _).setCell hB _).setCell hB _).setCell hB _).setCell hB _).setCell hB _, by simp [World.setCell], fun k hk => ?_⟩
 rw [Below.heap_setCell _ _ _ _ (by exact hk), Below.heap_setCell _ _ _ _ (by exact hk), Below.heap_setCell _ _ _ _ (by exact hk), Below.heap_setCell _ _ _ _ (by exact hk), Below.heap_setCell _ _ _ _ (by exact hk)]
def spv (from_ to : Nat) (nm : ByteArray) (depth : Nat) (co : ByteArray) : Value := .agg #[.int .i64 from_, .int .i64 to, .string nm, .int .i64 depth, .string co]
set_option maxRecDepth 20000 in
set_option maxHeartbeats 2000000 in
theorem span_any (g n cap : Nat) (G : List GS) (fv : Value) (hfv : ∃ f c, fv = .func (.func f) #[] c) (from_ to : Nat) (st : List Nat) (top : Nat) (s : GS) (co : ByteArray) (w : World) (hG : GramIs w g n cap G) (h8 : st.length ≤ 8) (ht : st[st.length - 1]? = some top) (hs : G[top]? = some s) :
  Calls Tryz.prog 128 #[.agg #[.slice (some ⟨g, 0, none⟩) n cap, fv], .int .i64 from_, .int .i64 to, stv st, .string co] w fun e w' => e = .returned (spv from_ to s.nm st.length co) ∧ Below w.heap.size w w' := by
 obtain ⟨f, c, rfl⟩ := hfv
 have hlt : top < n := by rw [hG.len]; exact get_lt hs
 have cn := (hG.at_ top s hs).1
 have c8 := stCells_depth h8
 obtain ⟨a0, a1, a2, a3, a4, a5, a6, a7, a8, hy⟩ := nine h8
 have h88 : (a8 : Int) = st.length := by rw [hy] at c8; simp at c8; omega
 have HU := hide (fun W => uppermost_any st top h8 ht W)
 unfold stv at HU ⊢
 rw [hy] at HU ⊢
 obtain ⟨q, hq⟩ : ∃ q, q = w.heap.size := ⟨_, rfl⟩
 obtain ⟨W, hW⟩ : ∃ W, ((w.alloc (.cells #[.slice (some ⟨g, 0, none⟩) n cap, .func (.func f) #[] c] 171)).alloc (.cells #[.int .i64 a0, .int .i64 a1, .int .i64 a2, .int .i64 a3, .int .i64 a4, .int .i64 a5, .int .i64 a6, .int .i64 a7, .int .i64 a8] 138)).alloc (.cells #[.int .i64 0, .int .i64 0, .string ⟨#[]⟩, .int .i64 0, .string ⟨#[]⟩] 70) = W := ⟨_, rfl⟩
 have hbW : Below w.heap.size w W := by rw [← hW]; exact below3 _ _ _ _
 have HW := hide (show W.heap[q]? = some (.cells #[.slice (some ⟨g, 0, none⟩) n cap, .func (.func f) #[] c] 171 (0, 0)) ∧ W.heap[q + 1]? = some (.cells #[.int .i64 a0, .int .i64 a1, .int .i64 a2, .int .i64 a3, .int .i64 a4, .int .i64 a5, .int .i64 a6, .int .i64 a7, .int .i64 a8] 138 (0, 0)) ∧ W.heap[q + 1 + 1]? = some (.cells #[.int .i64 0, .int .i64 0, .string ⟨#[]⟩, .int .i64 0, .string ⟨#[]⟩] 70 (0, 0)) from by
  rw [← hW, hq]
  have h1 := heap_alloc_last w (.cells #[.slice (some ⟨g, 0, none⟩) n cap, .func (.func f) #[] c] 171)
  have h2 := heap_alloc_last (w.alloc (.cells #[.slice (some ⟨g, 0, none⟩) n cap, .func (.func f) #[] c] 171)) (.cells #[.int .i64 a0, .int .i64 a1, .int .i64 a2, .int .i64 a3, .int .i64 a4, .int .i64 a5, .int .i64 a6, .int .i64 a7, .int .i64 a8] 138)
  have h3 := heap_alloc_last ((w.alloc (.cells #[.slice (some ⟨g, 0, none⟩) n cap, .func (.func f) #[] c] 171)).alloc (.cells #[.int .i64 a0, .int .i64 a1, .int .i64 a2, .int .i64 a3, .int .i64 a4, .int .i64 a5, .int .i64 a6, .int .i64 a7, .int .i64 a8] 138)) (.cells #[.int .i64 0, .int .i64 0, .string ⟨#[]⟩, .int .i64 0, .string ⟨#[]⟩] 70)
  simp only [World.size_alloc] at h2 h3
  exact ⟨heap_alloc_old (heap_alloc_old h1), heap_alloc_old h2, h3⟩)
 have HKP := hide (fun (W' : World) (hb : Below W.heap.size W W') => show (W'.cell? ⟨q, 0, none⟩ = some (.slice (some ⟨g, 0, none⟩) n cap) ∧ W'.cell? ⟨q + 1, 0, none⟩ = some (.int .i64 a0) ∧ W'.cell? ⟨q + 1, 1, none⟩ = some (.int .i64 a1) ∧ W'.cell? ⟨q + 1, 2, none⟩ = some (.int .i64 a2) ∧ W'.cell? ⟨q + 1, 3, none⟩ = some (.int .i64 a3) ∧ W'.cell? ⟨q + 1, 4, none⟩ = some (.int .i64 a4) ∧ W'.cell? ⟨q + 1, 5, none⟩ = some (.int .i64 a5) ∧ W'.cell? ⟨q + 1, 6, none⟩ = some (.int .i64 a6) ∧ W'.cell? ⟨q + 1, 7, none⟩ = some (.int .i64 a7) ∧ W'.cell? ⟨q + 1, 8, none⟩ = some (.int .i64 a8) ∧ W'.cell? ⟨g, top * 2, none⟩ = some (.string s.nm)) ∧ (W'.cell? ⟨q + 1 + 1, 0, none⟩ = some (.int .i64 0) ∧ W'.frozen? ⟨q + 1 + 1, 0, none⟩ = false ∧ W'.cell? ⟨q + 1 + 1, 1, none⟩ = some (.int .i64 0) ∧ W'.frozen? ⟨q + 1 + 1, 1, none⟩ = false ∧ W'.cell? ⟨q + 1 + 1, 2, none⟩ = some (.string ⟨#[]⟩) ∧ W'.frozen? ⟨q + 1 + 1, 2, none⟩ = false ∧ W'.cell? ⟨q + 1 + 1, 3, none⟩ = some (.int .i64 0) ∧ W'.frozen? ⟨q + 1 + 1, 3, none⟩ = false ∧ W'.cell? ⟨q + 1 + 1, 4, none⟩ = some (.string ⟨#[]⟩) ∧ W'.frozen? ⟨q + 1 + 1, 4, none⟩ = false) from by
  obtain ⟨h1, h2, h3⟩ := HW.out
  have k1 := (hb.block _ (lt_of_get h1)).trans h1
  have k2 := (hb.block _ (lt_of_get h2)).trans h2
  have k3 := (hb.block _ (lt_of_get h3)).trans h3
  exact ⟨⟨by simp [World.cell?, k1], by simp [World.cell?, k2], by simp [World.cell?, k2], by simp [World.cell?, k2], by simp [World.cell?, k2], by simp [World.cell?, k2], by simp [World.cell?, k2], by simp [World.cell?, k2], by simp [World.cell?, k2], by simp [World.cell?, k2], cell_below cn (hbW.trans (hb.mono hbW.size))⟩, by simp [World.cell?, World.frozen?, k3]⟩)
 have hgq : g ≠ q + 1 + 1 := by
  have h : g < w.heap.size := cell_lt cn
  omega
 have hgq' : q + 1 + 1 ≠ g := hgq.symm
 have hqn : (q = q + 1 + 1) = False := eq_false (by omega)
 have hqn' : (q + 1 + 1 = q) = False := eq_false (by omega)
 have HBW := hide hbW
 have HEND := hide (show ∀ W', Below w.heap.size w W' → (Ending.returned (.agg #[.int .i64 from_, .int .i64 to, .string s.nm, .int .i64 a8, .string co]) = .returned (spv from_ to s.nm st.length co) ∧ Below w.heap.size w W') from fun W' hb => ⟨by rw [h88]; rfl, hb⟩)
 clear hG cn c8 hbW hy h88 ht hs
 go_enter Tryz.func128, Tryz.ntmps128
 go_wp2_with fail
 rw [← hq]
 clear hW
 have HQ := hide hq
 clear hq
 have hS0 := (HKP.out W.drew (Below.refl _ _).drew).1
 go_region_held3 (fun w' => w'.cell? ⟨q, 0, none⟩ = some (.slice (some ⟨g, 0, none⟩) n cap) ∧ w'.cell? ⟨q + 1, 0, none⟩ = some (.int .i64 a0) ∧ w'.cell? ⟨q + 1, 1, none⟩ = some (.int .i64 a1) ∧ w'.cell? ⟨q + 1, 2, none⟩ = some (.int .i64 a2) ∧ w'.cell? ⟨q + 1, 3, none⟩ = some (.int .i64 a3) ∧ w'.cell? ⟨q + 1, 4, none⟩ = some (.int .i64 a4) ∧ w'.cell? ⟨q + 1, 5, none⟩ = some (.int .i64 a5) ∧ w'.cell? ⟨q + 1, 6, none⟩ = some (.int .i64 a6) ∧ w'.cell? ⟨q + 1, 7, none⟩ = some (.int .i64 a7) ∧ w'.cell? ⟨q + 1, 8, none⟩ = some (.int .i64 a8) ∧ w'.cell? ⟨g, top * 2, none⟩ = some (.string s.nm))
  (first
   | with_reducible exact hS3
   | with_reducible exact hS0
   | go_keep)
  (first
   | (go_at_call 126; refine (HU.out W.drew).mono ?_; clear HU; rintro e4 w4 ⟨rfl, hb4⟩; have hB4 : Below W.heap.size W w4 := ⟨hb4.os, hb4.tape, hb4.output, hb4.size, hb4.block⟩; clear hb4; obtain ⟨hS3, z0, y0, z1, y1, z2, y2, z3, y3, z4, y4⟩ := HKP.out w4 hB4; have HB4 := hide hB4; clear hB4))
 all_goals
  obtain ⟨w5, hw5, hb5, hB5, hs5, -⟩ := box5 (x0 := .int .i64 from_) (x1 := .int .i64 to) (x2 := .string s.nm) (x3 := .int .i64 a8) (x4 := .string co) ((HB4.out.block _ (lt_of_get HW.out.2.2)).trans HW.out.2.2)
  rw [hw5]
  have v0 : w5.cell? ⟨q + 1 + 1, 0, none⟩ = some (.int .i64 from_) := by simp [World.cell?, hb5]
  have v1 : w5.cell? ⟨q + 1 + 1, 1, none⟩ = some (.int .i64 to) := by simp [World.cell?, hb5]
  have v2 : w5.cell? ⟨q + 1 + 1, 2, none⟩ = some (.string s.nm) := by simp [World.cell?, hb5]
  have v3 : w5.cell? ⟨q + 1 + 1, 3, none⟩ = some (.int .i64 a8) := by simp [World.cell?, hb5]
  have v4 : w5.cell? ⟨q + 1 + 1, 4, none⟩ = some (.string co) := by simp [World.cell?, hb5]
  have HE := hide (HEND.out w5 ((HBW.out.trans (HB4.out.mono HBW.out.size)).trans (hB5 _ (by rw [← HQ.out]; omega))))
  clear hw5 hb5 hB5 hs5 z0 y0 z1 y1 z2 y2 z3 y3 z4 y4 hS0 hS3
  go_wp2_with fail
  exact bodyPost_ret (v := .agg #[.int .i64 from_, .int .i64 to, .string s.nm, .int .i64 a8, .string co]) (by simp [results, Tryz.results128, go_sem, *]) rfl HE.out
end Go.Proofs.YtgncgdkpkkdaeaaGreatDoor
