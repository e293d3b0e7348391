/- leastStart. -/
import Derived.Test.YtjjeomcojobjhaaDoorR14
namespace Go.Proofs.YtjjeomcojobjhaaDoor
open Go.RowKit Tint Go.Maps

theorem from_lang {ts : List D} {root : ARe} {r : Re} {T : List UInt8} {L i : Nat} (hr : root.re = r.rev) (hl : ∀ u, Lang ts L u ↔ ∃ j, i ≤ j ∧ j ≤ T.length ∧ Mt root.re ((seg T i j).reverse ++ u)) : Lang ts L [] ↔ From r T i := by
  rw [hl]
  unfold From
  simp only [List.append_nil, hr, mt_rev, List.reverse_reverse]

/-- What is known once place i was looked at. -/
def Seen (r : Re) (T : List UInt8) (i p : Nat) (o : Bool) : Prop := (o = true → i ≤ p ∧ p ≤ T.length ∧ From r T p ∧ ∀ j, i ≤ j → j < p → ¬ From r T j) ∧ (o = false → p = 0 ∧ ∀ j, i ≤ j → ¬ From r T j)

theorem seen_now {r : Re} {T : List UInt8} {i p : Nat} {o : Bool} (hi : i ≤ T.length) (h1 : o = true → i < p ∧ p ≤ T.length ∧ From r T p ∧ ∀ j, i < j → j < p → ¬ From r T j) (h2 : o = false → p = 0 ∧ ∀ j, i < j → ¬ From r T j) : (From r T i → Seen r T i i true) ∧ (¬ From r T i → Seen r T i p o) := by
  refine ⟨fun h => ⟨fun _ => ⟨Nat.le_refl _, hi, h, fun j _ _ => by omega⟩, fun h => by cases h⟩, fun h => ⟨fun ho => ?_, fun ho => ?_⟩⟩
  · obtain ⟨a1, a2, a3, a4⟩ := h1 ho
    refine ⟨by omega, a2, a3, fun j h3 h4 => ?_⟩
    rcases Nat.lt_or_ge i j with h5 | h5
    · exact a4 j h5 h4
    · have : j = i := by omega
      subst this; exact h
  · obtain ⟨a1, a2⟩ := h2 ho
    refine ⟨a1, fun j h3 => ?_⟩
    rcases Nat.lt_or_ge i j with h5 | h5
    · exact a2 j h5
    · have : j = i := by omega
      subst this; exact h

theorem least_step {X : Nat → Prop} {ρ : Rd} {n0 : Nat} {root : ARe} {ts us us' : List D} {r : Re} {T : List UInt8} {f k p st L R i en' : Nat} {o : Bool} {b : UInt8} {w wr w3 : World} (hk : f + (k + 1) = i + 1) (hi : i + 1 ≤ T.length) (hF : Fx X w wr) (hl : ∀ u, Lang (ts ++ us) L u ↔ ∃ j, i + 1 ≤ j ∧ j ≤ T.length ∧ Mt root.re ((seg T (i + 1) j).reverse ++ u))
    (hs : Seen r T (i + 1) p o) (hb : T[i]? = some b) (hst : Inr ts st) (hsl : ∀ u, Lang ts st u ↔ Mt root.re u) (hF3 : Fx X wr w3) (hFu : Full w3 X ρ n0 root (ts ++ us ++ us') en') (hR : Inr (ts ++ us ++ us') R) (hRl : ∀ u, Lang (ts ++ us ++ us') R u ↔ Lang (ts ++ us) L (b :: u)) :
    LeastLoop X ρ n0 root ts r T f w k (.int .i64 p) (.bool o) (.int .u64 ((R ||| st : Nat) : Int)) (.int .i64 i) w3 := by
  rw [List.append_assoc] at hFu hR hRl
  have e1 : ∀ j, i + 1 ≤ j → ∀ u, (seg T i j).reverse ++ u = (seg T (i + 1) j).reverse ++ b :: u := fun j hj u => by
    rw [seg_append T (Nat.le_succ i) hj, seg_one T hb]; simp
  refine ⟨p, R ||| st, i, o, us ++ us', en', rfl, rfl, rfl, rfl, by omega, by omega, hF.trans hF3, hFu, hR.or hst.append, fun u => ?_, fun ho => ?_, fun ho => ?_⟩
  · rw [Lang.or, hRl, hl, Lang.append hst, hsl]
    constructor
    · rintro (⟨j, h1, h2, h3⟩ | h)
      · exact ⟨j, by omega, h2, by rw [e1 j h1]; exact h3⟩
      · exact ⟨i, Nat.le_refl _, by omega, by rw [seg_self]; simpa using h⟩
    · rintro ⟨j, h1, h2, h3⟩
      rcases Nat.lt_or_ge i j with h | h
      · exact .inl ⟨j, h, h2, by rw [← e1 j h]; exact h3⟩
      · have : j = i := by omega
        subst this
        rw [seg_self] at h3
        exact .inr (by simpa using h3)
  · obtain ⟨a1, a2, a3, a4⟩ := hs.1 ho
    exact ⟨by omega, a2, a3, fun j h3 h4 => a4 j (by omega) h4⟩
  · obtain ⟨a1, a2⟩ := hs.2 ho
    exact ⟨a1, fun j h3 => a2 j (by omega)⟩

theorem least_end {X : Nat → Prop} {ρ : Rd} {n0 : Nat} {root : ARe} {ts us : List D} {r : Re} {T : List UInt8} {f p en' : Nat} {o : Bool} {w w0 wr : World} (hX : Old X w) (hb : Below w.heap.size w w0) (hF : Fx X w0 wr) (hFu : Full wr X ρ n0 root (ts ++ us) en') (hs : Seen r T f p o) : LeastPost X ρ n0 root ts r T f w (.returned (.tuple #[.int .i64 p, .bool o])) wr :=
  ⟨p, o, us, en', rfl, (Fx.of_below hX hb).trans hF, hFu, hs.1, hs.2⟩

set_option maxHeartbeats 2000000 in
theorem least_any (X : Nat → Prop) (ρ : Rd) (n0 : Nat) (root : ARe) (ts : List D) (en : Nat) (st : Nat) (r : Re) (text : ByteArray) (f : Nat) (w : World) (hX : Old X w) (h0 : X 0) (hT : Tab w) (hF : Full w X ρ n0 root ts en) (hi : Inr ts st) (hl : ∀ u, Lang ts st u ↔ Mt root.re u) (hr : root.re = r.rev) (hs : f ≤ text.size) (hsz : text.size ≤ maxLen) :
    Calls Tryd.prog 25 #[rdv ρ st, .string text, .int .i64 f] w (LeastPost X ρ n0 root ts r text.data.toList f w) := by
  have hb : Below w.heap.size w (w.alloc (.cells #[.int .u64 st, .func (.func 39) #[] #[.pointer (some ⟨ρ.av, 0, none⟩)], .func (.func 41) #[] #[.pointer (some ⟨ρ.ev, 0, none⟩)]] 67)) := (Below.refl _ _).alloc (Nat.le_refl _) _
  have HB := hide hb
  have HO := hide (heap_alloc_last w (.cells #[.int .u64 st, .func (.func 39) #[] #[.pointer (some ⟨ρ.av, 0, none⟩)], .func (.func 41) #[] #[.pointer (some ⟨ρ.ev, 0, none⟩)]] 67))
  have HX := hide hX
  have HX1 := hide (hX.mono hb.size)
  have H0 := hide h0
  have HT := hide (hT.keep (hb.block 0 (hX 0 h0)))
  have HF := hide (hF.below hb)
  have HI := hide hi
  have HL := hide hl
  have HR := hide hr
  have hst64 := hi.lt (by have := hF.few; omega)
  clear hX h0 hT hF hi hl hb hr
  unfold rdv
  go_enter Tryd.func25, Tryd.ntmps25
  go_wp2_with fail
  generalize hW : w.alloc (.cells #[.int .u64 st, .func (.func 39) #[] #[.pointer (some ⟨ρ.av, 0, none⟩)], .func (.func 41) #[] #[.pointer (some ⟨ρ.ev, 0, none⟩)]] 67) = w0
  rw [hW] at HB HO HX1 HT HF
  clear hW
  go_loopg [8, 9, 10, 11] (text.size - f) (fun k start ok left at_ wr => LeastLoop X ρ n0 root ts r text.data.toList f w0 k start ok left at_ wr)
  case atStart =>
    refine ⟨0, st, text.size, false, [], en, rfl, rfl, rfl, rfl, by omega, Nat.le_refl _, Fx.refl _ _, by simpa using HF.out, by simpa using HI.out, fun u => ?_, fun h => (by cases h), fun _ => ⟨rfl, fun j h1 => ?_⟩⟩
    · rw [List.append_nil, HL.out]
      constructor
      · intro h; exact ⟨text.size, Nat.le_refl _, Nat.le_refl _, by rw [seg_self]; simpa using h⟩
      · rintro ⟨j, h1, h2, h3⟩
        have : j = text.size := by rw [text_length] at h2; omega
        subst this
        rw [seg_self] at h3
        simpa using h3
    · rintro ⟨k, h2, h3, _⟩
      rw [text_length] at h3
      omega
  case round =>
    obtain ⟨p, L, i, o, us, en', rfl, rfl, rfl, rfl, hk, hi, hFx, hFu, hL, hl, h1, h2⟩ := hrel
    have hbox := hFx.stay _ _ _ (by decide) HO.out
    have r0 : wr.cell? ⟨w.heap.size, 0, none⟩ = some (.int .u64 st) := by simp [World.cell?, hbox]
    have r1 : wr.cell? ⟨w.heap.size, 1, none⟩ = some (.func (.func 39) #[] #[.pointer (some ⟨ρ.av, 0, none⟩)]) := by simp [World.cell?, hbox]
    have r2 : wr.cell? ⟨w.heap.size, 2, none⟩ = some (.func (.func 41) #[] #[.pointer (some ⟨ρ.ev, 0, none⟩)]) := by simp [World.cell?, hbox]
    have HEN := hide (ends4_any X ρ n0 root (ts ++ us) en' L wr hFu hL)
    have HNOW := hide (seen_now hi h1 h2)
    have HFL := hide (from_lang HR.out hl)
    rw [text_length] at hi
    have HFx := hide hFx
    have HFu := hide hFu
    have HLr := hide hL
    have Hl := hide hl
    clear hFx hFu hL hl hbox h1 h2
    go_wp2_with fail
    refine HEN.out.mono ?_
    rintro e w1 ⟨x, rfl, rfl, hx⟩
    cases x with
    | true =>
      have HSN := hide (HNOW.out.1 (HFL.out.1 (hx.1 rfl)))
      clear HEN HNOW HFL hx
      by_cases hat : i ≤ f
      · obtain rfl : i = f := by omega
        have HEND := hide (least_end HX.out HB.out HFx.out HFu.out HSN.out)
        clear HFx HFu HLr Hl HSN hat
        go_wp2_with fail
        exact bodyPost_ret (v := .tuple #[.int .i64 i, .bool true]) (by simp [results, Tryd.results25, go_sem, *]) rfl HEND.out
      · obtain ⟨i0, rfl⟩ : ∃ i0, i = i0 + 1 := ⟨i - 1, by omega⟩
        have hlt : i0 < text.size := by omega
        have hat' : decide (i0 + 1 ≤ f) = false := by simp; omega
        have hi1 : i0 + 1 ≤ 9223372036854775807 := by unfold maxLen at hsz; omega
        obtain ⟨k', rfl⟩ : ∃ k', gk = k' + 1 := ⟨gk - 1, by omega⟩
        have HGV := hide (give3_any X ρ n0 root (ts ++ us) en' L text[i0] w1.drew (HX1.out.fx HFx.out.drew) H0.out (HT.out.keep (HFx.out.drew.keep 0 H0.out)) (HFu.out.below (Below.refl _ _).drew) HLr.out)
        have HTG := hide (text_get hlt)
        have HK := hide hk
        have hwr : IntKind.i64.wrap (i0 : Int) = (i0 : Int) := by rw [IntKind.wrap_i64]; omega
        have HO1 := hide (HFx.out.drew.stay _ _ _ (by decide) HO.out)
        go_wp2_with fail
        go_region_with (first
          | (go_at_call 39; refine HGV.out.mono ?_; rintro e3 w3 ⟨R, us', en3, rfl, hF3, hFu3, hR3, hl3⟩; have hbx3 := hF3.stay _ _ _ (by decide) HO1.out; have q0 : w3.cell? ⟨w.heap.size, 0, none⟩ = some (.int .u64 st) := (by simp [World.cell?, hbx3]); have HST := hide (least_step HK.out (by rw [text_length]; omega) HFx.out Hl.out HSN.out HTG.out HI.out HL.out hF3.undrew hFu3 hR3 hl3); have HOR := hide (bits_or_u64_nat R st (hR3.lt (by have := hFu3.few; omega)) hst64); clear hF3 hFu3 hR3 hl3 hbx3))
        all_goals
          go_wp2_with fail
          go_roundg k'
          case measure => omega
          case rel =>
            have hst := HST.out
            rw [← HOR.out] at hst
            exact hst
    | false =>
      have HSN := hide (HNOW.out.2 (fun h => by simpa using hx.2 (HFL.out.2 h)))
      clear HEN HNOW HFL hx
      by_cases hat : i ≤ f
      · obtain rfl : i = f := by omega
        have HEND := hide (least_end HX.out HB.out HFx.out HFu.out HSN.out)
        clear HFx HFu HLr Hl HSN hat
        go_wp2_with fail
        exact bodyPost_ret (v := .tuple #[.int .i64 p, .bool o]) (by simp [results, Tryd.results25, go_sem, *]) rfl HEND.out
      · obtain ⟨i0, rfl⟩ : ∃ i0, i = i0 + 1 := ⟨i - 1, by omega⟩
        have hlt : i0 < text.size := by omega
        have hat' : decide (i0 + 1 ≤ f) = false := by simp; omega
        have hi1 : i0 + 1 ≤ 9223372036854775807 := by unfold maxLen at hsz; omega
        obtain ⟨k', rfl⟩ : ∃ k', gk = k' + 1 := ⟨gk - 1, by omega⟩
        have HGV := hide (give3_any X ρ n0 root (ts ++ us) en' L text[i0] w1.drew (HX1.out.fx HFx.out.drew) H0.out (HT.out.keep (HFx.out.drew.keep 0 H0.out)) (HFu.out.below (Below.refl _ _).drew) HLr.out)
        have HTG := hide (text_get hlt)
        have HK := hide hk
        have hwr : IntKind.i64.wrap (i0 : Int) = (i0 : Int) := by rw [IntKind.wrap_i64]; omega
        have HO1 := hide (HFx.out.drew.stay _ _ _ (by decide) HO.out)
        go_wp2_with fail
        go_region_with (first
          | (go_at_call 39; refine HGV.out.mono ?_; rintro e3 w3 ⟨R, us', en3, rfl, hF3, hFu3, hR3, hl3⟩; have hbx3 := hF3.stay _ _ _ (by decide) HO1.out; have q0 : w3.cell? ⟨w.heap.size, 0, none⟩ = some (.int .u64 st) := (by simp [World.cell?, hbx3]); have HST := hide (least_step HK.out (by rw [text_length]; omega) HFx.out Hl.out HSN.out HTG.out HI.out HL.out hF3.undrew hFu3 hR3 hl3); have HOR := hide (bits_or_u64_nat R st (hR3.lt (by have := hFu3.few; omega)) hst64); clear hF3 hFu3 hR3 hl3 hbx3))
        all_goals
          go_wp2_with fail
          go_roundg k'
          case measure => omega
          case rel =>
            have hst := HST.out
            rw [← HOR.out] at hst
            exact hst
end Go.Proofs.YtjjeomcojobjhaaDoor
