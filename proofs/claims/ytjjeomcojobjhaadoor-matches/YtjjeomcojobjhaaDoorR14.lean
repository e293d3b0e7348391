/- leastStart and longestEnd. -/
import Derived.Test.YtjjeomcojobjhaaDoorR13
namespace Go.Proofs.YtjjeomcojobjhaaDoor
open Go.RowKit Tint Go.Maps

/-- The bytes from i to j. -/
def seg (T : List UInt8) (i j : Nat) : List UInt8 := (T.drop i).take (j - i)

theorem seg_self (T : List UInt8) (i : Nat) : seg T i i = [] := by simp [seg]

theorem seg_append (T : List UInt8) {i j k : Nat} (h1 : i ≤ j) (h2 : j ≤ k) : seg T i k = seg T i j ++ seg T j k := by
  unfold seg
  have e : k - i = (j - i) + (k - j) := by omega
  rw [e, List.take_add, List.drop_drop]
  have e2 : i + (j - i) = j := by omega
  rw [e2]

theorem seg_one (T : List UInt8) {i : Nat} {b : UInt8} (h : T[i]? = some b) : seg T i (i + 1) = [b] := by
  have hl := get_lt h
  rw [List.getElem?_eq_getElem hl] at h
  unfold seg
  rw [List.drop_eq_getElem_cons hl, Option.some.inj h]
  have e : i + 1 - i = 1 := by omega
  rw [e]
  rfl

/-- The pattern matches from i on. -/
def From (r : Re) (T : List UInt8) (i : Nat) : Prop := ∃ j, i ≤ j ∧ j ≤ T.length ∧ Mt r (seg T i j)

def LongPost (X : Nat → Prop) (ρ : Rd) (n0 : Nat) (root : ARe) (ts : List D) (T : List UInt8) (s : Nat) (w : World) (e : Ending) (w' : World) : Prop :=
  ∃ (stop : Nat) (us : List D) (en' : Nat), e = .returned (.int .i64 stop) ∧ Fx X w w' ∧ Full w' X ρ n0 root (ts ++ us) en' ∧ s ≤ stop ∧ stop ≤ T.length ∧ (stop = s ∨ Mt root.re (seg T s stop)) ∧ ∀ j, stop < j → j ≤ T.length → ¬ Mt root.re (seg T s j)

def LongLoop (X : Nat → Prop) (ρ : Rd) (n0 : Nat) (root : ARe) (ts : List D) (T : List UInt8) (s : Nat) (w : World) (k : Nat) (stop left at_ : Value) (wr : World) : Prop :=
  ∃ (p L i : Nat) (us : List D) (en' : Nat), stop = .int .i64 p ∧ left = .int .u64 L ∧ at_ = .int .i64 i ∧ i + k = T.length ∧ s ≤ i ∧ Fx X w wr ∧ Full wr X ρ n0 root (ts ++ us) en' ∧ Inr (ts ++ us) L ∧ (∀ u, Lang (ts ++ us) L u ↔ Mt root.re (seg T s i ++ u)) ∧
    s ≤ p ∧ p ≤ i ∧ (p = s ∨ Mt root.re (seg T s p)) ∧ ∀ j, p < j → j < i → ¬ Mt root.re (seg T s j)

def LeastPost (X : Nat → Prop) (ρ : Rd) (n0 : Nat) (root : ARe) (ts : List D) (r : Re) (T : List UInt8) (f : Nat) (w : World) (e : Ending) (w' : World) : Prop :=
  ∃ (start : Nat) (ok : Bool) (us : List D) (en' : Nat), e = .returned (.tuple #[.int .i64 start, .bool ok]) ∧ Fx X w w' ∧ Full w' X ρ n0 root (ts ++ us) en' ∧
    (ok = true → f ≤ start ∧ start ≤ T.length ∧ From r T start ∧ ∀ i, f ≤ i → i < start → ¬ From r T i) ∧ (ok = false → start = 0 ∧ ∀ i, f ≤ i → ¬ From r T i)

def LeastLoop (X : Nat → Prop) (ρ : Rd) (n0 : Nat) (root : ARe) (ts : List D) (r : Re) (T : List UInt8) (f : Nat) (w : World) (k : Nat) (start ok left at_ : Value) (wr : World) : Prop :=
  ∃ (p L i : Nat) (o : Bool) (us : List D) (en' : Nat), start = .int .i64 p ∧ ok = .bool o ∧ left = .int .u64 L ∧ at_ = .int .i64 i ∧ f + k = i ∧ i ≤ T.length ∧ Fx X w wr ∧ Full wr X ρ n0 root (ts ++ us) en' ∧ Inr (ts ++ us) L ∧ (∀ u, Lang (ts ++ us) L u ↔ ∃ j, i ≤ j ∧ j ≤ T.length ∧ Mt root.re ((seg T i j).reverse ++ u)) ∧
    (o = true → i < p ∧ p ≤ T.length ∧ From r T p ∧ ∀ j, i < j → j < p → ¬ From r T j) ∧ (o = false → p = 0 ∧ ∀ j, i < j → ¬ From r T j)

/-- One byte on. -/
theorem long_step {X : Nat → Prop} {ρ : Rd} {n0 : Nat} {root : ARe} {ts us us' : List D} {T : List UInt8} {s k p p' L R i en' : Nat} {b : UInt8} {w wr w3 : World} (hk : i + (k + 1) = T.length) (hs : s ≤ i) (hF : Fx X w wr) (hl : ∀ u, Lang (ts ++ us) L u ↔ Mt root.re (seg T s i ++ u)) (hp : s ≤ p) (hpi : p ≤ i) (hm : p = s ∨ Mt root.re (seg T s p)) (hn : ∀ j, p < j → j < i → ¬ Mt root.re (seg T s j))
    (hx : (Lang (ts ++ us) L [] → p' = i) ∧ (¬ Lang (ts ++ us) L [] → p' = p)) (hb : T[i]? = some b) (hF3 : Fx X wr w3) (hFu : Full w3 X ρ n0 root (ts ++ us ++ us') en') (hR : Inr (ts ++ us ++ us') R) (hRl : ∀ u, Lang (ts ++ us ++ us') R u ↔ Lang (ts ++ us) L (b :: u)) :
    LongLoop X ρ n0 root ts T s w k (.int .i64 p') (.int .u64 R) (.int .i64 ((i + 1 : Nat) : Int)) w3 := by
  have e1 : ∀ u, seg T s (i + 1) ++ u = seg T s i ++ b :: u := fun u => by
    rw [seg_append T hs (Nat.le_succ i), seg_one T hb]; simp
  have e0 : Lang (ts ++ us) L [] ↔ Mt root.re (seg T s i) := by rw [hl]; simp
  rw [List.append_assoc] at hFu hR hRl
  refine ⟨p', R, i + 1, us ++ us', en', rfl, rfl, rfl, by omega, by omega, hF.trans hF3, hFu, hR, fun u => ?_, ?_⟩
  · rw [hRl, hl, e1]
  · by_cases hc : Lang (ts ++ us) L []
    · have hx := hx.1 hc
      subst hx
      exact ⟨hs, by omega, .inr (e0.1 hc), fun j h1 h2 => by omega⟩
    · have hx := hx.2 hc
      subst hx
      refine ⟨hp, by omega, hm, fun j h1 h2 => ?_⟩
      rcases Nat.lt_or_ge j i with h | h
      · exact hn j h1 h
      · have : j = i := by omega
        subst this
        exact fun h => hc (e0.2 h)

/-- Nothing is left, or no byte. -/
theorem long_end {X : Nat → Prop} {ρ : Rd} {n0 : Nat} {root : ARe} {ts us : List D} {T : List UInt8} {s k p p' L i en' : Nat} {w wr : World} (hk : i + k = T.length) (hs : s ≤ i) (hF : Fx X w wr) (hFu : Full wr X ρ n0 root (ts ++ us) en') (hl : ∀ u, Lang (ts ++ us) L u ↔ Mt root.re (seg T s i ++ u)) (hp : s ≤ p) (hpi : p ≤ i) (hm : p = s ∨ Mt root.re (seg T s p)) (hn : ∀ j, p < j → j < i → ¬ Mt root.re (seg T s j))
    (hx : (Lang (ts ++ us) L [] → p' = i) ∧ (¬ Lang (ts ++ us) L [] → p' = p)) (hend : L = 0 ∨ i = T.length) : LongPost X ρ n0 root ts T s w (.returned (.int .i64 p')) wr := by
  have e0 : Lang (ts ++ us) L [] ↔ Mt root.re (seg T s i) := by rw [hl]; simp
  have hgt : ∀ j, i < j → j ≤ T.length → ¬ Mt root.re (seg T s j) := fun j h1 h2 h3 => by
    rcases hend with rfl | rfl
    · rw [seg_append T hs (Nat.le_of_lt h1), ← hl] at h3
      obtain ⟨m, t, h4, _⟩ := h3
      simp at h4
    · omega
  refine ⟨p', us, en', rfl, hF, hFu, ?_⟩
  by_cases hc : Lang (ts ++ us) L []
  · have hx := hx.1 hc
    subst hx
    exact ⟨hs, by omega, .inr (e0.1 hc), hgt⟩
  · have hx := hx.2 hc
    subst hx
    refine ⟨hp, by omega, hm, fun j h1 h2 => ?_⟩
    rcases Nat.lt_trichotomy j i with h | h | h
    · exact hn j h1 h
    · subst h
      exact fun h => hc (e0.2 h)
    · exact hgt j h h2

theorem LongPost.below {X : Nat → Prop} {ρ : Rd} {n0 : Nat} {root : ARe} {ts : List D} {T : List UInt8} {s : Nat} {w w0 wr : World} {e : Ending} (h : LongPost X ρ n0 root ts T s w0 e wr) (hX : Old X w) (hb : Below w.heap.size w w0) : LongPost X ρ n0 root ts T s w e wr := by
  obtain ⟨stop, us, en', h1, h2, h3⟩ := h
  exact ⟨stop, us, en', h1, (Fx.of_below hX hb).trans h2, h3⟩

theorem text_get {text : ByteArray} {i : Nat} (h : i < text.size) : text.data.toList[i]? = some text[i] := by
  rw [List.getElem?_eq_getElem (show i < text.data.toList.length from h)]
  rfl

theorem text_length (text : ByteArray) : text.data.toList.length = text.size := rfl

set_option maxHeartbeats 2000000 in
theorem longest_any (X : Nat → Prop) (ρ : Rd) (n0 : Nat) (root : ARe) (ts : List D) (en : Nat) (st : Nat) (text : ByteArray) (s : Nat) (w : World) (hX : Old X w) (h0 : X 0) (hT : Tab w) (hF : Full w X ρ n0 root ts en) (hi : Inr ts st) (hl : ∀ u, Lang ts st u ↔ Mt root.re u) (hs : s ≤ text.size) (hsz : text.size ≤ maxLen) :
    Calls Tryd.prog 26 #[rdv ρ st, .string text, .int .i64 s] w (LongPost X ρ n0 root ts text.data.toList s w) := by
  have hb : Below w.heap.size w (w.alloc (.cells #[.int .u64 st, .func (.func 39) #[] #[.pointer (some ⟨ρ.av, 0, none⟩)], .func (.func 41) #[] #[.pointer (some ⟨ρ.ev, 0, none⟩)]] 67)) := (Below.refl _ _).alloc (Nat.le_refl _) _
  have HB := hide hb
  have HO := hide (heap_alloc_last w (.cells #[.int .u64 st, .func (.func 39) #[] #[.pointer (some ⟨ρ.av, 0, none⟩)], .func (.func 41) #[] #[.pointer (some ⟨ρ.ev, 0, none⟩)]] 67))
  have HX := hide hX
  have HX1 := hide (hX.mono hb.size)
  have H0 := hide h0
  have HT := hide (hT.keep (hb.block 0 (hX 0 h0)))
  have HF := hide (hF.below hb)
  have HI := hide hi
  have HL := hide hl
  clear hX h0 hT hF hi hl hb
  unfold rdv
  go_enter Tryd.func26, Tryd.ntmps26
  go_wp2_with fail
  generalize hW : w.alloc (.cells #[.int .u64 st, .func (.func 39) #[] #[.pointer (some ⟨ρ.av, 0, none⟩)], .func (.func 41) #[] #[.pointer (some ⟨ρ.ev, 0, none⟩)]] 67) = w0
  rw [hW] at HB HO HX1 HT HF
  clear hW
  go_loopg [7, 8, 9] (text.size - s) (fun k stop left at_ wr => LongLoop X ρ n0 root ts text.data.toList s w0 k stop left at_ wr)
  case atStart =>
    exact ⟨s, st, s, [], en, rfl, rfl, rfl, by rw [text_length]; omega, Nat.le_refl _, Fx.refl _ _, by simpa using HF.out, by simpa using HI.out, by simpa [seg_self] using HL.out, Nat.le_refl _, Nat.le_refl _, .inl rfl, fun j h1 h2 => by omega⟩
  case round =>
    obtain ⟨p, L, i, us, en', rfl, rfl, rfl, hk, hsi, hFx, hFu, hL, hl, hp, hpi, hm, hn⟩ := hrel
    have hbox := hFx.stay _ _ _ (by decide) HO.out
    have r1 : wr.cell? ⟨w.heap.size, 1, none⟩ = some (.func (.func 39) #[] #[.pointer (some ⟨ρ.av, 0, none⟩)]) := by simp [World.cell?, hbox]
    have r2 : wr.cell? ⟨w.heap.size, 2, none⟩ = some (.func (.func 41) #[] #[.pointer (some ⟨ρ.ev, 0, none⟩)]) := by simp [World.cell?, hbox]
    have hnl : L = 0 → ¬ Lang (ts ++ us) L [] := by rintro rfl ⟨m, t, h4, _⟩; simp at h4
    by_cases hL0 : L = 0
    · have HEND := hide ((long_end hk hsi hFx hFu hl hp hpi hm hn (p' := p) ⟨fun h => absurd h (hnl hL0), fun _ => rfl⟩ (.inl hL0)).below HX.out HB.out)
      subst hL0
      clear hFx hFu hL hl hp hpi hm hn hbox
      go_wp2_with fail
      go_ret
      exact HEND.out
    · have hL0' : ((L : Int) == 0) = false := by rw [beq_eq_false_iff_ne]; omega
      have HEN := hide (ends4_any X ρ n0 root (ts ++ us) en' L wr hFu hL)
      have hk' : i ≤ text.size := by rw [text_length] at hk; omega
      have HK := hide hk
      have HFx := hide hFx
      have HFu := hide hFu
      have HLr := hide hL
      have Hl := hide hl
      have Hp := hide hp
      have Hpi := hide hpi
      have Hm := hide hm
      have Hn := hide hn
      clear hFx hFu hL hl hp hpi hm hn hbox hk hnl
      go_wp2_with fail
      refine HEN.out.mono ?_
      rintro e w1 ⟨x, rfl, rfl, hx⟩
      cases x with
      | true =>
        by_cases hat : i = text.size
        · have HEND := hide ((long_end HK.out hsi HFx.out HFu.out Hl.out Hp.out Hpi.out Hm.out Hn.out (p' := i) ⟨fun _ => rfl, fun h => absurd (hx.1 rfl) h⟩ (.inr (by rw [text_length]; exact hat))).below HX.out HB.out)
          have hat' : ((i : Int) == (text.size : Int)) = true := by rw [beq_iff_eq]; omega
          clear HEN HK HFx HFu HLr Hl Hp Hpi Hm Hn hx hat
          go_wp2_with fail
          go_ret
          exact HEND.out
        · have hlt : i < text.size := by omega
          have hat' : ((i : Int) == (text.size : Int)) = false := by rw [beq_eq_false_iff_ne]; omega
          have hi1 : i + 1 ≤ 9223372036854775807 := by unfold maxLen at hsz; omega
          have HGV := hide (give3_any X ρ n0 root (ts ++ us) en' L text[i] w1.drew (HX1.out.fx HFx.out.drew) H0.out (HT.out.keep (HFx.out.drew.keep 0 H0.out)) (HFu.out.below (Below.refl _ _).drew) HLr.out)
          have HTG := hide (text_get hlt)
          have HXX := hide (hx.1 rfl)
          clear HEN hx hat
          go_wp2_with fail
          go_region_with (first
            | (go_at_call 39; refine HGV.out.mono ?_; rintro e3 w3 ⟨R, us', en3, rfl, hF3, hFu3, hR3, hl3⟩; obtain ⟨k', hk3⟩ : ∃ k', gk = k' + 1 := ⟨gk - 1, by have := HK.out; rw [text_length] at this; omega⟩; have HST := hide (long_step (hk3 ▸ HK.out) hsi HFx.out Hl.out Hp.out Hpi.out Hm.out Hn.out (p' := i) ⟨fun _ => rfl, fun h => absurd HXX.out h⟩ HTG.out hF3.undrew hFu3 hR3 hl3); clear hF3 hFu3 hR3 hl3))
          all_goals
            go_wp2_with fail
            go_roundg k'
            case measure => omega
            case rel => exact HST.out
      | false =>
        by_cases hat : i = text.size
        · have HEND := hide ((long_end HK.out hsi HFx.out HFu.out Hl.out Hp.out Hpi.out Hm.out Hn.out (p' := p) ⟨fun h => absurd (hx.2 h) (by simp), fun _ => rfl⟩ (.inr (by rw [text_length]; exact hat))).below HX.out HB.out)
          have hat' : ((i : Int) == (text.size : Int)) = true := by rw [beq_iff_eq]; omega
          clear HEN HK HFx HFu HLr Hl Hp Hpi Hm Hn hx hat
          go_wp2_with fail
          go_ret
          exact HEND.out
        · have hlt : i < text.size := by omega
          have hat' : ((i : Int) == (text.size : Int)) = false := by rw [beq_eq_false_iff_ne]; omega
          have hi1 : i + 1 ≤ 9223372036854775807 := by unfold maxLen at hsz; omega
          have HGV := hide (give3_any X ρ n0 root (ts ++ us) en' L text[i] w1.drew (HX1.out.fx HFx.out.drew) H0.out (HT.out.keep (HFx.out.drew.keep 0 H0.out)) (HFu.out.below (Below.refl _ _).drew) HLr.out)
          have HTG := hide (text_get hlt)
          have HXX := hide (show ¬ Lang (ts ++ us) L [] from fun h => by simpa using hx.2 h)
          clear HEN hx hat
          go_wp2_with fail
          go_region_with (first
            | (go_at_call 39; refine HGV.out.mono ?_; rintro e3 w3 ⟨R, us', en3, rfl, hF3, hFu3, hR3, hl3⟩; obtain ⟨k', hk3⟩ : ∃ k', gk = k' + 1 := ⟨gk - 1, by have := HK.out; rw [text_length] at this; omega⟩; have HST := hide (long_step (hk3 ▸ HK.out) hsi HFx.out Hl.out Hp.out Hpi.out Hm.out Hn.out (p' := p) ⟨fun h => absurd h HXX.out, fun _ => rfl⟩ HTG.out hF3.undrew hFu3 hR3 hl3); clear hF3 hFu3 hR3 hl3))
          all_goals
            go_wp2_with fail
            go_roundg k'
            case measure => omega
            case rel => exact HST.out
end Go.Proofs.YtjjeomcojobjhaaDoor
