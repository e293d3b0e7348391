/- giveEach: what is left of each of a set. -/
import Derived.Test.YtjjeomcojobjhaaDoorR11
namespace Go.Proofs.YtjjeomcojobjhaaDoor
open Go.RowKit Tint Go.Maps

/-- What a set of numbers matches. -/
def Lang (ts : List D) (L : Nat) (u : List UInt8) : Prop := ∃ (m : Nat) (t : D), L.testBit m = true ∧ ts[m]? = some t ∧ Mt t.re u

/-- All its numbers are given. -/
def Inr (ts : List D) (L : Nat) : Prop := ∀ m, L.testBit m = true → m < ts.length

theorem Inr.append {ts us : List D} {L : Nat} (h : Inr ts L) : Inr (ts ++ us) L := fun m hm => by
  have := h m hm
  simp; omega

theorem Inr.or {ts : List D} {L R : Nat} (h : Inr ts L) (h' : Inr ts R) : Inr ts (L ||| R) := fun m hm => by
  rw [Nat.testBit_or, Bool.or_eq_true] at hm
  exact hm.elim (h m) (h' m)

theorem Inr.lt {ts : List D} {L : Nat} (h : Inr ts L) (hl : ts.length ≤ 64) : L < 18446744073709551616 := by
  refine Nat.lt_pow_two_of_testBit (n := 64) L fun i hi => ?_
  cases hb : L.testBit i with
  | false => rfl
  | true => have := h i hb; omega

theorem Lang.append {ts us : List D} {L : Nat} (h : Inr ts L) (u : List UInt8) : Lang (ts ++ us) L u ↔ Lang ts L u := by
  constructor
  · rintro ⟨m, t, h1, h2, h3⟩
    rw [List.getElem?_append_left (h m h1)] at h2
    exact ⟨m, t, h1, h2, h3⟩
  · rintro ⟨m, t, h1, h2, h3⟩
    exact ⟨m, t, h1, get_append_left h2, h3⟩

theorem Lang.or {ts : List D} {L R : Nat} {u : List UInt8} : Lang ts (L ||| R) u ↔ Lang ts L u ∨ Lang ts R u := by
  constructor
  · rintro ⟨m, t, h1, h2, h3⟩
    rw [Nat.testBit_or, Bool.or_eq_true] at h1
    exact h1.elim (fun h => .inl ⟨m, t, h, h2, h3⟩) (fun h => .inr ⟨m, t, h, h2, h3⟩)
  · rintro (⟨m, t, h1, h2, h3⟩ | ⟨m, t, h1, h2, h3⟩)
    · exact ⟨m, t, by rw [Nat.testBit_or, h1]; rfl, h2, h3⟩
    · exact ⟨m, t, by rw [Nat.testBit_or, h1]; simp, h2, h3⟩

theorem SetIs.inr {ts L : List D} {R : Nat} (h : SetIs ts L R) : Inr ts R := fun m hm => let ⟨_, _, h2⟩ := h.2 m hm; get_lt h2

theorem SetIs.lang {ts L : List D} {R : Nat} (h : SetIs ts L R) (u : List UInt8) : Lang ts R u ↔ ∃ d ∈ L, Mt d.re u := by
  constructor
  · rintro ⟨m, t, h1, h2, h3⟩
    obtain ⟨t', h4, h5⟩ := h.2 m h1
    rw [h2] at h5
    cases h5
    exact ⟨t, h4, h3⟩
  · rintro ⟨d, h1, h2⟩
    obtain ⟨m, h3, h4⟩ := h.1 d h1
    exact ⟨m, d, h4, h3, h2⟩

def GivePost (X : Nat → Prop) (ρ : Rd) (n0 : Nat) (root : ARe) (ts : List D) (L : Nat) (b : UInt8) (w : World) (e : Ending) (w' : World) : Prop :=
  ∃ (R : Nat) (us : List D) (en' : Nat), e = .returned (.int .u64 R) ∧ Fx X w w' ∧ Full w' X ρ n0 root (ts ++ us) en' ∧ Inr (ts ++ us) R ∧ ∀ u, Lang (ts ++ us) R u ↔ Lang ts L (b :: u)

def GiveLoop (X : Nat → Prop) (ρ : Rd) (n0 : Nat) (root : ARe) (ts : List D) (L : Nat) (b : UInt8) (w : World) (k : Nat) (left out : Value) (wr : World) : Prop :=
  ∃ (o : Nat) (us : List D) (en' : Nat), left = .int .u64 k ∧ out = .int .u64 o ∧ Fx X w wr ∧ Full wr X ρ n0 root (ts ++ us) en' ∧ Inr ts k ∧ Inr (ts ++ us) o ∧ (∀ i, k.testBit i = true → L.testBit i = true) ∧
    ∀ u, Lang (ts ++ us) o u ↔ ∃ i t, L.testBit i = true ∧ k.testBit i = false ∧ ts[i]? = some t ∧ Mt t.re (b :: u)

theorem give_step {X : Nat → Prop} {ρ : Rd} {n0 : Nat} {root : ARe} {ts us us' : List D} {L k o R en' : Nat} {t : D} {b : UInt8} {w wr w3 : World} (hX : Fx X w wr) (hk : Inr ts k) (hk0 : k ≠ 0) (hk64 : k < 18446744073709551616) (ho : Inr (ts ++ us) o) (hs : ∀ i, k.testBit i = true → L.testBit i = true)
    (hl : ∀ u, Lang (ts ++ us) o u ↔ ∃ i t, L.testBit i = true ∧ k.testBit i = false ∧ ts[i]? = some t ∧ Mt t.re (b :: u)) (ht : ts[Lib.ctz 64 k]? = some t) (hF3 : Fx X wr w3) (hFu : Full w3 X ρ n0 root (ts ++ us ++ us') en') (hset : SetIs (ts ++ us ++ us') (pd b t) R) :
    GiveLoop X ρ n0 root ts L b w (k &&& (k - 1)) (.int .u64 ((k &&& (k - 1) : Nat) : Int)) (.int .u64 ((o ||| R : Nat) : Int)) w3 := by
  obtain ⟨h1, h2, h3, h4⟩ := low_bit k hk64 hk0
  generalize Lib.ctz 64 k = c at *
  rw [List.append_assoc] at hFu hset
  refine ⟨o ||| R, us ++ us', en', rfl, rfl, hX.trans hF3, hFu, fun m hm => hk m ?_, ?_, fun i hi => hs i ?_, fun u => ?_⟩
  · rw [h3] at hm; simp at hm; exact hm.1
  · rw [← List.append_assoc]
    rw [← List.append_assoc] at hset
    exact ho.append.or hset.inr
  · rw [h3] at hi; simp at hi; exact hi.1
  · rw [Lang.or, ← List.append_assoc, Lang.append ho, hl]
    rw [← List.append_assoc] at hset
    rw [hset.lang, ← pd_spec]
    constructor
    · rintro (⟨i, t', a1, a2, a3, a4⟩ | h)
      · exact ⟨i, t', a1, by rw [h3, a2]; rfl, a3, a4⟩
      · exact ⟨c, t, hs c h2, by rw [h3]; simp, ht, h⟩
    · rintro ⟨i, t', a1, a2, a3, a4⟩
      rw [h3] at a2
      simp at a2
      cases hki : k.testBit i with
      | false => exact .inl ⟨i, t', a1, hki, a3, a4⟩
      | true =>
        have e := a2 hki
        subst e
        rw [ht] at a3
        cases a3
        exact .inr a4

set_option maxHeartbeats 2000000 in
theorem give_any (X : Nat → Prop) (ρ : Rd) (n0 : Nat) (root : ARe) (ts : List D) (en : Nat) (L : Nat) (b : UInt8) (w : World) (hX : Old X w) (h0 : X 0) (hT : Tab w) (hF : Full w X ρ n0 root ts en) (hL : Inr ts L) :
    Calls Tryd.prog 40 #[.func (.func 49) #[] #[.pointer (some ⟨ρ.kv, 0, none⟩), .pointer (some ⟨ρ.wk, 0, none⟩)], .int .u64 L, .int .u8 b.toNat] w (GivePost X ρ n0 root ts L b w) := by
  have HX := hide hX
  have H0 := hide h0
  have HT := hide hT
  have HF := hide hF
  have HL := hide hL
  clear hX h0 hT hF hL
  go_enter Tryd.func40, Tryd.ntmps40
  go_wp2_with fail
  go_loopg [1, 7] L (fun k left out wr => GiveLoop X ρ n0 root ts L b w k left out wr)
  case atStart =>
    refine ⟨0, [], en, rfl, rfl, Fx.refl _ _, by simpa using HF.out, HL.out, by intro m hm; simp at hm, fun i hi => hi, fun u => ?_⟩
    constructor
    · rintro ⟨m, t, h1, _⟩; simp at h1
    · rintro ⟨i, t, h1, h2, _⟩; rw [h1] at h2; cases h2
  case round =>
    obtain ⟨o, us, en', rfl, rfl, hFx, hFu, hk, ho, hsub, hl⟩ := hrel
    have hfew := hFu.few
    have hk64 := hk.lt (by simp at hfew; omega)
    have ho64 := ho.lt (by omega)
    by_cases hk0 : gk = 0
    · have HEND := hide (show GivePost X ρ n0 root ts L b w (.returned (.int .u64 o)) wr from ⟨o, us, en', rfl, hFx, hFu, ho, fun u => (by
        rw [hl u]
        subst hk0
        constructor
        · rintro ⟨i, t, h1, _, h3, h4⟩; exact ⟨i, t, h1, h3, h4⟩
        · rintro ⟨i, t, h1, h3, h4⟩; exact ⟨i, t, h1, by simp, h3, h4⟩)⟩)
      subst hk0
      clear hFx hFu hk ho hsub hl
      go_wp2_with fail
      go_ret
      exact HEND.out
    · have hk0' : ((gk : Int) == 0) = false := by rw [beq_eq_false_iff_ne]; omega
      obtain ⟨hc64, hcb, hcl, hclt⟩ := low_bit gk hk64 hk0
      obtain ⟨t, ht⟩ : ∃ t, ts[Lib.ctz 64 gk]? = some t := ⟨_, List.getElem?_eq_getElem (hk _ hcb)⟩
      have HTZ := hide (tz_any gk wr hk64 hk0 (HT.out.keep (hFx.keep 0 H0.out)))
      have HAF := hide (after_any X ρ n0 root (ts ++ us) en' t (Lib.ctz 64 gk) b wr (HX.out.fx hFx) hFu (get_append_left ht))
      have HFx := hide hFx
      have Hk := hide hk
      have Ho := hide ho
      have Hs := hide hsub
      have Hl := hide hl
      have Ht := hide ht
      clear hFx hFu hk ho hsub hl ht hcb hcl
      go_wp2_with fail
      refine HTZ.out.mono ?_
      rintro e w1 ⟨rfl, rfl⟩
      go_wp2_with fail
      refine HAF.out.mono ?_
      rintro e w3 ⟨R, us', en3, rfl, hF3, hFu3, hset3⟩
      have hR64 := hset3.inr.lt (by have h1 := hFu3.few; omega)
      have HST := hide (give_step HFx.out Hk.out hk0 hk64 Ho.out Hs.out Hl.out Ht.out hF3 hFu3 hset3)
      have HOR := hide (bits_or_u64_nat o R ho64 hR64)
      have HAN := hide (bits_and_u64_nat gk (gk - 1) hk64 (by omega))
      have HM1 := hide (show ((gk : Int) - 1) = ((gk - 1 : Nat) : Int) from by omega)
      clear hF3 hFu3 hset3 HTZ HAF
      go_wp2_with fail
      go_roundg (gk &&& (gk - 1))
      case measure => exact hclt
      case rel =>
        have hst := HST.out
        rw [← HOR.out, ← HAN.out, ← HM1.out] at hst
        exact hst
end Go.Proofs.YtjjeomcojobjhaaDoor
