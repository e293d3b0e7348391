/- A reader's two functions. -/
import Derived.Test.YtjjeomcojobjhaaDoorR12
namespace Go.Proofs.YtjjeomcojobjhaaDoor
open Go.RowKit Tint Go.Maps

set_option maxHeartbeats 1000000 in
theorem give3_any (X : Nat → Prop) (ρ : Rd) (n0 : Nat) (root : ARe) (ts : List D) (en : Nat) (L : Nat) (b : UInt8) (w : World) (hX : Old X w) (h0 : X 0) (hT : Tab w) (hF : Full w X ρ n0 root ts en) (hL : Inr ts L) :
    Calls Tryd.prog 39 #[.int .u64 L, .int .u8 b.toNat, .pointer (some ⟨ρ.av, 0, none⟩)] w (GivePost X ρ n0 root ts L b w) := by
  have c0 := cell_one hF.stc.av
  have HG := hide (give_any X ρ n0 root ts en L b w hX h0 hT hF hL)
  clear hX h0 hT hF hL
  go_enter Tryd.func39, Tryd.ntmps39
  go_wp2_with fail
  refine HG.out.mono ?_
  rintro e w1 ⟨R, us, en', rfl, h1, h2, h3, h4⟩
  have HEND := hide (show GivePost X ρ n0 root ts L b w (.returned (.int .u64 R)) w1 from ⟨R, us, en', rfl, h1, h2, h3, h4⟩)
  clear h1 h2 h3 h4
  go_wp2
  go_ret
  exact HEND.out

theorem ends_iff {w : World} {X : Nat → Prop} {ρ : Rd} {n0 : Nat} {root : ARe} {ns : List (Nd Value)} {ts : List D} {pls : List Nat} {en : Nat} (h : Dyn w X ρ n0 root ns ts pls en) (L : Nat) : L &&& en ≠ 0 ↔ Lang ts L [] := by
  constructor
  · intro hne
    obtain ⟨i, hi⟩ := Nat.exists_testBit_of_ne_zero hne
    rw [Nat.testBit_and, Bool.and_eq_true] at hi
    obtain ⟨t, h1, h2⟩ := (h.bits i).1 hi.2
    exact ⟨i, t, hi.1, h1, (mt_nil _).2 h2⟩
  · rintro ⟨m, t, h1, h2, h3⟩ h0
    have hb := (h.bits m).2 ⟨t, h2, (mt_nil _).1 h3⟩
    have : (L &&& en).testBit m = true := by rw [Nat.testBit_and, h1, hb]; rfl
    rw [h0] at this
    simp at this

def EndsPost (ts : List D) (L : Nat) (w : World) (e : Ending) (w' : World) : Prop := ∃ x, e = .returned (.bool x) ∧ w' = w ∧ (x = true ↔ Lang ts L [])

set_option maxHeartbeats 1000000 in
theorem ends4_any (X : Nat → Prop) (ρ : Rd) (n0 : Nat) (root : ARe) (ts : List D) (en : Nat) (L : Nat) (w : World) (hF : Full w X ρ n0 root ts en) (hL : Inr ts L) :
    Calls Tryd.prog 41 #[.int .u64 L, .pointer (some ⟨ρ.ev, 0, none⟩)] w (EndsPost ts L w) := by
  have hfew := hF.few
  obtain ⟨ns, pls, hD⟩ := hF.dyn
  have c0 := cell_one hD.ev
  have HB := hide (bits_and_u64_nat L en (hL.lt (by omega)) hD.en_lt)
  have HE := hide (ends_iff hD L)
  clear hF hL hD
  go_enter Tryd.func41, Tryd.ntmps41
  go_wp2
  go_ret
  refine ⟨_, rfl, rfl, ?_⟩
  rw [← HE.out, HB.out]
  simp only [bne_iff_ne, ne_eq]
  omega

/-- A reader's value. -/
def rdv (ρ : Rd) (start : Nat) : Value := .agg #[.int .u64 start, .func (.func 39) #[] #[.pointer (some ⟨ρ.av, 0, none⟩)], .func (.func 41) #[] #[.pointer (some ⟨ρ.ev, 0, none⟩)]]
end Go.Proofs.YtjjeomcojobjhaaDoor
