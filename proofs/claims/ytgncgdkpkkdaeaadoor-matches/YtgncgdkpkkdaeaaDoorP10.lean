/- ATOM and the sign behind it. -/
import Derived.Test.YtgncgdkpkkdaeaaDoorP9
namespace Go.Proofs.YtgncgdkpkkdaeaaDoor
open Go.RowKit Tint

theorem ix_last {ns : List (Nd Value)} (nd : Nd Value) : (ns ++ [nd])[ns.length]? = some nd := by
  rw [List.getElem?_append_right (Nat.le_refl _)]; simp

theorem pos_of_eps {isC : Value → Cls → Prop} {ns : List (Nd Value)} (h : Rep isC ns .eps) : ns.length ≠ 0 := by
  have := h.lt; simp only [ARe.ix] at this; omega

set_option maxHeartbeats 2000000 in
theorem piece_any (n : Nat) (hC : ChoicesAt n) (B P : Nat) (text : ByteArray) (at_ : Nat) (ns : List (Nd Value)) (w : World) (hP : Pre B P text at_ ns w) (hn : (rest text at_).length ≤ n) :
    Calls Tryd.prog 45 #[.pointer (some ⟨P, 0, none⟩)] w (AltPost PPiece 1 B P text at_ ns w) := by
  have HP := hide hP
  have HN := hide hn
  clear hP hn
  go_enter Tryd.func45, Tryd.ntmps45
  go_wp2_with fail
  refine (atom_any n hC B P text at_ ns w HP.out HN.out).mono ?_
  rintro e w1 ⟨hF1, ⟨a, at1, ms, rfl, hA1, hP1, hR1, hb1⟩ | ⟨i, rfl, hA1⟩⟩
  · have HF1 := hide hF1
    have HA1 := hide hA1
    have HP1 := hide hP1
    have HR1 := hide hR1
    have HB1 := hide hb1
    have HE1 := hide ((HP.out.eps.append (ms := ms)).world hF1.stay)
    have HL1 := hide (show (ns ++ ms).length + 3 * (rest text at1).length + 1 ≤ 200 by have := HP.out.bound; simp only [List.length_append]; omega)
    clear hF1 hA1 hP1 hR1 hb1
    go_wp2_with fail
    refine (take_any 42 B P text at1 (ns ++ ms) w1 HP1.out).mono ?_
    rintro e w2 ⟨r, at2, rfl, hP2, hF2, ⟨rfl, h2⟩ | ⟨rfl, hat2, h2⟩⟩
    · have HP2 := hide hP2
      have HF2 := hide hF2
      have H2 := hide h2
      clear hP2 hF2 h2
      go_wp2_with fail
      refine (add_any B P text at2 (ns ++ ms) 4 a.ix 0 .nilFunc true false w2 HP2.out (by have := HL1.out; omega) (.inr (.inl ⟨.inl rfl, rfl⟩)) (.inl rfl)).mono ?_
      rintro e w3 ⟨rfl, hP3, hF3⟩
      have HP3 := hide hP3
      have HF3 := hide hF3
      clear hP3 hF3
      go_wp2_with fail
      go_ret2
      have hst := HF2.out.stay.trans HF3.out.stay
      refine ⟨(HF1.out.trans HF2.out).trans HF3.out, .inl ⟨.star (ns ++ ms).length a, at2, ms ++ [⟨4, .nilFunc, a.ix, 0, true⟩], by simp [ARe.ix], ?_, ?_, ?_, ?_⟩⟩
      · exact .star (H2.out ▸ HA1.out)
      · rw [← List.append_assoc]; exact HP3.out
      · rw [← List.append_assoc]
        exact ⟨pos_of_eps HE1.out, ⟨_, ix_last _⟩, (HR1.out.world hst).append⟩
      · have h1 := HB1.out
        rw [H2.out] at h1
        simp only [List.length_append, List.length_cons, List.length_nil] at h1 ⊢
        omega
    · subst hat2
      have HP2 := hide hP2
      have HF2 := hide hF2
      have H2 := hide h2
      clear hP2 hF2 h2
      go_wp2_with fail
      refine (take_any 43 B P text at2 (ns ++ ms) w2 HP2.out).mono ?_
      rintro e w3 ⟨r, at3, rfl, hP3, hF3, ⟨rfl, h3⟩ | ⟨rfl, hat3, h3⟩⟩
      · have HP3 := hide hP3
        have HF3 := hide hF3
        have H3 := hide h3
        clear hP3 hF3 h3
        go_wp2_with fail
        refine (add_any B P text at3 (ns ++ ms) 4 a.ix 0 .nilFunc true false w3 HP3.out (by have := HL1.out; omega) (.inr (.inl ⟨.inl rfl, rfl⟩)) (.inl rfl)).mono ?_
        rintro e w4 ⟨rfl, hP4, hF4⟩
        have hst := (HF2.out.stay.trans HF3.out.stay).trans hF4.stay
        have hRa := (HR1.out.world hst).append (ms := [⟨4, .nilFunc, a.ix, 0, true⟩])
        obtain ⟨x, hx, hxe⟩ := hRa.empty
        have HE4 := hide (show Emp (ns ++ ms ++ [⟨4, .nilFunc, a.ix, 0, true⟩]) 5 a.ix (ns ++ ms).length a.re.nullable from .inr (.inr (.inl ⟨rfl, x, hx, hxe.symm⟩)))
        have HP4 := hide hP4
        have HF4 := hide hF4
        have HRa := hide hRa
        clear hP4 hF4 hst hRa hx hxe
        obtain ⟨j, hj⟩ : ∃ j, j = (ns ++ ms).length := ⟨_, rfl⟩
        rw [← hj] at HE4 ⊢
        have HJ := hide hj
        clear hj
        go_wp2_with fail
        refine (add_any B P text at3 (ns ++ ms ++ [⟨4, .nilFunc, a.ix, 0, true⟩]) 5 a.ix j .nilFunc a.re.nullable false w4 HP4.out (by have := HL1.out; simp only [List.length_append, List.length_cons, List.length_nil] at this ⊢; omega) HE4.out (.inl rfl)).mono ?_
        rintro e w5 ⟨rfl, hP5, hF5⟩
        have HP5 := hide hP5
        have HF5 := hide hF5
        clear hP5 hF5
        go_wp2_with fail
        go_ret2
        have hjj := HJ.out
        refine ⟨(((HF1.out.trans HF2.out).trans HF3.out).trans HF4.out).trans HF5.out, .inl ⟨.plus (ns ++ ms ++ ([⟨4, .nilFunc, a.ix, 0, true⟩] : List (Nd Value))).length j a, at3, ms ++ [⟨4, .nilFunc, a.ix, 0, true⟩] ++ [⟨5, .nilFunc, a.ix, j, a.re.nullable⟩], by simp [ARe.ix], ?_, ?_, ?_, ?_⟩⟩
        · exact .plus (H3.out ▸ HA1.out)
        · rw [← List.append_assoc, ← List.append_assoc]; exact HP5.out
        · rw [← List.append_assoc, ← List.append_assoc]
          refine ⟨by simp, by rw [hjj]; exact pos_of_eps HE1.out, ⟨_, ix_last _⟩, ⟨.nilFunc, ?_⟩, (HRa.out.world HF5.out.stay).append⟩
          rw [hjj, List.getElem?_append_left (by simp)]
          exact ix_last _
        · have h1 := HB1.out
          rw [H3.out] at h1
          simp only [List.length_append, List.length_cons, List.length_nil] at h1 ⊢
          omega
      · subst hat3
        have HP3 := hide hP3
        have HF3 := hide hF3
        have H3 := hide h3
        clear hP3 hF3 h3
        go_wp2_with fail
        refine (take_any 63 B P text at3 (ns ++ ms) w3 HP3.out).mono ?_
        rintro e w4 ⟨r, at4, rfl, hP4, hF4, ⟨rfl, h4⟩ | ⟨rfl, hat4, h4⟩⟩
        · have HP4 := hide hP4
          have HF4 := hide hF4
          have H4 := hide h4
          clear hP4 hF4 h4
          go_wp2_with fail
          refine (add_any B P text at4 (ns ++ ms) 6 a.ix 0 .nilFunc true false w4 HP4.out (by have := HL1.out; omega) (.inr (.inl ⟨.inr rfl, rfl⟩)) (.inl rfl)).mono ?_
          rintro e w5 ⟨rfl, hP5, hF5⟩
          have HP5 := hide hP5
          have HF5 := hide hF5
          clear hP5 hF5
          go_wp2_with fail
          go_ret2
          have hst := ((HF2.out.stay.trans HF3.out.stay).trans HF4.out.stay).trans HF5.out.stay
          refine ⟨(((HF1.out.trans HF2.out).trans HF3.out).trans HF4.out).trans HF5.out, .inl ⟨.opt (ns ++ ms).length a, at4, ms ++ [⟨6, .nilFunc, a.ix, 0, true⟩], by simp [ARe.ix], ?_, ?_, ?_, ?_⟩⟩
          · exact .opt (H4.out ▸ HA1.out)
          · rw [← List.append_assoc]; exact HP5.out
          · rw [← List.append_assoc]
            exact ⟨pos_of_eps HE1.out, ⟨_, ix_last _⟩, (HR1.out.world hst).append⟩
          · have h1 := HB1.out
            rw [H4.out] at h1
            simp only [List.length_append, List.length_cons, List.length_nil] at h1 ⊢
            omega
        · subst hat4
          have HP4 := hide hP4
          have HF4 := hide hF4
          have H4 := hide h4
          clear hP4 hF4 h4
          go_wp2_with fail
          go_ret2
          have hst := (HF2.out.stay.trans HF3.out.stay).trans HF4.out.stay
          exact ⟨((HF1.out.trans HF2.out).trans HF3.out).trans HF4.out, .inl ⟨a, at4, ms, by simp, .plain HA1.out H2.out H3.out H4.out, HP4.out, HR1.out.world hst, HB1.out⟩⟩
  · have HF1 := hide hF1
    have HA1 := hide hA1
    clear hF1 hA1
    go_wp2_with fail
    go_ret2
    exact ⟨HF1.out, .inr ⟨0, by simp, .bad HA1.out⟩⟩
end Go.Proofs.YtgncgdkpkkdaeaaDoor
