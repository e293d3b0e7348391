/- ALT, by induction on how much is to be read; the whole pattern. -/
import Derived.Test.YtgncgdkpkkdaeaaDoorP11
namespace Go.Proofs.YtgncgdkpkkdaeaaDoor
open Go.RowKit Tint

theorem pcatR_some {s s' : List UInt8} {r : Re} (h : PCatR s (some (r, s'))) : ∃ rs, PCat s (some (rs, s')) ∧ r = seqOf rs := by
  obtain ⟨o, h1, h2⟩ := h
  cases o with
  | none => cases h2
  | some p => simp only [Option.map_some, Option.some.injEq, Prod.mk.injEq] at h2; exact ⟨p.1, by rw [h2.2]; exact h1, h2.1⟩

theorem pcatR_none {s : List UInt8} (h : PCatR s none) : PCat s none := by
  obtain ⟨o, h1, h2⟩ := h
  cases o with
  | none => exact h1
  | some p => cases h2

def ChLoop (B P : Nat) (text : ByteArray) (at_ : Nat) (ns : List (Nd Value)) (w : World) (k : Nat) (left okv : Value) (wr : World) : Prop :=
  PFr B w wr ∧ ((okv = .bool true ∧ ∃ (a : ARe) (at' : Nat) (ms : List (Nd Value)), left = .int .i64 a.ix ∧ Psr wr B P text at' (ns ++ ms) ∧ Rep (IsCls wr) (ns ++ ms) a ∧
      ms.length + 3 * (rest text at').length ≤ 3 * (rest text at_).length ∧ k = 1 + (rest text at').length ∧ ∀ o, PMore a.re (rest text at') o → PAlt (rest text at_) o) ∨
    (okv = .bool false ∧ k = 0 ∧ (∃ i : Nat, left = .int .i64 i) ∧ PAlt (rest text at_) none))

set_option maxHeartbeats 2000000 in
theorem choices_any (n : Nat) (hC : ChoicesAt n) (B P : Nat) (text : ByteArray) (at_ : Nat) (ns : List (Nd Value)) (w : World) (hP : Pre B P text at_ ns w) (hn : (rest text at_).length ≤ n) :
    Calls Tryd.prog 22 #[.pointer (some ⟨P, 0, none⟩)] w (AltPost PAlt 0 B P text at_ ns w) := by
  have HP := hide hP
  have HN := hide hn
  clear hP hn
  go_enter Tryd.func22, Tryd.ntmps22
  go_wp2_with fail
  refine (pieces_any n hC B P text at_ ns w HP.out HN.out).mono ?_
  rintro e w1 hpost
  obtain ⟨left, okv, k0, rfl, hL⟩ : ∃ (i : Nat) (ok : Bool) (k0 : Nat), e = .returned (.tuple #[.int .i64 i, .bool ok]) ∧ ChLoop B P text at_ ns w k0 (.int .i64 i) (.bool ok) w1 := by
    rcases hpost with ⟨hF1, ⟨a, at1, ms, rfl, hA1, hP1, hR1, hb1⟩ | ⟨i, rfl, hA1⟩⟩
    · obtain ⟨rs, h1, h2⟩ := pcatR_some hA1
      exact ⟨a.ix, true, 1 + (rest text at1).length, rfl, hF1, .inl ⟨rfl, a, at1, ms, rfl, hP1, hR1, by omega, rfl, fun o ho => .one h1 (h2 ▸ ho)⟩⟩
    · exact ⟨i, false, 0, rfl, hF1, .inr ⟨rfl, rfl, ⟨i, rfl⟩, .bad (pcatR_none hA1)⟩⟩
  have HL := hide hL
  clear hL hpost
  go_wp2_with fail
  go_loopg [4, 5] k0 (fun k left okv wr => ChLoop B P text at_ ns w k left okv wr)
  case atStart => exact HL.out
  case round =>
    obtain ⟨hF, ⟨rfl, a, at1, ms, rfl, hP1, hR1, hb1, hk, hm⟩ | ⟨rfl, hk, ⟨i, rfl⟩, hm⟩⟩ := hrel
    · have HF := hide hF
      have HP1 := hide hP1
      have HR1 := hide hR1
      have HB1 := hide hb1
      have HK := hide hk
      have HM := hide hm
      have H0 := hide ((HP.out.eps.append (ms := ms)).world hF.stay)
      clear hF hP1 hR1 hb1 hk hm
      go_wp2_with fail
      refine (take_any 124 B P text at1 (ns ++ ms) wr HP1.out).mono ?_
      rintro e w2 ⟨r, at2, rfl, hP2, hF2, ⟨rfl, h2⟩ | ⟨rfl, hat2, h2⟩⟩
      · have HP2 := hide hP2
        have HF2 := hide hF2
        have H2 := hide h2
        have hl2 : (rest text at2).length + 1 = (rest text at1).length := by rw [h2]; rfl
        have HL2 := hide hl2
        have HPre := hide (show Pre B P text at2 (ns ++ ms) w2 from ⟨hP2, H0.out.world hF2.stay, by have := HP.out.bound; have := HB1.out; simp only [List.length_append]; omega⟩)
        clear hP2 hF2 h2 hl2
        go_wp2_with fail
        refine (pieces_any n hC B P text at2 (ns ++ ms) w2 HPre.out (by have := HN.out; have := HB1.out; have := HL2.out; omega)).mono ?_
        rintro e w3 ⟨hF3, ⟨a3, at3, ks, rfl, hA3, hP3, hR3, hb3⟩ | ⟨i, rfl, hA3⟩⟩
        · obtain ⟨rs, hc3, hre3⟩ := pcatR_some hA3
          have hRa : Rep (IsCls w3) (ns ++ ms ++ ks) a := ((HR1.out.world HF2.out.stay).world hF3.stay).append
          obtain ⟨x, hx, hxe⟩ := hRa.empty
          obtain ⟨y, hy, hye⟩ := hR3.empty
          have HE := hide (show Emp (ns ++ ms ++ ks) 3 a.ix a3.ix (a.re.nullable || a3.re.nullable) from .inr (.inr (.inr (.inr ⟨rfl, x, y, hx, hy, by rw [hxe, hye]⟩))))
          have HRa := hide hRa
          have HF3 := hide hF3
          have HP3 := hide hP3
          have HR3 := hide hR3
          have HB3 := hide hb3
          have HC3 := hide hc3
          have HRE := hide hre3
          have hlen : (ns ++ ms ++ ks).length ≤ 1000 := by have := HP.out.bound; have := HB1.out; have := HL2.out; simp only [List.length_append]; omega
          have HLen := hide hlen
          clear hF3 hA3 hP3 hR3 hb3 hc3 hre3 hRa hx hxe hy hye hlen
          go_wp2_with fail
          refine (add_any B P text at3 (ns ++ ms ++ ks) 3 a.ix a3.ix .nilFunc (a.re.nullable || a3.re.nullable) false w3 HP3.out HLen.out HE.out (.inl rfl)).mono ?_
          rintro e w4 ⟨rfl, hP4, hF4⟩
          have HP4 := hide hP4
          have HF4 := hide hF4
          clear hP4 hF4
          obtain ⟨j, hj⟩ : ∃ j, j = (ns ++ ms ++ ks).length := ⟨_, rfl⟩
          rw [← hj]
          have HJ := hide hj
          clear hj
          go_wp2_with fail
          go_roundg (1 + (rest text at3).length)
          case measure => have := HK.out; have := HL2.out; have := HB3.out; omega
          case rel =>
            refine ⟨((HF.out.trans HF2.out).trans HF3.out).trans HF4.out, .inl ⟨rfl, .alt j a a3, at3, ms ++ ks ++ [⟨3, .nilFunc, a.ix, a3.ix, a.re.nullable || a3.re.nullable⟩], rfl, ?_, ?_, ?_, rfl, ?_⟩⟩
            · rw [← List.append_assoc, ← List.append_assoc]; exact HP4.out
            · rw [← List.append_assoc, ← List.append_assoc]
              refine ⟨?_, ⟨.nilFunc, ?_⟩, (HRa.out.world HF4.out.stay).append, (HR3.out.world HF4.out.stay).append⟩
              · rw [HJ.out]; have := pos_of_eps H0.out; simp only [List.length_append] at this ⊢; omega
              · rw [HJ.out]; exact ix_last _
            · have h1 := HB1.out
              have h2 := HB3.out
              have h3 := HL2.out
              simp only [List.length_append, List.length_cons, List.length_nil]
              omega
            · intro o ho
              refine HM.out o ?_
              rw [H2.out]
              refine .more HC3.out ?_
              rw [← HRE.out]
              exact ho
        · have HF3 := hide hF3
          have HA3 := hide (pcatR_none hA3)
          clear hF3 hA3
          go_wp2_with fail
          go_roundg 0
          case measure => have := HK.out; omega
          case rel =>
            refine ⟨(HF.out.trans HF2.out).trans HF3.out, .inr ⟨rfl, rfl, ⟨a.ix, rfl⟩, HM.out none ?_⟩⟩
            rw [H2.out]
            exact .bad HA3.out
      · subst hat2
        have HP2 := hide hP2
        have HF2 := hide hF2
        have H2 := hide h2
        clear hP2 hF2 h2
        go_wp2_with fail
        go_ret2
        exact ⟨HF.out.trans HF2.out, .inl ⟨a, at2, ms, by simp, HM.out _ (.stop H2.out), HP2.out, HR1.out.world HF2.out.stay, by have := HB1.out; omega⟩⟩
    · have HF := hide hF
      have HM := hide hm
      clear hF hm hk
      go_wp2_with fail
      go_ret2
      exact ⟨HF.out, .inr ⟨i, by simp, HM.out⟩⟩

theorem choices_all (n : Nat) : ChoicesAt n := by
  induction n with
  | zero => intro B P text at_ ns w _ h; omega
  | succ n ih => intro B P text at_ ns w hP h; exact choices_any n ih B P text at_ ns w hP (by omega)
end Go.Proofs.YtgncgdkpkkdaeaaDoor
