/- What stands behind a class's bracket. -/
import Derived.Test.YtgncgdkpkkdaeaaDoorP4
import Derived.Deep.LoopGhost
namespace Go.Proofs.YtgncgdkpkkdaeaaDoor
open Go.RowKit Tint

/-- What the class's loop has come to: the class so far, the place. -/
def ClsLoop (B P : Nat) (text : ByteArray) (ns : List (Nd Value)) (w2 : World) (at2 : Nat) (c2 : Cls) (ok : Bool) (k : Nat) (has okv : Value) (wr : World) : Prop :=
  PFr B w2 wr ∧ ∃ at' c, Psr wr B P text at' ns ∧ IsCls wr has c ∧
      ((okv = .bool true ∧ ok = true ∧ k = 1 + (rest text at').length ∧ ∀ o, PRs c (rest text at') o → PRs c2 (rest text at2) o) ∨
       (okv = .bool false ∧ k = 0 ∧ (ok = true → PRs c2 (rest text at2) none)))

def ClsPost (B P : Nat) (text : ByteArray) (at_ : Nat) (ns : List (Nd Value)) (w : World) (e : Ending) (w' : World) : Prop :=
  PFr B w w' ∧ ∃ (v : Value) (at' : Nat) (c : Cls), Psr w' B P text at' ns ∧ IsCls w' v c ∧
    ((PClass (rest text at_) (some (c, rest text at')) ∧ e = .returned (.tuple #[v, .bool true])) ∨
     (PClass (rest text at_) none ∧ e = .returned (.tuple #[v, .bool false])))

set_option maxHeartbeats 1000000 in
theorem class_any (B P : Nat) (text : ByteArray) (at_ : Nat) (ns : List (Nd Value)) (w : World) (hP : Psr w B P text at_ ns) :
    Calls Tryd.prog 61 #[.pointer (some ⟨P, 0, none⟩)] w fun e w' =>
      ClsPost B P text at_ ns w e w' := by
  have HP := hide hP
  clear hP
  go_enter Tryd.func61, Tryd.ntmps61
  go_wp2_with fail
  refine (take_any 94 B P text at_ ns w HP.out).mono ?_
  rintro e w1 ⟨r, at1, rfl, hP1, hF1, hr1⟩
  have HP1 := hide hP1
  have HF1 := hide hF1
  have HR1 := hide hr1
  clear hP1 hF1 hr1
  go_wp2_with fail
  refine (oneRange_b B P text at1 ns w1 HP1.out).mono ?_
  rintro e w2 ⟨v, ok, at2, c2, rfl, hF2, hP2, hv2, h2⟩
  have HF2 := hide hF2
  have HP2 := hide hP2
  have HV2 := hide hv2
  have H2 := hide h2
  clear hF2 hP2 hv2 h2
  go_wp2_with fail
  go_loopg [5, 6] (if ok then 1 + (rest text at2).length else 0) (fun k has okv wr => ClsLoop B P text ns w2 at2 c2 ok k has okv wr)
  case atStart =>
    refine ⟨PFr.refl _ _, at2, c2, HP2.out, HV2.out, ?_⟩
    rcases H2.out with ⟨rfl, h⟩ | ⟨rfl, h⟩
    · exact .inl ⟨rfl, rfl, rfl, fun o h => h⟩
    · exact .inr ⟨rfl, rfl, fun h => by cases h⟩
  case round =>
    obtain ⟨hF3, at3, c3, hP3, hv3, ⟨rfl, hok, hk, hpr⟩ | ⟨rfl, hk, hpr⟩⟩ := hrel
    · have HP3 := hide hP3
      have HF3 := hide hF3
      have HV3 := hide hv3
      have HK := hide hk
      have HPR := hide hpr
      have HOK := hide hok
      clear hP3 hF3 hv3 hk hpr hok
      go_wp2_with fail
      refine (take_any 93 B P text at3 ns wr HP3.out).mono ?_
      rintro e w4 ⟨r4, at4, rfl, hP4, hF4, ⟨rfl, hr4⟩ | ⟨rfl, he4, hr4⟩⟩
      · have HP4 := hide hP4
        have HF4 := hide hF4
        have hfin : PRs c2 (rest text at2) (some (c3, rest text at4)) := HPR.out _ (by rw [hr4]; exact .stop)
        have HFIN := hide hfin
        clear hP4 hF4 hr4 hfin
        have h2 : pRange (rest text at1) = some (c2, rest text at2) := by
          rcases H2.out with h | h
          · exact h.2
          · rw [HOK.out] at h; cases h.1
        have H3 := hide h2
        clear h2
        rcases HR1.out with ⟨rfl, hR⟩ | ⟨rfl, hR⟩
        · have HR := hide hR
          clear hR
          go_wp2_with fail
          refine (allBut_any c3 u5 w4 (HV3.out.stay HF4.out.stay)).mono ?_
          rintro e w5 ⟨v5, rfl, hv5, hB5⟩
          have HV5 := hide hv5
          have HB5 := hide hB5
          clear hv5 hB5
          go_wp2_with fail
          go_ret2
          refine ⟨(((HF1.out.trans HF2.out).trans HF3.out).trans HF4.out).trans (PFr.of_below HB5.out), v5, at4, _, HP4.out.below HB5.out, HV5.out, .inl ⟨?_, by simp⟩⟩
          rw [HR.out]
          exact .neg H3.out HFIN.out
        · have HR := hide hR
          clear hR
          go_wp2_with fail
          go_ret2
          refine ⟨((HF1.out.trans HF2.out).trans HF3.out).trans HF4.out, u5, at4, c3, HP4.out, HV3.out.stay HF4.out.stay, .inl ⟨?_, by simp⟩⟩
          have h3 := H3.out
          rw [HR.out.1] at h3
          exact .pos HR.out.2 h3 HFIN.out
      · subst he4
        have HP4 := hide hP4
        have HF4 := hide hF4
        have HR4 := hide hr4
        clear hP4 hF4 hr4
        go_wp2_with fail
        refine (oneRange_b B P text at4 ns w4 HP4.out).mono ?_
        rintro e w5 ⟨v5, ok5, at5, c5, rfl, hF5, hP5, hv5, h5⟩
        have HF5 := hide hF5
        have HP5 := hide hP5
        have HV5 := hide hv5
        have H5 := hide h5
        clear hF5 hP5 hv5 h5
        go_wp2_with fail
        refine (either_any c3 c5 u5 v5 w5 (HV3.out.stay (HF4.out.stay.trans HF5.out.stay)) HV5.out).mono ?_
        rintro e w6 ⟨v6, rfl, hv6, hB6⟩
        have HV6 := hide hv6
        have HB6 := hide hB6
        clear hv6 hB6
        go_wp2_with fail
        go_roundg (if ok5 then 1 + (rest text at5).length else 0)
        case measure =>
          rw [HK.out]
          rcases H5.out with ⟨rfl, h⟩ | ⟨rfl, h⟩
          · have := pRange_len h; simp; omega
          · simp; omega
        case rel =>
          refine ⟨((HF3.out.trans HF4.out).trans HF5.out).trans (PFr.of_below HB6.out), at5, _, HP5.out.below HB6.out, HV6.out, ?_⟩
          rcases H5.out with ⟨rfl, h⟩ | ⟨rfl, h⟩
          · exact .inl ⟨rfl, HOK.out, rfl, fun o ho => HPR.out o (.more HR4.out h ho)⟩
          · exact .inr ⟨rfl, rfl, fun _ => HPR.out _ (.bad HR4.out h)⟩
    · have HP3 := hide hP3
      have HF3 := hide hF3
      have HV3 := hide hv3
      have HPR := hide hpr
      clear hP3 hF3 hv3 hpr hk
      rcases HR1.out with ⟨rfl, hR⟩ | ⟨rfl, hR⟩
      · have HR := hide hR
        clear hR
        go_wp2_with fail
        refine (allBut_any c3 u5 wr HV3.out).mono ?_
        rintro e w5 ⟨v5, rfl, hv5, hB5⟩
        have HV5 := hide hv5
        have HB5 := hide hB5
        clear hv5 hB5
        go_wp2_with fail
        go_ret2
        refine ⟨((HF1.out.trans HF2.out).trans HF3.out).trans (PFr.of_below HB5.out), v5, at3, _, HP3.out.below HB5.out, HV5.out, .inr ⟨?_, by simp⟩⟩
        rw [HR.out]
        rcases H2.out with ⟨h, h2⟩ | ⟨h, h2⟩
        · exact .neg h2 (HPR.out h)
        · exact .negBad h2
      · have HR := hide hR
        clear hR
        go_wp2_with fail
        go_ret2
        refine ⟨(HF1.out.trans HF2.out).trans HF3.out, u5, at3, c3, HP3.out, HV3.out, .inr ⟨?_, by simp⟩⟩
        rcases H2.out with ⟨h, h2⟩ | ⟨h, h2⟩
        · rw [HR.out.1] at h2
          exact .pos HR.out.2 h2 (HPR.out h)
        · rw [HR.out.1] at h2
          exact .posBad HR.out.2 h2
end Go.Proofs.YtgncgdkpkkdaeaaDoor
