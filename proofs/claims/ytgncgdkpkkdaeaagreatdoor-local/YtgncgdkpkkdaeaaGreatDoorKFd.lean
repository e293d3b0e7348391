import Derived.Test.YtgncgdkpkkdaeaaGreatDoorKFc
namespace Go.Proofs.YtgncgdkpkkdaeaaGreatDoor
open Go.RowKit Tint Go.Maps Go.Shelf
def FrLoop (w : World) (kd : KD) (bX B : Nat) (k : Nat) (vs vi : Value) (wr : World) : Prop :=
 ∃ (i : Nat) (t : KT), vi = .int .i64 i ∧ vs = .string t.text ∧ k = 90 - i ∧ i ≤ 92 ∧ KIs wr kd ∧ KText wr kd t ∧ t.bX = bX ∧ t.B = B ∧ t.text.size ≤ 1000 ∧ t.work ≤ 3001 * (i + 1) ∧ Below w.heap.size w wr
set_option maxRecDepth 20000 in
set_option maxHeartbeats 4000000 in
theorem fresh_walk (v ve : Value) (len le : Nat) (w : World) (hT : Tab w) (hm : Mx w) (hR : Raws w v len) (hE : Raws w ve le) : Calls Tryz.prog 9 #[v, ve] w fun e w' => e = .returned (.bool true) ∧ Below w.heap.size w w' := by
 have HD := hide (document_any v len w hR)
 have HK := hide (And.intro hT hm)
 have HE := hide hE
 have t0 : 1 < w.heap.size := cell_lt (hT 0 (by decide))
 have m0 : 0 < w.heap.size := by obtain ⟨m, h⟩ := hm; exact cell_lt h
 obtain ⟨eo, ec, hve, hle⟩ : ∃ eo ec, ve = .slice eo le ec ∧ le ≤ 17592186044416 := by
  rcases hE with ⟨h1, h2⟩ | ⟨a, cap, h1, h2, _⟩
  ·exact ⟨none, 0, by rw [h1, h2], by omega⟩
  ·exact ⟨_, _, h1, h2⟩
 subst hve
 clear hT hm hR hE
 go_enter Tryz.func9, Tryz.ntmps9
 go_wp2_with fail
 refine HD.out.mono ?_
 rintro e w1 ⟨s, rfl, hsz, hb1⟩
 have HO := hide (kOpened_any s w1 (HK.out.1.below hb1) (HK.out.2.below hb1) (by omega))
 have HB1 := hide hb1
 clear hb1 HD
 go_wp2_with fail
 refine HO.out.mono ?_
 rintro e w2 ⟨hb2, kd, t, rfl, hki, hkt, hts, htw, hN⟩
 have hbw2 := HB1.out.trans (hb2.mono HB1.out.size)
 have hNw : w.heap.size ≤ kd.N := Nat.le_trans HB1.out.size hN
 have htl : t.ls.length ≤ 3001 := by
  obtain ⟨_, h1⟩ := hkt.runs
  have h2 := h1.length
  rw [List.length_map, splitL_length] at h2
  have h3 := List.count_le_length (a := (10 : UInt8)) (l := t.text.data.toList)
  rw [text_length] at h3
  have := hkt.sheet.size
  omega
 have HJ0 := hide (show FrLoop w kd t.bX t.B 90 (.string s) (.int .i64 0) w2 from ⟨0, t, rfl, by rw [hts], rfl, by omega, hki, hkt, rfl, rfl, by rw [hts]; omega, by omega, hbw2⟩)
 have hNB : kd.N ≤ t.B := hkt.hB
 obtain ⟨bX, hbX⟩ : ∃ bX, bX = t.bX := ⟨_, rfl⟩
 obtain ⟨B, hB⟩ : ∃ B, B = t.B := ⟨_, rfl⟩
 rw [← hbX, ← hB] at HJ0
 rw [← hB] at hNB
 rw [← hbX]
 clear hb2 hki hkt hts htw hN HO hbw2 hbX hB htl
 go_wp2_with fail
 go_loopg [5, 8] 90 (fun k vs vi wr => FrLoop w kd bX B k vs vi wr)
 case atStart => exact HJ0.out
 case round =>
  obtain ⟨i, t, rfl, rfl, hk, hi, hki, hkt, hX, hB, hsz2, hw2, hbr⟩ := hrel
  have HBR := hide hbr
  by_cases hgo : i < le ∧ i < 90
  ·have q1 : decide ((i : Int) < (le : Int)) = true := decide_eq_true (by omega)
   have q2 : decide ((i : Int) < 90) = true := decide_eq_true (by omega)
   have q1' : decide (i < le) = true := decide_eq_true hgo.1
   have q2' : decide (i < 90) = true := decide_eq_true hgo.2
   have p1 : i < le := hgo.1
   have p2 : i < 90 := hgo.2
   have hwi : IntKind.i64.wrap ((i : Int) + 3) = (i : Int) + 3 := by rw [IntKind.wrap_i64]; omega
   have HED := hide (keepEdit_any wr kd t (.slice eo le ec) le i (HK.out.1.below hbr) (HK.out.2.below hbr) (by omega) (by omega) hki hkt hsz2 (by omega) (by omega) (HE.out.below hbr))
   rw [hX] at HED
   have HKI := hide hki
   have HKT := hide hkt
   clear hki hkt hbr hgo
   go_wp2_with fail
   refine HED.out.mono ?_
   rintro e w3 ⟨s', put, a, n, rfl, han, hs1, hp2, hst⟩
   obtain ⟨_, hb3, t3, ht3, hts3, hX3, hB3, _, _, hw3, _⟩ := hst
   have hk3 : KIs w3 kd := HKI.out.belowN (hb3.mono HKT.out.hB)
   have hbw3 : Below w.heap.size w w3 := HBR.out.trans (hb3.mono (by rw [hB]; omega))
   rw [hX] at hX3
   rw [hB] at hB3
   have hrd := txRead_any ht3.sheet ht3.tx
   rw [hX3, hts3] at hrd
   have HRD := hide hrd
   have hn0 : 0 < kd.n := by
    have h1 := (hk3.gram w3 (Below.refl _ _)).len
    have h2 := hk3.pos
    omega
   have HOP := hide (open_any kd.N kd.P kd.g kd.n kd.cap kd.G s' w3 hk3.top hn0 hk3.ok hk3.pos (HK.out.1.below hbw3) (by omega) hk3.gram hk3.hN (HK.out.2.below hbw3) (by omega))
   have HK3 := hide hk3
   have HT3 := hide ht3
   have HBW3 := hide hbw3
   have HTS3 := hide hts3
   have HX3 := hide (And.intro hX3 hB3)
   clear hb3 ht3 hk3 hbw3 hrd hn0 han hts3 hX3 hB3 HED
   go_wp2_with fail
   refine HRD.out.mono ?_
   rintro e w4 ⟨rfl, e4⟩
   subst w4
   clear HRD
   go_wp2_with fail
   refine HOP.out.mono ?_
   rintro e w5 ⟨hb5, ⟨hbad, rfl⟩ | ⟨_, bX5, bS5, lv5, ls5, st5, rfl, hx5, hbX5, hs5, hr5⟩⟩
   ·omega
   ·have hu : KText w5 kd ⟨bX5, bS5, lv5, ls5, ls5.length, w3.heap.size, s'⟩ := ⟨hx5, hs5, ⟨st5, hr5⟩, HK3.out.hN, hbX5⟩
    have hsm := keepSame_any w5 kd t3 _ (HK3.out.below hb5) (HT3.out.below hb5) hu HTS3.out
    rw [HX3.out.1] at hsm
    have HSM := hide hsm
    have HB5 := hide hb5
    clear hb5 hx5 hs5 hr5 hu hsm HOP
    go_wp2_with fail
    refine HSM.out.mono ?_
    rintro e w6 ⟨rfl, hb6⟩
    have HNX := hide (show FrLoop w kd bX B (90 - (i + 3)) (.string s') (.int .i64 ((i : Int) + 3)) w6 from by
     have hb36 : Below w3.heap.size w3 w6 := HB5.out.trans (hb6.mono HB5.out.size)
     refine ⟨i + 3, t3, by simp, by rw [HTS3.out], rfl, by omega, HK3.out.below hb36, HT3.out.below hb36, HX3.out.1, HX3.out.2, by rw [HTS3.out]; exact hs1, by omega, HBW3.out.trans (hb36.mono HBW3.out.size)⟩)
    clear hb6 HSM
    go_wp2_with fail
    go_roundg (90 - (i + 3))
    case measure => omega
    case rel => exact HNX.out
  ·have HEND := hide hbr
   clear hki hkt hbr
   by_cases h1 : i < le
   ·have q1 : decide ((i : Int) < (le : Int)) = true := decide_eq_true (by omega)
    have q2 : decide ((i : Int) < 90) = false := decide_eq_false (by omega)
    have q1' : decide (i < le) = true := decide_eq_true h1
    have q2' : decide (i < 90) = false := decide_eq_false (by omega)
    have p2 : ¬ i < 90 := by omega
    clear hgo
    go_wp2_with fail
    go_ret
    exact ⟨rfl, HEND.out⟩
   ·have q1 : decide ((i : Int) < (le : Int)) = false := decide_eq_false (by omega)
    have q1' : decide (i < le) = false := decide_eq_false h1
    clear hgo
    go_wp2_with fail
    go_ret
    exact ⟨rfl, HEND.out⟩
end Go.Proofs.YtgncgdkpkkdaeaaGreatDoor
