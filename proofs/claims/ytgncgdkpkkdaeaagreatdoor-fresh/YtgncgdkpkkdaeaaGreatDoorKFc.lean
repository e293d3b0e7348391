import Derived.Test.YtgncgdkpkkdaeaaGreatDoorKFx
namespace Go.Proofs.YtgncgdkpkkdaeaaGreatDoor
open Go.RowKit Tint Go.Maps Go.Shelf
def AtPost (w : World) (e : Ending) (w' : World) : Prop := ∃ z : Int, e = .returned (.int .i64 z) ∧ (Lit.int .i64 z).wf = true ∧ w' = w
theorem at_any (v : Value) (len i : Nat) (w : World) (hR : Raws w v len) : Calls Tryz.prog 55 #[v, .int .i64 i] w (AtPost w) := by
 by_cases h : i < len
 ·rcases hR with ⟨_, rfl⟩ | ⟨a, cap, rfl, hl, hc⟩
  ·omega
  ·obtain ⟨z, hz, hwf⟩ := hc i h
   have g1 : decide ((i : Int) < (len : Int)) = true := decide_eq_true (by omega)
   clear hc
   go_enter Tryz.func55, Tryz.ntmps55
   go_wp2_with fail
   go_ret
   exact ⟨z, rfl, hwf, rfl⟩
 ·rcases hR with ⟨rfl, rfl⟩ | ⟨a, cap, rfl, hl, hc⟩
  ·have g1 : decide ((i : Int) < 0) = false := decide_eq_false (by omega)
   go_enter Tryz.func55, Tryz.ntmps55
   go_wp2_with fail
   go_ret
   exact ⟨0, rfl, by decide, rfl⟩
  ·have g1 : decide ((i : Int) < (len : Int)) = false := decide_eq_false (by omega)
   clear hc
   go_enter Tryz.func55, Tryz.ntmps55
   go_wp2_with fail
   go_ret
   exact ⟨0, rfl, by decide, rfl⟩
theorem spq_len (y : Sp) : y.cells.length = 5 := rfl
theorem spq_cell {w : World} {B pg n c : Nat} {sps : List Sp} (h : SpRow w B (.slice (some ⟨pg, 0, none⟩) n c) sps) {q : Nat} {y : Sp} {u : Nat} {v : Value} (hq : sps[q]? = some y) (hu : y.cells[u]? = some v) : w.cell? ⟨pg, q * 5 + u, none⟩ = some v := by
 obtain ⟨ao, c', hv⟩ := row_slice h
 cases hv
 refine (row_cell h ?_).1
 rw [List.flatMap_def, flatten_at (si := 5) (by intro r hr; obtain ⟨z, _, rfl⟩ := List.mem_map.1 hr; exact spq_len z) (r := y.cells) (by rw [List.getElem?_map, hq]; rfl) u (by have := get_lt hu; rw [spq_len] at this; exact this)]
 exact hu
def EqLoop (w : World) (n : Nat) (k : Nat) (vi : Value) (wr : World) : Prop := ∃ j : Nat, vi = .int .i64 j ∧ j + k = n ∧ Below w.heap.size w wr
set_option maxRecDepth 20000 in
set_option maxHeartbeats 1000000 in
theorem sameSpans_any (va vb : Value) (B1 B2 : Nat) (sps : List Sp) (w : World) (ha : SpRow w B1 va sps) (hb : SpRow w B2 vb sps) (hz : sps.length ≤ 100000) : Calls Tryz.prog 57 #[va, vb] w fun e w' => e = .returned (.bool true) ∧ Below w.heap.size w w' := by
 obtain ⟨ao, ac, rfl⟩ := row_slice ha
 obtain ⟨bo, bc, rfl⟩ := row_slice hb
 have HA := hide ha
 have HB := hide hb
 obtain ⟨n, hn⟩ : ∃ n, n = sps.length := ⟨_, rfl⟩
 have HN := hide hn
 rw [← hn] at hz ⊢
 rw [← hn] at HA HB
 clear ha hb hn
 go_enter Tryz.func57, Tryz.ntmps57
 go_wp2_with fail
 go_loopg [5] n (fun k vi wr => EqLoop w n k vi wr)
 case atStart => exact ⟨0, rfl, by omega, Below.refl _ _⟩
 case round =>
  obtain ⟨j, rfl, hk, hbr⟩ := hrel
  by_cases hlt : j < n
  ·have g1 : decide ((j : Int) < (n : Int)) = true := decide_eq_true (by omega)
   have hwr : IntKind.i64.wrap ((j : Int) + 1) = (j : Int) + 1 := by rw [IntKind.wrap_i64]; omega
   obtain ⟨z, hz'⟩ : ∃ z, sps[j]? = some z := ⟨_, List.getElem?_eq_getElem (by rw [← HN.out]; exact hlt)⟩
   have ra := row_typ HA.out (w' := wr) (fun k c hh => (hbr.block k (lt_of_get hh)).trans hh)
   have rb := row_typ HB.out (w' := wr) (fun k c hh => (hbr.block k (lt_of_get hh)).trans hh)
   obtain ⟨pa, _, hpa⟩ := own_form ra (by rw [← HN.out]; omega)
   obtain rfl : ao = some ⟨pa, 0, none⟩ := by injection hpa
   obtain ⟨pb, _, hpb⟩ := own_form rb (by rw [← HN.out]; omega)
   obtain rfl : bo = some ⟨pb, 0, none⟩ := by injection hpb
   have a0 := spq_cell ra hz' (u := 0) rfl
   have a1 := spq_cell ra hz' (u := 1) rfl
   have a2 := spq_cell ra hz' (u := 2) rfl
   have a3 := spq_cell ra hz' (u := 3) rfl
   have a4 := spq_cell ra hz' (u := 4) rfl
   have b0 := spq_cell rb hz' (u := 0) rfl
   have b1 := spq_cell rb hz' (u := 1) rfl
   have b2 := spq_cell rb hz' (u := 2) rfl
   have b3 := spq_cell rb hz' (u := 3) rfl
   have b4 := spq_cell rb hz' (u := 4) rfl
   rw [Nat.add_zero] at a0 b0
   have HBR := hide hbr
   clear ra rb hbr hz' hpa hpb
   go_wp2_with fail
   go_quiet (fail)
   go_wp2_with fail
   go_roundg (n - (j + 1))
   case measure => omega
   case rel => exact ⟨j + 1, by simp, by omega, Below.drewN' HBR.out _⟩
  ·have g1 : decide ((j : Int) < (n : Int)) = false := decide_eq_false (by omega)
   have HBR := hide hbr
   clear hbr
   go_wp2_with fail
   go_ret
   exact ⟨rfl, HBR.out⟩
set_option maxRecDepth 20000 in
set_option maxHeartbeats 1000000 in
theorem sameNames_any (va vb : Value) (B1 B2 : Nat) (nms : List ByteArray) (w : World) (ha : NmRow w B1 va nms) (hb : NmRow w B2 vb nms) (hz : nms.length ≤ 100000) : Calls Tryz.prog 32 #[va, vb] w fun e w' => e = .returned (.bool true) ∧ Below w.heap.size w w' := by
 obtain ⟨ao, ac, rfl⟩ := row_slice ha
 obtain ⟨bo, bc, rfl⟩ := row_slice hb
 have HA := hide ha
 have HB := hide hb
 obtain ⟨n, hn⟩ : ∃ n, n = nms.length := ⟨_, rfl⟩
 have HN := hide hn
 rw [← hn] at hz ⊢
 rw [← hn] at HA HB
 clear ha hb hn
 go_enter Tryz.func32, Tryz.ntmps32
 go_wp2_with fail
 go_loopg [5] n (fun k vi wr => EqLoop w n k vi wr)
 case atStart => exact ⟨0, rfl, by omega, Below.refl _ _⟩
 case round =>
  obtain ⟨j, rfl, hk, hbr⟩ := hrel
  by_cases hlt : j < n
  ·have g1 : decide ((j : Int) < (n : Int)) = true := decide_eq_true (by omega)
   have hwr : IntKind.i64.wrap ((j : Int) + 1) = (j : Int) + 1 := by rw [IntKind.wrap_i64]; omega
   obtain ⟨z, hz'⟩ : ∃ z, nms[j]? = some z := ⟨_, List.getElem?_eq_getElem (by rw [← HN.out]; exact hlt)⟩
   have ra := row_typ HA.out (w' := wr) (fun k c hh => (hbr.block k (lt_of_get hh)).trans hh)
   have rb := row_typ HB.out (w' := wr) (fun k c hh => (hbr.block k (lt_of_get hh)).trans hh)
   obtain ⟨pa, _, hpa⟩ := own_form ra (by rw [← HN.out]; omega)
   obtain rfl : ao = some ⟨pa, 0, none⟩ := by injection hpa
   obtain ⟨pb, _, hpb⟩ := own_form rb (by rw [← HN.out]; omega)
   obtain rfl : bo = some ⟨pb, 0, none⟩ := by injection hpb
   have a0 : wr.cell? ⟨pa, j, none⟩ = some (.string z) := by
    have h := ra
    rw [HN.out] at h
    exact (row_cell h (by rw [List.getElem?_map, hz']; rfl)).1
   have b0 : wr.cell? ⟨pb, j, none⟩ = some (.string z) := by
    have h := rb
    rw [HN.out] at h
    exact (row_cell h (by rw [List.getElem?_map, hz']; rfl)).1
   have HBR := hide hbr
   clear ra rb hbr hz' hpa hpb
   go_wp2_with fail
   go_quiet (fail)
   go_wp2_with fail
   go_roundg (n - (j + 1))
   case measure => omega
   case rel => exact ⟨j + 1, by simp, by omega, Below.drewN' HBR.out _⟩
  ·have g1 : decide ((j : Int) < (n : Int)) = false := decide_eq_false (by omega)
   have HBR := hide hbr
   clear hbr
   go_wp2_with fail
   go_ret
   exact ⟨rfl, HBR.out⟩
set_option maxRecDepth 20000 in
set_option maxHeartbeats 4000000 in
theorem keepSame_any (w : World) (k : KD) (t u : KT) (hk : KIs w k) (ht : KText w k t) (hu : KText w k u) (he : t.text = u.text) : Calls Tryz.prog 29 #[.pointer (some ⟨t.bX, 0, none⟩), .pointer (some ⟨u.bX, 0, none⟩)] w fun e w' => e = .returned (.bool true) ∧ Below w.heap.size w w' := by
 have hag : t.ls.map LE.pr = u.ls.map LE.pr := by
  obtain ⟨_, h1⟩ := ht.runs
  obtain ⟨_, h2⟩ := hu.runs
  rw [he] at h1
  exact (h1.det h2).1
 have hlen : t.ls.length = u.ls.length := by simpa using congrArg List.length hag
 have hn31 : t.ls.length ≤ 3001 := by
  obtain ⟨_, h1⟩ := ht.runs
  have h2 := h1.length
  rw [List.length_map, splitL_length] at h2
  have h3 := List.count_le_length (a := (10 : UInt8)) (l := t.text.data.toList)
  rw [text_length] at h3
  have := ht.sheet.size
  omega
 obtain ⟨nl, hnl⟩ : ∃ nl, nl = t.ls.length := ⟨_, rfl⟩
 have HK := hide (And.intro hk (And.intro ht hu))
 have HRT := hide (fun W (hb : Below w.heap.size w W) => txRead_any (ht.below hb).sheet (ht.below hb).tx)
 have HRU := hide (fun W (hb : Below w.heap.size w W) => txRead_any (hu.below hb).sheet (hu.below hb).tx)
 have HLT := hide (fun W (hb : Below w.heap.size w W) => txLines_any (ht.below hb).sheet (ht.below hb).tx)
 have HLU := hide (fun W (hb : Below w.heap.size w W) => txLines_any (hu.below hb).sheet (hu.below hb).tx)
 rw [← he] at HRU
 rw [← hlen, ← hnl] at HLU
 rw [← hnl] at HLT hn31
 have HAG := hide hag
 have HNL := hide (And.intro hnl hlen)
 clear hk ht hu he hag hlen hnl
 go_enter Tryz.func29, Tryz.ntmps29
 go_wp2_with fail
 refine (HRT.out w (Below.refl _ _)).mono ?_
 rintro e wq ⟨rfl, eq⟩
 subst wq
 go_wp2_with fail
 refine (HRU.out w (Below.refl _ _)).mono ?_
 rintro e wq ⟨rfl, eq⟩
 subst wq
 go_wp2_with fail
 refine (HLT.out w (Below.refl _ _)).mono ?_
 rintro e wq ⟨rfl, eq⟩
 subst wq
 go_wp2_with fail
 refine (HLU.out w (Below.refl _ _)).mono ?_
 rintro e wq ⟨rfl, eq⟩
 subst wq
 go_wp2_with fail
 go_loopg [5] nl (fun k vi wr => EqLoop w nl k vi wr)
 case atStart => exact ⟨0, rfl, by omega, Below.refl _ _⟩
 case round =>
  obtain ⟨j, rfl, hk, hbr⟩ := hrel
  have HBR := hide hbr
  clear hbr
  by_cases hlt : j < nl
  ·have g1 : decide ((j : Int) < (nl : Int)) = true := decide_eq_true (by omega)
   have hwr : IntKind.i64.wrap ((j : Int) + 1) = (j : Int) + 1 := by rw [IntKind.wrap_i64]; omega
   obtain ⟨x, hx⟩ : ∃ x, t.ls[j]? = some x := ⟨_, List.getElem?_eq_getElem (by rw [← HNL.out.1]; exact hlt)⟩
   obtain ⟨y, hy⟩ : ∃ y, u.ls[j]? = some y := ⟨_, List.getElem?_eq_getElem (by rw [← HNL.out.2, ← HNL.out.1]; exact hlt)⟩
   have hxy : x.st = y.st ∧ x.sps = y.sps := by
    have h1 := congrArg (·[j]?) HAG.out
    simp only [List.getElem?_map, hx, hy, Option.map_some, Option.some.injEq, LE.pr, Prod.mk.injEq] at h1
    exact h1
   have HX := hide (And.intro hx (And.intro hy hxy))
   have HGD := hide (HK.out.2.1.good HK.out.1)
   have HGU := hide (HK.out.2.2.good HK.out.1)
   have HT1 := hide (fun W (hb : Below w.heap.size w W) => txLine_any (j : Int) HGD.out.2 (HK.out.2.1.below hb).sheet (HK.out.2.1.below hb).tx)
   have HU1 := hide (fun W (hb : Below w.heap.size w W) => txLine_any (j : Int) HGU.out.2 (HK.out.2.2.below hb).sheet (HK.out.2.2.below hb).tx)
   have HT2 := hide (fun W (hb : Below w.heap.size w W) => txStack_any (j : Int) k.G HGD.out.1 ((HK.out.1.below hb).gram W (Below.refl _ _)) (HK.out.2.1.below hb).sheet (HK.out.2.1.below hb).tx)
   have HU2 := hide (fun W (hb : Below w.heap.size w W) => txStack_any (j : Int) k.G HGU.out.1 ((HK.out.1.below hb).gram W (Below.refl _ _)) (HK.out.2.2.below hb).sheet (HK.out.2.2.below hb).tx)
   have hbt : 0 ≤ (j : Int) ∧ (j : Int) < t.ls.length := ⟨by omega, by have := HNL.out.1; omega⟩
   have hbu : 0 ≤ (j : Int) ∧ (j : Int) < u.ls.length := ⟨by omega, by have := HNL.out.1; have := HNL.out.2; omega⟩
   have HBT := hide (And.intro hbt hbu)
   clear hx hy hxy hbt hbu
   go_wp2_with fail
   refine (HLT.out wr HBR.out).mono ?_
   rintro e wq ⟨rfl, eq⟩
   subst wq
   go_wp2_with fail
   refine (HT1.out wr HBR.out).mono ?_
   rintro e w1 ⟨hb1, ⟨hbad, rfl⟩ | ⟨j1, x1, v1, hj1, hx1, rfl, hs1⟩⟩
   ·exact absurd HBT.out.1 hbad
   obtain rfl : j1 = j := by omega
   rw [HX.out.1] at hx1
   cases hx1
   have HB1 := hide (HBR.out.trans (hb1.mono HBR.out.size))
   have HS1 := hide hs1
   obtain ⟨o1, c1, hv1⟩ := row_slice hs1
   subst hv1
   clear hb1 hs1 hj1
   go_wp2_with fail
   refine (HU1.out w1 HB1.out).mono ?_
   rintro e w2 ⟨hb2, ⟨hbad, rfl⟩ | ⟨j2, x2, v2, hj2, hx2, rfl, hs2⟩⟩
   ·exact absurd HBT.out.2 hbad
   obtain rfl : j2 = j1 := by omega
   rw [HX.out.2.1] at hx2
   cases hx2
   have HB2 := hide (HB1.out.trans (hb2.mono HB1.out.size))
   have hs1' := row_typ HS1.out (w' := w2) (fun k c hh => (hb2.block k (lt_of_get hh)).trans hh)
   rw [← HX.out.2.2.2] at hs2
   obtain ⟨o2, c2, hv2⟩ := row_slice hs2
   subst hv2
   have hm7 : x.sps.length ≤ 7000 := HGD.out.2 x (List.mem_of_getElem? HX.out.1)
   have HSS := hide (sameSpans_any _ _ _ _ x.sps w2 hs1' hs2 (by omega))
   have hye : y.sps.length = x.sps.length := by rw [HX.out.2.2.2]
   rw [hye] at *
   clear hb2 hs2 hs1' hj2 hye
   go_wp2_with fail
   refine HSS.out.mono ?_
   rintro e w3 ⟨rfl, hb3⟩
   have HB3 := hide (HB2.out.trans (hb3.mono HB2.out.size))
   clear hb3 HSS
   go_wp2_with fail
   refine (HT2.out w3 HB3.out).mono ?_
   rintro e w4 ⟨hb4, ⟨hbad, rfl⟩ | ⟨j4, x4, v4, hj4, hx4, rfl, hs4⟩⟩
   ·exact absurd HBT.out.1 hbad
   obtain rfl : j4 = j2 := by omega
   rw [HX.out.1] at hx4
   cases hx4
   have HB4 := hide (HB3.out.trans (hb4.mono HB3.out.size))
   have HS4 := hide hs4
   obtain ⟨o4, c4, hv4⟩ := row_slice hs4
   subst hv4
   clear hb4 hs4 hj4
   go_wp2_with fail
   refine (HU2.out w4 HB4.out).mono ?_
   rintro e w5 ⟨hb5, ⟨hbad, rfl⟩ | ⟨j5, x5, v5, hj5, hx5, rfl, hs5⟩⟩
   ·exact absurd HBT.out.2 hbad
   obtain rfl : j5 = j4 := by omega
   rw [HX.out.2.1] at hx5
   cases hx5
   have HB5 := hide (HB4.out.trans (hb5.mono HB4.out.size))
   have hs4' := row_typ HS4.out (w' := w5) (fun k c hh => (hb5.block k (lt_of_get hh)).trans hh)
   rw [← HX.out.2.2.1] at hs5
   obtain ⟨o5, c5, hv5⟩ := row_slice hs5
   subst hv5
   have HSN := hide (sameNames_any _ _ _ _ (nmsOf k.G x.st) w5 hs4' hs5 (by
    have h8 := (HGD.out.1 x (List.mem_of_getElem? HX.out.1)).1.2
    simp [nmsOf]
    omega))
   have hye : (nmsOf k.G y.st).length = (nmsOf k.G x.st).length := by rw [HX.out.2.2.1]
   rw [hye] at *
   clear hb5 hs5 hs4' hj5 hye
   go_wp2_with fail
   refine HSN.out.mono ?_
   rintro e w6 ⟨rfl, hb6⟩
   have HB6 := hide (HB5.out.trans (hb6.mono HB5.out.size))
   clear hb6 HSN
   go_wp2_with fail
   go_roundg (nl - (j5 + 1))
   case measure => omega
   case rel => exact ⟨j5 + 1, by simp, by omega, HB6.out⟩
  ·have g1 : decide ((j : Int) < (nl : Int)) = false := decide_eq_false (by omega)
   go_wp2_with fail
   refine (HLT.out wr HBR.out).mono ?_
   rintro e wq ⟨rfl, eq⟩
   subst wq
   go_wp2_with fail
   go_ret
   exact ⟨rfl, HBR.out⟩
theorem KIs.belowN {w w' : World} {k : KD} (h : KIs w k) (hb : Below k.N w w') : KIs w' k :=
 ⟨(hb.block _ h.hP).trans h.top, fun w2 hb2 => h.gram w2 (hb.trans hb2), Nat.le_trans h.hN hb.size, h.hP, h.ok, h.pos, h.code⟩
def KStep (w : World) (k : KD) (t : KT) (s' put : ByteArray) (a an : Nat) (w' : World) : Prop :=
 Off (fun i => i = t.bS) w w' ∧ Below t.B w w' ∧ ∃ t' : KT, KText w' k t' ∧ t'.text = s' ∧ t'.bX = t.bX ∧ t'.B = t.B ∧ s'.data.toList = t.text.data.toList.take a ++ put.data.toList ++ t.text.data.toList.drop an ∧
  t.work ≤ t'.work ∧ t'.work ≤ t.work + 3001 ∧ t'.work ≤ t.work + (1 + put.data.toList.count 10 + moreN (t.ls.map LE.st) (t'.ls.map LE.st) ((t.text.data.toList.drop an).count 10))
theorem KText.edit {w w' : World} {k : KD} {t : KT} (h : KText w k t) {a an : Nat} {put : ByteArray} (he : EdIs t.B t.bS k.g k.n k.cap k.G t.text t.ls t.work a an put w w') : ∃ s', KStep w k t s' put a an w' := by
 obtain ⟨o, text', lv', ls', work', sF, ht, hs, hr, h1, h2, h3⟩ := he
 have hz := lt_of_get h.sheet.sh
 refine ⟨text', o, ⟨o.os, o.tape, o.output, o.size, fun i hi => o.keep i ⟨by have := h.sheet.base; omega, by have := h.sheet.base; show ¬ i = t.bS; omega⟩⟩, ⟨t.bX, t.bS, lv', ls', work', t.B, text'⟩, ⟨off_typ o h.sheet.sh h.tx (by decide), hs, ⟨sF, hr⟩, h.hB, h.hX⟩, rfl, rfl, rfl, ht, h1, h3, h2⟩
theorem KStep.later {w w' w2 : World} {k : KD} {t : KT} {s' put : ByteArray} {a an : Nat} (h : KStep w k t s' put a an w') (hb : Below w'.heap.size w' w2) (hl : t.B ≤ w'.heap.size) : KStep w k t s' put a an w2 := by
 obtain ⟨h0, h1, t', h2, h3⟩ := h
 exact ⟨h0.trans (Off.of_below hb), h1.trans (hb.mono hl), t', h2.below hb, h3⟩
theorem KStep.earlier {w w1 w' : World} {k : KD} {t : KT} {s' put : ByteArray} {a an : Nat} (h : KStep w1 k t s' put a an w') (hb : Below w.heap.size w w1) (hl : t.B ≤ w.heap.size) : KStep w k t s' put a an w' := by
 obtain ⟨h0, h1, h2⟩ := h
 exact ⟨(Off.of_below hb).trans h0, (hb.mono hl).trans h1, h2⟩
theorem KText.lt {w : World} {k : KD} {t : KT} (h : KText w k t) : t.B ≤ w.heap.size := by
 have := lt_of_get h.sheet.sh
 have := h.sheet.base
 omega
def LLoop (w : World) (k : Nat) (vc vl : Value) (wr : World) : Prop :=
 ∃ (c j : Nat) (ao : Option Addr) (cp : Nat) (xs : List Value), vc = .int .i64 c ∧ vl = .slice ao j cp ∧ c < 1099511627776 ∧ j + k = 6 ∧ wr.ownsRow w.heap.size 3 1 (.slice ao j cp) j xs ∧ (∀ u ∈ xs, ∃ z, u = .int .i64 z ∧ (Lit.int .i64 z).wf = true) ∧ Below w.heap.size w wr
theorem raws_row {w : World} {B : Nat} {ao : Option Addr} {j cp : Nat} {xs : List Value} (h : w.ownsRow B 3 1 (.slice ao j cp) j xs) (hx : ∀ u ∈ xs, ∃ z, u = .int .i64 z ∧ (Lit.int .i64 z).wf = true) (hj : j ≤ 6) : Raws w (.slice ao j cp) j := by
 rcases h.2 with ⟨h1, h2⟩ | ⟨g, cap, cur, h1, _⟩
 ·exact .inl ⟨h1, h2⟩
 ·cases h1
  refine .inr ⟨_, _, rfl, by omega, fun q hq => ?_⟩
  obtain ⟨u, hu⟩ : ∃ u, xs[q]? = some u := ⟨_, List.getElem?_eq_getElem (by have := h.1; omega)⟩
  obtain ⟨z, rfl, hz⟩ := hx u (List.mem_of_getElem? hu)
  refine ⟨z, ?_, hz⟩
  rw [addr_add, Nat.zero_add]
  exact (row_cell h hu).1
theorem info_int1 : (Tryz.prog.info? 3).map (fun i => (i.zero, i.size, i.bytes)) = some (some (.int .i64 0), 1, 8) := by kernel_rfl
def KEditPost (w : World) (k : KD) (t : KT) (e : Ending) (w' : World) : Prop :=
 ∃ (s' put : ByteArray) (a n : Nat), e = .returned (.tuple #[.string s', .string put, .int .i64 a, .int .i64 n, .bool true]) ∧ a + n ≤ t.text.size ∧ s'.size ≤ 1000 ∧ put.size ≤ 200 ∧ KStep w k t s' put a (a + n) w'
set_option maxRecDepth 20000 in
set_option maxHeartbeats 4000000 in
theorem keepEdit_any (w : World) (k : KD) (t : KT) (v : Value) (len i : Nat) (hT : Tab w) (hM : Mx w) (h0 : 1 < k.N) (hMN : 0 < k.N) (hk : KIs w k) (ht : KText w k t) (hs : t.text.size ≤ 1000) (hw : t.work ≤ 1000000000) (hi : i ≤ 1000) (hR : Raws w v len) :
  Calls Tryz.prog 27 #[.pointer (some ⟨t.bX, 0, none⟩), .string t.text, v, .int .i64 i] w (KEditPost w k t) := by
 have HA0 := hide (at_any v len i w hR)
 have HA1 := hide (at_any v len (i + 1) w hR)
 have HA2 := hide (at_any v len (i + 2) w hR)
 obtain ⟨sE, hrE⟩ := ht.runs
 have HIN := hide (fun W (hb : Below w.heap.size w W) (a : Int) (put : ByteArray) => insert_any a put hk.ok hk.pos (hT.below hb) h0 ((hk.below hb).gram) ht.hB (hM.below hb) hMN (ht.below hb).sheet (ht.below hb).tx hrE (by omega))
 have HDE := hide (fun (a m : Int) => delete_any a m hk.ok hk.pos hT h0 hk.gram ht.hB hM hMN ht.sheet ht.tx hrE (by omega))
 have HKT := hide ht
 have w1 : IntKind.i64.wrap ((t.text.size : Int) + 1) = ((t.text.size + 1 : Nat) : Int) := by rw [IntKind.wrap_i64]; omega
 have w2 : IntKind.i64.wrap ((i : Int) + 1) = ((i + 1 : Nat) : Int) := by rw [IntKind.wrap_i64]; omega
 have w3 : IntKind.i64.wrap ((i : Int) + 2) = ((i + 2 : Nat) : Int) := by rw [IntKind.wrap_i64]; omega
 obtain ⟨n1, hn1⟩ : ∃ n1, n1 = t.text.size + 1 := ⟨_, rfl⟩
 obtain ⟨i1, hi1⟩ : ∃ i1, i1 = i + 1 := ⟨_, rfl⟩
 obtain ⟨i2, hi2⟩ : ∃ i2, i2 = i + 2 := ⟨_, rfl⟩
 rw [← hn1] at w1
 rw [← hi1] at w2 HA1
 rw [← hi2] at w3 HA2
 have HN1 := hide hn1
 have hn1z : 0 < n1 ∧ n1 ≤ 1001 := by omega
 clear hT hM hk ht hrE hR hn1 hi1 hi2
 go_enter Tryz.func27, Tryz.ntmps27
 go_wp2_with fail
 refine HA0.out.mono ?_
 rintro e wq ⟨z0, rfl, hz0, eq⟩
 subst wq
 go_wp2_with fail
 refine (pick_any z0 n1 w hz0 (by omega) (by omega)).mono ?_
 rintro e wq ⟨a, ha, rfl, eq⟩
 subst wq
 have haz : a ≤ t.text.size := by have := HN1.out; omega
 clear HA0
 go_wp2_with fail
 refine HA1.out.mono ?_
 rintro e wq ⟨z1, rfl, hz1, eq⟩
 subst wq
 go_wp2_with fail
 refine (pick_any z1 3 w hz1 (by omega) (by omega)).mono ?_
 rintro e wq ⟨r, hr3, rfl, eq⟩
 subst wq
 clear HA1
 by_cases hr0 : r = 0
 ·have q1 : ((r : Int) == 0) = true := by rw [hr0]; rfl
  obtain ⟨n2, hn2⟩ : ∃ n2, n2 = t.text.size - a + 1 := ⟨_, rfl⟩
  have w4 : IntKind.i64.wrap ((t.text.size : Int) - (a : Int)) = (t.text.size : Int) - (a : Int) := by rw [IntKind.wrap_i64]; omega
  have w5 : IntKind.i64.wrap ((t.text.size : Int) - (a : Int) + 1) = (n2 : Int) := by rw [IntKind.wrap_i64]; omega
  have HN2 := hide hn2
  have hn2z : 0 < n2 ∧ n2 ≤ 1001 := by omega
  clear hr0 hn2
  go_wp2_with fail
  refine HA2.out.mono ?_
  rintro e wq ⟨z2, rfl, hz2, eq⟩
  subst wq
  go_wp2_with fail
  refine (pick_any z2 n2 w hz2 (by omega) (by omega)).mono ?_
  rintro e wq ⟨m, hm, rfl, eq⟩
  subst wq
  have hmz : a + m ≤ t.text.size := by have := HN2.out; omega
  go_wp2_with fail
  refine (HDE.out (a : Int) (m : Int)).mono ?_
  rintro e w7 (⟨hbad, rfl, _⟩ | ⟨a', m', ha', hm', ham, rfl, he⟩)
  ·exact absurd ⟨by omega, by omega, by omega, by omega⟩ hbad
  ·obtain rfl : a' = a := by omega
   obtain rfl : m' = m := by omega
   obtain ⟨s', hst⟩ := HKT.out.edit he
   obtain ⟨am, ham2⟩ : ∃ am, am = a' + m' := ⟨_, rfl⟩
   have w6 : IntKind.i64.wrap ((a' : Int) + (m' : Int)) = (am : Int) := by rw [IntKind.wrap_i64]; omega
   have hamz : am ≤ t.text.size := by omega
   have hls : s'.data.toList = t.text.data.toList.take a' ++ t.text.data.toList.drop am := by
    obtain ⟨_, _, t', _, _, _, _, hl, _⟩ := hst
    rw [hl, ← ham2]
    simp
   have hteq : t.text.extract 0 a' ++ t.text.extract am t.text.size = s' := WideShapes.bytes_inj (by
    rw [hls, ByteArray.data_append, Array.toList_append, extract_list, extract_list, List.take_of_length_le (l := t.text.data.toList.drop am) (by rw [List.length_drop, text_length]; omega)]
    simp)
   have hsz' : s'.size ≤ 1000 := by
    have := congrArg List.length hls
    rw [text_length, List.length_append, List.length_take, List.length_drop, text_length] at this
    omega
   have HEND := hide (fun n => show KEditPost w k t (.returned (.tuple #[.string s', .string ⟨#[]⟩, .int .i64 a', .int .i64 m', .bool true])) (w7.drewN n) from ⟨s', ⟨#[]⟩, a', m', rfl, ham, hsz', by decide, hst.later (Below.drewN' (Below.refl _ _) n) (Nat.le_trans HKT.out.lt hst.2.1.size)⟩)
   have hc1 : ¬ 9223372036854775807 < a' + (t.text.size - am) := by omega
   clear hst he hls hsz' ham2 HDE HIN HA2
   go_wp2_with fail
   go_quiet (fail)
   go_wp2_with fail
   exact bodyPost_ret (v := .tuple #[.string s', .string ⟨#[]⟩, .int .i64 a', .int .i64 m', .bool true]) (by simp [results, Tryz.results27, go_sem, *]) rfl (HEND.out _)
 ·have q1 : ((r : Int) == 0) = false := by rw [beq_eq_false_iff_ne]; omega
  clear hr0
  go_wp2_with fail
  refine HA2.out.mono ?_
  rintro e wq ⟨z2, rfl, hz2, eq⟩
  subst wq
  go_wp2_with fail
  refine (pick_any z2 1099511627776 w hz2 (by omega) (by omega)).mono ?_
  rintro e wq ⟨c0, hc0, rfl, eq⟩
  subst wq
  clear HA2 HDE
  obtain ⟨i0, hi0, hz0', hs0, hby0⟩ := info_parts info_int1
  go_wp2_with fail
  go_loopg [16, 17] 6 (fun k vc vl wr => LLoop w k vc vl wr)
  case atStart => exact ⟨c0, 0, none, 0, [], rfl, rfl, hc0, rfl, World.ownsRow_nil _ _ _ _, fun u hu => by simp at hu, Below.refl _ _⟩
  case round =>
   obtain ⟨c, j, ao, cp, xs, rfl, rfl, hc, hj6, hrow, hxs, hbr⟩ := hrel
   by_cases hgo : 0 < c ∧ j < 6
   ·have q2 : decide ((0 : Int) < (c : Int)) = true := decide_eq_true (by omega)
    have q3 : decide ((j : Int) < 6) = true := decide_eq_true (by omega)
    have q3' : decide (j < 6) = true := decide_eq_true hgo.2
    have q2' : decide (0 < c) = true := decide_eq_true hgo.1
    have p3 : j < 6 := hgo.2
    have p2 : 0 < c := hgo.1
    obtain ⟨r13, hrd⟩ : ∃ r13, r13 = c % 13 := ⟨_, rfl⟩
    have hr13 : r13 < 13 := by omega
    have hrm : (c : Int) % 13 = (r13 : Int) := by omega
    obtain ⟨c2, hc2⟩ : ∃ c2, c2 = c / 13 := ⟨_, rfl⟩
    have hq : (c : Int) / 13 = (c2 : Int) := by omega
    have hc2z : c2 < 1099511627776 := by omega
    have HROW := hide (show (wr.alloc (.cells #[.int .i64 r13] 3)).ownsRow w.heap.size 3 1 (.slice ao j cp) j xs from row_keep hrow fun k hk => by obtain ⟨_, c, hc⟩ := row_type hrow hk; exact ((Below.refl _ _).alloc (Nat.le_refl _) _).block k (lt_of_get hc))
    have HNW := hide (fun (y : Nat) u (h : ([.int .i64 r13] : List Value)[y]? = some u) => show (wr.alloc (.cells #[.int .i64 r13] 3)).cell? ((⟨wr.heap.size, 0, none⟩ : Addr).add y) = some u from cell_new_row wr #[.int .i64 r13] _ y u h)
    have hbase : w.heap.size ≤ (wr.alloc (.cells #[.int .i64 r13] 3)).heap.size := by rw [World.size_alloc]; have := hbr.size; omega
    have HNX := hide (fun (v' : Value) (W4 : World) (hr : W4.ownsRow w.heap.size 3 1 v' (j + 1) (xs ++ [.int .i64 r13])) (hg : (wr.alloc (.cells #[.int .i64 r13] 3)).grownBy W4 (Value.slice ao j cp).ownBlock) => show LLoop w (6 - (j + 1)) (.int .i64 c2) v' W4 from by
     obtain ⟨ao', c', hv'⟩ := row_slice hr
     subst hv'
     have hb2 : Below w.heap.size w (wr.alloc (.cells #[.int .i64 r13] 3)) := hbr.alloc hbr.size _
     refine ⟨c2, j + 1, ao', c', _, rfl, rfl, hc2z, by omega, hr, fun u hu => ?_, hb2.trans (below_grown hb2.size hg fun k hk => (row_type hrow hk).1)⟩
     rcases List.mem_append.1 hu with hu | hu
     ·exact hxs u hu
     ·rw [List.mem_singleton.1 hu]
      exact ⟨r13, rfl, by simp [Lit.wf, IntKind.min, IntKind.max, IntKind.signed, IntKind.bits]; omega⟩)
    clear hrow hxs hbr hc2 hgo hrd
    go_wp2_with (at_builtin; go_loud (refine wpList_append_own_at _ rfl (.tmp 72) (.tmp 75) 57 rfl w.heap.size 3 i0 (.int .i64 0) 1 8 Tryz.underlying57 hi0 hz0' hs0 hby0 rfl (by decide) (.slice ao j cp) j xs (by rfl) HROW.out ⟨wr.heap.size, 0, none⟩ 1 1 [.int .i64 r13] (by rfl) rfl HNW.out (by simp [Value.oneCell']) (by unfold maxLen; omega) (by omega) hbase ?_; intro v' W4 hown hg _ _; have HST := hide (HNX.out v' W4 hown hg); obtain ⟨g', cap', rfl⟩ := own_form hown (by omega); clear hown hg HNX HROW HNW))
    go_wp2_with fail
    go_roundg (6 - (j + 1))
    case measure => omega
    case rel => exact HST.out
   ·have HDOC := hide (document_any _ _ wr (raws_row hrow hxs (by omega)))
    have HBR := hide hbr
    have hx2 : ¬ (0 < c ∧ j < 6) := hgo
    clear hrow hxs hbr hgo
    by_cases hc1 : 0 < c
    ·have q2 : decide ((0 : Int) < (c : Int)) = true := decide_eq_true (by omega)
     have q3 : decide ((j : Int) < 6) = false := decide_eq_false (by omega)
     have q3' : decide (j < 6) = false := decide_eq_false (by omega)
     have q2' : decide (0 < c) = true := decide_eq_true hc1
     have p3 : ¬ j < 6 := by omega
     go_wp2_with fail
     refine HDOC.out.mono ?_
     rintro e w8 ⟨x, rfl, hxz, hb8⟩
     have HB8 := hide (HBR.out.trans (hb8.mono HBR.out.size))
     have wzz : IntKind.i64.wrap ((t.text.size : Int) + (x.size : Int)) = (t.text.size : Int) + (x.size : Int) := by rw [IntKind.wrap_i64]; omega
     clear hb8 HDOC HBR
     by_cases hbig : 1000 < t.text.size + x.size
     ·have q5 : decide ((1000 : Int) < (t.text.size : Int) + (x.size : Int)) = true := decide_eq_true (by omega)
      go_wp2_with fail
      refine (HIN.out w8 HB8.out (a : Int) ⟨#[]⟩).mono ?_
      rintro e w9 (⟨hbad, rfl, _⟩ | ⟨_, hbad, rfl, _⟩ | ⟨a', ha', _, _, rfl, he⟩)
      ·exact absurd ⟨by omega, by omega⟩ hbad
      ·exact absurd hbad (by show ¬ 3000 < t.text.size + 0; omega)
      obtain rfl : a' = a := by omega
      obtain ⟨s', hst⟩ := (HKT.out.below HB8.out).edit he
      have hls : s'.data.toList = t.text.data.toList.take a' ++ (⟨#[]⟩ : ByteArray).data.toList ++ t.text.data.toList.drop a' := by
       obtain ⟨_, _, t', _, _, _, _, hl, _⟩ := hst
       exact hl
      have hteq : t.text.extract 0 a' ++ ⟨#[]⟩ ++ t.text.extract a' t.text.size = s' := WideShapes.bytes_inj (by
       rw [hls, ByteArray.data_append, ByteArray.data_append, Array.toList_append, Array.toList_append, extract_list, extract_list, List.take_of_length_le (l := t.text.data.toList.drop a') (by rw [List.length_drop, text_length]; omega)]
       simp)
      have hsz' : s'.size ≤ 1000 := by
       have := congrArg List.length hls
       rw [text_length, List.length_append, List.length_append, List.length_take, List.length_drop, text_length, text_length] at this
       (have e0 : (⟨#[]⟩ : ByteArray).size = 0 := rfl; omega)
      have HEND := hide (fun n => show KEditPost w k t (.returned (.tuple #[.string s', .string ⟨#[]⟩, .int .i64 a', .int .i64 0, .bool true])) (w9.drewN n) from ⟨s', ⟨#[]⟩, a', 0, rfl, haz, hsz', by decide, (hst.earlier HB8.out HKT.out.lt).later (Below.drewN' (Below.refl _ _) n) (Nat.le_trans (HKT.out.below HB8.out).lt hst.2.1.size)⟩)
      have hc3 : ¬ 9223372036854775807 < a' + 0 := by omega
      have hc4 : ¬ 9223372036854775807 < a' + (t.text.size - a') := by omega
      have hc5 : ¬ 9223372036854775807 < a' := by omega
      clear hst he hls hsz' HIN
      go_wp2_with fail
      go_quiet (fail)
      go_wp2_with fail
      exact bodyPost_ret (v := .tuple #[.string s', .string ⟨#[]⟩, .int .i64 a', .int .i64 0, .bool true]) (by simp [results, Tryz.results27, go_sem, *]) rfl (HEND.out _)
     ·have q5 : decide ((1000 : Int) < (t.text.size : Int) + (x.size : Int)) = false := decide_eq_false (by omega)
      go_wp2_with fail
      refine (HIN.out w8 HB8.out (a : Int) x).mono ?_
      rintro e w9 (⟨hbad, rfl, _⟩ | ⟨_, hbad, rfl, _⟩ | ⟨a', ha', _, _, rfl, he⟩)
      ·exact absurd ⟨by omega, by omega⟩ hbad
      ·omega
      obtain rfl : a' = a := by omega
      obtain ⟨s', hst⟩ := (HKT.out.below HB8.out).edit he
      have hls : s'.data.toList = t.text.data.toList.take a' ++ (x : ByteArray).data.toList ++ t.text.data.toList.drop a' := by
       obtain ⟨_, _, t', _, _, _, _, hl, _⟩ := hst
       exact hl
      have hteq : t.text.extract 0 a' ++ x ++ t.text.extract a' t.text.size = s' := WideShapes.bytes_inj (by
       rw [hls, ByteArray.data_append, ByteArray.data_append, Array.toList_append, Array.toList_append, extract_list, extract_list, List.take_of_length_le (l := t.text.data.toList.drop a') (by rw [List.length_drop, text_length]; omega)]
       simp)
      have hsz' : s'.size ≤ 1000 := by
       have := congrArg List.length hls
       rw [text_length, List.length_append, List.length_append, List.length_take, List.length_drop, text_length, text_length] at this
       omega
      have HEND := hide (fun n => show KEditPost w k t (.returned (.tuple #[.string s', .string x, .int .i64 a', .int .i64 0, .bool true])) (w9.drewN n) from ⟨s', x, a', 0, rfl, haz, hsz', hxz, (hst.earlier HB8.out HKT.out.lt).later (Below.drewN' (Below.refl _ _) n) (Nat.le_trans (HKT.out.below HB8.out).lt hst.2.1.size)⟩)
      have hc3 : ¬ 9223372036854775807 < a' + x.size := by omega
      have hc4 : ¬ 9223372036854775807 < a' + x.size + (t.text.size - a') := by omega
      clear hst he hls hsz' HIN
      go_wp2_with fail
      go_quiet (fail)
      go_wp2_with fail
      exact bodyPost_ret (v := .tuple #[.string s', .string x, .int .i64 a', .int .i64 0, .bool true]) (by simp [results, Tryz.results27, go_sem, *]) rfl (HEND.out _)
    ·have q2 : decide ((0 : Int) < (c : Int)) = false := decide_eq_false (by omega)
     have q2' : decide (0 < c) = false := decide_eq_false (by omega)
     go_wp2_with fail
     refine HDOC.out.mono ?_
     rintro e w8 ⟨x, rfl, hxz, hb8⟩
     have HB8 := hide (HBR.out.trans (hb8.mono HBR.out.size))
     have wzz : IntKind.i64.wrap ((t.text.size : Int) + (x.size : Int)) = (t.text.size : Int) + (x.size : Int) := by rw [IntKind.wrap_i64]; omega
     clear hb8 HDOC HBR
     by_cases hbig : 1000 < t.text.size + x.size
     ·have q5 : decide ((1000 : Int) < (t.text.size : Int) + (x.size : Int)) = true := decide_eq_true (by omega)
      go_wp2_with fail
      refine (HIN.out w8 HB8.out (a : Int) ⟨#[]⟩).mono ?_
      rintro e w9 (⟨hbad, rfl, _⟩ | ⟨_, hbad, rfl, _⟩ | ⟨a', ha', _, _, rfl, he⟩)
      ·exact absurd ⟨by omega, by omega⟩ hbad
      ·exact absurd hbad (by show ¬ 3000 < t.text.size + 0; omega)
      obtain rfl : a' = a := by omega
      obtain ⟨s', hst⟩ := (HKT.out.below HB8.out).edit he
      have hls : s'.data.toList = t.text.data.toList.take a' ++ (⟨#[]⟩ : ByteArray).data.toList ++ t.text.data.toList.drop a' := by
       obtain ⟨_, _, t', _, _, _, _, hl, _⟩ := hst
       exact hl
      have hteq : t.text.extract 0 a' ++ ⟨#[]⟩ ++ t.text.extract a' t.text.size = s' := WideShapes.bytes_inj (by
       rw [hls, ByteArray.data_append, ByteArray.data_append, Array.toList_append, Array.toList_append, extract_list, extract_list, List.take_of_length_le (l := t.text.data.toList.drop a') (by rw [List.length_drop, text_length]; omega)]
       simp)
      have hsz' : s'.size ≤ 1000 := by
       have := congrArg List.length hls
       rw [text_length, List.length_append, List.length_append, List.length_take, List.length_drop, text_length, text_length] at this
       (have e0 : (⟨#[]⟩ : ByteArray).size = 0 := rfl; omega)
      have HEND := hide (fun n => show KEditPost w k t (.returned (.tuple #[.string s', .string ⟨#[]⟩, .int .i64 a', .int .i64 0, .bool true])) (w9.drewN n) from ⟨s', ⟨#[]⟩, a', 0, rfl, haz, hsz', by decide, (hst.earlier HB8.out HKT.out.lt).later (Below.drewN' (Below.refl _ _) n) (Nat.le_trans (HKT.out.below HB8.out).lt hst.2.1.size)⟩)
      have hc3 : ¬ 9223372036854775807 < a' + 0 := by omega
      have hc4 : ¬ 9223372036854775807 < a' + (t.text.size - a') := by omega
      have hc5 : ¬ 9223372036854775807 < a' := by omega
      clear hst he hls hsz' HIN
      go_wp2_with fail
      go_quiet (fail)
      go_wp2_with fail
      exact bodyPost_ret (v := .tuple #[.string s', .string ⟨#[]⟩, .int .i64 a', .int .i64 0, .bool true]) (by simp [results, Tryz.results27, go_sem, *]) rfl (HEND.out _)
     ·have q5 : decide ((1000 : Int) < (t.text.size : Int) + (x.size : Int)) = false := decide_eq_false (by omega)
      go_wp2_with fail
      refine (HIN.out w8 HB8.out (a : Int) x).mono ?_
      rintro e w9 (⟨hbad, rfl, _⟩ | ⟨_, hbad, rfl, _⟩ | ⟨a', ha', _, _, rfl, he⟩)
      ·exact absurd ⟨by omega, by omega⟩ hbad
      ·omega
      obtain rfl : a' = a := by omega
      obtain ⟨s', hst⟩ := (HKT.out.below HB8.out).edit he
      have hls : s'.data.toList = t.text.data.toList.take a' ++ (x : ByteArray).data.toList ++ t.text.data.toList.drop a' := by
       obtain ⟨_, _, t', _, _, _, _, hl, _⟩ := hst
       exact hl
      have hteq : t.text.extract 0 a' ++ x ++ t.text.extract a' t.text.size = s' := WideShapes.bytes_inj (by
       rw [hls, ByteArray.data_append, ByteArray.data_append, Array.toList_append, Array.toList_append, extract_list, extract_list, List.take_of_length_le (l := t.text.data.toList.drop a') (by rw [List.length_drop, text_length]; omega)]
       simp)
      have hsz' : s'.size ≤ 1000 := by
       have := congrArg List.length hls
       rw [text_length, List.length_append, List.length_append, List.length_take, List.length_drop, text_length, text_length] at this
       omega
      have HEND := hide (fun n => show KEditPost w k t (.returned (.tuple #[.string s', .string x, .int .i64 a', .int .i64 0, .bool true])) (w9.drewN n) from ⟨s', x, a', 0, rfl, haz, hsz', hxz, (hst.earlier HB8.out HKT.out.lt).later (Below.drewN' (Below.refl _ _) n) (Nat.le_trans (HKT.out.below HB8.out).lt hst.2.1.size)⟩)
      have hc3 : ¬ 9223372036854775807 < a' + x.size := by omega
      have hc4 : ¬ 9223372036854775807 < a' + x.size + (t.text.size - a') := by omega
      clear hst he hls hsz' HIN
      go_wp2_with fail
      go_quiet (fail)
      go_wp2_with fail
      exact bodyPost_ret (v := .tuple #[.string s', .string x, .int .i64 a', .int .i64 0, .bool true]) (by simp [results, Tryz.results27, go_sem, *]) rfl (HEND.out _)
end Go.Proofs.YtgncgdkpkkdaeaaGreatDoor
