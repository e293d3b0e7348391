import Derived.Test.YtgncgdkpkkdaeaaGreatDoorK1
namespace Go.Proofs.YtgncgdkpkkdaeaaGreatDoor
open Go.RowKit Tint Go.Maps Go.Shelf
attribute [local go_sem] Oper.semAt_some
set_option maxRecDepth 20000 in
set_option maxHeartbeats 4000000 in
theorem colour_any (N bS g n cap : Nat) (G : List GS) (text : ByteArray) (st0 : List Nat) (touched : Nat) (bv : Value) (bs : List (List Nat)) (tx : ByteArray) (lv : Value) (work : Nat) (w : World)
  (hok : GOk G) (hgood : Good G st0) (hz : text.size ≤ 3000) (hwk : work ≤ 1000000000000000000) (hT : Tab w) (h0 : 1 < N) (hG : ∀ w', Below N w w' → GramIs w' g n cap G) (hN : N ≤ bS) (hM : Mx w) (hMN : 0 < N)
  (hS : w.heap[bS]? = some (.cells #[.slice (some ⟨g, 0, none⟩) n cap, .string tx, lv, .int .i64 work] 134 (0, 0))) (hb : BehAt w bS bv bs) (hlen : (splitL text.data.toList).length = touched + bs.length) :
  Calls Tryz.prog 69 #[.pointer (some ⟨bS, 0, none⟩), .string text, stv st0, .int .i64 touched, bv] w (ColPost bS g n cap G text.data.toList st0 touched bs tx lv work w) := by
 refine (callsIn_wide (n := 9)).1 (callsIn_of_wp_marks Tryz.func69 rfl trivial (wpIn_wide.2 ?_))
 simp only [Tryz.ntmps69, List.size_toArray, List.length_cons, List.length_nil, Nat.reduceAdd, Nat.reduceSub, Array.replicate_succ, Array.replicate_zero, List.push_toArray, List.append_toArray, List.nil_append, List.cons_append]
 obtain ⟨a0, a1, a2, a3, a4, a5, a6, a7, a8, hst⟩ := nine hgood.1.2
 obtain ⟨bao, bcp, hbv, hb1, hb2⟩ := hb
 subst hbv
 unfold stv
 rw [hst]
 obtain ⟨q, hq⟩ : ∃ q, q = w.heap.size := ⟨_, rfl⟩
 obtain ⟨W0, hW0⟩ : ∃ W0, (((w.alloc (.cells #[.pointer (some ⟨bS, 0, none⟩)] 44)).alloc (.cells #[.int .i64 a0, .int .i64 a1, .int .i64 a2, .int .i64 a3, .int .i64 a4, .int .i64 a5, .int .i64 a6, .int .i64 a7, .int .i64 a8] 138)).alloc (.cells #[.int .i64 touched] 3)).alloc (.cells #[.slice bao bs.length bcp] 132) = W0 := ⟨_, rfl⟩
 have hbS : bS < q := by rw [hq]; exact lt_of_get hS
 have hs0 : W0.heap.size = q + 4 := by rw [← hW0, hq]; simp
 have hB0 : Below w.heap.size w W0 := by
  rw [← hW0]
  exact ((((Below.refl _ _).alloc (Nat.le_refl _) _).alloc (by simp) _).alloc (by simp; omega) _).alloc (by simp; omega) _
 have HW0 := hide (show W0.heap[q]? = some (.cells #[.pointer (some ⟨bS, 0, none⟩)] 44 (0, 0)) ∧ W0.heap[q + 1]? = some (.cells #[.int .i64 a0, .int .i64 a1, .int .i64 a2, .int .i64 a3, .int .i64 a4, .int .i64 a5, .int .i64 a6, .int .i64 a7, .int .i64 a8] 138 (0, 0)) ∧ W0.heap[q + 1 + 1]? = some (.cells #[.int .i64 touched] 3 (0, 0)) ∧ W0.heap[q + 1 + 1 + 1]? = some (.cells #[.slice bao bs.length bcp] 132 (0, 0)) from by
  rw [← hW0]
  refine ⟨heap_alloc_old (heap_alloc_old (heap_alloc_old (heap_alloc_at _ _ _ hq))), heap_alloc_old (heap_alloc_old (heap_alloc_at _ _ _ (by simp [hq]))), heap_alloc_old (heap_alloc_at _ _ _ (by simp [hq])), heap_alloc_at _ _ _ (by simp [hq])⟩)
 have s0 : W0.cell? ⟨w.heap.size, 0, none⟩ = some (.pointer (some ⟨bS, 0, none⟩)) := by have h1 := HW0.out.1; rw [hq] at h1; simp [World.cell?, h1]
 have s1 : W0.cell? ⟨bS, 0, none⟩ = some (.slice (some ⟨g, 0, none⟩) n cap) := by have h1 := (hB0.block _ (lt_of_get hS)).trans hS; simp [World.cell?, h1]
 have HNW := hide (new_any g n cap G W0 (hT.keep (hB0.block _ (by omega))) (by omega) (hG W0 (hB0.mono (by omega))))
 have HS := hide hS
 have HG := hide hG
 have HB2 := hide hb2
 have HB0 := hide hB0
 clear hS hG hb2 hB0
 go_wp2_with fail
 rw [← hq]
 have HQ := hide hq
 clear hq hW0 s0 s1
 refine HNW.out.mono ?_
 rintro e1 W1 ⟨d, rfl, hb1', hp1⟩
 have HB1 := hide hb1'
 have HP1 := hide hp1
 clear hb1' hp1 HNW
 have HLO := hide (linesOf_fn text ((W1.alloc (.cells #[.slice (some ⟨g, 0, none⟩) n cap, pfn d] 171)).alloc (.cells #[.slice none 0 0] 132)))
 have HSTT := hide hst
 have HCJ := hide (fun (rc : Loop) => cj_start (T := text.data.toList) (bs := bs) (text := text) (touched := touched) HQ.out hN h0 HG.out HS.out hs0 HW0.out.1 (by rw [HSTT.out]; exact HW0.out.2.1) HW0.out.2.2.1 HW0.out.2.2.2 HB0.out HB1.out HP1.out hgood rc)
 obtain ⟨p0, hp0⟩ : ∃ p0, p0 = W1.heap.size := ⟨_, rfl⟩
 have hvs : (((W1.alloc (.cells #[.slice (some ⟨g, 0, none⟩) n cap, pfn d] 171)).alloc (.cells #[.slice none 0 0] 132)).alloc (.cells #[.string text] 9)).heap.size = p0 + 3 := by rw [hp0]; simp
 have hvt : (((W1.alloc (.cells #[.slice (some ⟨g, 0, none⟩) n cap, pfn d] 171)).alloc (.cells #[.slice none 0 0] 132)).alloc (.cells #[.string text] 9)).heap[p0 + 2]? = some (.cells #[.string text] 9 (0, 0)) := heap_alloc_at _ _ _ (by rw [hp0]; simp)
 unfold pfn at HLO HCJ hvs hvt
 unfold pv pfn
 rw [← hp0] at HCJ
 clear HP1 HB1 HB0 HW0
 go_wp2_with fail
 rw [← hp0]
 refine HLO.out.mono ?_
 rintro e2 V ⟨rfl, hV⟩
 rw [← hV] at hvs hvt HCJ
 have he : ((W1.alloc (.cells #[.slice (some ⟨g, 0, none⟩) n cap, .func (.func 159) #[] #[.pointer (some ⟨d.kv, 0, none⟩), .pointer (some ⟨d.wk, 0, none⟩)]] 171)).alloc (.cells #[.slice none 0 0] 132)).heap.size = p0 + 2 := by rw [hp0]; simp
 rw [he]
 clear he hV HLO hp0
 go_wp2_with fail
 refine (wpIn_wide (n := 9)).1 (range_outer rfl (by decide) (gf := 121) (lb := #[.pointer (some ⟨p0 + 2, 0, none⟩)]) rfl trivial (enters_of Tryz.func121 (by kernel_rfl) rfl) ?_)
 intro fn hfn
 rw [hvs]
 refine col_loop hz hM hMN (recd fn _ _ _ _ _) _ hvt (HCJ.out _) rfl ?_ ?_ ?_
 ·intro j body st ls v A1 f1 F1 B hbody hj hlj
  have HJ := hide hj
  refine round_recd trivial hj.rcd rfl ?_
  intro rb rc hrc
  rw [← hrc] at HJ ⊢
  clear hj hrc HCJ hvs hvt
  gi_wp2_with fail
  refine ⟨HJ.out.rcd, ?_⟩
  have HJ1 := hide (HJ.out.setL rb)
  obtain ⟨B1, hB1⟩ : ∃ B1, B.putObj (p0 + 3 + 1) (.loop rb) = B1 := ⟨_, rfl⟩
  rw [hB1] at HJ1 ⊢
  clear hB1
  obtain ⟨b0, b1', b2, b3, b4, b5, b6, b7, b8, hst2⟩ := nine HJ1.out.good.1.2
  have hkv := HJ1.out.kv
  rw [hst2] at hkv
  have c0 : B1.cell? ⟨q, 0, none⟩ = some (.pointer (some ⟨bS, 0, none⟩)) := cell_one HJ1.out.sv
  have c1 : B1.cell? ⟨q + 1 + 1, 0, none⟩ = some (.int .i64 touched) := cell_one HJ1.out.tv
  have c2 : B1.cell? ⟨q + 1 + 1 + 1, 0, none⟩ = some (.slice bao bs.length bcp) := cell_one HJ1.out.bvx
  have k0 : B1.cell? ⟨q + 1, 0, none⟩ = some (.int .i64 b0) := cell_at hkv rfl
  have k1 : B1.cell? ⟨q + 1, 1, none⟩ = some (.int .i64 b1') := cell_at hkv rfl
  have k2 : B1.cell? ⟨q + 1, 2, none⟩ = some (.int .i64 b2) := cell_at hkv rfl
  have k3 : B1.cell? ⟨q + 1, 3, none⟩ = some (.int .i64 b3) := cell_at hkv rfl
  have k4 : B1.cell? ⟨q + 1, 4, none⟩ = some (.int .i64 b4) := cell_at hkv rfl
  have k5 : B1.cell? ⟨q + 1, 5, none⟩ = some (.int .i64 b5) := cell_at hkv rfl
  have k6 : B1.cell? ⟨q + 1, 6, none⟩ = some (.int .i64 b6) := cell_at hkv rfl
  have k7 : B1.cell? ⟨q + 1, 7, none⟩ = some (.int .i64 b7) := cell_at hkv rfl
  have k8 : B1.cell? ⟨q + 1, 8, none⟩ = some (.int .i64 b8) := cell_at hkv rfl
  have hjl : j < touched + bs.length := by rw [← hlen]; exact get_lt hbody
  clear hkv
  gi_wp2_with fail
  gi_cut [40] from 27 (fun c wc => (c = .bool false ∧ CJ w N bS g n cap G d text.data.toList st0 touched (.slice bao bs.length bcp) bs tx lv work q p0 rb j st ls v A1 f1 F1 wc ∧ (touched ≤ j → bs[j - touched]? ≠ some st)) ∨ (c = .bool true ∧ CJ w N bS g n cap G d text.data.toList st0 touched (.slice bao bs.length bcp) bs tx lv work q p0 rb j st ls v A1 f1 F1 wc ∧ touched ≤ j ∧ bs[j - touched]? = some st))
  case first =>
   by_cases hji : touched ≤ j
   ·have g1 : decide ((touched : Int) ≤ (j : Int)) = true := decide_eq_true (by omega)
    obtain ⟨jt, hjt⟩ : ∃ jt, j = touched + jt := ⟨j - touched, by omega⟩
    obtain ⟨sb, hsb⟩ : ∃ sb, bs[jt]? = some sb := ⟨_, List.getElem?_eq_getElem (by omega)⟩
    obtain ⟨hsb8, bg, of, hbao, hbgS, hbc⟩ := HB2.out jt sb hsb
    obtain ⟨d0, d1, d2, d3, d4, d5, d6, d7, d8, hst3⟩ := nine hsb8
    have hbc' : ∀ (y : Nat) c, (stCells sb)[y]? = some c → B1.cell? ⟨bg, of + jt * 10 + y, none⟩ = some c := fun y c hy => (World.cell?_of_block (HJ1.out.off.keep bg ⟨cell_lt (hbc y c hy), hbgS⟩)).trans (hbc y c hy)
    rw [hst3] at hbc'
    have e0 := hbc' 0 _ rfl
    have e1 := hbc' 1 _ rfl
    have e2 := hbc' 2 _ rfl
    have e3 := hbc' 3 _ rfl
    have e4 := hbc' 4 _ rfl
    have e5 := hbc' 5 _ rfl
    have e6 := hbc' 6 _ rfl
    have e7 := hbc' 7 _ rfl
    have e8 := hbc' 8 _ rfl
    rw [Nat.add_zero] at e0
    have hjb : jt < bs.length := by omega
    have hwr : IntKind.i64.wrap ((j : Int) - (touched : Int)) = (jt : Int) := by rw [IntKind.wrap_i64]; omega
    have hiff : (d0 = b0 ∧ d1 = b1' ∧ d2 = b2 ∧ d3 = b3 ∧ d4 = b4 ∧ d5 = b5 ∧ d6 = b6 ∧ d7 = b7 ∧ d8 = b8) ↔ sb = st := by
     constructor
     ·rintro ⟨rfl, rfl, rfl, rfl, rfl, rfl, rfl, rfl, rfl⟩
      exact stCells_inj hsb8 HJ1.out.good.1.2 (hst3.trans hst2.symm)
     ·intro h
      have h2 := hst3.symm.trans ((congrArg stCells h).trans hst2)
      simp at h2
      omega
    have hjt2 : j - touched = jt := by omega
    subst hbao
    have HJT := hide hjt
    clear hbc hbc' hjt hst3
    refine region_quiet_round rfl (by kernel_rfl) (by kernel_rfl) (by kernel_rfl) ?_
    repeat (gi_big_quiet_step (fail))
    refine wpQuietIn_step (fun w' hw' f hf => by simp [Oper.about] at hf) (fun K hK => ?_)
    rw [if_pos (by kernel_rfl)]
    by_cases hse : sb = st
    ·refine ⟨.bool true, fun w' hw' => ?_, ?_⟩
     ·unfold Oper.quietAtIn
      rw [stack_eq_exec w' d0 d1 d2 d3 d4 d5 d6 d7 d8 b0 b1' b2 b3 b4 b5 b6 b7 b8 _ _ _ _ rfl rfl rfl, decide_eq_true (hiff.2 hse)]
      refine ⟨?_, ?_⟩ <;> first | rfl | exact hw'
     refine hK _ ?_
     clear hK K
     simp only [Act.put, List.setIfInBounds_toArray, List.set_cons_zero, List.set_cons_succ]
     repeat (gi_big_quiet_step (fail))
     refine wpQuietIn_nil ?_
     intro _ hw'
     obtain ⟨nq, hw''⟩ := hw'
     subst hw''
     gi_wp2_with fail
     gi_meet
     exact .inr ⟨rfl, HJ1.out.below ⟨rfl, rfl, rfl, Nat.le_refl _, fun _ _ => rfl⟩, hji, by rw [hjt2, ← hse]; exact hsb⟩
    ·refine ⟨.bool false, fun w' hw' => ?_, ?_⟩
     ·unfold Oper.quietAtIn
      rw [stack_eq_exec w' d0 d1 d2 d3 d4 d5 d6 d7 d8 b0 b1' b2 b3 b4 b5 b6 b7 b8 _ _ _ _ rfl rfl rfl, decide_eq_false (fun h => hse (hiff.1 h))]
      refine ⟨?_, ?_⟩ <;> first | rfl | exact hw'
     refine hK _ ?_
     clear hK K
     simp only [Act.put, List.setIfInBounds_toArray, List.set_cons_zero, List.set_cons_succ]
     repeat (gi_big_quiet_step (fail))
     refine wpQuietIn_nil ?_
     intro _ hw'
     obtain ⟨nq, hw''⟩ := hw'
     subst hw''
     gi_wp2_with fail
     gi_meet
     exact .inl ⟨rfl, HJ1.out.below ⟨rfl, rfl, rfl, Nat.le_refl _, fun _ _ => rfl⟩, fun _ => by rw [hjt2, hsb]; intro e; exact hse (Option.some.inj e)⟩
   ·have g1 : decide ((touched : Int) ≤ (j : Int)) = false := decide_eq_false (by omega)
    refine region_quiet_round rfl (by kernel_rfl) (by kernel_rfl) (by kernel_rfl) ?_
    repeat (gi_big_quiet_step (fail))
    refine wpQuietIn_nil ?_
    intro _ hw'
    obtain ⟨nq, hw''⟩ := hw'
    subst hw''
    gi_wp2_with fail
    gi_meet
    exact .inl ⟨rfl, HJ1.out.below ⟨rfl, rfl, rfl, Nat.le_refl _, fun _ _ => rfl⟩, fun h => absurd h hji⟩
  case rest =>
   clear c0 c1 c2 k0 k1 k2 k3 k4 k5 k6 k7 k8
   rcases hcut with ⟨rfl, hjc, hns⟩ | ⟨rfl, hjc, hji, hbt⟩
   ·have hkv := hjc.kv
    obtain ⟨b0, b1', b2, b3, b4, b5, b6, b7, b8, hst2⟩ := nine hjc.good.1.2
    rw [hst2] at hkv
    obtain ⟨wj, hwj⟩ : ∃ wj, wj = work + j := ⟨_, rfl⟩
    have hsh := hjc.sh
    rw [← hwj] at hsh
    have c0 : wc.cell? ⟨q, 0, none⟩ = some (.pointer (some ⟨bS, 0, none⟩)) := cell_one hjc.sv
    have c1 : wc.cell? ⟨bS, 3, none⟩ = some (.int .i64 wj) := cell_at hsh rfl
    have c1f : wc.frozen? ⟨bS, 3, none⟩ = false := by simp [World.frozen?, hsh]
    have hwr : IntKind.i64.wrap ((wj : Int) + 1) = (wj : Int) + 1 := by
     have h1 := splitL_length text.data.toList
     have h2 : text.data.toList.count 10 ≤ text.data.toList.length := List.count_le_length
     rw [text_length] at h2
     have h3 := get_lt hbody
     rw [IntKind.wrap_i64]; omega
    have HJ7 := hide hjc.bump
    rw [← hwj] at HJ7
    obtain ⟨w7, hw7⟩ : ∃ w7, wc.setCell ⟨bS, 3, none⟩ (.int .i64 ((wj : Int) + 1)) = w7 := ⟨_, rfl⟩
    rw [hw7] at HJ7
    have hkv7 := HJ7.out.kv
    rw [hst2] at hkv7
    have k0 : w7.cell? ⟨q + 1, 0, none⟩ = some (.int .i64 b0) := cell_at hkv7 rfl
    have k1 : w7.cell? ⟨q + 1, 1, none⟩ = some (.int .i64 b1') := cell_at hkv7 rfl
    have k2 : w7.cell? ⟨q + 1, 2, none⟩ = some (.int .i64 b2) := cell_at hkv7 rfl
    have k3 : w7.cell? ⟨q + 1, 3, none⟩ = some (.int .i64 b3) := cell_at hkv7 rfl
    have k4 : w7.cell? ⟨q + 1, 4, none⟩ = some (.int .i64 b4) := cell_at hkv7 rfl
    have k5 : w7.cell? ⟨q + 1, 5, none⟩ = some (.int .i64 b5) := cell_at hkv7 rfl
    have k6 : w7.cell? ⟨q + 1, 6, none⟩ = some (.int .i64 b6) := cell_at hkv7 rfl
    have k7 : w7.cell? ⟨q + 1, 7, none⟩ = some (.int .i64 b7) := cell_at hkv7 rfl
    have k8 : w7.cell? ⟨q + 1, 8, none⟩ = some (.int .i64 b8) := cell_at hkv7 rfl
    have HST2 := hide hst2
    have HNS := hide hns
    have HWJ := hide hwj
    have m0 : w7.cell? ⟨p0, 0, none⟩ = some (.slice (some ⟨g, 0, none⟩) n cap) := cell_at HJ7.out.pv rfl
    have m1 : w7.cell? ⟨p0, 1, none⟩ = some (pfn d) := cell_at HJ7.out.pv rfl
    obtain ⟨w8, hw8⟩ : ∃ w8, w7.alloc (.cells #[.int .i64 b0, .int .i64 b1', .int .i64 b2, .int .i64 b3, .int .i64 b4, .int .i64 b5, .int .i64 b6, .int .i64 b7, .int .i64 b8, .slice none 0 0] 151) = w8 := ⟨_, rfl⟩
    have HSF := hide (spans_fn g n cap d body st HJ7.out.good.1.2 w8)
    unfold stv pv pfn at HSF
    rw [hst2] at HSF
    unfold pfn at m1
    have n0 : w8.cell? ⟨p0, 0, none⟩ = some (.slice (some ⟨g, 0, none⟩) n cap) := by rw [← hw8]; exact cell_alloc_old m0 _
    have n1 : w8.cell? ⟨p0, 1, none⟩ = some (.func (.func 159) #[] #[.pointer (some ⟨d.kv, 0, none⟩), .pointer (some ⟨d.wk, 0, none⟩)]) := by rw [← hw8]; exact cell_alloc_old m1 _
    have o0 : w8.cell? ⟨q + 1, 0, none⟩ = some (.int .i64 b0) := by rw [← hw8]; exact cell_alloc_old k0 _
    have o1 : w8.cell? ⟨q + 1, 1, none⟩ = some (.int .i64 b1') := by rw [← hw8]; exact cell_alloc_old k1 _
    have o2 : w8.cell? ⟨q + 1, 2, none⟩ = some (.int .i64 b2) := by rw [← hw8]; exact cell_alloc_old k2 _
    have o3 : w8.cell? ⟨q + 1, 3, none⟩ = some (.int .i64 b3) := by rw [← hw8]; exact cell_alloc_old k3 _
    have o4 : w8.cell? ⟨q + 1, 4, none⟩ = some (.int .i64 b4) := by rw [← hw8]; exact cell_alloc_old k4 _
    have o5 : w8.cell? ⟨q + 1, 5, none⟩ = some (.int .i64 b5) := by rw [← hw8]; exact cell_alloc_old k5 _
    have o6 : w8.cell? ⟨q + 1, 6, none⟩ = some (.int .i64 b6) := by rw [← hw8]; exact cell_alloc_old k6 _
    have o7 : w8.cell? ⟨q + 1, 7, none⟩ = some (.int .i64 b7) := by rw [← hw8]; exact cell_alloc_old k7 _
    have o8 : w8.cell? ⟨q + 1, 8, none⟩ = some (.int .i64 b8) := by rw [← hw8]; exact cell_alloc_old k8 _
    subst hw8
    clear hkv hst2 hsh hjc hkv7 hns hwj
    gi_wp2_with (refine wpListIn_store_row rfl _ _ _ rfl _ #[.int .i64 b0, .int .i64 b1', .int .i64 b2, .int .i64 b3, .int .i64 b4, .int .i64 b5, .int .i64 b6, .int .i64 b7, .int .i64 b8, .slice none 0 0] rfl rfl 151 _ (heap_alloc_at _ _ _ rfl) rfl rfl (by simp [Value.oneCell']) ?_; rw [alloc_setRow _ _ _ _ _ rfl])
    refine ⟨trivial, (CallsIn.inRound (p0 + 3 + 1) (callsIn_wide.2 HSF.out)).mono ?_⟩
    rintro e9 w9 ⟨rfl, hw9⟩
    obtain ⟨bl, hbl⟩ : ∃ bl, bl = w7.heap.size := ⟨_, rfl⟩
    have he : (w7.alloc (.cells #[.int .i64 b0, .int .i64 b1', .int .i64 b2, .int .i64 b3, .int .i64 b4, .int .i64 b5, .int .i64 b6, .int .i64 b7, .int .i64 b8, .slice none 0 0] 151)).heap.size = bl + 1 := by rw [hbl]; simp
    obtain ⟨hb9, hs9, f0, f1', f2, f3⟩ := four_alloc w7 _ _ _ _ bl hbl w9 hw9
    rw [he, ← hbl]
    have HJ9 := hide (HJ7.out.below hb9)
    have hAbl : ∀ k, A1 k → k < bl := fun k hk => by rw [hbl]; exact (HJ7.out.pis.old k hk).2
    have hpbl : p0 + 5 ≤ bl := by rw [hbl]; exact HJ7.out.ord.2.2.1
    have HFREE := hide (fun (k : Nat) (hk : bl ≤ k) => HJ7.out.lns.free (k := k) (.inr (by rw [← hbl]; exact hk)))
    have HF0 := hide f0
    have HF1 := hide f1'
    have HF2 := hide f2
    have HF3 := hide f3
    clear he hw9 hb9 HSF HJ7 f0 f1' f2 f3 n0 n1 m0 m1 k0 k1 k2 k3 k4 k5 k6 k7 k8 o0 o1 o2 o3 o4 o5 o6 o7 o8 c0 c1 c1f hbl
    gi_wp2_with fail
    refine range_inner (l₀ := p0 + 3 + 1) (r₀ := rb) rfl HJ9.out.rcd (by decide) (gf := 122) (lb := #[.pointer (some ⟨bl + 1 + 2, 0, none⟩), .pointer (some ⟨bl + 1, 0, none⟩), .pointer (some ⟨bl + 1 + 1, 0, none⟩)]) rfl trivial (enters_of Tryz.func122 (by kernel_rfl) rfl) ?_
    intro fn2 hfn2
    rw [hs9]
    have hbz : body.size ≤ 3000 := by
     have h1 := splitL_short (List.mem_of_getElem? hbody)
     rw [text_length, text_length] at h1
     omega
    refine CallsIn.inRound (p0 + 3 + 1) (inner_loop HJ9.out hok hbz hAbl hpbl hs9 (by rw [HST2.out]; exact HF0.out) (by unfold pfn; exact HF1.out) HF2.out (by rw [HST2.out]; exact HF3.out) (recd fn2 _ _ _ _ _) _ ?_ ?_)
    ·intro Cl pre st1 x st' A hij hgd hlen7
     have HIJ := hide hij
     obtain ⟨sv, -, i2, i3, i4, i5, -, i7, i8⟩ := hij
     refine round_recd trivial i4 rfl ?_
     intro rb2 rc2 hrc2
     rw [← hrc2] at HIJ i4 ⊢
     obtain ⟨y0, y1, y2, y3, y4, y5, y6, y7, y8, hst'⟩ := nine hgd.1.2
     unfold Sp.v spv stv
     rw [hst']
     have HI2 := hide i2
     have HI3 := hide i3
     have HI4 := hide i4
     have HI5 := hide i5
     have HST' := hide hst'
     have hgd8 := hgd.1.2
     clear hrc2 i2 i3 i4 i5 hst' hgd
     gi_wp2_with (first
      | (refine wpListIn_store_row rfl _ _ _ rfl _ #[.int .i64 x.fr, .int .i64 x.to, .string x.nm, .int .i64 x.dep, .string x.co] rfl rfl 70 _ (heap_alloc_at _ _ _ rfl) rfl rfl (by simp [Value.oneCell']) ?_; rw [alloc_setRow _ _ _ _ _ rfl])
      | (refine wpListIn_store_row rfl _ _ _ rfl _ #[.int .i64 y0, .int .i64 y1, .int .i64 y2, .int .i64 y3, .int .i64 y4, .int .i64 y5, .int .i64 y6, .int .i64 y7, .int .i64 y8] rfl rfl 138 _ (heap_alloc_at _ _ _ (by simp)) rfl rfl (by simp [Value.oneCell']) ?_; rw [alloc_setRow _ _ _ _ _ (by simp)]))
     refine ⟨heap_alloc_old (heap_alloc_old HI4.out), ?_⟩
     obtain ⟨A2, hA2, hoff2, hsz2, hsp, haf, hl2⟩ := two_put A (.cells #[.int .i64 x.fr, .int .i64 x.to, .string x.nm, .int .i64 x.dep, .string x.co] 70) (.cells #[.int .i64 y0, .int .i64 y1, .int .i64 y2, .int .i64 y3, .int .i64 y4, .int .i64 y5, .int .i64 y6, .int .i64 y7, .int .i64 y8] 138) (bl + 4) _ rb2 HI4.out
     rw [hA2]
     clear hA2
     obtain ⟨sA, hsA⟩ : ∃ sA, sA = A.heap.size := ⟨_, rfl⟩
     rw [← hsA] at hsz2 hsp haf ⊢
     have hj8 := HJ9.out.good.1.2
     have hl9 := stCells_length hj8
     have hqbl : q + 1 < bl := by have := HJ9.out.ord; omega
     have i3' := hoff2.same HI3.out (by omega)
     have t9 : A2.cell? ⟨bl, 9, none⟩ = some sv := cell_at i3' (by rw [List.getElem?_toArray, List.getElem?_append_right (by omega), hl9]; rfl)
     have s0 : A2.cell? ⟨sA, 0, none⟩ = some (.int .i64 x.fr) := cell_at hsp rfl
     have s1 : A2.cell? ⟨sA, 1, none⟩ = some (.int .i64 x.to) := cell_at hsp rfl
     have s2 : A2.cell? ⟨sA, 2, none⟩ = some (.string x.nm) := cell_at hsp rfl
     have s3 : A2.cell? ⟨sA, 3, none⟩ = some (.int .i64 x.dep) := cell_at hsp rfl
     have s4 : A2.cell? ⟨sA, 4, none⟩ = some (.string x.co) := cell_at hsp rfl
     have hoff3 : Off (fun k => k = bl + 4) A (A2.alloc (.cells #[.int .i64 x.fr, .int .i64 x.to, .string x.nm, .int .i64 x.dep, .string x.co] 70)) := hoff2.trans (Off.of_below ((Below.refl _ _).alloc (Nat.le_refl _) _))
     have HL3 := hide (show (A2.alloc (.cells #[.int .i64 x.fr, .int .i64 x.to, .string x.nm, .int .i64 x.dep, .string x.co] 70)).heap[bl + 4]? = some (.loop rb2) from heap_alloc_old hl2)
     have HROW := hide (show (A2.alloc (.cells #[.int .i64 x.fr, .int .i64 x.to, .string x.nm, .int .i64 x.dep, .string x.co] 70)).ownsRow (bl + 5) 70 5 sv pre.length (pre.flatMap Sp.cells) from row_keep HI5.out fun k hk => by
      obtain ⟨a, c, hc⟩ := row_type HI5.out hk
      rw [hc]
      exact hoff3.same hc (by omega))
     have HNW := hide (fun (y : Nat) u (h : ([.int .i64 x.fr, .int .i64 x.to, .string x.nm, .int .i64 x.dep, .string x.co] : List Value)[y]? = some u) => show (A2.alloc (.cells #[.int .i64 x.fr, .int .i64 x.to, .string x.nm, .int .i64 x.dep, .string x.co] 70)).cell? ((⟨A2.heap.size, 0, none⟩ : Addr).add y) = some u from cell_new_row A2 #[.int .i64 x.fr, .int .i64 x.to, .string x.nm, .int .i64 x.dep, .string x.co] _ y u h)
     have hrw : ∀ k, sv.ownBlock = some k → bl + 5 ≤ k ∧ k < sA := fun k hk => by
      obtain ⟨a, c, hc⟩ := row_type HI5.out hk
      exact ⟨a, by rw [hsA]; exact lt_of_get hc⟩
     have HAFT := hide (fun (v' : Value) (A4 : World) (hg : (A2.alloc (.cells #[.int .i64 x.fr, .int .i64 x.to, .string x.nm, .int .i64 x.dep, .string x.co] 70)).grownBy A4 sv.ownBlock) => show (A4.cell? ⟨bl, 9, none⟩ = some sv ∧ A4.frozen? ⟨bl, 9, none⟩ = false) ∧ ∀ A5, A4.setCell ⟨bl, 9, none⟩ v' = A5 → (A5.cell? ⟨sA + 1, 0, none⟩ = some (.int .i64 y0) ∧ A5.cell? ⟨sA + 1, 1, none⟩ = some (.int .i64 y1) ∧ A5.cell? ⟨sA + 1, 2, none⟩ = some (.int .i64 y2) ∧ A5.cell? ⟨sA + 1, 3, none⟩ = some (.int .i64 y3) ∧ A5.cell? ⟨sA + 1, 4, none⟩ = some (.int .i64 y4) ∧ A5.cell? ⟨sA + 1, 5, none⟩ = some (.int .i64 y5) ∧ A5.cell? ⟨sA + 1, 6, none⟩ = some (.int .i64 y6) ∧ A5.cell? ⟨sA + 1, 7, none⟩ = some (.int .i64 y7) ∧ A5.cell? ⟨sA + 1, 8, none⟩ = some (.int .i64 y8)) ∧ A5.heap[q + 1]? = some (.cells (stCells st1).toArray 138 (0, 0)) from by
      have key : ∀ (k : Nat) o, (A2.alloc (.cells #[.int .i64 x.fr, .int .i64 x.to, .string x.nm, .int .i64 x.dep, .string x.co] 70)).heap[k]? = some o → (k < bl + 5 ∨ sA ≤ k) → A4.heap[k]? = some o := fun k o hk h1 => (hg.block k (lt_of_get hk) (fun e => by have := hrw k e.symm; omega)).trans hk
      have b4 := key bl _ (heap_alloc_old i3') (by omega)
      refine ⟨⟨cell_at b4 (by rw [List.getElem?_toArray, List.getElem?_append_right (by omega), hl9]; rfl), by simp [World.frozen?, b4]⟩, fun A5 hA5 => ?_⟩
      have ha5 : A5.heap[sA + 1]? = some (.cells #[.int .i64 y0, .int .i64 y1, .int .i64 y2, .int .i64 y3, .int .i64 y4, .int .i64 y5, .int .i64 y6, .int .i64 y7, .int .i64 y8] 138 (0, 0)) := by
       rw [← hA5, Below.heap_setCell _ _ _ _ (by show sA + 1 ≠ bl; omega)]
       exact key _ _ (heap_alloc_old haf) (by omega)
      have hk5 : A5.heap[q + 1]? = some (.cells (stCells st1).toArray 138 (0, 0)) := by
       rw [← hA5, Below.heap_setCell _ _ _ _ (by show q + 1 ≠ bl; omega)]
       exact key _ _ (heap_alloc_old (hoff2.same HI2.out (by omega))) (by omega)
      exact ⟨⟨cell_at ha5 rfl, cell_at ha5 rfl, cell_at ha5 rfl, cell_at ha5 rfl, cell_at ha5 rfl, cell_at ha5 rfl, cell_at ha5 rfl, cell_at ha5 rfl, cell_at ha5 rfl⟩, hk5⟩)
     obtain ⟨n0, hi, hz0, hz1, hz3⟩ := info_parts info_apispan
     have hbase : bl + 5 ≤ (A2.alloc (.cells #[.int .i64 x.fr, .int .i64 x.to, .string x.nm, .int .i64 x.dep, .string x.co] 70)).heap.size := by rw [World.size_alloc, hsz2]; omega
     have HOFF3 := hide hoff3
     have h8st : (stCells st1).toArray.size = 9 := by rw [List.size_toArray, stCells_length i8]
     have HSA := hide hsA
     clear hoff2 hsz2 hsp haf hl2 i3' hoff3 hrw HI2 HI4 HI5 hsA
     gi_wp2_with (first
      | (refine wpListIn_append_own_at _ rfl (.tmp 57) (.tmp 59) 64 rfl (bl + 5) 70 n0 (.agg #[.int .i64 0, .int .i64 0, .string ⟨#[]⟩, .int .i64 0, .string ⟨#[]⟩]) 5 56 Tryz.underlying64 hi hz0 hz1 hz3 rfl (by decide) sv pre.length (pre.flatMap Sp.cells) (by rfl) HROW.out ⟨A2.heap.size, 0, none⟩ 1 1 [.int .i64 x.fr, .int .i64 x.to, .string x.nm, .int .i64 x.dep, .string x.co] (by rfl) rfl HNW.out (by simp [Value.oneCell']) (by unfold maxLen; omega) (by omega) hbase ?_; intro v' A4 hown hg _ hv; obtain ⟨⟨z9, z9f⟩, hz5⟩ := HAFT.out v' A4 hg; have HX := hide (And.intro hown (And.intro hg hv)); obtain ⟨g', cap', rfl⟩ := own_form hown (by omega); obtain ⟨A5, hA5⟩ : ∃ A5, A4.setCell ⟨bl, 9, none⟩ (.slice (some ⟨g', 0, none⟩) (pre.length + 1) cap') = A5 := ⟨_, rfl⟩; obtain ⟨⟨q0', q1', q2', q3', q4', q5', q6', q7', q8'⟩, hk5⟩ := hz5 A5 hA5; have HK5 := hide hk5; clear hown hg hv hz5 hk5 HAFT HROW HNW)
      | (refine wpListIn_store_row rfl _ _ _ rfl (q + 1) #[.int .i64 y0, .int .i64 y1, .int .i64 y2, .int .i64 y3, .int .i64 y4, .int .i64 y5, .int .i64 y6, .int .i64 y7, .int .i64 y8] rfl rfl 138 _ HK5.out rfl h8st (by simp [Value.oneCell']) ?_))
     have hfin := HIJ.out.next (st' := st') (x := x) (A4 := A4) (sv' := .slice (some ⟨g', 0, none⟩) (pre.length + 1) cap') hqbl hj8 hgd8 HOFF3.out HL3.out (fun sv2 h2 => by
      have h3 := h2.symm.trans HI3.out
      have h4 : sv2 = sv := by simpa using h3
      rw [h4]
      exact HX.out) _ rfl
     rw [hA5, HST'.out] at hfin
     rw [HSA.out]
     exact ⟨hfin.1, .inl ⟨rfl, hfin.2⟩⟩
    ·intro r W sps st1 Cl A' f' F' hthru hij hp hsub hcl
     have hord := HJ9.out.ord
     have hmid := fun ro => mid_of hij hs9 (by omega) (by omega) hp hsub hcl ro
     refine ⟨⟨r, rfl⟩, .inl ⟨(hmid rb).1, fun ro => ?_⟩⟩
     obtain ⟨-, sv, hm⟩ := hmid ro
     obtain ⟨W1, hW1⟩ : ∃ W1, W.putObj (bl + 4) (.loop ro) = W1 := ⟨_, rfl⟩
     rw [hW1] at hm ⊢
     obtain ⟨hav, hlns, sao, scp, hsv⟩ := hm.reads HJ9.out hpbl HFREE.out
     subst hsv
     have hline := hm.line
     rw [HST2.out] at hline
     have l10 : W1.cell? ⟨bl, 9, none⟩ = some (.slice sao sps.length scp) := cell_at hline rfl
     have l0 : W1.cell? ⟨bl, 0, none⟩ = some (.int .i64 b0) := cell_at hline rfl
     have l1 : W1.cell? ⟨bl, 1, none⟩ = some (.int .i64 b1') := cell_at hline rfl
     have l2 : W1.cell? ⟨bl, 2, none⟩ = some (.int .i64 b2) := cell_at hline rfl
     have l3 : W1.cell? ⟨bl, 3, none⟩ = some (.int .i64 b3) := cell_at hline rfl
     have l4 : W1.cell? ⟨bl, 4, none⟩ = some (.int .i64 b4) := cell_at hline rfl
     have l5 : W1.cell? ⟨bl, 5, none⟩ = some (.int .i64 b5) := cell_at hline rfl
     have l6 : W1.cell? ⟨bl, 6, none⟩ = some (.int .i64 b6) := cell_at hline rfl
     have l7 : W1.cell? ⟨bl, 7, none⟩ = some (.int .i64 b7) := cell_at hline rfl
     have l8 : W1.cell? ⟨bl, 8, none⟩ = some (.int .i64 b8) := cell_at hline rfl
     have v0 : W1.cell? ⟨p0 + 1, 0, none⟩ = some v := cell_one hav
     have HM := hide hm
     have HTH := hide hthru
     obtain ⟨n0, hi, hz0, hz1, hz3⟩ := info_parts info_shline
     have HROW := hide (show (W1.alloc (.cells #[.int .i64 b0, .int .i64 b1', .int .i64 b2, .int .i64 b3, .int .i64 b4, .int .i64 b5, .int .i64 b6, .int .i64 b7, .int .i64 b8, .slice sao sps.length scp] 151)).ownsRow q 151 10 v ls.length (ls.flatMap LE.cells) from (hlns.below ((Below.refl _ _).alloc (Nat.le_refl _) _)).row)
     have HNW := hide (fun (y : Nat) u (h : ([.int .i64 b0, .int .i64 b1', .int .i64 b2, .int .i64 b3, .int .i64 b4, .int .i64 b5, .int .i64 b6, .int .i64 b7, .int .i64 b8, .slice sao sps.length scp] : List Value)[y]? = some u) => show (W1.alloc (.cells #[.int .i64 b0, .int .i64 b1', .int .i64 b2, .int .i64 b3, .int .i64 b4, .int .i64 b5, .int .i64 b6, .int .i64 b7, .int .i64 b8, .slice sao sps.length scp] 151)).cell? ((⟨W1.heap.size, 0, none⟩ : Addr).add y) = some u from cell_new_row W1 #[.int .i64 b0, .int .i64 b1', .int .i64 b2, .int .i64 b3, .int .i64 b4, .int .i64 b5, .int .i64 b6, .int .i64 b7, .int .i64 b8, .slice sao sps.length scp] _ y u h)
     have hls : ls.length ≤ 4000 := by
      have h1 := splitL_length text.data.toList
      have h2 : text.data.toList.count 10 ≤ text.data.toList.length := List.count_le_length
      rw [text_length] at h2
      have h3 := get_lt hbody
      omega
     have hbase : q ≤ (W1.alloc (.cells #[.int .i64 b0, .int .i64 b1', .int .i64 b2, .int .i64 b3, .int .i64 b4, .int .i64 b5, .int .i64 b6, .int .i64 b7, .int .i64 b8, .slice sao sps.length scp] 151)).heap.size := by rw [World.size_alloc]; have := hm.size; omega
     have HNX := hide (fun (v' : Value) (W3 : World) (hrow : W3.ownsRow q 151 10 v' (ls.length + 1) (ls.flatMap LE.cells ++ [.int .i64 b0, .int .i64 b1', .int .i64 b2, .int .i64 b3, .int .i64 b4, .int .i64 b5, .int .i64 b6, .int .i64 b7, .int .i64 b8, .slice sao sps.length scp])) (hg : (W1.alloc (.cells #[.int .i64 b0, .int .i64 b1', .int .i64 b2, .int .i64 b3, .int .i64 b4, .int .i64 b5, .int .i64 b6, .int .i64 b7, .int .i64 b8, .slice sao sps.length scp] 151)).grownBy W3 v.ownBlock) (hv : v'.ownBlock = v.ownBlock ∨ v'.ownBlock = some (W1.alloc (.cells #[.int .i64 b0, .int .i64 b1', .int .i64 b2, .int .i64 b3, .int .i64 b4, .int .i64 b5, .int .i64 b6, .int .i64 b7, .int .i64 b8, .slice sao sps.length scp] 151)).heap.size) => CJ.next HM.out HJ9.out hpbl HFREE.out hok hbody HTH.out hlj HNS.out (by rw [HST2.out]; exact hrow) hg hv)
     clear hmid hij hp hsub hcl hm hav hlns hline hthru hW1
     gi_wp2_with (refine wpListIn_append_own_at _ rfl (.tmp 63) (.tmp 65) 132 rfl q 151 n0 (.agg #[.int .i64 0, .int .i64 0, .int .i64 0, .int .i64 0, .int .i64 0, .int .i64 0, .int .i64 0, .int .i64 0, .int .i64 0, .slice none 0 0]) 10 96 Tryz.underlying132 hi hz0 hz1 hz3 rfl (by decide) v ls.length (ls.flatMap LE.cells) (by rfl) HROW.out ⟨W1.heap.size, 0, none⟩ 1 1 [.int .i64 b0, .int .i64 b1', .int .i64 b2, .int .i64 b3, .int .i64 b4, .int .i64 b5, .int .i64 b6, .int .i64 b7, .int .i64 b8, .slice sao sps.length scp] (by rfl) rfl HNW.out (by simp [Value.oneCell']) (by unfold maxLen; omega) (by omega) hbase ?_; intro v' W3 hown hg _ hv; obtain ⟨hav3, hcj⟩ := HNX.out v' W3 hown hg hv; have HCJ2 := hide hcj; obtain ⟨g', cap', rfl⟩ := own_form hown (by omega); have z0 := cell_one hav3; have z0f : W3.frozen? ⟨p0 + 1, 0, none⟩ = false := (by simp [World.frozen?, hav3]); clear hown hg hv hcj hav3 HNX HROW HNW)
     have hc2 := HCJ2.out
     rw [hlj] at hc2
     exact ⟨hc2.rcd, .inl ⟨rfl, _, _, _, _, _, _, hc2.setL _, by rw [List.length_append, hlj]; rfl⟩⟩
   ·have HJC := hide hjc
    clear hjc
    gi_wp2_with fail
    exact ⟨HJC.out.rcd, .inr ⟨rfl, st, ls, v, A1, f1, F1, HJC.out.setL _, hlj, hji, hbt⟩⟩
 ·intro r W st ls v A1 f1 F1 hj hl
  refine ⟨⟨r, rfl⟩, .inl ⟨hj.rcd, fun ro => ?_⟩⟩
  have hj2 := hj.setL ro
  obtain ⟨W9, hW9⟩ : ∃ W9, W.putObj (p0 + 3 + 1) (.loop ro) = W9 := ⟨_, rfl⟩
  rw [hW9] at hj2 ⊢
  have c9 : W9.cell? ⟨p0 + 1, 0, none⟩ = some v := cell_one hj2.av
  have HPOST := hide (hj2.done (by omega) (.inl hl))
  have HD9 := hide hj2.dfr
  obtain ⟨vao, vc, hvs2⟩ := row_slice hj2.lns.row
  subst hvs2
  have HL := hide hl
  clear hj hj2 hW9 HCJ hl
  dsimp only
  go_wp2_with fail
  refine ⟨by simp, .inl ⟨_, _, rfl, run_takeDeferred HD9.out, ?_⟩⟩
  exact ⟨_, (by simp [results, Tryz.results69, go_sem]), HPOST.out⟩
 ·intro r W st ls v A1 f1 F1 hj h1 h2
  refine ⟨⟨r, rfl⟩, .inr ⟨_, hj.rcd, fun ro => ?_⟩⟩
  have hj2 := hj.setL ro
  obtain ⟨W9, hW9⟩ : ∃ W9, W.putObj (p0 + 3 + 1) (.loop ro) = W9 := ⟨_, rfl⟩
  rw [hW9] at hj2 ⊢
  have c9 : W9.cell? ⟨p0 + 1, 0, none⟩ = some v := cell_one hj2.av
  have HPOST := hide (hj2.done (by have := get_lt h2; omega) (.inr ⟨h1, h2⟩))
  have HD9 := hide hj2.dfr
  obtain ⟨vao, vc, hvs2⟩ := row_slice hj2.lns.row
  subst hvs2
  clear hj hj2 hW9 HCJ h2
  refine wpIn_wide.2 ?_
  go_wp2_with fail
  refine ⟨by simp, .inl ⟨_, _, rfl, run_takeDeferred HD9.out, ?_⟩⟩
  exact ⟨_, (by simp [results, Tryz.results69, go_sem]), HPOST.out⟩
end Go.Proofs.YtgncgdkpkkdaeaaGreatDoor
