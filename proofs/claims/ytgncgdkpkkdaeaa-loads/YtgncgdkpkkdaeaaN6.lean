/- tintref: the walk of read. -/
import Derived.Test.YtgncgdkpkkdaeaaN5
namespace Go.Proofs.Ytgncgdkpkkdaeaa
open Go.RowKit Tint

set_option maxRecDepth 20000 in
set_option maxHeartbeats 4000000 in
theorem read_any (B P : Nat) (s : ByteArray) (w : World) (hB : B ≤ w.heap.size) (hG : Grm w B P (.slice none 0 0) []) (hz : s.size ≤ 2000) :
    Calls Try.prog 9 #[.pointer (some ⟨P, 0, none⟩), .string s] w (ReadPost B P s.data.toList w) := by
  have HG := hide hG
  clear hG
  go_enter Try.func9, Try.ntmps9
  go_wp2_with fail
  go_loopg [5, 6] s.size (fun k va vi wr => ReadLoop B P s w k va vi wr)
  case atStart =>
    exact ⟨0, 0, [], _, [], rfl, rfl, by omega, Nat.le_refl _, Nat.zero_le _, fun m h1 h2 => by omega, by simp [rest], HG.out, rfl, Below.refl _ _, Nat.le_refl _, fun t ht => by simp at ht⟩
  case round =>
    obtain ⟨a, i, acc, sv, ss, rfl, rfl, hk, hR⟩ := hrel
    have HR := hide hR
    have hai := hR.le
    have hBr : B ≤ wr.heap.size := Nat.le_trans hB hR.below.size
    have c0 := hR.grm.top_cell.1
    have f0 := hR.grm.top_cell.2
    have hfew := hR.few
    clear hR HG
    by_cases hlt : i < s.size
    · have g1 : decide ((i : Int) < (s.size : Int)) = true := decide_eq_true (by omega)
      have hi1 : i + 1 ≤ 9223372036854775807 := by omega
      obtain ⟨k', rfl⟩ : ∃ k', gk = k' + 1 := ⟨gk - 1, by omega⟩
      by_cases h10 : s[i] = 10
      · have q1 : (((s[i].toNat : Nat) : Int) != 10) = false := by rw [h10]; rfl
        have hmin : min i s.size - a = i - a := by omega
        have hlz : (s.extract a i).size = i - a := by rw [ByteArray.size_extract]; exact hmin
        have HRS := hide (show rest s a = (s.extract a i).data.toList ++ 10 :: rest s (i + 1) by rw [extract_seg hai, rest_cons hlt, h10])
        have HTEN := hide (no_ten HR.out.nt)
        clear h10
        by_cases h6 : 6 < i - a
        · have g6 : decide ((6 : Int) < ((i - a : Nat) : Int)) = true := decide_eq_true (by omega)
          have h6' : 6 ≤ i - a := by omega
          have h6i : (6 : Int) ≤ ((i - a : Nat) : Int) := by omega
          by_cases hst : ((s.extract a i).extract 0 6).toList = [115, 116, 97, 116, 101, 32]
          · have q2 : (((s.extract a i).extract 0 6).toList == [115, 116, 97, 116, 101, 32]) = true := by rw [hst]; rfl
            have HLS := hide (lineOf_state (l := (s.extract a i).data.toList) (x := ((s.extract a i).extract 6 (i - a)).data.toList) (by
              rw [← hst, ByteArray.toList_eq]; exact line_split (Nat.le_of_eq hlz)))
            clear hst
            go_wp2_with fail
            refine (refName_any _ _ (by rw [ByteArray.size_extract, hlz]; omega)).mono ?_
            rintro e w1 ⟨rfl, rfl⟩
            by_cases hnm : isName ((s.extract a i).extract 6 (i - a)).data.toList = true
            · rw [hnm]
              have HLS2 := hide (HLS.out.trans (if_pos hnm))
              obtain ⟨i0, hi, hz0, hz1, hz3⟩ := info_parts info_state
              have HGA := hide (HR.out.grm.below ((Below.refl _ _).alloc (Nat.le_refl _) (.cells #[.string ((s.extract a i).extract 6 (i - a)), .slice none 0 0, .int .i64 a] 50)))
              have c0' := cell_alloc_old c0 (.cells #[.string ((s.extract a i).extract 6 (i - a)), .slice none 0 0, .int .i64 a] 50)
              have HO : Hid (∀ u ∈ [Value.string ((s.extract a i).extract 6 (i - a)), .slice none 0 0, .int .i64 a], u.oneCell' = true) := by
                intro u hu
                simp only [List.mem_cons, List.not_mem_nil, or_false] at hu
                rcases hu with rfl | rfl | rfl <;> rfl
              go_wp2_with fail
              go_region_law (refine step_append_at rfl (.tmp 44) (.tmp 49) 41 rfl B 50 i0 (.agg #[.string ⟨#[]⟩, .slice none 0 0, .int .i64 0]) 3 48 Try.underlying41 hi hz0 hz1 hz3 rfl (by decide) sv ss.length ((ss.map RSt.el).flatMap El.cells) (by rfl) (by exact HGA.out.outer) ⟨w1.heap.size, 0, none⟩ 1 1 [.string ((s.extract a i).extract 6 (i - a)), .slice none 0 0, .int .i64 a] (by rfl) (by rfl) (by exact cell_new_row w1 #[.string ((s.extract a i).extract 6 (i - a)), .slice none 0 0, .int .i64 a] _) HO.out (by unfold maxLen; omega) (by omega) (by simp; omega) ?_; intro v' w3 hown hg _; obtain ⟨g, cap, rfl⟩ := own_form hown (by omega); obtain ⟨hG3, hB3, hP3⟩ := Grm.push (W := (w1.alloc (.cells #[.string ((s.extract a i).extract 6 (i - a)), .slice none 0 0, .int .i64 a] 50)).drew) HGA.out.drew (show B ≤ (w1.alloc (.cells #[.string ((s.extract a i).extract 6 (i - a)), .slice none 0 0, .int .i64 a] 50)).heap.size by simp; omega) hown hg; have g2 : w3.cell? ⟨P, 0, none⟩ = some sv := (by simp [World.cell?, hP3]); have gf : w3.frozen? ⟨P, 0, none⟩ = false := (by simp [World.frozen?, hP3]); have HST := hide (HR.out.push hlt HRS.out HTEN.out HLS2.out hlz hG3 ((((Below.refl B w1).alloc hBr _).drew).trans hB3)); clear hown hg hP3 hG3 hB3)
              all_goals
                clear HR HRS HTEN HLS HLS2 HGA HO c0 c0' f0 hi hz0 hz1 hz3 hnm
                go_wp2_with fail
                go_roundg k'
                case measure => omega
                case rel => exact ⟨i + 1, i + 1, _, _, _, rfl, rfl, by omega, HST.out⟩
            · have hnm' : isName ((s.extract a i).extract 6 (i - a)).data.toList = false := by simpa using hnm
              have HEND := hide (show ReadPost B P s.data.toList w (.returned (.int .i64 a)) w1 from ⟨HR.out.below, .inl ⟨a, rfl, by
                rw [HR.out.run, HRS.out]; exact rd_bad HTEN.out (by rw [HLS.out, if_neg hnm])⟩⟩)
              rw [hnm']
              clear HR HRS HTEN HLS hnm
              go_wp2_with fail
              go_ret
              exact HEND.out
          · have q2 : (((s.extract a i).extract 0 6).toList == [115, 116, 97, 116, 101, 32]) = false := by rw [beq_eq_false_iff_ne]; exact hst
            have g0 : 0 < i - a := by omega
            have HLR := hide (lineOf_rule (l := (s.extract a i).data.toList) (fun x _ e => hst (by
              rw [ByteArray.toList_eq, extract_list, e]; rfl)) (fun e => by have := congrArg List.length e; rw [byte_length, hlz] at this; simp at this; omega))
            clear hst
            go_wp2_with fail
            refine (ruleOf_any (s.extract a i) wr (by rw [hlz]; omega)).mono ?_
            rintro e w1 ⟨hB1, ⟨d, ra, rb, rc, rp, rfl, hd, hw, hrl⟩ | ⟨v, ⟨ra, rb, rc, rp, rfl⟩, rfl, hno⟩⟩
            · obtain ⟨ao, cap, hsv, hao⟩ := HR.out.grm.form
              subst hsv
              have HG1 := hide (HR.out.grm.below hB1)
              have HB1 := hide hB1
              have c1 : w1.cell? ⟨P, 0, none⟩ = some (.slice ao ss.length cap) := HG1.out.top_cell.1
              clear hB1 c0 f0
              by_cases hss : ss = []
              · have HEND := hide (fun o => show ReadPost B P s.data.toList w (.returned (.int .i64 a)) (w1.alloc o) from ⟨(HR.out.below.trans (HB1.out.mono hBr)).alloc (Nat.le_trans hBr HB1.out.size) o, .inl ⟨a, rfl, by
                  rw [HR.out.run, HRS.out]; exact rd_early HTEN.out (HLR.out.trans hrl) rfl ((any_state HR.out.flt).2 hss)⟩⟩)
                have hl0 : ss.length = 0 := by rw [hss]; rfl
                have hq0 : ((ss.length : Int) == 0) = true := by rw [hl0]; rfl
                have c1' := cell_alloc_old c1 (.cells #[.string ra, .string rb, .string rc, .string rp, .pointer none, .int .i64 0] 55)
                clear HR HRS HTEN HLR HG1 hrl hw hss
                go_wp2_with fail
                go_ret
                exact HEND.out _
              · obtain ⟨ss0, t, rfl⟩ : ∃ ss0 t, ss = ss0 ++ [t] := ⟨ss.dropLast, ss.getLast hss, (List.dropLast_concat_getLast hss).symm⟩
                have hln : (ss0 ++ [t]).length = ss0.length + 1 := by simp
                obtain ⟨g, rfl⟩ := hao (by omega)
                have hq0 : (((ss0 ++ [t]).length : Int) == 0) = false := by rw [beq_eq_false_iff_ne]; omega
                have c1' := cell_alloc_old c1 (.cells #[.string ra, .string rb, .string rc, .string rp, .pointer none, .int .i64 0] 55)
                have hrs2 := HR.out.few2 t (by simp)
                have hb1 : t.rs.length + 1 ≤ maxLen := by unfold maxLen; omega
                have hb2 : (t.rs.length + 1) * 80 ≤ 140737488355328 := by omega
                rw [hln] at c1 c1' hq0 HR HG1 hfew
                obtain ⟨i0, hi, hz0, hz1, hz3⟩ := info_parts info_rule
                have HW2 := hide (show Below w1.heap.size w1 (w1.alloc (.cells #[.string ra, .string rb, .string rc, .string rp, .pointer none, .int .i64 a] 55)) from (Below.refl _ _).alloc (Nat.le_refl _) _)
                have HE := hide (heap_alloc_last w1 (.cells #[.string ra, .string rb, .string rc, .string rp, .pointer none, .int .i64 a] 55))
                have HO : Hid (∀ u ∈ ([.string ra, .string rb, .string rc, .string rp, .pointer none, .int .i64 a] : List Value), u.oneCell' = true) := by
                  intro u hu
                  simp only [List.mem_cons, List.not_mem_nil, or_false] at hu
                  rcases hu with rfl | rfl | rfl | rfl | rfl | rfl <;> rfl
                obtain ⟨q, hq⟩ : ∃ q, q = w1.heap.size := ⟨_, rfl⟩
                clear hss hao
                go_wp2_with fail
                rw [← hq] at HE ⊢
                have HQ := hide hq
                clear hq c1 c1'
                generalize w1.alloc (.cells #[.string ra, .string rb, .string rc, .string rp, .pointer none, .int .i64 a] 55) = W2 at *
                have hB2 : B ≤ W2.heap.size := Nat.le_trans hBr (Nat.le_trans HB1.out.size HW2.out.size)
                have HG2 := hide (HG1.out.below HW2.out)
                have HG3 := hide (HG2.out.below ((Below.refl _ _).alloc (Nat.le_refl _) (.cells #[.string ra, .string rb, .string rc, .string rp, .pointer none, .int .i64 a] 55)))
                have he := HE.out
                have e0 : W2.cell? ⟨q, 0, none⟩ = some (.string ra) := by simp [World.cell?, he]
                have e1 : W2.cell? ⟨q, 1, none⟩ = some (.string rb) := by simp [World.cell?, he]
                have e2 : W2.cell? ⟨q, 2, none⟩ = some (.string rc) := by simp [World.cell?, he]
                have e3 : W2.cell? ⟨q, 3, none⟩ = some (.string rp) := by simp [World.cell?, he]
                have e4 : W2.cell? ⟨q, 4, none⟩ = some (.pointer none) := by simp [World.cell?, he]
                have e5 : W2.cell? ⟨q, 5, none⟩ = some (.int .i64 a) := by simp [World.cell?, he]
                have d0 : W2.cell? ⟨P, 0, none⟩ = some (.slice (some ⟨g, 0, none⟩) (ss0.length + 1) cap) := HG2.out.top_cell.1
                have d0' := cell_alloc_old d0 (.cells #[.string ra, .string rb, .string rc, .string rp, .pointer none, .int .i64 a] 55)
                have d1 : W2.cell? ⟨g, ss0.length * 3 + 1, none⟩ = some t.rv := (HG2.out.at (i := ss0.length) (s := t) (by simp)).2.1
                have d1' := cell_alloc_old d1 (.cells #[.string ra, .string rb, .string rc, .string rp, .pointer none, .int .i64 a] 55)
                have hwr : IntKind.i64.wrap (ss0.length : Int) = (ss0.length : Int) := by rw [IntKind.wrap_i64]; omega
                have hlt0 : (ss0.length : Int) < (ss0.length : Int) + 1 := by omega
                have HKEY := hide (show ∀ v' w3, w3.ownsRow B 55 6 v' (t.rs.length + 1) ((t.rs.map RRl.cells).flatten ++ [.string ra, .string rb, .string rc, .string rp, .pointer none, .int .i64 a]) → (W2.alloc (.cells #[.string ra, .string rb, .string rc, .string rp, .pointer none, .int .i64 a] 55)).drew.grownBy w3 t.rv.ownBlock → (v'.ownBlock = t.rv.ownBlock ∨ v'.ownBlock = some (W2.alloc (.cells #[.string ra, .string rb, .string rc, .string rp, .pointer none, .int .i64 a] 55)).drew.heap.size) →
                    ∃ g' cap', v' = .slice (some ⟨g', 0, none⟩) (t.rs.length + 1) cap' ∧ w3.cell? ⟨P, 0, none⟩ = some (.slice (some ⟨g, 0, none⟩) (ss0.length + 1) cap) ∧ w3.cell? ⟨g, ss0.length * 3 + 1, none⟩ = some t.rv ∧ w3.frozen? ⟨g, ss0.length * 3 + 1, none⟩ = false ∧ Hid (ReadLoop B P s w k' (.int .i64 ((i + 1 : Nat) : Int)) (.int .i64 ((i + 1 : Nat) : Int)) (w3.setCell ⟨g, ss0.length * 3 + 1, none⟩ v')) from fun v' w3 hown hg hnew => by
                  obtain ⟨g', cap', hv⟩ := own_form hown (by omega)
                  obtain ⟨hG4, hB4, hP4, hc4, hf4⟩ := Grm.grow (W := (W2.alloc (.cells #[.string ra, .string rb, .string rc, .string rp, .pointer none, .int .i64 a] 55)).drew) (r := ⟨d, ra, rb, rc, rp, .pointer none, a⟩) HG3.out.drew (show B ≤ (W2.alloc (.cells #[.string ra, .string rb, .string rc, .string rp, .pointer none, .int .i64 a] 55)).heap.size by simp; omega) ⟨hd, hw⟩ hown hg hnew
                  exact ⟨g', cap', hv, hP4, hc4, hf4, ⟨i + 1, i + 1, _, _, _, rfl, rfl, by omega, HR.out.grow (r := ⟨d, ra, rb, rc, rp, .pointer none, a⟩) hlt HRS.out HTEN.out (HLR.out.trans hrl) rfl hlz hG4 (((HB1.out.mono hBr).trans (HW2.out.mono (Nat.le_trans hBr HB1.out.size))).trans ((((Below.refl B W2).alloc hB2 _).drew).trans hB4))⟩⟩)
                have HIN := hide (show (W2.alloc (.cells #[.string ra, .string rb, .string rc, .string rp, .pointer none, .int .i64 a] 55)).ownsRow B 55 6 t.rv t.rs.length (t.rs.map RRl.cells).flatten from HG3.out.inner (by simp))
                have HNW := hide (cell_new_row W2 #[.string ra, .string rb, .string rc, .string rp, .pointer none, .int .i64 a] 55)
                have hsz2 : B ≤ W2.heap.size + 1 := by omega
                clear he HR HRS HTEN HLR HG1 HG2 HG3 HW2 HE hrl hw HB1 HQ hlz hmin hrs2
                go_region_law (refine step_append_at rfl (.tmp 89) (.tmp 91) 48 rfl B 55 i0 (.agg #[.string ⟨#[]⟩, .string ⟨#[]⟩, .string ⟨#[]⟩, .string ⟨#[]⟩, .pointer none, .int .i64 0]) 6 80 Try.underlying48 hi hz0 hz1 hz3 rfl (by decide) t.rv t.rs.length (t.rs.map RRl.cells).flatten (by rfl) HIN.out ⟨W2.heap.size, 0, none⟩ 1 1 [.string ra, .string rb, .string rc, .string rp, .pointer none, .int .i64 a] (by rfl) (by rfl) HNW.out HO.out hb1 hb2 (by simpa using hsz2) ?_; intro v' w3 hown hg hnew; obtain ⟨g', cap', rfl, gP, gg, gf, HST⟩ := HKEY.out _ _ hown hg hnew; clear hown hg hnew)
                all_goals
                  clear HKEY HIN HNW HO hi hz0 hz1 hz3 e0 e1 e2 e3 e4 e5 d0 d0' d1 d1'
                  go_wp2_with fail
                  go_roundg k'
                  case measure => omega
                  case rel => exact HST.out
            · have c1 : w1.cell? ⟨P, 0, none⟩ = some sv := (HR.out.grm.below hB1).top_cell.1
              have HEND := hide (fun o => show ReadPost B P s.data.toList w (.returned (.int .i64 a)) (w1.alloc o) from ⟨(HR.out.below.trans (hB1.mono hBr)).alloc (Nat.le_trans hBr hB1.size) o, .inl ⟨a, rfl, by
                rw [HR.out.run, HRS.out]; exact rd_bad HTEN.out (HLR.out.trans hno)⟩⟩)
              obtain ⟨ao, cap, hsv, hao⟩ := HR.out.grm.form
              subst hsv
              have c1' := cell_alloc_old c1 (.cells #[.string ra, .string rb, .string rc, .string rp, .pointer none, .int .i64 0] 55)
              clear HR HRS HTEN HLR hno hB1 hao
              go_wp2_with fail
              go_ret
              exact HEND.out _
        · have g6 : decide ((6 : Int) < ((i - a : Nat) : Int)) = false := decide_eq_false (by omega)
          by_cases g0 : 0 < i - a
          · have HLR := hide (lineOf_rule (l := (s.extract a i).data.toList) (fun x hx e => by
              have := congrArg List.length e
              rw [byte_length, hlz] at this
              cases x with
              | nil => exact hx rfl
              | cons y x => simp at this; omega) (fun e => by have := congrArg List.length e; rw [byte_length, hlz] at this; simp at this; omega))
            go_wp2_with fail
            refine (ruleOf_any (s.extract a i) wr (by rw [hlz]; omega)).mono ?_
            rintro e w1 ⟨hB1, ⟨d, ra, rb, rc, rp, rfl, hd, hw, hrl⟩ | ⟨v, ⟨ra, rb, rc, rp, rfl⟩, rfl, hno⟩⟩
            · obtain ⟨ao, cap, hsv, hao⟩ := HR.out.grm.form
              subst hsv
              have HG1 := hide (HR.out.grm.below hB1)
              have HB1 := hide hB1
              have c1 : w1.cell? ⟨P, 0, none⟩ = some (.slice ao ss.length cap) := HG1.out.top_cell.1
              clear hB1 c0 f0
              by_cases hss : ss = []
              · have HEND := hide (fun o => show ReadPost B P s.data.toList w (.returned (.int .i64 a)) (w1.alloc o) from ⟨(HR.out.below.trans (HB1.out.mono hBr)).alloc (Nat.le_trans hBr HB1.out.size) o, .inl ⟨a, rfl, by
                  rw [HR.out.run, HRS.out]; exact rd_early HTEN.out (HLR.out.trans hrl) rfl ((any_state HR.out.flt).2 hss)⟩⟩)
                have hl0 : ss.length = 0 := by rw [hss]; rfl
                have hq0 : ((ss.length : Int) == 0) = true := by rw [hl0]; rfl
                have c1' := cell_alloc_old c1 (.cells #[.string ra, .string rb, .string rc, .string rp, .pointer none, .int .i64 0] 55)
                clear HR HRS HTEN HLR HG1 hrl hw hss
                go_wp2_with fail
                go_ret
                exact HEND.out _
              · obtain ⟨ss0, t, rfl⟩ : ∃ ss0 t, ss = ss0 ++ [t] := ⟨ss.dropLast, ss.getLast hss, (List.dropLast_concat_getLast hss).symm⟩
                have hln : (ss0 ++ [t]).length = ss0.length + 1 := by simp
                obtain ⟨g, rfl⟩ := hao (by omega)
                have hq0 : (((ss0 ++ [t]).length : Int) == 0) = false := by rw [beq_eq_false_iff_ne]; omega
                have c1' := cell_alloc_old c1 (.cells #[.string ra, .string rb, .string rc, .string rp, .pointer none, .int .i64 0] 55)
                have hrs2 := HR.out.few2 t (by simp)
                have hb1 : t.rs.length + 1 ≤ maxLen := by unfold maxLen; omega
                have hb2 : (t.rs.length + 1) * 80 ≤ 140737488355328 := by omega
                rw [hln] at c1 c1' hq0 HR HG1 hfew
                obtain ⟨i0, hi, hz0, hz1, hz3⟩ := info_parts info_rule
                have HW2 := hide (show Below w1.heap.size w1 (w1.alloc (.cells #[.string ra, .string rb, .string rc, .string rp, .pointer none, .int .i64 a] 55)) from (Below.refl _ _).alloc (Nat.le_refl _) _)
                have HE := hide (heap_alloc_last w1 (.cells #[.string ra, .string rb, .string rc, .string rp, .pointer none, .int .i64 a] 55))
                have HO : Hid (∀ u ∈ ([.string ra, .string rb, .string rc, .string rp, .pointer none, .int .i64 a] : List Value), u.oneCell' = true) := by
                  intro u hu
                  simp only [List.mem_cons, List.not_mem_nil, or_false] at hu
                  rcases hu with rfl | rfl | rfl | rfl | rfl | rfl <;> rfl
                obtain ⟨q, hq⟩ : ∃ q, q = w1.heap.size := ⟨_, rfl⟩
                clear hss hao
                go_wp2_with fail
                rw [← hq] at HE ⊢
                have HQ := hide hq
                clear hq c1 c1'
                generalize w1.alloc (.cells #[.string ra, .string rb, .string rc, .string rp, .pointer none, .int .i64 a] 55) = W2 at *
                have hB2 : B ≤ W2.heap.size := Nat.le_trans hBr (Nat.le_trans HB1.out.size HW2.out.size)
                have HG2 := hide (HG1.out.below HW2.out)
                have HG3 := hide (HG2.out.below ((Below.refl _ _).alloc (Nat.le_refl _) (.cells #[.string ra, .string rb, .string rc, .string rp, .pointer none, .int .i64 a] 55)))
                have he := HE.out
                have e0 : W2.cell? ⟨q, 0, none⟩ = some (.string ra) := by simp [World.cell?, he]
                have e1 : W2.cell? ⟨q, 1, none⟩ = some (.string rb) := by simp [World.cell?, he]
                have e2 : W2.cell? ⟨q, 2, none⟩ = some (.string rc) := by simp [World.cell?, he]
                have e3 : W2.cell? ⟨q, 3, none⟩ = some (.string rp) := by simp [World.cell?, he]
                have e4 : W2.cell? ⟨q, 4, none⟩ = some (.pointer none) := by simp [World.cell?, he]
                have e5 : W2.cell? ⟨q, 5, none⟩ = some (.int .i64 a) := by simp [World.cell?, he]
                have d0 : W2.cell? ⟨P, 0, none⟩ = some (.slice (some ⟨g, 0, none⟩) (ss0.length + 1) cap) := HG2.out.top_cell.1
                have d0' := cell_alloc_old d0 (.cells #[.string ra, .string rb, .string rc, .string rp, .pointer none, .int .i64 a] 55)
                have d1 : W2.cell? ⟨g, ss0.length * 3 + 1, none⟩ = some t.rv := (HG2.out.at (i := ss0.length) (s := t) (by simp)).2.1
                have d1' := cell_alloc_old d1 (.cells #[.string ra, .string rb, .string rc, .string rp, .pointer none, .int .i64 a] 55)
                have hwr : IntKind.i64.wrap (ss0.length : Int) = (ss0.length : Int) := by rw [IntKind.wrap_i64]; omega
                have hlt0 : (ss0.length : Int) < (ss0.length : Int) + 1 := by omega
                have HKEY := hide (show ∀ v' w3, w3.ownsRow B 55 6 v' (t.rs.length + 1) ((t.rs.map RRl.cells).flatten ++ [.string ra, .string rb, .string rc, .string rp, .pointer none, .int .i64 a]) → (W2.alloc (.cells #[.string ra, .string rb, .string rc, .string rp, .pointer none, .int .i64 a] 55)).drew.grownBy w3 t.rv.ownBlock → (v'.ownBlock = t.rv.ownBlock ∨ v'.ownBlock = some (W2.alloc (.cells #[.string ra, .string rb, .string rc, .string rp, .pointer none, .int .i64 a] 55)).drew.heap.size) →
                    ∃ g' cap', v' = .slice (some ⟨g', 0, none⟩) (t.rs.length + 1) cap' ∧ w3.cell? ⟨P, 0, none⟩ = some (.slice (some ⟨g, 0, none⟩) (ss0.length + 1) cap) ∧ w3.cell? ⟨g, ss0.length * 3 + 1, none⟩ = some t.rv ∧ w3.frozen? ⟨g, ss0.length * 3 + 1, none⟩ = false ∧ Hid (ReadLoop B P s w k' (.int .i64 ((i + 1 : Nat) : Int)) (.int .i64 ((i + 1 : Nat) : Int)) (w3.setCell ⟨g, ss0.length * 3 + 1, none⟩ v')) from fun v' w3 hown hg hnew => by
                  obtain ⟨g', cap', hv⟩ := own_form hown (by omega)
                  obtain ⟨hG4, hB4, hP4, hc4, hf4⟩ := Grm.grow (W := (W2.alloc (.cells #[.string ra, .string rb, .string rc, .string rp, .pointer none, .int .i64 a] 55)).drew) (r := ⟨d, ra, rb, rc, rp, .pointer none, a⟩) HG3.out.drew (show B ≤ (W2.alloc (.cells #[.string ra, .string rb, .string rc, .string rp, .pointer none, .int .i64 a] 55)).heap.size by simp; omega) ⟨hd, hw⟩ hown hg hnew
                  exact ⟨g', cap', hv, hP4, hc4, hf4, ⟨i + 1, i + 1, _, _, _, rfl, rfl, by omega, HR.out.grow (r := ⟨d, ra, rb, rc, rp, .pointer none, a⟩) hlt HRS.out HTEN.out (HLR.out.trans hrl) rfl hlz hG4 (((HB1.out.mono hBr).trans (HW2.out.mono (Nat.le_trans hBr HB1.out.size))).trans ((((Below.refl B W2).alloc hB2 _).drew).trans hB4))⟩⟩)
                have HIN := hide (show (W2.alloc (.cells #[.string ra, .string rb, .string rc, .string rp, .pointer none, .int .i64 a] 55)).ownsRow B 55 6 t.rv t.rs.length (t.rs.map RRl.cells).flatten from HG3.out.inner (by simp))
                have HNW := hide (cell_new_row W2 #[.string ra, .string rb, .string rc, .string rp, .pointer none, .int .i64 a] 55)
                have hsz2 : B ≤ W2.heap.size + 1 := by omega
                clear he HR HRS HTEN HLR HG1 HG2 HG3 HW2 HE hrl hw HB1 HQ hlz hmin hrs2
                go_region_law (refine step_append_at rfl (.tmp 89) (.tmp 91) 48 rfl B 55 i0 (.agg #[.string ⟨#[]⟩, .string ⟨#[]⟩, .string ⟨#[]⟩, .string ⟨#[]⟩, .pointer none, .int .i64 0]) 6 80 Try.underlying48 hi hz0 hz1 hz3 rfl (by decide) t.rv t.rs.length (t.rs.map RRl.cells).flatten (by rfl) HIN.out ⟨W2.heap.size, 0, none⟩ 1 1 [.string ra, .string rb, .string rc, .string rp, .pointer none, .int .i64 a] (by rfl) (by rfl) HNW.out HO.out hb1 hb2 (by simpa using hsz2) ?_; intro v' w3 hown hg hnew; obtain ⟨g', cap', rfl, gP, gg, gf, HST⟩ := HKEY.out _ _ hown hg hnew; clear hown hg hnew)
                all_goals
                  clear HKEY HIN HNW HO hi hz0 hz1 hz3 e0 e1 e2 e3 e4 e5 d0 d0' d1 d1'
                  go_wp2_with fail
                  go_roundg k'
                  case measure => omega
                  case rel => exact HST.out
            · have c1 : w1.cell? ⟨P, 0, none⟩ = some sv := (HR.out.grm.below hB1).top_cell.1
              have HEND := hide (fun o => show ReadPost B P s.data.toList w (.returned (.int .i64 a)) (w1.alloc o) from ⟨(HR.out.below.trans (hB1.mono hBr)).alloc (Nat.le_trans hBr hB1.size) o, .inl ⟨a, rfl, by
                rw [HR.out.run, HRS.out]; exact rd_bad HTEN.out (HLR.out.trans hno)⟩⟩)
              obtain ⟨ao, cap, hsv, hao⟩ := HR.out.grm.form
              subst hsv
              have c1' := cell_alloc_old c1 (.cells #[.string ra, .string rb, .string rc, .string rp, .pointer none, .int .i64 0] 55)
              clear HR HRS HTEN HLR hno hB1 hao
              go_wp2_with fail
              go_ret
              exact HEND.out _
          · have g0' : i - a = 0 := by omega
            have g0'' : decide ((0 : Int) < ((i - a : Nat) : Int)) = false := decide_eq_false (by omega)
            have HST := hide (HR.out.blank hlt HRS.out (by omega))
            clear HR HRS HTEN
            go_wp2_with fail
            go_roundg k'
            case measure => omega
            case rel => exact ⟨i + 1, i + 1, _, _, _, rfl, rfl, by omega, HST.out⟩
      · have q1 : (((s[i].toNat : Nat) : Int) != 10) = true := by
          rw [bne_iff_ne]; intro e; exact h10 (UInt8.toNat_inj.1 (by simpa using Int.ofNat.inj e))
        have HST := hide (show ReadAt B P s w a (i + 1) acc sv ss wr from { HR.out with
          le := by omega
          li := hlt
          nt := fun m h1 h2 => by
            rcases Nat.lt_or_ge m i with h | h
            · exact HR.out.nt m h1 h
            · have : m = i := by omega
              subst this
              rw [byte_get hlt]
              exact fun e => h10 (Option.some.inj e) })
        clear HR h10
        go_wp2_with fail
        go_roundg k'
        case measure => omega
        case rel => exact ⟨a, i + 1, acc, sv, ss, rfl, rfl, by omega, HST.out⟩
    · have g1 : decide ((i : Int) < (s.size : Int)) = false := decide_eq_false (by omega)
      by_cases hal : a < s.size
      · have g2 : decide ((a : Int) < (s.size : Int)) = true := decide_eq_true (by omega)
        have HEND := hide (show ReadPost B P s.data.toList w (.returned (.int .i64 a)) wr from ⟨HR.out.below, .inl ⟨a, rfl, by
          rw [HR.out.run]
          refine rd_open (fun e => ?_) ?_
          · have := congrArg List.length e
            rw [length_rest] at this
            simp at this
            omega
          · rw [← extract_rest (Nat.le_refl s.size)]
            exact no_ten fun m h1 h2 => HR.out.nt m h1 (by have := HR.out.li; omega)⟩⟩)
        clear HR
        go_wp2_with fail
        go_ret
        exact HEND.out
      · have g2 : decide ((a : Int) < (s.size : Int)) = false := decide_eq_false (by omega)
        have HEND := hide (show ReadPost B P s.data.toList w (.returned (.int .i64 (-1))) wr from ⟨HR.out.below, .inr ⟨rfl, acc, sv, ss, by
          rw [HR.out.run, rest_nil (by omega), rd_nil], HR.out.grm, HR.out.flt, by have := HR.out.few; have := HR.out.li; rw [byte_length]; omega, fun t ht => by have := HR.out.few2 t ht; have := HR.out.li; rw [byte_length]; omega⟩⟩)
        clear HR
        go_wp2_with fail
        go_ret
        exact HEND.out
end Go.Proofs.Ytgncgdkpkkdaeaa
