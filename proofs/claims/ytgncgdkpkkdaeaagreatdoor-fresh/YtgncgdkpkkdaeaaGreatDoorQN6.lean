/- Put together from N8, N6. -/
import Derived.Test.YtgncgdkpkkdaeaaGreatDoorQI
/- tintref: the walk of counted. -/
namespace Go.Proofs.YtgncgdkpkkdaeaaGreatDoor
open Go.RowKit Tint

set_option maxRecDepth 20000 in
set_option maxHeartbeats 2000000 in
theorem counted_any (B P : Nat) (sv : Value) (ss : List RSt) (size : Nat) (w : World) (h : Grm w B P sv ss) (hz : ss.length ≤ 1000000) (hz2 : ∀ t ∈ ss, t.rs.length ≤ 1000000) :
    Calls Tryz.prog 61 #[.pointer (some ⟨P, 0, none⟩), .int .i64 size] w (CountPost ss size w) := by
  obtain ⟨ao, cap, rfl, hao⟩ := h.form
  have c0 := h.top_cell.1
  have HG := hide h
  have HAO := hide hao
  have HZ2 := hide hz2
  clear h hao hz2
  go_enter Tryz.func61, Tryz.ntmps61
  go_wp2_with fail
  go_loopg [6] ss.length (fun k i wr => TwiceLoop ss w k i wr)
  case atStart => exact ⟨0, rfl, by omega, rfl, .nil⟩
  case round =>
    obtain ⟨j, rfl, hk, rfl, hall⟩ := hrel
    by_cases hlt : j < ss.length
    · have g1 : decide ((j : Int) < (ss.length : Int)) = true := decide_eq_true (by omega)
      obtain ⟨g, rfl⟩ := HAO.out (by omega)
      obtain ⟨s, hs⟩ : ∃ s, ss[j]? = some s := ⟨ss[j], List.getElem?_eq_getElem hlt⟩
      obtain ⟨a0, -, a2, -⟩ := HG.out.at hs
      have HALL := hide hall
      have HS := hide hs
      have HIX := hide (index_any B P _ ss s.name wr HG.out (by omega))
      clear hall hs
      go_wp2_with fail
      refine HIX.out.mono ?_
      rintro e w1 ⟨rfl, ⟨i0, s0, rfl, hs0, hn0, hno⟩ | ⟨rfl, hno⟩⟩
      · have hle : i0 ≤ j := by
          rcases Nat.lt_or_ge j i0 with h | h
          · exact absurd rfl (hno j s h HS.out)
          · exact h
        by_cases hlt0 : i0 < j
        · have q1 : decide ((i0 : Int) < (j : Int)) = true := decide_eq_true (by omega)
          have HEND := hide (fun n => show CountPost ss size w1 (.returned (.tuple #[.int .i64 3, .int .i64 s.at_])) (w1.drewN n) from ⟨Below.drewN' (Below.refl _ _) n, .inl ⟨s.at_, rfl, by
            rw [flat_split HS.out]
            refine HALL.out.hit_at _ ⟨_, rfl, s0.at_, flat_mem.2 ⟨s0, ?_, rfl, hn0⟩⟩
            exact List.mem_of_getElem? (i := i0) (by rw [List.getElem?_take_of_lt hlt0]; exact hs0)⟩⟩)
          clear HALL HS hs0 hn0 hno HIX
          go_wp2_with fail
          go_quiet (fail)
          go_wp2_with fail
          exact bodyPost_ret (v := .tuple #[.int .i64 3, .int .i64 s.at_]) (by simp [results, Tryz.results61, go_sem, *]) rfl (HEND.out _)
        · obtain rfl : i0 = j := by omega
          have q1 : decide ((i0 : Int) < (i0 : Int)) = false := decide_eq_false (by omega)
          have HST := hide (show Fst pTwice [] (flat (ss.take (i0 + 1))) none by
            rw [flat_take HS.out]
            refine fst_rules twice_rule (HALL.out.snoc ?_) _
            rintro ⟨n, hn, a, ha⟩
            cases hn
            obtain ⟨t, ht, _, hn⟩ := flat_mem.1 ha
            obtain ⟨m, hm⟩ := List.getElem?_of_mem ht
            have hl := get_lt hm
            rw [List.length_take] at hl
            rw [List.getElem?_take_of_lt (by omega)] at hm
            exact hno m t (by omega) hm hn)
          obtain ⟨k', rfl⟩ : ∃ k', gk = k' + 1 := ⟨gk - 1, by omega⟩
          have hi1 : i0 + 1 ≤ 9223372036854775807 := by omega
          clear HALL HS hs0 hn0 hno HIX
          go_wp2_with fail
          go_roundg k'
          case measure => omega
          case rel => exact ⟨i0 + 1, rfl, by omega, rfl, HST.out⟩
      · exact absurd rfl (hno s (List.mem_of_getElem? HS.out))
    · have g1 : decide ((j : Int) < (ss.length : Int)) = false := decide_eq_false (by omega)
      have HTW := hide (show Fst pTwice [] (flat ss) none by rw [List.take_of_length_le (by omega)] at hall; exact hall)
      clear hall
      go_wp2_with fail
      go_loopg [7, 8] ss.length (fun k n i wx => ManyLoop ss wr k n i wx)
      case atStart => exact ⟨0, rfl, rfl, by omega, rfl, .nil, by omega, by simp [nRules]⟩
      case round =>
        obtain ⟨j2, rfl, rfl, hk2, rfl, hall, hj12, hr40⟩ := hrel
        obtain ⟨kk, hkk⟩ : ∃ kk, kk = gk := ⟨_, rfl⟩
        by_cases hlt2 : j2 < ss.length
        · have g2 : decide ((j2 : Int) < (ss.length : Int)) = true := decide_eq_true (by omega)
          obtain ⟨g, rfl⟩ := HAO.out (by omega)
          obtain ⟨s, hs⟩ : ∃ s, ss[j2]? = some s := ⟨ss[j2], List.getElem?_eq_getElem hlt2⟩
          obtain ⟨a0, a1, a2, -⟩ := HG.out.at hs
          have hlen : (ss.take j2).length = j2 := by rw [List.length_take]; omega
          have HALL := hide hall
          have HS := hide hs
          clear hall hs
          by_cases h12 : 12 ≤ j2
          · have q1 : decide ((12 : Int) ≤ (j2 : Int)) = true := decide_eq_true (by omega)
            have HEND := hide (fun n => show CountPost ss size wr (.returned (.tuple #[.int .i64 4, .int .i64 s.at_])) (wr.drewN n) from ⟨Below.drewN' (Below.refl _ _) n, .inr ⟨HTW.out, .inl ⟨s.at_, rfl, by
              rw [flat_split HS.out]
              exact HALL.out.hit_at _ ((pMany_state _ _ hr40).2 (by omega))⟩⟩⟩)
            clear HALL HS
            go_wp2_with fail
            go_quiet (fail)
            go_wp2_with fail
            exact bodyPost_ret (v := .tuple #[.int .i64 4, .int .i64 s.at_]) (by simp [results, Tryz.results61, go_sem, *]) rfl (HEND.out _)
          · have q1 : decide ((12 : Int) ≤ (j2 : Int)) = false := decide_eq_false (by omega)
            obtain ⟨ro, rcap, hrv, hro⟩ := HG.out.rules (List.mem_of_getElem? HS.out)
            rw [hrv] at a1
            have HRV := hide hrv
            have HRO := hide hro
            have HST0 := hide (show Fst pMany [] (flat (ss.take j2) ++ [(s.at_, .state s.name.data.toList)]) none from HALL.out.snoc (fun h => by have := (pMany_state _ _ hr40).1 h; omega))
            have hrz := HZ2.out s (List.mem_of_getElem? HS.out)
            clear hrv hro
            go_wp2_with fail
            go_loopg [7, 9] s.rs.length (fun m n i wx => ManyIn ss j2 s wr m n i wx)
            case atStart => exact ⟨0, by simp, rfl, by omega, rfl, by simpa using HST0.out, by simpa using hr40⟩
            case round =>
              obtain ⟨k3, rfl, rfl, hk3, rfl, hin, hle40⟩ := hrel
              by_cases hlt3 : k3 < s.rs.length
              · have g3 : decide ((k3 : Int) < (s.rs.length : Int)) = true := decide_eq_true (by omega)
                obtain ⟨rg, rfl⟩ := HRO.out (by omega)
                obtain ⟨r, hr⟩ : ∃ r, s.rs[k3]? = some r := ⟨s.rs[k3], List.getElem?_eq_getElem hlt3⟩
                have b5 := (HG.out.rule (List.mem_of_getElem? HS.out) HRV.out hr 5 (by omega) (u := .int .i64 r.at_) rfl).1
                have hin1 : (nRules (ss.take j2) + k3 : Nat) + 1 ≤ 9223372036854775807 := by omega
                have HIN := hide hin
                have HR := hide hr
                have hkl : (s.rs.take k3).length = k3 := by rw [List.length_take]; omega
                clear hin hr
                by_cases h40 : 40 ≤ nRules (ss.take j2) + k3
                · have q3 : decide ((40 : Int) < ((nRules (ss.take j2) + k3 : Nat) : Int) + 1) = true := decide_eq_true (by omega)
                  have HEND := hide (fun n => show CountPost ss size wr (.returned (.tuple #[.int .i64 4, .int .i64 r.at_])) (wr.drewN n) from ⟨Below.drewN' (Below.refl _ _) n, .inr ⟨HTW.out, .inl ⟨r.at_, rfl, by
                    have e : flat ss = ((flat (ss.take j2) ++ [(s.at_, .state s.name.data.toList)]) ++ (s.rs.take k3).map RRl.ln) ++ (r.at_, r.ln.2) :: ((s.rs.drop (k3 + 1)).map RRl.ln ++ flat (ss.drop (j2 + 1))) := by
                      rw [flat_split HS.out]
                      conv => lhs; rw [← List.take_append_drop k3 s.rs, List.drop_eq_getElem_cons hlt3]
                      have := HR.out
                      rw [List.getElem?_eq_getElem hlt3] at this
                      rw [Option.some.inj this]
                      simp
                      rfl
                    rw [e]
                    exact HIN.out.hit_at _ ((pMany_rule _ _ _ _ r (by omega)).2 (by omega))⟩⟩⟩)
                  clear HIN HR HALL
                  go_wp2_with fail
                  go_quiet (fail)
                  go_wp2_with fail
                  exact bodyPost_ret (v := .tuple #[.int .i64 4, .int .i64 r.at_]) (by simp [results, Tryz.results61, go_sem, *]) rfl (HEND.out _)
                · have q3 : decide ((40 : Int) < ((nRules (ss.take j2) + k3 : Nat) : Int) + 1) = false := decide_eq_false (by omega)
                  have HST := hide (show Fst pMany [] ((flat (ss.take j2) ++ [(s.at_, .state s.name.data.toList)]) ++ (s.rs.take (k3 + 1)).map RRl.ln) none by
                    have := HR.out
                    rw [List.getElem?_eq_getElem hlt3] at this
                    rw [List.take_succ_eq_append_getElem hlt3, Option.some.inj this, List.map_append, ← List.append_assoc]
                    exact HIN.out.snoc (a := r.at_) (fun h => by have := (pMany_rule _ _ _ _ r (by omega)).1 h; omega))
                  obtain ⟨m', rfl⟩ : ∃ m', gk = m' + 1 := ⟨gk - 1, by omega⟩
                  have hk31 : k3 + 1 ≤ 9223372036854775807 := by omega
                  clear HIN HR HALL
                  go_wp2_with fail
                  go_roundg m'
                  case measure => omega
                  case rel => exact ⟨k3 + 1, by simp; omega, rfl, by omega, rfl, HST.out, by omega⟩
              · have g3 : decide ((k3 : Int) < (s.rs.length : Int)) = false := decide_eq_false (by omega)
                obtain rfl : k3 = s.rs.length := by omega
                have HST := hide (show Fst pMany [] (flat (ss.take (j2 + 1))) none by
                  rw [flat_take HS.out]
                  rw [List.take_of_length_le (Nat.le_refl _)] at hin
                  exact hin)
                have hnr := nRules_take HS.out
                obtain ⟨k', rfl⟩ : ∃ k', kk = k' + 1 := ⟨kk - 1, by omega⟩
                have hj21 : j2 + 1 ≤ 9223372036854775807 := by omega
                clear hin HALL HS
                go_wp2_with fail
                go_roundg k'
                case measure => omega
                case rel => exact ⟨j2 + 1, by rw [hnr], rfl, by omega, rfl, HST.out, by omega, by omega⟩
        · have g2 : decide ((j2 : Int) < (ss.length : Int)) = false := decide_eq_false (by omega)
          have HMA := hide (show Fst pMany [] (flat ss) none by rw [List.take_of_length_le (by omega)] at hall; exact hall)
          clear hall
          by_cases h0 : ss = []
          · have hl0 : ss.length = 0 := by rw [h0]; rfl
            have q0 : ((ss.length : Int) == 0) = true := by rw [hl0]; rfl
            have HEND := hide (show CountPost ss size wr (.returned (.tuple #[.int .i64 4, .int .i64 size])) wr from ⟨Below.refl _ _, .inr ⟨HTW.out, .inr ⟨HMA.out, .inl ⟨h0, rfl⟩⟩⟩⟩)
            clear h0
            go_wp2_with fail
            exact bodyPost_ret (v := .tuple #[.int .i64 4, .int .i64 size]) (by simp [results, Tryz.results61, go_sem, *]) rfl HEND.out
          · have hl0 : ¬ ss.length = 0 := fun h => h0 (List.eq_nil_of_length_eq_zero h)
            have q0 : ((ss.length : Int) == 0) = false := by rw [beq_eq_false_iff_ne]; omega
            have HEND := hide (show CountPost ss size wr (.returned (.tuple #[.int .i64 0, .int .i64 0])) wr from ⟨Below.refl _ _, .inr ⟨HTW.out, .inr ⟨HMA.out, .inr ⟨h0, rfl⟩⟩⟩⟩)
            clear h0
            go_wp2_with fail
            exact bodyPost_ret (v := .tuple #[.int .i64 0, .int .i64 0]) (by simp [results, Tryz.results61, go_sem, *]) rfl HEND.out
end Go.Proofs.YtgncgdkpkkdaeaaGreatDoor

/- tintref: the walk of read. -/
namespace Go.Proofs.YtgncgdkpkkdaeaaGreatDoor
open Go.RowKit Tint

set_option maxRecDepth 20000 in
set_option maxHeartbeats 4000000 in
theorem read_any (B P : Nat) (s : ByteArray) (w : World) (hB : B ≤ w.heap.size) (hG : Grm w B P (.slice none 0 0) []) (hz : s.size ≤ 2000) :
    Calls Tryz.prog 60 #[.pointer (some ⟨P, 0, none⟩), .string s] w (ReadPost B P s.data.toList w) := by
  have HG := hide hG
  clear hG
  go_enter Tryz.func60, Tryz.ntmps60
  go_wp2_with fail
  go_loopg [5, 6] s.size (fun k va vi wr => ReadLoop B P s w k va vi wr)
  case atStart =>
    exact ⟨0, 0, [], _, [], rfl, rfl, by omega, Nat.le_refl _, Nat.zero_le _, fun m h1 h2 => by omega, by simp [rest], HG.out, rfl, Below.refl _ _, Nat.le_refl _, fun t ht => by simp at ht⟩
  case round =>
    obtain ⟨a, i, acc, sv, ss, rfl, rfl, hk, hR⟩ := hrel
    have HR := hide hR
    have hai := hR.le
    have hBr : B ≤ wr.heap.size := Nat.le_trans hB hR.below.size
    have c0 := hR.grm.top_cell.1
    have f0 := hR.grm.top_cell.2
    have hfew := hR.few
    clear hR HG
    by_cases hlt : i < s.size
    · have g1 : decide ((i : Int) < (s.size : Int)) = true := decide_eq_true (by omega)
      have hi1 : i + 1 ≤ 9223372036854775807 := by omega
      obtain ⟨k', rfl⟩ : ∃ k', gk = k' + 1 := ⟨gk - 1, by omega⟩
      by_cases h10 : s[i] = 10
      · have q1 : (((s[i].toNat : Nat) : Int) != 10) = false := by rw [h10]; rfl
        have hmin : min i s.size - a = i - a := by omega
        have hlz : (s.extract a i).size = i - a := by rw [ByteArray.size_extract]; exact hmin
        have HRS := hide (show rest s a = (s.extract a i).data.toList ++ 10 :: rest s (i + 1) by rw [extract_seg hai, rest_cons hlt, h10])
        have HTEN := hide (no_ten HR.out.nt)
        clear h10
        by_cases h6 : 6 < i - a
        · have g6 : decide ((6 : Int) < ((i - a : Nat) : Int)) = true := decide_eq_true (by omega)
          have h6' : 6 ≤ i - a := by omega
          have h6i : (6 : Int) ≤ ((i - a : Nat) : Int) := by omega
          by_cases hst : ((s.extract a i).extract 0 6).toList = [115, 116, 97, 116, 101, 32]
          · have q2 : (((s.extract a i).extract 0 6).toList == [115, 116, 97, 116, 101, 32]) = true := by rw [hst]; rfl
            have HLS := hide (lineOf_state (l := (s.extract a i).data.toList) (x := ((s.extract a i).extract 6 (i - a)).data.toList) (by
              rw [← hst, ByteArray.toList_eq]; exact line_split (Nat.le_of_eq hlz)))
            clear hst
            go_wp2_with fail
            refine (refName_any _ _ (by rw [ByteArray.size_extract, hlz]; omega)).mono ?_
            rintro e w1 ⟨rfl, rfl⟩
            by_cases hnm : isName ((s.extract a i).extract 6 (i - a)).data.toList = true
            · rw [hnm]
              have HLS2 := hide (HLS.out.trans (if_pos hnm))
              obtain ⟨i0, hi, hz0, hz1, hz3⟩ := info_parts info_state
              have HGA := hide (HR.out.grm.below ((Below.refl _ _).alloc (Nat.le_refl _) (.cells #[.string ((s.extract a i).extract 6 (i - a)), .slice none 0 0, .int .i64 a] 123)))
              have c0' := cell_alloc_old c0 (.cells #[.string ((s.extract a i).extract 6 (i - a)), .slice none 0 0, .int .i64 a] 123)
              have HO : Hid (∀ u ∈ [Value.string ((s.extract a i).extract 6 (i - a)), .slice none 0 0, .int .i64 a], u.oneCell' = true) := by
                intro u hu
                simp only [List.mem_cons, List.not_mem_nil, or_false] at hu
                rcases hu with rfl | rfl | rfl <;> rfl
              go_wp2_with fail
              go_region_law (refine step_append_at rfl (.tmp 44) (.tmp 49) 115 rfl B 123 i0 (.agg #[.string ⟨#[]⟩, .slice none 0 0, .int .i64 0]) 3 48 Tryz.underlying115 hi hz0 hz1 hz3 rfl (by decide) sv ss.length ((ss.map RSt.el).flatMap El.cells) (by rfl) (by exact HGA.out.outer) ⟨w1.heap.size, 0, none⟩ 1 1 [.string ((s.extract a i).extract 6 (i - a)), .slice none 0 0, .int .i64 a] (by rfl) (by rfl) (by exact cell_new_row w1 #[.string ((s.extract a i).extract 6 (i - a)), .slice none 0 0, .int .i64 a] _) HO.out (by unfold maxLen; omega) (by omega) (by simp; omega) ?_; intro v' w3 hown hg _; obtain ⟨g, cap, rfl⟩ := own_form hown (by omega); obtain ⟨hG3, hB3, hP3⟩ := Grm.push (W := (w1.alloc (.cells #[.string ((s.extract a i).extract 6 (i - a)), .slice none 0 0, .int .i64 a] 123)).drew) HGA.out.drew (show B ≤ (w1.alloc (.cells #[.string ((s.extract a i).extract 6 (i - a)), .slice none 0 0, .int .i64 a] 123)).heap.size by simp; omega) hown hg; have g2 : w3.cell? ⟨P, 0, none⟩ = some sv := (by simp [World.cell?, hP3]); have gf : w3.frozen? ⟨P, 0, none⟩ = false := (by simp [World.frozen?, hP3]); have HST := hide (HR.out.push hlt HRS.out HTEN.out HLS2.out hlz hG3 ((((Below.refl B w1).alloc hBr _).drew).trans hB3)); clear hown hg hP3 hG3 hB3)
              all_goals
                clear HR HRS HTEN HLS HLS2 HGA HO c0 c0' f0 hi hz0 hz1 hz3 hnm
                go_wp2_with fail
                go_roundg k'
                case measure => omega
                case rel => exact ⟨i + 1, i + 1, _, _, _, rfl, rfl, by omega, HST.out⟩
            · have hnm' : isName ((s.extract a i).extract 6 (i - a)).data.toList = false := by simpa using hnm
              have HEND := hide (show ReadPost B P s.data.toList w (.returned (.int .i64 a)) w1 from ⟨HR.out.below, .inl ⟨a, rfl, by
                rw [HR.out.run, HRS.out]; exact rd_bad HTEN.out (by rw [HLS.out, if_neg hnm])⟩⟩)
              rw [hnm']
              clear HR HRS HTEN HLS hnm
              go_wp2_with fail
              go_ret
              exact HEND.out
          · have q2 : (((s.extract a i).extract 0 6).toList == [115, 116, 97, 116, 101, 32]) = false := by rw [beq_eq_false_iff_ne]; exact hst
            have g0 : 0 < i - a := by omega
            have HLR := hide (lineOf_rule (l := (s.extract a i).data.toList) (fun x _ e => hst (by
              rw [ByteArray.toList_eq, extract_list, e]; rfl)) (fun e => by have := congrArg List.length e; rw [byte_length, hlz] at this; simp at this; omega))
            clear hst
            go_wp2_with fail
            refine (ruleOf_any (s.extract a i) wr (by rw [hlz]; omega)).mono ?_
            rintro e w1 ⟨hB1, ⟨d, ra, rb, rc, rp, rfl, hd, hw, hrl⟩ | ⟨v, ⟨ra, rb, rc, rp, rfl⟩, rfl, hno⟩⟩
            · obtain ⟨ao, cap, hsv, hao⟩ := HR.out.grm.form
              subst hsv
              have HG1 := hide (HR.out.grm.below hB1)
              have HB1 := hide hB1
              have c1 : w1.cell? ⟨P, 0, none⟩ = some (.slice ao ss.length cap) := HG1.out.top_cell.1
              clear hB1 c0 f0
              by_cases hss : ss = []
              · have HEND := hide (fun o => show ReadPost B P s.data.toList w (.returned (.int .i64 a)) (w1.alloc o) from ⟨(HR.out.below.trans (HB1.out.mono hBr)).alloc (Nat.le_trans hBr HB1.out.size) o, .inl ⟨a, rfl, by
                  rw [HR.out.run, HRS.out]; exact rd_early HTEN.out (HLR.out.trans hrl) rfl ((any_state HR.out.flt).2 hss)⟩⟩)
                have hl0 : ss.length = 0 := by rw [hss]; rfl
                have hq0 : ((ss.length : Int) == 0) = true := by rw [hl0]; rfl
                have c1' := cell_alloc_old c1 (.cells #[.string ra, .string rb, .string rc, .string rp, .pointer none, .int .i64 0] 128)
                clear HR HRS HTEN HLR HG1 hrl hw hss
                go_wp2_with fail
                go_ret
                exact HEND.out _
              · obtain ⟨ss0, t, rfl⟩ : ∃ ss0 t, ss = ss0 ++ [t] := ⟨ss.dropLast, ss.getLast hss, (List.dropLast_concat_getLast hss).symm⟩
                have hln : (ss0 ++ [t]).length = ss0.length + 1 := by simp
                obtain ⟨g, rfl⟩ := hao (by omega)
                have hq0 : (((ss0 ++ [t]).length : Int) == 0) = false := by rw [beq_eq_false_iff_ne]; omega
                have c1' := cell_alloc_old c1 (.cells #[.string ra, .string rb, .string rc, .string rp, .pointer none, .int .i64 0] 128)
                have hrs2 := HR.out.few2 t (by simp)
                have hb1 : t.rs.length + 1 ≤ maxLen := by unfold maxLen; omega
                have hb2 : (t.rs.length + 1) * 80 ≤ 140737488355328 := by omega
                rw [hln] at c1 c1' hq0 HR HG1 hfew
                obtain ⟨i0, hi, hz0, hz1, hz3⟩ := info_parts info_rule
                have HW2 := hide (show Below w1.heap.size w1 (w1.alloc (.cells #[.string ra, .string rb, .string rc, .string rp, .pointer none, .int .i64 a] 128)) from (Below.refl _ _).alloc (Nat.le_refl _) _)
                have HE := hide (heap_alloc_last w1 (.cells #[.string ra, .string rb, .string rc, .string rp, .pointer none, .int .i64 a] 128))
                have HO : Hid (∀ u ∈ ([.string ra, .string rb, .string rc, .string rp, .pointer none, .int .i64 a] : List Value), u.oneCell' = true) := by
                  intro u hu
                  simp only [List.mem_cons, List.not_mem_nil, or_false] at hu
                  rcases hu with rfl | rfl | rfl | rfl | rfl | rfl <;> rfl
                obtain ⟨q, hq⟩ : ∃ q, q = w1.heap.size := ⟨_, rfl⟩
                clear hss hao
                go_wp2_with fail
                rw [← hq] at HE ⊢
                have HQ := hide hq
                clear hq c1 c1'
                generalize w1.alloc (.cells #[.string ra, .string rb, .string rc, .string rp, .pointer none, .int .i64 a] 128) = W2 at *
                have hB2 : B ≤ W2.heap.size := Nat.le_trans hBr (Nat.le_trans HB1.out.size HW2.out.size)
                have HG2 := hide (HG1.out.below HW2.out)
                have HG3 := hide (HG2.out.below ((Below.refl _ _).alloc (Nat.le_refl _) (.cells #[.string ra, .string rb, .string rc, .string rp, .pointer none, .int .i64 a] 128)))
                have he := HE.out
                have e0 : W2.cell? ⟨q, 0, none⟩ = some (.string ra) := by simp [World.cell?, he]
                have e1 : W2.cell? ⟨q, 1, none⟩ = some (.string rb) := by simp [World.cell?, he]
                have e2 : W2.cell? ⟨q, 2, none⟩ = some (.string rc) := by simp [World.cell?, he]
                have e3 : W2.cell? ⟨q, 3, none⟩ = some (.string rp) := by simp [World.cell?, he]
                have e4 : W2.cell? ⟨q, 4, none⟩ = some (.pointer none) := by simp [World.cell?, he]
                have e5 : W2.cell? ⟨q, 5, none⟩ = some (.int .i64 a) := by simp [World.cell?, he]
                have d0 : W2.cell? ⟨P, 0, none⟩ = some (.slice (some ⟨g, 0, none⟩) (ss0.length + 1) cap) := HG2.out.top_cell.1
                have d0' := cell_alloc_old d0 (.cells #[.string ra, .string rb, .string rc, .string rp, .pointer none, .int .i64 a] 128)
                have d1 : W2.cell? ⟨g, ss0.length * 3 + 1, none⟩ = some t.rv := (HG2.out.at (i := ss0.length) (s := t) (by simp)).2.1
                have d1' := cell_alloc_old d1 (.cells #[.string ra, .string rb, .string rc, .string rp, .pointer none, .int .i64 a] 128)
                have hwr : IntKind.i64.wrap (ss0.length : Int) = (ss0.length : Int) := by rw [IntKind.wrap_i64]; omega
                have hlt0 : (ss0.length : Int) < (ss0.length : Int) + 1 := by omega
                have HKEY := hide (show ∀ v' w3, w3.ownsRow B 128 6 v' (t.rs.length + 1) ((t.rs.map RRl.cells).flatten ++ [.string ra, .string rb, .string rc, .string rp, .pointer none, .int .i64 a]) → (W2.alloc (.cells #[.string ra, .string rb, .string rc, .string rp, .pointer none, .int .i64 a] 128)).drew.grownBy w3 t.rv.ownBlock → (v'.ownBlock = t.rv.ownBlock ∨ v'.ownBlock = some (W2.alloc (.cells #[.string ra, .string rb, .string rc, .string rp, .pointer none, .int .i64 a] 128)).drew.heap.size) →
                    ∃ g' cap', v' = .slice (some ⟨g', 0, none⟩) (t.rs.length + 1) cap' ∧ w3.cell? ⟨P, 0, none⟩ = some (.slice (some ⟨g, 0, none⟩) (ss0.length + 1) cap) ∧ w3.cell? ⟨g, ss0.length * 3 + 1, none⟩ = some t.rv ∧ w3.frozen? ⟨g, ss0.length * 3 + 1, none⟩ = false ∧ Hid (ReadLoop B P s w k' (.int .i64 ((i + 1 : Nat) : Int)) (.int .i64 ((i + 1 : Nat) : Int)) (w3.setCell ⟨g, ss0.length * 3 + 1, none⟩ v')) from fun v' w3 hown hg hnew => by
                  obtain ⟨g', cap', hv⟩ := own_form hown (by omega)
                  obtain ⟨hG4, hB4, hP4, hc4, hf4⟩ := Grm.grow (W := (W2.alloc (.cells #[.string ra, .string rb, .string rc, .string rp, .pointer none, .int .i64 a] 128)).drew) (r := ⟨d, ra, rb, rc, rp, .pointer none, a⟩) HG3.out.drew (show B ≤ (W2.alloc (.cells #[.string ra, .string rb, .string rc, .string rp, .pointer none, .int .i64 a] 128)).heap.size by simp; omega) ⟨hd, hw⟩ hown hg hnew
                  exact ⟨g', cap', hv, hP4, hc4, hf4, ⟨i + 1, i + 1, _, _, _, rfl, rfl, by omega, HR.out.grow (r := ⟨d, ra, rb, rc, rp, .pointer none, a⟩) hlt HRS.out HTEN.out (HLR.out.trans hrl) rfl hlz hG4 (((HB1.out.mono hBr).trans (HW2.out.mono (Nat.le_trans hBr HB1.out.size))).trans ((((Below.refl B W2).alloc hB2 _).drew).trans hB4))⟩⟩)
                have HIN := hide (show (W2.alloc (.cells #[.string ra, .string rb, .string rc, .string rp, .pointer none, .int .i64 a] 128)).ownsRow B 128 6 t.rv t.rs.length (t.rs.map RRl.cells).flatten from HG3.out.inner (by simp))
                have HNW := hide (cell_new_row W2 #[.string ra, .string rb, .string rc, .string rp, .pointer none, .int .i64 a] 128)
                have hsz2 : B ≤ W2.heap.size + 1 := by omega
                clear he HR HRS HTEN HLR HG1 HG2 HG3 HW2 HE hrl hw HB1 HQ hlz hmin hrs2
                go_region_law (refine step_append_at rfl (.tmp 89) (.tmp 91) 121 rfl B 128 i0 (.agg #[.string ⟨#[]⟩, .string ⟨#[]⟩, .string ⟨#[]⟩, .string ⟨#[]⟩, .pointer none, .int .i64 0]) 6 80 Tryz.underlying121 hi hz0 hz1 hz3 rfl (by decide) t.rv t.rs.length (t.rs.map RRl.cells).flatten (by rfl) HIN.out ⟨W2.heap.size, 0, none⟩ 1 1 [.string ra, .string rb, .string rc, .string rp, .pointer none, .int .i64 a] (by rfl) (by rfl) HNW.out HO.out hb1 hb2 (by simpa using hsz2) ?_; intro v' w3 hown hg hnew; obtain ⟨g', cap', rfl, gP, gg, gf, HST⟩ := HKEY.out _ _ hown hg hnew; clear hown hg hnew)
                all_goals
                  clear HKEY HIN HNW HO hi hz0 hz1 hz3 e0 e1 e2 e3 e4 e5 d0 d0' d1 d1'
                  go_wp2_with fail
                  go_roundg k'
                  case measure => omega
                  case rel => exact HST.out
            · have c1 : w1.cell? ⟨P, 0, none⟩ = some sv := (HR.out.grm.below hB1).top_cell.1
              have HEND := hide (fun o => show ReadPost B P s.data.toList w (.returned (.int .i64 a)) (w1.alloc o) from ⟨(HR.out.below.trans (hB1.mono hBr)).alloc (Nat.le_trans hBr hB1.size) o, .inl ⟨a, rfl, by
                rw [HR.out.run, HRS.out]; exact rd_bad HTEN.out (HLR.out.trans hno)⟩⟩)
              obtain ⟨ao, cap, hsv, hao⟩ := HR.out.grm.form
              subst hsv
              have c1' := cell_alloc_old c1 (.cells #[.string ra, .string rb, .string rc, .string rp, .pointer none, .int .i64 0] 128)
              clear HR HRS HTEN HLR hno hB1 hao
              go_wp2_with fail
              go_ret
              exact HEND.out _
        · have g6 : decide ((6 : Int) < ((i - a : Nat) : Int)) = false := decide_eq_false (by omega)
          by_cases g0 : 0 < i - a
          · have HLR := hide (lineOf_rule (l := (s.extract a i).data.toList) (fun x hx e => by
              have := congrArg List.length e
              rw [byte_length, hlz] at this
              cases x with
              | nil => exact hx rfl
              | cons y x => simp at this; omega) (fun e => by have := congrArg List.length e; rw [byte_length, hlz] at this; simp at this; omega))
            go_wp2_with fail
            refine (ruleOf_any (s.extract a i) wr (by rw [hlz]; omega)).mono ?_
            rintro e w1 ⟨hB1, ⟨d, ra, rb, rc, rp, rfl, hd, hw, hrl⟩ | ⟨v, ⟨ra, rb, rc, rp, rfl⟩, rfl, hno⟩⟩
            · obtain ⟨ao, cap, hsv, hao⟩ := HR.out.grm.form
              subst hsv
              have HG1 := hide (HR.out.grm.below hB1)
              have HB1 := hide hB1
              have c1 : w1.cell? ⟨P, 0, none⟩ = some (.slice ao ss.length cap) := HG1.out.top_cell.1
              clear hB1 c0 f0
              by_cases hss : ss = []
              · have HEND := hide (fun o => show ReadPost B P s.data.toList w (.returned (.int .i64 a)) (w1.alloc o) from ⟨(HR.out.below.trans (HB1.out.mono hBr)).alloc (Nat.le_trans hBr HB1.out.size) o, .inl ⟨a, rfl, by
                  rw [HR.out.run, HRS.out]; exact rd_early HTEN.out (HLR.out.trans hrl) rfl ((any_state HR.out.flt).2 hss)⟩⟩)
                have hl0 : ss.length = 0 := by rw [hss]; rfl
                have hq0 : ((ss.length : Int) == 0) = true := by rw [hl0]; rfl
                have c1' := cell_alloc_old c1 (.cells #[.string ra, .string rb, .string rc, .string rp, .pointer none, .int .i64 0] 128)
                clear HR HRS HTEN HLR HG1 hrl hw hss
                go_wp2_with fail
                go_ret
                exact HEND.out _
              · obtain ⟨ss0, t, rfl⟩ : ∃ ss0 t, ss = ss0 ++ [t] := ⟨ss.dropLast, ss.getLast hss, (List.dropLast_concat_getLast hss).symm⟩
                have hln : (ss0 ++ [t]).length = ss0.length + 1 := by simp
                obtain ⟨g, rfl⟩ := hao (by omega)
                have hq0 : (((ss0 ++ [t]).length : Int) == 0) = false := by rw [beq_eq_false_iff_ne]; omega
                have c1' := cell_alloc_old c1 (.cells #[.string ra, .string rb, .string rc, .string rp, .pointer none, .int .i64 0] 128)
                have hrs2 := HR.out.few2 t (by simp)
                have hb1 : t.rs.length + 1 ≤ maxLen := by unfold maxLen; omega
                have hb2 : (t.rs.length + 1) * 80 ≤ 140737488355328 := by omega
                rw [hln] at c1 c1' hq0 HR HG1 hfew
                obtain ⟨i0, hi, hz0, hz1, hz3⟩ := info_parts info_rule
                have HW2 := hide (show Below w1.heap.size w1 (w1.alloc (.cells #[.string ra, .string rb, .string rc, .string rp, .pointer none, .int .i64 a] 128)) from (Below.refl _ _).alloc (Nat.le_refl _) _)
                have HE := hide (heap_alloc_last w1 (.cells #[.string ra, .string rb, .string rc, .string rp, .pointer none, .int .i64 a] 128))
                have HO : Hid (∀ u ∈ ([.string ra, .string rb, .string rc, .string rp, .pointer none, .int .i64 a] : List Value), u.oneCell' = true) := by
                  intro u hu
                  simp only [List.mem_cons, List.not_mem_nil, or_false] at hu
                  rcases hu with rfl | rfl | rfl | rfl | rfl | rfl <;> rfl
                obtain ⟨q, hq⟩ : ∃ q, q = w1.heap.size := ⟨_, rfl⟩
                clear hss hao
                go_wp2_with fail
                rw [← hq] at HE ⊢
                have HQ := hide hq
                clear hq c1 c1'
                generalize w1.alloc (.cells #[.string ra, .string rb, .string rc, .string rp, .pointer none, .int .i64 a] 128) = W2 at *
                have hB2 : B ≤ W2.heap.size := Nat.le_trans hBr (Nat.le_trans HB1.out.size HW2.out.size)
                have HG2 := hide (HG1.out.below HW2.out)
                have HG3 := hide (HG2.out.below ((Below.refl _ _).alloc (Nat.le_refl _) (.cells #[.string ra, .string rb, .string rc, .string rp, .pointer none, .int .i64 a] 128)))
                have he := HE.out
                have e0 : W2.cell? ⟨q, 0, none⟩ = some (.string ra) := by simp [World.cell?, he]
                have e1 : W2.cell? ⟨q, 1, none⟩ = some (.string rb) := by simp [World.cell?, he]
                have e2 : W2.cell? ⟨q, 2, none⟩ = some (.string rc) := by simp [World.cell?, he]
                have e3 : W2.cell? ⟨q, 3, none⟩ = some (.string rp) := by simp [World.cell?, he]
                have e4 : W2.cell? ⟨q, 4, none⟩ = some (.pointer none) := by simp [World.cell?, he]
                have e5 : W2.cell? ⟨q, 5, none⟩ = some (.int .i64 a) := by simp [World.cell?, he]
                have d0 : W2.cell? ⟨P, 0, none⟩ = some (.slice (some ⟨g, 0, none⟩) (ss0.length + 1) cap) := HG2.out.top_cell.1
                have d0' := cell_alloc_old d0 (.cells #[.string ra, .string rb, .string rc, .string rp, .pointer none, .int .i64 a] 128)
                have d1 : W2.cell? ⟨g, ss0.length * 3 + 1, none⟩ = some t.rv := (HG2.out.at (i := ss0.length) (s := t) (by simp)).2.1
                have d1' := cell_alloc_old d1 (.cells #[.string ra, .string rb, .string rc, .string rp, .pointer none, .int .i64 a] 128)
                have hwr : IntKind.i64.wrap (ss0.length : Int) = (ss0.length : Int) := by rw [IntKind.wrap_i64]; omega
                have hlt0 : (ss0.length : Int) < (ss0.length : Int) + 1 := by omega
                have HKEY := hide (show ∀ v' w3, w3.ownsRow B 128 6 v' (t.rs.length + 1) ((t.rs.map RRl.cells).flatten ++ [.string ra, .string rb, .string rc, .string rp, .pointer none, .int .i64 a]) → (W2.alloc (.cells #[.string ra, .string rb, .string rc, .string rp, .pointer none, .int .i64 a] 128)).drew.grownBy w3 t.rv.ownBlock → (v'.ownBlock = t.rv.ownBlock ∨ v'.ownBlock = some (W2.alloc (.cells #[.string ra, .string rb, .string rc, .string rp, .pointer none, .int .i64 a] 128)).drew.heap.size) →
                    ∃ g' cap', v' = .slice (some ⟨g', 0, none⟩) (t.rs.length + 1) cap' ∧ w3.cell? ⟨P, 0, none⟩ = some (.slice (some ⟨g, 0, none⟩) (ss0.length + 1) cap) ∧ w3.cell? ⟨g, ss0.length * 3 + 1, none⟩ = some t.rv ∧ w3.frozen? ⟨g, ss0.length * 3 + 1, none⟩ = false ∧ Hid (ReadLoop B P s w k' (.int .i64 ((i + 1 : Nat) : Int)) (.int .i64 ((i + 1 : Nat) : Int)) (w3.setCell ⟨g, ss0.length * 3 + 1, none⟩ v')) from fun v' w3 hown hg hnew => by
                  obtain ⟨g', cap', hv⟩ := own_form hown (by omega)
                  obtain ⟨hG4, hB4, hP4, hc4, hf4⟩ := Grm.grow (W := (W2.alloc (.cells #[.string ra, .string rb, .string rc, .string rp, .pointer none, .int .i64 a] 128)).drew) (r := ⟨d, ra, rb, rc, rp, .pointer none, a⟩) HG3.out.drew (show B ≤ (W2.alloc (.cells #[.string ra, .string rb, .string rc, .string rp, .pointer none, .int .i64 a] 128)).heap.size by simp; omega) ⟨hd, hw⟩ hown hg hnew
                  exact ⟨g', cap', hv, hP4, hc4, hf4, ⟨i + 1, i + 1, _, _, _, rfl, rfl, by omega, HR.out.grow (r := ⟨d, ra, rb, rc, rp, .pointer none, a⟩) hlt HRS.out HTEN.out (HLR.out.trans hrl) rfl hlz hG4 (((HB1.out.mono hBr).trans (HW2.out.mono (Nat.le_trans hBr HB1.out.size))).trans ((((Below.refl B W2).alloc hB2 _).drew).trans hB4))⟩⟩)
                have HIN := hide (show (W2.alloc (.cells #[.string ra, .string rb, .string rc, .string rp, .pointer none, .int .i64 a] 128)).ownsRow B 128 6 t.rv t.rs.length (t.rs.map RRl.cells).flatten from HG3.out.inner (by simp))
                have HNW := hide (cell_new_row W2 #[.string ra, .string rb, .string rc, .string rp, .pointer none, .int .i64 a] 128)
                have hsz2 : B ≤ W2.heap.size + 1 := by omega
                clear he HR HRS HTEN HLR HG1 HG2 HG3 HW2 HE hrl hw HB1 HQ hlz hmin hrs2
                go_region_law (refine step_append_at rfl (.tmp 89) (.tmp 91) 121 rfl B 128 i0 (.agg #[.string ⟨#[]⟩, .string ⟨#[]⟩, .string ⟨#[]⟩, .string ⟨#[]⟩, .pointer none, .int .i64 0]) 6 80 Tryz.underlying121 hi hz0 hz1 hz3 rfl (by decide) t.rv t.rs.length (t.rs.map RRl.cells).flatten (by rfl) HIN.out ⟨W2.heap.size, 0, none⟩ 1 1 [.string ra, .string rb, .string rc, .string rp, .pointer none, .int .i64 a] (by rfl) (by rfl) HNW.out HO.out hb1 hb2 (by simpa using hsz2) ?_; intro v' w3 hown hg hnew; obtain ⟨g', cap', rfl, gP, gg, gf, HST⟩ := HKEY.out _ _ hown hg hnew; clear hown hg hnew)
                all_goals
                  clear HKEY HIN HNW HO hi hz0 hz1 hz3 e0 e1 e2 e3 e4 e5 d0 d0' d1 d1'
                  go_wp2_with fail
                  go_roundg k'
                  case measure => omega
                  case rel => exact HST.out
            · have c1 : w1.cell? ⟨P, 0, none⟩ = some sv := (HR.out.grm.below hB1).top_cell.1
              have HEND := hide (fun o => show ReadPost B P s.data.toList w (.returned (.int .i64 a)) (w1.alloc o) from ⟨(HR.out.below.trans (hB1.mono hBr)).alloc (Nat.le_trans hBr hB1.size) o, .inl ⟨a, rfl, by
                rw [HR.out.run, HRS.out]; exact rd_bad HTEN.out (HLR.out.trans hno)⟩⟩)
              obtain ⟨ao, cap, hsv, hao⟩ := HR.out.grm.form
              subst hsv
              have c1' := cell_alloc_old c1 (.cells #[.string ra, .string rb, .string rc, .string rp, .pointer none, .int .i64 0] 128)
              clear HR HRS HTEN HLR hno hB1 hao
              go_wp2_with fail
              go_ret
              exact HEND.out _
          · have g0' : i - a = 0 := by omega
            have g0'' : decide ((0 : Int) < ((i - a : Nat) : Int)) = false := decide_eq_false (by omega)
            have HST := hide (HR.out.blank hlt HRS.out (by omega))
            clear HR HRS HTEN
            go_wp2_with fail
            go_roundg k'
            case measure => omega
            case rel => exact ⟨i + 1, i + 1, _, _, _, rfl, rfl, by omega, HST.out⟩
      · have q1 : (((s[i].toNat : Nat) : Int) != 10) = true := by
          rw [bne_iff_ne]; intro e; exact h10 (UInt8.toNat_inj.1 (by simpa using Int.ofNat.inj e))
        have HST := hide (show ReadAt B P s w a (i + 1) acc sv ss wr from { HR.out with
          le := by omega
          li := hlt
          nt := fun m h1 h2 => by
            rcases Nat.lt_or_ge m i with h | h
            · exact HR.out.nt m h1 h
            · have : m = i := by omega
              subst this
              rw [byte_get hlt]
              exact fun e => h10 (Option.some.inj e) })
        clear HR h10
        go_wp2_with fail
        go_roundg k'
        case measure => omega
        case rel => exact ⟨a, i + 1, acc, sv, ss, rfl, rfl, by omega, HST.out⟩
    · have g1 : decide ((i : Int) < (s.size : Int)) = false := decide_eq_false (by omega)
      by_cases hal : a < s.size
      · have g2 : decide ((a : Int) < (s.size : Int)) = true := decide_eq_true (by omega)
        have HEND := hide (show ReadPost B P s.data.toList w (.returned (.int .i64 a)) wr from ⟨HR.out.below, .inl ⟨a, rfl, by
          rw [HR.out.run]
          refine rd_open (fun e => ?_) ?_
          · have := congrArg List.length e
            rw [length_rest] at this
            simp at this
            omega
          · rw [← extract_rest (Nat.le_refl s.size)]
            exact no_ten fun m h1 h2 => HR.out.nt m h1 (by have := HR.out.li; omega)⟩⟩)
        clear HR
        go_wp2_with fail
        go_ret
        exact HEND.out
      · have g2 : decide ((a : Int) < (s.size : Int)) = false := decide_eq_false (by omega)
        have HEND := hide (show ReadPost B P s.data.toList w (.returned (.int .i64 (-1))) wr from ⟨HR.out.below, .inr ⟨rfl, acc, sv, ss, by
          rw [HR.out.run, rest_nil (by omega), rd_nil], HR.out.grm, HR.out.flt, by have := HR.out.few; have := HR.out.li; rw [byte_length]; omega, fun t ht => by have := HR.out.few2 t ht; have := HR.out.li; rw [byte_length]; omega⟩⟩)
        clear HR
        go_wp2_with fail
        go_ret
        exact HEND.out
end Go.Proofs.YtgncgdkpkkdaeaaGreatDoor
