/- tintref: the walk of counted. -/
import Derived.Test.YtgncgdkpkkdaeaaN7
namespace Go.Proofs.Ytgncgdkpkkdaeaa
open Go.RowKit Tint

set_option maxRecDepth 20000 in
set_option maxHeartbeats 2000000 in
theorem counted_any (B P : Nat) (sv : Value) (ss : List RSt) (size : Nat) (w : World) (h : Grm w B P sv ss) (hz : ss.length ≤ 1000000) (hz2 : ∀ t ∈ ss, t.rs.length ≤ 1000000) :
    Calls Try.prog 10 #[.pointer (some ⟨P, 0, none⟩), .int .i64 size] w (CountPost ss size w) := by
  obtain ⟨ao, cap, rfl, hao⟩ := h.form
  have c0 := h.top_cell.1
  have HG := hide h
  have HAO := hide hao
  have HZ2 := hide hz2
  clear h hao hz2
  go_enter Try.func10, Try.ntmps10
  go_wp2_with fail
  go_loopg [6] ss.length (fun k i wr => TwiceLoop ss w k i wr)
  case atStart => exact ⟨0, rfl, by omega, rfl, .nil⟩
  case round =>
    obtain ⟨j, rfl, hk, rfl, hall⟩ := hrel
    by_cases hlt : j < ss.length
    · have g1 : decide ((j : Int) < (ss.length : Int)) = true := decide_eq_true (by omega)
      obtain ⟨g, rfl⟩ := HAO.out (by omega)
      obtain ⟨s, hs⟩ : ∃ s, ss[j]? = some s := ⟨ss[j], List.getElem?_eq_getElem hlt⟩
      obtain ⟨a0, -, a2, -⟩ := HG.out.at hs
      have HALL := hide hall
      have HS := hide hs
      have HIX := hide (index_any B P _ ss s.name wr HG.out (by omega))
      clear hall hs
      go_wp2_with fail
      refine HIX.out.mono ?_
      rintro e w1 ⟨rfl, ⟨i0, s0, rfl, hs0, hn0, hno⟩ | ⟨rfl, hno⟩⟩
      · have hle : i0 ≤ j := by
          rcases Nat.lt_or_ge j i0 with h | h
          · exact absurd rfl (hno j s h HS.out)
          · exact h
        by_cases hlt0 : i0 < j
        · have q1 : decide ((i0 : Int) < (j : Int)) = true := decide_eq_true (by omega)
          have HEND := hide (fun n => show CountPost ss size w1 (.returned (.tuple #[.int .i64 3, .int .i64 s.at_])) (w1.drewN n) from ⟨Below.drewN' (Below.refl _ _) n, .inl ⟨s.at_, rfl, by
            rw [flat_split HS.out]
            refine HALL.out.hit_at _ ⟨_, rfl, s0.at_, flat_mem.2 ⟨s0, ?_, rfl, hn0⟩⟩
            exact List.mem_of_getElem? (i := i0) (by rw [List.getElem?_take_of_lt hlt0]; exact hs0)⟩⟩)
          clear HALL HS hs0 hn0 hno HIX
          go_wp2_with fail
          go_quiet (fail)
          go_wp2_with fail
          exact bodyPost_ret (v := .tuple #[.int .i64 3, .int .i64 s.at_]) (by simp [results, Try.results10, go_sem, *]) rfl (HEND.out _)
        · obtain rfl : i0 = j := by omega
          have q1 : decide ((i0 : Int) < (i0 : Int)) = false := decide_eq_false (by omega)
          have HST := hide (show Fst pTwice [] (flat (ss.take (i0 + 1))) none by
            rw [flat_take HS.out]
            refine fst_rules twice_rule (HALL.out.snoc ?_) _
            rintro ⟨n, hn, a, ha⟩
            cases hn
            obtain ⟨t, ht, _, hn⟩ := flat_mem.1 ha
            obtain ⟨m, hm⟩ := List.getElem?_of_mem ht
            have hl := get_lt hm
            rw [List.length_take] at hl
            rw [List.getElem?_take_of_lt (by omega)] at hm
            exact hno m t (by omega) hm hn)
          obtain ⟨k', rfl⟩ : ∃ k', gk = k' + 1 := ⟨gk - 1, by omega⟩
          have hi1 : i0 + 1 ≤ 9223372036854775807 := by omega
          clear HALL HS hs0 hn0 hno HIX
          go_wp2_with fail
          go_roundg k'
          case measure => omega
          case rel => exact ⟨i0 + 1, rfl, by omega, rfl, HST.out⟩
      · exact absurd rfl (hno s (List.mem_of_getElem? HS.out))
    · have g1 : decide ((j : Int) < (ss.length : Int)) = false := decide_eq_false (by omega)
      have HTW := hide (show Fst pTwice [] (flat ss) none by rw [List.take_of_length_le (by omega)] at hall; exact hall)
      clear hall
      go_wp2_with fail
      go_loopg [7, 8] ss.length (fun k n i wx => ManyLoop ss wr k n i wx)
      case atStart => exact ⟨0, rfl, rfl, by omega, rfl, .nil, by omega, by simp [nRules]⟩
      case round =>
        obtain ⟨j2, rfl, rfl, hk2, rfl, hall, hj12, hr40⟩ := hrel
        obtain ⟨kk, hkk⟩ : ∃ kk, kk = gk := ⟨_, rfl⟩
        by_cases hlt2 : j2 < ss.length
        · have g2 : decide ((j2 : Int) < (ss.length : Int)) = true := decide_eq_true (by omega)
          obtain ⟨g, rfl⟩ := HAO.out (by omega)
          obtain ⟨s, hs⟩ : ∃ s, ss[j2]? = some s := ⟨ss[j2], List.getElem?_eq_getElem hlt2⟩
          obtain ⟨a0, a1, a2, -⟩ := HG.out.at hs
          have hlen : (ss.take j2).length = j2 := by rw [List.length_take]; omega
          have HALL := hide hall
          have HS := hide hs
          clear hall hs
          by_cases h12 : 12 ≤ j2
          · have q1 : decide ((12 : Int) ≤ (j2 : Int)) = true := decide_eq_true (by omega)
            have HEND := hide (fun n => show CountPost ss size wr (.returned (.tuple #[.int .i64 4, .int .i64 s.at_])) (wr.drewN n) from ⟨Below.drewN' (Below.refl _ _) n, .inr ⟨HTW.out, .inl ⟨s.at_, rfl, by
              rw [flat_split HS.out]
              exact HALL.out.hit_at _ ((pMany_state _ _ hr40).2 (by omega))⟩⟩⟩)
            clear HALL HS
            go_wp2_with fail
            go_quiet (fail)
            go_wp2_with fail
            exact bodyPost_ret (v := .tuple #[.int .i64 4, .int .i64 s.at_]) (by simp [results, Try.results10, go_sem, *]) rfl (HEND.out _)
          · have q1 : decide ((12 : Int) ≤ (j2 : Int)) = false := decide_eq_false (by omega)
            obtain ⟨ro, rcap, hrv, hro⟩ := HG.out.rules (List.mem_of_getElem? HS.out)
            rw [hrv] at a1
            have HRV := hide hrv
            have HRO := hide hro
            have HST0 := hide (show Fst pMany [] (flat (ss.take j2) ++ [(s.at_, .state s.name.data.toList)]) none from HALL.out.snoc (fun h => by have := (pMany_state _ _ hr40).1 h; omega))
            have hrz := HZ2.out s (List.mem_of_getElem? HS.out)
            clear hrv hro
            go_wp2_with fail
            go_loopg [7, 9] s.rs.length (fun m n i wx => ManyIn ss j2 s wr m n i wx)
            case atStart => exact ⟨0, by simp, rfl, by omega, rfl, by simpa using HST0.out, by simpa using hr40⟩
            case round =>
              obtain ⟨k3, rfl, rfl, hk3, rfl, hin, hle40⟩ := hrel
              by_cases hlt3 : k3 < s.rs.length
              · have g3 : decide ((k3 : Int) < (s.rs.length : Int)) = true := decide_eq_true (by omega)
                obtain ⟨rg, rfl⟩ := HRO.out (by omega)
                obtain ⟨r, hr⟩ : ∃ r, s.rs[k3]? = some r := ⟨s.rs[k3], List.getElem?_eq_getElem hlt3⟩
                have b5 := (HG.out.rule (List.mem_of_getElem? HS.out) HRV.out hr 5 (by omega) (u := .int .i64 r.at_) rfl).1
                have hin1 : (nRules (ss.take j2) + k3 : Nat) + 1 ≤ 9223372036854775807 := by omega
                have HIN := hide hin
                have HR := hide hr
                have hkl : (s.rs.take k3).length = k3 := by rw [List.length_take]; omega
                clear hin hr
                by_cases h40 : 40 ≤ nRules (ss.take j2) + k3
                · have q3 : decide ((40 : Int) < ((nRules (ss.take j2) + k3 : Nat) : Int) + 1) = true := decide_eq_true (by omega)
                  have HEND := hide (fun n => show CountPost ss size wr (.returned (.tuple #[.int .i64 4, .int .i64 r.at_])) (wr.drewN n) from ⟨Below.drewN' (Below.refl _ _) n, .inr ⟨HTW.out, .inl ⟨r.at_, rfl, by
                    have e : flat ss = ((flat (ss.take j2) ++ [(s.at_, .state s.name.data.toList)]) ++ (s.rs.take k3).map RRl.ln) ++ (r.at_, r.ln.2) :: ((s.rs.drop (k3 + 1)).map RRl.ln ++ flat (ss.drop (j2 + 1))) := by
                      rw [flat_split HS.out]
                      conv => lhs; rw [← List.take_append_drop k3 s.rs, List.drop_eq_getElem_cons hlt3]
                      have := HR.out
                      rw [List.getElem?_eq_getElem hlt3] at this
                      rw [Option.some.inj this]
                      simp
                      rfl
                    rw [e]
                    exact HIN.out.hit_at _ ((pMany_rule _ _ _ _ r (by omega)).2 (by omega))⟩⟩⟩)
                  clear HIN HR HALL
                  go_wp2_with fail
                  go_quiet (fail)
                  go_wp2_with fail
                  exact bodyPost_ret (v := .tuple #[.int .i64 4, .int .i64 r.at_]) (by simp [results, Try.results10, go_sem, *]) rfl (HEND.out _)
                · have q3 : decide ((40 : Int) < ((nRules (ss.take j2) + k3 : Nat) : Int) + 1) = false := decide_eq_false (by omega)
                  have HST := hide (show Fst pMany [] ((flat (ss.take j2) ++ [(s.at_, .state s.name.data.toList)]) ++ (s.rs.take (k3 + 1)).map RRl.ln) none by
                    have := HR.out
                    rw [List.getElem?_eq_getElem hlt3] at this
                    rw [List.take_succ_eq_append_getElem hlt3, Option.some.inj this, List.map_append, ← List.append_assoc]
                    exact HIN.out.snoc (a := r.at_) (fun h => by have := (pMany_rule _ _ _ _ r (by omega)).1 h; omega))
                  obtain ⟨m', rfl⟩ : ∃ m', gk = m' + 1 := ⟨gk - 1, by omega⟩
                  have hk31 : k3 + 1 ≤ 9223372036854775807 := by omega
                  clear HIN HR HALL
                  go_wp2_with fail
                  go_roundg m'
                  case measure => omega
                  case rel => exact ⟨k3 + 1, by simp; omega, rfl, by omega, rfl, HST.out, by omega⟩
              · have g3 : decide ((k3 : Int) < (s.rs.length : Int)) = false := decide_eq_false (by omega)
                obtain rfl : k3 = s.rs.length := by omega
                have HST := hide (show Fst pMany [] (flat (ss.take (j2 + 1))) none by
                  rw [flat_take HS.out]
                  rw [List.take_of_length_le (Nat.le_refl _)] at hin
                  exact hin)
                have hnr := nRules_take HS.out
                obtain ⟨k', rfl⟩ : ∃ k', kk = k' + 1 := ⟨kk - 1, by omega⟩
                have hj21 : j2 + 1 ≤ 9223372036854775807 := by omega
                clear hin HALL HS
                go_wp2_with fail
                go_roundg k'
                case measure => omega
                case rel => exact ⟨j2 + 1, by rw [hnr], rfl, by omega, rfl, HST.out, by omega, by omega⟩
        · have g2 : decide ((j2 : Int) < (ss.length : Int)) = false := decide_eq_false (by omega)
          have HMA := hide (show Fst pMany [] (flat ss) none by rw [List.take_of_length_le (by omega)] at hall; exact hall)
          clear hall
          by_cases h0 : ss = []
          · have hl0 : ss.length = 0 := by rw [h0]; rfl
            have q0 : ((ss.length : Int) == 0) = true := by rw [hl0]; rfl
            have HEND := hide (show CountPost ss size wr (.returned (.tuple #[.int .i64 4, .int .i64 size])) wr from ⟨Below.refl _ _, .inr ⟨HTW.out, .inr ⟨HMA.out, .inl ⟨h0, rfl⟩⟩⟩⟩)
            clear h0
            go_wp2_with fail
            exact bodyPost_ret (v := .tuple #[.int .i64 4, .int .i64 size]) (by simp [results, Try.results10, go_sem, *]) rfl HEND.out
          · have hl0 : ¬ ss.length = 0 := fun h => h0 (List.eq_nil_of_length_eq_zero h)
            have q0 : ((ss.length : Int) == 0) = false := by rw [beq_eq_false_iff_ne]; omega
            have HEND := hide (show CountPost ss size wr (.returned (.tuple #[.int .i64 0, .int .i64 0])) wr from ⟨Below.refl _ _, .inr ⟨HTW.out, .inr ⟨HMA.out, .inr ⟨h0, rfl⟩⟩⟩⟩)
            clear h0
            go_wp2_with fail
            exact bodyPost_ret (v := .tuple #[.int .i64 0, .int .i64 0]) (by simp [results, Try.results10, go_sem, *]) rfl HEND.out
end Go.Proofs.Ytgncgdkpkkdaeaa
