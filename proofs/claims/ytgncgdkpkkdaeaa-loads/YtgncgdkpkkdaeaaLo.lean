/- Put together by mergeV.py from V17, Ld. -/
import Derived.Test.YtgncgdkpkkdaeaaVD
import Derived.Test.YtgncgdkpkkdaeaaN12
import Derived.Test.YtgncgdkpkkdaeaaRows
import Derived.HandedShaped
import Derived.ProofKit
import Derived.Shelf.Vars
/- The law: tintlaw.num, tintlaw.loaded, tintlaw.Loads. -/
namespace Go.Proofs.Ytgncgdkpkkdaeaa
open Go.RowKit Tint

theorem num_any (n : Nat) (w : World) : Calls Try.prog 7 #[.int .i64 n] w fun e w' => e = .returned (.int .i64 n) ∧ w' = w := by
  go_enter Try.func7, Try.ntmps7
  go_wp2_with fail
  go_ret
  exact ⟨rfl, rfl⟩

def LdPost (w : World) (e : Ending) (w' : World) : Prop := Below w.heap.size w w' ∧ ∃ p, e = .returned (.tuple #[.pointer p, .bool true])

set_option maxRecDepth 20000 in
set_option maxHeartbeats 2000000 in
theorem loaded_any (s : ByteArray) (w : World) (hm : Mx w) (hz : s.size ≤ maxLen) : Calls Try.prog 4 #[.string s] w (LdPost w) := by
  have HP := hide (progLoad_any s w hm)
  clear hm
  go_enter Try.func4, Try.ntmps4
  go_wp2_with fail
  refine HP.out.mono ?_
  rintro e w1 ⟨hb1, ⟨ec, a, hec, rfl, hli⟩ | ⟨P, B, ao, n, cap, ls, ss, rfl, hli, hB, hM, hP⟩⟩
  · have HR := hide (refLoad_any s w1 hz)
    have HB1 := hide hb1
    clear hb1 HP
    go_wp2_with fail
    refine HR.out.mono ?_
    rintro e w2 ⟨hb2, ⟨ec', a', hec', rfl, hli'⟩ | ⟨P', B', sv', ss', rfl, hli', -⟩⟩
    · obtain ⟨rfl, rfl, -⟩ := hli.det hli'
      have HEND := hide (show LdPost w (.returned (.tuple #[.pointer none, .bool true])) w2 from ⟨HB1.out.trans (hb2.mono HB1.out.size), _, rfl⟩)
      have HN := hide (num_any ec w2)
      clear hb2 hli hli' hec hec' HB1 HR
      go_wp2_with fail
      refine HN.out.mono ?_
      rintro e w3 ⟨rfl, rfl⟩
      clear HN
      go_wp2_with fail
      exact bodyPost_ret (v := .tuple #[.pointer none, .bool true]) (by simp [results, Try.results4, go_sem, *]) rfl HEND.out
    · exact absurd (hli.det hli').1 hec
  · have HR := hide (refLoad_any s w1 hz)
    have HB1 := hide hb1
    clear hb1 HP hB hM hP
    go_wp2_with fail
    refine HR.out.mono ?_
    rintro e w2 ⟨hb2, ⟨ec', a', hec', rfl, hli'⟩ | ⟨P', B', sv', ss', rfl, hli', -⟩⟩
    · exact absurd (hli.det hli').1.symm hec'
    · have HEND := hide (show ∀ p o, LdPost w (.returned (.tuple #[.pointer p, .bool true])) (w2.alloc o) from fun p o => ⟨(HB1.out.trans (hb2.mono HB1.out.size)).alloc (Nat.le_trans HB1.out.size hb2.size) o, _, rfl⟩)
      have HN := hide (num_any 0 w2)
      clear hb2 hli hli' HB1 HR
      go_wp2_with fail
      refine HN.out.mono ?_
      rintro e w3 ⟨rfl, rfl⟩
      clear HN
      go_wp2_with fail
      exact bodyPost_ret (v := .tuple #[.pointer (some ⟨w3.heap.size, 0, none⟩), .bool true]) (by simp [results, Try.results4, go_sem, *]) rfl (HEND.out _ _)

set_option maxRecDepth 20000 in
theorem loads_walk (s : ByteArray) (w : World) (hm : Mx w) (hz : s.size ≤ maxLen) : Calls Try.prog 3 #[.string s] w fun e w' => e = .returned (.bool true) ∧ Below w.heap.size w w' := by
  have HL := hide (loaded_any s w hm hz)
  clear hm
  go_enter Try.func3, Try.ntmps3
  go_wp2_with fail
  refine HL.out.mono ?_
  rintro e w1 ⟨hb, p, rfl⟩
  have HB := hide hb
  clear hb HL
  go_wp2_with fail
  go_ret
  exact ⟨rfl, HB.out⟩
end Go.Proofs.Ytgncgdkpkkdaeaa

/- The law tintlaw.Loads holds for every text: the call returns true and leaves its argument as it was. -/
namespace Go.Proofs.Ytgncgdkpkkdaeaa.loads
open Go.ChangeShapes Go.WideShapes Go.ChangeAt Go.RowKit
open Go.ChangeMaps (open_string shut_string)

theorem own_knob : ownKnob Try.prog.godebug = none := by kernel_rfl

set_option maxRecDepth 100000 in
theorem lifted (os : Os) (started : os.Started) (H : Type) (enc : TypeId × Value → H) :
    ReturnsInHanded {} Try.checked os 3 .any (Rows.loadsSpec.pre6 enc Try.prog Try.f3 Rows.loadsRow.domain false) (Rows.loadsSpec.post enc Try.prog Try.f3 false true false false) := by
  refine returnsInHanded_of_change_shaped (C := Try.checked) own_knob started (by kernel_rfl) Try.func3
    (ChangeSpec.witness6 (enc := enc) (C := Try.checked) false ⟨#[], #[.string ⟨#[]⟩], []⟩ 8 (by kernel_rfl) (by kernel_rfl) (by kernel_rfl) (by kernel_rfl)) ?_
  intro W base args ds gs before hval0 hW _ _ hsh _
  have hval : ∀ (j : Nat) t v, Try.f3.params[j]? = some t → args[j]? = some v → Value.okWide Try.prog W .any base t v := hval0
  have hW' := hW
  obtain ⟨p, q, hA0, hV, rfl, hfz, hnd⟩ := hW
  have hA : DataW.TrodAll enc Try.prog W 0 (fun _ => true) true Try.f3.params.toList args.toList ds p := hA0
  rw [Try.params3] at hA hval
  obtain ⟨v0, d0, rfl, rfl, h0⟩ := trodAll_one hA
  obtain ⟨rfl, rfl⟩ := trodVars_none hV
  obtain ⟨s, rfl, rfl, rfl, ws⟩ := open_string Try.underlying9 (hval 0 9 v0 rfl rfl) h0
  clear hA0 hval0
  simp only [List.append_nil] at hW'
  have hm : Mx W := cell_of_shapedOpen_int (P := Try.prog) (zero := #[.int .i64 0]) (t := 3) (k := .i64) hsh (of_decide_eq_true (by kernel_rfl)) (by kernel_rfl) rfl (by kernel_rfl) (by kernel_rfl) Try.underlying3
  refine (loads_walk s W hm ws).mono fun e W' ⟨he, hB⟩ => ?_
  subst he
  exact ⟨_, rfl, _, _, _, [], [], [], hW', trodAll_mk1 (shut_bool Try.underlying4 _),
    trodAll_mk1 (shut_string Try.underlying9 ws), rfl, hB.frame _, fun h => by cases h⟩

theorem said : Rows.LoadsSaid :=
  OpenClaim.holds_of_wide 3 Try.f3 rfl rfl rfl rfl rfl rfl rfl ⟨rfl, rfl, rfl, rfl, rfl⟩ rfl rfl rfl rfl rfl (by kernel_rfl) Try.func3 (by kernel_rfl)
    (of_decide_eq_true (by kernel_rfl)) (by unfold Func.isWrapper; first | (rw [if_pos (by decide +kernel)]; kernel_rfl) | (rw [if_neg (by decide +kernel)]; exact ⟨rfl, rfl⟩))
    (fun os started H enc _ => lifted os started H enc)
end Go.Proofs.Ytgncgdkpkkdaeaa.loads
namespace Go.Proofs.Ytgncgdkpkkdaeaa
theorem loads_holds : Rows.LoadsSaid := loads.said
end Go.Proofs.Ytgncgdkpkkdaeaa
