/- Match, whole. -/
import Derived.Test.YtgncgdkpkkdaeaaDoorR20
import Derived.Test.YtgncgdkpkkdaeaaDoorRz
namespace Go.Proofs.YtgncgdkpkkdaeaaDoor
open Go.RowKit Tint Go.Maps

/-- A text that is no pattern. -/
def NoPat (p : List UInt8) : Prop := PAlt p none ∨ ∃ r s', s' ≠ [] ∧ PAlt p (some (r, s'))

/-- What Match answers. -/
def MatchIs (p T : List UInt8) (f : Int) (v : Value) : Prop :=
  (60 < p.length ∧ v = .tuple #[.int .i64 0, .int .i64 0, .bool false, .int .i64 1]) ∨
  (p.length ≤ 60 ∧ NoPat p ∧ v = .tuple #[.int .i64 0, .int .i64 0, .bool false, .int .i64 6]) ∨
  (∃ r, p.length ≤ 60 ∧ PAlt p (some (r, [])) ∧ (f < 0 ∨ (T.length : Int) < f) ∧ v = .tuple #[.int .i64 0, .int .i64 0, .bool false, .int .i64 8]) ∨
  (∃ r, p.length ≤ 60 ∧ PAlt p (some (r, [])) ∧ ∃ f' : Nat, f = f' ∧ f' ≤ T.length ∧ ((IsMatch r T f' none ∧ v = .tuple #[.int .i64 0, .int .i64 0, .bool false, .int .i64 0]) ∨ ∃ s e : Nat, IsMatch r T f' (some (s, e)) ∧ v = .tuple #[.int .i64 s, .int .i64 e, .bool true, .int .i64 0]))

def MatchPost (p T : List UInt8) (f : Int) (w : World) (e : Ending) (w' : World) : Prop := ∃ v, e = .returned v ∧ MatchIs p T f v ∧ Below w.heap.size w w'

theorem Off.below {O : Nat → Prop} {w w' : World} {B : Nat} (h : Off O w w') (hB : B ≤ w.heap.size) (hO : ∀ k, O k → B ≤ k) : Below B w w' :=
  ⟨h.os, h.tape, h.output, h.size, fun k hk => h.keep k ⟨by omega, fun ho => by have := hO k ho; omega⟩⟩

set_option maxRecDepth 20000 in
set_option maxHeartbeats 2000000 in
theorem match_any (pat text : ByteArray) (f : Int) (w : World) (hT : Tab w) (hw : 0 < w.heap.size) (hp : pat.size ≤ maxLen) (hsz : text.size ≤ maxLen) (hf : (Lit.int .i64 f).wf = true) :
    Calls Tryd.prog 6 #[.string pat, .string text, .int .i64 f] w (MatchPost pat.data.toList text.data.toList f w) := by
  have HPA := hide (parse_any pat w hp)
  have HT := hide hT
  clear hT
  go_enter Tryd.func6, Tryd.ntmps6
  go_wp2_with fail
  refine HPA.out.mono ?_
  rintro e w1 ⟨hB1, ⟨h60, rfl⟩ | ⟨h60, hno, rfl⟩ | ⟨h60, sv, a, ns, rfl, hA, hL1, hR1, hE1, hn1⟩⟩
  · have hb := hB1.alloc (o := .cells #[.slice none 0 0, .int .i64 0] 39) hB1.size
    have HEND := hide (show MatchPost pat.data.toList text.data.toList f w (.returned (.tuple #[.int .i64 0, .int .i64 0, .bool false, .int .i64 1])) (w1.alloc (.cells #[.slice none 0 0, .int .i64 0] 39)) from ⟨_, rfl, .inl ⟨h60, rfl⟩, hb⟩)
    clear hb hB1 HPA
    go_wp2_with fail
    exact bodyPost_ret (v := .tuple #[.int .i64 0, .int .i64 0, .bool false, .int .i64 1]) (by simp [results, Tryd.results6, go_sem, *]) rfl HEND.out
  · have hb := hB1.alloc (o := .cells #[.slice none 0 0, .int .i64 0] 39) hB1.size
    have HEND := hide (show MatchPost pat.data.toList text.data.toList f w (.returned (.tuple #[.int .i64 0, .int .i64 0, .bool false, .int .i64 6])) (w1.alloc (.cells #[.slice none 0 0, .int .i64 0] 39)) from ⟨_, rfl, .inr (.inl ⟨h60, hno, rfl⟩), hb⟩)
    clear hb hB1 HPA hno
    go_wp2_with fail
    exact bodyPost_ret (v := .tuple #[.int .i64 0, .int .i64 0, .bool false, .int .i64 6]) (by simp [results, Tryd.results6, go_sem, *]) rfl HEND.out
  · have h0 : 0 < ns.length := by obtain ⟨x, hx⟩ := hE1; exact get_lt hx
    obtain ⟨g, cap, rfl⟩ := own_form hL1.1 h0
    obtain ⟨ix, hix⟩ : ∃ ix, ix = a.ix := ⟨_, rfl⟩
    rw [← hix]
    have hb := hB1.alloc (o := .cells #[.slice (some ⟨g, 0, none⟩) ns.length cap, .int .i64 ix] 39) hB1.size
    have HB := hide hb
    have HIX := hide hix
    have HA := hide hA
    have hbx : Below w1.heap.size w1 (w1.alloc (.cells #[.slice (some ⟨g, 0, none⟩) ns.length cap, .int .i64 ix] 39)) := (Below.refl _ _).alloc (Nat.le_refl _) _
    have HL2 := hide (hL1.base.alloc (.cells #[.slice (some ⟨g, 0, none⟩) ns.length cap, .int .i64 ix] 39))
    have HR2 := hide (hR1.world (Stay.of_below hbx))
    have HE2 := hide (hE1.world (Stay.of_below hbx))
    clear hB1 hA hL1 hR1 hE1 hb hbx hix HPA
    by_cases hneg : f < 0
    · have HEND := hide (show MatchPost pat.data.toList text.data.toList f w (.returned (.tuple #[.int .i64 0, .int .i64 0, .bool false, .int .i64 8])) _ from ⟨_, rfl, .inr (.inr (.inl ⟨a.re, h60, HA.out, .inl hneg, rfl⟩)), HB.out⟩)
      go_wp2_with fail
      exact bodyPost_ret (v := .tuple #[.int .i64 0, .int .i64 0, .bool false, .int .i64 8]) (by simp [results, Tryd.results6, go_sem, *]) rfl HEND.out
    · obtain ⟨f', rfl⟩ : ∃ f' : Nat, f = f' := ⟨f.toNat, by omega⟩
      by_cases hgt : text.size < f'
      · have HEND := hide (show MatchPost pat.data.toList text.data.toList (f' : Int) w (.returned (.tuple #[.int .i64 0, .int .i64 0, .bool false, .int .i64 8])) _ from ⟨_, rfl, .inr (.inr (.inl ⟨a.re, h60, HA.out, .inr (by rw [text_length]; omega), rfl⟩)), HB.out⟩)
        have hg1 : decide ((text.size : Int) < (f' : Int)) = true := by simp; omega
        clear hneg hf
        go_wp2_with fail
        exact bodyPost_ret (v := .tuple #[.int .i64 0, .int .i64 0, .bool false, .int .i64 8]) (by simp [results, Tryd.results6, go_sem, *]) rfl HEND.out
      · have hg1 : decide (text.size < f') = false := by simp; omega
        have hle : f' ≤ text.size := by omega
        have hsz' := PAlt.size HA.out _ _ rfl
        rw [ARe.sz_re, ARe.leaves_re, text_length] at hsz'
        simp only [List.length_nil] at hsz'
        have HFI := hide (finder_any (.slice (some ⟨g, 0, none⟩) ns.length cap) ns a _ (Nat.lt_of_lt_of_le hw HB.out.size) HL2.out HR2.out HE2.out h0 hn1 (by omega) (by omega) ix HIX.out)
        have hT2 : Tab (w1.alloc (.cells #[.slice (some ⟨g, 0, none⟩) ns.length cap, .int .i64 ix] 39)) := HT.out.keep (HB.out.block 0 hw)
        have HT2 := hide hT2
        clear hneg hf hT2 hsz' HL2 HR2 HE2
        go_wp2_with fail
        refine HFI.out.mono ?_
        rintro e w3 ⟨ρf, sf, ρb, sb, rfl, hB3, hF3⟩
        have hb3 := HB.out.trans (hB3.mono HB.out.size)
        have HFD := hide (find_any _ a ρf sf ρb sb text f' w3 (HT2.out.keep (hB3.block _ (Nat.lt_of_lt_of_le hw HB.out.size))) hF3 hle hsz)
        have HB3 := hide hb3
        clear hB3 hF3 hb3 HFI HT2
        unfold fnv at HFD
        unfold fnv
        go_wp2_with fail
        refine HFD.out.mono ?_
        rintro e w4 ⟨o, ho, rfl, hB4, -⟩
        have HB4 := hide (HB3.out.trans (Off.below hB4 HB3.out.size (fun k hk => Nat.le_trans HB.out.size hk.1)))
        clear hB4 HFD
        cases o with
        | none =>
          have HEND := hide (show MatchPost pat.data.toList text.data.toList (f' : Int) w (.returned (.tuple #[.int .i64 0, .int .i64 0, .bool false, .int .i64 0])) w4 from ⟨_, rfl, .inr (.inr (.inr ⟨a.re, h60, HA.out, f', rfl, hle, .inl ⟨ho, rfl⟩⟩)), HB4.out⟩)
          clear ho HB HB3 HB4
          simp only [found]
          go_wp2_with fail
          exact bodyPost_ret (v := .tuple #[.int .i64 0, .int .i64 0, .bool false, .int .i64 0]) (by simp [results, Tryd.results6, go_sem, *]) rfl HEND.out
        | some p =>
          obtain ⟨s, e⟩ := p
          have HEND := hide (show MatchPost pat.data.toList text.data.toList (f' : Int) w (.returned (.tuple #[.int .i64 s, .int .i64 e, .bool true, .int .i64 0])) w4 from ⟨_, rfl, .inr (.inr (.inr ⟨a.re, h60, HA.out, f', rfl, hle, .inr ⟨s, e, ho, rfl⟩⟩)), HB4.out⟩)
          clear ho HB HB3 HB4
          simp only [found]
          go_wp2_with fail
          exact bodyPost_ret (v := .tuple #[.int .i64 s, .int .i64 e, .bool true, .int .i64 0]) (by simp [results, Tryd.results6, go_sem, *]) rfl HEND.out
end Go.Proofs.YtgncgdkpkkdaeaaDoor
