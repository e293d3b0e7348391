/- The law Words holds: the walk of it, from what Match answers. -/
import Derived.Test.YtgncgdkpkkdaeaaDoorL2
import Derived.Test.YtgncgdkpkkdaeaaDoorPk
import Derived.Deep.LoopGhost
import Derived.Laws.IdiomStrings
namespace Go.Proofs.YtgncgdkpkkdaeaaDoor
open Go.RowKit Tint

/-- The first loop: so much of the word is taken. -/
def EscLoop (w : World) (n k : Nat) (vw vp vi : Value) (wr : World) : Prop :=
  ∃ (i : Nat) (cs : List UInt8), i = cs.length ∧ vw = .string ⟨cs.toArray⟩ ∧ vp = .string ⟨(escL cs).toArray⟩ ∧ vi = .int .i64 i ∧ i + k = min n 20 ∧ Prints cs ∧ Below w.heap.size w wr

theorem ba_append (a b : List UInt8) : (⟨a.toArray⟩ : ByteArray) ++ ⟨b.toArray⟩ = ⟨(a ++ b).toArray⟩ := by
  apply ByteArray.ext
  simp

theorem EscLoop.step {w W : World} {n k i : Nat} {cs : List UInt8} (d : UInt8) {vw vp : ByteArray} (hi : i = cs.length) (hk : i + (k + 1) = min n 20) (hp : Prints cs) (hd : 32 ≤ d.toNat ∧ d.toNat ≤ 126)
    (h1 : vw = ⟨(cs ++ [d]).toArray⟩) (h2 : vp = ⟨(escL cs ++ escB d).toArray⟩) (hB : Below w.heap.size w W) : EscLoop w n k (.string vw) (.string vp) (.int .i64 ((i + 1 : Nat) : Int)) W :=
  ⟨i + 1, cs ++ [d], by simp [hi], by rw [h1], by rw [h2, escL_snoc], rfl, by omega, (fun c hc => (List.mem_append.1 hc).elim (hp c) (fun h => by rw [List.mem_singleton.1 h]; exact hd)), hB⟩

theorem esc_two (cs : List UInt8) (d : UInt8) (h : escB d = [92] ++ [d]) : (⟨(escL cs).toArray⟩ : ByteArray) ++ ⟨#[92]⟩ ++ ⟨#[d]⟩ = ⟨(escL cs ++ escB d).toArray⟩ := by
  rw [h, ← List.append_assoc, ← ba_append, ← ba_append]

theorem conv_one (W : World) (d : UInt8) (n : Int) (g : Nat) (hn : n = d.toNat) (hg : g = W.heap.size) : (convert 36 9 (.slice (some ⟨g, 0, none⟩) 1 1)).run Tryd.prog (W.alloc (.cells #[.int .u8 n] 5)) = .ok (.string ⟨#[d]⟩) (W.alloc (.cells #[.int .u8 n] 5)) := by
  subst hn hg
  exact run_convert_bytes_back _ _ _ 5 _ 1 [d] Tryd.underlying36 Tryd.underlying5 Tryd.underlying9 (fun j hj => by
    obtain rfl : j = 0 := by simpa using hj
    exact World.cell?_alloc_mark W _ _ _ 0)

def wantV : Option (Nat × Nat) → Value
  | none => .int .i64 (-1)
  | some (a, _) => .int .i64 a
def lastV : Option (Nat × Nat) → Value
  | none => .int .i64 (-1)
  | some (_, b) => .int .i64 b

/-- The second loop: so much of the text is looked through. -/
def ScanLoop (T cs : List UInt8) (r : Nat) (W : World) (k : Nat) (vw vl vi : Value) (wr : World) : Prop :=
  ∃ (i : Nat) (o : Option (Nat × Nat)), vw = wantV o ∧ vl = lastV o ∧ vi = .int .i64 i ∧ i + k = T.length + 1 ∧ r ≤ i ∧ Scan T cs r i o ∧ wr = W

theorem cut_seg (text : ByteArray) (j n : Nat) : (text.extract j (j + n)).toList = seg text.data.toList j (j + n) := by
  rw [ByteArray.toList_eq]
  simp [seg, ByteArray.data_extract, List.extract_eq_take_drop]

theorem cut_occ {text : ByteArray} {cs : List UInt8} {j : Nat} (h : Occ text.data.toList cs j) : ((text.extract j (j + cs.length)).toList == cs) = true := by
  rw [cut_seg, h.2]; simp
theorem cut_not {text : ByteArray} {cs : List UInt8} {j : Nat} (hl : j + cs.length ≤ text.size) (h : ¬ Occ text.data.toList cs j) : ((text.extract j (j + cs.length)).toList == cs) = false := by
  rw [cut_seg, beq_eq_false_iff_ne]
  exact fun e => h ⟨hl, e⟩

theorem far_pat (cs : List UInt8) : ((⟨#[46, 42]⟩ : ByteArray) ++ ⟨(escL cs).toArray⟩).data.toList = [46, 42] ++ escL cs := by
  rw [show (⟨#[46, 42]⟩ : ByteArray) = ⟨([46, 42] : List UInt8).toArray⟩ from rfl, ba_append]

set_option maxRecDepth 20000 in
set_option maxHeartbeats 4000000 in
theorem words_walk (word text : ByteArray) (from_ : Int) (w : World) (hT : Tab w) (hw : 0 < w.heap.size) (htz : text.size ≤ 140737488351232) (hf : (Lit.int .i64 from_).wf = true) :
    Calls Tryd.prog 5 #[.string word, .string text, .int .i64 from_] w fun e w' => e = .returned (.bool true) ∧ Below w.heap.size w w' := by
  have HK := hide (known_any w hT hw)
  have HM := hide (fun (W : World) (hB : Below w.heap.size w W) (pat : ByteArray) (f : Nat) (r : Re) hl hp hf => match_pat pat text f r W (hT.keep (hB.block 0 hw)) (Nat.lt_of_lt_of_le hw hB.size) hl hp hf (by unfold maxLen; omega))
  clear hT hw
  go_enter Tryd.func5, Tryd.ntmps5
  go_wp2_with fail
  refine HK.out.mono ?_
  rintro e w1 ⟨rfl, hB⟩
  have HB := hide hB
  clear hB HK
  go_wp2_with fail
  go_loopg [8, 9, 10] (min word.size 20) (fun k vw vp vi wr => EscLoop w word.size k vw vp vi wr)
  case atStart => exact ⟨0, [], rfl, rfl, rfl, rfl, by omega, (by intro c hc; cases hc), HB.out⟩
  case round =>
    obtain ⟨i, cs, hi, rfl, rfl, rfl, hk, hp, hB1⟩ := hrel
    have hl1 : cs.length ≤ 20 := by omega
    have hl2 : (escL cs).length ≤ 40 := by have := escL_length cs; omega
    have HB1 := hide hB1
    have HI := hide hi
    have HP := hide hp
    clear hB1 hi hp
    cases gk with
    | zero =>
      have hge : min word.size 20 ≤ i := by omega
      obtain ⟨N, hN⟩ : ∃ N : Nat, N = text.size + 1 := ⟨_, rfl⟩
      have hw64 : wrap64 ((text.size : Int) + 1) = (N : Int) := by
        rw [hN]
        unfold wrap64
        omega
      have hw65 : (text.size : Int) + 1 = (N : Int) := by omega
      have HPK := hide (fun W => pick_any from_ N W hf (by omega) (by omega))
      have HN := hide hN
      clear hN hf
      rcases Nat.lt_or_ge i word.size with h1 | h1
      · have g1 : decide ((i : Int) < (word.size : Int)) = true := by simpa using h1
        have g2 : decide (i < 20) = false := by simp; omega
        go_wp2_with fail
        refine (HPK.out _).mono ?_
        rintro e w2 ⟨r, hr, rfl, rfl⟩
        clear hge h1 hk g1 g2
        go_wp2_with fail
        have hrt : r ≤ text.size := by have := HN.out; omega
        clear hr hw64 hw65 HPK HN
        go_loopg [12, 13, 14] (text.size + 1 - r) (fun k vw vl vi wr => ScanLoop text.data.toList cs r w2 k vw vl vi wr)
        case atStart => exact ⟨r, none, rfl, rfl, rfl, by rw [text_length]; omega, Nat.le_refl _, Scan.start _ _ _, rfl⟩
        case round =>
          obtain ⟨j, o, rfl, rfl, rfl, hk, hrj, hsc, rfl⟩ := hrel
          rw [text_length] at hk
          have hj : j ≤ 140737488351233 := by omega
          have HSC := hide hsc
          clear hsc
          by_cases hle : j + cs.length ≤ text.size
          · obtain ⟨g, rfl⟩ : ∃ g, gk = g + 1 := ⟨gk - 1, by omega⟩
            have HKK := hide (show (j + 1) + g = text.data.toList.length + 1 by rw [text_length]; omega)
            have HRJ := hide (show r ≤ j + 1 by omega)
            have HRJ0 := hide hrj
            have hg : decide ((j : Int) + (cs.length : Int) ≤ (text.size : Int)) = true := by simp; omega
            by_cases hoc : Occ text.data.toList cs j
            · have hq := cut_occ hoc
              have HSN := hide (HSC.out.hit HRJ0.out hoc)
              clear hk hrj HSC hoc
              rcases o with _ | ⟨a, b⟩
              · simp only [wantV, lastV, scanStep] at *
                go_wp2_with fail
                go_roundg g
                case measure => omega
                case rel => exact ⟨j + 1, _, rfl, rfl, rfl, HKK.out, HRJ.out, HSN.out, rfl⟩
              · have hna : decide (a < 0) = false := by simp
                simp only [wantV, lastV, scanStep] at *
                go_wp2_with fail
                go_roundg g
                case measure => omega
                case rel => exact ⟨j + 1, _, rfl, rfl, rfl, HKK.out, HRJ.out, HSN.out, rfl⟩
            · have hq := cut_not hle hoc
              have HSN := hide (HSC.out.miss hoc)
              clear hk hrj HSC hoc
              go_wp2_with fail
              go_roundg g
              case measure => omega
              case rel => exact ⟨j + 1, _, rfl, rfl, rfl, HKK.out, HRJ.out, HSN.out, rfl⟩
          · have hg : decide (j + cs.length ≤ text.size) = false := by simp; omega
            have HM1 := hide (HM.out wr HB1.out ⟨(escL cs).toArray⟩ r _ (by show (escL cs).length ≤ 60; omega) (pat_esc HP.out) hrt)
            have HM2 := hide (fun W hB => HM.out W hB (⟨#[46, 42]⟩ ++ ⟨(escL cs).toArray⟩) r _ (by rw [← text_length, far_pat, List.length_append]; show 2 + _ ≤ _; omega) (by rw [far_pat]; exact pat_far HP.out) hrt)
            have HN1 := hide (HSC.out.near (by rw [text_length]; omega))
            have HN2 := hide (HSC.out.far (by rw [text_length]; omega))
            have HAB := hide (show ∀ a b, o = some (a, b) → a + cs.length ≤ text.size ∧ b + cs.length ≤ text.size from fun a b e => by have h := HSC.out; rw [e] at h; exact ⟨h.2.2.2.1.1, h.2.2.2.2.1.1⟩)
            clear HSC
            go_wp2_with fail
            refine HM1.out.mono ?_
            rintro e w3 ⟨o1, ho1, rfl, hB3⟩
            obtain rfl := ho1.unique HN1.out
            have HB3 := hide (HB1.out.trans (hB3.mono HB1.out.size))
            clear ho1 hB3 HM1 HN1 hk hrj hj hle hg
            rcases o with _ | ⟨a, b⟩
            · simp only [wantV, lastV, near, farther, mval] at *
              go_wp2_with fail
              refine (HM2.out _ HB3.out).mono ?_
              rintro e w4 ⟨o2, ho2, rfl, hB4⟩
              obtain rfl := ho2.unique HN2.out
              have HB4 := hide (HB3.out.trans (hB4.mono HB3.out.size))
              clear ho2 hB4 HM2 HN2
              simp only [mval]
              go_wp2_with fail
              go_ret
              exact ⟨rfl, HB4.out⟩
            · have hab := HAB.out a b rfl
              clear HAB
              simp only [wantV, lastV, near, farther, mval] at *
              go_wp2_with fail
              refine (HM2.out _ HB3.out).mono ?_
              rintro e w4 ⟨o2, ho2, rfl, hB4⟩
              obtain rfl := ho2.unique HN2.out
              have HB4 := hide (HB3.out.trans (hB4.mono HB3.out.size))
              clear ho2 hB4 HM2 HN2
              simp only [mval]
              go_wp2_with fail
              go_ret
              exact ⟨rfl, HB4.out⟩
      · have g1 : decide (i < word.size) = false := by simp; omega
        go_wp2_with fail
        refine (HPK.out _).mono ?_
        rintro e w2 ⟨r, hr, rfl, rfl⟩
        clear hge h1 hk g1
        go_wp2_with fail
        have hrt : r ≤ text.size := by have := HN.out; omega
        clear hr hw64 hw65 HPK HN
        go_loopg [12, 13, 14] (text.size + 1 - r) (fun k vw vl vi wr => ScanLoop text.data.toList cs r w2 k vw vl vi wr)
        case atStart => exact ⟨r, none, rfl, rfl, rfl, by rw [text_length]; omega, Nat.le_refl _, Scan.start _ _ _, rfl⟩
        case round =>
          obtain ⟨j, o, rfl, rfl, rfl, hk, hrj, hsc, rfl⟩ := hrel
          rw [text_length] at hk
          have hj : j ≤ 140737488351233 := by omega
          have HSC := hide hsc
          clear hsc
          by_cases hle : j + cs.length ≤ text.size
          · obtain ⟨g, rfl⟩ : ∃ g, gk = g + 1 := ⟨gk - 1, by omega⟩
            have HKK := hide (show (j + 1) + g = text.data.toList.length + 1 by rw [text_length]; omega)
            have HRJ := hide (show r ≤ j + 1 by omega)
            have HRJ0 := hide hrj
            have hg : decide ((j : Int) + (cs.length : Int) ≤ (text.size : Int)) = true := by simp; omega
            by_cases hoc : Occ text.data.toList cs j
            · have hq := cut_occ hoc
              have HSN := hide (HSC.out.hit HRJ0.out hoc)
              clear hk hrj HSC hoc
              rcases o with _ | ⟨a, b⟩
              · simp only [wantV, lastV, scanStep] at *
                go_wp2_with fail
                go_roundg g
                case measure => omega
                case rel => exact ⟨j + 1, _, rfl, rfl, rfl, HKK.out, HRJ.out, HSN.out, rfl⟩
              · have hna : decide (a < 0) = false := by simp
                simp only [wantV, lastV, scanStep] at *
                go_wp2_with fail
                go_roundg g
                case measure => omega
                case rel => exact ⟨j + 1, _, rfl, rfl, rfl, HKK.out, HRJ.out, HSN.out, rfl⟩
            · have hq := cut_not hle hoc
              have HSN := hide (HSC.out.miss hoc)
              clear hk hrj HSC hoc
              go_wp2_with fail
              go_roundg g
              case measure => omega
              case rel => exact ⟨j + 1, _, rfl, rfl, rfl, HKK.out, HRJ.out, HSN.out, rfl⟩
          · have hg : decide (j + cs.length ≤ text.size) = false := by simp; omega
            have HM1 := hide (HM.out wr HB1.out ⟨(escL cs).toArray⟩ r _ (by show (escL cs).length ≤ 60; omega) (pat_esc HP.out) hrt)
            have HM2 := hide (fun W hB => HM.out W hB (⟨#[46, 42]⟩ ++ ⟨(escL cs).toArray⟩) r _ (by rw [← text_length, far_pat, List.length_append]; show 2 + _ ≤ _; omega) (by rw [far_pat]; exact pat_far HP.out) hrt)
            have HN1 := hide (HSC.out.near (by rw [text_length]; omega))
            have HN2 := hide (HSC.out.far (by rw [text_length]; omega))
            have HAB := hide (show ∀ a b, o = some (a, b) → a + cs.length ≤ text.size ∧ b + cs.length ≤ text.size from fun a b e => by have h := HSC.out; rw [e] at h; exact ⟨h.2.2.2.1.1, h.2.2.2.2.1.1⟩)
            clear HSC
            go_wp2_with fail
            refine HM1.out.mono ?_
            rintro e w3 ⟨o1, ho1, rfl, hB3⟩
            obtain rfl := ho1.unique HN1.out
            have HB3 := hide (HB1.out.trans (hB3.mono HB1.out.size))
            clear ho1 hB3 HM1 HN1 hk hrj hj hle hg
            rcases o with _ | ⟨a, b⟩
            · simp only [wantV, lastV, near, farther, mval] at *
              go_wp2_with fail
              refine (HM2.out _ HB3.out).mono ?_
              rintro e w4 ⟨o2, ho2, rfl, hB4⟩
              obtain rfl := ho2.unique HN2.out
              have HB4 := hide (HB3.out.trans (hB4.mono HB3.out.size))
              clear ho2 hB4 HM2 HN2
              simp only [mval]
              go_wp2_with fail
              go_ret
              exact ⟨rfl, HB4.out⟩
            · have hab := HAB.out a b rfl
              clear HAB
              simp only [wantV, lastV, near, farther, mval] at *
              go_wp2_with fail
              refine (HM2.out _ HB3.out).mono ?_
              rintro e w4 ⟨o2, ho2, rfl, hB4⟩
              obtain rfl := ho2.unique HN2.out
              have HB4 := hide (HB3.out.trans (hB4.mono HB3.out.size))
              clear ho2 hB4 HM2 HN2
              simp only [mval]
              go_wp2_with fail
              go_ret
              exact ⟨rfl, HB4.out⟩
    | succ k =>
      have h1 : i < word.size := by omega
      have h2 : i < 20 := by omega
      have HKK := hide hk
      have g1 : decide ((i : Int) < (word.size : Int)) = true := by simpa using h1
      have g2 : decide ((i : Int) < 20) = true := by simp; omega
      obtain ⟨c, hc⟩ : ∃ c, c = word[i] := ⟨_, rfl⟩
      by_cases hlo : c.toNat < 32
      · have gl : decide ((c.toNat : Int) < 32) = true := by simp; omega
        rw [hc] at gl
        have hv1 := conv_one wr 42 42 _ rfl rfl
        have hv2 := conv_one (wr.alloc (.cells #[.int .u8 42] 5)) 42 42 (wr.heap.size + 1) rfl (by simp)
        have HBB := hide ((HB1.out.alloc (o := .cells #[.int .u8 42] 5) HB1.out.size).alloc (o := .cells #[.int .u8 42] 5) (by simp; have := HB1.out.size; omega))
        clear hc hlo hk
        go_wp2_with fail
        go_roundg k
        case measure => omega
        case rel => exact EscLoop.step 42 HI.out HKK.out HP.out (by decide) (ba_append _ [42]) (esc_two cs 42 rfl) HBB.out
      · have gl : decide ((c.toNat : Int) < 32) = false := by simp; omega
        by_cases hhi : 126 < c.toNat
        · have gh : decide (126 < (c.toNat : Int)) = true := by simp; omega
          rw [hc] at gl gh
          have hv1 := conv_one wr 42 42 _ rfl rfl
          have hv2 := conv_one (wr.alloc (.cells #[.int .u8 42] 5)) 42 42 (wr.heap.size + 1) rfl (by simp)
          have HBB := hide ((HB1.out.alloc (o := .cells #[.int .u8 42] 5) HB1.out.size).alloc (o := .cells #[.int .u8 42] 5) (by simp; have := HB1.out.size; omega))
          clear hc hlo hhi hk
          go_wp2_with fail
          go_roundg k
          case measure => omega
          case rel => exact EscLoop.step 42 HI.out HKK.out HP.out (by decide) (ba_append _ [42]) (esc_two cs 42 rfl) HBB.out
        · have gh : decide (126 < (c.toNat : Int)) = false := by simp; omega
          have hcc : 32 ≤ c.toNat ∧ c.toNat ≤ 126 := by omega
          have HC := hide hcc
          have hv1 := conv_one wr word[i] _ _ rfl rfl
          have hv2 := conv_one (wr.alloc (.cells #[.int .u8 word[i].toNat] 5)) word[i] _ (wr.heap.size + 1) rfl (by simp)
          have HBB := hide ((HB1.out.alloc (o := .cells #[.int .u8 word[i].toNat] 5) HB1.out.size).alloc (o := .cells #[.int .u8 word[i].toNat] 5) (by simp; have := HB1.out.size; omega))
          by_cases hs : isSign c = true
          · have hsg : c = 92 ∨ c = 40 ∨ c = 41 ∨ c = 91 ∨ c = 93 ∨ c = 124 ∨ c = 42 ∨ c = 43 ∨ c = 63 ∨ c = 46 ∨ c = 94 ∨ c = 45 := by simpa [isSign] using hs
            rw [hc] at gl gh HC
            have HE := hide (show ∀ d, isSign d = true → escB d = [92] ++ [d] from fun d hd => by simp [escB, hd])
            have HS := hide (show isSign word[i] = true by rw [← hc]; exact hs)
            clear hhi hlo hcc hs hk
            rcases hsg with rfl | rfl | rfl | rfl | rfl | rfl | rfl | rfl | rfl | rfl | rfl | rfl
            all_goals
              first | (have n1 : ((word[i].toNat : Int) == 92) = true := by rw [← hc]; rfl) | (have n1 : ((word[i].toNat : Int) == 92) = false := by rw [← hc]; rfl)
              first | (have n2 : ((word[i].toNat : Int) == 40) = true := by rw [← hc]; rfl) | (have n2 : ((word[i].toNat : Int) == 40) = false := by rw [← hc]; rfl)
              first | (have n3 : ((word[i].toNat : Int) == 41) = true := by rw [← hc]; rfl) | (have n3 : ((word[i].toNat : Int) == 41) = false := by rw [← hc]; rfl)
              first | (have n4 : ((word[i].toNat : Int) == 91) = true := by rw [← hc]; rfl) | (have n4 : ((word[i].toNat : Int) == 91) = false := by rw [← hc]; rfl)
              first | (have n5 : ((word[i].toNat : Int) == 93) = true := by rw [← hc]; rfl) | (have n5 : ((word[i].toNat : Int) == 93) = false := by rw [← hc]; rfl)
              first | (have n6 : ((word[i].toNat : Int) == 124) = true := by rw [← hc]; rfl) | (have n6 : ((word[i].toNat : Int) == 124) = false := by rw [← hc]; rfl)
              first | (have n7 : ((word[i].toNat : Int) == 42) = true := by rw [← hc]; rfl) | (have n7 : ((word[i].toNat : Int) == 42) = false := by rw [← hc]; rfl)
              first | (have n8 : ((word[i].toNat : Int) == 43) = true := by rw [← hc]; rfl) | (have n8 : ((word[i].toNat : Int) == 43) = false := by rw [← hc]; rfl)
              first | (have n9 : ((word[i].toNat : Int) == 63) = true := by rw [← hc]; rfl) | (have n9 : ((word[i].toNat : Int) == 63) = false := by rw [← hc]; rfl)
              first | (have n10 : ((word[i].toNat : Int) == 46) = true := by rw [← hc]; rfl) | (have n10 : ((word[i].toNat : Int) == 46) = false := by rw [← hc]; rfl)
              first | (have n11 : ((word[i].toNat : Int) == 94) = true := by rw [← hc]; rfl) | (have n11 : ((word[i].toNat : Int) == 94) = false := by rw [← hc]; rfl)
              first | (have n12 : ((word[i].toNat : Int) == 45) = true := by rw [← hc]; rfl) | (have n12 : ((word[i].toNat : Int) == 45) = false := by rw [← hc]; rfl)
              clear hc
              go_wp2_with fail
              go_roundg k
              case measure => omega
              case rel => exact EscLoop.step word[i] HI.out HKK.out HP.out HC.out (ba_append _ [word[i]]) (esc_two cs _ (HE.out _ HS.out)) HBB.out
          · have hne : ∀ (d : UInt8) (n : Int), n = d.toNat → isSign d = true → ((c.toNat : Int) == n) = false := by
              intro d n hn hd
              rw [beq_eq_false_iff_ne]
              intro h
              rw [UInt8.toNat_inj.1 (show c.toNat = d.toNat by omega)] at hs
              exact hs hd
            have n1 := hne 92 92 rfl (by decide)
            have n2 := hne 40 40 rfl (by decide)
            have n3 := hne 41 41 rfl (by decide)
            have n4 := hne 91 91 rfl (by decide)
            have n5 := hne 93 93 rfl (by decide)
            have n6 := hne 124 124 rfl (by decide)
            have n7 := hne 42 42 rfl (by decide)
            have n8 := hne 43 43 rfl (by decide)
            have n9 := hne 63 63 rfl (by decide)
            have n10 := hne 46 46 rfl (by decide)
            have n11 := hne 94 94 rfl (by decide)
            have n12 := hne 45 45 rfl (by decide)
            have HE := hide (show escB word[i] = [word[i]] by rw [← hc]; simp [escB, hs])
            clear hne
            rw [hc] at n1 n2 n3 n4 n5 n6 n7 n8 n9 n10 n11 n12 gl gh HC
            clear hc hhi hlo hcc hs hk
            go_wp2_with fail
            go_roundg k
            case measure => omega
            case rel => exact EscLoop.step word[i] HI.out HKK.out HP.out HC.out (ba_append _ [word[i]]) (by rw [HE.out]; exact ba_append _ [word[i]]) HBB.out
end Go.Proofs.YtgncgdkpkkdaeaaDoor
