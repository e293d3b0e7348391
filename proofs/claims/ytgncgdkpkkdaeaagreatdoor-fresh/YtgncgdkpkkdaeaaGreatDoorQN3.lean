/- Put together from N3. -/
import Derived.Test.YtgncgdkpkkdaeaaGreatDoorQG
/- tintref.ruleOf. -/
namespace Go.Proofs.YtgncgdkpkkdaeaaGreatDoor
open Go.RowKit Tint

/-- A rule's line. -/
def ruleLnOf (l : List UInt8) : Option Ln :=
  match cutAt 32 l with
  | (w, some r) => if w = wToken then ruleLn 0 [] r else if w = wPop then ruleLn 2 [] r else if w = wPush then pushLn r else none
  | (_, none) => none

theorem ruleLnOf_miss {l : List UInt8} (h : (32 : UInt8) ∉ l) : ruleLnOf l = none := by unfold ruleLnOf; rw [cutAt_miss h]
theorem ruleLnOf_hit {l w r : List UInt8} (h : l = w ++ 32 :: r) (hn : (32 : UInt8) ∉ w) : ruleLnOf l = if w = wToken then ruleLn 0 [] r else if w = wPop then ruleLn 2 [] r else if w = wPush then pushLn r else none := by
  unfold ruleLnOf; rw [h, cutAt_hit r hn]
theorem pushLn_miss {l : List UInt8} (h : (32 : UInt8) ∉ l) : pushLn l = none := by unfold pushLn; rw [cutAt_miss h]
theorem pushLn_hit {l w r : List UInt8} (h : l = w ++ 32 :: r) (hn : (32 : UInt8) ∉ w) : pushLn l = if isName w = true then ruleLn 1 w r else none := by
  unfold pushLn; rw [h, cutAt_hit r hn]

theorem rb_miss {r : List UInt8} (h : (32 : UInt8) ∉ r) : ruleBody r = none := by unfold ruleBody; rw [cutAt_miss h]

theorem rb_hit {r c q : List UInt8} (h : r = c ++ 32 :: q) (hn : (32 : UInt8) ∉ c) : (q.length < 2 → ruleBody r = none) ∧ (isName c = true → ∀ p, q = 61 :: 32 :: p → ruleBody r = some (c, p)) ∧ ((∀ p, q ≠ 61 :: 32 :: p) → ruleBody r = none) ∧ (isName c = false → ruleBody r = none) := by
  have key : (∀ p, q ≠ 61 :: 32 :: p) → ruleBody r = none := fun hq => by
    unfold ruleBody
    rw [h, cutAt_hit q hn]
    split
    · rename_i c' p' hc
      simp only [Prod.mk.injEq, Option.some.injEq] at hc
      exact absurd hc.2 (hq _)
    · rfl
  refine ⟨fun hl => key fun p hp => ?_, fun hc p hp => ?_, key, fun hc => ?_⟩
  · simp only [hp, List.length_cons] at hl; omega
  · rw [h, hp]; exact ruleBody_of hc
  · by_cases hq : ∃ p, q = 61 :: 32 :: p
    · obtain ⟨p, rfl⟩ := hq
      unfold ruleBody
      rw [h, cutAt_hit _ hn]
      simp [hc]
    · exact key fun p hp => hq ⟨p, hp⟩

def ruleWord : Nat → List UInt8
  | 0 => wToken
  | 1 => wPush
  | _ => wPop

/-- A rule's value, whatever it holds. -/
def IsRl (v : Value) : Prop := ∃ a b c p : ByteArray, v = .agg #[.string a, .string b, .string c, .string p, .pointer none, .int .i64 0]

def RulePost (s : List UInt8) (w : World) (e : Ending) (w' : World) : Prop :=
  Below w.heap.size w w' ∧ ((∃ (d : Nat) (a b c p : ByteArray), e = .returned (.tuple #[.agg #[.string a, .string b, .string c, .string p, .pointer none, .int .i64 0], .bool true]) ∧ d ≤ 2 ∧ a.data.toList = ruleWord d ∧ ruleLnOf s = some (.rule d b.data.toList c.data.toList p.data.toList)) ∨
    (∃ v, IsRl v ∧ e = .returned (.tuple #[v, .bool false]) ∧ ruleLnOf s = none))

theorem two_below (w : World) (o1 o2 : Obj) : Below w.heap.size w ((w.alloc o1).alloc o2) := ((Below.refl _ _).alloc (Nat.le_refl _) _).alloc (by simp) _

theorem rule_no {s r o : List UInt8} {d : Nat} {w w' : World} (h : ruleLnOf s = ruleLn d o r) (hb : ruleBody r = none) (v : Value) (hv : IsRl v) (hB : Below w.heap.size w w') : RulePost s w (.returned (.tuple #[v, .bool false])) w' :=
  ⟨hB, .inr ⟨v, hv, rfl, by rw [h, ruleLn, hb]; rfl⟩⟩

theorem rule_none {s : List UInt8} {w w' : World} (h : ruleLnOf s = none) (v : Value) (hv : IsRl v) (hB : Below w.heap.size w w') : RulePost s w (.returned (.tuple #[v, .bool false])) w' := ⟨hB, .inr ⟨v, hv, rfl, h⟩⟩

theorem rule_yes {s r : List UInt8} {d : Nat} {a b c p : ByteArray} {w w' : World} (h : ruleLnOf s = ruleLn d b.data.toList r) (hd : d ≤ 2) (ha : a.data.toList = ruleWord d) (hb : ruleBody r = some (c.data.toList, p.data.toList)) (hB : Below w.heap.size w w') :
    RulePost s w (.returned (.tuple #[.agg #[.string a, .string b, .string c, .string p, .pointer none, .int .i64 0], .bool true])) w' :=
  ⟨hB, .inl ⟨d, a, b, c, p, rfl, hd, ha, by rw [h, ruleLn, hb]; rfl⟩⟩

theorem ba_of {t : ByteArray} {l : List UInt8} (h : t.data.toList = l) : t = ⟨l.toArray⟩ := by
  apply ByteArray.ext
  rw [← h]
theorem str_ne {t : ByteArray} {l : List UInt8} (h : ¬ t.data.toList = l) : (t.toList == l) = false := by
  rw [beq_eq_false_iff_ne, ByteArray.toList_eq]; exact h

set_option maxRecDepth 20000 in
set_option maxHeartbeats 4000000 in
theorem ruleOf_any (s : ByteArray) (w : World) (hz : s.size ≤ 2000) :
    Calls Tryz.prog 85 #[.string s] w (RulePost s.data.toList w) := by
  have hrz : rest s 0 = s.data.toList := by simp [rest]
  go_enter Tryz.func85, Tryz.ntmps85
  go_wp2_with fail
  refine (until_any s 0 _ (Nat.zero_le _) (by omega)).mono ?_
  rintro e w1 ⟨rfl, ⟨t, j, hr, hj, h0, hn, rfl⟩ | ⟨hn, t, ht, rfl⟩⟩
  · rw [hrz] at hr
    have hn0 : ¬ j = 0 := by omega
    have hq0 : ((j : Int) == 0) = false := by rw [beq_eq_false_iff_ne]; omega
    have HL := hide (ruleLnOf_hit hr hn)
    clear hr hn hrz
    by_cases h1 : t.data.toList = wToken
    · obtain rfl : t = ⟨#[116, 111, 107, 101, 110]⟩ := ba_of h1
      have q1 : ((⟨#[116, 111, 107, 101, 110]⟩ : ByteArray).toList == [116, 111, 107, 101, 110]) = true := by rw [ByteArray.toList_eq]; rfl
      have q2 : ((⟨#[116, 111, 107, 101, 110]⟩ : ByteArray).toList == [112, 117, 115, 104]) = false := by rw [ByteArray.toList_eq]; rfl
      have HRL := hide (show ruleLnOf s.data.toList = ruleLn 0 (⟨#[]⟩ : ByteArray).data.toList (rest s j) by rw [HL.out]; rfl)
      clear HL h1
      go_wp2_with fail
      refine (until_any s j _ hj (by omega)).mono ?_
      rintro e w2 ⟨rfl, ⟨c, j2, hr2, hj2, h02, hn2, rfl⟩ | ⟨hn2, c, hc, rfl⟩⟩
      · have hcz : c.size ≤ 2000 := by
          have h1 := congrArg List.length hr2
          rw [length_rest, List.length_append, byte_length] at h1
          omega
        have HBL := hide (rb_hit hr2 hn2)
        have hn0 : ¬ j2 = 0 := by omega
        have hq0 : ((j2 : Int) == 0) = false := by rw [beq_eq_false_iff_ne]; omega
        clear hr2 hn2
        go_wp2_with fail
        refine (refName_any c _ (by omega)).mono ?_
        rintro e w3 ⟨rfl, rfl⟩
        by_cases hnm : isName c.data.toList = true
        · by_cases hl2 : s.size < j2 + 2
          · have HEND := hide (fun o1 o2 => rule_no (w := w) HRL.out (HBL.out.1 (by rw [length_rest]; omega)) (.agg #[.string ⟨#[116, 111, 107, 101, 110]⟩, .string ⟨#[]⟩, .string c, .string ⟨#[]⟩, .pointer none, .int .i64 0]) ⟨_, _, _, _, rfl⟩ (two_below w o1 o2))
            have hi2 : j2 + 2 ≤ 9223372036854775807 := by omega
            have hg2 : decide ((s.size : Int) < (j2 : Int) + 2) = true := decide_eq_true (by omega)
            clear HBL
            go_wp2_with fail
            exact bodyPost_ret (v := .tuple #[.agg #[.string ⟨#[116, 111, 107, 101, 110]⟩, .string ⟨#[]⟩, .string c, .string ⟨#[]⟩, .pointer none, .int .i64 0], .bool false]) (by simp [results, Tryz.results85, go_sem, *]) rfl (HEND.out _ _)
          · have hi2 : j2 + 2 ≤ 9223372036854775807 := by omega
            have hg2 : decide ((s.size : Int) < (j2 : Int) + 2) = false := decide_eq_false (by omega)
            have hle2 : j2 + 2 ≤ s.size := by omega
            by_cases heq : (s.extract j2 (j2 + 2)).toList = [61, 32]
            · have hq2 : ((s.extract j2 (j2 + 2)).toList == [61, 32]) = true := by rw [heq]; rfl
              have HEND := hide (fun o1 o2 => rule_yes (w := w) (d := 0) (a := ⟨#[116, 111, 107, 101, 110]⟩) (b := ⟨#[]⟩) HRL.out (by omega) rfl (HBL.out.2.1 hnm (s.extract (j2 + 2) s.size).data.toList (by rw [extract_seg (Nat.le_add_right j2 2), ← ByteArray.toList_eq, heq, extract_rest (Nat.le_refl _)]; rfl)) (two_below w o1 o2))
              clear HBL
              go_wp2_with fail
              exact bodyPost_ret (v := .tuple #[.agg #[.string ⟨#[116, 111, 107, 101, 110]⟩, .string ⟨#[]⟩, .string c, .string (s.extract (j2 + 2) s.size), .pointer none, .int .i64 0], .bool true]) (by simp [results, Tryz.results85, go_sem, *]) rfl (HEND.out _ _)
            · have hq2 : ((s.extract j2 (j2 + 2)).toList == [61, 32]) = false := by rw [beq_eq_false_iff_ne]; exact heq
              have HEND := hide (fun o1 o2 => rule_no (w := w) HRL.out (HBL.out.2.2.1 fun p hp => heq (by rw [ByteArray.toList_eq, extract_list, ← rest, hp, show j2 + 2 - j2 = 2 by omega]; rfl)) (.agg #[.string ⟨#[116, 111, 107, 101, 110]⟩, .string ⟨#[]⟩, .string c, .string ⟨#[]⟩, .pointer none, .int .i64 0]) ⟨_, _, _, _, rfl⟩ (two_below w o1 o2))
              clear HBL heq
              go_wp2_with fail
              exact bodyPost_ret (v := .tuple #[.agg #[.string ⟨#[116, 111, 107, 101, 110]⟩, .string ⟨#[]⟩, .string c, .string ⟨#[]⟩, .pointer none, .int .i64 0], .bool false]) (by simp [results, Tryz.results85, go_sem, *]) rfl (HEND.out _ _)
        · have hnm' : isName c.data.toList = false := by simpa using hnm
          have HEND := hide (fun o1 o2 => rule_no (w := w) HRL.out (HBL.out.2.2.2 hnm') (.agg #[.string ⟨#[116, 111, 107, 101, 110]⟩, .string ⟨#[]⟩, .string c, .string ⟨#[]⟩, .pointer none, .int .i64 0]) ⟨_, _, _, _, rfl⟩ (two_below w o1 o2))
          rw [hnm']
          clear HBL hnm
          go_wp2_with fail
          exact bodyPost_ret (v := .tuple #[.agg #[.string ⟨#[116, 111, 107, 101, 110]⟩, .string ⟨#[]⟩, .string c, .string ⟨#[]⟩, .pointer none, .int .i64 0], .bool false]) (by simp [results, Tryz.results85, go_sem, *]) rfl (HEND.out _ _)
      · have hcz : c.size ≤ 2000 := by
          have h1 := congrArg List.length hc
          rw [length_rest, byte_length] at h1
          omega
        have HEND := hide (fun o1 o2 => rule_no (w := w) HRL.out (rb_miss hn2) (.agg #[.string ⟨#[116, 111, 107, 101, 110]⟩, .string ⟨#[]⟩, .string c, .string ⟨#[]⟩, .pointer none, .int .i64 0]) ⟨_, _, _, _, rfl⟩ (two_below w o1 o2))
        clear hc hn2
        go_wp2_with fail
        refine (refName_any c _ (by omega)).mono ?_
        rintro e w3 ⟨rfl, rfl⟩
        cases hnm : isName c.data.toList with
        | true =>
          go_wp2_with fail
          exact bodyPost_ret (v := .tuple #[.agg #[.string ⟨#[116, 111, 107, 101, 110]⟩, .string ⟨#[]⟩, .string c, .string ⟨#[]⟩, .pointer none, .int .i64 0], .bool false]) (by simp [results, Tryz.results85, go_sem, *]) rfl (HEND.out _ _)
        | false =>
          go_wp2_with fail
          exact bodyPost_ret (v := .tuple #[.agg #[.string ⟨#[116, 111, 107, 101, 110]⟩, .string ⟨#[]⟩, .string c, .string ⟨#[]⟩, .pointer none, .int .i64 0], .bool false]) (by simp [results, Tryz.results85, go_sem, *]) rfl (HEND.out _ _)
    · by_cases h2 : t.data.toList = wPop
      · obtain rfl : t = ⟨#[112, 111, 112]⟩ := ba_of h2
        have q1 : ((⟨#[112, 111, 112]⟩ : ByteArray).toList == [116, 111, 107, 101, 110]) = false := by rw [ByteArray.toList_eq]; rfl
        have q2 : ((⟨#[112, 111, 112]⟩ : ByteArray).toList == [112, 117, 115, 104]) = false := by rw [ByteArray.toList_eq]; rfl
        have q3 : ((⟨#[112, 111, 112]⟩ : ByteArray).toList == [112, 111, 112]) = true := by rw [ByteArray.toList_eq]; rfl
        have HRL := hide (show ruleLnOf s.data.toList = ruleLn 2 (⟨#[]⟩ : ByteArray).data.toList (rest s j) by rw [HL.out]; rfl)
        clear HL h1 h2
        go_wp2_with fail
        refine (until_any s j _ hj (by omega)).mono ?_
        rintro e w2 ⟨rfl, ⟨c, j2, hr2, hj2, h02, hn2, rfl⟩ | ⟨hn2, c, hc, rfl⟩⟩
        · have hcz : c.size ≤ 2000 := by
            have h1 := congrArg List.length hr2
            rw [length_rest, List.length_append, byte_length] at h1
            omega
          have HBL := hide (rb_hit hr2 hn2)
          have hn0 : ¬ j2 = 0 := by omega
          have hq0 : ((j2 : Int) == 0) = false := by rw [beq_eq_false_iff_ne]; omega
          clear hr2 hn2
          go_wp2_with fail
          refine (refName_any c _ (by omega)).mono ?_
          rintro e w3 ⟨rfl, rfl⟩
          by_cases hnm : isName c.data.toList = true
          · by_cases hl2 : s.size < j2 + 2
            · have HEND := hide (fun o1 o2 => rule_no (w := w) HRL.out (HBL.out.1 (by rw [length_rest]; omega)) (.agg #[.string ⟨#[112, 111, 112]⟩, .string ⟨#[]⟩, .string c, .string ⟨#[]⟩, .pointer none, .int .i64 0]) ⟨_, _, _, _, rfl⟩ (two_below w o1 o2))
              have hi2 : j2 + 2 ≤ 9223372036854775807 := by omega
              have hg2 : decide ((s.size : Int) < (j2 : Int) + 2) = true := decide_eq_true (by omega)
              clear HBL
              go_wp2_with fail
              exact bodyPost_ret (v := .tuple #[.agg #[.string ⟨#[112, 111, 112]⟩, .string ⟨#[]⟩, .string c, .string ⟨#[]⟩, .pointer none, .int .i64 0], .bool false]) (by simp [results, Tryz.results85, go_sem, *]) rfl (HEND.out _ _)
            · have hi2 : j2 + 2 ≤ 9223372036854775807 := by omega
              have hg2 : decide ((s.size : Int) < (j2 : Int) + 2) = false := decide_eq_false (by omega)
              have hle2 : j2 + 2 ≤ s.size := by omega
              by_cases heq : (s.extract j2 (j2 + 2)).toList = [61, 32]
              · have hq2 : ((s.extract j2 (j2 + 2)).toList == [61, 32]) = true := by rw [heq]; rfl
                have HEND := hide (fun o1 o2 => rule_yes (w := w) (d := 2) (a := ⟨#[112, 111, 112]⟩) (b := ⟨#[]⟩) HRL.out (by omega) rfl (HBL.out.2.1 hnm (s.extract (j2 + 2) s.size).data.toList (by rw [extract_seg (Nat.le_add_right j2 2), ← ByteArray.toList_eq, heq, extract_rest (Nat.le_refl _)]; rfl)) (two_below w o1 o2))
                clear HBL
                go_wp2_with fail
                exact bodyPost_ret (v := .tuple #[.agg #[.string ⟨#[112, 111, 112]⟩, .string ⟨#[]⟩, .string c, .string (s.extract (j2 + 2) s.size), .pointer none, .int .i64 0], .bool true]) (by simp [results, Tryz.results85, go_sem, *]) rfl (HEND.out _ _)
              · have hq2 : ((s.extract j2 (j2 + 2)).toList == [61, 32]) = false := by rw [beq_eq_false_iff_ne]; exact heq
                have HEND := hide (fun o1 o2 => rule_no (w := w) HRL.out (HBL.out.2.2.1 fun p hp => heq (by rw [ByteArray.toList_eq, extract_list, ← rest, hp, show j2 + 2 - j2 = 2 by omega]; rfl)) (.agg #[.string ⟨#[112, 111, 112]⟩, .string ⟨#[]⟩, .string c, .string ⟨#[]⟩, .pointer none, .int .i64 0]) ⟨_, _, _, _, rfl⟩ (two_below w o1 o2))
                clear HBL heq
                go_wp2_with fail
                exact bodyPost_ret (v := .tuple #[.agg #[.string ⟨#[112, 111, 112]⟩, .string ⟨#[]⟩, .string c, .string ⟨#[]⟩, .pointer none, .int .i64 0], .bool false]) (by simp [results, Tryz.results85, go_sem, *]) rfl (HEND.out _ _)
          · have hnm' : isName c.data.toList = false := by simpa using hnm
            have HEND := hide (fun o1 o2 => rule_no (w := w) HRL.out (HBL.out.2.2.2 hnm') (.agg #[.string ⟨#[112, 111, 112]⟩, .string ⟨#[]⟩, .string c, .string ⟨#[]⟩, .pointer none, .int .i64 0]) ⟨_, _, _, _, rfl⟩ (two_below w o1 o2))
            rw [hnm']
            clear HBL hnm
            go_wp2_with fail
            exact bodyPost_ret (v := .tuple #[.agg #[.string ⟨#[112, 111, 112]⟩, .string ⟨#[]⟩, .string c, .string ⟨#[]⟩, .pointer none, .int .i64 0], .bool false]) (by simp [results, Tryz.results85, go_sem, *]) rfl (HEND.out _ _)
        · have hcz : c.size ≤ 2000 := by
            have h1 := congrArg List.length hc
            rw [length_rest, byte_length] at h1
            omega
          have HEND := hide (fun o1 o2 => rule_no (w := w) HRL.out (rb_miss hn2) (.agg #[.string ⟨#[112, 111, 112]⟩, .string ⟨#[]⟩, .string c, .string ⟨#[]⟩, .pointer none, .int .i64 0]) ⟨_, _, _, _, rfl⟩ (two_below w o1 o2))
          clear hc hn2
          go_wp2_with fail
          refine (refName_any c _ (by omega)).mono ?_
          rintro e w3 ⟨rfl, rfl⟩
          cases hnm : isName c.data.toList with
          | true =>
            go_wp2_with fail
            exact bodyPost_ret (v := .tuple #[.agg #[.string ⟨#[112, 111, 112]⟩, .string ⟨#[]⟩, .string c, .string ⟨#[]⟩, .pointer none, .int .i64 0], .bool false]) (by simp [results, Tryz.results85, go_sem, *]) rfl (HEND.out _ _)
          | false =>
            go_wp2_with fail
            exact bodyPost_ret (v := .tuple #[.agg #[.string ⟨#[112, 111, 112]⟩, .string ⟨#[]⟩, .string c, .string ⟨#[]⟩, .pointer none, .int .i64 0], .bool false]) (by simp [results, Tryz.results85, go_sem, *]) rfl (HEND.out _ _)
      · by_cases h3 : t.data.toList = wPush
        · obtain rfl : t = ⟨#[112, 117, 115, 104]⟩ := ba_of h3
          have q1 : ((⟨#[112, 117, 115, 104]⟩ : ByteArray).toList == [116, 111, 107, 101, 110]) = false := by rw [ByteArray.toList_eq]; rfl
          have q2 : ((⟨#[112, 117, 115, 104]⟩ : ByteArray).toList == [112, 117, 115, 104]) = true := by rw [ByteArray.toList_eq]; rfl
          have HPL := hide (show ruleLnOf s.data.toList = pushLn (rest s j) by rw [HL.out]; rfl)
          clear HL h1 h2 h3
          go_wp2_with fail
          refine (until_any s j _ hj (by omega)).mono ?_
          rintro e w2 ⟨rfl, ⟨o, j1, hr1, hj1, h01, hn1, rfl⟩ | ⟨hn1, o, ho, rfl⟩⟩
          · have hoz : o.size ≤ 2000 := by
              have h1 := congrArg List.length hr1
              rw [length_rest, List.length_append, byte_length] at h1
              omega
            have hn01 : ¬ j1 = 0 := by omega
            have hq01 : ((j1 : Int) == 0) = false := by rw [beq_eq_false_iff_ne]; omega
            have HPH := hide (pushLn_hit hr1 hn1)
            clear hr1 hn1
            go_wp2_with fail
            refine (refName_any o _ (by omega)).mono ?_
            rintro e w3 ⟨rfl, rfl⟩
            by_cases hno : isName o.data.toList = true
            · have HRL := hide (show ruleLnOf s.data.toList = ruleLn 1 o.data.toList (rest s j1) by rw [HPL.out, HPH.out, if_pos hno])
              clear HPL HPH
              rw [hno]
              go_wp2_with fail
              refine (until_any s j1 _ hj1 (by omega)).mono ?_
              rintro e w2 ⟨rfl, ⟨c, j2, hr2, hj2, h02, hn2, rfl⟩ | ⟨hn2, c, hc, rfl⟩⟩
              · have hcz : c.size ≤ 2000 := by
                  have h1 := congrArg List.length hr2
                  rw [length_rest, List.length_append, byte_length] at h1
                  omega
                have HBL := hide (rb_hit hr2 hn2)
                have hn0 : ¬ j2 = 0 := by omega
                have hq0 : ((j2 : Int) == 0) = false := by rw [beq_eq_false_iff_ne]; omega
                clear hr2 hn2
                go_wp2_with fail
                refine (refName_any c _ (by omega)).mono ?_
                rintro e w3 ⟨rfl, rfl⟩
                by_cases hnm : isName c.data.toList = true
                · by_cases hl2 : s.size < j2 + 2
                  · have HEND := hide (fun o1 o2 => rule_no (w := w) HRL.out (HBL.out.1 (by rw [length_rest]; omega)) (.agg #[.string ⟨#[112, 117, 115, 104]⟩, .string o, .string c, .string ⟨#[]⟩, .pointer none, .int .i64 0]) ⟨_, _, _, _, rfl⟩ (two_below w o1 o2))
                    have hi2 : j2 + 2 ≤ 9223372036854775807 := by omega
                    have hg2 : decide ((s.size : Int) < (j2 : Int) + 2) = true := decide_eq_true (by omega)
                    clear HBL
                    go_wp2_with fail
                    exact bodyPost_ret (v := .tuple #[.agg #[.string ⟨#[112, 117, 115, 104]⟩, .string o, .string c, .string ⟨#[]⟩, .pointer none, .int .i64 0], .bool false]) (by simp [results, Tryz.results85, go_sem, *]) rfl (HEND.out _ _)
                  · have hi2 : j2 + 2 ≤ 9223372036854775807 := by omega
                    have hg2 : decide ((s.size : Int) < (j2 : Int) + 2) = false := decide_eq_false (by omega)
                    have hle2 : j2 + 2 ≤ s.size := by omega
                    by_cases heq : (s.extract j2 (j2 + 2)).toList = [61, 32]
                    · have hq2 : ((s.extract j2 (j2 + 2)).toList == [61, 32]) = true := by rw [heq]; rfl
                      have HEND := hide (fun o1 o2 => rule_yes (w := w) (d := 1) (a := ⟨#[112, 117, 115, 104]⟩) (b := o) HRL.out (by omega) rfl (HBL.out.2.1 hnm (s.extract (j2 + 2) s.size).data.toList (by rw [extract_seg (Nat.le_add_right j2 2), ← ByteArray.toList_eq, heq, extract_rest (Nat.le_refl _)]; rfl)) (two_below w o1 o2))
                      clear HBL
                      go_wp2_with fail
                      exact bodyPost_ret (v := .tuple #[.agg #[.string ⟨#[112, 117, 115, 104]⟩, .string o, .string c, .string (s.extract (j2 + 2) s.size), .pointer none, .int .i64 0], .bool true]) (by simp [results, Tryz.results85, go_sem, *]) rfl (HEND.out _ _)
                    · have hq2 : ((s.extract j2 (j2 + 2)).toList == [61, 32]) = false := by rw [beq_eq_false_iff_ne]; exact heq
                      have HEND := hide (fun o1 o2 => rule_no (w := w) HRL.out (HBL.out.2.2.1 fun p hp => heq (by rw [ByteArray.toList_eq, extract_list, ← rest, hp, show j2 + 2 - j2 = 2 by omega]; rfl)) (.agg #[.string ⟨#[112, 117, 115, 104]⟩, .string o, .string c, .string ⟨#[]⟩, .pointer none, .int .i64 0]) ⟨_, _, _, _, rfl⟩ (two_below w o1 o2))
                      clear HBL heq
                      go_wp2_with fail
                      exact bodyPost_ret (v := .tuple #[.agg #[.string ⟨#[112, 117, 115, 104]⟩, .string o, .string c, .string ⟨#[]⟩, .pointer none, .int .i64 0], .bool false]) (by simp [results, Tryz.results85, go_sem, *]) rfl (HEND.out _ _)
                · have hnm' : isName c.data.toList = false := by simpa using hnm
                  have HEND := hide (fun o1 o2 => rule_no (w := w) HRL.out (HBL.out.2.2.2 hnm') (.agg #[.string ⟨#[112, 117, 115, 104]⟩, .string o, .string c, .string ⟨#[]⟩, .pointer none, .int .i64 0]) ⟨_, _, _, _, rfl⟩ (two_below w o1 o2))
                  rw [hnm']
                  clear HBL hnm
                  go_wp2_with fail
                  exact bodyPost_ret (v := .tuple #[.agg #[.string ⟨#[112, 117, 115, 104]⟩, .string o, .string c, .string ⟨#[]⟩, .pointer none, .int .i64 0], .bool false]) (by simp [results, Tryz.results85, go_sem, *]) rfl (HEND.out _ _)
              · have hcz : c.size ≤ 2000 := by
                  have h1 := congrArg List.length hc
                  rw [length_rest, byte_length] at h1
                  omega
                have HEND := hide (fun o1 o2 => rule_no (w := w) HRL.out (rb_miss hn2) (.agg #[.string ⟨#[112, 117, 115, 104]⟩, .string o, .string c, .string ⟨#[]⟩, .pointer none, .int .i64 0]) ⟨_, _, _, _, rfl⟩ (two_below w o1 o2))
                clear hc hn2
                go_wp2_with fail
                refine (refName_any c _ (by omega)).mono ?_
                rintro e w3 ⟨rfl, rfl⟩
                cases hnm : isName c.data.toList with
                | true =>
                  go_wp2_with fail
                  exact bodyPost_ret (v := .tuple #[.agg #[.string ⟨#[112, 117, 115, 104]⟩, .string o, .string c, .string ⟨#[]⟩, .pointer none, .int .i64 0], .bool false]) (by simp [results, Tryz.results85, go_sem, *]) rfl (HEND.out _ _)
                | false =>
                  go_wp2_with fail
                  exact bodyPost_ret (v := .tuple #[.agg #[.string ⟨#[112, 117, 115, 104]⟩, .string o, .string c, .string ⟨#[]⟩, .pointer none, .int .i64 0], .bool false]) (by simp [results, Tryz.results85, go_sem, *]) rfl (HEND.out _ _)
            · have hno' : isName o.data.toList = false := by simpa using hno
              have HEND := hide (fun o1 o2 => rule_none (w := w) (show ruleLnOf s.data.toList = none by rw [HPL.out, HPH.out, if_neg hno]) (.agg #[.string ⟨#[112, 117, 115, 104]⟩, .string o, .string ⟨#[]⟩, .string ⟨#[]⟩, .pointer none, .int .i64 0]) ⟨_, _, _, _, rfl⟩ (two_below w o1 o2))
              rw [hno']
              clear HPL HPH hno
              go_wp2_with fail
              exact bodyPost_ret (v := .tuple #[.agg #[.string ⟨#[112, 117, 115, 104]⟩, .string o, .string ⟨#[]⟩, .string ⟨#[]⟩, .pointer none, .int .i64 0], .bool false]) (by simp [results, Tryz.results85, go_sem, *]) rfl (HEND.out _ _)
          · have hoz : o.size ≤ 2000 := by
              have h1 := congrArg List.length ho
              rw [length_rest, byte_length] at h1
              omega
            have HEND := hide (fun o1 o2 => rule_none (w := w) (show ruleLnOf s.data.toList = none by rw [HPL.out, pushLn_miss hn1]) (.agg #[.string ⟨#[112, 117, 115, 104]⟩, .string o, .string ⟨#[]⟩, .string ⟨#[]⟩, .pointer none, .int .i64 0]) ⟨_, _, _, _, rfl⟩ (two_below w o1 o2))
            clear HPL hn1 ho
            go_wp2_with fail
            refine (refName_any o _ (by omega)).mono ?_
            rintro e w3 ⟨rfl, rfl⟩
            cases hno : isName o.data.toList with
            | true =>
              go_wp2_with fail
              exact bodyPost_ret (v := .tuple #[.agg #[.string ⟨#[112, 117, 115, 104]⟩, .string o, .string ⟨#[]⟩, .string ⟨#[]⟩, .pointer none, .int .i64 0], .bool false]) (by simp [results, Tryz.results85, go_sem, *]) rfl (HEND.out _ _)
            | false =>
              go_wp2_with fail
              exact bodyPost_ret (v := .tuple #[.agg #[.string ⟨#[112, 117, 115, 104]⟩, .string o, .string ⟨#[]⟩, .string ⟨#[]⟩, .pointer none, .int .i64 0], .bool false]) (by simp [results, Tryz.results85, go_sem, *]) rfl (HEND.out _ _)
        · have q1 := str_ne h1
          have q2 := str_ne h3
          have q3 := str_ne h2
          unfold wToken at q1
          unfold wPush at q2
          unfold wPop at q3
          have HEND := hide (fun o1 o2 => rule_none (w := w) (show ruleLnOf s.data.toList = none by rw [HL.out, if_neg h1, if_neg h2, if_neg h3]) (.agg #[.string t, .string ⟨#[]⟩, .string ⟨#[]⟩, .string ⟨#[]⟩, .pointer none, .int .i64 0]) ⟨_, _, _, _, rfl⟩ (two_below w o1 o2))
          clear HL h1 h2 h3
          go_wp2_with fail
          exact bodyPost_ret (v := .tuple #[.agg #[.string t, .string ⟨#[]⟩, .string ⟨#[]⟩, .string ⟨#[]⟩, .pointer none, .int .i64 0], .bool false]) (by simp [results, Tryz.results85, go_sem, *]) rfl (HEND.out _ _)
  · have HEND := hide (fun o1 o2 => rule_none (w := w) (show ruleLnOf s.data.toList = none by rw [← hrz]; exact ruleLnOf_miss hn) (.agg #[.string t, .string ⟨#[]⟩, .string ⟨#[]⟩, .string ⟨#[]⟩, .pointer none, .int .i64 0]) ⟨_, _, _, _, rfl⟩ (two_below w o1 o2))
    clear hn ht hrz
    go_wp2_with fail
    exact bodyPost_ret (v := .tuple #[.agg #[.string t, .string ⟨#[]⟩, .string ⟨#[]⟩, .string ⟨#[]⟩, .pointer none, .int .i64 0], .bool false]) (by simp [results, Tryz.results85, go_sem, *]) rfl (HEND.out _ _)
end Go.Proofs.YtgncgdkpkkdaeaaGreatDoor
