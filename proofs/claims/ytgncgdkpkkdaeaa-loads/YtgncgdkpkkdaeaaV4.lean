/- The program's lines: readLines. -/
import Derived.Test.YtgncgdkpkkdaeaaV3
import Derived.Test.YtgncgdkpkkdaeaaN5
namespace Go.Proofs.Ytgncgdkpkkdaeaa
open Go.RowKit Tint

structure PLn where
  at_ : Nat
  x : Ln
  kd : Nat
  d : Nat
  st : ByteArray
  co : ByteArray
  ao : Option Addr
  ln : Nat
  cp : Nat
  wh : Nat
  fl : Nat

def PLn.cells (l : PLn) : List Value := [.int .i64 l.at_, .int .i64 l.kd, .string l.st, .int .i64 l.d, .string l.co, .slice l.ao l.ln l.cp, .int .i64 l.wh, .int .i64 l.fl]
def PLn.pr (l : PLn) : Nat × Ln := (l.at_, l.x)

/-- Lines in memory. -/
structure Lines (w : World) (B : Nat) (sv : Value) (ls : List PLn) : Prop where
  row : w.ownsRow B 75 8 sv ls.length (ls.flatMap PLn.cells)
  each : ∀ l ∈ ls, LineIs w B l.kd l.d l.st l.co (.slice l.ao l.ln l.cp) l.wh l.fl l.x

theorem Lines.below {w w' : World} {B : Nat} {sv : Value} {ls : List PLn} (h : Lines w B sv ls) (hb : Below w.heap.size w w') : Lines w' B sv ls :=
  ⟨row_keep h.row fun k e => by obtain ⟨_, cur, hc⟩ := row_type h.row e; exact hb.block k (lt_of_get hc), fun l hl => (h.each l hl).keep fun hp => hp.below hb⟩

theorem Lines.push {W w3 : World} {B : Nat} {sv v' : Value} {ls : List PLn} {l : PLn} (h : Lines W B sv ls) (hB : B ≤ W.heap.size) (hl : LineIs W B l.kd l.d l.st l.co (.slice l.ao l.ln l.cp) l.wh l.fl l.x)
    (hown : w3.ownsRow B 75 8 v' (ls.length + 1) (ls.flatMap PLn.cells ++ l.cells)) (hg : W.grownBy w3 sv.ownBlock) : Lines w3 B v' (ls ++ [l]) ∧ Below B W w3 := by
  have hk : ∀ {p : List UInt8} {lv : Value} {wh fl : Nat}, PatIs W B p lv wh fl → PatIs w3 B p lv wh fl := fun hp => hp.keep fun k c t ht hh => by
    rw [hg.block k (lt_of_get hh) (fun e => by
      obtain ⟨_, cur, hc⟩ := row_type h.row e.symm
      rw [hc] at hh
      simp only [Option.some.injEq, Obj.cells.injEq] at hh
      rcases ht with rfl | rfl | rfl
      · exact absurd hh.2.1 (by decide)
      · exact absurd hh.2.1 (by decide)
      · exact absurd hh.2.1 (by decide))]
    exact hh
  refine ⟨⟨by simpa using hown, fun y hy => ?_⟩, below_grown hB hg (fun k e => (row_type h.row e).1)⟩
  rcases List.mem_append.1 hy with hy | hy
  · exact (h.each y hy).keep hk
  · rw [List.mem_singleton.1 hy]; exact hl.keep hk

theorem info_line : (Try.prog.info? 75).map (fun i => (i.zero, i.size, i.bytes)) = some (some (.agg #[.int .i64 0, .int .i64 0, .string ⟨#[]⟩, .int .i64 0, .string ⟨#[]⟩, .slice none 0 0, .int .i64 0, .int .i64 0]), 8, 96) := by kernel_rfl

def LinesPost (s : List UInt8) (w : World) (e : Ending) (w' : World) : Prop :=
  Below w.heap.size w w' ∧ ((∃ a : Nat, e = .returned (.tuple #[.slice none 0 0, .int .i64 a, .bool false]) ∧ rd 0 [] s = .inl a) ∨
    (∃ (sv : Value) (ls : List PLn), e = .returned (.tuple #[sv, .int .i64 0, .bool true]) ∧ rd 0 [] s = .inr (ls.map PLn.pr) ∧ Lines w' w.heap.size sv ls ∧ ls.length ≤ s.length))

structure RdAt (s : ByteArray) (w : World) (a : Nat) (sv : Value) (ls : List PLn) (st : Bool) (wr : World) : Prop where
  le : a ≤ s.size
  run : rd 0 [] s.data.toList = rd a (ls.map PLn.pr) (rest s a)
  lines : Lines wr w.heap.size sv ls
  started : st = (ls.map PLn.pr).any (·.2.isState)
  below : Below w.heap.size w wr
  few : ls.length ≤ a

def RdLoop (s : ByteArray) (w : World) (k : Nat) (vl vs va : Value) (wr : World) : Prop :=
  ∃ (a : Nat) (ls : List PLn) (st : Bool) (sv : Value), vl = sv ∧ vs = .bool st ∧ va = .int .i64 a ∧ a + k = s.size ∧ RdAt s w a sv ls st wr

theorem kind_state {w : World} {B kd d : Nat} {st co : ByteArray} {lv : Value} {wh fl : Nat} {x : Ln} (h : LineIs w B kd d st co lv wh fl x) : (kd = 1 ↔ x.isState = true) ∧ (kd = 2 ↔ x.isRule = true) := by
  cases x with
  | blank => obtain ⟨rfl, _⟩ := h; simp [Ln.isState, Ln.isRule]
  | state n => obtain ⟨rfl, _⟩ := h; simp [Ln.isState, Ln.isRule]
  | rule d' o c p => obtain ⟨rfl, _⟩ := h; simp [Ln.isState, Ln.isRule]

set_option maxRecDepth 20000 in
set_option maxHeartbeats 2000000 in
theorem readLines_any (s : ByteArray) (w : World) (hz : s.size ≤ 2000) (hm : Mx w) :
    Calls Try.prog 12 #[.string s] w (LinesPost s.data.toList w) := by
  have HM := hide hm
  clear hm
  go_enter Try.func12, Try.ntmps12
  go_wp2_with fail
  go_loopg [5, 6, 7] s.size (fun k vl vs va wr => RdLoop s w k vl vs va wr)
  case atStart => exact ⟨0, [], false, _, rfl, rfl, rfl, by omega, Nat.zero_le _, by simp [rest], ⟨World.ownsRow_nil _ _ _ _, fun l hl => by simp at hl⟩, rfl, Below.refl _ _, Nat.le_refl _⟩
  case round =>
    obtain ⟨a, ls, st, sv, rfl, rfl, rfl, hk, hR⟩ := hrel
    have HR := hide hR
    have hal := hR.le
    have hfew := hR.few
    clear hR
    by_cases hlt : a < s.size
    · have g1 : decide ((a : Int) < (s.size : Int)) = true := decide_eq_true (by omega)
      have hBr : w.heap.size ≤ wr.heap.size := HR.out.below.size
      have HCT := hide (cut_any (s.extract a s.size) 10 wr (by rw [ByteArray.size_extract]; omega) (HM.out.below HR.out.below))
      go_wp2_with fail
      refine HCT.out.mono ?_
      rintro e w1 ⟨⟨n1, rfl⟩, hcase⟩
      rw [extract_rest (Nat.le_refl _)] at hcase
      have HR1 := hide (show RdAt s w a u5 ls st (wr.drewN n1) from ⟨HR.out.le, HR.out.run, HR.out.lines.below (Below.drewN' (Below.refl _ _) n1), HR.out.started, Below.drewN' HR.out.below n1, HR.out.few⟩)
      clear HR HCT
      generalize wr.drewN n1 = W1 at *
      obtain ⟨bo, b2, en, rfl, hbz, hen⟩ : ∃ (bo b2 : ByteArray) (en : Bool), e = .returned (.tuple #[.string bo, .string b2, .bool en]) ∧ a + bo.size ≤ s.size ∧ ((en = true ∧ rest s a = bo.data.toList ++ 10 :: rest s (a + bo.size + 1) ∧ (10 : UInt8) ∉ bo.data.toList ∧ a + bo.size + 1 ≤ s.size) ∨ (en = false ∧ (10 : UInt8) ∉ rest s a)) := by
        rcases hcase with ⟨x, y, h1, h2, rfl⟩ | ⟨h1, rfl⟩
        · have hl := congrArg List.length h1
          rw [length_rest, List.length_append, List.length_cons, byte_length, byte_length] at hl
          refine ⟨x, y, true, rfl, by omega, .inl ⟨rfl, ?_, h2, by omega⟩⟩
          have e1 : rest s (a + x.size + 1) = (rest s a).drop (x.size + 1) := by
            simp [rest, List.drop_drop, Nat.add_assoc]
          have e2 : rest s (a + x.size + 1) = y.data.toList := by
            rw [e1, h1, show x.size + 1 = x.data.toList.length + 1 from rfl, List.drop_append]
            simp
          rw [e2]
          exact h1
        · refine ⟨_, _, false, rfl, by rw [ByteArray.size_extract]; omega, .inr ⟨rfl, h1⟩⟩
      have HEN := hide hen
      have HRL := hide (readLine_any bo W1 (by omega) (HM.out.below HR1.out.below))
      clear hcase hen
      go_wp2_with fail
      refine HRL.out.mono ?_
      rintro e w2 ⟨hB2, kd, d, wh, fl, sa, co, ao, ln, cp, ok, rfl, hok⟩
      have hBr1 : w.heap.size ≤ W1.heap.size := HR1.out.below.size
      have HB2 := hide (HR1.out.below.trans (hB2.mono hBr1))
      have HL2 := hide (HR1.out.lines.below hB2)
      have HB2' := hide hB2
      clear hB2 HRL
      cases ok with
      | false =>
        have hno : lineOf bo.data.toList = none := by rcases hok with ⟨h, _⟩ | ⟨_, h⟩; cases h; exact h
        have HEND := hide (fun o => show LinesPost s.data.toList w (.returned (.tuple #[.slice none 0 0, .int .i64 a, .bool false])) (w2.alloc o) from ⟨HB2.out.alloc HB2.out.size o, .inl ⟨a, rfl, by
          rw [HR1.out.run]
          rcases HEN.out with ⟨_, h1, h2, _⟩ | ⟨_, h1⟩
          · rw [h1]; exact rd_bad h2 hno
          · refine rd_open (fun e => ?_) h1
            have := congrArg List.length e
            rw [length_rest] at this
            simp at this
            omega⟩⟩)
        clear hok hno HL2 HR1 HB2 HB2' HEN
        cases st with
        | true =>
          go_wp2_with fail
          exact bodyPost_ret (v := .tuple #[.slice none 0 0, .int .i64 a, .bool false]) (by simp [results, Try.results12, go_sem, *]) rfl (HEND.out _)
        | false =>
          cases hb1 : ((kd : Int) == 1) with
          | true =>
            go_wp2_with fail
            exact bodyPost_ret (v := .tuple #[.slice none 0 0, .int .i64 a, .bool false]) (by simp [results, Try.results12, go_sem, *]) rfl (HEND.out _)
          | false =>
            go_wp2_with fail
            exact bodyPost_ret (v := .tuple #[.slice none 0 0, .int .i64 a, .bool false]) (by simp [results, Try.results12, go_sem, *]) rfl (HEND.out _)
      | true =>
        obtain ⟨x, hx, hLI⟩ : ∃ x, lineOf bo.data.toList = some x ∧ LineIs w2 W1.heap.size kd d sa co (.slice ao ln cp) wh fl x := by rcases hok with ⟨_, h⟩ | ⟨h, _⟩; exact h; cases h
        have HX := hide hx
        have HLI := hide (hLI.keep (B := W1.heap.size) (w' := w2) fun hp => hp)
        clear hok hx hLI
        cases en with
        | false =>
          have HEND := hide (fun o => show LinesPost s.data.toList w (.returned (.tuple #[.slice none 0 0, .int .i64 a, .bool false])) (w2.alloc o) from ⟨HB2.out.alloc HB2.out.size o, .inl ⟨a, rfl, by
            rw [HR1.out.run]
            rcases HEN.out with ⟨h0, _⟩ | ⟨_, h1⟩
            · cases h0
            · refine rd_open (fun e => ?_) h1
              have := congrArg List.length e
              rw [length_rest] at this
              simp at this
              omega⟩⟩)
          clear HX HLI HL2 HR1 HB2 HB2' HEN
          cases st with
          | true =>
            go_wp2_with fail
            exact bodyPost_ret (v := .tuple #[.slice none 0 0, .int .i64 a, .bool false]) (by simp [results, Try.results12, go_sem, *]) rfl (HEND.out _)
          | false =>
            cases hb1 : ((kd : Int) == 1) with
            | true =>
              go_wp2_with fail
              exact bodyPost_ret (v := .tuple #[.slice none 0 0, .int .i64 a, .bool false]) (by simp [results, Try.results12, go_sem, *]) rfl (HEND.out _)
            | false =>
              go_wp2_with fail
              exact bodyPost_ret (v := .tuple #[.slice none 0 0, .int .i64 a, .bool false]) (by simp [results, Try.results12, go_sem, *]) rfl (HEND.out _)
        | true =>
          obtain ⟨hk1, hk2⟩ := kind_state HLI.out
          have hen : rest s a = bo.data.toList ++ 10 :: rest s (a + bo.size + 1) ∧ (10 : UInt8) ∉ bo.data.toList ∧ a + bo.size + 1 ≤ s.size := by rcases HEN.out with ⟨_, h⟩ | ⟨h, _⟩; exact h; cases h
          have hsta := HR1.out.started
          by_cases hbad : kd = 2 ∧ st = false
          · obtain ⟨hkd, rfl⟩ := hbad
            have hb1 : ((kd : Int) == 1) = false := by rw [hkd]; rfl
            have hb2 : ((kd : Int) == 2) = true := by rw [hkd]; rfl
            have HEND := hide (fun o => show LinesPost s.data.toList w (.returned (.tuple #[.slice none 0 0, .int .i64 a, .bool false])) (w2.alloc o) from ⟨HB2.out.alloc HB2.out.size o, .inl ⟨a, rfl, by
              rw [HR1.out.run, hen.1]
              exact rd_early hen.2.1 HX.out (hk2.1 hkd) hsta.symm⟩⟩)
            clear HX HLI HL2 HR1 HB2 HB2' HEN hen hk1 hk2 hsta hkd
            go_wp2_with fail
            exact bodyPost_ret (v := .tuple #[.slice none 0 0, .int .i64 a, .bool false]) (by simp [results, Try.results12, go_sem, *]) rfl (HEND.out _)
          · have haz : a + bo.size + 1 ≤ 9223372036854775807 := by omega
            obtain ⟨k', hk'⟩ : ∃ k', gk = k' + (bo.size + 1) := ⟨gk - (bo.size + 1), by omega⟩
            obtain ⟨i0, hi, hz0, hz1, hz3⟩ := info_parts info_line
            have HBE := hide (show Below w2.heap.size w2 ((w2.alloc (.cells #[.int .i64 a, .int .i64 kd, .string sa, .int .i64 d, .string co, .slice ao ln cp, .int .i64 wh, .int .i64 fl] 75)).alloc (.cells #[.int .i64 a, .int .i64 kd, .string sa, .int .i64 d, .string co, .slice ao ln cp, .int .i64 wh, .int .i64 fl] 75)) from ((Below.refl _ _).alloc (Nat.le_refl _) _).alloc (by simp) _)
            have HKEY := hide (show ∀ v' w3 (stv : Bool), stv = (st || x.isState) → w3.ownsRow w.heap.size 75 8 v' (ls.length + 1) (ls.flatMap PLn.cells ++ [.int .i64 a, .int .i64 kd, .string sa, .int .i64 d, .string co, .slice ao ln cp, .int .i64 wh, .int .i64 fl]) → ((w2.alloc (.cells #[.int .i64 a, .int .i64 kd, .string sa, .int .i64 d, .string co, .slice ao ln cp, .int .i64 wh, .int .i64 fl] 75)).alloc (.cells #[.int .i64 a, .int .i64 kd, .string sa, .int .i64 d, .string co, .slice ao ln cp, .int .i64 wh, .int .i64 fl] 75)).grownBy w3 u5.ownBlock → RdLoop s w k' v' (.bool stv) (.int .i64 ((a + (bo.size + 1) : Nat) : Int)) w3 from fun v' w3 stv hst hown hg => by
              obtain ⟨h1, h2⟩ := Lines.push (l := ⟨a, x, kd, d, sa, co, ao, ln, cp, wh, fl⟩) (HL2.out.below HBE.out) (Nat.le_trans HB2.out.size HBE.out.size) ((HLI.out.keep (w' := w2) fun hp => hp).keep (w' := (w2.alloc (.cells #[.int .i64 a, .int .i64 kd, .string sa, .int .i64 d, .string co, .slice ao ln cp, .int .i64 wh, .int .i64 fl] 75)).alloc (.cells #[.int .i64 a, .int .i64 kd, .string sa, .int .i64 d, .string co, .slice ao ln cp, .int .i64 wh, .int .i64 fl] 75)) (fun hp => hp.below HBE.out) |> fun hh => by
                cases x with
                | blank => exact hh
                | state n => exact hh
                | rule d' o c p => exact ⟨hh.1, hh.2.1, hh.2.2.1, hh.2.2.2.1, hh.2.2.2.2.1, hh.2.2.2.2.2.mono hBr1⟩) hown hg
              refine ⟨a + (bo.size + 1), ls ++ [⟨a, x, kd, d, sa, co, ao, ln, cp, wh, fl⟩], stv, v', rfl, rfl, rfl, by omega, by omega, ?_, h1, ?_, HB2.out.trans ((HBE.out.mono HB2.out.size).trans h2), by simp; omega⟩
              · rw [HR1.out.run, hen.1, rd_step hen.2.1 HX.out (fun hc => hbad ⟨hk2.2 hc.1, by rw [hsta]; exact hc.2⟩), List.map_append]
                rfl
              · rw [hst, hsta, List.map_append, List.any_append]
                simp [PLn.pr])
            have HROW := hide (show ((w2.alloc (.cells #[.int .i64 a, .int .i64 kd, .string sa, .int .i64 d, .string co, .slice ao ln cp, .int .i64 wh, .int .i64 fl] 75)).alloc (.cells #[.int .i64 a, .int .i64 kd, .string sa, .int .i64 d, .string co, .slice ao ln cp, .int .i64 wh, .int .i64 fl] 75)).ownsRow w.heap.size 75 8 u5 ls.length (ls.flatMap PLn.cells) from (HL2.out.below HBE.out).row)
            have HNW := hide (show ∀ j u, ([.int .i64 a, .int .i64 kd, .string sa, .int .i64 d, .string co, .slice ao ln cp, .int .i64 wh, .int .i64 fl] : List Value)[j]? = some u → ((w2.alloc (.cells #[.int .i64 a, .int .i64 kd, .string sa, .int .i64 d, .string co, .slice ao ln cp, .int .i64 wh, .int .i64 fl] 75)).alloc (.cells #[.int .i64 a, .int .i64 kd, .string sa, .int .i64 d, .string co, .slice ao ln cp, .int .i64 wh, .int .i64 fl] 75)).cell? ((⟨w2.heap.size + 1, 0, none⟩ : Addr).add j) = some u from fun j u hj => by
              have := cell_new_row (w2.alloc (.cells #[.int .i64 a, .int .i64 kd, .string sa, .int .i64 d, .string co, .slice ao ln cp, .int .i64 wh, .int .i64 fl] 75)) #[.int .i64 a, .int .i64 kd, .string sa, .int .i64 d, .string co, .slice ao ln cp, .int .i64 wh, .int .i64 fl] 75 j u hj
              simpa using this)
            have HO : Hid (∀ u ∈ ([.int .i64 a, .int .i64 kd, .string sa, .int .i64 d, .string co, .slice ao ln cp, .int .i64 wh, .int .i64 fl] : List Value), u.oneCell' = true) := by
              intro u hu
              simp only [List.mem_cons, List.not_mem_nil, or_false] at hu
              rcases hu with rfl | rfl | rfl | rfl | rfl | rfl | rfl | rfl <;> rfl
            have hb1 : ls.length + 1 ≤ maxLen := by unfold maxLen; omega
            have hb2' : (ls.length + 1) * 96 ≤ 140737488355328 := by omega
            have hsz2 : w.heap.size ≤ w2.heap.size + 2 := by have := HB2.out.size; omega
            have HST0 := hide hsta
            have HNB := hide hbad
            have HK1 := hide hk1
            have HK2 := hide hk2
            clear HX HLI HL2 HR1 HB2 HB2' HEN hen hsta hbad hk1 hk2 HBE HM
            cases st with
            | true =>
              have HSTT := hide (show true = (true || x.isState) from rfl)
              cases hb2 : ((kd : Int) == 2) with
              | true =>
                go_wp2_with (at_builtin; refine wpList_append_own _ rfl (.tmp 54) (.tmp 56) 56 rfl w.heap.size 75 i0 (.agg #[.int .i64 0, .int .i64 0, .string ⟨#[]⟩, .int .i64 0, .string ⟨#[]⟩, .slice none 0 0, .int .i64 0, .int .i64 0]) 8 96 Try.underlying56 hi hz0 hz1 hz3 rfl (by decide) u5 ls.length (ls.flatMap PLn.cells) rfl HROW.out ⟨w2.heap.size + 1, 0, none⟩ 1 1 [.int .i64 a, .int .i64 kd, .string sa, .int .i64 d, .string co, .slice ao ln cp, .int .i64 wh, .int .i64 fl] rfl rfl HNW.out HO.out hb1 hb2' (by simpa using hsz2) ?_; intro v' w3 hown hg _; have HST := hide (HKEY.out v' w3 true (by first | exact HSTT.out | rfl) hown hg); obtain ⟨g', cap', rfl⟩ := own_form hown (by omega); clear hown hg)
                go_roundg k'
                case measure => omega
                case rel => exact HST.out
              | false =>
                go_wp2_with (at_builtin; refine wpList_append_own _ rfl (.tmp 54) (.tmp 56) 56 rfl w.heap.size 75 i0 (.agg #[.int .i64 0, .int .i64 0, .string ⟨#[]⟩, .int .i64 0, .string ⟨#[]⟩, .slice none 0 0, .int .i64 0, .int .i64 0]) 8 96 Try.underlying56 hi hz0 hz1 hz3 rfl (by decide) u5 ls.length (ls.flatMap PLn.cells) rfl HROW.out ⟨w2.heap.size + 1, 0, none⟩ 1 1 [.int .i64 a, .int .i64 kd, .string sa, .int .i64 d, .string co, .slice ao ln cp, .int .i64 wh, .int .i64 fl] rfl rfl HNW.out HO.out hb1 hb2' (by simpa using hsz2) ?_; intro v' w3 hown hg _; have HST := hide (HKEY.out v' w3 true (by first | exact HSTT.out | rfl) hown hg); obtain ⟨g', cap', rfl⟩ := own_form hown (by omega); clear hown hg)
                go_roundg k'
                case measure => omega
                case rel => exact HST.out
            | false =>
              have hnk2 : ((kd : Int) == 2) = false := by
                rw [beq_eq_false_iff_ne]
                intro e
                exact HNB.out ⟨by omega, rfl⟩
              by_cases hkd1 : kd = 1
              · have hq1 : ((kd : Int) == 1) = true := by rw [hkd1]; rfl
                have HSTT := hide (show true = (false || x.isState) by rw [HK1.out.1 hkd1]; rfl)
                clear hkd1
                go_wp2_with (at_builtin; refine wpList_append_own _ rfl (.tmp 54) (.tmp 56) 56 rfl w.heap.size 75 i0 (.agg #[.int .i64 0, .int .i64 0, .string ⟨#[]⟩, .int .i64 0, .string ⟨#[]⟩, .slice none 0 0, .int .i64 0, .int .i64 0]) 8 96 Try.underlying56 hi hz0 hz1 hz3 rfl (by decide) u5 ls.length (ls.flatMap PLn.cells) rfl HROW.out ⟨w2.heap.size + 1, 0, none⟩ 1 1 [.int .i64 a, .int .i64 kd, .string sa, .int .i64 d, .string co, .slice ao ln cp, .int .i64 wh, .int .i64 fl] rfl rfl HNW.out HO.out hb1 hb2' (by simpa using hsz2) ?_; intro v' w3 hown hg _; have HST := hide (HKEY.out v' w3 true (by first | exact HSTT.out | rfl) hown hg); obtain ⟨g', cap', rfl⟩ := own_form hown (by omega); clear hown hg)
                go_roundg k'
                case measure => omega
                case rel => exact HST.out
              · have hq1 : ((kd : Int) == 1) = false := by rw [beq_eq_false_iff_ne]; omega
                have HSTT := hide (show false = (false || x.isState) by
                  cases hxs : x.isState with
                  | true => exact absurd (HK1.out.2 hxs) hkd1
                  | false => rfl)
                go_wp2_with (at_builtin; refine wpList_append_own _ rfl (.tmp 54) (.tmp 56) 56 rfl w.heap.size 75 i0 (.agg #[.int .i64 0, .int .i64 0, .string ⟨#[]⟩, .int .i64 0, .string ⟨#[]⟩, .slice none 0 0, .int .i64 0, .int .i64 0]) 8 96 Try.underlying56 hi hz0 hz1 hz3 rfl (by decide) u5 ls.length (ls.flatMap PLn.cells) rfl HROW.out ⟨w2.heap.size + 1, 0, none⟩ 1 1 [.int .i64 a, .int .i64 kd, .string sa, .int .i64 d, .string co, .slice ao ln cp, .int .i64 wh, .int .i64 fl] rfl rfl HNW.out HO.out hb1 hb2' (by simpa using hsz2) ?_; intro v' w3 hown hg _; have HST := hide (HKEY.out v' w3 false (by first | exact HSTT.out | rfl) hown hg); obtain ⟨g', cap', rfl⟩ := own_form hown (by omega); clear hown hg)
                go_roundg k'
                case measure => omega
                case rel => exact HST.out
    · have g1 : decide ((a : Int) < (s.size : Int)) = false := decide_eq_false (by omega)
      have HEND := hide (show LinesPost s.data.toList w (.returned (.tuple #[u5, .int .i64 0, .bool true])) wr from ⟨HR.out.below, .inr ⟨u5, ls, rfl, by rw [HR.out.run, rest_nil (by omega), rd_nil], HR.out.lines, by rw [byte_length]; omega⟩⟩)
      clear HR
      go_wp2_with fail
      exact bodyPost_ret (v := .tuple #[u5, .int .i64 0, .bool true]) (by simp [results, Try.results12, go_sem, *]) rfl HEND.out
end Go.Proofs.Ytgncgdkpkkdaeaa
