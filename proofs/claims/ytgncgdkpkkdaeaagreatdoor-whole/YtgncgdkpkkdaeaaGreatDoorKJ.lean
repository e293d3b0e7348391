import Derived.Test.YtgncgdkpkkdaeaaGreatDoorKH
import Derived.Test.YtgncgdkpkkdaeaaGreatDoorKI
namespace Go.Proofs.YtgncgdkpkkdaeaaGreatDoor
open Go.RowKit Tint
structure PLn where
 at_ : Nat
 x : Ln
 kd : Nat
 d : Nat
 st : ByteArray
 co : ByteArray
 ao : Option Addr
 ln : Nat
 cp : Nat
 wh : Nat
 fl : Nat
def PLn.cells (l : PLn) : List Value := [.int .i64 l.at_, .int .i64 l.kd, .string l.st, .int .i64 l.d, .string l.co, .slice l.ao l.ln l.cp, .int .i64 l.wh, .int .i64 l.fl]
def PLn.pr (l : PLn) : Nat × Ln := (l.at_, l.x)
structure Lines (w : World) (B : Nat) (sv : Value) (ls : List PLn) : Prop where
 row : w.ownsRow B 219 8 sv ls.length (ls.flatMap PLn.cells)
 each : ∀ l ∈ ls, LineIs w B l.kd l.d l.st l.co (.slice l.ao l.ln l.cp) l.wh l.fl l.x
theorem Lines.below {w w' : World} {B : Nat} {sv : Value} {ls : List PLn} (h : Lines w B sv ls) (hb : Below w.heap.size w w') : Lines w' B sv ls :=
 ⟨row_keep h.row fun k e => by obtain ⟨_, cur, hc⟩ := row_type h.row e; exact hb.block k (lt_of_get hc), fun l hl => (h.each l hl).keep fun hp => hp.below hb⟩
theorem Lines.push {W w3 : World} {B : Nat} {sv v' : Value} {ls : List PLn} {l : PLn} (h : Lines W B sv ls) (hB : B ≤ W.heap.size) (hl : LineIs W B l.kd l.d l.st l.co (.slice l.ao l.ln l.cp) l.wh l.fl l.x)
  (hown : w3.ownsRow B 219 8 v' (ls.length + 1) (ls.flatMap PLn.cells ++ l.cells)) (hg : W.grownBy w3 sv.ownBlock) : Lines w3 B v' (ls ++ [l]) ∧ Below B W w3 := by
 have hk : ∀ {p : List UInt8} {lv : Value} {wh fl : Nat}, PatIs W B p lv wh fl → PatIs w3 B p lv wh fl := fun hp => hp.keep fun k c t ht hh => by
  rw [hg.block k (lt_of_get hh) (fun e => by
   obtain ⟨_, cur, hc⟩ := row_type h.row e.symm
   rw [hc] at hh
   simp only [Option.some.injEq, Obj.cells.injEq] at hh
   rcases ht with rfl | rfl | rfl
   ·exact absurd hh.2.1 (by decide)
   ·exact absurd hh.2.1 (by decide)
   ·exact absurd hh.2.1 (by decide))]
  exact hh
 refine ⟨⟨by simpa using hown, fun y hy => ?_⟩, below_grown hB hg (fun k e => (row_type h.row e).1)⟩
 rcases List.mem_append.1 hy with hy | hy
 ·exact (h.each y hy).keep hk
 ·rw [List.mem_singleton.1 hy]; exact hl.keep hk
theorem info_line : (Tryz.prog.info? 219).map (fun i => (i.zero, i.size, i.bytes)) = some (some (.agg #[.int .i64 0, .int .i64 0, .string ⟨#[]⟩, .int .i64 0, .string ⟨#[]⟩, .slice none 0 0, .int .i64 0, .int .i64 0]), 8, 96) := by kernel_rfl
def LinesPost (s : List UInt8) (w : World) (e : Ending) (w' : World) : Prop :=
 Below w.heap.size w w' ∧ ((∃ a : Nat, e = .returned (.tuple #[.slice none 0 0, .int .i64 a, .bool false]) ∧ rd 0 [] s = .inl a) ∨
  (∃ (sv : Value) (ls : List PLn), e = .returned (.tuple #[sv, .int .i64 0, .bool true]) ∧ rd 0 [] s = .inr (ls.map PLn.pr) ∧ Lines w' w.heap.size sv ls ∧ ls.length ≤ s.length))
structure RdAt (s : ByteArray) (w : World) (a : Nat) (sv : Value) (ls : List PLn) (st : Bool) (wr : World) : Prop where
 le : a ≤ s.size
 run : rd 0 [] s.data.toList = rd a (ls.map PLn.pr) (rest s a)
 lines : Lines wr w.heap.size sv ls
 started : st = (ls.map PLn.pr).any (·.2.isState)
 below : Below w.heap.size w wr
 few : ls.length ≤ a
def RdLoop (s : ByteArray) (w : World) (k : Nat) (vl vs va : Value) (wr : World) : Prop :=
 ∃ (a : Nat) (ls : List PLn) (st : Bool) (sv : Value), vl = sv ∧ vs = .bool st ∧ va = .int .i64 a ∧ a + k = s.size ∧ RdAt s w a sv ls st wr
theorem kind_state {w : World} {B kd d : Nat} {st co : ByteArray} {lv : Value} {wh fl : Nat} {x : Ln} (h : LineIs w B kd d st co lv wh fl x) : (kd = 1 ↔ x.isState = true) ∧ (kd = 2 ↔ x.isRule = true) := by
 cases x with
 | blank => obtain ⟨rfl, _⟩ := h; simp [Ln.isState, Ln.isRule]
 | state n => obtain ⟨rfl, _⟩ := h; simp [Ln.isState, Ln.isRule]
 | rule d' o c p => obtain ⟨rfl, _⟩ := h; simp [Ln.isState, Ln.isRule]
set_option maxRecDepth 20000 in
set_option maxHeartbeats 2000000 in
theorem readLines_any (s : ByteArray) (w : World) (hz : s.size ≤ 2000) (hm : Mx w) :
  Calls Tryz.prog 81 #[.string s] w (LinesPost s.data.toList w) := by
 have HM := hide hm
 clear hm
 go_enter Tryz.func81, Tryz.ntmps81
 go_wp2_with fail
 go_loopg [5, 6, 7] s.size (fun k vl vs va wr => RdLoop s w k vl vs va wr)
 case atStart => exact ⟨0, [], false, _, rfl, rfl, rfl, by omega, Nat.zero_le _, by simp [rest], ⟨World.ownsRow_nil _ _ _ _, fun l hl => by simp at hl⟩, rfl, Below.refl _ _, Nat.le_refl _⟩
 case round =>
  obtain ⟨a, ls, st, sv, rfl, rfl, rfl, hk, hR⟩ := hrel
  have HR := hide hR
  have hal := hR.le
  have hfew := hR.few
  clear hR
  by_cases hlt : a < s.size
  ·have g1 : decide ((a : Int) < (s.size : Int)) = true := decide_eq_true (by omega)
   have hBr : w.heap.size ≤ wr.heap.size := HR.out.below.size
   have HCT := hide (cut_any (s.extract a s.size) 10 wr (by rw [ByteArray.size_extract]; omega) (HM.out.below HR.out.below))
   go_wp2_with fail
   refine HCT.out.mono ?_
   rintro e w1 ⟨⟨n1, rfl⟩, hcase⟩
   rw [extract_rest (Nat.le_refl _)] at hcase
   have HR1 := hide (show RdAt s w a u5 ls st (wr.drewN n1) from ⟨HR.out.le, HR.out.run, HR.out.lines.below (Below.drewN' (Below.refl _ _) n1), HR.out.started, Below.drewN' HR.out.below n1, HR.out.few⟩)
   clear HR HCT
   generalize wr.drewN n1 = W1 at *
   obtain ⟨bo, b2, en, rfl, hbz, hen⟩ : ∃ (bo b2 : ByteArray) (en : Bool), e = .returned (.tuple #[.string bo, .string b2, .bool en]) ∧ a + bo.size ≤ s.size ∧ ((en = true ∧ rest s a = bo.data.toList ++ 10 :: rest s (a + bo.size + 1) ∧ (10 : UInt8) ∉ bo.data.toList ∧ a + bo.size + 1 ≤ s.size) ∨ (en = false ∧ (10 : UInt8) ∉ rest s a)) := by
    rcases hcase with ⟨x, y, h1, h2, rfl⟩ | ⟨h1, rfl⟩
    ·have hl := congrArg List.length h1
     rw [length_rest, List.length_append, List.length_cons, byte_length, byte_length] at hl
     refine ⟨x, y, true, rfl, by omega, .inl ⟨rfl, ?_, h2, by omega⟩⟩
     have e1 : rest s (a + x.size + 1) = (rest s a).drop (x.size + 1) := by
      simp [rest, List.drop_drop, Nat.add_assoc]
     have e2 : rest s (a + x.size + 1) = y.data.toList := by
      rw [e1, h1, show x.size + 1 = x.data.toList.length + 1 from rfl, List.drop_append]
      simp
     rw [e2]
     exact h1
    ·refine ⟨_, _, false, rfl, by rw [ByteArray.size_extract]; omega, .inr ⟨rfl, h1⟩⟩
   have HEN := hide hen
   have HRL := hide (readLine_any bo W1 (by omega) (HM.out.below HR1.out.below))
   clear hcase hen
   go_wp2_with fail
   refine HRL.out.mono ?_
   rintro e w2 ⟨hB2, kd, d, wh, fl, sa, co, ao, ln, cp, ok, rfl, hok⟩
   have hBr1 : w.heap.size ≤ W1.heap.size := HR1.out.below.size
   have HB2 := hide (HR1.out.below.trans (hB2.mono hBr1))
   have HL2 := hide (HR1.out.lines.below hB2)
   have HB2' := hide hB2
   clear hB2 HRL
   cases ok with
   | false =>
    have hno : lineOf bo.data.toList = none := by rcases hok with ⟨h, _⟩ | ⟨_, h⟩; cases h; exact h
    have HEND := hide (fun o => show LinesPost s.data.toList w (.returned (.tuple #[.slice none 0 0, .int .i64 a, .bool false])) (w2.alloc o) from ⟨HB2.out.alloc HB2.out.size o, .inl ⟨a, rfl, by
     rw [HR1.out.run]
     rcases HEN.out with ⟨_, h1, h2, _⟩ | ⟨_, h1⟩
     ·rw [h1]; exact rd_bad h2 hno
     ·refine rd_open (fun e => ?_) h1
      have := congrArg List.length e
      rw [length_rest] at this
      simp at this
      omega⟩⟩)
    clear hok hno HL2 HR1 HB2 HB2' HEN
    cases st with
    | true =>
     go_wp2_with fail
     exact bodyPost_ret (v := .tuple #[.slice none 0 0, .int .i64 a, .bool false]) (by simp [results, Tryz.results81, go_sem, *]) rfl (HEND.out _)
    | false =>
     cases hb1 : ((kd : Int) == 1) with
     | true =>
      go_wp2_with fail
      exact bodyPost_ret (v := .tuple #[.slice none 0 0, .int .i64 a, .bool false]) (by simp [results, Tryz.results81, go_sem, *]) rfl (HEND.out _)
     | false =>
      go_wp2_with fail
      exact bodyPost_ret (v := .tuple #[.slice none 0 0, .int .i64 a, .bool false]) (by simp [results, Tryz.results81, go_sem, *]) rfl (HEND.out _)
   | true =>
    obtain ⟨x, hx, hLI⟩ : ∃ x, lineOf bo.data.toList = some x ∧ LineIs w2 W1.heap.size kd d sa co (.slice ao ln cp) wh fl x := by rcases hok with ⟨_, h⟩ | ⟨h, _⟩; exact h; cases h
    have HX := hide hx
    have HLI := hide (hLI.keep (B := W1.heap.size) (w' := w2) fun hp => hp)
    clear hok hx hLI
    cases en with
    | false =>
     have HEND := hide (fun o => show LinesPost s.data.toList w (.returned (.tuple #[.slice none 0 0, .int .i64 a, .bool false])) (w2.alloc o) from ⟨HB2.out.alloc HB2.out.size o, .inl ⟨a, rfl, by
      rw [HR1.out.run]
      rcases HEN.out with ⟨h0, _⟩ | ⟨_, h1⟩
      ·cases h0
      ·refine rd_open (fun e => ?_) h1
       have := congrArg List.length e
       rw [length_rest] at this
       simp at this
       omega⟩⟩)
     clear HX HLI HL2 HR1 HB2 HB2' HEN
     cases st with
     | true =>
      go_wp2_with fail
      exact bodyPost_ret (v := .tuple #[.slice none 0 0, .int .i64 a, .bool false]) (by simp [results, Tryz.results81, go_sem, *]) rfl (HEND.out _)
     | false =>
      cases hb1 : ((kd : Int) == 1) with
      | true =>
       go_wp2_with fail
       exact bodyPost_ret (v := .tuple #[.slice none 0 0, .int .i64 a, .bool false]) (by simp [results, Tryz.results81, go_sem, *]) rfl (HEND.out _)
      | false =>
       go_wp2_with fail
       exact bodyPost_ret (v := .tuple #[.slice none 0 0, .int .i64 a, .bool false]) (by simp [results, Tryz.results81, go_sem, *]) rfl (HEND.out _)
    | true =>
     obtain ⟨hk1, hk2⟩ := kind_state HLI.out
     have hen : rest s a = bo.data.toList ++ 10 :: rest s (a + bo.size + 1) ∧ (10 : UInt8) ∉ bo.data.toList ∧ a + bo.size + 1 ≤ s.size := by rcases HEN.out with ⟨_, h⟩ | ⟨h, _⟩; exact h; cases h
     have hsta := HR1.out.started
     by_cases hbad : kd = 2 ∧ st = false
     ·obtain ⟨hkd, rfl⟩ := hbad
      have hb1 : ((kd : Int) == 1) = false := by rw [hkd]; rfl
      have hb2 : ((kd : Int) == 2) = true := by rw [hkd]; rfl
      have HEND := hide (fun o => show LinesPost s.data.toList w (.returned (.tuple #[.slice none 0 0, .int .i64 a, .bool false])) (w2.alloc o) from ⟨HB2.out.alloc HB2.out.size o, .inl ⟨a, rfl, by
       rw [HR1.out.run, hen.1]
       exact rd_early hen.2.1 HX.out (hk2.1 hkd) hsta.symm⟩⟩)
      clear HX HLI HL2 HR1 HB2 HB2' HEN hen hk1 hk2 hsta hkd
      go_wp2_with fail
      exact bodyPost_ret (v := .tuple #[.slice none 0 0, .int .i64 a, .bool false]) (by simp [results, Tryz.results81, go_sem, *]) rfl (HEND.out _)
     ·have haz : a + bo.size + 1 ≤ 9223372036854775807 := by omega
      obtain ⟨k', hk'⟩ : ∃ k', gk = k' + (bo.size + 1) := ⟨gk - (bo.size + 1), by omega⟩
      obtain ⟨i0, hi, hz0, hz1, hz3⟩ := info_parts info_line
      have HBE := hide (show Below w2.heap.size w2 ((w2.alloc (.cells #[.int .i64 a, .int .i64 kd, .string sa, .int .i64 d, .string co, .slice ao ln cp, .int .i64 wh, .int .i64 fl] 219)).alloc (.cells #[.int .i64 a, .int .i64 kd, .string sa, .int .i64 d, .string co, .slice ao ln cp, .int .i64 wh, .int .i64 fl] 219)) from ((Below.refl _ _).alloc (Nat.le_refl _) _).alloc (by simp) _)
      have HKEY := hide (show ∀ v' w3 (stv : Bool), stv = (st || x.isState) → w3.ownsRow w.heap.size 219 8 v' (ls.length + 1) (ls.flatMap PLn.cells ++ [.int .i64 a, .int .i64 kd, .string sa, .int .i64 d, .string co, .slice ao ln cp, .int .i64 wh, .int .i64 fl]) → ((w2.alloc (.cells #[.int .i64 a, .int .i64 kd, .string sa, .int .i64 d, .string co, .slice ao ln cp, .int .i64 wh, .int .i64 fl] 219)).alloc (.cells #[.int .i64 a, .int .i64 kd, .string sa, .int .i64 d, .string co, .slice ao ln cp, .int .i64 wh, .int .i64 fl] 219)).grownBy w3 u5.ownBlock → RdLoop s w k' v' (.bool stv) (.int .i64 ((a + (bo.size + 1) : Nat) : Int)) w3 from fun v' w3 stv hst hown hg => by
       obtain ⟨h1, h2⟩ := Lines.push (l := ⟨a, x, kd, d, sa, co, ao, ln, cp, wh, fl⟩) (HL2.out.below HBE.out) (Nat.le_trans HB2.out.size HBE.out.size) ((HLI.out.keep (w' := w2) fun hp => hp).keep (w' := (w2.alloc (.cells #[.int .i64 a, .int .i64 kd, .string sa, .int .i64 d, .string co, .slice ao ln cp, .int .i64 wh, .int .i64 fl] 219)).alloc (.cells #[.int .i64 a, .int .i64 kd, .string sa, .int .i64 d, .string co, .slice ao ln cp, .int .i64 wh, .int .i64 fl] 219)) (fun hp => hp.below HBE.out) |> fun hh => by
        cases x with
        | blank => exact hh
        | state n => exact hh
        | rule d' o c p => exact ⟨hh.1, hh.2.1, hh.2.2.1, hh.2.2.2.1, hh.2.2.2.2.1, hh.2.2.2.2.2.mono hBr1⟩) hown hg
       refine ⟨a + (bo.size + 1), ls ++ [⟨a, x, kd, d, sa, co, ao, ln, cp, wh, fl⟩], stv, v', rfl, rfl, rfl, by omega, by omega, ?_, h1, ?_, HB2.out.trans ((HBE.out.mono HB2.out.size).trans h2), by simp; omega⟩
       ·rw [HR1.out.run, hen.1, rd_step hen.2.1 HX.out (fun hc => hbad ⟨hk2.2 hc.1, by rw [hsta]; exact hc.2⟩), List.map_append]
        rfl
       ·rw [hst, hsta, List.map_append, List.any_append]
        simp [PLn.pr])
      have HROW := hide (show ((w2.alloc (.cells #[.int .i64 a, .int .i64 kd, .string sa, .int .i64 d, .string co, .slice ao ln cp, .int .i64 wh, .int .i64 fl] 219)).alloc (.cells #[.int .i64 a, .int .i64 kd, .string sa, .int .i64 d, .string co, .slice ao ln cp, .int .i64 wh, .int .i64 fl] 219)).ownsRow w.heap.size 219 8 u5 ls.length (ls.flatMap PLn.cells) from (HL2.out.below HBE.out).row)
      have HNW := hide (show ∀ j u, ([.int .i64 a, .int .i64 kd, .string sa, .int .i64 d, .string co, .slice ao ln cp, .int .i64 wh, .int .i64 fl] : List Value)[j]? = some u → ((w2.alloc (.cells #[.int .i64 a, .int .i64 kd, .string sa, .int .i64 d, .string co, .slice ao ln cp, .int .i64 wh, .int .i64 fl] 219)).alloc (.cells #[.int .i64 a, .int .i64 kd, .string sa, .int .i64 d, .string co, .slice ao ln cp, .int .i64 wh, .int .i64 fl] 219)).cell? ((⟨w2.heap.size + 1, 0, none⟩ : Addr).add j) = some u from fun j u hj => by
       have := cell_new_row (w2.alloc (.cells #[.int .i64 a, .int .i64 kd, .string sa, .int .i64 d, .string co, .slice ao ln cp, .int .i64 wh, .int .i64 fl] 219)) #[.int .i64 a, .int .i64 kd, .string sa, .int .i64 d, .string co, .slice ao ln cp, .int .i64 wh, .int .i64 fl] 219 j u hj
       simpa using this)
      have HO : Hid (∀ u ∈ ([.int .i64 a, .int .i64 kd, .string sa, .int .i64 d, .string co, .slice ao ln cp, .int .i64 wh, .int .i64 fl] : List Value), u.oneCell' = true) := by
       intro u hu
       simp only [List.mem_cons, List.not_mem_nil, or_false] at hu
       rcases hu with rfl | rfl | rfl | rfl | rfl | rfl | rfl | rfl <;> rfl
      have hb1 : ls.length + 1 ≤ maxLen := by unfold maxLen; omega
      have hb2' : (ls.length + 1) * 96 ≤ 140737488355328 := by omega
      have hsz2 : w.heap.size ≤ w2.heap.size + 2 := by have := HB2.out.size; omega
      have HST0 := hide hsta
      have HNB := hide hbad
      have HK1 := hide hk1
      have HK2 := hide hk2
      clear HX HLI HL2 HR1 HB2 HB2' HEN hen hsta hbad hk1 hk2 HBE HM
      cases st with
      | true =>
       have HSTT := hide (show true = (true || x.isState) from rfl)
       cases hb2 : ((kd : Int) == 2) with
       | true =>
        go_wp2_with (at_builtin; refine wpList_append_own _ rfl (.tmp 54) (.tmp 56) 153 rfl w.heap.size 219 i0 (.agg #[.int .i64 0, .int .i64 0, .string ⟨#[]⟩, .int .i64 0, .string ⟨#[]⟩, .slice none 0 0, .int .i64 0, .int .i64 0]) 8 96 Tryz.underlying153 hi hz0 hz1 hz3 rfl (by decide) u5 ls.length (ls.flatMap PLn.cells) rfl HROW.out ⟨w2.heap.size + 1, 0, none⟩ 1 1 [.int .i64 a, .int .i64 kd, .string sa, .int .i64 d, .string co, .slice ao ln cp, .int .i64 wh, .int .i64 fl] rfl rfl HNW.out HO.out hb1 hb2' (by simpa using hsz2) ?_; intro v' w3 hown hg _; have HST := hide (HKEY.out v' w3 true (by first | exact HSTT.out | rfl) hown hg); obtain ⟨g', cap', rfl⟩ := own_form hown (by omega); clear hown hg)
        go_roundg k'
        case measure => omega
        case rel => exact HST.out
       | false =>
        go_wp2_with (at_builtin; refine wpList_append_own _ rfl (.tmp 54) (.tmp 56) 153 rfl w.heap.size 219 i0 (.agg #[.int .i64 0, .int .i64 0, .string ⟨#[]⟩, .int .i64 0, .string ⟨#[]⟩, .slice none 0 0, .int .i64 0, .int .i64 0]) 8 96 Tryz.underlying153 hi hz0 hz1 hz3 rfl (by decide) u5 ls.length (ls.flatMap PLn.cells) rfl HROW.out ⟨w2.heap.size + 1, 0, none⟩ 1 1 [.int .i64 a, .int .i64 kd, .string sa, .int .i64 d, .string co, .slice ao ln cp, .int .i64 wh, .int .i64 fl] rfl rfl HNW.out HO.out hb1 hb2' (by simpa using hsz2) ?_; intro v' w3 hown hg _; have HST := hide (HKEY.out v' w3 true (by first | exact HSTT.out | rfl) hown hg); obtain ⟨g', cap', rfl⟩ := own_form hown (by omega); clear hown hg)
        go_roundg k'
        case measure => omega
        case rel => exact HST.out
      | false =>
       have hnk2 : ((kd : Int) == 2) = false := by
        rw [beq_eq_false_iff_ne]
        intro e
        exact HNB.out ⟨by omega, rfl⟩
       by_cases hkd1 : kd = 1
       ·have hq1 : ((kd : Int) == 1) = true := by rw [hkd1]; rfl
        have HSTT := hide (show true = (false || x.isState) by rw [HK1.out.1 hkd1]; rfl)
        clear hkd1
        go_wp2_with (at_builtin; refine wpList_append_own _ rfl (.tmp 54) (.tmp 56) 153 rfl w.heap.size 219 i0 (.agg #[.int .i64 0, .int .i64 0, .string ⟨#[]⟩, .int .i64 0, .string ⟨#[]⟩, .slice none 0 0, .int .i64 0, .int .i64 0]) 8 96 Tryz.underlying153 hi hz0 hz1 hz3 rfl (by decide) u5 ls.length (ls.flatMap PLn.cells) rfl HROW.out ⟨w2.heap.size + 1, 0, none⟩ 1 1 [.int .i64 a, .int .i64 kd, .string sa, .int .i64 d, .string co, .slice ao ln cp, .int .i64 wh, .int .i64 fl] rfl rfl HNW.out HO.out hb1 hb2' (by simpa using hsz2) ?_; intro v' w3 hown hg _; have HST := hide (HKEY.out v' w3 true (by first | exact HSTT.out | rfl) hown hg); obtain ⟨g', cap', rfl⟩ := own_form hown (by omega); clear hown hg)
        go_roundg k'
        case measure => omega
        case rel => exact HST.out
       ·have hq1 : ((kd : Int) == 1) = false := by rw [beq_eq_false_iff_ne]; omega
        have HSTT := hide (show false = (false || x.isState) by
         cases hxs : x.isState with
         | true => exact absurd (HK1.out.2 hxs) hkd1
         | false => rfl)
        go_wp2_with (at_builtin; refine wpList_append_own _ rfl (.tmp 54) (.tmp 56) 153 rfl w.heap.size 219 i0 (.agg #[.int .i64 0, .int .i64 0, .string ⟨#[]⟩, .int .i64 0, .string ⟨#[]⟩, .slice none 0 0, .int .i64 0, .int .i64 0]) 8 96 Tryz.underlying153 hi hz0 hz1 hz3 rfl (by decide) u5 ls.length (ls.flatMap PLn.cells) rfl HROW.out ⟨w2.heap.size + 1, 0, none⟩ 1 1 [.int .i64 a, .int .i64 kd, .string sa, .int .i64 d, .string co, .slice ao ln cp, .int .i64 wh, .int .i64 fl] rfl rfl HNW.out HO.out hb1 hb2' (by simpa using hsz2) ?_; intro v' w3 hown hg _; have HST := hide (HKEY.out v' w3 false (by first | exact HSTT.out | rfl) hown hg); obtain ⟨g', cap', rfl⟩ := own_form hown (by omega); clear hown hg)
        go_roundg k'
        case measure => omega
        case rel => exact HST.out
  ·have g1 : decide ((a : Int) < (s.size : Int)) = false := decide_eq_false (by omega)
   have HEND := hide (show LinesPost s.data.toList w (.returned (.tuple #[u5, .int .i64 0, .bool true])) wr from ⟨HR.out.below, .inr ⟨u5, ls, rfl, by rw [HR.out.run, rest_nil (by omega), rd_nil], HR.out.lines, by rw [byte_length]; omega⟩⟩)
   clear HR
   go_wp2_with fail
   exact bodyPost_ret (v := .tuple #[u5, .int .i64 0, .bool true]) (by simp [results, Tryz.results81, go_sem, *]) rfl HEND.out
def PLn.agg (l : PLn) : Value := .agg #[.int .i64 l.at_, .int .i64 l.kd, .string l.st, .int .i64 l.d, .string l.co, .slice l.ao l.ln l.cp, .int .i64 l.wh, .int .i64 l.fl]
theorem plCells_get {ls : List PLn} {i : Nat} {l : PLn} (h : ls[i]? = some l) (j : Nat) (hj : j < 8) : (ls.flatMap PLn.cells)[i * 8 + j]? = l.cells[j]? := by
 induction ls generalizing i with
 | nil => simp at h
 | cons a t ih =>
  cases i with
  | zero =>
   simp only [List.getElem?_cons_zero, Option.some.injEq] at h
   subst h
   simp only [List.flatMap_cons]
   rw [List.getElem?_append_left (by simp [PLn.cells]; omega)]
   simp
  | succ i =>
   simp only [List.getElem?_cons_succ] at h
   have := ih h
   simp only [List.flatMap_cons]
   rw [List.getElem?_append_right (by simp [PLn.cells]; omega), ← this]
   congr 1
   simp [PLn.cells]; omega
theorem Lines.form {w : World} {B : Nat} {sv : Value} {ls : List PLn} (h : Lines w B sv ls) : ∃ ao cap, sv = .slice ao ls.length cap ∧ (0 < ls.length → ∃ g, ao = some ⟨g, 0, none⟩) := by
 rcases h.row.2 with ⟨h1, h0⟩ | ⟨g, cap, cur, h1, _⟩
 ·exact ⟨none, 0, by rw [h1, h0], fun h => by omega⟩
 ·exact ⟨some ⟨g, 0, none⟩, cap, h1, fun _ => ⟨g, rfl⟩⟩
theorem Lines.cells {w : World} {B g n cap : Nat} {ls : List PLn} (h : Lines w B (.slice (some ⟨g, 0, none⟩) n cap) ls) {i : Nat} {l : PLn} (hi : ls[i]? = some l) :
  w.cell? ⟨g, i * 8, none⟩ = some (.int .i64 l.at_) ∧ w.cell? ⟨g, i * 8 + 1, none⟩ = some (.int .i64 l.kd) ∧ w.cell? ⟨g, i * 8 + 2, none⟩ = some (.string l.st) ∧ w.cell? ⟨g, i * 8 + 3, none⟩ = some (.int .i64 l.d) ∧ w.cell? ⟨g, i * 8 + 4, none⟩ = some (.string l.co) ∧ w.cell? ⟨g, i * 8 + 5, none⟩ = some (.slice l.ao l.ln l.cp) ∧ w.cell? ⟨g, i * 8 + 6, none⟩ = some (.int .i64 l.wh) ∧ w.cell? ⟨g, i * 8 + 7, none⟩ = some (.int .i64 l.fl) := by
 have hn : n = ls.length := by
  rcases h.row.2 with ⟨h0, _⟩ | ⟨g', cap', cur, e1, _⟩
  ·cases h0
  ·cases e1; rfl
 subst hn
 have f := fun j (hj : j < 8) (u : Value) (hu : l.cells[j]? = some u) => (row_cell h.row (show (ls.flatMap PLn.cells)[i * 8 + j]? = some u by rw [plCells_get hi j hj]; exact hu)).1
 exact ⟨f 0 (by omega) _ rfl, f 1 (by omega) _ rfl, f 2 (by omega) _ rfl, f 3 (by omega) _ rfl, f 4 (by omega) _ rfl, f 5 (by omega) _ rfl, f 6 (by omega) _ rfl, f 7 (by omega) _ rfl⟩
def Prd (G : World → Prop) (ls : List PLn) (p : Lns → Ln → Prop) (g : Nat) (lb : Array Value) (Inv : List PLn → World → Prop) : Prop :=
 ∀ pre l post w, ls = pre ++ l :: post → G w → Inv pre w → Calls Tryz.prog g (#[l.agg] ++ lb) w fun e w' => ∃ b, e = .returned (.bool b) ∧ (b = true ↔ p (pre.map PLn.pr) l.x) ∧ G w' ∧ (b = false → Inv (pre ++ [l]) w')
def IdxPost (G : World → Prop) (ls : List PLn) (p : Lns → Ln → Prop) (Inv : List PLn → World → Prop) (e : Ending) (w' : World) : Prop :=
 G w' ∧ ((∃ (j : Nat) (l : PLn), e = .returned (.int .i64 j) ∧ ls[j]? = some l ∧ Fst p [] (ls.map PLn.pr) (some l.at_)) ∨ (e = .returned (.int .i64 (-1)) ∧ Fst p [] (ls.map PLn.pr) none ∧ Inv ls w'))
def IdxLoop (G : World → Prop) (ls : List PLn) (p : Lns → Ln → Prop) (Inv : List PLn → World → Prop) (k : Nat) (i : Value) (wr : World) : Prop :=
 ∃ j : Nat, i = .int .i64 j ∧ j + k = ls.length ∧ G wr ∧ Inv (ls.take j) wr ∧ Fst p [] ((ls.take j).map PLn.pr) none
set_option maxRecDepth 20000 in
set_option maxHeartbeats 2000000 in
theorem indexFunc_any (wC : World) (B : Nat) (sv : Value) (ls : List PLn) (p : Lns → Ln → Prop) (g : Nat) (lb : Array Value) (Inv : List PLn → World → Prop) (w : World) (hL : Lines wC B sv ls) (G : World → Prop) (hG : ∀ w, G w → Below wC.heap.size wC w) (hP : Prd G ls p g lb Inv) (he : Enters g) (hB : G w) (hI : Inv [] w) (hz : ls.length ≤ 1000000) :
  Calls Tryz.prog 115 #[sv, .func (.func g) #[] lb] w (IdxPost G ls p Inv) := by
 obtain ⟨ao, cap, rfl, hao⟩ := hL.form
 have HL := hide hL
 have HP := hide hP
 have HB := hide hB
 have HI := hide hI
 have HAO := hide hao
 unfold Enters at he
 clear hL hP hB hI hao
 go_enter Tryz.func115, Tryz.ntmps115
 go_wp2_with fail
 go_loopg [8] ls.length (fun k i wr => IdxLoop G ls p Inv k i wr)
 case atStart => exact ⟨0, rfl, by omega, HB.out, HI.out, .nil⟩
 case round =>
  obtain ⟨j, rfl, hk, hBw, hIw, hf⟩ := hrel
  by_cases hlt : j < ls.length
  ·have g1 : decide ((j : Int) < (ls.length : Int)) = true := decide_eq_true (by omega)
   obtain ⟨q, rfl⟩ := HAO.out (by omega)
   obtain ⟨l, hl⟩ : ∃ l, ls[j]? = some l := ⟨ls[j], List.getElem?_eq_getElem hlt⟩
   have hsp : ls = ls.take j ++ l :: ls.drop (j + 1) := by
    have hl' := hl
    rw [List.getElem?_eq_getElem hlt] at hl'
    rw [← Option.some.inj hl', ← List.drop_eq_getElem_cons hlt, List.take_append_drop]
   have htk : ls.take (j + 1) = ls.take j ++ [l] := by
    have hl' := hl
    rw [List.getElem?_eq_getElem hlt] at hl'
    rw [List.take_succ_eq_append_getElem hlt, Option.some.inj hl']
   obtain ⟨c0, c1, c2, c3, c4, c5, c6, c7⟩ := (HL.out.below (hG _ hBw)).cells hl
   have HPR := hide (HP.out (ls.take j) l (ls.drop (j + 1)) wr hsp hBw hIw)
   have HF := hide hf
   have HLL := hide hl
   have HSP := hide hsp
   have HTK := hide htk
   have hi1 : j + 1 ≤ 9223372036854775807 := by omega
   unfold PLn.agg at HPR
   clear hf hl hsp htk hBw hIw
   go_wp2_with fail
   refine HPR.out.mono ?_
   rintro e w1 ⟨b, rfl, hb, hB1, hI1⟩
   cases b with
   | true =>
    have HEND := hide (show IdxPost G ls p Inv (.returned (.int .i64 j)) w1 from ⟨hB1, .inl ⟨j, l, rfl, HLL.out, by
     have h1 := HF.out.hit_at (a := l.at_) (x := l.x) ((ls.drop (j + 1)).map PLn.pr) (hb.1 rfl)
     have e1 : ls.map PLn.pr = (ls.take j).map PLn.pr ++ (l.at_, l.x) :: (ls.drop (j + 1)).map PLn.pr := by
      conv => lhs; rw [HSP.out]
      simp [PLn.pr]
     rw [e1]; exact h1⟩⟩)
    clear hb hB1 hI1 HPR HF HLL HSP HTK
    go_wp2_with fail
    go_ret
    exact HEND.out
   | false =>
    have HST := hide (show IdxLoop G ls p Inv (gk - 1) (.int .i64 ((j + 1 : Nat) : Int)) w1 from ⟨j + 1, rfl, by omega, hB1, by rw [HTK.out]; exact hI1 rfl, by
     rw [HTK.out, List.map_append]
     exact HF.out.snoc (a := l.at_) (fun h => by have := hb.2 h; cases this)⟩)
    clear hb hB1 hI1 HPR HF HLL HSP HTK
    go_wp2_with fail
    go_roundg (gk - 1)
    case measure => omega
    case rel => exact HST.out
  ·have g1 : decide ((j : Int) < (ls.length : Int)) = false := decide_eq_false (by omega)
   have HEND := hide (show IdxPost G ls p Inv (.returned (.int .i64 (-1))) wr from ⟨hBw, .inr ⟨rfl, by rw [List.take_of_length_le (by omega)] at hf; exact hf, by rw [List.take_of_length_le (by omega)] at hIw; exact hIw⟩⟩)
   clear hf hBw hIw
   go_wp2_with fail
   go_ret
   exact HEND.out
def FindS (ns : List ByteArray) (v : ByteArray) (w : World) (k : Nat) (i : Value) (wr : World) : Prop :=
 ∃ j : Nat, i = .int .i64 j ∧ j + k = ns.length ∧ wr = w ∧ ∀ (m : Nat) (t : ByteArray), m < j → ns[m]? = some t → t.data.toList ≠ v.data.toList
set_option maxRecDepth 20000 in
set_option maxHeartbeats 1000000 in
theorem indexS_any (B : Nat) (sv : Value) (ns : List ByteArray) (v : ByteArray) (w : World) (hr : w.ownsRow B 9 1 sv ns.length (ns.map Value.string)) (hz : ns.length ≤ 1000000) :
  Calls Tryz.prog 184 #[sv, .string v] w fun e w' => w' = w ∧ ((∃ j : Nat, e = .returned (.int .i64 j) ∧ ∃ t ∈ ns, t.data.toList = v.data.toList) ∨ (e = .returned (.int .i64 (-1)) ∧ ∀ t ∈ ns, t.data.toList ≠ v.data.toList)) := by
 obtain ⟨ao, cap, rfl, hao⟩ : ∃ ao cap, sv = .slice ao ns.length cap ∧ (0 < ns.length → ∃ g, ao = some ⟨g, 0, none⟩) := by
  rcases hr.2 with ⟨h1, h0⟩ | ⟨g, cap, cur, h1, _⟩
  ·exact ⟨none, 0, by rw [h1, h0], fun h => by omega⟩
  ·exact ⟨some ⟨g, 0, none⟩, cap, h1, fun _ => ⟨g, rfl⟩⟩
 have HR := hide hr
 have HAO := hide hao
 clear hr hao
 go_enter Tryz.func184, Tryz.ntmps184
 go_wp2_with fail
 go_loopg [8] ns.length (fun k i wr => FindS ns v w k i wr)
 case atStart => exact ⟨0, rfl, by omega, rfl, fun m t h => by omega⟩
 case round =>
  obtain ⟨j, rfl, hk, rfl, hall⟩ := hrel
  by_cases hlt : j < ns.length
  ·have g1 : decide ((j : Int) < (ns.length : Int)) = true := decide_eq_true (by omega)
   obtain ⟨q, rfl⟩ := HAO.out (by omega)
   obtain ⟨t, ht⟩ : ∃ t, ns[j]? = some t := ⟨ns[j], List.getElem?_eq_getElem hlt⟩
   have c0 := (row_cell HR.out (j := j) (u := .string t) (by rw [List.getElem?_map, ht]; rfl)).1
   have HT := hide ht
   have HALL := hide hall
   have hi1 : j + 1 ≤ 9223372036854775807 := by omega
   clear ht hall
   by_cases hq : t.data.toList = v.data.toList
   ·have q1 : (v.toList == t.toList) = true := by rw [ByteArray.toList_eq, ByteArray.toList_eq, hq]; simp
    have q1' : (t.toList == v.toList) = true := by rw [ByteArray.toList_eq, ByteArray.toList_eq, hq]; simp
    have HQ := hide hq
    clear hq
    go_wp2_with fail
    go_ret
    exact ⟨rfl, .inl ⟨j, rfl, t, List.mem_of_getElem? HT.out, HQ.out⟩⟩
   ·have q1 : (v.toList == t.toList) = false := by rw [beq_eq_false_iff_ne, ByteArray.toList_eq, ByteArray.toList_eq]; exact fun e => hq e.symm
    have q1' : (t.toList == v.toList) = false := by rw [beq_eq_false_iff_ne, ByteArray.toList_eq, ByteArray.toList_eq]; exact hq
    have HQ := hide hq
    clear hq
    go_wp2_with fail
    go_roundg (gk - 1)
    case measure => omega
    case rel =>
     refine ⟨j + 1, rfl, by omega, rfl, fun m t' hm ht' => ?_⟩
     rcases Nat.lt_or_ge m j with h | h
     ·exact HALL.out m t' h ht'
     ·have : m = j := by omega
      subst this
      rw [HT.out] at ht'
      cases ht'
      exact HQ.out
  ·have g1 : decide ((j : Int) < (ns.length : Int)) = false := decide_eq_false (by omega)
   have HALL := hide hall
   clear hall
   go_wp2_with fail
   go_ret
   refine ⟨rfl, .inr ⟨rfl, fun t ht => ?_⟩⟩
   obtain ⟨m, hm⟩ := List.getElem?_of_mem ht
   exact HALL.out m t (by have := get_lt hm; omega) hm
set_option maxRecDepth 20000 in
set_option maxHeartbeats 1000000 in
theorem containsS_any (B : Nat) (sv : Value) (ns : List ByteArray) (v : ByteArray) (w : World) (hr : w.ownsRow B 9 1 sv ns.length (ns.map Value.string)) (hz : ns.length ≤ 1000000) :
  Calls Tryz.prog 150 #[sv, .string v] w fun e w' => w' = w ∧ ∃ b, e = .returned (.bool b) ∧ (b = true ↔ ∃ t ∈ ns, t.data.toList = v.data.toList) := by
 have HIX := hide (indexS_any B sv ns v w hr hz)
 have hsv : ∃ ao cap, sv = .slice ao ns.length cap := by
  rcases hr.2 with ⟨h1, h0⟩ | ⟨g, cap, cur, h1, _⟩
  ·exact ⟨none, 0, by rw [h1, h0]⟩
  ·exact ⟨some ⟨g, 0, none⟩, cap, h1⟩
 obtain ⟨ao, cap, rfl⟩ := hsv
 clear hr
 go_enter Tryz.func150, Tryz.ntmps150
 go_wp2_with fail
 refine HIX.out.mono ?_
 rintro e w1 ⟨rfl, ⟨j, rfl, ht⟩ | ⟨rfl, hno⟩⟩
 ·have q1 : decide ((0 : Int) ≤ (j : Int)) = true := decide_eq_true (by omega)
  have HT := hide ht
  clear ht
  go_wp2_with fail
  go_ret
  exact ⟨rfl, true, rfl, ⟨fun _ => HT.out, fun _ => rfl⟩⟩
 ·have HT := hide hno
  clear hno
  go_wp2_with fail
  go_ret
  exact ⟨rfl, false, rfl, ⟨fun h => (by cases h), fun ⟨t, h1, h2⟩ => absurd h2 (HT.out t h1)⟩⟩
def stNames (pre : List PLn) : List ByteArray := pre.filterMap fun l => if l.kd = 1 then some l.st else none
def GX (wC wL : World) (D : Nat → Prop) (w : World) : Prop := Below wC.heap.size wC w ∧ wL.heap.size ≤ w.heap.size ∧ ∀ b, b < wL.heap.size → ¬ D b → w.heap[b]? = wL.heap[b]?
structure Nms (wL : World) (N : Nat) (pre : List PLn) (w : World) : Prop where
 size : wL.heap.size ≤ w.heap.size
 keep : ∀ b, b < wL.heap.size → b ≠ N → w.heap[b]? = wL.heap[b]?
 box : ∃ v, w.heap[N]? = some (.cells #[v] 61 (0, 0)) ∧ w.ownsRow wL.heap.size 9 1 v (stNames pre).length ((stNames pre).map Value.string)
theorem stNames_snoc (pre : List PLn) (l : PLn) : stNames (pre ++ [l]) = stNames pre ++ (if l.kd = 1 then [l.st] else []) := by
 unfold stNames
 rw [List.filterMap_append]
 congr 1
 by_cases h : l.kd = 1 <;> simp [h]
theorem info_string : (Tryz.prog.info? 9).map (fun i => (i.zero, i.size, i.bytes)) = some (some (.string ⟨#[]⟩), 1, 16) := by kernel_rfl
theorem twice_iff {wC : World} {B : Nat} {sv : Value} {ls pre post : List PLn} {l : PLn} (hL : Lines wC B sv ls) (hs : ls = pre ++ l :: post) : (l.kd ≠ 1 → ¬ pTwice (pre.map PLn.pr) l.x) ∧ (l.kd = 1 → (pTwice (pre.map PLn.pr) l.x ↔ ∃ t ∈ stNames pre, t.data.toList = l.st.data.toList)) := by
 have hl := hL.each l (by rw [hs]; simp)
 refine ⟨fun hk h => ?_, fun hk => ?_⟩
 ·obtain ⟨n, hx, _⟩ := h
  rw [hx] at hl
  exact hk hl.1
 ·cases hx : l.x with
  | blank => rw [hx] at hl; have := hl.1; omega
  | rule d o c p => rw [hx] at hl; have := hl.1; omega
  | state n =>
   rw [hx] at hl
   obtain ⟨_, _, hn, _⟩ := hl
   constructor
   ·rintro ⟨n', h1, a, h2⟩
    cases h1
    obtain ⟨t, ht, he⟩ := List.mem_map.1 h2
    have htl := hL.each t (by rw [hs]; exact List.mem_append_left _ ht)
    have hxt : t.x = .state n := congrArg Prod.snd he
    rw [hxt] at htl
    exact ⟨t.st, List.mem_filterMap.2 ⟨t, ht, by rw [if_pos htl.1]⟩, by rw [htl.2.2.1, hn]⟩
   ·rintro ⟨t, ht, he⟩
    obtain ⟨l', hl', hh⟩ := List.mem_filterMap.1 ht
    by_cases hk' : l'.kd = 1
    ·rw [if_pos hk'] at hh
     cases hh
     have htl := hL.each l' (by rw [hs]; exact List.mem_append_left _ hl')
     have hst := (kind_state htl).1.1 hk'
     cases hx' : l'.x with
     | blank => rw [hx'] at hst; cases hst
     | rule d o c p => rw [hx'] at hst; cases hst
     | state n' =>
      rw [hx'] at htl
      refine ⟨n, rfl, l'.at_, List.mem_map.2 ⟨l', hl', ?_⟩⟩
      have h5 : n' = n := by rw [← htl.2.2.1, he, hn]
      rw [PLn.pr, hx', h5]
    ·rw [if_neg hk'] at hh; cases hh
theorem Nms.alloc {wL : World} {N : Nat} {pre : List PLn} {w : World} (h : Nms wL N pre w) (o : Obj) : Nms wL N pre (w.alloc o) := by
 obtain ⟨v, hb, hrow⟩ := h.box
 exact ⟨by have := h.size; simp; omega, fun b h1 h2 => (Below.heap_alloc _ _ _ (Nat.lt_of_lt_of_le h1 h.size)).trans (h.keep b h1 h2), v, heap_alloc_old hb, row_new hrow o⟩
theorem Nms.push {wC wL : World} {N : Nat} {pre : List PLn} {l : PLn} {W w3 : World} {v v' : Value} (h : Nms wL N pre W) (hk : l.kd = 1) (hb : W.heap[N]? = some (.cells #[v] 61 (0, 0))) (hrow : W.ownsRow wL.heap.size 9 1 v (stNames pre).length ((stNames pre).map Value.string)) (hN : wC.heap.size ≤ N) (hNL : N < wL.heap.size) (hB : Below wC.heap.size wC W)
  (hown : w3.ownsRow wL.heap.size 9 1 v' ((stNames pre).length + 1) ((stNames pre).map Value.string ++ [.string l.st])) (hg : W.grownBy w3 v.ownBlock) :
  Nms wL N (pre ++ [l]) (w3.setCell ⟨N, 0, none⟩ v') ∧ Below wC.heap.size wC (w3.setCell ⟨N, 0, none⟩ v') ∧ w3.cell? ⟨N, 0, none⟩ = some v ∧ w3.frozen? ⟨N, 0, none⟩ = false := by
 have hne : ∀ b, b < wL.heap.size → some b ≠ v.ownBlock := fun b hb' e => by have := (row_type hrow e.symm).1; omega
 have h3 : w3.heap[N]? = some (.cells #[v] 61 (0, 0)) := (hg.block N (lt_of_get hb) (hne N hNL)).trans hb
 have hsz : (w3.setCell ⟨N, 0, none⟩ v').heap.size = w3.heap.size := by simp [World.setCell]
 refine ⟨⟨by rw [hsz]; exact Nat.le_trans h.size hg.size, fun b h1 h2 => ?_, v', heap_setCell_same w3 N 0 _ h3, ?_⟩, ?_, by simp [World.cell?, h3], by simp [World.frozen?, h3]⟩
 ·rw [Below.heap_setCell _ _ _ _ h2, hg.block b (Nat.lt_of_lt_of_le h1 h.size) (hne b h1)]
  exact h.keep b h1 h2
 ·rw [stNames_snoc, if_pos hk, List.map_append, List.length_append]
  refine row_keep hown fun k e => Below.heap_setCell _ _ _ _ ?_
  rintro rfl
  have := (row_type hown e).1
  omega
 ·have hb3 : Below wC.heap.size W w3 := ⟨hg.os, hg.tape, hg.output, hg.size, fun k hk' => hg.block k (Nat.lt_of_lt_of_le hk' hB.size) (hne k (by omega))⟩
  exact (hB.trans hb3).setCell hN _
set_option maxRecDepth 20000 in
set_option maxHeartbeats 1000000 in
theorem began_any (wC wL : World) (B N : Nat) (sv : Value) (ls : List PLn) (hL : Lines wC B sv ls) (hz : ls.length ≤ 1000000) (hN : wC.heap.size ≤ N) (hNL : N < wL.heap.size) :
  Prd (GX wC wL (· = N)) ls pTwice 149 #[.pointer (some ⟨N, 0, none⟩)] (Nms wL N) := by
 rintro pre l post w hs ⟨hB, -⟩ hI
 obtain ⟨ht1, ht2⟩ := twice_iff hL hs
 obtain ⟨v, hb, hrow⟩ := hI.box
 have hlen : (stNames pre).length ≤ 1000000 := by
  have h1 : (stNames pre).length ≤ pre.length := List.length_filterMap_le ..
  have h2 : pre.length ≤ ls.length := by rw [hs]; simp
  omega
 have c0 : w.cell? ⟨N, 0, none⟩ = some v := by simp [World.cell?, hb]
 show Calls Tryz.prog _ #[l.agg, .pointer (some ⟨N, 0, none⟩)] w _
 unfold PLn.agg
 by_cases hk : l.kd = 1
 ·have q1 : ((l.kd : Int) != 1) = false := by rw [hk]; rfl
  have HCN := hide (containsS_any wL.heap.size v (stNames pre) l.st (w.alloc (.cells #[.int .i64 l.at_, .int .i64 l.kd, .string l.st, .int .i64 l.d, .string l.co, .slice l.ao l.ln l.cp, .int .i64 l.wh, .int .i64 l.fl] 219)) (row_new hrow (.cells #[.int .i64 l.at_, .int .i64 l.kd, .string l.st, .int .i64 l.d, .string l.co, .slice l.ao l.ln l.cp, .int .i64 l.wh, .int .i64 l.fl] 219)) hlen)
  have HI := hide (hI.alloc (.cells #[.int .i64 l.at_, .int .i64 l.kd, .string l.st, .int .i64 l.d, .string l.co, .slice l.ao l.ln l.cp, .int .i64 l.wh, .int .i64 l.fl] 219))
  have HB := hide (hB.alloc hB.size (.cells #[.int .i64 l.at_, .int .i64 l.kd, .string l.st, .int .i64 l.d, .string l.co, .slice l.ao l.ln l.cp, .int .i64 l.wh, .int .i64 l.fl] 219))
  have HT := hide (ht2 hk)
  have HK := hide hk
  have HROW := hide (row_new hrow (.cells #[.int .i64 l.at_, .int .i64 l.kd, .string l.st, .int .i64 l.d, .string l.co, .slice l.ao l.ln l.cp, .int .i64 l.wh, .int .i64 l.fl] 219))
  have HBX := hide (heap_alloc_old (o := (.cells #[.int .i64 l.at_, .int .i64 l.kd, .string l.st, .int .i64 l.d, .string l.co, .slice l.ao l.ln l.cp, .int .i64 l.wh, .int .i64 l.fl] 219)) hb)
  have c0' := cell_alloc_old c0 (.cells #[.int .i64 l.at_, .int .i64 l.kd, .string l.st, .int .i64 l.d, .string l.co, .slice l.ao l.ln l.cp, .int .i64 l.wh, .int .i64 l.fl] 219)
  obtain ⟨i0, hi, hz0, hz1, hz3⟩ := info_parts info_string
  obtain ⟨ao, cap, rfl⟩ : ∃ ao cap, v = .slice ao (stNames pre).length cap := by
   rcases hrow.2 with ⟨h1, h0⟩ | ⟨g, cap, cur, h1, _⟩
   ·exact ⟨none, 0, by rw [h1, h0]⟩
   ·exact ⟨some ⟨g, 0, none⟩, cap, h1⟩
  have HLB := hide (heap_alloc_last w (.cells #[.int .i64 l.at_, .int .i64 l.kd, .string l.st, .int .i64 l.d, .string l.co, .slice l.ao l.ln l.cp, .int .i64 l.wh, .int .i64 l.fl] 219))
  clear hI hB ht1 ht2 hk hrow hb c0 hL hs
  obtain ⟨q, hq⟩ : ∃ q, q = w.heap.size := ⟨_, rfl⟩
  go_enter Tryz.func149, Tryz.ntmps149
  go_wp2_with fail
  rw [← hq] at HLB ⊢
  clear hq
  generalize w.alloc (.cells #[.int .i64 l.at_, .int .i64 l.kd, .string l.st, .int .i64 l.d, .string l.co, .slice l.ao l.ln l.cp, .int .i64 l.wh, .int .i64 l.fl] 219) = W1 at *
  refine HCN.out.mono ?_
  rintro e w1 ⟨rfl, b, rfl, hb⟩
  have HBB := hide (hb.trans HT.out.symm)
  have hlb := HLB.out
  have d2 : w1.cell? ⟨q, 2, none⟩ = some (.string l.st) := by simp [World.cell?, hlb]
  have HKEY := hide (fun (v' : Value) (w3 : World) (hown : w3.ownsRow wL.heap.size 9 1 v' ((stNames pre).length + 1) ((stNames pre).map Value.string ++ [.string l.st])) (hg : (w1.alloc (.cells #[.string l.st] 9)).grownBy w3 (Value.slice ao (stNames pre).length cap).ownBlock) => Nms.push (wC := wC) (HI.out.alloc _) HK.out (heap_alloc_old HBX.out) (row_new HROW.out _) hN hNL (HB.out.alloc HB.out.size _) hown hg)
  have HR2 := hide (row_new HROW.out (.cells #[.string l.st] 9))
  have hszz : wL.heap.size ≤ w1.heap.size + 1 := by have := HI.out.size; omega
  clear hb hlb HT HCN HI HB HK HROW HBX HLB
  go_wp2_with (at_builtin; refine wpList_append_own _ rfl _ _ 61 rfl wL.heap.size 9 i0 (.string ⟨#[]⟩) 1 16 Tryz.underlying61 hi hz0 hz1 hz3 rfl (by decide) (.slice ao (stNames pre).length cap) (stNames pre).length ((stNames pre).map Value.string) rfl HR2.out ⟨w1.heap.size, 0, none⟩ 1 1 [.string l.st] rfl rfl (by exact cell_new_row w1 #[.string l.st] _) (by simp [Value.oneCell']) (by unfold maxLen; omega) (by omega) (by simpa using hszz) ?_; intro v' w3 hown hg _; obtain ⟨k1, k2, k3, k4⟩ := HKEY.out v' w3 hown hg; obtain ⟨g', cap', rfl⟩ := own_form hown (by omega); have HK1 := hide k1; have HK2 := hide k2; clear hown hg k1 k2)
  go_ret
  exact ⟨b, rfl, HBB.out, ⟨HK2.out, HK1.out.size, HK1.out.keep⟩, fun _ => HK1.out⟩
 ·have q1 : ((l.kd : Int) != 1) = true := by rw [bne_iff_ne]; omega
  have HN : ∀ o, Nms wL N (pre ++ [l]) (w.alloc o) := fun o => ⟨by have := hI.size; simp; omega, fun b h1 h2 => (Below.heap_alloc _ _ _ (Nat.lt_of_lt_of_le h1 hI.size)).trans (hI.keep b h1 h2), v, heap_alloc_old hb, by
    rw [stNames_snoc, if_neg hk, List.append_nil]; exact row_new hrow o⟩
  have HEND := hide (fun o => show ∃ b, Ending.returned (.bool false) = .returned (.bool b) ∧ (b = true ↔ pTwice (pre.map PLn.pr) l.x) ∧ GX wC wL (· = N) (w.alloc o) ∧ (b = false → Nms wL N (pre ++ [l]) (w.alloc o)) from
   ⟨false, rfl, ⟨fun h => (by cases h), fun h => absurd h (ht1 hk)⟩, ⟨hB.alloc hB.size o, (HN o).size, (HN o).keep⟩, fun _ => HN o⟩)
  clear HN
  clear hI hB ht1 ht2 hk hrow hb
  go_enter Tryz.func149, Tryz.ntmps149
  go_wp2_with fail
  go_ret
  exact HEND.out _
def nSt (pre : List PLn) : Nat := ((pre.map PLn.pr).filter (·.2.isState)).length
def nRl (pre : List PLn) : Nat := ((pre.map PLn.pr).filter (·.2.isRule)).length
theorem nSt_snoc (pre : List PLn) (l : PLn) : nSt (pre ++ [l]) = nSt pre + if l.x.isState = true then 1 else 0 := by
 unfold nSt
 rw [List.map_append, List.filter_append, List.length_append]
 by_cases h : l.x.isState = true <;> simp [PLn.pr, h]
theorem nRl_snoc (pre : List PLn) (l : PLn) : nRl (pre ++ [l]) = nRl pre + if l.x.isRule = true then 1 else 0 := by
 unfold nRl
 rw [List.map_append, List.filter_append, List.length_append]
 by_cases h : l.x.isRule = true <;> simp [PLn.pr, h]
structure Cnt (wL : World) (S R : Nat) (pre : List PLn) (w : World) : Prop where
 size : wL.heap.size ≤ w.heap.size
 keep : ∀ b, b < wL.heap.size → b ≠ S → b ≠ R → w.heap[b]? = wL.heap[b]?
 st : w.heap[S]? = some (.cells #[.int .i64 (nSt pre : Nat)] 3 (0, 0))
 rl : w.heap[R]? = some (.cells #[.int .i64 (nRl pre : Nat)] 3 (0, 0))
 le : nSt pre ≤ 12 ∧ nRl pre ≤ 40
theorem Cnt.after {wL : World} {S R : Nat} {pre : List PLn} {w W : World} {l : PLn} {a b : Int} (h : Cnt wL S R pre w) (hsz : w.heap.size ≤ W.heap.size) (hk : ∀ k, k < w.heap.size → k ≠ S → k ≠ R → W.heap[k]? = w.heap[k]?) (hS : W.heap[S]? = some (.cells #[.int .i64 a] 3 (0, 0))) (hR : W.heap[R]? = some (.cells #[.int .i64 b] 3 (0, 0))) (ha : a = (nSt (pre ++ [l]) : Nat)) (hb : b = (nRl (pre ++ [l]) : Nat)) (hle : nSt (pre ++ [l]) ≤ 12 ∧ nRl (pre ++ [l]) ≤ 40) : Cnt wL S R (pre ++ [l]) W :=
 ⟨Nat.le_trans h.size hsz, fun k h1 h2 h3 => (hk k (Nat.lt_of_lt_of_le h1 h.size) h2 h3).trans (h.keep k h1 h2 h3), by rw [hS, ha], by rw [hR, hb], hle⟩
theorem many_iff {pre : List PLn} {l : PLn} (h1 : nSt pre ≤ 12) (h2 : nRl pre ≤ 40) : pMany (pre.map PLn.pr) l.x ↔ (12 < nSt (pre ++ [l]) ∨ 40 < nRl (pre ++ [l])) := by
 rw [nSt_snoc, nRl_snoc]
 unfold pMany
 show l.x.nb = true ∧ (12 < nSt pre + _ ∨ 40 < nRl pre + _) ↔ _
 cases hx : l.x with
 | blank => simp [Ln.nb, Ln.isState, Ln.isRule]; omega
 | state n => simp [Ln.nb, Ln.isState, Ln.isRule]
 | rule d o c p => simp [Ln.nb, Ln.isState, Ln.isRule]
set_option maxRecDepth 20000 in
set_option maxHeartbeats 1000000 in
theorem many_any (wC wL : World) (B S R : Nat) (sv : Value) (ls : List PLn) (hL : Lines wC B sv ls) (hS : wC.heap.size ≤ S) (hR : wC.heap.size ≤ R) (hne : S ≠ R) :
  Prd (GX wC wL (fun b => b = S ∨ b = R)) ls pMany 151 #[.pointer (some ⟨S, 0, none⟩), .pointer (some ⟨R, 0, none⟩)] (Cnt wL S R) := by
 rintro pre l post w hs ⟨hB, -⟩ hI
 have hmi := many_iff (l := l) hI.le.1 hI.le.2
 have hks := kind_state (hL.each l (by rw [hs]; simp))
 have e1 := nSt_snoc pre l
 have e2 := nRl_snoc pre l
 have hle := hI.le
 show Calls Tryz.prog _ #[l.agg, .pointer (some ⟨S, 0, none⟩), .pointer (some ⟨R, 0, none⟩)] w _
 unfold PLn.agg
 have HEND := hide (fun (W : World) (a b : Nat) (hb : Below wC.heap.size wC W) (hsz : w.heap.size ≤ W.heap.size) (hk : ∀ k, k < w.heap.size → k ≠ S → k ≠ R → W.heap[k]? = w.heap[k]?) (hS : W.heap[S]? = some (.cells #[.int .i64 (a : Int)] 3 (0, 0))) (hR : W.heap[R]? = some (.cells #[.int .i64 (b : Int)] 3 (0, 0))) (ha : a = nSt (pre ++ [l])) (hbb : b = nRl (pre ++ [l])) => show ∃ x, Ending.returned (.bool (decide (12 < a) || decide (40 < b))) = .returned (.bool x) ∧ (x = true ↔ pMany (pre.map PLn.pr) l.x) ∧ GX wC wL (fun b => b = S ∨ b = R) W ∧ (x = false → Cnt wL S R (pre ++ [l]) W) from
  ⟨_, rfl, by rw [hmi, ← ha, ← hbb]; simp, ⟨hb, Nat.le_trans hI.size hsz, fun k h1 h2 => (hk k (Nat.lt_of_lt_of_le h1 hI.size) (fun h => h2 (.inl h)) (fun h => h2 (.inr h))).trans (hI.keep k h1 (fun h => h2 (.inl h)) (fun h => h2 (.inr h)))⟩, fun hx => hI.after hsz hk hS hR (by rw [ha]) (by rw [hbb]) (by simp at hx; omega)⟩)
 have HST := hide (heap_alloc_old (o := (.cells #[.int .i64 l.at_, .int .i64 l.kd, .string l.st, .int .i64 l.d, .string l.co, .slice l.ao l.ln l.cp, .int .i64 l.wh, .int .i64 l.fl] 219)) hI.st)
 have HRL := hide (heap_alloc_old (o := (.cells #[.int .i64 l.at_, .int .i64 l.kd, .string l.st, .int .i64 l.d, .string l.co, .slice l.ao l.ln l.cp, .int .i64 l.wh, .int .i64 l.fl] 219)) hI.rl)
 have HB := hide (hB.alloc hB.size (.cells #[.int .i64 l.at_, .int .i64 l.kd, .string l.st, .int .i64 l.d, .string l.co, .slice l.ao l.ln l.cp, .int .i64 l.wh, .int .i64 l.fl] 219))
 have HWK := hide (fun k (hk : k < w.heap.size) => Below.heap_alloc w (.cells #[.int .i64 l.at_, .int .i64 l.kd, .string l.st, .int .i64 l.d, .string l.co, .slice l.ao l.ln l.cp, .int .i64 l.wh, .int .i64 l.fl] 219) k hk)
 obtain ⟨a, ha⟩ : ∃ a, a = nSt pre := ⟨_, rfl⟩
 obtain ⟨b, hb⟩ : ∃ b, b = nRl pre := ⟨_, rfl⟩
 rw [← ha] at HST e1 hle
 rw [← hb] at HRL e2 hle
 have hst := HST.out
 have hrl := HRL.out
 have s0 : (w.alloc (.cells #[.int .i64 l.at_, .int .i64 l.kd, .string l.st, .int .i64 l.d, .string l.co, .slice l.ao l.ln l.cp, .int .i64 l.wh, .int .i64 l.fl] 219)).cell? ⟨S, 0, none⟩ = some (.int .i64 a) := by simp [World.cell?, hst]
 have r0 : (w.alloc (.cells #[.int .i64 l.at_, .int .i64 l.kd, .string l.st, .int .i64 l.d, .string l.co, .slice l.ao l.ln l.cp, .int .i64 l.wh, .int .i64 l.fl] 219)).cell? ⟨R, 0, none⟩ = some (.int .i64 b) := by simp [World.cell?, hrl]
 have sf : (w.alloc (.cells #[.int .i64 l.at_, .int .i64 l.kd, .string l.st, .int .i64 l.d, .string l.co, .slice l.ao l.ln l.cp, .int .i64 l.wh, .int .i64 l.fl] 219)).frozen? ⟨S, 0, none⟩ = false := by simp [World.frozen?, hst]
 have rf : (w.alloc (.cells #[.int .i64 l.at_, .int .i64 l.kd, .string l.st, .int .i64 l.d, .string l.co, .slice l.ao l.ln l.cp, .int .i64 l.wh, .int .i64 l.fl] 219)).frozen? ⟨R, 0, none⟩ = false := by simp [World.frozen?, hrl]
 have hne' : R ≠ S := Ne.symm hne
 have ha1 : a + 1 ≤ 9223372036854775807 := by omega
 have hb1 : b + 1 ≤ 9223372036854775807 := by omega
 obtain ⟨ha12, hb40⟩ := hle
 clear hst hrl
 have HW : Hid (∀ (W : World), W = w.alloc (.cells #[.int .i64 l.at_, .int .i64 l.kd, .string l.st, .int .i64 l.d, .string l.co, .slice l.ao l.ln l.cp, .int .i64 l.wh, .int .i64 l.fl] 219) → w.heap.size ≤ W.heap.size ∧ ∀ k, k < w.heap.size → W.heap[k]? = w.heap[k]?) := fun W hW => by subst hW; exact ⟨by simp, fun k hk => HWK.out k hk⟩
 by_cases hk1 : l.kd = 1
 ·have q1 : ((l.kd : Int) == 1) = true := by rw [hk1]; rfl
  rw [if_pos (hks.1.1 hk1)] at e1
  rw [if_neg (fun h => by have := hks.2.2 h; omega)] at e2
  have E1 := hide e1
  have E2 := hide e2
  have HFIN := hide (HEND.out ((w.alloc (.cells #[.int .i64 l.at_, .int .i64 l.kd, .string l.st, .int .i64 l.d, .string l.co, .slice l.ao l.ln l.cp, .int .i64 l.wh, .int .i64 l.fl] 219)).setCell ⟨S, 0, none⟩ (.int .i64 ((a + 1 : Nat) : Int))) (a + 1) b (HB.out.setCell hS _) (by simp [World.setCell]) (fun k h1 h2 h3 => (Below.heap_setCell _ _ _ _ h2).trans ((HW.out _ rfl).2 k h1)) (heap_setCell_same _ S 0 _ HST.out) (by rw [Below.heap_setCell _ _ _ _ hne']; exact HRL.out) E1.out.symm (by rw [E2.out]; omega))
  have h40 : decide ((40 : Int) < (b : Int)) = false := decide_eq_false (by omega)
  clear hI hB hmi hks e1 e2 ha hb hk1 hL hs HEND HW HWK HST HRL HB
  by_cases h12 : 12 ≤ a
  ·have q2 : decide ((12 : Int) < (a : Int) + 1) = true := decide_eq_true (by omega)
   have q3 : decide (12 < a + 1) = true := decide_eq_true (by omega)
   rw [q3, Bool.true_or] at HFIN
   clear q3
   go_enter Tryz.func151, Tryz.ntmps151
   go_wp2_with fail
   go_ret
   exact HFIN.out
  ·have q2 : decide ((12 : Int) < (a : Int) + 1) = false := decide_eq_false (by omega)
   have q3 : decide (12 < a + 1) = false := decide_eq_false (by omega)
   have q4 : decide (40 < b) = false := decide_eq_false (by omega)
   rw [q3, q4, Bool.or_false] at HFIN
   clear q3 q4
   go_enter Tryz.func151, Tryz.ntmps151
   go_wp2_with fail
   go_ret
   exact HFIN.out
 ·have q1 : ((l.kd : Int) == 1) = false := by rw [beq_eq_false_iff_ne]; omega
  rw [if_neg (fun h => hk1 (hks.1.2 h))] at e1
  have E1 := hide e1
  have q2 : decide ((12 : Int) < (a : Int)) = false := decide_eq_false (by omega)
  have q3 : decide (12 < a) = false := decide_eq_false (by omega)
  by_cases hk2 : l.kd = 2
  ·have q5 : ((l.kd : Int) == 2) = true := by rw [hk2]; rfl
   rw [if_pos (hks.2.1 hk2)] at e2
   have E2 := hide e2
   have HFIN := hide (HEND.out ((w.alloc (.cells #[.int .i64 l.at_, .int .i64 l.kd, .string l.st, .int .i64 l.d, .string l.co, .slice l.ao l.ln l.cp, .int .i64 l.wh, .int .i64 l.fl] 219)).setCell ⟨R, 0, none⟩ (.int .i64 ((b + 1 : Nat) : Int))) a (b + 1) (HB.out.setCell hR _) (by simp [World.setCell]) (fun k h1 h2 h3 => (Below.heap_setCell _ _ _ _ h3).trans ((HW.out _ rfl).2 k h1)) (by rw [Below.heap_setCell _ _ _ _ hne]; exact HST.out) (heap_setCell_same _ R 0 _ HRL.out) (by rw [E1.out]; omega) E2.out.symm)
   rw [q3, Bool.false_or] at HFIN
   clear hI hB hmi hks e1 e2 ha hb hk1 hk2 hL hs HEND HW HWK HST HRL HB q3
   by_cases h40 : 40 ≤ b
   ·have q6 : decide ((40 : Int) < (b : Int) + 1) = true := decide_eq_true (by omega)
    have q7 : decide (40 < b + 1) = true := decide_eq_true (by omega)
    rw [q7] at HFIN
    clear q7
    go_enter Tryz.func151, Tryz.ntmps151
    go_wp2_with fail
    go_ret
    exact HFIN.out
   ·have q6 : decide ((40 : Int) < (b : Int) + 1) = false := decide_eq_false (by omega)
    have q7 : decide (40 < b + 1) = false := decide_eq_false (by omega)
    rw [q7] at HFIN
    clear q7
    go_enter Tryz.func151, Tryz.ntmps151
    go_wp2_with fail
    go_ret
    exact HFIN.out
  ·have q5 : ((l.kd : Int) == 2) = false := by rw [beq_eq_false_iff_ne]; omega
   rw [if_neg (fun h => hk2 (hks.2.2 h))] at e2
   have E2 := hide e2
   have HFIN := hide (HEND.out (w.alloc (.cells #[.int .i64 l.at_, .int .i64 l.kd, .string l.st, .int .i64 l.d, .string l.co, .slice l.ao l.ln l.cp, .int .i64 l.wh, .int .i64 l.fl] 219)) a b HB.out (HW.out _ rfl).1 (fun k h1 h2 h3 => (HW.out _ rfl).2 k h1) HST.out HRL.out (by rw [E1.out]; omega) (by rw [E2.out]; omega))
   have q6 : decide ((40 : Int) < (b : Int)) = false := decide_eq_false (by omega)
   have q7 : decide (40 < b) = false := decide_eq_false (by omega)
   rw [q3, q7, Bool.or_false] at HFIN
   clear hI hB hmi hks e1 e2 ha hb hk1 hk2 hL hs HEND HW HWK HST HRL HB q3 q7
   go_enter Tryz.func151, Tryz.ntmps151
   go_wp2_with fail
   go_ret
   exact HFIN.out
end Go.Proofs.YtgncgdkpkkdaeaaGreatDoor
