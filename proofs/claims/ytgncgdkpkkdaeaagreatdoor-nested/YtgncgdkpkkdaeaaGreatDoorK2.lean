import Derived.Test.YtgncgdkpkkdaeaaGreatDoorKS21
import Derived.Test.YtgncgdkpkkdaeaaGreatDoorSh2
import Derived.Test.YtgncgdkpkkdaeaaGreatDoorKN
import Derived.Deep.RegionHeld3
namespace Go.Proofs.YtgncgdkpkkdaeaaGreatDoor
open Go.RowKit Tint Go.Maps Go.Shelf
structure SheetIs (w : World) (B bS g n cap : Nat) (text : ByteArray) (lv : Value) (ls : List LE) (work : Nat) : Prop where
 sh : w.heap[bS]? = some (.cells #[.slice (some ⟨g, 0, none⟩) n cap, .string text, lv, .int .i64 work] 134 (0, 0))
 lns : LnsIs w B lv ls
 base : B ≤ bS
 size : text.size ≤ 3000
def SNewPost (g n cap : Nat) (G : List GS) (text : ByteArray) (w : World) (e : Ending) (w' : World) : Prop :=
 ∃ bS lv ls st, e = .returned (.pointer (some ⟨bS, 0, none⟩)) ∧ Below w.heap.size w w' ∧ SheetIs w' w.heap.size bS g n cap text lv ls ls.length ∧ Runs G [0] (splitL text.data.toList) (ls.map LE.pr) st
set_option maxRecDepth 20000 in
set_option maxHeartbeats 4000000 in
theorem sheetNew_any (N g n cap : Nat) (G : List GS) (text : ByteArray) (w : World) (hok : GOk G) (hpos : 0 < G.length) (hz : text.size ≤ 3000) (hT : Tab w) (h0 : 1 < N) (hG : ∀ w', Below N w w' → GramIs w' g n cap G) (hN : N ≤ w.heap.size) (hM : Mx w) (hMN : 0 < N) :
  Calls Tryz.prog 40 #[.slice (some ⟨g, 0, none⟩) n cap, .string text] w (SNewPost g n cap G text w) := by
 have HCL := hide (strClone_any text w (by omega))
 go_enter Tryz.func40, Tryz.ntmps40
 go_wp2_with fail
 refine HCL.out.mono ?_
 rintro e1 w1 ⟨rfl, hb1⟩
 obtain ⟨bS, hbS⟩ : ∃ bS, bS = w1.heap.size := ⟨_, rfl⟩
 obtain ⟨w2, hw2⟩ : ∃ w2, w1.alloc (.cells #[.slice (some ⟨g, 0, none⟩) n cap, .string text, .slice none 0 0, .int .i64 0] 134) = w2 := ⟨_, rfl⟩
 have hb2 : Below w.heap.size w w2 := by rw [← hw2]; exact hb1.alloc hb1.size _
 have hS2 : w2.heap[bS]? = some (.cells #[.slice (some ⟨g, 0, none⟩) n cap, .string text, .slice none 0 0, .int .i64 0] 134 (0, 0)) := by rw [← hw2]; exact heap_alloc_at _ _ _ hbS
 have s1 : w2.cell? ⟨bS, 1, none⟩ = some (.string text) := cell_at hS2 rfl
 clear HCL
 go_wp2_with fail
 rw [← hbS]
 obtain ⟨c, hc⟩ : ∃ c, c = Lib.countByte text.data.toList 10 := ⟨_, rfl⟩
 obtain ⟨tc, htc⟩ : ∃ tc, tc = 1 + c := ⟨_, rfl⟩
 have hcc : c ≤ text.size := by rw [hc, ← text_length]; exact List.count_le_length
 have hwr : IntKind.i64.wrap (1 + (c : Int)) = (tc : Int) := by rw [IntKind.wrap_i64, htc]; omega
 have HBT := hide (bottom_any w2.drew)
 have HCN := hide (fun w3 => Tryz.strings_Count_one text 10 w3)
 rw [← hc] at HCN
 have hgood : Good G [0] := ⟨⟨by simp, by simp⟩, fun x hx => by rw [List.mem_singleton.1 hx]; exact hpos⟩
 have hlen : (splitL text.data.toList).length = tc + ([] : List (List Nat)).length := by rw [splitL_length, htc, hc]; rfl
 have HCO := hide (fun (w3 : World) (hb3 : Below w2.drew.heap.size w2.drew w3) => show (w3.cell? ⟨bS, 1, none⟩ = some (.string text)) ∧ Calls Tryz.prog 69 #[.pointer (some ⟨bS, 0, none⟩), .string text, stv [0], .int .i64 tc, .slice none 0 0] w3 (ColPost bS g n cap G text.data.toList [0] tc [] text (.slice none 0 0) 0 w3) from by
  have hb3' : Below w2.heap.size w2 w3 := ⟨hb3.os, hb3.tape, hb3.output, hb3.size, hb3.block⟩
  have hbw : Below w.heap.size w w3 := hb2.trans (hb3'.mono hb2.size)
  have hS3 := (hb3'.block _ (lt_of_get hS2)).trans hS2
  have hM3 := hM.below hbw
  refine ⟨cell_at hS3 rfl, colour_any N bS g n cap G text [0] tc (.slice none 0 0) [] text (.slice none 0 0) 0 w3 hok hgood hz (by omega) (hT.keep (hbw.block _ (by omega))) h0 (fun w' hb => hG w' ((hbw.mono hN).trans hb)) (by have := hb1.size; omega) hM3 hMN hS3 ⟨none, 0, rfl, by simp, fun j st h => by simp at h⟩ hlen⟩)
 have HB2 := hide hb2
 have HLEN := hide hlen
 have hbb : w.heap.size ≤ bS := by rw [hbS]; exact hb1.size
 clear hb2 hb1 hS2 hbS hw2 hc htc hlen hG hM hT hgood
 go_region_held3 (fun w' => w'.cell? ⟨bS, 1, none⟩ = some (.string text))
  (first
   | with_reducible exact z3
   | with_reducible exact z1
   | with_reducible exact t1
   | go_keep)
  (first
   | (go_at_call 70; refine HBT.out.mono ?_; clear HBT; rintro e3 w3 ⟨rfl, hb3⟩; obtain ⟨t1, hco⟩ := HCO.out w3 hb3; have HCO3 := hide hco; have HB3 := hide hb3; clear HCO hco hb3)
   | (go_at_call 71; refine (HCN.out w3).mono ?_; clear HCN; rintro e4 w4 ⟨rfl, h4⟩; subst h4)
   | (go_at_call 69; refine HCO3.out.mono ?_; clear HCO3; rintro e5 w5 ⟨v, ls, st, rfl, hl5, hr5, hg5, hle5, hs5, ho5, _, hf5⟩; have z1 : w5.cell? ⟨bS, 1, none⟩ = some (.string text) := (cell_at hs5 rfl); have z2 : w5.cell? ⟨bS, 2, none⟩ = some (.slice none 0 0) := (cell_at hs5 rfl); have z2f : w5.frozen? ⟨bS, 2, none⟩ = false := (by simp [World.frozen?, hs5]); obtain ⟨vao, vc, hv⟩ := row_slice hl5.row; subst hv; have z3 : (w5.setCell ⟨bS, 2, none⟩ (.slice vao ls.length vc)).cell? ⟨bS, 1, none⟩ = some (.string text) := (cell_at (heap_setCell_same w5 bS 2 (.slice vao ls.length vc) hs5) rfl); have HL5 := hide hl5; have HR5 := hide hr5; have HLE5 := hide hle5; have HS5 := hide hs5; have HO5 := hide ho5; have HF5 := hide hf5; clear hl5 hr5 hg5 hle5 hs5 ho5 hf5))
 all_goals
  have HEND := hide (show SNewPost g n cap G text w (.returned (.pointer (some ⟨bS, 0, none⟩))) (w5.setCell ⟨bS, 2, none⟩ (.slice vao ls.length vc)) from by
   have hb3 : Below w2.heap.size w2 w4 := ⟨HB3.out.os, HB3.out.tape, HB3.out.output, HB3.out.size, HB3.out.block⟩
   have hbw3 : Below w.heap.size w w4 := HB2.out.trans (hb3.mono HB2.out.size)
   have hll : ls.length = (splitL text.data.toList).length := by
    rcases HF5.out with h | ⟨_, h⟩
    ·exact h
    ·simp at h
   have o5 : Off (fun k => k = bS) w5 (w5.setCell ⟨bS, 2, none⟩ (.slice vao ls.length vc)) := Off.setCell (Y := fun k => k = bS) (p := ⟨bS, 2, none⟩) rfl HS5.out (by decide) _
   have oo := HO5.out.trans o5
   have hs := heap_setCell_same w5 bS 2 (.slice vao ls.length vc) HS5.out
   refine ⟨bS, .slice vao ls.length vc, ls, st, rfl, ⟨oo.os.trans hbw3.os, oo.tape.trans hbw3.tape, oo.output.trans hbw3.output, Nat.le_trans hbw3.size oo.size, fun k hk => (oo.keep k ⟨Nat.lt_of_lt_of_le hk hbw3.size, by omega⟩).trans (hbw3.block k hk)⟩, ⟨by simpa using hs, ?_, hbb, hz⟩, ?_⟩
   ·have hl := (HL5.out.off o5 (fun k hk => by rw [hk]; exact HL5.out.other HS5.out (fun c => ⟨by simp, by simp⟩)))
    exact ⟨row_base hl.row hbw3.size, fun x hx => ⟨(hl.each x hx).1, row_base (hl.each x hx).2 hbw3.size⟩⟩
   ·have hr := HR5.out
    rw [hll, List.take_length] at hr
    exact hr)
  clear HL5 HR5 HLE5 HS5 HO5 HF5 HB3 z1 z2 z2f z3
  go_wp2_with fail
  go_ret
  exact HEND.out
def OpenPost (g n cap : Nat) (G : List GS) (text : ByteArray) (w : World) (e : Ending) (w' : World) : Prop :=
 Below w.heap.size w w' ∧ ((3000 < text.size ∧ e = .returned (.tuple #[.pointer none, .int .i64 1])) ∨
  (text.size ≤ 3000 ∧ ∃ bX bS lv ls st, e = .returned (.tuple #[.pointer (some ⟨bX, 0, none⟩), .int .i64 0]) ∧ w'.heap[bX]? = some (.cells #[.pointer (some ⟨bS, 0, none⟩)] 46 (0, 0)) ∧ w.heap.size ≤ bX ∧ SheetIs w' w.heap.size bS g n cap text lv ls ls.length ∧ Runs G [0] (splitL text.data.toList) (ls.map LE.pr) st))
set_option maxHeartbeats 1000000 in
theorem open_any (N P g n cap : Nat) (G : List GS) (text : ByteArray) (w : World) (hP : w.heap[P]? = some (.cells #[.slice (some ⟨g, 0, none⟩) n cap] 38 (0, 0))) (hn : 0 < n) (hok : GOk G) (hpos : 0 < G.length) (hT : Tab w) (h0 : 1 < N) (hG : ∀ w', Below N w w' → GramIs w' g n cap G) (hN : N ≤ w.heap.size) (hM : Mx w) (hMN : 0 < N) :
  Calls Tryz.prog 15 #[.pointer (some ⟨P, 0, none⟩), .string text] w (OpenPost g n cap G text w) := by
 have c0 := cell_one hP
 have g0 : ((n : Int) == 0) = false := by rw [beq_eq_false_iff_ne]; omega
 by_cases hz : text.size ≤ 3000
 ·have g1 : decide ((3000 : Int) < (text.size : Int)) = false := decide_eq_false (by omega)
  have HNW := hide (sheetNew_any N g n cap G text w hok hpos hz hT h0 hG hN hM hMN)
  clear hP hok hT hG hM
  go_enter Tryz.func15, Tryz.ntmps15
  go_wp2_with fail
  refine HNW.out.mono ?_
  rintro e1 w1 ⟨bS, lv, ls, st, rfl, hb, hs, hr⟩
  have HEND := hide (show OpenPost g n cap G text w (.returned (.tuple #[.pointer (some ⟨w1.heap.size, 0, none⟩), .int .i64 0])) (w1.alloc (.cells #[.pointer (some ⟨bS, 0, none⟩)] 46)) from by
   have hb1 : Below w1.heap.size w1 (w1.alloc (.cells #[.pointer (some ⟨bS, 0, none⟩)] 46)) := (Below.refl _ _).alloc (Nat.le_refl _) _
   exact ⟨hb.alloc hb.size _, .inr ⟨hz, w1.heap.size, bS, lv, ls, st, rfl, heap_alloc_last _ _, hb.size, ⟨heap_alloc_old hs.sh, hs.lns.below hb1, hs.base, hs.size⟩, hr⟩⟩)
  clear hb hs hr HNW
  go_wp2_with fail
  go_ret2
  exact HEND.out
 ·have g1 : decide ((3000 : Int) < (text.size : Int)) = true := decide_eq_true (by omega)
  clear hP hok hT hG hM
  go_enter Tryz.func15, Tryz.ntmps15
  go_wp2_with fail
  go_ret2
  exact ⟨Below.refl _ _, .inl ⟨by omega, rfl⟩⟩
theorem closed_any (bX bS : Nat) (w : World) (h : w.heap[bX]? = some (.cells #[.pointer (some ⟨bS, 0, none⟩)] 46 (0, 0))) : Calls Tryz.prog 49 #[.pointer (some ⟨bX, 0, none⟩)] w fun e w' => e = .returned (.bool false) ∧ w' = w := by
 have c0 := cell_one h
 go_enter Tryz.func49, Tryz.ntmps49
 go_wp2_with fail
 go_ret
 exact ⟨rfl, rfl⟩
section
variable {w : World} {B bX bS g n cap : Nat} {text : ByteArray} {lv : Value} {ls : List LE} {work : Nat}
theorem txRead_any (h : SheetIs w B bS g n cap text lv ls work) (hx : w.heap[bX]? = some (.cells #[.pointer (some ⟨bS, 0, none⟩)] 46 (0, 0))) : Calls Tryz.prog 28 #[.pointer (some ⟨bX, 0, none⟩)] w fun e w' => e = .returned (.string text) ∧ w' = w := by
 have c0 := cell_one hx
 have c1 : w.cell? ⟨bS, 1, none⟩ = some (.string text) := cell_at h.sh rfl
 go_enter Tryz.func28, Tryz.ntmps28
 go_wp2
 go_ret
 exact ⟨rfl, rfl⟩
theorem txWork_any (h : SheetIs w B bS g n cap text lv ls work) (hx : w.heap[bX]? = some (.cells #[.pointer (some ⟨bS, 0, none⟩)] 46 (0, 0))) : Calls Tryz.prog 31 #[.pointer (some ⟨bX, 0, none⟩)] w fun e w' => e = .returned (.int .i64 work) ∧ w' = w := by
 have c0 := cell_one hx
 have c1 : w.cell? ⟨bS, 3, none⟩ = some (.int .i64 work) := cell_at h.sh rfl
 go_enter Tryz.func31, Tryz.ntmps31
 go_wp2
 go_ret
 exact ⟨rfl, rfl⟩
theorem txLines_any (h : SheetIs w B bS g n cap text lv ls work) (hx : w.heap[bX]? = some (.cells #[.pointer (some ⟨bS, 0, none⟩)] 46 (0, 0))) : Calls Tryz.prog 23 #[.pointer (some ⟨bX, 0, none⟩)] w fun e w' => e = .returned (.int .i64 ls.length) ∧ w' = w := by
 have c0 := cell_one hx
 obtain ⟨ao, c, hv⟩ := row_slice h.lns.row
 subst hv
 have c1 : w.cell? ⟨bS, 2, none⟩ = some (.slice ao ls.length c) := cell_at h.sh rfl
 go_enter Tryz.func23, Tryz.ntmps23
 go_wp2
 go_ret
 exact ⟨rfl, rfl⟩
theorem lineFault_any (i : Int) (h : SheetIs w B bS g n cap text lv ls work) (hx : w.heap[bX]? = some (.cells #[.pointer (some ⟨bS, 0, none⟩)] 46 (0, 0))) : Calls Tryz.prog 51 #[.pointer (some ⟨bX, 0, none⟩), .int .i64 i] w fun e w' => e = .returned (.int .i64 (if 0 ≤ i ∧ i < ls.length then 0 else 8)) ∧ w' = w := by
 have c0 := cell_one hx
 obtain ⟨ao, c, hv⟩ := row_slice h.lns.row
 subst hv
 have c1 : w.cell? ⟨bS, 2, none⟩ = some (.slice ao ls.length c) := cell_at h.sh rfl
 by_cases h0 : i < 0
 ·have g0 : decide (i < 0) = true := decide_eq_true h0
  rw [if_neg (by omega)]
  go_enter Tryz.func51, Tryz.ntmps51
  go_wp2
  go_ret
  exact ⟨rfl, rfl⟩
 ·have g0 : decide (i < 0) = false := decide_eq_false h0
  by_cases h1 : i < ls.length
  ·have g1 : decide ((ls.length : Int) ≤ i) = false := decide_eq_false (by omega)
   rw [if_pos (by omega)]
   go_enter Tryz.func51, Tryz.ntmps51
   go_wp2
   go_ret
   exact ⟨rfl, rfl⟩
  ·have g1 : decide ((ls.length : Int) ≤ i) = true := decide_eq_true (by omega)
   rw [if_neg (by omega)]
   go_enter Tryz.func51, Tryz.ntmps51
   go_wp2
   go_ret
   exact ⟨rfl, rfl⟩
end
end Go.Proofs.YtgncgdkpkkdaeaaGreatDoor
