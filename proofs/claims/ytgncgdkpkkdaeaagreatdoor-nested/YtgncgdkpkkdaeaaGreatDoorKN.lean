import Derived.Test.YtgncgdkpkkdaeaaGreatDoorKM
import Derived.Deep.RegionHeld3
namespace Go.Proofs.YtgncgdkpkkdaeaaGreatDoor
open Go.RowKit Tint
theorem strClone_any (s : ByteArray) (w : World) (h : s.size ≤ 281474976710656) : Calls Tryz.prog 68 #[.string s] w fun e w' => e = .returned (.string s) ∧ Below w.heap.size w w' := by
 have HC := hide (Tryz.stringslite_Clone s w h)
 go_enter Tryz.func68, Tryz.ntmps68
 go_wp2_with fail
 refine HC.out.mono ?_
 rintro e w1 ⟨rfl, hb⟩
 have HB := hide hb
 clear hb
 go_wp2_with fail
 go_ret
 exact ⟨rfl, HB.out⟩
structure PRl where
 k : Nat
 op : Nat
 co : ByteArray
 ao : Option Addr
 ln : Nat
 cp : Nat
 wh : Nat
def PRl.cells (r : PRl) : List Value := [.int .i64 r.k, .int .i64 r.op, .string r.co, .slice r.ao r.ln r.cp, .int .i64 r.wh]
structure PSt where
 nm : ByteArray
 ao : Option Addr
 ln : Nat
 cp : Nat
 rs : List PRl
def PSt.el (s : PSt) : El := ⟨[.string s.nm], .slice s.ao s.ln s.cp, [], s.rs.map PRl.cells⟩
def States (w : World) (B : Nat) (sv : Value) (ss : List PSt) : Prop := Nest w B 213 231 2 5 sv (ss.map PSt.el)
theorem States.below {w w' : World} {B : Nat} {sv : Value} {ss : List PSt} (h : States w B sv ss) (hb : Below w.heap.size w w') : States w' B sv ss := Nest.below h hb
theorem States.form {w : World} {B : Nat} {sv : Value} {ss : List PSt} (h : States w B sv ss) : ∃ ao cap, sv = .slice ao ss.length cap ∧ (0 < ss.length → ∃ g, ao = some ⟨g, 0, none⟩) := by
 have h1 := h.outer
 rw [List.length_map] at h1
 rcases h1.2 with ⟨h1, h0⟩ | ⟨g, cap, cur, h1, _⟩
 ·exact ⟨none, 0, by rw [h1, h0], fun h => by omega⟩
 ·exact ⟨some ⟨g, 0, none⟩, cap, h1, fun _ => ⟨g, rfl⟩⟩
theorem States.cells {w : World} {B g cap : Nat} {ss : List PSt} (h : States w B (.slice (some ⟨g, 0, none⟩) ss.length cap) ss) {i : Nat} {s : PSt} (hi : ss[i]? = some s) :
  w.cell? ⟨g, i * 2, none⟩ = some (.string s.nm) ∧ w.cell? ⟨g, i * 2 + 1, none⟩ = some (.slice s.ao s.ln s.cp) := by
 have h1 := h.outer
 rw [List.length_map] at h1
 have hi' : (ss.map PSt.el)[i]? = some s.el := by rw [List.getElem?_map, hi]; rfl
 have f := fun j (hj : j < 2) (u : Value) (hu : s.el.cells[j]? = some u) => (row_cell h1 (show ((ss.map PSt.el).flatMap El.cells)[i * 2 + j]? = some u by rw [flatMap_get h.sized hi' j hj]; exact hu)).1
 exact ⟨f 0 (by omega) _ rfl, f 1 (by omega) _ rfl⟩
set_option maxRecDepth 20000 in
set_option maxHeartbeats 1000000 in
theorem mk1_any (L : Nat) (st : ByteArray) (s : PSt) (w : World) (c : w.cell? ⟨L, 2, none⟩ = some (.string st)) :
  Calls Tryz.prog 158 #[.agg #[.string s.nm, .slice s.ao s.ln s.cp], .pointer (some ⟨L, 0, none⟩)] w (OpPost (Below w.heap.size w) (s.nm.data.toList = st.data.toList)) := by
 have c' := cell_alloc_old c (.cells #[.string s.nm, .slice s.ao s.ln s.cp] 213)
 have HG := hide ((Below.refl w.heap.size w).alloc (Nat.le_refl _) (.cells #[.string s.nm, .slice s.ao s.ln s.cp] 213))
 by_cases hq : s.nm.data.toList = st.data.toList
 ·have q2 : (s.nm.toList == st.toList) = true := by rw [ByteArray.toList_eq, ByteArray.toList_eq, hq]; simp
  have HX := hide hq
  clear hq
  go_enter Tryz.func158, Tryz.ntmps158
  go_wp2_with fail
  go_ret
  exact OpPost.yes HX.out HG.out
 ·have q2 : (s.nm.toList == st.toList) = false := by rw [beq_eq_false_iff_ne, ByteArray.toList_eq, ByteArray.toList_eq]; exact hq
  have HX := hide hq
  clear hq
  go_enter Tryz.func158, Tryz.ntmps158
  go_wp2_with fail
  go_ret
  exact OpPost.no HX.out HG.out
set_option maxRecDepth 20000 in
theorem enters_mk1 : Enters 158 := fun _ _ => by rfl
def IxPost (w : World) (ss : List PSt) (st : ByteArray) (e : Ending) (w' : World) : Prop :=
 Below w.heap.size w w' ∧ ((∃ (j : Nat) (s : PSt), e = .returned (.int .i64 j) ∧ ss[j]? = some s ∧ s.nm.data.toList = st.data.toList) ∨ (e = .returned (.int .i64 (-1)) ∧ ∀ s ∈ ss, s.nm.data.toList ≠ st.data.toList))
def IxLoop (w : World) (ss : List PSt) (st : ByteArray) (k : Nat) (i : Value) (wr : World) : Prop :=
 ∃ j : Nat, i = .int .i64 j ∧ j + k = ss.length ∧ Below w.heap.size w wr ∧ ∀ s ∈ ss.take j, s.nm.data.toList ≠ st.data.toList
set_option maxRecDepth 20000 in
set_option maxHeartbeats 2000000 in
theorem indexSt_any (B L : Nat) (sv : Value) (ss : List PSt) (st : ByteArray) (w : World) (hL : States w B sv ss) (c : w.cell? ⟨L, 2, none⟩ = some (.string st)) (hb : ∃ o, w.heap[L]? = some o) (hz : ss.length ≤ 1000000) :
  Calls Tryz.prog 157 #[sv, .func (.func 158) #[] #[.pointer (some ⟨L, 0, none⟩)]] w (IxPost w ss st) := by
 obtain ⟨ao, cap, rfl, hao⟩ := hL.form
 have HL := hide hL
 have HAO := hide hao
 have HC := hide (fun (w' : World) (hbw : Below w.heap.size w w') => show w'.cell? ⟨L, 2, none⟩ = some (.string st) by
  obtain ⟨o, ho⟩ := hb
  have := hbw.block L (lt_of_get ho)
  rw [← c]; simp only [World.cell?, this])
 have he := enters_mk1
 unfold Enters at he
 clear hL hao c hb
 go_enter Tryz.func157, Tryz.ntmps157
 go_wp2_with fail
 go_loopg [8] ss.length (fun k i wr => IxLoop w ss st k i wr)
 case atStart => exact ⟨0, rfl, by omega, Below.refl _ _, fun s hs => by simp at hs⟩
 case round =>
  obtain ⟨j, rfl, hk, hBw, hf⟩ := hrel
  by_cases hlt : j < ss.length
  ·have g1 : decide ((j : Int) < (ss.length : Int)) = true := decide_eq_true (by omega)
   obtain ⟨q, rfl⟩ := HAO.out (by omega)
   obtain ⟨s, hs⟩ : ∃ s, ss[j]? = some s := ⟨ss[j], List.getElem?_eq_getElem hlt⟩
   have htk : ss.take (j + 1) = ss.take j ++ [s] := by
    have hl' := hs
    rw [List.getElem?_eq_getElem hlt] at hl'
    rw [List.take_succ_eq_append_getElem hlt, Option.some.inj hl']
   obtain ⟨c0, c1⟩ := (HL.out.below hBw).cells hs
   have HPR := hide (mk1_any L st s wr (HC.out wr hBw))
   have HF := hide hf
   have HS := hide hs
   have HTK := hide htk
   have HBW := hide hBw
   have hi1 : j + 1 ≤ 9223372036854775807 := by omega
   clear hf hs htk hBw
   go_wp2_with fail
   refine HPR.out.mono ?_
   rintro e w1 ⟨b, rfl, hb, hB1⟩
   have hB1' := HBW.out.trans (hB1.mono HBW.out.size)
   cases b with
   | true =>
    have HEND := hide (show IxPost w ss st (.returned (.int .i64 j)) w1 from ⟨hB1', .inl ⟨j, s, rfl, HS.out, hb.1 rfl⟩⟩)
    clear hb hB1 hB1' HPR HF HS HTK HBW
    go_wp2_with fail
    go_ret
    exact HEND.out
   | false =>
    have HST := hide (show IxLoop w ss st (gk - 1) (.int .i64 ((j + 1 : Nat) : Int)) w1 from ⟨j + 1, rfl, by omega, hB1', by
     rw [HTK.out]
     intro s' hs'
     rcases List.mem_append.1 hs' with h | h
     ·exact HF.out s' h
     ·rw [List.mem_singleton.1 h]; exact fun h => by have := hb.2 h; cases this⟩)
    clear hb hB1 hB1' HPR HF HS HTK HBW
    go_wp2_with fail
    go_roundg (gk - 1)
    case measure => omega
    case rel => exact HST.out
  ·have g1 : decide ((j : Int) < (ss.length : Int)) = false := decide_eq_false (by omega)
   have HEND := hide (show IxPost w ss st (.returned (.int .i64 (-1))) wr from ⟨hBw, .inr ⟨rfl, by rw [List.take_of_length_le (by omega)] at hf; exact hf⟩⟩)
   clear hf hBw
   go_wp2_with fail
   go_ret
   exact HEND.out
def MkPost (w : World) (ss : List PSt) (l : PLn) (e : Ending) (w' : World) : Prop :=
 Below w.heap.size w w' ∧ ∃ op : Nat, e = .returned (.agg #[.int .i64 l.d, .int .i64 op, .string l.co, .slice l.ao l.ln l.cp, .int .i64 l.wh]) ∧ (l.d = 1 → ∃ s, ss[op]? = some s ∧ s.nm.data.toList = l.st.data.toList) ∧ (l.d ≠ 1 → op = 0)
theorem set5 {w : World} {k t : Nat} {a0 a1 a2 a3 a4 : Value} (h : w.heap[k]? = some (.cells #[a0, a1, a2, a3, a4] t (0, 0))) (b0 b1 b2 b3 b4 : Value) :
  let X := ((((w.setCell ⟨k, 0, none⟩ b0).setCell ⟨k, 1, none⟩ b1).setCell ⟨k, 2, none⟩ b2).setCell ⟨k, 3, none⟩ b3).setCell ⟨k, 4, none⟩ b4
  X.heap[k]? = some (.cells #[b0, b1, b2, b3, b4] t (0, 0)) ∧ (∀ j, j ≠ k → X.heap[j]? = w.heap[j]?) ∧ (∀ B, B ≤ k → Below B w X) ∧ X.heap.size = w.heap.size := by
 refine ⟨?_, fun j hj => ?_, fun B hB => ?_, by simp [World.setCell]⟩
 ·exact heap_setCell_same _ k 4 _ (heap_setCell_same _ k 3 _ (heap_setCell_same _ k 2 _ (heap_setCell_same _ k 1 _ (heap_setCell_same _ k 0 _ h))))
 ·rw [Below.heap_setCell _ _ _ _ hj, Below.heap_setCell _ _ _ _ hj, Below.heap_setCell _ _ _ _ hj, Below.heap_setCell _ _ _ _ hj, Below.heap_setCell _ _ _ _ hj]
 ·exact (((((Below.refl B w).setCell hB _).setCell hB _).setCell hB _).setCell hB _).setCell hB _
theorem cells5 {w : World} {k t : Nat} {a0 a1 a2 a3 a4 : Value} (h : w.heap[k]? = some (.cells #[a0, a1, a2, a3, a4] t (0, 0))) :
  w.cell? ⟨k, 0, none⟩ = some a0 ∧ w.cell? ⟨k, 1, none⟩ = some a1 ∧ w.cell? ⟨k, 2, none⟩ = some a2 ∧ w.cell? ⟨k, 3, none⟩ = some a3 ∧ w.cell? ⟨k, 4, none⟩ = some a4 ∧ w.frozen? ⟨k, 0, none⟩ = false ∧ w.frozen? ⟨k, 1, none⟩ = false ∧ w.frozen? ⟨k, 2, none⟩ = false ∧ w.frozen? ⟨k, 3, none⟩ = false ∧ w.frozen? ⟨k, 4, none⟩ = false := by
 simp [World.cell?, World.frozen?, h]
set_option maxRecDepth 20000 in
set_option maxHeartbeats 4000000 in
theorem makeRule_any (B : Nat) (sv : Value) (ss : List PSt) (l : PLn) (w : World) (hL : States w B sv ss) (hz : ss.length ≤ 1000000) (hco : l.co.size ≤ 281474976710656) (hop : l.d = 1 → ∃ s ∈ ss, s.nm.data.toList = l.st.data.toList) :
  Calls Tryz.prog 116 #[l.agg, sv] w (MkPost w ss l) := by
 obtain ⟨ao, cap, rfl, hao⟩ := hL.form
 unfold PLn.agg
 have HL := hide hL
 have HOP := hide hop
 clear hL hao hop
 go_enter Tryz.func116, Tryz.ntmps116
 go_wp2_with fail
 obtain ⟨q, hq⟩ : ∃ q, q = w.heap.size := ⟨_, rfl⟩
 rw [← hq]
 have HB0 := hide (show Below w.heap.size w ((w.alloc (.cells #[.int .i64 l.at_, .int .i64 l.kd, .string l.st, .int .i64 l.d, .string l.co, .slice l.ao l.ln l.cp, .int .i64 l.wh, .int .i64 l.fl] 219)).alloc (.cells #[.int .i64 0, .int .i64 0, .string ⟨#[]⟩, .slice none 0 0, .int .i64 0] 231)) from ((Below.refl _ _).alloc (Nat.le_refl _) _).alloc (by simp) _)
 have hq0 : ((w.alloc (.cells #[.int .i64 l.at_, .int .i64 l.kd, .string l.st, .int .i64 l.d, .string l.co, .slice l.ao l.ln l.cp, .int .i64 l.wh, .int .i64 l.fl] 219)).alloc (.cells #[.int .i64 0, .int .i64 0, .string ⟨#[]⟩, .slice none 0 0, .int .i64 0] 231)).heap[q]? = some (.cells #[.int .i64 l.at_, .int .i64 l.kd, .string l.st, .int .i64 l.d, .string l.co, .slice l.ao l.ln l.cp, .int .i64 l.wh, .int .i64 l.fl] 219) := by subst hq; exact heap_alloc_old (heap_alloc_last _ _)
 have hq1 : ((w.alloc (.cells #[.int .i64 l.at_, .int .i64 l.kd, .string l.st, .int .i64 l.d, .string l.co, .slice l.ao l.ln l.cp, .int .i64 l.wh, .int .i64 l.fl] 219)).alloc (.cells #[.int .i64 0, .int .i64 0, .string ⟨#[]⟩, .slice none 0 0, .int .i64 0] 231)).heap[q + 1]? = some (.cells #[.int .i64 0, .int .i64 0, .string ⟨#[]⟩, .slice none 0 0, .int .i64 0] 231) := heap_alloc_at _ _ _ (by rw [hq]; simp)
 have HQW := hide (show ((w.alloc (.cells #[.int .i64 l.at_, .int .i64 l.kd, .string l.st, .int .i64 l.d, .string l.co, .slice l.ao l.ln l.cp, .int .i64 l.wh, .int .i64 l.fl] 219)).alloc (.cells #[.int .i64 0, .int .i64 0, .string ⟨#[]⟩, .slice none 0 0, .int .i64 0] 231)).heap.size = q + 2 by rw [hq]; simp)
 generalize ((w.alloc (.cells #[.int .i64 l.at_, .int .i64 l.kd, .string l.st, .int .i64 l.d, .string l.co, .slice l.ao l.ln l.cp, .int .i64 l.wh, .int .i64 l.fl] 219)).alloc (.cells #[.int .i64 0, .int .i64 0, .string ⟨#[]⟩, .slice none 0 0, .int .i64 0] 231)) = W at *
 have HQ := hide hq
 clear hq
 have d1 : W.cell? ⟨q, 1, none⟩ = some (.int .i64 l.kd) := by simp [World.cell?, hq0]
 have d2 : W.cell? ⟨q, 2, none⟩ = some (.string l.st) := by simp [World.cell?, hq0]
 have d3 : W.cell? ⟨q, 3, none⟩ = some (.int .i64 l.d) := by simp [World.cell?, hq0]
 have d4 : W.cell? ⟨q, 4, none⟩ = some (.string l.co) := by simp [World.cell?, hq0]
 have d5 : W.cell? ⟨q, 5, none⟩ = some (.slice l.ao l.ln l.cp) := by simp [World.cell?, hq0]
 have d6 : W.cell? ⟨q, 6, none⟩ = some (.int .i64 l.wh) := by simp [World.cell?, hq0]
 have HQ0 := hide hq0
 have HQ1 := hide hq1
 clear hq0 hq1
 have HBK := hide (fun (w5 : World) (hb : Below (W.alloc (.cells #[.int .i64 0, .int .i64 0, .string ⟨#[]⟩, .slice none 0 0, .int .i64 0] 231)).drew.heap.size (W.alloc (.cells #[.int .i64 0, .int .i64 0, .string ⟨#[]⟩, .slice none 0 0, .int .i64 0] 231)).drew w5) => show Below w.heap.size w w5 ∧ q + 3 ≤ w5.heap.size ∧ (w5.cell? ⟨q, 3, none⟩ = some (.int .i64 l.d) ∧ w5.cell? ⟨q, 4, none⟩ = some (.string l.co) ∧ w5.cell? ⟨q, 5, none⟩ = some (.slice l.ao l.ln l.cp) ∧ w5.cell? ⟨q, 6, none⟩ = some (.int .i64 l.wh)) ∧ (w5.heap[q]? = W.heap[q]? ∧ w5.heap[q + 1]? = W.heap[q + 1]?) ∧ w5.heap[W.heap.size]? = some (.cells #[.int .i64 0, .int .i64 0, .string ⟨#[]⟩, .slice none 0 0, .int .i64 0] 231) ∧ (w5.cell? ⟨W.heap.size, 0, none⟩ = some (.int .i64 0) ∧ w5.cell? ⟨W.heap.size, 1, none⟩ = some (.int .i64 0) ∧ w5.cell? ⟨W.heap.size, 2, none⟩ = some (.string ⟨#[]⟩) ∧ w5.cell? ⟨W.heap.size, 3, none⟩ = some (.slice none 0 0) ∧ w5.cell? ⟨W.heap.size, 4, none⟩ = some (.int .i64 0) ∧ w5.frozen? ⟨W.heap.size, 0, none⟩ = false ∧ w5.frozen? ⟨W.heap.size, 1, none⟩ = false ∧ w5.frozen? ⟨W.heap.size, 2, none⟩ = false ∧ w5.frozen? ⟨W.heap.size, 3, none⟩ = false ∧ w5.frozen? ⟨W.heap.size, 4, none⟩ = false) from by
  have h0 := (hb.block q (show q < (W.alloc (.cells #[.int .i64 0, .int .i64 0, .string ⟨#[]⟩, .slice none 0 0, .int .i64 0] 231)).heap.size by have := HQW.out; simp; omega)).trans (Below.heap_alloc _ _ _ (by have := HQW.out; omega))
  have h0' := h0.trans HQ0.out
  have h0b := (hb.block (q + 1) (show q + 1 < (W.alloc (.cells #[.int .i64 0, .int .i64 0, .string ⟨#[]⟩, .slice none 0 0, .int .i64 0] 231)).heap.size by have := HQW.out; simp; omega)).trans (Below.heap_alloc _ _ _ (by have := HQW.out; omega))
  have h1 : w5.heap[W.heap.size]? = some (.cells #[.int .i64 0, .int .i64 0, .string ⟨#[]⟩, .slice none 0 0, .int .i64 0] 231) := (hb.block W.heap.size (show W.heap.size < (W.alloc (.cells #[.int .i64 0, .int .i64 0, .string ⟨#[]⟩, .slice none 0 0, .int .i64 0] 231)).heap.size by simp)).trans (heap_alloc_last _ _)
  exact ⟨(HB0.out.alloc HB0.out.size _).drew.trans (hb.mono (by have := (HB0.out.alloc HB0.out.size (.cells #[.int .i64 0, .int .i64 0, .string ⟨#[]⟩, .slice none 0 0, .int .i64 0] 231)).size; exact this)), by have := hb.size; have h2 := HQW.out; simp at this; omega, by simp [World.cell?, h0'], ⟨h0, h0b⟩, h1, by simp [World.cell?, World.frozen?, h1]⟩)
 have HBM := hide (fun (w5 : World) (hb : Below W.drew.heap.size W.drew w5) => show Below w.heap.size w w5 ∧ q + 2 ≤ w5.heap.size ∧ (w5.cell? ⟨q, 3, none⟩ = some (.int .i64 l.d) ∧ w5.cell? ⟨q, 4, none⟩ = some (.string l.co) ∧ w5.cell? ⟨q, 5, none⟩ = some (.slice l.ao l.ln l.cp) ∧ w5.cell? ⟨q, 6, none⟩ = some (.int .i64 l.wh)) ∧ w5.heap[q]? = W.heap[q]? ∧ w5.heap[q + 1]? = W.heap[q + 1]? from by
  have h0 := (hb.block q (show q < W.heap.size by have := HQW.out; omega))
  have h0' := h0.trans HQ0.out
  exact ⟨HB0.out.drew.trans (hb.mono HB0.out.size), by have := hb.size; have h2 := HQW.out; simp at this; omega, by simp [World.cell?, h0'], h0, hb.block (q + 1) (show q + 1 < W.heap.size by have := HQW.out; omega)⟩)
 have hne1 : W.heap.size ≠ q := by have := HQW.out; omega
 have hne2 : q ≠ W.heap.size := by have := HQW.out; omega
 go_region_held3 (fun w' => w'.cell? ⟨q, 3, none⟩ = some (.int .i64 l.d) ∧ w'.cell? ⟨q, 4, none⟩ = some (.string l.co) ∧ w'.cell? ⟨q, 5, none⟩ = some (.slice l.ao l.ln l.cp) ∧ w'.cell? ⟨q, 6, none⟩ = some (.int .i64 l.wh))
  (first
   | with_reducible exact hS5
   | go_keep)
  (first
   | (
     go_at_call 68; refine (strClone_any l.co _ hco).mono ?_; rintro e w5 ⟨rfl, hb5⟩; first
     | ((with_reducible have hX := HBK.out w5 hb5); obtain ⟨hb5a, hb5b, hS5, hb5c, hb5d, r0, r1, r2, r3, r4, f0, f1, f2, f3, f4⟩ := hX; have HB5 := hide hb5a; have HS5 := hide hb5b; have HQ50 := hide hb5c; have HQ51 := hide hb5d; clear hb5 hb5a hb5b hb5c hb5d)
     | ((with_reducible have hX := HBM.out w5 hb5); obtain ⟨hb5a, hb5b, hS5, hb5c⟩ := hX; have HB5 := hide hb5a; have HS5 := hide hb5b; have HQ50 := hide hb5c; clear hb5 hb5a hb5b hb5c)))
 all_goals first
  | (
    
    obtain ⟨x1, x2, x3, x4⟩ := set5 HQ51.out (.int .i64 l.d) (.int .i64 0) (.string l.co) (.slice l.ao l.ln l.cp) (.int .i64 l.wh)
    generalize hX : ((((w5.setCell ⟨W.heap.size, 0, none⟩ (.int .i64 l.d)).setCell ⟨W.heap.size, 1, none⟩ (.int .i64 0)).setCell ⟨W.heap.size, 2, none⟩ (.string l.co)).setCell ⟨W.heap.size, 3, none⟩ (.slice l.ao l.ln l.cp)).setCell ⟨W.heap.size, 4, none⟩ (.int .i64 l.wh) = X at *
    have HX0 := hide (show X.heap[q]? = some (.cells #[.int .i64 l.at_, .int .i64 l.kd, .string l.st, .int .i64 l.d, .string l.co, .slice l.ao l.ln l.cp, .int .i64 l.wh, .int .i64 l.fl] 219) ∧ X.heap[W.heap.size]? = some (.cells #[.int .i64 l.d, .int .i64 0, .string l.co, .slice l.ao l.ln l.cp, .int .i64 l.wh] 231) ∧ Below w.heap.size w X ∧ W.heap.size ≠ q ∧ w.heap.size ≤ W.heap.size ∧ W.heap.size < X.heap.size ∧ X.heap[q + 1]? = some (.cells #[.int .i64 0, .int .i64 0, .string ⟨#[]⟩, .slice none 0 0, .int .i64 0] 231) ∧ W.heap.size ≠ q + 1 from ⟨(x2 q hne2).trans (HQ50.out.1.trans HQ0.out), x1, HB5.out.trans (x3 _ HB0.out.size), hne1, HB0.out.size, by have := HS5.out; have h2 := HQW.out; omega, (x2 (q + 1) (by have h2 := HQW.out; omega)).trans (HQ50.out.2.trans HQ1.out), by have h2 := HQW.out; omega⟩)
    clear x1 x2 x3 x4 hX r0 r1 r2 r3 r4 f0 f1 f2 f3 f4 HQ51
    obtain ⟨R, hR⟩ : ∃ R, R = W.heap.size := ⟨_, rfl⟩
    rw [← hR] at HX0 ⊢
    have HX : Hid (X.heap[q]? = some (.cells #[.int .i64 l.at_, .int .i64 l.kd, .string l.st, .int .i64 l.d, .string l.co, .slice l.ao l.ln l.cp, .int .i64 l.wh, .int .i64 l.fl] 219) ∧ X.heap[R]? = some (.cells #[.int .i64 l.d, .int .i64 0, .string l.co, .slice l.ao l.ln l.cp, .int .i64 l.wh] 231) ∧ Below w.heap.size w X ∧ R ≠ q ∧ w.heap.size ≤ R ∧ R < X.heap.size ∧ X.heap[q + 1]? = some (.cells #[.int .i64 0, .int .i64 0, .string ⟨#[]⟩, .slice none 0 0, .int .i64 0] 231) ∧ R ≠ q + 1) := HX0
    clear HX0 hR)
  | (
    
    have HX0 := hide (show (w5.alloc (.cells #[.int .i64 l.d, .int .i64 0, .string l.co, .slice l.ao l.ln l.cp, .int .i64 l.wh] 231)).heap[q]? = some (.cells #[.int .i64 l.at_, .int .i64 l.kd, .string l.st, .int .i64 l.d, .string l.co, .slice l.ao l.ln l.cp, .int .i64 l.wh, .int .i64 l.fl] 219) ∧ (w5.alloc (.cells #[.int .i64 l.d, .int .i64 0, .string l.co, .slice l.ao l.ln l.cp, .int .i64 l.wh] 231)).heap[w5.heap.size]? = some (.cells #[.int .i64 l.d, .int .i64 0, .string l.co, .slice l.ao l.ln l.cp, .int .i64 l.wh] 231) ∧ Below w.heap.size w (w5.alloc (.cells #[.int .i64 l.d, .int .i64 0, .string l.co, .slice l.ao l.ln l.cp, .int .i64 l.wh] 231)) ∧ w5.heap.size ≠ q ∧ w.heap.size ≤ w5.heap.size ∧ w5.heap.size < (w5.alloc (.cells #[.int .i64 l.d, .int .i64 0, .string l.co, .slice l.ao l.ln l.cp, .int .i64 l.wh] 231)).heap.size ∧ (w5.alloc (.cells #[.int .i64 l.d, .int .i64 0, .string l.co, .slice l.ao l.ln l.cp, .int .i64 l.wh] 231)).heap[q + 1]? = some (.cells #[.int .i64 0, .int .i64 0, .string ⟨#[]⟩, .slice none 0 0, .int .i64 0] 231) ∧ w5.heap.size ≠ q + 1 from ⟨heap_alloc_old (HQ50.out.1.trans HQ0.out), heap_alloc_last _ _, HB5.out.alloc HB5.out.size _, by have := HS5.out; omega, HB5.out.size, by simp, heap_alloc_old (HQ50.out.2.trans HQ1.out), by have := HS5.out; omega⟩)
    obtain ⟨R, hR⟩ : ∃ R, R = w5.heap.size := ⟨_, rfl⟩
    rw [← hR] at HX0 ⊢
    generalize w5.alloc (.cells #[.int .i64 l.d, .int .i64 0, .string l.co, .slice l.ao l.ln l.cp, .int .i64 l.wh] 231) = X at *
    have HX : Hid (X.heap[q]? = some (.cells #[.int .i64 l.at_, .int .i64 l.kd, .string l.st, .int .i64 l.d, .string l.co, .slice l.ao l.ln l.cp, .int .i64 l.wh, .int .i64 l.fl] 219) ∧ X.heap[R]? = some (.cells #[.int .i64 l.d, .int .i64 0, .string l.co, .slice l.ao l.ln l.cp, .int .i64 l.wh] 231) ∧ Below w.heap.size w X ∧ R ≠ q ∧ w.heap.size ≤ R ∧ R < X.heap.size ∧ X.heap[q + 1]? = some (.cells #[.int .i64 0, .int .i64 0, .string ⟨#[]⟩, .slice none 0 0, .int .i64 0] 231) ∧ R ≠ q + 1) := HX0
    clear HX0 hR)
 all_goals
  clear HBK HBM HQ0 HQ1 HB0 HQW HB5 HS5 HQ50 hS5 d1 d2 d3 d4 d5 d6 hne1 hne2
  have hx0 := HX.out.1
  have d3 : X.cell? ⟨q, 3, none⟩ = some (.int .i64 l.d) := by simp [World.cell?, hx0]
  obtain ⟨r0, r1, r2, r3, r4, -⟩ := cells5 HX.out.2.1
  obtain ⟨s0, s1, s2, s3, s4, f0, f1, f2, f3, f4⟩ := cells5 HX.out.2.2.2.2.2.2.1
  clear hx0
  by_cases hd : l.d = 1
  ·have q1 : ((l.d : Int) == 1) = true := by rw [hd]; rfl
   have HD := hide hd
   have HSX := hide (HL.out.below HX.out.2.2.1)
   have d2 : X.cell? ⟨q, 2, none⟩ = some (.string l.st) := by have hx0 := HX.out.1; simp [World.cell?, hx0]
   have HIX := hide (indexSt_any B q (.slice ao ss.length cap) ss l.st X HSX.out d2 ⟨_, HX.out.1⟩ hz)
   clear hd d2 HSX
   go_wp2_with fail
   refine HIX.out.mono ?_
   rintro e X1 ⟨hb1, ⟨j, t, rfl, ht, hnm⟩ | ⟨rfl, hno⟩⟩
   ·have hR1 := (hb1.block R HX.out.2.2.2.2.2.1).trans HX.out.2.1
    have hQ1 := (hb1.block (q + 1) (lt_of_get HX.out.2.2.2.2.2.2.1)).trans HX.out.2.2.2.2.2.2.1
    have hn1 := HX.out.2.2.2.2.2.2.2
    have hn2 := Ne.symm hn1
    have HW1 := hide (HX.out.2.2.1.trans (hb1.mono HX.out.2.2.1.size))
    have HEND := hide (show MkPost w ss l (.returned (.agg #[.int .i64 l.d, .int .i64 j, .string l.co, .slice l.ao l.ln l.cp, .int .i64 l.wh])) ((((((X1.setCell ⟨R, 1, none⟩ (.int .i64 j)).setCell ⟨q + 1, 0, none⟩ (.int .i64 l.d)).setCell ⟨q + 1, 1, none⟩ (.int .i64 j)).setCell ⟨q + 1, 2, none⟩ (.string l.co)).setCell ⟨q + 1, 3, none⟩ (.slice l.ao l.ln l.cp)).setCell ⟨q + 1, 4, none⟩ (.int .i64 l.wh)) from ⟨(HW1.out.setCell HX.out.2.2.2.2.1 _).trans ((set5 ((Below.heap_setCell _ _ _ _ hn2).trans hQ1) _ _ _ _ _).2.2.1 _ (by have := HQ.out; omega)), j, rfl, fun _ => ⟨t, ht, hnm⟩, fun h => absurd HD.out h⟩)
    clear r0 r1 r2 r3 r4 s0 s1 s2 s3 s4 f0 f1 f2 f3 f4
    obtain ⟨r0, r1, r2, r3, r4, -, e1, -⟩ := cells5 hR1
    obtain ⟨s0, s1, s2, s3, s4, f0, f1, f2, f3, f4⟩ := cells5 hQ1
    clear hb1 ht hnm hR1 hQ1 HX HIX HW1 d3
    go_wp2_with fail
    exact bodyPost_ret (v := .agg #[.int .i64 l.d, .int .i64 j, .string l.co, .slice l.ao l.ln l.cp, .int .i64 l.wh]) (by simp [results, Tryz.results116, go_sem, *]) rfl HEND.out
   ·obtain ⟨t, ht, hnm⟩ := HOP.out HD.out
    exact absurd hnm (hno t ht)
  ·have q1 : ((l.d : Int) == 1) = false := by rw [beq_eq_false_iff_ne]; omega
   have HEND := hide (show MkPost w ss l (.returned (.agg #[.int .i64 l.d, .int .i64 (0 : Nat), .string l.co, .slice l.ao l.ln l.cp, .int .i64 l.wh])) (((((X.setCell ⟨q + 1, 0, none⟩ (.int .i64 l.d)).setCell ⟨q + 1, 1, none⟩ (.int .i64 0)).setCell ⟨q + 1, 2, none⟩ (.string l.co)).setCell ⟨q + 1, 3, none⟩ (.slice l.ao l.ln l.cp)).setCell ⟨q + 1, 4, none⟩ (.int .i64 l.wh)) from ⟨HX.out.2.2.1.trans ((set5 HX.out.2.2.2.2.2.2.1 _ _ _ _ _).2.2.1 _ (by have := HQ.out; omega)), 0, rfl, fun h => absurd h hd, fun _ => rfl⟩)
   clear hd HX
   go_wp2_with fail
   exact bodyPost_ret (v := .agg #[.int .i64 l.d, .int .i64 0, .string l.co, .slice l.ao l.ln l.cp, .int .i64 l.wh]) (by simp [results, Tryz.results116, go_sem, *]) rfl HEND.out
theorem info_State : (Tryz.prog.info? 213).map (fun i => (i.zero, i.size, i.bytes)) = some (some (.agg #[.string ⟨#[]⟩, .slice none 0 0]), 2, 40) := by kernel_rfl
theorem info_Rule : (Tryz.prog.info? 231).map (fun i => (i.zero, i.size, i.bytes)) = some (some (.agg #[.int .i64 0, .int .i64 0, .string ⟨#[]⟩, .slice none 0 0, .int .i64 0]), 5, 64) := by kernel_rfl
def newSt (n : ByteArray) : PSt := ⟨n, none, 0, 0, []⟩
theorem States.row {w : World} {B : Nat} {sv : Value} {ss : List PSt} (h : States w B sv ss) : w.ownsRow B 213 2 sv ss.length ((ss.map PSt.el).flatMap El.cells) := by
 have := h.outer
 rwa [List.length_map] at this
theorem States.push {W w3 : World} {B : Nat} {sv v' : Value} {ss : List PSt} {n : ByteArray} (h : States W B sv ss) (hB : B ≤ W.heap.size)
  (hown : w3.ownsRow B 213 2 v' (ss.length + 1) ((ss.map PSt.el).flatMap El.cells ++ [.string n, .slice none 0 0])) (hg : W.grownBy w3 sv.ownBlock) : States w3 B v' (ss ++ [newSt n]) ∧ Below B W w3 := by
 refine ⟨?_, below_grown hB hg fun k e => (row_type h.outer e).1⟩
 have := Nest.push (x := (newSt n).el) h (by decide) rfl rfl rfl (by rw [List.length_map]; exact hown) hg
 unfold States
 rw [List.map_append]
 exact this
def B1Loop (w : World) (ls : List PLn) (k : Nat) (vs : Value) (i : Value) (wr : World) : Prop :=
 ∃ (j : Nat) (ss : List PSt), i = .int .i64 j ∧ j + k = ls.length ∧ Below w.heap.size w wr ∧ States wr w.heap.size vs ss ∧ ss = (stNames (ls.take j)).map newSt
theorem States.grow {W w3 : World} {B g n cap m ln' cp' : Nat} {ao' : Option Addr} {ss : List PSt} {s : PSt} {r : PRl} (h : States W B (.slice (some ⟨g, 0, none⟩) n cap) ss) (hB : B ≤ W.heap.size) (hi : ss[m]? = some s)
  (hown : w3.ownsRow B 231 5 (.slice ao' ln' cp') (s.rs.length + 1) ((s.rs.map PRl.cells).flatten ++ r.cells)) (hg : W.grownBy w3 (Value.slice s.ao s.ln s.cp).ownBlock) (hnew : (Value.slice ao' ln' cp').ownBlock = (Value.slice s.ao s.ln s.cp).ownBlock ∨ (Value.slice ao' ln' cp').ownBlock = some W.heap.size) :
  States (w3.setCell ⟨g, m * 2 + 1, none⟩ (.slice ao' ln' cp')) B (.slice (some ⟨g, 0, none⟩) n cap) (ss.set m ⟨s.nm, ao', ln', cp', s.rs ++ [r]⟩) ∧ Below B W (w3.setCell ⟨g, m * 2 + 1, none⟩ (.slice ao' ln' cp')) ∧ w3.cell? ⟨g, m * 2 + 1, none⟩ = some (.slice s.ao s.ln s.cp) ∧ w3.frozen? ⟨g, m * 2 + 1, none⟩ = false := by
 have hie : (ss.map PSt.el)[m]? = some s.el := by rw [List.getElem?_map, hi]; rfl
 have hm : s.el ∈ ss.map PSt.el := List.mem_of_getElem? hie
 obtain ⟨hgB, c2, hgc⟩ := row_type (k := g) h.outer rfl
 have hN := Nest.grow (w' := w3) (v' := .slice ao' ln' cp') (r := r.cells) h (by decide) hie rfl (by rw [show s.el.rs.length = s.rs.length from List.length_map ..]; exact hown) hg hnew
 have hb : Below B W w3 := below_grown hB hg (fun k e => (row_type (h.inner _ hm) e).1)
 have hgne : some g ≠ (Value.slice s.ao s.ln s.cp).ownBlock := fun e => by
  obtain ⟨_, c1, h1⟩ := row_type (h.inner _ hm) e.symm
  rw [h1] at hgc
  simp only [Option.some.injEq, Obj.cells.injEq] at hgc
  exact absurd hgc.2.1 (by decide)
 have h3 : w3.heap[g]? = W.heap[g]? := hg.block g (lt_of_get hgc) hgne
 have hrow := h.row
 have hn : n = ss.length := by
  rcases hrow.2 with ⟨h0, _⟩ | ⟨g', cap', cur, e1, _⟩
  ·cases h0
  ·cases e1; rfl
 subst hn
 have hc := row_cell hrow (j := m * 2 + 1) (u := .slice s.ao s.ln s.cp) (by rw [flatMap_get h.sized hie 1 (by omega)]; rfl)
 refine ⟨?_, hb.setCell hgB _, ?_, ?_⟩
 ·have e2 : ((ss.set m ⟨s.nm, ao', ln', cp', s.rs ++ [r]⟩).map PSt.el) = (ss.map PSt.el).set m { s.el with rv := .slice ao' ln' cp', rs := s.el.rs ++ [r.cells] } := by
   rw [List.map_set]
   simp [PSt.el]
  unfold States
  rw [e2]
  exact hN
 ·rw [← hc.1]; simp only [World.cell?, h3]
 ·rw [← hc.2]; simp only [World.frozen?, h3]
def RlIs (names : List ByteArray) (l : PLn) (r : PRl) : Prop :=
 r.k = l.d ∧ r.co = l.co ∧ r.ao = l.ao ∧ r.ln = l.ln ∧ r.cp = l.cp ∧ r.wh = l.wh ∧ (l.d = 1 → ∃ n, names[r.op]? = some n ∧ n.data.toList = l.st.data.toList) ∧ (l.d ≠ 1 → r.op = 0)
def sec : Nat → List PLn → Nat → List PLn
 | _, [], _ => []
 | c, l :: t, i => if l.kd = 1 then sec (c + 1) t i else if l.kd = 2 ∧ i + 1 = c then l :: sec c t i else sec c t i
theorem sec_snoc (pre : List PLn) (l : PLn) (i : Nat) : ∀ c, sec c (pre ++ [l]) i = sec c pre i ++ (if l.kd = 2 ∧ i + 1 = c + (stNames pre).length then [l] else []) := by
 induction pre with
 | nil =>
  intro c
  have hs : (stNames []).length = 0 := rfl
  rw [hs, Nat.add_zero]
  simp only [List.nil_append, sec]
  by_cases h1 : l.kd = 1
  ·rw [if_pos h1, if_neg (fun h => by omega)]
  ·rw [if_neg h1]; simp
 | cons a t ih =>
  intro c
  have hs : (stNames (a :: t)).length = (if a.kd = 1 then 1 else 0) + (stNames t).length := by
   unfold stNames
   rw [List.filterMap_cons]
   by_cases h : a.kd = 1 <;> simp [h]; omega
  simp only [List.cons_append, sec]
  rw [hs]
  by_cases h1 : a.kd = 1
  ·rw [if_pos h1, if_pos h1, if_pos h1, ih]
   simp only [Nat.add_assoc]
  ·rw [if_neg h1, if_neg h1, if_neg h1, Nat.zero_add]
   by_cases h2 : a.kd = 2 ∧ i + 1 = c
   ·rw [if_pos h2, if_pos h2, ih]; rfl
   ·rw [if_neg h2, if_neg h2, ih]
def Zip (R : PLn → PRl → Prop) (xs : List PLn) (bs : List PRl) : Prop := xs.length = bs.length ∧ ∀ (j : Nat) a b, xs[j]? = some a → bs[j]? = some b → R a b
theorem Zip.snoc {R : PLn → PRl → Prop} {xs : List PLn} {bs : List PRl} {a : PLn} {b : PRl} (h : Zip R xs bs) (hab : R a b) : Zip R (xs ++ [a]) (bs ++ [b]) := by
 refine ⟨by simp [h.1], fun j x y hx hy => ?_⟩
 rcases Nat.lt_or_ge j xs.length with hj | hj
 ·rw [List.getElem?_append_left hj] at hx
  rw [List.getElem?_append_left (by rw [← h.1]; exact hj)] at hy
  exact h.2 j x y hx hy
 ·rw [List.getElem?_append_right hj] at hx
  rw [List.getElem?_append_right (by rw [← h.1]; exact hj)] at hy
  have h1 := List.mem_singleton.1 (List.mem_of_getElem? hx)
  have h2 := List.mem_singleton.1 (List.mem_of_getElem? hy)
  rw [h1, h2]; exact hab
def BInv (names : List ByteArray) (pre : List PLn) (ss : List PSt) : Prop :=
 ss.map PSt.nm = names ∧ ∀ i s, ss[i]? = some s → Zip (RlIs names) (sec 0 pre i) s.rs
theorem BInv.start (names : List ByteArray) : BInv names [] (names.map newSt) := by
 refine ⟨by rw [List.map_map]; exact List.map_id' _, fun i s hs => ?_⟩
 rw [List.getElem?_map] at hs
 cases hn : names[i]? with
 | none => rw [hn] at hs; cases hs
 | some n => rw [hn] at hs; cases hs; exact ⟨rfl, fun j a b h => by simp [sec] at h⟩
theorem BInv.other {names : List ByteArray} {pre : List PLn} {ss : List PSt} {l : PLn} (h : BInv names pre ss) (hk : l.kd ≠ 2) : BInv names (pre ++ [l]) ss :=
 ⟨h.1, fun i s hs => by rw [sec_snoc, if_neg (fun h => hk h.1), List.append_nil]; exact h.2 i s hs⟩
theorem BInv.rule {names : List ByteArray} {pre : List PLn} {ss : List PSt} {l : PLn} {m ln' cp' : Nat} {ao' : Option Addr} {s : PSt} {r : PRl} (h : BInv names pre ss) (hk : l.kd = 2) (hm : (stNames pre).length = m + 1) (hi : ss[m]? = some s) (hr : RlIs names l r) : BInv names (pre ++ [l]) (ss.set m ⟨s.nm, ao', ln', cp', s.rs ++ [r]⟩) := by
 refine ⟨?_, fun i t ht => ?_⟩
 ·rw [List.map_set]
  rw [← h.1]
  refine List.ext_getElem? fun j => ?_
  rw [List.getElem?_set]
  split
  ·rename_i e
   subst e
   have := get_lt hi
   rw [if_pos (by simpa using this), List.getElem?_map, hi]; rfl
  ·rfl
 ·rw [sec_snoc]
  rw [List.getElem?_set] at ht
  by_cases e : m = i
  ·subst e
   rw [if_pos rfl, if_pos (get_lt hi)] at ht
   cases ht
   rw [if_pos ⟨hk, by omega⟩]
   exact (h.2 m s hi).snoc hr
  ·rw [if_neg e] at ht
   rw [if_neg (fun h => e (by omega)), List.append_nil]
   exact h.2 i t ht
def cv : Nat → Value
 | 0 => .int .i64 (-1)
 | m + 1 => .int .i64 m
def B2Loop (w : World) (ls : List PLn) (sv : Value) (k : Nat) (vc : Value) (i : Value) (wr : World) : Prop :=
 ∃ (j : Nat) (ss : List PSt), i = .int .i64 j ∧ j + k = ls.length ∧ vc = cv (stNames (ls.take j)).length ∧ Below w.heap.size w wr ∧ States wr w.heap.size sv ss ∧ BInv (stNames ls) (ls.take j) ss
def BuildPost (w : World) (ls : List PLn) (e : Ending) (w' : World) : Prop :=
 Below w.heap.size w w' ∧ ∃ (sv : Value) (ss : List PSt), e = .returned sv ∧ States w' w.heap.size sv ss ∧ BInv (stNames ls) ls ss
set_option maxRecDepth 20000 in
set_option maxHeartbeats 2000000 in
theorem build_any (B : Nat) (sv : Value) (ls : List PLn) (w : World) (hL : Lines w B sv ls) (hz : ls.length ≤ 1000000) (hco : ∀ l ∈ ls, (l.kd = 2 → l.co.size ≤ 281474976710656) ∧ (l.kd = 1 → l.st.size ≤ 281474976710656)) (hord : ∀ pre l post, ls = pre ++ l :: post → l.kd = 2 → 0 < (stNames pre).length) (hop : ∀ l ∈ ls, l.d = 1 → ∃ n ∈ stNames ls, n.data.toList = l.st.data.toList) :
  Calls Tryz.prog 83 #[sv] w (BuildPost w ls) := by
 obtain ⟨ao, cap, rfl, hao⟩ := hL.form
 have HL := hide hL
 have HAO := hide hao
 have HCO := hide hco
 have HORD := hide hord
 have HOP := hide hop
 clear hL hao hco hord hop
 go_enter Tryz.func83, Tryz.ntmps83
 go_wp2_with fail
 go_loopg [3, 11] ls.length (fun k vs i wr => B1Loop w ls k vs i wr)
 case atStart => exact ⟨0, [], rfl, by omega, Below.refl _ _, Nest.nil _ _ _ _ _ _, rfl⟩
 case round =>
  obtain ⟨j, ss, rfl, hk, hBw, hS, hss⟩ := hrel
  have hssl : ss.length ≤ 1000000 := by
   rw [hss, List.length_map]
   have h1 : (stNames (ls.take j)).length ≤ (ls.take j).length := List.length_filterMap_le ..
   rw [List.length_take] at h1
   omega
  by_cases hlt : j < ls.length
  ·have g1 : decide ((j : Int) < (ls.length : Int)) = true := decide_eq_true (by omega)
   obtain ⟨q, rfl⟩ := HAO.out (by omega)
   obtain ⟨l, hl⟩ : ∃ l, ls[j]? = some l := ⟨ls[j], List.getElem?_eq_getElem hlt⟩
   have htk : ls.take (j + 1) = ls.take j ++ [l] := by
    have hl' := hl
    rw [List.getElem?_eq_getElem hlt] at hl'
    rw [List.take_succ_eq_append_getElem hlt, Option.some.inj hl']
   obtain ⟨c0, c1, c2, c3, c4, c5, c6, c7⟩ := (HL.out.below hBw).cells hl
   have hi1 : j + 1 ≤ 9223372036854775807 := by omega
   have HBA := hide (hBw.alloc hBw.size (.cells #[.int .i64 l.at_, .int .i64 l.kd, .string l.st, .int .i64 l.d, .string l.co, .slice l.ao l.ln l.cp, .int .i64 l.wh, .int .i64 l.fl] 219))
   have HSA := hide (hS.below ((Below.refl wr.heap.size wr).alloc (Nat.le_refl _) (.cells #[.int .i64 l.at_, .int .i64 l.kd, .string l.st, .int .i64 l.d, .string l.co, .slice l.ao l.ln l.cp, .int .i64 l.wh, .int .i64 l.fl] 219)))
   have HCS := hide (HCO.out l (List.mem_of_getElem? hl)).2
   have HSS := hide (show (stNames (ls.take (j + 1))).map newSt = if l.kd = 1 then ss ++ [newSt l.st] else ss from by
    rw [htk, stNames_snoc, List.map_append, ← hss]; split <;> simp)
   clear hl htk hBw hS hss
   by_cases hk1 : l.kd = 1
   ·have q1 : ((l.kd : Int) == 1) = true := by rw [hk1]; rfl
    rw [if_pos hk1] at HSS
    have HCL := hide (strClone_any l.st (wr.alloc (.cells #[.int .i64 l.at_, .int .i64 l.kd, .string l.st, .int .i64 l.d, .string l.co, .slice l.ao l.ln l.cp, .int .i64 l.wh, .int .i64 l.fl] 219)) (HCS.out hk1))
    clear hk1 HCS
    go_wp2_with fail
    refine HCL.out.mono ?_
    rintro e w1 ⟨rfl, hb1⟩
    obtain ⟨i0, hi, hz0, hz1, hz3⟩ := info_parts info_State
    have HB1 := hide (HBA.out.trans (hb1.mono HBA.out.size))
    have HS1 := hide ((HSA.out.below hb1).below ((Below.refl w1.heap.size w1).alloc (Nat.le_refl _) (.cells #[.string l.st, .slice none 0 0] 213)))
    have hsz1 : w.heap.size ≤ w1.heap.size := HB1.out.size
    have HROW := hide HS1.out.row
    have HKEY := hide (fun (v' : Value) (w3 : World) (hown : w3.ownsRow w.heap.size 213 2 v' (ss.length + 1) ((ss.map PSt.el).flatMap El.cells ++ [.string l.st, .slice none 0 0])) (hg : (w1.alloc (.cells #[.string l.st, .slice none 0 0] 213)).grownBy w3 u3.ownBlock) => show B1Loop w ls (gk - 1) v' (.int .i64 ((j + 1 : Nat) : Int)) w3 from by
     obtain ⟨h1, h2⟩ := HS1.out.push (by simp; omega) hown hg
     exact ⟨j + 1, ss ++ [newSt l.st], rfl, by omega, (HB1.out.alloc HB1.out.size _).trans h2, h1, HSS.out.symm⟩)
    have HNW := hide (fun j u hj => cell_new_row w1 #[.string l.st, .slice none 0 0] 213 j u hj)
    have HO : Hid (∀ u ∈ ([.string l.st, .slice none 0 0] : List Value), u.oneCell' = true) := by
     intro u hu
     simp only [List.mem_cons, List.not_mem_nil, or_false] at hu
     rcases hu with rfl | rfl <;> rfl
    have hm1 : ss.length + 1 ≤ maxLen := by unfold maxLen; omega
    have hm2 : (ss.length + 1) * 40 ≤ 140737488355328 := by omega
    clear hb1 HCL HBA HSA HB1 HS1
    go_wp2_with (at_builtin; refine wpList_append_own _ rfl (.tmp 18) (.tmp 23) 36 rfl w.heap.size 213 i0 (.agg #[.string ⟨#[]⟩, .slice none 0 0]) 2 40 Tryz.underlying36 hi hz0 hz1 hz3 rfl (by decide) u3 ss.length ((ss.map PSt.el).flatMap El.cells) rfl HROW.out ⟨w1.heap.size, 0, none⟩ 1 1 [.string l.st, .slice none 0 0] rfl rfl HNW.out HO.out hm1 hm2 (by simp; omega) ?_; intro v' w3 hown hg _; have HST := hide (HKEY.out v' w3 hown hg); obtain ⟨g', cap', rfl⟩ := own_form hown (by omega); clear hown hg)
    go_roundg (gk - 1)
    case measure => omega
    case rel => exact HST.out
   ·have q1 : ((l.kd : Int) == 1) = false := by rw [beq_eq_false_iff_ne]; omega
    rw [if_neg hk1] at HSS
    have HST := hide (show B1Loop w ls (gk - 1) u3 (.int .i64 ((j + 1 : Nat) : Int)) (wr.alloc (.cells #[.int .i64 l.at_, .int .i64 l.kd, .string l.st, .int .i64 l.d, .string l.co, .slice l.ao l.ln l.cp, .int .i64 l.wh, .int .i64 l.fl] 219)) from ⟨j + 1, ss, rfl, by omega, HBA.out, HSA.out, HSS.out.symm⟩)
    clear hk1 HBA HSA HCS HSS
    go_wp2_with fail
    go_roundg (gk - 1)
    case measure => omega
    case rel => exact HST.out
  ·have g1 : decide ((j : Int) < (ls.length : Int)) = false := decide_eq_false (by omega)
   rw [List.take_of_length_le (by omega)] at hss
   obtain ⟨sa, scap, rfl, hsa⟩ := hS.form
   have hnl : (stNames ls).length = ss.length := by rw [hss, List.length_map]
   have HSA0 := hide hsa
   have HS0 := hide (show B2Loop w ls (.slice sa ss.length scap) ls.length (.int .i64 (-1)) (.int .i64 0) wr from ⟨0, ss, rfl, by omega, rfl, hBw, hS, by rw [hss]; exact BInv.start _⟩)
   clear hS hss hBw hsa
   go_wp2_with fail
   generalize ss.length = nS at *
   clear hk g1 hlt
   go_loopg [6, 28] ls.length (fun k vc i wr => B2Loop w ls (.slice sa nS scap) k vc i wr)
   case atStart => exact HS0.out
   case round =>
    obtain ⟨j, ss, rfl, hk, rfl, hBw, hS, hI⟩ := hrel
    have hns : ss.length = nS := by rw [← hnl, ← hI.1, List.length_map]
    by_cases hlt : j < ls.length
    ·have g1 : decide ((j : Int) < (ls.length : Int)) = true := decide_eq_true (by omega)
     obtain ⟨q, rfl⟩ := HAO.out (by omega)
     obtain ⟨l, hl⟩ : ∃ l, ls[j]? = some l := ⟨ls[j], List.getElem?_eq_getElem hlt⟩
     have htk : ls.take (j + 1) = ls.take j ++ [l] := by
      have hl' := hl
      rw [List.getElem?_eq_getElem hlt] at hl'
      rw [List.take_succ_eq_append_getElem hlt, Option.some.inj hl']
     have hsp : ls = ls.take j ++ l :: ls.drop (j + 1) := by
      have hl' := hl
      rw [List.getElem?_eq_getElem hlt] at hl'
      rw [← Option.some.inj hl', ← List.drop_eq_getElem_cons hlt, List.take_append_drop]
     obtain ⟨c0, c1, c2, c3, c4, c5, c6, c7⟩ := (HL.out.below hBw).cells hl
     have hi1 : j + 1 ≤ 9223372036854775807 := by omega
     have HBA := hide (hBw.alloc hBw.size (.cells #[.int .i64 l.at_, .int .i64 l.kd, .string l.st, .int .i64 l.d, .string l.co, .slice l.ao l.ln l.cp, .int .i64 l.wh, .int .i64 l.fl] 219))
     have HSA := hide (hS.below ((Below.refl wr.heap.size wr).alloc (Nat.le_refl _) (.cells #[.int .i64 l.at_, .int .i64 l.kd, .string l.st, .int .i64 l.d, .string l.co, .slice l.ao l.ln l.cp, .int .i64 l.wh, .int .i64 l.fl] 219)))
     have HI := hide hI
     have hsn := stNames_snoc (ls.take j) l
     rw [← htk] at hsn
     have hcl : (stNames (ls.take j)).length ≤ 1000000 := by
      have h1 : (stNames (ls.take j)).length ≤ (ls.take j).length := List.length_filterMap_le ..
      rw [List.length_take] at h1
      omega
     by_cases hk1 : l.kd = 1
     ·have q1 : ((l.kd : Int) == 1) = true := by rw [hk1]; rfl
      rw [if_pos hk1] at hsn
      have HST := hide (show ∀ c, cv ((stNames (ls.take j)).length + 1) = c → B2Loop w ls (.slice sa nS scap) (gk - 1) c (.int .i64 ((j + 1 : Nat) : Int)) (wr.alloc (.cells #[.int .i64 l.at_, .int .i64 l.kd, .string l.st, .int .i64 l.d, .string l.co, .slice l.ao l.ln l.cp, .int .i64 l.wh, .int .i64 l.fl] 219)) from fun c hc => ⟨j + 1, ss, rfl, by omega, by rw [hsn, List.length_append, ← hc]; rfl, HBA.out, HSA.out, by rw [htk]; exact hI.other (by omega)⟩)
      clear hl htk hsp hBw hS hI HI hsn hk1 HBA HSA hns
      generalize (stNames (ls.take j)).length = c at *
      cases c with
      | zero =>
       have HST' := hide (HST.out _ rfl)
       clear HST hcl
       simp only [cv] at HST' ⊢
       go_wp2_with fail
       go_roundg (gk - 1)
       case measure => omega
       case rel => exact HST'.out
      | succ m =>
       have hm1 : m + 1 ≤ 9223372036854775807 := by omega
       have HST' := hide (HST.out _ rfl)
       clear HST hcl
       simp only [cv] at HST' ⊢
       go_wp2_with fail
       go_roundg (gk - 1)
       case measure => omega
       case rel => exact HST'.out
     ·have q1 : ((l.kd : Int) == 1) = false := by rw [beq_eq_false_iff_ne]; omega
      rw [if_neg hk1, List.append_nil] at hsn
      by_cases hk2 : l.kd = 2
      ·have q2 : ((l.kd : Int) == 2) = true := by rw [hk2]; rfl
       obtain ⟨m, hm⟩ : ∃ m, (stNames (ls.take j)).length = m + 1 := ⟨(stNames (ls.take j)).length - 1, by have := HORD.out _ _ _ hsp hk2; omega⟩
       have hmn : m < nS := by
        have h1 : stNames ls = stNames (ls.take j) ++ stNames (ls.drop j) := by unfold stNames; rw [← List.filterMap_append, List.take_append_drop]
        rw [← hnl, h1, List.length_append, hm]; omega
       obtain ⟨s, hs⟩ : ∃ s, ss[m]? = some s := ⟨ss[m]'(by omega), List.getElem?_eq_getElem (by omega)⟩
       obtain ⟨g, rfl⟩ := HSA0.out (by omega)
       have hrz : s.rs.length ≤ 1000000 := by
        have h1 := (hI.2 m s hs).1
        have h2 : ∀ (c : Nat) (t : List PLn) (i : Nat), (sec c t i).length ≤ t.length := by
         intro c t i
         induction t generalizing c with
         | nil => simp [sec]
         | cons a t ih =>
          have h3 := ih (c + 1)
          have h4 := ih c
          unfold sec
          split
          ·simp only [List.length_cons]; omega
          ·split <;> simp only [List.length_cons] <;> omega
        have h3 := h2 0 (ls.take j) m
        rw [List.length_take] at h3
        omega
       have HMK := hide (makeRule_any w.heap.size (.slice (some ⟨g, 0, none⟩) nS scap) ss l (wr.alloc (.cells #[.int .i64 l.at_, .int .i64 l.kd, .string l.st, .int .i64 l.d, .string l.co, .slice l.ao l.ln l.cp, .int .i64 l.wh, .int .i64 l.fl] 219)).drew (HSA.out.below ((Below.refl _ _).drew)) (by omega) ((HCO.out l (List.mem_of_getElem? hl)).1 hk2) (fun hd => by
        obtain ⟨n, hn, he⟩ := HOP.out l (List.mem_of_getElem? hl) hd
        rw [← hI.1] at hn
        obtain ⟨t, ht, rfl⟩ := List.mem_map.1 hn
        exact ⟨t, ht, he⟩))
       have HKEY := hide (show ∀ (w5 : World) (op : Nat), Below (wr.alloc (.cells #[.int .i64 l.at_, .int .i64 l.kd, .string l.st, .int .i64 l.d, .string l.co, .slice l.ao l.ln l.cp, .int .i64 l.wh, .int .i64 l.fl] 219)).drew.heap.size (wr.alloc (.cells #[.int .i64 l.at_, .int .i64 l.kd, .string l.st, .int .i64 l.d, .string l.co, .slice l.ao l.ln l.cp, .int .i64 l.wh, .int .i64 l.fl] 219)).drew w5 → (l.d = 1 → ∃ s, ss[op]? = some s ∧ s.nm.data.toList = l.st.data.toList) → (l.d ≠ 1 → op = 0) →
         w5.cell? ⟨g, m * 2 + 1, none⟩ = some (.slice s.ao s.ln s.cp) ∧ (w5.alloc (.cells #[.int .i64 l.d, .int .i64 op, .string l.co, .slice l.ao l.ln l.cp, .int .i64 l.wh] 231)).cell? ⟨g, m * 2 + 1, none⟩ = some (.slice s.ao s.ln s.cp) ∧ Hid ((w5.alloc (.cells #[.int .i64 l.d, .int .i64 op, .string l.co, .slice l.ao l.ln l.cp, .int .i64 l.wh] 231)).ownsRow w.heap.size 231 5 (.slice s.ao s.ln s.cp) s.rs.length (s.rs.map PRl.cells).flatten) ∧ Hid (∀ j u, ([.int .i64 l.d, .int .i64 op, .string l.co, .slice l.ao l.ln l.cp, .int .i64 l.wh] : List Value)[j]? = some u → (w5.alloc (.cells #[.int .i64 l.d, .int .i64 op, .string l.co, .slice l.ao l.ln l.cp, .int .i64 l.wh] 231)).cell? ((⟨w5.heap.size, 0, none⟩ : Addr).add j) = some u) ∧ w.heap.size ≤ w5.heap.size + 1 ∧
         Hid (∀ W' v' w3, (W' = (w5.alloc (.cells #[.int .i64 l.d, .int .i64 op, .string l.co, .slice l.ao l.ln l.cp, .int .i64 l.wh] 231)) ∨ W' = (w5.alloc (.cells #[.int .i64 l.d, .int .i64 op, .string l.co, .slice l.ao l.ln l.cp, .int .i64 l.wh] 231)).drew) → w3.ownsRow w.heap.size 231 5 v' (s.rs.length + 1) ((s.rs.map PRl.cells).flatten ++ [.int .i64 l.d, .int .i64 op, .string l.co, .slice l.ao l.ln l.cp, .int .i64 l.wh]) → W'.grownBy w3 (Value.slice s.ao s.ln s.cp).ownBlock → (v'.ownBlock = (Value.slice s.ao s.ln s.cp).ownBlock ∨ v'.ownBlock = some W'.heap.size) →
          ∃ g' cap', v' = .slice (some ⟨g', 0, none⟩) (s.rs.length + 1) cap' ∧ w3.cell? ⟨g, m * 2 + 1, none⟩ = some (.slice s.ao s.ln s.cp) ∧ w3.frozen? ⟨g, m * 2 + 1, none⟩ = false ∧ Hid (B2Loop w ls (.slice (some ⟨g, 0, none⟩) nS scap) (gk - 1) (.int .i64 m) (.int .i64 ((j + 1 : Nat) : Int)) (w3.setCell ⟨g, m * 2 + 1, none⟩ v'))) from by
        intro w5 op hb5 ho1 ho2
        have hs5 : States w5 w.heap.size (.slice (some ⟨g, 0, none⟩) nS scap) ss := (HSA.out.below ((Below.refl _ _).drew)).below hb5
        have hbw5 : Below w.heap.size w w5 := HBA.out.drew.trans (hb5.mono HBA.out.size)
        have hs6 := hs5.below ((Below.refl w5.heap.size w5).alloc (Nat.le_refl _) (.cells #[.int .i64 l.d, .int .i64 op, .string l.co, .slice l.ao l.ln l.cp, .int .i64 l.wh] 231))
        have hc5 := ((show States w5 w.heap.size (.slice (some ⟨g, 0, none⟩) ss.length scap) ss by rw [hns]; exact hs5).cells hs).2
        refine ⟨hc5, cell_alloc_old hc5 _, ?_, cell_new_row w5 #[.int .i64 l.d, .int .i64 op, .string l.co, .slice l.ao l.ln l.cp, .int .i64 l.wh] _, by have := hbw5.size; omega, fun W' v' w3 hW hown hg hnew => ?_⟩
        ·have := hs6.inner s.el (List.mem_map_of_mem (List.mem_of_getElem? hs))
         rw [show s.el.rs.length = s.rs.length from List.length_map ..] at this
         exact this
        ·obtain ⟨g', cap', rfl⟩ := own_form hown (by omega)
         have hsW : States W' w.heap.size (.slice (some ⟨g, 0, none⟩) nS scap) ss ∧ w.heap.size ≤ W'.heap.size ∧ Below w.heap.size w W' := by
          rcases hW with rfl | rfl
          ·exact ⟨hs6, by have := hbw5.size; simp; omega, hbw5.alloc hbw5.size _⟩
          ·exact ⟨hs6.below ((Below.refl _ _).drew), by have := hbw5.size; simp; omega, (hbw5.alloc hbw5.size _).drew⟩
         obtain ⟨h1, h2, h3, h4⟩ := States.grow (r := ⟨l.d, op, l.co, l.ao, l.ln, l.cp, l.wh⟩) hsW.1 hsW.2.1 hs hown hg hnew
         refine ⟨g', cap', rfl, h3, h4, ⟨j + 1, _, rfl, by omega, by rw [hsn, hm]; rfl, hsW.2.2.trans h2, h1, ?_⟩⟩
         rw [htk]
         refine hI.rule hk2 hm hs ⟨rfl, rfl, rfl, rfl, rfl, rfl, fun hd => ?_, ho2⟩
         obtain ⟨t, ht, hn⟩ := ho1 hd
         exact ⟨t.nm, by rw [← hI.1, List.getElem?_map, ht]; rfl, hn⟩)
       obtain ⟨i0, hi, hz0, hz1, hz3⟩ := info_parts info_Rule
       have hb1 : s.rs.length + 1 ≤ maxLen := by unfold maxLen; omega
       have hb2 : (s.rs.length + 1) * 64 ≤ 140737488355328 := by omega
       have HO : Hid (∀ op : Nat, ∀ u ∈ ([.int .i64 l.d, .int .i64 op, .string l.co, .slice l.ao l.ln l.cp, .int .i64 l.wh] : List Value), u.oneCell' = true) := by
        intro op u hu
        simp only [List.mem_cons, List.not_mem_nil, or_false] at hu
        rcases hu with rfl | rfl | rfl | rfl | rfl <;> rfl
       have hgl : m < nS := hmn
       have hgi : (m : Int) < (nS : Int) := by omega
       have hc0 := ((show States (wr.alloc (.cells #[.int .i64 l.at_, .int .i64 l.kd, .string l.st, .int .i64 l.d, .string l.co, .slice l.ao l.ln l.cp, .int .i64 l.wh, .int .i64 l.fl] 219)) w.heap.size (.slice (some ⟨g, 0, none⟩) ss.length scap) ss by rw [hns]; exact HSA.out).cells hs).2
       have HW0 := hide (heap_alloc_last wr (.cells #[.int .i64 l.at_, .int .i64 l.kd, .string l.st, .int .i64 l.d, .string l.co, .slice l.ao l.ln l.cp, .int .i64 l.wh, .int .i64 l.fl] 219))
       rw [hm]
       simp only [cv]
       unfold PLn.agg at HMK
       clear hl htk hsp hBw hS hI HI hsn hk1 hk2 HBA HSA hns hs hm hmn hcl
       go_wp2_with fail
       obtain ⟨p, hp⟩ : ∃ p, p = wr.heap.size := ⟨_, rfl⟩
       rw [← hp] at HW0 ⊢
       generalize wr.alloc (.cells #[.int .i64 l.at_, .int .i64 l.kd, .string l.st, .int .i64 l.d, .string l.co, .slice l.ao l.ln l.cp, .int .i64 l.wh, .int .i64 l.fl] 219) = W at *
       have hW0 := HW0.out
       have e0 : W.cell? ⟨p, 0, none⟩ = some (.int .i64 l.at_) := by simp [World.cell?, hW0]
       have e1 : W.cell? ⟨p, 1, none⟩ = some (.int .i64 l.kd) := by simp [World.cell?, hW0]
       have e2 : W.cell? ⟨p, 2, none⟩ = some (.string l.st) := by simp [World.cell?, hW0]
       have e3 : W.cell? ⟨p, 3, none⟩ = some (.int .i64 l.d) := by simp [World.cell?, hW0]
       have e4 : W.cell? ⟨p, 4, none⟩ = some (.string l.co) := by simp [World.cell?, hW0]
       have e5 : W.cell? ⟨p, 5, none⟩ = some (.slice l.ao l.ln l.cp) := by simp [World.cell?, hW0]
       have e6 : W.cell? ⟨p, 6, none⟩ = some (.int .i64 l.wh) := by simp [World.cell?, hW0]
       have e7 : W.cell? ⟨p, 7, none⟩ = some (.int .i64 l.fl) := by simp [World.cell?, hW0]
       clear hW0 HW0 hp
       go_region_law (first
        | (refine step_append_at rfl (.tmp 46) (.tmp 50) 211 rfl w.heap.size 231 i0 (.agg #[.int .i64 0, .int .i64 0, .string ⟨#[]⟩, .slice none 0 0, .int .i64 0]) 5 64 Tryz.underlying211 hi hz0 hz1 hz3 rfl (by decide) (.slice s.ao s.ln s.cp) s.rs.length (s.rs.map PRl.cells).flatten (by rfl) HIN.out ⟨w5.heap.size, 0, none⟩ 1 1 [.int .i64 l.d, .int .i64 op, .string l.co, .slice l.ao l.ln l.cp, .int .i64 l.wh] (by rfl) (by rfl) HNW.out HOO.out hb1 hb2 (by simpa using x5) ?_; intro v' w3 hown hg hnew; obtain ⟨g', cap', rfl, y1, y2, HST⟩ := HK.out _ _ _ (by first | exact .inl rfl | exact .inr rfl) hown hg hnew; clear hown hg hnew)
        | (go_simp; go_at_call 116; refine HMK.out.mono ?_; rintro e w5 ⟨hb5, op, rfl, ho1, ho2⟩; obtain ⟨x1, x2, HIN, HNW, x5, HK⟩ := HKEY.out w5 op hb5 ho1 ho2; have HOO := hide (HO.out op); clear hb5 ho1 ho2))
       all_goals
        clear HKEY HIN HNW HO HOO HMK HK hi hz0 hz1 hz3 e0 e1 e2 e3 e4 e5 e6 e7 x1 x2 x5 y1 y2 hc0
        go_wp2_with fail
        go_roundg (gk - 1)
        case measure => omega
        case rel => exact HST.out
      ·have q2 : ((l.kd : Int) == 2) = false := by rw [beq_eq_false_iff_ne]; omega
       have HST := hide (show B2Loop w ls (.slice sa nS scap) (gk - 1) (cv (stNames (ls.take j)).length) (.int .i64 ((j + 1 : Nat) : Int)) (wr.alloc (.cells #[.int .i64 l.at_, .int .i64 l.kd, .string l.st, .int .i64 l.d, .string l.co, .slice l.ao l.ln l.cp, .int .i64 l.wh, .int .i64 l.fl] 219)) from ⟨j + 1, ss, rfl, by omega, by rw [hsn], HBA.out, HSA.out, by rw [htk]; exact hI.other hk2⟩)
       clear hl htk hsp hBw hS hI HI hsn hk1 hk2 HBA HSA hns
       generalize cv (stNames (ls.take j)).length = vc at *
       go_wp2_with fail
       go_roundg (gk - 1)
       case measure => omega
       case rel => exact HST.out
    ·have g1 : decide ((j : Int) < (ls.length : Int)) = false := decide_eq_false (by omega)
     rw [List.take_of_length_le (by omega)] at hI
     have HEND := hide (show BuildPost w ls (.returned (.slice sa nS scap)) wr from ⟨hBw, _, ss, rfl, hS, hI⟩)
     clear hI hS hBw
     go_wp2_with fail
     go_ret
     exact HEND.out
end Go.Proofs.YtgncgdkpkkdaeaaGreatDoor
