import Derived.Test.YtgncgdkpkkdaeaaGreatDoorK3
namespace Go.Proofs.YtgncgdkpkkdaeaaGreatDoor
open Go.RowKit Tint Go.Maps Go.Shelf
theorem LE.length {x : LE} (h : x.st.length ≤ 8) : x.cells.length = 10 := by unfold LE.cells; rw [List.length_append, stCells_length h]; rfl
theorem LnsIs.cells {w : World} {B : Nat} {ao : Option Addr} {cp : Nat} {ls : List LE} (h : LnsIs w B (.slice ao ls.length cp) ls) {i : Nat} {x : LE} (hx : ls[i]? = some x) : ∃ lg, ao = some ⟨lg, 0, none⟩ ∧ lg < w.heap.size ∧ ∀ (y : Nat) c, x.cells[y]? = some c → w.cell? ⟨lg, i * 10 + y, none⟩ = some c := by
 obtain ⟨lg, c, hv⟩ := own_form h.row (by have := get_lt hx; omega)
 cases hv
 obtain ⟨_, cur, hcur⟩ := row_type h.row (k := lg) rfl
 refine ⟨lg, rfl, lt_of_get hcur, fun y c hy => (row_cell h.row ?_).1⟩
 have hy5 : y < 10 := by have := get_lt hy; rw [LE.length (h.each x (List.mem_of_getElem? hx)).1] at this; exact this
 rw [List.flatMap_def, flatten_at (si := 10) (by intro r hr; obtain ⟨z, hz, rfl⟩ := List.mem_map.1 hr; exact LE.length (h.each z hz).1) (r := x.cells) (by rw [List.getElem?_map, hx]; rfl) y hy5]
 exact hy
theorem Runs.short {G : List GS} (hok : GOk G) {st : List Nat} {ls : List (List UInt8)} {out : List (List Nat × List Sp)} {st' : List Nat} (h : Runs G st ls out st') (hl : ∀ l ∈ ls, l.length ≤ 3000) : ∀ y ∈ out, y.2.length ≤ 7000 := by
 induction h with
 | nil => intro y hy; simp at hy
 | cons h1 _ ih =>
  intro y hy
  rcases List.mem_cons.1 hy with rfl | hy
  ·have hle := hl _ List.mem_cons_self
   rcases h1 with h1 | ⟨a, pre, top, s, h2, h3, _, _, _, rfl⟩
   ·exact Nat.le_trans (h1.short hok) (by omega)
   ·have := h2.short hok; show (pre ++ [_]).length ≤ 7000; rw [List.length_append, List.length_singleton]; omega
  ·exact ih (fun l hl' => hl l (List.mem_cons_of_mem _ hl')) y hy
section
variable {w : World} {B bX bS g n cap : Nat} {text : ByteArray} {lv : Value} {ls : List LE} {work : Nat}
theorem sheetSpans_any (i : Nat) (x : LE) (h : SheetIs w B bS g n cap text lv ls work) (hx : ls[i]? = some x) :
  Calls Tryz.prog 53 #[.pointer (some ⟨bS, 0, none⟩), .int .i64 i] w fun e w' => e = .returned (.func (.func 107) #[] #[.pointer (some ⟨w.heap.size, 0, none⟩)]) ∧ w' = w.alloc (.cells #[x.sv] 64) := by
 have hlns := h.lns
 obtain ⟨ao, cp, hv⟩ := row_slice hlns.row
 subst hv
 obtain ⟨lg, hao, _, hc⟩ := hlns.cells hx
 subst hao
 have h8 := (hlns.each x (List.mem_of_getElem? hx)).1
 have c9 := hc 9 x.sv (by unfold LE.cells; rw [List.getElem?_append_right (by rw [stCells_length h8]; omega), stCells_length h8]; rfl)
 have c2 : w.cell? ⟨bS, 2, none⟩ = some (.slice (some ⟨lg, 0, none⟩) ls.length cp) := cell_at h.sh rfl
 have hi := get_lt hx
 obtain ⟨sao, scp, hsv⟩ := row_slice (hlns.each x (List.mem_of_getElem? hx)).2
 rw [hsv] at c9
 have HV := hide (values_fn x.sv ⟨_, _, _, hsv⟩ w)
 rw [hsv] at HV ⊢
 clear hlns hc h hx
 go_enter Tryz.func53, Tryz.ntmps53
 go_wp2_with fail
 refine HV.out.mono ?_
 rintro e w1 ⟨rfl, hw1⟩
 have HW := hide hw1
 clear hw1 HV
 go_wp2_with fail
 go_ret
 exact ⟨rfl, HW.out⟩
def LinePost (ls : List LE) (i : Int) (w : World) (e : Ending) (w' : World) : Prop :=
 Below w.heap.size w w' ∧ ((¬ (0 ≤ i ∧ i < ls.length) ∧ e = .returned (.tuple #[.slice none 0 0, .int .i64 8])) ∨ ∃ (k : Nat) (x : LE) (v : Value), i = k ∧ ls[k]? = some x ∧ e = .returned (.tuple #[v, .int .i64 0]) ∧ SpRow w' w.heap.size v x.sps)
set_option maxHeartbeats 1000000 in
theorem txLine_any (i : Int) (hfew : ∀ x ∈ ls, x.sps.length ≤ 7000) (h : SheetIs w B bS g n cap text lv ls work) (hx : w.heap[bX]? = some (.cells #[.pointer (some ⟨bS, 0, none⟩)] 46 (0, 0))) :
  Calls Tryz.prog 24 #[.pointer (some ⟨bX, 0, none⟩), .int .i64 i] w (LinePost ls i w) := by
 have c0 := cell_one hx
 have HF := hide (lineFault_any i h hx)
 by_cases hin : 0 ≤ i ∧ i < ls.length
 ·rw [if_pos hin] at HF
  obtain ⟨k, rfl⟩ : ∃ k : Nat, i = k := ⟨i.toNat, by omega⟩
  obtain ⟨x, hxk⟩ : ∃ x, ls[k]? = some x := ⟨_, List.getElem?_eq_getElem (by omega)⟩
  have HS := hide (sheetSpans_any k x h hxk)
  have hrow := (h.lns.each x (List.mem_of_getElem? hxk)).2
  have HC := hide (collect_any B w.heap.size x.sv x.sps (w.alloc (.cells #[x.sv] 64)) (hfew x (List.mem_of_getElem? hxk)) (heap_alloc_last _ _) (row_keep hrow fun k hk => ((Below.refl _ _).alloc (Nat.le_refl _) _).block k (by obtain ⟨_, c, hc⟩ := row_type hrow hk; exact lt_of_get hc)))
  have HX := hide hxk
  clear h hx hrow hxk hin
  go_enter Tryz.func24, Tryz.ntmps24
  go_wp2_with fail
  refine HF.out.mono ?_
  rintro e1 w1 ⟨rfl, h1⟩
  subst h1
  go_wp2_with fail
  refine HS.out.mono ?_
  rintro e2 w2 ⟨rfl, h2⟩
  rw [← h2] at HC
  have hb2 : Below w1.heap.size w1 w2 := by rw [h2]; exact (Below.refl _ _).alloc (Nat.le_refl _) _
  clear h2
  go_wp2_with fail
  refine HC.out.mono ?_
  rintro e3 w3 ⟨v, rfl, h3, hb3⟩
  obtain ⟨vao, vc, hv⟩ := row_slice h3
  subst hv
  have HEND := hide (show LinePost ls (k : Int) w1 (.returned (.tuple #[.slice vao x.sps.length vc, .int .i64 0])) w3 from ⟨hb2.trans (hb3.mono hb2.size), .inr ⟨k, x, _, rfl, HX.out, rfl, row_base h3 hb2.size⟩⟩)
  clear h3 hb3 hb2 HC
  go_wp2_with fail
  go_ret2
  exact HEND.out
 ·rw [if_neg hin] at HF
  clear h hx
  have HI := hide hin
  clear hin
  go_enter Tryz.func24, Tryz.ntmps24
  go_wp2_with fail
  refine HF.out.mono ?_
  rintro e1 w1 ⟨rfl, h1⟩
  subst h1
  go_wp2_with fail
  go_ret2
  exact ⟨Below.refl _ _, .inl ⟨HI.out, rfl⟩⟩
theorem sheetStack_any (i : Nat) (x : LE) (G : List GS) (h : SheetIs w B bS g n cap text lv ls work) (hx : ls[i]? = some x) (hgood : Good G x.st) (hG : GramIs w g n cap G) :
  Calls Tryz.prog 54 #[.pointer (some ⟨bS, 0, none⟩), .int .i64 i] w (NamesPost (nmsOf G x.st) w) := by
 have hlns := h.lns
 obtain ⟨ao, cp, hv⟩ := row_slice hlns.row
 subst hv
 obtain ⟨lg, hao, _, hc⟩ := hlns.cells hx
 subst hao
 obtain ⟨a0, a1, a2, a3, a4, a5, a6, a7, a8, hst⟩ := nine hgood.1.2
 have hcc : ∀ (y : Nat) c, (stCells x.st)[y]? = some c → w.cell? ⟨lg, i * 10 + y, none⟩ = some c := fun y c hy => hc y c (by unfold LE.cells; rw [List.getElem?_append_left (get_lt hy)]; exact hy)
 rw [hst] at hcc
 have d0 := hcc 0 _ rfl
 have d1 := hcc 1 _ rfl
 have d2 := hcc 2 _ rfl
 have d3 := hcc 3 _ rfl
 have d4 := hcc 4 _ rfl
 have d5 := hcc 5 _ rfl
 have d6 := hcc 6 _ rfl
 have d7 := hcc 7 _ rfl
 have d8 := hcc 8 _ rfl
 rw [Nat.add_zero] at d0
 have c0 : w.cell? ⟨bS, 0, none⟩ = some (.slice (some ⟨g, 0, none⟩) n cap) := cell_at h.sh rfl
 have c2 : w.cell? ⟨bS, 2, none⟩ = some (.slice (some ⟨lg, 0, none⟩) ls.length cp) := cell_at h.sh rfl
 have hi := get_lt hx
 have HN := hide (names_any g n cap G x.st hgood w.drew (hG.below (Below.refl _ _).drew))
 unfold stv at HN
 rw [hst] at HN
 have HKP := hide (fun (w' : World) (hb : Below w.drew.heap.size w.drew w') => show w'.cell? ⟨bS, 0, none⟩ = some (.slice (some ⟨g, 0, none⟩) n cap) ∧ w'.cell? ⟨bS, 2, none⟩ = some (.slice (some ⟨lg, 0, none⟩) ls.length cp) ∧ w'.cell? ⟨lg, i * 10, none⟩ = some (.int .i64 a0) ∧ w'.cell? ⟨lg, i * 10 + 1, none⟩ = some (.int .i64 a1) ∧ w'.cell? ⟨lg, i * 10 + 2, none⟩ = some (.int .i64 a2) ∧ w'.cell? ⟨lg, i * 10 + 3, none⟩ = some (.int .i64 a3) ∧ w'.cell? ⟨lg, i * 10 + 4, none⟩ = some (.int .i64 a4) ∧ w'.cell? ⟨lg, i * 10 + 5, none⟩ = some (.int .i64 a5) ∧ w'.cell? ⟨lg, i * 10 + 6, none⟩ = some (.int .i64 a6) ∧ w'.cell? ⟨lg, i * 10 + 7, none⟩ = some (.int .i64 a7) ∧ w'.cell? ⟨lg, i * 10 + 8, none⟩ = some (.int .i64 a8) from
  have hb' : Below w.heap.size w w' := ⟨hb.os, hb.tape, hb.output, hb.size, hb.block⟩
  ⟨cell_below c0 hb', cell_below c2 hb', cell_below d0 hb', cell_below d1 hb', cell_below d2 hb', cell_below d3 hb', cell_below d4 hb', cell_below d5 hb', cell_below d6 hb', cell_below d7 hb', cell_below d8 hb'⟩)
 clear hlns hc hcc h hx hst
 go_enter Tryz.func54, Tryz.ntmps54
 go_wp2_with fail
 go_region_held3 (fun w' => w'.cell? ⟨bS, 0, none⟩ = some (.slice (some ⟨g, 0, none⟩) n cap) ∧ w'.cell? ⟨bS, 2, none⟩ = some (.slice (some ⟨lg, 0, none⟩) ls.length cp) ∧ w'.cell? ⟨lg, i * 10, none⟩ = some (.int .i64 a0) ∧ w'.cell? ⟨lg, i * 10 + 1, none⟩ = some (.int .i64 a1) ∧ w'.cell? ⟨lg, i * 10 + 2, none⟩ = some (.int .i64 a2) ∧ w'.cell? ⟨lg, i * 10 + 3, none⟩ = some (.int .i64 a3) ∧ w'.cell? ⟨lg, i * 10 + 4, none⟩ = some (.int .i64 a4) ∧ w'.cell? ⟨lg, i * 10 + 5, none⟩ = some (.int .i64 a5) ∧ w'.cell? ⟨lg, i * 10 + 6, none⟩ = some (.int .i64 a6) ∧ w'.cell? ⟨lg, i * 10 + 7, none⟩ = some (.int .i64 a7) ∧ w'.cell? ⟨lg, i * 10 + 8, none⟩ = some (.int .i64 a8))
  (first
   | with_reducible exact hS1
   | go_keep)
  (first
   | (go_at_call 80; refine HN.out.mono ?_; clear HN; rintro e w1 ⟨v, rfl, h1, h2⟩; have hS1 := HKP.out w1 h2; have HE := hide (show NamesPost (nmsOf G x.st) w (.returned v) w1 from ⟨v, rfl, h1, ⟨h2.os, h2.tape, h2.output, h2.size, h2.block⟩⟩); obtain ⟨vao, vc, hv⟩ := row_slice h1; subst hv; clear h1 h2))
 all_goals
  clear hS1
  go_wp2_with fail
  go_ret
  exact HE.out
def StackPost (G : List GS) (ls : List LE) (i : Int) (w : World) (e : Ending) (w' : World) : Prop :=
 Below w.heap.size w w' ∧ ((¬ (0 ≤ i ∧ i < ls.length) ∧ e = .returned (.tuple #[.slice none 0 0, .int .i64 8])) ∨ ∃ (k : Nat) (x : LE) (v : Value), i = k ∧ ls[k]? = some x ∧ e = .returned (.tuple #[v, .int .i64 0]) ∧ NmRow w' w.heap.size v (nmsOf G x.st))
set_option maxHeartbeats 1000000 in
theorem txStack_any (i : Int) (G : List GS) (hgood : ∀ x ∈ ls, Good G x.st) (hG : GramIs w g n cap G) (h : SheetIs w B bS g n cap text lv ls work) (hx : w.heap[bX]? = some (.cells #[.pointer (some ⟨bS, 0, none⟩)] 46 (0, 0))) :
  Calls Tryz.prog 25 #[.pointer (some ⟨bX, 0, none⟩), .int .i64 i] w (StackPost G ls i w) := by
 have c0 := cell_one hx
 have HF := hide (lineFault_any i h hx)
 by_cases hin : 0 ≤ i ∧ i < ls.length
 ·rw [if_pos hin] at HF
  obtain ⟨k, rfl⟩ : ∃ k : Nat, i = k := ⟨i.toNat, by omega⟩
  obtain ⟨x, hxk⟩ : ∃ x, ls[k]? = some x := ⟨_, List.getElem?_eq_getElem (by omega)⟩
  have HS := hide (sheetStack_any k x G h hxk (hgood x (List.mem_of_getElem? hxk)) hG)
  have HX := hide hxk
  clear h hx hxk hin hgood hG
  go_enter Tryz.func25, Tryz.ntmps25
  go_wp2_with fail
  refine HF.out.mono ?_
  rintro e1 w1 ⟨rfl, h1⟩
  subst h1
  go_wp2_with fail
  refine HS.out.mono ?_
  rintro e3 w3 ⟨v, rfl, h3, hb3⟩
  obtain ⟨vao, vc, hv⟩ := row_slice h3
  subst hv
  have HEND := hide (show StackPost G ls (k : Int) w1 (.returned (.tuple #[.slice vao (nmsOf G x.st).length vc, .int .i64 0])) w3 from ⟨hb3, .inr ⟨k, x, _, rfl, HX.out, rfl, h3⟩⟩)
  clear h3 hb3
  go_wp2_with fail
  go_ret2
  exact HEND.out
 ·rw [if_neg hin] at HF
  clear h hx
  have HI := hide hin
  clear hin
  go_enter Tryz.func25, Tryz.ntmps25
  go_wp2_with fail
  refine HF.out.mono ?_
  rintro e1 w1 ⟨rfl, h1⟩
  subst h1
  go_wp2_with fail
  go_ret2
  exact ⟨Below.refl _ _, .inl ⟨HI.out, rfl⟩⟩
end
end Go.Proofs.YtgncgdkpkkdaeaaGreatDoor
