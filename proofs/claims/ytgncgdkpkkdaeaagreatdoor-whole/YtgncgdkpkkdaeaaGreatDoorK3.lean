import Derived.Test.YtgncgdkpkkdaeaaGreatDoorK2
import Derived.Test.YtgncgdkpkkdaeaaGreatDoorKVG
import Derived.Test.YtgncgdkpkkdaeaaGreatDoorKX
import Derived.Test.YtgncgdkpkkdaeaaGreatDoorKC
import Derived.Test.YtgncgdkpkkdaeaaGreatDoorKB
import Derived.Deep.LoopGhost
import Derived.Laws.MakeOwn
import Derived.Laws.OwnMore
import Derived.Test.YtgncgdkpkkdaeaaGreatDoorKD
import Derived.Maps.AppendAt
import Derived.Test.YtgncgdkpkkdaeaaGreatDoorKK
import Derived.WalkSmall
import Derived.Test.YtgncgdkpkkdaeaaGreatDoorK1
import Derived.Deep.CutRange
import Derived.Deep.RegionHeld3
namespace Go.Proofs.YtgncgdkpkkdaeaaGreatDoor
open Go.RowKit Tint Go.Maps Go.Shelf
attribute [local go_sem] Oper.semAt_some
def ValPost (J : Nat → World → Prop) (Jx : World → Prop) (n : Nat) (e : Ending) (W : World) : Prop := (∃ v, e = .returned v) ∧ (J n W ∨ Jx W)
def ValLoop (J : Nat → World → Prop) (n k : Nat) (vi : Value) (wr : World) : Prop := ∃ j : Nat, vi = .int .i64 j ∧ j + k = n ∧ J j wr
set_option maxRecDepth 20000 in
set_option maxHeartbeats 2000000 in
theorem values1_any (m bs l : Nat) (ao : Option Addr) (cp : Nat) (sps : List Sp) (J : Nat → World → Prop) (Jx : World → Prop) (w : World) (hn : sps.length ≤ 1000000) (hb : w.heap[bs]? = some (.cells #[.slice ao sps.length cp] 64 (0, 0)))
  (hJr : ∀ j A, J j A → ∀ (i : Nat) x, sps[i]? = some x → ∃ sg, ao = some ⟨sg, 0, none⟩ ∧ ∀ (y : Nat) c, x.cells[y]? = some c → A.cell? ⟨sg, i * 5 + y, none⟩ = some c)
  (hJk : ∀ j A B, J j A → Below A.heap.size A B → J j B)
  (hY : ∀ (j : Nat) x A, sps[j]? = some x → J j A → YieldAt Fence.wide (m - 1) Tryz.prog l #[Sp.v x] A fun e B => (e = .returned (.bool true) ∧ J (j + 1) B) ∨ (e = .returned (.bool false) ∧ Jx B)) (h0 : J 0 w) :
  CallsIn Fence.wide m Tryz.prog 107 #[.func (.yield l) #[] #[], .pointer (some ⟨bs, 0, none⟩)] w (ValPost J Jx sps.length) := by
 refine callsIn_wide.2 ?_
 have b0 := cell_one hb
 have HJR := hide hJr
 have HJK := hide hJk
 have HY := hide hY
 have H0 := hide h0
 clear hJr hJk hY h0 hb
 go_enter Tryz.func107, Tryz.ntmps107
 go_wp2_with fail
 go_loopg [7] sps.length (fun k vi wr => ValLoop J sps.length k vi wr)
 case atStart => exact ⟨0, rfl, by omega, H0.out⟩
 case round =>
  obtain ⟨j, rfl, hj, hJ⟩ := hrel
  by_cases hlt : j < sps.length
  ·have g1 : decide ((j : Int) < (sps.length : Int)) = true := decide_eq_true (by omega)
   obtain ⟨x, hx⟩ : ∃ x, sps[j]? = some x := ⟨_, List.getElem?_eq_getElem hlt⟩
   obtain ⟨sg, hao, hc⟩ := HJR.out j wr hJ j x hx
   subst hao
   have d0 := hc 0 _ rfl
   have d1 := hc 1 _ rfl
   have d2 := hc 2 _ rfl
   have d3 := hc 3 _ rfl
   have d4 := hc 4 _ rfl
   rw [Nat.add_zero] at d0
   have hwr : IntKind.i64.wrap ((j : Int) + 1) = (j : Int) + 1 := by rw [IntKind.wrap_i64]; omega
   obtain ⟨w2, hw2⟩ : ∃ w2, wr.alloc (.cells #[.int .i64 x.fr, .int .i64 x.to, .string x.nm, .int .i64 x.dep, .string x.co] 70) = w2 := ⟨_, rfl⟩
   have hb2 : Below wr.heap.size wr w2 := by rw [← hw2]; exact (Below.refl _ _).alloc (Nat.le_refl _) _
   have hq2 : w2.heap[wr.heap.size]? = some (.cells #[.int .i64 x.fr, .int .i64 x.to, .string x.nm, .int .i64 x.dep, .string x.co] 70 (0, 0)) := by rw [← hw2]; exact heap_alloc_last _ _
   obtain ⟨fn, tmps, assign, body, hy, hR⟩ := HY.out j x w2 hx (HJK.out j wr w2 hJ hb2)
   unfold Sp.v spv at hy
   have e0 : w2.cell? ⟨wr.heap.size, 0, none⟩ = some (.int .i64 x.fr) := cell_at hq2 rfl
   have e1 : w2.cell? ⟨wr.heap.size, 1, none⟩ = some (.int .i64 x.to) := cell_at hq2 rfl
   have e2 : w2.cell? ⟨wr.heap.size, 2, none⟩ = some (.string x.nm) := cell_at hq2 rfl
   have e3 : w2.cell? ⟨wr.heap.size, 3, none⟩ = some (.int .i64 x.dep) := cell_at hq2 rfl
   have e4 : w2.cell? ⟨wr.heap.size, 4, none⟩ = some (.string x.co) := cell_at hq2 rfl
   have HRR := hide hR
   clear hR hc hb2 hq2 hx hJ
   refine (wpIn_wide (n := m)).1 ?_
   gi_wp2_with (refine wpListIn_store_row rfl _ _ _ rfl _ #[.int .i64 x.fr, .int .i64 x.to, .string x.nm, .int .i64 x.dep, .string x.co] rfl rfl 70 _ (heap_alloc_at _ _ _ rfl) rfl rfl (by simp [Value.oneCell']) ?_; rw [alloc_setRow _ _ _ _ _ rfl])
   refine ⟨fun h => (by cases h), HRR.out.mono ?_⟩
   rintro e W' (⟨rfl, hj'⟩ | ⟨rfl, hjx⟩)
   ·have HST := hide (show ValLoop J sps.length (sps.length - (j + 1)) (.int .i64 ((j : Int) + 1)) W' from ⟨j + 1, by simp, by omega, hj'⟩)
    clear hj' HRR hy
    gi_wp2_with fail
    go_roundg (sps.length - (j + 1))
    case measure => omega
    case rel => exact HST.out
   ·have HJX := hide hjx
    clear hjx HRR hy
    gi_wp2_with fail
    go_end0
    exact ⟨⟨_, rfl⟩, .inr HJX.out⟩
  ·have g1 : decide ((j : Int) < (sps.length : Int)) = false := decide_eq_false (by omega)
   obtain rfl : j = sps.length := by omega
   have HJ2 := hide hJ
   clear hJ
   go_wp2_with fail
   go_end0
   exact ⟨⟨_, rfl⟩, .inl HJ2.out⟩
theorem values_fn (v : Value) (hv : ∃ ao n c, v = .slice ao n c) (w : World) : Calls Tryz.prog 79 #[v] w fun e w' => e = .returned (.func (.func 107) #[] #[.pointer (some ⟨w.heap.size, 0, none⟩)]) ∧ w' = w.alloc (.cells #[v] 64) := by
 obtain ⟨ao, n, c, rfl⟩ := hv
 go_enter Tryz.func79, Tryz.ntmps79
 go_wp2_with fail
 go_ret
 exact ⟨rfl, rfl⟩
structure CoJ (w : World) (q : Nat) (rc : Loop) (v : Value) (pre : List Sp) (W : World) : Prop where
 sv : W.heap[q]? = some (.cells #[v] 64 (0, 0))
 dfr : W.heap[q + 1]? = some (.deferred (some []))
 rcd : W.heap[q + 1 + 1]? = some (.loop rc)
 row : SpRow W (q + 3) v pre
 blw : Below q w W
 size : q + 3 ≤ W.heap.size
theorem CoJ.below {w W W' : World} {q : Nat} {rc : Loop} {v : Value} {pre : List Sp} (h : CoJ w q rc v pre W) (hb : Below W.heap.size W W') : CoJ w q rc v pre W' :=
 ⟨(hb.block _ (lt_of_get h.sv)).trans h.sv, (hb.block _ (lt_of_get h.dfr)).trans h.dfr, (hb.block _ (lt_of_get h.rcd)).trans h.rcd, row_keep h.row fun k hk => by obtain ⟨_, c, hc⟩ := row_type h.row hk; exact hb.block k (lt_of_get hc), h.blw.trans (hb.mono (by have := h.size; omega)), Nat.le_trans h.size hb.size⟩
theorem CoJ.setL {w W : World} {q : Nat} {rc : Loop} {v : Value} {pre : List Sp} (h : CoJ w q rc v pre W) (rb : Loop) : CoJ w q rb v pre (W.putObj (q + 1 + 1) (.loop rb)) := by
 have ho : Off (fun k => k = q + 1 + 1) W (W.putObj (q + 1 + 1) (.loop rb)) := Off.putObj _ h.rcd rfl
 have hs := h.size
 exact ⟨ho.same h.sv (by omega), ho.same h.dfr (by omega), World.putObj_heap_same (by omega), row_keep h.row fun k hk => by obtain ⟨a, c, hc⟩ := row_type h.row hk; rw [hc]; exact ho.same hc (by omega), h.blw.trans ⟨ho.os, ho.tape, ho.output, ho.size, fun k hk => ho.keep k ⟨by omega, by omega⟩⟩, Nat.le_trans hs ho.size⟩
theorem CoJ.next {w W W4 : World} {q : Nat} {rb : Loop} {v v' : Value} {pre : List Sp} {x : Sp} {o : Obj} (h : CoJ w q rb v pre W) (hrow : W4.ownsRow (q + 3) 70 5 v' (pre.length + 1) (pre.flatMap Sp.cells ++ x.cells)) (hg : (W.alloc o).grownBy W4 v.ownBlock) : W4.heap[q]? = some (.cells #[v] 64 (0, 0)) ∧ CoJ w q rb v' (pre ++ [x]) (W4.setCell ⟨q, 0, none⟩ v') := by
 have hs := h.size
 have hb : Below W.heap.size W (W.alloc o) := (Below.refl _ _).alloc (Nat.le_refl _) _
 have h2 := h.below hb
 have o1 : Off (fun k => v.ownBlock = some k) (W.alloc o) W4 := Off.of_grown h2.row (by decide) hg
 have hv : ∀ k, v.ownBlock = some k → q + 3 ≤ k := fun k hk => (row_type h2.row hk).1
 have hv' : ∀ k, v'.ownBlock = some k → q + 3 ≤ k ∧ k < W4.heap.size := fun k hk => by obtain ⟨a, c, hc⟩ := row_type hrow hk; exact ⟨a, lt_of_get hc⟩
 have s4 := o1.same h2.sv (fun e => by have := hv _ e; omega)
 have o2 : Off (fun k => k = q) W4 (W4.setCell ⟨q, 0, none⟩ v') := Off.setCell (Y := fun k => k = q) (p := ⟨q, 0, none⟩) rfl s4 (by decide) _
 have s5 := heap_setCell_same W4 q 0 v' s4
 refine ⟨s4, by simpa using s5, o2.same (o1.same h2.dfr (fun e => by have := hv _ e; omega)) (by omega), o2.same (o1.same h2.rcd (fun e => by have := hv _ e; omega)) (by omega), SpRow.snoc (row_keep hrow fun k hk => o2.keep k ⟨(hv' k hk).2, by have := (hv' k hk).1; omega⟩), h2.blw.trans ⟨(o1.trans' o2).os, (o1.trans' o2).tape, (o1.trans' o2).output, (o1.trans' o2).size, fun k hk => (o1.trans' o2).keep k ⟨by have := h2.size; omega, ?_⟩⟩, Nat.le_trans h2.size (o1.trans' o2).size⟩
 rintro (e | e)
 ·have := hv _ e; omega
 ·omega
theorem SpRow.cells {w : World} {B : Nat} {ao : Option Addr} {cp : Nat} {sps : List Sp} (h : SpRow w B (.slice ao sps.length cp) sps) {i : Nat} {x : Sp} (hx : sps[i]? = some x) : ∃ sg, ao = some ⟨sg, 0, none⟩ ∧ sg < w.heap.size ∧ ∀ (y : Nat) c, x.cells[y]? = some c → w.cell? ⟨sg, i * 5 + y, none⟩ = some c := by
 obtain ⟨sg, c, hv⟩ := own_form h (by have := get_lt hx; omega)
 cases hv
 obtain ⟨_, cur, hcur⟩ := row_type h (k := sg) rfl
 refine ⟨sg, rfl, lt_of_get hcur, fun y c hy => (row_cell h ?_).1⟩
 have hy5 : y < 5 := by have := get_lt hy; simpa [Sp.cells] using this
 rw [List.flatMap_def, flatten_at (si := 5) (by intro r hr; obtain ⟨z, _, rfl⟩ := List.mem_map.1 hr; rfl) (r := x.cells) (by rw [List.getElem?_map, hx]; rfl) y hy5]
 exact hy
theorem coll_loop {w : World} {q bs B : Nat} {ao : Option Addr} {cp : Nat} {sps : List Sp} (hq : q = w.heap.size) (hn : sps.length ≤ 7000) (hb : w.heap[bs]? = some (.cells #[.slice ao sps.length cp] 64 (0, 0))) (hr : SpRow w B (.slice ao sps.length cp) sps) (rc : LoopState → Option Code → Loop) (K : Ending → World → Prop)
  (hround : ∀ (j : Nat) x v A, sps[j]? = some x → CoJ w q (rc .ready none) v (sps.take j) A → YieldAt Fence.wide 7 Tryz.prog (q + 1 + 1) #[Sp.v x] A fun e C => (e = .returned (.bool true) ∧ ∃ v', CoJ w q (rc .ready none) v' (sps.take (j + 1)) C) ∨ (e = .returned (.bool false) ∧ False))
  (hend : ∀ r W v, CoJ w q (rc .ready none) v sps W → K (.returned r) W) :
  CallsIn Fence.wide 8 Tryz.prog 107 #[.func (.yield (q + 1 + 1)) #[] #[], .pointer (some ⟨bs, 0, none⟩)] (((w.alloc (.cells #[.slice none 0 0] 64)).alloc (.deferred (some []))).alloc (.loop (rc .ready none))) K := by
 refine (values1_any 8 bs (q + 1 + 1) ao cp sps (fun j W => ∃ v, CoJ w q (rc .ready none) v (sps.take j) W) (fun _ => False) _ (by omega) (heap_alloc_old (heap_alloc_old (heap_alloc_old hb))) ?_ ?_ ?_ ?_).mono ?_
 ·rintro j A ⟨v, h⟩ i x hx
  obtain ⟨sg, h1, h2, h3⟩ := hr.cells hx
  exact ⟨sg, h1, fun y c hy => (World.cell?_of_block (h.blw.block sg (by omega))).trans (h3 y c hy)⟩
 ·rintro j A B' ⟨v, h⟩ hb'
  exact ⟨v, h.below hb'⟩
 ·rintro j x A hx ⟨v, h⟩
  exact hround j x v A hx h
 ·refine ⟨.slice none 0 0, heap_alloc_old (heap_alloc_old (heap_alloc_at _ _ _ hq)), heap_alloc_old (heap_alloc_at _ _ _ (by simp [hq])), heap_alloc_at _ _ _ (by simp [hq]), World.ownsRow_nil _ _ _ _, ?_, by simp [hq]⟩
  rw [hq]
  exact below3 _ _ _ _
 ·rintro e W ⟨⟨r, rfl⟩, (⟨v, h⟩ | h)⟩
  ·rw [List.take_length] at h
   exact hend r W v h
  ·exact h.elim
def CollPost (sps : List Sp) (w : World) (e : Ending) (w' : World) : Prop := ∃ v, e = .returned v ∧ SpRow w' w.heap.size v sps ∧ Below w.heap.size w w'
set_option maxRecDepth 20000 in
set_option maxHeartbeats 4000000 in
theorem appendSeq_any (B bs : Nat) (v0 : Value) (sps : List Sp) (w : World) (hn : sps.length ≤ 7000) (hb : w.heap[bs]? = some (.cells #[v0] 64 (0, 0))) (hr : SpRow w B v0 sps) :
  Calls Tryz.prog 78 #[.slice none 0 0, .func (.func 107) #[] #[.pointer (some ⟨bs, 0, none⟩)]] w (CollPost sps w) := by
 refine (callsIn_wide (n := 9)).1 (callsIn_of_wp_marks Tryz.func78 rfl trivial (wpIn_wide.2 ?_))
 simp only [Tryz.ntmps78, List.size_toArray, List.length_cons, List.length_nil, Nat.reduceAdd, Nat.reduceSub, Array.replicate_succ, Array.replicate_zero, List.push_toArray, List.append_toArray, List.nil_append, List.cons_append]
 obtain ⟨ao, cp, hv0⟩ := row_slice hr
 subst hv0
 obtain ⟨q, hq⟩ : ∃ q, q = w.heap.size := ⟨_, rfl⟩
 have HB := hide hb
 have HR := hide hr
 clear hb hr
 go_wp2_with fail
 rw [← hq]
 refine (wpIn_wide (n := 9)).1 (range_outer rfl (by decide) (gf := 107) (lb := #[.pointer (some ⟨bs, 0, none⟩)]) rfl trivial (enters_of Tryz.func107 (by kernel_rfl) rfl) ?_)
 intro fn hfn
 have hsz : (w.alloc (.cells #[.slice none 0 0] 64)).heap.size = q + 1 := by rw [hq]; simp
 rw [hsz]
 have HQ := hide hq
 clear hsz hq
 refine coll_loop HQ.out hn HB.out HR.out (recd fn _ _ _ _ _) _ ?_ ?_
 ·intro j x v A hx hj
  have HJ := hide hj
  refine round_recd trivial hj.rcd rfl ?_
  intro rb rc hrc
  rw [← hrc] at HJ ⊢
  clear hj hrc
  unfold Sp.v spv
  gi_wp2_with (refine wpListIn_store_row rfl _ _ _ rfl _ #[.int .i64 x.fr, .int .i64 x.to, .string x.nm, .int .i64 x.dep, .string x.co] rfl rfl 70 _ (heap_alloc_at _ _ _ rfl) rfl rfl (by simp [Value.oneCell']) ?_; rw [alloc_setRow _ _ _ _ _ rfl])
  have HJ1 := hide (HJ.out.below ((Below.refl _ _).alloc (o := .cells #[.int .i64 x.fr, .int .i64 x.to, .string x.nm, .int .i64 x.dep, .string x.co] 70) (Nat.le_refl _)))
  refine ⟨HJ1.out.rcd, ?_⟩
  have hsp := heap_alloc_last A (.cells #[.int .i64 x.fr, .int .i64 x.to, .string x.nm, .int .i64 x.dep, .string x.co] 70)
  have hsp2 := (Off.putObj (Y := fun k => k = q + 1 + 1) (.loop rb) HJ1.out.rcd rfl).same hsp (by have := HJ.out.size; omega)
  have HJ2 := hide (HJ1.out.setL rb)
  obtain ⟨A2, hA2⟩ : ∃ A2, (A.alloc (.cells #[.int .i64 x.fr, .int .i64 x.to, .string x.nm, .int .i64 x.dep, .string x.co] 70)).putObj (q + 1 + 1) (.loop rb) = A2 := ⟨_, rfl⟩
  rw [hA2] at HJ2 hsp2 ⊢
  obtain ⟨sA, hsA⟩ : ∃ sA, sA = A.heap.size := ⟨_, rfl⟩
  rw [← hsA] at hsp2 ⊢
  obtain ⟨n0, hi, hz0, hz1, hz3⟩ := info_parts info_apispan
  have c0 : A2.cell? ⟨q, 0, none⟩ = some v := cell_one HJ2.out.sv
  have s0 : A2.cell? ⟨sA, 0, none⟩ = some (.int .i64 x.fr) := cell_at hsp2 rfl
  have s1 : A2.cell? ⟨sA, 1, none⟩ = some (.int .i64 x.to) := cell_at hsp2 rfl
  have s2 : A2.cell? ⟨sA, 2, none⟩ = some (.string x.nm) := cell_at hsp2 rfl
  have s3 : A2.cell? ⟨sA, 3, none⟩ = some (.int .i64 x.dep) := cell_at hsp2 rfl
  have s4 : A2.cell? ⟨sA, 4, none⟩ = some (.string x.co) := cell_at hsp2 rfl
  have hpre : (sps.take j).length = j := by rw [List.length_take]; have := get_lt hx; omega
  have hjn : j ≤ 7000 := by have := get_lt hx; omega
  have HROW := hide (show (A2.alloc (.cells #[.int .i64 x.fr, .int .i64 x.to, .string x.nm, .int .i64 x.dep, .string x.co] 70)).ownsRow (q + 3) 70 5 v j ((sps.take j).flatMap Sp.cells) from by
   have h := (HJ2.out.below ((Below.refl _ _).alloc (o := .cells #[.int .i64 x.fr, .int .i64 x.to, .string x.nm, .int .i64 x.dep, .string x.co] 70) (Nat.le_refl _))).row
   unfold SpRow at h
   rw [hpre] at h
   exact h)
  have HNW := hide (fun (y : Nat) u (h : ([.int .i64 x.fr, .int .i64 x.to, .string x.nm, .int .i64 x.dep, .string x.co] : List Value)[y]? = some u) => show (A2.alloc (.cells #[.int .i64 x.fr, .int .i64 x.to, .string x.nm, .int .i64 x.dep, .string x.co] 70)).cell? ((⟨A2.heap.size, 0, none⟩ : Addr).add y) = some u from cell_new_row A2 #[.int .i64 x.fr, .int .i64 x.to, .string x.nm, .int .i64 x.dep, .string x.co] _ y u h)
  have hbase : q + 3 ≤ (A2.alloc (.cells #[.int .i64 x.fr, .int .i64 x.to, .string x.nm, .int .i64 x.dep, .string x.co] 70)).heap.size := by rw [World.size_alloc]; have := HJ2.out.size; omega
  have HNX := hide (fun (v' : Value) (W4 : World) (hrow : W4.ownsRow (q + 3) 70 5 v' (j + 1) ((sps.take j).flatMap Sp.cells ++ [.int .i64 x.fr, .int .i64 x.to, .string x.nm, .int .i64 x.dep, .string x.co])) (hg : (A2.alloc (.cells #[.int .i64 x.fr, .int .i64 x.to, .string x.nm, .int .i64 x.dep, .string x.co] 70)).grownBy W4 v.ownBlock) => HJ2.out.next (x := x) (v' := v') (W4 := W4) (by rw [hpre]; exact hrow) hg)
  have htk : sps.take (j + 1) = sps.take j ++ [x] := by rw [List.take_add_one, hx]; rfl
  have HX := hide hx
  clear hsp hsp2 hA2 hsA hx
  gi_wp2_with (refine wpListIn_append_own_at _ rfl (.tmp 8) (.tmp 10) 64 rfl (q + 3) 70 n0 (.agg #[.int .i64 0, .int .i64 0, .string ⟨#[]⟩, .int .i64 0, .string ⟨#[]⟩]) 5 56 Tryz.underlying64 hi hz0 hz1 hz3 rfl (by decide) v j ((sps.take j).flatMap Sp.cells) (by rfl) HROW.out ⟨A2.heap.size, 0, none⟩ 1 1 [.int .i64 x.fr, .int .i64 x.to, .string x.nm, .int .i64 x.dep, .string x.co] (by rfl) rfl HNW.out (by simp [Value.oneCell']) (by unfold maxLen; omega) (by omega) hbase ?_; intro v' W4 hown hg _ _; obtain ⟨hq4, hcj⟩ := HNX.out v' W4 hown hg; have HCJ := hide hcj; obtain ⟨g', cap', rfl⟩ := own_form hown (by omega); have z0 := cell_one hq4; have z0f : W4.frozen? ⟨q, 0, none⟩ = false := (by simp [World.frozen?, hq4]); clear hown hg hcj hq4 HNX HROW HNW)
  exact ⟨HCJ.out.rcd, .inl ⟨rfl, _, by rw [htk]; exact HCJ.out.setL _⟩⟩
 ·intro r W v hj
  refine ⟨⟨r, rfl⟩, .inl ⟨hj.rcd, fun ro => ?_⟩⟩
  have hj2 := hj.setL ro
  obtain ⟨W9, hW9⟩ : ∃ W9, W.putObj (q + 1 + 1) (.loop ro) = W9 := ⟨_, rfl⟩
  rw [hW9] at hj2 ⊢
  have c9 : W9.cell? ⟨q, 0, none⟩ = some v := cell_one hj2.sv
  have HD9 := hide hj2.dfr
  have HPOST := hide (show CollPost sps w (.returned v) (W9.putObj (q + 1) (.deferred none)) from by
   have ho : Off (fun k => k = q + 1) W9 (W9.putObj (q + 1) (.deferred none)) := Off.putObj' _ hj2.dfr (fun _ _ _ h => by cases h) rfl
   refine ⟨v, rfl, ?_, ?_⟩
   ·rw [← HQ.out]
    refine row_base (row_keep hj2.row fun k hk => ?_) (by omega)
    obtain ⟨a, c, hc⟩ := row_type hj2.row hk
    rw [hc]
    exact ho.same hc (by omega)
   ·rw [← HQ.out]
    exact hj2.blw.trans ⟨ho.os, ho.tape, ho.output, ho.size, fun k hk => ho.keep k ⟨by have := hj2.size; omega, by omega⟩⟩)
  obtain ⟨vao, vc, hvs⟩ := row_slice hj2.row
  subst hvs
  clear hj hj2 hW9
  dsimp only
  go_wp2_with fail
  refine ⟨by simp, .inl ⟨_, _, rfl, run_takeDeferred HD9.out, ?_⟩⟩
  exact ⟨_, (by simp [results, Tryz.results78, go_sem]), HPOST.out⟩
theorem collect_any (B bs : Nat) (v0 : Value) (sps : List Sp) (w : World) (hn : sps.length ≤ 7000) (hb : w.heap[bs]? = some (.cells #[v0] 64 (0, 0))) (hr : SpRow w B v0 sps) :
  Calls Tryz.prog 52 #[.func (.func 107) #[] #[.pointer (some ⟨bs, 0, none⟩)]] w (CollPost sps w) := by
 have HA := hide (appendSeq_any B bs v0 sps w hn hb hr)
 go_enter Tryz.func52, Tryz.ntmps52
 go_wp2_with fail
 refine HA.out.mono ?_
 rintro e w1 ⟨v, rfl, h1, h2⟩
 have HE := hide (show CollPost sps w (.returned v) w1 from ⟨v, rfl, h1, h2⟩)
 obtain ⟨vao, vc, hv⟩ := row_slice h1
 subst hv
 clear h1 h2 HA
 go_wp2_with fail
 go_ret
 exact HE.out
def NmRow (w : World) (B : Nat) (v : Value) (nms : List ByteArray) : Prop := w.ownsRow B 9 1 v nms.length (nms.map Value.string)
theorem info_str1 : (Tryz.prog.info? 9).map (fun i => (i.zero, i.size, i.bytes)) = some (some (.string ⟨#[]⟩), 1, 16) := by kernel_rfl
def NamesPost (nms : List ByteArray) (w : World) (e : Ending) (w' : World) : Prop := ∃ v, e = .returned v ∧ NmRow w' w.heap.size v nms ∧ Below w.heap.size w w'
def nmsOf (G : List GS) (st : List Nat) : List ByteArray := st.map fun i => ((G[i]?).map GS.nm).getD ⟨#[]⟩
def NmLoop (G : List GS) (st : List Nat) (w W0 : World) (k : Nat) (vn vi : Value) (wr : World) : Prop :=
 ∃ (j : Nat) (ao : Option Addr) (c : Nat), vi = .int .i64 j ∧ vn = .slice ao j c ∧ j + k = st.length ∧ NmRow wr W0.heap.size (.slice ao j c) (nmsOf G (st.take j)) ∧ Below W0.heap.size W0 wr ∧ w.heap.size ≤ W0.heap.size
set_option maxRecDepth 20000 in
set_option maxHeartbeats 2000000 in
theorem names_any (g n cap : Nat) (G : List GS) (st : List Nat) (hgood : Good G st) (w : World) (hG : GramIs w g n cap G) :
  Calls Tryz.prog 80 #[stv st, .slice (some ⟨g, 0, none⟩) n cap] w (NamesPost (nmsOf G st) w) := by
 obtain ⟨a0, a1, a2, a3, a4, a5, a6, a7, a8, hst⟩ := nine hgood.1.2
 have h8 := stCells_depth hgood.1.2
 rw [hst] at h8
 have ha8 : a8 = st.length := by simp at h8; omega
 unfold stv
 rw [hst, ha8]
 obtain ⟨W0, hW0⟩ : ∃ W0, w.alloc (.cells #[.int .i64 a0, .int .i64 a1, .int .i64 a2, .int .i64 a3, .int .i64 a4, .int .i64 a5, .int .i64 a6, .int .i64 a7, .int .i64 st.length] 138) = W0 := ⟨_, rfl⟩
 have hq0 : W0.heap[w.heap.size]? = some (.cells (stCells st).toArray 138 (0, 0)) := by rw [← hW0, hst, ha8]; exact heap_alloc_last _ _
 have hb0 : Below w.heap.size w W0 := by rw [← hW0]; exact (Below.refl _ _).alloc (Nat.le_refl _) _
 have c8 : W0.cell? ⟨w.heap.size, 8, none⟩ = some (.int .i64 st.length) := cell_at hq0 (by rw [List.getElem?_toArray]; exact stCells_depth hgood.1.2)
 have HG := hide hG
 have HQ0 := hide hq0
 have HB0 := hide hb0
 have hlt8 := hgood.1.2
 obtain ⟨n0, hi, hz0, hz1, hz3⟩ := info_parts info_str1
 have hal : Tryz.prog.arrayLen 136 = 8 := by kernel_rfl
 have hl1 : (st.length : Int) ≤ (Tryz.prog.arrayLen 136 : Int) := by rw [hal]; omega
 have hsl : (Instr.sliceAt 136 (.pointer (some ⟨w.heap.size, 0, none⟩)) none (some (.int .i64 st.length)) none).run Tryz.prog W0 = .ok (.slice (some ⟨w.heap.size, 0, none⟩) st.length 8) W0 := by
  rw [run_sliceAt_array_h W0 136 _ (by kernel_rfl) .i64 _ (by omega) hl1, hal]
  simp [slicedAt, go_sem, Addr.add]
 clear hst h8 ha8 hq0 hb0 hG hl1 hal
 go_enter Tryz.func80, Tryz.ntmps80
 go_wp2_with fail
 obtain ⟨q, hq⟩ : ∃ q, q = w.heap.size := ⟨_, rfl⟩
 rw [← hq]
 rw [← hq] at HQ0
 have HQ := hide hq
 clear hsl c8 hq hW0
 go_loopg [5, 13] st.length (fun k vn vi wr => NmLoop G st w W0 k vn vi wr)
 case atStart => exact ⟨0, none, 0, rfl, rfl, by omega, World.ownsRow_nil _ _ _ _, Below.refl _ _, HB0.out.size⟩
 case round =>
  obtain ⟨j, vao, vc, rfl, rfl, hj, hrow, hb, hsz⟩ := hrel
  by_cases hlt : j < st.length
  ·have g1 : decide ((j : Int) < (st.length : Int)) = true := decide_eq_true (by omega)
   obtain ⟨i, hij⟩ : ∃ i, st[j]? = some i := ⟨_, List.getElem?_eq_getElem hlt⟩
   have hiG : i < G.length := hgood.2 i (List.mem_of_getElem? hij)
   obtain ⟨s, hs⟩ : ∃ s, G[i]? = some s := ⟨_, List.getElem?_eq_getElem hiG⟩
   have hGr := HG.out.below (HB0.out.trans (hb.mono hsz))
   have hin : i < n := by rw [hGr.len]; exact hiG
   have n1 := (hGr.at_ i s hs).1
   have s1 : wr.cell? ⟨q, j, none⟩ = some (.int .i64 i) := cell_at ((hb.block _ (lt_of_get HQ0.out)).trans HQ0.out) (by rw [List.getElem?_toArray]; exact stCells_get hij)
   have hwr : IntKind.i64.wrap ((j : Int) + 1) = (j : Int) + 1 := by rw [IntKind.wrap_i64]; omega
   have hln : (nmsOf G (st.take j)).length = j := by unfold nmsOf; rw [List.length_map, List.length_take]; omega
   have htk : nmsOf G (st.take (j + 1)) = nmsOf G (st.take j) ++ [s.nm] := by
    unfold nmsOf
    rw [List.take_add_one, hij]
    simp [hs]
   have HROW := hide (show (wr.alloc (.cells #[.string s.nm] 9)).ownsRow W0.heap.size 9 1 (.slice vao j vc) j ((nmsOf G (st.take j)).map Value.string) from by
    unfold NmRow at hrow
    rw [hln] at hrow
    exact row_keep hrow fun k hk => ((Below.refl _ _).alloc (Nat.le_refl _) _).block k (by obtain ⟨_, c, hc⟩ := row_type hrow hk; exact lt_of_get hc))
   have HNW := hide (fun (y : Nat) u (h : ([.string s.nm] : List Value)[y]? = some u) => show (wr.alloc (.cells #[.string s.nm] 9)).cell? ((⟨wr.heap.size, 0, none⟩ : Addr).add y) = some u from cell_new_row wr #[.string s.nm] _ y u h)
   have hbase : W0.heap.size ≤ (wr.alloc (.cells #[.string s.nm] 9)).heap.size := by rw [World.size_alloc]; have := hb.size; omega
   have HNX := hide (fun (v' : Value) (W4 : World) (hr : W4.ownsRow W0.heap.size 9 1 v' (j + 1) ((nmsOf G (st.take j)).map Value.string ++ [.string s.nm])) (hg : (wr.alloc (.cells #[.string s.nm] 9)).grownBy W4 (Value.slice vao j vc).ownBlock) => show NmLoop G st w W0 (st.length - (j + 1)) v' (.int .i64 ((j : Int) + 1)) W4 from by
    obtain ⟨ao2, c2, hv2⟩ := row_slice hr
    subst hv2
    refine ⟨j + 1, ao2, c2, by simp, rfl, by omega, ?_, ?_, hsz⟩
    ·unfold NmRow
     rw [htk, List.length_append, hln, List.map_append]
     exact hr
    ·have hb2 : Below W0.heap.size W0 (wr.alloc (.cells #[.string s.nm] 9)) := hb.alloc hb.size _
     exact hb2.trans (below_grown hb2.size hg fun k hk => (row_type HROW.out hk).1))
   clear hrow hb hGr hij hs htk
   go_wp2_with (at_builtin; go_loud (refine wpList_append_own_at _ rfl (.tmp 17) (.tmp 23) 61 rfl W0.heap.size 9 n0 (.string ⟨#[]⟩) 1 16 Tryz.underlying61 hi hz0 hz1 hz3 rfl (by decide) (.slice vao j vc) j ((nmsOf G (st.take j)).map Value.string) (by rfl) HROW.out ⟨wr.heap.size, 0, none⟩ 1 1 [.string s.nm] (by rfl) rfl HNW.out (by simp [Value.oneCell']) (by unfold maxLen; omega) (by omega) hbase ?_; intro v' W4 hown hg _ _; have HST := hide (HNX.out v' W4 hown hg); obtain ⟨g', cap', rfl⟩ := own_form hown (by omega); clear hown hg HNX HROW HNW))
   go_wp2_with fail
   go_roundg (st.length - (j + 1))
   case measure => omega
   case rel => exact HST.out
  ·have g1 : decide ((j : Int) < (st.length : Int)) = false := decide_eq_false (by omega)
   obtain rfl : j = st.length := by omega
   have HEND := hide (show NamesPost (nmsOf G st) w (.returned (.slice vao st.length vc)) wr from ⟨_, rfl, by rw [List.take_length] at hrow; exact row_base hrow hsz, HB0.out.trans (hb.mono hsz)⟩)
   clear hrow hb
   go_wp2_with fail
   go_ret
   exact HEND.out
def RLinesPost (T : List UInt8) (w : World) (e : Ending) (w' : World) : Prop := ∃ v nms, e = .returned v ∧ NmRow w' w.heap.size v nms ∧ nms.map (·.data.toList) = splitL T ∧ Below w.heap.size w w'
def RLLoop (s : ByteArray) (w : World) (k : Nat) (vl va vi : Value) (wr : World) : Prop :=
 ∃ (a i : Nat) (nms : List ByteArray) (ao : Option Addr) (c : Nat), vl = .slice ao nms.length c ∧ va = .int .i64 a ∧ vi = .int .i64 i ∧ i + k = s.size ∧ a ≤ i ∧ NmRow wr w.heap.size (.slice ao nms.length c) nms ∧ nms.length ≤ i ∧ nms.map (·.data.toList) ++ splitL (rest s a) = splitL s.data.toList ∧ (∀ m, a ≤ m → m < i → s.data.toList[m]? ≠ some 10) ∧ Below w.heap.size w wr
theorem NmRow.snoc {w W W4 : World} {v v' : Value} {nms : List ByteArray} {x : ByteArray} {o : Obj} (h : NmRow W w.heap.size v nms) (hb : Below w.heap.size w W) (hr : W4.ownsRow w.heap.size 9 1 v' (nms.length + 1) (nms.map Value.string ++ [.string x])) (hg : (W.alloc o).grownBy W4 v.ownBlock) : NmRow W4 w.heap.size v' (nms ++ [x]) ∧ Below w.heap.size w W4 := by
 refine ⟨?_, ?_⟩
 ·unfold NmRow
  rw [List.length_append, List.map_append]
  exact hr
 ·have hb2 : Below w.heap.size w (W.alloc o) := hb.alloc hb.size _
  exact hb2.trans (below_grown hb2.size hg fun k hk => (row_type h hk).1)
theorem row_typ {w w' : World} {B : Nat} {e : TypeId} {size : Nat} {v : Value} {n : Nat} {xs : List Value} (h : w.ownsRow B e size v n xs) (hk : ∀ (k : Nat) c, w.heap[k]? = some (.cells c e (0, 0)) → w'.heap[k]? = some (.cells c e (0, 0))) : w'.ownsRow B e size v n xs := row_keep h fun k hk' => by
 obtain ⟨_, c, hc⟩ := row_type h hk'
 rw [hc]
 exact hk k c hc
end Go.Proofs.YtgncgdkpkkdaeaaGreatDoor
