/- Finder, and what it makes. -/
import Derived.Test.YtjjeomcojobjhaaDoorR19
import Derived.Test.YtjjeomcojobjhaaDoorSiz
namespace Go.Proofs.YtjjeomcojobjhaaDoor
open Go.RowKit Tint Go.Maps

theorem rep_mirrored {w : World} {ns : List (Nd Value)} {a : ARe} (h : Rep (IsCls w) ns a) : Rep (IsCls w) (ns.map swp) a.mir := by
  refine h.mir (fun i x l r e hi => ?_) (fun i nd hk hi => ?_)
  · rw [List.getElem?_map, hi]; rfl
  · rw [List.getElem?_map, hi]
    simp [swp, hk]

/-- A finder of the tree a: its two readers, in their boxes. -/
def FinderIs (w : World) (B : Nat) (a : ARe) (bb fb : Nat) : Prop :=
  ∃ (N0 N1 nf nb : Nat) (ρf ρb : Rd) (sf sb : Nat) (tf tb : List D) (ef eb : Nat), B ≤ N0 ∧ 0 < N0 ∧ N0 ≤ N1 ∧ N1 ≤ w.heap.size ∧
    w.heap[bb]? = some (.cells #[.int .u64 sb, .func (.func 39) #[] #[.pointer (some ⟨ρb.av, 0, none⟩)], .func (.func 41) #[] #[.pointer (some ⟨ρb.ev, 0, none⟩)]] 67 (0, 0)) ∧
    w.heap[fb]? = some (.cells #[.int .u64 sf, .func (.func 39) #[] #[.pointer (some ⟨ρf.av, 0, none⟩)], .func (.func 41) #[] #[.pointer (some ⟨ρf.ev, 0, none⟩)]] 67 (0, 0)) ∧
    Full w (old N1) ρb nb a.mir tb eb ∧ Inr tb sb ∧ (∀ u, Lang tb sb u ↔ Mt a.mir.re u) ∧
    (∀ w', Below N1 w w' → Full w' (old N0) ρf nf a tf ef) ∧ Inr tf sf ∧ (∀ u, Lang tf sf u ↔ Mt a.re u)

theorem Lists.base {w : World} {B : Nat} {sv : Value} {ns : List (Nd Value)} (h : Lists w B sv ns) : Lists w 0 sv ns := by
  obtain ⟨⟨h1, h2⟩, h3⟩ := h
  refine ⟨⟨h1, ?_⟩, h3⟩
  rcases h2 with h2 | ⟨g, cap, cur, a1, a2, a3⟩
  · exact .inl h2
  · exact .inr ⟨g, cap, cur, a1, Nat.zero_le _, a3⟩

def FinderPost (a : ARe) (w : World) (e : Ending) (w' : World) : Prop :=
  ∃ bb fb, e = .returned (.func (.func 24) #[] #[.pointer (some ⟨bb, 0, none⟩), .pointer (some ⟨fb, 0, none⟩)]) ∧ Below w.heap.size w w' ∧ FinderIs w' w.heap.size a bb fb

theorem finder_end {w w0 w1 w2 w3 w4 w5 : World} {a : ARe} {N1 nf nb sf sb bb : Nat} {ρf ρb : Rd} {tf tb : List D} {ef eb : Nat} (h0 : 0 < w0.heap.size) (hb0 : Below w.heap.size w w0) (hb1 : Below w0.heap.size w0 w1) (hf : Full w1 (old w0.heap.size) ρf nf a tf ef) (hfi : Inr tf sf) (hfl : ∀ u, Lang tf sf u ↔ Mt a.re u)
    (hb2 : Below w1.heap.size w1 w2) (hfx : w2.heap[w1.heap.size]? = some (.cells #[.int .u64 sf, .func (.func 39) #[] #[.pointer (some ⟨ρf.av, 0, none⟩)], .func (.func 41) #[] #[.pointer (some ⟨ρf.ev, 0, none⟩)]] 67 (0, 0))) (hb3 : Below w2.heap.size w2 w3) (hb4 : Below w3.heap.size w3 w4) (hN1 : w3.heap.size ≤ N1) (hN2 : N1 ≤ w4.heap.size)
    (hb5 : Below w2.heap.size w4 w5) (hbx : w5.heap[bb]? = some (.cells #[.int .u64 sb, .func (.func 39) #[] #[.pointer (some ⟨ρb.av, 0, none⟩)], .func (.func 41) #[] #[.pointer (some ⟨ρb.ev, 0, none⟩)]] 67 (0, 0))) (hB : Full w5 (old N1) ρb nb a.mir tb eb) (hbi : Inr tb sb) (hbl : ∀ u, Lang tb sb u ↔ Mt a.mir.re u) :
    FinderPost a w (.returned (.func (.func 24) #[] #[.pointer (some ⟨bb, 0, none⟩), .pointer (some ⟨w1.heap.size, 0, none⟩)])) w5 := by
  have s0 := hb0.size
  have s1 := hb1.size
  have s2 := hb2.size
  have s3 := hb3.size
  have s4 := hb4.size
  have s5 := hb5.size
  have b35 := (hb4.mono s3).trans hb5
  have b25 := hb3.trans b35
  have b15 := hb2.trans (b25.mono s2)
  have b05 := hb1.trans (b15.mono s1)
  exact ⟨bb, w1.heap.size, rfl, hb0.trans (b05.mono s0), w0.heap.size, N1, nf, nb, ρf, ρb, sf, sb, tf, tb, ef, eb, s0, h0, by omega, by omega, hbx, (b25.block _ (lt_of_get hfx)).trans hfx, hB, hbi, hbl, fun w' hw' => hf.below (b15.trans (hw'.mono (by omega))), hfi, hfl⟩

theorem box_set {w4 : World} {bz : Nat} {z0 z1 z2 x0 x1 x2 : Value} (h : w4.heap[bz]? = some (.cells #[z0, z1, z2] 67 (0, 0))) :
    (((w4.setCell ⟨bz, 0, none⟩ x0).setCell ⟨bz, 1, none⟩ x1).setCell ⟨bz, 2, none⟩ x2).heap[bz]? = some (.cells #[x0, x1, x2] 67 (0, 0)) := by
  have h1 := heap_setCell_same w4 bz 0 x0 h
  have h2 := heap_setCell_same _ bz 1 x1 h1
  have h3 := heap_setCell_same _ bz 2 x2 h2
  simpa using h3

theorem box_below {B bz : Nat} (w4 : World) (x0 x1 x2 : Value) (h : B ≤ bz) : Below B w4 (((w4.setCell ⟨bz, 0, none⟩ x0).setCell ⟨bz, 1, none⟩ x1).setCell ⟨bz, 2, none⟩ x2) :=
  (((Below.refl _ _).setCell h _).setCell h _).setCell h _

theorem box_full {w4 : World} {bz : Nat} {z0 z1 z2 x0 x1 x2 : Value} {X : Nat → Prop} {ρ : Rd} {n0 : Nat} {root : ARe} {ts : List D} {en : Nat} (h : w4.heap[bz]? = some (.cells #[z0, z1, z2] 67 (0, 0))) (hF : Full w4 X ρ n0 root ts en) :
    Full (((w4.setCell ⟨bz, 0, none⟩ x0).setCell ⟨bz, 1, none⟩ x1).setCell ⟨bz, 2, none⟩ x2) X ρ n0 root ts en :=
  hF.other (fun j o ho hne => by
    have hj : j ≠ bz := by
      rintro rfl
      rw [h] at ho
      cases ho
      exact hne _ _ rfl
    rw [Below.heap_setCell _ _ _ _ (by exact hj), Below.heap_setCell _ _ _ _ (by exact hj), Below.heap_setCell _ _ _ _ (by exact hj)]
    exact ho)

set_option maxRecDepth 20000 in
set_option maxHeartbeats 2000000 in
theorem finder_any (sv : Value) (ns : List (Nd Value)) (a : ARe) (w : World) (hw : 0 < w.heap.size) (hL : Lists w 0 sv ns) (hr : Rep (IsCls w) ns a) (he : Rep (IsCls w) ns .eps) (h0 : 0 < ns.length) (hn : ns.length ≤ 200) (hz : a.sz ≤ 200) (hl : a.leaves ≤ 60) (k : Nat) (hk : k = a.ix) :
    Calls Tryd.prog 15 #[.agg #[sv, .int .i64 k]] w (FinderPost a w) := by
  obtain ⟨g, cap, rfl⟩ := own_form hL.1 h0
  have HL := hide hL
  have HR := hide hr
  have HE := hide he
  have HK := hide hk
  have hb0 : Below w.heap.size w (w.alloc (.cells #[.slice (some ⟨g, 0, none⟩) ns.length cap, .int .i64 k] 39)) := (Below.refl _ _).alloc (Nat.le_refl _) _
  have HP0 := hide (heap_alloc_last w (.cells #[.slice (some ⟨g, 0, none⟩) ns.length cap, .int .i64 k] 39))
  have HL0 := hide (hL.alloc (.cells #[.slice (some ⟨g, 0, none⟩) ns.length cap, .int .i64 k] 39))
  have HB0 := hide hb0
  clear hL hr he hk hb0
  go_enter Tryd.func15, Tryd.ntmps15
  go_wp2_with fail
  generalize hW : w.alloc (.cells #[.slice (some ⟨g, 0, none⟩) ns.length cap, .int .i64 k] 39) = w0
  rw [hW] at HP0 HL0 HB0
  clear hW
  refine (newReader_any (.slice (some ⟨g, 0, none⟩) ns.length cap) ns a w0 HL0.out (HR.out.world (Stay.of_below HB0.out)) (HE.out.world (Stay.of_below HB0.out)) h0 hn hz hl k HK.out).mono ?_
  rintro e w1 ⟨ρf, sf, tf, ef, rfl, hB1, hF1, hI1, hl1⟩
  have HB1 := hide hB1
  have HF1 := hide hF1
  have HI1 := hide hI1
  have Hl1 := hide hl1
  have hP1 := (hB1.block _ (lt_of_get HP0.out)).trans HP0.out
  have p0 : w1.cell? ⟨w.heap.size, 0, none⟩ = some (.slice (some ⟨g, 0, none⟩) ns.length cap) := by simp [World.cell?, hP1]
  have p1 : w1.cell? ⟨w.heap.size, 1, none⟩ = some (.int .i64 k) := by simp [World.cell?, hP1]
  have p0' := cell_alloc_old p0
  have p1' := cell_alloc_old p1
  have HP1 := hide hP1
  clear hB1 hF1 hI1 hl1 hP1
  unfold rdv
  go_wp2_with fail
  have hbx := heap_alloc_last w1 (.cells #[.int .u64 sf, .func (.func 39) #[] #[.pointer (some ⟨ρf.av, 0, none⟩)], .func (.func 41) #[] #[.pointer (some ⟨ρf.ev, 0, none⟩)]] 67)
  have hb2 : Below w1.heap.size w1 (w1.alloc (.cells #[.int .u64 sf, .func (.func 39) #[] #[.pointer (some ⟨ρf.av, 0, none⟩)], .func (.func 41) #[] #[.pointer (some ⟨ρf.ev, 0, none⟩)]] 67)) := (Below.refl _ _).alloc (Nat.le_refl _) _
  replace p0' := p0' (.cells #[.int .u64 sf, .func (.func 39) #[] #[.pointer (some ⟨ρf.av, 0, none⟩)], .func (.func 41) #[] #[.pointer (some ⟨ρf.ev, 0, none⟩)]] 67)
  replace p1' := p1' (.cells #[.int .u64 sf, .func (.func 39) #[] #[.pointer (some ⟨ρf.av, 0, none⟩)], .func (.func 41) #[] #[.pointer (some ⟨ρf.ev, 0, none⟩)]] 67)
  generalize hW : w1.alloc (.cells #[.int .u64 sf, .func (.func 39) #[] #[.pointer (some ⟨ρf.av, 0, none⟩)], .func (.func 41) #[] #[.pointer (some ⟨ρf.ev, 0, none⟩)]] 67) = w2 at hbx hb2 p0' p1'
  clear hW
  have HBX := hide hbx
  have HB2 := hide hb2
  have b02 := HB1.out.trans (hb2.mono HB1.out.size)
  have bw2 := HB0.out.trans (b02.mono HB0.out.size)
  have HL2 := hide (show Lists w2.drew 0 (.slice (some ⟨g, 0, none⟩) ns.length cap) ns from HL0.out.keep (fun k hk => b02.block k (lt_of_get (HL0.out.block hk).2.choose_spec)))
  have HBW2 := hide bw2
  have hP2 := (b02.block _ (lt_of_get HP0.out)).trans HP0.out
  have HP2 := hide hP2
  have HMR := hide (fun (W : World) (hW : Below w2.heap.size w2 W) => mirrored_any (.slice (some ⟨g, 0, none⟩) ns.length cap) ns W (HL2.out.keep (fun k hk => hW.block k (lt_of_get (HL2.out.block hk).2.choose_spec))) h0 hn)
  have p0'' := cell_alloc_old p0'
  have p1'' := cell_alloc_old p1'
  clear hbx hb2 b02 bw2 hP2 p0 p1 HP1
  go_region_with (first
    | (go_at_call 23; refine (HMR.out w2.drew (Below.refl _ _).drew).mono ?_; rintro e3 w3 ⟨sv3, rfl, hB3', hL3⟩; obtain ⟨g3, cap3, rfl⟩ := own_form hL3.1 (by simpa using h0); rw [List.length_map]; have hB3 : Below w2.heap.size w2 w3 := ⟨hB3'.os, hB3'.tape, hB3'.output, hB3'.size, hB3'.block⟩; have hP3 := (hB3.block _ (lt_of_get HP2.out)).trans HP2.out; have p3 : w3.cell? ⟨w.heap.size, 1, none⟩ = some (.int .i64 k) := (by simp [World.cell?, hP3]); have p3' := cell_alloc_old p3; have HB3 := hide hB3; have hst3 : Stay w w3 := fun k c t ht hh => Stay.of_below hB3 k c t ht (Stay.of_below HBW2.out k c t ht hh); have HNR := hide (fun (W : World) (hW : Below w3.heap.size w3 W) => newReader_any (.slice (some ⟨g3, 0, none⟩) ns.length cap3) (ns.map swp) a.mir W (by have h9 := hL3.base.keep (fun k hk => hW.block k (lt_of_get (hL3.block hk).2.choose_spec)); rw [List.length_map] at h9; exact h9) (rep_mirrored (HR.out.world (hst3.trans (Stay.of_below hW)))) (rep_mirrored (HE.out.world (hst3.trans (Stay.of_below hW)))) (by simpa using h0) (by simpa using hn) (by rw [ARe.mir_sz]; exact hz) (by rw [ARe.mir_leaves]; exact hl) k (by rw [ARe.mir_ix]; exact HK.out)); clear hB3' hB3 hL3 hP3 hst3)
    | (go_at_call 23; refine (HMR.out (w2.alloc (.cells #[.int .u64 0, .nilFunc, .nilFunc] 67)).drew ((Below.refl _ _).alloc (Nat.le_refl _) _).drew).mono ?_; rintro e3 w3 ⟨sv3, rfl, hB3', hL3⟩; obtain ⟨g3, cap3, rfl⟩ := own_form hL3.1 (by simpa using h0); rw [List.length_map]; have hB3 : Below w2.heap.size w2 w3 := (show Below w2.heap.size w2 (w2.alloc (.cells #[.int .u64 0, .nilFunc, .nilFunc] 67)).drew from ((Below.refl _ _).alloc (Nat.le_refl _) _).drew).trans (hB3'.mono (by simp)); have HZ3 := hide ((hB3'.block w2.heap.size (lt_of_get (heap_alloc_last w2 (.cells #[.int .u64 0, .nilFunc, .nilFunc] 67)))).trans (heap_alloc_last w2 (.cells #[.int .u64 0, .nilFunc, .nilFunc] 67))); have hP3 := (hB3.block _ (lt_of_get HP2.out)).trans HP2.out; have p3 : w3.cell? ⟨w.heap.size, 1, none⟩ = some (.int .i64 k) := (by simp [World.cell?, hP3]); have p3' := cell_alloc_old p3; have HB3 := hide hB3; have hst3 : Stay w w3 := fun k c t ht hh => Stay.of_below hB3 k c t ht (Stay.of_below HBW2.out k c t ht hh); have HNR := hide (fun (W : World) (hW : Below w3.heap.size w3 W) => newReader_any (.slice (some ⟨g3, 0, none⟩) ns.length cap3) (ns.map swp) a.mir W (by have h9 := hL3.base.keep (fun k hk => hW.block k (lt_of_get (hL3.block hk).2.choose_spec)); rw [List.length_map] at h9; exact h9) (rep_mirrored (HR.out.world (hst3.trans (Stay.of_below hW)))) (rep_mirrored (HE.out.world (hst3.trans (Stay.of_below hW)))) (by simpa using h0) (by simpa using hn) (by rw [ARe.mir_sz]; exact hz) (by rw [ARe.mir_leaves]; exact hl) k (by rw [ARe.mir_ix]; exact HK.out)); clear hB3' hB3 hL3 hP3 hst3)
    | (go_at_call 22; have hz3 := HZ3.out; refine (HNR.out w3 (Below.refl _ _)).mono ?_; rintro e4 w4 ⟨ρb, sb, tb, eb, rfl, hB4, hF4, hI4, hl4⟩; have hz4 := (hB4.block _ (lt_of_get hz3)).trans hz3; have z0 : w4.cell? ⟨w2.heap.size, 0, none⟩ = some (.int .u64 0) := (by simp [World.cell?, hz4]); have y0 : w4.frozen? ⟨w2.heap.size, 0, none⟩ = false := (by simp [World.frozen?, hz4]); have z1 : w4.cell? ⟨w2.heap.size, 1, none⟩ = some .nilFunc := (by simp [World.cell?, hz4]); have y1 : w4.frozen? ⟨w2.heap.size, 1, none⟩ = false := (by simp [World.frozen?, hz4]); have z2 : w4.cell? ⟨w2.heap.size, 2, none⟩ = some .nilFunc := (by simp [World.cell?, hz4]); have y2 : w4.frozen? ⟨w2.heap.size, 2, none⟩ = false := (by simp [World.frozen?, hz4]); have HZ4 := hide hz4; have HB4 := hide hB4; have HF4 := hide hF4; have HI4 := hide hI4; have Hl4 := hide hl4; clear hB4 hF4 hI4 hl4; clear hz3 hz4 HZ3; unfold rdv)
    | (go_at_call 22; refine (HNR.out w3 (Below.refl _ _)).mono ?_; rintro e4 w4 ⟨ρb, sb, tb, eb, rfl, hB4, hF4, hI4, hl4⟩; have HB4 := hide hB4; have HF4 := hide hF4; have HI4 := hide hI4; have Hl4 := hide hl4; clear hB4 hF4 hI4 hl4; unfold rdv)
    | (go_at_call 22; refine (HNR.out _ ((Below.refl _ _).alloc (Nat.le_refl _) _)).mono ?_; rintro e4 w4 ⟨ρb, sb, tb, eb, rfl, hB4, hF4, hI4, hl4⟩; have hz4 := (hB4.block _ (lt_of_get (heap_alloc_last w3 (.cells #[.int .u64 0, .nilFunc, .nilFunc] 67)))).trans (heap_alloc_last w3 (.cells #[.int .u64 0, .nilFunc, .nilFunc] 67)); have z0 : w4.cell? ⟨w3.heap.size, 0, none⟩ = some (.int .u64 0) := (by simp [World.cell?, hz4]); have y0 : w4.frozen? ⟨w3.heap.size, 0, none⟩ = false := (by simp [World.frozen?, hz4]); have z1 : w4.cell? ⟨w3.heap.size, 1, none⟩ = some .nilFunc := (by simp [World.cell?, hz4]); have y1 : w4.frozen? ⟨w3.heap.size, 1, none⟩ = false := (by simp [World.frozen?, hz4]); have z2 : w4.cell? ⟨w3.heap.size, 2, none⟩ = some .nilFunc := (by simp [World.cell?, hz4]); have y2 : w4.frozen? ⟨w3.heap.size, 2, none⟩ = false := (by simp [World.frozen?, hz4]); have HZ4 := hide hz4; have HB4 := hide hB4; have HF4 := hide hF4; have HI4 := hide hI4; have Hl4 := hide hl4; clear hB4 hF4 hI4 hl4; clear hz4; unfold rdv))
  all_goals
    go_wp2_with fail
    go_ret
    have h00 : 0 < w0.heap.size := Nat.lt_of_lt_of_le hw HB0.out.size
    first
      | exact finder_end h00 HB0.out HB1.out HF1.out HI1.out Hl1.out HB2.out HBX.out HB3.out HB4.out (Nat.le_refl _) HB4.out.size ((Below.refl _ _).alloc (Nat.le_trans HB3.out.size HB4.out.size) _) (heap_alloc_last _ _) (HF4.out.below ((Below.refl _ _).alloc (Nat.le_refl _) _)) HI4.out Hl4.out
      | exact finder_end h00 HB0.out HB1.out HF1.out HI1.out Hl1.out HB2.out HBX.out HB3.out HB4.out (Nat.le_refl _) HB4.out.size (box_below _ _ _ _ (Nat.le_refl _)) (box_set HZ4.out) (box_full HZ4.out HF4.out) HI4.out Hl4.out
      | exact finder_end (w3 := w3) h00 HB0.out HB1.out HF1.out HI1.out Hl1.out HB2.out HBX.out HB3.out (((Below.refl _ _).alloc (Nat.le_refl _) _).trans (HB4.out.mono (by simp))) (by simp) HB4.out.size (box_below _ _ _ _ HB3.out.size) (box_set HZ4.out) (box_full HZ4.out HF4.out) HI4.out Hl4.out
end Go.Proofs.YtjjeomcojobjhaaDoor
