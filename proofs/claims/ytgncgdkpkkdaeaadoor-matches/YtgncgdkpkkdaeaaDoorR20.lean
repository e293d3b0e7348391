/- Finder, and what it makes. -/
import Derived.Test.YtgncgdkpkkdaeaaDoorRM
import Derived.Test.YtgncgdkpkkdaeaaDoorRY
namespace Go.Proofs.YtgncgdkpkkdaeaaDoor
open Go.RowKit Tint Go.Maps

theorem rep_mirrored {w : World} {ns : List (Nd Value)} {a : ARe} (h : Rep (IsCls w) ns a) : Rep (IsCls w) (ns.map swp) a.mir := by
  refine h.mir (fun i x l r e hi => ?_) (fun i nd hk hi => ?_)
  · rw [List.getElem?_map, hi]; rfl
  · rw [List.getElem?_map, hi]
    simp [swp, hk]

theorem Lists.base {w : World} {B : Nat} {sv : Value} {ns : List (Nd Value)} (h : Lists w B sv ns) : Lists w 0 sv ns := by
  obtain ⟨⟨h1, h2⟩, h3⟩ := h
  refine ⟨⟨h1, ?_⟩, h3⟩
  rcases h2 with h2 | ⟨g, cap, cur, a1, a2, a3⟩
  · exact .inl h2
  · exact .inr ⟨g, cap, cur, a1, Nat.zero_le _, a3⟩

def FinderPost (a : ARe) (w : World) (e : Ending) (w' : World) : Prop :=
  ∃ ρf sf ρb sb, e = .returned (fnv ρf sf ρb sb) ∧ Below w.heap.size w w' ∧ FinderIs w' (fun k => w.heap.size ≤ k ∧ k < w'.heap.size) a ρf sf ρb sb

/-- A reader behind what changed only a finder. -/
theorem Full.otherF {w w' : World} {X : Nat → Prop} {ρ : Rd} {n0 : Nat} {root : ARe} {ts : List D} {en : Nat} (h : Full w X ρ n0 root ts en) (hk : ∀ (k : Nat) o, w.heap[k]? = some o → (∀ c fz, o ≠ .cells c 49 fz) → w'.heap[k]? = some o) : Full w' X ρ n0 root ts en := by
  obtain ⟨⟨ns, pls, hD⟩, hs, hK, m, f, ks, hm, h1, h2, h3, h4⟩ := h
  have hc : ∀ (k : Nat) c t fz, t ≠ 49 → w.heap[k]? = some (.cells c t fz) → w'.heap[k]? = some (.cells c t fz) := fun k c t fz ht hh => hk k _ hh (fun c' fz' e => by cases e; exact ht rfl)
  have hmap : ∀ (k : Nat) es clk, w.heap[k]? = some (.map es clk) → w'.heap[k]? = some (.map es clk) := fun k es clk hh => hk k _ hh (fun c' fz' e => by cases e)
  have hst : Stay w w' := fun k c t ht hh => hc k c t _ (by rcases ht with rfl | rfl <;> decide) hh
  obtain ⟨pv, hN, hv⟩ := hD.nums
  refine ⟨⟨ns, pls, hD.shelf.keep hst (fun k o _ ho hty => hk k o ho (fun c fz e => ?_)) (fun _ h => .inl h), ⟨pv, ⟨hc _ _ _ _ (by decide) hN.var, hN.row.keepB fun k hk => ?_, ?_, hN.nodup, hN.small⟩, hv⟩, hc _ _ _ _ (by decide) hD.ev, hD.nX, hD.reps.mono fun d k hh => RepD.world hst hh, hD.met, hD.bits, hD.sz, hD.leaves⟩, ⟨hc _ _ _ _ (by decide) hs.sv, hc _ _ _ _ (by decide) hs.mv, hc _ _ _ _ (by decide) hs.nv, hc _ _ _ _ (by decide) hs.xv, hc _ _ _ _ (by decide) hs.kk, hc _ _ _ _ (by decide) hs.wk, hc _ _ _ _ (by decide) hs.kv, hc _ _ _ _ (by decide) hs.av⟩, hK, m, f, ks, hm.keep ?_, h1, h2, h3, h4⟩
  · rcases hty _ _ _ e with h | h <;> cases h
  · obtain ⟨c, hcc⟩ := hN.row.block hk
    rw [hcc]; exact hc _ _ _ _ (by decide) hcc
  · obtain ⟨m, f, hm, h1, h2⟩ := hN.map
    obtain ⟨es, clk, ho⟩ := hm.obj
    exact ⟨m, f, hm.keep ((hmap _ _ _ ho).trans ho.symm), h1, h2⟩
  · obtain ⟨es, clk, ho⟩ := hm.obj
    exact (hmap _ _ _ ho).trans ho.symm


theorem box6 {w4 : World} {bz : Nat} {z0 z1 z2 z3 z4 z5 x0 x1 x2 x3 x4 x5 : Value} (h : w4.heap[bz]? = some (.cells #[z0, z1, z2, z3, z4, z5] 49 (0, 0))) :
    ∃ w5, ((((((w4.setCell ⟨bz, 0, none⟩ x0).setCell ⟨bz, 1, none⟩ x1).setCell ⟨bz, 2, none⟩ x2).setCell ⟨bz, 3, none⟩ x3).setCell ⟨bz, 4, none⟩ x4).setCell ⟨bz, 5, none⟩ x5) = w5 ∧ w5.heap[bz]? = some (.cells #[x0, x1, x2, x3, x4, x5] 49 (0, 0)) ∧ (∀ B, B ≤ bz → Below B w4 w5) ∧ w5.heap.size = w4.heap.size ∧
      ∀ {X : Nat → Prop} {ρ : Rd} {n0 : Nat} {root : ARe} {ts : List D} {en : Nat}, Full w4 X ρ n0 root ts en → Full w5 X ρ n0 root ts en := by
  have h1 := heap_setCell_same w4 bz 0 x0 h
  have h2 := heap_setCell_same _ bz 1 x1 h1
  have h3 := heap_setCell_same _ bz 2 x2 h2
  have h4 := heap_setCell_same _ bz 3 x3 h3
  have h5 := heap_setCell_same _ bz 4 x4 h4
  have h6 := heap_setCell_same _ bz 5 x5 h5
  refine ⟨_, rfl, by simpa using h6, fun B hB => ((((((Below.refl _ _).setCell hB _).setCell hB _).setCell hB _).setCell hB _).setCell hB _).setCell hB _, by simp [World.setCell], fun hF => hF.otherF (fun j o ho hne => ?_)⟩
  have hj : j ≠ bz := by
    rintro rfl
    rw [h] at ho
    cases ho
    exact hne _ _ rfl
  rw [Below.heap_setCell _ _ _ _ (by exact hj), Below.heap_setCell _ _ _ _ (by exact hj), Below.heap_setCell _ _ _ _ (by exact hj), Below.heap_setCell _ _ _ _ (by exact hj), Below.heap_setCell _ _ _ _ (by exact hj), Below.heap_setCell _ _ _ _ (by exact hj)]
  exact ho

theorem finder_end {w W w1 w3 w4 w5 : World} {a : ARe} {nf nb sf sb : Nat} {ρf ρb : Rd} {tf tb : List D} {ef eb : Nat} (h0 : 0 < w.heap.size) (hbW : Below w.heap.size w W) (hb1 : Below W.heap.size W w1) (hf : Full w1 (old W.heap.size) ρf nf a tf ef) (hfi : Inr tf sf) (hfl : ∀ u, Lang tf sf u ↔ Mt a.re u)
    (hb3 : Below w1.heap.size w1 w3) (hb4 : Below w3.heap.size w3 w4) (hB : Full w4 (old w3.heap.size) ρb nb a.mir tb eb) (hbi : Inr tb sb) (hbl : ∀ u, Lang tb sb u ↔ Mt a.mir.re u) (hb5 : Below w.heap.size w4 w5) (hs5 : w5.heap.size = w4.heap.size)
    (h5 : ∀ {X : Nat → Prop} {ρ : Rd} {n0 : Nat} {root : ARe} {ts : List D} {en : Nat}, Full w4 X ρ n0 root ts en → Full w5 X ρ n0 root ts en) : FinderPost a w (.returned (fnv ρf sf ρb sb)) w5 := by
  have s0 := hbW.size
  have s1 := hb1.size
  have s3 := hb3.size
  have s4 := hb4.size
  have b14 := hb3.trans (hb4.mono s3)
  have bw4 : Below w.heap.size w w4 := hbW.trans ((hb1.trans (b14.mono s1)).mono s0)
  refine ⟨ρf, sf, ρb, sb, rfl, bw4.trans hb5, fun k hk => hk.2, fun hk => by have := hk.1; omega, fun k => W.heap.size ≤ k ∧ k < w1.heap.size, fun k => w3.heap.size ≤ k ∧ k < w4.heap.size, fun k hk => ⟨by omega, by omega⟩, fun k hk => ⟨by omega, by omega⟩, fun k hk hb => by omega, ⟨fun k hk => by omega, ⟨fun hk => by omega, by omega⟩, nf, tf, ef, h5 (Full.below (hf.wider fun k hk => ?_) b14), hfi, hfl⟩, ⟨fun k hk => by omega, ⟨fun hk => by omega, by omega⟩, nb, tb, eb, h5 (hB.wider fun k hk => ?_), hbi, hbl⟩⟩
  · rcases Nat.lt_or_ge k w1.heap.size with h | h
    · exact .inl (show k < W.heap.size from Nat.lt_of_not_le fun hge => hk.2 ⟨hge, h⟩)
    · exact .inr h
  · rcases Nat.lt_or_ge k w4.heap.size with h | h
    · exact .inl (show k < w3.heap.size from Nat.lt_of_not_le fun hge => hk.2 ⟨hge, h⟩)
    · exact .inr h

set_option maxRecDepth 20000 in
set_option maxHeartbeats 2000000 in
theorem finder_any (sv : Value) (ns : List (Nd Value)) (a : ARe) (w : World) (hw : 0 < w.heap.size) (hL : Lists w 0 sv ns) (hr : Rep (IsCls w) ns a) (he : Rep (IsCls w) ns .eps) (h0 : 0 < ns.length) (hn : ns.length ≤ 200) (hz : a.sz ≤ 200) (hl : a.leaves ≤ 60) (k : Nat) (hk : k = a.ix) :
    Calls Tryd.prog 15 #[.agg #[sv, .int .i64 k]] w (FinderPost a w) := by
  obtain ⟨g, cap, rfl⟩ := own_form hL.1 h0
  have hlen : (ns.map swp).length = ns.length := by simp
  obtain ⟨W, hW⟩ : ∃ W, (w.alloc (.cells #[.slice (some ⟨g, 0, none⟩) ns.length cap, .int .i64 k] 39)).alloc (.cells #[.int .u64 0, .nilFunc, .nilFunc, .int .u64 0, .nilFunc, .nilFunc] 49) = W := ⟨_, rfl⟩
  have hbW : Below w.heap.size w W := by rw [← hW]; exact ((Below.refl _ _).alloc (Nat.le_refl _) _).alloc (by simp) _
  have hq0 : W.heap[w.heap.size]? = some (.cells #[.slice (some ⟨g, 0, none⟩) ns.length cap, .int .i64 k] 39 (0, 0)) := by rw [← hW]; exact heap_alloc_old (heap_alloc_last _ _)
  have hq1 : W.heap[w.heap.size + 1]? = some (.cells #[.int .u64 0, .nilFunc, .nilFunc, .int .u64 0, .nilFunc, .nilFunc] 49 (0, 0)) := by
    have h1 := heap_alloc_last (w.alloc (.cells #[.slice (some ⟨g, 0, none⟩) ns.length cap, .int .i64 k] 39)) (.cells #[.int .u64 0, .nilFunc, .nilFunc, .int .u64 0, .nilFunc, .nilFunc] 49)
    rw [hW, show (w.alloc (.cells #[.slice (some ⟨g, 0, none⟩) ns.length cap, .int .i64 k] 39)).heap.size = w.heap.size + 1 by simp] at h1
    exact h1
  have hLW : ∀ W', Below W.heap.size W W' → Lists W' 0 (.slice (some ⟨g, 0, none⟩) ns.length cap) ns := fun W' hb => hL.keep fun j hj => ((hbW.trans (hb.mono hbW.size)).block j (lt_of_get (hL.block hj).2.choose_spec))
  have hst : ∀ W', Below W.heap.size W W' → Stay w W' := fun W' hb => Stay.of_below (hbW.trans (hb.mono hbW.size))
  have HN1 := hide (newReader_any (.slice (some ⟨g, 0, none⟩) ns.length cap) ns a W.drew (hLW _ (Below.refl _ _).drew) (hr.world (hst _ (Below.refl _ _).drew)) (he.world (hst _ (Below.refl _ _).drew)) h0 hn hz hl k hk)
  have HMR := hide (fun (W' : World) (hb : Below W.heap.size W W') => mirrored_any (.slice (some ⟨g, 0, none⟩) ns.length cap) ns W' (hLW W' hb) h0 hn)
  have HN2 := hide (fun (W' : World) (hb : Below W.heap.size W W') (g3 cap3 : Nat) (hL3 : Lists W' 0 (.slice (some ⟨g3, 0, none⟩) ns.length cap3) (ns.map swp)) => newReader_any (.slice (some ⟨g3, 0, none⟩) ns.length cap3) (ns.map swp) a.mir W' hL3 (rep_mirrored (hr.world (hst W' hb))) (rep_mirrored (he.world (hst W' hb))) (by simpa using h0) (by simpa using hn) (by rw [ARe.mir_sz]; exact hz) (by rw [ARe.mir_leaves]; exact hl) k (by rw [ARe.mir_ix]; exact hk))
  obtain ⟨q, hq⟩ : ∃ q, q = w.heap.size := ⟨_, rfl⟩
  have HQ := hide hq
  have HKP := hide (fun (W' : World) (hb : Below W.heap.size W W') => show (W'.cell? ⟨q, 0, none⟩ = some (.slice (some ⟨g, 0, none⟩) ns.length cap) ∧ W'.cell? ⟨q, 1, none⟩ = some (.int .i64 k)) ∧ (W'.cell? ⟨q + 1, 0, none⟩ = some (.int .u64 0) ∧ W'.frozen? ⟨q + 1, 0, none⟩ = false ∧ W'.cell? ⟨q + 1, 1, none⟩ = some (.nilFunc) ∧ W'.frozen? ⟨q + 1, 1, none⟩ = false ∧ W'.cell? ⟨q + 1, 2, none⟩ = some (.nilFunc) ∧ W'.frozen? ⟨q + 1, 2, none⟩ = false ∧ W'.cell? ⟨q + 1, 3, none⟩ = some (.int .u64 0) ∧ W'.frozen? ⟨q + 1, 3, none⟩ = false ∧ W'.cell? ⟨q + 1, 4, none⟩ = some (.nilFunc) ∧ W'.frozen? ⟨q + 1, 4, none⟩ = false ∧ W'.cell? ⟨q + 1, 5, none⟩ = some (.nilFunc) ∧ W'.frozen? ⟨q + 1, 5, none⟩ = false) ∧ W'.heap[q + 1]? = some (.cells #[.int .u64 0, .nilFunc, .nilFunc, .int .u64 0, .nilFunc, .nilFunc] 49 (0, 0)) from by
    have h1 := (hb.block _ (lt_of_get hq0)).trans hq0
    have h2 := (hb.block _ (lt_of_get hq1)).trans hq1
    rw [hq]
    exact ⟨by simp [World.cell?, h1], by simp [World.cell?, World.frozen?, h2], h2⟩)
  have HBW := hide hbW
  clear hbW hq0 hq1 hLW hst hL hr he hk
  go_enter Tryd.func15, Tryd.ntmps15
  go_wp2_with fail
  rw [← hq]
  clear hW hq
  have hS0 := (HKP.out W.drew (Below.refl _ _).drew).1
  go_region_held3 (fun w' => w'.cell? ⟨q, 0, none⟩ = some (.slice (some ⟨g, 0, none⟩) ns.length cap) ∧ w'.cell? ⟨q, 1, none⟩ = some (.int .i64 k))
    (first
      | with_reducible exact hS3
      | with_reducible exact hS2
      | with_reducible exact hS1
      | with_reducible exact hS0
      | go_keep)
    (first
      | (go_at_call 23; refine HN1.out.mono ?_; clear HN1; rintro e1 w1 ⟨ρf, sf, tf, ef, rfl, hB1', hF1, hI1, hl1⟩; have hB1 : Below W.heap.size W w1 := ⟨hB1'.os, hB1'.tape, hB1'.output, hB1'.size, hB1'.block⟩; clear hB1'; have hS1 := (HKP.out w1 hB1).1; have HB1 := hide hB1; have HF1 := hide hF1; have HI1 := hide hI1; have Hl1 := hide hl1; clear hB1 hF1 hI1 hl1)
      | (go_at_call 24; refine (HMR.out w1 HB1.out).mono ?_; clear HMR; rintro e3 w3 ⟨sv3, rfl, hB3, hL3⟩; obtain ⟨g3, cap3, rfl⟩ := own_form hL3.1 (by simpa using h0); rw [hlen]; rw [hlen] at hL3; have hS2 := (HKP.out w3 (HB1.out.trans (hB3.mono HB1.out.size))).1; have HB3 := hide hB3; have HL3 := hide hL3.base; clear hB3 hL3)
      | (go_at_call 23; refine (HN2.out w3 (HB1.out.trans (HB3.out.mono HB1.out.size)) g3 cap3 HL3.out).mono ?_; clear HN2; rintro e4 w4 ⟨ρb, sb, tb, eb, rfl, hB4, hF4, hI4, hl4⟩; have hX3 := HKP.out w4 (HB1.out.trans ((HB3.out.trans (hB4.mono HB3.out.size)).mono HB1.out.size)); have hS3 := hX3.1; obtain ⟨z0, y0, z1, y1, z2, y2, z3, y3, z4, y4, z5, y5⟩ := hX3.2.1; have HX3 := hide hX3.2.2; clear hX3; have HB4 := hide hB4; have HF4 := hide hF4; have HI4 := hide hI4; have Hl4 := hide hl4; clear hB4 hF4 hI4 hl4; unfold rdv))
  all_goals
    obtain ⟨w5, hw5, hb5, hB5, hs5, hF5⟩ := box6 (x0 := .int .u64 sf) (x1 := .func (.func 39) #[] #[.pointer (some ⟨ρf.av, 0, none⟩)]) (x2 := .func (.func 41) #[] #[.pointer (some ⟨ρf.ev, 0, none⟩)]) (x3 := .int .u64 sb) (x4 := .func (.func 39) #[] #[.pointer (some ⟨ρb.av, 0, none⟩)]) (x5 := .func (.func 41) #[] #[.pointer (some ⟨ρb.ev, 0, none⟩)]) HX3.out
    rw [hw5]
    have v0 : w5.cell? ⟨q + 1, 0, none⟩ = some (.int .u64 sf) := by simp [World.cell?, hb5]
    have v1 : w5.cell? ⟨q + 1, 1, none⟩ = some (.func (.func 39) #[] #[.pointer (some ⟨ρf.av, 0, none⟩)]) := by simp [World.cell?, hb5]
    have v2 : w5.cell? ⟨q + 1, 2, none⟩ = some (.func (.func 41) #[] #[.pointer (some ⟨ρf.ev, 0, none⟩)]) := by simp [World.cell?, hb5]
    have v3 : w5.cell? ⟨q + 1, 3, none⟩ = some (.int .u64 sb) := by simp [World.cell?, hb5]
    have v4 : w5.cell? ⟨q + 1, 4, none⟩ = some (.func (.func 39) #[] #[.pointer (some ⟨ρb.av, 0, none⟩)]) := by simp [World.cell?, hb5]
    have v5 : w5.cell? ⟨q + 1, 5, none⟩ = some (.func (.func 41) #[] #[.pointer (some ⟨ρb.ev, 0, none⟩)]) := by simp [World.cell?, hb5]
    have HEND := hide (finder_end hw HBW.out HB1.out HF1.out HI1.out Hl1.out HB3.out HB4.out HF4.out HI4.out Hl4.out (hB5 _ (by rw [← HQ.out]; omega)) hs5 hF5)
    clear hw5 hb5 hB5 hs5 hF5 z0 y0 z1 y1 z2 y2 z3 y3 z4 y4 z5 y5 hS0 hS1 hS2 hS3
    go_wp2_with fail
    exact bodyPost_ret (v := .agg #[.int .u64 sf, .func (.func 39) #[] #[.pointer (some ⟨ρf.av, 0, none⟩)], .func (.func 41) #[] #[.pointer (some ⟨ρf.ev, 0, none⟩)], .int .u64 sb, .func (.func 39) #[] #[.pointer (some ⟨ρb.av, 0, none⟩)], .func (.func 41) #[] #[.pointer (some ⟨ρb.ev, 0, none⟩)]]) (by simp [results, Tryd.results15, go_sem, *]) rfl HEND.out
end Go.Proofs.YtgncgdkpkkdaeaaDoor
