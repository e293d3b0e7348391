/- Put together from H6, H7. -/
import Derived.Test.YtgncgdkpkkdaeaaGreatDoorQH4
import Derived.Test.YtgncgdkpkkdaeaaGreatDoorQ3
/- The document's Stacks. -/
namespace Go.Proofs.YtgncgdkpkkdaeaaGreatDoor
open Go.RowKit Tint Go.Maps Go.Shelf

/-- A line of the document's: its stack, its spans, and where they lie. -/
structure RE where
  st : List Nat
  sb : Nat
  scp : Nat
  lv : Value
  sps : List Sp

def RE.ov (e : RE) : Value := .slice (some ⟨e.sb, 0, none⟩) e.st.length e.scp

theorem info_ints : (Tryz.prog.info? 57).map (fun i => (i.zero, i.size, i.bytes)) = some (some (.slice none 0 0), 1, 24) := by kernel_rfl
theorem info_spans : (Tryz.prog.info? 64).map (fun i => (i.zero, i.size, i.bytes)) = some (some (.slice none 0 0), 1, 24) := by kernel_rfl

structure RSJ (w : World) (G : List GS) (T : List UInt8) (vl : Value) (nms : List ByteArray) (j : Nat) (st : List Nat) (sb scp : Nat) (vo vs : Value) (no : Nat) (os : List Value) (es : List RE) (W : World) : Prop where
  orow : W.ownsRow w.heap.size 57 1 vo no os
  srow : W.ownsRow w.heap.size 64 1 vs es.length (es.map RE.lv)
  lrow : NmRow W w.heap.size vl nms
  each : ∀ e ∈ es, IntsAt W e.sb e.st ∧ SpRow W w.heap.size e.lv e.sps ∧ e.st.length ≤ e.scp
  ints : IntsAt W sb st
  good : Good G st
  cp : st.length ≤ scp
  runs : Runs G [0] ((splitL T).take j) (es.map fun e => (e.st, e.sps)) st
  blw : Below w.heap.size w W

/-- Rows keep where blocks of one type alone are written. -/
theorem row_typ {w w' : World} {B : Nat} {e : TypeId} {size : Nat} {v : Value} {n : Nat} {xs : List Value} (h : w.ownsRow B e size v n xs) (hk : ∀ (k : Nat) c, w.heap[k]? = some (.cells c e (0, 0)) → w'.heap[k]? = some (.cells c e (0, 0))) : w'.ownsRow B e size v n xs := row_keep h fun k hk' => by
  obtain ⟨_, c, hc⟩ := row_type h hk'
  rw [hc]
  exact hk k c hc

section
variable {w W W4 : World} {G : List GS} {T : List UInt8} {vl : Value} {nms : List ByteArray} {j : Nat} {st : List Nat} {sb scp : Nat} {vo vs : Value} {no : Nat} {os : List Value} {es : List RE}

theorem RSJ.below (h : RSJ w G T vl nms j st sb scp vo vs no os es W) (hb : Below W.heap.size W W4) : RSJ w G T vl nms j st sb scp vo vs no os es W4 := by
  have key : ∀ (t : TypeId) (k : Nat) c, W.heap[k]? = some (.cells c t (0, 0)) → W4.heap[k]? = some (.cells c t (0, 0)) := fun t k c hh => (hb.block k (lt_of_get hh)).trans hh
  exact ⟨row_typ h.orow (key _), row_typ h.srow (key _), row_typ h.lrow (key _), fun e he => ⟨(h.each e he).1.below hb, row_typ (h.each e he).2.1 (key _), (h.each e he).2.2⟩, h.ints.below hb, h.good, h.cp, h.runs, h.blw.trans (hb.mono h.blw.size)⟩

/-- A stack was put to the others. -/
theorem RSJ.out {o : Obj} {vo' : Value} {u : Value} (h : RSJ w G T vl nms j st sb scp vo vs no os es W) (hrow : W4.ownsRow w.heap.size 57 1 vo' (no + 1) (os ++ [u])) (hg : (W.alloc o).grownBy W4 vo.ownBlock) : RSJ w G T vl nms j st sb scp vo' vs (no + 1) (os ++ [u]) es W4 := by
  have h2 := h.below ((Below.refl _ _).alloc (o := o) (Nat.le_refl _))
  have o1 : Off (fun k => vo.ownBlock = some k) (W.alloc o) W4 := Off.of_grown h2.orow (by decide) hg
  have key : ∀ (t : TypeId) (k : Nat) c fz, t ≠ 57 → (W.alloc o).heap[k]? = some (.cells c t fz) → W4.heap[k]? = some (.cells c t fz) := fun t k c fz ht hh => o1.same hh (fun e => by
    obtain ⟨_, c', hc'⟩ := row_type h2.orow e
    rw [hh] at hc'
    cases hc'
    exact ht rfl)
  exact ⟨hrow, row_typ h2.srow (fun k c => key _ k c _ (by decide)), row_typ h2.lrow (fun k c => key _ k c _ (by decide)), fun e he => ⟨(h2.each e he).1.keep (fun c fz => key _ _ c fz (by decide)), row_typ (h2.each e he).2.1 (fun k c => key _ k c _ (by decide)), (h2.each e he).2.2⟩, h2.ints.keep (fun c fz => key _ _ c fz (by decide)), h2.good, h2.cp, h2.runs, h2.blw.trans ⟨o1.os, o1.tape, o1.output, o1.size, fun k hk => o1.keep k ⟨Nat.lt_of_lt_of_le hk h2.blw.size, fun e => by have := (row_type h2.orow e).1; omega⟩⟩⟩

/-- A line was gone through. -/
theorem RSJ.thru {W5 : World} {body : List UInt8} {lv : Value} {sps : List Sp} {sb' scp' : Nat} {st' : List Nat} {o : Obj} {vs' : Value} (h : RSJ w G T vl nms j st sb scp vo vs no os es W) (hok : GOk G) (hb5 : Below W.heap.size W W5) (hbody : (splitL T)[j]? = some body) (ht : Thru G body st sps st') (hsp : SpRow W5 W.heap.size lv sps) (hi : IntsAt W5 sb' st') (hc : st'.length ≤ scp')
    (hrow : W4.ownsRow w.heap.size 64 1 vs' (es.length + 1) (es.map RE.lv ++ [lv])) (hg : (W5.alloc o).grownBy W4 vs.ownBlock) : RSJ w G T vl nms (j + 1) st' sb' scp' vo vs' no os (es ++ [⟨st, sb, scp, lv, sps⟩]) W4 := by
  have h5 := h.below hb5
  have hbo : Below W5.heap.size W5 (W5.alloc o) := (Below.refl _ _).alloc (Nat.le_refl _) _
  have h2 := h5.below hbo
  have o1 : Off (fun k => vs.ownBlock = some k) (W5.alloc o) W4 := Off.of_grown h2.srow (by decide) hg
  have key : ∀ (t : TypeId) (k : Nat) c fz, t ≠ 64 → (W5.alloc o).heap[k]? = some (.cells c t fz) → W4.heap[k]? = some (.cells c t fz) := fun t k c fz ht hh => o1.same hh (fun e => by
    obtain ⟨_, c', hc'⟩ := row_type h2.srow e
    rw [hh] at hc'
    cases hc'
    exact ht rfl)
  have hsp2 : SpRow W4 w.heap.size lv sps := row_base (row_typ (row_keep hsp fun k hk => hbo.block k (by obtain ⟨_, c, hc⟩ := row_type hsp hk; exact lt_of_get hc)) (fun k c => key _ k c _ (by decide))) h.blw.size
  refine ⟨row_typ h2.orow (fun k c => key _ k c _ (by decide)), ?_, row_typ h2.lrow (fun k c => key _ k c _ (by decide)), fun e he => ?_, (hi.below hbo).keep (fun c fz => key _ _ c fz (by decide)), ht.good hok h.good, hc, ?_, h2.blw.trans ⟨o1.os, o1.tape, o1.output, o1.size, fun k hk => o1.keep k ⟨Nat.lt_of_lt_of_le hk h2.blw.size, fun e => by have := (row_type h2.srow e).1; omega⟩⟩⟩
  · rw [List.length_append, List.map_append]
    exact hrow
  · rcases List.mem_append.1 he with he | he
    · exact ⟨(h2.each e he).1.keep (fun c fz => key _ _ c fz (by decide)), row_typ (h2.each e he).2.1 (fun k c => key _ k c _ (by decide)), (h2.each e he).2.2⟩
    · obtain rfl := List.mem_singleton.1 he
      exact ⟨h2.ints.keep (fun c fz => key _ _ c fz (by decide)), hsp2, h.cp⟩
  · rw [List.take_add_one, hbody, List.map_append]
    exact h.runs.snoc ht
end
end Go.Proofs.YtgncgdkpkkdaeaaGreatDoor

/- The document's Stacks. -/
namespace Go.Proofs.YtgncgdkpkkdaeaaGreatDoor
open Go.RowKit Tint Go.Maps Go.Shelf

def RSPost (G : List GS) (T : List UInt8) (w : World) (e : Ending) (W : World) : Prop :=
  ∃ (vo vs : Value) (es : List RE) (st : List Nat), e = .returned (.tuple #[vo, vs]) ∧ W.ownsRow w.heap.size 57 1 vo es.length (es.map RE.ov) ∧ W.ownsRow w.heap.size 64 1 vs es.length (es.map RE.lv) ∧
    (∀ e ∈ es, IntsAt W e.sb e.st ∧ SpRow W w.heap.size e.lv e.sps ∧ e.st.length ≤ e.scp) ∧ Runs G [0] (splitL T) (es.map fun e => (e.st, e.sps)) st ∧ Below w.heap.size w W

def RSLoop (w : World) (G : List GS) (T : List UInt8) (vl : Value) (nms : List ByteArray) (k : Nat) (vo vs vt vi : Value) (W : World) : Prop :=
  ∃ (j : Nat) (st : List Nat) (sb scp : Nat) (ao : Option Addr) (c : Nat) (so : Option Addr) (sc : Nat) (es : List RE), vo = .slice ao j c ∧ vs = .slice so j sc ∧ vt = .slice (some ⟨sb, 0, none⟩) st.length scp ∧ vi = .int .i64 j ∧ j + k = nms.length ∧ es.length = j ∧
    RSJ w G T vl nms j st sb scp (.slice ao j c) (.slice so j sc) j (es.map RE.ov) es W

set_option maxRecDepth 20000 in
set_option maxHeartbeats 2000000 in
theorem refStacks_any (B P g n0 cap : Nat) (ss : List RSt) (G : List GS) (text : ByteArray) (w : World) (h : RG w B P g n0 cap ss) (hsame : SameG G ss) (hok : GOk G) (hG : 0 < G.length) (hz : text.size ≤ 3000) :
    Calls Tryz.prog 35 #[.pointer (some ⟨P, 0, none⟩), .string text] w (RSPost G text.data.toList w) := by
  have HRG := hide h
  have HSG := hide hsame
  have HOK := hide hok
  have HRL := hide (refLines_any text w hz)
  obtain ⟨i0, hi0, hz0, hz1, hz3⟩ := info_parts info_ints
  obtain ⟨i1, hi1, hy0, hy1, hy3⟩ := info_parts info_spans
  clear h hsame hok
  go_enter Tryz.func35, Tryz.ntmps35
  go_wp2_with fail
  refine HRL.out.mono ?_
  rintro e w1 ⟨vl, nms, rfl, hnr, hnm, hb1⟩
  have hnl : nms.length = (splitL text.data.toList).length := by rw [← hnm, List.length_map]
  have hpos : 0 < nms.length := by rw [hnl]; exact List.length_pos_iff.2 (splitL_ne _)
  obtain ⟨lb, lc, rfl⟩ := own_form hnr hpos
  have hcnt : nms.length ≤ 3001 := by
    rw [hnl, splitL_length]
    have := List.count_le_length (a := (10 : UInt8)) (l := text.data.toList)
    rw [text_length] at this
    omega
  have HNM := hide hnm
  have HJ0 := hide (show RSJ w G text.data.toList (.slice (some ⟨lb, 0, none⟩) nms.length lc) nms 0 [0] w1.heap.size 1 (.slice none 0 0) (.slice none 0 0) 0 [] [] (w1.alloc (.cells #[.int .i64 0] 3)) from
    ⟨World.ownsRow_nil _ _ _ _, World.ownsRow_nil _ _ _ _, row_keep hnr fun k hk => ((Below.refl _ _).alloc (Nat.le_refl _) _).block k (by obtain ⟨_, c, hc⟩ := row_type hnr hk; exact lt_of_get hc), fun e he => by simp at he,
      ⟨_, _, heap_alloc_last _ _, fun j x hj => by
        cases j with
        | zero => simp at hj; subst hj; rfl
        | succ j => simp at hj⟩, ⟨by simp, fun x hx => by simp at hx; omega⟩, Nat.le_refl _, .nil, hb1.alloc hb1.size _⟩)
  have HNL := hide hnl
  clear hnr hnm hb1 HRL hnl
  go_wp2_with fail
  go_loopg [7, 8, 9, 10] nms.length (fun k vo vs vt vi W => RSLoop w G text.data.toList (.slice (some ⟨lb, 0, none⟩) nms.length lc) nms k vo vs vt vi W)
  case atStart => exact ⟨0, [0], _, 1, none, 0, none, 0, [], rfl, rfl, rfl, rfl, by omega, rfl, HJ0.out⟩
  case round =>
    obtain ⟨j, st, sb, scp, ao, c, so, sc, es, rfl, rfl, rfl, rfl, hk, hes, hJ⟩ := hrel
    have HJ := hide hJ
    have HES := hide hes
    by_cases hlt : j < nms.length
    · have g1 : decide ((j : Int) < (nms.length : Int)) = true := decide_eq_true (by omega)
      have hwr : IntKind.i64.wrap ((j : Int) + 1) = (j : Int) + 1 := by rw [IntKind.wrap_i64]; omega
      obtain ⟨x, hx⟩ : ∃ x, nms[j]? = some x := ⟨_, List.getElem?_eq_getElem hlt⟩
      have hbody : (splitL text.data.toList)[j]? = some x.data.toList := by rw [← HNM.out, List.getElem?_map, hx]; rfl
      have hxz : x.size ≤ 3000 := by
        have := splitL_short (List.mem_of_getElem? hbody)
        rw [text_length, text_length] at this
        omega
      have HBODY := hide hbody
      have HROW := hide (show (wr.alloc (.cells #[.slice (some ⟨sb, 0, none⟩) st.length scp] 57)).ownsRow w.heap.size 57 1 (.slice ao j c) j (es.map RE.ov) from (hJ.below ((Below.refl _ _).alloc (Nat.le_refl _) _)).orow)
      have HNW := hide (fun (y : Nat) u (h : ([.slice (some ⟨sb, 0, none⟩) st.length scp] : List Value)[y]? = some u) => show (wr.alloc (.cells #[.slice (some ⟨sb, 0, none⟩) st.length scp] 57)).cell? ((⟨wr.heap.size, 0, none⟩ : Addr).add y) = some u from cell_new_row wr #[.slice (some ⟨sb, 0, none⟩) st.length scp] _ y u h)
      have hbase : w.heap.size ≤ (wr.alloc (.cells #[.slice (some ⟨sb, 0, none⟩) st.length scp] 57)).heap.size := by rw [World.size_alloc]; have := hJ.blw.size; omega
      have HNX := hide (fun (v' : Value) (W4 : World) (hr : W4.ownsRow w.heap.size 57 1 v' (j + 1) (es.map RE.ov ++ [.slice (some ⟨sb, 0, none⟩) st.length scp])) (hg : (wr.alloc (.cells #[.slice (some ⟨sb, 0, none⟩) st.length scp] 57)).grownBy W4 (Value.slice ao j c).ownBlock) => HJ.out.out hr hg)
      clear hJ hbody
      go_wp2_with (at_builtin; go_loud (refine wpList_append_own_at _ rfl (.tmp 22) (.tmp 24) 87 rfl w.heap.size 57 i0 (.slice none 0 0) 1 24 Tryz.underlying87 hi0 hz0 hz1 hz3 rfl (by decide) (.slice ao j c) j (es.map RE.ov) (by rfl) HROW.out ⟨wr.heap.size, 0, none⟩ 1 1 [.slice (some ⟨sb, 0, none⟩) st.length scp] (by rfl) rfl HNW.out (by simp [Value.oneCell']) (by unfold maxLen; omega) (by omega) hbase ?_; intro v' W4 hown hg _ _; have HJ2 := hide (HNX.out v' W4 hown hg); obtain ⟨g', cap', rfl⟩ := own_form hown (by omega); have hlc := (row_cell HJ2.out.lrow (j := j) (u := .string x) (by rw [List.getElem?_map, hx]; rfl)).1; clear hown hg HNX HROW HNW HJ))
      have HTH := hide (through_any B P g n0 cap ss G x st sb scp W4 (HRG.out.below HJ2.out.blw) HSG.out HOK.out HJ2.out.good hxz HJ2.out.ints HJ2.out.cp)
      refine HTH.out.mono ?_
      rintro e w5 ⟨lv, sps, sb', st', scp', rfl, ht5, hsp5, hi5, hc5, hb5⟩
      obtain ⟨lao, lcp, rfl⟩ := row_slice hsp5
      obtain ⟨nsp, hnsp⟩ : ∃ nsp, nsp = sps.length := ⟨_, rfl⟩
      rw [← hnsp] at hsp5 ⊢
      have hs5 := HJ2.out.below hb5
      have HROW := hide (show (w5.alloc (.cells #[.slice lao nsp lcp] 64)).ownsRow w.heap.size 64 1 (.slice so j sc) j (es.map RE.lv) from by
        have := (hs5.below ((Below.refl _ _).alloc (o := .cells #[.slice lao nsp lcp] 64) (Nat.le_refl _))).srow
        rw [HES.out] at this
        exact this)
      have HNW := hide (fun (y : Nat) u (h : ([.slice lao nsp lcp] : List Value)[y]? = some u) => show (w5.alloc (.cells #[.slice lao nsp lcp] 64)).cell? ((⟨w5.heap.size, 0, none⟩ : Addr).add y) = some u from cell_new_row w5 #[.slice lao nsp lcp] _ y u h)
      have hbase2 : w.heap.size ≤ (w5.alloc (.cells #[.slice lao nsp lcp] 64)).heap.size := by rw [World.size_alloc]; have := hs5.blw.size; omega
      have HNX := hide (fun (v' : Value) (W6 : World) (hr : W6.ownsRow w.heap.size 64 1 v' (j + 1) (es.map RE.lv ++ [.slice lao nsp lcp])) (hg : (w5.alloc (.cells #[.slice lao nsp lcp] 64)).grownBy W6 (Value.slice so j sc).ownBlock) => show RSLoop w G text.data.toList (.slice (some ⟨lb, 0, none⟩) nms.length lc) nms (nms.length - (j + 1)) (.slice (some ⟨g', 0, none⟩) (j + 1) cap') v' (.slice (some ⟨sb', 0, none⟩) st'.length scp') (.int .i64 ((j : Int) + 1)) W6 from by
        have hes' := HES.out
        have h6 := HJ2.out.thru HOK.out hb5 HBODY.out ht5 hsp5 hi5 hc5 (by rw [hes']; exact hr) hg
        obtain ⟨so', sc', hv'⟩ := row_slice hr
        subst hv'
        refine ⟨j + 1, st', sb', scp', some ⟨g', 0, none⟩, cap', so', sc', es ++ [⟨st, sb, scp, .slice lao nsp lcp, sps⟩], rfl, rfl, rfl, by simp, by omega, by simp [hes'], ?_⟩
        rw [List.map_append]
        exact h6)
      clear hsp5 ht5 hi5 hc5 hb5 hs5 HJ2 HTH hnsp
      go_wp2_with (at_builtin; go_loud (refine wpList_append_own_at _ rfl (.tmp 36) (.tmp 38) 52 rfl w.heap.size 64 i1 (.slice none 0 0) 1 24 Tryz.underlying52 hi1 hy0 hy1 hy3 rfl (by decide) (.slice so j sc) j (es.map RE.lv) (by rfl) HROW.out ⟨w5.heap.size, 0, none⟩ 1 1 [.slice lao nsp lcp] (by rfl) rfl HNW.out (by simp [Value.oneCell']) (by unfold maxLen; omega) (by omega) hbase2 ?_; intro v6 W6 hown6 hg6 _ _; have HST := hide (HNX.out v6 W6 hown6 hg6); obtain ⟨g6, cap6, rfl⟩ := own_form hown6 (by omega); clear hown6 hg6 HNX HROW HNW))
      go_wp2_with fail
      go_roundg (nms.length - (j + 1))
      case measure => omega
      case rel => exact HST.out
    · have g1 : decide ((j : Int) < (nms.length : Int)) = false := decide_eq_false (by omega)
      obtain rfl : j = nms.length := by omega
      have HEND := hide (show RSPost G text.data.toList w (.returned (.tuple #[.slice ao nms.length c, .slice so nms.length sc])) wr from ⟨_, _, es, st, rfl, by rw [hes]; exact hJ.orow, by have := hJ.srow; exact this, hJ.each, by have := hJ.runs; rw [List.take_of_length_le (by rw [HNL.out]; exact Nat.le_refl _)] at this; exact this, hJ.blw⟩)
      clear hJ
      go_wp2_with fail
      go_ret2
      exact HEND.out
end Go.Proofs.YtgncgdkpkkdaeaaGreatDoor
