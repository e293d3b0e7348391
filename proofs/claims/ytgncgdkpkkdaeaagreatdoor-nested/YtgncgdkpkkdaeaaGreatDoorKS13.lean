import Derived.Test.YtgncgdkpkkdaeaaGreatDoorKX
namespace Go.Proofs.YtgncgdkpkkdaeaaGreatDoor
open Go.RowKit Tint Go.Maps Go.Shelf
attribute [local go_sem] Oper.semAt_some
def SpJ (J : (Nat → Prop) → List Sp → List Nat → World → Prop) (N : Nat) (A0 : Nat → Prop) (w0 g n cap : Nat) (G : List GS) (d : PD) (line : ByteArray) (K kv wk bP bL bS : Nat) (pre : List Sp) (st : List Nat) (W : World) : Prop :=
 ∃ Cl A1 f1 F1 f2, J Cl pre st W ∧ SP N A0 w0 g n cap G d line K kv wk bP bL bS A1 f1 F1 f2 st Cl W
def SpansPost (J : (Nat → Prop) → List Sp → List Nat → World → Prop) (Jx : World → Prop) (N : Nat) (A0 : Nat → Prop) (w0 g n cap : Nat) (G : List GS) (d : PD) (T : List UInt8) (st0 : List Nat) (e : Ending) (W : World) : Prop :=
 (∃ v, e = .returned v) ∧ ((∃ sps st Cl A1 f1 F1, Thru G T st0 sps st ∧ J Cl sps st W ∧ PainterIs W N A1 g n cap G d f1 F1 ∧ (∀ k, A1 k → A0 k ∨ w0 ≤ k) ∧ ∀ k, Cl k → ¬ A1 k) ∨ Jx W)
theorem sp_start {N : Nat} {A0 : Nat → Prop} {g n cap : Nat} {G : List GS} {d : PD} {f : Nat → Option Value} {F : Nat → List FD} {line : ByteArray} {st0 : List Nat} {bP bL q : Nat} {w W W1 : World} {Cl : Nat → Prop} (h : PainterIs w N A0 g n cap G d f F) (hcl : ∀ k, Cl k → k < w.heap.size ∧ N ≤ k ∧ ¬ A0 k ∧ k ≠ bP ∧ k ≠ bL) (hbP : w.heap[bP]? = some (.cells #[.slice (some ⟨g, 0, none⟩) n cap, pfn d] 171 (0, 0))) (hbL : w.heap[bL]? = some (.cells #[.string line] 9 (0, 0))) (hA : ¬ A0 bP ∧ ¬ A0 bL) (hq : q = w.heap.size) (hW : W = w.alloc (.cells (stCells st0).toArray 138)) {e : Ending} (hr : RemIPost #[.pointer (some ⟨bP, 0, none⟩), .pointer (some ⟨bL, 0, none⟩)] W e W1) :
  SP N A0 q g n cap G d line (q + 2) (q + 3) (q + 1) bP bL q A0 f F (fun _ => none) st0 Cl W1 ∧ Below w.heap.size w W1 := by
 obtain ⟨-, hb, hs, h1, h2, h3⟩ := hr
 have hWs : W.heap.size = q + 1 := by rw [hW, hq]; simp
 have hbw : Below w.heap.size w W := by rw [hW]; exact (Below.refl _ _).alloc (Nat.le_refl _) _
 have hS : W.heap[q]? = some (.cells (stCells st0).toArray 138 (0, 0)) := by rw [hW, hq]; exact heap_alloc_last _ _
 have hb1 : Below w.heap.size w W1 := hbw.trans (hb.mono hbw.size)
 rw [hWs] at h1 h2 h3 hs
 have hn : ∀ k, q ≤ k → ¬ A0 k := fun k hk ha => by have := (h.old k ha).2; omega
 refine ⟨⟨h.below hb1, fun k hk => .inl hk, ⟨⟨h1, hn _ (by omega)⟩, ⟨h2, hn _ (by omega)⟩, ⟨⟨by have := h.size; omega, hn _ (by omega)⟩, 0, h3, Nat.zero_le _⟩, fun i v hv => by cases hv⟩, ⟨(hb1.block _ (lt_of_get hbP)).trans hbP, by rw [hq]; exact lt_of_get hbP, hA.1⟩, ⟨(hb1.block _ (lt_of_get hbL)).trans hbL, by rw [hq]; exact lt_of_get hbL, hA.2⟩, ⟨(hb.block _ (by omega)).trans hS, Nat.le_refl _, hn _ (Nat.le_refl _)⟩, ⟨by omega, by omega, by omega, fun i v hv => by cases hv⟩, ⟨by omega, by omega, by omega, fun i v hv => by cases hv⟩, ⟨by omega, by have := h.size; omega⟩, fun k hk => ?_⟩, hb1⟩
 obtain ⟨c1, c2, c3, c4, c5⟩ := hcl k hk
 exact ⟨⟨by omega, c2, c3, c4, c5, by omega⟩, by omega, by omega, by omega, fun i v hv => by cases hv⟩
def SLoop (J : (Nat → Prop) → List Sp → List Nat → World → Prop) (N : Nat) (A0 : Nat → Prop) (w0 g n cap : Nat) (G : List GS) (d : PD) (line : ByteArray) (K kv wk bP bL bS : Nat) (st0 : List Nat) (k : Nat) (va : Value) (wr : World) : Prop :=
 ∃ (at_ : Nat) (st : List Nat) (pre : List Sp), va = .int .i64 at_ ∧ at_ + k = line.size ∧ Path G line.data.toList st0 at_ st pre ∧ Good G st ∧ SpJ J N A0 w0 g n cap G d line K kv wk bP bL bS pre st wr
set_option maxRecDepth 20000 in
set_option maxHeartbeats 40000000 in
theorem spans1_any (m : Nat) (N : Nat) (A0 Cl0 : Nat → Prop) (g n cap : Nat) (G : List GS) (d : PD) (f : Nat → Option Value) (F : Nat → List FD) (line : ByteArray) (st0 : List Nat) (bB bP bL l : Nat) (J : (Nat → Prop) → List Sp → List Nat → World → Prop) (Jx : World → Prop) (w : World) (h : PainterIs w N A0 g n cap G d f F) (hok : GOk G) (hgood : Good G st0) (hz : line.size ≤ 3000)
  (hbB : w.heap[bB]? = some (.cells (stCells st0).toArray 138 (0, 0))) (hbP : w.heap[bP]? = some (.cells #[.slice (some ⟨g, 0, none⟩) n cap, pfn d] 171 (0, 0))) (hbL : w.heap[bL]? = some (.cells #[.string line] 9 (0, 0))) (hA : ¬ A0 bP ∧ ¬ A0 bL)
  (hcl : ∀ k, Cl0 k → k < w.heap.size ∧ N ≤ k ∧ ¬ A0 k ∧ k ≠ bP ∧ k ≠ bL)
  (hJ : ∀ Cl pre st A B, J Cl pre st A → Off (fun k => (A0 k ∨ w.heap.size ≤ k) ∧ ¬ Cl k) A B → J Cl pre st B)
  (hY : ∀ Cl pre st x st' A, J Cl pre st A → Good G st' → pre.length ≤ 7000 → YieldAt Fence.wide (m - 1) Tryz.prog l #[Sp.v x, stv st'] A fun e B => (e = .returned (.bool true) ∧ ∃ Cl', Off Cl A B ∧ (∀ k, Cl' k → k < B.heap.size ∧ (Cl k ∨ A.heap.size ≤ k)) ∧ J Cl' (pre ++ [x]) st' B) ∨ (e = .returned (.bool false) ∧ Jx B))
  (h0 : J Cl0 [] st0 w) :
  CallsIn Fence.wide m Tryz.prog 122 #[.func (.yield l) #[] #[], .pointer (some ⟨bB, 0, none⟩), .pointer (some ⟨bP, 0, none⟩), .pointer (some ⟨bL, 0, none⟩)] w (SpansPost J Jx N A0 w.heap.size g n cap G d line.data.toList st0) := by
 refine callsIn_wide.2 ?_
 obtain ⟨a0, a1, a2, a3, a4, a5, a6, a7, a8, hst⟩ := nine hgood.1.2
 rw [hst] at hbB
 have s0 : w.cell? ⟨bB, 0, none⟩ = some (.int .i64 a0) := by simp [World.cell?, hbB]
 have s1 : w.cell? ⟨bB, 1, none⟩ = some (.int .i64 a1) := by simp [World.cell?, hbB]
 have s2 : w.cell? ⟨bB, 2, none⟩ = some (.int .i64 a2) := by simp [World.cell?, hbB]
 have s3 : w.cell? ⟨bB, 3, none⟩ = some (.int .i64 a3) := by simp [World.cell?, hbB]
 have s4 : w.cell? ⟨bB, 4, none⟩ = some (.int .i64 a4) := by simp [World.cell?, hbB]
 have s5 : w.cell? ⟨bB, 5, none⟩ = some (.int .i64 a5) := by simp [World.cell?, hbB]
 have s6 : w.cell? ⟨bB, 6, none⟩ = some (.int .i64 a6) := by simp [World.cell?, hbB]
 have s7 : w.cell? ⟨bB, 7, none⟩ = some (.int .i64 a7) := by simp [World.cell?, hbB]
 have s8 : w.cell? ⟨bB, 8, none⟩ = some (.int .i64 a8) := by simp [World.cell?, hbB]
 obtain ⟨q, hq⟩ : ∃ q, q = w.heap.size := ⟨_, rfl⟩
 obtain ⟨W, hW⟩ : ∃ W, w.alloc (.cells #[.int .i64 a0, .int .i64 a1, .int .i64 a2, .int .i64 a3, .int .i64 a4, .int .i64 a5, .int .i64 a6, .int .i64 a7, .int .i64 a8] 138) = W := ⟨_, rfl⟩
 have hWs : W.heap.size = q + 1 := by rw [← hW, hq]; simp
 have HRM := hide (rememberI_any #[.pointer (some ⟨bP, 0, none⟩), .pointer (some ⟨bL, 0, none⟩)] W)
 have HSP := hide (fun (e : Ending) (W1 : World) (hr : RemIPost #[.pointer (some ⟨bP, 0, none⟩), .pointer (some ⟨bL, 0, none⟩)] W e W1) => sp_start (st0 := st0) h hcl hbP hbL hA hq (by rw [hst]; exact hW.symm) hr)
 have HJ := hide hJ
 have HY := hide hY
 have H0 := hide h0
 have HOK := hide hok
 have HGD := hide hgood
 clear h hbB hbP hbL hA hcl hJ hY h0 hok hgood hst
 go_enter Tryz.func122, Tryz.ntmps122
 go_wp2_with fail
 rw [← hq]
 have HQ := hide hq
 clear hq hW
 refine HRM.out.mono ?_
 rintro e W1 hrm
 obtain ⟨hsp, hbw⟩ := HSP.out e W1 hrm
 obtain ⟨rfl, -⟩ := hrm
 have HS1 := hide hsp
 have HBW := hide hbw
 have b0 := cell_one hsp.bl.1
 clear hsp hbw HRM HSP s0 s1 s2 s3 s4 s5 s6 s7 s8
 go_wp2_with fail
 go_loopg [7] line.size (fun k va wr => SLoop J N A0 q g n cap G d line (q + 2) (q + 3) (q + 1) bP bL q st0 k va wr)
 case atStart => exact ⟨0, st0, [], rfl, by omega, .start, HGD.out, _, _, _, _, _, HJ.out _ _ _ _ _ H0.out (Off.of_below HBW.out), HS1.out⟩
 case round =>
  obtain ⟨at_, st, pre, rfl, hk, hpath, hgd, Cl, A1, f1, F1, f2, hjj, hsp⟩ := hrel
  have b1 := cell_one hsp.bl.1
  by_cases hlt : at_ < line.size
  ·have g1 : decide ((at_ : Int) < (line.size : Int)) = true := decide_eq_true (by omega)
   obtain ⟨b0', b1', b2', b3', b4', b5', b6', b7', b8', hst⟩ := nine hgd.1.2
   obtain ⟨top, s, htop, hs⟩ := hgd.top
   have hbs := hsp.bs.1
   rw [hst] at hbs
   have v0 : wr.cell? ⟨q, 0, none⟩ = some (.int .i64 b0') := by simp [World.cell?, hbs]
   have v1 : wr.cell? ⟨q, 1, none⟩ = some (.int .i64 b1') := by simp [World.cell?, hbs]
   have v2 : wr.cell? ⟨q, 2, none⟩ = some (.int .i64 b2') := by simp [World.cell?, hbs]
   have v3 : wr.cell? ⟨q, 3, none⟩ = some (.int .i64 b3') := by simp [World.cell?, hbs]
   have v4 : wr.cell? ⟨q, 4, none⟩ = some (.int .i64 b4') := by simp [World.cell?, hbs]
   have v5 : wr.cell? ⟨q, 5, none⟩ = some (.int .i64 b5') := by simp [World.cell?, hbs]
   have v6 : wr.cell? ⟨q, 6, none⟩ = some (.int .i64 b6') := by simp [World.cell?, hbs]
   have v7 : wr.cell? ⟨q, 7, none⟩ = some (.int .i64 b7') := by simp [World.cell?, hbs]
   have v8 : wr.cell? ⟨q, 8, none⟩ = some (.int .i64 b8') := by simp [World.cell?, hbs]
   have HU := hide (uppermost_any st top hgd.1.2 htop wr)
   unfold stv at HU
   rw [hst] at HU
   have HSP := hide hsp
   have HPA := hide hpath
   have HGD2 := hide hgd
   have HJJ := hide hjj
   have HTOP := hide htop
   have HS := hide hs
   have HST := hide hst
   clear hsp hpath hgd hjj htop hs hst hbs
   go_wp2_with fail
   refine HU.out.mono ?_
   rintro e2 w2 ⟨rfl, hb2⟩
   have HB2 := hide hb2
   have HSP2 := hide (HSP.out.below hb2)
   have HRW := hide (row_any N A1 g n cap G d f1 F1 top s line (q + 2) (q + 3) (q + 1) bP bL f2 w2 HSP2.out.p HSP2.out.r HS.out (by omega) hz HSP2.out.bp.1 HSP2.out.bl.1)
   clear hb2 HU v0 v1 v2 v3 v4 v5 v6 v7 v8
   go_wp2_with fail
   refine HRW.out.mono ?_
   rintro e3 w3 ⟨Gr, fr, A2, f1', F1', f2', rfl, hrow, hdone, hoff3, hsub3, hsup3, hp3, hr3, ⟨i3, hi3⟩, hf3⟩
   have hi3' := hi3
   have HSP3 := hide (HSP2.out.row hoff3 hsub3 hp3 hr3 hf3)
   have hGr0 := HSP3.out.new.2.2.2 i3 _ hi3 Gr rfl
   have hGrA : ¬ A2 Gr := by obtain ⟨_, Gr', _, _, hv, h3, _⟩ := hr3.rows i3 _ hi3; cases hv; exact h3
   have HROW := hide hrow
   have HDONE := hide hdone
   have HJ3 := hide (HJ.out _ _ _ _ _ (HJ.out _ _ _ _ _ HJJ.out (Off.of_below HB2.out)) (hoff3.sub fun k _ hk => by
    rcases hk with hk | rfl
    ·exact ⟨(HSP2.out.sub k hk).imp id fun h => by rw [← HQ.out]; exact h, fun hc => (HSP2.out.cl k hc).1.2.2.1 hk⟩
    ·exact ⟨.inr (by rw [← HQ.out]; omega), fun hc => (HSP2.out.cl _ hc).2.1 rfl⟩))
   have hfl : fr.length = line.size := by rw [hdone.1, text_length]
   have HNM := hide (nextMatch_any Gr fr at_ w3 hrow (by omega) (by omega))
   rw [hfl] at HNM
   clear hrow hdone hoff3 hsub3 hsup3 hp3 hr3 hi3 hf3 HRW HSP HSP2 HJJ HB2
   rw [text_length]
   go_wp2_with fail
   refine HNM.out.mono ?_
   rintro e4 w4 ⟨p, rfl, hnext, rfl⟩
   have hple : p ≤ line.size := by have := hnext.2.1; omega
   have HNX := hide (next_hit HDONE.out hnext)
   have hap := hnext.1
   clear hnext HNM
   have hbs := HSP3.out.bs.1
   rw [HST.out] at hbs
   have v0 : w4.cell? ⟨q, 0, none⟩ = some (.int .i64 b0') := by simp [World.cell?, hbs]
   have v1 : w4.cell? ⟨q, 1, none⟩ = some (.int .i64 b1') := by simp [World.cell?, hbs]
   have v2 : w4.cell? ⟨q, 2, none⟩ = some (.int .i64 b2') := by simp [World.cell?, hbs]
   have v3 : w4.cell? ⟨q, 3, none⟩ = some (.int .i64 b3') := by simp [World.cell?, hbs]
   have v4 : w4.cell? ⟨q, 4, none⟩ = some (.int .i64 b4') := by simp [World.cell?, hbs]
   have v5 : w4.cell? ⟨q, 5, none⟩ = some (.int .i64 b5') := by simp [World.cell?, hbs]
   have v6 : w4.cell? ⟨q, 6, none⟩ = some (.int .i64 b6') := by simp [World.cell?, hbs]
   have v7 : w4.cell? ⟨q, 7, none⟩ = some (.int .i64 b7') := by simp [World.cell?, hbs]
   have v8 : w4.cell? ⟨q, 8, none⟩ = some (.int .i64 b8') := by simp [World.cell?, hbs]
   have q0 : w4.cell? ⟨bP, 0, none⟩ = some (.slice (some ⟨g, 0, none⟩) n cap) := by have h1 := HSP3.out.bp.1; simp [World.cell?, h1]
   have q1 : w4.cell? ⟨bP, 1, none⟩ = some (pfn d) := by have h1 := HSP3.out.bp.1; simp [World.cell?, h1]
   have q2 := cell_one HSP3.out.bl.1
   unfold pfn at q1
   clear hbs
   go_wp2_with fail
   refine (wpIn_wide (n := m)).1 ?_
   gi_cut [47] from 28 (fun c wc => (c = .bool false ∧ p < line.size ∧ wc.heap[Gr]? = some (.cells (fr.map (Value.int .i64)).toArray 3 (0, 0)) ∧ ∃ Cl, J Cl (pre ++ gapL at_ p s.nm st.length) st wc ∧ SP N A0 q g n cap G d line (q + 2) (q + 3) (q + 1) bP bL q A2 f1' F1' f2' st Cl wc) ∨ (c = .bool true ∧ SpansPost J Jx N A0 q g n cap G d line.data.toList st0 (.returned (.tuple #[])) wc))
   case first =>
    by_cases hgt : at_ < p
    ·have g2 : decide ((at_ : Int) < (p : Int)) = true := decide_eq_true (by omega)
     have hmix : Tryz.prog.follows .mixedOrders = true := by kernel_rfl
     apply two_step (R := Jx)
     case main =>
      intro HF
      apply two_step (R := (fun B => ∃ Cl', J Cl' (pre ++ [⟨at_, p, s.nm, st.length, ⟨#[]⟩⟩]) st B ∧ B.heap[Gr]? = some (.cells (fr.map (Value.int .i64)).toArray 3 (0, 0)) ∧ B.cell? ⟨bL, 0, none⟩ = some (.string line) ∧ SP N A0 q g n cap G d line (q + 2) (q + 3) (q + 1) bP bL q A2 f1' F1' f2' st Cl' B))
      case main =>
       intro HT
       have HSN := hide (span_any g n cap G (pfn d) ⟨_, _, rfl⟩ at_ p st top s ⟨#[]⟩ w4.drew (HSP3.out.p.gram w4.drew (Below.refl _ _).drew) HGD2.out.1.2 HTOP.out HS.out)
       unfold stv pfn spv at HSN
       rw [HST.out] at HSN
       have HX5 := hide (fun (w5 : World) (hb5 : Below w4.drew.heap.size w4.drew w5) => show YieldAt Fence.wide (m - 1) Tryz.prog l #[Value.agg #[.int .i64 at_, .int .i64 p, .string s.nm, .int .i64 st.length, .string ⟨#[]⟩], Value.agg #[.int .i64 b0', .int .i64 b1', .int .i64 b2', .int .i64 b3', .int .i64 b4', .int .i64 b5', .int .i64 b6', .int .i64 b7', .int .i64 b8']] w5 (fun e B => (e = .returned (.bool true) ∧ ∃ Cl', J Cl' (pre ++ [⟨at_, p, s.nm, st.length, ⟨#[]⟩⟩]) st B ∧ B.heap[Gr]? = some (.cells (fr.map (Value.int .i64)).toArray 3 (0, 0)) ∧ B.cell? ⟨bL, 0, none⟩ = some (.string line) ∧ SP N A0 q g n cap G d line (q + 2) (q + 3) (q + 1) bP bL q A2 f1' F1' f2' st Cl' B) ∨ (e = .returned (.bool false) ∧ Jx B)) ∧ w5.heap[q]? = some (.cells #[.int .i64 b0', .int .i64 b1', .int .i64 b2', .int .i64 b3', .int .i64 b4', .int .i64 b5', .int .i64 b6', .int .i64 b7', .int .i64 b8'] 138 (0, 0)) from by
        have hb : Below w4.heap.size w4 w5 := ⟨hb5.os, hb5.tape, hb5.output, hb5.size, hb5.block⟩
        have hsp := HSP3.out.below hb
        have hrw := (hb.block _ (lt_of_get HROW.out)).trans HROW.out
        have hGf : ¬ Cl Gr := fun hc => (hsp.cl _ hc).2.2.2.2 i3 _ hi3' rfl
        refine ⟨?_, by have h := hsp.bs.1; rw [HST.out] at h; exact h⟩
        have h := HY.out Cl pre st ⟨at_, p, s.nm, st.length, ⟨#[]⟩⟩ st w5 (HJ.out _ _ _ _ _ HJ3.out (Off.of_below hb)) HGD2.out (by have := HPA.out.short HOK.out; omega)
        unfold Sp.v spv stv at h
        rw [HST.out] at h
        refine h.mono ?_
        rintro e B (⟨rfl, Cl', hoff, hcl, hj⟩ | ⟨rfl, hjx⟩)
        ·exact .inl ⟨rfl, Cl', hj, hoff.same hrw hGf, cell_one (hsp.round hoff hcl).bl.1, hsp.round hoff hcl⟩
        ·exact .inr ⟨rfl, hjx⟩)
       gi_region_with_o (first
         | (refine ⟨trivial, fun h => (by cases h), (callsIn_wide.2 HSN.out).mono ?_⟩; clear HSN; rintro e5 w5 ⟨rfl, hb5⟩; obtain ⟨⟨fn, tmps, assign, body, hy, hR⟩, hbs5⟩ := HX5.out w5 hb5; clear HX5 hb5; have HRR := hide hR; clear hR; have t0 := cell_at (j := 0) hbs5 rfl; have t1 := cell_at (j := 1) hbs5 rfl; have t2 := cell_at (j := 2) hbs5 rfl; have t3 := cell_at (j := 3) hbs5 rfl; have t4 := cell_at (j := 4) hbs5 rfl; have t5 := cell_at (j := 5) hbs5 rfl; have t6 := cell_at (j := 6) hbs5 rfl; have t7 := cell_at (j := 7) hbs5 rfl; have t8 := cell_at (j := 8) hbs5 rfl; clear hbs5)
         | (refine ⟨fun h => (by cases h), HRR.out.mono ?_⟩; rintro e6 w6 (⟨rfl, hr6⟩ | ⟨rfl, hjx6⟩); rotate_left; (focus ((try dsimp only); refine (by with_reducible assumption : ∀ (a : Act) (w : World), wpAnyIn _ _ _ _ _ _ _ _ a w → (_ : Act → World → Prop) a w) _ _ ?_; (try simp only [Act.put, List.setIfInBounds_toArray, List.set_cons_zero, List.set_cons_succ]); exact HF.out _ hjx6)); have hl6 := hr6.choose_spec.2.2.1; have HR6 := hide hr6; clear hr6 HRR hy t0 t1 t2 t3 t4 t5 t6 t7 t8))
       all_goals exact HT.out _ HR6.out
      case pf =>
       rintro w6 ⟨Cl', hj6, hrow6, hl6, hsp6⟩
       have HJ6 := hide hj6
       have HROW6 := hide hrow6
       have HSP6 := hide hsp6
       clear hj6 hrow6 hsp6
       by_cases hpe : p = line.size
       ·have e2 : ((p : Int) == (line.size : Int)) = true := by simp [hpe]
        rw [e2]
        gi_wp2_with fail
        gi_meet
        rcases HNX.out with ⟨hn1, hn2⟩ | ⟨hn1, _⟩
        ·rw [text_length] at hn1
         exact .inr ⟨rfl, ⟨_, rfl⟩, .inl ⟨_, st, Cl', A2, f1', F1', .inr ⟨at_, pre, top, s, HPA.out, by rw [text_length]; exact hlt, HTOP.out, HS.out, hn2, by rw [text_length, hpe]⟩, HJ6.out, HSP6.out.p, HSP6.out.sub, fun k hk => (HSP6.out.cl k hk).1.2.2.1⟩⟩
        ·rw [text_length] at hn1; omega
       ·have e2 : ((p : Int) == (line.size : Int)) = false := by rw [beq_eq_false_iff_ne]; omega
        rw [e2]
        gi_wp2_with fail
        gi_meet
        exact .inl ⟨rfl, by omega, HROW6.out, Cl', by rw [gapL, if_pos hgt]; exact HJ6.out, HSP6.out⟩
     case pf =>
      intro w6 hjx6
      have HJX6 := hide hjx6
      clear hjx6
      refine wpAnyIn_take (i := 12) (v := .bool true) rfl rfl (by kernel_rfl) (by kernel_rfl) (by kernel_rfl) (fun _ _ _ h => h) ⟨Or.inl ⟨by rfl, fun w => by go_simp⟩, fun _ => rfl⟩ ?_
      try go_simp
      refine wpAnyIn_take (i := 13) (v := .bool true) rfl rfl (by kernel_rfl) (by kernel_rfl) (by kernel_rfl) (fun _ _ _ h => h) ⟨Or.inl ⟨by rfl, fun w => by go_simp⟩, fun _ => rfl⟩ ?_
      try go_simp
      refine wpAnyIn_take (i := 14) (v := .bool true) rfl rfl (by kernel_rfl) (by kernel_rfl) (by kernel_rfl) (fun _ _ _ h => h) ⟨Or.inl ⟨by rfl, fun w => by go_simp⟩, fun _ => rfl⟩ ?_
      try go_simp
      refine wpAnyIn_take (i := 15) (v := undef) rfl rfl (by kernel_rfl) (by kernel_rfl) (by kernel_rfl) (fun _ _ _ h => h) ⟨Or.inr ⟨by kernel_rfl, rfl⟩, fun _ => rfl⟩ ?_
      try go_simp
      refine wpAnyIn_take (i := 16) (v := undef) rfl rfl (by kernel_rfl) (by kernel_rfl) (by kernel_rfl) (fun _ _ _ h => h) ⟨Or.inr ⟨by kernel_rfl, rfl⟩, fun _ => rfl⟩ ?_
      try go_simp
      refine wpAnyIn_take (i := 17) (v := undef) rfl rfl (by kernel_rfl) (by kernel_rfl) (by kernel_rfl) (fun _ _ _ h => h) ⟨Or.inr ⟨by kernel_rfl, rfl⟩, fun _ => rfl⟩ ?_
      try go_simp
      refine wpAnyIn_take (i := 18) (v := undef) rfl rfl (by kernel_rfl) (by kernel_rfl) (by kernel_rfl) (fun _ _ _ h => h) ⟨Or.inr ⟨by kernel_rfl, rfl⟩, fun _ => rfl⟩ ?_
      try go_simp
      refine wpAnyIn_take (i := 19) (v := .bool true) rfl rfl (by kernel_rfl) (by kernel_rfl) (by kernel_rfl) (fun _ _ _ h => h) ⟨Or.inl ⟨by rfl, fun w => by go_simp⟩, fun _ => rfl⟩ ?_
      try go_simp
      refine wpAnyIn_done (by kernel_rfl) ?_ _
      gi_wp2_with fail
      gi_meet
      exact .inr ⟨rfl, ⟨_, rfl⟩, .inr HJX6.out⟩
    ·obtain rfl : at_ = p := by omega
     have hmix : Tryz.prog.follows .mixedOrders = true := by kernel_rfl
     have g2 : decide ((at_ : Int) < (at_ : Int)) = false := decide_eq_false (by omega)
     have e2 : ((at_ : Int) == (line.size : Int)) = false := by rw [beq_eq_false_iff_ne]; omega
     refine wpIn_region_any hmix ?_
     change wpAnyIn _ _ _ _ _ _ _ _ _ (World.drew _)
     refine wpAnyIn_take (i := 0) (v := .int .i64 at_) rfl rfl (by kernel_rfl) (by kernel_rfl) (by kernel_rfl) (fun _ _ _ h => h) ⟨Or.inl ⟨by rfl, fun w => by go_simp⟩, fun _ => rfl⟩ ?_
     try go_simp
     refine wpAnyIn_take (i := 1) (v := .int .i64 at_) rfl rfl (by kernel_rfl) (by kernel_rfl) (by kernel_rfl) (fun _ _ _ h => h) ⟨Or.inl ⟨by rfl, fun w => by go_simp⟩, fun _ => rfl⟩ ?_
     try go_simp
     refine wpAnyIn_take (i := 2) (v := .bool false) rfl rfl (by kernel_rfl) (by kernel_rfl) (by kernel_rfl) (fun _ _ _ h => h) ⟨Or.inl ⟨by rfl, fun w => by go_simp⟩, fun _ => rfl⟩ ?_
     try go_simp
     refine wpAnyIn_take (i := 3) (v := .bool false) rfl rfl (by kernel_rfl) (by kernel_rfl) (by kernel_rfl) (fun _ _ _ h => h) ⟨Or.inl ⟨by rfl, fun w => by go_simp⟩, fun _ => rfl⟩ ?_
     try go_simp
     refine wpAnyIn_take (i := 4) (v := undef) rfl rfl (by kernel_rfl) (by kernel_rfl) (by kernel_rfl) (fun _ _ _ h => h) ⟨Or.inr ⟨by kernel_rfl, rfl⟩, fun _ => rfl⟩ ?_
     try go_simp
     refine wpAnyIn_take (i := 5) (v := undef) rfl rfl (by kernel_rfl) (by kernel_rfl) (by kernel_rfl) (fun _ _ _ h => h) ⟨Or.inr ⟨by kernel_rfl, rfl⟩, fun _ => rfl⟩ ?_
     try go_simp
     refine wpAnyIn_take (i := 6) (v := undef) rfl rfl (by kernel_rfl) (by kernel_rfl) (by kernel_rfl) (fun _ _ _ h => h) ⟨Or.inr ⟨by kernel_rfl, rfl⟩, fun _ => rfl⟩ ?_
     try go_simp
     refine wpAnyIn_take (i := 7) (v := undef) rfl rfl (by kernel_rfl) (by kernel_rfl) (by kernel_rfl) (fun _ _ _ h => h) ⟨Or.inr ⟨by kernel_rfl, rfl⟩, fun _ => rfl⟩ ?_
     try go_simp
     refine wpAnyIn_take (i := 8) (v := undef) rfl rfl (by kernel_rfl) (by kernel_rfl) (by kernel_rfl) (fun _ _ _ h => h) ⟨Or.inr ⟨by kernel_rfl, rfl⟩, fun _ => rfl⟩ ?_
     try go_simp
     refine wpAnyIn_take (i := 10) (v := undef) rfl rfl (by kernel_rfl) (by kernel_rfl) (by kernel_rfl) (fun _ _ _ h => h) ⟨Or.inr ⟨by kernel_rfl, rfl⟩, fun _ => rfl⟩ ?_
     try go_simp
     refine wpAnyIn_ready (rs := [9]) (by kernel_rfl) (by simp) ?_
     refine AllReadyIn.cons rfl (fun K hK => ?_) AllReadyIn.nil
     go_simp
     first | refine hK _ _ ?_ | (refine ⟨trivial, ?_⟩; refine hK _ _ ?_) | (refine ⟨fun _ _ => trivial, ?_⟩; refine hK _ _ ?_)
     clear hK K
     refine wpAnyIn_ready (rs := [11]) (by kernel_rfl) (by simp) ?_
     refine AllReadyIn.cons rfl (fun K hK => ?_) AllReadyIn.nil
     go_simp
     first | refine hK _ _ ?_ | (refine ⟨trivial, ?_⟩; refine hK _ _ ?_) | (refine ⟨fun _ _ => trivial, ?_⟩; refine hK _ _ ?_)
     clear hK K
     refine wpAnyIn_take (i := 12) (v := undef) rfl rfl (by kernel_rfl) (by kernel_rfl) (by kernel_rfl) (fun _ _ _ h => h) ⟨Or.inr ⟨by kernel_rfl, rfl⟩, fun _ => rfl⟩ ?_
     try go_simp
     refine wpAnyIn_take (i := 13) (v := .bool false) rfl rfl (by kernel_rfl) (by kernel_rfl) (by kernel_rfl) (fun _ _ _ h => h) ⟨Or.inl ⟨by rfl, fun w => by go_simp⟩, fun _ => rfl⟩ ?_
     try go_simp
     refine wpAnyIn_take (i := 14) (v := .bool false) rfl rfl (by kernel_rfl) (by kernel_rfl) (by kernel_rfl) (fun _ _ _ h => h) ⟨Or.inl ⟨by rfl, fun w => by go_simp⟩, fun _ => rfl⟩ ?_
     try go_simp
     refine wpAnyIn_take (i := 15) (v := .int .i64 at_) rfl rfl (by kernel_rfl) (by kernel_rfl) (by kernel_rfl) (fun _ _ _ h => h) ⟨Or.inl ⟨by rfl, fun w => by go_simp⟩, fun _ => rfl⟩ ?_
     try go_simp
     refine wpAnyIn_ready (rs := [16]) (by kernel_rfl) (by simp) ?_
     refine AllReadyIn.cons rfl (fun K hK => ?_) AllReadyIn.nil
     go_simp
     refine hK _ _ ?_
     clear hK K
     refine wpAnyIn_take (i := 17) (v := .int .i64 line.size) rfl rfl (by kernel_rfl) (by kernel_rfl) (by kernel_rfl) (fun _ _ _ h => h) ⟨Or.inl ⟨by rfl, fun w => by go_simp⟩, fun _ => rfl⟩ ?_
     try go_simp
     refine wpAnyIn_take (i := 18) (v := .bool false) rfl rfl (by kernel_rfl) (by kernel_rfl) (by kernel_rfl) (fun _ _ _ h => h) ⟨Or.inl ⟨by rfl, fun w => by go_simp⟩, fun _ => rfl⟩ ?_
     try go_simp
     refine wpAnyIn_take (i := 19) (v := .bool false) rfl rfl (by kernel_rfl) (by kernel_rfl) (by kernel_rfl) (fun _ _ _ h => h) ⟨Or.inl ⟨by rfl, fun w => by go_simp⟩, fun _ => rfl⟩ ?_
     try go_simp
     refine wpAnyIn_done (by kernel_rfl) ?_ _
     gi_wp2_with fail
     gi_meet
     exact .inl ⟨rfl, by omega, HROW.out, Cl, by rw [gapL, if_neg hgt, List.append_nil]; exact HJ.out _ _ _ _ _ HJ3.out (Off.of_below (Below.refl _ _).drew), HSP3.out.below (Below.refl _ _).drew⟩
   case rest =>
    rcases hcut with ⟨rfl, hpl, hrow, Cl2, hjc, hspc⟩ | ⟨rfl, hpost⟩
    ·rcases HNX.out with ⟨hpe, _⟩ | ⟨hpl2, k, r, hfk, hrk, hfrom, hfirst, hleast⟩
     ·rw [text_length] at hpe; omega
     have hbs := hspc.bs.1
     rw [HST.out] at hbs
     have y0 : wc.cell? ⟨q, 0, none⟩ = some (.int .i64 b0') := by simp [World.cell?, hbs]
     have y1 : wc.cell? ⟨q, 1, none⟩ = some (.int .i64 b1') := by simp [World.cell?, hbs]
     have y2 : wc.cell? ⟨q, 2, none⟩ = some (.int .i64 b2') := by simp [World.cell?, hbs]
     have y3 : wc.cell? ⟨q, 3, none⟩ = some (.int .i64 b3') := by simp [World.cell?, hbs]
     have y4 : wc.cell? ⟨q, 4, none⟩ = some (.int .i64 b4') := by simp [World.cell?, hbs]
     have y5 : wc.cell? ⟨q, 5, none⟩ = some (.int .i64 b5') := by simp [World.cell?, hbs]
     have y6 : wc.cell? ⟨q, 6, none⟩ = some (.int .i64 b6') := by simp [World.cell?, hbs]
     have y7 : wc.cell? ⟨q, 7, none⟩ = some (.int .i64 b7') := by simp [World.cell?, hbs]
     have y8 : wc.cell? ⟨q, 8, none⟩ = some (.int .i64 b8') := by simp [World.cell?, hbs]
     have z0 : wc.cell? ⟨bP, 0, none⟩ = some (.slice (some ⟨g, 0, none⟩) n cap) := by have h1 := hspc.bp.1; simp [World.cell?, h1]
     have z1 : wc.cell? ⟨bP, 1, none⟩ = some (pfn d) := by have h1 := hspc.bp.1; simp [World.cell?, h1]
     have z2 := cell_one hspc.bl.1
     have z3 : wc.cell? ⟨Gr, p, none⟩ = some (.int .i64 k) := by simp [World.cell?, hrow, hfk]
     have hG := hspc.p.gram wc (Below.refl _ _)
     obtain ⟨z4, z40, rv, z5, ⟨rao, rcp, rfl, hrs⟩⟩ := hG.at_ top s HS.out
     obtain ⟨rg, lg, ln, lc, rfl, hrr⟩ := hrs k r hrk
     have hkl : k < s.rs.length := get_lt hrk
     have htn : top < n := by rw [hG.len]; exact get_lt HS.out
     have r0 := hrr.c0
     have r1 := hrr.c1
     have r2 := hrr.c2
     have r3 := hrr.c3
     have r4 := hrr.c4
     unfold pfn at z1
     have HROWc := hide hrow
     have HJC := hide hjc
     have HSPC := hide hspc
     clear hbs hrow hjc hspc hG hrs hrr HNX HSP3 HROW HJ3 v0 v1 v2 v3 v4 v5 v6 v7 v8 q0 q1 q2
     have m0 := World.new_ne wc ⟨bP, 0, none⟩ z0
     have m1 := World.new_ne wc ⟨g, top * 2 + 1, none⟩ z5
     have m2 := World.new_ne wc ⟨Gr, p, none⟩ z3
     have m3 := World.new_ne wc ⟨rg, k * 5, none⟩ r0
     go_wp2_with fail
     go_region_held3 (fun w' => w'.cell? ⟨bP, 0, none⟩ = some (.slice (some ⟨g, 0, none⟩) n cap) ∧ w'.cell? ⟨g, top * 2 + 1, none⟩ = some (.slice (some ⟨rg, 0, none⟩) s.rs.length rcp) ∧ w'.cell? ⟨Gr, p, none⟩ = some (.int .i64 k) ∧ w'.cell? ⟨rg, k * 5, none⟩ = some (.int .i64 r.k) ∧ w'.cell? ⟨rg, k * 5 + 1, none⟩ = some (.int .i64 r.op) ∧ w'.cell? ⟨rg, k * 5 + 2, none⟩ = some (.string r.co) ∧ w'.cell? ⟨rg, k * 5 + 3, none⟩ = some (.slice (some ⟨lg, 0, none⟩) ln lc) ∧ w'.cell? ⟨rg, k * 5 + 4, none⟩ = some (.int .i64 r.a.ix))
      (go_keep)
      (fail)
     all_goals
      obtain ⟨wd, hwd⟩ : ∃ wd, (wc.alloc (.cells #[.int .i64 r.k, .int .i64 r.op, .string r.co, .slice (some ⟨lg, 0, none⟩) ln lc, .int .i64 r.a.ix] 231)).drew = wd := ⟨_, rfl⟩
      have hbd : Below wc.heap.size wc wd := by rw [← hwd]; exact ((Below.refl _ _).alloc (Nat.le_refl _) _).drew
      have hru : wd.heap[wc.heap.size]? = some (.cells #[.int .i64 r.k, .int .i64 r.op, .string r.co, .slice (some ⟨lg, 0, none⟩) ln lc, .int .i64 r.a.ix] 231 (0, 0)) := by rw [← hwd]; exact heap_alloc_last _ _
      obtain ⟨rb, hrb⟩ : ∃ rb, rb = wc.heap.size := ⟨_, rfl⟩
      rw [hwd, ← hrb]
      rw [← hrb] at hru
      have HSPD := hide (HSPC.out.below hbd)
      have HRD := hide ((hbd.block Gr (lt_of_get HROWc.out)).trans HROWc.out)
      have HJD := hide (HJ.out _ _ _ _ _ HJC.out (Off.of_below hbd))
      have HRU := hide hru
      have hrA : ¬ A2 rb := fun h => by have := (HSPC.out.p.old _ h).2; omega
      have hrq : q ≤ rb := by rw [hrb]; exact HSPC.out.size.1
      have HPF := hide (pfind_any N A2 g n cap G d f1' F1' top s wd.drew (HSPD.out.p.below (Below.refl _ _).drew) HS.out)
      have HK7 := hide (fun (w7 : World) (B7 : Nat → Prop) (hoff : Off B7 wd w7) (hB : ¬ B7 bP ∧ ¬ B7 bL ∧ ¬ B7 Gr ∧ ¬ B7 rb) => show (w7.cell? ⟨bP, 1, none⟩ = some (.func (.func 159) #[] #[.pointer (some ⟨d.kv, 0, none⟩), .pointer (some ⟨d.wk, 0, none⟩)]) ∧ w7.cell? ⟨Gr, p, none⟩ = some (.int .i64 k) ∧ w7.cell? ⟨bL, 0, none⟩ = some (.string line)) ∧ w7.heap[Gr]? = some (.cells (fr.map (Value.int .i64)).toArray 3 (0, 0)) ∧ w7.heap[rb]? = some (.cells #[.int .i64 r.k, .int .i64 r.op, .string r.co, .slice (some ⟨lg, 0, none⟩) ln lc, .int .i64 r.a.ix] 231 (0, 0)) from by
       have h1 := hoff.same HSPD.out.bp.1 hB.1
       have h2 := hoff.same HSPD.out.bl.1 hB.2.1
       have h3 := hoff.same HRD.out hB.2.2.1
       have h4 := hoff.same HRU.out hB.2.2.2
       exact ⟨⟨by simp [World.cell?, h1, pfn], by simp [World.cell?, h3, hfk], by simp [World.cell?, h2]⟩, h3, h4⟩)
      have hS0 := (HK7.out wd.drew (fun _ => False) (Off.of_below (w := wd) (Below.refl _ _).drew) ⟨id, id, id, id⟩).1
      clear hrb hwd hbd hru z0 z1 z2 z3 z4 z5 r0 r1 r2 r3 r4 m0 m1 m2 m3 y0 y1 y2 y3 y4 y5 y6 y7 y8
      have HNB := hide (show ¬ A2 bP ∧ ¬ A2 bL ∧ ¬ A2 Gr ∧ ¬ A2 rb from ⟨HSPD.out.bp.2.2, HSPD.out.bl.2.2, hGrA, hrA⟩)
      have hpl3 : p ≤ line.size := by omega
      go_wp2_with fail
      obtain ⟨hs00, hs01, hs02⟩ := hS0
      have e0 : wd.cell? ⟨bP, 1, none⟩ = _ := hs00
      have e1 : wd.cell? ⟨Gr, p, none⟩ = _ := hs01
      have e2 : wd.cell? ⟨bL, 0, none⟩ = _ := hs02
      clear hs00 hs01 hs02
      go_cut [7] from 60 (fun va wz => ∃ (stop : Nat) (A4 : Nat → Prop) (f4 : Nat → Option Value) (F4 : Nat → List FD), va = .int .i64 stop ∧ Long r.a.re line.data.toList p stop ∧ wz.heap[rb]? = some (.cells #[.int .i64 r.k, .int .i64 r.op, .string r.co, .slice (some ⟨lg, 0, none⟩) ln lc, .int .i64 r.a.ix] 231 (0, 0)) ∧ SP N A0 q g n cap G d line (q + 2) (q + 3) (q + 1) bP bL q A4 f4 F4 f2' st Cl2 wz ∧ J Cl2 (pre ++ gapL at_ p s.nm st.length) st wz)
      case first =>
       go_region_with (first
        | (go_at_call 159; refine HPF.out.mono ?_; clear HPF; rintro e7 w7 ⟨ao, cp, A3, f3, F3, rfl, hf3, hoff7', hsub7, hsup7, hp7⟩; have hoff7 : Off A2 wd w7 := ⟨hoff7'.os, hoff7'.tape, hoff7'.output, hoff7'.size, hoff7'.keep, hoff7'.stay⟩; clear hoff7'; obtain ⟨x, fg, hao, hx, hxa, hxc⟩ := hp7.get HS.out hf3 hrk; subst hao; obtain ⟨⟨i0, i1, i2⟩, hrow7, hru7⟩ := HK7.out w7 A2 hoff7 HNB.out; have d0 := hxc 0 _ rfl; have d1 := hxc 1 _ rfl; have d2 := hxc 2 _ rfl; have d3 := hxc 3 _ rfl; have d4 := hxc 4 _ rfl; have d5 := hxc 5 _ rfl; rw [Nat.add_zero] at d0; have HEU := hide (end_use hp7 hf3 hx hpl3 hz); unfold fnv at HEU; have HSP7 := hide (HSPD.out.work hoff7 hsub7 hp7); have HOF7 := hide hoff7; have HSB7 := hide hsub7; have HXA := hide hxa; clear hf3 hoff7 hsub7 hsup7 hp7 hx hxa hxc hrow7 hru7)
        | (go_at_call 129; refine HEU.out.mono ?_; clear HEU; rintro e8 w8 ⟨stop, A4, F4, rfl, hlong, hoff8, hsub8, hp8⟩; have hoffd : Off A2 wd w8 := HOF7.out.then hoff8 (fun y hy1 hy2 => (HSB7.out y hy2).elim id (fun h => absurd h (by have : y < wd.heap.size := hy1; show ¬ wd.heap.size ≤ y; omega))); obtain ⟨-, -, hru8⟩ := HK7.out w8 A2 hoffd HNB.out; have HSP8 := hide (HSP7.out.work hoff8 hsub8 hp8); have HOFD := hide hoffd; have HRU8 := hide hru8; have HLG := hide hlong; clear hlong hoff8 hsub8 hp8 hoffd hru8))
       all_goals
        go_wp2_with fail
        go_meet
        refine ⟨stop, A4, f3, F4, rfl, by have h := HLG.out; rw [HXA.out] at h; exact h, HRU8.out, HSP8.out, HJ.out _ _ _ _ _ HJD.out (HOFD.out.sub fun y _ hy => ⟨(HSPD.out.sub y hy).imp id fun h => by rw [← HQ.out]; exact h, fun hc => (HSPD.out.cl y hc).1.2.2.1 hy⟩)⟩
      case rest =>
       obtain ⟨stop, A4, f4, F4, rfl, hlong, hru, hspz, hjz⟩ := hcut
       have hG := hspz.p.gram wc (Below.refl _ _)
       have hbs := hspz.bs.1
       rw [HST.out] at hbs
       have y0 : wc.cell? ⟨q, 0, none⟩ = some (.int .i64 b0') := by simp [World.cell?, hbs]
       have y1 : wc.cell? ⟨q, 1, none⟩ = some (.int .i64 b1') := by simp [World.cell?, hbs]
       have y2 : wc.cell? ⟨q, 2, none⟩ = some (.int .i64 b2') := by simp [World.cell?, hbs]
       have y3 : wc.cell? ⟨q, 3, none⟩ = some (.int .i64 b3') := by simp [World.cell?, hbs]
       have y4 : wc.cell? ⟨q, 4, none⟩ = some (.int .i64 b4') := by simp [World.cell?, hbs]
       have y5 : wc.cell? ⟨q, 5, none⟩ = some (.int .i64 b5') := by simp [World.cell?, hbs]
       have y6 : wc.cell? ⟨q, 6, none⟩ = some (.int .i64 b6') := by simp [World.cell?, hbs]
       have y7 : wc.cell? ⟨q, 7, none⟩ = some (.int .i64 b7') := by simp [World.cell?, hbs]
       have y8 : wc.cell? ⟨q, 8, none⟩ = some (.int .i64 b8') := by simp [World.cell?, hbs]
       have z0 : wc.cell? ⟨bP, 0, none⟩ = some (.slice (some ⟨g, 0, none⟩) n cap) := by have h1 := hspz.bp.1; simp [World.cell?, h1]
       have z1 : wc.cell? ⟨bP, 1, none⟩ = some (pfn d) := by have h1 := hspz.bp.1; simp [World.cell?, h1]
       have c2 : wc.cell? ⟨rb, 2, none⟩ = some (.string r.co) := by simp [World.cell?, hru]
       have HSN := hide (span_any g n cap G (pfn d) ⟨_, _, rfl⟩ p stop st top s r.co wc hG HGD2.out.1.2 HTOP.out HS.out)
       unfold stv pfn spv at HSN
       rw [HST.out] at HSN
       unfold pfn at z1
       have HSPZ := hide hspz
       have HJZ := hide hjz
       have HRUZ := hide hru
       have HLG := hide hlong
       clear hG hbs hspz hjz hru hlong
       go_wp2_with fail
       refine HSN.out.mono ?_
       rintro e9 w9 ⟨rfl, hb9⟩
       have HSP9 := hide (HSPZ.out.below hb9)
       have HRU9 := hide ((hb9.block _ (lt_of_get HRUZ.out)).trans HRUZ.out)
       have HJ9 := hide (HJ.out _ _ _ _ _ HJZ.out (Off.of_below hb9))
       clear hb9 HSN HSPZ HJZ HRUZ y0 y1 y2 y3 y4 y5 y6 y7 y8 z0 z1 c2
       have hgdA : Good G (aft r.k r.op st) := HGD2.out.aft (fun hk => (HOK.out s (List.mem_of_getElem? HS.out) r (List.mem_of_getElem? hrk)).2 hk)
       obtain ⟨x0, x1, x2, x3, x4, x5, x6, x7, x8, hst2⟩ := nine hgdA.1.2
       obtain ⟨wf, hwf⟩ : ∃ wf, w9.alloc (.cells #[.int .i64 p, .int .i64 stop, .string s.nm, .int .i64 st.length, .string r.co] 70) = wf := ⟨_, rfl⟩
       have hbf : Below w9.heap.size w9 wf := by rw [← hwf]; exact (Below.refl _ _).alloc (Nat.le_refl _) _
       have HSPF := hide (HSP9.out.below hbf)
       have hruf := (hbf.block _ (lt_of_get HRU9.out)).trans HRU9.out
       have hbs := HSPF.out.bs.1
       rw [HST.out] at hbs
       have HBQ := hide hbs
       have y0 := cell_at (j := 0) hbs rfl
       have y1 := cell_at (j := 1) hbs rfl
       have y2 := cell_at (j := 2) hbs rfl
       have y3 := cell_at (j := 3) hbs rfl
       have y4 := cell_at (j := 4) hbs rfl
       have y5 := cell_at (j := 5) hbs rfl
       have y6 := cell_at (j := 6) hbs rfl
       have y7 := cell_at (j := 7) hbs rfl
       have y8 := cell_at (j := 8) hbs rfl
       have z0 := cell_at (j := 0) hruf rfl
       have z1 := cell_at (j := 1) hruf rfl
       have z2 := cell_at (j := 2) hruf rfl
       have z3 := cell_at (j := 3) hruf rfl
       have z4 := cell_at (j := 4) hruf rfl
       have HJF := hide (HJ.out _ _ _ _ _ HJ9.out (Off.of_below hbf))
       have HAF := hide (after_stack st r.k r.op r.co (some ⟨lg, 0, none⟩) ln lc r.a.ix HGD2.out.1.2 HGD2.out.1.1 wf)
       unfold AftPost stv at HAF
       rw [HST.out, hst2] at HAF
       have HST2 := hide hst2
       have HGDA := hide hgdA
       clear hbs hruf hbf hst2 hgdA HSP9 HRU9 HJ9
       subst hwf
       go_wp2_with fail
       refine HAF.out.mono ?_
       rintro e10 w10 ⟨rfl, hb10⟩
       have HSP10 := hide (HSPF.out.below hb10)
       have HJ10 := hide (HJ.out _ _ _ _ _ HJF.out (Off.of_below hb10))
       have HBQ10 := hide ((hb10.block _ (lt_of_get HBQ.out)).trans HBQ.out)
       have hsb := (hb10.block _ (by simp)).trans (heap_alloc_last w9 (.cells #[.int .i64 p, .int .i64 stop, .string s.nm, .int .i64 st.length, .string r.co] 70))
       obtain ⟨sb, hsb0⟩ : ∃ sb, sb = w9.heap.size := ⟨_, rfl⟩
       rw [← hsb0] at hsb ⊢
       have HSB := hide hsb
       have hsbq : q ≠ sb := by rw [hsb0]; have := lt_of_get HBQ.out; intro e; have h2 := HSPF.out.bs.1; have h3 := heap_alloc_last w9 (.cells #[.int .i64 p, .int .i64 stop, .string s.nm, .int .i64 st.length, .string r.co] 70); rw [← e, h2] at h3; simp at h3
       clear hb10 HAF y0 y1 y2 y3 y4 y5 y6 y7 y8 z0 z1 z2 z3 z4 HSPF HJF HBQ hsb hsb0
       dsimp only
       refine (by with_reducible assumption : ∀ (a : Act) (w : World), wpList Tryz.prog _ _ _ a w → (_ : Act → World → Prop) a w) _ _ ?_
       refine wpList_store_row rfl _ _ _ rfl q #[.int .i64 x0, .int .i64 x1, .int .i64 x2, .int .i64 x3, .int .i64 x4, .int .i64 x5, .int .i64 x6, .int .i64 x7, .int .i64 x8] rfl rfl 138 _ HBQ10.out rfl rfl (by simp [Value.oneCell']) ?_
       obtain ⟨w11, hw11⟩ : ∃ w11, w10.setRow q #[.int .i64 x0, .int .i64 x1, .int .i64 x2, .int .i64 x3, .int .i64 x4, .int .i64 x5, .int .i64 x6, .int .i64 x7, .int .i64 x8] = w11 := ⟨_, rfl⟩
       have hoff11 : Off (fun k => k = q) w10 w11 := by rw [← hw11]; exact Off.setRow _ HBQ10.out (by decide) rfl
       have hbq11 : w11.heap[q]? = some (.cells #[.int .i64 x0, .int .i64 x1, .int .i64 x2, .int .i64 x3, .int .i64 x4, .int .i64 x5, .int .i64 x6, .int .i64 x7, .int .i64 x8] 138 (0, 0)) := by rw [← hw11]; exact setRow_heap _ _ _ _ _ _ HBQ10.out
       rw [hw11]
       have HSP11 := hide (HSP10.out.restack (st' := aft r.k r.op st) hoff11 (by rw [HST2.out]; exact hbq11))
       have HJ11 := hide (HJ.out _ _ _ _ _ HJ10.out (hoff11.sub fun k _ hk => ⟨.inr (by rw [hk, ← HQ.out]; exact Nat.le_refl _), fun hc => (HSP10.out.cl k hc).1.2.2.2.2.2 hk⟩))
       have hsb11 := hoff11.same HSB.out (fun e => hsbq e.symm)
       have y0 := cell_at (j := 0) hbq11 rfl
       have y1 := cell_at (j := 1) hbq11 rfl
       have y2 := cell_at (j := 2) hbq11 rfl
       have y3 := cell_at (j := 3) hbq11 rfl
       have y4 := cell_at (j := 4) hbq11 rfl
       have y5 := cell_at (j := 5) hbq11 rfl
       have y6 := cell_at (j := 6) hbq11 rfl
       have y7 := cell_at (j := 7) hbq11 rfl
       have y8 := cell_at (j := 8) hbq11 rfl
       have z0 := cell_at (j := 0) hsb11 rfl
       have z1 := cell_at (j := 1) hsb11 rfl
       have z2 := cell_at (j := 2) hsb11 rfl
       have z3 := cell_at (j := 3) hsb11 rfl
       have z4 := cell_at (j := 4) hsb11 rfl
       have hhit : HitAt s.rs line.data.toList at_ p k r stop := ⟨hap, hpl2, hrk, hfrom, hfirst, hleast, HLG.out⟩
       have hgt := hhit.gt (HOK.out s (List.mem_of_getElem? HS.out) r (List.mem_of_getElem? hrk)).1
       rw [text_length] at hgt
       have HNP := hide (Path.hit HPA.out (by rw [text_length]; exact hlt) HTOP.out HS.out hhit)
       obtain ⟨fn, tmps, assign, body, hy, hR⟩ := HY.out Cl2 (pre ++ gapL at_ p s.nm st.length) st ⟨p, stop, s.nm, st.length, r.co⟩ (aft r.k r.op st) w11 HJ11.out HGDA.out (by have h1 := HPA.out.short HOK.out; have h2 := gapL_short at_ p s.nm st.length; rw [List.length_append]; omega)
       unfold Sp.v spv stv at hy
       rw [HST2.out] at hy
       have HRR := hide hR
       clear hR hw11 hoff11 hbq11 hsb11 HSP10 HJ10 HBQ10 HSB hhit
       dsimp only [wpList, Exit.then]
       refine (by with_reducible assumption : ∀ (a : Act) (w : World), Code.wp Tryz.prog _ _ a w → (_ : Act → World → Prop) a w) _ _ ?_
       refine (wpIn_wide (n := m)).1 ?_
       gi_wp2_with fail
       refine ⟨fun h => (by cases h), HRR.out.mono ?_⟩
       rintro e12 w12 (⟨rfl, Cl3, hoff12, hcl12, hj12⟩ | ⟨rfl, hjx⟩)
       ·have HSL := hide (show SLoop J N A0 q g n cap G d line (q + 2) (q + 3) (q + 1) bP bL q st0 (line.size - stop) (.int .i64 stop) w12 from ⟨stop, _, _, rfl, by omega, HNP.out, HGDA.out, Cl3, A4, f4, F4, f2', hj12, HSP11.out.round hoff12 hcl12⟩)
        clear hoff12 hcl12 hj12 hy HRR HSP11 HJ11 HNP y0 y1 y2 y3 y4 y5 y6 y7 y8 z0 z1 z2 z3 z4
        gi_wp2_with fail
        go_roundg (line.size - stop)
        case measure => omega
        case rel => exact HSL.out
       ·have HJX := hide hjx
        clear hjx hy HRR HSP11 HJ11 HNP y0 y1 y2 y3 y4 y5 y6 y7 y8 z0 z1 z2 z3 z4
        gi_wp2_with fail
        go_end0
        exact ⟨⟨_, rfl⟩, .inr HJX.out⟩
    ·have HPOST := hide hpost
     clear hpost
     go_wp2_with fail
     go_end0
     have h := HPOST.out
     rw [HQ.out] at h
     exact ⟨⟨_, rfl⟩, h.2⟩
  ·have g1 : decide ((at_ : Int) < (line.size : Int)) = false := decide_eq_false (by omega)
   obtain rfl : at_ = line.size := by omega
   have HEND := hide (show SpansPost J Jx N A0 q g n cap G d line.data.toList st0 (.returned (.tuple #[])) wr from ⟨⟨_, rfl⟩, .inl ⟨pre, st, Cl, A1, f1, F1, .inl (by rw [text_length]; exact hpath), hjj, hsp.p, hsp.sub, fun k hk => (hsp.cl k hk).1.2.2.1⟩⟩)
   clear hpath hgd hjj hsp
   go_wp2_with fail
   go_end0
   have h := HEND.out
   rw [HQ.out] at h
   exact ⟨⟨_, rfl⟩, h.2⟩
end Go.Proofs.YtgncgdkpkkdaeaaGreatDoor
