import Derived.Test.YtgncgdkpkkdaeaaGreatDoorKFc
import Derived.Test.YtgncgdkpkkdaeaaGreatDoorKFd
import Derived.Test.YtgncgdkpkkdaeaaGreatDoorKDA
namespace Go.Proofs.YtgncgdkpkkdaeaaGreatDoor
open Go.RowKit Tint Go.Maps Go.Shelf
def NmSame (xa xb : List ByteArray) (w : World) (k : Nat) (vi : Value) (wr : World) : Prop :=
 ∃ j : Nat, vi = .int .i64 j ∧ j + k = xa.length ∧ xa.take j = xb.take j ∧ Below w.heap.size w wr
set_option maxRecDepth 20000 in
set_option maxHeartbeats 1000000 in
theorem sameNames2_any (va vb : Value) (B1 B2 : Nat) (xa xb : List ByteArray) (w : World) (ha : NmRow w B1 va xa) (hb : NmRow w B2 vb xb) (hz : xa.length ≤ 100000) : Calls Tryz.prog 32 #[va, vb] w fun e w' => e = .returned (.bool (decide (xa = xb))) ∧ Below w.heap.size w w' := by
 obtain ⟨ao, ac, rfl⟩ := row_slice ha
 obtain ⟨bo, bc, rfl⟩ := row_slice hb
 have HA := hide ha
 have HB := hide hb
 by_cases hl : xa.length = xb.length
 ·obtain ⟨n, hn⟩ : ∃ n, n = xa.length := ⟨_, rfl⟩
  have hn2 : n = xb.length := by omega
  rw [← hn, ← hn2]
  rw [← hn] at HA hz
  rw [← hn2] at HB
  have HN := hide (And.intro hn hn2)
  clear ha hb hn hn2 hl
  go_enter Tryz.func32, Tryz.ntmps32
  go_wp2_with fail
  go_loopg [5] n (fun k vi wr => NmSame xa xb w k vi wr)
  case atStart => exact ⟨0, rfl, by rw [← HN.out.1]; omega, by simp, Below.refl _ _⟩
  case round =>
   obtain ⟨j, rfl, hk, htk, hbr⟩ := hrel
   have HBR := hide hbr
   rw [← HN.out.1] at hk
   by_cases hlt : j < n
   ·have g1 : decide ((j : Int) < (n : Int)) = true := decide_eq_true (by omega)
    have hwr : IntKind.i64.wrap ((j : Int) + 1) = (j : Int) + 1 := by rw [IntKind.wrap_i64]; omega
    obtain ⟨x, hx⟩ : ∃ x, xa[j]? = some x := ⟨_, List.getElem?_eq_getElem (by rw [← HN.out.1]; exact hlt)⟩
    obtain ⟨y, hy⟩ : ∃ y, xb[j]? = some y := ⟨_, List.getElem?_eq_getElem (by rw [← HN.out.2]; exact hlt)⟩
    have ra := row_typ HA.out (w' := wr) (fun k c hh => (hbr.block k (lt_of_get hh)).trans hh)
    have rb := row_typ HB.out (w' := wr) (fun k c hh => (hbr.block k (lt_of_get hh)).trans hh)
    obtain ⟨pa, _, hpa⟩ := own_form ra (by rw [← HN.out.1]; omega)
    obtain rfl : ao = some ⟨pa, 0, none⟩ := by injection hpa
    obtain ⟨pb, _, hpb⟩ := own_form rb (by rw [← HN.out.2]; omega)
    obtain rfl : bo = some ⟨pb, 0, none⟩ := by injection hpb
    have a0 : wr.cell? ⟨pa, j, none⟩ = some (.string x) := by
     have h := ra
     rw [HN.out.1] at h
     exact (row_cell h (by rw [List.getElem?_map, hx]; rfl)).1
    have b0 : wr.cell? ⟨pb, j, none⟩ = some (.string y) := by
     have h := rb
     rw [HN.out.2] at h
     exact (row_cell h (by rw [List.getElem?_map, hy]; rfl)).1
    by_cases hxy : x = y
    ·subst hxy
     have HST := hide (fun m => show NmSame xa xb w (n - (j + 1)) (.int .i64 ((j : Int) + 1)) (wr.drewN m) from ⟨j + 1, by simp, by rw [← HN.out.1]; omega, by rw [List.take_add_one, List.take_add_one, htk, hx, hy], Below.drewN' hbr m⟩)
     clear htk hx hy hbr ra rb hpa hpb
     go_wp2_with fail
     go_quiet (fail)
     go_wp2_with fail
     go_roundg (n - (j + 1))
     case measure => omega
     case rel => exact HST.out _
    ·have q1 : (x.toList == y.toList) = false := by
      rw [beq_eq_false_iff_ne]
      intro e
      rw [Lib.toList_data, Lib.toList_data] at e
      exact hxy (WideShapes.bytes_inj e)
     have HEND := hide (show Ending.returned (.bool false) = .returned (.bool (decide (xa = xb))) from by rw [decide_eq_false fun e => hxy (by rw [e, hy] at hx; cases hx; rfl)])
     clear htk hx hy hxy hbr ra rb hpa hpb
     go_wp2_with fail
     go_quiet (fail)
     go_wp2_with fail
     go_ret
     exact ⟨HEND.out, Below.drewN' HBR.out _⟩
   ·have g1 : decide ((j : Int) < (n : Int)) = false := decide_eq_false (by omega)
    have HEND := hide (show Ending.returned (.bool true) = .returned (.bool (decide (xa = xb))) from by
     rw [decide_eq_true (by
      have h1 := HN.out.1
      have h2 := HN.out.2
      rw [List.take_of_length_le (by omega), List.take_of_length_le (by omega)] at htk
      exact htk)])
    clear htk hbr
    go_wp2_with fail
    go_ret
    exact ⟨HEND.out, HBR.out⟩
 ·have q1 : ((xa.length : Int) == (xb.length : Int)) = false := by rw [beq_eq_false_iff_ne]; omega
  have HEND := hide (show Ending.returned (.bool false) = .returned (.bool (decide (xa = xb))) from by rw [decide_eq_false fun e => hl (by rw [e])])
  clear hl ha hb
  go_enter Tryz.func32, Tryz.ntmps32
  go_wp2_with fail
  go_ret
  exact ⟨HEND.out, Below.refl _ _⟩
theorem info_strs : (Tryz.prog.info? 61).map (fun i => (i.zero, i.size, i.bytes)) = some (some (.slice none 0 0), 1, 24) := by kernel_rfl
structure StkRow (w : World) (B : Nat) (v : Value) (G : List GS) (es : List (List Nat × Value)) : Prop where
 row : w.ownsRow B 61 1 v es.length (es.map (·.2))
 each : ∀ e ∈ es, NmRow w B e.2 (nmsOf G e.1)
theorem StkRow.below {w w' : World} {B : Nat} {v : Value} {G : List GS} {es : List (List Nat × Value)} (h : StkRow w B v G es) (hb : Below w.heap.size w w') : StkRow w' B v G es :=
 ⟨row_typ h.row (fun k _ hh => (hb.block k (lt_of_get hh)).trans hh), fun e he => row_typ (h.each e he) (fun k _ hh => (hb.block k (lt_of_get hh)).trans hh)⟩
def StkPost (G : List GS) (ls : List LE) (w : World) (e : Ending) (w' : World) : Prop :=
 ∃ v es, e = .returned v ∧ StkRow w' w.heap.size v G es ∧ es.map (·.1) = ls.map LE.st ∧ Below w.heap.size w w'
def StkLoop (G : List GS) (ls : List LE) (w : World) (k : Nat) (vl vi : Value) (wr : World) : Prop :=
 ∃ (j : Nat) (ao : Option Addr) (c : Nat) (es : List (List Nat × Value)), vi = .int .i64 j ∧ vl = .slice ao j c ∧ j + k = ls.length ∧ es.length = j ∧ StkRow wr w.heap.size (.slice ao j c) G es ∧ es.map (·.1) = (ls.take j).map LE.st ∧ Below w.heap.size w wr
set_option maxRecDepth 20000 in
set_option maxHeartbeats 2000000 in
theorem stacks_any (w : World) (k : KD) (t : KT) (hk : KIs w k) (ht : KText w k t) : Calls Tryz.prog 30 #[.pointer (some ⟨t.bX, 0, none⟩)] w (StkPost k.G t.ls w) := by
 have hn31 : t.ls.length ≤ 3001 := by
  obtain ⟨_, h1⟩ := ht.runs
  have h2 := h1.length
  rw [List.length_map, splitL_length] at h2
  have h3 := List.count_le_length (a := (10 : UInt8)) (l := t.text.data.toList)
  rw [text_length] at h3
  have := ht.sheet.size
  omega
 have HK := hide (And.intro hk ht)
 have HGD := hide (ht.good hk)
 obtain ⟨nl, hnl⟩ : ∃ nl, nl = t.ls.length := ⟨_, rfl⟩
 have HLT := hide (fun W (hb : Below w.heap.size w W) => txLines_any (ht.below hb).sheet (ht.below hb).tx)
 rw [← hnl] at HLT hn31
 have HNL := hide hnl
 obtain ⟨i0, hi0, hz0, hz1, hz3⟩ := info_parts info_strs
 clear hk ht hnl
 go_enter Tryz.func30, Tryz.ntmps30
 go_wp2_with fail
 go_loopg [3, 4] nl (fun k' vl vi wr => StkLoop k.G t.ls w k' vl vi wr)
 case atStart => exact ⟨0, none, 0, [], rfl, rfl, by rw [← HNL.out]; omega, rfl, ⟨World.ownsRow_nil _ _ _ _, fun e he => by simp at he⟩, by simp, Below.refl _ _⟩
 case round =>
  obtain ⟨j, ao, c, es, rfl, rfl, hjk, hes, hrow, hst, hbr⟩ := hrel
  rw [← HNL.out] at hjk
  have HBR := hide hbr
  have HROWx := hide hrow
  have HSTx := hide hst
  have HES := hide hes
  clear hbr hrow hst hes
  by_cases hlt : j < nl
  ·have g1 : decide ((j : Int) < (nl : Int)) = true := decide_eq_true (by omega)
   have hwr : IntKind.i64.wrap ((j : Int) + 1) = (j : Int) + 1 := by rw [IntKind.wrap_i64]; omega
   have HT2 := hide (txStack_any (j : Int) k.G HGD.out.1 ((HK.out.1.below HBR.out).gram wr (Below.refl _ _)) (HK.out.2.below HBR.out).sheet (HK.out.2.below HBR.out).tx)
   go_wp2_with fail
   refine (HLT.out wr HBR.out).mono ?_
   rintro e wq ⟨rfl, eq⟩
   subst wq
   go_wp2_with fail
   refine HT2.out.mono ?_
   rintro e w4 ⟨hb4, ⟨hbad, rfl⟩ | ⟨j4, x4, v4, hj4, hx4, rfl, hs4⟩⟩
   ·exact absurd ⟨by omega, by have := HNL.out; omega⟩ hbad
   obtain rfl : j4 = j := by omega
   obtain ⟨o4, c4, hv4⟩ := row_slice hs4
   subst hv4
   obtain ⟨q4, hq4⟩ : ∃ q4, q4 = (nmsOf k.G x4.st).length := ⟨_, rfl⟩
   have HS4 := hide hs4
   rw [← hq4] at HS4 ⊢
   have hbw4 := HBR.out.trans (hb4.mono HBR.out.size)
   have hr4 := HROWx.out.below hb4
   have hba : Below w4.heap.size w4 (w4.alloc (.cells #[.slice o4 q4 c4] 61)) := (Below.refl _ _).alloc (Nat.le_refl _) _
   have HROW := hide (show (w4.alloc (.cells #[.slice o4 q4 c4] 61)).ownsRow w.heap.size 61 1 (.slice ao j4 c) j4 (es.map (·.2)) from by have := (hr4.below hba).row; rw [HES.out] at this; exact this)
   have HNW := hide (fun (y : Nat) u (h : ([.slice o4 q4 c4] : List Value)[y]? = some u) => show (w4.alloc (.cells #[.slice o4 q4 c4] 61)).cell? ((⟨w4.heap.size, 0, none⟩ : Addr).add y) = some u from cell_new_row w4 #[.slice o4 q4 c4] _ y u h)
   have hbase : w.heap.size ≤ (w4.alloc (.cells #[.slice o4 q4 c4] 61)).heap.size := by rw [World.size_alloc]; have := hbw4.size; omega
   have HNX := hide (fun (v' : Value) (W : World) (hr : W.ownsRow w.heap.size 61 1 v' (j4 + 1) (es.map (·.2) ++ [.slice o4 q4 c4])) (hg : (w4.alloc (.cells #[.slice o4 q4 c4] 61)).grownBy W (Value.slice ao j4 c).ownBlock) => show StkLoop k.G t.ls w (nl - (j4 + 1)) v' (.int .i64 ((j4 : Int) + 1)) W from by
    obtain ⟨ao', c', hv'⟩ := row_slice hr
    subst hv'
    have hwa : Below w.heap.size w (w4.alloc (.cells #[.slice o4 q4 c4] 61)) := hbw4.alloc hbw4.size _
    have key : ∀ (i : Nat) cc, (w4.alloc (.cells #[.slice o4 q4 c4] 61)).heap[i]? = some (.cells cc 9 (0, 0)) → W.heap[i]? = some (.cells cc 9 (0, 0)) := fun i cc hh => (hg.block i (lt_of_get hh) (fun e => by
     obtain ⟨_, c9, h9⟩ := row_type HROW.out e.symm
     rw [hh] at h9
     cases h9)).trans hh
    refine ⟨j4 + 1, ao', c', es ++ [(x4.st, .slice o4 q4 c4)], by simp, rfl, by rw [← HNL.out]; omega, by rw [List.length_append, HES.out]; rfl, ⟨?_, fun e he => ?_⟩, ?_, hwa.trans (below_grown hwa.size hg fun i hi => (row_type HROW.out hi).1)⟩
    ·rw [List.map_append, List.length_append, HES.out]
     exact hr
    ·rcases List.mem_append.1 he with he | he
     ·exact row_typ ((hr4.below hba).each e he) key
     ·rw [List.mem_singleton.1 he]
      have h5 := HS4.out
      exact row_typ (row_base (row_typ h5 (fun i cc hh => (hba.block i (lt_of_get hh)).trans hh)) (Nat.le_trans HBR.out.size (Nat.le_refl _))) key
    ·rw [List.map_append, HSTx.out, List.take_add_one, hx4, List.map_append]
     rfl)
   clear hb4 hbw4 hr4 hba hs4 hq4 HT2 hj4
   go_wp2_with (at_builtin; go_loud (refine wpList_append_own_at _ rfl _ _ 53 rfl w.heap.size 61 i0 (.slice none 0 0) 1 24 Tryz.underlying53 hi0 hz0 hz1 hz3 rfl (by decide) (.slice ao j4 c) j4 (es.map (·.2)) (by rfl) HROW.out ⟨w4.heap.size, 0, none⟩ 1 1 [.slice o4 q4 c4] (by rfl) rfl HNW.out (by simp [Value.oneCell']) (by unfold maxLen; omega) (by omega) hbase ?_; intro v' W hown hg _ _; have HST := hide (HNX.out v' W hown hg); obtain ⟨g', cap', rfl⟩ := own_form hown (by omega); clear hown hg HNX HROW HNW))
   go_wp2_with fail
   go_roundg (nl - (j4 + 1))
   case measure => omega
   case rel => exact HST.out
  ·have g1 : decide ((j : Int) < (nl : Int)) = false := decide_eq_false (by omega)
   have HEND := hide (show StkPost k.G t.ls w (.returned (.slice ao j c)) wr from ⟨_, es, rfl, HROWx.out, by have := HSTx.out; rw [List.take_of_length_le (by have := HNL.out; omega)] at this; exact this, HBR.out⟩)
   go_wp2_with fail
   refine (HLT.out wr HBR.out).mono ?_
   rintro e wq ⟨rfl, eq⟩
   subst wq
   go_wp2_with fail
   go_ret
   exact HEND.out
theorem nms_inj {G : List GS} (h : LnsG codeLns G) {a b : List Nat} (ha : ∀ x ∈ a, x < G.length) (hb : ∀ x ∈ b, x < G.length) (e : nmsOf G a = nmsOf G b) : a = b := by
 have hnd : (lnNames codeLns).Nodup := by decide
 have hl : (lnNames codeLns).length = G.length := by rw [h.names, List.length_map]
 have hf : ∀ i j, i < G.length → j < G.length → ((G[i]?).map GS.nm).getD ⟨#[]⟩ = ((G[j]?).map GS.nm).getD ⟨#[]⟩ → i = j := by
  intro i j hi hj hij
  rw [List.getElem?_eq_getElem hi, List.getElem?_eq_getElem hj] at hij
  simp only [Option.map_some, Option.getD_some] at hij
  refine (List.getElem?_inj (l := lnNames codeLns) (by rw [hl]; exact hi) hnd).1 ?_
  rw [h.names, List.getElem?_map, List.getElem?_map, List.getElem?_eq_getElem hi, List.getElem?_eq_getElem hj]
  simp only [Option.map_some, hij]
 unfold nmsOf at e
 induction a generalizing b with
 | nil =>
  cases b with
  | nil => rfl
  | cons y b => simp at e
 | cons x a ih =>
  cases b with
  | nil => simp at e
  | cons y b =>
   simp only [List.map_cons, List.cons.injEq] at e
   rw [hf x y (ha x List.mem_cons_self) (hb y List.mem_cons_self) e.1, ih (fun z hz => ha z (List.mem_cons_of_mem _ hz)) (fun z hz => hb z (List.mem_cons_of_mem _ hz)) e.2]
theorem StkRow.off {w w' : World} {bS : Nat} {c0 : Array Value} {f0 : Nat × Nat} {B : Nat} {v : Value} {G : List GS} {es : List (List Nat × Value)} (h : StkRow w B v G es) (ho : Off (fun i => i = bS) w w') (hS : w.heap[bS]? = some (.cells c0 134 f0)) : StkRow w' B v G es :=
 ⟨row_typ h.row (fun _ _ hh => off_typ ho hS hh (by decide)), fun e he => row_typ (h.each e he) (fun _ _ hh => off_typ ho hS hh (by decide))⟩
theorem StkRow.at {w : World} {B : Nat} {ao : Option Addr} {n c : Nat} {G : List GS} {es : List (List Nat × Value)} (h : StkRow w B (.slice ao n c) G es) {j : Nat} {x : List Nat × Value} (hx : es[j]? = some x) : ∃ g, ao = some ⟨g, 0, none⟩ ∧ w.cell? ⟨g, j, none⟩ = some x.2 := by
 have hr := h.row
 rcases hr.2 with ⟨h1, h2⟩ | ⟨g, cap, cur, h1, _⟩
 ·have : es = [] := List.length_eq_zero_iff.1 h2
  rw [this] at hx
  simp at hx
 ·cases h1
  exact ⟨g, rfl, (row_cell hr (j := j) (u := x.2) (by rw [List.getElem?_map, hx]; rfl)).1⟩
set_option maxRecDepth 20000 in
set_option maxHeartbeats 4000000 in
theorem local_walk (v ve : Value) (len le : Nat) (w : World) (hT : Tab w) (hm : Mx w) (hR : Raws w v len) (hE : Raws w ve le) : Calls Tryz.prog 10 #[v, ve] w fun e w' => e = .returned (.bool true) ∧ Below w.heap.size w w' := by
 have HD := hide (document_any v len w hR)
 have HK := hide (And.intro hT hm)
 have HE := hide hE
 have t0 : 1 < w.heap.size := cell_lt (hT 0 (by decide))
 have m0 : 0 < w.heap.size := by obtain ⟨m, h⟩ := hm; exact cell_lt h
 obtain ⟨eo, ec, hve, hle⟩ : ∃ eo ec, ve = .slice eo le ec ∧ le ≤ 17592186044416 := by
  rcases hE with ⟨h1, h2⟩ | ⟨a, cap, h1, h2, _⟩
  ·exact ⟨none, 0, by rw [h1, h2], by omega⟩
  ·exact ⟨_, _, h1, h2⟩
 subst hve
 clear hT hm hR hE
 go_enter Tryz.func10, Tryz.ntmps10
 go_wp2_with fail
 refine HD.out.mono ?_
 rintro e w1 ⟨s, rfl, hsz, hb1⟩
 have HO := hide (kOpened_any s w1 (HK.out.1.below hb1) (HK.out.2.below hb1) (by omega))
 have HB1 := hide hb1
 clear hb1 HD
 go_wp2_with fail
 refine HO.out.mono ?_
 rintro e w2 ⟨hb2, kd, t, rfl, hki, hkt, hts, htw, hN⟩
 have hbw2 := HB1.out.trans (hb2.mono HB1.out.size)
 have hNw : w.heap.size ≤ kd.N := Nat.le_trans HB1.out.size hN
 have htl : t.ls.length ≤ 3001 := by
  obtain ⟨_, h1⟩ := hkt.runs
  have h2 := h1.length
  rw [List.length_map, splitL_length] at h2
  have h3 := List.count_le_length (a := (10 : UInt8)) (l := t.text.data.toList)
  rw [text_length] at h3
  have := hkt.sheet.size
  omega
 have HJ0 := hide (show FrLoop w kd t.bX t.B 90 (.string s) (.int .i64 0) w2 from ⟨0, t, rfl, by rw [hts], rfl, by omega, hki, hkt, rfl, rfl, by rw [hts]; omega, by omega, hbw2⟩)
 have hNB : kd.N ≤ t.B := hkt.hB
 obtain ⟨bX, hbX⟩ : ∃ bX, bX = t.bX := ⟨_, rfl⟩
 obtain ⟨B, hB⟩ : ∃ B, B = t.B := ⟨_, rfl⟩
 rw [← hbX, ← hB] at HJ0
 rw [← hB] at hNB
 rw [← hbX]
 clear hb2 hki hkt hts htw hN HO hbw2 hbX hB htl
 go_wp2_with fail
 go_loopg [5, 8] 90 (fun k vs vi wr => FrLoop w kd bX B k vs vi wr)
 case atStart => exact HJ0.out
 case round =>
  obtain ⟨i, t, rfl, rfl, hk, hi, hki, hkt, hX, hB, hsz2, hw2, hbr⟩ := hrel
  have HBR := hide hbr
  by_cases hgo : i < le ∧ i < 90
  ·have q1 : decide ((i : Int) < (le : Int)) = true := decide_eq_true (by omega)
   have q2 : decide ((i : Int) < 90) = true := decide_eq_true (by omega)
   have q1' : decide (i < le) = true := decide_eq_true hgo.1
   have q2' : decide (i < 90) = true := decide_eq_true hgo.2
   have p1 : i < le := hgo.1
   have p2 : i < 90 := hgo.2
   have hwi : IntKind.i64.wrap ((i : Int) + 3) = (i : Int) + 3 := by rw [IntKind.wrap_i64]; omega
   have hso := stacks_any wr kd t hki hkt
   rw [hX] at hso
   have HSO := hide hso
   have HKI := hide hki
   have HKT := hide hkt
   clear hki hkt hbr hgo hso
   go_wp2_with fail
   refine HSO.out.mono ?_
   rintro e w3 ⟨vo, eo1, rfl, hro, hmo, hb3⟩
   have hkt3 := HKT.out.below hb3
   have hki3 := HKI.out.below hb3
   have hbw3 : Below w.heap.size w w3 := HBR.out.trans (hb3.mono HBR.out.size)
   have hwk := txWork_any hkt3.sheet hkt3.tx
   rw [hX] at hwk
   have HWK := hide hwk
   have hed := keepEdit_any w3 kd t (.slice eo le ec) le i (HK.out.1.below hbw3) (HK.out.2.below hbw3) (by omega) (by omega) hki3 hkt3 hsz2 (by omega) (by omega) (HE.out.below hbw3)
   rw [hX] at hed
   have HED := hide hed
   have HRO := hide hro
   have HMO := hide hmo
   have HK3 := hide (And.intro hki3 hkt3)
   have HBW3 := hide hbw3
   obtain ⟨oo, oc, hvo⟩ := row_slice hro.row
   subst hvo
   obtain ⟨no, hno⟩ : ∃ no, no = eo1.length := ⟨_, rfl⟩
   rw [← hno] at HRO ⊢
   have HNO := hide hno
   clear hb3 hro hmo hkt3 hki3 hbw3 hwk hed hno HSO
   go_wp2_with fail
   refine HWK.out.mono ?_
   rintro e wq ⟨rfl, eq⟩
   subst wq
   clear HWK
   go_wp2_with fail
   refine HED.out.mono ?_
   rintro e w4 ⟨s', put, a, n, rfl, han, hs1, hp2, hst⟩
   obtain ⟨ho4, hb4, t4, ht4, hts4, hX4, hB4, hls4, hlo, hw4, hhi⟩ := hst
   have hk4 : KIs w4 kd := HK3.out.1.belowN (hb4.mono HK3.out.2.hB)
   have hbw4 : Below w.heap.size w w4 := HBW3.out.trans (hb4.mono (by rw [hB]; omega))
   have hro4 : StkRow w4 wr.heap.size (.slice oo no oc) kd.G eo1 := HRO.out.off ho4 HK3.out.2.sheet.sh
   rw [hX] at hX4
   rw [hB] at hB4
   obtain ⟨an, hanz⟩ : ∃ an, an = a + n := ⟨_, rfl⟩
   rw [← hanz] at hhi hls4 han
   have wan : IntKind.i64.wrap ((a : Int) + (n : Int)) = (an : Int) := by rw [IntKind.wrap_i64]; omega
   have HS1 := hide (split_any put w4 (by omega))
   clear hanz
   go_wp2_with fail
   refine HS1.out.mono ?_
   rintro e w5 ⟨lv5, nm5, rfl, hr5, hn5, hb5⟩
   obtain ⟨o5, c5, hv5⟩ := row_slice hr5
   subst hv5
   obtain ⟨c0, hc0⟩ : ∃ c0, c0 = nm5.length := ⟨_, rfl⟩
   have hc0e : c0 = 1 + put.data.toList.count 10 := by
    have := congrArg List.length hn5
    rw [List.length_map, splitL_length] at this
    omega
   rw [← hc0]
   have lR : (t.text.extract an t.text.size).data.toList = t.text.data.toList.drop an := by rw [extract_list, List.take_of_length_le (by rw [List.length_drop, text_length]; omega)]
   have HS2 := hide (split_any (t.text.extract an t.text.size) w5 (by
    have h1 := congrArg List.length lR
    rw [text_length, List.length_drop, text_length] at h1
    omega))
   rw [lR] at HS2
   have HC0 := hide hc0e
   have hcz : c0 ≤ 3001 := by
    have h3 := List.count_le_length (a := (10 : UInt8)) (l := put.data.toList)
    rw [text_length] at h3
    omega
   have HB5 := hide hb5
   have HRO4 := hide hro4
   have HK4 := hide (And.intro hk4 ht4)
   have HBW4 := hide hbw4
   have HF4 := hide (And.intro hts4 (And.intro hX4 (And.intro hB4 (And.intro hls4 (And.intro hlo (And.intro hw4 hhi))))))
   clear hr5 hn5 hb5 hc0 hc0e lR HS1 hro4 hk4 ht4 hbw4 hts4 hX4 hB4 hls4 hlo hw4 hhi ho4 hb4 HED
   go_wp2_with fail
   refine HS2.out.mono ?_
   rintro e w6 ⟨lv6, nm6, rfl, hr6, hn6, hb6⟩
   obtain ⟨o6, c6, hv6⟩ := row_slice hr6
   subst hv6
   obtain ⟨b, hb⟩ : ∃ b, b = (t.text.data.toList.drop an).count 10 := ⟨_, rfl⟩
   obtain ⟨b1, hb1⟩ : ∃ b1, b1 = nm6.length := ⟨_, rfl⟩
   have hb1e : b1 = 1 + b := by
    have := congrArg List.length hn6
    rw [List.length_map, splitL_length] at this
    omega
   rw [← hb1]
   have wb : IntKind.i64.wrap ((b1 : Int) - 1) = (b : Int) := by
    have h3 := List.count_le_length (a := (10 : UInt8)) (l := t.text.data.toList.drop an)
    rw [List.length_drop, text_length] at h3
    rw [IntKind.wrap_i64]; omega
   have hb46 : Below w4.heap.size w4 w6 := HB5.out.trans (hb6.mono HB5.out.size)
   have hkt6 := HK4.out.2.below hb46
   have hki6 := HK4.out.1.below hb46
   have hwk := txWork_any hkt6.sheet hkt6.tx
   rw [HF4.out.2.1] at hwk
   have HWK := hide hwk
   have hst6 := stacks_any w6 kd t4 hki6 hkt6
   rw [HF4.out.2.1] at hst6
   have HST6 := hide hst6
   have HB46 := hide hb46
   have HBE := hide hb
   have hdw : t.work ≤ t4.work ∧ t4.work ≤ t.work + 3001 := ⟨HF4.out.2.2.2.2.1, HF4.out.2.2.2.2.2.1⟩
   obtain ⟨dn, hdn⟩ : ∃ dn, dn = t4.work - t.work := ⟨_, rfl⟩
   have wd : IntKind.i64.wrap ((t4.work : Int) - (t.work : Int)) = (dn : Int) := by rw [IntKind.wrap_i64]; omega
   have HDN := hide hdn
   clear hr6 hn6 hb6 hb1 hb1e hb46 hkt6 hki6 hwk hst6 HS2 hb hdn
   go_wp2_with fail
   refine HWK.out.mono ?_
   rintro e wq ⟨rfl, eq⟩
   subst wq
   go_wp2_with fail
   refine HST6.out.mono ?_
   rintro e w7 ⟨vn, en, rfl, hrn, hmn, hb7⟩
   obtain ⟨so, sc, hvn⟩ := row_slice hrn.row
   subst hvn
   obtain ⟨nn, hnn⟩ : ∃ nn, nn = en.length := ⟨_, rfl⟩
   have hro7 := (HRO4.out.below HB46.out).below hb7
   have hl1 : no = 1 + t.text.data.toList.count 10 := by
    obtain ⟨_, h1⟩ := HK3.out.2.runs
    have h2 := h1.length
    rw [List.length_map, splitL_length] at h2
    have h3 := congrArg List.length HMO.out
    rw [List.length_map, List.length_map] at h3
    rw [HNO.out, h3, h2]
   have hl2 : nn = 1 + t4.text.data.toList.count 10 := by
    obtain ⟨_, h1⟩ := HK4.out.2.runs
    have h2 := h1.length
    rw [List.length_map, splitL_length] at h2
    have h3 := congrArg List.length hmn
    rw [List.length_map, List.length_map] at h3
    rw [hnn, h3, h2]
   have hbo : b ≤ no := by
    rw [hl1, HBE.out]
    conv => rhs; rw [← List.take_append_drop an t.text.data.toList, List.count_append]
    omega
   have hbn : b ≤ nn := by
    rw [hl2, HBE.out, HF4.out.1, HF4.out.2.2.2.1, List.count_append, List.count_append]
    omega
   have hno3 : no ≤ 3001 := by
    have h3 := List.count_le_length (a := (10 : UInt8)) (l := t.text.data.toList)
    rw [text_length] at h3
    omega
   have hnn3 : nn ≤ 3001 := by
    have h3 := List.count_le_length (a := (10 : UInt8)) (l := t4.text.data.toList)
    rw [text_length, HF4.out.1] at h3
    rw [HF4.out.1] at hl2
    omega
   have g5 : decide ((no : Int) < (b : Int)) = false := decide_eq_false (by omega)
   have g6 : decide ((nn : Int) < (b : Int)) = false := decide_eq_false (by omega)
   have g5' : decide (no < b) = false := decide_eq_false (by omega)
   have g6' : decide (nn < b) = false := decide_eq_false (by omega)
   have p5 : ¬ no < b := by omega
   have p6 : ¬ nn < b := by omega
   have HDM := hide (show dn ≤ c0 + moreN (eo1.map (·.1)) (en.map (·.1)) b from by
    have h1 := HF4.out.2.2.2.2.2.2
    rw [HMO.out, hmn, HC0.out, HBE.out]
    have h2 := HDN.out
    omega)
   have HG1 := hide (HK3.out.2.good HK3.out.1)
   have HG2 := hide (HK4.out.2.good HK4.out.1)
   have HRN := hide hrn
   have HRO7 := hide hro7
   have HMN := hide hmn
   have HB7 := hide (HB46.out.trans (hb7.mono HB46.out.size))
   rw [← hnn] at HRN ⊢
   have HNN := hide hnn
   clear hrn hro7 hmn hb7 hnn hl1 hl2 HST6
   go_wp2_with fail
   go_loopg [16, 20] b (fun k vn vk W => MoreLoop w7 c0 b (eo1.map (·.1)) (en.map (·.1)) k vn vk W)
   case atStart => exact ⟨1, c0, rfl, rfl, Nat.le_refl _, by omega, by simp [moreN], Below.refl _ _⟩
   case round =>
    obtain ⟨kk, m, rfl, rfl, hk1, hkb, hm, hbi⟩ := hrel
    have HBI := hide hbi
    by_cases hlt : kk ≤ b
    ·have g1 : decide ((kk : Int) ≤ (b : Int)) = true := decide_eq_true (by omega)
     have hwk : IntKind.i64.wrap ((kk : Int) + 1) = (kk : Int) + 1 := by rw [IntKind.wrap_i64]; omega
     obtain ⟨io, hio⟩ : ∃ io, io = no - kk := ⟨_, rfl⟩
     obtain ⟨ip, hip⟩ : ∃ ip, ip = nn - kk := ⟨_, rfl⟩
     have u1 : IntKind.i64.wrap ((no : Int) - (kk : Int)) = (io : Int) := by rw [IntKind.wrap_i64]; omega
     have u2 : IntKind.i64.wrap ((nn : Int) - (kk : Int)) = (ip : Int) := by rw [IntKind.wrap_i64]; omega
     have l1 : io < no := by omega
     have l2 : ip < nn := by omega
     obtain ⟨x, hx⟩ : ∃ x, eo1[io]? = some x := ⟨_, List.getElem?_eq_getElem (by rw [← HNO.out]; exact l1)⟩
     obtain ⟨y, hy⟩ : ∃ y, en[ip]? = some y := ⟨_, List.getElem?_eq_getElem (by rw [← HNN.out]; exact l2)⟩
     obtain ⟨ga, hga, cx⟩ := (HRO7.out.below hbi).at hx
     obtain ⟨gb, hgb, cy⟩ := (HRN.out.below hbi).at hy
     subst hga
     subst hgb
     have gx : Good kd.G x.1 := by
      have : x.1 ∈ t.ls.map LE.st := by rw [← HMO.out]; exact List.mem_map_of_mem (List.mem_of_getElem? hx)
      obtain ⟨z, hz, hz2⟩ := List.mem_map.1 this
      rw [← hz2]
      exact HG1.out.1 z hz
     have gy : Good kd.G y.1 := by
      have : y.1 ∈ t4.ls.map LE.st := by rw [← HMN.out]; exact List.mem_map_of_mem (List.mem_of_getElem? hy)
      obtain ⟨z, hz, hz2⟩ := List.mem_map.1 this
      rw [← hz2]
      exact HG2.out.1 z hz
     have hdec : decide (nmsOf kd.G x.1 = nmsOf kd.G y.1) = decide (x.1 = y.1) := by
      by_cases hq : x.1 = y.1
      ·rw [decide_eq_true hq, decide_eq_true (by rw [hq])]
      ·rw [decide_eq_false hq, decide_eq_false (fun e => hq (nms_inj HK3.out.1.code gx.2 gy.2 e))]
     have hst : moreN (eo1.map (·.1)) (en.map (·.1)) kk = moreN (eo1.map (·.1)) (en.map (·.1)) (kk - 1) + (if x.1 = y.1 then 0 else 1) := by
      have h := moreN_succ (eo1.map (·.1)) (en.map (·.1)) (kk - 1)
      have h1 := HNO.out
      have h2 := HNN.out
      rw [show kk - 1 + 1 = kk by omega, List.length_map, List.length_map, ← h1, ← h2, ← hio, ← hip, List.getElem?_map, List.getElem?_map, hx, hy] at h
      simpa using h
     have HSM := hide (fun W' (hb : Below wr.heap.size wr W') => sameNames2_any x.2 y.2 _ _ (nmsOf kd.G x.1) (nmsOf kd.G y.1) W' (((HRO7.out.below HBI.out).below hb).each x (List.mem_of_getElem? hx)) (((HRN.out.below HBI.out).below hb).each y (List.mem_of_getElem? hy)) (by have := gx.1.2; simp [nmsOf]; omega))
     rw [hdec] at HSM
     have hwn : IntKind.i64.wrap ((m : Int) + 1) = (m : Int) + 1 := by
      have hmz := moreN_le (eo1.map (·.1)) (en.map (·.1)) (kk - 1)
      rw [IntKind.wrap_i64]; omega
     have HM := hide hm
     have HSS := hide hst
     obtain ⟨sx, hsx⟩ : ∃ sx, sx = decide (x.1 = y.1) := ⟨_, rfl⟩
     have HSX := hide hsx
     rw [← hsx] at HSM
     clear hio hip hx hy hbi hm hst hsx hdec gx gy
     go_wp2_with fail
     go_region_held3 (fun w' => w'.cell? ⟨ga, io, none⟩ = some x.2 ∧ w'.cell? ⟨gb, ip, none⟩ = some y.2)
      (first
       | with_reducible exact k1
       | with_reducible exact k2
       | go_keep)
      (first | (go_at_call 32; refine (HSM.out _ (Below.refl _ _).drew).mono ?_; clear HSM; rintro e W3 ⟨rfl, hb3⟩; have k1 := cell_below (w := wr.drew) cx hb3; have k2 := cell_below (w := wr.drew) cy hb3; have HB3 := hide hb3; clear hb3))
     all_goals
      have HB := hide (show Below w7.heap.size w7 W3 from HBI.out.trans ((show Below wr.heap.size wr W3 from ⟨HB3.out.os, HB3.out.tape, HB3.out.output, HB3.out.size, HB3.out.block⟩).mono HBI.out.size))
      cases sx with
      | true =>
       have HST := hide (show m = c0 + moreN (eo1.map (·.1)) (en.map (·.1)) (kk + 1 - 1) from by
        have hst := HSS.out
        have hm := HM.out
        rw [if_pos (of_decide_eq_true HSX.out.symm)] at hst
        rw [Nat.add_sub_cancel]; omega)
       go_wp2_with fail
       go_roundg (b - kk)
       case measure => omega
       case rel => exact ⟨kk + 1, m, by simp, by simp, by omega, by omega, HST.out, HB.out⟩
      | false =>
       have HST := hide (show m + 1 = c0 + moreN (eo1.map (·.1)) (en.map (·.1)) (kk + 1 - 1) from by
        have hst := HSS.out
        have hm := HM.out
        rw [if_neg (of_decide_eq_false HSX.out.symm)] at hst
        rw [Nat.add_sub_cancel]; omega)
       go_wp2_with fail
       go_roundg (b - kk)
       case measure => omega
       case rel => exact ⟨kk + 1, m + 1, by simp, by simp, by omega, by omega, HST.out, HB.out⟩
    ·have g1 : decide ((kk : Int) ≤ (b : Int)) = false := decide_eq_false (by omega)
     have hkk : kk - 1 = b := by omega
     have hdm : dn ≤ m := by
      have := HDM.out
      rw [hkk] at hm
      omega
     have g7 : decide ((dn : Int) < 0) = false := decide_eq_false (by omega)
     have g8 : decide ((m : Int) < (dn : Int)) = false := decide_eq_false (by omega)
     have hb4i : Below w4.heap.size w4 wr := HB7.out.trans (hbi.mono HB7.out.size)
     have hkti := HK4.out.2.below hb4i
     have hwki := txWork_any hkti.sheet hkti.tx
     rw [HF4.out.2.1] at hwki
     have HWI := hide hwki
     have HNX := hide (show FrLoop w kd bX B (90 - (i + 3)) (.string s') (.int .i64 ((i : Int) + 3)) wr from by
      have hf := HF4.out
      exact ⟨i + 3, t4, by simp, by rw [hf.1], rfl, by omega, HK4.out.1.below hb4i, hkti, hf.2.1, hf.2.2.1, by rw [hf.1]; exact hs1, by omega, HBW4.out.trans (hb4i.mono HBW4.out.size)⟩)
     clear hm hbi hb4i hkti hwki hkk
     go_wp2_with fail
     refine HWI.out.mono ?_
     rintro e wq ⟨rfl, eq⟩
     subst wq
     go_wp2_with fail
     go_roundg (90 - (i + 3))
     case measure => omega
     case rel => exact HNX.out
  ·have HEND := hide hbr
   clear hki hkt hbr
   by_cases h1 : i < le
   ·have q1 : decide ((i : Int) < (le : Int)) = true := decide_eq_true (by omega)
    have q2 : decide ((i : Int) < 90) = false := decide_eq_false (by omega)
    have q1' : decide (i < le) = true := decide_eq_true h1
    have q2' : decide (i < 90) = false := decide_eq_false (by omega)
    have p2 : ¬ i < 90 := by omega
    clear hgo
    go_wp2_with fail
    go_ret
    exact ⟨rfl, HEND.out⟩
   ·have q1 : decide ((i : Int) < (le : Int)) = false := decide_eq_false (by omega)
    have q1' : decide (i < le) = false := decide_eq_false h1
    clear hgo
    go_wp2_with fail
    go_ret
    exact ⟨rfl, HEND.out⟩
end Go.Proofs.YtgncgdkpkkdaeaaGreatDoor
