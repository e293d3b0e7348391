/- Put together from C5, C6, C7, C8. -/
import Derived.Test.YtgncgdkpkkdaeaaGreatDoorQ6
/- A text beside the document's: whole. -/
namespace Go.Proofs.YtgncgdkpkkdaeaaGreatDoor
open Go.RowKit Tint Go.Maps Go.Shelf

def SWPost (w : World) (e : Ending) (w' : World) : Prop := e = .returned (.bool true) ∧ Below w.heap.size w w'

set_option maxRecDepth 20000 in
set_option maxHeartbeats 4000000 in
theorem whole_any (w : World) (d : SD) (each : Bool) (h : SideIs w d) : Calls Tryz.prog 13 #[.pointer (some ⟨d.bD, 0, none⟩), .bool each] w (SWPost w) := by
  have c0 : w.cell? ⟨d.bD, 0, none⟩ = some (.pointer (some ⟨d.bX, 0, none⟩)) := cell_at h.cell rfl
  have c2 : w.cell? ⟨d.bD, 2, none⟩ = some (.string d.text) := cell_at h.cell rfl
  have HR := hide (txRead_any h.sheet h.tx)
  have HL := hide (fun w' (hb : Below w.heap.size w w') => txLines_any (h.below hb).sheet (h.below hb).tx)
  obtain ⟨so, sc, hvo⟩ := row_slice h.orow
  obtain ⟨hl1, hl2, hl3⟩ := h.len
  have HS := hide h
  obtain ⟨nl, hnl⟩ : ∃ nl, nl = d.es.length := ⟨_, rfl⟩
  rw [hl1, ← hnl] at hl2 hl3 HL
  have c3 : w.cell? ⟨d.bD, 3, none⟩ = some (.slice so nl sc) := by rw [hnl, ← hvo]; exact cell_at h.cell rfl
  clear h hl1 hnl hvo
  go_enter Tryz.func13, Tryz.ntmps13
  go_wp2_with fail
  refine HR.out.mono ?_
  rintro e w1 ⟨rfl, h1⟩
  subst h1
  clear HR
  go_wp2_with fail
  go_region_held3 (fun w' => w'.cell? ⟨d.bD, 0, none⟩ = some (.pointer (some ⟨d.bX, 0, none⟩)) ∧ w'.cell? ⟨d.bD, 2, none⟩ = some (.string d.text) ∧ w'.cell? ⟨d.bD, 3, none⟩ = some (.slice so nl sc))
    (go_keep)
    (first | (go_at_call 23; refine (HL.out _ (Below.refl _ _).drew).mono ?_; clear HL; rintro e w2 ⟨rfl, h2⟩; subst h2))
  all_goals
    clear c0 c2
    obtain ⟨W0, hW0⟩ : ∃ W0, W0 = w1.drew := ⟨_, rfl⟩
    have hb0 : Below w1.heap.size w1 W0 := by rw [hW0]; exact (Below.refl _ _).drew
    rw [← hW0]
    clear hW0
    go_wp2_with fail
    go_loopg [6] nl (fun k' vi W => SKLoop w1 nl k' vi W)
    case atStart => exact ⟨0, rfl, by omega, hb0⟩
    case round =>
      obtain ⟨j, rfl, hjk, hbr⟩ := hrel
      have k3 := cell_below c3 hbr
      have HEND := hide (show SWPost w1 (.returned (.bool true)) wr from ⟨rfl, hbr⟩)
      by_cases hlt : j < nl
      · have e1 : decide ((j : Int) < (nl : Int)) = true := decide_eq_true (by omega)
        have hwr : IntKind.i64.wrap ((j : Int) + 1) = (j : Int) + 1 := by rw [IntKind.wrap_i64]; omega
        cases each with
        | false =>
          clear hbr
          go_wp2_with fail
          go_ret
          exact HEND.out
        | true =>
          have HLN := hide (sideLine_any wr d (j : Int) (HS.out.below hbr))
          have HBR := hide hbr
          clear hbr HEND
          go_wp2_with fail
          refine HLN.out.mono ?_
          rintro e w2 ⟨hb2, v, sps, rfl, -⟩
          have HB2 := hide (HBR.out.trans (hb2.mono HBR.out.size))
          have HST := hide (sideStack_any w2 d (j : Int) (HS.out.below HB2.out))
          clear HLN HBR hb2
          go_wp2_with fail
          refine HST.out.mono ?_
          rintro e w3 ⟨hb3, v3, nms, rfl, -⟩
          have HB3 := hide (HB2.out.trans (hb3.mono HB2.out.size))
          clear HST HB2 hb3
          go_wp2_with fail
          go_roundg (nl - (j + 1))
          case measure => omega
          case rel => exact ⟨j + 1, by simp, by omega, HB3.out⟩
      · have e1 : decide ((j : Int) < (nl : Int)) = false := decide_eq_false (by omega)
        clear hbr
        go_wp2_with fail
        go_ret
        exact HEND.out
end Go.Proofs.YtgncgdkpkkdaeaaGreatDoor

/- Both grammars loaded; a text opened beside the document's. -/
namespace Go.Proofs.YtgncgdkpkkdaeaaGreatDoor
open Go.RowKit Tint Go.Maps Go.Shelf

/-- A grammar of the program's beside the document's. -/
structure BD where
  bB : Nat
  P : Nat
  g : Nat
  n : Nat
  cap : Nat
  Pr : Nat
  gr : Nat
  nr : Nat
  cr : Nat
  Br : Nat
  N : Nat
  ss : List RSt
  G : List GS

structure BothIs (w : World) (b : BD) : Prop where
  cell : w.heap[b.bB]? = some (.cells #[.pointer (some ⟨b.P, 0, none⟩), .pointer (some ⟨b.Pr, 0, none⟩)] 86 (0, 0))
  top : w.heap[b.P]? = some (.cells #[.slice (some ⟨b.g, 0, none⟩) b.n b.cap] 38 (0, 0))
  gram : ∀ w', Below b.N w w' → GramIs w' b.g b.n b.cap b.G
  rg : ∀ w', Below b.N w w' → RG w' b.Br b.Pr b.gr b.nr b.cr b.ss
  hN : b.N ≤ w.heap.size
  same : SameG b.G b.ss
  ok : GOk b.G
  pos : 0 < b.G.length

theorem BothIs.below {w w' : World} {b : BD} (h : BothIs w b) (hb : Below w.heap.size w w') : BothIs w' b := by
  have key : ∀ (t : TypeId) (k : Nat) c, w.heap[k]? = some (.cells c t (0, 0)) → w'.heap[k]? = some (.cells c t (0, 0)) := fun t k c hh => (hb.block k (lt_of_get hh)).trans hh
  exact ⟨key _ _ _ h.cell, key _ _ _ h.top, fun w2 hb2 => h.gram w2 ((hb.mono h.hN).trans hb2), fun w2 hb2 => h.rg w2 ((hb.mono h.hN).trans hb2), Nat.le_trans h.hN hb.size, h.same, h.ok, h.pos⟩

def LoadedPost (w : World) (e : Ending) (w' : World) : Prop := Below w.heap.size w w' ∧ (e = .returned (.tuple #[.pointer none, .bool true]) ∨ ∃ b : BD, e = .returned (.tuple #[.pointer (some ⟨b.bB, 0, none⟩), .bool true]) ∧ BothIs w' b ∧ w.heap.size ≤ b.N ∧ b.N ≤ b.bB)

set_option maxRecDepth 20000 in
set_option maxHeartbeats 2000000 in
theorem loadedBoth_any (s : ByteArray) (w : World) (hm : Mx w) (hz : s.size ≤ maxLen) : Calls Tryz.prog 11 #[.string s] w (LoadedPost w) := by
  have HP := hide (progLoad_any s w hm)
  clear hm
  go_enter Tryz.func11, Tryz.ntmps11
  go_wp2_with fail
  refine HP.out.mono ?_
  rintro e w1 ⟨hb1, ⟨ec, a, hec, rfl, hli⟩ | ⟨P, B, ao, n, cap, ls, ss, rfl, hli, hB, hM, hP⟩⟩
  · have HR := hide (refLoad_any s w1 hz)
    have HB1 := hide hb1
    clear hb1 HP
    go_wp2_with fail
    refine HR.out.mono ?_
    rintro e w2 ⟨hb2, ⟨ec', a', hec', rfl, hli'⟩ | ⟨P', B', sv', ss', rfl, hli', -⟩⟩
    · obtain ⟨rfl, rfl, -⟩ := hli.det hli'
      have HEND := hide (show LoadedPost w (.returned (.tuple #[.pointer none, .bool true])) w2 from ⟨HB1.out.trans (hb2.mono HB1.out.size), .inl rfl⟩)
      have HN := hide (num_any ec w2)
      clear hb2 hli hli' hec hec' HB1 HR
      go_wp2_with fail
      refine HN.out.mono ?_
      rintro e w3 ⟨rfl, rfl⟩
      clear HN
      go_wp2_with fail
      exact bodyPost_ret (v := .tuple #[.pointer none, .bool true]) (by simp [results, Tryz.results11, go_sem, *]) rfl HEND.out
    · exact absurd (hli.det hli').1 hec
  · have HR := hide (refLoad_any s w1 hz)
    have HB1 := hide hb1
    have HLI := hide hli
    have HMD := hide hM
    have HPP := hide hP
    clear hb1 HP hB hM hP hli
    go_wp2_with fail
    refine HR.out.mono ?_
    rintro e w2 ⟨hb2, ⟨ec', a', hec', rfl, hli'⟩ | ⟨P', B', sv', ss', rfl, hli', hB', hG', hpl'⟩⟩
    · exact absurd (HLI.out.det hli').1.symm hec'
    · have HEND := hide (show LoadedPost w (.returned (.tuple #[.pointer (some ⟨w2.heap.size, 0, none⟩), .bool true])) (w2.alloc (.cells #[.pointer (some ⟨P, 0, none⟩), .pointer (some ⟨P', 0, none⟩)] 86)) from by
        obtain ⟨g, G, rfl, hpos, hgr, hok, hlg⟩ := made_gram HMD.out HLI.out
        obtain ⟨hsame, hfew, hsp⟩ := same_of HLI.out hli' hlg
        obtain ⟨ao', cap', rfl, hao⟩ := hG'.form
        obtain ⟨g', rfl⟩ := hao hsp
        have hb12 : Below w.heap.size w w2 := HB1.out.trans (hb2.mono HB1.out.size)
        have hb3 : Below w2.heap.size w2 (w2.alloc (.cells #[.pointer (some ⟨P, 0, none⟩), .pointer (some ⟨P', 0, none⟩)] 86)) := (Below.refl _ _).alloc (Nat.le_refl _) _
        refine ⟨hb12.alloc hb12.size _, .inr ⟨⟨w2.heap.size, P, g, n, cap, P', g', ss'.length, cap', B', w2.heap.size, ss', G⟩, rfl, ⟨heap_alloc_last _ _, (hb3.block _ (by have := lt_of_get HPP.out; have := hb2.size; show P < _; omega)).trans ((hb2.block _ (lt_of_get HPP.out)).trans HPP.out), fun w' hb => ?_, fun w' hb => ?_, by simp, hsame, hok, hpos⟩, hb12.size, Nat.le_refl _⟩⟩
        · exact hgr w' (hb2.trans ((hb3.trans hb).mono hb2.size))
        · exact RG.below ⟨hG', hpl', hfew⟩ (hb3.trans hb))
      have HN := hide (num_any 0 w2)
      clear hb2 HLI hli' HB1 HR HMD HPP hG' hpl'
      go_wp2_with fail
      refine HN.out.mono ?_
      rintro e w3 ⟨rfl, rfl⟩
      clear HN
      go_wp2_with fail
      exact bodyPost_ret (v := .tuple #[.pointer (some ⟨w3.heap.size, 0, none⟩), .bool true]) (by simp [results, Tryz.results11, go_sem, *]) rfl HEND.out
end Go.Proofs.YtgncgdkpkkdaeaaGreatDoor

/- A text opened beside the document's. -/
namespace Go.Proofs.YtgncgdkpkkdaeaaGreatDoor
open Go.RowKit Tint Go.Maps Go.Shelf

def OpenedPost (w : World) (b : BD) (text : ByteArray) (e : Ending) (w' : World) : Prop :=
  Below w.heap.size w w' ∧ (e = .returned (.tuple #[.pointer none, .bool true]) ∨ ∃ d : SD, e = .returned (.tuple #[.pointer (some ⟨d.bD, 0, none⟩), .bool true]) ∧ SideIs w' d ∧ d.N = b.N ∧ d.text = text ∧ w.heap.size ≤ d.B ∧ d.B ≤ d.bD ∧ d.B ≤ d.bX ∧ d.G = b.G)

/-- What has another type stays. -/
theorem off_typ {w w' : World} {bD : Nat} {c0 : Array Value} {t0 : TypeId} {f0 : Nat × Nat} (ho : Off (fun k => k = bD) w w') (hD : w.heap[bD]? = some (.cells c0 t0 f0)) {k : Nat} {c : Array Value} {t : TypeId} {fz : Nat × Nat} (hk : w.heap[k]? = some (.cells c t fz)) (ht : t ≠ t0) : w'.heap[k]? = some (.cells c t fz) := by
  refine ho.same hk fun e => ht ?_
  have e' : k = bD := e
  rw [e', hD] at hk
  simp only [Option.some.injEq, Obj.cells.injEq] at hk
  exact hk.2.1.symm

theorem SheetIs.offD {w w' : World} {bD : Nat} {c0 : Array Value} {f0 : Nat × Nat} {B bS g n cap : Nat} {text : ByteArray} {lv : Value} {ls : List LE} {work : Nat} (h : SheetIs w B bS g n cap text lv ls work) (ho : Off (fun k => k = bD) w w') (hD : w.heap[bD]? = some (.cells c0 89 f0)) : SheetIs w' B bS g n cap text lv ls work :=
  ⟨off_typ ho hD h.sh (by decide), h.lns.off ho (fun k hk => by rw [hk]; exact h.lns.other hD (fun c => ⟨by simp, by simp⟩)), h.base, h.size⟩

theorem SheetIs.below {w w' : World} {B bS g n cap : Nat} {text : ByteArray} {lv : Value} {ls : List LE} {work : Nat} (h : SheetIs w B bS g n cap text lv ls work) (hb : Below w.heap.size w w') : SheetIs w' B bS g n cap text lv ls work :=
  ⟨(hb.block _ (lt_of_get h.sh)).trans h.sh, h.lns.below hb, h.base, h.size⟩

theorem offD_row {w w' : World} {bD : Nat} {c0 : Array Value} {f0 : Nat × Nat} {B : Nat} {e : TypeId} {size : Nat} {v : Value} {n : Nat} {xs : List Value} (h : w.ownsRow B e size v n xs) (ho : Off (fun k => k = bD) w w') (hD : w.heap[bD]? = some (.cells c0 89 f0)) (he : e ≠ 89) : w'.ownsRow B e size v n xs := row_typ h fun _ _ hk => off_typ ho hD hk he

set_option maxRecDepth 20000 in
set_option maxHeartbeats 4000000 in
theorem opened_any (w : World) (b : BD) (text : ByteArray) (h : BothIs w b) (hT : Tab w) (hM : Mx w) (h0 : 1 < b.N) (hMN : 0 < b.N) :
    Calls Tryz.prog 12 #[.pointer (some ⟨b.bB, 0, none⟩), .string text] w (OpenedPost w b text) := by
  have c0 : w.cell? ⟨b.bB, 0, none⟩ = some (.pointer (some ⟨b.P, 0, none⟩)) := cell_at h.cell rfl
  have hgr := h.gram w (Below.refl _ _)
  have hn : 0 < b.n := by rw [hgr.len]; exact h.pos
  have HOP := hide (open_any b.N b.P b.g b.n b.cap b.G text w h.top hn h.ok h.pos hT h0 h.gram h.hN hM hMN)
  have HS := hide h
  clear h hT hM hgr
  go_enter Tryz.func12, Tryz.ntmps12
  go_wp2_with fail
  refine HOP.out.mono ?_
  rintro e w1 ⟨hb1, ⟨hz, rfl⟩ | ⟨hz, bX, bS, lv, ls, st, rfl, hx1, hbX, hs1, hr1⟩⟩
  · have g1 : decide ((3000 : Int) < (text.size : Int)) = true := decide_eq_true (by omega)
    have HEND := hide (show OpenedPost w b text (.returned (.tuple #[.pointer none, .bool true])) w1 from ⟨hb1, .inl rfl⟩)
    have HN := hide (num_any 1 w1)
    clear hb1 HOP c0
    go_wp2_with fail
    refine HN.out.mono ?_
    rintro e w2 ⟨rfl, h2⟩
    subst h2
    clear HN
    go_wp2_with fail
    go_ret2
    exact HEND.out
  · have g1 : decide ((3000 : Int) < (text.size : Int)) = false := decide_eq_false (by omega)
    have c1 : w1.cell? ⟨b.bB, 1, none⟩ = some (.pointer (some ⟨b.Pr, 0, none⟩)) := cell_at (HS.out.below hb1).cell rfl
    have HN := hide (num_any 0 w1)
    have HX := hide (And.intro hx1 (And.intro hs1 hr1))
    have HB1 := hide hb1
    clear hb1 hx1 hs1 hr1 HOP c0
    go_wp2_with fail
    refine HN.out.mono ?_
    rintro e w2 ⟨rfl, h2⟩
    subst h2
    clear HN
    obtain ⟨bD, hbD⟩ : ∃ bD, bD = w2.heap.size := ⟨_, rfl⟩
    obtain ⟨wa, hwa⟩ : ∃ wa, w2.alloc (.cells #[.pointer (some ⟨bX, 0, none⟩), .pointer (some ⟨b.Pr, 0, none⟩), .string text, .slice none 0 0, .slice none 0 0, .int .i64 0] 89) = wa := ⟨_, rfl⟩
    have hba : Below w2.heap.size w2 wa := by rw [← hwa]; exact (Below.refl _ _).alloc (Nat.le_refl _) _
    have hDa : wa.heap[bD]? = some (.cells #[.pointer (some ⟨bX, 0, none⟩), .pointer (some ⟨b.Pr, 0, none⟩), .string text, .slice none 0 0, .slice none 0 0, .int .i64 0] 89 (0, 0)) := by rw [← hwa]; exact heap_alloc_at _ _ _ hbD
    have hbwa : Below w.heap.size w wa := HB1.out.trans (hba.mono HB1.out.size)
    have c1a : wa.cell? ⟨b.bB, 1, none⟩ = some (.pointer (some ⟨b.Pr, 0, none⟩)) := cell_at (HS.out.below hbwa).cell rfl
    have HST := hide (refStacks_any b.Br b.Pr b.gr b.nr b.cr b.ss b.G text wa (HS.out.rg wa (hbwa.mono HS.out.hN)) HS.out.same HS.out.ok HS.out.pos hz)
    have HBA := hide hba
    have HBWA := hide hbwa
    have HDA := hide hDa
    clear hba hbwa hDa
    go_wp2_with fail
    rw [← hbD]
    refine HST.out.mono ?_
    rintro e w3 ⟨vo, vs, es, st3, rfl, ho3, hs3, he3, hr3, hb3⟩
    obtain ⟨oo, oc, hvo⟩ := row_slice ho3
    obtain ⟨so, sc, hvs⟩ := row_slice hs3
    subst hvo
    subst hvs
    obtain ⟨nl, hnl⟩ : ∃ nl, nl = es.length := ⟨_, rfl⟩
    rw [← hnl] at ho3 hs3 ⊢
    have HNL := hide hnl
    clear hnl
    have hD3 := (hb3.block _ (lt_of_get HDA.out)).trans HDA.out
    have z3 : w3.cell? ⟨bD, 3, none⟩ = some (.slice none 0 0) := cell_at hD3 rfl
    have z3f : w3.frozen? ⟨bD, 3, none⟩ = false := by simp [World.frozen?, hD3]
    obtain ⟨w4, hw4⟩ : ∃ w4, w3.setCell ⟨bD, 3, none⟩ (.slice oo nl oc) = w4 := ⟨_, rfl⟩
    have hD4 : w4.heap[bD]? = some (.cells #[.pointer (some ⟨bX, 0, none⟩), .pointer (some ⟨b.Pr, 0, none⟩), .string text, .slice oo nl oc, .slice none 0 0, .int .i64 0] 89 (0, 0)) := by rw [← hw4]; simpa using heap_setCell_same w3 bD 3 (.slice oo nl oc) hD3
    have o4 : Off (fun k => k = bD) w3 w4 := by rw [← hw4]; exact Off.setCell (Y := fun k => k = bD) (p := ⟨bD, 3, none⟩) rfl hD3 (by decide) _
    have z4 : w4.cell? ⟨bD, 4, none⟩ = some (.slice none 0 0) := cell_at hD4 rfl
    have z4f : w4.frozen? ⟨bD, 4, none⟩ = false := by simp [World.frozen?, hD4]
    obtain ⟨w5, hw5⟩ : ∃ w5, w4.setCell ⟨bD, 4, none⟩ (.slice so nl sc) = w5 := ⟨_, rfl⟩
    have hD5 : w5.heap[bD]? = some (.cells #[.pointer (some ⟨bX, 0, none⟩), .pointer (some ⟨b.Pr, 0, none⟩), .string text, .slice oo nl oc, .slice so nl sc, .int .i64 0] 89 (0, 0)) := by rw [← hw5]; simpa using heap_setCell_same w4 bD 4 (.slice so nl sc) hD4
    have o5 : Off (fun k => k = bD) w3 w5 := o4.trans (by rw [← hw5]; exact Off.setCell (Y := fun k => k = bD) (p := ⟨bD, 4, none⟩) rfl hD4 (by decide) _)
    have z5 : w5.cell? ⟨bD, 5, none⟩ = some (.int .i64 0) := cell_at hD5 rfl
    have z5f : w5.frozen? ⟨bD, 5, none⟩ = false := by simp [World.frozen?, hD5]
    obtain ⟨w6, hw6⟩ : ∃ w6, w5.setCell ⟨bD, 5, none⟩ (.int .i64 nl) = w6 := ⟨_, rfl⟩
    have hD6 : w6.heap[bD]? = some (.cells #[.pointer (some ⟨bX, 0, none⟩), .pointer (some ⟨b.Pr, 0, none⟩), .string text, .slice oo nl oc, .slice so nl sc, .int .i64 nl] 89 (0, 0)) := by rw [← hw6]; simpa using heap_setCell_same w5 bD 5 (.int .i64 nl) hD5
    have o6 : Off (fun k => k = bD) w3 w6 := o5.trans (by rw [← hw6]; exact Off.setCell (Y := fun k => k = bD) (p := ⟨bD, 5, none⟩) rfl hD5 (by decide) _)
    have z63 : w6.cell? ⟨bD, 3, none⟩ = some (.slice oo nl oc) := cell_at hD6 rfl
    have z65 : w6.cell? ⟨bD, 5, none⟩ = some (.int .i64 nl) := cell_at hD6 rfl
    have hb23 : Below w2.heap.size w2 w3 := HBA.out.trans (hb3.mono HBA.out.size)
    have hll : ls.length = nl := by
      have h := congrArg List.length (HX.out.2.2.det hr3).1
      simp only [List.length_map] at h
      rw [h, HNL.out]
    have hs30 := HX.out.2.1.below hb23
    rw [hll] at hs30
    have hx30 := (hb23.block _ (lt_of_get HX.out.1)).trans HX.out.1
    have HWK := hide (txWork_any (hs30.offD o5 hD3) (off_typ o5 hD3 hx30 (by decide)))
    have HEND := hide (fun m => show OpenedPost w b text (.returned (.tuple #[.pointer (some ⟨bD, 0, none⟩), .bool true])) (w6.drewN m) from by
      have hbD' : w.heap.size ≤ bD := by rw [hbD]; exact HB1.out.size
      have hbw3 : Below w.heap.size w w3 := HB1.out.trans (hb23.mono HB1.out.size)
      have hbw6 : Below w.heap.size w w6 := ⟨o6.os.trans hbw3.os, o6.tape.trans hbw3.tape, o6.output.trans hbw3.output, Nat.le_trans hbw3.size o6.size, fun k hk => (o6.keep k ⟨Nat.lt_of_lt_of_le hk hbw3.size, by omega⟩).trans (hbw3.block k hk)⟩
      refine ⟨Below.drewN' hbw6 m, .inr ⟨⟨bD, bX, bS, b.g, b.n, b.cap, b.Pr, b.gr, b.nr, b.cr, b.Br, w.heap.size, b.N, text, lv, .slice oo nl oc, .slice so nl sc, ls, es, nl, b.ss, b.G⟩, rfl, SideIs.drew ?_ m, rfl, rfl, Nat.le_refl _, hbD', hbX, rfl⟩⟩
      refine ⟨hD6, off_typ o6 hD3 hx30 (by decide), hs30.offD o6 hD3, ?_, ?_, fun e he => ⟨(he3 e he).1.keep fun c fz hh => off_typ o6 hD3 hh (by decide), ?_, (he3 e he).2.2⟩, ⟨st, HX.out.2.2⟩, ⟨st3, hr3⟩, fun w' hb => HS.out.gram w' ((hbw6.mono HS.out.hN).trans hb), fun w' hb => HS.out.rg w' ((hbw6.mono HS.out.hN).trans hb), Nat.le_trans HS.out.hN hbw6.size, HS.out.same, HS.out.ok, HS.out.pos⟩
      · have h := offD_row (row_base ho3 HBWA.out.size) o6 hD3 (by decide)
        show w6.ownsRow _ _ _ _ es.length _
        rw [← HNL.out]
        exact h
      · have h := offD_row (row_base hs3 HBWA.out.size) o6 hD3 (by decide)
        show w6.ownsRow _ _ _ _ es.length _
        rw [← HNL.out]
        exact h
      · exact offD_row (row_base (he3 e he).2.1 HBWA.out.size) o6 hD3 (by decide))
    clear hD3 hD4 hD5 hD6 o4 o5 o6 hb23 hll hs30 hx30 ho3 hs3 he3 hr3 hb3 HX HST HDA HBA HBWA HB1 hbD c1 c1a hwa
    go_wp2_with fail
    refine HWK.out.mono ?_
    rintro e w7 ⟨rfl, h7⟩
    subst h7
    clear HWK
    go_wp2_with fail
    go_quiet (fail)
    go_wp2_with fail
    go_ret2
    exact HEND.out _
end Go.Proofs.YtgncgdkpkkdaeaaGreatDoor

/- Colours: walked whole. -/
namespace Go.Proofs.YtgncgdkpkkdaeaaGreatDoor
open Go.RowKit Tint Go.Maps Go.Shelf

theorem Tab.below {w w' : World} (h : Tab w) (hb : Below w.heap.size w w') : Tab w' := h.keep (hb.block _ (cell_lt (h 0 (by decide))))

set_option maxRecDepth 20000 in
set_option maxHeartbeats 2000000 in
theorem colours_walk (s text : ByteArray) (w : World) (hT : Tab w) (hm : Mx w) (hz : s.size ≤ maxLen) : Calls Tryz.prog 3 #[.string s, .string text] w fun e w' => e = .returned (.bool true) ∧ Below w.heap.size w w' := by
  have t0 : 1 < w.heap.size := cell_lt (hT 0 (by decide))
  have m0 : 0 < w.heap.size := by obtain ⟨m, h⟩ := hm; exact cell_lt h
  have HL := hide (loadedBoth_any s w hm hz)
  have HK := hide (And.intro hT hm)
  clear hT hm
  go_enter Tryz.func3, Tryz.ntmps3
  go_wp2_with fail
  refine HL.out.mono ?_
  rintro e w1 ⟨hb1, rfl | ⟨b, rfl, hB, hN, -⟩⟩
  · have HEND := hide hb1
    clear hb1 HL
    go_wp2_with fail
    go_ret
    exact ⟨rfl, HEND.out⟩
  · have HO := hide (opened_any w1 b text hB (HK.out.1.below hb1) (HK.out.2.below hb1) (Nat.lt_of_lt_of_le t0 hN) (Nat.lt_of_lt_of_le m0 hN))
    have HB1 := hide hb1
    clear hb1 hB HL hN t0 m0
    go_wp2_with fail
    refine HO.out.mono ?_
    rintro e w2 ⟨hb2, rfl | ⟨d, rfl, hS, -⟩⟩
    · have HEND := hide (HB1.out.trans (hb2.mono HB1.out.size))
      clear hb2 HO
      go_wp2_with fail
      go_ret
      exact ⟨rfl, HEND.out⟩
    · have HB2 := hide (HB1.out.trans (hb2.mono HB1.out.size))
      have HW := hide (whole_any w2 d true hS)
      clear hb2 hS HO HB1
      go_wp2_with fail
      refine HW.out.mono ?_
      rintro e w3 ⟨rfl, hb3⟩
      have HEND := hide (HB2.out.trans (hb3.mono HB2.out.size))
      clear hb3 HW HB2
      go_wp2_with fail
      go_ret
      exact ⟨rfl, HEND.out⟩
end Go.Proofs.YtgncgdkpkkdaeaaGreatDoor
