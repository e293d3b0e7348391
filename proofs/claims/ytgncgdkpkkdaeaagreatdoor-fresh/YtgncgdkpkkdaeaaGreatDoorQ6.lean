/- Put together from C2, C3, C4. -/
import Derived.Test.YtgncgdkpkkdaeaaGreatDoorQ5
/- A text beside the document's: still, line. -/
namespace Go.Proofs.YtgncgdkpkkdaeaaGreatDoor
open Go.RowKit Tint Go.Maps Go.Shelf

theorem num_any (n : Nat) (w : World) : Calls Tryz.prog 17 #[.int .i64 n] w fun e w' => e = .returned (.int .i64 n) ∧ w' = w := by
  go_enter Tryz.func17, Tryz.ntmps17
  go_wp2_with fail
  go_ret
  exact ⟨rfl, rfl⟩

/-- A text of the program's beside what the document says of it: where all lies. -/
structure SD where
  bD : Nat
  bX : Nat
  bS : Nat
  g : Nat
  n : Nat
  cap : Nat
  P : Nat
  gr : Nat
  nr : Nat
  cr : Nat
  Br : Nat
  B : Nat
  N : Nat
  text : ByteArray
  lv : Value
  vo : Value
  vs : Value
  ls : List LE
  es : List RE
  work : Nat
  ss : List RSt
  G : List GS

structure SideIs (w : World) (d : SD) : Prop where
  cell : w.heap[d.bD]? = some (.cells #[.pointer (some ⟨d.bX, 0, none⟩), .pointer (some ⟨d.P, 0, none⟩), .string d.text, d.vo, d.vs, .int .i64 d.work] 89 (0, 0))
  tx : w.heap[d.bX]? = some (.cells #[.pointer (some ⟨d.bS, 0, none⟩)] 46 (0, 0))
  sheet : SheetIs w d.B d.bS d.g d.n d.cap d.text d.lv d.ls d.work
  orow : w.ownsRow d.B 57 1 d.vo d.es.length (d.es.map RE.ov)
  srow : w.ownsRow d.B 64 1 d.vs d.es.length (d.es.map RE.lv)
  each : ∀ e ∈ d.es, IntsAt w e.sb e.st ∧ SpRow w d.B e.lv e.sps ∧ e.st.length ≤ e.scp
  runs : ∃ st, Runs d.G [0] (splitL d.text.data.toList) (d.ls.map LE.pr) st
  runr : ∃ st, Runs d.G [0] (splitL d.text.data.toList) (d.es.map fun e => (e.st, e.sps)) st
  gram : ∀ w', Below d.N w w' → GramIs w' d.g d.n d.cap d.G
  rg : ∀ w', Below d.N w w' → RG w' d.Br d.P d.gr d.nr d.cr d.ss
  hN : d.N ≤ w.heap.size
  same : SameG d.G d.ss
  ok : GOk d.G
  pos : 0 < d.G.length

theorem SideIs.below {w w' : World} {d : SD} (h : SideIs w d) (hb : Below w.heap.size w w') : SideIs w' d := by
  have key : ∀ (t : TypeId) (k : Nat) c, w.heap[k]? = some (.cells c t (0, 0)) → w'.heap[k]? = some (.cells c t (0, 0)) := fun t k c hh => (hb.block k (lt_of_get hh)).trans hh
  exact ⟨key _ _ _ h.cell, key _ _ _ h.tx, ⟨key _ _ _ h.sheet.sh, h.sheet.lns.below hb, h.sheet.base, h.sheet.size⟩, row_typ h.orow (key _), row_typ h.srow (key _), fun e he => ⟨(h.each e he).1.below hb, row_typ (h.each e he).2.1 (key _), (h.each e he).2.2⟩, h.runs, h.runr,
    fun w2 hb2 => h.gram w2 ((hb.mono h.hN).trans hb2), fun w2 hb2 => h.rg w2 ((hb.mono h.hN).trans hb2), Nat.le_trans h.hN hb.size, h.same, h.ok, h.pos⟩

theorem SideIs.drew {w : World} {d : SD} (h : SideIs w d) (n : Nat) : SideIs (w.drewN n) d := h.below (Below.drewN' (Below.refl _ _) n)

/-- Both sides say one thing. -/
theorem SideIs.agree {w : World} {d : SD} (h : SideIs w d) : d.ls.map LE.pr = d.es.map fun e => (e.st, e.sps) := by
  obtain ⟨_, h1⟩ := h.runs
  obtain ⟨_, h2⟩ := h.runr
  exact (h1.det h2).1

theorem SideIs.len {w : World} {d : SD} (h : SideIs w d) : d.ls.length = d.es.length ∧ d.ls.length ≤ 3001 ∧ 0 < d.ls.length := by
  have h1 := congrArg List.length h.agree
  obtain ⟨_, h2⟩ := h.runs
  have h3 := h2.length
  simp only [List.length_map] at h1 h3
  have h4 := List.count_le_length (a := (10 : UInt8)) (l := d.text.data.toList)
  rw [text_length] at h4
  have := h.sheet.size
  rw [splitL_length] at h3
  omega

theorem SideIs.at {w : World} {d : SD} (h : SideIs w d) {i : Nat} {x : LE} {e : RE} (hx : d.ls[i]? = some x) (he : d.es[i]? = some e) : x.st = e.st ∧ x.sps = e.sps := by
  have h1 := congrArg (·[i]?) h.agree
  simp only [List.getElem?_map, hx, he, Option.map_some, Option.some.injEq, LE.pr, Prod.mk.injEq] at h1
  exact h1

theorem Runs.good {G : List GS} (hok : GOk G) {st : List Nat} {ls : List (List UInt8)} {out : List (List Nat × List Sp)} {st' : List Nat} (h : Runs G st ls out st') (hg : Good G st) : ∀ y ∈ out, Good G y.1 := by
  induction h with
  | nil => intro y hy; simp at hy
  | cons ht _ ih =>
    intro y hy
    rcases List.mem_cons.1 hy with rfl | hy
    · exact hg
    · exact ih (ht.good hok hg) y hy

theorem SideIs.good {w : World} {d : SD} (h : SideIs w d) : (∀ x ∈ d.ls, Good d.G x.st) ∧ ∀ x ∈ d.ls, x.sps.length ≤ 7000 := by
  obtain ⟨_, h2⟩ := h.runs
  have hg : Good d.G [0] := ⟨⟨by simp, by simp⟩, fun x hx => by rw [List.mem_singleton.1 hx]; exact h.pos⟩
  refine ⟨fun x hx => h2.good h.ok hg x.pr (List.mem_map_of_mem hx), fun x hx => h2.short h.ok (fun l hl => ?_) x.pr (List.mem_map_of_mem hx)⟩
  have := splitL_short hl
  rw [text_length] at this
  have := h.sheet.size
  omega

theorem still_any (w : World) (d : SD) (h : SideIs w d) : Calls Tryz.prog 65 #[.pointer (some ⟨d.bD, 0, none⟩)] w fun e w' => e = .returned (.bool true) ∧ Below w.heap.size w w' := by
  have c0 : w.cell? ⟨d.bD, 0, none⟩ = some (.pointer (some ⟨d.bX, 0, none⟩)) := cell_at h.cell rfl
  have c5 : w.cell? ⟨d.bD, 5, none⟩ = some (.int .i64 d.work) := cell_at h.cell rfl
  have h' := h.below (Below.refl _ _).drew
  have HW := hide (txWork_any h'.sheet h'.tx)
  clear h h'
  go_enter Tryz.func65, Tryz.ntmps65
  go_wp2_with fail
  go_region_held3 (fun w' => w'.cell? ⟨d.bD, 0, none⟩ = some (.pointer (some ⟨d.bX, 0, none⟩)) ∧ w'.cell? ⟨d.bD, 5, none⟩ = some (.int .i64 d.work))
    (go_keep)
    (first | (go_at_call 31; refine HW.out.mono ?_; clear HW; rintro e w1 ⟨rfl, h1⟩; subst h1))
  all_goals
    go_wp2_with fail
    go_ret
    exact ⟨rfl, (Below.refl _ _).drew⟩
end Go.Proofs.YtgncgdkpkkdaeaaGreatDoor

/- A text beside the document's: line. -/
namespace Go.Proofs.YtgncgdkpkkdaeaaGreatDoor
open Go.RowKit Tint Go.Maps Go.Shelf

def SLPost (w : World) (e : Ending) (w' : World) : Prop := Below w.heap.size w w' ∧ ∃ v sps, e = .returned (.tuple #[v, .bool true]) ∧ SpRow w' w.heap.size v sps

def SLLoop (w : World) (n k : Nat) (vi : Value) (W : World) : Prop := ∃ j : Nat, vi = .int .i64 j ∧ j + k = n ∧ Below w.heap.size w W

set_option maxRecDepth 20000 in
set_option maxHeartbeats 4000000 in
theorem sideLine_any (w : World) (d : SD) (i : Int) (h : SideIs w d) : Calls Tryz.prog 36 #[.pointer (some ⟨d.bD, 0, none⟩), .int .i64 i] w (SLPost w) := by
  have c0 : w.cell? ⟨d.bD, 0, none⟩ = some (.pointer (some ⟨d.bX, 0, none⟩)) := cell_at h.cell rfl
  have HL := hide (txLine_any i h.good.2 h.sheet h.tx)
  obtain ⟨so, sc, hvs⟩ := row_slice h.srow
  obtain ⟨hl1, hl2, hl3⟩ := h.len
  have HS := hide h
  have HVS := hide hvs
  obtain ⟨nl, hnl⟩ : ∃ nl, nl = d.es.length := ⟨_, rfl⟩
  rw [hl1, ← hnl] at hl2 hl3
  clear h
  go_enter Tryz.func36, Tryz.ntmps36
  go_wp2_with fail
  refine HL.out.mono ?_
  rintro e w1 ⟨hb1, ⟨hout, rfl⟩ | ⟨k, x, v, rfl, hx, rfl, hsp⟩⟩
  · have c4 : w1.cell? ⟨d.bD, 4, none⟩ = some (.slice so nl sc) := by rw [hnl, ← hvs]; exact cell_at (HS.out.below hb1).cell rfl
    have HN := hide (num_any 8 w1)
    have HEND := hide (show SLPost w (.returned (.tuple #[.slice none 0 0, .bool true])) w1 from ⟨hb1, _, [], rfl, World.ownsRow_nil _ _ _ _⟩)
    rw [hl1, ← hnl] at hout
    clear HL HS HVS hvs hnl hl1 hb1
    by_cases hneg : i < 0
    · have g1 : decide (i < 0) = true := decide_eq_true hneg
      go_wp2_with fail
      refine HN.out.mono ?_
      rintro e w2 ⟨rfl, rfl⟩
      go_wp2_with fail
      go_ret2
      exact HEND.out
    · have g1 : decide (i < 0) = false := decide_eq_false hneg
      have g2 : decide ((nl : Int) ≤ i) = true := decide_eq_true (by omega)
      go_wp2_with fail
      refine HN.out.mono ?_
      rintro e w2 ⟨rfl, rfl⟩
      go_wp2_with fail
      go_ret2
      exact HEND.out
  · have hS1 := HS.out.below hb1
    have c4 : w1.cell? ⟨d.bD, 4, none⟩ = some (.slice so nl sc) := by rw [hnl, ← hvs]; exact cell_at hS1.cell rfl
    have hk : k < nl := by rw [hnl, ← hl1]; exact get_lt hx
    have g1 : decide ((k : Int) < 0) = false := decide_eq_false (by omega)
    have g2 : decide ((nl : Int) ≤ (k : Int)) = false := decide_eq_false (by omega)
    obtain ⟨y, hy⟩ : ∃ y, d.es[k]? = some y := ⟨_, List.getElem?_eq_getElem (by rw [← hnl]; exact hk)⟩
    obtain ⟨-, hsps⟩ := hS1.at hx hy
    have hsr := hS1.srow
    rw [hvs] at hsr
    obtain ⟨sg, sc', hso⟩ := own_form hsr (by rw [← hnl]; omega)
    cases hso
    have cl : w1.cell? ⟨sg, k, none⟩ = some y.lv := (row_cell hsr (j := k) (by rw [List.getElem?_map, hy]; rfl)).1
    have hyr := (hS1.each y (List.mem_of_getElem? hy)).2.1
    obtain ⟨yo, yc, hyv⟩ := row_slice hyr
    rw [hsps] at hsp
    obtain ⟨vo, vc, hv⟩ := row_slice hsp
    subst hv
    obtain ⟨sps, hspd⟩ : ∃ sps, sps = y.sps := ⟨_, rfl⟩
    rw [← hspd] at hsp hyr hyv ⊢
    rw [hyv] at cl hyr
    have hsl : sps.length ≤ 7000 := by rw [hspd, ← hsps]; exact hS1.good.2 x (List.mem_of_getElem? hx)
    have HN := hide (num_any 0 w1)
    have HB1 := hide hb1
    have HS1 := hide hS1
    have HSP := hide hsp
    have HYR := hide hyr
    clear HL HS HVS hvs hnl hl1 hb1 hS1 hsr hyr hsp hyv hsps hspd hx hy
    go_wp2_with fail
    refine HN.out.mono ?_
    rintro e w2 ⟨rfl, h2⟩
    subst h2
    clear HN
    go_wp2_with fail
    go_loopg [8] sps.length (fun k' vi W => SLLoop w2 sps.length k' vi W)
    case atStart => exact ⟨0, rfl, by omega, Below.refl _ _⟩
    case round =>
      obtain ⟨j, rfl, hjk, hbr⟩ := hrel
      by_cases hlt : j < sps.length
      · have e1 : decide ((j : Int) < (sps.length : Int)) = true := decide_eq_true (by omega)
        have hwr : IntKind.i64.wrap ((j : Int) + 1) = (j : Int) + 1 := by rw [IntKind.wrap_i64]; omega
        obtain ⟨z, hz⟩ : ∃ z, sps[j]? = some z := ⟨_, List.getElem?_eq_getElem hlt⟩
        obtain ⟨lb, hlb, _, hlc⟩ := HSP.out.cells hz
        obtain ⟨yb, hyb, _, hyc⟩ := HYR.out.cells hz
        subst hlb hyb
        have d4 := cell_below c4 hbr
        have dl := cell_below cl hbr
        have y0 := cell_below (hyc 0 (.int .i64 z.fr) rfl) hbr
        have y1 := cell_below (hyc 1 (.int .i64 z.to) rfl) hbr
        have y2 := cell_below (hyc 2 (.string z.nm) rfl) hbr
        have y3 := cell_below (hyc 3 (.int .i64 z.dep) rfl) hbr
        have y4 := cell_below (hyc 4 (.string z.co) rfl) hbr
        rw [Nat.add_zero] at y0
        obtain ⟨w6, hw6⟩ : ∃ w6, wr.alloc (.cells #[.int .i64 z.fr, .int .i64 z.to, .string z.nm, .int .i64 z.dep, .string z.co] 70) = w6 := ⟨_, rfl⟩
        have hq6 : w6.heap[wr.heap.size]? = some (.cells #[.int .i64 z.fr, .int .i64 z.to, .string z.nm, .int .i64 z.dep, .string z.co] 70 (0, 0)) := by rw [← hw6]; exact heap_alloc_last _ _
        have hb6 : Below w2.heap.size w2 w6 := by rw [← hw6]; exact hbr.alloc hbr.size _
        have l0 := cell_below (hlc 0 (.int .i64 z.fr) rfl) hb6
        have l1 := cell_below (hlc 1 (.int .i64 z.to) rfl) hb6
        have l2 := cell_below (hlc 2 (.string z.nm) rfl) hb6
        have l3 := cell_below (hlc 3 (.int .i64 z.dep) rfl) hb6
        have l4 := cell_below (hlc 4 (.string z.co) rfl) hb6
        rw [Nat.add_zero] at l0
        have x0 : w6.cell? ⟨wr.heap.size, 0, none⟩ = some (.int .i64 z.fr) := cell_at hq6 rfl
        have x1 : w6.cell? ⟨wr.heap.size, 1, none⟩ = some (.int .i64 z.to) := cell_at hq6 rfl
        have x2 : w6.cell? ⟨wr.heap.size, 2, none⟩ = some (.string z.nm) := cell_at hq6 rfl
        have x3 : w6.cell? ⟨wr.heap.size, 3, none⟩ = some (.int .i64 z.dep) := cell_at hq6 rfl
        have x4 : w6.cell? ⟨wr.heap.size, 4, none⟩ = some (.string z.co) := cell_at hq6 rfl
        have HB6 := hide hb6
        clear hbr hb6 hq6 hlc hyc
        go_wp2_with (refine wpList_store_row rfl _ _ _ rfl _ #[.int .i64 z.fr, .int .i64 z.to, .string z.nm, .int .i64 z.dep, .string z.co] rfl rfl 70 _ (heap_alloc_at _ _ _ rfl) rfl rfl (by simp [Value.oneCell']) ?_; rw [alloc_setRow _ _ _ _ _ rfl])
        rw [hw6]
        obtain ⟨rb, hrb⟩ : ∃ rb, rb = wr.heap.size := ⟨_, rfl⟩
        rw [← hrb] at x0 x1 x2 x3 x4 ⊢
        clear hrb hw6 y0 y1 y2 y3 y4 d4 dl
        go_quiet (fail)
        go_wp2_with fail
        go_roundg (sps.length - (j + 1))
        case measure => omega
        case rel => exact ⟨j + 1, by simp, by omega, Below.drewN' HB6.out _⟩
      · have e1 : decide ((j : Int) < (sps.length : Int)) = false := decide_eq_false (by omega)
        have HST := hide (still_any wr d (HS1.out.below hbr))
        have HBR := hide hbr
        clear hbr
        go_wp2_with fail
        refine HST.out.mono ?_
        rintro e w3 ⟨rfl, hb3⟩
        have HEND := hide (show SLPost w (.returned (.tuple #[.slice vo sps.length vc, .bool true])) w3 from by
          have hb := HBR.out.trans (hb3.mono HBR.out.size)
          exact ⟨HB1.out.trans (hb.mono HB1.out.size), _, sps, rfl, row_keep HSP.out fun k hk => hb.block k (by obtain ⟨_, c, hc⟩ := row_type HSP.out hk; exact lt_of_get hc)⟩)
        clear HST HBR hb3
        go_wp2_with fail
        go_ret2
        exact HEND.out
end Go.Proofs.YtgncgdkpkkdaeaaGreatDoor

/- A text beside the document's: stack. -/
namespace Go.Proofs.YtgncgdkpkkdaeaaGreatDoor
open Go.RowKit Tint Go.Maps Go.Shelf

def SKPost (w : World) (e : Ending) (w' : World) : Prop := Below w.heap.size w w' ∧ ∃ v nms, e = .returned (.tuple #[v, .bool true]) ∧ NmRow w' w.heap.size v nms

def SKLoop (w : World) (n k : Nat) (vi : Value) (W : World) : Prop := ∃ j : Nat, vi = .int .i64 j ∧ j + k = n ∧ Below w.heap.size w W

theorem nmsOf_at {G : List GS} {st : List Nat} (hg : Good G st) : (nmsOf G st).length = st.length ∧ ∀ (j : Nat) x s, st[j]? = some x → G[x]? = some s → (nmsOf G st)[j]? = some s.nm := by
  have hall := hg.2
  clear hg
  induction st with
  | nil => exact ⟨rfl, fun j x s h => by simp at h⟩
  | cons a t ih =>
    obtain ⟨i1, i2⟩ := ih (fun x hx => hall x (List.mem_cons_of_mem _ hx))
    have ha := hall a List.mem_cons_self
    have e : nmsOf G (a :: t) = G[a].nm :: nmsOf G t := by
      unfold nmsOf
      simp [List.getElem?_eq_getElem ha]
    rw [e]
    refine ⟨by simp [i1], fun j x s hj hs => ?_⟩
    cases j with
    | zero =>
      simp at hj
      subst hj
      rw [List.getElem?_eq_getElem ha] at hs
      simp at hs
      simp [hs]
    | succ j => simpa using i2 j x s (by simpa using hj) hs

set_option maxRecDepth 20000 in
set_option maxHeartbeats 4000000 in
theorem sideStack_any (w : World) (d : SD) (i : Int) (h : SideIs w d) : Calls Tryz.prog 37 #[.pointer (some ⟨d.bD, 0, none⟩), .int .i64 i] w (SKPost w) := by
  have c0 : w.cell? ⟨d.bD, 0, none⟩ = some (.pointer (some ⟨d.bX, 0, none⟩)) := cell_at h.cell rfl
  have HL := hide (txStack_any i d.G h.good.1 (h.gram w (Below.refl _ _)) h.sheet h.tx)
  obtain ⟨so, sc, hvo⟩ := row_slice h.orow
  obtain ⟨hl1, hl2, hl3⟩ := h.len
  have HS := hide h
  obtain ⟨nl, hnl⟩ : ∃ nl, nl = d.es.length := ⟨_, rfl⟩
  rw [hl1, ← hnl] at hl2 hl3
  clear h
  go_enter Tryz.func37, Tryz.ntmps37
  go_wp2_with fail
  refine HL.out.mono ?_
  rintro e w1 ⟨hb1, ⟨hout, rfl⟩ | ⟨k, x, v, rfl, hx, rfl, hsp⟩⟩
  · have c4 : w1.cell? ⟨d.bD, 3, none⟩ = some (.slice so nl sc) := by rw [hnl, ← hvo]; exact cell_at (HS.out.below hb1).cell rfl
    have HN := hide (num_any 8 w1)
    have HEND := hide (show SKPost w (.returned (.tuple #[.slice none 0 0, .bool true])) w1 from ⟨hb1, _, [], rfl, World.ownsRow_nil _ _ _ _⟩)
    rw [hl1, ← hnl] at hout
    clear HL HS hvo hnl hl1 hb1
    by_cases hneg : i < 0
    · have g1 : decide (i < 0) = true := decide_eq_true hneg
      go_wp2_with fail
      refine HN.out.mono ?_
      rintro e w2 ⟨rfl, rfl⟩
      go_wp2_with fail
      go_ret2
      exact HEND.out
    · have g1 : decide (i < 0) = false := decide_eq_false hneg
      have g2 : decide ((nl : Int) ≤ i) = true := decide_eq_true (by omega)
      go_wp2_with fail
      refine HN.out.mono ?_
      rintro e w2 ⟨rfl, rfl⟩
      go_wp2_with fail
      go_ret2
      exact HEND.out
  · have hS1 := HS.out.below hb1
    have c4 : w1.cell? ⟨d.bD, 3, none⟩ = some (.slice so nl sc) := by rw [hnl, ← hvo]; exact cell_at hS1.cell rfl
    have hk : k < nl := by rw [hnl, ← hl1]; exact get_lt hx
    have g1 : decide ((k : Int) < 0) = false := decide_eq_false (by omega)
    have g2 : decide ((nl : Int) ≤ (k : Int)) = false := decide_eq_false (by omega)
    obtain ⟨y, hy⟩ : ∃ y, d.es[k]? = some y := ⟨_, List.getElem?_eq_getElem (by rw [← hnl]; exact hk)⟩
    obtain ⟨hst, -⟩ := hS1.at hx hy
    have hgood := hS1.good.1 x (List.mem_of_getElem? hx)
    rw [hst] at hsp hgood
    have hsr := hS1.orow
    rw [hvo] at hsr
    obtain ⟨sg, sc', hso⟩ := own_form hsr (by rw [← hnl]; omega)
    cases hso
    have cl : w1.cell? ⟨sg, k, none⟩ = some (.slice (some ⟨y.sb, 0, none⟩) y.st.length y.scp) := (row_cell hsr (j := k) (by rw [List.getElem?_map, hy]; rfl)).1
    obtain ⟨hints, _, hcp⟩ := hS1.each y (List.mem_of_getElem? hy)
    obtain ⟨nms, hnms⟩ : ∃ nms, nms = nmsOf d.G y.st := ⟨_, rfl⟩
    obtain ⟨st, hstd⟩ : ∃ st, st = y.st := ⟨_, rfl⟩
    rw [← hnms] at hsp
    rw [← hstd] at hints hcp hgood cl hnms
    obtain ⟨hnl2, hnat⟩ := nmsOf_at hgood
    rw [← hnms] at hnl2 hnat
    obtain ⟨vo, vc, hv⟩ := row_slice hsp
    subst hv
    have hrg := hS1.rg w1 (Below.refl _ _)
    have HN := hide (num_any 0 w1)
    have HB1 := hide hb1
    have HS1 := hide hS1
    have HSP := hide hsp
    have HI := hide hints
    have HNAT := hide hnat
    have HGOOD := hide hgood
    have hst8 := hgood.1
    have hnl3 : ((nms.length : Int) != (st.length : Int)) = false := by rw [hnl2]; simp
    have d1 : w1.cell? ⟨d.bD, 1, none⟩ = some (.pointer (some ⟨d.P, 0, none⟩)) := cell_at hS1.cell rfl
    have dP := hrg.grm.top_cell.1
    have hnr : d.nr = d.ss.length := by
      obtain ⟨ao', cap', h1, _⟩ := hrg.grm.form
      simp at h1
      exact h1.2.1
    have hss := hS1.same.len
    have hle1 : nms.length ≤ st.length := by omega
    have hle2 : st.length ≤ nms.length := by omega
    have hle3 : d.G.length ≤ d.ss.length ∧ d.ss.length ≤ d.nr := by omega
    clear HL HS hvo hnl hl1 hb1 hS1 hsr hsp hst hstd hx hy hints hnms hnat hgood hrg hss hnr hnl2
    go_wp2_with fail
    refine HN.out.mono ?_
    rintro e w2 ⟨rfl, h2⟩
    subst h2
    clear HN
    go_wp2_with fail
    go_loopg [8] nms.length (fun k' vi W => SKLoop w2 nms.length k' vi W)
    case atStart => exact ⟨0, rfl, by omega, Below.refl _ _⟩
    case round =>
      obtain ⟨j, rfl, hjk, hbr⟩ := hrel
      by_cases hlt : j < nms.length
      · have e1 : decide ((j : Int) < (nms.length : Int)) = true := decide_eq_true (by omega)
        have hwr : IntKind.i64.wrap ((j : Int) + 1) = (j : Int) + 1 := by rw [IntKind.wrap_i64]; omega
        obtain ⟨z, hz⟩ : ∃ z, st[j]? = some z := ⟨_, List.getElem?_eq_getElem (by omega)⟩
        have hzG := HGOOD.out.2 z (List.mem_of_getElem? hz)
        obtain ⟨s, hs⟩ : ∃ s, d.G[z]? = some s := ⟨_, List.getElem?_eq_getElem hzG⟩
        obtain ⟨t, ht⟩ : ∃ t, d.ss[z]? = some t := ⟨_, List.getElem?_eq_getElem (by omega)⟩
        have hnm := (HS1.out.same.st z s t hs ht).1
        have hna := HNAT.out j z s hz hs
        have hrow : w2.ownsRow w.heap.size 9 1 (.slice vo nms.length vc) nms.length (nms.map Value.string) := HSP.out
        obtain ⟨lb, vc', hlb⟩ := own_form hrow (by omega)
        cases hlb
        have l0 := cell_below ((row_cell hrow (j := j) (u := .string s.nm) (by rw [List.getElem?_map, hna]; rfl)).1) hbr
        rw [hnm] at l0
        have hrg := HS1.out.rg w2 (Below.refl _ _)
        have a0 := cell_below (hrg.grm.at ht).1 hbr
        have i0 := cell_below (HI.out.cell hz) hbr
        have k4 := cell_below c4 hbr
        have kl := cell_below cl hbr
        have k1 := cell_below d1 hbr
        have kP := cell_below dP hbr
        have hzn : z < d.nr := by omega
        have hjs : j < st.length := by omega
        have HBR := hide hbr
        clear hbr hrow hrg hna hnm hs ht hz
        go_wp2_with fail
        go_quiet (fail)
        go_wp2_with fail
        go_roundg (nms.length - (j + 1))
        case measure => omega
        case rel => exact ⟨j + 1, by simp, by omega, Below.drewN' HBR.out _⟩
      · have e1 : decide ((j : Int) < (nms.length : Int)) = false := decide_eq_false (by omega)
        have HST := hide (still_any wr d (HS1.out.below hbr))
        have HBR := hide hbr
        clear hbr
        go_wp2_with fail
        refine HST.out.mono ?_
        rintro e w3 ⟨rfl, hb3⟩
        have HEND := hide (show SKPost w (.returned (.tuple #[.slice vo nms.length vc, .bool true])) w3 from by
          have hb := HBR.out.trans (hb3.mono HBR.out.size)
          exact ⟨HB1.out.trans (hb.mono HB1.out.size), _, nms, rfl, row_keep HSP.out fun k hk => hb.block k (by obtain ⟨_, c, hc⟩ := row_type HSP.out hk; exact lt_of_get hc)⟩)
        clear HST HBR hb3
        go_wp2_with fail
        go_ret2
        exact HEND.out
end Go.Proofs.YtgncgdkpkkdaeaaGreatDoor
