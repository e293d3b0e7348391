/- The law tintlaw.Edits holds for every grammar, text and script: the call returns true and leaves its arguments as they were. The condition: the library's table math/bits.deBruijn64tab holds what its initialiser lays (the card ties it to the program's text). -/
import Derived.Test.YtgncgdkpkkdaeaaGreatDoorQDA
import Derived.Test.YtgncgdkpkkdaeaaGreatDoorQ7
import Derived.StillTailTactics
import Derived.Test.YtgncgdkpkkdaeaaGreatDoorQTb
import Derived.HandedShaped
import Derived.Shelf.Vars
import Derived.Carry
import Derived.SizedLaws
import Derived.Deep.Slices
/- Insert, Delete. -/
namespace Go.Proofs.YtgncgdkpkkdaeaaGreatDoor
open Go.RowKit Tint Go.Maps Go.Shelf

/-- An edit was made. -/
def EdIs (B bS g n cap : Nat) (G : List GS) (text : ByteArray) (ls : List LE) (work a an : Nat) (put : ByteArray) (w w' : World) : Prop :=
  Off (fun k => k = bS) w w' ∧ ∃ (text' : ByteArray) (lv' : Value) (ls' : List LE) (work' : Nat) (sF : List Nat),
    text'.data.toList = text.data.toList.take a ++ put.data.toList ++ text.data.toList.drop an ∧ SheetIs w' B bS g n cap text' lv' ls' work' ∧ Runs G [0] (splitL text'.data.toList) (ls'.map LE.pr) sF ∧
    work ≤ work' ∧ work' ≤ work + (1 + put.data.toList.count 10 + moreN (ls.map LE.st) (ls'.map LE.st) ((text.data.toList.drop an).count 10)) ∧ work' ≤ work + 3001

section
variable {w : World} {N B bX bS g n cap : Nat} {G : List GS} {text : ByteArray} {lv : Value} {ls : List LE} {work : Nat} {sE : List Nat}

theorem shText_any (h : SheetIs w B bS g n cap text lv ls work) : Calls Tryz.prog 56 #[.pointer (some ⟨bS, 0, none⟩)] w fun e w' => e = .returned (.string text) ∧ w' = w := by
  have c1 : w.cell? ⟨bS, 1, none⟩ = some (.string text) := cell_at h.sh rfl
  go_enter Tryz.func56, Tryz.ntmps56
  go_wp2_with fail
  go_ret
  exact ⟨rfl, rfl⟩

def InsPost (B bS g n cap : Nat) (G : List GS) (text : ByteArray) (ls : List LE) (work : Nat) (i : Int) (put : ByteArray) (w : World) (e : Ending) (w' : World) : Prop :=
  (¬ (0 ≤ i ∧ i ≤ text.size) ∧ e = .returned (.int .i64 8) ∧ w' = w) ∨ ((0 ≤ i ∧ i ≤ text.size) ∧ 3000 < text.size + put.size ∧ e = .returned (.int .i64 1) ∧ w' = w) ∨
    ∃ a : Nat, i = a ∧ a ≤ text.size ∧ text.size + put.size ≤ 3000 ∧ e = .returned (.int .i64 0) ∧ EdIs B bS g n cap G text ls work a a put w w'

set_option maxRecDepth 20000 in
set_option maxHeartbeats 1000000 in
theorem insert_any (i : Int) (put : ByteArray) (hok : GOk G) (hpos : 0 < G.length) (hT : Tab w) (h0 : 1 < N) (hG : ∀ w', Below N w w' → GramIs w' g n cap G) (hN : N ≤ B) (hM : Mx w) (hMN : 0 < N)
    (h : SheetIs w B bS g n cap text lv ls work) (hx : w.heap[bX]? = some (.cells #[.pointer (some ⟨bS, 0, none⟩)] 46 (0, 0))) (hr : Runs G [0] (splitL text.data.toList) (ls.map LE.pr) sE) (hwk : work ≤ 1000000000000000000) :
    Calls Tryz.prog 41 #[.pointer (some ⟨bX, 0, none⟩), .int .i64 i, .string put] w (InsPost B bS g n cap G text ls work i put w) := by
  have c0 := cell_one hx
  have HC := hide (closed_any bX bS w hx)
  have HTX := hide (shText_any h)
  have hz := h.size
  have HRP := hide (fun (a : Nat) (ha : a ≤ text.size) (hz : text.size + put.size ≤ 3000) => replace_any N B bS g n cap G text lv ls work a 0 put sE w hok hpos hT h0 hG hN hM hMN h hr hwk (by omega) (by omega))
  have wz : IntKind.i64.wrap (3000 - (text.size : Int)) = 3000 - (text.size : Int) := by rw [IntKind.wrap_i64]; omega
  clear h hx hr hT hG hM
  by_cases h1 : 0 ≤ i
  · have g1 : decide (i < 0) = false := decide_eq_false (by omega)
    by_cases h2 : i ≤ text.size
    · have g2 : decide ((text.size : Int) < i) = false := decide_eq_false (by omega)
      by_cases h3 : text.size + put.size ≤ 3000
      · have g3 : decide (3000 - (text.size : Int) < (put.size : Int)) = false := decide_eq_false (by omega)
        obtain ⟨a, rfl⟩ : ∃ a : Nat, i = a := ⟨i.toNat, by omega⟩
        have HRQ := hide (HRP.out a (by omega) h3)
        go_enter Tryz.func41, Tryz.ntmps41
        go_wp2_with fail
        refine HC.out.mono ?_
        rintro e w1 ⟨rfl, e1⟩
        subst w1
        go_wp2_with fail
        refine HTX.out.mono ?_
        rintro e w1 ⟨rfl, e1⟩
        subst w1
        go_wp2_with fail
        refine HRQ.out.mono ?_
        rintro e w1 ⟨rfl, he1⟩
        have HE := hide he1
        clear he1
        go_wp2_with fail
        go_ret
        exact .inr (.inr ⟨a, rfl, by omega, h3, rfl, HE.out⟩)
      · have g3 : decide (3000 - (text.size : Int) < (put.size : Int)) = true := decide_eq_true (by omega)
        clear HRP
        go_enter Tryz.func41, Tryz.ntmps41
        go_wp2_with fail
        refine HC.out.mono ?_
        rintro e w1 ⟨rfl, e1⟩
        subst w1
        go_wp2_with fail
        refine HTX.out.mono ?_
        rintro e w1 ⟨rfl, e1⟩
        subst w1
        go_wp2_with fail
        go_ret
        exact .inr (.inl ⟨⟨h1, h2⟩, by omega, rfl, rfl⟩)
    · have g2 : decide ((text.size : Int) < i) = true := decide_eq_true (by omega)
      clear HRP
      go_enter Tryz.func41, Tryz.ntmps41
      go_wp2_with fail
      refine HC.out.mono ?_
      rintro e w1 ⟨rfl, e1⟩
      subst w1
      go_wp2_with fail
      refine HTX.out.mono ?_
      rintro e w1 ⟨rfl, e1⟩
      subst w1
      go_wp2_with fail
      go_ret
      exact .inl ⟨fun h => by omega, rfl, rfl⟩
  · have g1 : decide (i < 0) = true := decide_eq_true (by omega)
    clear HRP
    go_enter Tryz.func41, Tryz.ntmps41
    go_wp2_with fail
    refine HC.out.mono ?_
    rintro e w1 ⟨rfl, e1⟩
    subst w1
    go_wp2_with fail
    refine HTX.out.mono ?_
    rintro e w1 ⟨rfl, e1⟩
    subst w1
    go_wp2_with fail
    go_ret
    exact .inl ⟨fun h => by omega, rfl, rfl⟩

def DelPost (B bS g n cap : Nat) (G : List GS) (text : ByteArray) (ls : List LE) (work : Nat) (i m : Int) (w : World) (e : Ending) (w' : World) : Prop :=
  (¬ (0 ≤ m ∧ 0 ≤ i ∧ i ≤ text.size ∧ m ≤ text.size - i) ∧ e = .returned (.int .i64 8) ∧ w' = w) ∨
    ∃ a k : Nat, i = a ∧ m = k ∧ a + k ≤ text.size ∧ e = .returned (.int .i64 0) ∧ EdIs B bS g n cap G text ls work a (a + k) ⟨#[]⟩ w w'

set_option maxRecDepth 20000 in
set_option maxHeartbeats 1000000 in
theorem delete_any (i m : Int) (hok : GOk G) (hpos : 0 < G.length) (hT : Tab w) (h0 : 1 < N) (hG : ∀ w', Below N w w' → GramIs w' g n cap G) (hN : N ≤ B) (hM : Mx w) (hMN : 0 < N)
    (h : SheetIs w B bS g n cap text lv ls work) (hx : w.heap[bX]? = some (.cells #[.pointer (some ⟨bS, 0, none⟩)] 46 (0, 0))) (hr : Runs G [0] (splitL text.data.toList) (ls.map LE.pr) sE) (hwk : work ≤ 1000000000000000000) :
    Calls Tryz.prog 42 #[.pointer (some ⟨bX, 0, none⟩), .int .i64 i, .int .i64 m] w (DelPost B bS g n cap G text ls work i m w) := by
  have c0 := cell_one hx
  have HC := hide (closed_any bX bS w hx)
  have HTX := hide (shText_any h)
  have hz := h.size
  have HRP := hide (fun (a k : Nat) (ha : a + k ≤ text.size) => replace_any N B bS g n cap G text lv ls work a k ⟨#[]⟩ sE w hok hpos hT h0 hG hN hM hMN h hr hwk ha (by show text.size + 0 ≤ 3000 + k; omega))
  clear h hx hr hT hG hM
  by_cases h0 : 0 ≤ m
  · have g0 : decide (m < 0) = false := decide_eq_false (by omega)
    by_cases h1 : 0 ≤ i
    · have g1 : decide (i < 0) = false := decide_eq_false (by omega)
      by_cases h2 : i ≤ text.size
      · have g2 : decide ((text.size : Int) < i) = false := decide_eq_false (by omega)
        have wz : IntKind.i64.wrap ((text.size : Int) - i) = (text.size : Int) - i := by rw [IntKind.wrap_i64]; omega
        by_cases h3 : m ≤ text.size - i
        · have g3 : decide ((text.size : Int) - i < m) = false := decide_eq_false (by omega)
          obtain ⟨a, rfl⟩ : ∃ a : Nat, i = a := ⟨i.toNat, by omega⟩
          obtain ⟨k, rfl⟩ : ∃ k : Nat, m = k := ⟨m.toNat, by omega⟩
          have HRQ := hide (HRP.out a k (by omega))
          go_enter Tryz.func42, Tryz.ntmps42
          go_wp2_with fail
          refine HC.out.mono ?_
          rintro e w1 ⟨rfl, e1⟩
          subst w1
          go_wp2_with fail
          refine HTX.out.mono ?_
          rintro e w1 ⟨rfl, e1⟩
          subst w1
          go_wp2_with fail
          refine HRQ.out.mono ?_
          rintro e w1 ⟨rfl, he1⟩
          have HE := hide he1
          clear he1
          go_wp2_with fail
          go_ret
          exact .inr ⟨a, k, rfl, rfl, by omega, rfl, HE.out⟩
        · have g3 : decide ((text.size : Int) - i < m) = true := decide_eq_true (by omega)
          clear HRP
          go_enter Tryz.func42, Tryz.ntmps42
          go_wp2_with fail
          refine HC.out.mono ?_
          rintro e w1 ⟨rfl, e1⟩
          subst w1
          go_wp2_with fail
          refine HTX.out.mono ?_
          rintro e w1 ⟨rfl, e1⟩
          subst w1
          go_wp2_with fail
          go_ret
          exact .inl ⟨fun h => by omega, rfl, rfl⟩
      · have g2 : decide ((text.size : Int) < i) = true := decide_eq_true (by omega)
        clear HRP
        go_enter Tryz.func42, Tryz.ntmps42
        go_wp2_with fail
        refine HC.out.mono ?_
        rintro e w1 ⟨rfl, e1⟩
        subst w1
        go_wp2_with fail
        refine HTX.out.mono ?_
        rintro e w1 ⟨rfl, e1⟩
        subst w1
        go_wp2_with fail
        go_ret
        exact .inl ⟨fun h => by omega, rfl, rfl⟩
    · have g1 : decide (i < 0) = true := decide_eq_true (by omega)
      clear HRP
      go_enter Tryz.func42, Tryz.ntmps42
      go_wp2_with fail
      refine HC.out.mono ?_
      rintro e w1 ⟨rfl, e1⟩
      subst w1
      go_wp2_with fail
      refine HTX.out.mono ?_
      rintro e w1 ⟨rfl, e1⟩
      subst w1
      go_wp2_with fail
      go_ret
      exact .inl ⟨fun h => by omega, rfl, rfl⟩
  · have g0 : decide (m < 0) = true := decide_eq_true (by omega)
    clear HRP
    go_enter Tryz.func42, Tryz.ntmps42
    go_wp2_with fail
    refine HC.out.mono ?_
    rintro e w1 ⟨rfl, e1⟩
    subst w1
    go_wp2_with fail
    refine HTX.out.mono ?_
    rintro e w1 ⟨rfl, e1⟩
    subst w1
    go_wp2_with fail
    go_ret
    exact .inl ⟨fun h => by omega, rfl, rfl⟩
end
end Go.Proofs.YtgncgdkpkkdaeaaGreatDoor

/- A text beside the document's: behind an edit. -/
namespace Go.Proofs.YtgncgdkpkkdaeaaGreatDoor
open Go.RowKit Tint Go.Maps Go.Shelf

/-- A text of the program's was edited; beside it stands what the document said of it ahead of that. -/
structure EdPre (w : World) (d : SD) (text' : ByteArray) (lv' : Value) (ls' : List LE) (work' : Nat) : Prop where
  cell : w.heap[d.bD]? = some (.cells #[.pointer (some ⟨d.bX, 0, none⟩), .pointer (some ⟨d.P, 0, none⟩), .string d.text, d.vo, d.vs, .int .i64 d.work] 89 (0, 0))
  tx : w.heap[d.bX]? = some (.cells #[.pointer (some ⟨d.bS, 0, none⟩)] 46 (0, 0))
  sheet : SheetIs w d.B d.bS d.g d.n d.cap text' lv' ls' work'
  old : OvRow w d.vo d.es
  few : d.es.length ≤ 3001
  runs : ∃ st, Runs d.G [0] (splitL text'.data.toList) (ls'.map LE.pr) st
  gram : ∀ w', Below d.N w w' → GramIs w' d.g d.n d.cap d.G
  rg : ∀ w', Below d.N w w' → RG w' d.Br d.P d.gr d.nr d.cr d.ss
  hN : d.N ≤ w.heap.size
  hD : d.N ≤ d.bD
  same : SameG d.G d.ss
  ok : GOk d.G
  pos : 0 < d.G.length

theorem EdPre.below {w w' : World} {d : SD} {text' : ByteArray} {lv' : Value} {ls' : List LE} {work' : Nat} (h : EdPre w d text' lv' ls' work') (hb : Below w.heap.size w w') : EdPre w' d text' lv' ls' work' := by
  have key : ∀ (t : TypeId) (k : Nat) c, w.heap[k]? = some (.cells c t (0, 0)) → w'.heap[k]? = some (.cells c t (0, 0)) := fun t k c hh => (hb.block k (lt_of_get hh)).trans hh
  exact ⟨key _ _ _ h.cell, key _ _ _ h.tx, h.sheet.below hb, h.old.below hb, h.few, h.runs, fun w2 hb2 => h.gram w2 ((hb.mono h.hN).trans hb2), fun w2 hb2 => h.rg w2 ((hb.mono h.hN).trans hb2), Nat.le_trans h.hN hb.size, h.hD, h.same, h.ok, h.pos⟩

def EditedPost (w : World) (d : SD) (text' : ByteArray) (lv' : Value) (ls' : List LE) (work' : Nat) (e : Ending) (w' : World) : Prop :=
  e = .returned (.bool true) ∧ Off (fun k => k = d.bD) w w' ∧ ∃ (vo vs : Value) (es : List RE), SideIs w' { d with text := text', lv := lv', vo := vo, vs := vs, ls := ls', es := es, work := work' }

set_option maxRecDepth 20000 in
set_option maxHeartbeats 4000000 in
theorem edited_any (w : World) (d : SD) (text' : ByteArray) (lv' : Value) (ls' : List LE) (work' : Nat) (put : ByteArray) (b : Nat) (h : EdPre w d text' lv' ls' work') (hB : d.B ≤ w.heap.size) (hb1 : b ≤ d.es.length) (hb2 : b ≤ ls'.length) (hpz : put.size ≤ 1000000000)
    (hwk : work' ≤ 2000000000000000000) (hlo : d.work ≤ work') (hhi : work' ≤ d.work + (1 + put.data.toList.count 10 + moreN (d.es.map RE.st) (ls'.map LE.st) b)) :
    Calls Tryz.prog 66 #[.pointer (some ⟨d.bD, 0, none⟩), .string text', .string put, .int .i64 b] w (EditedPost w d text' lv' ls' work') := by
  have c1 : w.cell? ⟨d.bD, 1, none⟩ = some (.pointer (some ⟨d.P, 0, none⟩)) := cell_at h.cell rfl
  have HST := hide (refStacks_any d.Br d.P d.gr d.nr d.cr d.ss d.G text' w (h.rg w (Below.refl _ _)) h.same h.ok h.pos h.sheet.size)
  have HP := hide h
  clear h
  go_enter Tryz.func66, Tryz.ntmps66
  go_wp2_with fail
  refine HST.out.mono ?_
  rintro e w1 ⟨vo, vs, es, st3, rfl, ho3, hs3, he3, hr3, hbw1⟩
  have h1 := HP.out.below hbw1
  obtain ⟨oo, oc, hvo⟩ := row_slice ho3
  obtain ⟨so, sc, hvs⟩ := row_slice hs3
  subst hvo
  subst hvs
  obtain ⟨po, pc, hpo⟩ := row_slice h1.old.row
  obtain ⟨ps, hps⟩ : ∃ ps, ps = d.vs := ⟨_, rfl⟩
  have hag : ls'.map LE.pr = es.map fun e => (e.st, e.sps) := by
    obtain ⟨_, hr⟩ := h1.runs
    exact (hr.det hr3).1
  have hags : ls'.map LE.st = es.map RE.st := by
    have := congrArg (List.map (·.1)) hag
    rw [List.map_map, List.map_map] at this
    exact this
  have hlen : ls'.length = es.length := by
    have := congrArg List.length hag
    simpa using this
  have hgood : ∀ e ∈ es, e.st.length ≤ 8 := fun e he => by
    have hg : Good d.G [0] := ⟨⟨by simp, by simp⟩, fun x hx => by rw [List.mem_singleton.1 hx]; exact h1.pos⟩
    exact (hr3.good h1.ok hg (e.st, e.sps) (List.mem_map.2 ⟨e, he, rfl⟩)).1.2
  have hel : es.length ≤ 3001 := by
    have h2 := hr3.length
    rw [List.length_map, splitL_length] at h2
    have h3 := List.count_le_length (a := (10 : UInt8)) (l := text'.data.toList)
    rw [text_length] at h3
    have := h1.sheet.size
    omega
  have hnow : OvRow w1 (.slice oo es.length oc) es := ⟨row_base ho3 (Nat.zero_le _), fun e he => ⟨(he3 e he).1, hgood e he⟩⟩
  rw [hags] at hhi
  rw [hlen] at hb2
  obtain ⟨mn, hmn⟩ : ∃ mn, mn = 1 + put.data.toList.count 10 + moreN (d.es.map RE.st) (es.map RE.st) b := ⟨_, rfl⟩
  rw [← hmn] at hhi
  have hmz : mn ≤ 1000010000 := by
    have h2 := moreN_le (d.es.map RE.st) (es.map RE.st) b
    have h3 := List.count_le_length (a := (10 : UInt8)) (l := put.data.toList)
    rw [text_length] at h3
    omega
  have HMO := hide (fun W' (hb : Below w1.heap.size w1 W') => more_any W' d.vo (.slice oo es.length oc) d.es es put b (h1.old.below hb) (hnow.below hb) hb1 hb2 (by have := h1.few; omega) (by omega) hpz)
  rw [← hmn] at HMO
  obtain ⟨ne, hne⟩ : ∃ ne, ne = es.length := ⟨_, rfl⟩
  obtain ⟨nd, hnd⟩ : ∃ nd, nd = d.es.length := ⟨_, rfl⟩
  have HWK := hide (txWork_any h1.sheet h1.tx)
  have z0 : w1.cell? ⟨d.bD, 0, none⟩ = some (.pointer (some ⟨d.bX, 0, none⟩)) := cell_at h1.cell rfl
  have z3 : w1.cell? ⟨d.bD, 3, none⟩ = some (.slice po nd pc) := by rw [hnd, ← hpo]; exact cell_at h1.cell rfl
  have z5 : w1.cell? ⟨d.bD, 5, none⟩ = some (.int .i64 d.work) := cell_at h1.cell rfl
  have q1 : decide ((d.work : Int) ≤ (work' : Int)) = true := decide_eq_true (by omega)
  have q2 : decide ((work' : Int) ≤ (d.work : Int) + (mn : Int)) = true := decide_eq_true (by omega)
  have ww : IntKind.i64.wrap ((d.work : Int) + (mn : Int)) = (d.work : Int) + (mn : Int) := by rw [IntKind.wrap_i64]; omega
  have HROWS := hide (And.intro ho3 (And.intro hs3 (And.intro he3 hr3)))
  have HP1 := hide h1
  have HBW1 := hide hbw1
  rw [hpo, ← hne, ← hnd] at HMO
  rw [← hne]
  have HNE := hide hne
  clear ho3 hs3 he3 hr3 h1 hbw1 hag hags hlen hgood hnow hmn hmz hne hnd hpo HST c1 hhi
  go_wp2_with fail
  refine HWK.out.mono ?_
  rintro e w2 ⟨rfl, e2⟩
  subst w2
  clear HWK
  go_wp2_with fail
  go_region_held3 (fun w' => w'.cell? ⟨d.bD, 5, none⟩ = some (.int .i64 d.work) ∧ w'.cell? ⟨d.bD, 3, none⟩ = some (.slice po nd pc))
    (first
      | with_reducible exact k5
      | with_reducible exact k3
      | go_keep)
    (first | (go_at_call 89; refine (HMO.out _ (Below.refl _ _).drew).mono ?_; clear HMO; rintro e W2 ⟨rfl, hb2'⟩; have k5 := cell_below (w := w1.drew) z5 hb2'; have k3 := cell_below (w := w1.drew) z3 hb2'; have HB2 := hide hb2'; clear hb2'))
  all_goals
    have hb12 : Below w1.heap.size w1 W2 := ⟨HB2.out.os, HB2.out.tape, HB2.out.output, HB2.out.size, HB2.out.block⟩
    have h2 := HP1.out.below hb12
    have hD2 := h2.cell
    have y2 : W2.cell? ⟨d.bD, 2, none⟩ = some (.string d.text) := cell_at hD2 rfl
    have y2f : W2.frozen? ⟨d.bD, 2, none⟩ = false := by simp [World.frozen?, hD2]
    obtain ⟨W3, hW3⟩ : ∃ W3, W2.setCell ⟨d.bD, 2, none⟩ (.string text') = W3 := ⟨_, rfl⟩
    have hD3 : W3.heap[d.bD]? = some (.cells #[.pointer (some ⟨d.bX, 0, none⟩), .pointer (some ⟨d.P, 0, none⟩), .string text', d.vo, d.vs, .int .i64 d.work] 89 (0, 0)) := by rw [← hW3]; simpa using heap_setCell_same W2 d.bD 2 (.string text') hD2
    have o3 : Off (fun k => k = d.bD) W2 W3 := by rw [← hW3]; exact Off.setCell (Y := fun k => k = d.bD) (p := ⟨d.bD, 2, none⟩) rfl hD2 (by decide) _
    have y3 : W3.cell? ⟨d.bD, 3, none⟩ = some d.vo := cell_at hD3 rfl
    have y3f : W3.frozen? ⟨d.bD, 3, none⟩ = false := by simp [World.frozen?, hD3]
    obtain ⟨W4, hW4⟩ : ∃ W4, W3.setCell ⟨d.bD, 3, none⟩ (.slice oo ne oc) = W4 := ⟨_, rfl⟩
    have hD4 : W4.heap[d.bD]? = some (.cells #[.pointer (some ⟨d.bX, 0, none⟩), .pointer (some ⟨d.P, 0, none⟩), .string text', .slice oo ne oc, d.vs, .int .i64 d.work] 89 (0, 0)) := by rw [← hW4]; simpa using heap_setCell_same W3 d.bD 3 (.slice oo ne oc) hD3
    have o4 : Off (fun k => k = d.bD) W2 W4 := o3.trans (by rw [← hW4]; exact Off.setCell (Y := fun k => k = d.bD) (p := ⟨d.bD, 3, none⟩) rfl hD3 (by decide) _)
    have y4 : W4.cell? ⟨d.bD, 4, none⟩ = some d.vs := cell_at hD4 rfl
    have y4f : W4.frozen? ⟨d.bD, 4, none⟩ = false := by simp [World.frozen?, hD4]
    obtain ⟨W5, hW5⟩ : ∃ W5, W4.setCell ⟨d.bD, 4, none⟩ (.slice so ne sc) = W5 := ⟨_, rfl⟩
    have hD5 : W5.heap[d.bD]? = some (.cells #[.pointer (some ⟨d.bX, 0, none⟩), .pointer (some ⟨d.P, 0, none⟩), .string text', .slice oo ne oc, .slice so ne sc, .int .i64 d.work] 89 (0, 0)) := by rw [← hW5]; simpa using heap_setCell_same W4 d.bD 4 (.slice so ne sc) hD4
    have o5 : Off (fun k => k = d.bD) W2 W5 := o4.trans (by rw [← hW5]; exact Off.setCell (Y := fun k => k = d.bD) (p := ⟨d.bD, 4, none⟩) rfl hD4 (by decide) _)
    have y5 : W5.cell? ⟨d.bD, 5, none⟩ = some (.int .i64 d.work) := cell_at hD5 rfl
    have y5f : W5.frozen? ⟨d.bD, 5, none⟩ = false := by simp [World.frozen?, hD5]
    obtain ⟨W6, hW6⟩ : ∃ W6, W5.setCell ⟨d.bD, 5, none⟩ (.int .i64 work') = W6 := ⟨_, rfl⟩
    have hD6 : W6.heap[d.bD]? = some (.cells #[.pointer (some ⟨d.bX, 0, none⟩), .pointer (some ⟨d.P, 0, none⟩), .string text', .slice oo ne oc, .slice so ne sc, .int .i64 work'] 89 (0, 0)) := by rw [← hW6]; simpa using heap_setCell_same W5 d.bD 5 (.int .i64 work') hD5
    have o6 : Off (fun k => k = d.bD) W2 W6 := o5.trans (by rw [← hW6]; exact Off.setCell (Y := fun k => k = d.bD) (p := ⟨d.bD, 5, none⟩) rfl hD5 (by decide) _)
    have HEND := hide (show EditedPost w d text' lv' ls' work' (.returned (.bool true)) W6 from by
      have hbw2 : Below w.heap.size w W2 := HBW1.out.trans (hb12.mono HBW1.out.size)
      have ow6 : Off (fun k => k = d.bD) w W6 := (Off.of_below hbw2).trans o6
      obtain ⟨ho3, hs3, he3, hr3⟩ := HROWS.out
      have hNE := HNE.out
      have hbN : ∀ w', Below d.N W6 w' → Below d.N W2 w' := fun w' hb => ⟨hb.os.trans o6.os, hb.tape.trans o6.tape, hb.output.trans o6.output, Nat.le_trans o6.size hb.size, fun k hk => (hb.block k hk).trans (o6.keep k ⟨Nat.lt_of_lt_of_le hk h2.hN, by have := h2.hD; show ¬ k = d.bD; omega⟩)⟩
      have rk : ∀ {e : TypeId} {size : Nat} {v : Value} {m : Nat} {xs : List Value}, w1.ownsRow w.heap.size e size v m xs → e ≠ 89 → W6.ownsRow d.B e size v m xs := fun hrow he => offD_row (row_typ (row_base hrow hB) fun k c hh => (hb12.block k (lt_of_get hh)).trans hh) o6 hD2 he
      refine ⟨rfl, ow6, .slice oo ne oc, .slice so ne sc, es, hD6, off_typ o6 hD2 h2.tx (by decide), h2.sheet.offD o6 hD2, ?_, ?_, fun e he => ⟨((he3 e he).1.below hb12).keep fun c fz hh => off_typ o6 hD2 hh (by decide), rk (he3 e he).2.1 (by decide), (he3 e he).2.2⟩, h2.runs, ⟨st3, hr3⟩, fun w' hb => h2.gram w' (hbN w' hb), fun w' hb => h2.rg w' (hbN w' hb), Nat.le_trans h2.hN o6.size, h2.same, h2.ok, h2.pos⟩
      · show W6.ownsRow _ _ _ _ es.length _
        rw [hNE]
        exact rk ho3 (by decide)
      · show W6.ownsRow _ _ _ _ es.length _
        rw [hNE]
        exact rk hs3 (by decide))
    clear hb12 h2 hD2 hD3 hD4 hD5 hD6 o3 o4 o5 o6 z0 z3 z5 HP HP1 HROWS
    go_wp2_with fail
    go_ret
    exact HEND.out
end Go.Proofs.YtgncgdkpkkdaeaaGreatDoor

/- A text beside the document's: insert. -/
namespace Go.Proofs.YtgncgdkpkkdaeaaGreatDoor
open Go.RowKit Tint Go.Maps Go.Shelf

/-- A region that reads first, and then goes on in its order. -/
theorem wp_tail {P : Program} {id : Nat} {Q : Exit → Act → World → Prop} {a : Act} {w : World} {l : List Oper} (n : Nat) (hm : P.follows .mixedOrders = true) (hB : Region.lexTailB .any l.toArray n = true)
    (h : wpStill P l.toArray w.drew (fun a' => wpList P l.toArray Q (l.drop n) a' w.drew) (l.take n) a) : (Code.region id l.toArray true).wp P Q a w := wp_region_still_tail n hm hB h

/-- A text beside the document's, and what editing it asks. -/
structure SideOk (w : World) (d : SD) : Prop where
  is : SideIs w d
  tab : Tab w
  mx : Mx w
  h0 : 1 < d.N
  hM : 0 < d.N
  hN : d.N ≤ d.B
  hD : d.B ≤ d.bD
  hX : d.B ≤ d.bX

theorem SideOk.below {w w' : World} {d : SD} (h : SideOk w d) (hb : Below w.heap.size w w') : SideOk w' d := ⟨h.is.below hb, h.tab.below hb, h.mx.below hb, h.h0, h.hM, h.hN, h.hD, h.hX⟩

def StepPost (w : World) (d : SD) (e : Ending) (w' : World) : Prop :=
  e = .returned (.bool true) ∧ Below d.B w w' ∧ ∃ d' : SD, SideOk w' d' ∧ d'.B = d.B ∧ d'.bD = d.bD ∧ d'.work ≤ d.work + 3001

theorem SideIs.lt {w : World} {d : SD} (h : SideIs w d) : d.B ≤ w.heap.size := by
  have := lt_of_get h.sheet.sh
  have := h.sheet.base
  omega

theorem StepPost.still {w w' : World} {d : SD} (h : SideOk w d) (hb : Below w.heap.size w w') : StepPost w d (.returned (.bool true)) w' :=
  ⟨rfl, hb.mono h.is.lt, d, h.below hb, rfl, rfl, Nat.le_add_right _ _⟩

theorem SideIs.sts {w : World} {d : SD} (h : SideIs w d) : d.ls.map LE.st = d.es.map RE.st := by
  have := congrArg (List.map (·.1)) h.agree
  rw [List.map_map, List.map_map] at this
  exact this

/-- An edit was made: what edited asks. -/
theorem SideOk.edited {w w1 : World} {d : SD} (h : SideOk w d) {a an : Nat} {put : ByteArray} (he : EdIs d.B d.bS d.g d.n d.cap d.G d.text d.ls d.work a an put w w1) :
    ∃ (text' : ByteArray) (lv' : Value) (ls' : List LE) (work' : Nat), text'.data.toList = d.text.data.toList.take a ++ put.data.toList ++ d.text.data.toList.drop an ∧ EdPre w1 d text' lv' ls' work' ∧ d.B ≤ w1.heap.size ∧
      (d.text.data.toList.drop an).count 10 ≤ d.es.length ∧ (d.text.data.toList.drop an).count 10 ≤ ls'.length ∧ d.work ≤ work' ∧ work' ≤ d.work + 3001 ∧
      work' ≤ d.work + (1 + put.data.toList.count 10 + moreN (d.es.map RE.st) (ls'.map LE.st) ((d.text.data.toList.drop an).count 10)) ∧ Off (fun k => k = d.bS) w w1 := by
  obtain ⟨o, text', lv', ls', work', sF, ht, hs, hr, h1, h2, h3⟩ := he
  have hi := h.is
  have hS := hi.sheet.sh
  have hbw : ∀ w', Below d.N w1 w' → Below d.N w w' := fun w' hb => ⟨hb.os.trans o.os, hb.tape.trans o.tape, hb.output.trans o.output, Nat.le_trans o.size hb.size, fun k hk => (hb.block k hk).trans (o.keep k ⟨by have := hi.hN; omega, by have := h.hN; have := hi.sheet.base; show ¬ k = d.bS; omega⟩)⟩
  have key : ∀ (t : TypeId) (k : Nat) c fz, t ≠ 134 → w.heap[k]? = some (.cells c t fz) → w1.heap[k]? = some (.cells c t fz) := fun t k c fz ht hh => off_typ o hS hh ht
  have hgood : ∀ e ∈ d.es, e.st.length ≤ 8 := fun e he => by
    obtain ⟨_, hr0⟩ := hi.runr
    have hg : Good d.G [0] := ⟨⟨by simp, by simp⟩, fun x hx => by rw [List.mem_singleton.1 hx]; exact hi.pos⟩
    exact (hr0.good hi.ok hg (e.st, e.sps) (List.mem_map.2 ⟨e, he, rfl⟩)).1.2
  have hl := hi.len
  have hl2 := hr.length
  rw [List.length_map, splitL_length, ht, List.count_append, List.count_append] at hl2
  have hl1 : d.ls.length = 1 + d.text.data.toList.count 10 := by
    obtain ⟨_, hr0⟩ := hi.runs
    have := hr0.length
    rw [List.length_map, splitL_length] at this
    exact this
  have hcd : (d.text.data.toList.drop an).count 10 ≤ d.text.data.toList.count 10 := by
    conv => rhs; rw [← List.take_append_drop an d.text.data.toList, List.count_append]
    omega
  refine ⟨text', lv', ls', work', ht, ⟨key _ _ _ _ (by decide) hi.cell, key _ _ _ _ (by decide) hi.tx, hs, ⟨row_typ (row_base hi.orow (Nat.zero_le _)) (fun k c => key _ k c _ (by decide)), fun e he => ⟨(hi.each e he).1.keep fun c fz => key _ _ c fz (by decide), hgood e he⟩⟩, by omega, ⟨sF, hr⟩, fun w' hb => hi.gram w' (hbw w' hb), fun w' hb => hi.rg w' (hbw w' hb), Nat.le_trans hi.hN o.size, Nat.le_trans h.hN h.hD, hi.same, hi.ok, hi.pos⟩, Nat.le_trans hi.lt o.size, by omega, by omega, h1, h3, ?_, o⟩
  rw [← hi.sts]
  exact h2

/-- Behind edited. -/
theorem SideOk.behind {w w1 w2 : World} {d : SD} (h : SideOk w d) {text' : ByteArray} {lv' : Value} {ls' : List LE} {work' : Nat} (o : Off (fun k => k = d.bS) w w1) {e : Ending} (hp : EditedPost w1 d text' lv' ls' work' e w2) (hw : work' ≤ d.work + 3001) : e = .returned (.bool true) ∧ StepPost w d (.returned (.bool true)) w2 := by
  obtain ⟨rfl, o2, vo, vs, es, hs⟩ := hp
  have hB := h.is.sheet.base
  have hb : Below d.B w w2 := ⟨o2.os.trans o.os, o2.tape.trans o.tape, o2.output.trans o.output, Nat.le_trans o.size o2.size, fun k hk => by
    have hk1 : k < w.heap.size := by have := h.is.lt; omega
    exact (o2.keep k ⟨Nat.lt_of_lt_of_le hk1 o.size, by have := h.hD; show ¬ k = d.bD; omega⟩).trans (o.keep k ⟨hk1, by show ¬ k = d.bS; omega⟩)⟩
  refine ⟨rfl, rfl, hb, _, ⟨hs, h.tab.keep (hb.block _ (by have := h.h0; have := h.hN; omega)), ?_, h.h0, h.hM, h.hN, h.hD, h.hX⟩, rfl, rfl, hw⟩
  obtain ⟨m, hm⟩ := h.mx
  exact ⟨m, (World.cell?_of_block (hb.block 0 (by have := h.hM; have := h.hN; omega))).trans hm⟩

set_option maxRecDepth 20000 in
set_option maxHeartbeats 4000000 in
theorem sideInsert_any (w : World) (d : SD) (i : Int) (put : ByteArray) (h : SideOk w d) (hwk : d.work ≤ 1000000000000000000) (hpz : put.size ≤ 1000000000000000000) :
    Calls Tryz.prog 38 #[.pointer (some ⟨d.bD, 0, none⟩), .int .i64 i, .string put] w (StepPost w d) := by
  have c0 : w.cell? ⟨d.bD, 0, none⟩ = some (.pointer (some ⟨d.bX, 0, none⟩)) := cell_at h.is.cell rfl
  have c2 : w.cell? ⟨d.bD, 2, none⟩ = some (.string d.text) := cell_at h.is.cell rfl
  obtain ⟨sE, hrE⟩ := h.is.runs
  have HIN := hide (insert_any i put h.is.ok h.is.pos h.tab h.h0 h.is.gram h.hN h.mx h.hM h.is.sheet h.is.tx hrE hwk)
  have HS := hide h
  have hz := h.is.sheet.size
  have wz : IntKind.i64.wrap ((d.text.size : Int) + (put.size : Int)) = (d.text.size : Int) + (put.size : Int) := by rw [IntKind.wrap_i64]; omega
  clear h hrE
  go_enter Tryz.func38, Tryz.ntmps38
  go_wp2_with fail
  refine HIN.out.mono ?_
  rintro e w1 (⟨hi, rfl, e1⟩ | ⟨hi, hl, rfl, e1⟩ | ⟨a, rfl, ha, hl, rfl, he⟩)
  · subst w1
    have HNM := hide (num_any 8 w)
    have HSL := hide (still_any w d HS.out.is)
    by_cases h1 : i < 0
    · have g1 : decide (i < 0) = true := decide_eq_true h1
      go_wp2_with fail
      refine HNM.out.mono ?_
      rintro e w1 ⟨rfl, e1⟩
      subst w1
      clear HNM
      go_wp2_with fail
      refine HSL.out.mono ?_
      rintro e w2 ⟨rfl, hb2⟩
      have HEND := hide (StepPost.still HS.out hb2)
      clear HSL hb2
      go_wp2_with fail
      go_ret
      exact HEND.out
    · have g1 : decide (i < 0) = false := decide_eq_false h1
      have g2 : decide ((d.text.size : Int) < i) = true := decide_eq_true (by omega)
      go_wp2_with fail
      refine HNM.out.mono ?_
      rintro e w1 ⟨rfl, e1⟩
      subst w1
      clear HNM
      go_wp2_with fail
      refine HSL.out.mono ?_
      rintro e w2 ⟨rfl, hb2⟩
      have HEND := hide (StepPost.still HS.out hb2)
      clear HSL hb2
      go_wp2_with fail
      go_ret
      exact HEND.out
  · subst w1
    have HNM := hide (num_any 1 w)
    have HSL := hide (still_any w d HS.out.is)
    have g1 : decide (i < 0) = false := decide_eq_false (by omega)
    have g2 : decide ((d.text.size : Int) < i) = false := decide_eq_false (by omega)
    have g3 : decide (3000 < (d.text.size : Int) + (put.size : Int)) = true := decide_eq_true (by omega)
    go_wp2_with fail
    refine HNM.out.mono ?_
    rintro e w1 ⟨rfl, e1⟩
    subst w1
    clear HNM
    go_wp2_with fail
    refine HSL.out.mono ?_
    rintro e w2 ⟨rfl, hb2⟩
    have HEND := hide (StepPost.still HS.out hb2)
    clear HSL hb2
    go_wp2_with fail
    go_ret
    exact HEND.out
  · have g1 : decide ((a : Int) < 0) = false := decide_eq_false (by omega)
    have g2 : decide ((d.text.size : Int) < (a : Int)) = false := decide_eq_false (by omega)
    have g3 : decide (3000 < (d.text.size : Int) + (put.size : Int)) = false := decide_eq_false (by omega)
    obtain ⟨text', lv', ls', work', ht', hpre, hBz, hb1, hb2, hlo, hmx, hhi, ho⟩ := HS.out.edited he
    have z2 : w1.cell? ⟨d.bD, 2, none⟩ = some (.string d.text) := cell_at hpre.cell rfl
    obtain ⟨b, hb⟩ : ∃ b, b = (d.text.data.toList.drop a).count 10 := ⟨_, rfl⟩
    rw [← hb] at hb1 hb2 hhi
    have hteq : d.text.extract 0 a ++ put ++ d.text.extract a d.text.size = text' := WideShapes.bytes_inj (by
      rw [ht']
      rw [ByteArray.data_append, ByteArray.data_append, Array.toList_append, Array.toList_append, extract_list, extract_list, List.take_of_length_le (l := d.text.data.toList.drop a) (by rw [List.length_drop, text_length]; omega)]
      simp)
    have HED := hide (fun W (hb : Below w1.heap.size w1 W) => edited_any W d text' lv' ls' work' put b (hpre.below hb) (Nat.le_trans hBz hb.size) hb1 hb2 (by omega) (by omega) hlo hhi)
    have HEN := hide (fun W => show Calls Tryz.prog 67 #[.string (d.text.extract a d.text.size)] W (fun e w' => e = .returned (.int .i64 b) ∧ w' = W) from by
      have h := ends_any (d.text.extract a d.text.size) W (by
        have h1 := congrArg List.length (extract_list d.text a d.text.size)
        rw [text_length, List.length_take, List.length_drop, text_length] at h1
        omega)
      rw [extract_list, List.take_of_length_le (by rw [List.length_drop, text_length]; omega), ← hb] at h
      exact h)
    have HO := hide ho
    have HMX := hide hmx
    have HNM := hide (fun W => num_any 0 W)
    clear he ht' hpre hBz hb1 hb2 hlo hhi hmx ho hb HIN c0 c2
    go_wp2_with fail
    have hmx : Tryz.prog.follows .mixedOrders = true := by kernel_rfl
    have hc1 : ¬ 9223372036854775807 < a + put.size := by omega
    have hc2 : ¬ 9223372036854775807 < a + put.size + (d.text.size - a) := by omega
    refine wp_tail 24 hmx (by kernel_rfl) ?_
    simp only [List.take_succ_cons, List.take_zero, List.drop_succ_cons, List.drop_zero]
    repeat still_step
    still_call (HEN.out _)
    refine wpStill_nil ?_
    go_wp2_with fail
    refine (HED.out _ (Below.refl _ _).drew).mono ?_
    rintro e w4 hp
    obtain ⟨rfl, hst⟩ := HS.out.behind (HO.out.trans (Off.of_below (Below.refl _ _).drew)) hp HMX.out
    have HST := hide hst
    clear hst hp
    go_wp2_with fail
    refine (HNM.out _).mono ?_
    rintro e w5 ⟨rfl, e5⟩
    subst w5
    go_wp2_with fail
    go_ret
    exact HST.out
end Go.Proofs.YtgncgdkpkkdaeaaGreatDoor

/- A text beside the document's: remove. -/
namespace Go.Proofs.YtgncgdkpkkdaeaaGreatDoor
open Go.RowKit Tint Go.Maps Go.Shelf

set_option maxRecDepth 20000 in
set_option maxHeartbeats 4000000 in
theorem sideRemove_any (w : World) (d : SD) (i m : Int) (h : SideOk w d) (hwk : d.work ≤ 1000000000000000000) :
    Calls Tryz.prog 39 #[.pointer (some ⟨d.bD, 0, none⟩), .int .i64 i, .int .i64 m] w (StepPost w d) := by
  have c0 : w.cell? ⟨d.bD, 0, none⟩ = some (.pointer (some ⟨d.bX, 0, none⟩)) := cell_at h.is.cell rfl
  have c2 : w.cell? ⟨d.bD, 2, none⟩ = some (.string d.text) := cell_at h.is.cell rfl
  obtain ⟨sE, hrE⟩ := h.is.runs
  have HIN := hide (delete_any i m h.is.ok h.is.pos h.tab h.h0 h.is.gram h.hN h.mx h.hM h.is.sheet h.is.tx hrE hwk)
  have HS := hide h
  have hz := h.is.sheet.size
  clear h hrE
  go_enter Tryz.func39, Tryz.ntmps39
  go_wp2_with fail
  refine HIN.out.mono ?_
  rintro e w1 (⟨hi, rfl, e1⟩ | ⟨a, k, rfl, rfl, hak, rfl, he⟩)
  · subst w1
    have HNM := hide (num_any 8 w)
    have HSL := hide (still_any w d HS.out.is)
    by_cases h0 : m < 0
    · have g0 : decide (m < 0) = true := decide_eq_true h0
      go_wp2_with fail
      refine HNM.out.mono ?_
      rintro e w1 ⟨rfl, e1⟩
      subst w1
      clear HNM
      go_wp2_with fail
      refine HSL.out.mono ?_
      rintro e w2 ⟨rfl, hb2⟩
      have HEND := hide (StepPost.still HS.out hb2)
      clear HSL hb2
      go_wp2_with fail
      go_ret
      exact HEND.out
    · have g0 : decide (m < 0) = false := decide_eq_false h0
      by_cases h1 : i < 0
      · have g1 : decide (i < 0) = true := decide_eq_true h1
        go_wp2_with fail
        refine HNM.out.mono ?_
        rintro e w1 ⟨rfl, e1⟩
        subst w1
        clear HNM
        go_wp2_with fail
        refine HSL.out.mono ?_
        rintro e w2 ⟨rfl, hb2⟩
        have HEND := hide (StepPost.still HS.out hb2)
        clear HSL hb2
        go_wp2_with fail
        go_ret
        exact HEND.out
      · have g1 : decide (i < 0) = false := decide_eq_false h1
        by_cases h2 : (d.text.size : Int) < i
        · have g2 : decide ((d.text.size : Int) < i) = true := decide_eq_true h2
          go_wp2_with fail
          refine HNM.out.mono ?_
          rintro e w1 ⟨rfl, e1⟩
          subst w1
          clear HNM
          go_wp2_with fail
          refine HSL.out.mono ?_
          rintro e w2 ⟨rfl, hb2⟩
          have HEND := hide (StepPost.still HS.out hb2)
          clear HSL hb2
          go_wp2_with fail
          go_ret
          exact HEND.out
        · have g2 : decide ((d.text.size : Int) < i) = false := decide_eq_false h2
          have wz : IntKind.i64.wrap ((d.text.size : Int) - i) = (d.text.size : Int) - i := by rw [IntKind.wrap_i64]; omega
          have g3 : decide ((d.text.size : Int) - i < m) = true := decide_eq_true (by omega)
          go_wp2_with fail
          refine HNM.out.mono ?_
          rintro e w1 ⟨rfl, e1⟩
          subst w1
          clear HNM
          go_wp2_with fail
          refine HSL.out.mono ?_
          rintro e w2 ⟨rfl, hb2⟩
          have HEND := hide (StepPost.still HS.out hb2)
          clear HSL hb2
          go_wp2_with fail
          go_ret
          exact HEND.out
  · have g0 : decide ((k : Int) < 0) = false := decide_eq_false (by omega)
    have g1 : decide ((a : Int) < 0) = false := decide_eq_false (by omega)
    have g2 : decide ((d.text.size : Int) < (a : Int)) = false := decide_eq_false (by omega)
    have wz : IntKind.i64.wrap ((d.text.size : Int) - (a : Int)) = (d.text.size : Int) - (a : Int) := by rw [IntKind.wrap_i64]; omega
    have g3 : decide ((d.text.size : Int) - (a : Int) < (k : Int)) = false := decide_eq_false (by omega)
    obtain ⟨an, han⟩ : ∃ an, an = a + k := ⟨_, rfl⟩
    rw [← han] at he
    have wa : IntKind.i64.wrap ((a : Int) + (k : Int)) = (an : Int) := by rw [IntKind.wrap_i64]; omega
    have hanz : an ≤ d.text.size := by omega
    obtain ⟨text', lv', ls', work', ht', hpre, hBz, hb1, hb2, hlo, hmx, hhi, ho⟩ := HS.out.edited he
    have z2 : w1.cell? ⟨d.bD, 2, none⟩ = some (.string d.text) := cell_at hpre.cell rfl
    obtain ⟨b, hb⟩ : ∃ b, b = (d.text.data.toList.drop an).count 10 := ⟨_, rfl⟩
    rw [← hb] at hb1 hb2 hhi
    have hteq : d.text.extract 0 a ++ d.text.extract an d.text.size = text' := WideShapes.bytes_inj (by
      rw [ht', ByteArray.data_append, Array.toList_append, extract_list, extract_list, List.take_of_length_le (l := d.text.data.toList.drop an) (by rw [List.length_drop, text_length]; omega)]
      simp)
    have HED := hide (fun W (hb : Below w1.heap.size w1 W) => edited_any W d text' lv' ls' work' ⟨#[]⟩ b (hpre.below hb) (Nat.le_trans hBz hb.size) hb1 hb2 (by decide) (by omega) hlo hhi)
    have HEN := hide (fun W => show Calls Tryz.prog 67 #[.string (d.text.extract an d.text.size)] W (fun e w' => e = .returned (.int .i64 b) ∧ w' = W) from by
      have h := ends_any (d.text.extract an d.text.size) W (by
        have h1 := congrArg List.length (extract_list d.text an d.text.size)
        rw [text_length, List.length_take, List.length_drop, text_length] at h1
        omega)
      rw [extract_list, List.take_of_length_le (by rw [List.length_drop, text_length]; omega), ← hb] at h
      exact h)
    have HO := hide ho
    have HMX := hide hmx
    have HNM := hide (fun W => num_any 0 W)
    clear he ht' hpre hBz hb1 hb2 hlo hhi hmx ho hb HIN c0 c2 han
    go_wp2_with fail
    have hmx : Tryz.prog.follows .mixedOrders = true := by kernel_rfl
    have hc1 : ¬ 9223372036854775807 < a + (d.text.size - an) := by omega
    refine wp_tail 25 hmx (by kernel_rfl) ?_
    simp only [List.take_succ_cons, List.take_zero, List.drop_succ_cons, List.drop_zero]
    repeat still_step
    still_call (HEN.out _)
    refine wpStill_nil ?_
    go_wp2_with fail
    refine (HED.out _ (Below.refl _ _).drew).mono ?_
    rintro e w4 hp
    obtain ⟨rfl, hst⟩ := HS.out.behind (HO.out.trans (Off.of_below (Below.refl _ _).drew)) hp HMX.out
    have HST := hide hst
    clear hst hp
    go_wp2_with fail
    refine (HNM.out _).mono ?_
    rintro e w5 ⟨rfl, e5⟩
    subst w5
    go_wp2_with fail
    go_ret
    exact HST.out
end Go.Proofs.YtgncgdkpkkdaeaaGreatDoor

/- A text beside the document's: a step. -/
namespace Go.Proofs.YtgncgdkpkkdaeaaGreatDoor
open Go.RowKit Tint Go.Maps Go.Shelf

theorem StepPost.from {w W0 w' : World} {d : SD} {e : Ending} (h : StepPost W0 d e w') (hb : Below w.heap.size w W0) (hl : d.B ≤ w.heap.size) : StepPost w d e w' := by
  obtain ⟨h1, h2, h3⟩ := h
  exact ⟨h1, (hb.mono hl).trans h2, h3⟩

set_option maxRecDepth 20000 in
set_option maxHeartbeats 4000000 in
theorem step_any (w : World) (d : SD) (kd k a b : Int) (tx more : ByteArray) (h : SideOk w d) (hwk : d.work ≤ 1000000000000000000) (htz : tx.size ≤ 1000000000000000000) :
    Calls Tryz.prog 14 #[.pointer (some ⟨d.bD, 0, none⟩), .agg #[.int .i64 kd, .int .i64 k, .int .i64 a, .int .i64 b, .string tx, .string more]] w (StepPost w d) := by
  obtain ⟨W0, hW0⟩ : ∃ W0, w.alloc (.cells #[.int .i64 kd, .int .i64 k, .int .i64 a, .int .i64 b, .string tx, .string more] 33) = W0 := ⟨_, rfl⟩
  have hb0 : Below w.heap.size w W0 := by rw [← hW0]; exact (Below.refl _ _).alloc (Nat.le_refl _) _
  have h0 := h.below hb0
  have hc := heap_alloc_last w (.cells #[.int .i64 kd, .int .i64 k, .int .i64 a, .int .i64 b, .string tx, .string more] 33)
  rw [hW0] at hc
  have z0 : W0.cell? ⟨w.heap.size, 0, none⟩ = some (.int .i64 kd) := cell_at hc rfl
  have z2 : W0.cell? ⟨w.heap.size, 2, none⟩ = some (.int .i64 a) := cell_at hc rfl
  have z3 : W0.cell? ⟨w.heap.size, 3, none⟩ = some (.int .i64 b) := cell_at hc rfl
  have z4 : W0.cell? ⟨w.heap.size, 4, none⟩ = some (.string tx) := cell_at hc rfl
  have HI := hide (sideInsert_any W0 d a tx h0 hwk htz)
  have HRM := hide (sideRemove_any W0 d a b h0 hwk)
  have HLN := hide (sideLine_any W0 d a h0.is)
  have HSK := hide (sideStack_any W0 d a h0.is)
  have HWF := hide (whole_any W0 d false h0.is)
  have HWT := hide (whole_any W0 d true h0.is)
  have HF := hide (fun e w' (hp : StepPost W0 d e w') => hp.from hb0 h.is.lt)
  have HST := hide (fun w' (hb : Below W0.heap.size W0 w') => (StepPost.still h0 hb).from hb0 h.is.lt)
  clear h h0 hb0 hc
  go_enter Tryz.func14, Tryz.ntmps14
  go_wp2_with fail
  · refine HI.out.mono ?_
    rintro e w2 hp
    have HEND := hide (HF.out e w2 hp)
    obtain ⟨rfl, -, -⟩ := hp
    go_wp2_with fail
    go_ret
    exact HEND.out
  · refine HRM.out.mono ?_
    rintro e w2 hp
    have HEND := hide (HF.out e w2 hp)
    obtain ⟨rfl, -, -⟩ := hp
    go_wp2_with fail
    go_ret
    exact HEND.out
  · refine HLN.out.mono ?_
    rintro e w2 ⟨hb2, v, sps, rfl, -⟩
    have HEND := hide (HST.out w2 hb2)
    clear hb2
    go_wp2_with fail
    go_ret
    exact HEND.out
  · refine HSK.out.mono ?_
    rintro e w2 ⟨hb2, v, nms, rfl, -⟩
    have HEND := hide (HST.out w2 hb2)
    clear hb2
    go_wp2_with fail
    go_ret
    exact HEND.out
  · refine HWF.out.mono ?_
    rintro e w2 ⟨rfl, hb2⟩
    have HEND := hide (HST.out w2 hb2)
    clear hb2
    go_wp2_with fail
    go_ret
    exact HEND.out
  · refine HWT.out.mono ?_
    rintro e w2 ⟨rfl, hb2⟩
    have HEND := hide (HST.out w2 hb2)
    clear hb2
    go_wp2_with fail
    go_ret
    exact HEND.out
  · have HEND := hide (HST.out W0 (Below.refl _ _))
    go_ret
    exact HEND.out
end Go.Proofs.YtgncgdkpkkdaeaaGreatDoor

/- A text opened beside the document's: and its work. -/
namespace Go.Proofs.YtgncgdkpkkdaeaaGreatDoor
open Go.RowKit Tint Go.Maps Go.Shelf

def OpenedPost2 (w : World) (b : BD) (text : ByteArray) (e : Ending) (w' : World) : Prop :=
  Below w.heap.size w w' ∧ (e = .returned (.tuple #[.pointer none, .bool true]) ∨ ∃ d : SD, e = .returned (.tuple #[.pointer (some ⟨d.bD, 0, none⟩), .bool true]) ∧ SideIs w' d ∧ d.N = b.N ∧ d.text = text ∧ w.heap.size ≤ d.B ∧ d.B ≤ d.bD ∧ d.B ≤ d.bX ∧ d.G = b.G ∧ d.work ≤ 3001)

set_option maxRecDepth 20000 in
set_option maxHeartbeats 4000000 in
theorem opened2_any (w : World) (b : BD) (text : ByteArray) (h : BothIs w b) (hT : Tab w) (hM : Mx w) (h0 : 1 < b.N) (hMN : 0 < b.N) :
    Calls Tryz.prog 12 #[.pointer (some ⟨b.bB, 0, none⟩), .string text] w (OpenedPost2 w b text) := by
  have c0 : w.cell? ⟨b.bB, 0, none⟩ = some (.pointer (some ⟨b.P, 0, none⟩)) := cell_at h.cell rfl
  have hgr := h.gram w (Below.refl _ _)
  have hn : 0 < b.n := by rw [hgr.len]; exact h.pos
  have HOP := hide (open_any b.N b.P b.g b.n b.cap b.G text w h.top hn h.ok h.pos hT h0 h.gram h.hN hM hMN)
  have HS := hide h
  clear h hT hM hgr
  go_enter Tryz.func12, Tryz.ntmps12
  go_wp2_with fail
  refine HOP.out.mono ?_
  rintro e w1 ⟨hb1, ⟨hz, rfl⟩ | ⟨hz, bX, bS, lv, ls, st, rfl, hx1, hbX, hs1, hr1⟩⟩
  · have g1 : decide ((3000 : Int) < (text.size : Int)) = true := decide_eq_true (by omega)
    have HEND := hide (show OpenedPost2 w b text (.returned (.tuple #[.pointer none, .bool true])) w1 from ⟨hb1, .inl rfl⟩)
    have HN := hide (num_any 1 w1)
    clear hb1 HOP c0
    go_wp2_with fail
    refine HN.out.mono ?_
    rintro e w2 ⟨rfl, h2⟩
    subst h2
    clear HN
    go_wp2_with fail
    go_ret2
    exact HEND.out
  · have g1 : decide ((3000 : Int) < (text.size : Int)) = false := decide_eq_false (by omega)
    have c1 : w1.cell? ⟨b.bB, 1, none⟩ = some (.pointer (some ⟨b.Pr, 0, none⟩)) := cell_at (HS.out.below hb1).cell rfl
    have HN := hide (num_any 0 w1)
    have HX := hide (And.intro hx1 (And.intro hs1 hr1))
    have HB1 := hide hb1
    clear hb1 hx1 hs1 hr1 HOP c0
    go_wp2_with fail
    refine HN.out.mono ?_
    rintro e w2 ⟨rfl, h2⟩
    subst h2
    clear HN
    obtain ⟨bD, hbD⟩ : ∃ bD, bD = w2.heap.size := ⟨_, rfl⟩
    obtain ⟨wa, hwa⟩ : ∃ wa, w2.alloc (.cells #[.pointer (some ⟨bX, 0, none⟩), .pointer (some ⟨b.Pr, 0, none⟩), .string text, .slice none 0 0, .slice none 0 0, .int .i64 0] 89) = wa := ⟨_, rfl⟩
    have hba : Below w2.heap.size w2 wa := by rw [← hwa]; exact (Below.refl _ _).alloc (Nat.le_refl _) _
    have hDa : wa.heap[bD]? = some (.cells #[.pointer (some ⟨bX, 0, none⟩), .pointer (some ⟨b.Pr, 0, none⟩), .string text, .slice none 0 0, .slice none 0 0, .int .i64 0] 89 (0, 0)) := by rw [← hwa]; exact heap_alloc_at _ _ _ hbD
    have hbwa : Below w.heap.size w wa := HB1.out.trans (hba.mono HB1.out.size)
    have c1a : wa.cell? ⟨b.bB, 1, none⟩ = some (.pointer (some ⟨b.Pr, 0, none⟩)) := cell_at (HS.out.below hbwa).cell rfl
    have HST := hide (refStacks_any b.Br b.Pr b.gr b.nr b.cr b.ss b.G text wa (HS.out.rg wa (hbwa.mono HS.out.hN)) HS.out.same HS.out.ok HS.out.pos hz)
    have HBA := hide hba
    have HBWA := hide hbwa
    have HDA := hide hDa
    clear hba hbwa hDa
    go_wp2_with fail
    rw [← hbD]
    refine HST.out.mono ?_
    rintro e w3 ⟨vo, vs, es, st3, rfl, ho3, hs3, he3, hr3, hb3⟩
    obtain ⟨oo, oc, hvo⟩ := row_slice ho3
    obtain ⟨so, sc, hvs⟩ := row_slice hs3
    subst hvo
    subst hvs
    obtain ⟨nl, hnl⟩ : ∃ nl, nl = es.length := ⟨_, rfl⟩
    rw [← hnl] at ho3 hs3 ⊢
    have HNL := hide hnl
    clear hnl
    have hD3 := (hb3.block _ (lt_of_get HDA.out)).trans HDA.out
    have z3 : w3.cell? ⟨bD, 3, none⟩ = some (.slice none 0 0) := cell_at hD3 rfl
    have z3f : w3.frozen? ⟨bD, 3, none⟩ = false := by simp [World.frozen?, hD3]
    obtain ⟨w4, hw4⟩ : ∃ w4, w3.setCell ⟨bD, 3, none⟩ (.slice oo nl oc) = w4 := ⟨_, rfl⟩
    have hD4 : w4.heap[bD]? = some (.cells #[.pointer (some ⟨bX, 0, none⟩), .pointer (some ⟨b.Pr, 0, none⟩), .string text, .slice oo nl oc, .slice none 0 0, .int .i64 0] 89 (0, 0)) := by rw [← hw4]; simpa using heap_setCell_same w3 bD 3 (.slice oo nl oc) hD3
    have o4 : Off (fun k => k = bD) w3 w4 := by rw [← hw4]; exact Off.setCell (Y := fun k => k = bD) (p := ⟨bD, 3, none⟩) rfl hD3 (by decide) _
    have z4 : w4.cell? ⟨bD, 4, none⟩ = some (.slice none 0 0) := cell_at hD4 rfl
    have z4f : w4.frozen? ⟨bD, 4, none⟩ = false := by simp [World.frozen?, hD4]
    obtain ⟨w5, hw5⟩ : ∃ w5, w4.setCell ⟨bD, 4, none⟩ (.slice so nl sc) = w5 := ⟨_, rfl⟩
    have hD5 : w5.heap[bD]? = some (.cells #[.pointer (some ⟨bX, 0, none⟩), .pointer (some ⟨b.Pr, 0, none⟩), .string text, .slice oo nl oc, .slice so nl sc, .int .i64 0] 89 (0, 0)) := by rw [← hw5]; simpa using heap_setCell_same w4 bD 4 (.slice so nl sc) hD4
    have o5 : Off (fun k => k = bD) w3 w5 := o4.trans (by rw [← hw5]; exact Off.setCell (Y := fun k => k = bD) (p := ⟨bD, 4, none⟩) rfl hD4 (by decide) _)
    have z5 : w5.cell? ⟨bD, 5, none⟩ = some (.int .i64 0) := cell_at hD5 rfl
    have z5f : w5.frozen? ⟨bD, 5, none⟩ = false := by simp [World.frozen?, hD5]
    obtain ⟨w6, hw6⟩ : ∃ w6, w5.setCell ⟨bD, 5, none⟩ (.int .i64 nl) = w6 := ⟨_, rfl⟩
    have hD6 : w6.heap[bD]? = some (.cells #[.pointer (some ⟨bX, 0, none⟩), .pointer (some ⟨b.Pr, 0, none⟩), .string text, .slice oo nl oc, .slice so nl sc, .int .i64 nl] 89 (0, 0)) := by rw [← hw6]; simpa using heap_setCell_same w5 bD 5 (.int .i64 nl) hD5
    have o6 : Off (fun k => k = bD) w3 w6 := o5.trans (by rw [← hw6]; exact Off.setCell (Y := fun k => k = bD) (p := ⟨bD, 5, none⟩) rfl hD5 (by decide) _)
    have z63 : w6.cell? ⟨bD, 3, none⟩ = some (.slice oo nl oc) := cell_at hD6 rfl
    have z65 : w6.cell? ⟨bD, 5, none⟩ = some (.int .i64 nl) := cell_at hD6 rfl
    have hb23 : Below w2.heap.size w2 w3 := HBA.out.trans (hb3.mono HBA.out.size)
    have hll : ls.length = nl := by
      have h := congrArg List.length (HX.out.2.2.det hr3).1
      simp only [List.length_map] at h
      rw [h, HNL.out]
    have hs30 := HX.out.2.1.below hb23
    rw [hll] at hs30
    have hx30 := (hb23.block _ (lt_of_get HX.out.1)).trans HX.out.1
    have HWK := hide (txWork_any (hs30.offD o5 hD3) (off_typ o5 hD3 hx30 (by decide)))
    have HEND := hide (fun m => show OpenedPost2 w b text (.returned (.tuple #[.pointer (some ⟨bD, 0, none⟩), .bool true])) (w6.drewN m) from by
      have hbD' : w.heap.size ≤ bD := by rw [hbD]; exact HB1.out.size
      have hbw3 : Below w.heap.size w w3 := HB1.out.trans (hb23.mono HB1.out.size)
      have hbw6 : Below w.heap.size w w6 := ⟨o6.os.trans hbw3.os, o6.tape.trans hbw3.tape, o6.output.trans hbw3.output, Nat.le_trans hbw3.size o6.size, fun k hk => (o6.keep k ⟨Nat.lt_of_lt_of_le hk hbw3.size, by omega⟩).trans (hbw3.block k hk)⟩
      have hnl3 : nl ≤ 3001 := by
        have h1 := hr3.length
        rw [List.length_map, splitL_length] at h1
        have h2 := List.count_le_length (a := (10 : UInt8)) (l := text.data.toList)
        rw [text_length] at h2
        have h3 := HNL.out
        omega
      refine ⟨Below.drewN' hbw6 m, .inr ⟨⟨bD, bX, bS, b.g, b.n, b.cap, b.Pr, b.gr, b.nr, b.cr, b.Br, w.heap.size, b.N, text, lv, .slice oo nl oc, .slice so nl sc, ls, es, nl, b.ss, b.G⟩, rfl, SideIs.drew ?_ m, rfl, rfl, Nat.le_refl _, hbD', hbX, rfl, hnl3⟩⟩
      refine ⟨hD6, off_typ o6 hD3 hx30 (by decide), hs30.offD o6 hD3, ?_, ?_, fun e he => ⟨(he3 e he).1.keep fun c fz hh => off_typ o6 hD3 hh (by decide), ?_, (he3 e he).2.2⟩, ⟨st, HX.out.2.2⟩, ⟨st3, hr3⟩, fun w' hb => HS.out.gram w' ((hbw6.mono HS.out.hN).trans hb), fun w' hb => HS.out.rg w' ((hbw6.mono HS.out.hN).trans hb), Nat.le_trans HS.out.hN hbw6.size, HS.out.same, HS.out.ok, HS.out.pos⟩
      · have h := offD_row (row_base ho3 HBWA.out.size) o6 hD3 (by decide)
        show w6.ownsRow _ _ _ _ es.length _
        rw [← HNL.out]
        exact h
      · have h := offD_row (row_base hs3 HBWA.out.size) o6 hD3 (by decide)
        show w6.ownsRow _ _ _ _ es.length _
        rw [← HNL.out]
        exact h
      · exact offD_row (row_base (he3 e he).2.1 HBWA.out.size) o6 hD3 (by decide))
    clear hD3 hD4 hD5 hD6 o4 o5 o6 hb23 hll hs30 hx30 ho3 hs3 he3 hr3 hb3 HX HST HDA HBA HBWA HB1 hbD c1 c1a hwa
    go_wp2_with fail
    refine HWK.out.mono ?_
    rintro e w7 ⟨rfl, h7⟩
    subst h7
    clear HWK
    go_wp2_with fail
    go_quiet (fail)
    go_wp2_with fail
    go_ret2
    exact HEND.out _
end Go.Proofs.YtgncgdkpkkdaeaaGreatDoor

/- Edits: walked whole. -/
namespace Go.Proofs.YtgncgdkpkkdaeaaGreatDoor
open Go.RowKit Tint Go.Maps Go.Shelf

/-- A script, to be read. -/
def OpAt (w : World) (sb of : Nat) : Prop := ∃ (kd k a b : Int) (tx more : ByteArray), tx.size ≤ 1000000000000000000 ∧ w.cell? ⟨sb, of, none⟩ = some (.int .i64 kd) ∧ w.cell? ⟨sb, of + 1, none⟩ = some (.int .i64 k) ∧ w.cell? ⟨sb, of + 2, none⟩ = some (.int .i64 a) ∧ w.cell? ⟨sb, of + 3, none⟩ = some (.int .i64 b) ∧ w.cell? ⟨sb, of + 4, none⟩ = some (.string tx) ∧ w.cell? ⟨sb, of + 5, none⟩ = some (.string more)

def ScriptAt (w : World) (v : Value) (n : Nat) : Prop := n ≤ 100000000000000 ∧ ∃ (ao : Option Addr) (c : Nat), v = .slice ao n c ∧ ∀ j, j < n → ∃ sb of, ao = some ⟨sb, of, none⟩ ∧ OpAt w sb (of + j * 6)

theorem OpAt.below {w w' : World} {sb of : Nat} (h : OpAt w sb of) (hb : Below w.heap.size w w') : OpAt w' sb of := by
  obtain ⟨kd, k, a, b, tx, more, h0, h1, h2, h3, h4, h5, h6⟩ := h
  exact ⟨kd, k, a, b, tx, more, h0, cell_below h1 hb, cell_below h2 hb, cell_below h3 hb, cell_below h4 hb, cell_below h5 hb, cell_below h6 hb⟩

def EdLoop (w : World) (n B bD : Nat) (k : Nat) (vo vi : Value) (wr : World) : Prop :=
  ∃ (j : Nat) (d : SD), vi = .int .i64 j ∧ vo = .bool true ∧ j + k = n ∧ SideOk wr d ∧ d.B = B ∧ d.bD = bD ∧ d.work ≤ 3001 + j * 3001 ∧ Below w.heap.size w wr

set_option maxRecDepth 20000 in
set_option maxHeartbeats 4000000 in
theorem edits_walk (s text : ByteArray) (v : Value) (n : Nat) (w : World) (hT : Tab w) (hm : Mx w) (hz : s.size ≤ maxLen) (hv : ScriptAt w v n) : Calls Tryz.prog 4 #[.string s, .string text, v] w fun e w' => e = .returned (.bool true) ∧ Below w.heap.size w w' := by
  have t0 : 1 < w.heap.size := cell_lt (hT 0 (by decide))
  have m0 : 0 < w.heap.size := by obtain ⟨m, h⟩ := hm; exact cell_lt h
  obtain ⟨hn, sao, scp, rfl, hops⟩ := hv
  have HOPS := hide hops
  have HL := hide (loadedBoth_any s w hm hz)
  have HK := hide (And.intro hT hm)
  clear hT hm hops
  go_enter Tryz.func4, Tryz.ntmps4
  go_wp2_with fail
  refine HL.out.mono ?_
  rintro e w1 ⟨hb1, rfl | ⟨b, rfl, hB, hN, hNB⟩⟩
  · have HEND := hide hb1
    clear hb1 HL
    go_wp2_with fail
    go_ret
    exact ⟨rfl, HEND.out⟩
  · have HO := hide (opened2_any w1 b text hB (HK.out.1.below hb1) (HK.out.2.below hb1) (Nat.lt_of_lt_of_le t0 hN) (Nat.lt_of_lt_of_le m0 hN))
    have HB1 := hide hb1
    have HBN := hide (And.intro hB.hN hN)
    clear hb1 hB HL
    go_wp2_with fail
    refine HO.out.mono ?_
    rintro e w2 ⟨hb2, rfl | ⟨d, rfl, hS, hdN, hdt, hdB, hdD, hdX, -, hdw⟩⟩
    · have HEND := hide (HB1.out.trans (hb2.mono HB1.out.size))
      clear hb2 HO
      go_wp2_with fail
      go_ret
      exact ⟨rfl, HEND.out⟩
    · have hbw2 := HB1.out.trans (hb2.mono HB1.out.size)
      have hok : SideOk w2 d := ⟨hS, HK.out.1.below hbw2, HK.out.2.below hbw2, by rw [hdN]; exact Nat.lt_of_lt_of_le t0 hN, by rw [hdN]; exact Nat.lt_of_lt_of_le m0 hN, by rw [hdN]; exact Nat.le_trans HBN.out.1 hdB, hdD, hdX⟩
      have hwB : w.heap.size ≤ d.B := Nat.le_trans HB1.out.size hdB
      have HJ0 := hide (show EdLoop w n d.B d.bD n (.bool true) (.int .i64 0) w2 from ⟨0, d, rfl, rfl, by omega, hok, rfl, rfl, by omega, hbw2⟩)
      clear hb2 hS HO hok hbw2 hdN hdt hdB hdD hdX
      have HWB := hide hwB
      obtain ⟨bD, hbD⟩ : ∃ bD, bD = d.bD := ⟨_, rfl⟩
      obtain ⟨B0, hB0⟩ : ∃ B0, B0 = d.B := ⟨_, rfl⟩
      rw [← hbD, ← hB0] at HJ0
      rw [← hB0] at HWB
      rw [← hbD]
      clear hwB hbD hB0 hdw
      go_wp2_with fail
      go_loopg [8, 10] n (fun k vo vi wr => EdLoop w n B0 bD k vo vi wr)
      case atStart => exact HJ0.out
      case round =>
        obtain ⟨j, d2, rfl, rfl, hjk, hok2, hB2, hD2, hw2, hbr⟩ := hrel
        by_cases hlt : j < n
        · have g1 : decide ((j : Int) < (n : Int)) = true := decide_eq_true (by omega)
          have hwr : IntKind.i64.wrap ((j : Int) + 1) = (j : Int) + 1 := by rw [IntKind.wrap_i64]; omega
          obtain ⟨sb, of, hao, hop⟩ := HOPS.out j hlt
          subst hao
          obtain ⟨kd, k, a, b', tx, more, h0, y0, y1, y2, y3, y4, y5⟩ := hop.below hbr
          have HSP := hide (step_any wr d2 kd k a b' tx more hok2 (by omega) h0)
          rw [hD2] at HSP
          have HNX := hide (fun e w' (hp : StepPost wr d2 e w') => show EdLoop w n B0 bD (n - (j + 1)) (.bool true) (.int .i64 ((j : Int) + 1)) w' from by
            obtain ⟨_, hb, d3, h1, h2, h3, h4⟩ := hp
            have hl : w.heap.size ≤ d2.B := by rw [hB2]; exact HWB.out
            refine ⟨j + 1, d3, by simp, rfl, by omega, h1, by rw [h2, hB2], by rw [h3, hD2], by omega, hbr.trans (hb.mono hl)⟩)
          clear hok2 hbr hop hw2
          go_wp2_with fail
          refine HSP.out.mono ?_
          rintro e w4 hp
          have HST := hide (HNX.out e w4 hp)
          obtain ⟨rfl, -, -⟩ := hp
          clear HNX HSP
          go_wp2_with fail
          go_roundg (n - (j + 1))
          case measure => omega
          case rel => exact HST.out
        · have g1 : decide ((j : Int) < (n : Int)) = false := decide_eq_false (by omega)
          have HW := hide (whole_any wr d2 true hok2.is)
          rw [hD2] at HW
          have HBR := hide hbr
          clear hok2 hbr hw2
          go_wp2_with fail
          refine HW.out.mono ?_
          rintro e w3 ⟨rfl, hb3⟩
          have HEND := hide (HBR.out.trans (hb3.mono HBR.out.size))
          clear hb3 HW HBR
          go_wp2_with fail
          go_ret
          exact ⟨rfl, HEND.out⟩
end Go.Proofs.YtgncgdkpkkdaeaaGreatDoor

namespace Go.Proofs.YtgncgdkpkkdaeaaGreatDoor.edits_
open Go.ChangeShapes Go.WideShapes Go.ChangeAt Go.ChangeMaps Go.RowKit Go.Deep

theorem laid_out : laidOutB Tryz.prog = true := by kernel_rfl
theorem op_cells : Tryz.prog.cellsOf 33 = 6 := by kernel_rfl
theorem op_bytes : Tryz.prog.bytesOf 33 = 64 := by kernel_rfl
theorem int_cells : Tryz.prog.cellsOf 3 = 1 := by kernel_rfl
theorem str_cells : Tryz.prog.cellsOf 9 = 1 := by kernel_rfl

theorem all_mem {H : Type} {P : Program} {e : TypeId} {d : DataW H} {x : Nat} : ∀ {l : List (DataW H)}, d ∈ l → x ∈ d.weights P e → x ∈ DataW.weightsAll P e l := by
  intro l
  induction l with
  | nil => intro h; simp at h
  | cons y l ih =>
    intro h hx
    unfold DataW.weightsAll
    rcases List.mem_cons.1 h with rfl | h
    · exact List.mem_append_left _ hx
    · exact List.mem_append_right _ (ih h hx)

set_option maxRecDepth 100000 in
theorem script_of {H : Type} {enc : TypeId × Value → H} {W : World} {base : Nat} {v : Value} {d : DataW H} {ps : List MemPlace} (hv : Value.okWide Tryz.prog W .any base 30 v) (h : DataW.Trod enc Tryz.prog W 0 (fun _ => true) true 30 v d ps)
    (hs : ∀ x ∈ d.weights Tryz.prog 30, x ≤ reachBytes) : ∃ n, ScriptAt W v n := by
  obtain ⟨a0, len, cap, rfl⟩ := okWide_slice Tryz.underlying30 hv
  obtain ⟨fuel, hf⟩ := h
  have hc : (Value.slice a0 len cap).cells.toList = [.slice a0 len cap] := by simp [Value.cells]
  rcases open_slice Tryz.underlying30 hf with ⟨h1, _⟩ | ⟨a, len', cap', m, n, D, Pl, h1, hb, hl, hm, hmm, hx, hall⟩
  · rw [hc] at h1
    simp only [List.cons.injEq, and_true] at h1
    exact ⟨0, by omega, none, 0, h1, fun j hj => by omega⟩
  · rw [hc] at h1
    simp only [List.cons.injEq, and_true] at h1
    rw [h1]
    simp only [if_true] at hmm
    simp only [Prod.mk.injEq] at hx
    rw [hx.1] at hs
    have hn : len' ≤ 100000000000000 := by
      have := hs ((((List.range len').map D).length + ((List.range (m - len')).map fun j => D (len' + j)).length) * Tryz.prog.bytesOf 33) (by unfold DataW.weights; rw [Tryz.underlying30]; exact List.mem_cons_self)
      rw [op_bytes, List.length_map, List.length_range] at this
      unfold reachBytes at this
      omega
    refine ⟨len', hn, some a, cap', rfl, fun j hj => ?_⟩
    obtain ⟨sb, of, spot⟩ := a
    have hsp : spot = none := by
      obtain ⟨c0, p0, _⟩ := hall 0 (by omega)
      rw [op_cells] at p0
      obtain ⟨_, hl0, hc0⟩ := World.cells?_some p0
      have h6 := hc0 0 (by omega)
      rw [List.getElem?_eq_getElem (by omega)] at h6
      have := World.cell?_spot h6
      simpa [Addr.add] using this
    subst hsp
    obtain ⟨cs', h2, h3⟩ := hall j (by omega)
    rw [op_cells] at h2
    obtain ⟨_, hlen, hcell⟩ := World.cells?_some h2
    obtain ⟨xs, k, hk, hxy, _, hxl, hfl⟩ := DataW.trod_struct Tryz.underlying33 h3
    match cs', hlen with
    | [v0, v1, v2, v3, v4, v5], _ =>
      obtain ⟨y0, e0⟩ : ∃ y, xs[0]? = some y := ⟨_, List.getElem?_eq_getElem (by rw [hxl]; decide)⟩
      have g0 : DataW.trod enc Tryz.prog W 0 (fun _ => true) true k 3 [v0] = xs[0]? := by
        have := hfl 0 _ rfl
        simpa [int_cells] using this
      rw [e0] at g0
      obtain ⟨z0, hz0, _, _⟩ := DataW.trod_int Tryz.underlying3 g0
      simp only [List.cons.injEq, and_true] at hz0
      obtain ⟨y1, e1⟩ : ∃ y, xs[1]? = some y := ⟨_, List.getElem?_eq_getElem (by rw [hxl]; decide)⟩
      have g1 : DataW.trod enc Tryz.prog W 0 (fun _ => true) true k 3 [v1] = xs[1]? := by
        have := hfl 1 _ rfl
        simpa [int_cells] using this
      rw [e1] at g1
      obtain ⟨z1, hz1, _, _⟩ := DataW.trod_int Tryz.underlying3 g1
      simp only [List.cons.injEq, and_true] at hz1
      obtain ⟨y2, e2⟩ : ∃ y, xs[2]? = some y := ⟨_, List.getElem?_eq_getElem (by rw [hxl]; decide)⟩
      have g2 : DataW.trod enc Tryz.prog W 0 (fun _ => true) true k 3 [v2] = xs[2]? := by
        have := hfl 2 _ rfl
        simpa [int_cells] using this
      rw [e2] at g2
      obtain ⟨z2, hz2, _, _⟩ := DataW.trod_int Tryz.underlying3 g2
      simp only [List.cons.injEq, and_true] at hz2
      obtain ⟨y3, e3⟩ : ∃ y, xs[3]? = some y := ⟨_, List.getElem?_eq_getElem (by rw [hxl]; decide)⟩
      have g3 : DataW.trod enc Tryz.prog W 0 (fun _ => true) true k 3 [v3] = xs[3]? := by
        have := hfl 3 _ rfl
        simpa [int_cells] using this
      rw [e3] at g3
      obtain ⟨z3, hz3, _, _⟩ := DataW.trod_int Tryz.underlying3 g3
      simp only [List.cons.injEq, and_true] at hz3
      obtain ⟨y4, e4⟩ : ∃ y, xs[4]? = some y := ⟨_, List.getElem?_eq_getElem (by rw [hxl]; decide)⟩
      have g4 : DataW.trod enc Tryz.prog W 0 (fun _ => true) true k 9 [v4] = xs[4]? := by
        have := hfl 4 _ rfl
        simpa [str_cells] using this
      rw [e4] at g4
      obtain ⟨s4, hz4, hy4, _⟩ := DataW.trod_string Tryz.underlying9 g4
      simp only [List.cons.injEq, and_true] at hz4
      obtain ⟨y5, e5⟩ : ∃ y, xs[5]? = some y := ⟨_, List.getElem?_eq_getElem (by rw [hxl]; decide)⟩
      have g5 : DataW.trod enc Tryz.prog W 0 (fun _ => true) true k 9 [v5] = xs[5]? := by
        have := hfl 5 _ rfl
        simpa [str_cells] using this
      rw [e5] at g5
      obtain ⟨s5, hz5, hy5, _⟩ := DataW.trod_string Tryz.underlying9 g5
      simp only [List.cons.injEq, and_true] at hz5
      have hsz : s4.data.toList.length ≤ reachBytes := by
        refine hs _ ?_
        unfold DataW.weights
        rw [Tryz.underlying30]
        refine List.mem_cons_of_mem _ (List.mem_append_left _ (all_mem (d := D j) (List.mem_map.2 ⟨j, List.mem_range.2 hj, rfl⟩) ?_))
        simp only [Prod.mk.injEq] at hxy
        rw [hxy.1]
        unfold DataW.weights
        rw [Tryz.underlying33]
        exact DataW.weights_mem_each (j := 4) (t := 9) rfl (by rw [List.getElem?_map, e4, hy4]; rfl) _ (by unfold DataW.weights; exact List.mem_singleton.2 rfl)
      refine ⟨sb, of, rfl, z0, z1, z2, z3, s4, s5, by have e : s4.data.toList.length = s4.size := rfl; rw [e] at hsz; unfold reachBytes at hsz; omega, ?_, ?_, ?_, ?_, ?_, ?_⟩
      · have := hcell 0 (by omega)
        rw [addr_add, addr_add] at this
        rw [← hz0]
        simpa using this
      · have := hcell 1 (by omega)
        rw [addr_add, addr_add] at this
        rw [← hz1]
        simpa using this
      · have := hcell 2 (by omega)
        rw [addr_add, addr_add] at this
        rw [← hz2]
        simpa using this
      · have := hcell 3 (by omega)
        rw [addr_add, addr_add] at this
        rw [← hz3]
        simpa using this
      · have := hcell 4 (by omega)
        rw [addr_add, addr_add] at this
        rw [← hz4]
        simpa using this
      · have := hcell 5 (by omega)
        rw [addr_add, addr_add] at this
        rw [← hz5]
        simpa using this
set_option maxRecDepth 100000 in
theorem contract (H : Type) (enc : TypeId × Value → H) (W : World) (base : Nat) (args : Array Value) (ds gs : List (DataW H)) (before : List MemPlace)
    (hval : ∀ (j : Nat) t v, Tryz.f4.params[j]? = some t → args[j]? = some v → Value.okWide Tryz.prog W .any base t v)
    (hW : DataW.Whole enc Tryz.prog Tryz.f4.params.toList Rows.editsSpec.vars false W args.toList ds gs before)
    (hsz0 : (DataW.weightsEach Tryz.prog (Tryz.f4.params.toList ++ (OpenSpec.ofChange Rows.editsSpec).bare.plain.varTypes Tryz.prog) (ds ++ gs)).all (· ≤ reachBytes) = true)
    (hL : laidMetH Tryz.prog Rows.editsRow.laid W) (hsh : W.ShapedOpen Tryz.prog) :
    Calls Tryz.prog 4 args W fun e W' => ∃ v, e = .returned v ∧ Rows.editsSpec.post enc Tryz.prog Tryz.f4 false true false false W args v W' := by
  have hW' := hW
  obtain ⟨p, q, hA0, hV, rfl, hfz, hnd⟩ := hW
  have hA : DataW.TrodAll enc Tryz.prog W 0 (fun _ => true) true Tryz.f4.params.toList args.toList ds p := hA0
  have hsz : (DataW.weightsEach Tryz.prog (Tryz.f4.params.toList ++ []) (ds ++ gs)).all (· ≤ reachBytes) = true := hsz0
  rw [Tryz.params4] at hA hval hsz
  obtain ⟨v0, vs0, d0, ds0, p0, q0, hargs, rfl, rfl, h0, r0⟩ := trodAll_cons hA
  obtain ⟨v1, vs1, d1, ds1, p1, q1, rfl, rfl, rfl, h1, r1⟩ := trodAll_cons r0
  obtain ⟨v2, vs2, d2, ds2, p2, q2, rfl, rfl, rfl, h2, r2⟩ := trodAll_cons r1
  obtain ⟨rfl, rfl, rfl⟩ := trodAll_nil r2
  obtain rfl : args = #[v0, v1, v2] := Array.toList_inj.1 hargs
  obtain ⟨rfl, rfl⟩ := trodVars_none hV
  obtain ⟨s, rfl, rfl, rfl, hz0⟩ := open_string Tryz.underlying9 (hval 0 9 v0 rfl rfl) h0
  obtain ⟨text, rfl, rfl, rfl, hz1⟩ := open_string Tryz.underlying9 (hval 1 9 v1 rfl rfl) h1
  have hlt := hW'.lt
  obtain ⟨n, hscr⟩ := script_of (hval 2 30 v2 rfl rfl) h2 (fun x hx => by
    have := List.all_eq_true.1 hsz x (DataW.weights_mem_each (j := 2) (t := 30) rfl rfl x hx)
    simpa using this)
  clear hA0
  obtain ⟨hT, -⟩ := tab_of_laid hL
  have hm : Mx W := cell_of_shapedOpen_int (P := Tryz.prog) (zero := #[.int .i64 0]) (t := 3) (k := .i64) hsh (of_decide_eq_true (by kernel_rfl)) (by kernel_rfl) rfl (by kernel_rfl) (by kernel_rfl) Tryz.underlying3
  simp only [List.append_nil] at hW'
  refine (edits_walk s text v2 n W hT hm hz0 hscr).mono fun e W' ⟨he, hB⟩ => ?_
  subst he
  refine ⟨_, rfl, _, _, _, [], [] ++ ([] ++ (p2 ++ [])), [], hW', trodAll_cons_mk (shut_bool Tryz.underlying4 _) trodAll_mk0,
    trodAll_cons_mk (shut_string Tryz.underlying9 hz0) (trodAll_cons_mk (shut_string Tryz.underlying9 hz1) (trodAll_cons_mk (Below.trod laid_out (by kernel_rfl) (of_decide_eq_true (by kernel_rfl)) h2 hB (fun x hx => hlt x (by simp [hx]))) trodAll_mk0)), rfl, hB.frame _, fun h => by cases h⟩

theorem laid_met (os : Os) : laidMet Tryz.prog Rows.editsRow.laid ((laidWorld os).forCall (fun _ _ => 0) ⟨#[], #[.string ⟨#[]⟩, .string ⟨#[]⟩, .slice none 0 0], []⟩).memory :=
  laidMet_of_run' 8 (by kernel_rfl) (by kernel_rfl)
theorem reads (os : Os) {H : Type} (enc : TypeId × Value → H) : ∃ places, DataW.whole enc Tryz.prog ((laidWorld os).forCall (fun _ _ => 0) ⟨#[], #[.string ⟨#[]⟩, .string ⟨#[]⟩, .slice none 0 0], []⟩).memory Tryz.f4.params.toList Rows.editsSpec.vars false #[Value.string ⟨#[]⟩, .string ⟨#[]⟩, .slice none 0 0].toList 8 = some ([.lit (.string []), .lit (.string []), .nil], [], places) :=
  ⟨[], by kernel_rfl⟩

set_option maxRecDepth 100000 in
theorem lifted (os : Os) (started : os.Started) (H : Type) (enc : TypeId × Value → H) (F : Stop.Interp) :
    ReturnsInHanded {} Tryz.checked os 4 .any ((OpenSpec.ofChange Rows.editsSpec).preRow enc Tryz.prog Tryz.f4 Rows.editsRow.domain false Rows.editsRow.laid) (((OpenSpec.ofChange Rows.editsSpec).at F).post enc Tryz.prog Tryz.f4 false true false false) := by
  obtain ⟨places, hx⟩ := reads os enc
  refine returnsInHanded_of_row (C := Tryz.checked) (s := OpenSpec.ofChange Rows.editsSpec) own_knob started (by kernel_rfl) Tryz.func4
    (witness_row_at (enc := enc) (C := Tryz.checked) false (laidWorld os) #[.string ⟨#[]⟩, .string ⟨#[]⟩, .slice none 0 0] rfl (by kernel_rfl) (by kernel_rfl) (by kernel_rfl)
      (OpenSpec.preRow_of_cond 8 hx (by kernel_rfl) (fun k hk => by cases hk) (by kernel_rfl) (laid_met os))) ?_
  intro W base args ds gs before hval hW _ _ hsz hL hsh _
  exact contract H enc W base args ds gs before hval hW hsz hL hsh

theorem said : Rows.EditsSaid :=
  OpenClaim.holds_of_cond 4 Tryz.f4 rfl rfl rfl rfl rfl rfl rfl ⟨rfl, rfl, rfl, rfl, rfl⟩ rfl rfl rfl rfl rfl (by kernel_rfl) Tryz.func4 (by kernel_rfl)
    (of_decide_eq_true (by kernel_rfl)) (by unfold Func.isWrapper; first | (rw [if_pos (by decide +kernel)]; kernel_rfl) | (rw [if_neg (by decide +kernel)]; exact ⟨rfl, rfl⟩))
    (fun os started H enc _ F => by rw [OpenClaim.pre_eq_preRow]; exact lifted os started H enc F)

theorem plain (f : FuncId) (fn : Func) (hf : Tryz.pinned.checked.prog.funcNamed "tint/tintlaw.Edits" = some f) (hfn : Tryz.pinned.checked.prog.funcs[f]? = some fn) :
    false = Tryz.pinned.checked.prog.looks [] ∧ ∀ (j : Nat) t, fn.params[j]? = some t → Tryz.pinned.checked.prog.wantsStandIn t = false := by
  obtain rfl : f = 4 := Option.some.inj ((show Tryz.prog.funcNamed "tint/tintlaw.Edits" = some 4 by kernel_rfl).symm.trans hf) |>.symm
  obtain rfl : fn = Tryz.f4 := (Option.some.inj (Tryz.func4.symm.trans hfn)).symm
  refine ⟨by kernel_rfl, fun j t ht => ?_⟩
  rw [Tryz.params4] at ht
  have hm := Array.mem_of_getElem? ht
  have ht' : t = 9 ∨ t = 30 := by
    simp only [List.mem_toArray, List.mem_cons, List.not_mem_nil, or_false] at hm
    rcases hm with h | h | h
    · exact .inl h
    · exact .inl h
    · exact .inr h
  rcases ht' with rfl | rfl
  · exact (show Tryz.prog.wantsStandIn 9 = false by kernel_rfl)
  · exact (show Tryz.prog.wantsStandIn 30 = false by kernel_rfl)

theorem card : Rows.EditsCardSaid :=
  Claim7.holds_tied_plain_at .later [] _ _ _ _ said (fun _ h => by cases h) (by kernel_rfl) (fun _ h => by cases h) edits_row_tie rfl ⟨rfl, rfl⟩ (by kernel_rfl) rfl plain (by kernel_rfl)
end Go.Proofs.YtgncgdkpkkdaeaaGreatDoor.edits_
namespace Go.Proofs.YtgncgdkpkkdaeaaGreatDoor
theorem edits_holds : Rows.EditsCardSaid := edits_.card
end Go.Proofs.YtgncgdkpkkdaeaaGreatDoor
