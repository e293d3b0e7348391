/- Put together by mergeV.py from V5, V6, V7, V8. -/
import Derived.Test.YtgncgdkpkkdaeaaV4
import Derived.Test.YtgncgdkpkkdaeaaN7
import Derived.Test.YtgncgdkpkkdaeaaN11
/- The first line that a test speaks of: slices.IndexFunc, whatever the test. -/
namespace Go.Proofs.Ytgncgdkpkkdaeaa
open Go.RowKit Tint

def PLn.agg (l : PLn) : Value := .agg #[.int .i64 l.at_, .int .i64 l.kd, .string l.st, .int .i64 l.d, .string l.co, .slice l.ao l.ln l.cp, .int .i64 l.wh, .int .i64 l.fl]

theorem plCells_get {ls : List PLn} {i : Nat} {l : PLn} (h : ls[i]? = some l) (j : Nat) (hj : j < 8) : (ls.flatMap PLn.cells)[i * 8 + j]? = l.cells[j]? := by
  induction ls generalizing i with
  | nil => simp at h
  | cons a t ih =>
    cases i with
    | zero =>
      simp only [List.getElem?_cons_zero, Option.some.injEq] at h
      subst h
      simp only [List.flatMap_cons]
      rw [List.getElem?_append_left (by simp [PLn.cells]; omega)]
      simp
    | succ i =>
      simp only [List.getElem?_cons_succ] at h
      have := ih h
      simp only [List.flatMap_cons]
      rw [List.getElem?_append_right (by simp [PLn.cells]; omega), ← this]
      congr 1
      simp [PLn.cells]; omega

theorem Lines.form {w : World} {B : Nat} {sv : Value} {ls : List PLn} (h : Lines w B sv ls) : ∃ ao cap, sv = .slice ao ls.length cap ∧ (0 < ls.length → ∃ g, ao = some ⟨g, 0, none⟩) := by
  rcases h.row.2 with ⟨h1, h0⟩ | ⟨g, cap, cur, h1, _⟩
  · exact ⟨none, 0, by rw [h1, h0], fun h => by omega⟩
  · exact ⟨some ⟨g, 0, none⟩, cap, h1, fun _ => ⟨g, rfl⟩⟩

theorem Lines.cells {w : World} {B g n cap : Nat} {ls : List PLn} (h : Lines w B (.slice (some ⟨g, 0, none⟩) n cap) ls) {i : Nat} {l : PLn} (hi : ls[i]? = some l) :
    w.cell? ⟨g, i * 8, none⟩ = some (.int .i64 l.at_) ∧ w.cell? ⟨g, i * 8 + 1, none⟩ = some (.int .i64 l.kd) ∧ w.cell? ⟨g, i * 8 + 2, none⟩ = some (.string l.st) ∧ w.cell? ⟨g, i * 8 + 3, none⟩ = some (.int .i64 l.d) ∧ w.cell? ⟨g, i * 8 + 4, none⟩ = some (.string l.co) ∧ w.cell? ⟨g, i * 8 + 5, none⟩ = some (.slice l.ao l.ln l.cp) ∧ w.cell? ⟨g, i * 8 + 6, none⟩ = some (.int .i64 l.wh) ∧ w.cell? ⟨g, i * 8 + 7, none⟩ = some (.int .i64 l.fl) := by
  have hn : n = ls.length := by
    rcases h.row.2 with ⟨h0, _⟩ | ⟨g', cap', cur, e1, _⟩
    · cases h0
    · cases e1; rfl
  subst hn
  have f := fun j (hj : j < 8) (u : Value) (hu : l.cells[j]? = some u) => (row_cell h.row (show (ls.flatMap PLn.cells)[i * 8 + j]? = some u by rw [plCells_get hi j hj]; exact hu)).1
  exact ⟨f 0 (by omega) _ rfl, f 1 (by omega) _ rfl, f 2 (by omega) _ rfl, f 3 (by omega) _ rfl, f 4 (by omega) _ rfl, f 5 (by omega) _ rfl, f 6 (by omega) _ rfl, f 7 (by omega) _ rfl⟩

/-- A function value that tells of one line after another, in their order, whether a test speaks of it. -/
def Prd (G : World → Prop) (ls : List PLn) (p : Lns → Ln → Prop) (g : Nat) (lb : Array Value) (Inv : List PLn → World → Prop) : Prop :=
  ∀ pre l post w, ls = pre ++ l :: post → G w → Inv pre w → Calls Try.prog g (#[l.agg] ++ lb) w fun e w' => ∃ b, e = .returned (.bool b) ∧ (b = true ↔ p (pre.map PLn.pr) l.x) ∧ G w' ∧ (b = false → Inv (pre ++ [l]) w')

def IdxPost (G : World → Prop) (ls : List PLn) (p : Lns → Ln → Prop) (Inv : List PLn → World → Prop) (e : Ending) (w' : World) : Prop :=
  G w' ∧ ((∃ (j : Nat) (l : PLn), e = .returned (.int .i64 j) ∧ ls[j]? = some l ∧ Fst p [] (ls.map PLn.pr) (some l.at_)) ∨ (e = .returned (.int .i64 (-1)) ∧ Fst p [] (ls.map PLn.pr) none ∧ Inv ls w'))

def IdxLoop (G : World → Prop) (ls : List PLn) (p : Lns → Ln → Prop) (Inv : List PLn → World → Prop) (k : Nat) (i : Value) (wr : World) : Prop :=
  ∃ j : Nat, i = .int .i64 j ∧ j + k = ls.length ∧ G wr ∧ Inv (ls.take j) wr ∧ Fst p [] ((ls.take j).map PLn.pr) none

set_option maxRecDepth 20000 in
set_option maxHeartbeats 2000000 in
theorem indexFunc_any (wC : World) (B : Nat) (sv : Value) (ls : List PLn) (p : Lns → Ln → Prop) (g : Nat) (lb : Array Value) (Inv : List PLn → World → Prop) (w : World) (hL : Lines wC B sv ls) (G : World → Prop) (hG : ∀ w, G w → Below wC.heap.size wC w) (hP : Prd G ls p g lb Inv) (he : Enters g) (hB : G w) (hI : Inv [] w) (hz : ls.length ≤ 1000000) :
    Calls Try.prog 27 #[sv, .func (.func g) #[] lb] w (IdxPost G ls p Inv) := by
  obtain ⟨ao, cap, rfl, hao⟩ := hL.form
  have HL := hide hL
  have HP := hide hP
  have HB := hide hB
  have HI := hide hI
  have HAO := hide hao
  unfold Enters at he
  clear hL hP hB hI hao
  go_enter Try.func27, Try.ntmps27
  go_wp2_with fail
  go_loopg [8] ls.length (fun k i wr => IdxLoop G ls p Inv k i wr)
  case atStart => exact ⟨0, rfl, by omega, HB.out, HI.out, .nil⟩
  case round =>
    obtain ⟨j, rfl, hk, hBw, hIw, hf⟩ := hrel
    by_cases hlt : j < ls.length
    · have g1 : decide ((j : Int) < (ls.length : Int)) = true := decide_eq_true (by omega)
      obtain ⟨q, rfl⟩ := HAO.out (by omega)
      obtain ⟨l, hl⟩ : ∃ l, ls[j]? = some l := ⟨ls[j], List.getElem?_eq_getElem hlt⟩
      have hsp : ls = ls.take j ++ l :: ls.drop (j + 1) := by
        have hl' := hl
        rw [List.getElem?_eq_getElem hlt] at hl'
        rw [← Option.some.inj hl', ← List.drop_eq_getElem_cons hlt, List.take_append_drop]
      have htk : ls.take (j + 1) = ls.take j ++ [l] := by
        have hl' := hl
        rw [List.getElem?_eq_getElem hlt] at hl'
        rw [List.take_succ_eq_append_getElem hlt, Option.some.inj hl']
      obtain ⟨c0, c1, c2, c3, c4, c5, c6, c7⟩ := (HL.out.below (hG _ hBw)).cells hl
      have HPR := hide (HP.out (ls.take j) l (ls.drop (j + 1)) wr hsp hBw hIw)
      have HF := hide hf
      have HLL := hide hl
      have HSP := hide hsp
      have HTK := hide htk
      have hi1 : j + 1 ≤ 9223372036854775807 := by omega
      unfold PLn.agg at HPR
      clear hf hl hsp htk hBw hIw
      go_wp2_with fail
      refine HPR.out.mono ?_
      rintro e w1 ⟨b, rfl, hb, hB1, hI1⟩
      cases b with
      | true =>
        have HEND := hide (show IdxPost G ls p Inv (.returned (.int .i64 j)) w1 from ⟨hB1, .inl ⟨j, l, rfl, HLL.out, by
          have h1 := HF.out.hit_at (a := l.at_) (x := l.x) ((ls.drop (j + 1)).map PLn.pr) (hb.1 rfl)
          have e1 : ls.map PLn.pr = (ls.take j).map PLn.pr ++ (l.at_, l.x) :: (ls.drop (j + 1)).map PLn.pr := by
            conv => lhs; rw [HSP.out]
            simp [PLn.pr]
          rw [e1]; exact h1⟩⟩)
        clear hb hB1 hI1 HPR HF HLL HSP HTK
        go_wp2_with fail
        go_ret
        exact HEND.out
      | false =>
        have HST := hide (show IdxLoop G ls p Inv (gk - 1) (.int .i64 ((j + 1 : Nat) : Int)) w1 from ⟨j + 1, rfl, by omega, hB1, by rw [HTK.out]; exact hI1 rfl, by
          rw [HTK.out, List.map_append]
          exact HF.out.snoc (a := l.at_) (fun h => by have := hb.2 h; cases this)⟩)
        clear hb hB1 hI1 HPR HF HLL HSP HTK
        go_wp2_with fail
        go_roundg (gk - 1)
        case measure => omega
        case rel => exact HST.out
    · have g1 : decide ((j : Int) < (ls.length : Int)) = false := decide_eq_false (by omega)
      have HEND := hide (show IdxPost G ls p Inv (.returned (.int .i64 (-1))) wr from ⟨hBw, .inr ⟨rfl, by rw [List.take_of_length_le (by omega)] at hf; exact hf, by rw [List.take_of_length_le (by omega)] at hIw; exact hIw⟩⟩)
      clear hf hBw hIw
      go_wp2_with fail
      go_ret
      exact HEND.out
end Go.Proofs.Ytgncgdkpkkdaeaa

/- The tests on lines: a state that there was already. -/
namespace Go.Proofs.Ytgncgdkpkkdaeaa
open Go.RowKit Tint

def FindS (ns : List ByteArray) (v : ByteArray) (w : World) (k : Nat) (i : Value) (wr : World) : Prop :=
  ∃ j : Nat, i = .int .i64 j ∧ j + k = ns.length ∧ wr = w ∧ ∀ (m : Nat) (t : ByteArray), m < j → ns[m]? = some t → t.data.toList ≠ v.data.toList

set_option maxRecDepth 20000 in
set_option maxHeartbeats 1000000 in
theorem indexS_any (B : Nat) (sv : Value) (ns : List ByteArray) (v : ByteArray) (w : World) (hr : w.ownsRow B 9 1 sv ns.length (ns.map Value.string)) (hz : ns.length ≤ 1000000) :
    Calls Try.prog 54 #[sv, .string v] w fun e w' => w' = w ∧ ((∃ j : Nat, e = .returned (.int .i64 j) ∧ ∃ t ∈ ns, t.data.toList = v.data.toList) ∨ (e = .returned (.int .i64 (-1)) ∧ ∀ t ∈ ns, t.data.toList ≠ v.data.toList)) := by
  obtain ⟨ao, cap, rfl, hao⟩ : ∃ ao cap, sv = .slice ao ns.length cap ∧ (0 < ns.length → ∃ g, ao = some ⟨g, 0, none⟩) := by
    rcases hr.2 with ⟨h1, h0⟩ | ⟨g, cap, cur, h1, _⟩
    · exact ⟨none, 0, by rw [h1, h0], fun h => by omega⟩
    · exact ⟨some ⟨g, 0, none⟩, cap, h1, fun _ => ⟨g, rfl⟩⟩
  have HR := hide hr
  have HAO := hide hao
  clear hr hao
  go_enter Try.func54, Try.ntmps54
  go_wp2_with fail
  go_loopg [8] ns.length (fun k i wr => FindS ns v w k i wr)
  case atStart => exact ⟨0, rfl, by omega, rfl, fun m t h => by omega⟩
  case round =>
    obtain ⟨j, rfl, hk, rfl, hall⟩ := hrel
    by_cases hlt : j < ns.length
    · have g1 : decide ((j : Int) < (ns.length : Int)) = true := decide_eq_true (by omega)
      obtain ⟨q, rfl⟩ := HAO.out (by omega)
      obtain ⟨t, ht⟩ : ∃ t, ns[j]? = some t := ⟨ns[j], List.getElem?_eq_getElem hlt⟩
      have c0 := (row_cell HR.out (j := j) (u := .string t) (by rw [List.getElem?_map, ht]; rfl)).1
      have HT := hide ht
      have HALL := hide hall
      have hi1 : j + 1 ≤ 9223372036854775807 := by omega
      clear ht hall
      by_cases hq : t.data.toList = v.data.toList
      · have q1 : (v.toList == t.toList) = true := by rw [ByteArray.toList_eq, ByteArray.toList_eq, hq]; simp
        have q1' : (t.toList == v.toList) = true := by rw [ByteArray.toList_eq, ByteArray.toList_eq, hq]; simp
        have HQ := hide hq
        clear hq
        go_wp2_with fail
        go_ret
        exact ⟨rfl, .inl ⟨j, rfl, t, List.mem_of_getElem? HT.out, HQ.out⟩⟩
      · have q1 : (v.toList == t.toList) = false := by rw [beq_eq_false_iff_ne, ByteArray.toList_eq, ByteArray.toList_eq]; exact fun e => hq e.symm
        have q1' : (t.toList == v.toList) = false := by rw [beq_eq_false_iff_ne, ByteArray.toList_eq, ByteArray.toList_eq]; exact hq
        have HQ := hide hq
        clear hq
        go_wp2_with fail
        go_roundg (gk - 1)
        case measure => omega
        case rel =>
          refine ⟨j + 1, rfl, by omega, rfl, fun m t' hm ht' => ?_⟩
          rcases Nat.lt_or_ge m j with h | h
          · exact HALL.out m t' h ht'
          · have : m = j := by omega
            subst this
            rw [HT.out] at ht'
            cases ht'
            exact HQ.out
    · have g1 : decide ((j : Int) < (ns.length : Int)) = false := decide_eq_false (by omega)
      have HALL := hide hall
      clear hall
      go_wp2_with fail
      go_ret
      refine ⟨rfl, .inr ⟨rfl, fun t ht => ?_⟩⟩
      obtain ⟨m, hm⟩ := List.getElem?_of_mem ht
      exact HALL.out m t (by have := get_lt hm; omega) hm

set_option maxRecDepth 20000 in
set_option maxHeartbeats 1000000 in
theorem containsS_any (B : Nat) (sv : Value) (ns : List ByteArray) (v : ByteArray) (w : World) (hr : w.ownsRow B 9 1 sv ns.length (ns.map Value.string)) (hz : ns.length ≤ 1000000) :
    Calls Try.prog 39 #[sv, .string v] w fun e w' => w' = w ∧ ∃ b, e = .returned (.bool b) ∧ (b = true ↔ ∃ t ∈ ns, t.data.toList = v.data.toList) := by
  have HIX := hide (indexS_any B sv ns v w hr hz)
  have hsv : ∃ ao cap, sv = .slice ao ns.length cap := by
    rcases hr.2 with ⟨h1, h0⟩ | ⟨g, cap, cur, h1, _⟩
    · exact ⟨none, 0, by rw [h1, h0]⟩
    · exact ⟨some ⟨g, 0, none⟩, cap, h1⟩
  obtain ⟨ao, cap, rfl⟩ := hsv
  clear hr
  go_enter Try.func39, Try.ntmps39
  go_wp2_with fail
  refine HIX.out.mono ?_
  rintro e w1 ⟨rfl, ⟨j, rfl, ht⟩ | ⟨rfl, hno⟩⟩
  · have q1 : decide ((0 : Int) ≤ (j : Int)) = true := decide_eq_true (by omega)
    have HT := hide ht
    clear ht
    go_wp2_with fail
    go_ret
    exact ⟨rfl, true, rfl, ⟨fun _ => HT.out, fun _ => rfl⟩⟩
  · have HT := hide hno
    clear hno
    go_wp2_with fail
    go_ret
    exact ⟨rfl, false, rfl, ⟨fun h => (by cases h), fun ⟨t, h1, h2⟩ => absurd h2 (HT.out t h1)⟩⟩

def stNames (pre : List PLn) : List ByteArray := pre.filterMap fun l => if l.kd = 1 then some l.st else none

/-- wC's blocks are as they were, and of wL's all but a few. -/
def GX (wC wL : World) (D : Nat → Prop) (w : World) : Prop := Below wC.heap.size wC w ∧ wL.heap.size ≤ w.heap.size ∧ ∀ b, b < wL.heap.size → ¬ D b → w.heap[b]? = wL.heap[b]?

/-- What the test on states remembers; all else of wL is as it was. -/
structure Nms (wL : World) (N : Nat) (pre : List PLn) (w : World) : Prop where
  size : wL.heap.size ≤ w.heap.size
  keep : ∀ b, b < wL.heap.size → b ≠ N → w.heap[b]? = wL.heap[b]?
  box : ∃ v, w.heap[N]? = some (.cells #[v] 110 (0, 0)) ∧ w.ownsRow wL.heap.size 9 1 v (stNames pre).length ((stNames pre).map Value.string)

theorem stNames_snoc (pre : List PLn) (l : PLn) : stNames (pre ++ [l]) = stNames pre ++ (if l.kd = 1 then [l.st] else []) := by
  unfold stNames
  rw [List.filterMap_append]
  congr 1
  by_cases h : l.kd = 1 <;> simp [h]

theorem info_string : (Try.prog.info? 9).map (fun i => (i.zero, i.size, i.bytes)) = some (some (.string ⟨#[]⟩), 1, 16) := by kernel_rfl

theorem twice_iff {wC : World} {B : Nat} {sv : Value} {ls pre post : List PLn} {l : PLn} (hL : Lines wC B sv ls) (hs : ls = pre ++ l :: post) : (l.kd ≠ 1 → ¬ pTwice (pre.map PLn.pr) l.x) ∧ (l.kd = 1 → (pTwice (pre.map PLn.pr) l.x ↔ ∃ t ∈ stNames pre, t.data.toList = l.st.data.toList)) := by
  have hl := hL.each l (by rw [hs]; simp)
  refine ⟨fun hk h => ?_, fun hk => ?_⟩
  · obtain ⟨n, hx, _⟩ := h
    rw [hx] at hl
    exact hk hl.1
  · cases hx : l.x with
    | blank => rw [hx] at hl; have := hl.1; omega
    | rule d o c p => rw [hx] at hl; have := hl.1; omega
    | state n =>
      rw [hx] at hl
      obtain ⟨_, _, hn, _⟩ := hl
      constructor
      · rintro ⟨n', h1, a, h2⟩
        cases h1
        obtain ⟨t, ht, he⟩ := List.mem_map.1 h2
        have htl := hL.each t (by rw [hs]; exact List.mem_append_left _ ht)
        have hxt : t.x = .state n := congrArg Prod.snd he
        rw [hxt] at htl
        exact ⟨t.st, List.mem_filterMap.2 ⟨t, ht, by rw [if_pos htl.1]⟩, by rw [htl.2.2.1, hn]⟩
      · rintro ⟨t, ht, he⟩
        obtain ⟨l', hl', hh⟩ := List.mem_filterMap.1 ht
        by_cases hk' : l'.kd = 1
        · rw [if_pos hk'] at hh
          cases hh
          have htl := hL.each l' (by rw [hs]; exact List.mem_append_left _ hl')
          have hst := (kind_state htl).1.1 hk'
          cases hx' : l'.x with
          | blank => rw [hx'] at hst; cases hst
          | rule d o c p => rw [hx'] at hst; cases hst
          | state n' =>
            rw [hx'] at htl
            refine ⟨n, rfl, l'.at_, List.mem_map.2 ⟨l', hl', ?_⟩⟩
            have h5 : n' = n := by rw [← htl.2.2.1, he, hn]
            rw [PLn.pr, hx', h5]
        · rw [if_neg hk'] at hh; cases hh

theorem Nms.alloc {wL : World} {N : Nat} {pre : List PLn} {w : World} (h : Nms wL N pre w) (o : Obj) : Nms wL N pre (w.alloc o) := by
  obtain ⟨v, hb, hrow⟩ := h.box
  exact ⟨by have := h.size; simp; omega, fun b h1 h2 => (Below.heap_alloc _ _ _ (Nat.lt_of_lt_of_le h1 h.size)).trans (h.keep b h1 h2), v, heap_alloc_old hb, row_new hrow o⟩

/-- One name more. -/
theorem Nms.push {wC wL : World} {N : Nat} {pre : List PLn} {l : PLn} {W w3 : World} {v v' : Value} (h : Nms wL N pre W) (hk : l.kd = 1) (hb : W.heap[N]? = some (.cells #[v] 110 (0, 0))) (hrow : W.ownsRow wL.heap.size 9 1 v (stNames pre).length ((stNames pre).map Value.string)) (hN : wC.heap.size ≤ N) (hNL : N < wL.heap.size) (hB : Below wC.heap.size wC W)
    (hown : w3.ownsRow wL.heap.size 9 1 v' ((stNames pre).length + 1) ((stNames pre).map Value.string ++ [.string l.st])) (hg : W.grownBy w3 v.ownBlock) :
    Nms wL N (pre ++ [l]) (w3.setCell ⟨N, 0, none⟩ v') ∧ Below wC.heap.size wC (w3.setCell ⟨N, 0, none⟩ v') ∧ w3.cell? ⟨N, 0, none⟩ = some v ∧ w3.frozen? ⟨N, 0, none⟩ = false := by
  have hne : ∀ b, b < wL.heap.size → some b ≠ v.ownBlock := fun b hb' e => by have := (row_type hrow e.symm).1; omega
  have h3 : w3.heap[N]? = some (.cells #[v] 110 (0, 0)) := (hg.block N (lt_of_get hb) (hne N hNL)).trans hb
  have hsz : (w3.setCell ⟨N, 0, none⟩ v').heap.size = w3.heap.size := by simp [World.setCell]
  refine ⟨⟨by rw [hsz]; exact Nat.le_trans h.size hg.size, fun b h1 h2 => ?_, v', heap_setCell_same w3 N 0 _ h3, ?_⟩, ?_, by simp [World.cell?, h3], by simp [World.frozen?, h3]⟩
  · rw [Below.heap_setCell _ _ _ _ h2, hg.block b (Nat.lt_of_lt_of_le h1 h.size) (hne b h1)]
    exact h.keep b h1 h2
  · rw [stNames_snoc, if_pos hk, List.map_append, List.length_append]
    refine row_keep hown fun k e => Below.heap_setCell _ _ _ _ ?_
    rintro rfl
    have := (row_type hown e).1
    omega
  · have hb3 : Below wC.heap.size W w3 := ⟨hg.os, hg.tape, hg.output, hg.size, fun k hk' => hg.block k (Nat.lt_of_lt_of_le hk' hB.size) (hne k (by omega))⟩
    exact (hB.trans hb3).setCell hN _

set_option maxRecDepth 20000 in
set_option maxHeartbeats 1000000 in
theorem began_any (wC wL : World) (B N : Nat) (sv : Value) (ls : List PLn) (hL : Lines wC B sv ls) (hz : ls.length ≤ 1000000) (hN : wC.heap.size ≤ N) (hNL : N < wL.heap.size) :
    Prd (GX wC wL (· = N)) ls pTwice 38 #[.pointer (some ⟨N, 0, none⟩)] (Nms wL N) := by
  rintro pre l post w hs ⟨hB, -⟩ hI
  obtain ⟨ht1, ht2⟩ := twice_iff hL hs
  obtain ⟨v, hb, hrow⟩ := hI.box
  have hlen : (stNames pre).length ≤ 1000000 := by
    have h1 : (stNames pre).length ≤ pre.length := List.length_filterMap_le ..
    have h2 : pre.length ≤ ls.length := by rw [hs]; simp
    omega
  have c0 : w.cell? ⟨N, 0, none⟩ = some v := by simp [World.cell?, hb]
  show Calls Try.prog _ #[l.agg, .pointer (some ⟨N, 0, none⟩)] w _
  unfold PLn.agg
  by_cases hk : l.kd = 1
  · have q1 : ((l.kd : Int) != 1) = false := by rw [hk]; rfl
    have HCN := hide (containsS_any wL.heap.size v (stNames pre) l.st (w.alloc (.cells #[.int .i64 l.at_, .int .i64 l.kd, .string l.st, .int .i64 l.d, .string l.co, .slice l.ao l.ln l.cp, .int .i64 l.wh, .int .i64 l.fl] 75)) (row_new hrow (.cells #[.int .i64 l.at_, .int .i64 l.kd, .string l.st, .int .i64 l.d, .string l.co, .slice l.ao l.ln l.cp, .int .i64 l.wh, .int .i64 l.fl] 75)) hlen)
    have HI := hide (hI.alloc (.cells #[.int .i64 l.at_, .int .i64 l.kd, .string l.st, .int .i64 l.d, .string l.co, .slice l.ao l.ln l.cp, .int .i64 l.wh, .int .i64 l.fl] 75))
    have HB := hide (hB.alloc hB.size (.cells #[.int .i64 l.at_, .int .i64 l.kd, .string l.st, .int .i64 l.d, .string l.co, .slice l.ao l.ln l.cp, .int .i64 l.wh, .int .i64 l.fl] 75))
    have HT := hide (ht2 hk)
    have HK := hide hk
    have HROW := hide (row_new hrow (.cells #[.int .i64 l.at_, .int .i64 l.kd, .string l.st, .int .i64 l.d, .string l.co, .slice l.ao l.ln l.cp, .int .i64 l.wh, .int .i64 l.fl] 75))
    have HBX := hide (heap_alloc_old (o := (.cells #[.int .i64 l.at_, .int .i64 l.kd, .string l.st, .int .i64 l.d, .string l.co, .slice l.ao l.ln l.cp, .int .i64 l.wh, .int .i64 l.fl] 75)) hb)
    have c0' := cell_alloc_old c0 (.cells #[.int .i64 l.at_, .int .i64 l.kd, .string l.st, .int .i64 l.d, .string l.co, .slice l.ao l.ln l.cp, .int .i64 l.wh, .int .i64 l.fl] 75)
    obtain ⟨i0, hi, hz0, hz1, hz3⟩ := info_parts info_string
    obtain ⟨ao, cap, rfl⟩ : ∃ ao cap, v = .slice ao (stNames pre).length cap := by
      rcases hrow.2 with ⟨h1, h0⟩ | ⟨g, cap, cur, h1, _⟩
      · exact ⟨none, 0, by rw [h1, h0]⟩
      · exact ⟨some ⟨g, 0, none⟩, cap, h1⟩
    have HLB := hide (heap_alloc_last w (.cells #[.int .i64 l.at_, .int .i64 l.kd, .string l.st, .int .i64 l.d, .string l.co, .slice l.ao l.ln l.cp, .int .i64 l.wh, .int .i64 l.fl] 75))
    clear hI hB ht1 ht2 hk hrow hb c0 hL hs
    obtain ⟨q, hq⟩ : ∃ q, q = w.heap.size := ⟨_, rfl⟩
    go_enter Try.func38, Try.ntmps38
    go_wp2_with fail
    rw [← hq] at HLB ⊢
    clear hq
    generalize w.alloc (.cells #[.int .i64 l.at_, .int .i64 l.kd, .string l.st, .int .i64 l.d, .string l.co, .slice l.ao l.ln l.cp, .int .i64 l.wh, .int .i64 l.fl] 75) = W1 at *
    refine HCN.out.mono ?_
    rintro e w1 ⟨rfl, b, rfl, hb⟩
    have HBB := hide (hb.trans HT.out.symm)
    have hlb := HLB.out
    have d2 : w1.cell? ⟨q, 2, none⟩ = some (.string l.st) := by simp [World.cell?, hlb]
    have HKEY := hide (fun (v' : Value) (w3 : World) (hown : w3.ownsRow wL.heap.size 9 1 v' ((stNames pre).length + 1) ((stNames pre).map Value.string ++ [.string l.st])) (hg : (w1.alloc (.cells #[.string l.st] 9)).grownBy w3 (Value.slice ao (stNames pre).length cap).ownBlock) => Nms.push (wC := wC) (HI.out.alloc _) HK.out (heap_alloc_old HBX.out) (row_new HROW.out _) hN hNL (HB.out.alloc HB.out.size _) hown hg)
    have HR2 := hide (row_new HROW.out (.cells #[.string l.st] 9))
    have hszz : wL.heap.size ≤ w1.heap.size + 1 := by have := HI.out.size; omega
    clear hb hlb HT HCN HI HB HK HROW HBX HLB
    go_wp2_with (at_builtin; refine wpList_append_own _ rfl _ _ 110 rfl wL.heap.size 9 i0 (.string ⟨#[]⟩) 1 16 Try.underlying110 hi hz0 hz1 hz3 rfl (by decide) (.slice ao (stNames pre).length cap) (stNames pre).length ((stNames pre).map Value.string) rfl HR2.out ⟨w1.heap.size, 0, none⟩ 1 1 [.string l.st] rfl rfl (by exact cell_new_row w1 #[.string l.st] _) (by simp [Value.oneCell']) (by unfold maxLen; omega) (by omega) (by simpa using hszz) ?_; intro v' w3 hown hg _; obtain ⟨k1, k2, k3, k4⟩ := HKEY.out v' w3 hown hg; obtain ⟨g', cap', rfl⟩ := own_form hown (by omega); have HK1 := hide k1; have HK2 := hide k2; clear hown hg k1 k2)
    go_ret
    exact ⟨b, rfl, HBB.out, ⟨HK2.out, HK1.out.size, HK1.out.keep⟩, fun _ => HK1.out⟩
  · have q1 : ((l.kd : Int) != 1) = true := by rw [bne_iff_ne]; omega
    have HN : ∀ o, Nms wL N (pre ++ [l]) (w.alloc o) := fun o => ⟨by have := hI.size; simp; omega, fun b h1 h2 => (Below.heap_alloc _ _ _ (Nat.lt_of_lt_of_le h1 hI.size)).trans (hI.keep b h1 h2), v, heap_alloc_old hb, by
        rw [stNames_snoc, if_neg hk, List.append_nil]; exact row_new hrow o⟩
    have HEND := hide (fun o => show ∃ b, Ending.returned (.bool false) = .returned (.bool b) ∧ (b = true ↔ pTwice (pre.map PLn.pr) l.x) ∧ GX wC wL (· = N) (w.alloc o) ∧ (b = false → Nms wL N (pre ++ [l]) (w.alloc o)) from
      ⟨false, rfl, ⟨fun h => (by cases h), fun h => absurd h (ht1 hk)⟩, ⟨hB.alloc hB.size o, (HN o).size, (HN o).keep⟩, fun _ => HN o⟩)
    clear HN
    clear hI hB ht1 ht2 hk hrow hb
    go_enter Try.func38, Try.ntmps38
    go_wp2_with fail
    go_ret
    exact HEND.out _
end Go.Proofs.Ytgncgdkpkkdaeaa

/- The tests on lines: too many. -/
namespace Go.Proofs.Ytgncgdkpkkdaeaa
open Go.RowKit Tint

def nSt (pre : List PLn) : Nat := ((pre.map PLn.pr).filter (·.2.isState)).length
def nRl (pre : List PLn) : Nat := ((pre.map PLn.pr).filter (·.2.isRule)).length

theorem nSt_snoc (pre : List PLn) (l : PLn) : nSt (pre ++ [l]) = nSt pre + if l.x.isState = true then 1 else 0 := by
  unfold nSt
  rw [List.map_append, List.filter_append, List.length_append]
  by_cases h : l.x.isState = true <;> simp [PLn.pr, h]
theorem nRl_snoc (pre : List PLn) (l : PLn) : nRl (pre ++ [l]) = nRl pre + if l.x.isRule = true then 1 else 0 := by
  unfold nRl
  rw [List.map_append, List.filter_append, List.length_append]
  by_cases h : l.x.isRule = true <;> simp [PLn.pr, h]

structure Cnt (wL : World) (S R : Nat) (pre : List PLn) (w : World) : Prop where
  size : wL.heap.size ≤ w.heap.size
  keep : ∀ b, b < wL.heap.size → b ≠ S → b ≠ R → w.heap[b]? = wL.heap[b]?
  st : w.heap[S]? = some (.cells #[.int .i64 (nSt pre : Nat)] 3 (0, 0))
  rl : w.heap[R]? = some (.cells #[.int .i64 (nRl pre : Nat)] 3 (0, 0))
  le : nSt pre ≤ 12 ∧ nRl pre ≤ 40

theorem Cnt.after {wL : World} {S R : Nat} {pre : List PLn} {w W : World} {l : PLn} {a b : Int} (h : Cnt wL S R pre w) (hsz : w.heap.size ≤ W.heap.size) (hk : ∀ k, k < w.heap.size → k ≠ S → k ≠ R → W.heap[k]? = w.heap[k]?) (hS : W.heap[S]? = some (.cells #[.int .i64 a] 3 (0, 0))) (hR : W.heap[R]? = some (.cells #[.int .i64 b] 3 (0, 0))) (ha : a = (nSt (pre ++ [l]) : Nat)) (hb : b = (nRl (pre ++ [l]) : Nat)) (hle : nSt (pre ++ [l]) ≤ 12 ∧ nRl (pre ++ [l]) ≤ 40) : Cnt wL S R (pre ++ [l]) W :=
  ⟨Nat.le_trans h.size hsz, fun k h1 h2 h3 => (hk k (Nat.lt_of_lt_of_le h1 h.size) h2 h3).trans (h.keep k h1 h2 h3), by rw [hS, ha], by rw [hR, hb], hle⟩

theorem many_iff {pre : List PLn} {l : PLn} (h1 : nSt pre ≤ 12) (h2 : nRl pre ≤ 40) : pMany (pre.map PLn.pr) l.x ↔ (12 < nSt (pre ++ [l]) ∨ 40 < nRl (pre ++ [l])) := by
  rw [nSt_snoc, nRl_snoc]
  unfold pMany
  show l.x.nb = true ∧ (12 < nSt pre + _ ∨ 40 < nRl pre + _) ↔ _
  cases hx : l.x with
  | blank => simp [Ln.nb, Ln.isState, Ln.isRule]; omega
  | state n => simp [Ln.nb, Ln.isState, Ln.isRule]
  | rule d o c p => simp [Ln.nb, Ln.isState, Ln.isRule]

set_option maxRecDepth 20000 in
set_option maxHeartbeats 1000000 in
theorem many_any (wC wL : World) (B S R : Nat) (sv : Value) (ls : List PLn) (hL : Lines wC B sv ls) (hS : wC.heap.size ≤ S) (hR : wC.heap.size ≤ R) (hne : S ≠ R) :
    Prd (GX wC wL (fun b => b = S ∨ b = R)) ls pMany 40 #[.pointer (some ⟨S, 0, none⟩), .pointer (some ⟨R, 0, none⟩)] (Cnt wL S R) := by
  rintro pre l post w hs ⟨hB, -⟩ hI
  have hmi := many_iff (l := l) hI.le.1 hI.le.2
  have hks := kind_state (hL.each l (by rw [hs]; simp))
  have e1 := nSt_snoc pre l
  have e2 := nRl_snoc pre l
  have hle := hI.le
  show Calls Try.prog _ #[l.agg, .pointer (some ⟨S, 0, none⟩), .pointer (some ⟨R, 0, none⟩)] w _
  unfold PLn.agg
  have HEND := hide (fun (W : World) (a b : Nat) (hb : Below wC.heap.size wC W) (hsz : w.heap.size ≤ W.heap.size) (hk : ∀ k, k < w.heap.size → k ≠ S → k ≠ R → W.heap[k]? = w.heap[k]?) (hS : W.heap[S]? = some (.cells #[.int .i64 (a : Int)] 3 (0, 0))) (hR : W.heap[R]? = some (.cells #[.int .i64 (b : Int)] 3 (0, 0))) (ha : a = nSt (pre ++ [l])) (hbb : b = nRl (pre ++ [l])) => show ∃ x, Ending.returned (.bool (decide (12 < a) || decide (40 < b))) = .returned (.bool x) ∧ (x = true ↔ pMany (pre.map PLn.pr) l.x) ∧ GX wC wL (fun b => b = S ∨ b = R) W ∧ (x = false → Cnt wL S R (pre ++ [l]) W) from
    ⟨_, rfl, by rw [hmi, ← ha, ← hbb]; simp, ⟨hb, Nat.le_trans hI.size hsz, fun k h1 h2 => (hk k (Nat.lt_of_lt_of_le h1 hI.size) (fun h => h2 (.inl h)) (fun h => h2 (.inr h))).trans (hI.keep k h1 (fun h => h2 (.inl h)) (fun h => h2 (.inr h)))⟩, fun hx => hI.after hsz hk hS hR (by rw [ha]) (by rw [hbb]) (by simp at hx; omega)⟩)
  have HST := hide (heap_alloc_old (o := (.cells #[.int .i64 l.at_, .int .i64 l.kd, .string l.st, .int .i64 l.d, .string l.co, .slice l.ao l.ln l.cp, .int .i64 l.wh, .int .i64 l.fl] 75)) hI.st)
  have HRL := hide (heap_alloc_old (o := (.cells #[.int .i64 l.at_, .int .i64 l.kd, .string l.st, .int .i64 l.d, .string l.co, .slice l.ao l.ln l.cp, .int .i64 l.wh, .int .i64 l.fl] 75)) hI.rl)
  have HB := hide (hB.alloc hB.size (.cells #[.int .i64 l.at_, .int .i64 l.kd, .string l.st, .int .i64 l.d, .string l.co, .slice l.ao l.ln l.cp, .int .i64 l.wh, .int .i64 l.fl] 75))
  have HWK := hide (fun k (hk : k < w.heap.size) => Below.heap_alloc w (.cells #[.int .i64 l.at_, .int .i64 l.kd, .string l.st, .int .i64 l.d, .string l.co, .slice l.ao l.ln l.cp, .int .i64 l.wh, .int .i64 l.fl] 75) k hk)
  obtain ⟨a, ha⟩ : ∃ a, a = nSt pre := ⟨_, rfl⟩
  obtain ⟨b, hb⟩ : ∃ b, b = nRl pre := ⟨_, rfl⟩
  rw [← ha] at HST e1 hle
  rw [← hb] at HRL e2 hle
  have hst := HST.out
  have hrl := HRL.out
  have s0 : (w.alloc (.cells #[.int .i64 l.at_, .int .i64 l.kd, .string l.st, .int .i64 l.d, .string l.co, .slice l.ao l.ln l.cp, .int .i64 l.wh, .int .i64 l.fl] 75)).cell? ⟨S, 0, none⟩ = some (.int .i64 a) := by simp [World.cell?, hst]
  have r0 : (w.alloc (.cells #[.int .i64 l.at_, .int .i64 l.kd, .string l.st, .int .i64 l.d, .string l.co, .slice l.ao l.ln l.cp, .int .i64 l.wh, .int .i64 l.fl] 75)).cell? ⟨R, 0, none⟩ = some (.int .i64 b) := by simp [World.cell?, hrl]
  have sf : (w.alloc (.cells #[.int .i64 l.at_, .int .i64 l.kd, .string l.st, .int .i64 l.d, .string l.co, .slice l.ao l.ln l.cp, .int .i64 l.wh, .int .i64 l.fl] 75)).frozen? ⟨S, 0, none⟩ = false := by simp [World.frozen?, hst]
  have rf : (w.alloc (.cells #[.int .i64 l.at_, .int .i64 l.kd, .string l.st, .int .i64 l.d, .string l.co, .slice l.ao l.ln l.cp, .int .i64 l.wh, .int .i64 l.fl] 75)).frozen? ⟨R, 0, none⟩ = false := by simp [World.frozen?, hrl]
  have hne' : R ≠ S := Ne.symm hne
  have ha1 : a + 1 ≤ 9223372036854775807 := by omega
  have hb1 : b + 1 ≤ 9223372036854775807 := by omega
  obtain ⟨ha12, hb40⟩ := hle
  clear hst hrl
  have HW : Hid (∀ (W : World), W = w.alloc (.cells #[.int .i64 l.at_, .int .i64 l.kd, .string l.st, .int .i64 l.d, .string l.co, .slice l.ao l.ln l.cp, .int .i64 l.wh, .int .i64 l.fl] 75) → w.heap.size ≤ W.heap.size ∧ ∀ k, k < w.heap.size → W.heap[k]? = w.heap[k]?) := fun W hW => by subst hW; exact ⟨by simp, fun k hk => HWK.out k hk⟩
  by_cases hk1 : l.kd = 1
  · have q1 : ((l.kd : Int) == 1) = true := by rw [hk1]; rfl
    rw [if_pos (hks.1.1 hk1)] at e1
    rw [if_neg (fun h => by have := hks.2.2 h; omega)] at e2
    have E1 := hide e1
    have E2 := hide e2
    have HFIN := hide (HEND.out ((w.alloc (.cells #[.int .i64 l.at_, .int .i64 l.kd, .string l.st, .int .i64 l.d, .string l.co, .slice l.ao l.ln l.cp, .int .i64 l.wh, .int .i64 l.fl] 75)).setCell ⟨S, 0, none⟩ (.int .i64 ((a + 1 : Nat) : Int))) (a + 1) b (HB.out.setCell hS _) (by simp [World.setCell]) (fun k h1 h2 h3 => (Below.heap_setCell _ _ _ _ h2).trans ((HW.out _ rfl).2 k h1)) (heap_setCell_same _ S 0 _ HST.out) (by rw [Below.heap_setCell _ _ _ _ hne']; exact HRL.out) E1.out.symm (by rw [E2.out]; omega))
    have h40 : decide ((40 : Int) < (b : Int)) = false := decide_eq_false (by omega)
    clear hI hB hmi hks e1 e2 ha hb hk1 hL hs HEND HW HWK HST HRL HB
    by_cases h12 : 12 ≤ a
    · have q2 : decide ((12 : Int) < (a : Int) + 1) = true := decide_eq_true (by omega)
      have q3 : decide (12 < a + 1) = true := decide_eq_true (by omega)
      rw [q3, Bool.true_or] at HFIN
      clear q3
      go_enter Try.func40, Try.ntmps40
      go_wp2_with fail
      go_ret
      exact HFIN.out
    · have q2 : decide ((12 : Int) < (a : Int) + 1) = false := decide_eq_false (by omega)
      have q3 : decide (12 < a + 1) = false := decide_eq_false (by omega)
      have q4 : decide (40 < b) = false := decide_eq_false (by omega)
      rw [q3, q4, Bool.or_false] at HFIN
      clear q3 q4
      go_enter Try.func40, Try.ntmps40
      go_wp2_with fail
      go_ret
      exact HFIN.out
  · have q1 : ((l.kd : Int) == 1) = false := by rw [beq_eq_false_iff_ne]; omega
    rw [if_neg (fun h => hk1 (hks.1.2 h))] at e1
    have E1 := hide e1
    have q2 : decide ((12 : Int) < (a : Int)) = false := decide_eq_false (by omega)
    have q3 : decide (12 < a) = false := decide_eq_false (by omega)
    by_cases hk2 : l.kd = 2
    · have q5 : ((l.kd : Int) == 2) = true := by rw [hk2]; rfl
      rw [if_pos (hks.2.1 hk2)] at e2
      have E2 := hide e2
      have HFIN := hide (HEND.out ((w.alloc (.cells #[.int .i64 l.at_, .int .i64 l.kd, .string l.st, .int .i64 l.d, .string l.co, .slice l.ao l.ln l.cp, .int .i64 l.wh, .int .i64 l.fl] 75)).setCell ⟨R, 0, none⟩ (.int .i64 ((b + 1 : Nat) : Int))) a (b + 1) (HB.out.setCell hR _) (by simp [World.setCell]) (fun k h1 h2 h3 => (Below.heap_setCell _ _ _ _ h3).trans ((HW.out _ rfl).2 k h1)) (by rw [Below.heap_setCell _ _ _ _ hne]; exact HST.out) (heap_setCell_same _ R 0 _ HRL.out) (by rw [E1.out]; omega) E2.out.symm)
      rw [q3, Bool.false_or] at HFIN
      clear hI hB hmi hks e1 e2 ha hb hk1 hk2 hL hs HEND HW HWK HST HRL HB q3
      by_cases h40 : 40 ≤ b
      · have q6 : decide ((40 : Int) < (b : Int) + 1) = true := decide_eq_true (by omega)
        have q7 : decide (40 < b + 1) = true := decide_eq_true (by omega)
        rw [q7] at HFIN
        clear q7
        go_enter Try.func40, Try.ntmps40
        go_wp2_with fail
        go_ret
        exact HFIN.out
      · have q6 : decide ((40 : Int) < (b : Int) + 1) = false := decide_eq_false (by omega)
        have q7 : decide (40 < b + 1) = false := decide_eq_false (by omega)
        rw [q7] at HFIN
        clear q7
        go_enter Try.func40, Try.ntmps40
        go_wp2_with fail
        go_ret
        exact HFIN.out
    · have q5 : ((l.kd : Int) == 2) = false := by rw [beq_eq_false_iff_ne]; omega
      rw [if_neg (fun h => hk2 (hks.2.2 h))] at e2
      have E2 := hide e2
      have HFIN := hide (HEND.out (w.alloc (.cells #[.int .i64 l.at_, .int .i64 l.kd, .string l.st, .int .i64 l.d, .string l.co, .slice l.ao l.ln l.cp, .int .i64 l.wh, .int .i64 l.fl] 75)) a b HB.out (HW.out _ rfl).1 (fun k h1 h2 h3 => (HW.out _ rfl).2 k h1) HST.out HRL.out (by rw [E1.out]; omega) (by rw [E2.out]; omega))
      have q6 : decide ((40 : Int) < (b : Int)) = false := decide_eq_false (by omega)
      have q7 : decide (40 < b) = false := decide_eq_false (by omega)
      rw [q3, q7, Bool.or_false] at HFIN
      clear hI hB hmi hks e1 e2 ha hb hk1 hk2 hL hs HEND HW HWK HST HRL HB q3 q7
      go_enter Try.func40, Try.ntmps40
      go_wp2_with fail
      go_ret
      exact HFIN.out
end Go.Proofs.Ytgncgdkpkkdaeaa

/- The tests on lines: a state that there is not; a pattern's faults; a pattern that matches the empty text. -/
namespace Go.Proofs.Ytgncgdkpkkdaeaa
open Go.RowKit Tint

/-- All of wL is as it was. -/
structure Kp (wL w : World) : Prop where
  size : wL.heap.size ≤ w.heap.size
  keep : ∀ b, b < wL.heap.size → w.heap[b]? = wL.heap[b]?

theorem Kp.refl (w : World) : Kp w w := ⟨Nat.le_refl _, fun _ _ => rfl⟩
theorem Kp.alloc {wL w : World} (h : Kp wL w) (o : Obj) : Kp wL (w.alloc o) := ⟨by have := h.size; simp; omega, fun b hb => (Below.heap_alloc _ _ _ (Nat.lt_of_lt_of_le hb h.size)).trans (h.keep b hb)⟩
theorem Kp.trans {a b c : World} (h : Kp a b) (k : Kp b c) : Kp a c := ⟨Nat.le_trans h.size k.size, fun i hi => (k.keep i (Nat.lt_of_lt_of_le hi h.size)).trans (h.keep i hi)⟩
theorem Kp.drewN {wL w : World} (h : Kp wL w) (n : Nat) : Kp wL (w.drewN n) := ⟨h.size, h.keep⟩
theorem Kp.get {wL w : World} (h : Kp wL w) {b : Nat} {o : Obj} (hb : wL.heap[b]? = some o) : w.heap[b]? = some o := (h.keep b (lt_of_get hb)).trans hb

/-- wC's blocks and wL's are as they were. -/
def Gk (wC wL : World) (w : World) : Prop := Below wC.heap.size wC w ∧ Kp wL w

theorem Gk.alloc {wC wL w : World} (h : Gk wC wL w) (o : Obj) : Gk wC wL (w.alloc o) := ⟨h.1.alloc h.1.size o, h.2.alloc o⟩

theorem Gk.drewN {wC wL w : World} (h : Gk wC wL w) (n : Nat) : Gk wC wL (w.drewN n) := ⟨Below.drewN' h.1 n, h.2.drewN n⟩

def pBeg (name : List UInt8) (_ : Lns) (x : Ln) : Prop := x = .state name

theorem enters_begins : Enters 55 := fun _ _ => by rfl
theorem enters_began : Enters 38 := fun _ _ => by rfl
theorem enters_many : Enters 40 := fun _ _ => by rfl
theorem enters_opens : Enters 41 := fun _ _ => by rfl
theorem enters_fault : Enters 44 := fun _ _ => by rfl
theorem enters_empty : Enters 26 := fun _ _ => by rfl

set_option maxRecDepth 20000 in
set_option maxHeartbeats 1000000 in
theorem begins_any (wC wL : World) (B Nb : Nat) (sv : Value) (ls : List PLn) (name : ByteArray) (hL : Lines wC B sv ls) (hb : wL.heap[Nb]? = some (.cells #[.string name] 9 (0, 0))) :
    Prd (Gk wC wL) ls (pBeg name.data.toList) 55 #[.pointer (some ⟨Nb, 0, none⟩)] (fun _ _ => True) := by
  intro pre l post w hs hG _
  have hl := hL.each l (by rw [hs]; simp)
  have hks := kind_state hl
  have hbx := heap_alloc_old (o := .cells #[.int .i64 l.at_, .int .i64 l.kd, .string l.st, .int .i64 l.d, .string l.co, .slice l.ao l.ln l.cp, .int .i64 l.wh, .int .i64 l.fl] 75) (hG.2.get hb)
  have c0 := cell_one hbx
  have HG := hide (hG.alloc (.cells #[.int .i64 l.at_, .int .i64 l.kd, .string l.st, .int .i64 l.d, .string l.co, .slice l.ao l.ln l.cp, .int .i64 l.wh, .int .i64 l.fl] 75))
  show Calls Try.prog _ #[l.agg, .pointer (some ⟨Nb, 0, none⟩)] w _
  unfold PLn.agg
  by_cases hk : l.kd = 1
  · have q1 : ((l.kd : Int) == 1) = true := by rw [hk]; rfl
    have hx : l.x = .state l.st.data.toList := by
      have := hks.1.1 hk
      cases hx : l.x with
      | blank => rw [hx] at this; cases this
      | rule d o c p => rw [hx] at this; cases this
      | state n => rw [hx] at hl; rw [hl.2.2.1]
    by_cases hq : l.st.data.toList = name.data.toList
    · have q2 : (l.st.toList == name.toList) = true := by rw [ByteArray.toList_eq, ByteArray.toList_eq, hq]; simp
      have HX := hide (show pBeg name.data.toList (pre.map PLn.pr) l.x by rw [hx, hq]; rfl)
      clear hG hb hL hs hl hks hbx hk hx hq
      go_enter Try.func55, Try.ntmps55
      go_wp2_with fail
      go_ret
      exact ⟨true, rfl, ⟨fun _ => HX.out, fun _ => rfl⟩, HG.out, fun _ => trivial⟩
    · have q2 : (l.st.toList == name.toList) = false := by rw [beq_eq_false_iff_ne, ByteArray.toList_eq, ByteArray.toList_eq]; exact hq
      have HX := hide (show ¬ pBeg name.data.toList (pre.map PLn.pr) l.x by rw [hx]; exact fun h => hq (Ln.state.inj h))
      clear hG hb hL hs hl hks hbx hk hx hq
      go_enter Try.func55, Try.ntmps55
      go_wp2_with fail
      go_ret
      exact ⟨false, rfl, ⟨fun h => (by cases h), fun h => absurd h HX.out⟩, HG.out, fun _ => trivial⟩
  · have q1 : ((l.kd : Int) == 1) = false := by rw [beq_eq_false_iff_ne]; omega
    have HX := hide (show ¬ pBeg name.data.toList (pre.map PLn.pr) l.x by intro h; exact hk (hks.1.2 (by rw [h]; rfl)))
    clear hG hb hL hs hl hks hbx hk
    go_enter Try.func55, Try.ntmps55
    go_wp2_with fail
    go_ret
    exact ⟨false, rfl, ⟨fun h => (by cases h), fun h => absurd h HX.out⟩, HG.out, fun _ => trivial⟩

set_option maxRecDepth 20000 in
set_option maxHeartbeats 1000000 in
theorem containsF_any (wC wL : World) (B Nb : Nat) (sv : Value) (ls : List PLn) (name : ByteArray) (w : World) (hL : Lines wC B sv ls) (hb : wL.heap[Nb]? = some (.cells #[.string name] 9 (0, 0))) (hG : Gk wC wL w) (hz : ls.length ≤ 1000000) :
    Calls Try.prog 42 #[sv, .func (.func 55) #[] #[.pointer (some ⟨Nb, 0, none⟩)]] w fun e w' => Gk wC wL w' ∧ ∃ b, e = .returned (.bool b) ∧ (b = true ↔ ∃ a, (a, Ln.state name.data.toList) ∈ ls.map PLn.pr) := by
  have HIX := hide (indexFunc_any wC B sv ls (pBeg name.data.toList) 55 #[.pointer (some ⟨Nb, 0, none⟩)] (fun _ _ => True) w hL (Gk wC wL) (fun _ h => h.1) (begins_any wC wL B Nb sv ls name hL hb) enters_begins hG trivial hz)
  obtain ⟨ao, cap, rfl, hao⟩ := hL.form
  clear hL hG hb
  go_enter Try.func42, Try.ntmps42
  go_wp2_with fail
  refine HIX.out.mono ?_
  rintro e w1 ⟨hG1, ⟨j, l, rfl, hl, hf⟩ | ⟨rfl, hf, -⟩⟩
  · have q1 : decide ((0 : Int) ≤ (j : Int)) = true := decide_eq_true (by omega)
    have HF := hide hf
    have HG1 := hide hG1
    clear hf hl hG1 HIX
    go_wp2_with fail
    go_ret
    refine ⟨HG1.out, true, rfl, ⟨fun _ => ?_, fun _ => rfl⟩⟩
    have : ∀ {pre l : Lns} {o : Option Nat}, Fst (pBeg name.data.toList) pre l o → ∀ a, o = some a → ∃ a, (a, Ln.state name.data.toList) ∈ l := fun h => by
      induction h with
      | nil => intro a h; cases h
      | hit hp => intro a _; exact ⟨_, by rw [show _ = Ln.state name.data.toList from hp]; exact List.mem_cons_self ..⟩
      | skip _ _ ih => intro a h; obtain ⟨a', h'⟩ := ih a h; exact ⟨a', List.mem_cons_of_mem _ h'⟩
    exact this HF.out _ rfl
  · have HF := hide hf
    have HG1 := hide hG1
    clear hf hG1 HIX
    go_wp2_with fail
    go_ret
    exact ⟨HG1.out, false, rfl, ⟨fun h => (by cases h), fun ⟨a, ha⟩ => absurd (show pBeg name.data.toList [] (Ln.state name.data.toList) from rfl) (fst_none_mem (fun _ _ => Iff.rfl) HF.out _ ha)⟩⟩

theorem makeBegins (name : ByteArray) (w : World) : Calls Try.prog 43 #[.string name] w fun e w' => e = .returned (.func (.func 55) #[] #[.pointer (some ⟨w.heap.size, 0, none⟩)]) ∧ w' = w.alloc (.cells #[.string name] 9) := by
  go_enter Try.func43, Try.ntmps43
  go_wp2_with fail
  go_ret
  exact ⟨rfl, rfl⟩

def OpPost (G : World → Prop) (q : Prop) (e : Ending) (w' : World) : Prop := ∃ b, e = .returned (.bool b) ∧ (b = true ↔ q) ∧ G w'
theorem OpPost.yes {G : World → Prop} {q : Prop} {w' : World} (hq : q) (hG : G w') : OpPost G q (.returned (.bool true)) w' := ⟨true, rfl, ⟨fun _ => hq, fun _ => rfl⟩, hG⟩
theorem OpPost.no {G : World → Prop} {q : Prop} {w' : World} (hq : ¬ q) (hG : G w') : OpPost G q (.returned (.bool false)) w' := ⟨false, rfl, ⟨fun h => (by cases h), fun h => absurd h hq⟩, hG⟩

set_option maxRecDepth 20000 in
set_option maxHeartbeats 1000000 in
theorem opens_any (wC wL : World) (B LB : Nat) (sv : Value) (ls : List PLn) (hL : Lines wC B sv ls) (hb : wL.heap[LB]? = some (.cells #[sv] 56 (0, 0))) (hz : ls.length ≤ 1000000) :
    Prd (Gk wC wL) ls (pUnknown (ls.map PLn.pr)) 41 #[.pointer (some ⟨LB, 0, none⟩)] (fun _ _ => True) := by
  intro pre l post w hs hG _
  have hl := hL.each l (by rw [hs]; simp)
  have hks := kind_state hl
  have hbx := heap_alloc_old (o := .cells #[.int .i64 l.at_, .int .i64 l.kd, .string l.st, .int .i64 l.d, .string l.co, .slice l.ao l.ln l.cp, .int .i64 l.wh, .int .i64 l.fl] 75) (hG.2.get hb)
  have c0 := cell_one hbx
  have HG := hide (hG.alloc (.cells #[.int .i64 l.at_, .int .i64 l.kd, .string l.st, .int .i64 l.d, .string l.co, .slice l.ao l.ln l.cp, .int .i64 l.wh, .int .i64 l.fl] 75))
  suffices h : Calls Try.prog 41 #[l.agg, .pointer (some ⟨LB, 0, none⟩)] w (OpPost (Gk wC wL) (pUnknown (ls.map PLn.pr) (pre.map PLn.pr) l.x)) from h.mono (fun e w' ⟨b, h1, h2, h3⟩ => ⟨b, h1, h2, h3, fun _ => trivial⟩)
  unfold PLn.agg
  by_cases hk : l.kd = 2
  · have q1 : ((l.kd : Int) == 2) = true := by rw [hk]; rfl
    by_cases hd : l.d = 1
    · have q2 : ((l.d : Int) == 1) = true := by rw [hd]; rfl
      have HX := hide (show (∃ a, (a, Ln.state l.st.data.toList) ∈ ls.map PLn.pr) ↔ ¬ pUnknown (ls.map PLn.pr) (pre.map PLn.pr) l.x by
        cases hx : l.x with
        | blank => rw [hx] at hl; have := hl.1; omega
        | state n => rw [hx] at hl; have := hl.1; omega
        | rule d o c p =>
          rw [hx] at hl
          obtain ⟨_, h2, _, h4, _⟩ := hl
          rw [h4, h2, hd]
          constructor
          · rintro ⟨a, ha⟩ ⟨o', c', p', h5, h6⟩
            cases h5
            exact h6 a ha
          · intro h
            refine Classical.byContradiction fun hn => h ⟨o, c, p, rfl, fun a ha => hn ⟨a, ha⟩⟩)
      have HLB := hide (heap_alloc_last w (.cells #[.int .i64 l.at_, .int .i64 l.kd, .string l.st, .int .i64 l.d, .string l.co, .slice l.ao l.ln l.cp, .int .i64 l.wh, .int .i64 l.fl] 75))
      obtain ⟨q, hq⟩ : ∃ q, q = w.heap.size := ⟨_, rfl⟩
      have HL := hide hL
      obtain ⟨ao, cap, rfl, hao⟩ := hL.form
      clear hG hb hL hs hl hks hbx hk hd hao
      go_enter Try.func41, Try.ntmps41
      go_wp2_with fail
      rw [← hq] at HLB ⊢
      clear hq
      generalize w.alloc (.cells #[.int .i64 l.at_, .int .i64 l.kd, .string l.st, .int .i64 l.d, .string l.co, .slice l.ao l.ln l.cp, .int .i64 l.wh, .int .i64 l.fl] 75) = W1 at *
      have hlb := HLB.out
      have d1 : W1.cell? ⟨q, 1, none⟩ = some (.int .i64 l.kd) := by simp [World.cell?, hlb]
      have d2 : W1.cell? ⟨q, 2, none⟩ = some (.string l.st) := by simp [World.cell?, hlb]
      have d3 : W1.cell? ⟨q, 3, none⟩ = some (.int .i64 l.d) := by simp [World.cell?, hlb]
      have HBG := hide (makeBegins l.st W1.drew)
      have HCF := hide (containsF_any wC (W1.drew.alloc (.cells #[.string l.st] 9)) B W1.heap.size (.slice ao ls.length cap) ls l.st (W1.drew.alloc (.cells #[.string l.st] 9)) HL.out (heap_alloc_last W1.drew _) ⟨(HG.out.1.drew).alloc HG.out.1.size _, Kp.refl _⟩ hz)
      have c0' := cell_alloc_old c0 (.cells #[.string l.st] 9)
      have HKK := hide (show Kp wL (W1.drew.alloc (.cells #[.string l.st] 9)) from (HG.out.2.drewN 1).alloc _)
      clear hlb HLB HL
      go_region_with (first
        | (go_at_call 43; refine HBG.out.mono ?_; rintro e w5 ⟨rfl, rfl⟩)
        | (go_at_call 42; refine HCF.out.mono ?_; rintro e w5 ⟨hG5, b, rfl, hb5⟩; have HG5 := hide (show Gk wC wL w5 from ⟨hG5.1, HKK.out.trans hG5.2⟩); have HB5 := hide (hb5.trans HX.out); clear hG5 hb5))
      all_goals
        clear HCF HBG HKK HX HG
        cases b with
        | true =>
          go_wp2_with fail
          go_ret
          exact OpPost.no (HB5.out.1 (by trivial)) HG5.out
        | false =>
          go_wp2_with fail
          go_ret
          exact OpPost.yes (Classical.byContradiction fun hn => (by have := HB5.out.2 hn; cases this)) HG5.out
    · have q2 : ((l.d : Int) == 1) = false := by rw [beq_eq_false_iff_ne]; omega
      have HX := hide (show ¬ pUnknown (ls.map PLn.pr) (pre.map PLn.pr) l.x by
        rintro ⟨o, c, p, hx, _⟩
        rw [hx] at hl
        exact hd hl.2.1.symm)
      clear hG hb hL hs hl hks hbx hk hd
      go_enter Try.func41, Try.ntmps41
      go_wp2_with fail
      go_quiet (fail)
      go_wp2_with fail
      go_ret
      exact OpPost.no HX.out (HG.out.drewN _)
  · have q1 : ((l.kd : Int) == 2) = false := by rw [beq_eq_false_iff_ne]; omega
    have HX := hide (show ¬ pUnknown (ls.map PLn.pr) (pre.map PLn.pr) l.x by
      rintro ⟨o, c, p, hx, _⟩
      rw [hx] at hl
      exact hk hl.1)
    clear hG hb hL hs hl hks hbx hk
    go_enter Try.func41, Try.ntmps41
    go_wp2_with fail
    go_quiet (fail)
    go_wp2_with fail
    go_ret
    exact OpPost.no HX.out (HG.out.drewN _)
end Go.Proofs.Ytgncgdkpkkdaeaa
