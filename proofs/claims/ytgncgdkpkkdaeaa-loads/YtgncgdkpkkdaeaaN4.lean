/- The document's grammar in memory; Index. -/
import Derived.Test.YtgncgdkpkkdaeaaN3
import Derived.Test.YtgncgdkpkkdaeaaNe
namespace Go.Proofs.Ytgncgdkpkkdaeaa
open Go.RowKit Tint

/-- A rule as it lies in memory: its word's number, its word, the state that it opens, its colour, its pattern, the plan, the place. -/
structure RRl where
  d : Nat
  a : ByteArray
  b : ByteArray
  c : ByteArray
  p : ByteArray
  n : Value
  at_ : Nat

def RRl.cells (r : RRl) : List Value := [.string r.a, .string r.b, .string r.c, .string r.p, r.n, .int .i64 r.at_]
def RRl.ln (r : RRl) : Nat × Ln := (r.at_, .rule r.d r.b.data.toList r.c.data.toList r.p.data.toList)

structure RSt where
  name : ByteArray
  rv : Value
  at_ : Nat
  rs : List RRl

def RSt.el (s : RSt) : El := ⟨[.string s.name], s.rv, [.int .i64 s.at_], s.rs.map RRl.cells⟩
def RSt.lns (s : RSt) : Lns := (s.at_, .state s.name.data.toList) :: s.rs.map RRl.ln

/-- The lines that a grammar was made of, without the blank ones. -/
def flat (ss : List RSt) : Lns := ss.flatMap RSt.lns

/-- The document's grammar at block P. -/
structure Grm (w : World) (B P : Nat) (sv : Value) (ss : List RSt) : Prop where
  top : w.heap[P]? = some (.cells #[sv] 43 (0, 0))
  nest : Nest w B 50 55 3 6 sv (ss.map RSt.el)
  words : ∀ s ∈ ss, ∀ r ∈ s.rs, r.d ≤ 2 ∧ r.a.data.toList = ruleWord r.d
  hP : B ≤ P

theorem Grm.form {w : World} {B P : Nat} {sv : Value} {ss : List RSt} (h : Grm w B P sv ss) : ∃ ao cap, sv = .slice ao ss.length cap ∧ (0 < ss.length → ∃ g, ao = some ⟨g, 0, none⟩) := by
  rcases h.nest.outer.2 with ⟨rfl, h0⟩ | ⟨g, cap, cur, rfl, _⟩
  · simp at h0
    exact ⟨none, 0, by rw [h0]; rfl, fun h => by rw [h0] at h; simp at h⟩
  · exact ⟨some ⟨g, 0, none⟩, cap, by simp, fun _ => ⟨g, rfl⟩⟩

theorem Grm.at {w : World} {B P : Nat} {g n cap : Nat} {ss : List RSt} (h : Grm w B P (.slice (some ⟨g, 0, none⟩) n cap) ss) {i : Nat} {s : RSt} (hi : ss[i]? = some s) :
    w.cell? ⟨g, i * 3, none⟩ = some (.string s.name) ∧ w.cell? ⟨g, i * 3 + 1, none⟩ = some s.rv ∧ w.cell? ⟨g, i * 3 + 2, none⟩ = some (.int .i64 s.at_) ∧ w.frozen? ⟨g, i * 3 + 1, none⟩ = false := by
  have hn : n = (ss.map RSt.el).length := by
    rcases h.nest.outer.2 with ⟨h0, _⟩ | ⟨g', cap', cur, e1, _⟩
    · cases h0
    · cases e1; rfl
  subst hn
  have he : (ss.map RSt.el)[i]? = some s.el := by rw [List.getElem?_map, hi]; rfl
  have f := fun j (hj : j < 3) => flatMap_get h.nest.sized he j hj
  exact ⟨(row_cell h.nest.outer (f 0 (by omega))).1, (row_cell h.nest.outer (f 1 (by omega))).1, (row_cell h.nest.outer (f 2 (by omega))).1, (row_cell h.nest.outer (f 1 (by omega) : _ = some s.rv)).2⟩

theorem Grm.top_cell {w : World} {B P : Nat} {sv : Value} {ss : List RSt} (h : Grm w B P sv ss) : w.cell? ⟨P, 0, none⟩ = some sv ∧ w.frozen? ⟨P, 0, none⟩ = false := by
  have := h.top
  exact ⟨by simp [World.cell?, this], by simp [World.frozen?, this]⟩

/-- The grammar behind what turned nothing of it. -/
theorem Grm.keep {w w' : World} {B P : Nat} {sv : Value} {ss : List RSt} (h : Grm w B P sv ss) (hk : ∀ (k : Nat) c t, (t = 43 ∨ t = 50 ∨ t = 55) → w.heap[k]? = some (.cells c t (0, 0)) → w'.heap[k]? = some (.cells c t (0, 0))) : Grm w' B P sv ss :=
  ⟨hk _ _ _ (.inl rfl) h.top, h.nest.other (fun k c t ht hh => hk k c t (.inr ht) hh), h.words, h.hP⟩
theorem Grm.below {w w' : World} {B P : Nat} {sv : Value} {ss : List RSt} (h : Grm w B P sv ss) (hb : Below w.heap.size w w') : Grm w' B P sv ss :=
  h.keep fun k _ _ _ hh => (hb.block k (lt_of_get hh)).trans hh

def IndexPost (ss : List RSt) (n : List UInt8) (w : World) (e : Ending) (w' : World) : Prop :=
  w' = w ∧ ((∃ (i : Nat) (s : RSt), e = .returned (.int .i64 i) ∧ ss[i]? = some s ∧ s.name.data.toList = n ∧ ∀ (j : Nat) (t : RSt), j < i → ss[j]? = some t → t.name.data.toList ≠ n) ∨
    (e = .returned (.int .i64 (-1)) ∧ ∀ t ∈ ss, t.name.data.toList ≠ n))

def IndexLoop (ss : List RSt) (n : List UInt8) (w : World) (k : Nat) (i : Value) (wr : World) : Prop :=
  ∃ j : Nat, i = .int .i64 j ∧ j + k = ss.length ∧ wr = w ∧ ∀ (m : Nat) (t : RSt), m < j → ss[m]? = some t → t.name.data.toList ≠ n

set_option maxRecDepth 20000 in
set_option maxHeartbeats 1000000 in
theorem index_any (B P : Nat) (sv : Value) (ss : List RSt) (n : ByteArray) (w : World) (h : Grm w B P sv ss) (hz : ss.length ≤ 1000000000) :
    Calls Try.prog 17 #[.pointer (some ⟨P, 0, none⟩), .string n] w (IndexPost ss n.data.toList w) := by
  obtain ⟨ao, cap, rfl, hao⟩ := h.form
  have c0 := h.top_cell.1
  have HG := hide h
  have HAO := hide hao
  clear h hao
  go_enter Try.func17, Try.ntmps17
  go_wp2_with fail
  go_loopg [5] ss.length (fun k i wr => IndexLoop ss n.data.toList w k i wr)
  case atStart => exact ⟨0, rfl, by omega, rfl, fun m t h => by omega⟩
  case round =>
    obtain ⟨j, rfl, hk, rfl, hall⟩ := hrel
    by_cases hlt : j < ss.length
    · have g1 : decide ((j : Int) < (ss.length : Int)) = true := decide_eq_true (by omega)
      obtain ⟨g, rfl⟩ := HAO.out (by omega)
      obtain ⟨s, hs⟩ : ∃ s, ss[j]? = some s := ⟨ss[j], List.getElem?_eq_getElem hlt⟩
      obtain ⟨a0, -, -, -⟩ := HG.out.at hs
      have HALL := hide hall
      have HS := hide hs
      clear hall hs
      by_cases hq : s.name.data.toList = n.data.toList
      · have q1 : (s.name.toList == n.toList) = true := by rw [ByteArray.toList_eq, ByteArray.toList_eq, hq]; simp
        have HEND := hide (show IndexPost ss n.data.toList wr (.returned (.int .i64 j)) wr from ⟨rfl, .inl ⟨j, s, rfl, HS.out, hq, HALL.out⟩⟩)
        clear HALL HS hq
        go_wp2_with fail
        go_ret
        exact HEND.out
      · have q1 : (s.name.toList == n.toList) = false := by rw [beq_eq_false_iff_ne, ByteArray.toList_eq, ByteArray.toList_eq]; exact hq
        obtain ⟨k', rfl⟩ : ∃ k', gk = k' + 1 := ⟨gk - 1, by omega⟩
        have HQ := hide hq
        have hi : j + 1 ≤ 9223372036854775807 := by omega
        clear hq
        go_wp2_with fail
        go_roundg k'
        case measure => omega
        case rel =>
          refine ⟨j + 1, rfl, by omega, rfl, fun m t hm ht => ?_⟩
          rcases Nat.lt_or_ge m j with h | h
          · exact HALL.out m t h ht
          · have : m = j := by omega
            subst this
            rw [HS.out] at ht
            cases ht
            exact HQ.out
    · have g1 : decide ((j : Int) < (ss.length : Int)) = false := decide_eq_false (by omega)
      have HEND := hide (show IndexPost ss n.data.toList wr (.returned (.int .i64 (-1))) wr from ⟨rfl, .inr ⟨rfl, fun t ht => by
        obtain ⟨m, hm⟩ := List.getElem?_of_mem ht
        exact hall m t (by have := get_lt hm; omega) hm⟩⟩)
      clear hall
      go_wp2_with fail
      go_ret
      exact HEND.out
end Go.Proofs.Ytgncgdkpkkdaeaa
