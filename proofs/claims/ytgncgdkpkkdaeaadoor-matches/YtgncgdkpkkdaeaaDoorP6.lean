/- A node more: does it match the empty text; add. -/
import Derived.Test.YtgncgdkpkkdaeaaDoorP5
namespace Go.Proofs.YtgncgdkpkkdaeaaDoor
open Go.RowKit Tint

theorem Lists.at {w : World} {B : Nat} {sv : Value} {ns : List (Nd Value)} (h : Lists w B sv ns) {i : Nat} {nd : Nd Value} (hi : ns[i]? = some nd) :
    ∃ g cap, sv = .slice (some ⟨g, 0, none⟩) ns.length cap ∧ w.cell? ⟨g, i * 5, none⟩ = some (.int .i64 nd.kind) ∧ w.cell? ⟨g, i * 5 + 1, none⟩ = some nd.has ∧
      w.cell? ⟨g, i * 5 + 2, none⟩ = some (.int .i64 nd.left) ∧ w.cell? ⟨g, i * 5 + 3, none⟩ = some (.int .i64 nd.right) ∧ w.cell? ⟨g, i * 5 + 4, none⟩ = some (.bool nd.empty) := by
  have hlt : i < ns.length := by
    rcases Nat.lt_or_ge i ns.length with h' | h'
    · exact h'
    · rw [List.getElem?_eq_none h'] at hi; cases hi
  obtain ⟨⟨h1, h2⟩, _⟩ := h
  rcases h2 with ⟨rfl, h0⟩ | ⟨g, cap, cur, rfl, hg, hh, hn, hc, hs, ht⟩
  · omega
  · refine ⟨g, cap, rfl, ?_⟩
    have key : ∀ j, j < 5 → w.cell? ⟨g, i * 5 + j, none⟩ = (ndCells nd)[j]? := by
      intro j hj
      rw [← nsCells_get hi j hj, ← ht]
      have hb : i * 5 + j < ns.length * 5 := by omega
      rw [List.getElem?_take_of_lt hb]
      simp [World.cell?, hh]
    refine ⟨key 0 (by omega), key 1 (by omega), key 2 (by omega), key 3 (by omega), key 4 (by omega)⟩

theorem cell_alloc_old {w : World} {a : Addr} {v : Value} (h : w.cell? a = some v) (o : Obj) : (w.alloc o).cell? a = some v := by
  rw [World.cell?_of_block (w := w) (Below.heap_alloc _ _ _ (World.block_lt_of_cell? w a h))]; exact h

theorem get_lt {α : Type} {l : List α} {i : Nat} {x : α} (h : l[i]? = some x) : i < l.length := by
  rcases Nat.lt_or_ge i l.length with h' | h'
  · exact h'
  · rw [List.getElem?_eq_none h'] at h; cases h

set_option maxHeartbeats 400000 in
theorem matchesEmpty_seq (B : Nat) (sv : Value) (ns : List (Nd Value)) (l r : Nat) (x y : Nd Value) (h : Value) (em : Bool) (w : World) (hL : Lists w B sv ns) (hx : ns[l]? = some x) (hy : ns[r]? = some y) :
    Calls Tryd.prog 47 #[sv, .agg #[.int .i64 2, h, .int .i64 l, .int .i64 r, .bool em]] w fun e w' =>
      e = .returned (.bool (x.empty && y.empty)) ∧ Below w.heap.size w w' := by
  obtain ⟨g, cap, rfl, -, -, -, -, hx4⟩ := hL.at hx
  obtain ⟨g', cap', e', -, -, -, -, hy4⟩ := hL.at hy
  cases e'
  have hxa := cell_alloc_old hx4
  have hya := cell_alloc_old hy4
  have hl := get_lt hx
  have hr := get_lt hy
  clear hL hx hy hx4 hy4
  go_enter Tryd.func47, Tryd.ntmps47
  go_wp2
  all_goals
    go_ret
    exact ⟨by simp [*], (Below.refl _ _).alloc (Nat.le_refl _) _⟩

set_option maxHeartbeats 400000 in
theorem matchesEmpty_alt (B : Nat) (sv : Value) (ns : List (Nd Value)) (l r : Nat) (x y : Nd Value) (h : Value) (em : Bool) (w : World) (hL : Lists w B sv ns) (hx : ns[l]? = some x) (hy : ns[r]? = some y) :
    Calls Tryd.prog 47 #[sv, .agg #[.int .i64 3, h, .int .i64 l, .int .i64 r, .bool em]] w fun e w' =>
      e = .returned (.bool (x.empty || y.empty)) ∧ Below w.heap.size w w' := by
  obtain ⟨g, cap, rfl, -, -, -, -, hx4⟩ := hL.at hx
  obtain ⟨g', cap', e', -, -, -, -, hy4⟩ := hL.at hy
  cases e'
  have hxa := cell_alloc_old hx4
  have hya := cell_alloc_old hy4
  have hl := get_lt hx
  have hr := get_lt hy
  clear hL hx hy hx4 hy4
  go_enter Tryd.func47, Tryd.ntmps47
  go_wp2
  all_goals
    go_ret
    exact ⟨by simp [*], (Below.refl _ _).alloc (Nat.le_refl _) _⟩

set_option maxHeartbeats 400000 in
theorem matchesEmpty_plus (B : Nat) (sv : Value) (ns : List (Nd Value)) (l : Nat) (r : Int) (x : Nd Value) (h : Value) (em : Bool) (w : World) (hL : Lists w B sv ns) (hx : ns[l]? = some x) :
    Calls Tryd.prog 47 #[sv, .agg #[.int .i64 5, h, .int .i64 l, .int .i64 r, .bool em]] w fun e w' =>
      e = .returned (.bool x.empty) ∧ Below w.heap.size w w' := by
  obtain ⟨g, cap, rfl, -, -, -, -, hx4⟩ := hL.at hx
  have hxa := cell_alloc_old hx4
  have hl := get_lt hx
  clear hL hx hx4
  go_enter Tryd.func47, Tryd.ntmps47
  go_wp2
  go_ret
  exact ⟨by simp [*], (Below.refl _ _).alloc (Nat.le_refl _) _⟩

set_option maxHeartbeats 400000 in
theorem matchesEmpty_plain (sv : Value) (k : Nat) (l r : Int) (h : Value) (em b : Bool) (w : World) (hk : (k = 1 ∧ b = false) ∨ ((k = 4 ∨ k = 6) ∧ b = true)) :
    Calls Tryd.prog 47 #[sv, .agg #[.int .i64 k, h, .int .i64 l, .int .i64 r, .bool em]] w fun e w' =>
      e = .returned (.bool b) ∧ Below w.heap.size w w' := by
  rcases hk with ⟨rfl, rfl⟩ | ⟨rfl | rfl, rfl⟩
  all_goals
    go_enter Tryd.func47, Tryd.ntmps47
    go_wp2
    go_ret
    exact ⟨rfl, (Below.refl _ _).alloc (Nat.le_refl _) _⟩

/-- What a node made of such parts is: does it match the empty text? -/
def Emp (ns : List (Nd Value)) (k l r : Nat) (b : Bool) : Prop :=
  (k = 1 ∧ b = false) ∨ ((k = 4 ∨ k = 6) ∧ b = true) ∨ (k = 5 ∧ ∃ x, ns[l]? = some x ∧ b = x.empty) ∨
  (k = 2 ∧ ∃ x y, ns[l]? = some x ∧ ns[r]? = some y ∧ b = (x.empty && y.empty)) ∨
  (k = 3 ∧ ∃ x y, ns[l]? = some x ∧ ns[r]? = some y ∧ b = (x.empty || y.empty))

theorem matchesEmpty_any (B : Nat) (sv : Value) (ns : List (Nd Value)) (k l r : Nat) (h : Value) (em b : Bool) (w : World) (hL : Lists w B sv ns) (hE : Emp ns k l r b) :
    Calls Tryd.prog 47 #[sv, .agg #[.int .i64 k, h, .int .i64 l, .int .i64 r, .bool em]] w fun e w' =>
      e = .returned (.bool b) ∧ Below w.heap.size w w' := by
  rcases hE with hE | hE | ⟨rfl, x, hx, rfl⟩ | ⟨rfl, x, y, hx, hy, rfl⟩ | ⟨rfl, x, y, hx, hy, rfl⟩
  · exact matchesEmpty_plain sv k l r h em b w (.inl hE)
  · exact matchesEmpty_plain sv k l r h em b w (.inr hE)
  · exact matchesEmpty_plus B sv ns l r x h em w hL hx
  · exact matchesEmpty_seq B sv ns l r x y h em w hL hx hy
  · exact matchesEmpty_alt B sv ns l r x y h em w hL hx hy
end Go.Proofs.YtgncgdkpkkdaeaaDoor
