/- Copies of lists of expressions. -/
import Derived.Test.YtjjeomcojobjhaaDoorR15
import Derived.Maps.AppendAt
import Derived.Lib.BufferMore
namespace Go.Proofs.YtjjeomcojobjhaaDoor
open Go.RowKit Tint Go.Maps

def ClonePost (ns : List (Nd Value)) (w : World) (e : Ending) (w' : World) : Prop := ∃ sv', e = .returned sv' ∧ Below w.heap.size w w' ∧ Lists w' w.heap.size sv' ns

theorem ones_ns {ns : List (Nd Value)} (h : ∀ nd ∈ ns, Form nd.has) : ∀ u ∈ nsCells ns, u.oneCell' = true := by
  intro u hu
  obtain ⟨nd, h1, h2⟩ := List.mem_flatMap.1 hu
  simp only [ndCells, List.mem_cons, List.not_mem_nil, or_false] at h2
  rcases h2 with rfl | rfl | rfl | rfl | rfl
  · rfl
  · exact (h nd h1).one
  · rfl
  · rfl
  · rfl

theorem Below.grownBy' {w w' : World} {B : Nat} {v : Value} (h : w.grownBy w' v.ownBlock) (hB : B ≤ w.heap.size) (hv : ∀ k, v.ownBlock = some k → B ≤ k) : Below B w w' :=
  ⟨h.os, h.tape, h.output, h.size, fun k hk => h.block k (by omega) (fun e => by have := hv k e.symm; omega)⟩

theorem not_nil (a : Addr) (n c : Nat) (w : World) : (binOp BinOp.eql 37 (Value.slice (some a) n c) (Value.slice none 0 0)).run Tryd.prog w = .ok (.bool false) w := by
  exact Lib.run_eql_slice_some_nil w _ _ _ Tryd.underlying37

set_option maxRecDepth 20000 in
set_option maxHeartbeats 1000000 in
theorem clone_any (sv : Value) (ns : List (Nd Value)) (w : World) (hL : Lists w 0 sv ns) (h0 : 0 < ns.length) (hn : ns.length ≤ 200) :
    Calls Tryd.prog 33 #[sv] w (ClonePost ns w) := by
  obtain ⟨g, cap, rfl⟩ := own_form hL.1 h0
  obtain ⟨i0, hi, hz0, hz1, hz3⟩ := info_parts info_expr
  have HL := hide hL
  have hnn := not_nil ⟨g, 0, none⟩ ns.length cap w
  clear hL
  go_enter Tryd.func33, Tryd.ntmps33
  have HO := hide (show Lists (w.alloc (.cells #[] 80)) w.heap.size (.slice (some ⟨w.heap.size, 0, none⟩) 0 0) [] from ⟨⟨rfl, .inr ⟨w.heap.size, 0, #[], rfl, Nat.le_refl _, heap_alloc_last _ _, Nat.le_refl _, by unfold maxLen; omega, rfl, rfl⟩⟩, by simp⟩)
  have HC := hide (fun (j : Nat) u (h : (nsCells ns)[j]? = some u) => show (w.alloc (.cells #[] 80)).cell? ((⟨g, 0, none⟩ : Addr).add j) = some u from cell_alloc_old (HL.out.1.cells rfl j u h) _)
  go_wp2_with (at_builtin; go_loud (refine wpList_append_own_at _ rfl (.tmp 5) (.tmp 6) 37 rfl w.heap.size 80 i0 (.agg #[.int .i64 0, .nilFunc, .int .i64 0, .int .i64 0, .bool false]) 5 40 Tryd.underlying37 hi hz0 hz1 hz3 rfl (by decide) (.slice (some ⟨w.heap.size, 0, none⟩) 0 0) 0 [] (by rfl) (by exact HO.out.1) ⟨g, 0, none⟩ ns.length cap (nsCells ns) (by rfl) (by exact length_nsCells ns) HC.out (ones_ns HL.out.2) (by unfold maxLen; omega) (by omega) (by simp) ?_; intro v' w2 hown hgr _ _; rw [List.nil_append, Nat.zero_add] at hown; have HP := hide (show ClonePost ns w (.returned v') w2 from ⟨v', rfl, ((Below.refl _ _).alloc (Nat.le_refl _) _).trans (Below.grownBy' hgr (by simp) (fun k hk => by cases hk; exact Nat.le_refl _)), hown, HL.out.2⟩); obtain ⟨g', cap', rfl⟩ := own_form hown (by omega); clear hown hgr))
  go_ret
  exact HP.out
end Go.Proofs.YtjjeomcojobjhaaDoor
