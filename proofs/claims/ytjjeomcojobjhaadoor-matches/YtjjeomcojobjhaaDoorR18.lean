/- A new reader: its parts. -/
import Derived.Test.YtjjeomcojobjhaaDoorR17
namespace Go.Proofs.YtjjeomcojobjhaaDoor
open Go.RowKit Tint Go.Maps

def NumberingPost (w : World) (e : Ending) (w' : World) : Prop :=
  ∃ M mv pl, e = .returned (.tuple #[.func (.func 47) #[] #[.pointer (some ⟨mv, 0, none⟩), .pointer (some ⟨pl, 0, none⟩)], .func (.func 48) #[] #[.pointer (some ⟨pl, 0, none⟩)]]) ∧ Below w.heap.size w w' ∧ w.heap.size ≤ M ∧ w.heap.size ≤ mv ∧ w.heap.size ≤ pl ∧
    w'.heap[mv]? = some (.cells #[.map (some M)] 98 (0, 0)) ∧ Nums w' M pl (.slice none 0 0) []

set_option maxRecDepth 20000 in
set_option maxHeartbeats 1000000 in
theorem numbering_any (w : World) : Calls Tryd.prog 34 #[] w (NumberingPost w) := by
  have hmm := @run_makeMap Tryd.prog
  go_enter Tryd.func34, Tryd.ntmps34
  go_wp2_with fail
  refine bodyPost_ret (v := .tuple #[.func (.func 47) #[] #[.pointer (some ⟨w.heap.size + 1, 0, none⟩), .pointer (some ⟨w.heap.size + 1 + 1, 0, none⟩)], .func (.func 48) #[] #[.pointer (some ⟨w.heap.size + 1 + 1, 0, none⟩)]]) (by simp [results, Tryd.results34, go_sem, *]) rfl ?_
  have hM := MapIs.made intT 3 .i64 w
  have h1 := heap_alloc_last (w.alloc (.map #[] 0)) (.cells #[.map (some w.heap.size)] 98)
  have h2 := heap_alloc_last ((w.alloc (.map #[] 0)).alloc (.cells #[.map (some w.heap.size)] 98)) (.cells #[.slice none 0 0] 31)
  have b1 : Below w.heap.size w (w.alloc (.map #[] 0)) := (Below.refl _ _).alloc (Nat.le_refl _) _
  have b2 := b1.alloc (o := .cells #[.map (some w.heap.size)] 98) (by simp)
  have b3 := b2.alloc (o := .cells #[.slice none 0 0] 31) (by simp; omega)
  refine ⟨w.heap.size, w.heap.size + 1, w.heap.size + 1 + 1, rfl, b3, Nat.le_refl _, by omega, by omega, heap_alloc_old (by simpa using h1), ⟨by simpa using h2, ⟨by simp, .inl ⟨rfl, rfl⟩⟩, ⟨0, fun _ => none, hM.keep ?_, Nat.le_refl _, fun k c => ?_⟩, by simp, by simp⟩⟩
  · obtain ⟨es, clk, ho⟩ := hM.obj
    rw [ho]
    exact heap_alloc_old (heap_alloc_old ho)
  · simp

def RememberPost (v : Array Value) (w : World) (e : Ending) (w' : World) : Prop :=
  ∃ K kv wk, e = .returned (.func (.func 49) #[] #[.pointer (some ⟨kv, 0, none⟩), .pointer (some ⟨wk, 0, none⟩)]) ∧ Below w.heap.size w w' ∧ w.heap.size ≤ K ∧ w'.heap[kv]? = some (.cells #[.map (some K)] 99 (0, 0)) ∧
    w'.heap[wk]? = some (.cells #[.func (.func 37) #[] v] 91 (0, 0)) ∧ MapIs givenT 63 .u64 w' K 0 (fun _ => none)

set_option maxRecDepth 20000 in
set_option maxHeartbeats 1000000 in
theorem remember_any (v : Array Value) (w : World) : Calls Tryd.prog 36 #[.func (.func 37) #[] v] w (RememberPost v w) := by
  have hmm := @run_makeMap Tryd.prog
  go_enter Tryd.func36, Tryd.ntmps36
  go_wp2_with fail
  go_ret
  have hM := MapIs.made givenT 63 .u64 (w.alloc (.cells #[.func (.func 37) #[] v] 91))
  have h1 := heap_alloc_last w (.cells #[.func (.func 37) #[] v] 91)
  have h2 := heap_alloc_last ((w.alloc (.cells #[.func (.func 37) #[] v] 91)).alloc (.map #[] 0)) (.cells #[.map (some (w.heap.size + 1))] 99)
  have b1 : Below w.heap.size w (w.alloc (.cells #[.func (.func 37) #[] v] 91)) := (Below.refl _ _).alloc (Nat.le_refl _) _
  have b2 := b1.alloc (o := .map #[] 0) (by simp)
  have b3 := b2.alloc (o := .cells #[.map (some (w.heap.size + 1))] 99) (by simp; omega)
  refine ⟨w.heap.size + 1, w.heap.size + 1 + 1, w.heap.size, rfl, b3, by omega, by simpa using h2, heap_alloc_old (heap_alloc_old h1), ?_⟩
  rw [show (w.alloc (.cells #[.func (.func 37) #[] v] 91)).heap.size = w.heap.size + 1 by simp] at hM
  refine hM.keep ?_
  obtain ⟨es, clk, ho⟩ := hM.obj
  rw [ho]
  exact heap_alloc_old ho
end Go.Proofs.YtjjeomcojobjhaaDoor
