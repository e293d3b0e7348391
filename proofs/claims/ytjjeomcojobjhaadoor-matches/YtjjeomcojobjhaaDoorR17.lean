/- mirrored. -/
import Derived.Test.YtjjeomcojobjhaaDoorR16
namespace Go.Proofs.YtjjeomcojobjhaaDoor
open Go.RowKit Tint Go.Maps

def swp (nd : Nd Value) : Nd Value := if nd.kind = 2 then ⟨nd.kind, nd.has, nd.right, nd.left, nd.empty⟩ else nd

theorem nsCells_set (ns : List (Nd Value)) (j l r : Nat) (nd : Nd Value) (h : ns[j]? = some nd) : nsCells (ns.set j ⟨nd.kind, nd.has, l, r, nd.empty⟩) = ((nsCells ns).set (j * 5 + 2) (.int .i64 l)).set (j * 5 + 3) (.int .i64 r) := by
  induction ns generalizing j with
  | nil => simp at h
  | cons x xs ih =>
    cases j with
    | zero =>
      simp at h
      subst h
      simp [nsCells, ndCells]
    | succ j =>
      simp only [List.getElem?_cons_succ] at h
      have e1 : (j + 1) * 5 + 2 = (j * 5 + 2) + 1 + 1 + 1 + 1 + 1 := by omega
      have e2 : (j + 1) * 5 + 3 = (j * 5 + 3) + 1 + 1 + 1 + 1 + 1 := by omega
      have ih := ih j h
      simp only [nsCells] at ih
      rw [e1, e2]
      simp only [List.set_cons_succ, nsCells, List.flatMap_cons, ndCells, List.cons_append, List.nil_append]
      rw [ih]

theorem lists_set {w : World} {B g cap j l r : Nat} {ns : List (Nd Value)} {nd : Nd Value} (h : Lists w B (.slice (some ⟨g, 0, none⟩) ns.length cap) ns) (hj : ns[j]? = some nd) :
    Lists ((w.setCell ⟨g, j * 5 + 2, none⟩ (.int .i64 l)).setCell ⟨g, j * 5 + 3, none⟩ (.int .i64 r)) B (.slice (some ⟨g, 0, none⟩) ns.length cap) (ns.set j ⟨nd.kind, nd.has, l, r, nd.empty⟩) := by
  obtain ⟨⟨h1, h2⟩, h3⟩ := h
  have hjl := get_lt hj
  rcases h2 with ⟨h2, _⟩ | ⟨g', cap', cur, e, hB, hh, a1, a2, a3, a4⟩
  · cases h2
  · cases e
    have e1 := heap_setCell_same w g (j * 5 + 2) (.int .i64 l) hh
    have e2 := heap_setCell_same (w.setCell ⟨g, j * 5 + 2, none⟩ (.int .i64 l)) g (j * 5 + 3) (.int .i64 r) e1
    refine ⟨⟨by rw [length_nsCells, List.length_set], .inr ⟨g, cap, _, by rw [List.length_set], hB, e2, by rw [List.length_set]; exact a1, a2, by simpa using a3, ?_⟩⟩, ?_⟩
    · rw [List.length_set, nsCells_set ns j l r nd hj, ← a4]
      simp only [Array.toList_setIfInBounds, List.take_set]
    · intro x hx
      rcases List.mem_or_eq_of_mem_set hx with hx | rfl
      · exact h3 x hx
      · exact h3 nd (List.mem_of_getElem? hj)

/-- The first j of them turned. -/
def half (ns : List (Nd Value)) (j : Nat) : List (Nd Value) := (ns.take j).map swp ++ ns.drop j

theorem length_half (ns : List (Nd Value)) {j : Nat} (h : j ≤ ns.length) : (half ns j).length = ns.length := by simp [half]; omega

theorem half_get (ns : List (Nd Value)) (j : Nat) (h : j ≤ ns.length) : (half ns j)[j]? = ns[j]? := by
  unfold half
  rw [List.getElem?_append_right (by simp; omega)]
  simp
  congr 1
  omega

theorem half_step (ns : List (Nd Value)) {j : Nat} {nd : Nd Value} (h : ns[j]? = some nd) : (half ns j).set j (swp nd) = half ns (j + 1) := by
  have hl := get_lt h
  rw [List.getElem?_eq_getElem hl] at h
  unfold half
  rw [List.set_append_right _ _ (by simp; omega), List.take_succ_eq_append_getElem hl, List.drop_eq_getElem_cons hl, Option.some.inj h]
  have e : j - (List.map swp (List.take j ns)).length = 0 := by simp; omega
  rw [e]
  simp

def MirPost (ns : List (Nd Value)) (w : World) (e : Ending) (w' : World) : Prop := ∃ sv', e = .returned sv' ∧ Below w.heap.size w w' ∧ Lists w' w.heap.size sv' (ns.map swp)

def MirLoop (ns : List (Nd Value)) (B g cap : Nat) (w : World) (k : Nat) (i : Value) (wr : World) : Prop :=
  ∃ j : Nat, i = .int .i64 j ∧ j + k = ns.length ∧ Below B w wr ∧ Lists wr B (.slice (some ⟨g, 0, none⟩) ns.length cap) (half ns j)

theorem mir_step {ns : List (Nd Value)} {B g cap j k : Nat} {w wr w' : World} {nd : Nd Value} (hk : j + (k + 1) = ns.length) (hnd : ns[j]? = some nd) (hb : Below B w wr) (hb2 : Below B wr w') (hL : Lists w' B (.slice (some ⟨g, 0, none⟩) ns.length cap) ((half ns j).set j (swp nd))) :
    MirLoop ns B g cap w k (.int .i64 ((j + 1 : Nat) : Int)) w' := by
  rw [half_step ns hnd] at hL
  exact ⟨j + 1, rfl, by omega, hb.trans hb2, hL⟩

set_option maxRecDepth 20000 in
set_option maxHeartbeats 1000000 in
theorem mirrored_any (sv : Value) (ns : List (Nd Value)) (w : World) (hL : Lists w 0 sv ns) (h0 : 0 < ns.length) (hn : ns.length ≤ 200) :
    Calls Tryd.prog 23 #[sv] w (MirPost ns w) := by
  have HC := hide (clone_any sv ns w hL h0 hn)
  obtain ⟨g0, cap0, rfl⟩ := own_form hL.1 h0
  clear hL
  go_enter Tryd.func23, Tryd.ntmps23
  go_wp2_with fail
  refine HC.out.mono ?_
  rintro e w1 ⟨sv', rfl, hB1, hL1⟩
  obtain ⟨g, cap, rfl⟩ := own_form hL1.1 h0
  have HB1 := hide hB1
  have HL1 := hide hL1
  clear hB1 hL1 HC
  go_wp2_with fail
  go_loopg [10] ns.length (fun k i wr => MirLoop ns w.heap.size g cap w k i wr)
  case atStart => exact ⟨0, by simp, by simp, HB1.out, by simpa [half] using HL1.out⟩
  case round =>
    obtain ⟨j, rfl, hk, hb, hl⟩ := hrel
    by_cases hlt : j < ns.length
    · obtain ⟨nd, hnd⟩ : ∃ nd, ns[j]? = some nd := ⟨ns[j], List.getElem?_eq_getElem hlt⟩
      have hnd' := half_get ns j (by omega)
      rw [hnd] at hnd'
      obtain ⟨g', cap', e', m0, m1, m2, m3, m4⟩ := hl.at hnd'
      rw [length_half ns (by omega)] at e'
      cases e'
      have hfm := hl.2 nd (List.mem_of_getElem? hnd')
      have hst := store_form hfm
      have HBr := hide hb
      have HLr := hide hl
      have HND := hide hnd
      have HND' := hide hnd'
      clear hb hl hnd hnd'
      obtain ⟨k, hv, l, r, em⟩ := nd
      by_cases hk2 : k = 2
      · subst hk2
        go_wp2_with fail
        obtain ⟨W, hW⟩ : ∃ W, W = wr.alloc (.cells #[.int .i64 2, hv, .int .i64 l, .int .i64 r, .bool em] 80) := ⟨_, rfl⟩
        have hbW : Below wr.heap.size wr W := hW ▸ (Below.refl _ _).alloc (Nat.le_refl _) _
        have hEW : W.heap[wr.heap.size]? = some (.cells #[.int .i64 2, hv, .int .i64 l, .int .i64 r, .bool em] 80 (0, 0)) := hW ▸ heap_alloc_last _ _
        rw [← hW]
        clear hW
        have hLW := HLr.out.keep (fun k hk => hbW.block k (lt_of_get (HLr.out.block hk).2.choose_spec))
        obtain ⟨gB, cur, hcur⟩ := hLW.block (k := g) rfl
        obtain ⟨g', cap', e', n0, n1, n2, n3, n4⟩ := hLW.at HND'.out
        rw [length_half ns (by omega)] at e'
        cases e'
        have z2 : W.frozen? ⟨g, j * 5 + 2, none⟩ = false := by simp [World.frozen?, hcur]
        have z3 : W.frozen? ⟨g, j * 5 + 3, none⟩ = false := by simp [World.frozen?, hcur]
        have y2 : W.cell? ⟨wr.heap.size, 2, none⟩ = some (.int .i64 l) := by simp [World.cell?, hEW]
        have y3 : W.cell? ⟨wr.heap.size, 3, none⟩ = some (.int .i64 r) := by simp [World.cell?, hEW]
        have hgl : g < wr.heap.size := lt_of_get (HLr.out.block (k := g) rfl).2.choose_spec
        have hne : ∀ off v, (W.setCell ⟨g, off, none⟩ v).heap[wr.heap.size]? = W.heap[wr.heap.size]? := fun off v => Below.heap_setCell _ _ _ _ (by show wr.heap.size ≠ g; omega)
        have y2' : ∀ off v, (W.setCell ⟨g, off, none⟩ v).cell? ⟨wr.heap.size, 2, none⟩ = some (.int .i64 l) := fun off v => by simp [World.cell?, hne, hEW]
        have y3' : ∀ off v, (W.setCell ⟨g, off, none⟩ v).cell? ⟨wr.heap.size, 3, none⟩ = some (.int .i64 r) := fun off v => by simp [World.cell?, hne, hEW]
        have HBW := hide hbW
        have HLW := hide hLW
        clear hne hbW hEW hLW hcur n0 n1 n4 m0 m1 m2 m3 m4 hst hfm
        have hgB : w.heap.size ≤ g := gB
        obtain ⟨k', rfl⟩ : ∃ k', gk = k' + 1 := ⟨gk - 1, by omega⟩
        have HST := hide (show MirLoop ns w.heap.size g cap w k' (.int .i64 ((j + 1 : Nat) : Int)) ((W.setCell ⟨g, j * 5 + 2, none⟩ (.int .i64 r)).setCell ⟨g, j * 5 + 3, none⟩ (.int .i64 l)).drew from
          mir_step (w' := ((W.setCell ⟨g, j * 5 + 2, none⟩ (.int .i64 r)).setCell ⟨g, j * 5 + 3, none⟩ (.int .i64 l)).drew) hk HND.out HBr.out ((((HBW.out.mono HBr.out.size).setCell hgB _).setCell hgB _).drew) (by
            have hlh : (half ns j).length = ns.length := length_half ns (by omega)
            have h0 := HLW.out
            rw [← hlh] at h0
            have h1 := lists_set (l := r) (r := l) h0 HND'.out
            rw [hlh] at h1
            exact h1))
        clear HND HND' HBr HLr HBW HLW
        go_region
        go_wp2_with fail
        go_roundg k'
        case measure => omega
        case rel => exact HST.out
      · have hk2' : ((k : Int) == 2) = false := by rw [beq_eq_false_iff_ne]; omega
        have hsame : (half ns j).set j (swp ⟨k, hv, l, r, em⟩) = half ns j := by
          have e1 : swp ⟨k, hv, l, r, em⟩ = ⟨k, hv, l, r, em⟩ := by simp [swp, hk2]
          have hl1 := get_lt HND'.out
          have h2 := HND'.out
          rw [List.getElem?_eq_getElem hl1] at h2
          rw [e1, ← Option.some.inj h2, List.set_getElem_self]
        have hbW : Below wr.heap.size wr (wr.alloc (.cells #[.int .i64 k, hv, .int .i64 l, .int .i64 r, .bool em] 80)) := (Below.refl _ _).alloc (Nat.le_refl _) _
        obtain ⟨k', rfl⟩ : ∃ k', gk = k' + 1 := ⟨gk - 1, by omega⟩
        have HST := hide (mir_step hk HND.out HBr.out (hbW.mono HBr.out.size) (by rw [hsame]; exact HLr.out.keep (fun k hk => hbW.block k (lt_of_get (HLr.out.block hk).2.choose_spec))))
        clear HND HND' HBr HLr hsame hbW hk2
        go_wp2_with fail
        go_roundg k'
        case measure => omega
        case rel => exact HST.out
    · have hj : j = ns.length := by omega
      have HEND := hide (show MirPost ns w (.returned (.slice (some ⟨g, 0, none⟩) ns.length cap)) wr from ⟨_, rfl, hb, by subst hj; simpa [half, Lists] using hl⟩)
      clear hb hl
      go_wp2_with fail
      go_ret
      exact HEND.out
end Go.Proofs.YtjjeomcojobjhaaDoor
