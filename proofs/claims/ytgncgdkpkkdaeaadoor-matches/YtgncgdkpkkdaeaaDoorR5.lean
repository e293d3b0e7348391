/- derive, whole. -/
import Derived.Test.YtgncgdkpkkdaeaaDoorR4
namespace Go.Proofs.YtgncgdkpkkdaeaaDoor
open Go.RowKit Tint Go.Maps

theorem derive_base (b : UInt8) (a : ARe) : DOK b (.base a) := by
  induction a with
  | eps =>
    intro X S n0 ns Q k w hX hS hR hQ hsz
    obtain ⟨rfl, hl, h, hn⟩ := hR
    exact derive_eps_node b _ _ _ _ _ X S n0 ns Q w hX hS hn
  | cls i c =>
    intro X S n0 ns Q k w hX hS hR hQ hsz
    obtain ⟨rfl, hl, _, h, hn, hc⟩ := hR
    exact derive_leaf_node b _ _ _ _ _ c X S n0 ns Q w hX hS hn hc
  | seq i x y ihx ihy =>
    intro X S n0 ns Q k w hX hS hR hQ hsz
    obtain ⟨rfl, ⟨hl, hlx, hly⟩, _, ⟨h, hn⟩, hx, hy⟩ := hR
    simp only [D.sz, ARe.sz] at hsz
    simp only [joinsD, joinsA, List.mem_append] at hQ
    exact derive_seq_node b _ _ _ _ _ (.base x) y ihx ihy X S n0 ns Q w hX hS hn rfl ⟨rfl, hlx, hx⟩ hly hy (fun t ht => hQ t (.inl (.inl ht))) (pd_joins (d := .base x) fun t ht => hQ t (.inl (.inr ht))) (fun t ht => hQ t (.inr ht)) (by simp only [D.sz]; omega) (by omega) _ rfl
  | alt i x y ihx ihy =>
    intro X S n0 ns Q k w hX hS hR hQ hsz
    obtain ⟨rfl, ⟨hl, hlx, hly⟩, _, ⟨h, hn⟩, hx, hy⟩ := hR
    simp only [D.sz, ARe.sz] at hsz
    simp only [joinsD, joinsA, List.mem_append] at hQ
    exact derive_alt_node b _ _ _ _ _ (.base x) (.base y) ihx ihy X S n0 ns Q w hX hS hn ⟨rfl, hlx, hx⟩ ⟨rfl, hly, hy⟩ (fun t ht => hQ t (.inl ht)) (fun t ht => hQ t (.inr ht)) (by simp only [D.sz]; omega) (by simp only [D.sz]; omega)
  | star i x ih =>
    intro X S n0 ns Q k w hX hS hR hQ hsz
    obtain ⟨rfl, hl, hr⟩ := hR
    obtain ⟨_, ⟨h, hn⟩, hx⟩ := id hr
    simp only [D.sz, ARe.sz] at hsz
    simp only [joinsD, joinsA, List.mem_append] at hQ
    exact derive_star_node b _ _ _ _ _ (.base x) (.star _ x) ih X S n0 ns Q w hX hS hn rfl ⟨rfl, hl.2, hx⟩ hl hr (fun t ht => hQ t (.inl ht)) (pd_joins (d := .base x) fun t ht => hQ t (.inr ht)) (by simp only [D.sz]; omega)
  | plus i j x ih =>
    intro X S n0 ns Q k w hX hS hR hQ hsz
    obtain ⟨rfl, ⟨hl, hlj, hlx⟩, _, hj0, ⟨h, hn⟩, hj, hx⟩ := hR
    simp only [D.sz, ARe.sz] at hsz
    simp only [joinsD, joinsA, List.mem_append] at hQ
    exact derive_plus_node b _ _ _ _ _ (.base x) (.star j x) ih X S n0 ns Q w hX hS hn rfl ⟨rfl, hlx, hx⟩ ⟨hlj, hlx⟩ ⟨hj0, hj, hx⟩ (fun t ht => hQ t (.inl ht)) (pd_joins (d := .base x) fun t ht => hQ t (.inr ht)) (by simp only [D.sz]; omega)
  | opt i x ih =>
    intro X S n0 ns Q k w hX hS hR hQ hsz
    obtain ⟨rfl, ⟨hl, hlx⟩, _, ⟨h, hn⟩, hx⟩ := hR
    simp only [D.sz, ARe.sz] at hsz
    exact derive_opt_node b _ _ _ _ _ (.base x) ih X S n0 ns Q w hX hS hn ⟨rfl, hlx, hx⟩ hQ (by simp only [D.sz]; omega)

theorem derive_all (b : UInt8) (d : D) : DOK b d := by
  induction d with
  | base a => exact derive_base b a
  | snoc d a ih =>
    intro X S n0 ns Q k w hX hS hR hQ hsz
    obtain ⟨hk, hl, ha, m, hm, hd, h, hn⟩ := hR
    simp only [D.sz] at hsz
    simp only [joinsD, List.mem_append] at hQ
    exact derive_seq_node b _ _ _ _ _ d a ih (derive_base b a) X S n0 ns Q w hX hS hn rfl hd hl ha (fun t ht => hQ t (.inl (.inl ht))) (pd_joins fun t ht => hQ t (.inl (.inr ht))) (fun t ht => hQ t (.inr ht)) (by omega) (by omega) _ rfl
end Go.Proofs.YtgncgdkpkkdaeaaDoor
