/- mark. -/
import Derived.Test.YtgncgdkpkkdaeaaDoorR7
namespace Go.Proofs.YtgncgdkpkkdaeaaDoor
open Go.RowKit Tint Go.Maps

theorem IsCls.inj {w : World} {v : Value} {c c' : Cls} (h : IsCls w v c) (h' : IsCls w v c') : c = c' := by
  induction c generalizing v c' with
  | any =>
    cases c' with
    | any => rfl
    | range lo hi => obtain ⟨p, q, e, _⟩ := h'; rw [show v = _ from h] at e; simp at e
    | union a b => obtain ⟨p, q, va, vb, e, _⟩ := h'; rw [show v = _ from h] at e; simp at e
    | compl a => obtain ⟨p, va, e, _⟩ := h'; rw [show v = _ from h] at e; simp at e
  | range lo hi =>
    obtain ⟨p, q, rfl, h1, h2⟩ := h
    cases c' with
    | any => simp [IsCls] at h'
    | range lo' hi' =>
      obtain ⟨p', q', e, h3, h4⟩ := h'
      simp at e
      obtain ⟨rfl, rfl⟩ := e
      rw [h1] at h3
      rw [h2] at h4
      simp at h3 h4
      rw [UInt8.toNat_inj.1 (by omega : lo.toNat = lo'.toNat), UInt8.toNat_inj.1 (by omega : hi.toNat = hi'.toNat)]
    | union a b => obtain ⟨p, q, va, vb, e, _⟩ := h'; simp at e
    | compl a => obtain ⟨p, va, e, _⟩ := h'; simp at e
  | union a b iha ihb =>
    obtain ⟨p, q, va, vb, rfl, h1, h2, h3, h4⟩ := h
    cases c' with
    | any => simp [IsCls] at h'
    | range lo' hi' => obtain ⟨p', q', e, _⟩ := h'; simp at e
    | union a' b' =>
      obtain ⟨p', q', va', vb', e, h5, h6, h7, h8⟩ := h'
      simp at e
      obtain ⟨rfl, rfl⟩ := e
      rw [h1] at h5
      rw [h2] at h6
      simp at h5 h6
      subst h5 h6
      rw [iha h3 h7, ihb h4 h8]
    | compl a => obtain ⟨p, va, e, _⟩ := h'; simp at e
  | compl a ih =>
    obtain ⟨p, va, rfl, h1, h2⟩ := h
    cases c' with
    | any => simp [IsCls] at h'
    | range lo' hi' => obtain ⟨p', q', e, _⟩ := h'; simp at e
    | union a' b' => obtain ⟨p', q', va', vb', e, _⟩ := h'; simp at e
    | compl a' =>
      obtain ⟨p', va', e, h3, h4⟩ := h'
      simp at e
      subst e
      rw [h1] at h3
      simp at h3
      subst h3
      rw [ih h2 h4]

theorem Rep.inj {w : World} {ns : List (Nd Value)} {a a' : ARe} (h : Rep (IsCls w) ns a) (h' : Rep (IsCls w) ns a') (e : a.ix = a'.ix) : a = a' := by
  induction a generalizing a' with
  | eps => exact (h'.zero e.symm).symm
  | cls i c =>
    obtain ⟨hi, v, hn, hc⟩ := h
    cases a' with
    | eps => exact absurd e hi
    | cls i' c' =>
      obtain ⟨_, v', hn', hc'⟩ := h'
      simp only [ARe.ix] at e
      subst e
      rw [hn] at hn'
      simp at hn'
      subst hn'
      rw [hc.inj hc']
    | seq i' a b => obtain ⟨_, ⟨v', hn'⟩, _⟩ := h'; simp only [ARe.ix] at e; subst e; rw [hn] at hn'; simp at hn'
    | alt i' a b => obtain ⟨_, ⟨v', hn'⟩, _⟩ := h'; simp only [ARe.ix] at e; subst e; rw [hn] at hn'; simp at hn'
    | star i' a => obtain ⟨_, ⟨v', hn'⟩, _⟩ := h'; simp only [ARe.ix] at e; subst e; rw [hn] at hn'; simp at hn'
    | plus i' j a => obtain ⟨_, _, ⟨v', hn'⟩, _⟩ := h'; simp only [ARe.ix] at e; subst e; rw [hn] at hn'; simp at hn'
    | opt i' a => obtain ⟨_, ⟨v', hn'⟩, _⟩ := h'; simp only [ARe.ix] at e; subst e; rw [hn] at hn'; simp at hn'
  | seq i x y ihx ihy =>
    obtain ⟨hi, ⟨v, hn⟩, hx, hy⟩ := h
    cases a' with
    | eps => exact absurd e hi
    | cls i' c' => obtain ⟨_, v', hn', _⟩ := h'; simp only [ARe.ix] at e; subst e; rw [hn] at hn'; simp at hn'
    | seq i' x' y' =>
      obtain ⟨_, ⟨v', hn'⟩, hx', hy'⟩ := h'
      simp only [ARe.ix] at e
      subst e
      rw [hn] at hn'
      simp only [Option.some.injEq, Nd.mk.injEq] at hn'
      rw [ihx hx hx' hn'.2.2.1, ihy hy hy' hn'.2.2.2.1]
    | alt i' a b => obtain ⟨_, ⟨v', hn'⟩, _⟩ := h'; simp only [ARe.ix] at e; subst e; rw [hn] at hn'; simp at hn'
    | star i' a => obtain ⟨_, ⟨v', hn'⟩, _⟩ := h'; simp only [ARe.ix] at e; subst e; rw [hn] at hn'; simp at hn'
    | plus i' j a => obtain ⟨_, _, ⟨v', hn'⟩, _⟩ := h'; simp only [ARe.ix] at e; subst e; rw [hn] at hn'; simp at hn'
    | opt i' a => obtain ⟨_, ⟨v', hn'⟩, _⟩ := h'; simp only [ARe.ix] at e; subst e; rw [hn] at hn'; simp at hn'
  | alt i x y ihx ihy =>
    obtain ⟨hi, ⟨v, hn⟩, hx, hy⟩ := h
    cases a' with
    | eps => exact absurd e hi
    | cls i' c' => obtain ⟨_, v', hn', _⟩ := h'; simp only [ARe.ix] at e; subst e; rw [hn] at hn'; simp at hn'
    | seq i' a b => obtain ⟨_, ⟨v', hn'⟩, _⟩ := h'; simp only [ARe.ix] at e; subst e; rw [hn] at hn'; simp at hn'
    | alt i' x' y' =>
      obtain ⟨_, ⟨v', hn'⟩, hx', hy'⟩ := h'
      simp only [ARe.ix] at e
      subst e
      rw [hn] at hn'
      simp only [Option.some.injEq, Nd.mk.injEq] at hn'
      rw [ihx hx hx' hn'.2.2.1, ihy hy hy' hn'.2.2.2.1]
    | star i' a => obtain ⟨_, ⟨v', hn'⟩, _⟩ := h'; simp only [ARe.ix] at e; subst e; rw [hn] at hn'; simp at hn'
    | plus i' j a => obtain ⟨_, _, ⟨v', hn'⟩, _⟩ := h'; simp only [ARe.ix] at e; subst e; rw [hn] at hn'; simp at hn'
    | opt i' a => obtain ⟨_, ⟨v', hn'⟩, _⟩ := h'; simp only [ARe.ix] at e; subst e; rw [hn] at hn'; simp at hn'
  | star i x ih =>
    obtain ⟨hi, ⟨v, hn⟩, hx⟩ := h
    cases a' with
    | eps => exact absurd e hi
    | cls i' c' => obtain ⟨_, v', hn', _⟩ := h'; simp only [ARe.ix] at e; subst e; rw [hn] at hn'; simp at hn'
    | seq i' a b => obtain ⟨_, ⟨v', hn'⟩, _⟩ := h'; simp only [ARe.ix] at e; subst e; rw [hn] at hn'; simp at hn'
    | alt i' a b => obtain ⟨_, ⟨v', hn'⟩, _⟩ := h'; simp only [ARe.ix] at e; subst e; rw [hn] at hn'; simp at hn'
    | star i' x' =>
      obtain ⟨_, ⟨v', hn'⟩, hx'⟩ := h'
      simp only [ARe.ix] at e
      subst e
      rw [hn] at hn'
      simp only [Option.some.injEq, Nd.mk.injEq] at hn'
      rw [ih hx hx' hn'.2.2.1]
    | plus i' j a => obtain ⟨_, _, ⟨v', hn'⟩, _⟩ := h'; simp only [ARe.ix] at e; subst e; rw [hn] at hn'; simp at hn'
    | opt i' a => obtain ⟨_, ⟨v', hn'⟩, _⟩ := h'; simp only [ARe.ix] at e; subst e; rw [hn] at hn'; simp at hn'
  | plus i j x ih =>
    obtain ⟨hi, hj, ⟨v, hn⟩, _, hx⟩ := h
    cases a' with
    | eps => exact absurd e hi
    | cls i' c' => obtain ⟨_, v', hn', _⟩ := h'; simp only [ARe.ix] at e; subst e; rw [hn] at hn'; simp at hn'
    | seq i' a b => obtain ⟨_, ⟨v', hn'⟩, _⟩ := h'; simp only [ARe.ix] at e; subst e; rw [hn] at hn'; simp at hn'
    | alt i' a b => obtain ⟨_, ⟨v', hn'⟩, _⟩ := h'; simp only [ARe.ix] at e; subst e; rw [hn] at hn'; simp at hn'
    | star i' a => obtain ⟨_, ⟨v', hn'⟩, _⟩ := h'; simp only [ARe.ix] at e; subst e; rw [hn] at hn'; simp at hn'
    | plus i' j' x' =>
      obtain ⟨_, _, ⟨v', hn'⟩, _, hx'⟩ := h'
      simp only [ARe.ix] at e
      subst e
      rw [hn] at hn'
      simp only [Option.some.injEq, Nd.mk.injEq] at hn'
      rw [ih hx hx' hn'.2.2.1, hn'.2.2.2.1]
    | opt i' a => obtain ⟨_, ⟨v', hn'⟩, _⟩ := h'; simp only [ARe.ix] at e; subst e; rw [hn] at hn'; simp at hn'
  | opt i x ih =>
    obtain ⟨hi, ⟨v, hn⟩, hx⟩ := h
    cases a' with
    | eps => exact absurd e hi
    | cls i' c' => obtain ⟨_, v', hn', _⟩ := h'; simp only [ARe.ix] at e; subst e; rw [hn] at hn'; simp at hn'
    | seq i' a b => obtain ⟨_, ⟨v', hn'⟩, _⟩ := h'; simp only [ARe.ix] at e; subst e; rw [hn] at hn'; simp at hn'
    | alt i' a b => obtain ⟨_, ⟨v', hn'⟩, _⟩ := h'; simp only [ARe.ix] at e; subst e; rw [hn] at hn'; simp at hn'
    | star i' a => obtain ⟨_, ⟨v', hn'⟩, _⟩ := h'; simp only [ARe.ix] at e; subst e; rw [hn] at hn'; simp at hn'
    | plus i' j a => obtain ⟨_, _, ⟨v', hn'⟩, _⟩ := h'; simp only [ARe.ix] at e; subst e; rw [hn] at hn'; simp at hn'
    | opt i' x' =>
      obtain ⟨_, ⟨v', hn'⟩, hx'⟩ := h'
      simp only [ARe.ix] at e
      subst e
      rw [hn] at hn'
      simp only [Option.some.injEq, Nd.mk.injEq] at hn'
      rw [ih hx hx' hn'.2.2.1]

theorem RepD.inj {w : World} {n0 : Nat} {ns : List (Nd Value)} {d d' : D} {k : Nat} (h : RepD (IsCls w) n0 ns d k) (h' : RepD (IsCls w) n0 ns d' k) : d = d' := by
  induction d generalizing d' k with
  | base a =>
    obtain ⟨h1, h2, h3⟩ := h
    cases d' with
    | base a' => obtain ⟨h1', _, h3'⟩ := h'; rw [Rep.inj h3 h3' (by rw [← h1, ← h1'])]
    | snoc d' a' => obtain ⟨h1', _⟩ := h'; have := h2.lt_ix; omega
  | snoc d a ih =>
    obtain ⟨h1, h2, h3, m, hm, hd, v, hn⟩ := h
    cases d' with
    | base a' => obtain ⟨h1', h2', _⟩ := h'; have := h2'.lt_ix; omega
    | snoc d' a' =>
      obtain ⟨_, _, h3', m', _, hd', v', hn'⟩ := h'
      rw [hn] at hn'
      simp only [Option.some.injEq, Nd.mk.injEq] at hn'
      obtain ⟨_, _, rfl, h5, _⟩ := hn'
      rw [ih hd hd', Rep.inj h3 h3' h5]
end Go.Proofs.YtgncgdkpkkdaeaaDoor
