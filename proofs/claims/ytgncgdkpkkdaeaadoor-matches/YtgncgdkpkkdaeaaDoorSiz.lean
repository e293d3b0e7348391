/- A pattern's tree is small; its mirror. -/
import Derived.Test.YtgncgdkpkkdaeaaDoorPar
import Derived.Test.YtgncgdkpkkdaeaaDoorDer2
namespace Tint

def Re.sz : Re → Nat
  | .eps => 1
  | .cls _ => 1
  | .seq a b => a.sz + b.sz + 1
  | .alt a b => a.sz + b.sz + 1
  | .star a => a.sz + 1
  | .plus a => a.sz + 2
  | .opt a => a.sz + 1

def Re.leaves : Re → Nat
  | .eps => 0
  | .cls _ => 1
  | .seq a b => a.leaves + b.leaves
  | .alt a b => a.leaves + b.leaves
  | .star a => a.leaves
  | .plus a => a.leaves
  | .opt a => a.leaves

theorem ARe.sz_re (a : ARe) : a.re.sz = a.sz := by induction a <;> simp_all [ARe.re, Re.sz, ARe.sz]
theorem ARe.leaves_re (a : ARe) : a.re.leaves = a.leaves := by induction a <;> simp_all [ARe.re, Re.leaves, ARe.leaves]

/-- The sizes of parts. -/
def szs : List Re → Nat
  | [] => 0
  | r :: rs => r.sz + 1 + szs rs

def lvs : List Re → Nat
  | [] => 0
  | r :: rs => r.leaves + lvs rs

theorem sz_seqOf : ∀ rs : List Re, (seqOf rs).sz ≤ szs rs + 1
  | [] => by simp [seqOf, Re.sz, szs]
  | [r] => by simp only [seqOf, szs]; omega
  | r :: q :: rs => by
    have := sz_seqOf (q :: rs)
    simp only [seqOf, Re.sz, szs] at *
    omega

theorem lvs_seqOf : ∀ rs : List Re, (seqOf rs).leaves ≤ lvs rs
  | [] => by simp [seqOf, Re.leaves, lvs]
  | [r] => by simp [seqOf, lvs]
  | r :: q :: rs => by
    have := lvs_seqOf (q :: rs)
    simp only [seqOf, Re.leaves, lvs] at *
    omega

mutual
theorem PAtom.size {s : List UInt8} {o : Option (Re × List UInt8)} (h : PAtom s o) : ∀ r s', o = some (r, s') → r.sz + 1 + 3 * s'.length ≤ 3 * s.length ∧ r.leaves + s'.length ≤ s.length := by
  match h with
  | .paren k => intro r s' e; cases e; have := PAlt.size k _ _ rfl; simp only [List.length_cons] at *; omega
  | .parenBad _ => intro r s' e; cases e
  | .parenOpen _ _ => intro r s' e; cases e
  | .dot => intro r s' e; cases e; simp [Re.sz, Re.leaves]; omega
  | .cls k =>
    rename_i s o
    intro r s' e
    cases o with
    | none => cases e
    | some p =>
      simp only [Option.map_some, Option.some.injEq, Prod.mk.injEq] at e
      obtain ⟨rfl, rfl⟩ := e
      have := PClass.len (c := p.1) (s' := p.2) k
      simp only [Re.sz, Re.leaves, List.length_cons]; omega
  | .one _ _ _ =>
    intro r s' e
    cases hp : pOne s with
    | none => rw [hp] at e; cases e
    | some p =>
      rw [hp] at e
      simp only [Option.map_some, Option.some.injEq, Prod.mk.injEq] at e
      obtain ⟨rfl, rfl⟩ := e
      have := pOne_len (b := p.1) (s' := p.2) hp
      simp only [Re.sz, Re.leaves]; omega
  termination_by structural h
theorem PPiece.size {s : List UInt8} {o : Option (Re × List UInt8)} (h : PPiece s o) : ∀ r s', o = some (r, s') → r.sz + 1 + 3 * s'.length ≤ 3 * s.length ∧ r.leaves + s'.length ≤ s.length := by
  match h with
  | .bad _ => intro r s' e; cases e
  | .star k => intro r s' e; cases e; have := PAtom.size k _ _ rfl; simp only [List.length_cons, Re.sz, Re.leaves] at *; omega
  | .plus k => intro r s' e; cases e; have := PAtom.size k _ _ rfl; simp only [List.length_cons, Re.sz, Re.leaves] at *; omega
  | .opt k => intro r s' e; cases e; have := PAtom.size k _ _ rfl; simp only [List.length_cons, Re.sz, Re.leaves] at *; omega
  | .plain k _ _ _ => intro r s' e; cases e; exact PAtom.size k _ _ rfl
  termination_by structural h
theorem PCat.size {s : List UInt8} {o : Option (List Re × List UInt8)} (h : PCat s o) : ∀ rs s', o = some (rs, s') → szs rs + 3 * s'.length ≤ 3 * s.length ∧ lvs rs + s'.length ≤ s.length := by
  match h with
  | .stop _ => intro r s' e; cases e; simp [szs, lvs]
  | .bad _ _ => intro r s' e; cases e
  | .more _ k l => intro r s' e; cases e; have := PPiece.size k _ _ rfl; have := PCat.size l _ _ rfl; simp only [szs, lvs] at *; omega
  | .moreBad _ _ _ => intro r s' e; cases e
  termination_by structural h
theorem PMore.size {k : Re} {s : List UInt8} {o : Option (Re × List UInt8)} (h : PMore k s o) : ∀ r s', o = some (r, s') → r.sz + 3 * s'.length ≤ k.sz + 3 * s.length ∧ r.leaves + s'.length ≤ k.leaves + s.length := by
  match h with
  | .stop _ => intro r s' e; cases e; simp
  | .bad _ => intro r s' e; cases e
  | .more (rs := rs) c m =>
    intro r s' e
    have h1 := PCat.size c _ _ rfl
    have h2 := PMore.size m _ _ e
    have h3 := sz_seqOf rs
    have h4 := lvs_seqOf rs
    simp only [Re.sz, Re.leaves, List.length_cons] at *
    omega
  termination_by structural h
theorem PAlt.size {s : List UInt8} {o : Option (Re × List UInt8)} (h : PAlt s o) : ∀ r s', o = some (r, s') → r.sz + 3 * s'.length ≤ 3 * s.length + 1 ∧ r.leaves + s'.length ≤ s.length := by
  match h with
  | .bad _ => intro r s' e; cases e
  | .one (rs := rs) c m =>
    intro r s' e
    have h1 := PCat.size c _ _ rfl
    have h2 := PMore.size m _ _ e
    have h3 := sz_seqOf rs
    have h4 := lvs_seqOf rs
    omega
  termination_by structural h
end

/-! ## The mirror -/

def ARe.mir : ARe → ARe
  | .eps => .eps
  | .cls i c => .cls i c
  | .seq i a b => .seq i b.mir a.mir
  | .alt i a b => .alt i a.mir b.mir
  | .star i a => .star i a.mir
  | .plus i j a => .plus i j a.mir
  | .opt i a => .opt i a.mir

theorem ARe.mir_ix (a : ARe) : a.mir.ix = a.ix := by cases a <;> rfl
theorem ARe.mir_re (a : ARe) : a.mir.re = a.re.rev := by induction a <;> simp_all [ARe.mir, ARe.re, Re.rev]
theorem ARe.mir_sz (a : ARe) : a.mir.sz = a.sz := by induction a <;> simp_all [ARe.mir, ARe.sz]; omega
theorem ARe.mir_leaves (a : ARe) : a.mir.leaves = a.leaves := by induction a <;> simp_all [ARe.mir, ARe.leaves]; omega

theorem Rep.mir {α : Type} {isC : α → Cls → Prop} {ns ns' : List (Nd α)} (h2 : ∀ (i : Nat) h l r e, ns[i]? = some ⟨2, h, l, r, e⟩ → ns'[i]? = some ⟨2, h, r, l, e⟩) (hn : ∀ (i : Nat) nd, nd.kind ≠ 2 → ns[i]? = some nd → ns'[i]? = some nd) {a : ARe} (h : Rep isC ns a) : Rep isC ns' a.mir := by
  induction a with
  | eps => obtain ⟨x, h⟩ := h; exact ⟨x, hn _ _ (by simp) h⟩
  | cls i c => obtain ⟨h0, x, h1, h2⟩ := h; exact ⟨h0, x, hn _ _ (by simp) h1, h2⟩
  | seq i a b iha ihb =>
    obtain ⟨h0, ⟨x, h1⟩, h3, h4⟩ := h
    refine ⟨h0, ⟨x, ?_⟩, ihb h4, iha h3⟩
    rw [ARe.mir_ix, ARe.mir_ix, ARe.mir_re, ARe.mir_re, nullable_rev, nullable_rev, Bool.and_comm]
    exact h2 _ _ _ _ _ h1
  | alt i a b iha ihb =>
    obtain ⟨h0, ⟨x, h1⟩, h3, h4⟩ := h
    refine ⟨h0, ⟨x, ?_⟩, iha h3, ihb h4⟩
    rw [ARe.mir_ix, ARe.mir_ix, ARe.mir_re, ARe.mir_re, nullable_rev, nullable_rev]
    exact hn _ _ (by simp) h1
  | star i a ih => obtain ⟨h0, ⟨x, h1⟩, h3⟩ := h; exact ⟨h0, ⟨x, by rw [ARe.mir_ix]; exact hn _ _ (by simp) h1⟩, ih h3⟩
  | plus i j a ih => obtain ⟨h0, h0', ⟨x, h1⟩, ⟨y, h4⟩, h3⟩ := h; exact ⟨h0, h0', ⟨x, by rw [ARe.mir_ix, ARe.mir_re, nullable_rev]; exact hn _ _ (by simp) h1⟩, ⟨y, by rw [ARe.mir_ix]; exact hn _ _ (by simp) h4⟩, ih h3⟩
  | opt i a ih => obtain ⟨h0, ⟨x, h1⟩, h3⟩ := h; exact ⟨h0, ⟨x, by rw [ARe.mir_ix]; exact hn _ _ (by simp) h1⟩, ih h3⟩
end Tint
