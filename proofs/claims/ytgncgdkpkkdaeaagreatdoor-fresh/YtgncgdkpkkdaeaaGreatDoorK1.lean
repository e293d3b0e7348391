import Derived.Test.YtgncgdkpkkdaeaaGreatDoorKZ
import Derived.ChangeKeysEq
namespace Go.Proofs.YtgncgdkpkkdaeaaGreatDoor
open Go.RowKit Tint Go.Maps Go.Shelf
theorem Off.of_grown {w w' : World} {v : Value} {B : Nat} {t : TypeId} {sz n : Nat} {xs : List Value} (h : w.ownsRow B t sz v n xs) (ht : stable t = false) (hg : w.grownBy w' v.ownBlock) : Off (fun k => v.ownBlock = some k) w w' :=
 ⟨hg.os, hg.tape, hg.output, hg.size, fun k hk => hg.block k hk.1 (fun e => hk.2 e.symm), fun k c t' ht' hh => by
  refine (hg.block k (lt_of_get hh) (fun e => ?_)).trans hh
  obtain ⟨_, c', hc'⟩ := row_type h e.symm
  rw [hh] at hc'
  cases hc'
  rw [ht] at ht'
  cases ht'⟩
def IJ (B2 : World) (A0 : Nat → Prop) (q bl : Nat) (stj : List Nat) (rc2 : Loop) (Cl : Nat → Prop) (pre : List Sp) (st : List Nat) (A : World) : Prop :=
 ∃ sv, (∀ k, Cl k ↔ (k = q + 1 ∨ k = bl ∨ k = bl + 4 ∨ sv.ownBlock = some k)) ∧ A.heap[q + 1]? = some (.cells (stCells st).toArray 138 (0, 0)) ∧ A.heap[bl]? = some (.cells (stCells stj ++ [sv]).toArray 151 (0, 0)) ∧ A.heap[bl + 4]? = some (.loop rc2) ∧ SpRow A (bl + 5) sv pre ∧ Off (fun k => A0 k ∨ k = q + 1 ∨ bl ≤ k) B2 A ∧ bl + 5 ≤ A.heap.size ∧ st.length ≤ 8
theorem IJ.keep {B2 : World} {A0 : Nat → Prop} {q bl : Nat} {stj : List Nat} {rc2 : Loop} {Cl : Nat → Prop} {pre : List Sp} {st : List Nat} {A B : World} (h : IJ B2 A0 q bl stj rc2 Cl pre st A) (ho : Off (fun k => (A0 k ∨ bl + 5 ≤ k) ∧ ¬ Cl k) A B) : IJ B2 A0 q bl stj rc2 Cl pre st B := by
 obtain ⟨sv, h1, h2, h3, h4, h5, h6, h7, h8⟩ := h
 refine ⟨sv, h1, ho.same h2 (fun e => e.2 ((h1 _).2 (.inl rfl))), ho.same h3 (fun e => e.2 ((h1 _).2 (.inr (.inl rfl)))), ho.same h4 (fun e => e.2 ((h1 _).2 (.inr (.inr (.inl rfl))))), row_keep h5 fun k hk => ?_, ?_, Nat.le_trans h7 ho.size, h8⟩
 ·obtain ⟨_, c, hc⟩ := row_type h5 hk
  exact ho.keep k ⟨lt_of_get hc, fun e => e.2 ((h1 _).2 (.inr (.inr (.inr hk))))⟩
 ·exact h6.then ho (fun k _ hk => hk.1.imp id fun h => .inr (by omega))
theorem IJ.next {B2 : World} {A0 : Nat → Prop} {q bl : Nat} {stj : List Nat} {rc2 rb2 : Loop} {Cl : Nat → Prop} {pre : List Sp} {st st' : List Nat} {x : Sp} {A A3 A4 : World} {sv' : Value} (h : IJ B2 A0 q bl stj rc2 Cl pre st A) (hq : q + 1 < bl) (hj8 : stj.length ≤ 8) (hst8 : st'.length ≤ 8) (h3 : Off (fun k => k = bl + 4) A A3) (hl3 : A3.heap[bl + 4]? = some (.loop rb2))
  (hsv : ∀ sv, A.heap[bl]? = some (.cells (stCells stj ++ [sv]).toArray 151 (0, 0)) → A4.ownsRow (bl + 5) 70 5 sv' (pre.length + 1) (pre.flatMap Sp.cells ++ x.cells) ∧ A3.grownBy A4 sv.ownBlock ∧ (sv'.ownBlock = sv.ownBlock ∨ sv'.ownBlock = some A3.heap.size)) (A7 : World) (hA7 : A7 = ((A4.setCell ⟨bl, 9, none⟩ sv').setRow (q + 1) (stCells st').toArray).putObj (bl + 4) (.loop rc2)) :
  ((A4.setCell ⟨bl, 9, none⟩ sv').setRow (q + 1) (stCells st').toArray).heap[bl + 4]? = some (.loop rb2) ∧ ∃ Cl', Off Cl A A7 ∧ (∀ k, Cl' k → k < A7.heap.size ∧ (Cl k ∨ A.heap.size ≤ k)) ∧ IJ B2 A0 q bl stj rc2 Cl' (pre ++ [x]) st' A7 := by
 obtain ⟨sv, h1, h2, h3', h4, h5, h6, h7, -⟩ := h
 obtain ⟨hrow, hg, hv⟩ := hsv sv h3'
 have hb : ∀ k, sv.ownBlock = some k → bl + 5 ≤ k ∧ k < A.heap.size := fun k hk => by
  obtain ⟨a, c, hc⟩ := row_type h5 hk
  exact ⟨a, lt_of_get hc⟩
 have h5' : SpRow A3 (bl + 5) sv pre := row_keep h5 fun k hk => h3.keep k ⟨(hb k hk).2, by have := (hb k hk).1; omega⟩
 have o34 : Off (fun k => sv.ownBlock = some k) A3 A4 := Off.of_grown h5' (by decide) hg
 have b3 := h3.same h3' (by omega)
 have b4 := o34.same b3 (fun e => by have := (hb _ e).1; omega)
 have o45 : Off (fun k => k = bl) A4 (A4.setCell ⟨bl, 9, none⟩ sv') := Off.setCell (Y := fun k => k = bl) (p := ⟨bl, 9, none⟩) rfl b4 (by decide) _
 have k3 := h3.same h2 (by omega)
 have k4 := o34.same k3 (fun e => by have := (hb _ e).1; omega)
 have k5 := o45.same k4 (by omega)
 have o56 : Off (fun k => k = q + 1) (A4.setCell ⟨bl, 9, none⟩ sv') ((A4.setCell ⟨bl, 9, none⟩ sv').setRow (q + 1) (stCells st').toArray) := Off.setRow (Y := fun k => k = q + 1) _ k5 (by decide) rfl
 have l4 := o34.same hl3 (fun e => by have := (hb _ e).1; omega)
 have l6 := o56.same (o45.same l4 (by omega)) (by omega)
 have o67 : Off (fun k => k = bl + 4) ((A4.setCell ⟨bl, 9, none⟩ sv').setRow (q + 1) (stCells st').toArray) A7 := by rw [hA7]; exact Off.putObj _ l6 rfl
 refine ⟨l6, ?_⟩
 have oAll : Off Cl A A7 := (((h3.sub (Z := Cl) fun k _ e => (h1 k).2 (.inr (.inr (.inl e)))).then (o34.sub (Z := Cl) fun k _ e => (h1 k).2 (.inr (.inr (.inr e)))) (fun _ _ h => h)).then (o45.sub (Z := Cl) fun k _ e => (h1 k).2 (.inr (.inl e))) (fun _ _ h => h)).then ((o56.sub (Z := Cl) fun k _ e => (h1 k).2 (.inl e)).then (o67.sub (Z := Cl) fun k _ e => (h1 k).2 (.inr (.inr (.inl e)))) (fun _ _ h => h)) (fun _ _ h => h)
 have b5 := heap_setCell_same A4 bl 9 sv' b4
 have b7 := o67.same (o56.same b5 (by omega)) (by omega)
 have k6 : ((A4.setCell ⟨bl, 9, none⟩ sv').setRow (q + 1) (stCells st').toArray).heap[q + 1]? = some (.cells (stCells st').toArray 138 (0, 0)) := setRow_heap _ _ _ _ _ _ k5
 have k7 := o67.same k6 (by omega)
 have l7 : A7.heap[bl + 4]? = some (.loop rc2) := by rw [hA7]; exact World.putObj_heap_same (lt_of_get l6)
 have hb' : ∀ k, sv'.ownBlock = some k → bl + 5 ≤ k ∧ k < A4.heap.size := fun k hk => by
  obtain ⟨a, c, hc⟩ := row_type hrow hk
  exact ⟨a, lt_of_get hc⟩
 have s47 : A4.heap.size ≤ A7.heap.size := Nat.le_trans o45.size (Nat.le_trans o56.size o67.size)
 have hrow7 : SpRow A7 (bl + 5) sv' (pre ++ [x]) := by
  refine SpRow.snoc (row_keep hrow fun k hk => ?_)
  have := hb' k hk
  refine (o67.keep k ⟨Nat.lt_of_lt_of_le this.2 (Nat.le_trans o45.size o56.size), by omega⟩).trans ((o56.keep k ⟨Nat.lt_of_lt_of_le this.2 o45.size, by omega⟩).trans (o45.keep k ⟨this.2, by omega⟩))
 refine ⟨fun k => k = q + 1 ∨ k = bl ∨ k = bl + 4 ∨ sv'.ownBlock = some k, oAll, fun k hk => ?_, sv', fun k => Iff.rfl, k7, ?_, l7, hrow7, ?_, Nat.le_trans h7 oAll.size, hst8⟩
 ·rcases hk with rfl | rfl | rfl | hk
  ·exact ⟨lt_of_get k7, .inl ((h1 _).2 (.inl rfl))⟩
  ·exact ⟨lt_of_get b7, .inl ((h1 _).2 (.inr (.inl rfl)))⟩
  ·exact ⟨lt_of_get l7, .inl ((h1 _).2 (.inr (.inr (.inl rfl))))⟩
  ·refine ⟨Nat.lt_of_lt_of_le (hb' k hk).2 s47, ?_⟩
   rcases hv with hv | hv
   ·exact .inl ((h1 _).2 (.inr (.inr (.inr (hv ▸ hk)))))
   ·rw [hv] at hk
    cases hk
    exact .inr h3.size
 ·rw [b7]
  have hl9 := stCells_length hj8
  congr 2
  simp only [List.setIfInBounds_toArray]
  rw [show 9 = (stCells stj).length by omega, List.set_append_right _ _ (Nat.le_refl _), Nat.sub_self, List.set_cons_zero]
 ·refine h6.then oAll (fun k _ hk => ?_)
  rcases (h1 k).1 hk with rfl | rfl | rfl | hk
  ·exact .inr (.inl rfl)
  ·exact .inr (.inr (Nat.le_refl _))
  ·exact .inr (.inr (by omega))
  ·exact .inr (.inr (by have := (hb k hk).1; omega))
theorem info_apispan : (Tryz.prog.info? 70).map (fun i => (i.zero, i.size, i.bytes)) = some (some (.agg #[.int .i64 0, .int .i64 0, .string ⟨#[]⟩, .int .i64 0, .string ⟨#[]⟩]), 5, 56) := by kernel_rfl
theorem info_shline : (Tryz.prog.info? 151).map (fun i => (i.zero, i.size, i.bytes)) = some (some (.agg #[.int .i64 0, .int .i64 0, .int .i64 0, .int .i64 0, .int .i64 0, .int .i64 0, .int .i64 0, .int .i64 0, .int .i64 0, .slice none 0 0]), 10, 96) := by kernel_rfl
theorem four_alloc (w7 : World) (o1 o2 o3 o4 : Obj) (bl : Nat) (hbl : bl = w7.heap.size) (w9 : World) (hw9 : w9 = (((w7.alloc o1).alloc o2).alloc o3).alloc o4) : Below w7.heap.size w7 w9 ∧ w9.heap.size = bl + 4 ∧ w9.heap[bl]? = some o1 ∧ w9.heap[bl + 1]? = some o2 ∧ w9.heap[bl + 1 + 1]? = some o3 ∧ w9.heap[bl + 1 + 2]? = some o4 := by
 subst hw9
 refine ⟨((((Below.refl _ _).alloc (Nat.le_refl _) _).alloc (by simp) _).alloc (by simp; omega) _).alloc (by simp; omega) _, by rw [hbl]; simp, heap_alloc_old (heap_alloc_old (heap_alloc_old (heap_alloc_at _ _ _ hbl))), heap_alloc_old (heap_alloc_old (heap_alloc_at _ _ _ (by rw [hbl]; simp))), heap_alloc_old (heap_alloc_at _ _ _ (by rw [hbl]; simp)), heap_alloc_at _ _ _ (by rw [hbl]; simp)⟩
theorem inner_loop {w w9 : World} {N bS g n cap : Nat} {G : List GS} {d : PD} {T : List UInt8} {st0 : List Nat} {touched : Nat} {bv : Value} {bs : List (List Nat)} {tx body : ByteArray} {lv : Value} {work q p0 bl : Nat} {rb : Loop} {j : Nat} {st : List Nat} {ls : List LE} {v : Value} {A1 : Nat → Prop} {f1 : Nat → Option Value} {F1 : Nat → List FD} (h9 : CJ w N bS g n cap G d T st0 touched bv bs tx lv work q p0 rb j st ls v A1 f1 F1 w9) (hok : GOk G) (hz : body.size ≤ 3000) (hA : ∀ k, A1 k → k < bl) (hpb : p0 + 5 ≤ bl) (hs9 : w9.heap.size = bl + 4)
  (b0 : w9.heap[bl]? = some (.cells (stCells st ++ [Value.slice none 0 0]).toArray 151 (0, 0))) (b1 : w9.heap[bl + 1]? = some (.cells #[.slice (some ⟨g, 0, none⟩) n cap, pfn d] 171 (0, 0))) (b2 : w9.heap[bl + 1 + 1]? = some (.cells #[.string body] 9 (0, 0))) (b3 : w9.heap[bl + 1 + 2]? = some (.cells (stCells st).toArray 138 (0, 0))) (rc : LoopState → Option Code → Loop) (K : Ending → World → Prop)
  (hround : ∀ Cl pre st1 x st' A, IJ (w9.alloc (.loop (rc .ready none))) A1 q bl st (rc .ready none) Cl pre st1 A → Good G st' → pre.length ≤ 7000 → YieldAt Fence.wide 5 Tryz.prog (bl + 4) #[Sp.v x, stv st'] A fun e B => (e = .returned (.bool true) ∧ ∃ Cl', Off Cl A B ∧ (∀ k, Cl' k → k < B.heap.size ∧ (Cl k ∨ A.heap.size ≤ k)) ∧ IJ (w9.alloc (.loop (rc .ready none))) A1 q bl st (rc .ready none) Cl' (pre ++ [x]) st' B) ∨ (e = .returned (.bool false) ∧ False))
  (hend : ∀ r W sps st1 Cl A' f' F', Thru G body.data.toList st sps st1 → IJ (w9.alloc (.loop (rc .ready none))) A1 q bl st (rc .ready none) Cl sps st1 W → PainterIs W N A' g n cap G d f' F' → (∀ k, A' k → A1 k ∨ bl + 5 ≤ k) → (∀ k, Cl k → ¬ A' k) → K (.returned r) W) :
  CallsIn Fence.wide 6 Tryz.prog 122 #[.func (.yield (bl + 4)) #[] #[], .pointer (some ⟨bl + 1 + 2, 0, none⟩), .pointer (some ⟨bl + 1, 0, none⟩), .pointer (some ⟨bl + 1 + 1, 0, none⟩)] (w9.alloc (.loop (rc .ready none))) K := by
 obtain ⟨o1, o2, o3, o4, o5⟩ := h9.ord
 have hs10 : (w9.alloc (.loop (rc .ready none))).heap.size = bl + 5 := by rw [World.size_alloc, hs9]
 have hap := h9.apart
 have hb10 : Below w9.heap.size w9 (w9.alloc (.loop (rc .ready none))) := (Below.refl _ _).alloc (Nat.le_refl _) _
 refine (spans1_any 6 N A1 (fun k => k = q + 1 ∨ k = bl ∨ k = bl + 4) g n cap G d f1 F1 body st (bl + 1 + 2) (bl + 1) (bl + 1 + 1) (bl + 4) (IJ (w9.alloc (.loop (rc .ready none))) A1 q bl st (rc .ready none)) (fun _ => False) _ (h9.pis.below hb10) hok h9.good hz (heap_alloc_old b3) (heap_alloc_old b1) (heap_alloc_old b2) ⟨fun h => by have := hA _ h; omega, fun h => by have := hA _ h; omega⟩ ?_ ?_ (fun Cl pre st1 x st' A h1 h2 h3 => hround Cl pre st1 x st' A h1 h2 h3) ?_).mono ?_
 ·rw [hs10]
  rintro k (rfl | rfl | rfl)
  ·exact ⟨by omega, by omega, fun h => by have := (hap _ h).1; omega, by omega, by omega⟩
  ·exact ⟨by omega, by omega, fun h => by have := hA _ h; omega, by omega, by omega⟩
  ·exact ⟨by omega, by omega, fun h => by have := hA _ h; omega, by omega, by omega⟩
 ·rw [hs10]
  intro Cl pre st1 A B h1 ho
  exact h1.keep ho
 ·refine ⟨.slice none 0 0, fun k => ?_, heap_alloc_old h9.kv, heap_alloc_old b0, heap_alloc_at _ _ _ hs9.symm, World.ownsRow_nil _ _ _ _, Off.refl _ _, by omega, h9.good.1.2⟩
  simp [Value.ownBlock]
 ·rintro e W ⟨⟨r, rfl⟩, (⟨sps, st1, Cl, A', f', F', h1, h2, h3, h4, h5⟩ | h)⟩
  ·rw [hs10] at h4
   exact hend r W sps st1 Cl A' f' F' h1 h2 h3 h4 h5
  ·exact h.elim
theorem Off.trans' {Y Z : Nat → Prop} {a b c : World} (h : Off Y a b) (k : Off Z b c) : Off (fun x => Y x ∨ Z x) a c := (h.sub fun _ _ => .inl).then k fun _ _ => .inr
def ColPost (bS g n cap : Nat) (G : List GS) (T : List UInt8) (st0 : List Nat) (touched : Nat) (bs : List (List Nat)) (tx : ByteArray) (lv : Value) (work : Nat) (w : World) (e : Ending) (W : World) : Prop :=
 ∃ (v : Value) (ls : List LE) (st : List Nat), e = .returned v ∧ LnsIs W w.heap.size v ls ∧ Runs G st0 ((splitL T).take ls.length) (ls.map LE.pr) st ∧ Good G st ∧ ls.length ≤ (splitL T).length ∧
  W.heap[bS]? = some (.cells #[.slice (some ⟨g, 0, none⟩) n cap, .string tx, lv, .int .i64 ((work + ls.length : Nat) : Int)] 134 (0, 0)) ∧ Off (fun k => k = bS) w W ∧
  (∀ (i : Nat) x, touched ≤ i → ls[i]? = some x → bs[i - touched]? ≠ some x.st) ∧ (ls.length = (splitL T).length ∨ (touched ≤ ls.length ∧ bs[ls.length - touched]? = some st))
theorem row_base {w : World} {B B' : Nat} {e : TypeId} {size : Nat} {v : Value} {n : Nat} {xs : List Value} (h : w.ownsRow B e size v n xs) (hB : B' ≤ B) : w.ownsRow B' e size v n xs := by
 refine ⟨h.1, ?_⟩
 rcases h.2 with h1 | ⟨g, cap, cur, h1, h2, h3⟩
 ·exact .inl h1
 ·exact .inr ⟨g, cap, cur, h1, Nat.le_trans hB h2, h3⟩
theorem row_slice {w : World} {B : Nat} {e : TypeId} {size : Nat} {v : Value} {n : Nat} {xs : List Value} (h : w.ownsRow B e size v n xs) : ∃ ao c, v = .slice ao n c := by
 rcases h.2 with ⟨h1, h2⟩ | ⟨g, cap, cur, h1, _⟩
 ·exact ⟨none, 0, by rw [h1, h2]⟩
 ·exact ⟨_, _, h1⟩
section
variable {w w9 : World} {N bS g n cap : Nat} {G : List GS} {d : PD} {T : List UInt8} {st0 : List Nat} {touched : Nat} {bv : Value} {bs : List (List Nat)} {tx : ByteArray} {lv : Value} {work q p0 bl : Nat} {rb rc2 : Loop} {j : Nat} {st st1 : List Nat} {ls : List LE} {v sv : Value} {A1 A' Cl : Nat → Prop} {f1 f' : Nat → Option Value} {F1 F' : Nat → List FD} {sps : List Sp} {body : List UInt8} {W W1 : World}
structure Mid (w9 : World) (A1 A' : Nat → Prop) (N g n cap : Nat) (G : List GS) (d : PD) (f' : Nat → Option Value) (F' : Nat → List FD) (q bl : Nat) (st st1 : List Nat) (sv : Value) (sps : List Sp) (W1 : World) : Prop where
 kv : W1.heap[q + 1]? = some (.cells (stCells st1).toArray 138 (0, 0))
 line : W1.heap[bl]? = some (.cells (stCells st ++ [sv]).toArray 151 (0, 0))
 row : SpRow W1 (bl + 5) sv sps
 off : Off (fun k => A1 k ∨ k = q + 1 ∨ bl ≤ k) w9 W1
 pis : PainterIs W1 N A' g n cap G d f' F'
 sub : ∀ k, A' k → A1 k ∨ bl + 5 ≤ k
 free : (¬ A' bl ∧ ¬ A' (q + 1)) ∧ ∀ k, sv.ownBlock = some k → ¬ A' k
 size : bl + 5 ≤ W1.heap.size
theorem mid_of (hij : IJ (w9.alloc (.loop rc2)) A1 q bl st rc2 Cl sps st1 W) (hs9 : w9.heap.size = bl + 4) (hq : q + 1 < bl) (hN : N ≤ bl) (hp : PainterIs W N A' g n cap G d f' F') (hsub : ∀ k, A' k → A1 k ∨ bl + 5 ≤ k) (hcl : ∀ k, Cl k → ¬ A' k) (ro : Loop) : W.heap[bl + 4]? = some (.loop rc2) ∧ ∃ sv, Mid w9 A1 A' N g n cap G d f' F' q bl st st1 sv sps (W.putObj (bl + 4) (.loop ro)) := by
 obtain ⟨sv, h1, h2, h3, h4, h5, h6, h7, h8⟩ := hij
 have ho : Off (fun k => k = bl + 4) W (W.putObj (bl + 4) (.loop ro)) := Off.putObj _ h4 rfl
 have hb : ∀ k, sv.ownBlock = some k → bl + 5 ≤ k := fun k hk => (row_type h5 hk).1
 refine ⟨h4, sv, ho.same h2 (by omega), ho.same h3 (by omega), row_keep h5 fun k hk => ?_, ?_, hp.off ho (fun k hk => ⟨by omega, by rw [hk]; exact hcl _ ((h1 _).2 (.inr (.inr (.inl rfl))))⟩), hsub, ⟨⟨hcl _ ((h1 _).2 (.inr (.inl rfl))), hcl _ ((h1 _).2 (.inl rfl))⟩, fun k hk => hcl _ ((h1 _).2 (.inr (.inr (.inr hk))))⟩, Nat.le_trans h7 ho.size⟩
 ·obtain ⟨_, c, hc⟩ := row_type h5 hk
  rw [hc]
  exact ho.same hc (by have := hb k hk; omega)
 ·have h0 : Off (fun k => A1 k ∨ k = q + 1 ∨ bl ≤ k) w9 (w9.alloc (.loop rc2)) := Off.of_below ((Below.refl _ _).alloc (Nat.le_refl _) _)
  exact (h0.trans h6).then ho (fun k _ e => .inr (.inr (by omega)))
theorem Mid.reads (hm : Mid w9 A1 A' N g n cap G d f' F' q bl st st1 sv sps W1) (h9 : CJ w N bS g n cap G d T st0 touched bv bs tx lv work q p0 rb j st ls v A1 f1 F1 w9) (hpb : p0 + 5 ≤ bl) (hfree : ∀ k, bl ≤ k → LnsFree v ls k) : W1.heap[p0 + 1]? = some (.cells #[v] 132 (0, 0)) ∧ LnsIs W1 q v ls ∧ ∃ ao c, sv = .slice ao sps.length c := by
 obtain ⟨o1, o2, o3, o4, o5⟩ := h9.ord
 refine ⟨hm.off.same h9.av ?_, h9.lns.off hm.off ?_, row_slice hm.row⟩
 ·rintro (h | h | h)
  ·have := h9.apart _ h; omega
  ·omega
  ·omega
 ·rintro k (h | h | h)
  ·exact (h9.apart k h).2.2
  ·rw [h]; exact h9.lns.other h9.kv (fun c => ⟨by simp, by simp⟩)
  ·exact hfree k h
theorem CJ.next (hm : Mid w9 A1 A' N g n cap G d f' F' q bl st st1 sv sps W1) (h9 : CJ w N bS g n cap G d T st0 touched bv bs tx lv (work + 1) q p0 rb j st ls v A1 f1 F1 w9) (hpb : p0 + 5 ≤ bl) (hfree : ∀ k, bl ≤ k → LnsFree v ls k) (hok : GOk G) (hbody : (splitL T)[j]? = some body) (hthru : Thru G body st sps st1) (hlj : ls.length = j) (hns : touched ≤ j → bs[j - touched]? ≠ some st)
  {o : Obj} {W3 : World} {v' : Value} (hrow : W3.ownsRow q 151 10 v' (ls.length + 1) (ls.flatMap LE.cells ++ (stCells st ++ [sv]))) (hg : (W1.alloc o).grownBy W3 v.ownBlock) (hv : v'.ownBlock = v.ownBlock ∨ v'.ownBlock = some (W1.alloc o).heap.size) :
  (W3.heap[p0 + 1]? = some (.cells #[v] 132 (0, 0))) ∧ CJ w N bS g n cap G d T st0 touched bv bs tx lv work q p0 rb (j + 1) st1 (ls ++ [⟨st, sv, sps⟩]) v' A' f' F' (W3.setCell ⟨p0 + 1, 0, none⟩ v') := by
 obtain ⟨o1, o2, o3, o4, o5⟩ := h9.ord
 obtain ⟨hav, hlns, -⟩ := hm.reads h9 hpb hfree
 have hb2 : Below W1.heap.size W1 (W1.alloc o) := (Below.refl _ _).alloc (Nat.le_refl _) _
 have l2 := hlns.below hb2
 have o23 : Off (fun k => v.ownBlock = some k) (W1.alloc o) W3 := Off.of_grown l2.row (by decide) hg
 have o13 : Off (fun k => v.ownBlock = some k) W1 W3 := (Off.of_below hb2).trans o23
 have hA1 : ∀ k, A1 k → q + 4 ≤ k ∧ (k < p0 ∨ p0 + 5 ≤ k) := fun k hk => ⟨(h9.apart k hk).1, (h9.apart k hk).2.1⟩
 have hav3 := o13.same hav (h9.lns.other h9.av (fun c => ⟨by simp, by simp⟩)).1
 have o34 : Off (fun k => k = p0 + 1) W3 (W3.setCell ⟨p0 + 1, 0, none⟩ v') := Off.setCell (Y := fun k => k = p0 + 1) (p := ⟨p0 + 1, 0, none⟩) rfl hav3 (by decide) _
 have key : ∀ (k : Nat) o', w9.heap[k]? = some o' → (∀ c, o' ≠ .cells c 151 (0, 0) ∧ o' ≠ .cells c 70 (0, 0)) → (k < q + 4 ∨ (p0 ≤ k ∧ k < p0 + 5)) → k ≠ q + 1 → k ≠ p0 + 1 → (W3.setCell ⟨p0 + 1, 0, none⟩ v').heap[k]? = some o' := fun k o' hk hty hr h1 h2 => by
  refine o34.same (o13.same (hm.off.same hk ?_) (h9.lns.other hk hty).1) h2
  rintro (h | h | h)
  ·have := hA1 k h; omega
  ·omega
  ·omega
 have hvq : ∀ k, v.ownBlock = some k → q ≤ k ∧ k < bl := fun k hk => by
  refine ⟨(row_type hlns.row hk).1, Nat.lt_of_not_le fun h => (hfree k h).1 hk⟩
 have hsvq : ∀ k, sv.ownBlock = some k → bl + 5 ≤ k ∧ k < W1.heap.size := fun k hk => by
  obtain ⟨a, c, hc⟩ := row_type hm.row hk
  exact ⟨a, lt_of_get hc⟩
 have hsp2 : SpRow (W1.alloc o) q sv sps := row_base (row_keep hm.row fun k hk => hb2.block k (hsvq k hk).2) (by omega)
 have l3 : LnsIs W3 q v' (ls ++ [⟨st, sv, sps⟩]) := l2.snoc (x := ⟨st, sv, sps⟩) h9.good.1.2 hsp2 hrow hg
 have hA'v : ∀ k, A' k → v.ownBlock ≠ some k ∧ (∀ x ∈ ls, x.sv.ownBlock ≠ some k) := fun k hk => by
  rcases hm.sub k hk with h | h
  ·exact (h9.apart k h).2.2
  ·exact hfree k (by omega)
 have hA'lt : ∀ k, A' k → k < W1.heap.size := fun k hk => (hm.pis.old k hk).2
 have kv4 : (W3.setCell ⟨p0 + 1, 0, none⟩ v').heap[q + 1]? = some (.cells (stCells st1).toArray 138 (0, 0)) := o34.same (o13.same hm.kv (hlns.other hm.kv (fun c => ⟨by simp, by simp⟩)).1) (by omega)
 have av4 := heap_setCell_same W3 (p0 + 1) 0 v' hav3
 have s13 := o13.size
 have s34 := o34.size
 have s91 := hm.off.size
 refine ⟨hav3, ⟨key _ _ h9.sv (fun c => ⟨by simp, by simp⟩) (by omega) (by omega) (by omega), kv4, key _ _ h9.tv (fun c => ⟨by simp, by simp⟩) (by omega) (by omega) (by omega), key _ _ h9.bvx (fun c => ⟨by simp, by simp⟩) (by omega) (by omega) (by omega), key _ _ h9.pv (fun c => ⟨by simp, by simp⟩) (by omega) (by omega) (by omega), by simpa using av4, key _ _ h9.dfr (fun c => ⟨by simp, by simp⟩) (by omega) (by omega) (by omega), key _ _ h9.rcd (fun c => ⟨by simp, by simp⟩) (by omega) (by omega) (by omega), ?_, l3.off o34 (fun k hk => by rw [hk]; exact l3.other hav3 (fun c => ⟨by simp, by simp⟩)), ?_, hthru.good hok h9.good, ?_, ?_, ?_, ?_, o1, o2, by omega, o4, o5⟩⟩
 ·have h := key _ _ h9.sh (fun c => ⟨by simp, by simp⟩) (by omega) (by omega) (by omega)
  rw [h]
  have e : work + 1 + j = work + (j + 1) := by omega
  rw [e]
 ·rw [List.take_add_one, hbody, List.map_append]
  exact h9.runs.snoc hthru
 ·refine (hm.pis.off o13 (fun k hk => ⟨by have := (hvq k hk).1; omega, fun ha => (hA'v k ha).1 hk⟩)).off o34 (fun k hk => ⟨by omega, fun ha => ?_⟩)
  rcases hm.sub k ha with h | h
  ·have := hA1 k h; omega
  ·omega
 ·intro k hk
  refine ⟨?_, ?_, ?_, fun x hx => ?_⟩
  ·rcases hm.sub k hk with h | h
   ·exact (hA1 k h).1
   ·omega
  ·rcases hm.sub k hk with h | h
   ·exact (hA1 k h).2
   ·omega
  ·rcases hv with hv | hv
   ·rw [hv]; exact (hA'v k hk).1
   ·rw [hv]; intro e; have := hA'lt k hk; rw [World.size_alloc] at e; cases e; omega
  ·rcases List.mem_append.1 hx with hx | hx
   ·exact (hA'v k hk).2 x hx
   ·obtain rfl := List.mem_singleton.1 hx
    exact fun e => hm.free.2 k e hk
 ·intro i x hi hx
  rcases Nat.lt_or_ge i ls.length with hl | hl
  ·rw [List.getElem?_append_left hl] at hx
   exact h9.nostop i x hi hx
  ·rw [List.getElem?_append_right hl] at hx
   have h1 := get_lt hx
   simp at h1
   have h2 : i = j := by omega
   obtain rfl := List.mem_singleton.1 (List.mem_of_getElem? hx)
   subst h2
   exact hns hi
 ·refine (h9.off.then hm.off (fun k hk h => ?_)).then (o13.trans' o34) (fun k hk h => ?_)
  ·rcases h with h | h | h
   ·have := (hA1 k h).1; omega
   ·omega
   ·omega
  ·rcases h with h | h
   ·have := (hvq k h).1; omega
   ·omega
theorem CJ.done (h : CJ w N bS g n cap G d T st0 touched bv bs tx lv work q p0 rb ls.length st ls v A1 f1 F1 W) (hl : ls.length ≤ (splitL T).length) (hf : ls.length = (splitL T).length ∨ (touched ≤ ls.length ∧ bs[ls.length - touched]? = some st)) : ColPost bS g n cap G T st0 touched bs tx lv work w (.returned v) (W.putObj (p0 + 3) (.deferred none)) := by
 obtain ⟨o1, o2, o3, o4, o5⟩ := h.ord
 have ho : Off (fun k => k = p0 + 3) W (W.putObj (p0 + 3) (.deferred none)) := Off.putObj' _ h.dfr (fun _ _ _ h => by cases h) rfl
 refine ⟨v, ls, st, rfl, ?_, h.runs, h.good, hl, ho.same h.sh (by omega), h.off.then ho (fun k hk e => by omega), h.nostop, hf⟩
 rw [← o1]
 exact h.lns.off ho (fun k hk => by rw [hk]; exact h.lns.other h.dfr (fun c => ⟨by simp, by simp⟩))
end
end Go.Proofs.YtgncgdkpkkdaeaaGreatDoor
namespace Go.Proofs.YtgncgdkpkkdaeaaGreatDoor
open Go.RowKit Tint Go.Maps
theorem eight_eq (w : World) (x0 x1 x2 x3 x4 x5 x6 x7 y0 y1 y2 y3 y4 y5 y6 y7 : Nat) :
  (Op.equalIn 9999 136 (.agg #[.int .i64 x0, .int .i64 x1, .int .i64 x2, .int .i64 x3, .int .i64 x4, .int .i64 x5, .int .i64 x6, .int .i64 x7]) (.agg #[.int .i64 y0, .int .i64 y1, .int .i64 y2, .int .i64 y3, .int .i64 y4, .int .i64 y5, .int .i64 y6, .int .i64 y7])).run Tryz.prog w = .ok (decide (x0 = y0 ∧ x1 = y1 ∧ x2 = y2 ∧ x3 = y3 ∧ x4 = y4 ∧ x5 = y5 ∧ x6 = y6 ∧ x7 = y7)) w := by
 obtain ⟨i0, hi, -⟩ := info_parts info_int
 have hc : Tryz.prog.cellsOf 3 = 1 := by kernel_rfl
 rw [run_equalIn_array w 9998 _ _ Tryz.underlying136 hi, hc]
 rw [show List.range 8 = [0, 1, 2, 3, 4, 5, 6, 7] from rfl]
 by_cases h0 : x0 = y0
 case neg => (simp [Op.eqItems, go_sem, h0]; omega)
 by_cases h1 : x1 = y1
 case neg => (simp [Op.eqItems, go_sem, h0, h1]; omega)
 by_cases h2 : x2 = y2
 case neg => (simp [Op.eqItems, go_sem, h0, h1, h2]; omega)
 by_cases h3 : x3 = y3
 case neg => (simp [Op.eqItems, go_sem, h0, h1, h2, h3]; omega)
 by_cases h4 : x4 = y4
 case neg => (simp [Op.eqItems, go_sem, h0, h1, h2, h3, h4]; omega)
 by_cases h5 : x5 = y5
 case neg => (simp [Op.eqItems, go_sem, h0, h1, h2, h3, h4, h5]; omega)
 by_cases h6 : x6 = y6
 case neg => (simp [Op.eqItems, go_sem, h0, h1, h2, h3, h4, h5, h6]; omega)
 by_cases h7 : x7 = y7
 case neg => (simp [Op.eqItems, go_sem, h0, h1, h2, h3, h4, h5, h6, h7]; omega)
 simp [Op.eqItems, go_sem, h0, h1, h2, h3, h4, h5, h6, h7]
theorem stack_eq (w : World) (x0 x1 x2 x3 x4 x5 x6 x7 x8 y0 y1 y2 y3 y4 y5 y6 y7 y8 : Nat) :
  (binOp .eql 138 (.agg #[.int .i64 x0, .int .i64 x1, .int .i64 x2, .int .i64 x3, .int .i64 x4, .int .i64 x5, .int .i64 x6, .int .i64 x7, .int .i64 x8]) (.agg #[.int .i64 y0, .int .i64 y1, .int .i64 y2, .int .i64 y3, .int .i64 y4, .int .i64 y5, .int .i64 y6, .int .i64 y7, .int .i64 y8])).run Tryz.prog w = .ok (.bool (decide (x0 = y0 ∧ x1 = y1 ∧ x2 = y2 ∧ x3 = y3 ∧ x4 = y4 ∧ x5 = y5 ∧ x6 = y6 ∧ x7 = y7 ∧ x8 = y8))) w := by
 rw [run_eql_struct, run_equalIn_agg w 9999 _ _ _ (by kernel_rfl) (by kernel_rfl)]
 simp [go_sem]
 rw [eight_eq]
 by_cases h8 : x8 = y8
 ·by_cases h : x0 = y0 ∧ x1 = y1 ∧ x2 = y2 ∧ x3 = y3 ∧ x4 = y4 ∧ x5 = y5 ∧ x6 = y6 ∧ x7 = y7
  ·simp [h, h8]
  ·simp [h, h8]; omega
 ·simp [h8]; omega
theorem stack_eq_exec (w : World) (x0 x1 x2 x3 x4 x5 x6 x7 x8 y0 y1 y2 y3 y4 y5 y6 y7 y8 : Nat) (ρ : Operand → Value) (o : Oper) (x y : Operand) (ho : o.op = .binOp .eql 138 x y 138) (hx : ρ x = .agg #[.int .i64 x0, .int .i64 x1, .int .i64 x2, .int .i64 x3, .int .i64 x4, .int .i64 x5, .int .i64 x6, .int .i64 x7, .int .i64 x8]) (hy : ρ y = .agg #[.int .i64 y0, .int .i64 y1, .int .i64 y2, .int .i64 y3, .int .i64 y4, .int .i64 y5, .int .i64 y6, .int .i64 y7, .int .i64 y8]) :
  (execOp ρ o).run Tryz.prog w = .ok (.value (.bool (decide (x0 = y0 ∧ x1 = y1 ∧ x2 = y2 ∧ x3 = y3 ∧ x4 = y4 ∧ x5 = y5 ∧ x6 = y6 ∧ x7 = y7 ∧ x8 = y8)))) w := by
 have hg : Tryz.prog.eqGuardType Tryz.prog.depth 138 = false := by kernel_rfl
 unfold execOp
 simp only [ho, hx, hy, Sem.run_bind, run_eqGuard_agg (P := Tryz.prog) w .eql 138 x y _ _ hg, Result.andThen_ok, stack_eq, Sem.run_pure]
end Go.Proofs.YtgncgdkpkkdaeaaGreatDoor
