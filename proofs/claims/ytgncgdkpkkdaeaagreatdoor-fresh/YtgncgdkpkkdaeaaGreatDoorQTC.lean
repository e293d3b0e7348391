/- Put together from TC, N9. -/
import Derived.Test.YtgncgdkpkkdaeaaGreatDoorQTB
import Derived.Test.YtgncgdkpkkdaeaaGreatDoorQK
import Derived.Test.YtgncgdkpkkdaeaaGreatDoorQI
/- The document's own plan of a pattern: spots in memory; add. The document's own plan of a pattern: lay. The document's own plan of a pattern: lay, of a node of parts. The document's own plan of a pattern, whole. -/
namespace Go.Proofs.YtgncgdkpkkdaeaaGreatDoor.Ref
open Go.RowKit Tint

def optv : Option Nat → Value
  | none => .int .i64 (-1)
  | some k => .int .i64 k
def spCells (l : Value × Sp) : List Value := [l.1, optv l.2.to, optv l.2.or]
def spRow (ls : List (Value × Sp)) : List Value := ls.flatMap spCells

/-- A spot's bytes; they lie below B. -/
def OnVal (w : World) (B : Nat) (v : Value) : Option Cls → Prop
  | none => v = .slice none 0 0
  | some c => ∃ A on, v = .slice (some ⟨A, 0, none⟩) 256 256 ∧ A < B ∧ OnAt w A on ∧ Tbl on c

/-- The plan at block P, its spots from B on. -/
structure PlanAt (w : World) (B P : Nat) (ls : List (Value × Sp)) (first : Int) : Prop where
  ex : ∃ sv, w.heap[P]? = some (.cells #[sv, .int .i64 first] 206 (0, 0)) ∧ w.ownsRow B 203 3 sv ls.length (spRow ls)
  ons : ∀ l ∈ ls, OnVal w B l.1 l.2.on
  hP : B ≤ P

theorem OnVal.below {w w' : World} {B : Nat} {v : Value} {o : Option Cls} (h : OnVal w B v o) (hb : Below B w w') : OnVal w' B v o := by
  cases o with
  | none => exact h
  | some c =>
    obtain ⟨A, on, h1, h2, h3, h4⟩ := h
    exact ⟨A, on, h1, h2, ⟨(hb.block A h2).trans h3.1, h3.2⟩, h4⟩
theorem OnVal.one {w : World} {B : Nat} {v : Value} {o : Option Cls} (h : OnVal w B v o) : v.oneCell' = true := by
  cases o with
  | none => cases h; rfl
  | some c => obtain ⟨A, on, rfl, _⟩ := h; rfl

theorem length_spRow : ∀ ls : List (Value × Sp), (spRow ls).length = ls.length * 3
  | [] => rfl
  | l :: ls => by
    have := length_spRow ls
    simp only [spRow, List.flatMap_cons, List.length_append, spCells, List.length_cons, List.length_nil] at *
    omega

theorem spRow_get {ls : List (Value × Sp)} {i : Nat} {l : Value × Sp} (h : ls[i]? = some l) (j : Nat) (hj : j < 3) : (spRow ls)[i * 3 + j]? = (spCells l)[j]? := by
  induction ls generalizing i with
  | nil => simp at h
  | cons a ls ih =>
    cases i with
    | zero =>
      simp only [List.getElem?_cons_zero, Option.some.injEq] at h
      subst h
      simp only [spRow, List.flatMap_cons]
      rw [List.getElem?_append_left (by simp [spCells]; omega)]
      simp
    | succ i =>
      simp only [List.getElem?_cons_succ] at h
      have := ih h
      simp only [spRow, List.flatMap_cons]
      rw [List.getElem?_append_right (by simp [spCells]; omega)]
      rw [← this]
      simp only [spRow]
      congr 1
      simp [spCells]; omega

theorem PlanAt.lt {w : World} {B P : Nat} {ls : List (Value × Sp)} {first : Int} (h : PlanAt w B P ls first) : P < w.heap.size := lt_of_get h.ex.choose_spec.1

theorem info_spot : (Tryz.prog.info? 203).map (fun i => (i.zero, i.size, i.bytes)) = some (some (.agg #[.slice none 0 0, .int .i64 0, .int .i64 0]), 3, 40) := by kernel_rfl

theorem PlanAt.row {w : World} {B P : Nat} {ls : List (Value × Sp)} {first : Int} {sv : Value} (h : w.heap[P]? = some (.cells #[sv, .int .i64 first] 206 (0, 0))) (hr : w.ownsRow B 203 3 sv ls.length (spRow ls)) : sv.ownBlock ≠ some P := by
  intro e
  rcases hr.2 with ⟨rfl, _⟩ | ⟨g, cap, cur, rfl, _, hh, _⟩
  · cases e
  · cases e
    rw [h] at hh
    simp at hh

theorem PlanAt.push {w W w3 : World} {B P : Nat} {ls : List (Value × Sp)} {first : Int} {sv v' : Value} {l : Value × Sp} (hb : Below B w W) (hWP : W.heap[P]? = some (.cells #[sv, .int .i64 first] 206 (0, 0))) (hWr : W.ownsRow B 203 3 sv ls.length (spRow ls)) (ons : ∀ l ∈ ls, OnVal w B l.1 l.2.on) (hP : B ≤ P) (hl : OnVal w B l.1 l.2.on)
    (hown : w3.ownsRow B 203 3 v' (ls.length + 1) (spRow ls ++ spCells l)) (hg : W.grownBy w3 sv.ownBlock) :
    PlanAt (w3.setCell ⟨P, 0, none⟩ v') B P (ls ++ [l]) first ∧ Below B w (w3.setCell ⟨P, 0, none⟩ v') ∧ w3.heap[P]? = some (.cells #[sv, .int .i64 first] 206 (0, 0)) := by
  have hPl := lt_of_get hWP
  have hne := PlanAt.row hWP hWr
  have h3 : w3.heap[P]? = some (.cells #[sv, .int .i64 first] 206 (0, 0)) := (hg.block P hPl (fun e => hne e.symm)).trans hWP
  have hset : ∀ k, k ≠ P → (w3.setCell ⟨P, 0, none⟩ v').heap[k]? = w3.heap[k]? := fun k e => Below.heap_setCell _ _ _ _ e
  have hrow : ∀ k, sv.ownBlock = some k → B ≤ k := fun k e => (ownsRow_lt hWr e).1
  have hB : Below B w (w3.setCell ⟨P, 0, none⟩ v') := by
    refine ⟨hg.os.trans hb.os, hg.tape.trans hb.tape, hg.output.trans hb.output, ?_, fun k hk => ?_⟩
    · have : (w3.setCell ⟨P, 0, none⟩ v').heap.size = w3.heap.size := by simp [World.setCell]
      rw [this]; exact Nat.le_trans hb.size hg.size
    · rw [hset k (by omega)]
      by_cases hkl : k < W.heap.size
      · rw [hg.block k hkl (fun e => by have := hrow k e.symm; omega)]
        exact hb.block k hk
      · omega
  refine ⟨⟨⟨v', heap_setCell_same w3 P 0 _ h3, ?_⟩, ?_, hP⟩, hB, h3⟩
  · have e1 : (ls ++ [l]).length = ls.length + 1 := by simp
    have e2 : spRow (ls ++ [l]) = spRow ls ++ spCells l := by simp [spRow]
    rw [e1, e2]
    refine ownsRow_keep hown (fun k e => hset k ?_)
    rintro rfl
    rcases hown.2 with ⟨rfl, _⟩ | ⟨g, cap, cur, rfl, _, hh, _⟩
    · cases e
    · cases e
      rw [h3] at hh
      simp at hh
  · intro x hx
    rcases List.mem_append.1 hx with h | h
    · exact (ons x h).below hB
    · rw [List.mem_singleton.1 h]; exact hl.below hB

def AddPost (B P : Nat) (ls : List (Value × Sp)) (first : Int) (l : Value × Sp) (w : World) (e : Ending) (w' : World) : Prop := e = .returned (.int .i64 ls.length) ∧ PlanAt w' B P (ls ++ [l]) first ∧ Below B w w'

set_option maxRecDepth 20000 in
set_option maxHeartbeats 1000000 in
theorem add_any (B P : Nat) (ls : List (Value × Sp)) (first : Int) (ao : Option Addr) (ln cp : Nat) (zx zy : Int) (s : Sp) (w : World) (h : PlanAt w B P ls first) (hB : B ≤ w.heap.size) (hl : OnVal w B (.slice ao ln cp) s.on) (hx : optv s.to = .int .i64 zx) (hy : optv s.or = .int .i64 zy) (hn : ls.length ≤ 1000) :
    Calls Tryz.prog 145 #[.pointer (some ⟨P, 0, none⟩), .agg #[.slice ao ln cp, .int .i64 zx, .int .i64 zy]] w (AddPost B P ls first (.slice ao ln cp, s) w) := by
  obtain ⟨sv, h1, h2⟩ := h.ex
  have hHb : Below B w (w.alloc (.cells #[.slice ao ln cp, .int .i64 zx, .int .i64 zy] 203)) := (Below.refl B w).alloc hB _
  have HB := hide hHb
  have HBs := hide (show B ≤ (w.alloc (.cells #[.slice ao ln cp, .int .i64 zx, .int .i64 zy] 203)).heap.size by simp; omega)
  have HL := hide hl
  have HON := hide h.ons
  have HP := hide h.hP
  have H1 := hide (heap_alloc_old (o := .cells #[.slice ao ln cp, .int .i64 zx, .int .i64 zy] 203) h1)
  have H2 := hide (row_alloc h2 (.cells #[.slice ao ln cp, .int .i64 zx, .int .i64 zy] 203))
  have HE := hide (heap_alloc_last w (.cells #[.slice ao ln cp, .int .i64 zx, .int .i64 zy] 203))
  have HCL := hide (show spCells (.slice ao ln cp, s) = [.slice ao ln cp, .int .i64 zx, .int .i64 zy] by simp [spCells, hx, hy])
  have HO : Hid (∀ u ∈ [Value.slice ao ln cp, .int .i64 zx, .int .i64 zy], u.oneCell' = true) := by
    intro u hu
    simp only [List.mem_cons, List.not_mem_nil, or_false] at hu
    rcases hu with rfl | rfl | rfl
    · rfl
    · rfl
    · rfl
  obtain ⟨i0, hi, hz0, hz1, hz3⟩ := info_parts info_spot
  clear h hl h1 h2 hx hy hHb
  go_enter Tryz.func145, Tryz.ntmps145
  go_wp2_with fail
  obtain ⟨q, hq⟩ : ∃ q, q = w.heap.size := ⟨_, rfl⟩
  rw [← hq] at HE ⊢
  clear hq
  generalize w.alloc (.cells #[.slice ao ln cp, .int .i64 zx, .int .i64 zy] 203) = W2 at *
  have h1 := H1.out
  have he := HE.out
  have c0 : W2.cell? ⟨P, 0, none⟩ = some sv := by simp [World.cell?, h1]
  have c0' := cell_alloc_old c0 (.cells #[.slice ao ln cp, .int .i64 zx, .int .i64 zy] 203)
  have f0 : W2.frozen? ⟨P, 0, none⟩ = false := by simp [World.frozen?, h1]
  have e0 : W2.cell? ⟨q, 0, none⟩ = some (.slice ao ln cp) := by simp [World.cell?, he]
  have e1 : W2.cell? ⟨q, 1, none⟩ = some (.int .i64 zx) := by simp [World.cell?, he]
  have e2 : W2.cell? ⟨q, 2, none⟩ = some (.int .i64 zy) := by simp [World.cell?, he]
  clear h1 he
  go_region_law (refine step_append_at rfl (.tmp 9) (.tmp 11) 204 rfl B 203 i0 (.agg #[.slice none 0 0, .int .i64 0, .int .i64 0]) 3 40 Tryz.underlying204 hi hz0 hz1 hz3 rfl (by decide) sv ls.length (spRow ls) (by rfl) (by exact row_alloc H2.out _) ⟨W2.heap.size, 0, none⟩ 1 1 [.slice ao ln cp, .int .i64 zx, .int .i64 zy] (by rfl) (by rfl) (by exact cell_new_row W2 #[.slice ao ln cp, .int .i64 zx, .int .i64 zy] _) HO.out (by unfold maxLen; omega) (by omega) (by have := HBs.out; simp; omega) ?_; intro v' w3 hown hg _; obtain ⟨g, cap, rfl⟩ := own_form hown (by omega); rw [← HCL.out] at hown; obtain ⟨hpl, hbl, hq3⟩ := PlanAt.push (W := (W2.alloc (.cells #[.slice ao ln cp, .int .i64 zx, .int .i64 zy] 203)).drew) (l := (.slice ao ln cp, s)) (HB.out.trans ((Below.refl B W2).alloc HBs.out _)).drew (heap_alloc_old H1.out) (row_alloc H2.out _) HON.out HP.out HL.out hown hg; have g2 : w3.cell? ⟨P, 0, none⟩ = some sv := (by simp [World.cell?, hq3]); have gf : w3.frozen? ⟨P, 0, none⟩ = false := (by simp [World.frozen?, hq3]); have HPL := hide hpl; have HBL := hide hbl; clear hown hg hpl hbl hq3)
  all_goals
    go_wp2_with fail
    go_ret
    exact ⟨by simp, HPL.out, HBL.out⟩
end Go.Proofs.YtgncgdkpkkdaeaaGreatDoor.Ref

namespace Go.Proofs.YtgncgdkpkkdaeaaGreatDoor.Ref
open Go.RowKit Tint

def Linked (n : Nat) (s : Sp) : Prop := (∀ k, s.to = some k → k < n) ∧ (∀ k, s.or = some k → k < n) ∧ (s.on = none ∨ ∃ k, s.to = some k)
theorem Linked.mono {n m : Nat} {s : Sp} (h : Linked n s) (hm : n ≤ m) : Linked m s := ⟨fun k e => Nat.lt_of_lt_of_le (h.1 k e) hm, fun k e => Nat.lt_of_lt_of_le (h.2.1 k e) hm, h.2.2⟩

def Agree (n : Nat) (gs : List (Value × Sp)) (E : List Sp) : Prop := ∀ i l, gs[i]? = some l → E[n + i]? = some l.2

theorem Agree.left {n : Nat} {gs hs : List (Value × Sp)} {E : List Sp} (h : Agree n (gs ++ hs) E) : Agree n gs E := fun i l e => h i l (by rw [List.getElem?_append_left (get_lt e)]; exact e)
theorem Agree.right {n : Nat} {gs hs : List (Value × Sp)} {E : List Sp} (h : Agree n (gs ++ hs) E) : Agree (n + gs.length) hs E := fun i l e => by
  have := h (gs.length + i) l (by rw [List.getElem?_append_right (by omega)]; simpa using e)
  rwa [← Nat.add_assoc] at this

structure LayIs (B P : Nat) (ls : List (Value × Sp)) (first : Int) (r : Re) (to : Nat) (w : World) (gs : List (Value × Sp)) (a : Nat) (w' : World) : Prop where
  plan : PlanAt w' B P (ls ++ gs) first
  below : Below B w w'
  len : gs.length = r.spots
  lt : a < ls.length + gs.length
  links : ∀ g ∈ gs, Linked (ls.length + gs.length) g.2
  laid : ∀ E : List Sp, Agree ls.length gs E → Laid E r to a

def LayPost (B P : Nat) (ls : List (Value × Sp)) (first : Int) (r : Re) (to : Nat) (w : World) (e : Ending) (w' : World) : Prop := ∃ gs a, e = .returned (.int .i64 (a : Nat)) ∧ LayIs B P ls first r to w gs a w'

def LayAt (w0 : World) (B : Nat) (v : Value) (r : Re) : Prop := ∀ (P : Nat) (ls : List (Value × Sp)) (first : Int) (to : Nat) (w : World), Below B w0 w → B ≤ w.heap.size → PlanAt w B P ls first → to < ls.length → ls.length + r.spots ≤ 1000 →
  Calls Tryz.prog 104 #[.pointer (some ⟨P, 0, none⟩), v, .int .i64 to] w (LayPost B P ls first r to w)

theorem lay_one {B P : Nat} {ls : List (Value × Sp)} {first : Int} {c : Cls} {to : Nat} {w w' : World} {v : Value} (hto : to < ls.length) (h : PlanAt w' B P (ls ++ [(v, ⟨some c, some to, none⟩)]) first) (hb : Below B w w') : LayIs B P ls first (.cls c) to w [(v, ⟨some c, some to, none⟩)] ls.length w' :=
  ⟨h, hb, rfl, by simp, fun g hg => by
    rw [List.mem_singleton.1 hg]
    exact ⟨(fun k e => by cases e; simp; omega), (fun k e => by cases e), .inr ⟨to, rfl⟩⟩, fun E hE => .cls (by simpa using hE 0 _ rfl)⟩

set_option maxRecDepth 20000 in
set_option maxHeartbeats 1000000 in
theorem lay_cls {w0 : World} {B p A : Nat} {on : List Bool} {c : Cls} (h1 : p < B) (h2 : A < B) (h3 : NodeBlk w0 p 99 (.slice (some ⟨A, 0, none⟩) 256 256) (.slice none 0 0)) (h4 : OnAt w0 A on) (h5 : Tbl on c) : LayAt w0 B (.pointer (some ⟨p, 0, none⟩)) (.cls c) := by
  intro P ls first to w hb hB hp hto hn
  have hnode : w.heap[p]? = some (.cells #[.int .u8 99, .slice (some ⟨A, 0, none⟩) 256 256, .slice none 0 0] 267 (0, 0)) := (hb.block p h1).trans h3
  have c0 : w.cell? ⟨p, 0, none⟩ = some (.int .u8 99) := by simp [World.cell?, hnode]
  have c1 : w.cell? ⟨p, 1, none⟩ = some (.slice (some ⟨A, 0, none⟩) 256 256) := by simp [World.cell?, hnode]
  have HAD := hide (fun zx hx => add_any B P ls first (some ⟨A, 0, none⟩) 256 256 zx (-1) ⟨some c, some to, none⟩ w hp hB ⟨A, on, rfl, h2, ⟨(hb.block A h2).trans h4.1, h4.2⟩, h5⟩ hx rfl (by simp only [Re.spots] at hn; omega))
  clear hnode hp hb h3 h4 h5 hn
  go_enter Tryz.func104, Tryz.ntmps104
  go_wp2_with fail
  refine (HAD.out to rfl).mono ?_
  rintro e w1 ⟨rfl, hpl, hbl⟩
  have HEND := hide (lay_one hto hpl hbl)
  clear hpl hbl
  go_wp2_with fail
  go_ret
  exact ⟨_, _, rfl, HEND.out⟩
end Go.Proofs.YtgncgdkpkkdaeaaGreatDoor.Ref

namespace Go.Proofs.YtgncgdkpkkdaeaaGreatDoor.Ref
open Go.RowKit Tint

theorem kid_cell {w0 w : World} {B g cap : Nat} {vs : List Value} {i : Nat} {v : Value} (h : w0.ownsRow 0 199 1 (.slice (some ⟨g, 0, none⟩) vs.length cap) vs.length vs) (hg : g < B) (hb : Below B w0 w) (hv : vs[i]? = some v) : w.cell? ⟨g, i, none⟩ = some v := by
  rcases h.2 with ⟨h1, _⟩ | ⟨g', cap', cur, h1, _, h2, _, _, h3, h4⟩
  · cases h1
  · cases h1
    have h5 : w.heap[g]? = some (.cells cur 199 (0, 0)) := (hb.block g hg).trans h2
    have h6 : cur[i]? = some v := by
      rw [← h4] at hv
      rw [List.getElem?_take] at hv
      split at hv
      · simpa using hv
      · cases hv
    simp [World.cell?, h5, h6]

/-- A node of parts, and that each can be laid. -/
structure Kids (w0 : World) (B p kind g cap : Nat) (vs : List Value) (rs : List Re) : Prop where
  hp : p < B
  node : NodeBlk w0 p kind (.slice none 0 0) (.slice (some ⟨g, 0, none⟩) vs.length cap)
  row : w0.ownsRow 0 199 1 (.slice (some ⟨g, 0, none⟩) vs.length cap) vs.length vs
  hg : g < B
  len : vs.length = rs.length
  lay : ∀ (i : Nat) (v : Value) (q : Re), vs[i]? = some v → rs[i]? = some q → LayAt w0 B v q

theorem Kids.cells {w0 w : World} {B p kind g cap : Nat} {vs : List Value} {rs : List Re} (h : Kids w0 B p kind g cap vs rs) (hb : Below B w0 w) : w.cell? ⟨p, 0, none⟩ = some (.int .u8 kind) ∧ w.cell? ⟨p, 2, none⟩ = some (.slice (some ⟨g, 0, none⟩) vs.length cap) := by
  have hn : w.heap[p]? = some (.cells #[.int .u8 kind, .slice none 0 0, .slice (some ⟨g, 0, none⟩) vs.length cap] 267 (0, 0)) := (hb.block p h.hp).trans h.node
  exact ⟨by simp [World.cell?, hn], by simp [World.cell?, hn]⟩

theorem lay_opt_is {B P : Nat} {ls gs : List (Value × Sp)} {first : Int} {q : Re} {to a : Nat} {w w1 w2 : World} {v : Value} (hto : to < ls.length) (h : LayIs B P ls first q to w gs a w1) (hp : PlanAt w2 B P (ls ++ gs ++ [(v, ⟨none, some a, some to⟩)]) first) (hb : Below B w1 w2) : LayIs B P ls first (.opt q) to w (gs ++ [(v, ⟨none, some a, some to⟩)]) (ls.length + gs.length) w2 := by
  have hl : (gs ++ [(v, (⟨none, some a, some to⟩ : Sp))]).length = gs.length + 1 := by simp
  refine ⟨by rw [← List.append_assoc]; exact hp, h.below.trans hb, by rw [hl, h.len]; rfl, by rw [hl]; omega, fun g hg => ?_, fun E hE => ?_⟩
  · rcases List.mem_append.1 hg with hg | hg
    · exact (h.links g hg).mono (by rw [hl]; omega)
    · rw [List.mem_singleton.1 hg]
      have := h.lt
      exact ⟨(fun k e => by cases e; rw [hl]; omega), (fun k e => by cases e; rw [hl]; omega), .inl rfl⟩
  · exact .opt (h.laid E hE.left) (by simpa using hE.right 0 _ rfl)

set_option maxRecDepth 20000 in
set_option maxHeartbeats 1000000 in
theorem lay_opt {w0 : World} {B p g cap : Nat} {v0 : Value} {q : Re} (hk : Kids w0 B p 63 g cap [v0] [q]) : LayAt w0 B (.pointer (some ⟨p, 0, none⟩)) (.opt q) := by
  intro P ls first to w hb hB hp hto hn
  obtain ⟨c0, c2⟩ := hk.cells hb
  have d0 := kid_cell hk.row hk.hg hb (show [v0][0]? = some v0 from rfl)
  have HLA := hide (hk.lay 0 v0 q rfl rfl P ls first to w hb hB hp hto (by simp only [Re.spots] at hn; omega))
  have hn' : ls.length + q.spots + 1 ≤ 1000 := by simp only [Re.spots] at hn; omega
  clear hb hp hn hk
  simp only [List.length_cons, List.length_nil] at c2
  go_enter Tryz.func104, Tryz.ntmps104
  go_wp2_with fail
  refine HLA.out.mono ?_
  rintro e w1 ⟨gs, a, rfl, hl⟩
  have HL := hide hl
  have hgl : gs.length = q.spots := hl.len
  have HAD := hide (add_any B P (ls ++ gs) first none 0 0 a to ⟨none, some a, some to⟩ w1 hl.plan (Nat.le_trans hB hl.below.size) rfl rfl rfl (by rw [List.length_append]; omega))
  clear hl hgl HLA c0 c2 d0
  go_wp2_with fail
  refine HAD.out.mono ?_
  rintro e w2 ⟨rfl, hpl, hbl⟩
  have HEND := hide (lay_opt_is hto HL.out hpl hbl)
  clear hpl hbl HAD
  rw [List.length_append]
  go_wp2_with fail
  go_ret
  exact ⟨_, _, rfl, HEND.out⟩

/-! ## A spot turned -/

theorem spRow_set {v : Value} {s : Sp} {a : Nat} : ∀ {ls : List (Value × Sp)} {i : Nat}, ls[i]? = some (v, s) → (spRow ls).set (i * 3 + 1) (.int .i64 a) = spRow (ls.set i (v, ⟨s.on, some a, s.or⟩))
  | [], i, h => by simp at h
  | x :: ls, 0, h => by
    simp only [List.getElem?_cons_zero, Option.some.injEq] at h
    subst h
    rfl
  | x :: ls, i + 1, h => by
    simp only [List.getElem?_cons_succ] at h
    have ih := spRow_set (a := a) h
    have e : (i + 1) * 3 + 1 = i * 3 + 1 + 1 + 1 + 1 := by omega
    rw [e]
    show x.1 :: optv x.2.to :: optv x.2.or :: (spRow ls).set (i * 3 + 1) (.int .i64 a) = x.1 :: optv x.2.to :: optv x.2.or :: spRow (ls.set i (v, ⟨s.on, some a, s.or⟩))
    rw [ih]

theorem PlanAt.mem {w : World} {B P : Nat} {ls : List (Value × Sp)} {first : Int} (h : PlanAt w B P ls first) (hn : 0 < ls.length) :
    ∃ g cap, w.cell? ⟨P, 0, none⟩ = some (.slice (some ⟨g, 0, none⟩) ls.length cap) ∧ w.cell? ⟨P, 1, none⟩ = some (.int .i64 first) ∧ w.frozen? ⟨P, 1, none⟩ = false ∧
      (∀ i l, ls[i]? = some l → w.cell? ⟨g, i * 3, none⟩ = some l.1 ∧ w.cell? ⟨g, i * 3 + 1, none⟩ = some (optv l.2.to) ∧ w.cell? ⟨g, i * 3 + 2, none⟩ = some (optv l.2.or)) ∧ (∀ o, w.frozen? ⟨g, o, none⟩ = false) ∧
      ∀ (i : Nat) (v : Value) (s : Sp) (a : Nat), ls[i]? = some (v, s) → PlanAt (w.setCell ⟨g, i * 3 + 1, none⟩ (.int .i64 a)) B P (ls.set i (v, ⟨s.on, some a, s.or⟩)) first ∧ Below B w (w.setCell ⟨g, i * 3 + 1, none⟩ (.int .i64 a)) := by
  obtain ⟨sv, h1, h2⟩ := h.ex
  have hrow := h2
  rcases h2.2 with ⟨_, h0⟩ | ⟨g, cap, cur, rfl, hg, hh, hc1, hc2, hc3, hc4⟩
  · omega
  · have hgP : g ≠ P := fun e => PlanAt.row h1 hrow (by rw [e]; rfl)
    have hcell : ∀ i l, ls[i]? = some l → ∀ j, j < 3 → w.cell? ⟨g, i * 3 + j, none⟩ = (spCells l)[j]? := by
      intro i l hl j hj
      have hi : i < ls.length := get_lt hl
      have e1 : cur[i * 3 + j]? = (spCells l)[j]? := by
        rw [← spRow_get hl j hj, ← hc4, List.getElem?_take, if_pos (by omega)]
        simp
      rw [← e1]
      simp [World.cell?, hh]
    refine ⟨g, cap, by simp [World.cell?, h1], by simp [World.cell?, h1], by simp [World.frozen?, h1], fun i l hl => ⟨?_, ?_, ?_⟩, fun o => by simp [World.frozen?, hh], fun i v s a hl => ?_⟩
    · exact hcell i l hl 0 (by omega)
    · exact hcell i l hl 1 (by omega)
    · exact hcell i l hl 2 (by omega)
    · have hb : Below B w (w.setCell ⟨g, i * 3 + 1, none⟩ (.int .i64 a)) := (Below.refl B w).setCell hg _
      refine ⟨⟨⟨_, (Below.heap_setCell _ _ _ _ (by show P ≠ g; exact hgP.symm)).trans h1, ⟨by rw [length_spRow], .inr ⟨g, cap, cur.setIfInBounds (i * 3 + 1) (.int .i64 a), by simp, hg, heap_setCell_same w g _ _ hh, by simpa using hc1, hc2, by simp [hc3], ?_⟩⟩⟩, ?_, h.hP⟩, hb⟩
      · rw [Array.toList_setIfInBounds, List.length_set, List.take_set, hc4, spRow_set hl]
      · intro l hlm
        rcases List.mem_or_eq_of_mem_set hlm with hm | rfl
        · exact (h.ons l hm).below hb
        · exact (h.ons (v, s) (List.mem_of_getElem? hl)).below hb

/-- What a loop's spots are, behind the patch. -/
theorem lay_loop_is {B P : Nat} {ls gs : List (Value × Sp)} {first : Int} {q : Re} {to a : Nat} {w w1 w2 w3 : World} {v : Value} (hto : to < ls.length) (hb0 : Below B w w1) (h : LayIs B P (ls ++ [(v, ⟨none, none, some to⟩)]) first q ls.length w1 gs a w2) (hp : PlanAt w3 B P ((ls ++ [(v, (⟨none, none, some to⟩ : Sp))] ++ gs).set ls.length (v, (⟨none, some a, some to⟩ : Sp))) first) (hb : Below B w2 w3) :
    LayIs B P ls first (.star q) to w ((v, ⟨none, some a, some to⟩) :: gs) ls.length w3 ∧ LayIs B P ls first (.plus q) to w ((v, ⟨none, some a, some to⟩) :: gs) a w3 := by
  have e : (ls ++ [(v, (⟨none, none, some to⟩ : Sp))] ++ gs).set ls.length (v, ⟨none, some a, some to⟩) = ls ++ (v, ⟨none, some a, some to⟩) :: gs := by
    rw [List.append_assoc, List.set_append_right _ _ (Nat.le_refl _)]
    simp
  rw [e] at hp
  have hl1 : (ls ++ [(v, (⟨none, none, some to⟩ : Sp))]).length = ls.length + 1 := by simp
  have hlt := h.lt
  rw [hl1] at hlt
  have hlinks : ∀ g ∈ (v, (⟨none, some a, some to⟩ : Sp)) :: gs, Linked (ls.length + ((v, (⟨none, some a, some to⟩ : Sp)) :: gs).length) g.2 := by
    intro g hg
    rcases List.mem_cons.1 hg with rfl | hg
    · exact ⟨(fun k e => by cases e; simp only [List.length_cons]; omega), (fun k e => by cases e; simp only [List.length_cons]; omega), .inl rfl⟩
    · have := h.links g hg
      rw [hl1] at this
      exact this.mono (by simp only [List.length_cons]; omega)
  have hb3 := (hb0.trans h.below).trans hb
  have hE : ∀ E : List Sp, Agree ls.length ((v, ⟨none, some a, some to⟩) :: gs) E → Laid E q ls.length a ∧ E[ls.length]? = some ⟨none, some a, some to⟩ := by
    intro E hE
    refine ⟨h.laid E fun i l hi => ?_, by simpa using hE 0 _ rfl⟩
    rw [hl1]
    have := hE (i + 1) l hi
    rwa [show ls.length + 1 + i = ls.length + (i + 1) by omega]
  refine ⟨⟨hp, hb3, by simp only [List.length_cons, h.len, Re.spots], by simp only [List.length_cons]; omega, hlinks, fun E he => .star (hE E he).1 (hE E he).2⟩, ⟨hp, hb3, by simp only [List.length_cons, h.len, Re.spots], by simp only [List.length_cons]; omega, hlinks, fun E he => .plus (hE E he).1 (hE E he).2⟩⟩

set_option maxRecDepth 20000 in
set_option maxHeartbeats 1000000 in
theorem lay_loop {w0 : World} {B p g cap kind : Nat} {v0 : Value} {q : Re} (hk : Kids w0 B p kind g cap [v0] [q]) (hkind : kind = 42 ∨ kind = 43) : LayAt w0 B (.pointer (some ⟨p, 0, none⟩)) (if kind = 42 then .star q else .plus q) := by
  intro P ls first to w hb hB hp hto hn
  have hn' : ls.length + q.spots + 1 ≤ 1000 := by rcases hkind with rfl | rfl <;> simp [Re.spots] at hn <;> omega
  obtain ⟨c0, c2⟩ := hk.cells hb
  have HAD := hide (add_any B P ls first none 0 0 (-1) to ⟨none, none, some to⟩ w hp hB rfl rfl rfl (by omega))
  have HB0 := hide hb
  have HK := hide hk
  simp only [List.length_cons, List.length_nil] at c2
  clear hb hp hn hk
  rcases hkind with rfl | rfl
  · go_enter Tryz.func104, Tryz.ntmps104
    go_wp2_with fail
    refine HAD.out.mono ?_
    rintro e w1 ⟨rfl, hpl, hbl⟩
    have hb1 := HB0.out.trans hbl
    have hB1 := Nat.le_trans hB hbl.size
    have HB1 := hide hbl
    have HLA := hide (HK.out.lay 0 v0 q rfl rfl P _ first ls.length w1 hb1 hB1 hpl (by simp) (by simp only [List.length_append, List.length_cons, List.length_nil]; omega))
    obtain ⟨d0, d2⟩ := HK.out.cells hb1
    have d3 := kid_cell HK.out.row HK.out.hg hb1 (show [v0][0]? = some v0 from rfl)
    simp only [List.length_cons, List.length_nil] at d2
    clear hpl hbl hb1 HAD c0 c2
    go_wp2_with fail
    refine HLA.out.mono ?_
    rintro e w2 ⟨gs, a, rfl, hl⟩
    have HL := hide hl
    have hb2 := (HB0.out.trans HB1.out).trans hl.below
    obtain ⟨d0', d2'⟩ := HK.out.cells hb2
    obtain ⟨g2, cap2, m1, m2, m3, m4, m5, m6⟩ := hl.plan.mem (by simp; omega)
    have hll : (ls ++ [(Value.slice none 0 0, (⟨none, none, some to⟩ : Sp))] ++ gs).length = ls.length + 1 + gs.length := by simp; omega
    rw [hll] at m1
    obtain ⟨m7, m8⟩ := m6 ls.length (.slice none 0 0) ⟨none, none, some to⟩ a (by simp)
    have hgl : gs.length = q.spots := hl.len
    have m9 := (m4 ls.length (.slice none 0 0, ⟨none, none, some to⟩) (by simp)).2.1
    simp only [optv] at m9
    have m10 := m5 (ls.length * 3 + 1)
    have HEND := hide (lay_loop_is hto HB1.out hl m7 m8)
    clear hl HLA d0 d2 d3 hb2 m2 m3 m4 m5 m6 m7 m8 hll
    go_wp2_with fail
    go_ret
    exact ⟨_, _, rfl, HEND.out.1⟩
  · go_enter Tryz.func104, Tryz.ntmps104
    go_wp2_with fail
    refine HAD.out.mono ?_
    rintro e w1 ⟨rfl, hpl, hbl⟩
    have hb1 := HB0.out.trans hbl
    have hB1 := Nat.le_trans hB hbl.size
    have HB1 := hide hbl
    have HLA := hide (HK.out.lay 0 v0 q rfl rfl P _ first ls.length w1 hb1 hB1 hpl (by simp) (by simp only [List.length_append, List.length_cons, List.length_nil]; omega))
    obtain ⟨d0, d2⟩ := HK.out.cells hb1
    have d3 := kid_cell HK.out.row HK.out.hg hb1 (show [v0][0]? = some v0 from rfl)
    simp only [List.length_cons, List.length_nil] at d2
    clear hpl hbl hb1 HAD c0 c2
    go_wp2_with fail
    refine HLA.out.mono ?_
    rintro e w2 ⟨gs, a, rfl, hl⟩
    have HL := hide hl
    have hb2 := (HB0.out.trans HB1.out).trans hl.below
    obtain ⟨d0', d2'⟩ := HK.out.cells hb2
    obtain ⟨g2, cap2, m1, m2, m3, m4, m5, m6⟩ := hl.plan.mem (by simp; omega)
    have hll : (ls ++ [(Value.slice none 0 0, (⟨none, none, some to⟩ : Sp))] ++ gs).length = ls.length + 1 + gs.length := by simp; omega
    rw [hll] at m1
    obtain ⟨m7, m8⟩ := m6 ls.length (.slice none 0 0) ⟨none, none, some to⟩ a (by simp)
    have hgl : gs.length = q.spots := hl.len
    have m9 := (m4 ls.length (.slice none 0 0, ⟨none, none, some to⟩) (by simp)).2.1
    simp only [optv] at m9
    have m10 := m5 (ls.length * 3 + 1)
    have HEND := hide (lay_loop_is hto HB1.out hl m7 m8)
    clear hl HLA d0 d2 d3 hb2 m2 m3 m4 m5 m6 m7 m8 hll
    go_wp2_with fail
    go_ret
    exact ⟨_, _, rfl, HEND.out.2⟩

/-! ## One behind the other -/

theorem LayIs.nil {B P : Nat} {ls : List (Value × Sp)} {first : Int} {to : Nat} {w : World} (hp : PlanAt w B P ls first) (hto : to < ls.length) : LayIs B P ls first .eps to w [] to w :=
  ⟨by rw [List.append_nil]; exact hp, Below.refl _ _, rfl, by simpa using hto, (fun g hg => by cases hg), (fun E _ => Laid.eps)⟩

theorem spots_cons (r : Re) (rs : List Re) : (seqOf (r :: rs)).spots = r.spots + (seqOf rs).spots := by
  cases rs with
  | nil => simp [seqOf, Re.spots]
  | cons q rs => rfl

theorem laid_cons {E : List Sp} {r : Re} {rs : List Re} {to m a : Nat} (h : Laid E (seqOf rs) to m) (h' : Laid E r m a) : Laid E (seqOf (r :: rs)) to a := by
  cases rs with
  | nil => cases h; exact h'
  | cons q rs => exact .seq h h'

theorem lay_seq_is {B P : Nat} {ls gs gs2 : List (Value × Sp)} {first : Int} {r : Re} {rs : List Re} {to a a2 : Nat} {w w1 w2 : World} (h : LayIs B P ls first (seqOf rs) to w gs a w1) (h2 : LayIs B P (ls ++ gs) first r a w1 gs2 a2 w2) : LayIs B P ls first (seqOf (r :: rs)) to w (gs ++ gs2) a2 w2 := by
  have hl : (ls ++ gs).length = ls.length + gs.length := List.length_append
  have hl2 : (gs ++ gs2).length = gs.length + gs2.length := List.length_append
  have hlt := h2.lt
  rw [hl] at hlt
  refine ⟨by rw [← List.append_assoc]; exact h2.plan, h.below.trans h2.below, by rw [hl2, spots_cons, h.len, h2.len]; omega, by rw [hl2]; omega, fun g hg => ?_, fun E hE => ?_⟩
  · rcases List.mem_append.1 hg with hg | hg
    · exact (h.links g hg).mono (by rw [hl2]; omega)
    · have := h2.links g hg
      rw [hl] at this
      exact this.mono (by rw [hl2]; omega)
  · have h3 := h2.laid E (by rw [hl]; exact hE.right)
    exact laid_cons (h.laid E hE.left) h3

def CatLay (B P : Nat) (ls : List (Value × Sp)) (first : Int) (rs : List Re) (to : Nat) (w : World) (k : Nat) (vto vi : Value) (wr : World) : Prop :=
  ∃ gs a, vi = .int .i64 ((k : Int) - 1) ∧ vto = .int .i64 (a : Nat) ∧ k ≤ rs.length ∧ LayIs B P ls first (seqOf (rs.drop k)) to w gs a wr

theorem spots_drop (rs : List Re) (k : Nat) : (seqOf (rs.drop k)).spots ≤ (seqOf rs).spots := by
  induction rs generalizing k with
  | nil => simp
  | cons r rs ih =>
    cases k with
    | zero => simp
    | succ k =>
      rw [List.drop_succ_cons, spots_cons]
      have := ih k
      omega

set_option maxRecDepth 20000 in
set_option maxHeartbeats 1000000 in
theorem lay_cat {w0 : World} {B p g cap : Nat} {vs : List Value} {rs : List Re} (hk : Kids w0 B p 38 g cap vs rs) (hvl : vs.length ≤ 9223372036854775807) : LayAt w0 B (.pointer (some ⟨p, 0, none⟩)) (seqOf rs) := by
  intro P ls first to w hb hB hp hto hn
  obtain ⟨c0, c2⟩ := hk.cells hb
  have HB0 := hide hb
  have HK := hide hk
  have HS := hide (LayIs.nil hp hto)
  have HLEN := hide hk.len
  clear hb hp hk
  go_enter Tryz.func104, Tryz.ntmps104
  go_wp2_with fail
  go_loopg [2, 7] vs.length (fun k vto vi wr => CatLay B P ls first rs to w k vto vi wr)
  case atStart => exact ⟨[], to, by simp, rfl, by have := HLEN.out; omega, by rw [List.drop_of_length_le (by have := HLEN.out; omega)]; exact HS.out⟩
  case round =>
    obtain ⟨gs, a, rfl, rfl, hk1, hl⟩ := hrel
    have HL := hide hl
    have hb1 := HB0.out.trans hl.below
    obtain ⟨d0, d2⟩ := HK.out.cells hb1
    cases gk with
    | zero =>
      clear hl hb1
      go_wp2_with fail
      go_ret
      exact ⟨_, _, rfl, by simpa using HL.out⟩
    | succ k =>
      have hkv : k < vs.length := by have := HLEN.out; omega
      obtain ⟨v, hv⟩ : ∃ v, vs[k]? = some v := ⟨_, List.getElem?_eq_getElem hkv⟩
      obtain ⟨r, hr⟩ : ∃ r, rs[k]? = some r := ⟨_, List.getElem?_eq_getElem (by omega)⟩
      have d3 := kid_cell HK.out.row HK.out.hg hb1 hv
      have hdr : rs.drop k = r :: rs.drop (k + 1) := by
        rw [List.drop_eq_getElem_cons (by omega : k < rs.length)]
        rw [List.getElem?_eq_getElem (by omega : k < rs.length)] at hr
        rw [Option.some.inj hr]
      have hsp := spots_drop rs k
      rw [hdr, spots_cons] at hsp
      have hgl := hl.len
      have HLA := hide (HK.out.lay k v r hv hr P (ls ++ gs) first a wr hb1 (Nat.le_trans hB hl.below.size) hl.plan (by rw [List.length_append]; exact hl.lt) (by rw [List.length_append]; omega))
      have HDR := hide hdr
      have hki : (((k + 1 : Nat) : Int) - 1) = (k : Int) := by omega
      rw [hki]
      clear hl hb1 hv hr hdr hsp hgl hki
      go_wp2_with fail
      refine HLA.out.mono ?_
      rintro e w2 ⟨gs2, a2, rfl, hl2⟩
      have HEND := hide (show LayIs B P ls first (seqOf (rs.drop k)) to w (gs ++ gs2) a2 w2 by rw [HDR.out]; exact lay_seq_is HL.out hl2)
      clear hl2 HLA d0 d2 d3
      go_wp2_with fail
      go_roundg k
      case measure => omega
      case rel => exact ⟨gs ++ gs2, a2, rfl, rfl, by omega, HEND.out⟩

set_option maxRecDepth 20000 in
set_option maxHeartbeats 1000000 in
theorem lay_cat_nil {w0 : World} {B p : Nat} (hpB : p < B) (hnode : NodeBlk w0 p 38 (.slice none 0 0) (.slice none 0 0)) : LayAt w0 B (.pointer (some ⟨p, 0, none⟩)) .eps := by
  intro P ls first to w hb hB hp hto hn
  have hn0 : w.heap[p]? = some (.cells #[.int .u8 38, .slice none 0 0, .slice none 0 0] 267 (0, 0)) := (hb.block p hpB).trans hnode
  have c0 : w.cell? ⟨p, 0, none⟩ = some (.int .u8 38) := by simp [World.cell?, hn0]
  have c2 : w.cell? ⟨p, 2, none⟩ = some (.slice none 0 0) := by simp [World.cell?, hn0]
  have HS := hide (LayIs.nil hp hto)
  clear hb hp hn hn0
  go_enter Tryz.func104, Tryz.ntmps104
  go_wp2_with fail
  go_loopg [2, 7] 0 (fun _ vto vi wr => vto = .int .i64 (to : Nat) ∧ vi = .int .i64 (-1) ∧ wr = w)
  case atStart => exact ⟨rfl, rfl, rfl⟩
  case round =>
    obtain ⟨rfl, rfl, rfl⟩ := hrel
    go_wp2_with fail
    go_ret
    exact ⟨_, _, rfl, HS.out⟩

/-! ## One of several -/

theorem lay_alt_is {B P : Nat} {ls gs gs2 : List (Value × Sp)} {first : Int} {r q : Re} {to a o : Nat} {w w1 w2 w3 : World} {v : Value} (h : LayIs B P ls first r to w gs a w1) (h2 : LayIs B P (ls ++ gs) first q to w1 gs2 o w2) (hp : PlanAt w3 B P (ls ++ gs ++ gs2 ++ [(v, ⟨none, some a, some o⟩)]) first) (hb : Below B w2 w3) :
    LayIs B P ls first (.alt r q) to w (gs ++ gs2 ++ [(v, ⟨none, some a, some o⟩)]) (ls.length + gs.length + gs2.length) w3 := by
  have hl : (ls ++ gs).length = ls.length + gs.length := List.length_append
  have hl2 : (gs ++ gs2 ++ [(v, (⟨none, some a, some o⟩ : Sp))]).length = gs.length + gs2.length + 1 := by simp; omega
  have hlt := h2.lt
  rw [hl] at hlt
  have hlt1 := h.lt
  refine ⟨by rw [← List.append_assoc, ← List.append_assoc]; exact hp, (h.below.trans h2.below).trans hb, by rw [hl2, h.len, h2.len]; rfl, by rw [hl2]; omega, fun g hg => ?_, fun E hE => ?_⟩
  · rcases List.mem_append.1 hg with hg | hg
    · rcases List.mem_append.1 hg with hg | hg
      · exact (h.links g hg).mono (by rw [hl2]; omega)
      · have := h2.links g hg
        rw [hl] at this
        exact this.mono (by rw [hl2]; omega)
    · rw [List.mem_singleton.1 hg]
      exact ⟨(fun k e => by cases e; rw [hl2]; omega), (fun k e => by cases e; rw [hl2]; omega), .inl rfl⟩
  · have h3 := h2.laid E (by rw [hl]; exact hE.left.right)
    have h4 := hE.right 0 _ rfl
    exact .alt (h.laid E hE.left.left) h3 (by simpa [Nat.add_assoc] using h4)

theorem spots_foldl : ∀ (rs : List Re) (r0 : Re) (k : Nat), ((rs.take k).foldl Re.alt r0).spots ≤ (rs.foldl Re.alt r0).spots
  | [], r0, k => by simp
  | r :: rs, r0, 0 => by
    have := spots_foldl rs (.alt r0 r) 0
    simp only [List.take_zero, List.foldl_nil, List.foldl_cons, Re.spots] at *
    omega
  | r :: rs, r0, k + 1 => by
    have := spots_foldl rs (.alt r0 r) k
    simpa using this

def AltLay (B P : Nat) (ls : List (Value × Sp)) (first : Int) (r0 : Re) (rs : List Re) (to : Nat) (w : World) (k : Nat) (va vi : Value) (wr : World) : Prop :=
  ∃ gs a j, vi = .int .i64 ((j + 1 : Nat) : Int) ∧ va = .int .i64 (a : Nat) ∧ j + k = rs.length ∧ LayIs B P ls first ((rs.take j).foldl Re.alt r0) to w gs a wr

set_option maxRecDepth 20000 in
set_option maxHeartbeats 1000000 in
theorem lay_alt {w0 : World} {B p g cap : Nat} {vs : List Value} {r0 : Re} {rs : List Re} (hk : Kids w0 B p 124 g cap vs (r0 :: rs)) (hvl : vs.length ≤ 9223372036854775807) : LayAt w0 B (.pointer (some ⟨p, 0, none⟩)) (rs.foldl Re.alt r0) := by
  intro P ls first to w hb hB hp hto hn
  obtain ⟨c0, c2⟩ := hk.cells hb
  have hl0 := hk.len
  simp only [List.length_cons] at hl0
  obtain ⟨v0, hv0⟩ : ∃ v, vs[0]? = some v := ⟨_, List.getElem?_eq_getElem (by omega)⟩
  have d0 := kid_cell hk.row hk.hg hb hv0
  have hsp0 := spots_foldl rs r0 0
  simp only [List.take_zero, List.foldl_nil] at hsp0
  have HLA := hide (hk.lay 0 v0 r0 hv0 rfl P ls first to w hb hB hp hto (by omega))
  have HB0 := hide hb
  have HK := hide hk
  have HLEN := hide hl0
  have hvp : 0 < vs.length := by omega
  clear hb hp hk hv0 hsp0 hl0
  go_enter Tryz.func104, Tryz.ntmps104
  go_wp2_with fail
  refine HLA.out.mono ?_
  rintro e w1 ⟨gs0, a0, rfl, hl1⟩
  have HL1 := hide hl1
  clear hl1 HLA c0 c2 d0
  go_wp2_with fail
  go_loopg [8, 9] rs.length (fun k va vi wr => AltLay B P ls first r0 rs to w k va vi wr)
  case atStart => exact ⟨gs0, a0, 0, rfl, rfl, by omega, HL1.out⟩
  case round =>
    obtain ⟨gs, a, j, rfl, rfl, hj, hl⟩ := hrel
    have HL := hide hl
    have hb1 := HB0.out.trans hl.below
    obtain ⟨d0, d2⟩ := HK.out.cells hb1
    cases gk with
    | zero =>
      have hge : ¬ j + 1 < vs.length := by have := HLEN.out; omega
      have hg1 : decide (j + 1 < vs.length) = false := by simpa using hge
      clear hl hb1
      go_wp2_with fail
      go_ret
      exact ⟨_, _, rfl, by have h := HL.out; rwa [List.take_of_length_le (by omega)] at h⟩
    | succ k =>
      have hjl : j + 1 < vs.length := by have := HLEN.out; omega
      have hg1 : decide (((j + 1 : Nat) : Int) < (vs.length : Int)) = true := by simp; omega
      obtain ⟨v, hv⟩ : ∃ v, vs[j + 1]? = some v := ⟨_, List.getElem?_eq_getElem hjl⟩
      obtain ⟨r, hr⟩ : ∃ r, rs[j]? = some r := ⟨_, List.getElem?_eq_getElem (by omega)⟩
      have d3 := kid_cell HK.out.row HK.out.hg hb1 hv
      have htk : (rs.take (j + 1)).foldl Re.alt r0 = .alt ((rs.take j).foldl Re.alt r0) r := by
        rw [List.take_add_one, hr, Option.toList_some, List.foldl_append]
        rfl
      have hsp := spots_foldl rs r0 (j + 1)
      rw [htk] at hsp
      simp only [Re.spots] at hsp
      have hgl := hl.len
      have HLA := hide (HK.out.lay (j + 1) v r hv (by simpa using hr) P (ls ++ gs) first to wr hb1 (Nat.le_trans hB hl.below.size) hl.plan (by rw [List.length_append]; omega) (by rw [List.length_append]; omega))
      have HTK := hide htk
      have HSP := hide hsp
      have HGL := hide hgl
      obtain ⟨j1, hj1⟩ : ∃ j1, j1 = j + 1 := ⟨_, rfl⟩
      rw [← hj1] at hjl hg1 d3 ⊢
      have HJ1 := hide hj1
      clear hl hb1 hv hr htk hsp hgl hj1
      go_wp2_with fail
      refine HLA.out.mono ?_
      rintro e w2 ⟨gs2, o, rfl, hl2⟩
      have HL2 := hide hl2
      have HAD := hide (add_any B P (ls ++ gs ++ gs2) first none 0 0 a o ⟨none, some a, some o⟩ w2 hl2.plan (Nat.le_trans hB (Nat.le_trans HL.out.below.size hl2.below.size)) rfl rfl rfl (by have h1 := hl2.len; have h2 := HSP.out; have h3 := HGL.out; simp only [List.length_append]; omega))
      clear hl2 HLA d0 d2 d3
      go_wp2_with fail
      refine HAD.out.mono ?_
      rintro e w3 ⟨rfl, hpl, hbl⟩
      have HEND := hide (show LayIs B P ls first ((rs.take (j + 1)).foldl Re.alt r0) to w _ _ w3 by rw [HTK.out]; exact lay_alt_is HL.out HL2.out hpl hbl)
      clear hpl hbl HAD
      rw [List.length_append, List.length_append]
      go_wp2_with fail
      go_roundg k
      case measure => omega
      case rel => exact ⟨_, _, j + 1, by rw [HJ1.out]; rfl, rfl, by omega, HEND.out⟩

theorem Kids.small {w0 : World} {B p kind g cap : Nat} {vs : List Value} {rs : List Re} (h : Kids w0 B p kind g cap vs rs) : vs.length ≤ 9223372036854775807 := by
  rcases h.row.2 with ⟨h1, _⟩ | ⟨_, _, _, _, _, _, h2, h3, _⟩
  · cases h1
  · unfold maxLen at h3; omega

theorem lay_any {w0 : World} {B : Nat} {v : Value} {r : Re} (h : NodeIs w0 (fun k => k < B) v r) : LayAt w0 B v r := by
  induction h with
  | cls h1 h2 h3 h4 h5 => exact lay_cls h1 h2 h3 h4 h5
  | @many p kind sv vs rs r h1 h2 h3 h4 h5 _ h7 ih =>
    rcases h3.2 with ⟨rfl, h0⟩ | ⟨g, cap, cur, rfl, hg, hh, hc⟩
    · obtain rfl := List.eq_nil_of_length_eq_zero h0
      obtain rfl := List.eq_nil_of_length_eq_zero (h5.symm.trans h0)
      rcases h7 with ⟨rfl, rfl⟩ | ⟨_, r0, rs', e, _⟩ | ⟨_, q, e, _⟩ | ⟨_, q, e, _⟩ | ⟨_, q, e, _⟩
      · exact lay_cat_nil h1 h2
      · cases e
      · cases e
      · cases e
      · cases e
    · have hk : Kids w0 B p kind g cap vs rs := ⟨h1, h2, h3, h4 g rfl, h5, ih⟩
      rcases h7 with ⟨rfl, rfl⟩ | ⟨rfl, r0, rs', rfl, rfl⟩ | ⟨rfl, q, rfl, rfl⟩ | ⟨rfl, q, rfl, rfl⟩ | ⟨rfl, q, rfl, rfl⟩
      · exact lay_cat hk hk.small
      · exact lay_alt hk hk.small
      · obtain ⟨v0, rfl⟩ : ∃ v0, vs = [v0] := List.length_eq_one_iff.1 h5
        exact lay_loop hk (.inl rfl)
      · obtain ⟨v0, rfl⟩ : ∃ v0, vs = [v0] := List.length_eq_one_iff.1 h5
        exact lay_loop hk (.inr rfl)
      · obtain ⟨v0, rfl⟩ : ∃ v0, vs = [v0] := List.length_eq_one_iff.1 h5
        exact lay_opt hk
end Go.Proofs.YtgncgdkpkkdaeaaGreatDoor.Ref

namespace Go.Proofs.YtgncgdkpkkdaeaaGreatDoor.Ref
open Go.RowKit Tint

/-- The plan of a pattern: its spots, of which the first is its end. -/
structure PlanIs (w : World) (B P : Nat) (ls : List (Value × Sp)) (first : Nat) (r : Re) : Prop where
  plan : PlanAt w B P ls first
  fin : ∃ v, ls[0]? = some (v, ⟨none, none, none⟩)
  lt : first < ls.length
  links : ∀ l ∈ ls, Linked ls.length l.2
  laid : Laid (ls.map (·.2)) r 0 first
  small : ls.length ≤ 300

def PatternPost (s : List UInt8) (w : World) (e : Ending) (w' : World) : Prop :=
  Below w.heap.size w w' ∧ ((e = .returned (.pointer none) ∧ (PAlt s none ∨ ∃ r s', s' ≠ [] ∧ PAlt s (some (r, s')))) ∨
    ∃ P B ls first r, e = .returned (.pointer (some ⟨P, 0, none⟩)) ∧ PAlt s (some (r, [])) ∧ w.heap.size ≤ B ∧ PlanIs w' B P ls first r)

theorem plan_start {w : World} {B : Nat} (hB : B = w.heap.size) : PlanAt ((w.alloc (.cells #[.slice none 0 0, .int .i64 (-1), .int .i64 (-1)] 203)).alloc (.cells #[.slice (some ⟨w.heap.size, 0, none⟩) 1 1, .int .i64 0] 206)) B (w.heap.size + 1) [(.slice none 0 0, ⟨none, none, none⟩)] 0 := by
  refine ⟨⟨.slice (some ⟨w.heap.size, 0, none⟩) 1 1, ?_, ⟨rfl, .inr ⟨w.heap.size, 1, #[.slice none 0 0, .int .i64 (-1), .int .i64 (-1)], rfl, by omega, heap_alloc_old (heap_alloc_last w _), Nat.le_refl _, by unfold maxLen; omega, rfl, rfl⟩⟩⟩, ?_, by omega⟩
  · have := heap_alloc_last (w.alloc (.cells #[.slice none 0 0, .int .i64 (-1), .int .i64 (-1)] 203)) (.cells #[.slice (some ⟨w.heap.size, 0, none⟩) 1 1, .int .i64 0] 206)
    have hs : (w.alloc (.cells #[.slice none 0 0, .int .i64 (-1), .int .i64 (-1)] 203)).heap.size = w.heap.size + 1 := by simp
    rw [hs] at this
    exact this
  · intro l hl
    rw [List.mem_singleton.1 hl]
    rfl

theorem plan_first {w : World} {B P : Nat} {ls : List (Value × Sp)} {f0 : Int} (h : PlanAt w B P ls f0) (first : Int) : PlanAt (w.setCell ⟨P, 1, none⟩ (.int .i64 first)) B P ls first ∧ Below B w (w.setCell ⟨P, 1, none⟩ (.int .i64 first)) := by
  obtain ⟨sv, h1, h2⟩ := h.ex
  have hb : Below B w (w.setCell ⟨P, 1, none⟩ (.int .i64 first)) := (Below.refl B w).setCell h.hP _
  refine ⟨⟨⟨sv, heap_setCell_same w P 1 _ h1, ownsRow_keep h2 (fun k e => Below.heap_setCell _ _ _ _ ?_)⟩, fun l hl => (h.ons l hl).below hb, h.hP⟩, hb⟩
  rintro rfl
  exact PlanAt.row h1 h2 e

theorem plan_done {w w' : World} {B P a : Nat} {gs : List (Value × Sp)} {r : Re} (hr : r.spots ≤ 200) (h : LayIs B P [(.slice none 0 0, ⟨none, none, none⟩)] 0 r 0 w gs a w') : PlanIs (w'.setCell ⟨P, 1, none⟩ (.int .i64 a)) B P ((.slice none 0 0, ⟨none, none, none⟩) :: gs) a r := by
  have hl := h.len
  refine ⟨(plan_first h.plan a).1, ⟨_, rfl⟩, by have := h.lt; simpa [Nat.add_comm] using this, fun l hm => ?_, h.laid _ fun i l hi => ?_, by simp only [List.length_cons]; omega⟩
  · rcases List.mem_cons.1 hm with rfl | hm
    · exact ⟨(fun k e => by cases e), (fun k e => by cases e), .inl rfl⟩
    · have := h.links l hm
      simpa [Nat.add_comm] using this
  · rw [List.getElem?_map, show [((.slice none 0 0 : Value), (⟨none, none, none⟩ : Sp))].length + i = i + 1 from Nat.add_comm _ _, List.getElem?_cons_succ, hi]
    rfl

set_option maxRecDepth 20000 in
set_option maxHeartbeats 1000000 in
theorem pattern_any (S : ByteArray) (w : World) (h60 : S.size ≤ 60) : Calls Tryz.prog 74 #[.string S] w (PatternPost S.data.toList w) := by
  have H0 := hide (show ScanAt (w.alloc (.cells #[.string S, .int .i64 0, .bool false] 198)) w.heap.size S 0 false from heap_alloc_last _ _)
  have HBW := hide (show Below w.heap.size w (w.alloc (.cells #[.string S, .int .i64 0, .bool false] 198)) from (Below.refl _ _).alloc (Nat.le_refl _) _)
  go_enter Tryz.func74, Tryz.ntmps74
  go_wp2_with fail
  obtain ⟨X, hX⟩ : ∃ X, X = w.heap.size := ⟨_, rfl⟩
  rw [← hX] at H0 ⊢
  have HX := hide hX
  clear hX
  generalize w.alloc (.cells #[.string S, .int .i64 0, .bool false] 198) = w1 at *
  refine (alt_all (S.size + 1) X S 0 w1 H0.out h60 (Nat.zero_le _) (by omega)).mono ?_
  rintro e w2 ⟨v, a1, bad, rfl, hap, hsc, ⟨p, rfl⟩, ⟨rfl, ha1, r, hP, hN⟩ | ⟨rfl, hb, hP⟩⟩
  · have HB2 := hide (HBW.out.trans (hap.below (B := w.heap.size) (Nat.le_trans HBW.out.size (Nat.le_refl _)) (by rw [HX.out]; exact Nat.le_refl _)))
    have H2 := hide hsc
    have HP := hide hP
    have HN := hide (hN.bound.mono (K' := fun k => k < w2.heap.size) (fun k hk => hk.2))
    clear hap hsc hP hN
    obtain ⟨c0, c1, c2, f1, f2⟩ := H2.out.cells
    have hz : rest S 0 = S.data.toList := by simp [rest]
    rw [hz] at HP
    clear hz
    by_cases hend : a1 = S.size
    · have q1 : ((a1 : Int) != (S.size : Int)) = false := by rw [hend]; simp
      have hnil : rest S a1 = [] := rest_nil (by omega)
      rw [hnil] at HP
      have hsp : r.spots ≤ 200 := by
        have h1 := (PAlt.size HP.out _ _ rfl).1
        have h2 := Re.spots_le r
        have h3 : S.data.toList.length = S.size := rfl
        rw [h3] at h1
        simp only [List.length_nil] at h1
        omega
      have HSP := hide hsp
      have HPL := hide (plan_start (w := w2) rfl)
      have HB3 := hide (show Below w2.heap.size w2 ((w2.alloc (.cells #[.slice none 0 0, .int .i64 (-1), .int .i64 (-1)] 203)).alloc (.cells #[.slice (some ⟨w2.heap.size, 0, none⟩) 1 1, .int .i64 0] 206)) from ((Below.refl _ _).alloc (Nat.le_refl _) _).alloc (by simp) _)
      clear hnil hend hsp
      go_wp2_with fail
      refine (lay_any HN.out (w2.heap.size + 1) [(.slice none 0 0, ⟨none, none, none⟩)] 0 0 _ HB3.out HB3.out.size HPL.out (by simp) (by have := HSP.out; simp only [List.length_cons, List.length_nil]; omega)).mono ?_
      rintro e w4 ⟨gs, a, rfl, hl⟩
      obtain ⟨g2, cap2, m1, m2, m3, m4, m5, m6⟩ := hl.plan.mem (by simp)
      have HEND := hide (show PatternPost S.data.toList w (.returned (.pointer (some ⟨w2.heap.size + 1, 0, none⟩))) (w4.setCell ⟨w2.heap.size + 1, 1, none⟩ (.int .i64 (a : Nat))) from
        ⟨HB2.out.trans ((HB3.out.trans (hl.below.trans (plan_first hl.plan a).2)).mono HB2.out.size), .inr ⟨_, w2.heap.size, _, a, r, rfl, HP.out, HB2.out.size, plan_done HSP.out hl⟩⟩)
      clear hl m1 m4 m5 m6 HPL HB3 HN
      go_wp2_with fail
      go_ret
      exact HEND.out
    · have q1 : ((a1 : Int) != (S.size : Int)) = true := by rw [bne_iff_ne]; omega
      have HE := hide (show rest S a1 ≠ [] by
        intro e
        have := rest_len S a1
        rw [e] at this
        simp only [List.length_nil] at this
        omega)
      go_wp2_with fail
      go_ret
      exact ⟨HB2.out, .inl ⟨rfl, .inr ⟨r, _, HE.out, HP.out⟩⟩⟩
  · have HB2 := hide (HBW.out.trans (hap.below (B := w.heap.size) (Nat.le_trans HBW.out.size (Nat.le_refl _)) (by rw [HX.out]; exact Nat.le_refl _)))
    have H2 := hide hsc
    have HP := hide hP
    have hz : rest S 0 = S.data.toList := by simp [rest]
    rw [hz] at HP
    clear hap hsc hP hz
    obtain ⟨c0, c1, c2, f1, f2⟩ := H2.out.cells
    go_wp2_with fail
    go_ret
    exact ⟨HB2.out, .inl ⟨rfl, .inl HP.out⟩⟩
end Go.Proofs.YtgncgdkpkkdaeaaGreatDoor.Ref


/- A cell of an inner row is written; plans of patterns stand by their grammar. -/
namespace Go.Proofs.YtgncgdkpkkdaeaaGreatDoor
open Go.RowKit Tint

theorem flatten_set {si : Nat} {rs : List (List Value)} (hs : ∀ r ∈ rs, r.length = si) {j o : Nat} {r : List Value} (h : rs[j]? = some r) (ho : o < si) (u : Value) : (rs.set j (r.set o u)).flatten = rs.flatten.set (j * si + o) u := by
  induction rs generalizing j with
  | nil => simp at h
  | cons a l ih =>
    have ha := hs a (by simp)
    cases j with
    | zero =>
      simp only [List.getElem?_cons_zero, Option.some.injEq] at h
      subst h
      simp only [List.set_cons_zero, List.flatten_cons, Nat.zero_mul, Nat.zero_add]
      rw [List.set_append_left _ _ (by omega)]
    | succ j =>
      simp only [List.getElem?_cons_succ] at h
      simp only [List.set_cons_succ, List.flatten_cons]
      rw [List.set_append_right _ _ (by rw [ha, Nat.succ_mul]; omega), ih (fun x hx => hs x (List.mem_cons_of_mem _ hx)) h]
      congr 2
      rw [ha, Nat.succ_mul]; omega

theorem flatMap_same {els : List El} {i : Nat} {x y : El} (h : els[i]? = some x) (hc : y.cells = x.cells) : (els.set i y).flatMap El.cells = els.flatMap El.cells := by
  induction els generalizing i with
  | nil => simp
  | cons a l ih =>
    cases i with
    | zero =>
      simp only [List.getElem?_cons_zero, Option.some.injEq] at h
      subst h
      simp [hc]
    | succ i =>
      simp only [List.getElem?_cons_succ] at h
      simp only [List.set_cons_succ, List.flatMap_cons, ih h]

/-- A cell of an element's row is written. -/
theorem Nest.setIn {w : World} {B : Nat} {to ti : TypeId} {so si : Nat} {sv : Value} {els : List El} (h : Nest w B to ti so si sv els) (hti : to ≠ ti) {i : Nat} {x : El} (hi : els[i]? = some x) {g n cap : Nat} (hv : x.rv = .slice (some ⟨g, 0, none⟩) n cap) {j o : Nat} {r : List Value} (hj : x.rs[j]? = some r) (ho : o < si) (u : Value) :
    Nest (w.setCell ⟨g, j * si + o, none⟩ u) B to ti so si sv (els.set i { x with rs := x.rs.set j (r.set o u) }) := by
  have hxm := List.mem_of_getElem? hi
  have hil := get_lt hi
  have hsz := h.sized x hxm
  have hin := h.inner x hxm
  have hset : ∀ k, k ≠ g → (w.setCell ⟨g, j * si + o, none⟩ u).heap[k]? = w.heap[k]? := fun k e => Below.heap_setCell _ _ _ _ e
  have hn : n = x.rs.length := by
    rw [hv] at hin
    rcases hin.2 with ⟨h0, _⟩ | ⟨g', cap', cur, e1, _⟩
    · cases h0
    · cases e1; rfl
  subst hn
  have hgo : ∀ k, sv.ownBlock = some k → k ≠ g := fun k e => by
    rintro rfl
    obtain ⟨_, cur, hc⟩ := row_type h.outer e
    obtain ⟨_, cur', hc'⟩ := row_type (k := k) hin (by rw [hv]; rfl)
    rw [hc] at hc'
    simp only [Option.some.injEq, Obj.cells.injEq] at hc'
    exact hti hc'.2.1
  refine ⟨?_, fun y hy => ?_, fun a b p q k ha hb hab hk hk' => ?_, fun y hy => ?_⟩
  · rw [flatMap_same (y := { x with rs := x.rs.set j (r.set o u) }) hi rfl, List.length_set]
    exact row_keep h.outer fun k e => hset k (hgo k e)
  · obtain ⟨m, hm⟩ := List.getElem?_of_mem hy
    by_cases hmi : m = i
    · subst hmi
      rw [List.getElem?_set_self (by simpa using hil)] at hm
      cases hm
      simp only [List.length_set]
      rw [flatten_set hsz.2 hj ho]
      rw [hv] at hin ⊢
      exact row_set hin u
    · rw [List.getElem?_set_ne (Ne.symm hmi)] at hm
      refine row_keep (h.inner y (List.mem_of_getElem? hm)) fun k e => hset k ?_
      rintro rfl
      exact h.apart m i y x k hm hi hmi e (by rw [hv]; rfl)
  · have key : ∀ (c : Nat) z, (els.set i { x with rs := x.rs.set j (r.set o u) })[c]? = some z → ∃ z', els[c]? = some z' ∧ z'.rv = z.rv := fun c z hc => by
      by_cases hci : c = i
      · subst hci
        rw [List.getElem?_set_self (by simpa using hil)] at hc
        cases hc
        exact ⟨x, hi, rfl⟩
      · rw [List.getElem?_set_ne (Ne.symm hci)] at hc
        exact ⟨z, hc, rfl⟩
    obtain ⟨p', hp, ep⟩ := key a p ha
    obtain ⟨q', hq, eq⟩ := key b q hb
    rw [← ep] at hk
    rw [← eq] at hk'
    exact h.apart a b p' q' k hp hq hab hk hk'
  · obtain ⟨m, hm⟩ := List.getElem?_of_mem hy
    by_cases hmi : m = i
    · subst hmi
      rw [List.getElem?_set_self (by simpa using hil)] at hm
      cases hm
      refine ⟨hsz.1, fun r' hr' => ?_⟩
      obtain ⟨m', hm'⟩ := List.getElem?_of_mem hr'
      by_cases he : m' = j
      · subst he
        rw [List.getElem?_set_self (by simpa using get_lt hj)] at hm'
        cases hm'
        rw [List.length_set]
        exact hsz.2 r (List.mem_of_getElem? hj)
      · rw [List.getElem?_set_ne (Ne.symm he)] at hm'
        exact hsz.2 r' (List.mem_of_getElem? hm')
    · rw [List.getElem?_set_ne (Ne.symm hmi)] at hm
      exact h.sized y (List.mem_of_getElem? hm)

/-- The rule at (i, j) gets a plan. -/
def setN (ss : List RSt) (i j : Nat) (s : RSt) (r : RRl) (v : Value) : List RSt := ss.set i { s with rs := s.rs.set j { r with n := v } }

theorem set_self {α : Type} {l : List α} {i : Nat} {a : α} (h : l[i]? = some a) : l.set i a = l := by
  have hl := get_lt h
  rw [List.getElem?_eq_getElem hl] at h
  rw [← Option.some.inj h]
  exact List.set_getElem_self hl

theorem flat_setN {ss : List RSt} {i j : Nat} {s : RSt} {r : RRl} {v : Value} (hi : ss[i]? = some s) (hj : s.rs[j]? = some r) : flat (setN ss i j s r v) = flat ss := by
  have e : ({ s with rs := s.rs.set j { r with n := v } } : RSt).lns = s.lns := by
    unfold RSt.lns
    simp only [List.map_set]
    rw [show RRl.ln { r with n := v } = r.ln from rfl, set_self (by rw [List.getElem?_map, hj]; rfl)]
  have e2 : flat (setN ss i j s r v) = ((ss.map RSt.lns).set i s.lns).flatten := by
    rw [flat, List.flatMap_def, setN, List.map_set, e]
  rw [e2, set_self (by rw [List.getElem?_map, hi]; rfl), flat, List.flatMap_def]

theorem Grm.setN {w : World} {B P : Nat} {sv : Value} {ss : List RSt} (h : Grm w B P sv ss) {i j : Nat} {s : RSt} {r : RRl} (hi : ss[i]? = some s) (hj : s.rs[j]? = some r) {g n cap : Nat} (hv : s.rv = .slice (some ⟨g, 0, none⟩) n cap) (u : Value) :
    Grm (w.setCell ⟨g, j * 6 + 4, none⟩ u) B P sv (setN ss i j s r u) ∧ Below B w (w.setCell ⟨g, j * 6 + 4, none⟩ u) := by
  have hie : (ss.map RSt.el)[i]? = some s.el := by rw [List.getElem?_map, hi]; rfl
  have hgr := h.row (k := g) (.inr ⟨s.el, List.mem_of_getElem? hie, by show s.rv.ownBlock = _; rw [hv]; rfl⟩)
  refine ⟨⟨?_, ?_, fun t ht q hq => ?_, h.hP⟩, (Below.refl B w).setCell hgr.1 _⟩
  · rw [Below.heap_setCell _ _ _ _ (fun e => hgr.2 (Eq.symm e))]; exact h.top
  · have := h.nest.setIn (by decide) hie (g := g) (n := n) (cap := cap) hv (j := j) (o := 4) (r := r.cells) (by rw [show s.el.rs = s.rs.map RRl.cells from rfl, List.getElem?_map, hj]; rfl) (by omega) u
    have e : (Go.Proofs.YtgncgdkpkkdaeaaGreatDoor.setN ss i j s r u).map RSt.el = (ss.map RSt.el).set i { s.el with rs := s.el.rs.set j (r.cells.set 4 u) } := by
      rw [Go.Proofs.YtgncgdkpkkdaeaaGreatDoor.setN, List.map_set]
      simp [RSt.el, RRl.cells]
    rw [e]
    exact this
  · obtain ⟨m, hm⟩ := List.getElem?_of_mem ht
    by_cases hmi : m = i
    · subst hmi
      rw [Go.Proofs.YtgncgdkpkkdaeaaGreatDoor.setN, List.getElem?_set_self (by simpa using get_lt hi)] at hm
      cases hm
      obtain ⟨m', hm'⟩ := List.getElem?_of_mem hq
      by_cases he : m' = j
      · subst he
        rw [List.getElem?_set_self (by simpa using get_lt hj)] at hm'
        cases hm'
        exact h.words s (List.mem_of_getElem? hi) r (List.mem_of_getElem? hj)
      · rw [List.getElem?_set_ne (Ne.symm he)] at hm'
        exact h.words s (List.mem_of_getElem? hi) q (List.mem_of_getElem? hm')
    · rw [Go.Proofs.YtgncgdkpkkdaeaaGreatDoor.setN, List.getElem?_set_ne (Ne.symm hmi)] at hm
      exact h.words t (List.mem_of_getElem? hm) q hq

theorem PlanIs.keep {w w' : World} {B P : Nat} {ls : List (Value × Sp)} {first : Nat} {r : Re} (h : Ref.PlanIs w B P ls first r) (hk : ∀ (k : Nat) c t, (t = 206 ∨ t = 203 ∨ t = 4) → w.heap[k]? = some (.cells c t (0, 0)) → w'.heap[k]? = some (.cells c t (0, 0))) : Ref.PlanIs w' B P ls first r := by
  obtain ⟨⟨⟨sv, h1, h2⟩, h3, h4⟩, h5, h6, h7, h8, h9⟩ := h
  refine ⟨⟨⟨sv, hk _ _ _ (.inl rfl) h1, row_keep h2 fun k e => ?_⟩, fun l hl => ?_, h4⟩, h5, h6, h7, h8, h9⟩
  · obtain ⟨_, cur, hc⟩ := row_type h2 e
    rw [hc]; exact hk _ _ _ (.inr (.inl rfl)) hc
  · have := h3 l hl
    cases ho : l.2.on with
    | none => rw [ho] at this; exact this
    | some c =>
      rw [ho] at this
      obtain ⟨A, on, a1, a2, a3, a4⟩ := this
      exact ⟨A, on, a1, a2, ⟨hk _ _ _ (.inr (.inr rfl)) a3.1, a3.2⟩, a4⟩

/-- The rule's pattern has been read, and its plan stands by it. -/
def HasPlan (w : World) (r : RRl) : Prop := ∃ P B ls first re, r.n = .pointer (some ⟨P, 0, none⟩) ∧ PAlt r.p.data.toList (some (re, [])) ∧ Ref.PlanIs w B P ls first re ∧ B ≤ w.heap.size

theorem HasPlan.keep {w w' : World} {r : RRl} (h : HasPlan w r) (hs : w.heap.size ≤ w'.heap.size) (hk : ∀ (k : Nat) c t, (t = 206 ∨ t = 203 ∨ t = 4) → w.heap[k]? = some (.cells c t (0, 0)) → w'.heap[k]? = some (.cells c t (0, 0))) : HasPlan w' r := by
  obtain ⟨P, B, ls, first, re, h1, h2, h3, h4⟩ := h
  exact ⟨P, B, ls, first, re, h1, h2, PlanIs.keep h3 hk, Nat.le_trans h4 hs⟩

theorem HasPlan.below {w w' : World} {r : RRl} (h : HasPlan w r) (hb : Below w.heap.size w w') : HasPlan w' r :=
  h.keep hb.size fun k _ _ _ hh => (hb.block k (lt_of_get hh)).trans hh
end Go.Proofs.YtgncgdkpkkdaeaaGreatDoor
