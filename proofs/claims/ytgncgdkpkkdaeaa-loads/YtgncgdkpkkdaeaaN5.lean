/- tintref: the lines of a grammar, read. -/
import Derived.Test.YtgncgdkpkkdaeaaN4
namespace Go.Proofs.Ytgncgdkpkkdaeaa
open Go.RowKit Tint

theorem lineOf_state {l x : List UInt8} (h : l = [115, 116, 97, 116, 101, 32] ++ x) : lineOf l = if isName x = true then some (.state x) else none := by
  have e : l = wState ++ 32 :: x := h
  have hn : (32 : UInt8) ∉ wState := by decide
  have hl : l ≠ [] := by rw [e]; simp
  unfold lineOf
  rw [if_neg hl, e, cutAt_hit x hn]
  simp [wordLn]

theorem lineOf_rule {l : List UInt8} (h : ∀ x, x ≠ [] → l ≠ [115, 116, 97, 116, 101, 32] ++ x) (hl : l ≠ []) : lineOf l = ruleLnOf l := by
  unfold lineOf ruleLnOf
  rw [if_neg hl]
  rcases cutAt_cases 32 l with ⟨a, b, e, hn, hc⟩ | ⟨hn, hc⟩
  · rw [hc]
    simp only [wordLn]
    by_cases ha : a = wState
    · have hb : b = [] := Classical.byContradiction fun hb => h b hb (by rw [e, ha]; rfl)
      rw [if_pos ha, hb]
      have h1 : isName [] = false := rfl
      have h2 : a ≠ wToken := by rw [ha]; decide
      have h3 : a ≠ wPop := by rw [ha]; decide
      have h4 : a ≠ wPush := by rw [ha]; decide
      rw [if_neg (by rw [h1]; simp), if_neg h2, if_neg h3, if_neg h4]
    · rw [if_neg ha]
  · rw [hc]

theorem any_filter (acc : Lns) : acc.any (·.2.isState) = (acc.filter (·.2.nb)).any (·.2.isState) := by
  rw [List.any_filter]
  congr 1
  funext x
  obtain ⟨a, x⟩ := x
  cases x <;> rfl

theorem any_state {ss : List RSt} {acc : Lns} (h : flat ss = acc.filter (·.2.nb)) : acc.any (·.2.isState) = false ↔ ss = [] := by
  rw [any_filter, ← h]
  cases ss with
  | nil => simp [flat]
  | cons s t => simp [flat, RSt.lns, Ln.isState]

theorem flat_snoc (ss : List RSt) (s : RSt) : flat (ss ++ [s]) = flat ss ++ s.lns := by simp [flat]

theorem flat_grow (ss : List RSt) (s : RSt) (r : RRl) (v : Value) : flat (ss ++ [{ s with rv := v, rs := s.rs ++ [r] }]) = flat (ss ++ [s]) ++ [r.ln] := by
  simp [flat, RSt.lns]

theorem info_state : (Try.prog.info? 50).map (fun i => (i.zero, i.size, i.bytes)) = some (some (.agg #[.string ⟨#[]⟩, .slice none 0 0, .int .i64 0]), 3, 48) := by kernel_rfl
theorem info_rule : (Try.prog.info? 55).map (fun i => (i.zero, i.size, i.bytes)) = some (some (.agg #[.string ⟨#[]⟩, .string ⟨#[]⟩, .string ⟨#[]⟩, .string ⟨#[]⟩, .pointer none, .int .i64 0]), 6, 80) := by kernel_rfl

theorem Grm.row {w : World} {B P : Nat} {sv : Value} {ss : List RSt} (h : Grm w B P sv ss) {k : Nat} (hk : sv.ownBlock = some k ∨ ∃ x ∈ ss.map RSt.el, x.rv.ownBlock = some k) : B ≤ k ∧ k ≠ P := by
  obtain ⟨h1, cur, t, h2, h3⟩ := h.nest.block hk
  refine ⟨h1, ?_⟩
  rintro rfl
  rw [h.top] at h2
  simp only [Option.some.injEq, Obj.cells.injEq] at h2
  rcases h3 with rfl | rfl
  · exact absurd h2.2.1 (by decide)
  · exact absurd h2.2.1 (by decide)

theorem below_grown {B : Nat} {W w3 : World} {row : Option Nat} (hB : B ≤ W.heap.size) (hg : W.grownBy w3 row) (hr : ∀ k, row = some k → B ≤ k) : Below B W w3 :=
  ⟨hg.os, hg.tape, hg.output, hg.size, fun k hk => hg.block k (Nat.lt_of_lt_of_le hk hB) (fun e => by have := hr k e.symm; omega)⟩

/-- One more state. -/
theorem Grm.push {W w3 : World} {B P : Nat} {sv v' : Value} {ss : List RSt} {name : ByteArray} {at_ : Nat} (hG : Grm W B P sv ss) (hB : B ≤ W.heap.size)
    (hown : w3.ownsRow B 50 3 v' (ss.length + 1) ((ss.map RSt.el).flatMap El.cells ++ [.string name, .slice none 0 0, .int .i64 at_])) (hg : W.grownBy w3 sv.ownBlock) :
    Grm (w3.setCell ⟨P, 0, none⟩ v') B P v' (ss ++ [⟨name, .slice none 0 0, at_, []⟩]) ∧ Below B W (w3.setCell ⟨P, 0, none⟩ v') ∧ w3.heap[P]? = some (.cells #[sv] 43 (0, 0)) := by
  have h3 : w3.heap[P]? = some (.cells #[sv] 43 (0, 0)) := (hg.block P (lt_of_get hG.top) (fun e => (hG.row (.inl e.symm)).2 rfl)).trans hG.top
  have hN : Nest w3 B 50 55 3 6 v' ((ss ++ [(⟨name, .slice none 0 0, at_, []⟩ : RSt)]).map RSt.el) := by
    rw [List.map_append]
    exact hG.nest.push (by decide) rfl rfl rfl (by rw [List.length_map]; exact hown) hg
  have hb : Below B W w3 := below_grown hB hg (fun k e => (hG.row (.inl e)).1)
  refine ⟨⟨heap_setCell_same w3 P 0 _ h3, hN.other fun k c t ht hh => ?_, fun s hs r hr => ?_, hG.hP⟩, hb.setCell hG.hP _, h3⟩
  · rw [Below.heap_setCell _ _ _ _ (fun e => by
      have e : k = P := e
      rw [e, h3] at hh
      simp only [Option.some.injEq, Obj.cells.injEq] at hh
      rcases ht with rfl | rfl
      · exact absurd hh.2.1 (by decide)
      · exact absurd hh.2.1 (by decide))]
    exact hh
  · rcases List.mem_append.1 hs with h | h
    · exact hG.words s h r hr
    · rw [List.mem_singleton.1 h] at hr; simp at hr

/-- One more rule of the last state. -/
theorem Grm.grow {W w3 : World} {B P g n cap : Nat} {v' : Value} {ss : List RSt} {s : RSt} {r : RRl} (hG : Grm W B P (.slice (some ⟨g, 0, none⟩) n cap) (ss ++ [s])) (hB : B ≤ W.heap.size) (hr : r.d ≤ 2 ∧ r.a.data.toList = ruleWord r.d)
    (hown : w3.ownsRow B 55 6 v' (s.rs.length + 1) ((s.rs.map RRl.cells).flatten ++ r.cells)) (hg : W.grownBy w3 s.rv.ownBlock) (hnew : v'.ownBlock = s.rv.ownBlock ∨ v'.ownBlock = some W.heap.size) :
    Grm (w3.setCell ⟨g, ss.length * 3 + 1, none⟩ v') B P (.slice (some ⟨g, 0, none⟩) n cap) (ss ++ [{ s with rv := v', rs := s.rs ++ [r] }]) ∧ Below B W (w3.setCell ⟨g, ss.length * 3 + 1, none⟩ v') ∧ w3.cell? ⟨P, 0, none⟩ = some (.slice (some ⟨g, 0, none⟩) n cap) ∧ w3.cell? ⟨g, ss.length * 3 + 1, none⟩ = some s.rv ∧ w3.frozen? ⟨g, ss.length * 3 + 1, none⟩ = false := by
  have hi : (ss ++ [s])[ss.length]? = some s := by simp
  have hie : ((ss ++ [s]).map RSt.el)[ss.length]? = some s.el := by rw [List.getElem?_map, hi]; rfl
  have hm : s.el ∈ (ss ++ [s]).map RSt.el := List.mem_of_getElem? hie
  have hgr : B ≤ g ∧ g ≠ P := hG.row (k := g) (.inl rfl)
  have h3 : w3.heap[P]? = some (.cells #[.slice (some ⟨g, 0, none⟩) n cap] 43 (0, 0)) := (hg.block P (lt_of_get hG.top) (fun e => (hG.row (.inr ⟨s.el, hm, e.symm⟩)).2 rfl)).trans hG.top
  have hN := hG.nest.grow (w' := w3) (v' := v') (r := r.cells) (by decide) hie rfl (by rw [show s.el.rs.length = s.rs.length from List.length_map ..]; exact hown) hg hnew
  have hb : Below B W w3 := below_grown hB hg (fun k e => (hG.row (.inr ⟨s.el, hm, e⟩)).1)
  have hgne : some g ≠ s.rv.ownBlock := fun e => by
    obtain ⟨_, c1, h1⟩ := row_type (hG.nest.inner _ hm) e.symm
    obtain ⟨_, c2, h2⟩ := row_type (k := g) hG.nest.outer rfl
    rw [h1] at h2
    simp only [Option.some.injEq, Obj.cells.injEq] at h2
    exact absurd h2.2.1 (by decide)
  have hgl : g < W.heap.size := by
    obtain ⟨_, c2, h2⟩ := row_type (k := g) hG.nest.outer rfl
    exact lt_of_get h2
  obtain ⟨-, a1, -, a2⟩ := hG.at hi
  have e1 : (ss ++ [s]).set ss.length { s with rv := v', rs := s.rs ++ [r] } = ss ++ [{ s with rv := v', rs := s.rs ++ [r] }] := by simp
  refine ⟨⟨?_, ?_, fun t ht q hq => ?_, hG.hP⟩, hb.setCell hgr.1 _, by simp [World.cell?, h3], ?_, ?_⟩
  · rw [Below.heap_setCell _ _ _ _ (fun e => hgr.2 (Eq.symm e))]; exact h3
  · have e2 : ((ss ++ [{ s with rv := v', rs := s.rs ++ [r] }]).map RSt.el) = ((ss ++ [s]).map RSt.el).set ss.length { s.el with rv := v', rs := s.el.rs ++ [r.cells] } := by
      rw [← e1, List.map_set]
      simp [RSt.el]
    rw [e2]
    exact hN
  · rcases List.mem_append.1 ht with h | h
    · exact hG.words t (List.mem_append_left _ h) q hq
    · rw [List.mem_singleton.1 h] at hq
      rcases List.mem_append.1 hq with h' | h'
      · exact hG.words s (by simp) q h'
      · rw [List.mem_singleton.1 h']; exact hr
  · rw [World.cell?_of_block (w := W) (hg.block g hgl hgne)]; exact a1
  · rw [World.frozen?_of_block (w := W) (hg.block g hgl hgne)]; exact a2

def ReadPost (B P : Nat) (s : List UInt8) (w : World) (e : Ending) (w' : World) : Prop :=
  Below B w w' ∧ ((∃ a : Nat, e = .returned (.int .i64 a) ∧ rd 0 [] s = .inl a) ∨
    (e = .returned (.int .i64 (-1)) ∧ ∃ (acc : Lns) (sv : Value) (ss : List RSt), rd 0 [] s = .inr acc ∧ Grm w' B P sv ss ∧ flat ss = acc.filter (·.2.nb) ∧ ss.length ≤ s.length ∧ ∀ t ∈ ss, t.rs.length ≤ s.length))

structure ReadAt (B P : Nat) (s : ByteArray) (w : World) (a i : Nat) (acc : Lns) (sv : Value) (ss : List RSt) (wr : World) : Prop where
  le : a ≤ i
  li : i ≤ s.size
  nt : ∀ m, a ≤ m → m < i → s.data.toList[m]? ≠ some 10
  run : rd 0 [] s.data.toList = rd a acc (rest s a)
  grm : Grm wr B P sv ss
  flt : flat ss = acc.filter (·.2.nb)
  below : Below B w wr
  few : ss.length ≤ a
  few2 : ∀ t ∈ ss, t.rs.length ≤ a

def ReadLoop (B P : Nat) (s : ByteArray) (w : World) (k : Nat) (va vi : Value) (wr : World) : Prop :=
  ∃ (a i : Nat) (acc : Lns) (sv : Value) (ss : List RSt), va = .int .i64 a ∧ vi = .int .i64 i ∧ i + k = s.size ∧ ReadAt B P s w a i acc sv ss wr

theorem line_split {l : ByteArray} {n : Nat} (hn : l.size ≤ n) : l.data.toList = (l.extract 0 6).data.toList ++ (l.extract 6 n).data.toList := by
  rw [extract_rest hn, ← extract_seg (Nat.zero_le 6)]
  simp [rest]

theorem row_new {w : World} {B : Nat} {e : TypeId} {size : Nat} {sv : Value} {n : Nat} {xs : List Value} (h : w.ownsRow B e size sv n xs) (o : Obj) : (w.alloc o).ownsRow B e size sv n xs :=
  row_keep h fun k hk => by obtain ⟨_, cur, hc⟩ := row_type h hk; exact Below.heap_alloc _ _ _ (lt_of_get hc)

theorem Grm.drew {w : World} {B P : Nat} {sv : Value} {ss : List RSt} (h : Grm w B P sv ss) : Grm w.drew B P sv ss := h.keep fun _ _ _ _ hh => hh

theorem Grm.outer {w : World} {B P : Nat} {sv : Value} {ss : List RSt} (h : Grm w B P sv ss) : w.ownsRow B 50 3 sv ss.length ((ss.map RSt.el).flatMap El.cells) := by
  have := h.nest.outer
  rwa [List.length_map] at this

theorem Grm.inner {w : World} {B P : Nat} {sv : Value} {ss : List RSt} (h : Grm w B P sv ss) {s : RSt} (hs : s ∈ ss) : w.ownsRow B 55 6 s.rv s.rs.length (s.rs.map RRl.cells).flatten := by
  have := h.nest.inner s.el (List.mem_map_of_mem hs)
  rwa [show s.el.rs.length = s.rs.length from List.length_map ..] at this

theorem ReadAt.push {B P : Nat} {s : ByteArray} {w wr w' : World} {a i : Nat} {acc : Lns} {sv v' : Value} {ss : List RSt} {nm : ByteArray} (h : ReadAt B P s w a i acc sv ss wr) (hlt : i < s.size) (hrs : rest s a = (s.extract a i).data.toList ++ 10 :: rest s (i + 1)) (hten : (10 : UInt8) ∉ (s.extract a i).data.toList) (hl : lineOf (s.extract a i).data.toList = some (.state nm.data.toList))
    (hz : (s.extract a i).size = i - a) (hG : Grm w' B P v' (ss ++ [⟨nm, .slice none 0 0, a, []⟩])) (hb : Below B wr w') : ReadAt B P s w (i + 1) (i + 1) (acc ++ [(a, .state nm.data.toList)]) v' (ss ++ [⟨nm, .slice none 0 0, a, []⟩]) w' := by
  have hle := h.le
  refine ⟨Nat.le_refl _, hlt, fun m h1 h2 => by omega, ?_, hG, ?_, h.below.trans hb, ?_, fun t ht => ?_⟩
  · rw [h.run, hrs, rd_step hten hl (by simp [Ln.isRule]), byte_length, hz, show a + (i - a) + 1 = i + 1 by omega]
  · rw [flat_snoc, h.flt, List.filter_append]
    rfl
  · have := h.few
    simp only [List.length_append, List.length_cons, List.length_nil]
    omega
  · rcases List.mem_append.1 ht with h1 | h1
    · have := h.few2 t h1; omega
    · rw [List.mem_singleton.1 h1]; exact Nat.zero_le _

theorem ReadAt.blank {B P : Nat} {s : ByteArray} {w wr : World} {a i : Nat} {acc : Lns} {sv : Value} {ss : List RSt} (h : ReadAt B P s w a i acc sv ss wr) (hlt : i < s.size) (hrs : rest s a = (s.extract a i).data.toList ++ 10 :: rest s (i + 1)) (hai : i = a) : ReadAt B P s w (i + 1) (i + 1) (acc ++ [(a, .blank)]) sv ss wr := by
  subst hai
  have e : (s.extract i i).data.toList = [] := by rw [extract_list]; simp
  rw [e] at hrs
  refine ⟨Nat.le_refl _, hlt, fun m h1 h2 => by omega, ?_, h.grm, ?_, h.below, by have := h.few; omega, fun t ht => by have := h.few2 t ht; omega⟩
  · rw [h.run, hrs, rd_step (by simp) (show lineOf [] = some .blank from rfl) (by simp [Ln.isRule])]
    simp
  · rw [h.flt, List.filter_append]
    simp [Ln.nb]

theorem ReadAt.grow {B P : Nat} {s : ByteArray} {w wr w' : World} {a i : Nat} {acc : Lns} {sv v' : Value} {ss : List RSt} {t : RSt} {r : RRl} (h : ReadAt B P s w a i acc sv (ss ++ [t]) wr) (hlt : i < s.size) (hrs : rest s a = (s.extract a i).data.toList ++ 10 :: rest s (i + 1)) (hten : (10 : UInt8) ∉ (s.extract a i).data.toList)
    (hl : lineOf (s.extract a i).data.toList = some r.ln.2) (ha : r.at_ = a) (hz : (s.extract a i).size = i - a) (hG : Grm w' B P sv (ss ++ [{ t with rv := v', rs := t.rs ++ [r] }])) (hb : Below B wr w') : ReadAt B P s w (i + 1) (i + 1) (acc ++ [r.ln]) sv (ss ++ [{ t with rv := v', rs := t.rs ++ [r] }]) w' := by
  have hle := h.le
  have hrl : r.ln = (a, r.ln.2) := by rw [← ha]; rfl
  refine ⟨Nat.le_refl _, hlt, fun m h1 h2 => by omega, ?_, hG, ?_, h.below.trans hb, ?_, fun q hq => ?_⟩
  · rw [h.run, hrs, rd_step hten hl (fun hx => by have := (any_state h.flt).1 hx.2; simp at this), byte_length, hz, show a + (i - a) + 1 = i + 1 by omega, hrl]
  · rw [flat_grow, h.flt, List.filter_append]
    rfl
  · have := h.few
    simp only [List.length_append, List.length_cons, List.length_nil] at this ⊢
    omega
  · rcases List.mem_append.1 hq with h1 | h1
    · have := h.few2 q (List.mem_append_left _ h1); omega
    · have := h.few2 t (by simp)
      rw [List.mem_singleton.1 h1]
      simp only [List.length_append, List.length_cons, List.length_nil]
      omega

theorem no_ten {s : ByteArray} {i j : Nat} (h : ∀ m, i ≤ m → m < j → s.data.toList[m]? ≠ some 10) : (10 : UInt8) ∉ (s.extract i j).data.toList := by
  intro hm
  rw [extract_list] at hm
  obtain ⟨k, hk⟩ := List.getElem?_of_mem hm
  have hl := get_lt hk
  rw [List.length_take] at hl
  rw [List.getElem?_take_of_lt (by omega), List.getElem?_drop] at hk
  exact h (i + k) (by omega) (by omega) hk

end Go.Proofs.Ytgncgdkpkkdaeaa
