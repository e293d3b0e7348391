/- add. -/
import Derived.Test.YtgncgdkpkkdaeaaDoorP6
import Derived.Deep.RegionWith
namespace Go.Proofs.YtgncgdkpkkdaeaaDoor
open Go.RowKit Tint

theorem step_append_own {P : Program} {ops : Array Oper} {o : Oper} {a : Act} {w : World} {K : Act → World → Prop} {Q : Exit → Act → World → Prop} {E : Prop}
    (hg : o.guard = none) (s x : Operand) (t : TypeId) (hop : o.op = Op.call { callee := Callee.builtin Builtin.append, args := #[s, x], argTypes := #[t, t] })
    (base : Nat) (e : TypeId) (i : TypeInfo) (z : Value) (size bytes : Nat) (h1 : P.underlying t = some (.slice e)) (h2 : P.info? e = some i) (h3 : i.zero = some z) (h4 : i.size = size) (h5 : i.bytes = bytes) (h6 : z.cells.size = size) (h7 : 0 < size)
    (v : Value) (n : Nat) (xs : List Value) (hs : a.eval s = v) (hown : w.ownsRow base e size v n xs)
    (ad : Addr) (m c : Nat) (news : List Value) (hx : a.eval x = .slice (some ad) m c) (hn : news.length = m * size) (hc : ∀ j u, news[j]? = some u → w.cell? (ad.add j) = some u) (h1c : ∀ u ∈ news, u.oneCell' = true)
    (b1 : n + m ≤ maxLen) (b2 : (n + m) * bytes ≤ 140737488355328) (hb : base ≤ w.heap.size)
    (hK : ∀ v' w', w'.ownsRow base e size v' (n + m) (xs ++ news) → w.grownBy w' v.ownBlock → K (a.put o.dst v') w') :
    if Region.wanted o (yielded ops a.tmps) = true then Oper.wp P o a w K Q else E := by
  have hw : Region.wanted o (yielded ops a.tmps) = true := by simp [Region.wanted, hg]
  rw [if_pos hw]
  exact wp_append_own w s x t hop base e i z size bytes h1 h2 h3 h4 h5 h6 h7 v n xs hs hown ad m c news hx hn hc h1c b1 b2 hb fun v' w' r1 r2 _ => hK v' w' r1 r2

theorem Lists.alloc {w : World} {B : Nat} {sv : Value} {ns : List (Nd Value)} (h : Lists w B sv ns) (o : Obj) : Lists (w.alloc o) B sv ns :=
  h.keep fun _ hk => Below.heap_alloc _ _ _ (lt_of_get (h.block hk).2.choose_spec)

theorem info_expr : (Tryd.prog.info? 84).map (fun i => (i.zero, i.size, i.bytes)) = some (some (.agg #[.int .i64 0, .nilFunc, .int .i64 0, .int .i64 0, .bool false]), 5, 40) := by kernel_rfl

theorem bcell {W w1 : World} (hb : Below W.heap.size W w1) : (∀ b o, b < W.heap.size → w1.cell? ⟨b, o, none⟩ = W.cell? ⟨b, o, none⟩) ∧ (∀ b o, b < W.heap.size → w1.frozen? ⟨b, o, none⟩ = W.frozen? ⟨b, o, none⟩) :=
  ⟨fun b o h => hb.cell (p := ⟨b, o, none⟩) h, fun b o h => hb.frozen (p := ⟨b, o, none⟩) h⟩

/-- Behind the first half of 'add': the node lies in its box, whole. -/
theorem add_mid {B P : Nat} {text : ByteArray} {at_ : Nat} {ns : List (Nd Value)} {k l r : Nat} {h : Value} {b em : Bool} {w w1 : World} (hP : Psr w B P text at_ ns)
    (hb1 : Below (w.alloc (.cells #[.int .i64 k, h, .int .i64 l, .int .i64 r, .bool em] 84)).drew.heap.size (w.alloc (.cells #[.int .i64 k, h, .int .i64 l, .int .i64 r, .bool em] 84)).drew w1) :
    Psr (w1.setCell ⟨w.heap.size, 4, none⟩ (.bool b)) B P text at_ ns ∧ PFr B w (w1.setCell ⟨w.heap.size, 4, none⟩ (.bool b)) ∧
      (w1.setCell ⟨w.heap.size, 4, none⟩ (.bool b)).heap[w.heap.size]? = some (.cells #[.int .i64 k, h, .int .i64 l, .int .i64 r, .bool b] 84 (0, 0)) ∧ w.heap.size < (w1.setCell ⟨w.heap.size, 4, none⟩ (.bool b)).heap.size := by
  have hsz : w.heap.size + 1 ≤ w1.heap.size := by have := hb1.size; simpa using this
  have hold : ∀ j, j < w.heap.size → w1.heap[j]? = w.heap[j]? := fun j hj => by
    rw [hb1.block j (by simp; omega)]
    exact Below.heap_alloc _ _ _ hj
  have hnew : w1.heap[w.heap.size]? = some (.cells #[.int .i64 k, h, .int .i64 l, .int .i64 r, .bool em] 84 (0, 0)) := by
    rw [hb1.block _ (by simp)]
    exact heap_alloc_last _ _
  have hF : PFr B w w1 := (PFr.refl B w).alloc _ |>.drew.trans (PFr.of_below hb1)
  refine ⟨hP.keep fun j hj => ?_, hF.setCell_new (Nat.le_refl _) _, ?_, ?_⟩
  · rw [Below.heap_setCell _ _ _ _ (by show j ≠ w.heap.size; omega)]; exact hold j hj
  · exact heap_setCell_same w1 w.heap.size 4 _ hnew
  · simp [World.setCell]; omega

/-- A row that is not nil, written out. -/
theorem own_form {w : World} {base : Nat} {e : TypeId} {size : Nat} {v : Value} {n : Nat} {xs : List Value} (h : w.ownsRow base e size v n xs) (hn : 0 < n) :
    ∃ g cap, v = .slice (some ⟨g, 0, none⟩) n cap := by
  rcases h.2 with ⟨_, h0⟩ | ⟨g, cap, _, hv, _⟩
  · omega
  · exact ⟨g, cap, hv⟩

theorem cell_new_row (W : World) (c : Array Value) (t : TypeId) : ∀ j u, c.toList[j]? = some u → (W.alloc (.cells c t)).cell? ((⟨W.heap.size, 0, none⟩ : Addr).add j) = some u := by
  intro j u h
  rw [Addr.add_lit, Nat.zero_add]
  have hh := heap_alloc_last W (.cells c t)
  simp only [World.cell?, hh]
  simpa using h

theorem PFr.grown {B : Nat} {W w' : World} {sv : Value} {ns : List (Nd Value)} (hL : Lists W B sv ns) (hg : W.grownBy w' sv.ownBlock) : PFr B W w' :=
  ⟨hg.os, hg.tape, hg.output, hg.size, fun k hk hn => hg.block k hk (fun e => hn ⟨(hL.block e.symm).1, _, _, _, (hL.block e.symm).2.choose_spec, .inr rfl⟩)⟩

/-- Behind the append. -/
theorem add_after {B P : Nat} {text : ByteArray} {at_ : Nat} {ns : List (Nd Value)} {W w3 : World} {sv v' : Value} {nd : Nd Value} {c : Array Value} {t : TypeId} (hfm : Form nd.has)
    (h1 : W.heap[P]? = some (.cells #[.string text, .int .i64 at_, sv] 67 (0, 0))) (hL : Lists W B sv ns) (hle : at_ ≤ text.size) (hs : text.size ≤ 60) (hB : B ≤ P)
    (hown : w3.ownsRow B 84 5 v' (ns.length + 1) (nsCells ns ++ ndCells nd)) (hg : (W.alloc (.cells c t)).drew.grownBy w3 sv.ownBlock) :
    w3.heap[P]? = some (.cells #[.string text, .int .i64 at_, sv] 67 (0, 0)) ∧
      Psr (w3.setCell ⟨P, 2, none⟩ v') B P text at_ (ns ++ [nd]) ∧ PFr B W (w3.setCell ⟨P, 2, none⟩ v') := by
  have hPl := lt_of_get h1
  have hne : some P ≠ sv.ownBlock := fun e => by
    obtain ⟨_, cur, hc⟩ := hL.block e.symm
    rw [h1] at hc; simp at hc
  have h3 : w3.heap[P]? = some (.cells #[.string text, .int .i64 at_, sv] 67 (0, 0)) := by
    rw [hg.block P (by simp; omega) hne]
    exact heap_alloc_old h1
  have hF : PFr B W w3 := ((PFr.refl B W).alloc _).drew.trans (PFr.grown (hL.alloc _) hg)
  have hL3 : Lists w3 B v' (ns ++ [nd]) := by
    refine ⟨?_, fun d hd => ?_⟩
    · rw [nsCells_append]
      simpa [nsCells] using hown
    · rcases List.mem_append.1 hd with h | h
      · exact hL.2 d h
      · simp only [List.mem_singleton] at h
        rw [h]; exact hfm
  refine ⟨h3, ⟨⟨v', ?_, ?_⟩, hle, hs, hB⟩, hF.setCell ⟨hB, _, _, _, h3, .inl rfl⟩ _⟩
  · exact heap_setCell_same w3 P 2 _ h3
  · refine hL3.keep fun k hk => Below.heap_setCell _ _ _ _ ?_
    obtain ⟨_, cur, hc⟩ := hL3.block hk
    rintro rfl
    rw [h3] at hc
    simp at hc

set_option maxHeartbeats 1000000 in
theorem add_any (B P : Nat) (text : ByteArray) (at_ : Nat) (ns : List (Nd Value)) (k l r : Nat) (h : Value) (b em : Bool) (w : World) (hP : Psr w B P text at_ ns) (hn : ns.length ≤ 1000) (hE : Emp ns k l r b) (hfm : Form h) :
    Calls Tryd.prog 32 #[.pointer (some ⟨P, 0, none⟩), .agg #[.int .i64 k, h, .int .i64 l, .int .i64 r, .bool em]] w fun e w' =>
      e = .returned (.int .i64 ns.length) ∧ Psr w' B P text at_ (ns ++ [⟨k, h, l, r, b⟩]) ∧ PFr B w w' := by
  have HP := hide hP
  obtain ⟨⟨sv, h1, h2⟩, hle, hs, hB⟩ := hP
  obtain ⟨i0, hi, hz0, hz1, hz3⟩ := info_parts info_expr
  have hPl := lt_of_get h1
  have HE := hide hE
  have HO : Hid (∀ u ∈ [Value.int .i64 k, h, .int .i64 l, .int .i64 r, .bool b], u.oneCell' = true) := by
    intro u hu
    simp only [List.mem_cons, List.not_mem_nil, or_false] at hu
    rcases hu with rfl | rfl | rfl | rfl | rfl
    · rfl
    · exact hfm.one
    · rfl
    · rfl
    · rfl
  have HL := hide h2
  have c2 : w.cell? ⟨P, 2, none⟩ = some sv := by simp [World.cell?, h1]
  have c2' := cell_alloc_old c2
  have HL2 := hide (HL.out.alloc (.cells #[.int .i64 k, h, .int .i64 l, .int .i64 r, .bool em] 84))
  clear h1 h2 hE
  go_enter Tryd.func32, Tryd.ntmps32
  go_wp2_with fail
  go_region_with (go_at_call 47; refine (matchesEmpty_any B sv ns k l r h em b _ (by exact HL2.out) HE.out).mono ?_; rintro e w1 ⟨rfl, hb1⟩; obtain ⟨hc1, hf1⟩ := bcell hb1)
  all_goals
    obtain ⟨hP2, hF2, hE2, hz2⟩ := add_mid (b := b) HP.out hb1
    have HP2 := hide hP2
    have HF2 := hide hF2
    have HX := hide hE2
    clear hP2 hc1 hf1 hb1 c2 c2' HL HL2
    obtain ⟨W2, hW2⟩ : ∃ W, W = w1.setCell ⟨w.heap.size, 4, none⟩ (.bool b) := ⟨_, rfl⟩
    rw [← hW2] at hE2 hz2 HP2 HF2 hF2 HX ⊢
    clear hW2
    obtain ⟨⟨sv2, h1, h2⟩, -, -, -⟩ := HP2.out
    have HL2 := hide h2
    have d2 : W2.cell? ⟨P, 2, none⟩ = some sv2 := by simp [World.cell?, h1]
    have d2' := cell_alloc_old d2
    have f2 : W2.frozen? ⟨P, 2, none⟩ = false := by simp [World.frozen?, h1]
    have e0 : W2.cell? ⟨w.heap.size, 0, none⟩ = some (.int .i64 k) := by simp [World.cell?, hE2]
    have e1 : W2.cell? ⟨w.heap.size, 1, none⟩ = some h := by simp [World.cell?, hE2]
    have e2 : W2.cell? ⟨w.heap.size, 2, none⟩ = some (.int .i64 l) := by simp [World.cell?, hE2]
    have e3 : W2.cell? ⟨w.heap.size, 3, none⟩ = some (.int .i64 r) := by simp [World.cell?, hE2]
    have e4 : W2.cell? ⟨w.heap.size, 4, none⟩ = some (.bool b) := by simp [World.cell?, hE2]
    have H1 := hide h1
    have HBW := hide (show B ≤ W2.heap.size + 1 by have := hF2.size; omega)
    clear h1 h2 hE2 hF2
    go_wp2_with fail
    go_region_law (refine step_append_own rfl (.tmp 16) (.tmp 18) 37 rfl B 84 i0 (.agg #[.int .i64 0, .nilFunc, .int .i64 0, .int .i64 0, .bool false]) 5 40 Tryd.underlying37 hi hz0 hz1 hz3 rfl (by decide) sv2 ns.length (nsCells ns) (by rfl) (by exact (HL2.out.alloc _).1) ⟨W2.heap.size, 0, none⟩ 1 1 [.int .i64 k, h, .int .i64 l, .int .i64 r, .bool b] (by rfl) (by rfl) (by exact cell_new_row W2 #[.int .i64 k, h, .int .i64 l, .int .i64 r, .bool b] _) HO.out (by unfold maxLen; omega) (by omega) (by simpa using HBW.out) ?_; intro v' w3 hown hg; obtain ⟨g, cap, rfl⟩ := own_form hown (by omega); obtain ⟨hq3, hP3, hF3⟩ := add_after (nd := ⟨k, h, l, r, b⟩) hfm H1.out HL2.out hle hs hB hown hg; have g2 : w3.cell? ⟨P, 2, none⟩ = some sv2 := (by simp [World.cell?, hq3]); have gf : w3.frozen? ⟨P, 2, none⟩ = false := (by simp [World.frozen?, hq3]); clear hown hg hq3; have HP3 := hide hP3; have HF3 := hide hF3; clear hP3 hF3)
    all_goals
      go_wp2
      go_ret
      exact ⟨by simp, HP3.out, HF2.out.trans HF3.out⟩
end Go.Proofs.YtgncgdkpkkdaeaaDoor
