import Derived.Test.YtgncgdkpkkdaeaaGreatDoorKB
import Derived.Deep.RegionWith
namespace Go.Proofs.YtgncgdkpkkdaeaaGreatDoor
open Go.RowKit Tint
theorem step_append_own {P : Program} {ops : Array Oper} {o : Oper} {a : Act} {w : World} {K : Act → World → Prop} {Q : Exit → Act → World → Prop} {E : Prop}
  (hg : o.guard = none) (s x : Operand) (t : TypeId) (hop : o.op = Op.call { callee := Callee.builtin Builtin.append, args := #[s, x], argTypes := #[t, t] })
  (base : Nat) (e : TypeId) (i : TypeInfo) (z : Value) (size bytes : Nat) (h1 : P.underlying t = some (.slice e)) (h2 : P.info? e = some i) (h3 : i.zero = some z) (h4 : i.size = size) (h5 : i.bytes = bytes) (h6 : z.cells.size = size) (h7 : 0 < size)
  (v : Value) (n : Nat) (xs : List Value) (hs : a.eval s = v) (hown : w.ownsRow base e size v n xs)
  (ad : Addr) (m c : Nat) (news : List Value) (hx : a.eval x = .slice (some ad) m c) (hn : news.length = m * size) (hc : ∀ j u, news[j]? = some u → w.cell? (ad.add j) = some u) (h1c : ∀ u ∈ news, u.oneCell' = true)
  (b1 : n + m ≤ maxLen) (b2 : (n + m) * bytes ≤ 140737488355328) (hb : base ≤ w.heap.size)
  (hK : ∀ v' w', w'.ownsRow base e size v' (n + m) (xs ++ news) → w.grownBy w' v.ownBlock → K (a.put o.dst v') w') :
  if Region.wanted o (yielded ops a.tmps) = true then Oper.wp P o a w K Q else E := by
 have hw : Region.wanted o (yielded ops a.tmps) = true := by simp [Region.wanted, hg]
 rw [if_pos hw]
 exact wp_append_own w s x t hop base e i z size bytes h1 h2 h3 h4 h5 h6 h7 v n xs hs hown ad m c news hx hn hc h1c b1 b2 hb fun v' w' r1 r2 _ => hK v' w' r1 r2
theorem Lists.alloc {w : World} {B : Nat} {sv : Value} {ns : List (Nd Value)} (h : Lists w B sv ns) (o : Obj) : Lists (w.alloc o) B sv ns :=
 h.keep fun _ hk => Below.heap_alloc _ _ _ (lt_of_get (h.block hk).2.choose_spec)
theorem info_expr : (Tryz.prog.info? 292).map (fun i => (i.zero, i.size, i.bytes)) = some (some (.agg #[.int .i64 0, .nilFunc, .int .i64 0, .int .i64 0, .bool false]), 5, 40) := by kernel_rfl
theorem bcell {W w1 : World} (hb : Below W.heap.size W w1) : (∀ b o, b < W.heap.size → w1.cell? ⟨b, o, none⟩ = W.cell? ⟨b, o, none⟩) ∧ (∀ b o, b < W.heap.size → w1.frozen? ⟨b, o, none⟩ = W.frozen? ⟨b, o, none⟩) :=
 ⟨fun b o h => hb.cell (p := ⟨b, o, none⟩) h, fun b o h => hb.frozen (p := ⟨b, o, none⟩) h⟩
theorem add_mid {B P : Nat} {text : ByteArray} {at_ : Nat} {ns : List (Nd Value)} {k l r : Nat} {h : Value} {b em : Bool} {w w1 : World} (hP : Psr w B P text at_ ns)
  (hb1 : Below (w.alloc (.cells #[.int .i64 k, h, .int .i64 l, .int .i64 r, .bool em] 292)).drew.heap.size (w.alloc (.cells #[.int .i64 k, h, .int .i64 l, .int .i64 r, .bool em] 292)).drew w1) :
  Psr (w1.setCell ⟨w.heap.size, 4, none⟩ (.bool b)) B P text at_ ns ∧ PFr B w (w1.setCell ⟨w.heap.size, 4, none⟩ (.bool b)) ∧
   (w1.setCell ⟨w.heap.size, 4, none⟩ (.bool b)).heap[w.heap.size]? = some (.cells #[.int .i64 k, h, .int .i64 l, .int .i64 r, .bool b] 292 (0, 0)) ∧ w.heap.size < (w1.setCell ⟨w.heap.size, 4, none⟩ (.bool b)).heap.size := by
 have hsz : w.heap.size + 1 ≤ w1.heap.size := by have := hb1.size; simpa using this
 have hold : ∀ j, j < w.heap.size → w1.heap[j]? = w.heap[j]? := fun j hj => by
  rw [hb1.block j (by simp; omega)]
  exact Below.heap_alloc _ _ _ hj
 have hnew : w1.heap[w.heap.size]? = some (.cells #[.int .i64 k, h, .int .i64 l, .int .i64 r, .bool em] 292 (0, 0)) := by
  rw [hb1.block _ (by simp)]
  exact heap_alloc_last _ _
 have hF : PFr B w w1 := (PFr.refl B w).alloc _ |>.drew.trans (PFr.of_below hb1)
 refine ⟨hP.keep fun j hj => ?_, hF.setCell_new (Nat.le_refl _) _, ?_, ?_⟩
 ·rw [Below.heap_setCell _ _ _ _ (by show j ≠ w.heap.size; omega)]; exact hold j hj
 ·exact heap_setCell_same w1 w.heap.size 4 _ hnew
 ·simp [World.setCell]; omega
theorem own_form {w : World} {base : Nat} {e : TypeId} {size : Nat} {v : Value} {n : Nat} {xs : List Value} (h : w.ownsRow base e size v n xs) (hn : 0 < n) :
  ∃ g cap, v = .slice (some ⟨g, 0, none⟩) n cap := by
 rcases h.2 with ⟨_, h0⟩ | ⟨g, cap, _, hv, _⟩
 ·omega
 ·exact ⟨g, cap, hv⟩
theorem cell_new_row (W : World) (c : Array Value) (t : TypeId) : ∀ j u, c.toList[j]? = some u → (W.alloc (.cells c t)).cell? ((⟨W.heap.size, 0, none⟩ : Addr).add j) = some u := by
 intro j u h
 rw [Addr.add_lit, Nat.zero_add]
 have hh := heap_alloc_last W (.cells c t)
 simp only [World.cell?, hh]
 simpa using h
theorem PFr.grown {B : Nat} {W w' : World} {sv : Value} {ns : List (Nd Value)} (hL : Lists W B sv ns) (hg : W.grownBy w' sv.ownBlock) : PFr B W w' :=
 ⟨hg.os, hg.tape, hg.output, hg.size, fun k hk hn => hg.block k hk (fun e => hn ⟨(hL.block e.symm).1, _, _, _, (hL.block e.symm).2.choose_spec, .inr rfl⟩)⟩
theorem add_after {B P : Nat} {text : ByteArray} {at_ : Nat} {ns : List (Nd Value)} {W w3 : World} {sv v' : Value} {nd : Nd Value} {c : Array Value} {t : TypeId} (hfm : Form nd.has)
  (h1 : W.heap[P]? = some (.cells #[.string text, .int .i64 at_, sv] 257 (0, 0))) (hL : Lists W B sv ns) (hle : at_ ≤ text.size) (hs : text.size ≤ 60) (hB : B ≤ P)
  (hown : w3.ownsRow B 292 5 v' (ns.length + 1) (nsCells ns ++ ndCells nd)) (hg : (W.alloc (.cells c t)).drew.grownBy w3 sv.ownBlock) :
  w3.heap[P]? = some (.cells #[.string text, .int .i64 at_, sv] 257 (0, 0)) ∧
   Psr (w3.setCell ⟨P, 2, none⟩ v') B P text at_ (ns ++ [nd]) ∧ PFr B W (w3.setCell ⟨P, 2, none⟩ v') := by
 have hPl := lt_of_get h1
 have hne : some P ≠ sv.ownBlock := fun e => by
  obtain ⟨_, cur, hc⟩ := hL.block e.symm
  rw [h1] at hc; simp at hc
 have h3 : w3.heap[P]? = some (.cells #[.string text, .int .i64 at_, sv] 257 (0, 0)) := by
  rw [hg.block P (by simp; omega) hne]
  exact heap_alloc_old h1
 have hF : PFr B W w3 := ((PFr.refl B W).alloc _).drew.trans (PFr.grown (hL.alloc _) hg)
 have hL3 : Lists w3 B v' (ns ++ [nd]) := by
  refine ⟨?_, fun d hd => ?_⟩
  ·rw [nsCells_append]
   simpa [nsCells] using hown
  ·rcases List.mem_append.1 hd with h | h
   ·exact hL.2 d h
   ·simp only [List.mem_singleton] at h
    rw [h]; exact hfm
 refine ⟨h3, ⟨⟨v', ?_, ?_⟩, hle, hs, hB⟩, hF.setCell ⟨hB, _, _, _, h3, .inl rfl⟩ _⟩
 ·exact heap_setCell_same w3 P 2 _ h3
 ·refine hL3.keep fun k hk => Below.heap_setCell _ _ _ _ ?_
  obtain ⟨_, cur, hc⟩ := hL3.block hk
  rintro rfl
  rw [h3] at hc
  simp at hc
set_option maxHeartbeats 1000000 in
theorem add_any (B P : Nat) (text : ByteArray) (at_ : Nat) (ns : List (Nd Value)) (k l r : Nat) (h : Value) (b em : Bool) (w : World) (hP : Psr w B P text at_ ns) (hn : ns.length ≤ 1000) (hE : Emp ns k l r b) (hfm : Form h) :
  Calls Tryz.prog 172 #[.pointer (some ⟨P, 0, none⟩), .agg #[.int .i64 k, h, .int .i64 l, .int .i64 r, .bool em]] w fun e w' =>
   e = .returned (.int .i64 ns.length) ∧ Psr w' B P text at_ (ns ++ [⟨k, h, l, r, b⟩]) ∧ PFr B w w' := by
 have HP := hide hP
 obtain ⟨⟨sv, h1, h2⟩, hle, hs, hB⟩ := hP
 obtain ⟨i0, hi, hz0, hz1, hz3⟩ := info_parts info_expr
 have hPl := lt_of_get h1
 have HE := hide hE
 have HO : Hid (∀ u ∈ [Value.int .i64 k, h, .int .i64 l, .int .i64 r, .bool b], u.oneCell' = true) := by
  intro u hu
  simp only [List.mem_cons, List.not_mem_nil, or_false] at hu
  rcases hu with rfl | rfl | rfl | rfl | rfl
  ·rfl
  ·exact hfm.one
  ·rfl
  ·rfl
  ·rfl
 have HL := hide h2
 have c2 : w.cell? ⟨P, 2, none⟩ = some sv := by simp [World.cell?, h1]
 have c2' := cell_alloc_old c2
 have HL2 := hide (HL.out.alloc (.cells #[.int .i64 k, h, .int .i64 l, .int .i64 r, .bool em] 292))
 clear h1 h2 hE
 go_enter Tryz.func172, Tryz.ntmps172
 go_wp2_with fail
 go_region_with (go_at_call 195; refine (matchesEmpty_any B sv ns k l r h em b _ (by exact HL2.out) HE.out).mono ?_; rintro e w1 ⟨rfl, hb1⟩; obtain ⟨hc1, hf1⟩ := bcell hb1)
 all_goals
  obtain ⟨hP2, hF2, hE2, hz2⟩ := add_mid (b := b) HP.out hb1
  have HP2 := hide hP2
  have HF2 := hide hF2
  have HX := hide hE2
  clear hP2 hc1 hf1 hb1 c2 c2' HL HL2
  obtain ⟨W2, hW2⟩ : ∃ W, W = w1.setCell ⟨w.heap.size, 4, none⟩ (.bool b) := ⟨_, rfl⟩
  rw [← hW2] at hE2 hz2 HP2 HF2 hF2 HX ⊢
  clear hW2
  obtain ⟨⟨sv2, h1, h2⟩, -, -, -⟩ := HP2.out
  have HL2 := hide h2
  have d2 : W2.cell? ⟨P, 2, none⟩ = some sv2 := by simp [World.cell?, h1]
  have d2' := cell_alloc_old d2
  have f2 : W2.frozen? ⟨P, 2, none⟩ = false := by simp [World.frozen?, h1]
  have e0 : W2.cell? ⟨w.heap.size, 0, none⟩ = some (.int .i64 k) := by simp [World.cell?, hE2]
  have e1 : W2.cell? ⟨w.heap.size, 1, none⟩ = some h := by simp [World.cell?, hE2]
  have e2 : W2.cell? ⟨w.heap.size, 2, none⟩ = some (.int .i64 l) := by simp [World.cell?, hE2]
  have e3 : W2.cell? ⟨w.heap.size, 3, none⟩ = some (.int .i64 r) := by simp [World.cell?, hE2]
  have e4 : W2.cell? ⟨w.heap.size, 4, none⟩ = some (.bool b) := by simp [World.cell?, hE2]
  have H1 := hide h1
  have HBW := hide (show B ≤ W2.heap.size + 1 by have := hF2.size; omega)
  clear h1 h2 hE2 hF2
  go_wp2_with fail
  go_region_law (refine step_append_own rfl (.tmp 16) (.tmp 18) 182 rfl B 292 i0 (.agg #[.int .i64 0, .nilFunc, .int .i64 0, .int .i64 0, .bool false]) 5 40 Tryz.underlying182 hi hz0 hz1 hz3 rfl (by decide) sv2 ns.length (nsCells ns) (by rfl) (by exact (HL2.out.alloc _).1) ⟨W2.heap.size, 0, none⟩ 1 1 [.int .i64 k, h, .int .i64 l, .int .i64 r, .bool b] (by rfl) (by rfl) (by exact cell_new_row W2 #[.int .i64 k, h, .int .i64 l, .int .i64 r, .bool b] _) HO.out (by unfold maxLen; omega) (by omega) (by simpa using HBW.out) ?_; intro v' w3 hown hg; obtain ⟨g, cap, rfl⟩ := own_form hown (by omega); obtain ⟨hq3, hP3, hF3⟩ := add_after (nd := ⟨k, h, l, r, b⟩) hfm H1.out HL2.out hle hs hB hown hg; have g2 : w3.cell? ⟨P, 2, none⟩ = some sv2 := (by simp [World.cell?, hq3]); have gf : w3.frozen? ⟨P, 2, none⟩ = false := (by simp [World.frozen?, hq3]); clear hown hg hq3; have HP3 := hide hP3; have HF3 := hide hF3; clear hP3 hF3)
  all_goals
   go_wp2
   go_ret
   exact ⟨by simp, HP3.out, HF2.out.trans HF3.out⟩
theorem _root_.Tint.Rep.world {w w' : World} (h : Stay w w') {ns : List (Nd Value)} {a : ARe} (hr : Rep (IsCls w) ns a) : Rep (IsCls w') ns a :=
 hr.mono (fun _ _ hc => hc.stay h) (fun _ _ hn => hn)
def Ints (w : World) (B : Nat) (v : Value) (xs : List Nat) : Prop := w.ownsRow B 3 1 v xs.length (xs.map fun x : Nat => Value.int .i64 (x : Int))
theorem Ints.keep {w w' : World} {B : Nat} {v : Value} {xs : List Nat} (h : Ints w B v xs) (hk : ∀ (k : Nat) c, w.heap[k]? = some (.cells c 3 (0, 0)) → w'.heap[k]? = some (.cells c 3 (0, 0))) : Ints w' B v xs := by
 obtain ⟨h1, h2⟩ := h
 refine ⟨h1, ?_⟩
 rcases h2 with h2 | ⟨g, cap, cur, hv, hg, hh, r⟩
 ·exact .inl h2
 ·exact .inr ⟨g, cap, cur, hv, hg, hk _ _ hh, r⟩
theorem Ints.pfr {w w' : World} {B B' : Nat} {v : Value} {xs : List Nat} (h : Ints w B v xs) (hF : PFr B' w w') : Ints w' B v xs :=
 h.keep fun _ _ hh => hF.other hh (by decide) (by decide)
theorem Ints.at {w : World} {B : Nat} {v : Value} {xs : List Nat} (h : Ints w B v xs) {i x : Nat} (hi : xs[i]? = some x) :
  ∃ g cap, v = .slice (some ⟨g, 0, none⟩) xs.length cap ∧ w.cell? ⟨g, i, none⟩ = some (.int .i64 x) := by
 have hlt := get_lt hi
 obtain ⟨h1, h2⟩ := h
 rcases h2 with ⟨rfl, h0⟩ | ⟨g, cap, cur, rfl, hg, hh, hn, hc, hs, ht⟩
 ·omega
 ·refine ⟨g, cap, rfl, ?_⟩
  have e : (xs.map fun x : Nat => Value.int .i64 (x : Int))[i]? = some (.int .i64 x) := by simp [hi]
  rw [← ht, List.getElem?_take_of_lt (by omega)] at e
  simpa [World.cell?, hh] using e
def SeqLoop (B P : Nat) (text : ByteArray) (at_ : Nat) (ns : List (Nd Value)) (ps : List ARe) (w : World) (m : Nat) (whole i : Value) (wr : World) : Prop :=
 PFr B w wr ∧ m + 1 ≤ ps.length ∧ i = .int .i64 ((m : Int) - 1) ∧ ∃ (a : ARe) (ms : List (Nd Value)), whole = .int .i64 a.ix ∧ a.re = seqOf ((ps.drop m).map ARe.re) ∧
  Psr wr B P text at_ (ns ++ ms) ∧ Rep (IsCls wr) (ns ++ ms) a ∧ ms.length + m + 1 = ps.length
def SeqPost (B P : Nat) (text : ByteArray) (at_ : Nat) (ns : List (Nd Value)) (ps : List ARe) (w : World) (e : Ending) (w' : World) : Prop :=
 PFr B w w' ∧ ∃ (a : ARe) (ms : List (Nd Value)), e = .returned (.int .i64 a.ix) ∧ a.re = seqOf (ps.map ARe.re) ∧
  Psr w' B P text at_ (ns ++ ms) ∧ Rep (IsCls w') (ns ++ ms) a ∧ ms.length ≤ ps.length - 1
theorem seqOf_cons {r : Re} {rs : List Re} (h : rs ≠ []) : seqOf (r :: rs) = .seq r (seqOf rs) := by
 cases rs with
 | nil => exact absurd rfl h
 | cons b l => rfl
set_option maxHeartbeats 1000000 in
theorem inSequence_any (B B2 P : Nat) (text : ByteArray) (at_ : Nat) (ns : List (Nd Value)) (ps : List ARe) (pv : Value) (w : World) (hP : Psr w B P text at_ ns) (hn : ns.length + ps.length ≤ 900)
  (hI : Ints w B2 pv (ps.map ARe.ix)) (hA : ∀ a ∈ ps, Rep (IsCls w) ns a) (h0 : Rep (IsCls w) ns .eps) :
  Calls Tryz.prog 194 #[.pointer (some ⟨P, 0, none⟩), pv] w (SeqPost B P text at_ ns ps w) := by
 have HP := hide hP
 have HI := hide hI
 have HA := hide hA
 clear hP hI hA
 by_cases hz : ps.length = 0
 ·obtain rfl : ps = [] := List.eq_nil_of_length_eq_zero hz
  have hl : ∃ ao cap, pv = .slice ao 0 cap := by
   rcases HI.out.2 with ⟨rfl, _⟩ | ⟨g, cap, _, rfl, _⟩
   ·exact ⟨_, _, rfl⟩
   ·exact ⟨_, _, rfl⟩
  obtain ⟨ao, cap, rfl⟩ := hl
  have H0 := hide h0
  clear h0
  go_enter Tryz.func194, Tryz.ntmps194
  go_wp2
  go_ret
  exact ⟨PFr.refl _ _, .eps, [], rfl, rfl, by simpa using HP.out, by simpa using H0.out, by simp⟩
 ·obtain ⟨n, hlen⟩ : ∃ n, ps.length = n + 1 := ⟨ps.length - 1, by omega⟩
  obtain ⟨la, hla⟩ : ∃ a, ps[n]? = some a := ⟨ps[n], List.getElem?_eq_getElem (by omega)⟩
  obtain ⟨g, cap, rfl, hc⟩ := HI.out.at (i := n) (x := la.ix) (by simp [hla])
  rw [List.length_map, hlen] at HI ⊢
  have HLA := hide hla
  have HLEN := hide hlen
  have HN := hide hn
  have hn2 : n ≤ 900 := by omega
  have hz1 : ((n : Int) + 1 == 0) = false := by rw [beq_eq_false_iff_ne]; omega
  clear hla hlen hz hn h0
  go_enter Tryz.func194, Tryz.ntmps194
  go_wp2_with fail
  go_loopg [5, 6] n (fun m whole i wr => SeqLoop B P text at_ ns ps w m whole i wr)
  case atStart =>
   refine ⟨PFr.refl _ _, by rw [HLEN.out]; omega, by go_num, la, [], rfl, ?_, by simpa using HP.out, ?_, by simp [HLEN.out]⟩
   ·have := HLEN.out
    rw [List.drop_eq_getElem_cons (by omega), List.drop_of_length_le (by omega)]
    rw [List.getElem?_eq_getElem (by omega)] at HLA
    have := Option.some.inj HLA.out
    simp [this, seqOf]
   ·simpa using HA.out la (List.mem_of_getElem? HLA.out)
  case round =>
   obtain ⟨hF, hm, rfl, a, ms, rfl, hre, hP2, hR, hms⟩ := hrel
   cases gk with
   | zero =>
    have HF := hide hF
    have HRE := hide hre
    have HP2 := hide hP2
    have HR := hide hR
    have HMS := hide hms
    clear hF hre hP2 hR hms
    go_wp2_with fail
    go_ret
    refine ⟨HF.out, a, ms, by simp, ?_, HP2.out, HR.out, ?_⟩
    ·simpa using HRE.out
    ·have := HMS.out; omega
   | succ j =>
    obtain ⟨pa, hpa⟩ : ∃ a, ps[j]? = some a := ⟨ps[j], List.getElem?_eq_getElem (by omega)⟩
    have hI2 := HI.out.pfr hF
    obtain ⟨g', cap', e', hcj⟩ := hI2.at (i := j) (x := pa.ix) (by simp [hpa])
    simp only [Value.slice.injEq, Option.some.injEq, Addr.mk.injEq] at e'
    obtain ⟨⟨rfl, -⟩, -, rfl⟩ := e'
    have hjn : j < n + 1 := by have := HLEN.out; omega
    have hra : Rep (IsCls wr) (ns ++ ms) pa := ((HA.out pa (List.mem_of_getElem? hpa)).world hF.stay).append
    obtain ⟨x, hx, hxe⟩ := hra.empty
    obtain ⟨y, hy, hye⟩ := hR.empty
    have hE : Emp (ns ++ ms) 2 pa.ix a.ix (pa.re.nullable && a.re.nullable) := .inr (.inr (.inr (.inl ⟨rfl, x, y, hx, hy, by rw [hxe, hye]⟩)))
    have HF := hide hF
    have HRE := hide hre
    have HP2 := hide hP2
    have HR := hide hR
    have HMS := hide hms
    have HE := hide hE
    have HRA := hide hra
    have HPA := hide hpa
    have hlen2 : (ns ++ ms).length ≤ 1000 := by have := HN.out; simp; omega
    have HLN := hide hlen2
    clear hF hre hP2 hR hms hE hra hpa hx hy hxe hye hI2 hlen2
    go_wp2_with fail
    refine (add_any B P text at_ (ns ++ ms) 2 pa.ix a.ix .nilFunc (pa.re.nullable && a.re.nullable) false wr HP2.out HLN.out HE.out (.inl rfl)).mono ?_
    rintro e w2 ⟨rfl, hP3, hF3⟩
    have HP3 := hide hP3
    have HF3 := hide hF3
    clear hP3 hF3
    go_wp2_with fail
    go_roundg j
    case measure => omega
    case rel =>
     have hst := HF3.out.stay
     refine ⟨HF.out.trans HF3.out, by omega, by go_num, .seq (ns ++ ms).length pa a, ms ++ [⟨2, .nilFunc, pa.ix, a.ix, pa.re.nullable && a.re.nullable⟩], by simp [ARe.ix], ?_, ?_, ?_, ?_⟩
     ·have hl := HLEN.out
      have e1 : ps.drop j = pa :: ps.drop (j + 1) := by
       have h1 := HPA.out
       rw [List.getElem?_eq_getElem (by omega)] at h1
       rw [List.drop_eq_getElem_cons (by omega), Option.some.inj h1]
      rw [e1, List.map_cons, seqOf_cons, ← HRE.out]
      ·rfl
      ·intro h0
       have := congrArg List.length h0
       simp at this; omega
     ·rw [← List.append_assoc]; exact HP3.out
     ·rw [← List.append_assoc]
      refine ⟨?_, ⟨.nilFunc, ?_⟩, (HRA.out.world hst).append, (HR.out.world hst).append⟩
      ·have := HRA.out.lt; omega
      ·rw [List.getElem?_append_right (Nat.le_refl _)]; simp
     ·have := HMS.out; simp; omega
def AltPost (PX : List UInt8 → Option (Re × List UInt8) → Prop) (d : Nat) (B P : Nat) (text : ByteArray) (at_ : Nat) (ns : List (Nd Value)) (w : World) (e : Ending) (w' : World) : Prop :=
 PFr B w w' ∧ ((∃ (a : ARe) (at' : Nat) (ms : List (Nd Value)), e = .returned (.tuple #[.int .i64 a.ix, .bool true]) ∧ PX (rest text at_) (some (a.re, rest text at')) ∧
   Psr w' B P text at' (ns ++ ms) ∧ Rep (IsCls w') (ns ++ ms) a ∧ ms.length + 3 * (rest text at').length + d ≤ 3 * (rest text at_).length) ∨
  (∃ i : Nat, e = .returned (.tuple #[.int .i64 i, .bool false]) ∧ PX (rest text at_) none))
structure Pre (B P : Nat) (text : ByteArray) (at_ : Nat) (ns : List (Nd Value)) (w : World) : Prop where
 psr : Psr w B P text at_ ns
 eps : Rep (IsCls w) ns .eps
 bound : ns.length + 3 * (rest text at_).length ≤ 200
def ChoicesAt (n : Nat) : Prop := ∀ B P text at_ ns w, Pre B P text at_ ns w → (rest text at_).length < n →
 Calls Tryz.prog 139 #[.pointer (some ⟨P, 0, none⟩)] w (AltPost PAlt 0 B P text at_ ns w)
theorem Emp.one (ns : List (Nd Value)) : Emp ns 1 0 0 false := .inl ⟨rfl, rfl⟩
theorem IsCls.one {w : World} {v : Value} {c : Cls} (h : IsCls w v c) : Form v := .inr h.shape
theorem rep_leaf {w : World} {ns : List (Nd Value)} {v : Value} {c : Cls} (h0 : Rep (IsCls w) ns .eps) (hc : IsCls w v c) : Rep (IsCls w) (ns ++ [⟨1, v, 0, 0, false⟩]) (.cls ns.length c) := by
 refine ⟨?_, v, ?_, hc⟩
 ·have := h0.lt; simp only [ARe.ix] at this; omega
 ·rw [List.getElem?_append_right (Nat.le_refl _)]; simp
-- ( ALT )
set_option maxHeartbeats 1000000 in
theorem atom_paren (n : Nat) (hC : ChoicesAt n) (s : List UInt8) (B P : Nat) (text : ByteArray) (at_ : Nat) (ns : List (Nd Value)) (w : World) (hP : Pre B P text at_ ns w) (hr : rest text at_ = 40 :: s) (hn : (rest text at_).length ≤ n) :
  Calls Tryz.prog 206 #[.pointer (some ⟨P, 0, none⟩)] w (AltPost PAtom 1 B P text at_ ns w) := by
 have HP := hide hP
 have HR := hide hr
 have HN := hide hn
 clear hP hr hn
 go_enter Tryz.func206, Tryz.ntmps206
 go_wp2_with fail
 refine (take_hit 40 s B P text at_ ns w HP.out.psr HR.out).mono ?_
 rintro e w1 ⟨rfl, hP1, hF1, hr1⟩
 have hlen : (rest text (at_ + 1)).length + 1 = (rest text at_).length := by rw [hr1, HR.out]; rfl
 have hpre : Pre B P text (at_ + 1) ns w1 := ⟨hP1, HP.out.eps.world hF1.stay, by have := HP.out.bound; omega⟩
 have HPre := hide hpre
 have HF1 := hide hF1
 have HR1 := hide hr1
 have HLen := hide hlen
 clear hP1 hF1 hr1 hpre hlen
 go_wp2_with fail
 refine (hC B P text (at_ + 1) ns w1 HPre.out (by have := HLen.out; have := HN.out; omega)).mono ?_
 rintro e w2 ⟨hF2, ⟨a, at2, ms, rfl, hA2, hP2, hR2, hb2⟩ | ⟨i, rfl, hA2⟩⟩
 ·have HF2 := hide hF2
  have HA2 := hide hA2
  have HP2 := hide hP2
  have HR2 := hide hR2
  have HB2 := hide hb2
  clear hF2 hA2 hP2 hR2 hb2
  go_wp2_with fail
  refine (take_any 41 B P text at2 (ns ++ ms) w2 HP2.out).mono ?_
  rintro e w3 ⟨r, at3, rfl, hP3, hF3, ⟨rfl, h3⟩ | ⟨rfl, -, h3⟩⟩
  ·have HP3 := hide hP3
   have HF3 := hide hF3
   have H3 := hide h3
   clear hP3 hF3 h3
   go_wp2_with fail
   go_ret2
   refine ⟨(HF1.out.trans HF2.out).trans HF3.out, .inl ⟨a, at3, ms, by simp, ?_, HP3.out, HR2.out.world HF3.out.stay, ?_⟩⟩
   ·rw [HR.out]
    refine .paren ?_
    rw [← H3.out, ← HR1.out]
    exact HA2.out
   ·have h1 := HB2.out
    have h2 := HLen.out
    rw [H3.out, List.length_cons] at h1
    omega
  ·have HF3 := hide hF3
   have H3 := hide h3
   clear hP3 hF3 h3
   go_wp2_with fail
   go_ret2
   refine ⟨(HF1.out.trans HF2.out).trans HF3.out, .inr ⟨a.ix, by simp, ?_⟩⟩
   rw [HR.out]
   exact .parenOpen (r := a.re) (by rw [← HR1.out]; exact HA2.out) H3.out
 ·have HF2 := hide hF2
  have HA2 := hide hA2
  clear hF2 hA2
  go_wp2_with fail
  go_ret2
  refine ⟨HF1.out.trans HF2.out, .inr ⟨i, by simp, ?_⟩⟩
  rw [HR.out]
  refine .parenBad ?_
  rw [← HR1.out]; exact HA2.out
-- any byte
set_option maxHeartbeats 1000000 in
theorem atom_dot (s : List UInt8) (B P : Nat) (text : ByteArray) (at_ : Nat) (ns : List (Nd Value)) (w : World) (hP : Pre B P text at_ ns w) (hr : rest text at_ = 46 :: s) :
  Calls Tryz.prog 206 #[.pointer (some ⟨P, 0, none⟩)] w (AltPost PAtom 1 B P text at_ ns w) := by
 have HP := hide hP
 have HR := hide hr
 clear hP hr
 go_enter Tryz.func206, Tryz.ntmps206
 go_wp2_with fail
 refine (take_miss 40 B P text at_ ns w HP.out.psr (by rw [HR.out]; simp)).mono ?_
 rintro e w0 ⟨rfl, hP0, hF0⟩
 have HP0 := hide hP0
 have HF0 := hide hF0
 clear hP0 hF0
 go_wp2_with fail
 refine (take_hit 46 s B P text at_ ns w0 HP0.out HR.out).mono ?_
 rintro e w1 ⟨rfl, hP1, hF1, hr1⟩
 have HP1 := hide hP1
 have HF1 := hide hF1
 have HR1 := hide hr1
 clear hP1 hF1 hr1
 go_wp2_with fail
 refine (add_any B P text (at_ + 1) ns 1 0 0 (.func (.func 209) #[] #[]) false false w1 HP1.out (by have := HP.out.bound; omega) (Emp.one ns) (.inr ⟨_, _, rfl⟩)).mono ?_
 rintro e w2 ⟨rfl, hP2, hF2⟩
 have HP2 := hide hP2
 have HF2 := hide hF2
 clear hP2 hF2
 go_wp2_with fail
 go_ret2
 have hF := (HF0.out.trans HF1.out).trans HF2.out
 refine ⟨hF, .inl ⟨.cls ns.length .any, at_ + 1, _, by simp [ARe.ix], ?_, HP2.out, rep_leaf (HP.out.eps.world hF.stay) rfl, ?_⟩⟩
 ·rw [HR.out, HR1.out]; exact .dot
 ·rw [HR.out, HR1.out]; simp; omega
-- [ .. ]
set_option maxHeartbeats 1000000 in
theorem atom_class (s : List UInt8) (B P : Nat) (text : ByteArray) (at_ : Nat) (ns : List (Nd Value)) (w : World) (hP : Pre B P text at_ ns w) (hr : rest text at_ = 91 :: s) :
  Calls Tryz.prog 206 #[.pointer (some ⟨P, 0, none⟩)] w (AltPost PAtom 1 B P text at_ ns w) := by
 have HP := hide hP
 have HR := hide hr
 clear hP hr
 go_enter Tryz.func206, Tryz.ntmps206
 go_wp2_with fail
 refine (take_miss 40 B P text at_ ns w HP.out.psr (by rw [HR.out]; simp)).mono ?_
 rintro e w0 ⟨rfl, hP0, hF0⟩
 have HP0 := hide hP0
 have HF0 := hide hF0
 clear hP0 hF0
 go_wp2_with fail
 refine (take_miss 46 B P text at_ ns w0 HP0.out (by rw [HR.out]; simp)).mono ?_
 rintro e w00 ⟨rfl, hP00, hF00⟩
 have HP00 := hide hP00
 have HF00 := hide hF00
 clear hP00 hF00
 go_wp2_with fail
 refine (take_hit 91 s B P text at_ ns w00 HP00.out HR.out).mono ?_
 rintro e w1 ⟨rfl, hP1, hF1, hr1⟩
 have HP1 := hide hP1
 have HF1 := hide hF1
 have HR1 := hide hr1
 clear hP1 hF1 hr1
 go_wp2_with fail
 refine (class_any B P text (at_ + 1) ns w1 HP1.out).mono ?_
 rintro e w2 ⟨hF2, v, at2, c, hP2, hv, ⟨hc, rfl⟩ | ⟨hc, rfl⟩⟩
 all_goals
  have HP2 := hide hP2
  have HF2 := hide hF2
  have HV := hide hv
  have HC := hide hc
  obtain ⟨gv, cv, rfl⟩ := hv.shape
  clear hP2 hF2 hv hc
  go_wp2_with fail
  refine (add_any B P text at2 ns 1 0 0 (.func (.func gv) #[] cv) false false w2 HP2.out (by have := HP.out.bound; omega) (Emp.one ns) HV.out.one).mono ?_
  rintro e w3 ⟨rfl, hP3, hF3⟩
  have HP3 := hide hP3
  have HF3 := hide hF3
  clear hP3 hF3
  go_wp2_with fail
  go_ret2
  have hF := (((HF0.out.trans HF00.out).trans HF1.out).trans HF2.out).trans HF3.out
 ·refine ⟨hF, .inl ⟨.cls ns.length c, at2, _, by simp [ARe.ix], ?_, HP3.out, rep_leaf (HP.out.eps.world hF.stay) (HV.out.stay HF3.out.stay), ?_⟩⟩
  ·rw [HR.out, ← HR1.out]; exact .cls HC.out
  ·have := HC.out.len
   have h2 := congrArg List.length HR1.out
   rw [HR.out]; simp only [List.length_cons, List.length_nil]; omega
 ·refine ⟨hF, .inr ⟨ns.length, by simp, ?_⟩⟩
  rw [HR.out, ← HR1.out]; exact .cls HC.out
-- ONE
set_option maxHeartbeats 1000000 in
theorem atom_one (B P : Nat) (text : ByteArray) (at_ : Nat) (ns : List (Nd Value)) (w : World) (hP : Pre B P text at_ ns w) (h1 : (rest text at_).head? ≠ some 40) (h2 : (rest text at_).head? ≠ some 46) (h3 : (rest text at_).head? ≠ some 91) :
  Calls Tryz.prog 206 #[.pointer (some ⟨P, 0, none⟩)] w (AltPost PAtom 1 B P text at_ ns w) := by
 have HP := hide hP
 have H1 := hide h1
 have H2 := hide h2
 have H3 := hide h3
 clear hP h1 h2 h3
 go_enter Tryz.func206, Tryz.ntmps206
 go_wp2_with fail
 refine (take_miss 40 B P text at_ ns w HP.out.psr H1.out).mono ?_
 rintro e w0 ⟨rfl, hP0, hF0⟩
 have HP0 := hide hP0
 have HF0 := hide hF0
 clear hP0 hF0
 go_wp2_with fail
 refine (take_miss 46 B P text at_ ns w0 HP0.out H2.out).mono ?_
 rintro e w00 ⟨rfl, hP00, hF00⟩
 have HP00 := hide hP00
 have HF00 := hide hF00
 clear hP00 hF00
 go_wp2_with fail
 refine (take_miss 91 B P text at_ ns w00 HP00.out H3.out).mono ?_
 rintro e w1 ⟨rfl, hP1, hF1⟩
 have HP1 := hide hP1
 have HF1 := hide hF1
 clear hP1 hF1
 go_wp2_with fail
 refine (one_any B P text at_ ns w1 HP1.out).mono ?_
 rintro e w2 ⟨hF2, b, at2, hP2, ⟨hc, rfl⟩ | ⟨hc, rfl⟩⟩
 all_goals
  have HP2 := hide hP2
  have HF2 := hide hF2
  have HC := hide hc
  clear hP2 hF2 hc
  go_wp2_with fail
  refine (between_any b b w2).mono ?_
  rintro e w3 ⟨v, rfl, hv, hB3⟩
  have HV := hide hv
  have HP3 := hide (HP2.out.below hB3)
  have HF3 := hide (PFr.of_below (B := B) hB3)
  obtain ⟨gv, cv, rfl⟩ := hv.shape
  clear hv hB3
  go_wp2_with fail
  refine (add_any B P text at2 ns 1 0 0 (.func (.func gv) #[] cv) false false w3 HP3.out (by have := HP.out.bound; omega) (Emp.one ns) HV.out.one).mono ?_
  rintro e w4 ⟨rfl, hP4, hF4⟩
  have HP4 := hide hP4
  have HF4 := hide hF4
  clear hP4 hF4
  go_wp2_with fail
  go_ret2
  have hF := ((((HF0.out.trans HF00.out).trans HF1.out).trans HF2.out).trans HF3.out).trans HF4.out
  have hat := PAtom.one H1.out H2.out H3.out
  rw [HC.out] at hat
 ·refine ⟨hF, .inl ⟨.cls ns.length (.range b b), at2, _, by simp [ARe.ix], hat, HP4.out, rep_leaf (HP.out.eps.world hF.stay) (HV.out.stay HF4.out.stay), ?_⟩⟩
  have := pOne_len HC.out
  simp only [List.length_cons, List.length_nil]; omega
 ·exact ⟨hF, .inr ⟨ns.length, by simp, hat⟩⟩
theorem atom_any (n : Nat) (hC : ChoicesAt n) (B P : Nat) (text : ByteArray) (at_ : Nat) (ns : List (Nd Value)) (w : World) (hP : Pre B P text at_ ns w) (hn : (rest text at_).length ≤ n) :
  Calls Tryz.prog 206 #[.pointer (some ⟨P, 0, none⟩)] w (AltPost PAtom 1 B P text at_ ns w) := by
 by_cases h1 : (rest text at_).head? = some 40
 ·obtain ⟨s, hs⟩ := head_cons h1
  exact atom_paren n hC s B P text at_ ns w hP hs hn
 ·by_cases h2 : (rest text at_).head? = some 46
  ·obtain ⟨s, hs⟩ := head_cons h2
   exact atom_dot s B P text at_ ns w hP hs
  ·by_cases h3 : (rest text at_).head? = some 91
   ·obtain ⟨s, hs⟩ := head_cons h3
    exact atom_class s B P text at_ ns w hP hs
   ·exact atom_one B P text at_ ns w hP h1 h2 h3
theorem ix_last {ns : List (Nd Value)} (nd : Nd Value) : (ns ++ [nd])[ns.length]? = some nd := by
 rw [List.getElem?_append_right (Nat.le_refl _)]; simp
theorem pos_of_eps {isC : Value → Cls → Prop} {ns : List (Nd Value)} (h : Rep isC ns .eps) : ns.length ≠ 0 := by
 have := h.lt; simp only [ARe.ix] at this; omega
set_option maxHeartbeats 2000000 in
theorem piece_any (n : Nat) (hC : ChoicesAt n) (B P : Nat) (text : ByteArray) (at_ : Nat) (ns : List (Nd Value)) (w : World) (hP : Pre B P text at_ ns w) (hn : (rest text at_).length ≤ n) :
  Calls Tryz.prog 193 #[.pointer (some ⟨P, 0, none⟩)] w (AltPost PPiece 1 B P text at_ ns w) := by
 have HP := hide hP
 have HN := hide hn
 clear hP hn
 go_enter Tryz.func193, Tryz.ntmps193
 go_wp2_with fail
 refine (atom_any n hC B P text at_ ns w HP.out HN.out).mono ?_
 rintro e w1 ⟨hF1, ⟨a, at1, ms, rfl, hA1, hP1, hR1, hb1⟩ | ⟨i, rfl, hA1⟩⟩
 ·have HF1 := hide hF1
  have HA1 := hide hA1
  have HP1 := hide hP1
  have HR1 := hide hR1
  have HB1 := hide hb1
  have HE1 := hide ((HP.out.eps.append (ms := ms)).world hF1.stay)
  have HL1 := hide (show (ns ++ ms).length + 3 * (rest text at1).length + 1 ≤ 200 by have := HP.out.bound; simp only [List.length_append]; omega)
  clear hF1 hA1 hP1 hR1 hb1
  go_wp2_with fail
  refine (take_any 42 B P text at1 (ns ++ ms) w1 HP1.out).mono ?_
  rintro e w2 ⟨r, at2, rfl, hP2, hF2, ⟨rfl, h2⟩ | ⟨rfl, hat2, h2⟩⟩
  ·have HP2 := hide hP2
   have HF2 := hide hF2
   have H2 := hide h2
   clear hP2 hF2 h2
   go_wp2_with fail
   refine (add_any B P text at2 (ns ++ ms) 4 a.ix 0 .nilFunc true false w2 HP2.out (by have := HL1.out; omega) (.inr (.inl ⟨.inl rfl, rfl⟩)) (.inl rfl)).mono ?_
   rintro e w3 ⟨rfl, hP3, hF3⟩
   have HP3 := hide hP3
   have HF3 := hide hF3
   clear hP3 hF3
   go_wp2_with fail
   go_ret2
   have hst := HF2.out.stay.trans HF3.out.stay
   refine ⟨(HF1.out.trans HF2.out).trans HF3.out, .inl ⟨.star (ns ++ ms).length a, at2, ms ++ [⟨4, .nilFunc, a.ix, 0, true⟩], by simp [ARe.ix], ?_, ?_, ?_, ?_⟩⟩
   ·exact .star (H2.out ▸ HA1.out)
   ·rw [← List.append_assoc]; exact HP3.out
   ·rw [← List.append_assoc]
    exact ⟨pos_of_eps HE1.out, ⟨_, ix_last _⟩, (HR1.out.world hst).append⟩
   ·have h1 := HB1.out
    rw [H2.out] at h1
    simp only [List.length_append, List.length_cons, List.length_nil] at h1 ⊢
    omega
  ·subst hat2
   have HP2 := hide hP2
   have HF2 := hide hF2
   have H2 := hide h2
   clear hP2 hF2 h2
   go_wp2_with fail
   refine (take_any 43 B P text at2 (ns ++ ms) w2 HP2.out).mono ?_
   rintro e w3 ⟨r, at3, rfl, hP3, hF3, ⟨rfl, h3⟩ | ⟨rfl, hat3, h3⟩⟩
   ·have HP3 := hide hP3
    have HF3 := hide hF3
    have H3 := hide h3
    clear hP3 hF3 h3
    go_wp2_with fail
    refine (add_any B P text at3 (ns ++ ms) 4 a.ix 0 .nilFunc true false w3 HP3.out (by have := HL1.out; omega) (.inr (.inl ⟨.inl rfl, rfl⟩)) (.inl rfl)).mono ?_
    rintro e w4 ⟨rfl, hP4, hF4⟩
    have hst := (HF2.out.stay.trans HF3.out.stay).trans hF4.stay
    have hRa := (HR1.out.world hst).append (ms := [⟨4, .nilFunc, a.ix, 0, true⟩])
    obtain ⟨x, hx, hxe⟩ := hRa.empty
    have HE4 := hide (show Emp (ns ++ ms ++ [⟨4, .nilFunc, a.ix, 0, true⟩]) 5 a.ix (ns ++ ms).length a.re.nullable from .inr (.inr (.inl ⟨rfl, x, hx, hxe.symm⟩)))
    have HP4 := hide hP4
    have HF4 := hide hF4
    have HRa := hide hRa
    clear hP4 hF4 hst hRa hx hxe
    obtain ⟨j, hj⟩ : ∃ j, j = (ns ++ ms).length := ⟨_, rfl⟩
    rw [← hj] at HE4 ⊢
    have HJ := hide hj
    clear hj
    go_wp2_with fail
    refine (add_any B P text at3 (ns ++ ms ++ [⟨4, .nilFunc, a.ix, 0, true⟩]) 5 a.ix j .nilFunc a.re.nullable false w4 HP4.out (by have := HL1.out; simp only [List.length_append, List.length_cons, List.length_nil] at this ⊢; omega) HE4.out (.inl rfl)).mono ?_
    rintro e w5 ⟨rfl, hP5, hF5⟩
    have HP5 := hide hP5
    have HF5 := hide hF5
    clear hP5 hF5
    go_wp2_with fail
    go_ret2
    have hjj := HJ.out
    refine ⟨(((HF1.out.trans HF2.out).trans HF3.out).trans HF4.out).trans HF5.out, .inl ⟨.plus (ns ++ ms ++ ([⟨4, .nilFunc, a.ix, 0, true⟩] : List (Nd Value))).length j a, at3, ms ++ [⟨4, .nilFunc, a.ix, 0, true⟩] ++ [⟨5, .nilFunc, a.ix, j, a.re.nullable⟩], by simp [ARe.ix], ?_, ?_, ?_, ?_⟩⟩
    ·exact .plus (H3.out ▸ HA1.out)
    ·rw [← List.append_assoc, ← List.append_assoc]; exact HP5.out
    ·rw [← List.append_assoc, ← List.append_assoc]
     refine ⟨by simp, by rw [hjj]; exact pos_of_eps HE1.out, ⟨_, ix_last _⟩, ⟨.nilFunc, ?_⟩, (HRa.out.world HF5.out.stay).append⟩
     rw [hjj, List.getElem?_append_left (by simp)]
     exact ix_last _
    ·have h1 := HB1.out
     rw [H3.out] at h1
     simp only [List.length_append, List.length_cons, List.length_nil] at h1 ⊢
     omega
   ·subst hat3
    have HP3 := hide hP3
    have HF3 := hide hF3
    have H3 := hide h3
    clear hP3 hF3 h3
    go_wp2_with fail
    refine (take_any 63 B P text at3 (ns ++ ms) w3 HP3.out).mono ?_
    rintro e w4 ⟨r, at4, rfl, hP4, hF4, ⟨rfl, h4⟩ | ⟨rfl, hat4, h4⟩⟩
    ·have HP4 := hide hP4
     have HF4 := hide hF4
     have H4 := hide h4
     clear hP4 hF4 h4
     go_wp2_with fail
     refine (add_any B P text at4 (ns ++ ms) 6 a.ix 0 .nilFunc true false w4 HP4.out (by have := HL1.out; omega) (.inr (.inl ⟨.inr rfl, rfl⟩)) (.inl rfl)).mono ?_
     rintro e w5 ⟨rfl, hP5, hF5⟩
     have HP5 := hide hP5
     have HF5 := hide hF5
     clear hP5 hF5
     go_wp2_with fail
     go_ret2
     have hst := ((HF2.out.stay.trans HF3.out.stay).trans HF4.out.stay).trans HF5.out.stay
     refine ⟨(((HF1.out.trans HF2.out).trans HF3.out).trans HF4.out).trans HF5.out, .inl ⟨.opt (ns ++ ms).length a, at4, ms ++ [⟨6, .nilFunc, a.ix, 0, true⟩], by simp [ARe.ix], ?_, ?_, ?_, ?_⟩⟩
     ·exact .opt (H4.out ▸ HA1.out)
     ·rw [← List.append_assoc]; exact HP5.out
     ·rw [← List.append_assoc]
      exact ⟨pos_of_eps HE1.out, ⟨_, ix_last _⟩, (HR1.out.world hst).append⟩
     ·have h1 := HB1.out
      rw [H4.out] at h1
      simp only [List.length_append, List.length_cons, List.length_nil] at h1 ⊢
      omega
    ·subst hat4
     have HP4 := hide hP4
     have HF4 := hide hF4
     have H4 := hide h4
     clear hP4 hF4 h4
     go_wp2_with fail
     go_ret2
     have hst := (HF2.out.stay.trans HF3.out.stay).trans HF4.out.stay
     exact ⟨((HF1.out.trans HF2.out).trans HF3.out).trans HF4.out, .inl ⟨a, at4, ms, by simp, .plain HA1.out H2.out H3.out H4.out, HP4.out, HR1.out.world hst, HB1.out⟩⟩
 ·have HF1 := hide hF1
  have HA1 := hide hA1
  clear hF1 hA1
  go_wp2_with fail
  go_ret2
  exact ⟨HF1.out, .inr ⟨0, by simp, .bad HA1.out⟩⟩
end Go.Proofs.YtgncgdkpkkdaeaaGreatDoor
