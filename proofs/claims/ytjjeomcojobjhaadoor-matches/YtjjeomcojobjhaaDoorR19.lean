/- newReader. -/
import Derived.Test.YtjjeomcojobjhaaDoorR18
namespace Go.Proofs.YtjjeomcojobjhaaDoor
open Go.RowKit Tint Go.Maps

/-- Older than N. -/
def old (N : Nat) : Nat → Prop := fun k => k < N

theorem reader_dyn {W : World} {N : Nat} {ρ : Rd} {root : ARe} {ns : List (Nd Value)} {sv1 : Value} {J : Nat} (hS : W.heap[ρ.S]? = some (.cells #[sv1, .map (some J)] 86 (0, 0))) (hSN : N ≤ ρ.S) (hL : Lists W N sv1 ns) (hJ : MapIs pairT 3 .i64 W J 0 (fun _ => none)) (hJN : N ≤ J) (hJM : J ≠ ρ.M) (hJK : J ≠ ρ.K)
    (hN : Nums W ρ.M ρ.pl (.slice none 0 0) []) (hMN : N ≤ ρ.M) (hpN : N ≤ ρ.pl) (hev : W.heap[ρ.ev]? = some (.cells #[.int .u64 (0 : Nat)] 63 (0, 0))) (heN : N ≤ ρ.ev) (hK : MapIs givenT 63 .u64 W ρ.K 0 (fun _ => none)) (hMK : ρ.M ≠ ρ.K)
    (h0 : 0 < ns.length) (hn : ns.length ≤ 200) (he : Rep (IsCls W) ns .eps) (hz : root.sz ≤ 200) (hl : root.leaves ≤ 60) : Dyn W (orK (old N) ρ) ρ ns.length root ns [] [] 0 := by
  obtain ⟨es, clk, hKo⟩ := hK.obj
  obtain ⟨mM, fM, hMm, _⟩ := hN.map
  obtain ⟨es', clk', hMo⟩ := hMm.obj
  have hc : ∀ k c t fz, W.heap[k]? = some (.cells c t fz) → N ≤ k → ¬ plus (orK (old N) ρ) ρ k := by
    rintro k c t fz hk hN ((h | rfl) | rfl | rfl)
    · exact absurd h (by show ¬ k < N; omega)
    · rw [hKo] at hk; cases hk
    · rw [hMo] at hk; cases hk
    · rw [hKo] at hk; cases hk
  have hc' : ∀ k c t fz, W.heap[k]? = some (.cells c t fz) → N ≤ k → ¬ orK (old N) ρ k := fun k c t fz h1 h2 h3 => hc k c t fz h1 h2 (.inl h3)
  refine ⟨⟨hc _ _ _ _ hS hSN, ⟨sv1, J, 0, fun _ => none, hS, ?_, fun k hk => ?_, hJ, ?_, by omega, fun _ _ _ h => (by cases h), fun j nd hj hnd => ?_⟩, h0, Nat.le_refl _, hn, he, fun j h1 h2 => (by omega), length_shelved root hz hl⟩, ⟨.slice none 0 0, hN, fun k hk => (by cases hk)⟩, hev, ⟨?_, hc' _ _ _ _ hN.var hpN, hc' _ _ _ _ hev heN⟩, .nil, fun t ht => (by simp at ht), fun n => (by simp), hz, hl⟩
  · obtain ⟨⟨h1, h2⟩, h3⟩ := hL
    refine ⟨⟨h1, ?_⟩, h3⟩
    rcases h2 with h2 | ⟨g, cap, cur, a1, a2, a3⟩
    · exact .inl h2
    · exact .inr ⟨g, cap, cur, a1, Nat.zero_le _, a3⟩
  · obtain ⟨h1, cur, h2⟩ := hL.block hk
    exact hc _ _ _ _ h2 h1
  · rintro ((h | h) | h | h)
    · exact absurd h (by show ¬ J < N; omega)
    · exact hJK h
    · exact hJM h
    · exact hJK h
  · have := get_lt hnd; omega
  · rintro (h | h)
    · exact absurd h (by show ¬ ρ.M < N; omega)
    · exact hMK h

/-- A reader behind what changed only results that are readers. -/
theorem Full.other {w w' : World} {X : Nat → Prop} {ρ : Rd} {n0 : Nat} {root : ARe} {ts : List D} {en : Nat} (h : Full w X ρ n0 root ts en) (hk : ∀ (k : Nat) o, w.heap[k]? = some o → (∀ c fz, o ≠ .cells c 67 fz) → w'.heap[k]? = some o) : Full w' X ρ n0 root ts en := by
  obtain ⟨⟨ns, pls, hD⟩, hs, hK, m, f, ks, hm, h1, h2, h3, h4⟩ := h
  have hc : ∀ (k : Nat) c t fz, t ≠ 67 → w.heap[k]? = some (.cells c t fz) → w'.heap[k]? = some (.cells c t fz) := fun k c t fz ht hh => hk k _ hh (fun c' fz' e => by cases e; exact ht rfl)
  have hmap : ∀ (k : Nat) es clk, w.heap[k]? = some (.map es clk) → w'.heap[k]? = some (.map es clk) := fun k es clk hh => hk k _ hh (fun c' fz' e => by cases e)
  have hst : Stay w w' := fun k c t ht hh => hc k c t _ (by rcases ht with rfl | rfl <;> decide) hh
  obtain ⟨pv, hN, hv⟩ := hD.nums
  refine ⟨⟨ns, pls, hD.shelf.keep hst (fun k o _ ho hty => hk k o ho (fun c fz e => ?_)) (fun _ h => .inl h), ⟨pv, ⟨hc _ _ _ _ (by decide) hN.var, hN.row.keepB fun k hk => ?_, ?_, hN.nodup, hN.small⟩, hv⟩, hc _ _ _ _ (by decide) hD.ev, hD.nX, hD.reps.mono fun d k hh => RepD.world hst hh, hD.met, hD.bits, hD.sz, hD.leaves⟩, ⟨hc _ _ _ _ (by decide) hs.sv, hc _ _ _ _ (by decide) hs.mv, hc _ _ _ _ (by decide) hs.nv, hc _ _ _ _ (by decide) hs.xv, hc _ _ _ _ (by decide) hs.kk, hc _ _ _ _ (by decide) hs.wk, hc _ _ _ _ (by decide) hs.kv, hc _ _ _ _ (by decide) hs.av⟩, hK, m, f, ks, hm.keep ?_, h1, h2, h3, h4⟩
  · rcases hty _ _ _ e with h | h <;> cases h
  · obtain ⟨c, hcc⟩ := hN.row.block hk
    rw [hcc]; exact hc _ _ _ _ (by decide) hcc
  · obtain ⟨m, f, hm, h1, h2⟩ := hN.map
    obtain ⟨es, clk, ho⟩ := hm.obj
    exact ⟨m, f, hm.keep ((hmap _ _ _ ho).trans ho.symm), h1, h2⟩
  · obtain ⟨es, clk, ho⟩ := hm.obj
    exact (hmap _ _ _ ho).trans ho.symm

def ReaderPost (ns : List (Nd Value)) (root : ARe) (w : World) (e : Ending) (w' : World) : Prop :=
  ∃ (ρ : Rd) (st : Nat) (ts : List D) (en : Nat), e = .returned (rdv ρ st) ∧ Below w.heap.size w w' ∧ Full w' (old w.heap.size) ρ ns.length root ts en ∧ Inr ts st ∧ ∀ u, Lang ts st u ↔ Mt root.re u

/-- Behind mark. -/
theorem reader_end {ρ : Rd} {n0 N : Nat} {root : ARe} {ns : List (Nd Value)} {W w4 : World} {n : Nat} {ts' : List D} {pls' : List Nat} {en' : Nat} (hF : Fx (orK (old N) ρ) W w4) (hD : Dyn w4 (orK (old N) ρ) ρ n0 root ns ts' pls' en') (hs : Stc W ρ) (hKN : N ≤ ρ.K) (hK : MapIs givenT 63 .u64 W ρ.K 0 (fun _ => none)) (hn : ts'[n]? = some (.base root)) :
    Full w4 (old N) ρ n0 root ts' en' ∧ Inr ts' (2 ^ n) ∧ ∀ u, Lang ts' (2 ^ n) u ↔ Mt root.re u := by
  have hone : ∀ m, (2 ^ n).testBit m = true ↔ m = n := fun m => by rw [Nat.testBit_two_pow]; simp [eq_comm]
  refine ⟨⟨⟨ns, pls', hD⟩, hs.fx hF, fun h => absurd h (by show ¬ ρ.K < N; omega), 0, fun _ => none, [], hK.keep (hF.keep _ (.inr rfl)), Nat.le_refl _, List.nodup_nil, fun x hx => (by simp at hx), fun _ _ _ h => (by cases h)⟩, fun m hm => ?_, fun u => ⟨?_, fun h => ⟨n, _, (hone n).2 rfl, hn, h⟩⟩⟩
  · rw [(hone m).1 hm]; exact get_lt hn
  · rintro ⟨m, t, h1, h2, h3⟩
    rw [(hone m).1 h1, hn] at h2
    cases h2
    exact h3

theorem four (w : World) (o1 o2 o3 o4 : Obj) : ((((w.alloc o1).alloc o2).alloc o3).alloc o4).heap[w.heap.size]? = some o1 ∧ ((((w.alloc o1).alloc o2).alloc o3).alloc o4).heap[w.heap.size + 1]? = some o2 ∧ ((((w.alloc o1).alloc o2).alloc o3).alloc o4).heap[w.heap.size + 1 + 1]? = some o3 ∧ ((((w.alloc o1).alloc o2).alloc o3).alloc o4).heap[w.heap.size + 1 + 1 + 1]? = some o4 ∧
    Below w.heap.size w ((((w.alloc o1).alloc o2).alloc o3).alloc o4) ∧ ((((w.alloc o1).alloc o2).alloc o3).alloc o4).heap.size = w.heap.size + 4 := by
  have h1 := heap_alloc_last w o1
  have h2 := heap_alloc_last (w.alloc o1) o2
  have h3 := heap_alloc_last ((w.alloc o1).alloc o2) o3
  have h4 := heap_alloc_last (((w.alloc o1).alloc o2).alloc o3) o4
  rw [show (w.alloc o1).heap.size = w.heap.size + 1 by simp] at h2
  rw [show ((w.alloc o1).alloc o2).heap.size = w.heap.size + 1 + 1 by simp] at h3
  rw [show (((w.alloc o1).alloc o2).alloc o3).heap.size = w.heap.size + 1 + 1 + 1 by simp] at h4
  exact ⟨heap_alloc_old (heap_alloc_old (heap_alloc_old h1)), heap_alloc_old (heap_alloc_old h2), heap_alloc_old h3, h4, ((((Below.refl _ _).alloc (Nat.le_refl _) _).alloc (by simp) _).alloc (by simp; omega) _).alloc (by simp; omega) _, by simp⟩

set_option maxRecDepth 20000 in
set_option maxHeartbeats 2000000 in
theorem newReader_any (sv : Value) (ns : List (Nd Value)) (root : ARe) (w : World) (hL : Lists w 0 sv ns) (hr : Rep (IsCls w) ns root) (he : Rep (IsCls w) ns .eps) (h0 : 0 < ns.length) (hn : ns.length ≤ 200) (hz : root.sz ≤ 200) (hl : root.leaves ≤ 60) (k : Nat) (hk : k = root.ix) :
    Calls Tryd.prog 22 #[sv, .int .i64 k] w (ReaderPost ns root w) := by
  have hmm := @run_makeMap Tryd.prog
  obtain ⟨g, cap, rfl⟩ := own_form hL.1 h0
  have hb0 : Below w.heap.size w (w.alloc (.cells #[.int .u64 0, .nilFunc, .nilFunc] 67)) := (Below.refl _ _).alloc (Nat.le_refl _) _
  have HB0 := hide hb0
  have HR0 := hide (heap_alloc_last w (.cells #[.int .u64 0, .nilFunc, .nilFunc] 67))
  have HC := hide (clone_any (.slice (some ⟨g, 0, none⟩) ns.length cap) ns (w.alloc (.cells #[.int .u64 0, .nilFunc, .nilFunc] 67)) (hL.alloc _) h0 hn)
  have HR := hide hr
  have HE := hide he
  have HKK := hide hk
  clear hL hr he hb0 hk
  go_enter Tryd.func22, Tryd.ntmps22
  go_wp2_with fail
  generalize hW : w.alloc (.cells #[.int .u64 0, .nilFunc, .nilFunc] 67) = w0
  rw [hW] at HB0 HR0 HC
  have hsz0 : w0.heap.size = w.heap.size + 1 := by rw [← hW]; simp
  clear hW
  refine HC.out.mono ?_
  rintro e w1 ⟨sv1, rfl, hB1, hL1⟩
  obtain ⟨g1, cap1, rfl⟩ := own_form hL1.1 h0
  have HB1 := hide hB1
  have HL1 := hide hL1
  clear hB1 hL1 HC
  go_wp2_with fail
  have hJ := MapIs.made pairT 3 .i64 w1
  have hSb := heap_alloc_last (w1.alloc (.map #[] 0)) (.cells #[.slice (some ⟨g1, 0, none⟩) ns.length cap1, .map (some w1.heap.size)] 86)
  have hvb := heap_alloc_last ((w1.alloc (.map #[] 0)).alloc (.cells #[.slice (some ⟨g1, 0, none⟩) ns.length cap1, .map (some w1.heap.size)] 86)) (.cells #[.pointer (some ⟨w1.heap.size + 1, 0, none⟩)] 83)
  have hb1 : Below w1.heap.size w1 (((w1.alloc (.map #[] 0)).alloc (.cells #[.slice (some ⟨g1, 0, none⟩) ns.length cap1, .map (some w1.heap.size)] 86)).alloc (.cells #[.pointer (some ⟨w1.heap.size + 1, 0, none⟩)] 83)) := (((Below.refl _ _).alloc (Nat.le_refl _) _).alloc (by simp) _).alloc (by simp; omega) _
  generalize hW : ((w1.alloc (.map #[] 0)).alloc (.cells #[.slice (some ⟨g1, 0, none⟩) ns.length cap1, .map (some w1.heap.size)] 86)).alloc (.cells #[.pointer (some ⟨w1.heap.size + 1, 0, none⟩)] 83) = wB at hb1 hvb
  have hJB : MapIs pairT 3 .i64 wB w1.heap.size 0 (fun _ => none) := by
    refine hJ.keep ?_
    obtain ⟨es, clk, ho⟩ := hJ.obj
    rw [ho, ← hW]
    exact heap_alloc_old (heap_alloc_old ho)
  have hSB : wB.heap[w1.heap.size + 1]? = some (.cells #[.slice (some ⟨g1, 0, none⟩) ns.length cap1, .map (some w1.heap.size)] 86 (0, 0)) := by
    rw [← hW]; exact heap_alloc_old (by simpa using hSb)
  have hvB : wB.heap[w1.heap.size + 1 + 1]? = some (.cells #[.pointer (some ⟨w1.heap.size + 1, 0, none⟩)] 83 (0, 0)) := by simpa using hvb
  have hszB : wB.heap.size = w1.heap.size + 3 := by rw [← hW]; simp
  clear hW hJ hSb hvb
  have HBB := hide hb1
  have HJB := hide hJB
  have HSB := hide hSB
  have HVB := hide hvB
  clear hb1 hJB hSB hvB
  refine (numbering_any _).mono ?_
  rintro e w2 ⟨M, mv, pl, rfl, hB2, hM1, hM2, hM3, hM4, hM5⟩
  have HB2 := hide hB2
  have HM4 := hide hM4
  have HM5 := hide hM5
  clear hB2 hM5 hM4
  go_wp2_with fail
  obtain ⟨q1, q2, q3, q4, q5, q6⟩ := four w2 (.cells #[.func (.func 47) #[] #[.pointer (some ⟨mv, 0, none⟩), .pointer (some ⟨pl, 0, none⟩)]] 87) (.cells #[.func (.func 48) #[] #[.pointer (some ⟨pl, 0, none⟩)]] 87) (.cells #[.int .u64 0] 63) (.cells #[.func (.func 35) #[] #[.pointer (some ⟨w2.heap.size, 0, none⟩), .pointer (some ⟨w1.heap.size + 1 + 1, 0, none⟩), .pointer (some ⟨w2.heap.size + 1 + 1, 0, none⟩)]] 90)
  generalize hW : (((w2.alloc (.cells #[.func (.func 47) #[] #[.pointer (some ⟨mv, 0, none⟩), .pointer (some ⟨pl, 0, none⟩)]] 87)).alloc (.cells #[.func (.func 48) #[] #[.pointer (some ⟨pl, 0, none⟩)]] 87)).alloc (.cells #[.int .u64 0] 63)).alloc (.cells #[.func (.func 35) #[] #[.pointer (some ⟨w2.heap.size, 0, none⟩), .pointer (some ⟨w1.heap.size + 1 + 1, 0, none⟩), .pointer (some ⟨w2.heap.size + 1 + 1, 0, none⟩)]] 90) = wC at q1 q2 q3 q4 q5 q6
  clear hW
  have Q1 := hide q1
  have Q2 := hide q2
  have Q3 := hide q3
  have Q4 := hide q4
  have Q5 := hide q5
  clear q1 q2 q3 q4 q5
  refine (remember_any _ _).mono ?_
  rintro e w3 ⟨K, kv, wk, rfl, hB3, hK1, hK2, hK3, hK4⟩
  have HB3 := hide hB3
  have HK2 := hide hK2
  have HK3 := hide hK3
  have HK4 := hide hK4
  have c4 := cell_one ((hB3.block _ (lt_of_get Q4.out)).trans Q4.out)
  have c4' := cell_alloc_old c4
  clear hB3 hK4 hK2 hK3
  go_wp2_with fail
  have havb := heap_alloc_last w3 (.cells #[.func (.func 49) #[] #[.pointer (some ⟨kv, 0, none⟩), .pointer (some ⟨wk, 0, none⟩)]] 91)
  have hbD : Below w3.heap.size w3 (w3.alloc (.cells #[.func (.func 49) #[] #[.pointer (some ⟨kv, 0, none⟩), .pointer (some ⟨wk, 0, none⟩)]] 91)) := (Below.refl _ _).alloc (Nat.le_refl _) _
  generalize hW : w3.alloc (.cells #[.func (.func 49) #[] #[.pointer (some ⟨kv, 0, none⟩), .pointer (some ⟨wk, 0, none⟩)]] 91) = W at havb hbD
  clear hW c4 c4'
  have bC := HB3.out.trans (hbD.mono HB3.out.size)
  have b2 := Q5.out.trans (bC.mono Q5.out.size)
  have bB := HB2.out.trans (b2.mono HB2.out.size)
  have b1 := HBB.out.trans (bB.mono HBB.out.size)
  have b0 := HB1.out.trans (b1.mono HB1.out.size)
  have bw := HB0.out.trans (b0.mono HB0.out.size)
  have s01 := HB1.out.size
  have s1B := HBB.out.size
  have sB2 := HB2.out.size
  have s2C := Q5.out.size
  have sC3 := HB3.out.size
  have hstay : Stay w W := Stay.of_below bw
  obtain ⟨ρ, hρ⟩ : ∃ ρ : Rd, ρ = ⟨w1.heap.size + 1, w1.heap.size + 1 + 1, M, mv, pl, w2.heap.size, w2.heap.size + 1, w2.heap.size + 1 + 1, w2.heap.size + 1 + 1 + 1, wk, K, kv, w3.heap.size⟩ := ⟨_, rfl⟩
  have hN2 := HM5.out
  have hM2lt : M < w2.heap.size := by obtain ⟨m, f, hm, _⟩ := hN2.map; exact hm.lt
  have hNW : Nums W M pl (.slice none 0 0) [] := by
    refine ⟨(b2.block _ (lt_of_get hN2.var)).trans hN2.var, hN2.row.keepB (fun k hk => by cases hk), ?_, hN2.nodup, hN2.small⟩
    obtain ⟨m, f, hm, h1, h2⟩ := hN2.map
    exact ⟨m, f, hm.keep (b2.block _ hm.lt), h1, h2⟩
  have hL1 := HL1.out
  have hLW : Lists W w.heap.size (.slice (some ⟨g1, 0, none⟩) ns.length cap1) ns := by
    have h1 := hL1.keep (fun k hk => b1.block k (lt_of_get (hL1.block hk).2.choose_spec))
    obtain ⟨⟨h2, h3⟩, h4⟩ := h1
    refine ⟨⟨h2, ?_⟩, h4⟩
    rcases h3 with h3 | ⟨g, cap, cur, a1, a2, a3⟩
    · exact .inl h3
    · exact .inr ⟨g, cap, cur, a1, by omega, a3⟩
  have hKlt := HK4.out.lt
  have hKW : MapIs givenT 63 .u64 W K 0 (fun _ => none) := HK4.out.keep (hbD.block _ hKlt)
  have hDyn : Dyn W (orK (old w.heap.size) ρ) ρ ns.length root ns [] [] 0 := by
    subst hρ
    exact reader_dyn (J := w1.heap.size) ((bB.block _ (lt_of_get HSB.out)).trans HSB.out) (by show w.heap.size ≤ w1.heap.size + 1; omega) hLW (HJB.out.keep (bB.block _ HJB.out.lt)) (by omega) (by show w1.heap.size ≠ M; omega) (by show w1.heap.size ≠ K; omega) hNW (by show w.heap.size ≤ M; omega) (by show w.heap.size ≤ pl; omega) ((bC.block _ (lt_of_get Q3.out)).trans Q3.out) (by show w.heap.size ≤ w2.heap.size + 1 + 1; omega) hKW (by show M ≠ K; omega) h0 hn (HE.out.world hstay) hz hl
  have hStc : Stc W ρ := by
    subst hρ
    exact ⟨(bB.block _ (lt_of_get HVB.out)).trans HVB.out, (b2.block _ (lt_of_get HM4.out)).trans HM4.out, (bC.block _ (lt_of_get Q1.out)).trans Q1.out, (bC.block _ (lt_of_get Q2.out)).trans Q2.out, (bC.block _ (lt_of_get Q4.out)).trans Q4.out, (hbD.block _ (lt_of_get HK3.out)).trans HK3.out, (hbD.block _ (lt_of_get HK2.out)).trans HK2.out, havb⟩
  have hKρ : ρ.K = K := by rw [hρ]
  have hOld : Old (orK (old w.heap.size) ρ) W := by
    rintro j (hj | rfl)
    · exact Nat.lt_of_lt_of_le hj bw.size
    · rw [hKρ]; exact hKW.lt
  have hRt := HR.out.world hstay
  have HMK := hide (mark_any _ ρ ns.length root ns [] [] 0 (.base root) k W hOld hDyn hStc (by rw [HKK.out]; exact ⟨rfl, hRt.all_lt, hRt⟩) (by simp [met]))
  have HR4 := hide ((b0.block _ (lt_of_get HR0.out)).trans HR0.out)
  have HSTC := hide hStc
  have HKW := hide (hKρ ▸ hKW)
  have HBW := hide bw
  have hKN : w.heap.size ≤ ρ.K := by rw [hKρ]; omega
  have hρ1 : ρ.nv = w2.heap.size := by rw [hρ]
  have hρ2 : ρ.sv = w1.heap.size + 1 + 1 := by rw [hρ]
  have hρ3 : ρ.ev = w2.heap.size + 1 + 1 := by rw [hρ]
  have hρ4 : ρ.av = w3.heap.size := by rw [hρ]
  rw [← hρ3, ← hρ1, ← hρ2, ← hρ4]
  clear hρ hDyn hStc hKW hLW hL1 hNW hN2 hRt hOld hstay bw b0 b1 bB b2 bC hbD havb
  refine HMK.out.mono ?_
  rintro e w4 ⟨n, ts', pls', en', rfl, hF4, hD4, hn4, -⟩
  have hR4 := hF4.stay _ _ _ (by decide) HR4.out
  have g0 : w4.cell? ⟨w.heap.size, 0, none⟩ = some (.int .u64 0) := by simp [World.cell?, hR4]
  have g1' : w4.cell? ⟨w.heap.size, 1, none⟩ = some .nilFunc := by simp [World.cell?, hR4]
  have g2 : w4.cell? ⟨w.heap.size, 2, none⟩ = some .nilFunc := by simp [World.cell?, hR4]
  have z0 : w4.frozen? ⟨w.heap.size, 0, none⟩ = false := by simp [World.frozen?, hR4]
  have z1 : w4.frozen? ⟨w.heap.size, 1, none⟩ = false := by simp [World.frozen?, hR4]
  have z2 : w4.frozen? ⟨w.heap.size, 2, none⟩ = false := by simp [World.frozen?, hR4]
  have HEND := hide (reader_end hF4 hD4 HSTC.out hKN HKW.out hn4)
  have HF4 := hide hF4
  have HR5 := hide hR4
  clear hF4 hD4 hn4 hR4 HMK
  go_wp2_with fail
  refine bodyPost_ret (v := .agg #[.int .u64 (2 ^ n), .func (.func 39) #[] #[.pointer (some ⟨w3.heap.size, 0, none⟩)], .func (.func 41) #[] #[.pointer (some ⟨w2.heap.size + 1 + 1, 0, none⟩)]]) (by simp [results, Tryd.results22, go_sem, *]) rfl ?_
  refine ⟨ρ, 2 ^ n, ts', en', by simp [rdv, hρ3, hρ4], ?_, HEND.out.1.other (fun j o ho hne => ?_), HEND.out.2⟩
  · have hbx : Below w.heap.size W w4 := ⟨HF4.out.os, HF4.out.tape, HF4.out.output, HF4.out.size, fun j hj => HF4.out.keep j (.inl hj)⟩
    exact (((HBW.out.trans hbx).setCell (Nat.le_refl _) _).setCell (Nat.le_refl _) _).setCell (Nat.le_refl _) _
  · have hj : j ≠ w.heap.size := by
      rintro rfl
      rw [HR5.out] at ho
      cases ho
      exact hne _ _ rfl
    rw [Below.heap_setCell _ _ _ _ (by exact hj), Below.heap_setCell _ _ _ _ (by exact hj), Below.heap_setCell _ _ _ _ (by exact hj)]
    exact ho
end Go.Proofs.YtjjeomcojobjhaaDoor
