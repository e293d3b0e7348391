/- Put together from Rx, R14. -/
import Derived.Test.YtgncgdkpkkdaeaaDoorRN
import Derived.RangeFuncNested
import Derived.Test.YtgncgdkpkkdaeaaDoorIm
/- A reader beside what others change. -/
namespace Go.Proofs.YtgncgdkpkkdaeaaDoor
open Go.RowKit Tint Go.Maps

/-- A finder's value. -/
def fnv (ρ : Rd) (st : Nat) (ρb : Rd) (sb : Nat) : Value := .agg #[.int .u64 st, .func (.func 39) #[] #[.pointer (some ⟨ρ.av, 0, none⟩)], .func (.func 41) #[] #[.pointer (some ⟨ρ.ev, 0, none⟩)], .int .u64 sb, .func (.func 39) #[] #[.pointer (some ⟨ρb.av, 0, none⟩)], .func (.func 41) #[] #[.pointer (some ⟨ρb.ev, 0, none⟩)]]

/-- Only what is in Y has changed, and nothing that is written once. -/
def Off (Y : Nat → Prop) (w w' : World) : Prop := Fx (fun k => k < w.heap.size ∧ ¬ Y k) w w'

theorem Off.refl (Y : Nat → Prop) (w : World) : Off Y w w := Fx.refl _ _

theorem Off.trans {Y : Nat → Prop} {a b c : World} (h : Off Y a b) (k : Off Y b c) : Off Y a c :=
  ⟨k.os.trans h.os, k.tape.trans h.tape, k.output.trans h.output, Nat.le_trans h.size k.size, fun i hi => (k.keep i ⟨Nat.lt_of_lt_of_le hi.1 h.size, hi.2⟩).trans (h.keep i hi), fun i x t ht hh => k.stay i x t ht (h.stay i x t ht hh)⟩

theorem Off.sub {Y Z : Nat → Prop} {w w' : World} (h : Off Y w w') (hs : ∀ k, k < w.heap.size → Y k → Z k) : Off Z w w' := Fx.sub h fun k hk => ⟨hk.1, fun hy => hk.2 (hs k hk.1 hy)⟩

theorem Off.same {Y : Nat → Prop} {w w' : World} (h : Off Y w w') {k : Nat} {o : Obj} (hk : w.heap[k]? = some o) (hy : ¬ Y k) : w'.heap[k]? = some o := (h.keep k ⟨lt_of_get hk, hy⟩).trans hk

theorem Off.of_below {Y : Nat → Prop} {w w' : World} (h : Below w.heap.size w w') : Off Y w w' := Fx.of_below (fun _ hk => hk.1) h

theorem Off.putObj {Y : Nat → Prop} {w : World} {l : Nat} {r : Loop} (o : Obj) (hl : w.heap[l]? = some (.loop r)) (hy : Y l) : Off Y w (w.putObj l o) :=
  ⟨rfl, rfl, rfl, by simp, fun k hk => World.putObj_heap_other (fun e => hk.2 (e ▸ hy)), fun k c t _ hh => (World.putObj_heap_other (fun e => by rw [e, hl] at hh; cases hh)).trans hh⟩

theorem Off.setCell {Y : Nat → Prop} {w : World} {p : Addr} {c : Array Value} {t : TypeId} {fz : Nat × Nat} (hp : Y p.block) (hb : w.heap[p.block]? = some (.cells c t fz)) (ht : stable t = false) (u : Value) : Off Y w (w.setCell p u) :=
  (Fx.refl _ _).setCell (fun hk => hk.2 hp) hb ht u

theorem Full.off {w w' : World} {X : Nat → Prop} {ρ : Rd} {n0 : Nat} {root : ARe} {ts : List D} {en : Nat} (h : Full w X ρ n0 root ts en) (ho : Off X w w') : Full w' X ρ n0 root ts en := by
  obtain ⟨⟨ns, pls, hD⟩, hs, hK, m, f, ks, hm, h1, h2, h3, h4⟩ := h
  have hk : ∀ (k : Nat) o, ¬ X k → w.heap[k]? = some o → w'.heap[k]? = some o := fun k o hx hh => ho.same hh hx
  have hst : Stay w w' := Fx.staying ho
  obtain ⟨pv, hN, hv⟩ := hD.nums
  refine ⟨⟨ns, pls, hD.shelf.keep hst (fun k o hnp ho _ => hk k o (fun hx => hnp (.inl (.inl hx))) ho) (fun _ h => .inl h), ⟨pv, ⟨hk _ _ (fun hx => hD.nX.2.1 (.inl hx)) hN.var, hN.row.keepB fun k hb => ?_, ?_, hN.nodup, hN.small⟩, hv⟩, hk _ _ (fun hx => hD.nX.2.2 (.inl hx)) hD.ev, hD.nX, hD.reps.mono fun d k hh => RepD.world hst hh, hD.met, hD.bits, hD.sz, hD.leaves⟩, hs.fx ho, hK, m, f, ks, hm.keep (ho.keep _ ⟨hm.lt, hK⟩), h1, h2, h3, h4⟩
  · obtain ⟨c, hcc⟩ := hN.row.block hb
    rw [hcc]; exact hk _ _ (fun hx => hv k hb (.inl hx)) hcc
  · obtain ⟨m, f, hm, h1, h2⟩ := hN.map
    exact ⟨m, f, hm.keep (ho.keep _ ⟨hm.lt, fun hx => hD.nX.1 (.inl hx)⟩), h1, h2⟩

/-- What is not yet there is foreign to a reader. -/
theorem Full.wider {w : World} {X Z : Nat → Prop} {ρ : Rd} {n0 : Nat} {root : ARe} {ts : List D} {en : Nat} (h : Full w X ρ n0 root ts en) (hZ : ∀ k, Z k → X k ∨ w.heap.size ≤ k) : Full w Z ρ n0 root ts en := by
  obtain ⟨⟨ns, pls, hD⟩, hs, hK, m, f, ks, hm, h1⟩ := h
  have hno : ∀ (k : Nat) o, w.heap[k]? = some o → ¬ X k → ¬ Z k := fun k o hh hx hz => (hZ k hz).elim hx (fun h => by have := lt_of_get hh; omega)
  have hKl := hm.lt
  have hnK : ¬ Z ρ.K := fun hz => (hZ _ hz).elim hK (fun h => by omega)
  have hor : ∀ (k : Nat) o, w.heap[k]? = some o → ¬ orK X ρ k → ¬ orK Z ρ k := fun k o hh hx hz => by
    rcases hz with hz | hz
    · exact hno k o hh (fun h => hx (.inl h)) hz
    · exact hx (.inr hz)
  obtain ⟨pv, hN, hv⟩ := hD.nums
  obtain ⟨mM, fM, hmM, _⟩ := hN.map
  obtain ⟨es, clk, hMo⟩ := hmM.obj
  refine ⟨⟨ns, pls, hD.shelf.keep (Stay.refl _) (fun _ _ _ h _ => h) (fun k hk => ?_), ⟨pv, hN, fun k hk => ?_⟩, hD.ev, ⟨hor _ _ hMo hD.nX.1, hor _ _ hN.var hD.nX.2.1, hor _ _ hD.ev hD.nX.2.2⟩, hD.reps, hD.met, hD.bits, hD.sz, hD.leaves⟩, hs, hnK, m, f, ks, hm, h1⟩
  · rcases hk with (hk | hk) | hk
    · rcases hZ k hk with h | h
      · exact .inl (.inl (.inl h))
      · exact .inr fun o ho => absurd (lt_of_get ho) (by omega)
    · exact .inl (.inl (.inr hk))
    · exact .inl (.inr hk)
  · obtain ⟨c, hcc⟩ := hN.row.block hk
    exact hor _ _ hcc (hv k hk)

/-! ## A reader by the blocks that are its own -/

/-- All but O. -/
def cpl (O : Nat → Prop) (w : World) : Nat → Prop := fun k => k < w.heap.size ∧ ¬ O k

/-- O, and what is new. -/
def grow (O : Nat → Prop) (w w' : World) : Nat → Prop := fun k => O k ∨ (w.heap.size ≤ k ∧ k < w'.heap.size)

/-- A reader of the tree a whose own blocks are among O. -/
structure RdIs (w : World) (O : Nat → Prop) (a : ARe) (ρ : Rd) (st : Nat) : Prop where
  old : ∀ k, O k → k < w.heap.size
  tab : ¬ O 0 ∧ 0 < w.heap.size
  full : ∃ n0 ts en, Full w (cpl O w) ρ n0 a ts en ∧ Inr ts st ∧ ∀ u, Lang ts st u ↔ Mt a.re u

theorem cpl_old (O : Nat → Prop) (w : World) : Old (cpl O w) w := fun _ hk => hk.1

theorem Off.of_cpl {O : Nat → Prop} {w w' : World} (h : Fx (cpl O w) w w') : Off O w w' := h

/-- Behind what changed only what is not its own. -/
theorem RdIs.off {w w' : World} {O Y : Nat → Prop} {a : ARe} {ρ : Rd} {st : Nat} (h : RdIs w O a ρ st) (ho : Off Y w w') (hd : ∀ k, O k → ¬ Y k) : RdIs w' O a ρ st := by
  obtain ⟨n0, ts, en, hF, hi, hl⟩ := h.full
  have hw : Full w (cpl O w') ρ n0 a ts en := hF.wider fun k hk => by
    rcases Nat.lt_or_ge k w.heap.size with hlt | hge
    · exact .inl ⟨hlt, hk.2⟩
    · exact .inr hge
  exact ⟨fun k hk => Nat.lt_of_lt_of_le (h.old k hk) ho.size, ⟨h.tab.1, Nat.lt_of_lt_of_le h.tab.2 ho.size⟩, n0, ts, en, hw.off (ho.sub fun k hk hy => ⟨Nat.lt_of_lt_of_le hk ho.size, fun h => hd k h hy⟩), hi, hl⟩

theorem RdIs.grown {w w' : World} {O : Nat → Prop} {a : ARe} {ρ : Rd} {n0 : Nat} {ts us : List D} {en st : Nat} (h : RdIs w O a ρ st) (hF : Fx (cpl O w) w w') (hFu : Full w' (cpl O w) ρ n0 a (ts ++ us) en) (hi : Inr ts st) (hl : ∀ u, Lang ts st u ↔ Mt a.re u) : RdIs w' (grow O w w') a ρ st := by
  refine ⟨fun k hk => hk.elim (fun h1 => Nat.lt_of_lt_of_le (h.old k h1) hF.size) (fun h => h.2), ⟨fun hk => hk.elim h.tab.1 (fun h1 => by have := h.tab.2; omega), Nat.lt_of_lt_of_le h.tab.2 hF.size⟩, n0, ts ++ us, en, hFu.wider fun k hk => ?_, hi.append, fun u => (Lang.append hi u).trans (hl u)⟩
  refine .inl ⟨?_, fun h => hk.2 (.inl h)⟩
  rcases Nat.lt_or_ge k w.heap.size with hlt | hge
  · exact hlt
  · exact absurd (.inr ⟨hge, hk.1⟩) hk.2
end Go.Proofs.YtgncgdkpkkdaeaaDoor

/- The end of the longest match. -/
namespace Go.Proofs.YtgncgdkpkkdaeaaDoor
open Go.RowKit Tint Go.Maps

def LongPost (X : Nat → Prop) (ρ : Rd) (n0 : Nat) (root : ARe) (ts : List D) (T : List UInt8) (s : Nat) (w : World) (e : Ending) (w' : World) : Prop :=
  ∃ (stop : Nat) (us : List D) (en' : Nat), e = .returned (.int .i64 stop) ∧ Fx X w w' ∧ Full w' X ρ n0 root (ts ++ us) en' ∧ s ≤ stop ∧ stop ≤ T.length ∧ (stop = s ∨ Mt root.re (seg T s stop)) ∧ ∀ j, stop < j → j ≤ T.length → ¬ Mt root.re (seg T s j)

def LongLoop (X : Nat → Prop) (ρ : Rd) (n0 : Nat) (root : ARe) (ts : List D) (T : List UInt8) (s : Nat) (w : World) (k : Nat) (stop left at_ : Value) (wr : World) : Prop :=
  ∃ (p L i : Nat) (us : List D) (en' : Nat), stop = .int .i64 p ∧ left = .int .u64 L ∧ at_ = .int .i64 i ∧ i + k = T.length ∧ s ≤ i ∧ Fx X w wr ∧ Full wr X ρ n0 root (ts ++ us) en' ∧ Inr (ts ++ us) L ∧ (∀ u, Lang (ts ++ us) L u ↔ Mt root.re (seg T s i ++ u)) ∧
    s ≤ p ∧ p ≤ i ∧ (p = s ∨ Mt root.re (seg T s p)) ∧ ∀ j, p < j → j < i → ¬ Mt root.re (seg T s j)

/-- One byte on. -/
theorem long_step {X : Nat → Prop} {ρ : Rd} {n0 : Nat} {root : ARe} {ts us us' : List D} {T : List UInt8} {s k p p' L R i en' : Nat} {b : UInt8} {w wr w3 : World} (hk : i + (k + 1) = T.length) (hs : s ≤ i) (hF : Fx X w wr) (hl : ∀ u, Lang (ts ++ us) L u ↔ Mt root.re (seg T s i ++ u)) (hp : s ≤ p) (hpi : p ≤ i) (hm : p = s ∨ Mt root.re (seg T s p)) (hn : ∀ j, p < j → j < i → ¬ Mt root.re (seg T s j))
    (hx : (Lang (ts ++ us) L [] → p' = i) ∧ (¬ Lang (ts ++ us) L [] → p' = p)) (hb : T[i]? = some b) (hF3 : Fx X wr w3) (hFu : Full w3 X ρ n0 root (ts ++ us ++ us') en') (hR : Inr (ts ++ us ++ us') R) (hRl : ∀ u, Lang (ts ++ us ++ us') R u ↔ Lang (ts ++ us) L (b :: u)) :
    LongLoop X ρ n0 root ts T s w k (.int .i64 p') (.int .u64 R) (.int .i64 ((i + 1 : Nat) : Int)) w3 := by
  have e1 : ∀ u, seg T s (i + 1) ++ u = seg T s i ++ b :: u := fun u => by
    rw [seg_append T hs (Nat.le_succ i), seg_one T hb]; simp
  have e0 : Lang (ts ++ us) L [] ↔ Mt root.re (seg T s i) := by rw [hl]; simp
  rw [List.append_assoc] at hFu hR hRl
  refine ⟨p', R, i + 1, us ++ us', en', rfl, rfl, rfl, by omega, by omega, hF.trans hF3, hFu, hR, fun u => ?_, ?_⟩
  · rw [hRl, hl, e1]
  · by_cases hc : Lang (ts ++ us) L []
    · have hx := hx.1 hc
      subst hx
      exact ⟨hs, by omega, .inr (e0.1 hc), fun j h1 h2 => by omega⟩
    · have hx := hx.2 hc
      subst hx
      refine ⟨hp, by omega, hm, fun j h1 h2 => ?_⟩
      rcases Nat.lt_or_ge j i with h | h
      · exact hn j h1 h
      · have : j = i := by omega
        subst this
        exact fun h => hc (e0.2 h)

/-- Nothing is left, or no byte. -/
theorem long_end {X : Nat → Prop} {ρ : Rd} {n0 : Nat} {root : ARe} {ts us : List D} {T : List UInt8} {s k p p' L i en' : Nat} {w wr : World} (hk : i + k = T.length) (hs : s ≤ i) (hF : Fx X w wr) (hFu : Full wr X ρ n0 root (ts ++ us) en') (hl : ∀ u, Lang (ts ++ us) L u ↔ Mt root.re (seg T s i ++ u)) (hp : s ≤ p) (hpi : p ≤ i) (hm : p = s ∨ Mt root.re (seg T s p)) (hn : ∀ j, p < j → j < i → ¬ Mt root.re (seg T s j))
    (hx : (Lang (ts ++ us) L [] → p' = i) ∧ (¬ Lang (ts ++ us) L [] → p' = p)) (hend : L = 0 ∨ i = T.length) : LongPost X ρ n0 root ts T s w (.returned (.int .i64 p')) wr := by
  have e0 : Lang (ts ++ us) L [] ↔ Mt root.re (seg T s i) := by rw [hl]; simp
  have hgt : ∀ j, i < j → j ≤ T.length → ¬ Mt root.re (seg T s j) := fun j h1 h2 h3 => by
    rcases hend with rfl | rfl
    · rw [seg_append T hs (Nat.le_of_lt h1), ← hl] at h3
      obtain ⟨m, t, h4, _⟩ := h3
      simp at h4
    · omega
  refine ⟨p', us, en', rfl, hF, hFu, ?_⟩
  by_cases hc : Lang (ts ++ us) L []
  · have hx := hx.1 hc
    subst hx
    exact ⟨hs, by omega, .inr (e0.1 hc), hgt⟩
  · have hx := hx.2 hc
    subst hx
    refine ⟨hp, by omega, hm, fun j h1 h2 => ?_⟩
    rcases Nat.lt_trichotomy j i with h | h | h
    · exact hn j h1 h
    · subst h
      exact fun h => hc (e0.2 h)
    · exact hgt j h h2

theorem LongPost.below {X : Nat → Prop} {ρ : Rd} {n0 : Nat} {root : ARe} {ts : List D} {T : List UInt8} {s : Nat} {w w0 wr : World} {e : Ending} (h : LongPost X ρ n0 root ts T s w0 e wr) (hX : Old X w) (hb : Below w.heap.size w w0) : LongPost X ρ n0 root ts T s w e wr := by
  obtain ⟨stop, us, en', h1, h2, h3⟩ := h
  exact ⟨stop, us, en', h1, (Fx.of_below hX hb).trans h2, h3⟩

set_option maxHeartbeats 2000000 in
theorem longest_any (X : Nat → Prop) (ρ : Rd) (n0 : Nat) (root : ARe) (ts : List D) (en : Nat) (st : Nat) (ρb : Rd) (sb : Nat) (text : ByteArray) (s : Nat) (w : World) (hX : Old X w) (h0 : X 0) (hT : Tab w) (hF : Full w X ρ n0 root ts en) (hi : Inr ts st) (hl : ∀ u, Lang ts st u ↔ Mt root.re u) (hs : s ≤ text.size) (hsz : text.size ≤ maxLen) :
    Calls Tryd.prog 26 #[fnv ρ st ρb sb, .string text, .int .i64 s] w (LongPost X ρ n0 root ts text.data.toList s w) := by
  have hb : Below w.heap.size w (w.alloc (.cells #[.int .u64 st, .func (.func 39) #[] #[.pointer (some ⟨ρ.av, 0, none⟩)], .func (.func 41) #[] #[.pointer (some ⟨ρ.ev, 0, none⟩)], .int .u64 sb, .func (.func 39) #[] #[.pointer (some ⟨ρb.av, 0, none⟩)], .func (.func 41) #[] #[.pointer (some ⟨ρb.ev, 0, none⟩)]] 49)) := (Below.refl _ _).alloc (Nat.le_refl _) _
  have HB := hide hb
  have HO := hide (heap_alloc_last w (.cells #[.int .u64 st, .func (.func 39) #[] #[.pointer (some ⟨ρ.av, 0, none⟩)], .func (.func 41) #[] #[.pointer (some ⟨ρ.ev, 0, none⟩)], .int .u64 sb, .func (.func 39) #[] #[.pointer (some ⟨ρb.av, 0, none⟩)], .func (.func 41) #[] #[.pointer (some ⟨ρb.ev, 0, none⟩)]] 49))
  have HX := hide hX
  have HX1 := hide (hX.mono hb.size)
  have H0 := hide h0
  have HT := hide (hT.keep (hb.block 0 (hX 0 h0)))
  have HF := hide (hF.below hb)
  have HI := hide hi
  have HL := hide hl
  clear hX h0 hT hF hi hl hb
  unfold fnv
  go_enter Tryd.func26, Tryd.ntmps26
  go_wp2_with fail
  generalize hW : w.alloc (.cells #[.int .u64 st, .func (.func 39) #[] #[.pointer (some ⟨ρ.av, 0, none⟩)], .func (.func 41) #[] #[.pointer (some ⟨ρ.ev, 0, none⟩)], .int .u64 sb, .func (.func 39) #[] #[.pointer (some ⟨ρb.av, 0, none⟩)], .func (.func 41) #[] #[.pointer (some ⟨ρb.ev, 0, none⟩)]] 49) = w0
  rw [hW] at HB HO HX1 HT HF
  clear hW
  go_loopg [7, 8, 9] (text.size - s) (fun k stop left at_ wr => LongLoop X ρ n0 root ts text.data.toList s w0 k stop left at_ wr)
  case atStart =>
    exact ⟨s, st, s, [], en, rfl, rfl, rfl, by rw [text_length]; omega, Nat.le_refl _, Fx.refl _ _, by simpa using HF.out, by simpa using HI.out, by simpa [seg_self] using HL.out, Nat.le_refl _, Nat.le_refl _, .inl rfl, fun j h1 h2 => by omega⟩
  case round =>
    obtain ⟨p, L, i, us, en', rfl, rfl, rfl, hk, hsi, hFx, hFu, hL, hl, hp, hpi, hm, hn⟩ := hrel
    have hbox := hFx.stay _ _ _ (by decide) HO.out
    have r1 : wr.cell? ⟨w.heap.size, 1, none⟩ = some (.func (.func 39) #[] #[.pointer (some ⟨ρ.av, 0, none⟩)]) := by simp [World.cell?, hbox]
    have r2 : wr.cell? ⟨w.heap.size, 2, none⟩ = some (.func (.func 41) #[] #[.pointer (some ⟨ρ.ev, 0, none⟩)]) := by simp [World.cell?, hbox]
    have hnl : L = 0 → ¬ Lang (ts ++ us) L [] := by rintro rfl ⟨m, t, h4, _⟩; simp at h4
    by_cases hL0 : L = 0
    · have HEND := hide ((long_end hk hsi hFx hFu hl hp hpi hm hn (p' := p) ⟨fun h => absurd h (hnl hL0), fun _ => rfl⟩ (.inl hL0)).below HX.out HB.out)
      subst hL0
      clear hFx hFu hL hl hp hpi hm hn hbox
      go_wp2_with fail
      go_ret
      exact HEND.out
    · have hL0' : ((L : Int) == 0) = false := by rw [beq_eq_false_iff_ne]; omega
      have HEN := hide (ends4_any X ρ n0 root (ts ++ us) en' L wr hFu hL)
      have hk' : i ≤ text.size := by rw [text_length] at hk; omega
      have HK := hide hk
      have HFx := hide hFx
      have HFu := hide hFu
      have HLr := hide hL
      have Hl := hide hl
      have Hp := hide hp
      have Hpi := hide hpi
      have Hm := hide hm
      have Hn := hide hn
      clear hFx hFu hL hl hp hpi hm hn hbox hk hnl
      go_wp2_with fail
      refine HEN.out.mono ?_
      rintro e w1 ⟨x, rfl, rfl, hx⟩
      cases x with
      | true =>
        by_cases hat : i = text.size
        · have HEND := hide ((long_end HK.out hsi HFx.out HFu.out Hl.out Hp.out Hpi.out Hm.out Hn.out (p' := i) ⟨fun _ => rfl, fun h => absurd (hx.1 rfl) h⟩ (.inr (by rw [text_length]; exact hat))).below HX.out HB.out)
          have hat' : ((i : Int) == (text.size : Int)) = true := by rw [beq_iff_eq]; omega
          clear HEN HK HFx HFu HLr Hl Hp Hpi Hm Hn hx hat
          go_wp2_with fail
          go_ret
          exact HEND.out
        · have hlt : i < text.size := by omega
          have hat' : ((i : Int) == (text.size : Int)) = false := by rw [beq_eq_false_iff_ne]; omega
          have hi1 : i + 1 ≤ 9223372036854775807 := by unfold maxLen at hsz; omega
          have HGV := hide (give3_any X ρ n0 root (ts ++ us) en' L text[i] w1.drew (HX1.out.fx HFx.out.drew) H0.out (HT.out.keep (HFx.out.drew.keep 0 H0.out)) (HFu.out.below (Below.refl _ _).drew) HLr.out)
          have HTG := hide (text_get hlt)
          have HXX := hide (hx.1 rfl)
          clear HEN hx hat
          go_wp2_with fail
          go_region_with (first
            | (go_at_call 39; refine HGV.out.mono ?_; rintro e3 w3 ⟨R, us', en3, rfl, hF3, hFu3, hR3, hl3⟩; obtain ⟨k', hk3⟩ : ∃ k', gk = k' + 1 := ⟨gk - 1, by have := HK.out; rw [text_length] at this; omega⟩; have HST := hide (long_step (hk3 ▸ HK.out) hsi HFx.out Hl.out Hp.out Hpi.out Hm.out Hn.out (p' := i) ⟨fun _ => rfl, fun h => absurd HXX.out h⟩ HTG.out hF3.undrew hFu3 hR3 hl3); clear hF3 hFu3 hR3 hl3))
          all_goals
            go_wp2_with fail
            go_roundg k'
            case measure => omega
            case rel => exact HST.out
      | false =>
        by_cases hat : i = text.size
        · have HEND := hide ((long_end HK.out hsi HFx.out HFu.out Hl.out Hp.out Hpi.out Hm.out Hn.out (p' := p) ⟨fun h => absurd (hx.2 h) (by simp), fun _ => rfl⟩ (.inr (by rw [text_length]; exact hat))).below HX.out HB.out)
          have hat' : ((i : Int) == (text.size : Int)) = true := by rw [beq_iff_eq]; omega
          clear HEN HK HFx HFu HLr Hl Hp Hpi Hm Hn hx hat
          go_wp2_with fail
          go_ret
          exact HEND.out
        · have hlt : i < text.size := by omega
          have hat' : ((i : Int) == (text.size : Int)) = false := by rw [beq_eq_false_iff_ne]; omega
          have hi1 : i + 1 ≤ 9223372036854775807 := by unfold maxLen at hsz; omega
          have HGV := hide (give3_any X ρ n0 root (ts ++ us) en' L text[i] w1.drew (HX1.out.fx HFx.out.drew) H0.out (HT.out.keep (HFx.out.drew.keep 0 H0.out)) (HFu.out.below (Below.refl _ _).drew) HLr.out)
          have HTG := hide (text_get hlt)
          have HXX := hide (show ¬ Lang (ts ++ us) L [] from fun h => by simpa using hx.2 h)
          clear HEN hx hat
          go_wp2_with fail
          go_region_with (first
            | (go_at_call 39; refine HGV.out.mono ?_; rintro e3 w3 ⟨R, us', en3, rfl, hF3, hFu3, hR3, hl3⟩; obtain ⟨k', hk3⟩ : ∃ k', gk = k' + 1 := ⟨gk - 1, by have := HK.out; rw [text_length] at this; omega⟩; have HST := hide (long_step (hk3 ▸ HK.out) hsi HFx.out Hl.out Hp.out Hpi.out Hm.out Hn.out (p' := p) ⟨fun h => absurd h HXX.out, fun _ => rfl⟩ HTG.out hF3.undrew hFu3 hR3 hl3); clear hF3 hFu3 hR3 hl3))
          all_goals
            go_wp2_with fail
            go_roundg k'
            case measure => omega
            case rel => exact HST.out
end Go.Proofs.YtgncgdkpkkdaeaaDoor
