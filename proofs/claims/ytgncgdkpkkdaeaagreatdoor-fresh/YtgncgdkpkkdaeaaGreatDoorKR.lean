import Derived.Test.YtgncgdkpkkdaeaaGreatDoorKQ
import Derived.RangeFuncNested
import Derived.Test.YtgncgdkpkkdaeaaGreatDoorKK
import Derived.Maps.AppendAt
import Derived.Lib.BufferMore
namespace Go.Proofs.YtgncgdkpkkdaeaaGreatDoor
open Go.RowKit Tint Go.Maps
def fnv (ρ : Rd) (st : Nat) (ρb : Rd) (sb : Nat) : Value := .agg #[.int .u64 st, .func (.func 179) #[] #[.pointer (some ⟨ρ.av, 0, none⟩)], .func (.func 181) #[] #[.pointer (some ⟨ρ.ev, 0, none⟩)], .int .u64 sb, .func (.func 179) #[] #[.pointer (some ⟨ρb.av, 0, none⟩)], .func (.func 181) #[] #[.pointer (some ⟨ρb.ev, 0, none⟩)]]
def Off (Y : Nat → Prop) (w w' : World) : Prop := Fx (fun k => k < w.heap.size ∧ ¬ Y k) w w'
theorem Off.refl (Y : Nat → Prop) (w : World) : Off Y w w := Fx.refl _ _
theorem Off.trans {Y : Nat → Prop} {a b c : World} (h : Off Y a b) (k : Off Y b c) : Off Y a c :=
 ⟨k.os.trans h.os, k.tape.trans h.tape, k.output.trans h.output, Nat.le_trans h.size k.size, fun i hi => (k.keep i ⟨Nat.lt_of_lt_of_le hi.1 h.size, hi.2⟩).trans (h.keep i hi), fun i x t ht hh => k.stay i x t ht (h.stay i x t ht hh)⟩
theorem Off.sub {Y Z : Nat → Prop} {w w' : World} (h : Off Y w w') (hs : ∀ k, k < w.heap.size → Y k → Z k) : Off Z w w' := Fx.sub h fun k hk => ⟨hk.1, fun hy => hk.2 (hs k hk.1 hy)⟩
theorem Off.same {Y : Nat → Prop} {w w' : World} (h : Off Y w w') {k : Nat} {o : Obj} (hk : w.heap[k]? = some o) (hy : ¬ Y k) : w'.heap[k]? = some o := (h.keep k ⟨lt_of_get hk, hy⟩).trans hk
theorem Off.of_below {Y : Nat → Prop} {w w' : World} (h : Below w.heap.size w w') : Off Y w w' := Fx.of_below (fun _ hk => hk.1) h
theorem Off.putObj {Y : Nat → Prop} {w : World} {l : Nat} {r : Loop} (o : Obj) (hl : w.heap[l]? = some (.loop r)) (hy : Y l) : Off Y w (w.putObj l o) :=
 ⟨rfl, rfl, rfl, by simp, fun k hk => World.putObj_heap_other (fun e => hk.2 (e ▸ hy)), fun k c t _ hh => (World.putObj_heap_other (fun e => by rw [e, hl] at hh; cases hh)).trans hh⟩
theorem Off.setCell {Y : Nat → Prop} {w : World} {p : Addr} {c : Array Value} {t : TypeId} {fz : Nat × Nat} (hp : Y p.block) (hb : w.heap[p.block]? = some (.cells c t fz)) (ht : stable t = false) (u : Value) : Off Y w (w.setCell p u) :=
 (Fx.refl _ _).setCell (fun hk => hk.2 hp) hb ht u
theorem Full.off {w w' : World} {X : Nat → Prop} {ρ : Rd} {n0 : Nat} {root : ARe} {ts : List D} {en : Nat} (h : Full w X ρ n0 root ts en) (ho : Off X w w') : Full w' X ρ n0 root ts en := by
 obtain ⟨⟨ns, pls, hD⟩, hs, hK, m, f, ks, hm, h1, h2, h3, h4⟩ := h
 have hk : ∀ (k : Nat) o, ¬ X k → w.heap[k]? = some o → w'.heap[k]? = some o := fun k o hx hh => ho.same hh hx
 have hst : Stay w w' := Fx.staying ho
 obtain ⟨pv, hN, hv⟩ := hD.nums
 refine ⟨⟨ns, pls, hD.shelf.keep hst (fun k o hnp ho _ => hk k o (fun hx => hnp (.inl (.inl hx))) ho) (fun _ h => .inl h), ⟨pv, ⟨hk _ _ (fun hx => hD.nX.2.1 (.inl hx)) hN.var, hN.row.keepB fun k hb => ?_, ?_, hN.nodup, hN.small⟩, hv⟩, hk _ _ (fun hx => hD.nX.2.2 (.inl hx)) hD.ev, hD.nX, hD.reps.mono fun d k hh => RepD.world hst hh, hD.met, hD.bits, hD.sz, hD.leaves⟩, hs.fx ho, hK, m, f, ks, hm.keep (ho.keep _ ⟨hm.lt, hK⟩), h1, h2, h3, h4⟩
 ·obtain ⟨c, hcc⟩ := hN.row.block hb
  rw [hcc]; exact hk _ _ (fun hx => hv k hb (.inl hx)) hcc
 ·obtain ⟨m, f, hm, h1, h2⟩ := hN.map
  exact ⟨m, f, hm.keep (ho.keep _ ⟨hm.lt, fun hx => hD.nX.1 (.inl hx)⟩), h1, h2⟩
theorem Full.wider {w : World} {X Z : Nat → Prop} {ρ : Rd} {n0 : Nat} {root : ARe} {ts : List D} {en : Nat} (h : Full w X ρ n0 root ts en) (hZ : ∀ k, Z k → X k ∨ w.heap.size ≤ k) : Full w Z ρ n0 root ts en := by
 obtain ⟨⟨ns, pls, hD⟩, hs, hK, m, f, ks, hm, h1⟩ := h
 have hno : ∀ (k : Nat) o, w.heap[k]? = some o → ¬ X k → ¬ Z k := fun k o hh hx hz => (hZ k hz).elim hx (fun h => by have := lt_of_get hh; omega)
 have hKl := hm.lt
 have hnK : ¬ Z ρ.K := fun hz => (hZ _ hz).elim hK (fun h => by omega)
 have hor : ∀ (k : Nat) o, w.heap[k]? = some o → ¬ orK X ρ k → ¬ orK Z ρ k := fun k o hh hx hz => by
  rcases hz with hz | hz
  ·exact hno k o hh (fun h => hx (.inl h)) hz
  ·exact hx (.inr hz)
 obtain ⟨pv, hN, hv⟩ := hD.nums
 obtain ⟨mM, fM, hmM, _⟩ := hN.map
 obtain ⟨es, clk, hMo⟩ := hmM.obj
 refine ⟨⟨ns, pls, hD.shelf.keep (Stay.refl _) (fun _ _ _ h _ => h) (fun k hk => ?_), ⟨pv, hN, fun k hk => ?_⟩, hD.ev, ⟨hor _ _ hMo hD.nX.1, hor _ _ hN.var hD.nX.2.1, hor _ _ hD.ev hD.nX.2.2⟩, hD.reps, hD.met, hD.bits, hD.sz, hD.leaves⟩, hs, hnK, m, f, ks, hm, h1⟩
 ·rcases hk with (hk | hk) | hk
  ·rcases hZ k hk with h | h
   ·exact .inl (.inl (.inl h))
   ·exact .inr fun o ho => absurd (lt_of_get ho) (by omega)
  ·exact .inl (.inl (.inr hk))
  ·exact .inl (.inr hk)
 ·obtain ⟨c, hcc⟩ := hN.row.block hk
  exact hor _ _ hcc (hv k hk)
def cpl (O : Nat → Prop) (w : World) : Nat → Prop := fun k => k < w.heap.size ∧ ¬ O k
def grow (O : Nat → Prop) (w w' : World) : Nat → Prop := fun k => O k ∨ (w.heap.size ≤ k ∧ k < w'.heap.size)
structure RdIs (w : World) (O : Nat → Prop) (a : ARe) (ρ : Rd) (st : Nat) : Prop where
 old : ∀ k, O k → k < w.heap.size
 tab : ¬ O 1 ∧ 1 < w.heap.size
 full : ∃ n0 ts en, Full w (cpl O w) ρ n0 a ts en ∧ Inr ts st ∧ ∀ u, Lang ts st u ↔ Mt a.re u
theorem cpl_old (O : Nat → Prop) (w : World) : Old (cpl O w) w := fun _ hk => hk.1
theorem Off.of_cpl {O : Nat → Prop} {w w' : World} (h : Fx (cpl O w) w w') : Off O w w' := h
theorem RdIs.off {w w' : World} {O Y : Nat → Prop} {a : ARe} {ρ : Rd} {st : Nat} (h : RdIs w O a ρ st) (ho : Off Y w w') (hd : ∀ k, O k → ¬ Y k) : RdIs w' O a ρ st := by
 obtain ⟨n0, ts, en, hF, hi, hl⟩ := h.full
 have hw : Full w (cpl O w') ρ n0 a ts en := hF.wider fun k hk => by
  rcases Nat.lt_or_ge k w.heap.size with hlt | hge
  ·exact .inl ⟨hlt, hk.2⟩
  ·exact .inr hge
 exact ⟨fun k hk => Nat.lt_of_lt_of_le (h.old k hk) ho.size, ⟨h.tab.1, Nat.lt_of_lt_of_le h.tab.2 ho.size⟩, n0, ts, en, hw.off (ho.sub fun k hk hy => ⟨Nat.lt_of_lt_of_le hk ho.size, fun h => hd k h hy⟩), hi, hl⟩
theorem RdIs.grown {w w' : World} {O : Nat → Prop} {a : ARe} {ρ : Rd} {n0 : Nat} {ts us : List D} {en st : Nat} (h : RdIs w O a ρ st) (hF : Fx (cpl O w) w w') (hFu : Full w' (cpl O w) ρ n0 a (ts ++ us) en) (hi : Inr ts st) (hl : ∀ u, Lang ts st u ↔ Mt a.re u) : RdIs w' (grow O w w') a ρ st := by
 refine ⟨fun k hk => hk.elim (fun h1 => Nat.lt_of_lt_of_le (h.old k h1) hF.size) (fun h => h.2), ⟨fun hk => hk.elim h.tab.1 (fun h1 => by have := h.tab.2; omega), Nat.lt_of_lt_of_le h.tab.2 hF.size⟩, n0, ts ++ us, en, hFu.wider fun k hk => ?_, hi.append, fun u => (Lang.append hi u).trans (hl u)⟩
 refine .inl ⟨?_, fun h => hk.2 (.inl h)⟩
 rcases Nat.lt_or_ge k w.heap.size with hlt | hge
 ·exact hlt
 ·exact absurd (.inr ⟨hge, hk.1⟩) hk.2
def LongPost (X : Nat → Prop) (ρ : Rd) (n0 : Nat) (root : ARe) (ts : List D) (T : List UInt8) (s : Nat) (w : World) (e : Ending) (w' : World) : Prop :=
 ∃ (stop : Nat) (us : List D) (en' : Nat), e = .returned (.int .i64 stop) ∧ Fx X w w' ∧ Full w' X ρ n0 root (ts ++ us) en' ∧ s ≤ stop ∧ stop ≤ T.length ∧ (stop = s ∨ Mt root.re (seg T s stop)) ∧ ∀ j, stop < j → j ≤ T.length → ¬ Mt root.re (seg T s j)
def LongLoop (X : Nat → Prop) (ρ : Rd) (n0 : Nat) (root : ARe) (ts : List D) (T : List UInt8) (s : Nat) (w : World) (k : Nat) (stop left at_ : Value) (wr : World) : Prop :=
 ∃ (p L i : Nat) (us : List D) (en' : Nat), stop = .int .i64 p ∧ left = .int .u64 L ∧ at_ = .int .i64 i ∧ i + k = T.length ∧ s ≤ i ∧ Fx X w wr ∧ Full wr X ρ n0 root (ts ++ us) en' ∧ Inr (ts ++ us) L ∧ (∀ u, Lang (ts ++ us) L u ↔ Mt root.re (seg T s i ++ u)) ∧
  s ≤ p ∧ p ≤ i ∧ (p = s ∨ Mt root.re (seg T s p)) ∧ ∀ j, p < j → j < i → ¬ Mt root.re (seg T s j)
theorem long_step {X : Nat → Prop} {ρ : Rd} {n0 : Nat} {root : ARe} {ts us us' : List D} {T : List UInt8} {s k p p' L R i en' : Nat} {b : UInt8} {w wr w3 : World} (hk : i + (k + 1) = T.length) (hs : s ≤ i) (hF : Fx X w wr) (hl : ∀ u, Lang (ts ++ us) L u ↔ Mt root.re (seg T s i ++ u)) (hp : s ≤ p) (hpi : p ≤ i) (hm : p = s ∨ Mt root.re (seg T s p)) (hn : ∀ j, p < j → j < i → ¬ Mt root.re (seg T s j))
  (hx : (Lang (ts ++ us) L [] → p' = i) ∧ (¬ Lang (ts ++ us) L [] → p' = p)) (hb : T[i]? = some b) (hF3 : Fx X wr w3) (hFu : Full w3 X ρ n0 root (ts ++ us ++ us') en') (hR : Inr (ts ++ us ++ us') R) (hRl : ∀ u, Lang (ts ++ us ++ us') R u ↔ Lang (ts ++ us) L (b :: u)) :
  LongLoop X ρ n0 root ts T s w k (.int .i64 p') (.int .u64 R) (.int .i64 ((i + 1 : Nat) : Int)) w3 := by
 have e1 : ∀ u, seg T s (i + 1) ++ u = seg T s i ++ b :: u := fun u => by
  rw [seg_append T hs (Nat.le_succ i), seg_one T hb]; simp
 have e0 : Lang (ts ++ us) L [] ↔ Mt root.re (seg T s i) := by rw [hl]; simp
 rw [List.append_assoc] at hFu hR hRl
 refine ⟨p', R, i + 1, us ++ us', en', rfl, rfl, rfl, by omega, by omega, hF.trans hF3, hFu, hR, fun u => ?_, ?_⟩
 ·rw [hRl, hl, e1]
 ·by_cases hc : Lang (ts ++ us) L []
  ·have hx := hx.1 hc
   subst hx
   exact ⟨hs, by omega, .inr (e0.1 hc), fun j h1 h2 => by omega⟩
  ·have hx := hx.2 hc
   subst hx
   refine ⟨hp, by omega, hm, fun j h1 h2 => ?_⟩
   rcases Nat.lt_or_ge j i with h | h
   ·exact hn j h1 h
   ·have : j = i := by omega
    subst this
    exact fun h => hc (e0.2 h)
theorem long_end {X : Nat → Prop} {ρ : Rd} {n0 : Nat} {root : ARe} {ts us : List D} {T : List UInt8} {s k p p' L i en' : Nat} {w wr : World} (hk : i + k = T.length) (hs : s ≤ i) (hF : Fx X w wr) (hFu : Full wr X ρ n0 root (ts ++ us) en') (hl : ∀ u, Lang (ts ++ us) L u ↔ Mt root.re (seg T s i ++ u)) (hp : s ≤ p) (hpi : p ≤ i) (hm : p = s ∨ Mt root.re (seg T s p)) (hn : ∀ j, p < j → j < i → ¬ Mt root.re (seg T s j))
  (hx : (Lang (ts ++ us) L [] → p' = i) ∧ (¬ Lang (ts ++ us) L [] → p' = p)) (hend : L = 0 ∨ i = T.length) : LongPost X ρ n0 root ts T s w (.returned (.int .i64 p')) wr := by
 have e0 : Lang (ts ++ us) L [] ↔ Mt root.re (seg T s i) := by rw [hl]; simp
 have hgt : ∀ j, i < j → j ≤ T.length → ¬ Mt root.re (seg T s j) := fun j h1 h2 h3 => by
  rcases hend with rfl | rfl
  ·rw [seg_append T hs (Nat.le_of_lt h1), ← hl] at h3
   obtain ⟨m, t, h4, _⟩ := h3
   simp at h4
  ·omega
 refine ⟨p', us, en', rfl, hF, hFu, ?_⟩
 by_cases hc : Lang (ts ++ us) L []
 ·have hx := hx.1 hc
  subst hx
  exact ⟨hs, by omega, .inr (e0.1 hc), hgt⟩
 ·have hx := hx.2 hc
  subst hx
  refine ⟨hp, by omega, hm, fun j h1 h2 => ?_⟩
  rcases Nat.lt_trichotomy j i with h | h | h
  ·exact hn j h1 h
  ·subst h
   exact fun h => hc (e0.2 h)
  ·exact hgt j h h2
theorem LongPost.below {X : Nat → Prop} {ρ : Rd} {n0 : Nat} {root : ARe} {ts : List D} {T : List UInt8} {s : Nat} {w w0 wr : World} {e : Ending} (h : LongPost X ρ n0 root ts T s w0 e wr) (hX : Old X w) (hb : Below w.heap.size w w0) : LongPost X ρ n0 root ts T s w e wr := by
 obtain ⟨stop, us, en', h1, h2, h3⟩ := h
 exact ⟨stop, us, en', h1, (Fx.of_below hX hb).trans h2, h3⟩
set_option maxHeartbeats 2000000 in
theorem longest_any (X : Nat → Prop) (ρ : Rd) (n0 : Nat) (root : ARe) (ts : List D) (en : Nat) (st : Nat) (ρb : Rd) (sb : Nat) (text : ByteArray) (s : Nat) (w : World) (hX : Old X w) (h0 : X 1) (hT : Tab w) (hF : Full w X ρ n0 root ts en) (hi : Inr ts st) (hl : ∀ u, Lang ts st u ↔ Mt root.re u) (hs : s ≤ text.size) (hsz : text.size ≤ maxLen) :
  Calls Tryz.prog 129 #[fnv ρ st ρb sb, .string text, .int .i64 s] w (LongPost X ρ n0 root ts text.data.toList s w) := by
 have hb : Below w.heap.size w (w.alloc (.cells #[.int .u64 st, .func (.func 179) #[] #[.pointer (some ⟨ρ.av, 0, none⟩)], .func (.func 181) #[] #[.pointer (some ⟨ρ.ev, 0, none⟩)], .int .u64 sb, .func (.func 179) #[] #[.pointer (some ⟨ρb.av, 0, none⟩)], .func (.func 181) #[] #[.pointer (some ⟨ρb.ev, 0, none⟩)]] 194)) := (Below.refl _ _).alloc (Nat.le_refl _) _
 have HB := hide hb
 have HO := hide (heap_alloc_last w (.cells #[.int .u64 st, .func (.func 179) #[] #[.pointer (some ⟨ρ.av, 0, none⟩)], .func (.func 181) #[] #[.pointer (some ⟨ρ.ev, 0, none⟩)], .int .u64 sb, .func (.func 179) #[] #[.pointer (some ⟨ρb.av, 0, none⟩)], .func (.func 181) #[] #[.pointer (some ⟨ρb.ev, 0, none⟩)]] 194))
 have HX := hide hX
 have HX1 := hide (hX.mono hb.size)
 have H0 := hide h0
 have HT := hide (hT.keep (hb.block 1 (hX 1 h0)))
 have HF := hide (hF.below hb)
 have HI := hide hi
 have HL := hide hl
 clear hX h0 hT hF hi hl hb
 unfold fnv
 go_enter Tryz.func129, Tryz.ntmps129
 go_wp2_with fail
 generalize hW : w.alloc (.cells #[.int .u64 st, .func (.func 179) #[] #[.pointer (some ⟨ρ.av, 0, none⟩)], .func (.func 181) #[] #[.pointer (some ⟨ρ.ev, 0, none⟩)], .int .u64 sb, .func (.func 179) #[] #[.pointer (some ⟨ρb.av, 0, none⟩)], .func (.func 181) #[] #[.pointer (some ⟨ρb.ev, 0, none⟩)]] 194) = w0
 rw [hW] at HB HO HX1 HT HF
 clear hW
 go_loopg [7, 8, 9] (text.size - s) (fun k stop left at_ wr => LongLoop X ρ n0 root ts text.data.toList s w0 k stop left at_ wr)
 case atStart =>
  exact ⟨s, st, s, [], en, rfl, rfl, rfl, by rw [text_length]; omega, Nat.le_refl _, Fx.refl _ _, by simpa using HF.out, by simpa using HI.out, by simpa [seg_self] using HL.out, Nat.le_refl _, Nat.le_refl _, .inl rfl, fun j h1 h2 => by omega⟩
 case round =>
  obtain ⟨p, L, i, us, en', rfl, rfl, rfl, hk, hsi, hFx, hFu, hL, hl, hp, hpi, hm, hn⟩ := hrel
  have hbox := hFx.stay _ _ _ (by decide) HO.out
  have r1 : wr.cell? ⟨w.heap.size, 1, none⟩ = some (.func (.func 179) #[] #[.pointer (some ⟨ρ.av, 0, none⟩)]) := by simp [World.cell?, hbox]
  have r2 : wr.cell? ⟨w.heap.size, 2, none⟩ = some (.func (.func 181) #[] #[.pointer (some ⟨ρ.ev, 0, none⟩)]) := by simp [World.cell?, hbox]
  have hnl : L = 0 → ¬ Lang (ts ++ us) L [] := by rintro rfl ⟨m, t, h4, _⟩; simp at h4
  by_cases hL0 : L = 0
  ·have HEND := hide ((long_end hk hsi hFx hFu hl hp hpi hm hn (p' := p) ⟨fun h => absurd h (hnl hL0), fun _ => rfl⟩ (.inl hL0)).below HX.out HB.out)
   subst hL0
   clear hFx hFu hL hl hp hpi hm hn hbox
   go_wp2_with fail
   go_ret
   exact HEND.out
  ·have hL0' : ((L : Int) == 0) = false := by rw [beq_eq_false_iff_ne]; omega
   have HEN := hide (ends4_any X ρ n0 root (ts ++ us) en' L wr hFu hL)
   have hk' : i ≤ text.size := by rw [text_length] at hk; omega
   have HK := hide hk
   have HFx := hide hFx
   have HFu := hide hFu
   have HLr := hide hL
   have Hl := hide hl
   have Hp := hide hp
   have Hpi := hide hpi
   have Hm := hide hm
   have Hn := hide hn
   clear hFx hFu hL hl hp hpi hm hn hbox hk hnl
   go_wp2_with fail
   refine HEN.out.mono ?_
   rintro e w1 ⟨x, rfl, rfl, hx⟩
   cases x with
   | true =>
    by_cases hat : i = text.size
    ·have HEND := hide ((long_end HK.out hsi HFx.out HFu.out Hl.out Hp.out Hpi.out Hm.out Hn.out (p' := i) ⟨fun _ => rfl, fun h => absurd (hx.1 rfl) h⟩ (.inr (by rw [text_length]; exact hat))).below HX.out HB.out)
     have hat' : ((i : Int) == (text.size : Int)) = true := by rw [beq_iff_eq]; omega
     clear HEN HK HFx HFu HLr Hl Hp Hpi Hm Hn hx hat
     go_wp2_with fail
     go_ret
     exact HEND.out
    ·have hlt : i < text.size := by omega
     have hat' : ((i : Int) == (text.size : Int)) = false := by rw [beq_eq_false_iff_ne]; omega
     have hi1 : i + 1 ≤ 9223372036854775807 := by unfold maxLen at hsz; omega
     have HGV := hide (give3_any X ρ n0 root (ts ++ us) en' L text[i] w1.drew (HX1.out.fx HFx.out.drew) H0.out (HT.out.keep (HFx.out.drew.keep 1 H0.out)) (HFu.out.below (Below.refl _ _).drew) HLr.out)
     have HTG := hide (text_get hlt)
     have HXX := hide (hx.1 rfl)
     clear HEN hx hat
     go_wp2_with fail
     go_region_with (first
      | (go_at_call 179; refine HGV.out.mono ?_; rintro e3 w3 ⟨R, us', en3, rfl, hF3, hFu3, hR3, hl3⟩; obtain ⟨k', hk3⟩ : ∃ k', gk = k' + 1 := ⟨gk - 1, by have := HK.out; rw [text_length] at this; omega⟩; have HST := hide (long_step (hk3 ▸ HK.out) hsi HFx.out Hl.out Hp.out Hpi.out Hm.out Hn.out (p' := i) ⟨fun _ => rfl, fun h => absurd HXX.out h⟩ HTG.out hF3.undrew hFu3 hR3 hl3); clear hF3 hFu3 hR3 hl3))
     all_goals
      go_wp2_with fail
      go_roundg k'
      case measure => omega
      case rel => exact HST.out
   | false =>
    by_cases hat : i = text.size
    ·have HEND := hide ((long_end HK.out hsi HFx.out HFu.out Hl.out Hp.out Hpi.out Hm.out Hn.out (p' := p) ⟨fun h => absurd (hx.2 h) (by simp), fun _ => rfl⟩ (.inr (by rw [text_length]; exact hat))).below HX.out HB.out)
     have hat' : ((i : Int) == (text.size : Int)) = true := by rw [beq_iff_eq]; omega
     clear HEN HK HFx HFu HLr Hl Hp Hpi Hm Hn hx hat
     go_wp2_with fail
     go_ret
     exact HEND.out
    ·have hlt : i < text.size := by omega
     have hat' : ((i : Int) == (text.size : Int)) = false := by rw [beq_eq_false_iff_ne]; omega
     have hi1 : i + 1 ≤ 9223372036854775807 := by unfold maxLen at hsz; omega
     have HGV := hide (give3_any X ρ n0 root (ts ++ us) en' L text[i] w1.drew (HX1.out.fx HFx.out.drew) H0.out (HT.out.keep (HFx.out.drew.keep 1 H0.out)) (HFu.out.below (Below.refl _ _).drew) HLr.out)
     have HTG := hide (text_get hlt)
     have HXX := hide (show ¬ Lang (ts ++ us) L [] from fun h => by simpa using hx.2 h)
     clear HEN hx hat
     go_wp2_with fail
     go_region_with (first
      | (go_at_call 179; refine HGV.out.mono ?_; rintro e3 w3 ⟨R, us', en3, rfl, hF3, hFu3, hR3, hl3⟩; obtain ⟨k', hk3⟩ : ∃ k', gk = k' + 1 := ⟨gk - 1, by have := HK.out; rw [text_length] at this; omega⟩; have HST := hide (long_step (hk3 ▸ HK.out) hsi HFx.out Hl.out Hp.out Hpi.out Hm.out Hn.out (p' := p) ⟨fun h => absurd h HXX.out, fun _ => rfl⟩ HTG.out hF3.undrew hFu3 hR3 hl3); clear hF3 hFu3 hR3 hl3))
     all_goals
      go_wp2_with fail
      go_roundg k'
      case measure => omega
      case rel => exact HST.out
def ClonePost (ns : List (Nd Value)) (w : World) (e : Ending) (w' : World) : Prop := ∃ sv', e = .returned sv' ∧ Below w.heap.size w w' ∧ Lists w' w.heap.size sv' ns
theorem ones_ns {ns : List (Nd Value)} (h : ∀ nd ∈ ns, Form nd.has) : ∀ u ∈ nsCells ns, u.oneCell' = true := by
 intro u hu
 obtain ⟨nd, h1, h2⟩ := List.mem_flatMap.1 hu
 simp only [ndCells, List.mem_cons, List.not_mem_nil, or_false] at h2
 rcases h2 with rfl | rfl | rfl | rfl | rfl
 ·rfl
 ·exact (h nd h1).one
 ·rfl
 ·rfl
 ·rfl
theorem Below.grownBy' {w w' : World} {B : Nat} {v : Value} (h : w.grownBy w' v.ownBlock) (hB : B ≤ w.heap.size) (hv : ∀ k, v.ownBlock = some k → B ≤ k) : Below B w w' :=
 ⟨h.os, h.tape, h.output, h.size, fun k hk => h.block k (by omega) (fun e => by have := hv k e.symm; omega)⟩
theorem not_nil (a : Addr) (n c : Nat) (w : World) : (binOp BinOp.eql 182 (Value.slice (some a) n c) (Value.slice none 0 0)).run Tryz.prog w = .ok (.bool false) w := by
 exact Lib.run_eql_slice_some_nil w _ _ _ Tryz.underlying182
set_option maxRecDepth 20000 in
set_option maxHeartbeats 1000000 in
theorem clone_any (sv : Value) (ns : List (Nd Value)) (w : World) (hL : Lists w 0 sv ns) (h0 : 0 < ns.length) (hn : ns.length ≤ 200) :
  Calls Tryz.prog 173 #[sv] w (ClonePost ns w) := by
 obtain ⟨g, cap, rfl⟩ := own_form hL.1 h0
 obtain ⟨i0, hi, hz0, hz1, hz3⟩ := info_parts info_expr
 have HL := hide hL
 have hnn := not_nil ⟨g, 0, none⟩ ns.length cap w
 clear hL
 go_enter Tryz.func173, Tryz.ntmps173
 have HO := hide (show Lists (w.alloc (.cells #[] 292)) w.heap.size (.slice (some ⟨w.heap.size, 0, none⟩) 0 0) [] from ⟨⟨rfl, .inr ⟨w.heap.size, 0, #[], rfl, Nat.le_refl _, heap_alloc_last _ _, Nat.le_refl _, by unfold maxLen; omega, rfl, rfl⟩⟩, by simp⟩)
 have HC := hide (fun (j : Nat) u (h : (nsCells ns)[j]? = some u) => show (w.alloc (.cells #[] 292)).cell? ((⟨g, 0, none⟩ : Addr).add j) = some u from cell_alloc_old (HL.out.1.cells rfl j u h) _)
 go_wp2_with (at_builtin; go_loud (refine wpList_append_own_at _ rfl (.tmp 5) (.tmp 6) 182 rfl w.heap.size 292 i0 (.agg #[.int .i64 0, .nilFunc, .int .i64 0, .int .i64 0, .bool false]) 5 40 Tryz.underlying182 hi hz0 hz1 hz3 rfl (by decide) (.slice (some ⟨w.heap.size, 0, none⟩) 0 0) 0 [] (by rfl) (by exact HO.out.1) ⟨g, 0, none⟩ ns.length cap (nsCells ns) (by rfl) (by exact length_nsCells ns) HC.out (ones_ns HL.out.2) (by unfold maxLen; omega) (by omega) (by simp) ?_; intro v' w2 hown hgr _ _; rw [List.nil_append, Nat.zero_add] at hown; have HP := hide (show ClonePost ns w (.returned v') w2 from ⟨v', rfl, ((Below.refl _ _).alloc (Nat.le_refl _) _).trans (Below.grownBy' hgr (by simp) (fun k hk => by cases hk; exact Nat.le_refl _)), hown, HL.out.2⟩); obtain ⟨g', cap', rfl⟩ := own_form hown (by omega); clear hown hgr))
 go_ret
 exact HP.out
def swp (nd : Nd Value) : Nd Value := if nd.kind = 2 then ⟨nd.kind, nd.has, nd.right, nd.left, nd.empty⟩ else nd
theorem nsCells_set (ns : List (Nd Value)) (j l r : Nat) (nd : Nd Value) (h : ns[j]? = some nd) : nsCells (ns.set j ⟨nd.kind, nd.has, l, r, nd.empty⟩) = ((nsCells ns).set (j * 5 + 2) (.int .i64 l)).set (j * 5 + 3) (.int .i64 r) := by
 induction ns generalizing j with
 | nil => simp at h
 | cons x xs ih =>
  cases j with
  | zero =>
   simp at h
   subst h
   simp [nsCells, ndCells]
  | succ j =>
   simp only [List.getElem?_cons_succ] at h
   have e1 : (j + 1) * 5 + 2 = (j * 5 + 2) + 1 + 1 + 1 + 1 + 1 := by omega
   have e2 : (j + 1) * 5 + 3 = (j * 5 + 3) + 1 + 1 + 1 + 1 + 1 := by omega
   have ih := ih j h
   simp only [nsCells] at ih
   rw [e1, e2]
   simp only [List.set_cons_succ, nsCells, List.flatMap_cons, ndCells, List.cons_append, List.nil_append]
   rw [ih]
theorem lists_set {w : World} {B g cap j l r : Nat} {ns : List (Nd Value)} {nd : Nd Value} (h : Lists w B (.slice (some ⟨g, 0, none⟩) ns.length cap) ns) (hj : ns[j]? = some nd) :
  Lists ((w.setCell ⟨g, j * 5 + 2, none⟩ (.int .i64 l)).setCell ⟨g, j * 5 + 3, none⟩ (.int .i64 r)) B (.slice (some ⟨g, 0, none⟩) ns.length cap) (ns.set j ⟨nd.kind, nd.has, l, r, nd.empty⟩) := by
 obtain ⟨⟨h1, h2⟩, h3⟩ := h
 have hjl := get_lt hj
 rcases h2 with ⟨h2, _⟩ | ⟨g', cap', cur, e, hB, hh, a1, a2, a3, a4⟩
 ·cases h2
 ·cases e
  have e1 := heap_setCell_same w g (j * 5 + 2) (.int .i64 l) hh
  have e2 := heap_setCell_same (w.setCell ⟨g, j * 5 + 2, none⟩ (.int .i64 l)) g (j * 5 + 3) (.int .i64 r) e1
  refine ⟨⟨by rw [length_nsCells, List.length_set], .inr ⟨g, cap, _, by rw [List.length_set], hB, e2, by rw [List.length_set]; exact a1, a2, by simpa using a3, ?_⟩⟩, ?_⟩
  ·rw [List.length_set, nsCells_set ns j l r nd hj, ← a4]
   simp only [Array.toList_setIfInBounds, List.take_set]
  ·intro x hx
   rcases List.mem_or_eq_of_mem_set hx with hx | rfl
   ·exact h3 x hx
   ·exact h3 nd (List.mem_of_getElem? hj)
def half (ns : List (Nd Value)) (j : Nat) : List (Nd Value) := (ns.take j).map swp ++ ns.drop j
theorem length_half (ns : List (Nd Value)) {j : Nat} (h : j ≤ ns.length) : (half ns j).length = ns.length := by simp [half]; omega
theorem half_get (ns : List (Nd Value)) (j : Nat) (h : j ≤ ns.length) : (half ns j)[j]? = ns[j]? := by
 unfold half
 rw [List.getElem?_append_right (by simp; omega)]
 simp
 congr 1
 omega
theorem half_step (ns : List (Nd Value)) {j : Nat} {nd : Nd Value} (h : ns[j]? = some nd) : (half ns j).set j (swp nd) = half ns (j + 1) := by
 have hl := get_lt h
 rw [List.getElem?_eq_getElem hl] at h
 unfold half
 rw [List.set_append_right _ _ (by simp; omega), List.take_succ_eq_append_getElem hl, List.drop_eq_getElem_cons hl, Option.some.inj h]
 have e : j - (List.map swp (List.take j ns)).length = 0 := by simp; omega
 rw [e]
 simp
def MirPost (ns : List (Nd Value)) (w : World) (e : Ending) (w' : World) : Prop := ∃ sv', e = .returned sv' ∧ Below w.heap.size w w' ∧ Lists w' w.heap.size sv' (ns.map swp)
def MirLoop (ns : List (Nd Value)) (B g cap : Nat) (w : World) (k : Nat) (i : Value) (wr : World) : Prop :=
 ∃ j : Nat, i = .int .i64 j ∧ j + k = ns.length ∧ Below B w wr ∧ Lists wr B (.slice (some ⟨g, 0, none⟩) ns.length cap) (half ns j)
theorem mir_step {ns : List (Nd Value)} {B g cap j k : Nat} {w wr w' : World} {nd : Nd Value} (hk : j + (k + 1) = ns.length) (hnd : ns[j]? = some nd) (hb : Below B w wr) (hb2 : Below B wr w') (hL : Lists w' B (.slice (some ⟨g, 0, none⟩) ns.length cap) ((half ns j).set j (swp nd))) :
  MirLoop ns B g cap w k (.int .i64 ((j + 1 : Nat) : Int)) w' := by
 rw [half_step ns hnd] at hL
 exact ⟨j + 1, rfl, by omega, hb.trans hb2, hL⟩
set_option maxRecDepth 20000 in
set_option maxHeartbeats 1000000 in
theorem mirrored_any (sv : Value) (ns : List (Nd Value)) (w : World) (hL : Lists w 0 sv ns) (h0 : 0 < ns.length) (hn : ns.length ≤ 200) :
  Calls Tryz.prog 141 #[sv] w (MirPost ns w) := by
 have HC := hide (clone_any sv ns w hL h0 hn)
 obtain ⟨g0, cap0, rfl⟩ := own_form hL.1 h0
 clear hL
 go_enter Tryz.func141, Tryz.ntmps141
 go_wp2_with fail
 refine HC.out.mono ?_
 rintro e w1 ⟨sv', rfl, hB1, hL1⟩
 obtain ⟨g, cap, rfl⟩ := own_form hL1.1 h0
 have HB1 := hide hB1
 have HL1 := hide hL1
 clear hB1 hL1 HC
 go_wp2_with fail
 go_loopg [10] ns.length (fun k i wr => MirLoop ns w.heap.size g cap w k i wr)
 case atStart => exact ⟨0, by simp, by simp, HB1.out, by simpa [half] using HL1.out⟩
 case round =>
  obtain ⟨j, rfl, hk, hb, hl⟩ := hrel
  by_cases hlt : j < ns.length
  ·obtain ⟨nd, hnd⟩ : ∃ nd, ns[j]? = some nd := ⟨ns[j], List.getElem?_eq_getElem hlt⟩
   have hnd' := half_get ns j (by omega)
   rw [hnd] at hnd'
   obtain ⟨g', cap', e', m0, m1, m2, m3, m4⟩ := hl.at hnd'
   rw [length_half ns (by omega)] at e'
   cases e'
   have hfm := hl.2 nd (List.mem_of_getElem? hnd')
   have hst := store_form hfm
   have HBr := hide hb
   have HLr := hide hl
   have HND := hide hnd
   have HND' := hide hnd'
   clear hb hl hnd hnd'
   obtain ⟨k, hv, l, r, em⟩ := nd
   by_cases hk2 : k = 2
   ·subst hk2
    go_wp2_with fail
    obtain ⟨W, hW⟩ : ∃ W, W = wr.alloc (.cells #[.int .i64 2, hv, .int .i64 l, .int .i64 r, .bool em] 292) := ⟨_, rfl⟩
    have hbW : Below wr.heap.size wr W := hW ▸ (Below.refl _ _).alloc (Nat.le_refl _) _
    have hEW : W.heap[wr.heap.size]? = some (.cells #[.int .i64 2, hv, .int .i64 l, .int .i64 r, .bool em] 292 (0, 0)) := hW ▸ heap_alloc_last _ _
    rw [← hW]
    clear hW
    have hLW := HLr.out.keep (fun k hk => hbW.block k (lt_of_get (HLr.out.block hk).2.choose_spec))
    obtain ⟨gB, cur, hcur⟩ := hLW.block (k := g) rfl
    obtain ⟨g', cap', e', n0, n1, n2, n3, n4⟩ := hLW.at HND'.out
    rw [length_half ns (by omega)] at e'
    cases e'
    have z2 : W.frozen? ⟨g, j * 5 + 2, none⟩ = false := by simp [World.frozen?, hcur]
    have z3 : W.frozen? ⟨g, j * 5 + 3, none⟩ = false := by simp [World.frozen?, hcur]
    have y2 : W.cell? ⟨wr.heap.size, 2, none⟩ = some (.int .i64 l) := by simp [World.cell?, hEW]
    have y3 : W.cell? ⟨wr.heap.size, 3, none⟩ = some (.int .i64 r) := by simp [World.cell?, hEW]
    have hgl : g < wr.heap.size := lt_of_get (HLr.out.block (k := g) rfl).2.choose_spec
    have hne : ∀ off v, (W.setCell ⟨g, off, none⟩ v).heap[wr.heap.size]? = W.heap[wr.heap.size]? := fun off v => Below.heap_setCell _ _ _ _ (by show wr.heap.size ≠ g; omega)
    have y2' : ∀ off v, (W.setCell ⟨g, off, none⟩ v).cell? ⟨wr.heap.size, 2, none⟩ = some (.int .i64 l) := fun off v => by simp [World.cell?, hne, hEW]
    have y3' : ∀ off v, (W.setCell ⟨g, off, none⟩ v).cell? ⟨wr.heap.size, 3, none⟩ = some (.int .i64 r) := fun off v => by simp [World.cell?, hne, hEW]
    have HBW := hide hbW
    have HLW := hide hLW
    clear hne hbW hEW hLW hcur n0 n1 n4 m0 m1 m2 m3 m4 hst hfm
    have hgB : w.heap.size ≤ g := gB
    obtain ⟨k', rfl⟩ : ∃ k', gk = k' + 1 := ⟨gk - 1, by omega⟩
    have HST := hide (show MirLoop ns w.heap.size g cap w k' (.int .i64 ((j + 1 : Nat) : Int)) ((W.setCell ⟨g, j * 5 + 2, none⟩ (.int .i64 r)).setCell ⟨g, j * 5 + 3, none⟩ (.int .i64 l)).drew from
     mir_step (w' := ((W.setCell ⟨g, j * 5 + 2, none⟩ (.int .i64 r)).setCell ⟨g, j * 5 + 3, none⟩ (.int .i64 l)).drew) hk HND.out HBr.out ((((HBW.out.mono HBr.out.size).setCell hgB _).setCell hgB _).drew) (by
      have hlh : (half ns j).length = ns.length := length_half ns (by omega)
      have h0 := HLW.out
      rw [← hlh] at h0
      have h1 := lists_set (l := r) (r := l) h0 HND'.out
      rw [hlh] at h1
      exact h1))
    clear HND HND' HBr HLr HBW HLW
    go_region
    go_wp2_with fail
    go_roundg k'
    case measure => omega
    case rel => exact HST.out
   ·have hk2' : ((k : Int) == 2) = false := by rw [beq_eq_false_iff_ne]; omega
    have hsame : (half ns j).set j (swp ⟨k, hv, l, r, em⟩) = half ns j := by
     have e1 : swp ⟨k, hv, l, r, em⟩ = ⟨k, hv, l, r, em⟩ := by simp [swp, hk2]
     have hl1 := get_lt HND'.out
     have h2 := HND'.out
     rw [List.getElem?_eq_getElem hl1] at h2
     rw [e1, ← Option.some.inj h2, List.set_getElem_self]
    have hbW : Below wr.heap.size wr (wr.alloc (.cells #[.int .i64 k, hv, .int .i64 l, .int .i64 r, .bool em] 292)) := (Below.refl _ _).alloc (Nat.le_refl _) _
    obtain ⟨k', rfl⟩ : ∃ k', gk = k' + 1 := ⟨gk - 1, by omega⟩
    have HST := hide (mir_step hk HND.out HBr.out (hbW.mono HBr.out.size) (by rw [hsame]; exact HLr.out.keep (fun k hk => hbW.block k (lt_of_get (HLr.out.block hk).2.choose_spec))))
    clear HND HND' HBr HLr hsame hbW hk2
    go_wp2_with fail
    go_roundg k'
    case measure => omega
    case rel => exact HST.out
  ·have hj : j = ns.length := by omega
   have HEND := hide (show MirPost ns w (.returned (.slice (some ⟨g, 0, none⟩) ns.length cap)) wr from ⟨_, rfl, hb, by subst hj; simpa [half, Lists] using hl⟩)
   clear hb hl
   go_wp2_with fail
   go_ret
   exact HEND.out
def NumberingPost (w : World) (e : Ending) (w' : World) : Prop :=
 ∃ M mv pl, e = .returned (.tuple #[.func (.func 196) #[] #[.pointer (some ⟨mv, 0, none⟩), .pointer (some ⟨pl, 0, none⟩)], .func (.func 197) #[] #[.pointer (some ⟨pl, 0, none⟩)]]) ∧ Below w.heap.size w w' ∧ w.heap.size ≤ M ∧ w.heap.size ≤ mv ∧ w.heap.size ≤ pl ∧
  w'.heap[mv]? = some (.cells #[.map (some M)] 318 (0, 0)) ∧ Nums w' M pl (.slice none 0 0) []
set_option maxRecDepth 20000 in
set_option maxHeartbeats 1000000 in
theorem numbering_any (w : World) : Calls Tryz.prog 174 #[] w (NumberingPost w) := by
 have hmm := @run_makeMap Tryz.prog
 go_enter Tryz.func174, Tryz.ntmps174
 go_wp2_with fail
 refine bodyPost_ret (v := .tuple #[.func (.func 196) #[] #[.pointer (some ⟨w.heap.size + 1, 0, none⟩), .pointer (some ⟨w.heap.size + 1 + 1, 0, none⟩)], .func (.func 197) #[] #[.pointer (some ⟨w.heap.size + 1 + 1, 0, none⟩)]]) (by simp [results, Tryz.results174, go_sem, *]) rfl ?_
 have hM := MapIs.made intT 3 .i64 w
 have h1 := heap_alloc_last (w.alloc (.map #[] 0)) (.cells #[.map (some w.heap.size)] 318)
 have h2 := heap_alloc_last ((w.alloc (.map #[] 0)).alloc (.cells #[.map (some w.heap.size)] 318)) (.cells #[.slice none 0 0] 57)
 have b1 : Below w.heap.size w (w.alloc (.map #[] 0)) := (Below.refl _ _).alloc (Nat.le_refl _) _
 have b2 := b1.alloc (o := .cells #[.map (some w.heap.size)] 318) (by simp)
 have b3 := b2.alloc (o := .cells #[.slice none 0 0] 57) (by simp; omega)
 refine ⟨w.heap.size, w.heap.size + 1, w.heap.size + 1 + 1, rfl, b3, Nat.le_refl _, by omega, by omega, heap_alloc_old (by simpa using h1), ⟨by simpa using h2, ⟨by simp, .inl ⟨rfl, rfl⟩⟩, ⟨0, fun _ => none, hM.keep ?_, Nat.le_refl _, fun k c => ?_⟩, by simp, by simp⟩⟩
 ·obtain ⟨es, clk, ho⟩ := hM.obj
  rw [ho]
  exact heap_alloc_old (heap_alloc_old ho)
 ·simp
def RememberPost (v : Array Value) (w : World) (e : Ending) (w' : World) : Prop :=
 ∃ K kv wk, e = .returned (.func (.func 198) #[] #[.pointer (some ⟨kv, 0, none⟩), .pointer (some ⟨wk, 0, none⟩)]) ∧ Below w.heap.size w w' ∧ w.heap.size ≤ K ∧ w'.heap[kv]? = some (.cells #[.map (some K)] 319 (0, 0)) ∧
  w'.heap[wk]? = some (.cells #[.func (.func 177) #[] v] 302 (0, 0)) ∧ MapIs givenT 188 .u64 w' K 0 (fun _ => none)
set_option maxRecDepth 20000 in
set_option maxHeartbeats 1000000 in
theorem remember_any (v : Array Value) (w : World) : Calls Tryz.prog 176 #[.func (.func 177) #[] v] w (RememberPost v w) := by
 have hmm := @run_makeMap Tryz.prog
 go_enter Tryz.func176, Tryz.ntmps176
 go_wp2_with fail
 go_ret
 have hM := MapIs.made givenT 188 .u64 (w.alloc (.cells #[.func (.func 177) #[] v] 302))
 have h1 := heap_alloc_last w (.cells #[.func (.func 177) #[] v] 302)
 have h2 := heap_alloc_last ((w.alloc (.cells #[.func (.func 177) #[] v] 302)).alloc (.map #[] 0)) (.cells #[.map (some (w.heap.size + 1))] 319)
 have b1 : Below w.heap.size w (w.alloc (.cells #[.func (.func 177) #[] v] 302)) := (Below.refl _ _).alloc (Nat.le_refl _) _
 have b2 := b1.alloc (o := .map #[] 0) (by simp)
 have b3 := b2.alloc (o := .cells #[.map (some (w.heap.size + 1))] 319) (by simp; omega)
 refine ⟨w.heap.size + 1, w.heap.size + 1 + 1, w.heap.size, rfl, b3, by omega, by simpa using h2, heap_alloc_old (heap_alloc_old h1), ?_⟩
 rw [show (w.alloc (.cells #[.func (.func 177) #[] v] 302)).heap.size = w.heap.size + 1 by simp] at hM
 refine hM.keep ?_
 obtain ⟨es, clk, ho⟩ := hM.obj
 rw [ho]
 exact heap_alloc_old ho
def old (N : Nat) : Nat → Prop := fun k => k < N
theorem reader_dyn {W : World} {N : Nat} {ρ : Rd} {root : ARe} {ns : List (Nd Value)} {sv1 : Value} {J : Nat} (hS : W.heap[ρ.S]? = some (.cells #[sv1, .map (some J)] 298 (0, 0))) (hSN : N ≤ ρ.S) (hL : Lists W N sv1 ns) (hJ : MapIs pairT 3 .i64 W J 0 (fun _ => none)) (hJN : N ≤ J) (hJM : J ≠ ρ.M) (hJK : J ≠ ρ.K)
  (hN : Nums W ρ.M ρ.pl (.slice none 0 0) []) (hMN : N ≤ ρ.M) (hpN : N ≤ ρ.pl) (hev : W.heap[ρ.ev]? = some (.cells #[.int .u64 (0 : Nat)] 188 (0, 0))) (heN : N ≤ ρ.ev) (hK : MapIs givenT 188 .u64 W ρ.K 0 (fun _ => none)) (hMK : ρ.M ≠ ρ.K)
  (h0 : 0 < ns.length) (hn : ns.length ≤ 200) (he : Rep (IsCls W) ns .eps) (hz : root.sz ≤ 200) (hl : root.leaves ≤ 60) : Dyn W (orK (old N) ρ) ρ ns.length root ns [] [] 0 := by
 obtain ⟨es, clk, hKo⟩ := hK.obj
 obtain ⟨mM, fM, hMm, _⟩ := hN.map
 obtain ⟨es', clk', hMo⟩ := hMm.obj
 have hc : ∀ k c t fz, W.heap[k]? = some (.cells c t fz) → N ≤ k → ¬ plus (orK (old N) ρ) ρ k := by
  rintro k c t fz hk hN ((h | rfl) | rfl | rfl)
  ·exact absurd h (by show ¬ k < N; omega)
  ·rw [hKo] at hk; cases hk
  ·rw [hMo] at hk; cases hk
  ·rw [hKo] at hk; cases hk
 have hc' : ∀ k c t fz, W.heap[k]? = some (.cells c t fz) → N ≤ k → ¬ orK (old N) ρ k := fun k c t fz h1 h2 h3 => hc k c t fz h1 h2 (.inl h3)
 refine ⟨⟨hc _ _ _ _ hS hSN, ⟨sv1, J, 0, fun _ => none, hS, ?_, fun k hk => ?_, hJ, ?_, by omega, fun _ _ _ h => (by cases h), fun j nd hj hnd => ?_⟩, h0, Nat.le_refl _, hn, he, fun j h1 h2 => (by omega), length_shelved root hz hl⟩, ⟨.slice none 0 0, hN, fun k hk => (by cases hk)⟩, hev, ⟨?_, hc' _ _ _ _ hN.var hpN, hc' _ _ _ _ hev heN⟩, .nil, fun t ht => (by simp at ht), fun n => (by simp), hz, hl⟩
 ·obtain ⟨⟨h1, h2⟩, h3⟩ := hL
  refine ⟨⟨h1, ?_⟩, h3⟩
  rcases h2 with h2 | ⟨g, cap, cur, a1, a2, a3⟩
  ·exact .inl h2
  ·exact .inr ⟨g, cap, cur, a1, Nat.zero_le _, a3⟩
 ·obtain ⟨h1, cur, h2⟩ := hL.block hk
  exact hc _ _ _ _ h2 h1
 ·rintro ((h | h) | h | h)
  ·exact absurd h (by show ¬ J < N; omega)
  ·exact hJK h
  ·exact hJM h
  ·exact hJK h
 ·have := get_lt hnd; omega
 ·rintro (h | h)
  ·exact absurd h (by show ¬ ρ.M < N; omega)
  ·exact hMK h
theorem Full.other {w w' : World} {X : Nat → Prop} {ρ : Rd} {n0 : Nat} {root : ARe} {ts : List D} {en : Nat} (h : Full w X ρ n0 root ts en) (hk : ∀ (k : Nat) o, w.heap[k]? = some o → (∀ c fz, o ≠ .cells c 192 fz) → w'.heap[k]? = some o) : Full w' X ρ n0 root ts en := by
 obtain ⟨⟨ns, pls, hD⟩, hs, hK, m, f, ks, hm, h1, h2, h3, h4⟩ := h
 have hc : ∀ (k : Nat) c t fz, t ≠ 192 → w.heap[k]? = some (.cells c t fz) → w'.heap[k]? = some (.cells c t fz) := fun k c t fz ht hh => hk k _ hh (fun c' fz' e => by cases e; exact ht rfl)
 have hmap : ∀ (k : Nat) es clk, w.heap[k]? = some (.map es clk) → w'.heap[k]? = some (.map es clk) := fun k es clk hh => hk k _ hh (fun c' fz' e => by cases e)
 have hst : Stay w w' := fun k c t ht hh => hc k c t _ (by rcases ht with rfl | rfl <;> decide) hh
 obtain ⟨pv, hN, hv⟩ := hD.nums
 refine ⟨⟨ns, pls, hD.shelf.keep hst (fun k o _ ho hty => hk k o ho (fun c fz e => ?_)) (fun _ h => .inl h), ⟨pv, ⟨hc _ _ _ _ (by decide) hN.var, hN.row.keepB fun k hk => ?_, ?_, hN.nodup, hN.small⟩, hv⟩, hc _ _ _ _ (by decide) hD.ev, hD.nX, hD.reps.mono fun d k hh => RepD.world hst hh, hD.met, hD.bits, hD.sz, hD.leaves⟩, ⟨hc _ _ _ _ (by decide) hs.sv, hc _ _ _ _ (by decide) hs.mv, hc _ _ _ _ (by decide) hs.nv, hc _ _ _ _ (by decide) hs.xv, hc _ _ _ _ (by decide) hs.kk, hc _ _ _ _ (by decide) hs.wk, hc _ _ _ _ (by decide) hs.kv, hc _ _ _ _ (by decide) hs.av⟩, hK, m, f, ks, hm.keep ?_, h1, h2, h3, h4⟩
 ·rcases hty _ _ _ e with h | h <;> cases h
 ·obtain ⟨c, hcc⟩ := hN.row.block hk
  rw [hcc]; exact hc _ _ _ _ (by decide) hcc
 ·obtain ⟨m, f, hm, h1, h2⟩ := hN.map
  obtain ⟨es, clk, ho⟩ := hm.obj
  exact ⟨m, f, hm.keep ((hmap _ _ _ ho).trans ho.symm), h1, h2⟩
 ·obtain ⟨es, clk, ho⟩ := hm.obj
  exact (hmap _ _ _ ho).trans ho.symm
def ReaderPost (ns : List (Nd Value)) (root : ARe) (w : World) (e : Ending) (w' : World) : Prop :=
 ∃ (ρ : Rd) (st : Nat) (ts : List D) (en : Nat), e = .returned (rdv ρ st) ∧ Below w.heap.size w w' ∧ Full w' (old w.heap.size) ρ ns.length root ts en ∧ Inr ts st ∧ ∀ u, Lang ts st u ↔ Mt root.re u
theorem reader_end {ρ : Rd} {n0 N : Nat} {root : ARe} {ns : List (Nd Value)} {W w4 : World} {n : Nat} {ts' : List D} {pls' : List Nat} {en' : Nat} (hF : Fx (orK (old N) ρ) W w4) (hD : Dyn w4 (orK (old N) ρ) ρ n0 root ns ts' pls' en') (hs : Stc W ρ) (hKN : N ≤ ρ.K) (hK : MapIs givenT 188 .u64 W ρ.K 0 (fun _ => none)) (hn : ts'[n]? = some (.base root)) :
  Full w4 (old N) ρ n0 root ts' en' ∧ Inr ts' (2 ^ n) ∧ ∀ u, Lang ts' (2 ^ n) u ↔ Mt root.re u := by
 have hone : ∀ m, (2 ^ n).testBit m = true ↔ m = n := fun m => by rw [Nat.testBit_two_pow]; simp [eq_comm]
 refine ⟨⟨⟨ns, pls', hD⟩, hs.fx hF, fun h => absurd h (by show ¬ ρ.K < N; omega), 0, fun _ => none, [], hK.keep (hF.keep _ (.inr rfl)), Nat.le_refl _, List.nodup_nil, fun x hx => (by simp at hx), fun _ _ _ h => (by cases h)⟩, fun m hm => ?_, fun u => ⟨?_, fun h => ⟨n, _, (hone n).2 rfl, hn, h⟩⟩⟩
 ·rw [(hone m).1 hm]; exact get_lt hn
 ·rintro ⟨m, t, h1, h2, h3⟩
  rw [(hone m).1 h1, hn] at h2
  cases h2
  exact h3
theorem four (w : World) (o1 o2 o3 o4 : Obj) : ((((w.alloc o1).alloc o2).alloc o3).alloc o4).heap[w.heap.size]? = some o1 ∧ ((((w.alloc o1).alloc o2).alloc o3).alloc o4).heap[w.heap.size + 1]? = some o2 ∧ ((((w.alloc o1).alloc o2).alloc o3).alloc o4).heap[w.heap.size + 1 + 1]? = some o3 ∧ ((((w.alloc o1).alloc o2).alloc o3).alloc o4).heap[w.heap.size + 1 + 1 + 1]? = some o4 ∧
  Below w.heap.size w ((((w.alloc o1).alloc o2).alloc o3).alloc o4) ∧ ((((w.alloc o1).alloc o2).alloc o3).alloc o4).heap.size = w.heap.size + 4 := by
 have h1 := heap_alloc_last w o1
 have h2 := heap_alloc_last (w.alloc o1) o2
 have h3 := heap_alloc_last ((w.alloc o1).alloc o2) o3
 have h4 := heap_alloc_last (((w.alloc o1).alloc o2).alloc o3) o4
 rw [show (w.alloc o1).heap.size = w.heap.size + 1 by simp] at h2
 rw [show ((w.alloc o1).alloc o2).heap.size = w.heap.size + 1 + 1 by simp] at h3
 rw [show (((w.alloc o1).alloc o2).alloc o3).heap.size = w.heap.size + 1 + 1 + 1 by simp] at h4
 exact ⟨heap_alloc_old (heap_alloc_old (heap_alloc_old h1)), heap_alloc_old (heap_alloc_old h2), heap_alloc_old h3, h4, ((((Below.refl _ _).alloc (Nat.le_refl _) _).alloc (by simp) _).alloc (by simp; omega) _).alloc (by simp; omega) _, by simp⟩
set_option maxRecDepth 20000 in
set_option maxHeartbeats 2000000 in
theorem newReader_any (sv : Value) (ns : List (Nd Value)) (root : ARe) (w : World) (hL : Lists w 0 sv ns) (hr : Rep (IsCls w) ns root) (he : Rep (IsCls w) ns .eps) (h0 : 0 < ns.length) (hn : ns.length ≤ 200) (hz : root.sz ≤ 200) (hl : root.leaves ≤ 60) (k : Nat) (hk : k = root.ix) :
  Calls Tryz.prog 140 #[sv, .int .i64 k] w (ReaderPost ns root w) := by
 have hmm := @run_makeMap Tryz.prog
 obtain ⟨g, cap, rfl⟩ := own_form hL.1 h0
 have hb0 : Below w.heap.size w (w.alloc (.cells #[.int .u64 0, .nilFunc, .nilFunc] 192)) := (Below.refl _ _).alloc (Nat.le_refl _) _
 have HB0 := hide hb0
 have HR0 := hide (heap_alloc_last w (.cells #[.int .u64 0, .nilFunc, .nilFunc] 192))
 have HC := hide (clone_any (.slice (some ⟨g, 0, none⟩) ns.length cap) ns (w.alloc (.cells #[.int .u64 0, .nilFunc, .nilFunc] 192)) (hL.alloc _) h0 hn)
 have HR := hide hr
 have HE := hide he
 have HKK := hide hk
 clear hL hr he hb0 hk
 go_enter Tryz.func140, Tryz.ntmps140
 go_wp2_with fail
 generalize hW : w.alloc (.cells #[.int .u64 0, .nilFunc, .nilFunc] 192) = w0
 rw [hW] at HB0 HR0 HC
 have hsz0 : w0.heap.size = w.heap.size + 1 := by rw [← hW]; simp
 clear hW
 refine HC.out.mono ?_
 rintro e w1 ⟨sv1, rfl, hB1, hL1⟩
 obtain ⟨g1, cap1, rfl⟩ := own_form hL1.1 h0
 have HB1 := hide hB1
 have HL1 := hide hL1
 clear hB1 hL1 HC
 go_wp2_with fail
 have hJ := MapIs.made pairT 3 .i64 w1
 have hSb := heap_alloc_last (w1.alloc (.map #[] 0)) (.cells #[.slice (some ⟨g1, 0, none⟩) ns.length cap1, .map (some w1.heap.size)] 298)
 have hvb := heap_alloc_last ((w1.alloc (.map #[] 0)).alloc (.cells #[.slice (some ⟨g1, 0, none⟩) ns.length cap1, .map (some w1.heap.size)] 298)) (.cells #[.pointer (some ⟨w1.heap.size + 1, 0, none⟩)] 295)
 have hb1 : Below w1.heap.size w1 (((w1.alloc (.map #[] 0)).alloc (.cells #[.slice (some ⟨g1, 0, none⟩) ns.length cap1, .map (some w1.heap.size)] 298)).alloc (.cells #[.pointer (some ⟨w1.heap.size + 1, 0, none⟩)] 295)) := (((Below.refl _ _).alloc (Nat.le_refl _) _).alloc (by simp) _).alloc (by simp; omega) _
 generalize hW : ((w1.alloc (.map #[] 0)).alloc (.cells #[.slice (some ⟨g1, 0, none⟩) ns.length cap1, .map (some w1.heap.size)] 298)).alloc (.cells #[.pointer (some ⟨w1.heap.size + 1, 0, none⟩)] 295) = wB at hb1 hvb
 have hJB : MapIs pairT 3 .i64 wB w1.heap.size 0 (fun _ => none) := by
  refine hJ.keep ?_
  obtain ⟨es, clk, ho⟩ := hJ.obj
  rw [ho, ← hW]
  exact heap_alloc_old (heap_alloc_old ho)
 have hSB : wB.heap[w1.heap.size + 1]? = some (.cells #[.slice (some ⟨g1, 0, none⟩) ns.length cap1, .map (some w1.heap.size)] 298 (0, 0)) := by
  rw [← hW]; exact heap_alloc_old (by simpa using hSb)
 have hvB : wB.heap[w1.heap.size + 1 + 1]? = some (.cells #[.pointer (some ⟨w1.heap.size + 1, 0, none⟩)] 295 (0, 0)) := by simpa using hvb
 have hszB : wB.heap.size = w1.heap.size + 3 := by rw [← hW]; simp
 clear hW hJ hSb hvb
 have HBB := hide hb1
 have HJB := hide hJB
 have HSB := hide hSB
 have HVB := hide hvB
 clear hb1 hJB hSB hvB
 refine (numbering_any _).mono ?_
 rintro e w2 ⟨M, mv, pl, rfl, hB2, hM1, hM2, hM3, hM4, hM5⟩
 have HB2 := hide hB2
 have HM4 := hide hM4
 have HM5 := hide hM5
 clear hB2 hM5 hM4
 go_wp2_with fail
 obtain ⟨q1, q2, q3, q4, q5, q6⟩ := four w2 (.cells #[.func (.func 196) #[] #[.pointer (some ⟨mv, 0, none⟩), .pointer (some ⟨pl, 0, none⟩)]] 284) (.cells #[.func (.func 197) #[] #[.pointer (some ⟨pl, 0, none⟩)]] 284) (.cells #[.int .u64 0] 188) (.cells #[.func (.func 175) #[] #[.pointer (some ⟨w2.heap.size, 0, none⟩), .pointer (some ⟨w1.heap.size + 1 + 1, 0, none⟩), .pointer (some ⟨w2.heap.size + 1 + 1, 0, none⟩)]] 301)
 generalize hW : (((w2.alloc (.cells #[.func (.func 196) #[] #[.pointer (some ⟨mv, 0, none⟩), .pointer (some ⟨pl, 0, none⟩)]] 284)).alloc (.cells #[.func (.func 197) #[] #[.pointer (some ⟨pl, 0, none⟩)]] 284)).alloc (.cells #[.int .u64 0] 188)).alloc (.cells #[.func (.func 175) #[] #[.pointer (some ⟨w2.heap.size, 0, none⟩), .pointer (some ⟨w1.heap.size + 1 + 1, 0, none⟩), .pointer (some ⟨w2.heap.size + 1 + 1, 0, none⟩)]] 301) = wC at q1 q2 q3 q4 q5 q6
 clear hW
 have Q1 := hide q1
 have Q2 := hide q2
 have Q3 := hide q3
 have Q4 := hide q4
 have Q5 := hide q5
 clear q1 q2 q3 q4 q5
 refine (remember_any _ _).mono ?_
 rintro e w3 ⟨K, kv, wk, rfl, hB3, hK1, hK2, hK3, hK4⟩
 have HB3 := hide hB3
 have HK2 := hide hK2
 have HK3 := hide hK3
 have HK4 := hide hK4
 have c4 := cell_one ((hB3.block _ (lt_of_get Q4.out)).trans Q4.out)
 have c4' := cell_alloc_old c4
 clear hB3 hK4 hK2 hK3
 go_wp2_with fail
 have havb := heap_alloc_last w3 (.cells #[.func (.func 198) #[] #[.pointer (some ⟨kv, 0, none⟩), .pointer (some ⟨wk, 0, none⟩)]] 302)
 have hbD : Below w3.heap.size w3 (w3.alloc (.cells #[.func (.func 198) #[] #[.pointer (some ⟨kv, 0, none⟩), .pointer (some ⟨wk, 0, none⟩)]] 302)) := (Below.refl _ _).alloc (Nat.le_refl _) _
 generalize hW : w3.alloc (.cells #[.func (.func 198) #[] #[.pointer (some ⟨kv, 0, none⟩), .pointer (some ⟨wk, 0, none⟩)]] 302) = W at havb hbD
 clear hW c4 c4'
 have bC := HB3.out.trans (hbD.mono HB3.out.size)
 have b2 := Q5.out.trans (bC.mono Q5.out.size)
 have bB := HB2.out.trans (b2.mono HB2.out.size)
 have b1 := HBB.out.trans (bB.mono HBB.out.size)
 have b0 := HB1.out.trans (b1.mono HB1.out.size)
 have bw := HB0.out.trans (b0.mono HB0.out.size)
 have s01 := HB1.out.size
 have s1B := HBB.out.size
 have sB2 := HB2.out.size
 have s2C := Q5.out.size
 have sC3 := HB3.out.size
 have hstay : Stay w W := Stay.of_below bw
 obtain ⟨ρ, hρ⟩ : ∃ ρ : Rd, ρ = ⟨w1.heap.size + 1, w1.heap.size + 1 + 1, M, mv, pl, w2.heap.size, w2.heap.size + 1, w2.heap.size + 1 + 1, w2.heap.size + 1 + 1 + 1, wk, K, kv, w3.heap.size⟩ := ⟨_, rfl⟩
 have hN2 := HM5.out
 have hM2lt : M < w2.heap.size := by obtain ⟨m, f, hm, _⟩ := hN2.map; exact hm.lt
 have hNW : Nums W M pl (.slice none 0 0) [] := by
  refine ⟨(b2.block _ (lt_of_get hN2.var)).trans hN2.var, hN2.row.keepB (fun k hk => by cases hk), ?_, hN2.nodup, hN2.small⟩
  obtain ⟨m, f, hm, h1, h2⟩ := hN2.map
  exact ⟨m, f, hm.keep (b2.block _ hm.lt), h1, h2⟩
 have hL1 := HL1.out
 have hLW : Lists W w.heap.size (.slice (some ⟨g1, 0, none⟩) ns.length cap1) ns := by
  have h1 := hL1.keep (fun k hk => b1.block k (lt_of_get (hL1.block hk).2.choose_spec))
  obtain ⟨⟨h2, h3⟩, h4⟩ := h1
  refine ⟨⟨h2, ?_⟩, h4⟩
  rcases h3 with h3 | ⟨g, cap, cur, a1, a2, a3⟩
  ·exact .inl h3
  ·exact .inr ⟨g, cap, cur, a1, by omega, a3⟩
 have hKlt := HK4.out.lt
 have hKW : MapIs givenT 188 .u64 W K 0 (fun _ => none) := HK4.out.keep (hbD.block _ hKlt)
 have hDyn : Dyn W (orK (old w.heap.size) ρ) ρ ns.length root ns [] [] 0 := by
  subst hρ
  exact reader_dyn (J := w1.heap.size) ((bB.block _ (lt_of_get HSB.out)).trans HSB.out) (by show w.heap.size ≤ w1.heap.size + 1; omega) hLW (HJB.out.keep (bB.block _ HJB.out.lt)) (by omega) (by show w1.heap.size ≠ M; omega) (by show w1.heap.size ≠ K; omega) hNW (by show w.heap.size ≤ M; omega) (by show w.heap.size ≤ pl; omega) ((bC.block _ (lt_of_get Q3.out)).trans Q3.out) (by show w.heap.size ≤ w2.heap.size + 1 + 1; omega) hKW (by show M ≠ K; omega) h0 hn (HE.out.world hstay) hz hl
 have hStc : Stc W ρ := by
  subst hρ
  exact ⟨(bB.block _ (lt_of_get HVB.out)).trans HVB.out, (b2.block _ (lt_of_get HM4.out)).trans HM4.out, (bC.block _ (lt_of_get Q1.out)).trans Q1.out, (bC.block _ (lt_of_get Q2.out)).trans Q2.out, (bC.block _ (lt_of_get Q4.out)).trans Q4.out, (hbD.block _ (lt_of_get HK3.out)).trans HK3.out, (hbD.block _ (lt_of_get HK2.out)).trans HK2.out, havb⟩
 have hKρ : ρ.K = K := by rw [hρ]
 have hOld : Old (orK (old w.heap.size) ρ) W := by
  rintro j (hj | rfl)
  ·exact Nat.lt_of_lt_of_le hj bw.size
  ·rw [hKρ]; exact hKW.lt
 have hRt := HR.out.world hstay
 have HMK := hide (mark_any _ ρ ns.length root ns [] [] 0 (.base root) k W hOld hDyn hStc (by rw [HKK.out]; exact ⟨rfl, hRt.all_lt, hRt⟩) (by simp [met]))
 have HR4 := hide ((b0.block _ (lt_of_get HR0.out)).trans HR0.out)
 have HSTC := hide hStc
 have HKW := hide (hKρ ▸ hKW)
 have HBW := hide bw
 have hKN : w.heap.size ≤ ρ.K := by rw [hKρ]; omega
 have hρ1 : ρ.nv = w2.heap.size := by rw [hρ]
 have hρ2 : ρ.sv = w1.heap.size + 1 + 1 := by rw [hρ]
 have hρ3 : ρ.ev = w2.heap.size + 1 + 1 := by rw [hρ]
 have hρ4 : ρ.av = w3.heap.size := by rw [hρ]
 rw [← hρ3, ← hρ1, ← hρ2, ← hρ4]
 clear hρ hDyn hStc hKW hLW hL1 hNW hN2 hRt hOld hstay bw b0 b1 bB b2 bC hbD havb
 refine HMK.out.mono ?_
 rintro e w4 ⟨n, ts', pls', en', rfl, hF4, hD4, hn4, -⟩
 have hR4 := hF4.stay _ _ _ (by decide) HR4.out
 have g0 : w4.cell? ⟨w.heap.size, 0, none⟩ = some (.int .u64 0) := by simp [World.cell?, hR4]
 have g1' : w4.cell? ⟨w.heap.size, 1, none⟩ = some .nilFunc := by simp [World.cell?, hR4]
 have g2 : w4.cell? ⟨w.heap.size, 2, none⟩ = some .nilFunc := by simp [World.cell?, hR4]
 have z0 : w4.frozen? ⟨w.heap.size, 0, none⟩ = false := by simp [World.frozen?, hR4]
 have z1 : w4.frozen? ⟨w.heap.size, 1, none⟩ = false := by simp [World.frozen?, hR4]
 have z2 : w4.frozen? ⟨w.heap.size, 2, none⟩ = false := by simp [World.frozen?, hR4]
 have HEND := hide (reader_end hF4 hD4 HSTC.out hKN HKW.out hn4)
 have HF4 := hide hF4
 have HR5 := hide hR4
 clear hF4 hD4 hn4 hR4 HMK
 go_wp2_with fail
 refine bodyPost_ret (v := .agg #[.int .u64 (2 ^ n), .func (.func 179) #[] #[.pointer (some ⟨w3.heap.size, 0, none⟩)], .func (.func 181) #[] #[.pointer (some ⟨w2.heap.size + 1 + 1, 0, none⟩)]]) (by simp [results, Tryz.results140, go_sem, *]) rfl ?_
 refine ⟨ρ, 2 ^ n, ts', en', by simp [rdv, hρ3, hρ4], ?_, HEND.out.1.other (fun j o ho hne => ?_), HEND.out.2⟩
 ·have hbx : Below w.heap.size W w4 := ⟨HF4.out.os, HF4.out.tape, HF4.out.output, HF4.out.size, fun j hj => HF4.out.keep j (.inl hj)⟩
  exact (((HBW.out.trans hbx).setCell (Nat.le_refl _) _).setCell (Nat.le_refl _) _).setCell (Nat.le_refl _) _
 ·have hj : j ≠ w.heap.size := by
   rintro rfl
   rw [HR5.out] at ho
   cases ho
   exact hne _ _ rfl
  rw [Below.heap_setCell _ _ _ _ (by exact hj), Below.heap_setCell _ _ _ _ (by exact hj), Below.heap_setCell _ _ _ _ (by exact hj)]
  exact ho
end Go.Proofs.YtgncgdkpkkdaeaaGreatDoor
