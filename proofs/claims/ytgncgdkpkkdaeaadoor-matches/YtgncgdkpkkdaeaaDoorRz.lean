/- Find: the least of the starts, and the end from there. -/
import Derived.Test.YtgncgdkpkkdaeaaDoorRY
import Derived.Test.YtgncgdkpkkdaeaaDoorRf
namespace Go.Proofs.YtgncgdkpkkdaeaaDoor
open Go.RowKit Tint Go.Maps Go.Shelf
attribute [local go_sem] Oper.semAt_some

/-- The blocks that Starts lays. -/
def laid3 (ρf : Rd) (sf : Nat) (ρb : Rd) (sb : Nat) (text : ByteArray) (f : Nat) (w : World) : World :=
  ((w.alloc (fbox ρf sf ρb sb)).alloc (.cells #[.string text] 9)).alloc (.cells #[.int .i64 f] 3)

def seqv (q : Nat) : Value := .func (.func 42) #[] #[.pointer (some ⟨q, 0, none⟩), .pointer (some ⟨q + 1, 0, none⟩), .pointer (some ⟨q + 1 + 1, 0, none⟩)]

set_option maxHeartbeats 1000000 in
theorem starts_fn (ρf : Rd) (sf : Nat) (ρb : Rd) (sb : Nat) (text : ByteArray) (f : Nat) (w : World) :
    Calls Tryd.prog 25 #[fnv ρf sf ρb sb, .string text, .int .i64 f] w fun e w' => e = .returned (seqv w.heap.size) ∧ w' = laid3 ρf sf ρb sb text f w := by
  unfold fnv
  go_enter Tryd.func25, Tryd.ntmps25
  go_wp2_with fail
  go_ret
  exact ⟨rfl, rfl⟩

theorem seen_skip {r : Re} {T : List UInt8} {i p : Nat} {o : Bool} (h : ¬ From r T i) (hs : Seen r T (i + 1) p o) : Seen r T i p o := by
  refine ⟨fun ho => ?_, fun ho => ?_⟩
  · obtain ⟨a1, a2, a3, a4⟩ := hs.1 ho
    refine ⟨by omega, a2, a3, fun j h1 h2 => ?_⟩
    rcases Nat.lt_or_ge i j with h3 | h3
    · exact a4 j h3 h2
    · obtain rfl : j = i := by omega
      exact h
  · obtain ⟨a1, a2⟩ := hs.2 ho
    refine ⟨a1, fun j h1 => ?_⟩
    rcases Nat.lt_or_ge i j with h3 | h3
    · exact a2 j h3
    · obtain rfl : j = i := by omega
      exact h

theorem seen_hit {r : Re} {T : List UInt8} {i : Nat} (hi : i ≤ T.length) (h : From r T i) : Seen r T i i true :=
  ⟨fun _ => ⟨Nat.le_refl _, hi, h, fun _ _ _ => by omega⟩, fun h => by cases h⟩

theorem seen_start {r : Re} {T : List UInt8} {i : Nat} (hi : T.length < i) : Seen r T i 0 false :=
  ⟨fun h => (by cases h), fun _ => ⟨rfl, fun j h1 => by rintro ⟨k, h2, h3, _⟩; omega⟩⟩

theorem found_of {r : Re} {T : List UInt8} {f p e : Nat} (h : Seen r T f p true) (hl : Long r T p e) : IsMatch r T f (some (p, e)) := by
  obtain ⟨h1, h2, h3, h4⟩ := h.1 rfl
  obtain ⟨k1, k2, k3, k4⟩ := hl
  refine ⟨h1, k1, k2, ?_, h4, k4⟩
  rcases k3 with rfl | k3
  · obtain ⟨j, a1, a2, a3⟩ := h3
    rcases Nat.lt_or_ge e j with h | h
    · exact absurd a3 (k4 j h a2)
    · obtain rfl : j = e := by omega
      exact a3
  · exact k3

/-- Between two rounds of Find's loop. -/
structure FindJ (O : Nat → Prop) (ρf : Rd) (sf : Nat) (ρb : Rd) (sb : Nat) (r : Re) (T : List UInt8) (q : Nat) (rc : Loop) (w : World) (i : Nat) (W : World) : Prop where
  seen : ∃ (p : Nat) (o : Bool), W.heap[q + 1]? = some (.cells #[.int .i64 p] 3 (0, 0)) ∧ W.heap[q + 1 + 1]? = some (.cells #[.bool o] 4 (0, 0)) ∧ Seen r T i p o
  box : W.heap[q]? = some (fbox ρf sf ρb sb)
  dfr : W.heap[q + 6]? = some (.deferred (some []))
  rcd : W.heap[q + 6 + 1]? = some (.loop rc)
  off : Off O w W

/-- What lies there where Find's loop begins. -/
structure FindLaid (ρf : Rd) (sf : Nat) (ρb : Rd) (sb : Nat) (text : ByteArray) (f q : Nat) (w V : World) : Prop where
  size : V.heap.size = q + 6
  below : Below w.heap.size w V
  box : V.heap[q]? = some (fbox ρf sf ρb sb)
  start : V.heap[q + 1]? = some (.cells #[.int .i64 (0 : Nat)] 3 (0, 0))
  ok : V.heap[q + 1 + 1]? = some (.cells #[.bool false] 4 (0, 0))
  sbox : SBox (q + 3) (q + 3 + 1) (q + 3 + 1 + 1) ρf sf ρb sb text f V

theorem six (w : World) (o1 o2 o3 o4 o5 o6 : Obj) : ∀ V, V = (((((w.alloc o1).alloc o2).alloc o3).alloc o4).alloc o5).alloc o6 → V.heap.size = w.heap.size + 6 ∧ Below w.heap.size w V ∧ V.heap[w.heap.size]? = some o1 ∧ V.heap[w.heap.size + 1]? = some o2 ∧ V.heap[w.heap.size + 1 + 1]? = some o3 ∧ V.heap[w.heap.size + 3]? = some o4 ∧ V.heap[w.heap.size + 3 + 1]? = some o5 ∧ V.heap[w.heap.size + 3 + 1 + 1]? = some o6 := by
  rintro V rfl
  have h1 := heap_alloc_last w o1
  have h2 := heap_alloc_last (w.alloc o1) o2
  have h3 := heap_alloc_last ((w.alloc o1).alloc o2) o3
  have h4 := heap_alloc_last (((w.alloc o1).alloc o2).alloc o3) o4
  have h5 := heap_alloc_last ((((w.alloc o1).alloc o2).alloc o3).alloc o4) o5
  have h6 := heap_alloc_last (((((w.alloc o1).alloc o2).alloc o3).alloc o4).alloc o5) o6
  rw [show (w.alloc o1).heap.size = w.heap.size + 1 by simp] at h2
  rw [show ((w.alloc o1).alloc o2).heap.size = w.heap.size + 1 + 1 by simp] at h3
  rw [show (((w.alloc o1).alloc o2).alloc o3).heap.size = w.heap.size + 3 by simp] at h4
  rw [show ((((w.alloc o1).alloc o2).alloc o3).alloc o4).heap.size = w.heap.size + 3 + 1 by simp] at h5
  rw [show (((((w.alloc o1).alloc o2).alloc o3).alloc o4).alloc o5).heap.size = w.heap.size + 3 + 1 + 1 by simp] at h6
  refine ⟨by simp, ?_, heap_alloc_old (heap_alloc_old (heap_alloc_old (heap_alloc_old (heap_alloc_old h1)))), heap_alloc_old (heap_alloc_old (heap_alloc_old (heap_alloc_old h2))), heap_alloc_old (heap_alloc_old (heap_alloc_old h3)), heap_alloc_old (heap_alloc_old h4), heap_alloc_old h5, h6⟩
  exact ((((((Below.refl _ _).alloc (Nat.le_refl _) _).alloc (by simp) _).alloc (by simp; omega) _).alloc (by simp; omega) _).alloc (by simp; omega) _).alloc (by simp; omega) _

theorem starts_laid (ρf : Rd) (sf : Nat) (ρb : Rd) (sb : Nat) (text : ByteArray) (f : Nat) (w : World) (hT : Tab w) (h0 : 0 < w.heap.size) :
    Calls Tryd.prog 25 #[fnv ρf sf ρb sb, .string text, .int .i64 f] (((w.alloc (fbox ρf sf ρb sb)).alloc (.cells #[.int .i64 0] 3)).alloc (.cells #[.bool false] 4)) fun e V => e = .returned (seqv (w.heap.size + 3)) ∧ FindLaid ρf sf ρb sb text f w.heap.size w V := by
  refine (starts_fn ρf sf ρb sb text f _).mono ?_
  rintro e V ⟨rfl, hV⟩
  obtain ⟨h1, h2, h3, h4, h5, h6, h7, h8⟩ := six w _ _ _ _ _ _ V hV
  exact ⟨by simp, h1, h2, h3, h4, h5, ⟨h6, h7, h8, hT.keep (h2.block _ h0)⟩⟩

def FindEnd (O : Nat → Prop) (a : ARe) (ρf : Rd) (sf : Nat) (ρb : Rd) (sb : Nat) (T : List UInt8) (f : Nat) (w : World) (e : Ending) (w' : World) : Prop :=
  ∃ o, IsMatch a.re T f o ∧ e = .returned (found o) ∧ Off O w w' ∧ ∃ O', (∀ k, O' k → O k ∨ w.heap.size ≤ k) ∧ FinderIs w' O' a ρf sf ρb sb

/-- What Find's rounds may change. -/
def roundY (q : Nat) : Nat → Prop := fun k => k = q + 1 ∨ k = q + 1 + 1 ∨ k = q + 6 + 1

theorem find_loop (O : Nat → Prop) (a : ARe) (ρf : Rd) (sf : Nat) (ρb : Rd) (sb : Nat) (text : ByteArray) (f q : Nat) (w V : World) (hF : FinderIs w O a ρf sf ρb sb) (hs : f ≤ text.size) (hsz : text.size ≤ maxLen) (hq : q = w.heap.size) (hV : FindLaid ρf sf ρb sb text f q w V) (rc : LoopState → Option Code → Loop) (K : Ending → World → Prop)
    (hround : ∀ i A, i ≤ text.size → From a.re text.data.toList i → FindJ O ρf sf ρb sb a.re text.data.toList q (rc .ready none) w (i + 1) A → YieldAt Fence.wide 3 Tryd.prog (q + 6 + 1) #[.int .i64 i] A fun e B => Off (roundY q) A B ∧ ((e = .returned (.bool true) ∧ FindJ O ρf sf ρb sb a.re text.data.toList q (rc .ready none) w i B) ∨ (e = .returned (.bool false) ∧ False)))
    (hend : ∀ v W O', (∀ k, O' k → O k ∨ q + 8 ≤ k) → FinderIs W O' a ρf sf ρb sb → FindJ O ρf sf ρb sb a.re text.data.toList q (rc .ready none) w f W → K (.returned v) W) :
    CallsIn Fence.wide 4 Tryd.prog 42 #[.func (.yield (q + 6 + 1)) #[] #[], .pointer (some ⟨q + 3, 0, none⟩), .pointer (some ⟨q + 3 + 1, 0, none⟩), .pointer (some ⟨q + 3 + 1 + 1, 0, none⟩)] ((V.alloc (.deferred (some []))).alloc (.loop (rc .ready none))) K := by
  have hOq : ∀ k, O k → k < q := fun k hk => by rw [hq]; exact hF.old k hk
  have hbV : Below V.heap.size V ((V.alloc (.deferred (some []))).alloc (.loop (rc .ready none))) := ((Below.refl _ _).alloc (Nat.le_refl _) _).alloc (by simp) _
  have hbw : Below w.heap.size w ((V.alloc (.deferred (some []))).alloc (.loop (rc .ready none))) := hV.below.trans (hbV.mono hV.below.size)
  have hz : ((V.alloc (.deferred (some []))).alloc (.loop (rc .ready none))).heap.size = q + 8 := by simp [hV.size]
  have hk : ∀ (k : Nat) o, V.heap[k]? = some o → ((V.alloc (.deferred (some []))).alloc (.loop (rc .ready none))).heap[k]? = some o := fun k o h => (hbV.block k (lt_of_get h)).trans h
  have hd : ((V.alloc (.deferred (some []))).alloc (.loop (rc .ready none))).heap[q + 6]? = some (.deferred (some [])) := by
    have h1 := heap_alloc_last V (.deferred (some []))
    rw [hV.size] at h1
    exact heap_alloc_old h1
  have hr : ((V.alloc (.deferred (some []))).alloc (.loop (rc .ready none))).heap[q + 6 + 1]? = some (.loop (rc .ready none)) := by
    have h1 := heap_alloc_last (V.alloc (.deferred (some []))) (.loop (rc .ready none))
    rw [show (V.alloc (.deferred (some []))).heap.size = q + 6 + 1 by simp [hV.size]] at h1
    exact h1
  have hsb := hV.sbox
  refine (starts_iter 4 O (roundY q) a ρf sf ρb sb text f (q + 6 + 1) (q + 3) (q + 3 + 1) (q + 3 + 1 + 1) (fun i W => FindJ O ρf sf ρb sb a.re text.data.toList q (rc .ready none) w i W) (fun _ _ => False) _ (hF.below hbw) ⟨hk _ _ hsb.fin, hk _ _ hsb.txt, hk _ _ hsb.frm, hsb.tab.keep (hbV.block _ (by have := hF.tab0; have := hV.size; omega))⟩ hs hsz ?_ ?_ ?_ ?_ ?_ ?_ ?_ ?_ ?_ ?_).mono ?_
  · rintro k (rfl | rfl | rfl) hO <;> (have := hOq _ hO; omega)
  · rintro k (rfl | rfl | rfl) <;> (rw [hz]; omega)
  · exact ⟨fun hO => by have := hOq _ hO; omega, by rintro (h | h | h) <;> omega⟩
  · exact ⟨fun hO => by have := hOq _ hO; omega, by rintro (h | h | h) <;> omega⟩
  · exact ⟨fun hO => by have := hOq _ hO; omega, by rintro (h | h | h) <;> omega⟩
  · have := hF.tab0
    rintro (h | h | h) <;> omega
  · rintro i A B hj hoff
    rw [hz] at hoff
    have hkeep : ∀ (k : Nat) o, q ≤ k → k < q + 8 → A.heap[k]? = some o → B.heap[k]? = some o := fun k o h1 h2 h => hoff.same h (fun hk => hk.elim (fun hO => by have := hOq _ hO; omega) (fun hge => by omega))
    obtain ⟨p, o, s1, s2, s3⟩ := hj.seen
    exact ⟨⟨p, o, hkeep _ _ (by omega) (by omega) s1, hkeep _ _ (by omega) (by omega) s2, s3⟩, hkeep _ _ (by omega) (by omega) hj.box, hkeep _ _ (by omega) (by omega) hj.dfr, hkeep _ _ (by omega) (by omega) hj.rcd, ⟨hoff.os.trans hj.off.os, hoff.tape.trans hj.off.tape, hoff.output.trans hj.off.output, Nat.le_trans hj.off.size hoff.size, fun k hk => (hoff.keep k ⟨Nat.lt_of_lt_of_le hk.1 hj.off.size, fun hh => hh.elim hk.2 (fun hge => by have := hk.1; omega)⟩).trans (hj.off.keep k hk), fun k c t ht hh => hoff.stay k c t ht (hj.off.stay k c t ht hh)⟩⟩
  · rintro i A h1 h2 hn hj
    obtain ⟨p, o, s1, s2, s3⟩ := hj.seen
    exact ⟨⟨p, o, s1, s2, seen_skip hn s3⟩, hj.box, hj.dfr, hj.rcd, hj.off⟩
  · exact fun i A h1 h2 hfrom hj => hround i A h2 hfrom hj
  · exact ⟨⟨0, false, hk _ _ hV.start, hk _ _ hV.ok, seen_start (by rw [text_length]; omega)⟩, hk _ _ hV.box, hd, hr, Off.of_below hbw⟩
  · rintro e W ⟨⟨v, rfl⟩, ⟨O', hO', hF'⟩, hJ | ⟨i, hJ⟩⟩
    · exact hend v W O' (fun k hk => (hO' k hk).imp id fun h => by rw [hz] at h; exact h) hF' hJ
    · exact hJ.elim

theorem find_round {O : Nat → Prop} {ρf : Rd} {sf : Nat} {ρb : Rd} {sb : Nat} {r : Re} {T : List UInt8} {q : Nat} {rc : Loop} {w A : World} {i : Nat} (hj : FindJ O ρf sf ρb sb r T q rc w (i + 1) A) (hq : q = w.heap.size) (hi : i ≤ T.length) (hfrom : From r T i) (rb : Loop) :
    ∃ (p : Nat) (o : Bool), (A.putObj (q + 6 + 1) (.loop rb)).cell? ⟨q + 1, 0, none⟩ = some (.int .i64 p) ∧ (A.putObj (q + 6 + 1) (.loop rb)).frozen? ⟨q + 1, 0, none⟩ = false ∧ (A.putObj (q + 6 + 1) (.loop rb)).cell? ⟨q + 1 + 1, 0, none⟩ = some (.bool o) ∧ (A.putObj (q + 6 + 1) (.loop rb)).frozen? ⟨q + 1 + 1, 0, none⟩ = false ∧
      ∀ B, B = ((A.putObj (q + 6 + 1) (.loop rb)).setCell ⟨q + 1, 0, none⟩ (.int .i64 i)).setCell ⟨q + 1 + 1, 0, none⟩ (.bool true) → B.heap[q + 6 + 1]? = some (.loop rb) ∧ Off (roundY q) A (B.putObj (q + 6 + 1) (.loop rc)) ∧ FindJ O ρf sf ρb sb r T q rc w i (B.putObj (q + 6 + 1) (.loop rc)) := by
  obtain ⟨p, o, s1, s2, s3⟩ := hj.seen
  have hl := lt_of_get hj.rcd
  have p1 : (A.putObj (q + 6 + 1) (.loop rb)).heap[q + 1]? = some (.cells #[.int .i64 p] 3 (0, 0)) := (World.putObj_heap_other (by omega)).trans s1
  have p2 : (A.putObj (q + 6 + 1) (.loop rb)).heap[q + 1 + 1]? = some (.cells #[.bool o] 4 (0, 0)) := (World.putObj_heap_other (by omega)).trans s2
  have pl : (A.putObj (q + 6 + 1) (.loop rb)).heap[q + 6 + 1]? = some (.loop rb) := World.putObj_heap_same hl
  refine ⟨p, o, by simp [World.cell?, p1], by simp [World.frozen?, p1], by simp [World.cell?, p2], by simp [World.frozen?, p2], ?_⟩
  rintro B rfl
  have q1 := heap_setCell_same _ (q + 1) 0 (.int .i64 i) p1
  have q2 : ((A.putObj (q + 6 + 1) (.loop rb)).setCell ⟨q + 1, 0, none⟩ (.int .i64 i)).heap[q + 1 + 1]? = some (.cells #[.bool o] 4 (0, 0)) := (Below.heap_setCell _ _ _ _ (by show q + 1 + 1 ≠ q + 1; omega)).trans p2
  have t2 := heap_setCell_same _ (q + 1 + 1) 0 (.bool true) q2
  have t1 : (((A.putObj (q + 6 + 1) (.loop rb)).setCell ⟨q + 1, 0, none⟩ (.int .i64 i)).setCell ⟨q + 1 + 1, 0, none⟩ (.bool true)).heap[q + 1]? = _ := (Below.heap_setCell _ _ _ _ (by show q + 1 ≠ q + 1 + 1; omega)).trans q1
  have tl : (((A.putObj (q + 6 + 1) (.loop rb)).setCell ⟨q + 1, 0, none⟩ (.int .i64 i)).setCell ⟨q + 1 + 1, 0, none⟩ (.bool true)).heap[q + 6 + 1]? = some (.loop rb) := (Below.heap_setCell _ _ _ _ (by show q + 6 + 1 ≠ q + 1 + 1; omega)).trans ((Below.heap_setCell _ _ _ _ (by show q + 6 + 1 ≠ q + 1; omega)).trans pl)
  have hoff : Off (roundY q) A ((((A.putObj (q + 6 + 1) (.loop rb)).setCell ⟨q + 1, 0, none⟩ (.int .i64 i)).setCell ⟨q + 1 + 1, 0, none⟩ (.bool true)).putObj (q + 6 + 1) (.loop rc)) :=
    (((Off.putObj _ hj.rcd (.inr (.inr rfl))).trans (Off.setCell (p := ⟨q + 1, 0, none⟩) (.inl rfl) p1 (by decide) _)).trans (Off.setCell (p := ⟨q + 1 + 1, 0, none⟩) (.inr (.inl rfl)) q2 (by decide) _)).trans (Off.putObj _ tl (.inr (.inr rfl)))
  have hk : ∀ (k : Nat) ob, ¬ roundY q k → A.heap[k]? = some ob → ((((A.putObj (q + 6 + 1) (.loop rb)).setCell ⟨q + 1, 0, none⟩ (.int .i64 i)).setCell ⟨q + 1 + 1, 0, none⟩ (.bool true)).putObj (q + 6 + 1) (.loop rc)).heap[k]? = some ob := fun k ob h1 h2 => hoff.same h2 h1
  refine ⟨tl, hoff, ⟨i, true, (World.putObj_heap_other (by omega)).trans (by simpa using t1), (World.putObj_heap_other (by omega)).trans (by simpa using t2), seen_hit hi hfrom⟩, hk _ _ (by rintro (h | h | h) <;> omega) hj.box, hk _ _ (by rintro (h | h | h) <;> omega) hj.dfr, World.putObj_heap_same (lt_of_get tl), ⟨hoff.os.trans hj.off.os, hoff.tape.trans hj.off.tape, hoff.output.trans hj.off.output, Nat.le_trans hj.off.size hoff.size, fun k hk' => (hoff.keep k ⟨Nat.lt_of_lt_of_le hk'.1 hj.off.size, ?_⟩).trans (hj.off.keep k hk'), fun k c t ht hh => hoff.stay k c t ht (hj.off.stay k c t ht hh)⟩⟩
  have := hk'.1
  rintro (h | h | h) <;> omega

/-- Behind the loop. -/
theorem find_after {O O' : Nat → Prop} {a : ARe} {ρf : Rd} {sf : Nat} {ρb : Rd} {sb : Nat} {T : List UInt8} {q : Nat} {rc : Loop} {w W : World} {f : Nat} (hj : FindJ O ρf sf ρb sb a.re T q rc w f W) (hq : q = w.heap.size) (hT : Tab w) (hF : FinderIs w O a ρf sf ρb sb) (hO' : ∀ k, O' k → O k ∨ q + 8 ≤ k) (hF' : FinderIs W O' a ρf sf ρb sb) (ro : Loop) :
    ∃ W1, W.putObj (q + 6 + 1) (.loop ro) = W1 ∧ ∃ (p : Nat) (o : Bool), W1.cell? ⟨q + 1, 0, none⟩ = some (.int .i64 p) ∧ W1.cell? ⟨q + 1 + 1, 0, none⟩ = some (.bool o) ∧ Seen a.re T f p o ∧ W1.heap[q]? = some (fbox ρf sf ρb sb) ∧ W1.heap[q + 6]? = some (.deferred (some [])) ∧ Off O w W1 ∧ FinderIs W1 O' a ρf sf ρb sb ∧ Tab W1 ∧ q + 8 ≤ W1.heap.size := by
  obtain ⟨p, o, s1, s2, s3⟩ := hj.seen
  have hoff : Off (fun k => k = q + 6 + 1) W (W.putObj (q + 6 + 1) (.loop ro)) := Off.putObj _ hj.rcd rfl
  have c1 := hoff.same s1 (by omega)
  have c2 := hoff.same s2 (by omega)
  have hw : Off O w (W.putObj (q + 6 + 1) (.loop ro)) := ⟨hoff.os.trans hj.off.os, hoff.tape.trans hj.off.tape, hoff.output.trans hj.off.output, Nat.le_trans hj.off.size hoff.size, fun k hk' => (hoff.keep k ⟨Nat.lt_of_lt_of_le hk'.1 hj.off.size, by have := hk'.1; omega⟩).trans (hj.off.keep k hk'), fun k c t ht hh => hoff.stay k c t ht (hj.off.stay k c t ht hh)⟩
  refine ⟨_, rfl, p, o, by simp [World.cell?, c1], by simp [World.cell?, c2], s3, hoff.same hj.box (by omega), hoff.same hj.dfr (by omega), hw, hF'.off hoff (fun k hk e => (hO' k hk).elim (fun h => by have := hF.old k h; omega) (fun h => by omega)), ?_⟩
  exact ⟨hT.keep (hw.keep _ ⟨hF.tab0, hF.tab⟩), by have := lt_of_get hj.rcd; simp; omega⟩

theorem Off.putObj' {Y : Nat → Prop} {w : World} {l : Nat} {o' : Obj} (o : Obj) (hl : w.heap[l]? = some o') (hn : ∀ c t fz, o' ≠ .cells c t fz) (hy : Y l) : Off Y w (w.putObj l o) :=
  ⟨rfl, rfl, rfl, by simp, fun k hk => World.putObj_heap_other (fun e => hk.2 (e ▸ hy)), fun k c t _ hh => (World.putObj_heap_other (fun e => by rw [e, hl] at hh; exact hn _ _ _ (Option.some.inj hh))).trans hh⟩

/-- Behind the mark. -/
theorem find_ret {O O' : Nat → Prop} {a : ARe} {ρf : Rd} {sf : Nat} {ρb : Rd} {sb : Nat} {T : List UInt8} {q f : Nat} {w W : World} {o : Option (Nat × Nat)} (hq : q = w.heap.size) (hm : IsMatch a.re T f o) (hd : W.heap[q + 6]? = some (.deferred (some []))) (hoff : Off O w W) (hF : FinderIs W O' a ρf sf ρb sb) (hO' : ∀ k, O' k → O k ∨ q + 8 ≤ k) (hO : ∀ k, O k → k < q) :
    FindEnd O a ρf sf ρb sb T f w (.returned (found o)) (W.putObj (q + 6) (.deferred none)) := by
  have h1 : Off (fun k => k = q + 6) W (W.putObj (q + 6) (.deferred none)) := Off.putObj' _ hd (fun _ _ _ h => by cases h) rfl
  refine ⟨o, hm, rfl, ⟨h1.os.trans hoff.os, h1.tape.trans hoff.tape, h1.output.trans hoff.output, Nat.le_trans hoff.size h1.size, fun k hk' => (h1.keep k ⟨Nat.lt_of_lt_of_le hk'.1 hoff.size, by have := hk'.1; omega⟩).trans (hoff.keep k hk'), fun k c t ht hh => h1.stay k c t ht (hoff.stay k c t ht hh)⟩, O', fun k hk => (hO' k hk).imp id fun h => by omega, hF.off h1 fun k hk e => (hO' k hk).elim (fun h => by have := hO k h; omega) (fun h => by omega)⟩

set_option maxRecDepth 20000 in
set_option maxHeartbeats 2000000 in
theorem find_any (O : Nat → Prop) (a : ARe) (ρf : Rd) (sf : Nat) (ρb : Rd) (sb : Nat) (text : ByteArray) (f : Nat) (w : World) (hT : Tab w) (hF : FinderIs w O a ρf sf ρb sb) (hs : f ≤ text.size) (hsz : text.size ≤ maxLen) :
    Calls Tryd.prog 16 #[fnv ρf sf ρb sb, .string text, .int .i64 f] w (FindEnd O a ρf sf ρb sb text.data.toList f w) := by
  have HT := hide hT
  have HF := hide hF
  clear hT hF
  refine (callsIn_wide (n := 5)).1 (callsIn_of_wp_marks Tryd.func16 rfl trivial (wpIn_wide.2 ?_))
  simp only [Tryd.ntmps16, List.size_toArray, List.length_cons, List.length_nil, Nat.reduceAdd, Nat.reduceSub, Array.replicate_succ, Array.replicate_zero, List.push_toArray, List.append_toArray, List.nil_append, List.cons_append]
  unfold fnv
  go_wp2_with fail
  refine (starts_laid ρf sf ρb sb text f w HT.out HF.out.tab0).mono ?_
  rintro e V ⟨rfl, hV⟩
  obtain ⟨q, hq⟩ : ∃ q, q = w.heap.size := ⟨_, rfl⟩
  rw [← hq] at hV ⊢
  have HV := hide hV
  have HQ := hide hq
  clear hV hq
  unfold seqv
  go_wp2_with fail
  refine (wpIn_wide (n := 5)).1 (range_outer rfl (by decide) (gf := 42) (lb := #[.pointer (some ⟨q + 3, 0, none⟩), .pointer (some ⟨q + 3 + 1, 0, none⟩), .pointer (some ⟨q + 3 + 1 + 1, 0, none⟩)]) rfl trivial (enters_of Tryd.func42 (by kernel_rfl) rfl) ?_)
  intro fn hfn
  rw [HV.out.size]
  refine find_loop O a ρf sf ρb sb text f q w V HF.out hs hsz HQ.out HV.out (recd fn _ _ _ _ _) _ ?_ ?_
  · intro i A hi hfrom hj
    have HJ := hide hj
    refine round_recd trivial hj.rcd rfl ?_
    intro rb rc hrc
    rw [← hrc] at HJ ⊢
    clear hj hrc
    gi_wp2_with fail
    refine ⟨HJ.out.rcd, ?_⟩
    obtain ⟨p, o, c1, f1, c2, f2, hB⟩ := find_round HJ.out HQ.out (by rw [text_length]; exact hi) hfrom rb
    have HBB := hide (hB _ rfl)
    clear hB
    gi_wp2_with fail
    exact ⟨HBB.out.1, HBB.out.2.1, .inl ⟨rfl, HBB.out.2.2⟩⟩
  · intro v W O' hO' hF' hj
    refine ⟨⟨v, rfl⟩, .inl ⟨hj.rcd, fun ro => ?_⟩⟩
    obtain ⟨W1, hW1, p, o, c1, c2, hseen, hbx, hdf, hoff, hF1, hT1, hz8⟩ := find_after hj HQ.out HT.out HF.out hO' hF' ro
    rw [hW1]
    have hb0 : W1.cell? ⟨q, 0, none⟩ = some (.int .u64 sf) := by simp [World.cell?, hbx, fbox]
    have hb1 : W1.cell? ⟨q, 1, none⟩ = some (.func (.func 39) #[] #[.pointer (some ⟨ρf.av, 0, none⟩)]) := by simp [World.cell?, hbx, fbox]
    have hb2 : W1.cell? ⟨q, 2, none⟩ = some (.func (.func 41) #[] #[.pointer (some ⟨ρf.ev, 0, none⟩)]) := by simp [World.cell?, hbx, fbox]
    have hb3 : W1.cell? ⟨q, 3, none⟩ = some (.int .u64 sb) := by simp [World.cell?, hbx, fbox]
    have hb4 : W1.cell? ⟨q, 4, none⟩ = some (.func (.func 39) #[] #[.pointer (some ⟨ρb.av, 0, none⟩)]) := by simp [World.cell?, hbx, fbox]
    have hb5 : W1.cell? ⟨q, 5, none⟩ = some (.func (.func 41) #[] #[.pointer (some ⟨ρb.ev, 0, none⟩)]) := by simp [World.cell?, hbx, fbox]
    have HS := hide hseen
    have HD := hide hdf
    have HOF := hide hoff
    have HF1 := hide hF1
    have HT1 := hide hT1
    have HO := hide hO'
    have HBX := hide hbx
    clear hj hF' hW1 hseen hdf hoff hF1 hT1 hbx hO'
    dsimp only
    have hOq : ∀ k, O k → k < q := fun k hk => by rw [HQ.out]; exact HF.out.old k hk
    have HOQ := hide hOq
    clear hOq
    cases o with
    | false =>
      have HEND := hide (find_ret HQ.out (o := none) (HS.out.2 rfl).2 HD.out HOF.out HF1.out HO.out HOQ.out)
      go_wp2_with fail
      refine ⟨by simp, .inl ⟨_, _, rfl, run_takeDeferred HD.out, ?_⟩⟩
      exact ⟨_, (by simp [results, Tryd.results16, go_sem]; rfl), HEND.out⟩
    | true =>
      have hps : p ≤ text.size := by have := (HS.out.1 rfl).2.1; rw [text_length] at this; exact this
      have HEN := hide (end_any O' a ρf sf ρb sb text p W1.drew HT1.out (HF1.out.below (Below.refl _ _).drew) hps hsz)
      unfold fnv at HEN
      have HPS := hide (fun (w5 : World) (stop : Nat) (h1 : Off O' W1.drew w5) (h2 : FinderIs w5 (grow O' W1.drew w5) a ρf sf ρb sb) (h3 : Long a.re text.data.toList p stop) => show (w5.cell? ⟨q + 1, 0, none⟩ = some (.int .i64 p) ∧ w5.cell? ⟨q, 0, none⟩ = some (.int .u64 sf) ∧ w5.cell? ⟨q, 1, none⟩ = some (.func (.func 39) #[] #[.pointer (some ⟨ρf.av, 0, none⟩)]) ∧ w5.cell? ⟨q, 2, none⟩ = some (.func (.func 41) #[] #[.pointer (some ⟨ρf.ev, 0, none⟩)]) ∧ w5.cell? ⟨q, 3, none⟩ = some (.int .u64 sb) ∧ w5.cell? ⟨q, 4, none⟩ = some (.func (.func 39) #[] #[.pointer (some ⟨ρb.av, 0, none⟩)]) ∧ w5.cell? ⟨q, 5, none⟩ = some (.func (.func 41) #[] #[.pointer (some ⟨ρb.ev, 0, none⟩)])) ∧ w5.heap[q + 6]? = some (.deferred (some [])) ∧ FindEnd O a ρf sf ρb sb text.data.toList f w (.returned (found (some (p, stop)))) (w5.putObj (q + 6) (.deferred none)) from by
        have hn : ∀ k, q ≤ k → k < q + 8 → ¬ O' k := fun k ha hb hk => (HO.out k hk).elim (fun h => by have := HOQ.out k h; omega) (fun h => by omega)
        have hbx := h1.same HBX.out (hn q (by omega) (by omega))
        have hp := (World.cell?_of_block (w := W1) (a := ⟨q + 1, 0, none⟩) (h1.keep (q + 1) ⟨show q + 1 < W1.heap.size by omega, hn _ (by omega) (by omega)⟩)).trans c1
        have hd := h1.same HD.out (hn (q + 6) (by omega) (by omega))
        have hsz1 : W1.drew.heap.size = W1.heap.size := rfl
        refine ⟨⟨hp, by simp [World.cell?, hbx, fbox], by simp [World.cell?, hbx, fbox], by simp [World.cell?, hbx, fbox], by simp [World.cell?, hbx, fbox], by simp [World.cell?, hbx, fbox], by simp [World.cell?, hbx, fbox]⟩, hd, find_ret HQ.out (found_of HS.out h3) hd ?_ h2 ?_ HOQ.out⟩
        · exact ⟨h1.os.trans HOF.out.os, h1.tape.trans HOF.out.tape, h1.output.trans HOF.out.output, Nat.le_trans HOF.out.size h1.size, fun k hk' => (h1.keep k ⟨Nat.lt_of_lt_of_le hk'.1 HOF.out.size, fun hk => (HO.out k hk).elim hk'.2 (fun h => by have := hk'.1; have := HQ.out; omega)⟩).trans (HOF.out.keep k hk'), fun k c t ht hh => h1.stay k c t ht (HOF.out.stay k c t ht hh)⟩
        · intro k hk
          rcases hk with hk | hk
          · exact HO.out k hk
          · exact .inr (by rw [hsz1] at hk; omega))
      go_wp2_with fail
      go_region_held3 (fun w' => w'.cell? ⟨q + 1, 0, none⟩ = some (.int .i64 p) ∧ w'.cell? ⟨q, 0, none⟩ = some (.int .u64 sf) ∧ w'.cell? ⟨q, 1, none⟩ = some (.func (.func 39) #[] #[.pointer (some ⟨ρf.av, 0, none⟩)]) ∧ w'.cell? ⟨q, 2, none⟩ = some (.func (.func 41) #[] #[.pointer (some ⟨ρf.ev, 0, none⟩)]) ∧ w'.cell? ⟨q, 3, none⟩ = some (.int .u64 sb) ∧ w'.cell? ⟨q, 4, none⟩ = some (.func (.func 39) #[] #[.pointer (some ⟨ρb.av, 0, none⟩)]) ∧ w'.cell? ⟨q, 5, none⟩ = some (.func (.func 41) #[] #[.pointer (some ⟨ρb.ev, 0, none⟩)]))
        (first
          | with_reducible exact hS5
          | go_keep)
        (first
          | (go_at_call 26; refine HEN.out.mono ?_; rintro e5 w5 ⟨stop, rfl, h51, h52, h53⟩; obtain ⟨hS5, hd5, he5⟩ := HPS.out w5 stop h51 h52 h53; have HD5 := hide hd5; have HE5 := hide he5; clear hd5 he5 h51 h52 h53))
      all_goals
        go_wp2_with fail
        refine ⟨by simp, .inl ⟨_, _, rfl, run_takeDeferred HD5.out, ?_⟩⟩
        exact ⟨_, (by simp [results, Tryd.results16, go_sem]; rfl), HE5.out⟩
end Go.Proofs.YtgncgdkpkkdaeaaDoor
