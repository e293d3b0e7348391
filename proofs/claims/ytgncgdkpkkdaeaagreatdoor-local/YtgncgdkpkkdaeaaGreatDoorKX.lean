import Derived.Test.YtgncgdkpkkdaeaaGreatDoorKW
import Derived.Sort.CutIn
namespace Go.Proofs.YtgncgdkpkkdaeaaGreatDoor
open Go.RowKit Tint Go.Maps
theorem FinList.cell {w : World} {B cap len : Nat} {ao : Option Addr} {ds : List FD} (h : FinList w B (.slice ao len cap) ds) (hl : len = ds.length) {q : Nat} {x : FD} (hx : ds[q]? = some x) : ∃ g, ao = some ⟨g, 0, none⟩ ∧ ∀ (y : Nat) c, x.cells[y]? = some c → w.cell? ⟨g, q * 6 + y, none⟩ = some c := by
 subst hl
 have hq := get_lt hx
 obtain ⟨g, cap', hv⟩ := own_form h.row (by omega)
 cases hv
 refine ⟨g, rfl, fun y c hy => ?_⟩
 have hy6 : y < 6 := by have := get_lt hy; simpa [FD.cells] using this
 have hfm : ∀ (l : List FD) (q : Nat) (x : FD), l[q]? = some x → (l.flatMap FD.cells)[q * 6 + y]? = x.cells[y]? := by
  intro l
  induction l with
  | nil => intro q x h; simp at h
  | cons a t ih =>
   intro q x h
   cases q with
   | zero =>
    simp at h
    subst h
    rw [List.flatMap_cons, List.getElem?_append_left (by simp [FD.cells]; omega)]
    simp
   | succ q =>
    rw [List.flatMap_cons, List.getElem?_append_right (by simp [FD.cells]; omega)]
    have e : (q + 1) * 6 + y - a.cells.length = q * 6 + y := by simp [FD.cells]; omega
    rw [e]
    exact ih q x (by simpa using h)
 have := h.row.cells rfl (q * 6 + y) c (by rw [hfm ds q x hx]; exact hy)
 by_cases h0 : q * 6 + y = 0
 ·rw [h0] at this ⊢; simpa [Addr.add] using this
 ·have hn : ¬ (q * 6 = 0 ∧ y = 0) := by omega
  simpa [Addr.add, hn] using this
section
variable {W : World} {N : Nat} {A : Nat → Prop} {g n cap : Nat} {G : List GS} {d : PD} {f : Nat → Option Value} {F : Nat → List FD}
theorem PainterIs.get (h : PainterIs W N A g n cap G d f F) {i k : Nat} {s : GS} {r : GR} {ao : Option Addr} {cp : Nat} (hs : G[i]? = some s) (hf : f i = some (.slice ao s.rs.length cp)) (hr : s.rs[k]? = some r) :
  ∃ x fg, ao = some ⟨fg, 0, none⟩ ∧ (F i)[k]? = some x ∧ x.a = r.a ∧ ∀ (y : Nat) c, x.cells[y]? = some c → W.cell? ⟨fg, k * 6 + y, none⟩ = some c := by
 obtain ⟨s', ao', cp', e1, e2, e3, e4, e5⟩ := h.fin i _ hf
 rw [hs] at e2
 cases e2
 have hl : (F i).length = s.rs.length := by have := congrArg List.length e3; simpa using this
 have h1 := congrArg (fun l => l[k]?) e3
 simp only [List.getElem?_map, hr] at h1
 cases h2 : (F i)[k]? with
 | none => rw [h2] at h1; cases h1
 | some x =>
  rw [h2] at h1
  obtain ⟨fg, h3, h4⟩ := e4.cell hl.symm h2
  exact ⟨x, fg, h3, rfl, by simpa using h1, h4⟩
def UsePost (W : World) (N : Nat) (A : Nat → Prop) (g n cap : Nat) (G : List GS) (d : PD) (f : Nat → Option Value) (r : Re) (T : List UInt8) (p : Nat) (e : Ending) (W' : World) : Prop :=
 ∃ (stop : Nat) (A' : Nat → Prop) (F' : Nat → List FD), e = .returned (.int .i64 stop) ∧ Long r T p stop ∧ Off A W W' ∧ (∀ k, A' k → A k ∨ W.heap.size ≤ k) ∧ PainterIs W' N A' g n cap G d f F'
theorem end_use (h : PainterIs W N A g n cap G d f F) {i k p : Nat} {v : Value} {x : FD} {line : ByteArray} (hf : f i = some v) (hx : (F i)[k]? = some x) (hp : p ≤ line.size) (hz : line.size ≤ 3000) :
  Calls Tryz.prog 129 #[fnv x.ρf x.sf x.ρb x.sb, .string line, .int .i64 p] W (UsePost W N A g n cap G d f x.a.re line.data.toList p) := by
 obtain ⟨s', ao', cp', e1, e2, e3, e4, e5⟩ := h.fin i v hf
 have hxm := List.mem_of_getElem? hx
 have hxA : ∀ y, x.O y → A y := fun y hy => (h.own i v hf x hxm y hy).1
 refine (end_any x.O x.a x.ρf x.sf x.ρb x.sb line p W h.tab.2 (e4.each x hxm).1 hp (by unfold maxLen; omega)).mono ?_
 rintro e W' ⟨stop, rfl, hoff, hF, hlong⟩
 refine ⟨stop, _, _, rfl, hlong, hoff.sub fun y _ hy => hxA y hy, fun y hy => ?_, h.use (Z := fun _ => False) hf hx (hoff.sub fun y _ hy => .inl hy) (fun _ hy => hy.elim) (fun y hy => ?_) hF⟩
 ·rcases hy with hy | hy
  ·exact .inl hy
  ·rcases hy with hy | hy
   ·exact .inl (hxA y hy)
   ·exact .inr hy.1
 ·exact hy.imp id fun h => h.1
end
theorem gapL_short (a p : Nat) (nm : ByteArray) (dep : Nat) : (gapL a p nm dep).length ≤ 1 := by
 unfold gapL
 split <;> simp
theorem Path.short {G : List GS} {T : List UInt8} {st0 : List Nat} {at_ : Nat} {st : List Nat} {pre : List Sp} (hok : GOk G) (h : Path G T st0 at_ st pre) : pre.length ≤ 2 * at_ := by
 induction h with
 | start => exact Nat.le_refl _
 | @hit at_ st pre top s p k r e _ h1 h2 h3 h4 ih =>
  have hg := (h4.gt (hok _ (List.mem_of_getElem? h3) _ (List.mem_of_getElem? h4.rule)).1).1
  have hl := h4.le
  have hs := gapL_short at_ p s.nm st.length
  simp only [List.length_append, List.length_cons, List.length_nil]
  omega
theorem Off.setRow {Y : Nat → Prop} {w : World} {g : Nat} {old : Array Value} {t : TypeId} {fz : Nat × Nat} (cs : Array Value) (hg : w.heap[g]? = some (.cells old t fz)) (ht : stable t = false) (hy : Y g) : Off Y w (w.setRow g cs) :=
 ⟨rfl, rfl, rfl, by simp, fun k hk => setRow_other _ _ _ _ (fun e => hk.2 (e ▸ hy)), fun k c t' ht' hh => (setRow_other _ _ _ _ (fun e => by rw [e, hg] at hh; cases hh; rw [ht] at ht'; cases ht')).trans hh⟩
theorem two_step {P R : World → Prop} {C : Prop} (main : Hid (∀ w, R w → P w) → C) (pf : ∀ w, R w → P w) : C := main (hide pf)
theorem cell_at {w : World} {b j : Nat} {cs : Array Value} {t : TypeId} {fz : Nat × Nat} {v : Value} (h : w.heap[b]? = some (.cells cs t fz)) (hj : cs[j]? = some v) : w.cell? ⟨b, j, none⟩ = some v := by
 simp [World.cell?, h, hj]
inductive Fwd (G : List GS) (T : List UInt8) : Nat → List Nat → List Sp → List Nat → Prop where
 | done {at_ : Nat} {st : List Nat} : at_ = T.length → Fwd G T at_ st [] st
 | none {at_ : Nat} {st : List Nat} {top : Nat} {s : GS} : at_ < T.length → st[st.length - 1]? = some top → G[top]? = some s → NoHit s.rs T at_ → Fwd G T at_ st [⟨at_, T.length, s.nm, st.length, ⟨#[]⟩⟩] st
 | hit {at_ : Nat} {st : List Nat} {top : Nat} {s : GS} {p k : Nat} {r : GR} {e : Nat} {sps : List Sp} {st' : List Nat} : at_ < T.length → st[st.length - 1]? = some top → G[top]? = some s → HitAt s.rs T at_ p k r e → Fwd G T e (aft r.k r.op st) sps st' → Fwd G T at_ st (gapL at_ p s.nm st.length ++ ⟨p, e, s.nm, st.length, r.co⟩ :: sps) st'
theorem Path.fwd {G : List GS} {T : List UInt8} {st0 : List Nat} {at_ : Nat} {st : List Nat} {pre : List Sp} (h : Path G T st0 at_ st pre) : ∀ {sps : List Sp} {st' : List Nat}, Fwd G T at_ st sps st' → Fwd G T 0 st0 (pre ++ sps) st' := by
 induction h with
 | start => intro sps st' h; exact h
 | hit _ h1 h2 h3 h4 ih =>
  intro sps st' h
  have := ih (Fwd.hit h1 h2 h3 h4 h)
  simpa using this
theorem Thru.fwd {G : List GS} {T : List UInt8} {st0 : List Nat} {sps : List Sp} {st : List Nat} (h : Thru G T st0 sps st) : Fwd G T 0 st0 sps st := by
 rcases h with h | ⟨at_, pre, top, s, h1, h2, h3, h4, h5, rfl⟩
 ·have := h.fwd (Fwd.done rfl)
  simpa using this
 ·exact h1.fwd (Fwd.none h2 h3 h4 h5)
theorem HitAt.no {rs : List GR} {T : List UInt8} {at_ p k : Nat} {r : GR} {e : Nat} (h : HitAt rs T at_ p k r e) : ¬ NoHit rs T at_ := fun hn => hn p h.le h.lt k r h.rule h.from_
theorem Long.det {r : Re} {T : List UInt8} {p e e' : Nat} (h : Long r T p e) (h' : Long r T p e') : e = e' := by
 obtain ⟨a1, a2, a3, a4⟩ := h
 obtain ⟨b1, b2, b3, b4⟩ := h'
 rcases Nat.lt_trichotomy e e' with h1 | h1 | h1
 ·rcases b3 with h2 | h2
  ·omega
  ·exact absurd h2 (a4 e' h1 b2)
 ·exact h1
 ·rcases a3 with h2 | h2
  ·omega
  ·exact absurd h2 (b4 e h1 a2)
theorem HitAt.det {rs : List GR} {T : List UInt8} {at_ p k : Nat} {r : GR} {e : Nat} {p' k' : Nat} {r' : GR} {e' : Nat} (h : HitAt rs T at_ p k r e) (h' : HitAt rs T at_ p' k' r' e') : p = p' ∧ r = r' ∧ e = e' := by
 have hp : p = p' := by
  rcases Nat.lt_trichotomy p p' with h1 | h1 | h1
  ·exact absurd h.from_ (h'.least p h.le h1 k r h.rule)
  ·exact h1
  ·exact absurd h'.from_ (h.least p' h'.le h1 k' r' h'.rule)
 subst hp
 have hk : k = k' := by
  rcases Nat.lt_trichotomy k k' with h1 | h1 | h1
  ·exact absurd h.from_ (h'.first k r h1 h.rule)
  ·exact h1
  ·exact absurd h'.from_ (h.first k' r' h1 h'.rule)
 subst hk
 have hr : r = r' := by have := h.rule; rw [h'.rule] at this; cases this; rfl
 subst hr
 exact ⟨rfl, rfl, h.long.det h'.long⟩
theorem Fwd.det {G : List GS} {T : List UInt8} {at_ : Nat} {st : List Nat} {sps : List Sp} {st' : List Nat} (h : Fwd G T at_ st sps st') : ∀ {sps2 : List Sp} {st2 : List Nat}, Fwd G T at_ st sps2 st2 → sps = sps2 ∧ st' = st2 := by
 induction h with
 | done h1 =>
  intro sps2 st2 h
  cases h with
  | done => exact ⟨rfl, rfl⟩
  | none h2 => omega
  | hit h2 => omega
 | none h1 h2 h3 h4 =>
  intro sps2 st2 h
  cases h with
  | done h5 => omega
  | none a1 a2 a3 a4 =>
   rw [h2] at a2; cases a2
   rw [h3] at a3; cases a3
   exact ⟨rfl, rfl⟩
  | hit a1 a2 a3 a4 a5 =>
   rw [h2] at a2; cases a2
   rw [h3] at a3; cases a3
   exact absurd h4 a4.no
 | hit h1 h2 h3 h4 h5 ih =>
  intro sps2 st2 h
  cases h with
  | done h5 => omega
  | none a1 a2 a3 a4 =>
   rw [h2] at a2; cases a2
   rw [h3] at a3; cases a3
   exact absurd a4 h4.no
  | hit a1 a2 a3 a4 a5 =>
   rw [h2] at a2; cases a2
   rw [h3] at a3; cases a3
   obtain ⟨rfl, rfl, rfl⟩ := h4.det a4
   obtain ⟨rfl, rfl⟩ := ih a5
   exact ⟨rfl, rfl⟩
def splitL : List UInt8 → List (List UInt8)
 | [] => [[]]
 | x :: t => if x = 10 then [] :: splitL t else match splitL t with
  | [] => [[x]]
  | l :: ls => (x :: l) :: ls
theorem splitL_ne (t : List UInt8) : splitL t ≠ [] := by
 cases t with
 | nil => simp [splitL]
 | cons x t =>
  unfold splitL
  split
  ·simp
  ·split <;> simp
theorem splitL_one {a : List UInt8} (h : (10 : UInt8) ∉ a) : splitL a = [a] := by
 induction a with
 | nil => rfl
 | cons x t ih =>
  have h1 : x ≠ 10 := fun e => h (by simp [e])
  unfold splitL
  rw [if_neg h1, ih (fun e => h (List.mem_cons_of_mem _ e))]
theorem splitL_cut {a : List UInt8} (h : (10 : UInt8) ∉ a) (b : List UInt8) : splitL (a ++ 10 :: b) = a :: splitL b := by
 induction a with
 | nil => simp [splitL]
 | cons x t ih =>
  have h1 : x ≠ 10 := fun e => h (by simp [e])
  rw [List.cons_append, splitL, if_neg h1, ih (fun e => h (List.mem_cons_of_mem _ e))]
theorem splitL_length (t : List UInt8) : (splitL t).length = 1 + t.count 10 := by
 induction t with
 | nil => rfl
 | cons x t ih =>
  unfold splitL
  by_cases h : x = 10
  ·rw [if_pos h]; subst h; simp [ih]; omega
  ·rw [if_neg h]
   have hne := splitL_ne t
   cases hs : splitL t with
   | nil => exact absurd hs hne
   | cons l ls =>
    rw [hs] at ih
    rw [List.count_cons_of_ne (by simpa using h)]
    simpa using ih
theorem splitL_short {t : List UInt8} {l : List UInt8} (h : l ∈ splitL t) : l.length ≤ t.length := by
 induction t generalizing l with
 | nil => simp [splitL] at h; simp [h]
 | cons x t ih =>
  unfold splitL at h
  by_cases hx : x = 10
  ·rw [if_pos hx] at h
   rcases List.mem_cons.1 h with rfl | h
   ·simp
   ·have := ih h; simp; omega
  ·rw [if_neg hx] at h
   cases hs : splitL t with
   | nil => exact absurd hs (splitL_ne t)
   | cons l' ls =>
    rw [hs] at h ih
    rcases List.mem_cons.1 h with rfl | h
    ·have := ih (List.mem_cons_self); simp; omega
    ·have := ih (List.mem_cons_of_mem _ h); simp; omega
inductive Runs (G : List GS) : List Nat → List (List UInt8) → List (List Nat × List Sp) → List Nat → Prop where
 | nil {st : List Nat} : Runs G st [] [] st
 | cons {st : List Nat} {l : List UInt8} {ls : List (List UInt8)} {sps : List Sp} {st1 : List Nat} {out : List (List Nat × List Sp)} {st' : List Nat} : Thru G l st sps st1 → Runs G st1 ls out st' → Runs G st (l :: ls) ((st, sps) :: out) st'
theorem Runs.snoc {G : List GS} {st : List Nat} {ls : List (List UInt8)} {out : List (List Nat × List Sp)} {st1 : List Nat} (h : Runs G st ls out st1) {l : List UInt8} {sps : List Sp} {st2 : List Nat} (ht : Thru G l st1 sps st2) : Runs G st (ls ++ [l]) (out ++ [(st1, sps)]) st2 := by
 induction h with
 | nil => exact .cons ht .nil
 | cons h1 _ ih => exact .cons h1 (ih ht)
theorem Runs.append {G : List GS} {st : List Nat} {ls : List (List UInt8)} {out : List (List Nat × List Sp)} {st1 : List Nat} (h : Runs G st ls out st1) {ls2 : List (List UInt8)} {out2 : List (List Nat × List Sp)} {st2 : List Nat} (h2 : Runs G st1 ls2 out2 st2) : Runs G st (ls ++ ls2) (out ++ out2) st2 := by
 induction h with
 | nil => exact h2
 | cons h1 _ ih => exact .cons h1 (ih h2)
theorem Runs.det {G : List GS} {st : List Nat} {ls : List (List UInt8)} {out : List (List Nat × List Sp)} {st1 : List Nat} (h : Runs G st ls out st1) : ∀ {out2 : List (List Nat × List Sp)} {st2 : List Nat}, Runs G st ls out2 st2 → out = out2 ∧ st1 = st2 := by
 induction h with
 | nil => intro out2 st2 h; cases h; exact ⟨rfl, rfl⟩
 | cons h1 _ ih =>
  intro out2 st2 h
  cases h with
  | cons a1 a2 =>
   obtain ⟨rfl, rfl⟩ := h1.fwd.det a1.fwd
   obtain ⟨rfl, rfl⟩ := ih a2
   exact ⟨rfl, rfl⟩
theorem Runs.length {G : List GS} {st : List Nat} {ls : List (List UInt8)} {out : List (List Nat × List Sp)} {st1 : List Nat} (h : Runs G st ls out st1) : out.length = ls.length := by
 induction h with
 | nil => rfl
 | cons _ _ ih => simp [ih]
theorem Thru.good {G : List GS} {T : List UInt8} {st0 : List Nat} {sps : List Sp} {st : List Nat} (hok : GOk G) (h0 : Good G st0) (h : Thru G T st0 sps st) : Good G st := by
 have hp : ∀ {at_ : Nat} {st : List Nat} {pre : List Sp}, Path G T st0 at_ st pre → Good G st := by
  intro at_ st pre h
  induction h with
  | start => exact h0
  | hit _ _ _ hs hh ih => exact ih.aft (fun hk => (hok _ (List.mem_of_getElem? hs) _ (List.mem_of_getElem? hh.rule)).2 hk)
 rcases h with h | ⟨_, _, _, _, h, _⟩
 ·exact hp h
 ·exact hp h
end Go.Proofs.YtgncgdkpkkdaeaaGreatDoor
