/- Put together from S16, S17, H1, S14, S15. -/
import Derived.Test.YtgncgdkpkkdaeaaGreatDoorQW
import Derived.Sort.CutIn
/- Going through a line comes to one thing only. -/
namespace Go.Proofs.YtgncgdkpkkdaeaaGreatDoor
open Go.RowKit Tint Go.Maps

/-- A line gone through from a place on. -/
inductive Fwd (G : List GS) (T : List UInt8) : Nat → List Nat → List Sp → List Nat → Prop where
  | done {at_ : Nat} {st : List Nat} : at_ = T.length → Fwd G T at_ st [] st
  | none {at_ : Nat} {st : List Nat} {top : Nat} {s : GS} : at_ < T.length → st[st.length - 1]? = some top → G[top]? = some s → NoHit s.rs T at_ → Fwd G T at_ st [⟨at_, T.length, s.nm, st.length, ⟨#[]⟩⟩] st
  | hit {at_ : Nat} {st : List Nat} {top : Nat} {s : GS} {p k : Nat} {r : GR} {e : Nat} {sps : List Sp} {st' : List Nat} : at_ < T.length → st[st.length - 1]? = some top → G[top]? = some s → HitAt s.rs T at_ p k r e → Fwd G T e (aft r.k r.op st) sps st' → Fwd G T at_ st (gapL at_ p s.nm st.length ++ ⟨p, e, s.nm, st.length, r.co⟩ :: sps) st'

theorem Path.fwd {G : List GS} {T : List UInt8} {st0 : List Nat} {at_ : Nat} {st : List Nat} {pre : List Sp} (h : Path G T st0 at_ st pre) : ∀ {sps : List Sp} {st' : List Nat}, Fwd G T at_ st sps st' → Fwd G T 0 st0 (pre ++ sps) st' := by
  induction h with
  | start => intro sps st' h; exact h
  | hit _ h1 h2 h3 h4 ih =>
    intro sps st' h
    have := ih (Fwd.hit h1 h2 h3 h4 h)
    simpa using this

theorem Thru.fwd {G : List GS} {T : List UInt8} {st0 : List Nat} {sps : List Sp} {st : List Nat} (h : Thru G T st0 sps st) : Fwd G T 0 st0 sps st := by
  rcases h with h | ⟨at_, pre, top, s, h1, h2, h3, h4, h5, rfl⟩
  · have := h.fwd (Fwd.done rfl)
    simpa using this
  · exact h1.fwd (Fwd.none h2 h3 h4 h5)

theorem HitAt.no {rs : List GR} {T : List UInt8} {at_ p k : Nat} {r : GR} {e : Nat} (h : HitAt rs T at_ p k r e) : ¬ NoHit rs T at_ := fun hn => hn p h.le h.lt k r h.rule h.from_

theorem Long.det {r : Re} {T : List UInt8} {p e e' : Nat} (h : Long r T p e) (h' : Long r T p e') : e = e' := by
  obtain ⟨a1, a2, a3, a4⟩ := h
  obtain ⟨b1, b2, b3, b4⟩ := h'
  rcases Nat.lt_trichotomy e e' with h1 | h1 | h1
  · rcases b3 with h2 | h2
    · omega
    · exact absurd h2 (a4 e' h1 b2)
  · exact h1
  · rcases a3 with h2 | h2
    · omega
    · exact absurd h2 (b4 e h1 a2)

theorem HitAt.det {rs : List GR} {T : List UInt8} {at_ p k : Nat} {r : GR} {e : Nat} {p' k' : Nat} {r' : GR} {e' : Nat} (h : HitAt rs T at_ p k r e) (h' : HitAt rs T at_ p' k' r' e') : p = p' ∧ r = r' ∧ e = e' := by
  have hp : p = p' := by
    rcases Nat.lt_trichotomy p p' with h1 | h1 | h1
    · exact absurd h.from_ (h'.least p h.le h1 k r h.rule)
    · exact h1
    · exact absurd h'.from_ (h.least p' h'.le h1 k' r' h'.rule)
  subst hp
  have hk : k = k' := by
    rcases Nat.lt_trichotomy k k' with h1 | h1 | h1
    · exact absurd h.from_ (h'.first k r h1 h.rule)
    · exact h1
    · exact absurd h'.from_ (h.first k' r' h1 h'.rule)
  subst hk
  have hr : r = r' := by have := h.rule; rw [h'.rule] at this; cases this; rfl
  subst hr
  exact ⟨rfl, rfl, h.long.det h'.long⟩

theorem Fwd.det {G : List GS} {T : List UInt8} {at_ : Nat} {st : List Nat} {sps : List Sp} {st' : List Nat} (h : Fwd G T at_ st sps st') : ∀ {sps2 : List Sp} {st2 : List Nat}, Fwd G T at_ st sps2 st2 → sps = sps2 ∧ st' = st2 := by
  induction h with
  | done h1 =>
    intro sps2 st2 h
    cases h with
    | done => exact ⟨rfl, rfl⟩
    | none h2 => omega
    | hit h2 => omega
  | none h1 h2 h3 h4 =>
    intro sps2 st2 h
    cases h with
    | done h5 => omega
    | none a1 a2 a3 a4 =>
      rw [h2] at a2; cases a2
      rw [h3] at a3; cases a3
      exact ⟨rfl, rfl⟩
    | hit a1 a2 a3 a4 a5 =>
      rw [h2] at a2; cases a2
      rw [h3] at a3; cases a3
      exact absurd h4 a4.no
  | hit h1 h2 h3 h4 h5 ih =>
    intro sps2 st2 h
    cases h with
    | done h5 => omega
    | none a1 a2 a3 a4 =>
      rw [h2] at a2; cases a2
      rw [h3] at a3; cases a3
      exact absurd a4 h4.no
    | hit a1 a2 a3 a4 a5 =>
      rw [h2] at a2; cases a2
      rw [h3] at a3; cases a3
      obtain ⟨rfl, rfl, rfl⟩ := h4.det a4
      obtain ⟨rfl, rfl⟩ := ih a5
      exact ⟨rfl, rfl⟩
end Go.Proofs.YtgncgdkpkkdaeaaGreatDoor

/- The lines of a text; lines gone through one behind the other. -/
namespace Go.Proofs.YtgncgdkpkkdaeaaGreatDoor
open Go.RowKit Tint Go.Maps

/-- The lines of a text. -/
def splitL : List UInt8 → List (List UInt8)
  | [] => [[]]
  | x :: t => if x = 10 then [] :: splitL t else match splitL t with
    | [] => [[x]]
    | l :: ls => (x :: l) :: ls

theorem splitL_ne (t : List UInt8) : splitL t ≠ [] := by
  cases t with
  | nil => simp [splitL]
  | cons x t =>
    unfold splitL
    split
    · simp
    · split <;> simp

theorem splitL_one {a : List UInt8} (h : (10 : UInt8) ∉ a) : splitL a = [a] := by
  induction a with
  | nil => rfl
  | cons x t ih =>
    have h1 : x ≠ 10 := fun e => h (by simp [e])
    unfold splitL
    rw [if_neg h1, ih (fun e => h (List.mem_cons_of_mem _ e))]

theorem splitL_cut {a : List UInt8} (h : (10 : UInt8) ∉ a) (b : List UInt8) : splitL (a ++ 10 :: b) = a :: splitL b := by
  induction a with
  | nil => simp [splitL]
  | cons x t ih =>
    have h1 : x ≠ 10 := fun e => h (by simp [e])
    rw [List.cons_append, splitL, if_neg h1, ih (fun e => h (List.mem_cons_of_mem _ e))]

theorem splitL_length (t : List UInt8) : (splitL t).length = 1 + t.count 10 := by
  induction t with
  | nil => rfl
  | cons x t ih =>
    unfold splitL
    by_cases h : x = 10
    · rw [if_pos h]; subst h; simp [ih]; omega
    · rw [if_neg h]
      have hne := splitL_ne t
      cases hs : splitL t with
      | nil => exact absurd hs hne
      | cons l ls =>
        rw [hs] at ih
        rw [List.count_cons_of_ne (by simpa using h)]
        simpa using ih

/-- A line is no longer than its text. -/
theorem splitL_short {t : List UInt8} {l : List UInt8} (h : l ∈ splitL t) : l.length ≤ t.length := by
  induction t generalizing l with
  | nil => simp [splitL] at h; simp [h]
  | cons x t ih =>
    unfold splitL at h
    by_cases hx : x = 10
    · rw [if_pos hx] at h
      rcases List.mem_cons.1 h with rfl | h
      · simp
      · have := ih h; simp; omega
    · rw [if_neg hx] at h
      cases hs : splitL t with
      | nil => exact absurd hs (splitL_ne t)
      | cons l' ls =>
        rw [hs] at h ih
        rcases List.mem_cons.1 h with rfl | h
        · have := ih (List.mem_cons_self); simp; omega
        · have := ih (List.mem_cons_of_mem _ h); simp; omega

/-- Lines gone through, one behind the other: of each the stack ahead and its spans; the stack behind. -/
inductive Runs (G : List GS) : List Nat → List (List UInt8) → List (List Nat × List Sp) → List Nat → Prop where
  | nil {st : List Nat} : Runs G st [] [] st
  | cons {st : List Nat} {l : List UInt8} {ls : List (List UInt8)} {sps : List Sp} {st1 : List Nat} {out : List (List Nat × List Sp)} {st' : List Nat} : Thru G l st sps st1 → Runs G st1 ls out st' → Runs G st (l :: ls) ((st, sps) :: out) st'

theorem Runs.snoc {G : List GS} {st : List Nat} {ls : List (List UInt8)} {out : List (List Nat × List Sp)} {st1 : List Nat} (h : Runs G st ls out st1) {l : List UInt8} {sps : List Sp} {st2 : List Nat} (ht : Thru G l st1 sps st2) : Runs G st (ls ++ [l]) (out ++ [(st1, sps)]) st2 := by
  induction h with
  | nil => exact .cons ht .nil
  | cons h1 _ ih => exact .cons h1 (ih ht)

theorem Runs.append {G : List GS} {st : List Nat} {ls : List (List UInt8)} {out : List (List Nat × List Sp)} {st1 : List Nat} (h : Runs G st ls out st1) {ls2 : List (List UInt8)} {out2 : List (List Nat × List Sp)} {st2 : List Nat} (h2 : Runs G st1 ls2 out2 st2) : Runs G st (ls ++ ls2) (out ++ out2) st2 := by
  induction h with
  | nil => exact h2
  | cons h1 _ ih => exact .cons h1 (ih h2)

theorem Runs.det {G : List GS} {st : List Nat} {ls : List (List UInt8)} {out : List (List Nat × List Sp)} {st1 : List Nat} (h : Runs G st ls out st1) : ∀ {out2 : List (List Nat × List Sp)} {st2 : List Nat}, Runs G st ls out2 st2 → out = out2 ∧ st1 = st2 := by
  induction h with
  | nil => intro out2 st2 h; cases h; exact ⟨rfl, rfl⟩
  | cons h1 _ ih =>
    intro out2 st2 h
    cases h with
    | cons a1 a2 =>
      obtain ⟨rfl, rfl⟩ := h1.fwd.det a1.fwd
      obtain ⟨rfl, rfl⟩ := ih a2
      exact ⟨rfl, rfl⟩

theorem Runs.length {G : List GS} {st : List Nat} {ls : List (List UInt8)} {out : List (List Nat × List Sp)} {st1 : List Nat} (h : Runs G st ls out st1) : out.length = ls.length := by
  induction h with
  | nil => rfl
  | cons _ _ ih => simp [ih]

/-- The lines behind some. -/
theorem Runs.split {G : List GS} {st : List Nat} : ∀ {ls ls2 : List (List UInt8)} {out : List (List Nat × List Sp)} {st2 : List Nat}, Runs G st (ls ++ ls2) out st2 → ∃ o1 o2 st1, out = o1 ++ o2 ∧ Runs G st ls o1 st1 ∧ Runs G st1 ls2 o2 st2 := by
  intro ls
  induction ls generalizing st with
  | nil => intro ls2 out st2 h; exact ⟨[], out, st, rfl, .nil, h⟩
  | cons l ls ih =>
    intro ls2 out st2 h
    cases h with
    | cons h1 h2 =>
      obtain ⟨o1, o2, st1, rfl, a1, a2⟩ := ih h2
      exact ⟨_ :: o1, o2, st1, rfl, .cons h1 a1, a2⟩

theorem Thru.good {G : List GS} {T : List UInt8} {st0 : List Nat} {sps : List Sp} {st : List Nat} (hok : GOk G) (h0 : Good G st0) (h : Thru G T st0 sps st) : Good G st := by
  have hp : ∀ {at_ : Nat} {st : List Nat} {pre : List Sp}, Path G T st0 at_ st pre → Good G st := by
    intro at_ st pre h
    induction h with
    | start => exact h0
    | hit _ _ _ hs hh ih => exact ih.aft (fun hk => (hok _ (List.mem_of_getElem? hs) _ (List.mem_of_getElem? hh.rule)).2 hk)
  rcases h with h | ⟨_, _, _, _, h, _⟩
  · exact hp h
  · exact hp h
end Go.Proofs.YtgncgdkpkkdaeaaGreatDoor

/- What the document keeps of a state's rules: where each is found first. -/
namespace Go.Proofs.YtgncgdkpkkdaeaaGreatDoor
open Go.RowKit Tint Go.Maps

/-- Of a rule: where it is found from a place on, or found from an earlier one, or nothing is known. -/
def HitOk (r : Re) (T : List UInt8) (at_ : Nat) (f t : Int) : Prop :=
  f = -1 ∨ (f = 1000000 ∧ ∀ i, at_ ≤ i → ¬ From r T i) ∨ ∃ s e at0 : Nat, f = s ∧ t = e ∧ at0 ≤ at_ ∧ IsMatch r T at0 (some (s, e))

def HitNow (r : Re) (T : List UInt8) (at_ : Nat) (f t : Int) : Prop :=
  (f = 1000000 ∧ ∀ i, at_ ≤ i → ¬ From r T i) ∨ ∃ s e : Nat, f = s ∧ t = e ∧ IsMatch r T at_ (some (s, e))

theorem HitNow.ok {r : Re} {T : List UInt8} {at_ at' : Nat} {f t : Int} (h : HitNow r T at_ f t) (hl : at_ ≤ at') : HitOk r T at' f t := by
  rcases h with ⟨h1, h2⟩ | ⟨s, e, h1, h2, h3⟩
  · exact .inr (.inl ⟨h1, fun i hi => h2 i (by omega)⟩)
  · exact .inr (.inr ⟨s, e, at_, h1, h2, hl, h3⟩)

theorem HitOk.now {r : Re} {T : List UInt8} {at_ : Nat} {f t : Int} (h : HitOk r T at_ f t) (hl : (at_ : Int) ≤ f) : HitNow r T at_ f t := by
  rcases h with h1 | h1 | ⟨s, e, a0, h1, h2, h3, h4⟩
  · omega
  · exact .inl h1
  · exact .inr ⟨s, e, h1, h2, by omega, h4.2.1, h4.2.2.1, h4.2.2.2.1, fun i hi hs => h4.2.2.2.2.1 i (by omega) hs, h4.2.2.2.2.2⟩

theorem IsMatch.found {r : Re} {T : List UInt8} {f s e : Nat} (h : IsMatch r T f (some (s, e))) : From r T s := ⟨e, h.2.1, h.2.2.1, h.2.2.2.1⟩

/-- The rules of a state, and where each is found. -/
def HitsNow (rs : List GR) (T : List UInt8) (at_ : Nat) (hs : List (Int × Int)) : Prop := hs.length = rs.length ∧ ∀ (i : Nat) r h, rs[i]? = some r → hs[i]? = some h → HitNow r.a.re T at_ h.1 h.2
def HitsOk (rs : List GR) (T : List UInt8) (at_ : Nat) (hs : List (Int × Int)) : Prop := hs.length = rs.length ∧ ∀ (i : Nat) r h, rs[i]? = some r → hs[i]? = some h → HitOk r.a.re T at_ h.1 h.2

theorem HitsNow.ok {rs : List GR} {T : List UInt8} {at_ at' : Nat} {hs : List (Int × Int)} (h : HitsNow rs T at_ hs) (hl : at_ ≤ at') : HitsOk rs T at' hs := ⟨h.1, fun i r x h1 h2 => (h.2 i r x h1 h2).ok hl⟩

/-- The least of the first j. -/
def Least (hs : List (Int × Int)) (j : Nat) (hit from_ to : Int) : Prop :=
  (hit = -1 ∧ ∀ (i : Nat) h, i < j → hs[i]? = some h → 1000000 ≤ h.1) ∨
  ∃ k : Nat, hit = k ∧ k < j ∧ hs[k]? = some (from_, to) ∧ from_ < 1000000 ∧ (∀ (i : Nat) h, i < j → hs[i]? = some h → from_ ≤ h.1) ∧ ∀ (i : Nat) h, i < k → hs[i]? = some h → from_ < h.1

theorem Least.start (hs : List (Int × Int)) (a b : Int) : Least hs 0 (-1) a b := .inl ⟨rfl, fun i h hi => by omega⟩

theorem Least.skip {hs : List (Int × Int)} {j : Nat} {hit from_ to : Int} {x : Int × Int} (h : Least hs j hit from_ to) (hx : hs[j]? = some x) (hn : 1000000 ≤ x.1 ∨ (0 ≤ hit ∧ from_ ≤ x.1)) : Least hs (j + 1) hit from_ to := by
  rcases h with ⟨h1, h2⟩ | ⟨k, h1, h2, h3, h4, h5, h6⟩
  · refine .inl ⟨h1, fun i y hi hy => ?_⟩
    rcases Nat.lt_or_ge i j with h' | h'
    · exact h2 i y h' hy
    · obtain rfl : i = j := by omega
      rw [hx] at hy; cases hy
      rcases hn with hn | hn <;> omega
  · refine .inr ⟨k, h1, by omega, h3, h4, fun i y hi hy => ?_, h6⟩
    rcases Nat.lt_or_ge i j with h' | h'
    · exact h5 i y h' hy
    · obtain rfl : i = j := by omega
      rw [hx] at hy; cases hy
      rcases hn with hn | hn <;> omega

theorem Least.take {hs : List (Int × Int)} {j : Nat} {hit from_ to a b : Int} (h : Least hs j hit from_ to) (hx : hs[j]? = some (a, b)) (h1 : a < 1000000) (h2 : hit < 0 ∨ a < from_) : Least hs (j + 1) j a b := by
  refine .inr ⟨j, rfl, by omega, hx, h1, fun i y hi hy => ?_, fun i y hi hy => ?_⟩
  · rcases Nat.lt_or_ge i j with h' | h'
    · rcases h with ⟨e1, e2⟩ | ⟨k, e1, e2, e3, e4, e5, e6⟩
      · have := e2 i y h' hy; omega
      · have := e5 i y h' hy; omega
    · obtain rfl : i = j := by omega
      rw [hx] at hy; cases hy; exact Int.le_refl _
  · rcases h with ⟨e1, e2⟩ | ⟨k, e1, e2, e3, e4, e5, e6⟩
    · have := e2 i y hi hy; omega
    · have := e5 i y hi hy; omega

theorem Least.no {rs : List GR} {T : List UInt8} {at_ : Nat} {hs : List (Int × Int)} {hit a b : Int} (hn : HitsNow rs T at_ hs) (hz : T.length < 1000000) (h : Least hs rs.length hit a b) (hlt : hit < 0) : NoHit rs T at_ := by
  intro p h1 h2 k r hr hf
  rcases h with ⟨_, e2⟩ | ⟨k', e1, _⟩
  · have hk : k < hs.length := by rw [hn.1]; exact get_lt hr
    have hx : hs[k]? = some hs[k] := List.getElem?_eq_getElem hk
    have h3 := e2 k _ (get_lt hr) hx
    rcases hn.2 k r _ hr hx with ⟨_, h5⟩ | ⟨s, e, h5, _, h6⟩
    · exact h5 p h1 hf
    · have := h6.2.1; have := h6.2.2.1; omega
  · omega

theorem Least.hit {rs : List GR} {T : List UInt8} {at_ : Nat} {hs : List (Int × Int)} {hit a b : Int} (hok : ∀ r ∈ rs, r.a.re.nullable = false) (hn : HitsNow rs T at_ hs) (h : Least hs rs.length hit a b) (hge : 0 ≤ hit) :
    ∃ (k p e : Nat) (r : GR), hit = k ∧ a = p ∧ b = e ∧ rs[k]? = some r ∧ HitAt rs T at_ p k r e := by
  rcases h with ⟨h1, _⟩ | ⟨k, h1, h2, h3, h4, h5, h6⟩
  · omega
  · obtain ⟨r, hr⟩ : ∃ r, rs[k]? = some r := ⟨_, List.getElem?_eq_getElem h2⟩
    rcases hn.2 k r _ hr h3 with ⟨e1, _⟩ | ⟨s, e, e1, e2, hm⟩
    · simp at e1; omega
    · simp at e1 e2
      have hf := hm.found
      have none_at : ∀ (i : Nat) (q : GR) (p' : Nat), rs[i]? = some q → at_ ≤ p' → (p' < s ∨ (p' ≤ s ∧ i < k)) → ¬ From q.a.re T p' := fun i q p' hq hp hlt hfr => by
        have hi : i < hs.length := by rw [hn.1]; exact get_lt hq
        have hx : hs[i]? = some hs[i] := List.getElem?_eq_getElem hi
        have g1 := h5 i _ (get_lt hq) hx
        rcases hn.2 i q _ hq hx with ⟨_, g2⟩ | ⟨s', e', g2, _, g3⟩
        · exact g2 p' hp hfr
        · refine g3.2.2.2.2.1 p' hp ?_ hfr
          rcases hlt with hlt | ⟨hlt, hik⟩
          · omega
          · have := h6 i _ hik hx; omega
      refine ⟨k, s, e, r, h1, e1, e2, hr, hm.1, from_lt (hok r (List.mem_of_getElem? hr)) hf, hr, hf, fun i q hi hq => none_at i q s hq hm.1 (.inr ⟨Nat.le_refl _, hi⟩), fun p' hp hlt i q hq => none_at i q p' hq hp (.inl hlt), hm.2.1, hm.2.2.1, .inr hm.2.2.2.1, hm.2.2.2.2.2⟩
end Go.Proofs.YtgncgdkpkkdaeaaGreatDoor

/- One finder of a painter is used. -/
namespace Go.Proofs.YtgncgdkpkkdaeaaGreatDoor
open Go.RowKit Tint Go.Maps

theorem FinList.cell {w : World} {B cap len : Nat} {ao : Option Addr} {ds : List FD} (h : FinList w B (.slice ao len cap) ds) (hl : len = ds.length) {q : Nat} {x : FD} (hx : ds[q]? = some x) : ∃ g, ao = some ⟨g, 0, none⟩ ∧ ∀ (y : Nat) c, x.cells[y]? = some c → w.cell? ⟨g, q * 6 + y, none⟩ = some c := by
  subst hl
  have hq := get_lt hx
  obtain ⟨g, cap', hv⟩ := own_form h.row (by omega)
  cases hv
  refine ⟨g, rfl, fun y c hy => ?_⟩
  have hy6 : y < 6 := by have := get_lt hy; simpa [FD.cells] using this
  have hfm : ∀ (l : List FD) (q : Nat) (x : FD), l[q]? = some x → (l.flatMap FD.cells)[q * 6 + y]? = x.cells[y]? := by
    intro l
    induction l with
    | nil => intro q x h; simp at h
    | cons a t ih =>
      intro q x h
      cases q with
      | zero =>
        simp at h
        subst h
        rw [List.flatMap_cons, List.getElem?_append_left (by simp [FD.cells]; omega)]
        simp
      | succ q =>
        rw [List.flatMap_cons, List.getElem?_append_right (by simp [FD.cells]; omega)]
        have e : (q + 1) * 6 + y - a.cells.length = q * 6 + y := by simp [FD.cells]; omega
        rw [e]
        exact ih q x (by simpa using h)
  have := h.row.cells rfl (q * 6 + y) c (by rw [hfm ds q x hx]; exact hy)
  by_cases h0 : q * 6 + y = 0
  · rw [h0] at this ⊢; simpa [Addr.add] using this
  · have hn : ¬ (q * 6 = 0 ∧ y = 0) := by omega
    simpa [Addr.add, hn] using this

section
variable {W : World} {N : Nat} {A : Nat → Prop} {g n cap : Nat} {G : List GS} {d : PD} {f : Nat → Option Value} {F : Nat → List FD}

theorem PainterIs.get (h : PainterIs W N A g n cap G d f F) {i k : Nat} {s : GS} {r : GR} {ao : Option Addr} {cp : Nat} (hs : G[i]? = some s) (hf : f i = some (.slice ao s.rs.length cp)) (hr : s.rs[k]? = some r) :
    ∃ x fg, ao = some ⟨fg, 0, none⟩ ∧ (F i)[k]? = some x ∧ x.a = r.a ∧ ∀ (y : Nat) c, x.cells[y]? = some c → W.cell? ⟨fg, k * 6 + y, none⟩ = some c := by
  obtain ⟨s', ao', cp', e1, e2, e3, e4, e5⟩ := h.fin i _ hf
  rw [hs] at e2
  cases e2
  have hl : (F i).length = s.rs.length := by have := congrArg List.length e3; simpa using this
  have h1 := congrArg (fun l => l[k]?) e3
  simp only [List.getElem?_map, hr] at h1
  cases h2 : (F i)[k]? with
  | none => rw [h2] at h1; cases h1
  | some x =>
    rw [h2] at h1
    obtain ⟨fg, h3, h4⟩ := e4.cell hl.symm h2
    exact ⟨x, fg, h3, rfl, by simpa using h1, h4⟩

def UsePost (W : World) (N : Nat) (A : Nat → Prop) (g n cap : Nat) (G : List GS) (d : PD) (f : Nat → Option Value) (r : Re) (T : List UInt8) (p : Nat) (e : Ending) (W' : World) : Prop :=
  ∃ (stop : Nat) (A' : Nat → Prop) (F' : Nat → List FD), e = .returned (.int .i64 stop) ∧ Long r T p stop ∧ Off A W W' ∧ (∀ k, A' k → A k ∨ W.heap.size ≤ k) ∧ PainterIs W' N A' g n cap G d f F'

theorem end_use (h : PainterIs W N A g n cap G d f F) {i k p : Nat} {v : Value} {x : FD} {line : ByteArray} (hf : f i = some v) (hx : (F i)[k]? = some x) (hp : p ≤ line.size) (hz : line.size ≤ 3000) :
    Calls Tryz.prog 129 #[fnv x.ρf x.sf x.ρb x.sb, .string line, .int .i64 p] W (UsePost W N A g n cap G d f x.a.re line.data.toList p) := by
  obtain ⟨s', ao', cp', e1, e2, e3, e4, e5⟩ := h.fin i v hf
  have hxm := List.mem_of_getElem? hx
  have hxA : ∀ y, x.O y → A y := fun y hy => (h.own i v hf x hxm y hy).1
  refine (end_any x.O x.a x.ρf x.sf x.ρb x.sb line p W h.tab.2 (e4.each x hxm).1 hp (by unfold maxLen; omega)).mono ?_
  rintro e W' ⟨stop, rfl, hoff, hF, hlong⟩
  refine ⟨stop, _, _, rfl, hlong, hoff.sub fun y _ hy => hxA y hy, fun y hy => ?_, h.use (Z := fun _ => False) hf hx (hoff.sub fun y _ hy => .inl hy) (fun _ hy => hy.elim) (fun y hy => ?_) hF⟩
  · rcases hy with hy | hy
    · exact .inl hy
    · rcases hy with hy | hy
      · exact .inl (hxA y hy)
      · exact .inr hy.1
  · exact hy.imp id fun h => h.1
end
end Go.Proofs.YtgncgdkpkkdaeaaGreatDoor

/- A line's stack changes; cells of a block. -/
namespace Go.Proofs.YtgncgdkpkkdaeaaGreatDoor
open Go.RowKit Tint Go.Maps

theorem gapL_short (a p : Nat) (nm : ByteArray) (dep : Nat) : (gapL a p nm dep).length ≤ 1 := by
  unfold gapL
  split <;> simp

/-- No more than two spans a byte. -/
theorem Path.short {G : List GS} {T : List UInt8} {st0 : List Nat} {at_ : Nat} {st : List Nat} {pre : List Sp} (hok : GOk G) (h : Path G T st0 at_ st pre) : pre.length ≤ 2 * at_ := by
  induction h with
  | start => exact Nat.le_refl _
  | @hit at_ st pre top s p k r e _ h1 h2 h3 h4 ih =>
    have hg := (h4.gt (hok _ (List.mem_of_getElem? h3) _ (List.mem_of_getElem? h4.rule)).1).1
    have hl := h4.le
    have hs := gapL_short at_ p s.nm st.length
    simp only [List.length_append, List.length_cons, List.length_nil]
    omega

theorem Off.setRow {Y : Nat → Prop} {w : World} {g : Nat} {old : Array Value} {t : TypeId} {fz : Nat × Nat} (cs : Array Value) (hg : w.heap[g]? = some (.cells old t fz)) (ht : stable t = false) (hy : Y g) : Off Y w (w.setRow g cs) :=
  ⟨rfl, rfl, rfl, by simp, fun k hk => setRow_other _ _ _ _ (fun e => hk.2 (e ▸ hy)), fun k c t' ht' hh => (setRow_other _ _ _ _ (fun e => by rw [e, hg] at hh; cases hh; rw [ht] at ht'; cases ht')).trans hh⟩

/-- What is met on several ways is shown once. -/
theorem two_step {P R : World → Prop} {C : Prop} (main : Hid (∀ w, R w → P w) → C) (pf : ∀ w, R w → P w) : C := main (hide pf)

theorem cell_at {w : World} {b j : Nat} {cs : Array Value} {t : TypeId} {fz : Nat × Nat} {v : Value} (h : w.heap[b]? = some (.cells cs t fz)) (hj : cs[j]? = some v) : w.cell? ⟨b, j, none⟩ = some v := by
  simp [World.cell?, h, hj]
end Go.Proofs.YtgncgdkpkkdaeaaGreatDoor
