import Derived.Test.YtgncgdkpkkdaeaaGreatDoorKO
import Derived.Test.YtgncgdkpkkdaeaaGreatDoorKW
import Derived.Test.YtgncgdkpkkdaeaaGreatDoorKL
namespace Go.Proofs.YtgncgdkpkkdaeaaGreatDoor
open Go.RowKit Tint Go.Maps
def secL : Nat → Lns → Nat → Lns
 | _, [], _ => []
 | c, y :: t, i => if y.2.isState = true then secL (c + 1) t i else if y.2.isRule = true ∧ i + 1 = c then y :: secL c t i else secL c t i
def lnName : Ln → Option (List UInt8)
 | .state n => some n
 | _ => none
def lnNames (l : Lns) : List (List UInt8) := l.filterMap fun y => lnName y.2
def RuleIs (names : List (List UInt8)) (x : Ln) (r : GR) : Prop :=
 ∃ d o c p, x = .rule d o c p ∧ r.k = d ∧ d ≤ 2 ∧ r.co.data.toList = c ∧ (d = 1 → names[r.op]? = some o) ∧ PAlt p (some (r.a.re, [])) ∧ p.length ≤ 60
structure LnsG (l : Lns) (G : List GS) : Prop where
 names : lnNames l = G.map (·.nm.data.toList)
 rules : ∀ i s, G[i]? = some s → (secL 0 l i).length = s.rs.length ∧ ∀ (j : Nat) y r, (secL 0 l i)[j]? = some y → s.rs[j]? = some r → RuleIs (lnNames l) y.2 r
theorem fst_none_at {p : Lns → Ln → Prop} {pre l : Lns} (h : Fst p pre l none) : ∀ a y b, l = a ++ y :: b → ¬ p (pre ++ a) y.2 := by
 generalize ho : (none : Option Nat) = o at h
 induction h with
 | nil => intro a y b e; simp at e
 | hit _ => cases ho
 | @skip pre a0 x l o hn _ ih =>
  intro a y b e
  cases a with
  | nil => simp at e; obtain ⟨rfl, rfl⟩ := e; simpa using hn
  | cons z a =>
   simp at e
   obtain ⟨rfl, rfl⟩ := e
   have := ih ho a y b rfl
   simpa using this
theorem secL_filter (l : Lns) (i : Nat) : ∀ c, secL c (l.filter (·.2.nb)) i = secL c l i := by
 induction l with
 | nil => intro c; rfl
 | cons y t ih =>
  intro c
  obtain ⟨a, x⟩ := y
  cases x with
  | blank => rw [List.filter_cons_of_neg (by simp [Ln.nb])]; rw [ih]; simp [secL, Ln.isState, Ln.isRule]
  | state n => rw [List.filter_cons_of_pos (by simp [Ln.nb])]; simp [secL, Ln.isState, ih]
  | rule d o c' p => rw [List.filter_cons_of_pos (by simp [Ln.nb])]; simp [secL, Ln.isState, Ln.isRule, ih]
theorem lnNames_filter (l : Lns) : lnNames (l.filter (·.2.nb)) = lnNames l := by
 induction l with
 | nil => rfl
 | cons y t ih =>
  obtain ⟨a, x⟩ := y
  cases x with
  | blank => rw [List.filter_cons_of_neg (by simp [Ln.nb])]; simpa [lnNames, lnName] using ih
  | state n => rw [List.filter_cons_of_pos (by simp [Ln.nb])]; simpa [lnNames, lnName] using ih
  | rule d o c' p => rw [List.filter_cons_of_pos (by simp [Ln.nb])]; simpa [lnNames, lnName] using ih
theorem line_kd {w : World} {B : Nat} {l : PLn} (h : LineIs w B l.kd l.d l.st l.co (.slice l.ao l.ln l.cp) l.wh l.fl l.x) : (l.kd = 1 ↔ l.x.isState = true) ∧ (l.kd = 2 ↔ l.x.isRule = true) := by
 cases hx : l.x with
 | blank => rw [hx] at h; have := h.1; simp [Ln.isState, Ln.isRule, this]
 | state n => rw [hx] at h; have := h.1; simp [Ln.isState, Ln.isRule, this]
 | rule d o c p => rw [hx] at h; have := h.1; simp [Ln.isState, Ln.isRule, this]
theorem sec_lines {w : World} {B : Nat} {ls : List PLn} (h : ∀ l ∈ ls, LineIs w B l.kd l.d l.st l.co (.slice l.ao l.ln l.cp) l.wh l.fl l.x) (i : Nat) : ∀ c, (sec c ls i).map PLn.pr = secL c (ls.map PLn.pr) i := by
 induction ls with
 | nil => intro c; rfl
 | cons l t ih =>
  intro c
  have iht := ih (fun l hl => h l (List.mem_cons_of_mem _ hl))
  obtain ⟨h1, h2⟩ := line_kd (h l List.mem_cons_self)
  simp only [sec, List.map_cons, secL]
  have e1 : (l.pr).2 = l.x := rfl
  rw [e1]
  by_cases k1 : l.kd = 1
  ·rw [if_pos k1, if_pos (h1.1 k1)]; exact iht _
  ·rw [if_neg k1, if_neg (fun e => k1 (h1.2 e))]
   by_cases k2 : l.kd = 2 ∧ i + 1 = c
   ·rw [if_pos k2, if_pos ⟨h2.1 k2.1, k2.2⟩, List.map_cons, iht]
   ·rw [if_neg k2, if_neg (fun e => k2 ⟨h2.2 e.1, e.2⟩)]; exact iht _
theorem sec_mem {ls : List PLn} {i : Nat} : ∀ {c : Nat} {l : PLn}, l ∈ sec c ls i → l ∈ ls ∧ l.kd = 2 := by
 induction ls with
 | nil => intro c l h; simp [sec] at h
 | cons y t ih =>
  intro c l h
  unfold sec at h
  split at h
  ·exact ⟨List.mem_cons_of_mem _ (ih h).1, (ih h).2⟩
  ·split at h
   ·rename_i hk
    rcases List.mem_cons.1 h with rfl | h
    ·exact ⟨List.mem_cons_self, hk.1⟩
    ·exact ⟨List.mem_cons_of_mem _ (ih h).1, (ih h).2⟩
   ·exact ⟨List.mem_cons_of_mem _ (ih h).1, (ih h).2⟩
theorem names_lines {w : World} {B : Nat} {ls : List PLn} (h : ∀ l ∈ ls, LineIs w B l.kd l.d l.st l.co (.slice l.ao l.ln l.cp) l.wh l.fl l.x) : (stNames ls).map (·.data.toList) = lnNames (ls.map PLn.pr) := by
 induction ls with
 | nil => rfl
 | cons l t ih =>
  have iht := ih (fun l hl => h l (List.mem_cons_of_mem _ hl))
  have hl := h l List.mem_cons_self
  have e1 : (l.pr).2 = l.x := rfl
  cases hx : l.x with
  | blank =>
   rw [hx] at hl
   simp only [stNames, lnNames, List.map_cons, List.filterMap_cons, e1, hx, lnName, hl.1] at iht ⊢
   simpa using iht
  | state n =>
   rw [hx] at hl
   simp only [stNames, lnNames, List.map_cons, List.filterMap_cons, e1, hx, lnName, hl.1] at iht ⊢
   simp [hl.2.2.1, iht]
  | rule d o c p =>
   rw [hx] at hl
   simp only [stNames, lnNames, List.map_cons, List.filterMap_cons, e1, hx, lnName, hl.1] at iht ⊢
   simpa using iht
theorem lnNames_length (l : Lns) : (lnNames l).length = (l.filter (·.2.isState)).length := by
 induction l with
 | nil => rfl
 | cons y t ih =>
  obtain ⟨a, x⟩ := y
  cases x <;> simp_all [lnNames, lnName, Ln.isState]
theorem secL_short (l : Lns) (i : Nat) : ∀ c, (secL c l i).length ≤ (l.filter (·.2.isRule)).length := by
 induction l with
 | nil => intro c; simp [secL]
 | cons y t ih =>
  intro c
  obtain ⟨a, x⟩ := y
  cases x with
  | blank => simpa [secL, Ln.isState, Ln.isRule] using ih c
  | state n => simpa [secL, Ln.isState, Ln.isRule] using ih (c + 1)
  | rule d o c' p =>
   have := ih c
   have e : (((a, Ln.rule d o c' p) :: t).filter (·.2.isRule)).length = (t.filter (·.2.isRule)).length + 1 := by rw [List.filter_cons_of_pos (by rfl)]; rfl
   rw [e, secL, if_neg (by simp [Ln.isState])]
   split
   ·rw [List.length_cons]; omega
   ·omega
theorem few_of {l : Lns} (hnb : ∀ y ∈ l, y.2.nb = true) (h : Fst pMany [] l none) : (l.filter (·.2.isState)).length ≤ 12 ∧ (l.filter (·.2.isRule)).length ≤ 40 := by
 rcases List.eq_nil_or_concat l with rfl | ⟨l', y, rfl⟩
 ·simp
 ·have h1 := fst_none_at h l' y [] (by simp)
  have h2 := hnb y (by simp)
  simp only [pMany, List.nil_append, h2, true_and, not_or, Nat.not_lt] at h1
  simp only [List.concat_eq_append, List.filter_append, List.length_append, List.filter_cons, List.filter_nil]
  constructor
  ·cases hs : y.2.isState <;> simp_all
  ·cases hs : y.2.isRule <;> simp_all
theorem exists_list {α β : Type} {l : List α} {P : Nat → α → β → Prop} (h : ∀ j x, l[j]? = some x → ∃ y, P j x y) : ∃ ys : List β, ys.length = l.length ∧ ∀ j x y, l[j]? = some x → ys[j]? = some y → P j x y := by
 induction l generalizing P with
 | nil => exact ⟨[], rfl, fun j x y hx => by simp at hx⟩
 | cons a t ih =>
  obtain ⟨y0, h0⟩ := h 0 a rfl
  obtain ⟨ys, h1, h2⟩ := ih (P := fun j => P (j + 1)) (fun j x hx => h (j + 1) x (by simpa using hx))
  refine ⟨y0 :: ys, by simp [h1], fun j x y hx hy => ?_⟩
  cases j with
  | zero => simp at hx hy; subst hx hy; exact h0
  | succ j => exact h2 j x y (by simpa using hx) (by simpa using hy)
theorem flatten_at {si : Nat} {rs : List (List Value)} (hs : ∀ r ∈ rs, r.length = si) {k : Nat} {r : List Value} (h : rs[k]? = some r) (j : Nat) (hj : j < si) : rs.flatten[k * si + j]? = r[j]? := by
 induction rs generalizing k with
 | nil => simp at h
 | cons a l ih =>
  have ha := hs a (by simp)
  cases k with
  | zero =>
   simp at h
   subst h
   rw [List.flatten_cons, Nat.zero_mul, Nat.zero_add, List.getElem?_append_left (by omega)]
  | succ k =>
   have e : (k + 1) * si + j = a.length + (k * si + j) := by rw [Nat.succ_mul, ha]; omega
   rw [List.flatten_cons, e, List.getElem?_append_right (by omega), Nat.add_sub_cancel_left]
   exact ih (fun r hr => hs r (List.mem_cons_of_mem _ hr)) (by simpa using h)
def RMade (w : World) (names : List (List UInt8)) (x : Ln) (r : PRl) (y : GR) : Prop :=
 RuleIs names x y ∧ y.k = r.k ∧ y.op = r.op ∧ y.co = r.co ∧ y.a.re.nullable = false ∧ ∃ lg, r.ao = some ⟨lg, 0, none⟩ ∧ r.wh = y.a.ix ∧
  ∃ ns, ns.length = r.ln ∧ Lists w 0 (.slice (some ⟨lg, 0, none⟩) r.ln r.cp) ns ∧ Rep (IsCls w) ns y.a ∧ Rep (IsCls w) ns .eps ∧ 0 < ns.length ∧ ns.length ≤ 200 ∧ y.a.sz ≤ 200 ∧ y.a.leaves ≤ 60 ∧ y.a.re.nullable = false
theorem Lists.zero {w : World} {B : Nat} {sv : Value} {ns : List (Nd Value)} (h : Lists w B sv ns) : Lists w 0 sv ns := by
 refine ⟨⟨h.1.1, ?_⟩, h.2⟩
 rcases h.1.2 with h1 | ⟨g, cap, cur, h1, h2, h3⟩
 ·exact .inl h1
 ·exact .inr ⟨g, cap, cur, h1, Nat.zero_le _, h3⟩
theorem rule_made {w : World} {B : Nat} {l : PLn} {r : PRl} {names : List ByteArray} (hl : LineIs w B l.kd l.d l.st l.co (.slice l.ao l.ln l.cp) l.wh l.fl l.x) (hk : l.kd = 2) (hr : RlIs names l r) (h1 : ¬ pLong [] l.x) (h6 : ¬ pPat [] l.x) (h7 : ¬ pEmpty [] l.x) : ∃ y, RMade w (names.map (·.data.toList)) l.x r y := by
 cases hx : l.x with
 | blank => rw [hx] at hl; have := hl.1; omega
 | state n => rw [hx] at hl; have := hl.1; omega
 | rule d o c p =>
  rw [hx] at hl h1 h6 h7
  obtain ⟨-, rfl, hd, ho, hc, hp⟩ := hl
  obtain ⟨r1, r2, r3, r4, r5, r6, r7, r8⟩ := hr
  have hp60 : p.length ≤ 60 := Nat.le_of_not_lt fun h => h1 ⟨_, _, _, _, rfl, h⟩
  rcases hp with ⟨e, _⟩ | ⟨e1, e2, _⟩ | ⟨e1, e2, a, ns, g, cap, e3, e4, e5, e6, e7, e8, e9⟩
  ·omega
  ·refine absurd ⟨_, _, _, _, rfl, e1, ?_⟩ h6
   rintro ⟨r0, hr0⟩
   rcases e2 with e2 | ⟨r', s', hne, e2⟩
   ·cases hr0.det e2
   ·have := hr0.det e2; simp at this; exact hne this.2
  ·have hnn : a.re.nullable = false := by
    cases hn : a.re.nullable with
    | false => rfl
    | true => exact absurd ⟨_, _, _, _, _, rfl, e5, hn⟩ h7
   have q1 : l.ao = some ⟨g, 0, none⟩ := by simp at e3; exact e3.1
   have q2 : l.ln = ns.length := by simp at e3; exact e3.2.1
   have hsz := PAlt.size e5 _ _ rfl
   rw [ARe.sz_re, ARe.leaves_re] at hsz
   simp only [List.length_nil] at hsz
   refine ⟨⟨r.k, r.op, r.co, a⟩, ⟨l.d, o, c, p, rfl, r1, hd, by rw [r2]; exact hc, fun h => ?_, e5, hp60⟩, rfl, rfl, rfl, hnn, g, by rw [r3, q1], by rw [r6]; exact e4, ns, by rw [r4, q2], by rw [r4, r5, ← q1]; exact e6.zero, e7, e8, Nat.lt_of_le_of_lt (Nat.zero_le _) e7.lt, e9, by show a.sz ≤ 200; omega, by show a.leaves ≤ 60; omega, hnn⟩
   obtain ⟨n, n1, n2⟩ := r7 h
   rw [List.getElem?_map, n1]
   simp [n2, ho]
theorem made_gram {w : World} {B n cap : Nat} {ao : Option Addr} {ls : List PLn} {ss : List PSt} {s : List UInt8} (h : Made w B (.slice ao n cap) ls ss) (hl : LoadIs s 0 0 ((ls.map PLn.pr).filter (·.2.nb))) :
  ∃ g G, ao = some ⟨g, 0, none⟩ ∧ 0 < G.length ∧ (∀ w', Below w.heap.size w w' → GramIs w' g n cap G) ∧ GOk G ∧ LnsG ((ls.map PLn.pr).filter (·.2.nb)) G := by
 obtain ⟨B', lv, hL⟩ := h.lines
 have heach := hL.each
 obtain ⟨L, hLd⟩ : ∃ L, (ls.map PLn.pr).filter (·.2.nb) = L := ⟨_, rfl⟩
 rw [hLd] at hl ⊢
 have hnb : ∀ y ∈ L, y.2.nb = true := fun y hy => by rw [← hLd] at hy; exact (List.mem_filter.1 hy).2
 have hch : Chain L (tests L) 0 0 := by
  cases hl with
  | fault _ _ _ h0 => exact absurd rfl h0
  | ok _ _ h3 _ => exact h3
 have h4 : Fst pMany [] L none ∧ Fst pLong [] L none ∧ Fst pPat [] L none ∧ Fst pEmpty [] L none := by
  unfold tests at hch
  cases hch with
  | skip _ hch => cases hch with
   | skip a1 hch => cases hch with
    | skip _ hch => cases hch with
     | skip a2 hch => cases hch with
      | skip a3 hch => cases hch with
       | skip a4 _ => exact ⟨a1, a2, a3, a4⟩
 obtain ⟨f4, f1, f6, f7⟩ := h4
 obtain ⟨h12, h40⟩ := few_of hnb f4
 have hnames : lnNames L = (stNames ls).map (·.data.toList) := by rw [← hLd, lnNames_filter, names_lines heach]
 have hsec : ∀ i, secL 0 L i = (sec 0 ls i).map PLn.pr := fun i => by rw [← hLd, secL_filter, sec_lines heach]
 obtain ⟨hnm, hzip⟩ := h.inv
 have hlen : ss.length = (lnNames L).length := by rw [hnames, ← hnm]; simp
 -- the rules of each state
 have hst : ∀ i st, ss[i]? = some st → ∃ y : GS, y.nm = st.nm ∧ y.rs.length = st.rs.length ∧ ∀ (j : Nat) (r : PRl) (z : GR), st.rs[j]? = some r → y.rs[j]? = some z → ∃ l, (sec 0 ls i)[j]? = some l ∧ RMade w (lnNames L) l.x r z := by
  intro i st hi
  obtain ⟨hz1, hz2⟩ := hzip i st hi
  obtain ⟨ys, y1, y2⟩ := exists_list (l := st.rs) (P := fun j r z => ∃ l, (sec 0 ls i)[j]? = some l ∧ RMade w (lnNames L) l.x r z) (fun j r hj => by
   have hlt : j < (sec 0 ls i).length := by rw [hz1]; exact get_lt hj
   have hx : (sec 0 ls i)[j]? = some (sec 0 ls i)[j] := List.getElem?_eq_getElem hlt
   obtain ⟨m1, m2⟩ := sec_mem (List.mem_of_getElem? hx)
   have hrl := hz2 j _ _ hx hj
   have hmem : (sec 0 ls i)[j].pr ∈ L := by
    rw [← hLd, List.mem_filter]
    refine ⟨List.mem_map_of_mem m1, ?_⟩
    have := (line_kd (heach _ m1)).2.1 m2
    show (sec 0 ls i)[j].x.nb = true
    cases hx2 : (sec 0 ls i)[j].x with
    | blank => rw [hx2] at this; cases this
    | state _ => rfl
    | rule _ _ _ _ => rfl
   obtain ⟨y, hy⟩ := rule_made (heach _ m1) m2 hrl (fst_none_mem (fun _ _ => Iff.rfl) f1 _ hmem) (fst_none_mem (fun _ _ => Iff.rfl) f6 _ hmem) (fst_none_mem (fun _ _ => Iff.rfl) f7 _ hmem)
   rw [← hnames] at hy
   exact ⟨y, _, hx, hy⟩)
  exact ⟨⟨st.nm, ys⟩, rfl, y1, y2⟩
 obtain ⟨G, g1, g2⟩ := exists_list (l := ss) (P := fun i st (y : GS) => y.nm = st.nm ∧ y.rs.length = st.rs.length ∧ ∀ (j : Nat) (r : PRl) (z : GR), st.rs[j]? = some r → y.rs[j]? = some z → ∃ l, (sec 0 ls i)[j]? = some l ∧ RMade w (lnNames L) l.x r z) hst
 obtain ⟨ao', cap', e1, e2⟩ := h.states.form
 cases e1
 obtain ⟨g, rfl⟩ := e2 h.some
 have get : ∀ i (y : GS), G[i]? = some y → ∃ st, ss[i]? = some st ∧ y.nm = st.nm ∧ y.rs.length = st.rs.length ∧ ∀ (j : Nat) (r : PRl) (z : GR), st.rs[j]? = some r → y.rs[j]? = some z → ∃ l, (sec 0 ls i)[j]? = some l ∧ RMade w (lnNames L) l.x r z := fun i y hy => by
  have hlt : i < ss.length := by rw [← g1]; exact get_lt hy
  have hx : ss[i]? = some ss[i] := List.getElem?_eq_getElem hlt
  exact ⟨_, hx, g2 i _ y hx hy⟩
 have rget : ∀ i (y : GS), G[i]? = some y → ∀ (j : Nat) (z : GR), y.rs[j]? = some z → ∃ st r l, ss[i]? = some st ∧ st.rs[j]? = some r ∧ (sec 0 ls i)[j]? = some l ∧ RMade w (lnNames L) l.x r z := fun i y hy j z hz => by
  obtain ⟨st, s1, s2, s3, s4⟩ := get i y hy
  have hlt : j < st.rs.length := by rw [← s3]; exact get_lt hz
  have hx : st.rs[j]? = some st.rs[j] := List.getElem?_eq_getElem hlt
  obtain ⟨l, l1, l2⟩ := s4 j _ z hx hz
  exact ⟨st, _, l, s1, hx, l1, l2⟩
 have hGn : lnNames L = G.map (·.nm.data.toList) := by
  rw [hnames, ← hnm]
  refine List.ext_getElem? fun i => ?_
  simp only [List.getElem?_map]
  cases hi : ss[i]? with
  | none =>
   have : G[i]? = none := List.getElem?_eq_none (by rw [g1]; exact List.getElem?_eq_none_iff.1 hi)
   rw [this]; rfl
  | some st =>
   have hlt : i < G.length := by rw [g1]; exact get_lt hi
   have hx : G[i]? = some G[i] := List.getElem?_eq_getElem hlt
   rw [hx]
   simp [(g2 i st _ hi hx).1]
 have hrl : ∀ (i : Nat) (s' : GS), G[i]? = some s' → s'.rs.length ≤ 40 := fun i s' hs' => by
  obtain ⟨st, s1, s2, s3, s4⟩ := get i s' hs'
  have := secL_short L i 0
  rw [hsec, List.length_map, (hzip i st s1).1] at this
  omega
 refine ⟨g, G, rfl, by rw [g1]; exact h.some, fun w' hb => GramIs.below ⟨g1.symm, by rw [hlen, lnNames_length]; exact h12, fun i s' hs' => ?_⟩ hb, fun s' hs' r hr => ?_, ⟨hGn, fun i s' hs' => ?_⟩⟩
 ·obtain ⟨st, s1, s2, s3, s4⟩ := get i s' hs'
  obtain ⟨c1, c2⟩ := h.states.cells s1
  have hin := h.states.inner st.el (List.mem_map_of_mem (List.mem_of_getElem? s1))
  have hin' : w.ownsRow B 231 5 (.slice st.ao st.ln st.cp) st.rs.length (st.rs.map PRl.cells).flatten := by simpa [PSt.el] using hin
  refine ⟨by rw [s2]; exact c1, hrl i s' hs', _, c2, ?_⟩
  rcases hin'.2 with ⟨hv, h0⟩ | ⟨rg, rcap, cur, hv, -⟩
  ·refine ⟨none, 0, by rw [hv, s3, h0], fun j r hj => ?_⟩
   have := get_lt hj
   omega
  ·refine ⟨some ⟨rg, 0, none⟩, rcap, by rw [hv, s3], fun j r hj => ?_⟩
   rw [hv] at hin'
   obtain ⟨st', r', l', q1, q2, q3, q4⟩ := rget i s' hs' j r hj
   rw [s1] at q1
   cases q1
   obtain ⟨m1, m2, m3, m4, m5, lg, m6, m7, m8⟩ := q4
   have hcell : ∀ (y : Nat) u, r'.cells[y]? = some u → w.cell? ⟨rg, j * 5 + y, none⟩ = some u := fun y u hy => by
    have hy5 : y < 5 := by have := get_lt hy; simpa [PRl.cells] using this
    refine (row_cell hin' ?_).1
    rw [flatten_at (si := 5) (by intro x hx; obtain ⟨z, _, rfl⟩ := List.mem_map.1 hx; rfl) (r := r'.cells) (by rw [List.getElem?_map, q2]; rfl) y hy5]
    exact hy
   exact ⟨rg, lg, r'.ln, r'.cp, rfl, by rw [m2]; exact hcell 0 _ rfl, by rw [m3]; exact hcell 1 _ rfl, by rw [m4]; exact hcell 2 _ rfl, by rw [← m6]; exact hcell 3 _ rfl, by rw [← m7]; exact hcell 4 _ rfl, m8⟩
 ·obtain ⟨i, hi⟩ := List.getElem?_of_mem hs'
  obtain ⟨j, hj⟩ := List.getElem?_of_mem hr
  obtain ⟨st, r', l', q1, q2, q3, q4⟩ := rget i s' hi j r hj
  obtain ⟨⟨d, o, c, p, e1, e2, e3, e4, e5, e6, e7⟩, m2, m3, m4, m5, _⟩ := q4
  refine ⟨m5, fun hk => ?_⟩
  have := get_lt (e5 (by omega))
  rw [hGn] at this
  simpa using this
 ·obtain ⟨st, s1, s2, s3, s4⟩ := get i s' hs'
  rw [hsec]
  refine ⟨by rw [List.length_map, (hzip i st s1).1, s3], fun j y r hy hr => ?_⟩
  obtain ⟨st', r', l', q1, q2, q3, q4⟩ := rget i s' hs' j r hr
  rw [List.getElem?_map, q3] at hy
  cases hy
  exact q4.1
end Go.Proofs.YtgncgdkpkkdaeaaGreatDoor
