import Derived.Test.YtgncgdkpkkdaeaaGreatDoorKN
namespace Go.Proofs.YtgncgdkpkkdaeaaGreatDoor
open Go.RowKit Tint
def Small : Ln → Prop
 | .blank => True
 | .state n => n.length ≤ 12
 | .rule _ o c _ => o.length ≤ 12 ∧ c.length ≤ 12
theorem isName_len {l : List UInt8} (h : isName l = true) : l.length ≤ 12 := by
 simp only [isName, Bool.and_eq_true, decide_eq_true_eq] at h
 exact h.1.2
theorem small_rule {d : Nat} {o r : List UInt8} (ho : o.length ≤ 12) {x : Ln} (h : ruleLn d o r = some x) : Small x := by
 unfold ruleLn at h
 cases hb : ruleBody r with
 | none => rw [hb] at h; cases h
 | some cp =>
  obtain ⟨c, p⟩ := cp
  rw [hb] at h
  cases h
  exact ⟨ho, isName_len (ruleBody_some hb).2⟩
theorem small_line {l : List UInt8} {x : Ln} (h : lineOf l = some x) : Small x := by
 unfold lineOf at h
 split at h
 ·cases h; trivial
 ·rcases hc : cutAt 32 l with ⟨a, _ | r⟩
  ·rw [hc] at h; cases h
  ·rw [hc] at h
   simp only [wordLn] at h
   split at h
   ·split at h
    ·rename_i hn; cases h; exact isName_len hn
    ·cases h
   ·split at h
    ·exact small_rule (by simp) h
    ·split at h
     ·exact small_rule (by simp) h
     ·split at h
      ·rcases hp : cutAt 32 r with ⟨o, _ | r'⟩
       ·simp only [pushLn, hp] at h; cases h
       ·simp only [pushLn, hp] at h
        split at h
        ·rename_i hn; exact small_rule (isName_len hn) h
        ·cases h
      ·cases h
def OkL (l : Lns) : Prop := ∀ pre y post, l = pre ++ y :: post → Small y.2 ∧ (y.2.isRule = true → pre.any (·.2.isState) = true)
theorem OkL.snoc {l : Lns} {p : Nat} {x : Ln} (h : OkL l) (hx : Small x) (hr : ¬ (x.isRule = true ∧ l.any (·.2.isState) = false)) : OkL (l ++ [(p, x)]) := by
 intro pre y post e
 rcases List.eq_nil_or_concat post with rfl | ⟨post', z, rfl⟩
 ·obtain ⟨e1, e2⟩ := List.append_inj' e rfl
  cases e2
  subst e1
  refine ⟨hx, fun hy => ?_⟩
  cases ha : l.any (·.2.isState) with
  | true => rfl
  | false => exact absurd ⟨hy, ha⟩ hr
 ·rw [List.concat_eq_append, ← List.cons_append, ← List.append_assoc] at e
  obtain ⟨e1, -⟩ := List.append_inj' e rfl
  exact h pre y post' e1
theorem rdRun_ok : ∀ (f p : Nat) (acc : Lns) (s : List UInt8) (l : Lns), OkL acc → rdRun f p acc s = .inr l → OkL l := by
 intro f
 induction f with
 | zero => intro p acc s l _ h; cases h
 | succ f ih =>
  intro p acc s l ha h
  unfold rdRun at h
  split at h
  ·cases h; exact ha
  ·rcases hc : cutAt 10 s with ⟨a, _ | r⟩
   ·rw [hc] at h; cases h
   ·rw [hc] at h
    simp only at h
    cases hx : lineOf a with
    | none => rw [hx] at h; cases h
    | some x =>
     rw [hx] at h
     simp only at h
     split at h
     ·cases h
     ·rename_i hn
      exact ih _ _ _ _ (ha.snoc (small_line hx) hn) h
theorem rd_ok {s : List UInt8} {l : Lns} (h : rd 0 [] s = .inr l) : OkL l := rdRun_ok _ _ _ _ _ (fun pre y post e => by simp at e) h
theorem st_any {w : World} {B : Nat} {sv : Value} {ls : List PLn} (hL : Lines w B sv ls) (pre : List PLn) (hsub : ∀ l ∈ pre, l ∈ ls) : (pre.map PLn.pr).any (·.2.isState) = true → 0 < (stNames pre).length := by
 intro h
 obtain ⟨y, hy, hs⟩ := List.any_eq_true.1 h
 obtain ⟨l, hl, rfl⟩ := List.mem_map.1 hy
 have hk := (kind_state (hL.each l (hsub l hl))).1.2 hs
 refine List.length_pos_of_mem (a := l.st) (List.mem_filterMap.2 ⟨l, hl, by rw [if_pos hk]⟩)
theorem lines_ord {w : World} {B : Nat} {sv : Value} {ls : List PLn} {s : List UInt8} (hL : Lines w B sv ls) (h : rd 0 [] s = .inr (ls.map PLn.pr)) : ∀ pre l post, ls = pre ++ l :: post → l.kd = 2 → 0 < (stNames pre).length := by
 intro pre l post e hk
 have hl : l ∈ ls := by rw [e]; simp
 refine st_any hL pre (fun y hy => by rw [e]; exact List.mem_append_left _ hy) ((rd_ok h (pre.map PLn.pr) (PLn.pr l) (post.map PLn.pr) (by rw [e]; simp)).2 ((kind_state (hL.each l hl)).2.1 hk))
theorem size_list (b : ByteArray) : b.size = b.data.toList.length := by rw [Array.length_toList]; rfl
theorem lines_small {w : World} {B : Nat} {sv : Value} {ls : List PLn} {s : List UInt8} (hL : Lines w B sv ls) (h : rd 0 [] s = .inr (ls.map PLn.pr)) : ∀ l ∈ ls, (l.kd = 2 → l.co.size ≤ 281474976710656) ∧ (l.kd = 1 → l.st.size ≤ 281474976710656) := by
 intro l hl
 obtain ⟨pre, post, e⟩ := List.append_of_mem hl
 have hsm := (rd_ok h (pre.map PLn.pr) (PLn.pr l) (post.map PLn.pr) (by rw [e]; simp)).1
 have hx := hL.each l hl
 cases hxx : l.x with
 | blank => rw [hxx] at hx; exact ⟨fun h => (by rw [hx.1] at h; cases h), fun h => (by rw [hx.1] at h; cases h)⟩
 | state n =>
  rw [hxx] at hx
  simp only [PLn.pr, hxx] at hsm
  have h1 : l.st.data.toList.length ≤ 12 := by rw [hx.2.2.1]; exact hsm
  rw [← size_list] at h1
  exact ⟨fun h => (by rw [hx.1] at h; cases h), fun _ => by omega⟩
 | rule d o c p =>
  rw [hxx] at hx
  simp only [PLn.pr, hxx] at hsm
  have h2 : l.co.data.toList.length ≤ 12 := by rw [hx.2.2.2.2.1]; exact hsm.2
  rw [← size_list] at h2
  exact ⟨fun _ => by omega, fun h => (by rw [hx.1] at h; cases h)⟩
theorem chain_zero {fs : Lns} {ts : List (Nat × (Lns → Ln → Prop))} {e a : Nat} (h : Chain fs ts e a) (he : e = 0) : (∀ t ∈ ts, t.1 ≠ 0) → ∀ t ∈ ts, Fst t.2 [] fs none := by
 induction h with
 | nil => intro _ t ht; simp at ht
 | hit hf => intro hn; exact absurd he (hn (_, _) (List.mem_cons_self ..))
 | skip hf _ ih =>
  intro hn t ht
  rcases List.mem_cons.1 ht with rfl | ht
  ·exact hf
  ·exact ih he (fun t h => hn t (List.mem_cons_of_mem _ h)) t ht
theorem lines_op {w : World} {B : Nat} {sv : Value} {ls : List PLn} {a : Nat} (hL : Lines w B sv ls) (h : Chain (ls.map PLn.pr) (tests (ls.map PLn.pr)) 0 a) : ∀ l ∈ ls, l.d = 1 → ∃ n ∈ stNames ls, n.data.toList = l.st.data.toList := by
 intro l hl hd
 have hf := chain_zero h rfl (by intro t ht; simp only [tests, List.mem_cons, List.not_mem_nil, or_false] at ht; rcases ht with rfl | rfl | rfl | rfl | rfl | rfl <;> exact Nat.succ_ne_zero _) (5, pUnknown (ls.map PLn.pr)) (by simp [tests])
 have hn := fst_none_mem (fun _ _ => Iff.rfl) hf (PLn.pr l) (List.mem_map_of_mem hl)
 have hx := hL.each l hl
 cases hxx : l.x with
 | blank => rw [hxx] at hx; rw [hx.2.1] at hd; cases hd
 | state n => rw [hxx] at hx; rw [hx.2.1] at hd; cases hd
 | rule d o c p =>
  rw [hxx] at hx
  obtain ⟨_, h2, _, h4, _⟩ := hx
  refine Classical.byContradiction fun hno => hn ⟨o, c, p, by simp only [PLn.pr, hxx, h2, hd], fun a ha => hno ?_⟩
  obtain ⟨t, ht, e⟩ := List.mem_map.1 ha
  have htx := hL.each t ht
  have e2 : t.x = .state o := (Prod.mk.injEq .. ▸ e : _ ∧ _).2
  rw [e2] at htx
  exact ⟨t.st, List.mem_filterMap.2 ⟨t, ht, by rw [if_pos htx.1]⟩, by rw [htx.2.2.1, h4]⟩
structure Made (w : World) (B : Nat) (sv : Value) (ls : List PLn) (ss : List PSt) : Prop where
 lines : ∃ B' lv, Lines w B' lv ls
 states : States w B sv ss
 inv : BInv (stNames ls) ls ss
 some : 0 < ss.length
def ReadPost' (s : List UInt8) (w : World) (e : Ending) (w' : World) : Prop :=
 Below w.heap.size w w' ∧ ((∃ ec a : Nat, ec ≠ 0 ∧ e = .returned (.tuple #[.slice none 0 0, .int .i64 ec, .int .i64 a]) ∧ LoadIs s ec a []) ∨
  (∃ B ao n cap ls ss, e = .returned (.tuple #[.slice ao n cap, .int .i64 0, .int .i64 0]) ∧ LoadIs s 0 0 ((ls.map PLn.pr).filter (·.2.nb)) ∧ w.heap.size ≤ B ∧ Made w' B (.slice ao n cap) ls ss))
theorem made_none {w : World} {B : Nat} {lv : Value} {ls : List PLn} {ss : List PSt} {s : List UInt8} (hL : Lines w B lv ls) (hr : rd 0 [] s = .inr (ls.map PLn.pr)) (hI : BInv (stNames ls) ls ss) : ss.length = 0 ↔ (ls.map PLn.pr).filter (·.2.nb) = [] := by
 have hn : ss.length = (stNames ls).length := by rw [← hI.1, List.length_map]
 rw [hn]
 constructor
 ·intro h0
  rw [List.filter_eq_nil_iff]
  intro y hy hnb
  obtain ⟨l, hl, rfl⟩ := List.mem_map.1 hy
  have hk := kind_state (hL.each l hl)
  have hany : 0 < (stNames ls).length := by
   by_cases hs : l.x.isState = true
   ·exact List.length_pos_of_mem (a := l.st) (List.mem_filterMap.2 ⟨l, hl, by rw [if_pos (hk.1.2 hs)]⟩)
   ·have hr' : l.x.isRule = true := by
     cases hx : l.x with
     | blank => simp [PLn.pr, hx, Ln.nb] at hnb
     | state n => rw [hx] at hs; exact absurd rfl hs
     | rule d o c p => rfl
    obtain ⟨pre, post, e⟩ := List.append_of_mem hl
    have h1 := lines_ord hL hr pre l post e (hk.2.2 hr')
    obtain ⟨n, hn⟩ := List.exists_mem_of_length_pos h1
    refine List.length_pos_of_mem (a := n) ?_
    unfold stNames at hn ⊢
    rw [e, List.filterMap_append]
    exact List.mem_append_left _ hn
  omega
 ·intro hf
  rw [List.length_eq_zero_iff]
  refine List.filterMap_eq_nil_iff.2 fun l hl => ?_
  rw [if_neg]
  intro hk
  have hs := (kind_state (hL.each l hl)).1.1 hk
  have := List.filter_eq_nil_iff.1 hf (PLn.pr l) (List.mem_map_of_mem hl)
  refine this ?_
  cases hx : l.x with
  | blank => rw [hx] at hs; cases hs
  | state n => simp [PLn.pr, hx, Ln.nb]
  | rule d o c p => simp [PLn.pr, hx, Ln.nb]
set_option maxRecDepth 20000 in
set_option maxHeartbeats 2000000 in
theorem read'_any (s : ByteArray) (w : World) (hm : Mx w) : Calls Tryz.prog 59 #[.string s] w (ReadPost' s.data.toList w) := by
 have HM := hide hm
 have hsl := size_list s
 clear hm
 by_cases hz : 2000 < s.size
 ·have g1 : decide ((2000 : Int) < (s.size : Int)) = true := decide_eq_true (by omega)
  have HEND := hide (show ReadPost' s.data.toList w (.returned (.tuple #[.slice none 0 0, .int .i64 1, .int .i64 0])) w from ⟨Below.refl _ _, .inl ⟨1, 0, by decide, rfl, .long (by omega)⟩⟩)
  clear hz hsl HM
  go_enter Tryz.func59, Tryz.ntmps59
  go_wp2_with fail
  exact bodyPost_ret (v := .tuple #[.slice none 0 0, .int .i64 1, .int .i64 0]) (by simp [results, Tryz.results59, go_sem, *]) rfl HEND.out
 ·have g1 : decide ((2000 : Int) < (s.size : Int)) = false := decide_eq_false (by omega)
  have hz2 : s.data.toList.length ≤ 2000 := by omega
  have hz3 : s.size ≤ 2000 := by omega
  have HRL := hide (readLines_any s w hz3 HM.out)
  clear hz hsl HM
  go_enter Tryz.func59, Tryz.ntmps59
  go_wp2_with fail
  refine HRL.out.mono ?_
  rintro e w1 ⟨hb1, ⟨a, rfl, hrd⟩ | ⟨lv, ls, rfl, hrd, hL, hlen⟩⟩
  ·have HEND := hide (show ReadPost' s.data.toList w (.returned (.tuple #[.slice none 0 0, .int .i64 2, .int .i64 a])) w1 from ⟨hb1, .inl ⟨2, a, by decide, rfl, .form hz2 hrd⟩⟩)
   clear hb1 hrd HRL
   go_wp2_with fail
   exact bodyPost_ret (v := .tuple #[.slice none 0 0, .int .i64 2, .int .i64 a]) (by simp [results, Tryz.results59, go_sem, *]) rfl HEND.out
  ·obtain ⟨ao, cap, rfl, hao⟩ := hL.form
   have HFF := hide (firstFault_any w.heap.size _ ls w1 hL (by omega))
   have HL := hide hL
   have HRD := hide hrd
   have HB1 := hide hb1
   clear hb1 hrd HRL hL hao
   go_wp2_with fail
   refine HFF.out.mono ?_
   rintro e w2 ⟨hb2, en, a, rfl, hch⟩
   have hb2' := HB1.out.trans (hb2.mono HB1.out.size)
   by_cases hen : en = 0
   ·have ha0 : a = 0 := by
     have := hch
     subst hen
     have hn := chain_none (tests (ls.map PLn.pr)) (fun i e p h => chain_zero this rfl (by intro t ht; simp only [tests, List.mem_cons, List.not_mem_nil, or_false] at ht; rcases ht with rfl | rfl | rfl | rfl | rfl | rfl <;> exact Nat.succ_ne_zero _) (e, p) (List.mem_of_getElem? h))
     exact (this.det hn).2
    have q1 : ((en : Int) != 0) = false := by rw [hen]; rfl
    subst hen ha0
    have HBU := hide (build_any w.heap.size _ ls w2 (HL.out.below hb2) (by omega) (lines_small HL.out HRD.out) (lines_ord HL.out HRD.out) (lines_op HL.out hch))
    have HCH := hide hch
    have HB2 := hide hb2'
    have HL2 := hide (HL.out.below hb2)
    clear hb2 hb2' hch HFF
    go_wp2_with fail
    refine HBU.out.mono ?_
    rintro e w3 ⟨hb3, sv, ss, rfl, hS, hI⟩
    have hb3' := HB2.out.trans (hb3.mono HB2.out.size)
    obtain ⟨sa, scap, rfl, hsa⟩ := hS.form
    by_cases h0 : ss.length = 0
    ·have q2 : ((ss.length : Int) == 0) = true := by rw [h0]; rfl
     have HEND := hide (show ReadPost' s.data.toList w (.returned (.tuple #[.slice none 0 0, .int .i64 4, .int .i64 s.size])) w3 from ⟨hb3', .inl ⟨4, s.size, by decide, rfl, by rw [size_list]; exact .none hz2 HRD.out ((made_none HL.out HRD.out hI).1 h0)⟩⟩)
     clear hb3 hb3' hS hI hsa h0 HBU HCH HB2 HL2
     go_wp2_with fail
     exact bodyPost_ret (v := .tuple #[.slice none 0 0, .int .i64 4, .int .i64 s.size]) (by simp [results, Tryz.results59, go_sem, *]) rfl HEND.out
    ·have q2 : ((ss.length : Int) == 0) = false := by rw [beq_eq_false_iff_ne]; omega
     have HEND := hide (show ReadPost' s.data.toList w (.returned (.tuple #[.slice sa ss.length scap, .int .i64 0, .int .i64 0])) w3 from ⟨hb3', .inr ⟨w2.heap.size, sa, ss.length, scap, ls, ss, rfl, .ok hz2 HRD.out HCH.out.filter (fun h => h0 ((made_none HL.out HRD.out hI).2 h)), HB2.out.size, ⟨⟨_, _, HL2.out.below hb3⟩, hS, hI, by omega⟩⟩⟩)
     clear hb3 hb3' hS hI hsa h0 HBU HCH HB2 HL2
     go_wp2_with fail
     exact bodyPost_ret (v := .tuple #[.slice sa ss.length scap, .int .i64 0, .int .i64 0]) (by simp [results, Tryz.results59, go_sem, *]) rfl HEND.out
   ·have q1 : ((en : Int) != 0) = true := by rw [bne_iff_ne]; omega
    have HEND := hide (show ReadPost' s.data.toList w (.returned (.tuple #[.slice none 0 0, .int .i64 en, .int .i64 a])) w2 from ⟨hb2', .inl ⟨en, a, hen, rfl, .fault hz2 HRD.out hch.filter hen⟩⟩)
    clear hb2 hb2' hch hen HFF
    go_wp2_with fail
    exact bodyPost_ret (v := .tuple #[.slice none 0 0, .int .i64 en, .int .i64 a]) (by simp [results, Tryz.results59, go_sem, *]) rfl HEND.out
def ProgPost (s : List UInt8) (w : World) (e : Ending) (w' : World) : Prop :=
 Below w.heap.size w w' ∧ ((∃ ec a : Nat, ec ≠ 0 ∧ e = .returned (.tuple #[.pointer none, .int .i64 ec, .int .i64 a]) ∧ LoadIs s ec a []) ∨
  (∃ P B ao n cap ls ss, e = .returned (.tuple #[.pointer (some ⟨P, 0, none⟩), .int .i64 0, .int .i64 0]) ∧ LoadIs s 0 0 ((ls.map PLn.pr).filter (·.2.nb)) ∧ w.heap.size ≤ B ∧ Made w' B (.slice ao n cap) ls ss ∧ w'.heap[P]? = some (.cells #[.slice ao n cap] 38 (0, 0))))
theorem Made.below {w w' : World} {B : Nat} {sv : Value} {ls : List PLn} {ss : List PSt} (h : Made w B sv ls ss) (hb : Below w.heap.size w w') : Made w' B sv ls ss := by
 obtain ⟨B', lv, hl⟩ := h.lines
 exact ⟨⟨B', lv, hl.below hb⟩, h.states.below hb, h.inv, h.some⟩
set_option maxRecDepth 20000 in
set_option maxHeartbeats 2000000 in
theorem progLoad_any (s : ByteArray) (w : World) (hm : Mx w) : Calls Tryz.prog 33 #[.string s] w (ProgPost s.data.toList w) := by
 have HRD := hide (read'_any s w hm)
 clear hm
 go_enter Tryz.func33, Tryz.ntmps33
 go_wp2_with fail
 refine HRD.out.mono ?_
 rintro e w1 ⟨hb1, ⟨ec, a, hec, rfl, hli⟩ | ⟨B, ao, n, cap, ls, ss, rfl, hli, hB, hM⟩⟩
 ·have q1 : ((ec : Int) != 0) = true := by rw [bne_iff_ne]; omega
  have HEND := hide (show ProgPost s.data.toList w (.returned (.tuple #[.pointer none, .int .i64 ec, .int .i64 a])) w1 from ⟨hb1, .inl ⟨ec, a, hec, rfl, hli⟩⟩)
  clear hb1 hec hli HRD
  go_wp2_with fail
  exact bodyPost_ret (v := .tuple #[.pointer none, .int .i64 ec, .int .i64 a]) (by simp [results, Tryz.results33, go_sem, *]) rfl HEND.out
 ·have HEND := hide (show ProgPost s.data.toList w (.returned (.tuple #[.pointer (some ⟨w1.heap.size, 0, none⟩), .int .i64 0, .int .i64 0])) (w1.alloc (.cells #[.slice ao n cap] 38)) from ⟨hb1.alloc hb1.size _, .inr ⟨_, B, ao, n, cap, ls, ss, rfl, hli, hB, hM.below ((Below.refl _ _).alloc (Nat.le_refl _) _), heap_alloc_last _ _⟩⟩)
  clear hb1 hli hB hM HRD
  go_wp2_with fail
  exact bodyPost_ret (v := .tuple #[.pointer (some ⟨w1.heap.size, 0, none⟩), .int .i64 0, .int .i64 0]) (by simp [results, Tryz.results33, go_sem, *]) rfl HEND.out
end Go.Proofs.YtgncgdkpkkdaeaaGreatDoor
