import Derived.Test.YtgncgdkpkkdaeaaGreatDoorKJ
import Derived.Test.YtgncgdkpkkdaeaaGreatDoorKL
namespace Go.Proofs.YtgncgdkpkkdaeaaGreatDoor
open Go.RowKit Tint
structure Kp (wL w : World) : Prop where
 size : wL.heap.size ≤ w.heap.size
 keep : ∀ b, b < wL.heap.size → w.heap[b]? = wL.heap[b]?
theorem Kp.refl (w : World) : Kp w w := ⟨Nat.le_refl _, fun _ _ => rfl⟩
theorem Kp.alloc {wL w : World} (h : Kp wL w) (o : Obj) : Kp wL (w.alloc o) := ⟨by have := h.size; simp; omega, fun b hb => (Below.heap_alloc _ _ _ (Nat.lt_of_lt_of_le hb h.size)).trans (h.keep b hb)⟩
theorem Kp.trans {a b c : World} (h : Kp a b) (k : Kp b c) : Kp a c := ⟨Nat.le_trans h.size k.size, fun i hi => (k.keep i (Nat.lt_of_lt_of_le hi h.size)).trans (h.keep i hi)⟩
theorem Kp.drewN {wL w : World} (h : Kp wL w) (n : Nat) : Kp wL (w.drewN n) := ⟨h.size, h.keep⟩
theorem Kp.get {wL w : World} (h : Kp wL w) {b : Nat} {o : Obj} (hb : wL.heap[b]? = some o) : w.heap[b]? = some o := (h.keep b (lt_of_get hb)).trans hb
def Gk (wC wL : World) (w : World) : Prop := Below wC.heap.size wC w ∧ Kp wL w
theorem Gk.alloc {wC wL w : World} (h : Gk wC wL w) (o : Obj) : Gk wC wL (w.alloc o) := ⟨h.1.alloc h.1.size o, h.2.alloc o⟩
theorem Gk.drewN {wC wL w : World} (h : Gk wC wL w) (n : Nat) : Gk wC wL (w.drewN n) := ⟨Below.drewN' h.1 n, h.2.drewN n⟩
def pBeg (name : List UInt8) (_ : Lns) (x : Ln) : Prop := x = .state name
set_option maxRecDepth 20000 in
theorem enters_begins : Enters 185 := fun _ _ => by rfl
set_option maxRecDepth 20000 in
theorem enters_began : Enters 149 := fun _ _ => by rfl
set_option maxRecDepth 20000 in
theorem enters_many : Enters 151 := fun _ _ => by rfl
set_option maxRecDepth 20000 in
theorem enters_opens : Enters 152 := fun _ _ => by rfl
set_option maxRecDepth 20000 in
theorem enters_fault : Enters 155 := fun _ _ => by rfl
set_option maxRecDepth 20000 in
theorem enters_empty : Enters 114 := fun _ _ => by rfl
set_option maxRecDepth 20000 in
set_option maxHeartbeats 1000000 in
theorem begins_any (wC wL : World) (B Nb : Nat) (sv : Value) (ls : List PLn) (name : ByteArray) (hL : Lines wC B sv ls) (hb : wL.heap[Nb]? = some (.cells #[.string name] 9 (0, 0))) :
  Prd (Gk wC wL) ls (pBeg name.data.toList) 185 #[.pointer (some ⟨Nb, 0, none⟩)] (fun _ _ => True) := by
 intro pre l post w hs hG _
 have hl := hL.each l (by rw [hs]; simp)
 have hks := kind_state hl
 have hbx := heap_alloc_old (o := .cells #[.int .i64 l.at_, .int .i64 l.kd, .string l.st, .int .i64 l.d, .string l.co, .slice l.ao l.ln l.cp, .int .i64 l.wh, .int .i64 l.fl] 219) (hG.2.get hb)
 have c0 := cell_one hbx
 have HG := hide (hG.alloc (.cells #[.int .i64 l.at_, .int .i64 l.kd, .string l.st, .int .i64 l.d, .string l.co, .slice l.ao l.ln l.cp, .int .i64 l.wh, .int .i64 l.fl] 219))
 show Calls Tryz.prog _ #[l.agg, .pointer (some ⟨Nb, 0, none⟩)] w _
 unfold PLn.agg
 by_cases hk : l.kd = 1
 ·have q1 : ((l.kd : Int) == 1) = true := by rw [hk]; rfl
  have hx : l.x = .state l.st.data.toList := by
   have := hks.1.1 hk
   cases hx : l.x with
   | blank => rw [hx] at this; cases this
   | rule d o c p => rw [hx] at this; cases this
   | state n => rw [hx] at hl; rw [hl.2.2.1]
  by_cases hq : l.st.data.toList = name.data.toList
  ·have q2 : (l.st.toList == name.toList) = true := by rw [ByteArray.toList_eq, ByteArray.toList_eq, hq]; simp
   have HX := hide (show pBeg name.data.toList (pre.map PLn.pr) l.x by rw [hx, hq]; rfl)
   clear hG hb hL hs hl hks hbx hk hx hq
   go_enter Tryz.func185, Tryz.ntmps185
   go_wp2_with fail
   go_ret
   exact ⟨true, rfl, ⟨fun _ => HX.out, fun _ => rfl⟩, HG.out, fun _ => trivial⟩
  ·have q2 : (l.st.toList == name.toList) = false := by rw [beq_eq_false_iff_ne, ByteArray.toList_eq, ByteArray.toList_eq]; exact hq
   have HX := hide (show ¬ pBeg name.data.toList (pre.map PLn.pr) l.x by rw [hx]; exact fun h => hq (Ln.state.inj h))
   clear hG hb hL hs hl hks hbx hk hx hq
   go_enter Tryz.func185, Tryz.ntmps185
   go_wp2_with fail
   go_ret
   exact ⟨false, rfl, ⟨fun h => (by cases h), fun h => absurd h HX.out⟩, HG.out, fun _ => trivial⟩
 ·have q1 : ((l.kd : Int) == 1) = false := by rw [beq_eq_false_iff_ne]; omega
  have HX := hide (show ¬ pBeg name.data.toList (pre.map PLn.pr) l.x by intro h; exact hk (hks.1.2 (by rw [h]; rfl)))
  clear hG hb hL hs hl hks hbx hk
  go_enter Tryz.func185, Tryz.ntmps185
  go_wp2_with fail
  go_ret
  exact ⟨false, rfl, ⟨fun h => (by cases h), fun h => absurd h HX.out⟩, HG.out, fun _ => trivial⟩
set_option maxRecDepth 20000 in
set_option maxHeartbeats 1000000 in
theorem containsF_any (wC wL : World) (B Nb : Nat) (sv : Value) (ls : List PLn) (name : ByteArray) (w : World) (hL : Lines wC B sv ls) (hb : wL.heap[Nb]? = some (.cells #[.string name] 9 (0, 0))) (hG : Gk wC wL w) (hz : ls.length ≤ 1000000) :
  Calls Tryz.prog 153 #[sv, .func (.func 185) #[] #[.pointer (some ⟨Nb, 0, none⟩)]] w fun e w' => Gk wC wL w' ∧ ∃ b, e = .returned (.bool b) ∧ (b = true ↔ ∃ a, (a, Ln.state name.data.toList) ∈ ls.map PLn.pr) := by
 have HIX := hide (indexFunc_any wC B sv ls (pBeg name.data.toList) 185 #[.pointer (some ⟨Nb, 0, none⟩)] (fun _ _ => True) w hL (Gk wC wL) (fun _ h => h.1) (begins_any wC wL B Nb sv ls name hL hb) enters_begins hG trivial hz)
 obtain ⟨ao, cap, rfl, hao⟩ := hL.form
 clear hL hG hb
 go_enter Tryz.func153, Tryz.ntmps153
 go_wp2_with fail
 refine HIX.out.mono ?_
 rintro e w1 ⟨hG1, ⟨j, l, rfl, hl, hf⟩ | ⟨rfl, hf, -⟩⟩
 ·have q1 : decide ((0 : Int) ≤ (j : Int)) = true := decide_eq_true (by omega)
  have HF := hide hf
  have HG1 := hide hG1
  clear hf hl hG1 HIX
  go_wp2_with fail
  go_ret
  refine ⟨HG1.out, true, rfl, ⟨fun _ => ?_, fun _ => rfl⟩⟩
  have : ∀ {pre l : Lns} {o : Option Nat}, Fst (pBeg name.data.toList) pre l o → ∀ a, o = some a → ∃ a, (a, Ln.state name.data.toList) ∈ l := fun h => by
   induction h with
   | nil => intro a h; cases h
   | hit hp => intro a _; exact ⟨_, by rw [show _ = Ln.state name.data.toList from hp]; exact List.mem_cons_self ..⟩
   | skip _ _ ih => intro a h; obtain ⟨a', h'⟩ := ih a h; exact ⟨a', List.mem_cons_of_mem _ h'⟩
  exact this HF.out _ rfl
 ·have HF := hide hf
  have HG1 := hide hG1
  clear hf hG1 HIX
  go_wp2_with fail
  go_ret
  exact ⟨HG1.out, false, rfl, ⟨fun h => (by cases h), fun ⟨a, ha⟩ => absurd (show pBeg name.data.toList [] (Ln.state name.data.toList) from rfl) (fst_none_mem (fun _ _ => Iff.rfl) HF.out _ ha)⟩⟩
theorem makeBegins (name : ByteArray) (w : World) : Calls Tryz.prog 154 #[.string name] w fun e w' => e = .returned (.func (.func 185) #[] #[.pointer (some ⟨w.heap.size, 0, none⟩)]) ∧ w' = w.alloc (.cells #[.string name] 9) := by
 go_enter Tryz.func154, Tryz.ntmps154
 go_wp2_with fail
 go_ret
 exact ⟨rfl, rfl⟩
def OpPost (G : World → Prop) (q : Prop) (e : Ending) (w' : World) : Prop := ∃ b, e = .returned (.bool b) ∧ (b = true ↔ q) ∧ G w'
theorem OpPost.yes {G : World → Prop} {q : Prop} {w' : World} (hq : q) (hG : G w') : OpPost G q (.returned (.bool true)) w' := ⟨true, rfl, ⟨fun _ => hq, fun _ => rfl⟩, hG⟩
theorem OpPost.no {G : World → Prop} {q : Prop} {w' : World} (hq : ¬ q) (hG : G w') : OpPost G q (.returned (.bool false)) w' := ⟨false, rfl, ⟨fun h => (by cases h), fun h => absurd h hq⟩, hG⟩
set_option maxRecDepth 20000 in
set_option maxHeartbeats 1000000 in
theorem opens_any (wC wL : World) (B LB : Nat) (sv : Value) (ls : List PLn) (hL : Lines wC B sv ls) (hb : wL.heap[LB]? = some (.cells #[sv] 153 (0, 0))) (hz : ls.length ≤ 1000000) :
  Prd (Gk wC wL) ls (pUnknown (ls.map PLn.pr)) 152 #[.pointer (some ⟨LB, 0, none⟩)] (fun _ _ => True) := by
 intro pre l post w hs hG _
 have hl := hL.each l (by rw [hs]; simp)
 have hks := kind_state hl
 have hbx := heap_alloc_old (o := .cells #[.int .i64 l.at_, .int .i64 l.kd, .string l.st, .int .i64 l.d, .string l.co, .slice l.ao l.ln l.cp, .int .i64 l.wh, .int .i64 l.fl] 219) (hG.2.get hb)
 have c0 := cell_one hbx
 have HG := hide (hG.alloc (.cells #[.int .i64 l.at_, .int .i64 l.kd, .string l.st, .int .i64 l.d, .string l.co, .slice l.ao l.ln l.cp, .int .i64 l.wh, .int .i64 l.fl] 219))
 suffices h : Calls Tryz.prog 152 #[l.agg, .pointer (some ⟨LB, 0, none⟩)] w (OpPost (Gk wC wL) (pUnknown (ls.map PLn.pr) (pre.map PLn.pr) l.x)) from h.mono (fun e w' ⟨b, h1, h2, h3⟩ => ⟨b, h1, h2, h3, fun _ => trivial⟩)
 unfold PLn.agg
 by_cases hk : l.kd = 2
 ·have q1 : ((l.kd : Int) == 2) = true := by rw [hk]; rfl
  by_cases hd : l.d = 1
  ·have q2 : ((l.d : Int) == 1) = true := by rw [hd]; rfl
   have HX := hide (show (∃ a, (a, Ln.state l.st.data.toList) ∈ ls.map PLn.pr) ↔ ¬ pUnknown (ls.map PLn.pr) (pre.map PLn.pr) l.x by
    cases hx : l.x with
    | blank => rw [hx] at hl; have := hl.1; omega
    | state n => rw [hx] at hl; have := hl.1; omega
    | rule d o c p =>
     rw [hx] at hl
     obtain ⟨_, h2, _, h4, _⟩ := hl
     rw [h4, h2, hd]
     constructor
     ·rintro ⟨a, ha⟩ ⟨o', c', p', h5, h6⟩
      cases h5
      exact h6 a ha
     ·intro h
      refine Classical.byContradiction fun hn => h ⟨o, c, p, rfl, fun a ha => hn ⟨a, ha⟩⟩)
   have HLB := hide (heap_alloc_last w (.cells #[.int .i64 l.at_, .int .i64 l.kd, .string l.st, .int .i64 l.d, .string l.co, .slice l.ao l.ln l.cp, .int .i64 l.wh, .int .i64 l.fl] 219))
   obtain ⟨q, hq⟩ : ∃ q, q = w.heap.size := ⟨_, rfl⟩
   have HL := hide hL
   obtain ⟨ao, cap, rfl, hao⟩ := hL.form
   clear hG hb hL hs hl hks hbx hk hd hao
   go_enter Tryz.func152, Tryz.ntmps152
   go_wp2_with fail
   rw [← hq] at HLB ⊢
   clear hq
   generalize w.alloc (.cells #[.int .i64 l.at_, .int .i64 l.kd, .string l.st, .int .i64 l.d, .string l.co, .slice l.ao l.ln l.cp, .int .i64 l.wh, .int .i64 l.fl] 219) = W1 at *
   have hlb := HLB.out
   have d1 : W1.cell? ⟨q, 1, none⟩ = some (.int .i64 l.kd) := by simp [World.cell?, hlb]
   have d2 : W1.cell? ⟨q, 2, none⟩ = some (.string l.st) := by simp [World.cell?, hlb]
   have d3 : W1.cell? ⟨q, 3, none⟩ = some (.int .i64 l.d) := by simp [World.cell?, hlb]
   have HBG := hide (makeBegins l.st W1.drew)
   have HCF := hide (containsF_any wC (W1.drew.alloc (.cells #[.string l.st] 9)) B W1.heap.size (.slice ao ls.length cap) ls l.st (W1.drew.alloc (.cells #[.string l.st] 9)) HL.out (heap_alloc_last W1.drew _) ⟨(HG.out.1.drew).alloc HG.out.1.size _, Kp.refl _⟩ hz)
   have c0' := cell_alloc_old c0 (.cells #[.string l.st] 9)
   have HKK := hide (show Kp wL (W1.drew.alloc (.cells #[.string l.st] 9)) from (HG.out.2.drewN 1).alloc _)
   clear hlb HLB HL
   go_region_with (first
    | (go_at_call 154; refine HBG.out.mono ?_; rintro e w5 ⟨rfl, rfl⟩)
    | (go_at_call 153; refine HCF.out.mono ?_; rintro e w5 ⟨hG5, b, rfl, hb5⟩; have HG5 := hide (show Gk wC wL w5 from ⟨hG5.1, HKK.out.trans hG5.2⟩); have HB5 := hide (hb5.trans HX.out); clear hG5 hb5))
   all_goals
    clear HCF HBG HKK HX HG
    cases b with
    | true =>
     go_wp2_with fail
     go_ret
     exact OpPost.no (HB5.out.1 (by trivial)) HG5.out
    | false =>
     go_wp2_with fail
     go_ret
     exact OpPost.yes (Classical.byContradiction fun hn => (by have := HB5.out.2 hn; cases this)) HG5.out
  ·have q2 : ((l.d : Int) == 1) = false := by rw [beq_eq_false_iff_ne]; omega
   have HX := hide (show ¬ pUnknown (ls.map PLn.pr) (pre.map PLn.pr) l.x by
    rintro ⟨o, c, p, hx, _⟩
    rw [hx] at hl
    exact hd hl.2.1.symm)
   clear hG hb hL hs hl hks hbx hk hd
   go_enter Tryz.func152, Tryz.ntmps152
   go_wp2_with fail
   go_quiet (fail)
   go_wp2_with fail
   go_ret
   exact OpPost.no HX.out (HG.out.drewN _)
 ·have q1 : ((l.kd : Int) == 2) = false := by rw [beq_eq_false_iff_ne]; omega
  have HX := hide (show ¬ pUnknown (ls.map PLn.pr) (pre.map PLn.pr) l.x by
   rintro ⟨o, c, p, hx, _⟩
   rw [hx] at hl
   exact hk hl.1)
  clear hG hb hL hs hl hks hbx hk
  go_enter Tryz.func152, Tryz.ntmps152
  go_wp2_with fail
  go_quiet (fail)
  go_wp2_with fail
  go_ret
  exact OpPost.no HX.out (HG.out.drewN _)
theorem pat_faults {w : World} {B : Nat} {p : List UInt8} {lv : Value} {wh fl : Nat} (h : PatIs w B p lv wh fl) : (fl = 1 ↔ 60 < p.length) ∧ (fl = 6 ↔ p.length ≤ 60 ∧ ¬ ∃ r, PAlt p (some (r, []))) := by
 rcases h with ⟨h1, _, _, rfl⟩ | ⟨h1, h2, _, _, rfl⟩ | ⟨h1, rfl, a, ns, g, cap, _, _, h5, _⟩
 ·exact ⟨⟨fun _ => h1, fun _ => rfl⟩, ⟨fun h => (by cases h), fun h => by omega⟩⟩
 ·refine ⟨⟨fun h => (by cases h), fun h => by omega⟩, ⟨fun _ => ⟨h1, ?_⟩, fun _ => rfl⟩⟩
  rintro ⟨r, hr⟩
  rcases h2 with h2 | ⟨r', s', hs, h2⟩
  ·have := PAlt.det h2 hr; cases this
  ·have := PAlt.det h2 hr
   simp only [Option.some.injEq, Prod.mk.injEq] at this
   exact hs this.2
 ·exact ⟨⟨fun h => (by cases h), fun h => by omega⟩, ⟨fun h => (by cases h), fun h => absurd ⟨_, h5⟩ h.2⟩⟩
theorem fault_iff {w : World} {B kd d : Nat} {st co : ByteArray} {lv : Value} {wh fl : Nat} {x : Ln} (h : LineIs w B kd d st co lv wh fl x) (pre : Lns) : (fl = 1 ↔ pLong pre x) ∧ (fl = 6 ↔ pPat pre x) := by
 cases x with
 | blank =>
  obtain ⟨_, _, _, _, rfl⟩ := h
  exact ⟨⟨fun h => (by cases h), fun ⟨_, _, _, _, h, _⟩ => (by cases h)⟩, ⟨fun h => (by cases h), fun ⟨_, _, _, _, h, _⟩ => (by cases h)⟩⟩
 | state n =>
  obtain ⟨_, _, _, _, _, rfl⟩ := h
  exact ⟨⟨fun h => (by cases h), fun ⟨_, _, _, _, h, _⟩ => (by cases h)⟩, ⟨fun h => (by cases h), fun ⟨_, _, _, _, h, _⟩ => (by cases h)⟩⟩
 | rule d' o c p =>
  obtain ⟨h1, h2⟩ := pat_faults h.2.2.2.2.2
  refine ⟨h1.trans ⟨fun h => ⟨_, _, _, _, rfl, h⟩, fun ⟨_, _, _, _, h, h'⟩ => by cases h; exact h'⟩, h2.trans ⟨fun h => ⟨_, _, _, _, rfl, h.1, h.2⟩, fun ⟨_, _, _, _, h, h', h''⟩ => by cases h; exact ⟨h', h''⟩⟩⟩
set_option maxRecDepth 20000 in
set_option maxHeartbeats 1000000 in
theorem fault_any (wC wL : World) (Eb en : Nat) (ls : List PLn) (q : Lns → Ln → Prop) (hb : wL.heap[Eb]? = some (.cells #[.int .i64 en] 40 (0, 0))) (hq : ∀ l ∈ ls, ∀ pre, l.fl = en ↔ q pre l.x) :
  Prd (Gk wC wL) ls q 155 #[.pointer (some ⟨Eb, 0, none⟩)] (fun _ _ => True) := by
 intro pre l post w hs hG _
 have hx := hq l (by rw [hs]; simp) (pre.map PLn.pr)
 have hbx := heap_alloc_old (o := .cells #[.int .i64 l.at_, .int .i64 l.kd, .string l.st, .int .i64 l.d, .string l.co, .slice l.ao l.ln l.cp, .int .i64 l.wh, .int .i64 l.fl] 219) (hG.2.get hb)
 have c0 := cell_one hbx
 have HG := hide (hG.alloc (.cells #[.int .i64 l.at_, .int .i64 l.kd, .string l.st, .int .i64 l.d, .string l.co, .slice l.ao l.ln l.cp, .int .i64 l.wh, .int .i64 l.fl] 219))
 suffices h : Calls Tryz.prog 155 #[l.agg, .pointer (some ⟨Eb, 0, none⟩)] w (OpPost (Gk wC wL) (q (pre.map PLn.pr) l.x)) from h.mono (fun e w' ⟨b, h1, h2, h3⟩ => ⟨b, h1, h2, h3, fun _ => trivial⟩)
 unfold PLn.agg
 by_cases hfe : l.fl = en
 ·have q1 : ((l.fl : Int) == (en : Int)) = true := by rw [hfe]; simp
  have HX := hide (hx.1 hfe)
  clear hG hb hs hx hbx hq hfe
  go_enter Tryz.func155, Tryz.ntmps155
  go_wp2_with fail
  go_ret
  exact OpPost.yes HX.out HG.out
 ·have q1 : ((l.fl : Int) == (en : Int)) = false := by rw [beq_eq_false_iff_ne]; omega
  have HX := hide (fun h => hfe (hx.2 h))
  clear hG hb hs hx hbx hq hfe
  go_enter Tryz.func155, Tryz.ntmps155
  go_wp2_with fail
  go_ret
  exact OpPost.no HX.out HG.out
theorem Gk.step {wC wL w w' : World} (h : Gk wC wL w) (hb : Below w.heap.size w w') : Gk wC wL w' :=
 ⟨h.1.trans (hb.mono h.1.size), h.2.trans ⟨hb.size, fun b hlt => hb.block b hlt⟩⟩
def EmPost (b : Bool) (w : World) (e : Ending) (w' : World) : Prop := e = .returned (.bool b) ∧ Below w.heap.size w w'
set_option maxRecDepth 20000 in
set_option maxHeartbeats 1000000 in
theorem patEmpty_any (w : World) (B g cap : Nat) (ns : List (Nd Value)) (a : ARe) (wh : Nat) (hL : Lists w B (.slice (some ⟨g, 0, none⟩) ns.length cap) ns) (hr : Rep (IsCls w) ns a) (hw : wh = a.ix) :
  Calls Tryz.prog 156 #[.agg #[.slice (some ⟨g, 0, none⟩) ns.length cap, .int .i64 wh]] w (EmPost a.re.nullable w) := by
 obtain ⟨nd, hnd, hne⟩ := hr.empty
 rw [← hw] at hnd
 have hlt := get_lt hnd
 have c4 := (row_cell hL.1 (j := wh * 5 + 4) (u := .bool nd.empty) (by rw [nsCells_get hnd 4 (by omega)]; rfl)).1
 have c4' := cell_alloc_old c4 (.cells #[.slice (some ⟨g, 0, none⟩) ns.length cap, .int .i64 wh] 184)
 have g1 : (wh : Int) < (ns.length : Int) := by omega
 rw [hne] at c4 c4'
 have HEND := hide (fun n => show EmPost a.re.nullable w (.returned (.bool a.re.nullable)) ((w.alloc (.cells #[.slice (some ⟨g, 0, none⟩) ns.length cap, .int .i64 wh] 184)).drewN n) from ⟨rfl, Below.drewN' ((Below.refl _ _).alloc (Nat.le_refl _) _) n⟩)
 clear hL hr hw hnd hne
 go_enter Tryz.func156, Tryz.ntmps156
 go_wp2_with fail
 go_ret
 exact HEND.out 0
theorem empty_iff {p : List UInt8} {a : ARe} (hp : PAlt p (some (a.re, []))) {d : Nat} {o c : List UInt8} (pre : Lns) : (a.re.nullable = true ↔ pEmpty pre (.rule d o c p)) := by
 constructor
 ·intro h; exact ⟨_, _, _, _, _, rfl, hp, h⟩
 ·rintro ⟨_, _, _, _, r, h, h1, h2⟩
  cases h
  have := PAlt.det h1 hp
  simp only [Option.some.injEq, Prod.mk.injEq, and_true] at this
  rw [← this]; exact h2
set_option maxRecDepth 20000 in
set_option maxHeartbeats 1000000 in
theorem emptyP_any (wC wL : World) (B : Nat) (sv : Value) (ls : List PLn) (hL : Lines wC B sv ls) (hfl : ∀ l ∈ ls, l.fl = 0) :
  Prd (Gk wC wL) ls pEmpty 114 #[] (fun _ _ => True) := by
 intro pre l post w hs hG _
 have hm : l ∈ ls := by rw [hs]; simp
 have hl := (hL.below hG.1).each l hm
 have hks := kind_state hl
 have HG := hide (hG.alloc (.cells #[.int .i64 l.at_, .int .i64 l.kd, .string l.st, .int .i64 l.d, .string l.co, .slice l.ao l.ln l.cp, .int .i64 l.wh, .int .i64 l.fl] 219))
 suffices h : Calls Tryz.prog 114 #[l.agg] w (OpPost (Gk wC wL) (pEmpty (pre.map PLn.pr) l.x)) from h.mono (fun e w' ⟨b, h1, h2, h3⟩ => ⟨b, h1, h2, h3, fun _ => trivial⟩)
 unfold PLn.agg
 by_cases hk : l.kd = 2
 ·have q1 : ((l.kd : Int) == 2) = true := by rw [hk]; rfl
  cases hx : l.x with
  | blank => rw [hx] at hl; have := hl.1; omega
  | state n => rw [hx] at hl; have := hl.1; omega
  | rule d o c p =>
   rw [hx] at hl
   obtain ⟨hu1, hu2, hu3, hu4, hu5, hp⟩ := hl
   have hf0 := hfl l hm
   rcases hp with ⟨_, _, _, h⟩ | ⟨_, _, _, _, h⟩ | ⟨h1, hu6, a, ns, g, cap, h3, h4, h5, h6, h7, h8, h9⟩
   ·omega
   ·omega
   ·obtain ⟨e1, e2, e3⟩ : l.ao = some ⟨g, 0, none⟩ ∧ l.ln = ns.length ∧ l.cp = cap := by
     simp only [Value.slice.injEq] at h3; exact h3
    rw [e1, e2, e3] at h6
    have hbw : Below w.heap.size w (w.alloc (.cells #[.int .i64 l.at_, .int .i64 l.kd, .string l.st, .int .i64 l.d, .string l.co, .slice (some ⟨g, 0, none⟩) ns.length cap, .int .i64 l.wh, .int .i64 l.fl] 219)) := (Below.refl _ _).alloc (Nat.le_refl _) _
    have HME := hide (patEmpty_any _ B g cap ns a l.wh (h6.keep fun k hk' => by obtain ⟨_, cur, hc⟩ := h6.block hk'; exact hbw.block k (lt_of_get hc)) (h7.world (Stay.of_below hbw)) h4)
    have HX := hide (empty_iff h5 (d := d) (o := o) (c := c) (pre.map PLn.pr))
    rw [e1, e2, e3] at HG ⊢
    clear hL hG hks hs hm hf0 h3 h6 h7 h8 hbw e1 e2 e3 hk hx hfl h5 hu1 hu2 hu3 hu4 hu5 hu6 h4 h9 h1
    go_enter Tryz.func114, Tryz.ntmps114
    go_wp2_with fail
    refine HME.out.mono ?_
    rintro e w1 ⟨rfl, hb1⟩
    have HG1 := hide (HG.out.step hb1)
    clear hb1 HG HME
    cases hnu : a.re.nullable with
    | true =>
     rw [hnu] at HX
     go_wp2_with fail
     go_ret
     exact OpPost.yes (HX.out.1 (by trivial)) HG1.out
    | false =>
     rw [hnu] at HX
     go_wp2_with fail
     go_ret
     exact OpPost.no (fun h => by have := HX.out.2 h; cases this) HG1.out
 ·have q1 : ((l.kd : Int) == 2) = false := by rw [beq_eq_false_iff_ne]; omega
  have HX := hide (show ¬ pEmpty (pre.map PLn.pr) l.x by
   rintro ⟨d, o, c, p, r, hx, _⟩
   exact hk (hks.2.2 (by rw [hx]; rfl)))
  clear hL hG hl hks hs hm hk hfl
  go_enter Tryz.func114, Tryz.ntmps114
  go_wp2_with fail
  go_ret
  exact OpPost.no HX.out HG.out
theorem makeBegan (w : World) : Calls Tryz.prog 110 #[] w fun e w' => e = .returned (.func (.func 149) #[] #[.pointer (some ⟨w.heap.size, 0, none⟩)]) ∧ w' = w.alloc (.cells #[.slice none 0 0] 61) := by
 go_enter Tryz.func110, Tryz.ntmps110
 go_wp2_with fail
 go_ret
 exact ⟨rfl, rfl⟩
theorem makeMany (w : World) : Calls Tryz.prog 111 #[] w fun e w' => e = .returned (.func (.func 151) #[] #[.pointer (some ⟨w.heap.size, 0, none⟩), .pointer (some ⟨w.heap.size + 1, 0, none⟩)]) ∧ w' = (w.alloc (.cells #[.int .i64 0] 3)).alloc (.cells #[.int .i64 0] 3) := by
 go_enter Tryz.func111, Tryz.ntmps111
 go_wp2_with fail
 go_ret
 exact ⟨rfl, rfl⟩
theorem makeOpens (ao : Option Addr) (n cap : Nat) (w : World) : Calls Tryz.prog 112 #[.slice ao n cap] w fun e w' => e = .returned (.func (.func 152) #[] #[.pointer (some ⟨w.heap.size, 0, none⟩)]) ∧ w' = w.alloc (.cells #[.slice ao n cap] 153) := by
 go_enter Tryz.func112, Tryz.ntmps112
 go_wp2_with fail
 go_ret
 exact ⟨rfl, rfl⟩
theorem makeFault (en : Nat) (w : World) : Calls Tryz.prog 113 #[.int .i64 en] w fun e w' => e = .returned (.func (.func 155) #[] #[.pointer (some ⟨w.heap.size, 0, none⟩)]) ∧ w' = w.alloc (.cells #[.int .i64 en] 40) := by
 go_enter Tryz.func113, Tryz.ntmps113
 go_wp2_with fail
 go_ret
 exact ⟨rfl, rfl⟩
def ckEn : List Nat := [3, 4, 5, 1, 6, 7]
def ckFn (q : Nat) : List Value := [.func (.func 149) #[] #[.pointer (some ⟨q, 0, none⟩)], .func (.func 151) #[] #[.pointer (some ⟨q + 1, 0, none⟩), .pointer (some ⟨q + 1 + 1, 0, none⟩)], .func (.func 152) #[] #[.pointer (some ⟨q + 1 + 1 + 1, 0, none⟩)], .func (.func 155) #[] #[.pointer (some ⟨q + 1 + 1 + 1 + 1, 0, none⟩)], .func (.func 155) #[] #[.pointer (some ⟨q + 1 + 1 + 1 + 1 + 1, 0, none⟩)], .func (.func 114) #[] #[]]
structure Boxes (wL : World) (q : Nat) (sv : Value) : Prop where
 names : wL.heap[q]? = some (.cells #[.slice none 0 0] 61 (0, 0))
 sts : wL.heap[q + 1]? = some (.cells #[.int .i64 0] 3 (0, 0))
 rls : wL.heap[q + 1 + 1]? = some (.cells #[.int .i64 0] 3 (0, 0))
 lines : wL.heap[q + 1 + 1 + 1]? = some (.cells #[sv] 153 (0, 0))
 long : wL.heap[q + 1 + 1 + 1 + 1]? = some (.cells #[.int .i64 1] 40 (0, 0))
 pat : wL.heap[q + 1 + 1 + 1 + 1 + 1]? = some (.cells #[.int .i64 6] 40 (0, 0))
structure FF (wC wL : World) (q : Nat) (ls : List PLn) (j : Nat) (w : World) : Prop where
 below : Below wC.heap.size wC w
 size : wL.heap.size ≤ w.heap.size
 keep : ∀ b, b < wL.heap.size → (0 < j → b ≠ q) → (1 < j → b ≠ q + 1 ∧ b ≠ q + 1 + 1) → w.heap[b]? = wL.heap[b]?
 past : ∀ i e p, i < j → (tests (ls.map PLn.pr))[i]? = some (e, p) → Fst p [] (ls.map PLn.pr) none
def CkPost (wC wL w : World) (q : Nat) (ls : List PLn) (j : Nat) (e : Ending) (w' : World) : Prop :=
 (∃ (m : Nat) (l : PLn) (p : Lns → Ln → Prop) (en : Nat), e = .returned (.int .i64 m) ∧ ls[m]? = some l ∧ ckEn[j]? = some en ∧ (tests (ls.map PLn.pr))[j]? = some (en, p) ∧ Fst p [] (ls.map PLn.pr) (some l.at_) ∧ Below wC.heap.size wC w' ∧ ∀ b, wL.heap.size ≤ b → b < w.heap.size → w'.heap[b]? = w.heap[b]?) ∨ (e = .returned (.int .i64 (-1)) ∧ FF wC wL q ls (j + 1) w')
theorem CkPost.of {wC wL : World} {q j en : Nat} {ls : List PLn} {p : Lns → Ln → Prop} {G : World → Prop} {Inv : List PLn → World → Prop} {w w' : World} {e : Ending} (hF : FF wC wL q ls j w) (hqL : q + 1 + 1 + 1 + 1 + 1 < wL.heap.size) (ht : (tests (ls.map PLn.pr))[j]? = some (en, p)) (hen : ckEn[j]? = some en)
  (hk : G w' → Below wC.heap.size wC w' ∧ w.heap.size ≤ w'.heap.size ∧ ∀ b, b < w.heap.size → b ≠ q → (0 < j → b ≠ q + 1 ∧ b ≠ q + 1 + 1) → w'.heap[b]? = w.heap[b]?)
  (h : IdxPost G ls p Inv e w') : CkPost wC wL w q ls j e w' := by
 obtain ⟨hG, ⟨m, l, rfl, hl, hf⟩ | ⟨rfl, hf, hI⟩⟩ := h
 ·exact .inl ⟨m, l, p, en, rfl, hl, hen, ht, hf, (hk hG).1, fun b h1 h2 => (hk hG).2.2 b h2 (by omega) fun _ => by omega⟩
 ·refine .inr ⟨rfl, (hk hG).1, Nat.le_trans hF.size (hk hG).2.1, fun b hb h0 h1 => ((hk hG).2.2 b (Nat.lt_of_lt_of_le hb hF.size) (h0 (by omega)) (fun h => h1 (by omega))).trans (hF.keep b hb (fun h => h0 (by omega)) (fun h => h1 (by omega))), fun i e p' hi ht' => ?_⟩
  rcases Nat.lt_or_ge i j with h | h
  ·exact hF.past i e p' h ht'
  ·obtain rfl : i = j := by omega
   rw [ht] at ht'
   cases ht'
   exact hf
theorem FF.alloc {wC wL : World} {q j : Nat} {ls : List PLn} {w : World} (h : FF wC wL q ls j w) (o : Obj) : FF wC wL q ls j (w.alloc o) :=
 ⟨h.below.alloc h.below.size o, by have := h.size; simp; omega, fun b hb h0 h1 => (Below.heap_alloc _ _ _ (Nat.lt_of_lt_of_le hb h.size)).trans (h.keep b hb h0 h1), h.past⟩
theorem no_faults {w : World} {B : Nat} {sv : Value} {ls : List PLn} (hL : Lines w B sv ls) (h1 : Fst pLong [] (ls.map PLn.pr) none) (h2 : Fst pPat [] (ls.map PLn.pr) none) : ∀ l ∈ ls, l.fl = 0 := by
 intro l hl
 have a1 := fst_none_mem (fun _ _ => Iff.rfl) h1 (PLn.pr l) (List.mem_map_of_mem hl)
 have a2 := fst_none_mem (fun _ _ => Iff.rfl) h2 (PLn.pr l) (List.mem_map_of_mem hl)
 have hx := hL.each l hl
 obtain ⟨f1, f2⟩ := fault_iff hx []
 cases hxx : l.x with
 | blank => rw [hxx] at hx; exact hx.2.2.2.2
 | state n => rw [hxx] at hx; exact hx.2.2.2.2.2
 | rule d o c p =>
  rw [hxx] at hx
  rcases hx.2.2.2.2.2 with h | h | h
  ·exact absurd (f1.1 h.2.2.2) a1
  ·exact absurd (f2.1 h.2.2.2.2) a2
  ·exact h.2.1
theorem ck_any {wC wL : World} {B q : Nat} {ao : Option Addr} {cap : Nat} {ls : List PLn} {w : World} {j : Nat} (hL : Lines wC B (.slice ao ls.length cap) ls) (hq : wC.heap.size ≤ q) (hqL : q + 1 + 1 + 1 + 1 + 1 < wL.heap.size) (hX : Boxes wL q (.slice ao ls.length cap)) (hz : ls.length ≤ 1000000) (hj : j < 6) (hF : FF wC wL q ls j w) :
  ∃ (g en : Nat) (lb : Array Value), (ckFn q)[j]? = some (.func (.func g) #[] lb) ∧ ckEn[j]? = some en ∧ Calls Tryz.prog 115 #[.slice ao ls.length cap, .func (.func g) #[] lb] w (CkPost wC wL w q ls j) := by
 have hGk : Gk wC w w := ⟨hF.below, Kp.refl _⟩
 have hG1 : ∀ j w', Gk wC w w' → Below wC.heap.size wC w' ∧ w.heap.size ≤ w'.heap.size ∧ ∀ b, b < w.heap.size → b ≠ q → (0 < j → b ≠ q + 1 ∧ b ≠ q + 1 + 1) → w'.heap[b]? = w.heap[b]? := fun _ w' h => ⟨h.1, h.2.size, fun b hb _ _ => h.2.keep b hb⟩
 have hfk : ∀ w', Gk wC w w' → Below wC.heap.size wC w' := fun _ h => h.1
 have hsz := hF.size
 match j, hj, hF with
 | 0, _, hF =>
  refine ⟨_, _, _, rfl, rfl, (indexFunc_any wC B _ ls pTwice _ _ (Nms w q) w hL (GX wC w (· = q)) (fun _ h => h.1) (began_any wC w B q _ ls hL hz hq (by omega)) enters_began ⟨hF.below, Nat.le_refl _, fun _ _ _ => rfl⟩ ⟨Nat.le_refl _, fun _ _ _ => rfl, ⟨.slice none 0 0, ?_, World.ownsRow_nil _ _ _ _⟩⟩ hz).mono ?_⟩
  ·rw [hF.keep q (by omega) (fun h => by omega) (fun h => by omega)]; exact hX.names
  ·exact fun e w' hp => CkPost.of hF hqL rfl rfl (fun h => ⟨h.1, h.2.1, fun b hb h0 _ => h.2.2 b hb h0⟩) hp
 | 1, _, hF =>
  refine ⟨_, _, _, rfl, rfl, (indexFunc_any wC B _ ls pMany _ _ (Cnt w (q + 1) (q + 1 + 1)) w hL (GX wC w fun b => b = q + 1 ∨ b = q + 1 + 1) (fun _ h => h.1) (many_any wC w B (q + 1) (q + 1 + 1) _ ls hL (by omega) (by omega) (by omega)) enters_many ⟨hF.below, Nat.le_refl _, fun _ _ _ => rfl⟩ ⟨Nat.le_refl _, fun _ _ _ _ => rfl, ?_, ?_, ⟨Nat.zero_le _, Nat.zero_le _⟩⟩ hz).mono ?_⟩
  ·rw [hF.keep (q + 1) (by omega) (fun h => by omega) (fun h => by omega)]; exact hX.sts
  ·rw [hF.keep (q + 1 + 1) (by omega) (fun h => by omega) (fun h => by omega)]; exact hX.rls
  ·exact fun e w' hp => CkPost.of hF hqL rfl rfl (fun h => ⟨h.1, h.2.1, fun b hb _ h0 => h.2.2 b hb (fun h => by rcases h with h | h; exact (h0 (by omega)).1 h; exact (h0 (by omega)).2 h)⟩) hp
 | 2, _, hF =>
  refine ⟨_, _, _, rfl, rfl, (indexFunc_any wC B _ ls (pUnknown (ls.map PLn.pr)) _ _ (fun _ _ => True) w hL (Gk wC w) hfk (opens_any wC w B (q + 1 + 1 + 1) _ ls hL ?_ hz) enters_opens hGk trivial hz).mono fun e w' hp => CkPost.of hF hqL rfl rfl (hG1 _ w') hp⟩
  rw [hF.keep (q + 1 + 1 + 1) (by omega) (fun h => by omega) (fun h => by omega)]; exact hX.lines
 | 3, _, hF =>
  refine ⟨_, _, _, rfl, rfl, (indexFunc_any wC B _ ls pLong _ _ (fun _ _ => True) w hL (Gk wC w) hfk (fault_any wC w (q + 1 + 1 + 1 + 1) 1 ls pLong ?_ fun l hl pre => (fault_iff (hL.each l hl) pre).1) enters_fault hGk trivial hz).mono fun e w' hp => CkPost.of hF hqL rfl rfl (hG1 _ w') hp⟩
  rw [hF.keep (q + 1 + 1 + 1 + 1) (by omega) (fun h => by omega) (fun h => by omega)]; exact hX.long
 | 4, _, hF =>
  refine ⟨_, _, _, rfl, rfl, (indexFunc_any wC B _ ls pPat _ _ (fun _ _ => True) w hL (Gk wC w) hfk (fault_any wC w (q + 1 + 1 + 1 + 1 + 1) 6 ls pPat ?_ fun l hl pre => (fault_iff (hL.each l hl) pre).2) enters_fault hGk trivial hz).mono fun e w' hp => CkPost.of hF hqL rfl rfl (hG1 _ w') hp⟩
  rw [hF.keep (q + 1 + 1 + 1 + 1 + 1) (by omega) (fun h => by omega) (fun h => by omega)]; exact hX.pat
 | 5, _, hF =>
  exact ⟨_, _, _, rfl, rfl, (indexFunc_any wC B _ ls pEmpty _ _ (fun _ _ => True) w hL (Gk wC w) hfk (emptyP_any wC w B _ ls hL (no_faults hL (hF.past 3 1 pLong (by omega) rfl) (hF.past 4 6 pPat (by omega) rfl))) enters_empty hGk trivial hz).mono fun e w' hp => CkPost.of hF hqL rfl rfl (hG1 _ w') hp⟩
theorem chain_hit {fs : Lns} : ∀ (ts : List (Nat × (Lns → Ln → Prop))) (j e : Nat) (p : Lns → Ln → Prop) (a : Nat), (∀ i e p, i < j → ts[i]? = some (e, p) → Fst p [] fs none) → ts[j]? = some (e, p) → Fst p [] fs (some a) → Chain fs ts e a := by
 intro ts
 induction ts with
 | nil => intro j e p a _ h; simp at h
 | cons t ts ih =>
  intro j e p a hn ht hf
  obtain ⟨e0, p0⟩ := t
  cases j with
  | zero => simp only [List.getElem?_cons_zero, Option.some.injEq, Prod.mk.injEq] at ht; obtain ⟨rfl, rfl⟩ := ht; exact .hit hf
  | succ j => exact .skip (hn 0 e0 p0 (by omega) rfl) (ih j e p a (fun i e p hi h => hn (i + 1) e p (by omega) h) (by simpa using ht) hf)
theorem chain_none {fs : Lns} : ∀ (ts : List (Nat × (Lns → Ln → Prop))), (∀ (i e : Nat) (p : Lns → Ln → Prop), ts[i]? = some (e, p) → Fst p [] fs none) → Chain fs ts 0 0 := by
 intro ts
 induction ts with
 | nil => intro _; exact .nil
 | cons t ts ih =>
  intro hn
  obtain ⟨e0, p0⟩ := t
  exact .skip (hn 0 e0 p0 rfl) (ih fun i e p h => hn (i + 1) e p h)
def FFPost (wC : World) (ls : List PLn) (e : Ending) (w' : World) : Prop :=
 Below wC.heap.size wC w' ∧ ∃ (en a : Nat), e = .returned (.tuple #[.int .i64 en, .int .i64 a]) ∧ Chain (ls.map PLn.pr) (tests (ls.map PLn.pr)) en a
def FFLoop (wC wL : World) (q : Nat) (ls : List PLn) (k : Nat) (i : Value) (wr : World) : Prop :=
 ∃ j : Nat, i = .int .i64 j ∧ j + k = 6 ∧ FF wC wL q ls j wr
theorem heap_alloc_at (w : World) (o : Obj) (k : Nat) (hk : k = w.heap.size) : (w.alloc o).heap[k]? = some o := by subst hk; exact heap_alloc_last _ _
theorem alloc7 (w : World) (o0 o1 o2 o3 o4 o5 o6 : Obj) : let W := ((((((w.alloc o0).alloc o1).alloc o2).alloc o3).alloc o4).alloc o5).alloc o6
  W.heap[w.heap.size]? = some o0 ∧ W.heap[w.heap.size + 1]? = some o1 ∧ W.heap[w.heap.size + 1 + 1]? = some o2 ∧ W.heap[w.heap.size + 1 + 1 + 1]? = some o3 ∧ W.heap[w.heap.size + 1 + 1 + 1 + 1]? = some o4 ∧ W.heap[w.heap.size + 1 + 1 + 1 + 1 + 1]? = some o5 ∧ W.heap[w.heap.size + 1 + 1 + 1 + 1 + 1 + 1]? = some o6 ∧ W.heap.size = w.heap.size + 7 ∧ Below w.heap.size w W := by
 refine ⟨?_, ?_, ?_, ?_, ?_, ?_, ?_, by simp, ?_⟩
 ·exact heap_alloc_old (heap_alloc_old (heap_alloc_old (heap_alloc_old (heap_alloc_old (heap_alloc_old (heap_alloc_at _ _ _ (by simp)))))))
 ·exact heap_alloc_old (heap_alloc_old (heap_alloc_old (heap_alloc_old (heap_alloc_old (heap_alloc_at _ _ _ (by simp))))))
 ·exact heap_alloc_old (heap_alloc_old (heap_alloc_old (heap_alloc_old (heap_alloc_at _ _ _ (by simp)))))
 ·exact heap_alloc_old (heap_alloc_old (heap_alloc_old (heap_alloc_at _ _ _ (by simp))))
 ·exact heap_alloc_old (heap_alloc_old (heap_alloc_at _ _ _ (by simp)))
 ·exact heap_alloc_old (heap_alloc_at _ _ _ (by simp))
 ·exact heap_alloc_at _ _ _ (by simp)
 ·exact (((((((Below.refl _ _).alloc (Nat.le_refl _) _).alloc (by simp) _).alloc (by simp; omega) _).alloc (by simp; omega) _).alloc (by simp; omega) _).alloc (by simp; omega) _).alloc (by simp; omega) _
theorem ck_cells {w : World} {c q : Nat} {t : Nat} (h : w.heap[c]? = some (.cells #[.int .i64 3, .func (.func 149) #[] #[.pointer (some ⟨q, 0, none⟩)], .int .i64 4, .func (.func 151) #[] #[.pointer (some ⟨q + 1, 0, none⟩), .pointer (some ⟨q + 1 + 1, 0, none⟩)], .int .i64 5, .func (.func 152) #[] #[.pointer (some ⟨q + 1 + 1 + 1, 0, none⟩)], .int .i64 1, .func (.func 155) #[] #[.pointer (some ⟨q + 1 + 1 + 1 + 1, 0, none⟩)], .int .i64 6, .func (.func 155) #[] #[.pointer (some ⟨q + 1 + 1 + 1 + 1 + 1, 0, none⟩)], .int .i64 7, .func (.func 114) #[] #[]] t (0, 0))) {j en : Nat} {v : Value} (hv : (ckFn q)[j]? = some v) (he : ckEn[j]? = some en) :
  w.cell? ⟨c, j * 2, none⟩ = some (.int .i64 en) ∧ w.cell? ⟨c, j * 2 + 1, none⟩ = some v := by
 have hj : j < 6 := get_lt he
 match j, hj with
 | 0, _ | 1, _ | 2, _ | 3, _ | 4, _ | 5, _ =>
  simp only [ckFn, ckEn, List.getElem?_cons_succ, List.getElem?_cons_zero, Option.some.injEq] at hv he
  subst hv he
  constructor <;> simp [World.cell?, h]
set_option maxRecDepth 20000 in
set_option maxHeartbeats 2000000 in
theorem firstFault_any (B : Nat) (sv : Value) (ls : List PLn) (w : World) (hL : Lines w B sv ls) (hz : ls.length ≤ 1000000) :
  Calls Tryz.prog 82 #[sv] w (FFPost w ls) := by
 obtain ⟨ao, cap, rfl, hao⟩ := hL.form
 have HL := hide hL
 have HAO := hide hao
 clear hL hao
 go_enter Tryz.func82, Tryz.ntmps82
 go_wp2_with (first
  | (go_at_call 110; refine (makeBegan _).mono ?_; rintro e w5 ⟨rfl, rfl⟩)
  | (go_at_call 111; refine (makeMany _).mono ?_; rintro e w5 ⟨rfl, rfl⟩)
  | (go_at_call 112; refine (makeOpens _ _ _ _).mono ?_; rintro e w5 ⟨rfl, rfl⟩)
  | (go_at_call 113; first | (refine (makeFault 1 _).mono ?_; rintro e w5 ⟨rfl, rfl⟩) | (refine (makeFault 6 _).mono ?_; rintro e w5 ⟨rfl, rfl⟩)))
 obtain ⟨q, hq⟩ : ∃ q, q = w.heap.size := ⟨_, rfl⟩
 rw [← hq]
 generalize hwL : World.alloc _ (Obj.cells #[Value.int .i64 3, _, _, _, _, _, _, _, _, _, _, _] _) = wL
 have HBX := hide (show Boxes wL q (.slice ao ls.length cap) ∧ w.heap.size ≤ q ∧ wL.heap.size = q + 7 ∧ Below w.heap.size w wL from by
  subst hwL hq
  obtain ⟨h0, h1, h2, h3, h4, h5, _, h7, h8⟩ := alloc7 w (.cells #[.slice none 0 0] 61) (.cells #[.int .i64 0] 3) (.cells #[.int .i64 0] 3) (.cells #[.slice ao ls.length cap] 153) (.cells #[.int .i64 1] 40) (.cells #[.int .i64 6] 40) _
  exact ⟨⟨h0, h1, h2, h3, h4, h5⟩, Nat.le_refl _, h7, h8⟩)
 have HCK := hide (show wL.heap[q + 1 + 1 + 1 + 1 + 1 + 1]? = some (.cells #[.int .i64 3, .func (.func 149) #[] #[.pointer (some ⟨q, 0, none⟩)], .int .i64 4, .func (.func 151) #[] #[.pointer (some ⟨q + 1, 0, none⟩), .pointer (some ⟨q + 1 + 1, 0, none⟩)], .int .i64 5, .func (.func 152) #[] #[.pointer (some ⟨q + 1 + 1 + 1, 0, none⟩)], .int .i64 1, .func (.func 155) #[] #[.pointer (some ⟨q + 1 + 1 + 1 + 1, 0, none⟩)], .int .i64 6, .func (.func 155) #[] #[.pointer (some ⟨q + 1 + 1 + 1 + 1 + 1, 0, none⟩)], .int .i64 7, .func (.func 114) #[] #[]] 225 (0, 0)) from by
  subst hwL hq; exact (alloc7 w _ _ _ _ _ _ _).2.2.2.2.2.2.1)
 clear hwL hq
 go_loopg [23] 6 (fun k i wr => FFLoop w wL q ls k i wr)
 case atStart => exact ⟨0, rfl, by omega, HBX.out.2.2.2, Nat.le_refl _, fun _ _ _ _ => rfl, fun i e p h => by omega⟩
 case round =>
  obtain ⟨j, rfl, hk, hF⟩ := hrel
  by_cases hlt : j < 6
  ·have g1 : decide ((j : Int) < 6) = true := decide_eq_true (by omega)
   obtain ⟨g, en, lb, hfn, hen, hcall⟩ := ck_any HL.out HBX.out.2.1 (by have := HBX.out.2.2.1; omega) HBX.out.1 hz hlt hF
   obtain ⟨c0, c1⟩ := ck_cells ((hF.keep (q + 1 + 1 + 1 + 1 + 1 + 1) (by have := HBX.out.2.2.1; omega) (fun _ => by omega) (fun _ => by omega)).trans HCK.out) hfn hen
   obtain ⟨g', en', lb', hfn', hen', hcall'⟩ := ck_any HL.out HBX.out.2.1 (by have := HBX.out.2.2.1; omega) HBX.out.1 hz hlt (hF.alloc (.cells #[.int .i64 en, .func (.func g) #[] lb] 225))
   obtain ⟨rfl, rfl⟩ : g' = g ∧ lb' = lb := by rw [hfn'] at hfn; simp only [Option.some.injEq, Value.func.injEq, Fn.func.injEq, true_and] at hfn; exact hfn
   obtain rfl : en' = en := by rw [hen'] at hen; exact Option.some.inj hen
   have HSZ := hide (Nat.lt_of_lt_of_le (show q + 6 < wL.heap.size by have := HBX.out.2.2.1; omega) hF.size)
   have HSL := hide hF.size
   have HCALL := hide hcall'
   have HF := hide hF
   have HFN := hide hfn
   have HEN := hide hen
   clear hcall hcall' hF hfn hen hen' hfn'
   go_wp2_with fail
   refine HCALL.out.mono ?_
   rintro e w1 (⟨m, l, p, en2, rfl, hl, hen2, ht, hf, hb1, hkk⟩ | ⟨rfl, hF1⟩)
   ·obtain rfl : en2 = en' := by rw [HEN.out] at hen2; exact (Option.some.inj hen2).symm
    have q1 : decide ((0 : Int) ≤ (m : Int)) = true := decide_eq_true (by omega)
    obtain ⟨gg, rfl⟩ := HAO.out (by have := get_lt hl; omega)
    have hml := get_lt hl
    have d0 := ((HL.out.below hb1).cells hl).1
    have e0 : w1.cell? ⟨wr.heap.size, 0, none⟩ = some (.int .i64 en2) := by
     have h0 : w1.heap[wr.heap.size]? = some (.cells #[.int .i64 en2, .func (.func g') #[] lb'] 225 (0, 0)) := (hkk wr.heap.size HSL.out (by simp)).trans (heap_alloc_last _ _)
     simp [World.cell?, h0]
    have g2 : (m : Int) < (ls.length : Int) := by omega
    have HEND := hide (show FFPost w ls (.returned (.tuple #[.int .i64 en2, .int .i64 l.at_])) w1 from ⟨hb1, en2, l.at_, rfl, chain_hit _ j en2 p l.at_ HF.out.past ht hf⟩)
    clear hl hen2 ht hf hb1 hkk HCALL HF HFN HEN
    have HEND' := hide (fun n => show FFPost w ls (.returned (.tuple #[.int .i64 en2, .int .i64 l.at_])) (w1.drewN n) from by obtain ⟨h1, h2⟩ := HEND.out; exact ⟨Below.drewN' h1 n, h2⟩)
    go_wp2_with fail
    go_quiet (fail)
    go_wp2_with fail
    exact bodyPost_ret (v := .tuple #[.int .i64 en2, .int .i64 l.at_]) (by simp [results, Tryz.results82, go_sem, *]) rfl (HEND'.out _)
   ·have HST := hide (show FFLoop w wL q ls (gk - 1) (.int .i64 ((j + 1 : Nat) : Int)) w1 from ⟨j + 1, rfl, by omega, hF1⟩)
    have hj1 : j + 1 ≤ 9223372036854775807 := by omega
    clear hF1 HCALL HF HFN HEN
    go_wp2_with fail
    go_roundg (gk - 1)
    case measure => omega
    case rel => exact HST.out
  ·have g1 : decide ((j : Int) < 6) = false := decide_eq_false (by omega)
   have HEND := hide (show FFPost w ls (.returned (.tuple #[.int .i64 0, .int .i64 0])) wr from ⟨hF.below, 0, 0, rfl, chain_none _ fun i e p h => hF.past i e p (by have := get_lt h; simp [tests] at this; omega) h⟩)
   clear hF
   go_wp2_with fail
   exact bodyPost_ret (v := .tuple #[.int .i64 0, .int .i64 0]) (by simp [results, Tryz.results82, go_sem, *]) rfl HEND.out
end Go.Proofs.YtgncgdkpkkdaeaaGreatDoor
