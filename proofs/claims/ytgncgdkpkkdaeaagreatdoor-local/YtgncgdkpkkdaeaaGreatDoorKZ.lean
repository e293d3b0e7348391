import Derived.Test.YtgncgdkpkkdaeaaGreatDoorKX
import Derived.Test.YtgncgdkpkkdaeaaGreatDoorKI
import Derived.Test.YtgncgdkpkkdaeaaGreatDoorKV1
import Derived.Test.YtgncgdkpkkdaeaaGreatDoorKU
import Derived.Sort.QuietIn
import Derived.Test.YtgncgdkpkkdaeaaGreatDoorKS13
import Derived.Maps.OwnIn
namespace Go.Proofs.YtgncgdkpkkdaeaaGreatDoor
open Go.RowKit Tint Go.Maps
def Sp.cells (x : Sp) : List Value := [.int .i64 x.fr, .int .i64 x.to, .string x.nm, .int .i64 x.dep, .string x.co]
def SpRow (w : World) (B : Nat) (v : Value) (sps : List Sp) : Prop := w.ownsRow B 70 5 v sps.length (sps.flatMap Sp.cells)
structure LE where
 st : List Nat
 sv : Value
 sps : List Sp
def LE.cells (x : LE) : List Value := stCells x.st ++ [x.sv]
def LE.pr (x : LE) : List Nat × List Sp := (x.st, x.sps)
structure LnsIs (w : World) (B : Nat) (v : Value) (ls : List LE) : Prop where
 row : w.ownsRow B 151 10 v ls.length (ls.flatMap LE.cells)
 each : ∀ x ∈ ls, x.st.length ≤ 8 ∧ SpRow w B x.sv x.sps
def LnsFree (v : Value) (ls : List LE) (k : Nat) : Prop := v.ownBlock ≠ some k ∧ ∀ x ∈ ls, x.sv.ownBlock ≠ some k
theorem LnsIs.nil (w : World) (B : Nat) : LnsIs w B (.slice none 0 0) [] := ⟨World.ownsRow_nil _ _ _ _, fun x hx => by simp at hx⟩
theorem LnsIs.off {Y : Nat → Prop} {w w' : World} {B : Nat} {v : Value} {ls : List LE} (h : LnsIs w B v ls) (ho : Off Y w w') (hy : ∀ k, Y k → LnsFree v ls k) : LnsIs w' B v ls :=
 ⟨row_keep h.row fun k hk => by
  obtain ⟨_, c, hc⟩ := row_type h.row hk
  rw [hc]
  exact ho.same hc (fun e => (hy k e).1 hk), fun x hx => ⟨(h.each x hx).1, row_keep (h.each x hx).2 fun k hk => by
   obtain ⟨_, c, hc⟩ := row_type (h.each x hx).2 hk
   rw [hc]
   exact ho.same hc (fun e => (hy k e).2 x hx hk)⟩⟩
theorem LnsIs.below {w w' : World} {B : Nat} {v : Value} {ls : List LE} (h : LnsIs w B v ls) (hb : Below w.heap.size w w') : LnsIs w' B v ls :=
 h.off (Y := fun _ => False) (Off.of_below hb) (fun _ h => h.elim)
theorem LnsIs.free {w : World} {B : Nat} {v : Value} {ls : List LE} (h : LnsIs w B v ls) {k : Nat} (hk : k < B ∨ w.heap.size ≤ k) : LnsFree v ls k := by
 refine ⟨fun e => ?_, fun x hx e => ?_⟩
 ·obtain ⟨h1, c, hc⟩ := row_type h.row e
  have := lt_of_get hc
  omega
 ·obtain ⟨h1, c, hc⟩ := row_type (h.each x hx).2 e
  have := lt_of_get hc
  omega
theorem LnsIs.other {w : World} {B : Nat} {v : Value} {ls : List LE} (h : LnsIs w B v ls) {k : Nat} {o : Obj} (hk : w.heap[k]? = some o) (ho : ∀ c, o ≠ .cells c 151 (0, 0) ∧ o ≠ .cells c 70 (0, 0)) : LnsFree v ls k := by
 refine ⟨fun e => ?_, fun x hx e => ?_⟩
 ·obtain ⟨h1, c, hc⟩ := row_type h.row e
  rw [hk] at hc
  cases hc
  exact (ho c).1 rfl
 ·obtain ⟨h1, c, hc⟩ := row_type (h.each x hx).2 e
  rw [hk] at hc
  cases hc
  exact (ho c).2 rfl
theorem LnsIs.snoc {w w3 : World} {B : Nat} {v v' : Value} {ls : List LE} {x : LE} (h : LnsIs w B v ls) (h8 : x.st.length ≤ 8) (hx : SpRow w B x.sv x.sps) (hrow : w3.ownsRow B 151 10 v' (ls.length + 1) (ls.flatMap LE.cells ++ x.cells)) (hg : w.grownBy w3 v.ownBlock) : LnsIs w3 B v' (ls ++ [x]) := by
 refine ⟨by simpa using hrow, fun y hy => ?_⟩
 have key : ∀ sv sps, SpRow w B sv sps → SpRow w3 B sv sps := fun sv sps hs => row_keep hs fun k hk => by
  obtain ⟨_, c, hc⟩ := row_type hs hk
  refine hg.block k (lt_of_get hc) (fun e => ?_)
  obtain ⟨_, c', hc'⟩ := row_type h.row e.symm
  rw [hc] at hc'
  exact absurd hc' (by simp)
 rcases List.mem_append.1 hy with hy | hy
 ·exact ⟨(h.each y hy).1, key _ _ (h.each y hy).2⟩
 ·obtain rfl := List.mem_singleton.1 hy
  exact ⟨h8, key _ _ hx⟩
theorem SpRow.snoc {w3 : World} {B : Nat} {v' : Value} {sps : List Sp} {x : Sp} (hrow : w3.ownsRow B 70 5 v' (sps.length + 1) (sps.flatMap Sp.cells ++ x.cells)) : SpRow w3 B v' (sps ++ [x]) := by
 unfold SpRow
 simpa using hrow
theorem stCells_inj {a b : List Nat} (ha : a.length ≤ 8) (hb : b.length ≤ 8) (h : stCells a = stCells b) : a = b := by
 have h8 := congrArg (fun l => l[8]?) h
 simp only [stCells_depth ha, stCells_depth hb] at h8
 have hl : a.length = b.length := by simp at h8; omega
 refine List.ext_getElem? fun i => ?_
 rcases Nat.lt_or_ge i a.length with hi | hi
 ·have h1 := congrArg (fun l => l[i]?) h
  have e1 : a[i]? = some a[i] := List.getElem?_eq_getElem hi
  have e2 : b[i]? = some (b[i]'(by omega)) := List.getElem?_eq_getElem (by omega)
  simp only [stCells_get e1, stCells_get e2] at h1
  rw [e1, e2]
  simp at h1
  congr 1
  omega
 ·rw [List.getElem?_eq_none (by omega), List.getElem?_eq_none (by omega)]
end Go.Proofs.YtgncgdkpkkdaeaaGreatDoor
namespace Go.Proofs.YtgncgdkpkkdaeaaGreatDoor
open Go.RowKit Tint Go.Maps Go.Shelf
attribute [local go_sem] Oper.semAt_some
theorem PainterIs.lower {w : World} {N N0 : Nat} {A : Nat → Prop} {g n cap : Nat} {G : List GS} {d : PD} {f : Nat → Option Value} {F : Nat → List FD} (h : PainterIs w N A g n cap G d f F) (hle : N0 ≤ N) (ht : 1 < N0) (hG : ∀ w', Below N0 w w' → GramIs w' g n cap G) : PainterIs w N0 A g n cap G d f F :=
 ⟨fun k hk => ⟨Nat.le_trans hle (h.old k hk).1, (h.old k hk).2⟩, Nat.le_trans hle h.size, ⟨ht, h.tab.2⟩, hG, h.sbx, h.kvx, h.wkx, h.map, fun i v hi => by
  obtain ⟨s, ao, cp, e1, e2, e3, e4, e5⟩ := h.fin i v hi
  exact ⟨s, ao, cp, e1, e2, e3, e4.base hle, e5⟩, h.own, h.apart⟩
def LinesPost2 (J : Nat → World → Prop) (Jx : Nat → World → Prop) (T : List UInt8) (e : Ending) (W : World) : Prop := (∃ v, e = .returned v) ∧ (J (splitL T).length W ∨ ∃ j, Jx j W)
def LinesLoop (J : Nat → World → Prop) (T : List UInt8) (k : Nat) (vr vm vi : Value) (wr : World) : Prop :=
 ∃ (j : Nat) (r : ByteArray) (m : Bool), vi = .int .i64 j ∧ vr = .string r ∧ vm = .bool m ∧ j + k = (splitL T).length ∧ r.size ≤ T.length ∧ (m = true → (splitL T).drop j = splitL r.data.toList) ∧ (m = false → k = 0) ∧ J j wr
set_option maxRecDepth 20000 in
set_option maxHeartbeats 2000000 in
theorem linesOf1_any (m : Nat) (text : ByteArray) (bT l : Nat) (J Jx : Nat → World → Prop) (w : World) (hz : text.size ≤ 1000000) (hbT : w.heap[bT]? = some (.cells #[.string text] 9 (0, 0)))
  (hM : ∀ j A, J j A → Mx A) (hJ : ∀ j A n, J j A → J j (A.drewN n))
  (hY : ∀ j body A, (splitL text.data.toList)[j]? = some (body : ByteArray).data.toList → J j A → YieldAt Fence.wide (m - 1) Tryz.prog l #[.int .i64 j, .string body] A fun e B => (e = .returned (.bool true) ∧ J (j + 1) B) ∨ (e = .returned (.bool false) ∧ Jx j B))
  (h0 : J 0 w) :
  CallsIn Fence.wide m Tryz.prog 121 #[.func (.yield l) #[] #[], .pointer (some ⟨bT, 0, none⟩)] w (LinesPost2 J Jx text.data.toList) := by
 refine callsIn_wide.2 ?_
 have b0 := cell_one hbT
 have HJ := hide hJ
 have HM := hide hM
 have HY := hide hY
 have H0 := hide h0
 clear hJ hM hY h0
 go_enter Tryz.func121, Tryz.ntmps121
 go_wp2_with fail
 go_loopg [3, 4, 5] (splitL text.data.toList).length (fun k vr vm vi wr => LinesLoop J text.data.toList k vr vm vi wr)
 case atStart => exact ⟨0, text, true, rfl, rfl, rfl, by omega, by rw [text_length]; exact Nat.le_refl _, fun _ => rfl, fun h => (by cases h), H0.out⟩
 case round =>
  obtain ⟨j, r, mo, rfl, rfl, rfl, hk, hr, ht, hf, hj⟩ := hrel
  have hsz : (splitL text.data.toList).length ≤ 1000001 := by
   have h1 := splitL_length text.data.toList
   have h2 : text.data.toList.count 10 ≤ text.data.toList.length := List.count_le_length
   rw [text_length] at h2
   omega
  cases mo with
  | false =>
   have hk0 := hf rfl
   subst hk0
   have HJ0 := hide (show J (splitL text.data.toList).length wr from by rw [← hk]; exact hj)
   clear hj
   go_wp2_with fail
   go_end0
   exact ⟨⟨_, rfl⟩, .inl HJ0.out⟩
  | true =>
   have hdr := ht rfl
   rw [text_length] at hr
   have HCT := hide (cut_any r 10 wr (by omega) (HM.out j wr hj))
   have HJJ := hide hj
   clear hj ht hf
   have hwr : IntKind.i64.wrap ((j : Int) + 1) = (j : Int) + 1 := by
    have : 0 < (splitL text.data.toList).length - j := by rw [← List.length_drop, hdr]; exact List.length_pos_iff.2 (splitL_ne _)
    rw [IntKind.wrap_i64]; omega
   refine (wpIn_wide (n := m)).1 ?_
   gi_wp2_with fail
   refine ⟨trivial, fun h => (by cases h), (callsIn_wide.2 HCT.out).mono ?_⟩
   rintro e w2 ⟨⟨n, rfl⟩, (⟨a, b, h1, h2, rfl⟩ | ⟨h1, rfl⟩)⟩
   ·have hsp : splitL r.data.toList = a.data.toList :: splitL b.data.toList := by rw [h1]; exact splitL_cut h2 _
    rw [hsp] at hdr
    have hget : (splitL text.data.toList)[j]? = some a.data.toList := by
     have := congrArg (fun l => l[0]?) hdr
     simpa using this
    have hdr2 : (splitL text.data.toList).drop (j + 1) = splitL b.data.toList := by
     rw [← List.drop_drop, hdr]; rfl
    have hbs : b.size ≤ r.size := by
     have := congrArg List.length h1
     simp only [List.length_append, List.length_cons, text_length] at this
     omega
    obtain ⟨fn, tmps, assign, body, hy, hR⟩ := HY.out j a (wr.drewN n) hget (HJ.out j wr n HJJ.out)
    have HRR := hide hR
    clear hR HCT
    gi_wp2_with fail
    refine ⟨fun h => (by cases h), HRR.out.mono ?_⟩
    rintro e3 w3 (⟨rfl, hj3⟩ | ⟨rfl, hjx⟩)
    ·have HST := hide (show LinesLoop J text.data.toList ((splitL text.data.toList).length - (j + 1)) (.string b) (.bool true) (.int .i64 ((j : Int) + 1)) w3 from ⟨j + 1, b, true, by simp, rfl, rfl, by have := get_lt hget; omega, by rw [text_length]; omega, fun _ => hdr2, fun h => (by cases h), hj3⟩)
     have hlt := get_lt hget
     clear hj3 HRR hy
     gi_wp2_with fail
     go_roundg ((splitL text.data.toList).length - (j + 1))
     case measure => omega
     case rel => exact HST.out
    ·have HJX := hide hjx
     clear hjx HRR hy
     gi_wp2_with fail
     go_end0
     exact ⟨⟨_, rfl⟩, .inr ⟨j, HJX.out⟩⟩
   ·have hsp : splitL r.data.toList = [r.data.toList] := splitL_one h1
    rw [hsp] at hdr
    have hget : (splitL text.data.toList)[j]? = some r.data.toList := by
     have := congrArg (fun l => l[0]?) hdr
     simpa using this
    have hlen : (splitL text.data.toList).length = j + 1 := by
     have := congrArg List.length hdr
     rw [List.length_drop] at this
     simp at this
     have := get_lt hget
     omega
    obtain ⟨fn, tmps, assign, body, hy, hR⟩ := HY.out j r (wr.drewN n) hget (HJ.out j wr n HJJ.out)
    have HRR := hide hR
    clear hR HCT
    gi_wp2_with fail
    refine ⟨fun h => (by cases h), HRR.out.mono ?_⟩
    rintro e3 w3 (⟨rfl, hj3⟩ | ⟨rfl, hjx⟩)
    ·have HST := hide (show LinesLoop J text.data.toList 0 (.string ⟨#[]⟩) (.bool false) (.int .i64 ((j : Int) + 1)) w3 from ⟨j + 1, ⟨#[]⟩, false, by simp, rfl, rfl, by omega, Nat.zero_le _, fun h => (by cases h), fun _ => rfl, hj3⟩)
     clear hj3 HRR hy
     gi_wp2_with fail
     go_roundg 0
     case measure => omega
     case rel => exact HST.out
    ·have HJX := hide hjx
     clear hjx HRR hy
     gi_wp2_with fail
     go_end0
     exact ⟨⟨_, rfl⟩, .inr ⟨j, HJX.out⟩⟩
theorem linesOf_fn (text : ByteArray) (w : World) : Calls Tryz.prog 92 #[.string text] w fun e w' => e = .returned (.func (.func 121) #[] #[.pointer (some ⟨w.heap.size, 0, none⟩)]) ∧ w' = w.alloc (.cells #[.string text] 9) := by
 go_enter Tryz.func92, Tryz.ntmps92
 go_wp2_with fail
 go_ret
 exact ⟨rfl, rfl⟩
theorem spans_fn (g n cap : Nat) (d : PD) (line : ByteArray) (st : List Nat) (h8 : st.length ≤ 8) (w : World) : Calls Tryz.prog 93 #[pv g n cap d, .string line, stv st] w fun e w' => e = .returned (.func (.func 122) #[] #[.pointer (some ⟨w.heap.size + 2, 0, none⟩), .pointer (some ⟨w.heap.size, 0, none⟩), .pointer (some ⟨w.heap.size + 1, 0, none⟩)]) ∧ w' = ((w.alloc (.cells #[.slice (some ⟨g, 0, none⟩) n cap, pfn d] 171)).alloc (.cells #[.string line] 9)).alloc (.cells (stCells st).toArray 138) := by
 obtain ⟨a0, a1, a2, a3, a4, a5, a6, a7, a8, hst⟩ := nine h8
 unfold stv pv pfn
 rw [hst]
 go_enter Tryz.func93, Tryz.ntmps93
 go_wp2_with fail
 go_ret
 exact ⟨rfl, rfl⟩
end Go.Proofs.YtgncgdkpkkdaeaaGreatDoor
namespace Go.Proofs.YtgncgdkpkkdaeaaGreatDoor
open Go.RowKit
section
variable {F : Fence} {n : Nat} {P : Program} {ops : Array Oper} {Q : Exit → Act → World → Prop} {md : Region.Mode}
def noDefer (o : Oper) : Bool := match o.op with
 | .defer _ => false
 | _ => true
theorem noDefer_ne {o : Oper} (h : noDefer o = true) (c : Call) : o.op ≠ .defer c := fun e => by
 unfold noDefer at h
 rw [e] at h
 cases h
theorem opIn_round {o : Oper} {a : Act} {w : World} {K K' : Act → World → Prop} (l : Nat) (hro : F.round = none) (hd : noDefer o = true) (hk : ∀ a w, K a w → K' a w) (h : o.wpIn F n P a w K Q) : o.wpIn (F.inRound l) n P a w K' Q := by
 have h' := Oper.wpIn_mono hk h
 clear h
 unfold Oper.wpIn at *
 refine ⟨h'.1, ?_⟩
 have h2 := h'.2
 rw [hro, Oper.semAt_none] at h2
 rw [Fence.inRound_round, Oper.semAt_some l _ _ (noDefer_ne hd)]
 generalize (execOp a.eval o).run P w = r at *
 cases r with
 | ok x w' => cases x <;> exact h2
 | halt x w' => cases x <;> exact h2
theorem anyIn_round (l : Nat) (hro : F.round = none) (hd : ∀ (i : Nat) (o : Oper), ops[i]? = some o → noDefer o = true) : ∀ (fuel : Nat) (listed : Array Bool) (a : Act) (w : World), wpAnyIn F n P md ops Q fuel listed a w → wpAnyIn (F.inRound l) n P md ops Q fuel listed a w := by
 intro fuel
 induction fuel with
 | zero => intro listed a w h; exact h
 | succ fuel ih =>
  intro listed a w h
  refine ⟨h.1, fun i hi => ?_⟩
  have h1 := h.2 i hi
  unfold wpOpIn at *
  cases ho : ops[i]? with
  | none => rw [ho] at h1; exact ih _ _ _ h1
  | some o =>
   rw [ho] at h1
   simp only at h1 ⊢
   split
   ·rename_i hw
    rw [if_pos hw] at h1
    exact opIn_round l hro (hd i o ho) (fun a w h => ih _ a w h) h1
   ·rename_i hw
    rw [if_neg hw] at h1
    exact ⟨h1.1, ih _ _ _ h1.2⟩
theorem region_quiet_round {id : Nat} {a : Act} {w : World} {os : List Oper} {l : Nat} (hro : F.round = none) (hm : P.follows .mixedOrders = true) (hd : os.all noDefer = true) (hB : Region.lexB .any os.toArray = true)
  (h : wpQuietIn F n P os.toArray (fun w' => ∃ n, w' = w.drewN n) (fun a' => ∀ w', (∃ n, w' = w.drewN n) → Q .normal a' w') os a) : (Code.region id os.toArray true).wpIn (F.inRound l) n P Q a w := by
 simp only [Region.lexB, Bool.and_eq_true] at hB
 refine wpIn_region_any hm (anyIn_round l hro (fun i o ho => ?_) _ _ _ _ (wpAnyIn_of_quiet (C := fun w' => ∃ n, w' = w.drewN n) (Q := fun a' => ∀ w', (∃ n, w' = w.drewN n) → Q .normal a' w') hro (fun _ w' hw' h => h w' hw') _ _ _ _ ⟨1, rfl⟩ ?_))
 ·exact List.all_eq_true.1 hd o (List.mem_of_getElem? (by simpa using ho))
 ·have := wpAnyQIn_lex (F := F) (n := n) (C := fun w' => ∃ n, w' = w.drewN n) (md := .any) hB.1 os.toArray.toList 0 (Array.replicate os.toArray.size false) a (by simp) (by simpa using hB.2) (by simpa using h)
  simpa using this
end
end Go.Proofs.YtgncgdkpkkdaeaaGreatDoor
namespace Go.Proofs.YtgncgdkpkkdaeaaGreatDoor
open Go.RowKit Tint Go.Maps Go.Shelf
theorem semAt_plain (r : Option Nat) (ρ : Operand → Value) (o : Oper) (h : noDefer o = true) : Oper.semAt r ρ o = execOp ρ o := by
 cases r with
 | none => exact Oper.semAt_none _ _
 | some l => exact Oper.semAt_some l _ _ (noDefer_ne h)
theorem wpListIn_store_row {F : Fence} {n : Nat} {P : Program} {ops : Array Oper} {rest : List Oper} {o : Oper} {a : Act} {w : World} {Q : Exit → Act → World → Prop} (hgd : o.guard = none) (ty : TypeId) (x y : Operand) (ho : o.op = .store ty x y)
  (g : Nat) (cells : Array Value) (hx : a.eval x = .pointer (some ⟨g, 0, none⟩)) (hy : a.eval y = .agg cells)
  (t : TypeId) (old : Array Value) (hg : w.heap[g]? = some (.cells old t (0, 0))) (hi : (P.info? ty).map (·.size) = some cells.size)
  (hold : old.size = cells.size) (h1 : cells.all (·.oneCell') = true)
  (h : wpListIn F n P ops Q rest (a.put o.dst undef) (w.setRow g cells)) : wpListIn F n P ops Q (o :: rest) a w := by
 refine wpListIn_plain hgd fun K hK => ?_
 unfold Oper.wpIn
 refine ⟨fun f hf => by simp [Oper.about, ho] at hf, ?_⟩
 rw [semAt_plain _ _ _ (by simp [noDefer, ho])]
 unfold execOp
 simp only [ho, hx, hy, Instr.storeAt, Instr.sureAddr, Sem.run_bind, Sem.run_pure, Result.andThen_ok, run_storeVar_row w g t ty old cells hg hi hold h1]
 exact hK _ _ h
theorem alloc_setRow (w : World) (old cs : Array Value) (t : TypeId) (g : Nat) (hg : g = w.heap.size) : (w.alloc (.cells old t)).setRow g cs = w.alloc (.cells cs t) := by
 subst hg
 unfold World.setRow World.alloc
 congr 1
 apply Array.ext
 ·simp
 ·intro k h1 h2
  simp only [Array.getElem_modify, Array.getElem_push]
  split
  ·rename_i hk; subst hk; simp
  ·rename_i hk
   have h3 : k < w.heap.size := by simp at h1; omega
   simp [h3]
def BehAt (w : World) (bS : Nat) (v : Value) (bs : List (List Nat)) : Prop :=
 ∃ ao cp, v = .slice ao bs.length cp ∧ bs.length ≤ 1000000 ∧ ∀ (j : Nat) st, bs[j]? = some st → st.length ≤ 8 ∧ ∃ bg of, ao = some ⟨bg, of, none⟩ ∧ bg ≠ bS ∧ ∀ (y : Nat) c, (stCells st)[y]? = some c → w.cell? ⟨bg, of + j * 10 + y, none⟩ = some c
structure CJ (w : World) (N bS g n cap : Nat) (G : List GS) (d : PD) (T : List UInt8) (st0 : List Nat) (touched : Nat) (bv : Value) (bs : List (List Nat)) (tx : ByteArray) (lv : Value) (work q p0 : Nat) (rc : Loop) (j : Nat) (st : List Nat) (ls : List LE) (v : Value) (A1 : Nat → Prop) (f1 : Nat → Option Value) (F1 : Nat → List FD) (W : World) : Prop where
 sv : W.heap[q]? = some (.cells #[.pointer (some ⟨bS, 0, none⟩)] 44 (0, 0))
 kv : W.heap[q + 1]? = some (.cells (stCells st).toArray 138 (0, 0))
 tv : W.heap[q + 1 + 1]? = some (.cells #[.int .i64 touched] 3 (0, 0))
 bvx : W.heap[q + 1 + 1 + 1]? = some (.cells #[bv] 132 (0, 0))
 pv : W.heap[p0]? = some (.cells #[.slice (some ⟨g, 0, none⟩) n cap, pfn d] 171 (0, 0))
 av : W.heap[p0 + 1]? = some (.cells #[v] 132 (0, 0))
 dfr : W.heap[p0 + 3]? = some (.deferred (some []))
 rcd : W.heap[p0 + 3 + 1]? = some (.loop rc)
 sh : W.heap[bS]? = some (.cells #[.slice (some ⟨g, 0, none⟩) n cap, .string tx, lv, .int .i64 ((work + j : Nat) : Int)] 134 (0, 0))
 lns : LnsIs W q v ls
 runs : Runs G st0 ((splitL T).take j) (ls.map LE.pr) st
 good : Good G st
 pis : PainterIs W N A1 g n cap G d f1 F1
 apart : ∀ k, A1 k → q + 4 ≤ k ∧ (k < p0 ∨ p0 + 5 ≤ k) ∧ LnsFree v ls k
 nostop : ∀ (i : Nat) x, touched ≤ i → ls[i]? = some x → bs[i - touched]? ≠ some x.st
 off : Off (fun k => k = bS) w W
 ord : q = w.heap.size ∧ q + 4 ≤ p0 ∧ p0 + 5 ≤ W.heap.size ∧ bS < q ∧ N ≤ bS
theorem heap_alloc_at (w : World) (o : Obj) (g : Nat) (h : g = w.heap.size) : (w.alloc o).heap[g]? = some o := by rw [h]; exact heap_alloc_last _ _
section
variable {w : World} {N bS g n cap : Nat} {G : List GS} {d : PD} {T : List UInt8} {st0 : List Nat} {touched : Nat} {bv : Value} {bs : List (List Nat)} {tx : ByteArray} {lv : Value} {work q p0 : Nat} {rc : Loop} {j : Nat} {st : List Nat} {ls : List LE} {v : Value} {A1 : Nat → Prop} {f1 : Nat → Option Value} {F1 : Nat → List FD} {W W' : World}
theorem CJ.same {Y : Nat → Prop} (h : CJ w N bS g n cap G d T st0 touched bv bs tx lv work q p0 rc j st ls v A1 f1 F1 W) (ho : Off Y W W') (hy : ∀ k, Y k → (p0 + 5 ≤ k ∨ k = p0 + 2) ∧ ¬ A1 k ∧ LnsFree v ls k) : CJ w N bS g n cap G d T st0 touched bv bs tx lv work q p0 rc j st ls v A1 f1 F1 W' := by
 obtain ⟨o1, o2, o3, o4, o5⟩ := h.ord
 have hs : ∀ (k : Nat) o, W.heap[k]? = some o → k < p0 + 5 → k ≠ p0 + 2 → W'.heap[k]? = some o := fun k o hk h1 h2 => ho.same hk (fun e => by have := (hy k e).1; omega)
 refine ⟨hs _ _ h.sv (by omega) (by omega), hs _ _ h.kv (by omega) (by omega), hs _ _ h.tv (by omega) (by omega), hs _ _ h.bvx (by omega) (by omega), hs _ _ h.pv (by omega) (by omega), hs _ _ h.av (by omega) (by omega), hs _ _ h.dfr (by omega) (by omega), hs _ _ h.rcd (by omega) (by omega), hs _ _ h.sh (by omega) (by omega), h.lns.off ho (fun k hk => (hy k hk).2.2), h.runs, h.good, h.pis.off ho (fun k hk => ⟨by have := (hy k hk).1; omega, (hy k hk).2.1⟩), h.apart, h.nostop, ?_, o1, o2, Nat.le_trans o3 ho.size, o4, o5⟩
 refine ⟨ho.os.trans h.off.os, ho.tape.trans h.off.tape, ho.output.trans h.off.output, Nat.le_trans h.off.size ho.size, fun k hk => ?_, fun k c t ht hh => ho.stay k c t ht (h.off.stay k c t ht hh)⟩
 refine (ho.keep k ⟨Nat.lt_of_lt_of_le hk.1 h.off.size, fun e => ?_⟩).trans (h.off.keep k hk)
 have := (hy k e).1
 have := hk.1
 omega
theorem CJ.below (h : CJ w N bS g n cap G d T st0 touched bv bs tx lv work q p0 rc j st ls v A1 f1 F1 W) (hb : Below W.heap.size W W') : CJ w N bS g n cap G d T st0 touched bv bs tx lv work q p0 rc j st ls v A1 f1 F1 W' :=
 h.same (Y := fun _ => False) (Off.of_below hb) (fun _ h => h.elim)
theorem CJ.setL (h : CJ w N bS g n cap G d T st0 touched bv bs tx lv work q p0 rc j st ls v A1 f1 F1 W) (rb : Loop) : CJ w N bS g n cap G d T st0 touched bv bs tx lv work q p0 rb j st ls v A1 f1 F1 (W.putObj (p0 + 3 + 1) (.loop rb)) := by
 obtain ⟨o1, o2, o3, o4, o5⟩ := h.ord
 have ho : Off (fun k => k = p0 + 3 + 1) W (W.putObj (p0 + 3 + 1) (.loop rb)) := Off.putObj _ h.rcd rfl
 have hs : ∀ (k : Nat) o, W.heap[k]? = some o → k ≠ p0 + 3 + 1 → (W.putObj (p0 + 3 + 1) (.loop rb)).heap[k]? = some o := fun k o hk h1 => ho.same hk h1
 have hfree : LnsFree v ls (p0 + 3 + 1) := h.lns.other h.rcd (fun c => ⟨by simp, by simp⟩)
 refine ⟨hs _ _ h.sv (by omega), hs _ _ h.kv (by omega), hs _ _ h.tv (by omega), hs _ _ h.bvx (by omega), hs _ _ h.pv (by omega), hs _ _ h.av (by omega), hs _ _ h.dfr (by omega), World.putObj_heap_same (by omega), hs _ _ h.sh (by omega), h.lns.off ho (fun k hk => by rw [hk]; exact hfree), h.runs, h.good, h.pis.off ho (fun k hk => ⟨by omega, fun ha => by have := h.apart k ha; omega⟩), h.apart, h.nostop, ?_, o1, o2, by simpa using o3, o4, o5⟩
 exact h.off.then ho (fun k hk e => by omega)
theorem CJ.bump (h : CJ w N bS g n cap G d T st0 touched bv bs tx lv work q p0 rc j st ls v A1 f1 F1 W) : CJ w N bS g n cap G d T st0 touched bv bs tx lv (work + 1) q p0 rc j st ls v A1 f1 F1 (W.setCell ⟨bS, 3, none⟩ (.int .i64 (((work + j : Nat) : Int) + 1))) := by
 obtain ⟨o1, o2, o3, o4, o5⟩ := h.ord
 have ho : Off (fun k => k = bS) W (W.setCell ⟨bS, 3, none⟩ (.int .i64 (((work + j : Nat) : Int) + 1))) := Off.setCell (Y := fun k => k = bS) (p := ⟨bS, 3, none⟩) rfl h.sh (by decide) _
 have hs : ∀ (k : Nat) o, W.heap[k]? = some o → k ≠ bS → (W.setCell ⟨bS, 3, none⟩ (.int .i64 (((work + j : Nat) : Int) + 1))).heap[k]? = some o := fun k o hk h1 => ho.same hk h1
 have hsh := heap_setCell_same W bS 3 (.int .i64 (((work + j : Nat) : Int) + 1)) h.sh
 have hfree : LnsFree v ls bS := h.lns.free (.inl o4)
 refine ⟨hs _ _ h.sv (by omega), hs _ _ h.kv (by omega), hs _ _ h.tv (by omega), hs _ _ h.bvx (by omega), hs _ _ h.pv (by omega), hs _ _ h.av (by omega), hs _ _ h.dfr (by omega), hs _ _ h.rcd (by omega), ?_, h.lns.off ho (fun k hk => by rw [hk]; exact hfree), h.runs, h.good, h.pis.off ho (fun k hk => ⟨by omega, fun ha => by have := h.apart k ha; omega⟩), h.apart, h.nostop, h.off.trans ho, o1, o2, Nat.le_trans o3 ho.size, o4, o5⟩
 rw [hsh]
 have e : ((work + j : Nat) : Int) + 1 = ((work + 1 + j : Nat) : Int) := by omega
 rw [e]
 simp
theorem CJ.mx (h : CJ w N bS g n cap G d T st0 touched bv bs tx lv work q p0 rc j st ls v A1 f1 F1 W) (hM : Mx w) (hMN : 0 < N) : Mx W := by
 obtain ⟨m, hm⟩ := hM
 obtain ⟨o1, o2, o3, o4, o5⟩ := h.ord
 exact ⟨m, (World.cell?_of_block (h.off.keep _ ⟨cell_lt hm, by show ¬ 0 = bS; omega⟩)).trans hm⟩
end
theorem cj_start {w W0 W1 : World} {N bS g n cap : Nat} {G : List GS} {d : PD} {T : List UInt8} {st0 : List Nat} {touched : Nat} {bv : Value} {bs : List (List Nat)} {tx text : ByteArray} {lv : Value} {work q : Nat} (hq : q = w.heap.size) (hN : N ≤ bS) (h0 : 1 < N) (hG : ∀ w', Below N w w' → GramIs w' g n cap G)
  (hS : w.heap[bS]? = some (.cells #[.slice (some ⟨g, 0, none⟩) n cap, .string tx, lv, .int .i64 work] 134 (0, 0))) (hs0 : W0.heap.size = q + 4) (hsv : W0.heap[q]? = some (.cells #[.pointer (some ⟨bS, 0, none⟩)] 44 (0, 0))) (hkv : W0.heap[q + 1]? = some (.cells (stCells st0).toArray 138 (0, 0))) (htv : W0.heap[q + 1 + 1]? = some (.cells #[.int .i64 touched] 3 (0, 0))) (hbv : W0.heap[q + 1 + 1 + 1]? = some (.cells #[bv] 132 (0, 0)))
  (hB0 : Below w.heap.size w W0) (hB1 : Below W0.heap.size W0 W1) (hP : PainterIs W1 W0.heap.size (fun k => W0.heap.size ≤ k ∧ k < W1.heap.size) g n cap G d (fun _ => none) (fun _ => [])) (hgood : Good G st0) (rc : Loop) :
  CJ w N bS g n cap G d T st0 touched bv bs tx lv work q W1.heap.size rc 0 st0 [] (.slice none 0 0) (fun k => W0.heap.size ≤ k ∧ k < W1.heap.size) (fun _ => none) (fun _ => []) (((((W1.alloc (.cells #[.slice (some ⟨g, 0, none⟩) n cap, pfn d] 171)).alloc (.cells #[.slice none 0 0] 132)).alloc (.cells #[.string text] 9)).alloc (.deferred (some []))).alloc (.loop rc)) := by
 have hbS := lt_of_get hS
 have s1 := hB1.size
 obtain ⟨V, hV⟩ : ∃ V, ((((W1.alloc (.cells #[.slice (some ⟨g, 0, none⟩) n cap, pfn d] 171)).alloc (.cells #[.slice none 0 0] 132)).alloc (.cells #[.string text] 9)).alloc (.deferred (some []))).alloc (.loop rc) = V := ⟨_, rfl⟩
 have hv0 : V.heap[W1.heap.size]? = some (.cells #[.slice (some ⟨g, 0, none⟩) n cap, pfn d] 171 (0, 0)) := by rw [← hV]; exact heap_alloc_old (heap_alloc_old (heap_alloc_old (heap_alloc_old (heap_alloc_at _ _ _ rfl))))
 have hv1 : V.heap[W1.heap.size + 1]? = some (.cells #[.slice none 0 0] 132 (0, 0)) := by rw [← hV]; exact heap_alloc_old (heap_alloc_old (heap_alloc_old (heap_alloc_at _ _ _ (by simp))))
 have hv3 : V.heap[W1.heap.size + 3]? = some (.deferred (some [])) := by rw [← hV]; exact heap_alloc_old (heap_alloc_at _ _ _ (by simp))
 have hv4 : V.heap[W1.heap.size + 3 + 1]? = some (.loop rc) := by rw [← hV]; exact heap_alloc_at _ _ _ (by simp)
 have hVs : V.heap.size = W1.heap.size + 5 := by rw [← hV]; simp
 have hBV : Below W1.heap.size W1 V := by
  rw [← hV]
  exact (((((Below.refl _ _).alloc (Nat.le_refl _) _).alloc (by simp) _).alloc (by simp; omega) _).alloc (by simp; omega) _).alloc (by simp; omega) _
 have hB0V : Below W0.heap.size W0 V := hB1.trans (hBV.mono s1)
 have hwV : Below w.heap.size w V := hB0.trans (hB0V.mono hB0.size)
 have hk : ∀ (k : Nat) o, W0.heap[k]? = some o → V.heap[k]? = some o := fun k o h => (hB0V.block k (lt_of_get h)).trans h
 rw [hV]
 refine ⟨hk _ _ hsv, hk _ _ hkv, hk _ _ htv, hk _ _ hbv, hv0, hv1, hv3, hv4, (hwV.block _ hbS).trans hS, LnsIs.nil _ _, .nil, hgood, ?_, fun k hk => ⟨by omega, .inl hk.2, ⟨by simp [Value.ownBlock], fun x hx => by simp at hx⟩⟩, fun i x _ hx => by simp at hx, Off.of_below hwV, hq, by omega, by omega, by omega, hN⟩
 exact (hP.below hBV).lower (by omega) h0 (fun w' hb => hG w' ((hwV.mono (by omega)).trans hb))
theorem col_loop {w V : World} {N bS g n cap : Nat} {G : List GS} {d : PD} {text : ByteArray} {st0 : List Nat} {touched : Nat} {bv : Value} {bs : List (List Nat)} {tx : ByteArray} {lv : Value} {work q p0 : Nat} (hz : text.size ≤ 3000) (hM : Mx w) (hMN : 0 < N) (rc : LoopState → Option Code → Loop) (K : Ending → World → Prop) (hvt : V.heap[p0 + 2]? = some (.cells #[.string text] 9 (0, 0)))
  {sta : List Nat} {lsa : List LE} {va : Value} {Aa : Nat → Prop} {fa : Nat → Option Value} {Fa : Nat → List FD} (hstart : CJ w N bS g n cap G d text.data.toList st0 touched bv bs tx lv work q p0 (rc .ready none) 0 sta lsa va Aa fa Fa ((V.alloc (.deferred (some []))).alloc (.loop (rc .ready none)))) (hla : lsa.length = 0)
  (hround : ∀ (j : Nat) (body : ByteArray) st ls v A1 f1 F1 B, (splitL text.data.toList)[j]? = some body.data.toList → CJ w N bS g n cap G d text.data.toList st0 touched bv bs tx lv work q p0 (rc .ready none) j st ls v A1 f1 F1 B → ls.length = j → YieldAt Fence.wide 7 Tryz.prog (p0 + 3 + 1) #[.int .i64 j, .string body] B fun e C =>
   (e = .returned (.bool true) ∧ ∃ st' ls' v' A' f' F', CJ w N bS g n cap G d text.data.toList st0 touched bv bs tx lv work q p0 (rc .ready none) (j + 1) st' ls' v' A' f' F' C ∧ ls'.length = j + 1) ∨ (e = .returned (.bool false) ∧ (∃ st' ls' v' A' f' F', CJ w N bS g n cap G d text.data.toList st0 touched bv bs tx lv work q p0 (rc .done (some (.exit 0))) j st' ls' v' A' f' F' C ∧ ls'.length = j ∧ touched ≤ j ∧ bs[j - touched]? = some st')))
  (hend : ∀ r W st ls v A1 f1 F1, CJ w N bS g n cap G d text.data.toList st0 touched bv bs tx lv work q p0 (rc .ready none) ls.length st ls v A1 f1 F1 W → ls.length = (splitL text.data.toList).length → K (.returned r) W)
  (hstop : ∀ r W st ls v A1 f1 F1, CJ w N bS g n cap G d text.data.toList st0 touched bv bs tx lv work q p0 (rc .done (some (.exit 0))) ls.length st ls v A1 f1 F1 W → touched ≤ ls.length → bs[ls.length - touched]? = some st → K (.returned r) W) :
  CallsIn Fence.wide 8 Tryz.prog 121 #[.func (.yield (p0 + 3 + 1)) #[] #[], .pointer (some ⟨p0 + 2, 0, none⟩)] ((V.alloc (.deferred (some []))).alloc (.loop (rc .ready none))) K := by
 refine (linesOf1_any 8 text (p0 + 2) (p0 + 3 + 1) (fun j W => ∃ st ls v A1 f1 F1, CJ w N bS g n cap G d text.data.toList st0 touched bv bs tx lv work q p0 (rc .ready none) j st ls v A1 f1 F1 W ∧ ls.length = j) (fun j W => ∃ st ls v A1 f1 F1, CJ w N bS g n cap G d text.data.toList st0 touched bv bs tx lv work q p0 (rc .done (some (.exit 0))) j st ls v A1 f1 F1 W ∧ ls.length = j ∧ touched ≤ j ∧ bs[j - touched]? = some st) _ (by omega) (heap_alloc_old (heap_alloc_old hvt)) ?_ ?_ ?_ ⟨sta, lsa, va, Aa, fa, Fa, hstart, hla⟩).mono ?_
 ·rintro j A ⟨st, ls, v, A1, f1, F1, h, _⟩
  exact h.mx hM hMN
 ·rintro j A n ⟨st, ls, v, A1, f1, F1, h, hl⟩
  exact ⟨st, ls, v, A1, f1, F1, h.below ⟨rfl, rfl, rfl, Nat.le_refl _, fun _ _ => rfl⟩, hl⟩
 ·rintro j body A hb ⟨st, ls, v, A1, f1, F1, h, hl⟩
  exact hround j body st ls v A1 f1 F1 A hb h hl
 ·rintro e W ⟨⟨r, rfl⟩, (⟨st, ls, v, A1, f1, F1, h, hl⟩ | ⟨j, st, ls, v, A1, f1, F1, h, hl, h1, h2⟩)⟩
  ·exact hend r W st ls v A1 f1 F1 (by rw [hl]; exact h) hl
  ·subst hl
   exact hstop r W st ls v A1 f1 F1 h h1 h2
end Go.Proofs.YtgncgdkpkkdaeaaGreatDoor
