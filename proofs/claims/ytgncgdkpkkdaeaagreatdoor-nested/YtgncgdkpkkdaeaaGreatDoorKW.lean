import Derived.Test.YtgncgdkpkkdaeaaGreatDoorKD
import Derived.Maps.AppendAt
import Derived.Laws.Bits64b
import Derived.Laws.CopyOwn
import Derived.Test.YtgncgdkpkkdaeaaGreatDoorKV
namespace Go.Proofs.YtgncgdkpkkdaeaaGreatDoor
open Go.RowKit Tint Go.Maps
theorem and_one : bits BinOp.and IntKind.u64 1 4294967295 = 1 := by decide +kernel
theorem and_low (n : Nat) (hn : n ≤ 1000000) : bits BinOp.and IntKind.u64 (n : Int) 4294967295 = (n : Int) := by
 have h := bits_and_u64_nat n 4294967295 (by omega) (by omega)
 have e : n &&& 4294967295 = n := by
  have := Nat.and_two_pow_sub_one_eq_mod n 32
  rw [show (2 ^ 32 - 1 : Nat) = 4294967295 from rfl, show (2 ^ 32 : Nat) = 4294967296 from rfl] at this
  omega
 rw [e] at h
 exact h
set_option maxHeartbeats 1000000 in
theorem mul64_one (n : Nat) (hn : n ≤ 1000000) (w : World) :
  Calls Tryz.prog 204 #[.int .u64 1, .int .u64 n] w fun e w' => e = .returned (.tuple #[.int .u64 0, .int .u64 n]) ∧ w' = w := by
 have a1 := and_one
 have a2 := and_low n hn
 have a0 : bits BinOp.and IntKind.u64 0 4294967295 = 0 := by decide +kernel
 have d1 : (n : Int) / 4294967296 = 0 := by omega
 have w1 : IntKind.u64.wrap (n : Int) = (n : Int) := by rw [IntKind.wrap_u64]; omega
 have w0 : IntKind.u64.wrap 0 = 0 := by decide +kernel
 go_enter Tryz.func204, Tryz.ntmps204
 go_wp2
 exact bodyPost_ret (v := .tuple #[.int .u64 0, .int .u64 n]) (by simp [results, Tryz.results204, go_sem, *]) rfl ⟨rfl, rfl⟩
set_option maxHeartbeats 1000000 in
theorem mul_one (n : Nat) (hn : n ≤ 1000000) (w : World) :
  Calls Tryz.prog 186 #[.int .u64 1, .int .u64 n] w fun e w' => e = .returned (.tuple #[.int .u64 0, .int .u64 n]) ∧ w' = w := by
 have HM := hide (mul64_one n hn w)
 go_enter Tryz.func186, Tryz.ntmps186
 go_wp2_with fail
 refine HM.out.mono ?_
 rintro e w1 ⟨rfl, rfl⟩
 go_wp2_with fail
 exact bodyPost_ret (v := .tuple #[.int .u64 0, .int .u64 n]) (by simp [results, Tryz.results186, go_sem, *]) rfl ⟨rfl, rfl⟩
def mone : Value := .int .i64 (-1)
def filled (j n : Nat) : List Value := List.replicate j mone ++ List.replicate (n - j) (.int .i64 0)
theorem make_ints3 (w : World) (n : Nat) (hn : n ≤ 1000000) : (Instr.makeSlice 57 (.int .i64 n) (.int .i64 n)).run Tryz.prog w = .ok (.slice (some ⟨w.heap.size, 0, none⟩) n n) (w.alloc (.cells (filled 0 n).toArray 3)) := by
 obtain ⟨i, hi, h0, h1, h2⟩ := info_parts (show (Tryz.prog.info? 3).map (fun i => (i.zero, i.size, i.bytes)) = some (some (.int .i64 0), 1, 8) by kernel_rfl)
 rw [run_make w 57 3 i (.int .i64 0) Tryz.underlying57 hi h0 .i64 .i64 n n (by omega) (by omega) (by rw [h2]; omega) (by omega)]
 have : madeCells (Value.int .i64 0).cells ((n : Int).toNat * i.size) = (filled 0 n).toArray := by
  rw [h1]
  apply Array.toList_inj.1
  show (madeCells #[.int .i64 0] ((n : Int).toNat * 1)).toList = _
  rw [toList_madeCells_one]
  simp [filled]
 rw [this]
 simp
theorem filled_splice {j n : Nat} (m : Nat) (hm : j + m ≤ n) : splice (filled j n) j (List.replicate m mone) = filled (j + m) n := by
 unfold splice filled
 rw [List.take_left' (by simp), List.drop_append]
 simp only [List.length_replicate]
 rw [List.drop_eq_nil_of_le (by simp), List.nil_append, List.drop_replicate, ← List.append_assoc, List.replicate_append_replicate]
 congr 2
 omega
theorem filled_length {j n : Nat} (hj : j ≤ n) : (filled j n).length = n := by simp [filled]; omega
theorem filled_get {j n k : Nat} (hk : k < j) : (filled j n)[k]? = some mone := by
 unfold filled
 rw [List.getElem?_append_left (by simpa using hk)]
 simp [hk]
theorem filled_full (n : Nat) : filled n n = List.replicate n mone := by simp [filled]
def RepPost (n : Nat) (w : World) (e : Ending) (w' : World) : Prop :=
 ∃ G, e = .returned (.slice (some ⟨G, 0, none⟩) n n) ∧ w.heap.size ≤ G ∧ w'.heap[G]? = some (.cells (List.replicate n mone).toArray 3 (0, 0)) ∧ Below w.heap.size w w'
def RepLoop (n G : Nat) (w : World) (k : Nat) (vn : Value) (wr : World) : Prop :=
 ∃ j : Nat, vn = .int .i64 j ∧ 1 ≤ j ∧ j + k = n ∧ wr.heap[G]? = some (.cells (filled j n).toArray 3 (0, 0)) ∧ Below G w wr
set_option maxRecDepth 20000 in
set_option maxHeartbeats 2000000 in
theorem repeat_any (g n : Nat) (hn : n ≤ 1000000) (h1 : 1 ≤ n) (w : World) (hx : w.heap[g]? = some (.cells #[mone] 3 (0, 0))) :
  Calls Tryz.prog 161 #[.slice (some ⟨g, 0, none⟩) 1 1, .int .i64 n] w (RepPost n w) := by
 have HM := hide (mul_one n hn w)
 have hmk := make_ints3 w n hn
 have hs1 : (Tryz.prog.info? 3).map (·.size) = some 1 := by kernel_rfl
 have cm : ((n : Int) < 0) = False := by simp
 have w1 : IntKind.i64.wrap (n : Int) = (n : Int) := by rw [IntKind.wrap_i64]; omega
 have w2 : IntKind.u64.wrap (n : Int) = (n : Int) := by rw [IntKind.wrap_u64]; omega
 have d1 : decide ((9223372036854775807 : Int) < (n : Int)) = false := by simp; omega
 obtain ⟨G, hG⟩ : ∃ G, G = w.heap.size := ⟨_, rfl⟩
 obtain ⟨W, hW⟩ : ∃ W, w.alloc (.cells (filled 0 n).toArray 3) = W := ⟨_, rfl⟩
 have HR0 := hide (show W.heap[G]? = some (.cells (filled 0 n).toArray 3 (0, 0)) from by rw [← hW, hG]; exact heap_alloc_last _ _)
 have HB0 := hide (show Below G w W from by rw [← hW, hG]; exact (Below.refl _ _).alloc (Nat.le_refl _) _)
 have HX := hide (show W.heap[g]? = some (.cells #[mone] 3 (0, 0)) from by rw [← hW]; exact heap_alloc_old hx)
 have HS := hide (fun (j : Nat) v (h : [mone][j]? = some v) => show W.cell? ((⟨g, 0, none⟩ : Addr).add j) = some v from by
  cases j with
  | zero => cases h; simp [Addr.add, World.cell?, HX.out]
  | succ j => simp at h)
 rw [hW, ← hG] at hmk
 have HG := hide hG
 clear hW hG hx
 go_enter Tryz.func161, Tryz.ntmps161
 go_wp2_with fail
 refine HM.out.mono ?_
 rintro e w' ⟨rfl, rfl⟩
 clear HM
 go_wp2_with (refine wpList_copy_splice rfl (.tmp 31) (.tmp 32) 57 57 rfl 3 Tryz.underlying57 hs1 (some ⟨G, 0, none⟩) (some ⟨g, 0, none⟩) n n 1 1 rfl rfl G 0 (filled 0 n) 3 HR0.out [mone] (by simp [Nat.min_def]; omega) (fun _ => ⟨rfl, ⟨g, 0, none⟩, rfl, HS.out⟩) (by rw [filled_length (by omega)]; simpa using h1) (by simp [mone, Value.oneCell']) G w' HB0.out (Nat.le_refl _) ?_; intro w2 HR2 hB2)
 have HR3 := hide (show w2.heap[G]? = some (.cells (filled 1 n).toArray 3 (0, 0)) from by have h := HR2.out; rw [show [mone] = List.replicate 1 mone from rfl, filled_splice 1 (by omega)] at h; exact h)
 have HB3 := hide hB2
 clear HR2 hB2 HR0 HB0 HX HS hmk
 go_loopg [8] (n - 1) (fun k vn wr => RepLoop n G w' k vn wr)
 case atStart => exact ⟨1, rfl, Nat.le_refl _, by omega, HR3.out, HB3.out⟩
 case round =>
  obtain ⟨j, rfl, hj1, hj, hr, hb⟩ := hrel
  have HR := hide hr
  have HB := hide hb
  clear hr hb HR3 HB3
  by_cases hlt : j < n
  ·have g1 : decide ((j : Int) < (n : Int)) = true := decide_eq_true (by omega)
   obtain ⟨m, hm⟩ : ∃ m, m = min j (n - j) := ⟨_, rfl⟩
   have HM := hide hm
   have hmj : m ≤ j := by omega
   have hmn : j + m ≤ n := by omega
   have hm1 : 1 ≤ m := by omega
   have HS := hide (fun (i : Nat) v (h : (List.replicate m mone)[i]? = some v) => show wr.cell? ((⟨G, 0, none⟩ : Addr).add i) = some v from by
    have hi : i < m := by simpa using get_lt h
    simp [hi] at h
    rw [← h]
    have hf := filled_get (n := n) (show i < j by omega)
    by_cases h0 : i = 0
    ·subst h0; simp [Addr.add, World.cell?, HR.out, hf]
    ·simp [Addr.add, World.cell?, HR.out, hf, h0])
   have hle : j ≤ n := by omega
   have hne : (n = j) = False := by simp; omega
   clear hm
   obtain ⟨W4, hW4⟩ : ∃ W4, wr.drew.setRow G ((filled j n).toArray.toList.take j ++ List.replicate m mone ++ (filled j n).toArray.toList.drop (j + (List.replicate m mone).length)).toArray = W4 := ⟨_, rfl⟩
   have hcp := run_copy_row (P := Tryz.prog) wr.drew 57 57 3 3 G j (n - j) (n - j) ⟨G, 0, none⟩ j n (filled j n).toArray 3 (List.replicate m mone) Tryz.underlying57 hs1 HR.out (by have := HM.out; simp [Nat.min_def]; omega) HS.out (by have := filled_length (j := j) (n := n) (by omega); simp; omega) (by simp [mone, Value.oneCell'])
   rw [hW4] at hcp
   have HST := hide (show RepLoop n G w' (n - (j + m)) (.int .i64 ((j + m : Nat) : Int)) W4 from ⟨j + m, rfl, by omega, by omega, by
    rw [← hW4]
    have h := setRow_heap wr.drew G _ ((filled j n).toArray.toList.take j ++ List.replicate m mone ++ (filled j n).toArray.toList.drop (j + (List.replicate m mone).length)).toArray _ _ HR.out
    rw [h]
    have e : (filled j n).toArray.toList.take j ++ List.replicate m mone ++ (filled j n).toArray.toList.drop (j + (List.replicate m mone).length) = filled (j + m) n := by
     rw [← filled_splice m hmn]; simp [splice]
    rw [e], by rw [← hW4]; exact below_setRow HB.out.drew (Nat.le_refl _) _⟩)
   have hmm : (List.replicate m mone).length = m := by simp
   rw [hmm] at hcp
   have hwr : IntKind.i64.wrap ((j : Int) + (m : Int)) = ((j + m : Nat) : Int) := by rw [IntKind.wrap_i64]; omega
   clear hW4 HS hmm
   go_wp2_with fail
   go_region
   all_goals
    go_wp2_with fail
    go_roundg (n - (j + m))
    case measure => omega
    case rel => exact HST.out
  ·have hjn : j = n := by omega
   have g1 : decide (j < n) = false := by simp; omega
   have HEND := hide (show RepPost n w' (.returned (.slice (some ⟨G, 0, none⟩) n n)) wr from ⟨G, rfl, by rw [HG.out]; exact Nat.le_refl _, by have h := HR.out; rw [hjn, filled_full] at h; exact h, by have h := HB.out; rwa [HG.out] at h⟩)
   clear hlt
   go_wp2_with fail
   go_ret
   exact HEND.out
end Go.Proofs.YtgncgdkpkkdaeaaGreatDoor
namespace Go.Proofs.YtgncgdkpkkdaeaaGreatDoor
open Go.RowKit Tint Go.Maps Go.Shelf
attribute [local go_sem] Oper.semAt_some
def FirstFrom (rs : List GR) (T : List UInt8) (j p : Nat) (z : Int) : Prop :=
 (z = -1 ∧ ∀ k r, j ≤ k → rs[k]? = some r → ¬ From r.a.re T p) ∨ ∃ (k : Nat) (r : GR), z = k ∧ j ≤ k ∧ rs[k]? = some r ∧ From r.a.re T p ∧ ∀ k' r', j ≤ k' → k' < k → rs[k']? = some r' → ¬ From r'.a.re T p
theorem first_end (rs : List GR) (T : List UInt8) (p : Nat) : FirstFrom rs T rs.length p (-1) := .inl ⟨rfl, fun k r h1 h2 => by have := get_lt h2; omega⟩
theorem first_no {rs : List GR} {T : List UInt8} {j p : Nat} {z : Int} {r : GR} (h : FirstFrom rs T (j + 1) p z) (hr : rs[j]? = some r) (hn : ¬ From r.a.re T p) : FirstFrom rs T j p z := by
 have key : ∀ k' r', k' = j → rs[k']? = some r' → ¬ From r'.a.re T p := fun k' r' e h' => by rw [e, hr] at h'; cases h'; exact hn
 rcases h with ⟨h1, h2⟩ | ⟨k, r1, h1, h2, h3, h4, h5⟩
 ·exact .inl ⟨h1, fun k r' hk h' => by
   rcases Nat.lt_or_ge j k with h | h
   ·exact h2 k r' h h'
   ·exact key k r' (by omega) h'⟩
 ·exact .inr ⟨k, r1, h1, by omega, h3, h4, fun k' r' hk hk' h' => by
   rcases Nat.lt_or_ge j k' with h | h
   ·exact h5 k' r' h hk' h'
   ·exact key k' r' (by omega) h'⟩
theorem first_yes {rs : List GR} {T : List UInt8} {j p : Nat} {r : GR} (hr : rs[j]? = some r) (h : From r.a.re T p) : FirstFrom rs T j p (j : Int) := .inr ⟨j, r, rfl, Nat.le_refl _, hr, h, fun k' _ h1 h2 => by omega⟩
def RowMid (rs : List GR) (T : List UInt8) (j i L : Nat) (fr : List Int) : Prop := fr.length = L ∧ ∀ p z, fr[p]? = some z → (i ≤ p → FirstFrom rs T j p z) ∧ (p < i → FirstFrom rs T (j + 1) p z)
def RowDone (rs : List GR) (T : List UInt8) (j L : Nat) (fr : List Int) : Prop := fr.length = L ∧ ∀ p z, fr[p]? = some z → FirstFrom rs T j p z
theorem RowDone.mid {rs : List GR} {T : List UInt8} {j L : Nat} {fr : List Int} (h : RowDone rs T (j + 1) L fr) (i : Nat) (hi : L ≤ i) : RowMid rs T j i L fr :=
 ⟨h.1, fun p z hp => ⟨fun h' => by have := get_lt hp; have := h.1; omega, fun _ => h.2 p z hp⟩⟩
theorem RowMid.done {rs : List GR} {T : List UInt8} {j L : Nat} {fr : List Int} (h : RowMid rs T j 0 L fr) : RowDone rs T j L fr := ⟨h.1, fun p z hp => (h.2 p z hp).1 (Nat.zero_le _)⟩
theorem RowMid.skip {rs : List GR} {T : List UInt8} {j i L : Nat} {fr : List Int} {r : GR} (h : RowMid rs T j (i + 1) L fr) (hr : rs[j]? = some r) (hn : ¬ From r.a.re T i) : RowMid rs T j i L fr :=
 ⟨h.1, fun p z hp => ⟨fun h' => by
  rcases Nat.lt_or_ge i p with h1 | h1
  ·exact (h.2 p z hp).1 h1
  ·obtain rfl : p = i := by omega
   exact first_no ((h.2 p z hp).2 (by omega)) hr hn, fun h' => (h.2 p z hp).2 (by omega)⟩⟩
theorem RowMid.hit {rs : List GR} {T : List UInt8} {j i L : Nat} {fr : List Int} {r : GR} (h : RowMid rs T j (i + 1) L fr) (hr : rs[j]? = some r) (hf : From r.a.re T i) : RowMid rs T j i L (fr.set i (j : Int)) := by
 refine ⟨by rw [List.length_set]; exact h.1, fun p z hp => ?_⟩
 rcases get_set hp with ⟨rfl, rfl⟩ | ⟨hne, hp⟩
 ·exact ⟨fun _ => first_yes hr hf, fun h' => by omega⟩
 ·exact ⟨fun h' => (h.2 p z hp).1 (by omega), fun h' => (h.2 p z hp).2 (by omega)⟩
theorem row_start (rs : List GR) (T : List UInt8) (L : Nat) : RowDone rs T rs.length L (List.replicate L (-1)) := by
 refine ⟨by simp, fun p z hp => ?_⟩
 have : z = -1 := by
  have := List.mem_of_getElem? hp
  exact (List.mem_replicate.1 this).2
 rw [this]
 exact first_end rs T p
theorem from_lt {r : Re} {T : List UInt8} {p : Nat} (hn : r.nullable = false) (h : From r T p) : p < T.length := by
 obtain ⟨j, h1, h2, h3⟩ := h
 rcases Nat.lt_or_ge p T.length with h | h
 ·exact h
 ·have : j = p := by omega
  subst this
  rw [seg_self] at h3
  rw [(mt_nil _).1 h3] at hn
  cases hn
def RulesPost (N : Nat) (A : Nat → Prop) (g n cap : Nat) (G : List GS) (d : PD) (s : GS) (T : List UInt8) (w : World) (e : Ending) (w' : World) : Prop :=
 ∃ (Gr : Nat) (fr : List Int) (A' : Nat → Prop) (f' : Nat → Option Value) (F' : Nat → List FD), e = .returned (.slice (some ⟨Gr, 0, none⟩) T.length T.length) ∧ w.heap.size ≤ Gr ∧ w'.heap[Gr]? = some (.cells (fr.map (Value.int .i64)).toArray 3 (0, 0)) ∧ ¬ A' Gr ∧ RowDone s.rs T 0 T.length fr ∧ Off A w w' ∧ (∀ k, A' k → A k ∨ w.heap.size ≤ k) ∧ (∀ k, A k → A' k) ∧ PainterIs w' N A' g n cap G d f' F'
structure RLaid (w : World) (N : Nat) (A A' : Nat → Prop) (g n cap : Nat) (G : List GS) (d : PD) (f' : Nat → Option Value) (F' : Nat → List FD) (i : Nat) (s : GS) (line : ByteArray) (q Gr bF bs : Nat) (ao : Option Addr) (cp : Nat) (V : World) : Prop where
 painter : PainterIs V N A' g n cap G d f' F'
 fi : f' i = some (.slice ao s.rs.length cp)
 gi : G[i]? = some s
 sub : ∀ k, A' k → A k ∨ (bF < k ∧ k < bs)
 sup : ∀ k, A k → A' k ∧ k < q
 hN : N ≤ q
 hq : q = w.heap.size
 ord : q + 1 < Gr ∧ Gr < bF ∧ bF < bs ∧ V.heap.size = bs + 1
 linex : V.heap[q + 1]? = some (.cells #[.string line] 9 (0, 0))
 rowx : V.heap[Gr]? = some (.cells (List.replicate line.size mone).toArray 3 (0, 0))
 firstx : V.heap[bF]? = some (.cells #[.slice (some ⟨Gr, 0, none⟩) line.size line.size] 57 (0, 0))
 bsx : V.heap[bs]? = some (.cells #[.slice ao s.rs.length cp] 237 (0, 0))
 off : Off A w V
structure RJ (w : World) (N : Nat) (A A' : Nat → Prop) (g n cap : Nat) (G : List GS) (d : PD) (f' : Nat → Option Value) (F' : Nat → List FD) (i : Nat) (s : GS) (line : ByteArray) (q Gr bF bs : Nat) (ao : Option Addr) (cp : Nat) (rc : Loop) (j : Nat) (W : World) : Prop where
 painter : ∃ A1 F1, PainterIs W N A1 g n cap G d f' F1 ∧ (∀ k, A1 k → A' k ∨ bs + 3 ≤ k) ∧ (∀ k, A' k → A1 k) ∧ (F1 i).map FD.cells = (F' i).map FD.cells
 row : ∃ fr : List Int, W.heap[Gr]? = some (.cells (fr.map (Value.int .i64)).toArray 3 (0, 0)) ∧ RowDone s.rs line.data.toList j line.size fr
 linex : W.heap[q + 1]? = some (.cells #[.string line] 9 (0, 0))
 firstx : W.heap[bF]? = some (.cells #[.slice (some ⟨Gr, 0, none⟩) line.size line.size] 57 (0, 0))
 bsx : W.heap[bs]? = some (.cells #[.slice ao s.rs.length cp] 237 (0, 0))
 dfr : W.heap[bs + 1]? = some (.deferred (some []))
 rcd : W.heap[bs + 1 + 1]? = some (.loop rc)
 off : Off A w W
theorem rules_loop {w : World} {N : Nat} {A A' : Nat → Prop} {g n cap : Nat} {G : List GS} {d : PD} {f' : Nat → Option Value} {F' : Nat → List FD} {i : Nat} {s : GS} {line : ByteArray} {q Gr bF bs : Nat} {ao : Option Addr} {cp : Nat} {V : World} (hV : RLaid w N A A' g n cap G d f' F' i s line q Gr bF bs ao cp V) (rc : LoopState → Option Code → Loop) (K : Ending → World → Prop)
  (hround : ∀ j x B, (F' i)[j]? = some x → RJ w N A A' g n cap G d f' F' i s line q Gr bF bs ao cp (rc .ready none) (j + 1) B → YieldAt Fence.wide 7 Tryz.prog (bs + 1 + 1) #[.int .i64 j, fdv x] B fun e C => (e = .returned (.bool true) ∧ RJ w N A A' g n cap G d f' F' i s line q Gr bF bs ao cp (rc .ready none) j C) ∨ (e = .returned (.bool false) ∧ False))
  (hend : ∀ v W, RJ w N A A' g n cap G d f' F' i s line q Gr bF bs ao cp (rc .ready none) 0 W → K (.returned v) W) :
  CallsIn Fence.wide 8 Tryz.prog 187 #[.func (.yield (bs + 1 + 1)) #[] #[], .pointer (some ⟨bs, 0, none⟩)] ((V.alloc (.deferred (some []))).alloc (.loop (rc .ready none))) K := by
 obtain ⟨s', ao', cp', e1, e2, e3, e4, e5⟩ := hV.painter.fin i _ hV.fi
 rw [hV.gi] at e2
 cases e2
 have hlen : (F' i).length = s.rs.length := by have := congrArg List.length e3; simpa using this
 have hG := hV.painter.gram V (Below.refl _ _)
 obtain ⟨_, h40, _⟩ := hG.at_ i s hV.gi
 have hbV : Below V.heap.size V ((V.alloc (.deferred (some []))).alloc (.loop (rc .ready none))) := ((Below.refl _ _).alloc (Nat.le_refl _) _).alloc (by simp) _
 have hk : ∀ (k : Nat) o, V.heap[k]? = some o → ((V.alloc (.deferred (some []))).alloc (.loop (rc .ready none))).heap[k]? = some o := fun k o h => (hbV.block k (lt_of_get h)).trans h
 have hd : ((V.alloc (.deferred (some []))).alloc (.loop (rc .ready none))).heap[bs + 1]? = some (.deferred (some [])) := by
  have h1 := heap_alloc_last V (.deferred (some []))
  rw [hV.ord.2.2.2] at h1
  exact heap_alloc_old h1
 have hr : ((V.alloc (.deferred (some []))).alloc (.loop (rc .ready none))).heap[bs + 1 + 1]? = some (.loop (rc .ready none)) := by
  have h1 := heap_alloc_last (V.alloc (.deferred (some []))) (.loop (rc .ready none))
  rw [show (V.alloc (.deferred (some []))).heap.size = bs + 1 + 1 by simp [hV.ord.2.2.2]] at h1
  exact h1
 refine (backward_any 8 bs ao cp (F' i) (bs + 1 + 1) (fun j W => RJ w N A A' g n cap G d f' F' i s line q Gr bF bs ao cp (rc .ready none) j W) (fun _ _ => False) _ (by omega) ?_ (fun j x B hx hj => hround j x B hx hj) ?_).mono ?_
 ·intro j W hj
  obtain ⟨A1, F1, hp, _, _, hc⟩ := hj.painter
  obtain ⟨s2, ao2, cp2, a1, a2, a3, a4, a5⟩ := hp.fin i _ hV.fi
  rw [hV.gi] at a2
  cases a2
  have hl1 : (F1 i).length = s.rs.length := by have := congrArg List.length a3; simpa using this
  rw [← hl1] at a4
  exact a4.back (by rw [hl1]; exact hj.bsx) hc.symm
 ·rw [hlen]
  refine ⟨⟨A', F', hV.painter.below hbV, fun k hk => .inl hk, fun k hk => hk, rfl⟩, ⟨List.replicate line.size (-1), by rw [List.map_replicate]; exact hk _ _ hV.rowx, row_start _ _ _⟩, hk _ _ hV.linex, hk _ _ hV.firstx, hk _ _ hV.bsx, hd, hr, ?_⟩
  exact hV.off.trans (Off.of_below hbV)
 ·rintro e W ⟨⟨v, rfl⟩, hJ | ⟨i, hJ⟩⟩
  ·exact hend v W hJ
  ·exact hJ.elim
theorem backward_fn (v : Value) (hv : ∃ ao n c, v = .slice ao n c) (w : World) : Calls Tryz.prog 162 #[v] w fun e w' => e = .returned (.func (.func 187) #[] #[.pointer (some ⟨w.heap.size, 0, none⟩)]) ∧ w' = w.alloc (.cells #[v] 237) := by
 obtain ⟨ao, n, c, rfl⟩ := hv
 go_enter Tryz.func162, Tryz.ntmps162
 go_wp2_with fail
 go_ret
 exact ⟨rfl, rfl⟩
theorem rules_laid {w W0 W1 W3 : World} {N : Nat} {A A' : Nat → Prop} {g n cap : Nat} {G : List GS} {d : PD} {f f' : Nat → Option Value} {F F' : Nat → List FD} {i : Nat} {s : GS} {line : ByteArray} {q Gr : Nat} {ao : Option Addr} {cp : Nat} (h : PainterIs w N A g n cap G d f F) (hs : G[i]? = some s) (hq : q = w.heap.size) (hs0 : W0.heap.size = q + 3) (hb0 : Below w.heap.size w W0) (hl0 : W0.heap[q + 1]? = some (.cells #[.string line] 9 (0, 0))) (hb1 : Below W0.heap.size W0 W1) (hGr : W0.heap.size ≤ Gr) (hrow : W1.heap[Gr]? = some (.cells (List.replicate line.size mone).toArray 3 (0, 0)))
  (hfi : f' i = some (.slice ao s.rs.length cp)) (hoff : Off A (W1.alloc (.cells #[.slice (some ⟨Gr, 0, none⟩) line.size line.size] 57)) W3) (hsub : ∀ k, A' k → A k ∨ (W1.alloc (.cells #[.slice (some ⟨Gr, 0, none⟩) line.size line.size] 57)).heap.size ≤ k) (hsup : ∀ k, A k → A' k) (hp3 : PainterIs W3 N A' g n cap G d f' F') :
  RLaid w N A A' g n cap G d f' F' i s line q Gr W1.heap.size W3.heap.size ao cp (W3.alloc (.cells #[.slice ao s.rs.length cp] 237)) := by
 have hA : ∀ k, A k → k < q := fun k hk => by rw [hq]; exact (h.old k hk).2
 have s1 := hb1.size
 have hGl := lt_of_get hrow
 have s3 := hoff.size
 rw [World.size_alloc] at s3
 have hW2 : ∀ (k : Nat) o, W1.heap[k]? = some o → (W1.alloc (.cells #[.slice (some ⟨Gr, 0, none⟩) line.size line.size] 57)).heap[k]? = some o := fun k o hk => heap_alloc_old hk
 have h3 : ∀ (k : Nat) o, q ≤ k → (W1.alloc (.cells #[.slice (some ⟨Gr, 0, none⟩) line.size line.size] 57)).heap[k]? = some o → (W3.alloc (.cells #[.slice ao s.rs.length cp] 237)).heap[k]? = some o := fun k o hk ho => heap_alloc_old (hoff.same ho (fun ha => by have := hA k ha; omega))
 have hbV : Below W3.heap.size W3 (W3.alloc (.cells #[.slice ao s.rs.length cp] 237)) := (Below.refl _ _).alloc (Nat.le_refl _) _
 refine ⟨hp3.below hbV, hfi, hs, fun k hk => ?_, fun k hk => ⟨hsup k hk, hA k hk⟩, by rw [hq]; exact h.size, hq, ⟨by omega, hGl, by omega, by simp⟩, h3 _ _ (by omega) (hW2 _ _ ((hb1.block _ (lt_of_get hl0)).trans hl0)), h3 _ _ (by omega) (hW2 _ _ hrow), h3 _ _ (by omega) (heap_alloc_last _ _), heap_alloc_last _ _, ?_⟩
 ·rcases hsub k hk with h1 | h1
  ·exact .inl h1
  ·rw [World.size_alloc] at h1
   exact .inr ⟨by omega, (hp3.old k hk).2⟩
 ·have b1 : Below w.heap.size w (W1.alloc (.cells #[.slice (some ⟨Gr, 0, none⟩) line.size line.size] 57)) := (hb0.trans (hb1.mono (by omega))).alloc (by omega) _
  exact ((Off.of_below b1).trans hoff).trans (Off.of_below hbV)
theorem two_put (B : World) (o1 o2 : Obj) (l : Nat) (r rb : Loop) (hl : B.heap[l]? = some (.loop r)) : ∃ B1, ((B.alloc o1).alloc o2).putObj l (.loop rb) = B1 ∧ Off (fun k => k = l) B B1 ∧ B1.heap.size = B.heap.size + 2 ∧ B1.heap[B.heap.size]? = some o1 ∧ B1.heap[B.heap.size + 1]? = some o2 ∧ B1.heap[l]? = some (.loop rb) := by
 have hlt := lt_of_get hl
 have h1 := heap_alloc_last B o1
 have h2 := heap_alloc_last (B.alloc o1) o2
 rw [World.size_alloc] at h2
 have hb : Below B.heap.size B ((B.alloc o1).alloc o2) := ((Below.refl _ _).alloc (Nat.le_refl _) _).alloc (by simp) _
 refine ⟨_, rfl, (Off.of_below hb).trans (Off.putObj _ (heap_alloc_old (heap_alloc_old hl)) rfl), by simp, (World.putObj_heap_other (by omega)).trans (heap_alloc_old h1), (World.putObj_heap_other (by omega)).trans h2, World.putObj_heap_same (by simp; omega)⟩
theorem laid3_facts (ρf : Rd) (sf : Nat) (ρb : Rd) (sb : Nat) (line : ByteArray) (f : Nat) (B1 : World) (o : Obj) : ∃ C1, (laid3 ρf sf ρb sb line f B1).alloc o = C1 ∧ Below B1.heap.size B1 C1 ∧ C1.heap.size = B1.heap.size + 4 ∧ C1.heap[B1.heap.size]? = some (fbox ρf sf ρb sb) ∧ C1.heap[B1.heap.size + 1]? = some (.cells #[.string line] 9 (0, 0)) ∧ C1.heap[B1.heap.size + 1 + 1]? = some (.cells #[.int .i64 f] 3 (0, 0)) ∧ C1.heap[B1.heap.size + 3]? = some o := by
 unfold laid3
 have h1 := heap_alloc_last B1 (fbox ρf sf ρb sb)
 have h2 := heap_alloc_last (B1.alloc (fbox ρf sf ρb sb)) (.cells #[.string line] 9)
 have h3 := heap_alloc_last ((B1.alloc (fbox ρf sf ρb sb)).alloc (.cells #[.string line] 9)) (.cells #[.int .i64 f] 3)
 have h4 := heap_alloc_last (((B1.alloc (fbox ρf sf ρb sb)).alloc (.cells #[.string line] 9)).alloc (.cells #[.int .i64 f] 3)) o
 simp only [World.size_alloc] at h2 h3 h4
 refine ⟨_, rfl, ((((Below.refl _ _).alloc (Nat.le_refl _) _).alloc (by simp) _).alloc (by simp; omega) _).alloc (by simp; omega) _, by simp, heap_alloc_old (heap_alloc_old (heap_alloc_old h1)), heap_alloc_old (heap_alloc_old h2), heap_alloc_old h3, h4⟩
theorem Off.then {Y Z : Nat → Prop} {a b c : World} (h : Off Y a b) (k : Off Z b c) (hz : ∀ x, x < a.heap.size → Z x → Y x) : Off Y a c :=
 ⟨k.os.trans h.os, k.tape.trans h.tape, k.output.trans h.output, Nat.le_trans h.size k.size, fun i hi => (k.keep i ⟨Nat.lt_of_lt_of_le hi.1 h.size, fun hz' => hi.2 (hz i hi.1 hz')⟩).trans (h.keep i hi), fun i x t ht hh => k.stay i x t ht (h.stay i x t ht hh)⟩
def innerY (Gr l2 : Nat) : Nat → Prop := fun k => k = Gr ∨ k = l2
structure RI (O : Nat → Prop) (rs : List GR) (line : ByteArray) (j Gr l2 : Nat) (rc : Loop) (C1 : World) (p : Nat) (W : World) : Prop where
 off : Off (fun k => O k ∨ innerY Gr l2 k) C1 W
 row : ∃ fr : List Int, W.heap[Gr]? = some (.cells (fr.map (Value.int .i64)).toArray 3 (0, 0)) ∧ RowMid rs line.data.toList j p line.size fr
 rcd : W.heap[l2]? = some (.loop rc)
theorem rules_inner {O : Nat → Prop} {rs : List GR} {r : GR} {line : ByteArray} {j Gr c : Nat} {x : FD} {C1 : World} {fr : List Int} (rc : LoopState → Option Code → Loop) (K : Ending → World → Prop) (hz : line.size ≤ 3000) (hr : rs[j]? = some r) (hxa : x.a = r.a) (hnn : r.a.re.nullable = false) (hF : FinderIs C1 x.O x.a x.ρf x.sf x.ρb x.sb) (hT : Tab C1) (hT0 : 1 < Gr) (hO : O = x.O)
  (hGr : Gr < c ∧ ¬ O Gr) (hOc : ∀ k, O k → k < c) (hsz : C1.heap.size = c + 4) (h1 : C1.heap[c]? = some (fbox x.ρf x.sf x.ρb x.sb)) (h2 : C1.heap[c + 1]? = some (.cells #[.string line] 9 (0, 0))) (h3 : C1.heap[c + 1 + 1]? = some (.cells #[.int .i64 (0 : Nat)] 3 (0, 0))) (h4 : C1.heap[c + 3]? = some (.loop (rc .ready none))) (hrow : C1.heap[Gr]? = some (.cells (fr.map (Value.int .i64)).toArray 3 (0, 0))) (hfr : RowDone rs line.data.toList (j + 1) line.size fr)
  (hround : ∀ p B, p < line.size → From r.a.re line.data.toList p → RI O rs line j Gr (c + 3) (rc .ready none) C1 (p + 1) B → YieldAt Fence.wide 5 Tryz.prog (c + 3) #[.int .i64 p] B fun e D => Off (innerY Gr (c + 3)) B D ∧ ((e = .returned (.bool true) ∧ RI O rs line j Gr (c + 3) (rc .ready none) C1 p D) ∨ (e = .returned (.bool false) ∧ False)))
  (hend : ∀ v W O', (∀ k, O' k → O k ∨ C1.heap.size ≤ k) → FinderIs W O' x.a x.ρf x.sf x.ρb x.sb → RI O rs line j Gr (c + 3) (rc .ready none) C1 0 W → K (.returned v) W) :
  CallsIn Fence.wide 6 Tryz.prog 182 #[.func (.yield (c + 3)) #[] #[], .pointer (some ⟨c, 0, none⟩), .pointer (some ⟨c + 1, 0, none⟩), .pointer (some ⟨c + 1 + 1, 0, none⟩)] C1 K := by
 subst hO
 have hnO : ∀ k, c ≤ k → ¬ x.O k := fun k hk ho => by have := hOc k ho; omega
 refine (starts_iter 6 x.O (innerY Gr (c + 3)) x.a x.ρf x.sf x.ρb x.sb line 0 (c + 3) c (c + 1) (c + 1 + 1) (fun p W => RI x.O rs line j Gr (c + 3) (rc .ready none) C1 p W) (fun _ _ => False) C1 hF ⟨h1, h2, h3, hT⟩ (Nat.zero_le _) (by unfold maxLen; omega) ?_ ?_ ⟨hnO _ (by omega), by rintro (h | h) <;> omega⟩ ⟨hnO _ (by omega), by rintro (h | h) <;> omega⟩ ⟨hnO _ (by omega), by rintro (h | h) <;> omega⟩ ?_ ?_ ?_ ?_ ?_).mono ?_
 ·rintro k (rfl | rfl)
  ·exact hGr.2
  ·exact hnO _ (by omega)
 ·rintro k (rfl | rfl) <;> omega
 ·rintro (h | h) <;> omega
 ·rintro p B D hj hoff
  obtain ⟨fr', f1, f2⟩ := hj.row
  refine ⟨hj.off.then hoff (fun k hk1 hk => hk.elim .inl fun h => absurd h (by omega)), ⟨fr', hoff.same f1 ?_, f2⟩, hoff.same hj.rcd ?_⟩
  ·exact fun h => h.elim hGr.2 (fun h => by omega)
  ·exact fun h => h.elim (hnO _ (by omega)) (fun h => by omega)
 ·rintro p B _ hp hn hj
  obtain ⟨fr', f1, f2⟩ := hj.row
  exact ⟨hj.off, ⟨fr', f1, f2.skip hr (by rw [← hxa]; exact hn)⟩, hj.rcd⟩
 ·rintro p B _ hp hf hj
  rw [hxa] at hf
  exact hround p B (by have := from_lt hnn hf; rwa [text_length] at this) hf hj
 ·exact ⟨Off.refl _ _, ⟨fr, hrow, hfr.mid _ (by omega)⟩, h4⟩
 ·rintro e W ⟨⟨v, rfl⟩, ⟨O', hO', hF'⟩, hJ | ⟨_, hJ⟩⟩
  ·exact hend v W O' hO' hF' hJ
  ·exact hJ.elim
theorem rules_inner' {rs : List GR} {r : GR} {line : ByteArray} {j Gr c : Nat} {x : FD} {B1 V2 : World} {fr : List Int} (rc : LoopState → Option Code → Loop) (K : Ending → World → Prop) (hz : line.size ≤ 3000) (hr : rs[j]? = some r) (hxa : x.a = r.a) (hnn : r.a.re.nullable = false) (hF : FinderIs B1 x.O x.a x.ρf x.sf x.ρb x.sb) (hT : Tab B1) (hT0 : 1 < Gr)
  (hGr : Gr < c ∧ ¬ x.O Gr) (hc : B1.heap.size = c) (hV2 : V2 = laid3 x.ρf x.sf x.ρb x.sb line 0 B1) (hrow : B1.heap[Gr]? = some (.cells (fr.map (Value.int .i64)).toArray 3 (0, 0))) (hfr : RowDone rs line.data.toList (j + 1) line.size fr)
  (hround : ∀ p B, p < line.size → From r.a.re line.data.toList p → RI x.O rs line j Gr (c + 3) (rc .ready none) (V2.alloc (.loop (rc .ready none))) (p + 1) B → YieldAt Fence.wide 5 Tryz.prog (c + 3) #[.int .i64 p] B fun e D => Off (innerY Gr (c + 3)) B D ∧ ((e = .returned (.bool true) ∧ RI x.O rs line j Gr (c + 3) (rc .ready none) (V2.alloc (.loop (rc .ready none))) p D) ∨ (e = .returned (.bool false) ∧ False)))
  (hend : ∀ v W O', (∀ k, O' k → x.O k ∨ c + 4 ≤ k) → FinderIs W O' x.a x.ρf x.sf x.ρb x.sb → RI x.O rs line j Gr (c + 3) (rc .ready none) (V2.alloc (.loop (rc .ready none))) 0 W → K (.returned v) W) :
  CallsIn Fence.wide 6 Tryz.prog 182 #[.func (.yield (c + 3)) #[] #[], .pointer (some ⟨c, 0, none⟩), .pointer (some ⟨c + 1, 0, none⟩), .pointer (some ⟨c + 1 + 1, 0, none⟩)] (V2.alloc (.loop (rc .ready none))) K := by
 obtain ⟨C1, hC1, hb, hs, h1, h2, h3, h4⟩ := laid3_facts x.ρf x.sf x.ρb x.sb line 0 B1 (.loop (rc .ready none))
 rw [← hV2] at hC1
 rw [hC1] at hround hend ⊢
 rw [hc] at hs h1 h2 h3 h4
 have hlt := hF.tab0
 exact rules_inner rc K hz hr hxa hnn (hF.below hb) (hT.keep (hb.block _ hlt)) hT0 rfl hGr (fun k hk => by rw [← hc]; exact hF.old k hk) hs h1 h2 h3 h4 ((hb.block _ (lt_of_get hrow)).trans hrow) hfr hround (fun v W O' hO' => hend v W O' (fun k hk => (hO' k hk).imp id fun h => by omega))
theorem laid3_below (ρf : Rd) (sf : Nat) (ρb : Rd) (sb : Nat) (line : ByteArray) (f : Nat) (B1 : World) (o : Obj) : Below B1.heap.size B1 ((laid3 ρf sf ρb sb line f B1).alloc o) := by
 unfold laid3
 exact ((((Below.refl _ _).alloc (Nat.le_refl _) _).alloc (by simp) _).alloc (by simp; omega) _).alloc (by simp; omega) _
theorem laid3_size (ρf : Rd) (sf : Nat) (ρb : Rd) (sb : Nat) (line : ByteArray) (f : Nat) (B1 : World) : (laid3 ρf sf ρb sb line f B1).heap.size = B1.heap.size + 3 := by unfold laid3; simp
theorem rules_round {O : Nat → Prop} {rs : List GR} {r : GR} {line : ByteArray} {j Gr l2 : Nat} {rc rb : Loop} {C1 B : World} {p : Nat} (h : RI O rs line j Gr l2 rc C1 (p + 1) B) (hne : Gr ≠ l2) (hp : p < line.size) (hr : rs[j]? = some r) (hf : From r.a.re line.data.toList p) :
  ∃ z : Int, (B.putObj l2 (.loop rb)).cell? ⟨Gr, p, none⟩ = some (.int .i64 z) ∧ (B.putObj l2 (.loop rb)).frozen? ⟨Gr, p, none⟩ = false ∧
   ∀ D, D = (B.putObj l2 (.loop rb)).setCell ⟨Gr, p, none⟩ (.int .i64 j) → D.heap[l2]? = some (.loop rb) ∧ Off (innerY Gr l2) B (D.putObj l2 (.loop rc)) ∧ RI O rs line j Gr l2 rc C1 p (D.putObj l2 (.loop rc)) := by
 obtain ⟨fr, h1, h2⟩ := h.row
 have hl := lt_of_get h.rcd
 obtain ⟨z, hz⟩ : ∃ z, fr[p]? = some z := ⟨_, List.getElem?_eq_getElem (by rw [h2.1]; exact hp)⟩
 have p1 : (B.putObj l2 (.loop rb)).heap[Gr]? = some (.cells (fr.map (Value.int .i64)).toArray 3 (0, 0)) := (World.putObj_heap_other hne).trans h1
 have pl : (B.putObj l2 (.loop rb)).heap[l2]? = some (.loop rb) := World.putObj_heap_same hl
 refine ⟨z, by simp [World.cell?, p1, hz], by simp [World.frozen?, p1], ?_⟩
 rintro D rfl
 have q1 := heap_setCell_same _ Gr p (.int .i64 j) p1
 have ql : ((B.putObj l2 (.loop rb)).setCell ⟨Gr, p, none⟩ (.int .i64 j)).heap[l2]? = some (.loop rb) := (Below.heap_setCell _ _ _ _ (by exact hne.symm)).trans pl
 have hoff : Off (innerY Gr l2) B (((B.putObj l2 (.loop rb)).setCell ⟨Gr, p, none⟩ (.int .i64 j)).putObj l2 (.loop rc)) :=
  ((Off.putObj _ h.rcd (.inr rfl)).trans (Off.setCell (p := ⟨Gr, p, none⟩) (.inl rfl) p1 (by decide) _)).trans (Off.putObj _ ql (.inr rfl))
 refine ⟨ql, hoff, h.off.trans (hoff.sub fun k _ hk => .inr hk), ⟨fr.set p (j : Int), ?_, h2.hit hr hf⟩, World.putObj_heap_same (lt_of_get ql)⟩
 refine (World.putObj_heap_other hne).trans (q1.trans ?_)
 simp [List.map_set]
theorem rules_after {w : World} {N : Nat} {A A' A1 : Nat → Prop} {g n cap : Nat} {G : List GS} {d : PD} {f' : Nat → Option Value} {F' F1 : Nat → List FD} {i : Nat} {s : GS} {line : ByteArray} {q Gr bF bs : Nat} {ao : Option Addr} {cp : Nat} {V B B1 C1 W : World} {rcO rbO rc2 : Loop} {j qb : Nat} {x1 : FD} {O' : Nat → Prop} (hV : RLaid w N A A' g n cap G d f' F' i s line q Gr bF bs ao cp V) (hJ : RJ w N A A' g n cap G d f' F' i s line q Gr bF bs ao cp rcO (j + 1) B) (hp1 : PainterIs B N A1 g n cap G d f' F1) (hA1 : ∀ k, A1 k → A' k ∨ bs + 3 ≤ k) (hA1' : ∀ k, A' k → A1 k) (hcs : (F1 i).map FD.cells = (F' i).map FD.cells) (hx1 : (F1 i)[j]? = some x1)
  (hqb : qb = B.heap.size) (hoff1 : Off (fun k => k = bs + 1 + 1) B B1) (hl1 : B1.heap[bs + 1 + 1]? = some (.loop rbO)) (hs1 : B1.heap.size = qb + 2) (hbC : Below B1.heap.size B1 C1) (hsC : C1.heap.size = qb + 2 + 4) (hj : RI x1.O s.rs line j Gr (qb + 2 + 3) rc2 C1 0 W) (hO' : ∀ k, O' k → x1.O k ∨ qb + 2 + 4 ≤ k) (hF : FinderIs W O' x1.a x1.ρf x1.sf x1.ρb x1.sb) (ro : Loop) :
  (W.putObj (qb + 2 + 3) (.loop ro)).heap[bs + 1 + 1]? = some (.loop rbO) ∧ RJ w N A A' g n cap G d f' F' i s line q Gr bF bs ao cp rcO j ((W.putObj (qb + 2 + 3) (.loop ro)).putObj (bs + 1 + 1) (.loop rcO)) := by
 have hord := hV.ord
 have hA'q : ∀ k, A' k → k < q ∨ (bF < k ∧ k < bs) := fun k hk => (hV.sub k hk).imp (fun h => (hV.sup k h).2) id
 have hxm := List.mem_of_getElem? hx1
 have hxA : ∀ k, x1.O k → A1 k := fun k hk => (hp1.own i _ hV.fi x1 hxm k hk).1
 have hxq : ∀ k, q ≤ k → k ≤ bF → ¬ x1.O k := fun k h1 h2 hk => by
  rcases hA1 k (hxA k hk) with h3 | h3
  ·rcases hA'q k h3 with h4 | h4 <;> omega
  ·omega
 have hxb : ∀ k, bs ≤ k → k < bs + 3 → ¬ x1.O k := fun k h1 h2 hk => by
  rcases hA1 k (hxA k hk) with h3 | h3
  ·rcases hA'q k h3 with h4 | h4 <;> omega
  ·omega
 have hBsz : bs + 1 + 1 < B.heap.size := lt_of_get hJ.rcd
 have hoffW : Off (fun k => x1.O k ∨ innerY Gr (qb + 2 + 3) k) C1 W := hj.off
 have hkeep : ∀ (k : Nat) o, B1.heap[k]? = some o → ¬ x1.O k → k ≠ Gr → W.heap[k]? = some o := fun k o hk h1 h2 => by
  have hlt := lt_of_get hk
  refine hoffW.same ((hbC.block k hlt).trans hk) ?_
  rintro (h3 | h3 | h3)
  ·exact h1 h3
  ·exact h2 h3
  ·omega
 have hkeepB : ∀ (k : Nat) o, B.heap[k]? = some o → ¬ x1.O k → k ≠ Gr → k ≠ bs + 1 + 1 → W.heap[k]? = some o := fun k o hk h1 h2 h3 => hkeep k o (hoff1.same hk h3) h1 h2
 have hlW := hkeep _ _ hl1 (hxb _ (by omega) (by omega)) (by omega)
 have o1W : Off (fun k => k = qb + 2 + 3) W (W.putObj (qb + 2 + 3) (.loop ro)) := Off.putObj _ hj.rcd rfl
 have hl2 := o1W.same hlW (by omega)
 have o2W : Off (fun k => k = bs + 1 + 1) (W.putObj (qb + 2 + 3) (.loop ro)) ((W.putObj (qb + 2 + 3) (.loop ro)).putObj (bs + 1 + 1) (.loop rcO)) := Off.putObj _ hl2 rfl
 refine ⟨hl2, ?_⟩
 have hfin : ∀ (k : Nat) o, W.heap[k]? = some o → k ≠ qb + 2 + 3 → k ≠ bs + 1 + 1 → ((W.putObj (qb + 2 + 3) (.loop ro)).putObj (bs + 1 + 1) (.loop rcO)).heap[k]? = some o := fun k o hk h1 h2 => o2W.same (o1W.same hk h1) h2
 have hzl : ∀ k, k = bs + 1 + 1 → N ≤ k ∧ ¬ A1 k := fun k hk => ⟨by have := hV.hN; omega, fun ha => by
  rcases hA1 k ha with h3 | h3
  ·rcases hA'q k h3 with h4 | h4 <;> omega
  ·omega⟩
 have hpC : PainterIs C1 N A1 g n cap G d f' F1 := (hp1.off hoff1 hzl).below hbC
 have hA1lt : ∀ k, A1 k → k < qb := fun k hk => by rw [hqb]; exact (hp1.old k hk).2
 have hZ : ∀ k, innerY Gr (qb + 2 + 3) k → N ≤ k ∧ ¬ A1 k := fun k hk => by
  have hN := hV.hN
  rcases hk with rfl | rfl
  ·refine ⟨by omega, fun ha => ?_⟩
   rcases hA1 _ ha with h3 | h3
   ·rcases hA'q _ h3 with h4 | h4 <;> omega
   ·omega
  ·exact ⟨by omega, fun ha => by have := hA1lt _ ha; omega⟩
 have hpW := hpC.use hV.fi hx1 hoffW hZ (fun k hk => by rw [hsC]; exact hO' k hk) hF
 have hpF := (hpW.off o1W (fun k hk => ⟨by have := hV.hN; omega, fun ha => by
  subst hk
  rcases ha with h3 | h3
  ·have := hA1lt _ h3; omega
  ·rcases hO' _ h3 with h4 | h4
   ·have := hA1lt _ (hxA _ h4); omega
   ·omega⟩)).off o2W (fun k hk => ⟨(hzl k hk).1, fun ha => by
  rcases ha with h3 | h3
  ·exact (hzl k hk).2 h3
  ·rcases hO' _ h3 with h4 | h4
   ·exact (hzl k hk).2 (hxA _ h4)
   ·omega⟩)
 obtain ⟨fr, f1, f2⟩ := hj.row
 refine ⟨⟨_, _, hpF, fun k hk => ?_, fun k hk => .inl (hA1' k hk), ?_⟩, ⟨fr, hfin _ _ f1 (by have := lt_of_get hJ.bsx; omega) (by omega), f2.done⟩, hfin _ _ (hkeepB _ _ hJ.linex (hxq _ (by omega) (by omega)) (by omega) (by omega)) (by omega) (by omega), hfin _ _ (hkeepB _ _ hJ.firstx (hxq _ (by omega) (by omega)) (by omega) (by omega)) (by omega) (by omega), hfin _ _ (hkeepB _ _ hJ.bsx (hxb _ (by omega) (by omega)) (by omega) (by omega)) (by omega) (by omega), hfin _ _ (hkeepB _ _ hJ.dfr (hxb _ (by omega) (by omega)) (by omega) (by omega)) (by omega) (by omega), World.putObj_heap_same (lt_of_get hl2), ?_⟩
 ·rcases hk with h3 | h3
  ·exact hA1 k h3
  ·rcases hO' k h3 with h4 | h4
   ·exact hA1 k (hxA k h4)
   ·exact .inr (by omega)
 ·simp only [if_true]
  rw [← hcs, List.map_set]
  refine List.ext_getElem? fun y => ?_
  rw [List.getElem?_set]
  split
  ·rename_i e
   subst e
   have := get_lt hx1
   rw [if_pos (by simpa using this), List.getElem?_map, hx1]; rfl
  ·rfl
 ·have hqs := hV.hq
  refine (((hJ.off.then hoff1 (fun k hk e => by omega)).trans (Off.of_below hbC)).then hoffW (fun k hk e => ?_)).then (o1W) (fun k hk e => by omega) |>.then o2W (fun k hk e => by omega)
  rcases e with h3 | h3 | h3
  ·rcases hA1 k (hxA k h3) with h4 | h4
   ·rcases hV.sub k h4 with h5 | h5
    ·exact h5
    ·omega
   ·omega
  ·omega
  ·omega
theorem rules_end {w : World} {N : Nat} {A A' : Nat → Prop} {g n cap : Nat} {G : List GS} {d : PD} {f' : Nat → Option Value} {F' : Nat → List FD} {i : Nat} {s : GS} {line : ByteArray} {q Gr bF bs : Nat} {ao : Option Addr} {cp : Nat} {V W : World} {rc : Loop} (hV : RLaid w N A A' g n cap G d f' F' i s line q Gr bF bs ao cp V) (hJ : RJ w N A A' g n cap G d f' F' i s line q Gr bF bs ao cp rc 0 W) (ro : Loop) :
  ∃ W1, W.putObj (bs + 1 + 1) (.loop ro) = W1 ∧ W1.cell? ⟨bF, 0, none⟩ = some (.slice (some ⟨Gr, 0, none⟩) line.size line.size) ∧ W1.heap[bs + 1]? = some (.deferred (some [])) ∧ RulesPost N A g n cap G d s line.data.toList w (.returned (.slice (some ⟨Gr, 0, none⟩) line.size line.size)) (W1.putObj (bs + 1) (.deferred none)) := by
 have hord := hV.ord
 have hqs := hV.hq
 have hN := hV.hN
 obtain ⟨A1, F1, hp, hA1, hA1', _⟩ := hJ.painter
 have hA'q : ∀ k, A' k → k < q ∨ (bF < k ∧ k < bs) := fun k hk => (hV.sub k hk).imp (fun h => (hV.sup k h).2) id
 have hAn : ∀ k, (q ≤ k ∧ k ≤ bF) ∨ (bs ≤ k ∧ k < bs + 3) → ¬ A1 k := fun k h ha => by
  rcases hA1 k ha with h3 | h3
  ·rcases hA'q k h3 with h4 | h4 <;> omega
  ·omega
 have o1 : Off (fun k => k = bs + 1 + 1) W (W.putObj (bs + 1 + 1) (.loop ro)) := Off.putObj _ hJ.rcd rfl
 have hd := o1.same hJ.dfr (by omega)
 have o2 : Off (fun k => k = bs + 1) (W.putObj (bs + 1 + 1) (.loop ro)) ((W.putObj (bs + 1 + 1) (.loop ro)).putObj (bs + 1) (.deferred none)) := Off.putObj' _ hd (fun _ _ _ h => by cases h) rfl
 have hfx := o1.same hJ.firstx (by omega)
 obtain ⟨fr, f1, f2⟩ := hJ.row
 refine ⟨_, rfl, by simp [World.cell?, hfx], hd, Gr, fr, A1, f', F1, by rw [text_length], by omega, o2.same (o1.same f1 (by omega)) (by omega), hAn _ (.inl (by omega)), by rw [text_length]; exact f2, (hJ.off.then o1 (fun k hk e => by omega)).then o2 (fun k hk e => by omega), fun k hk => ?_, fun k hk => hA1' k (hV.sup k hk).1, (hp.off o1 (fun k hk => ⟨by omega, hAn k (.inr (by omega))⟩)).off o2 (fun k hk => ⟨by omega, hAn k (.inr (by omega))⟩)⟩
 rcases hA1 k hk with h3 | h3
 ·rcases hV.sub k h3 with h4 | h4
  ·exact .inl h4
  ·exact .inr (by omega)
 ·exact .inr (by omega)
set_option maxRecDepth 20000 in
set_option maxHeartbeats 4000000 in
theorem rulesAt_any (N : Nat) (A : Nat → Prop) (g n cap : Nat) (G : List GS) (d : PD) (f : Nat → Option Value) (F : Nat → List FD) (i : Nat) (s : GS) (line : ByteArray) (w : World) (h : PainterIs w N A g n cap G d f F) (hs : G[i]? = some s) (hl : 1 ≤ line.size) (hz : line.size ≤ 3000) :
  Calls Tryz.prog 125 #[pv g n cap d, .string line, .int .i64 i] w (RulesPost N A g n cap G d s line.data.toList w) := by
 refine (callsIn_wide (n := 9)).1 (callsIn_of_wp_marks Tryz.func125 rfl trivial (wpIn_wide.2 ?_))
 simp only [Tryz.ntmps125, List.size_toArray, List.length_cons, List.length_nil, Nat.reduceAdd, Nat.reduceSub, Array.replicate_succ, Array.replicate_zero, List.push_toArray, List.append_toArray, List.nil_append, List.cons_append]
 obtain ⟨q, hq⟩ : ∃ q, q = w.heap.size := ⟨_, rfl⟩
 obtain ⟨W0, hW0⟩ : ∃ W0, ((w.alloc (.cells #[.slice (some ⟨g, 0, none⟩) n cap, pfn d] 171)).alloc (.cells #[.string line] 9)).alloc (.cells #[.int .i64 (-1)] 3) = W0 := ⟨_, rfl⟩
 have hb0 : Below w.heap.size w W0 := by rw [← hW0]; exact below3 _ _ _ _
 have hs0 : W0.heap.size = q + 3 := by rw [← hW0, hq]; simp
 have HW0 := hide (show W0.heap[q]? = some (.cells #[.slice (some ⟨g, 0, none⟩) n cap, pfn d] 171 (0, 0)) ∧ W0.heap[q + 1]? = some (.cells #[.string line] 9 (0, 0)) ∧ W0.heap[q + 1 + 1]? = some (.cells #[mone] 3 (0, 0)) from by
  rw [← hW0, hq]
  have h1 := heap_alloc_last w (.cells #[.slice (some ⟨g, 0, none⟩) n cap, pfn d] 171)
  have h2 := heap_alloc_last (w.alloc (.cells #[.slice (some ⟨g, 0, none⟩) n cap, pfn d] 171)) (.cells #[.string line] 9)
  have h3 := heap_alloc_last ((w.alloc (.cells #[.slice (some ⟨g, 0, none⟩) n cap, pfn d] 171)).alloc (.cells #[.string line] 9)) (.cells #[.int .i64 (-1)] 3)
  simp only [World.size_alloc] at h2 h3
  exact ⟨heap_alloc_old (heap_alloc_old h1), heap_alloc_old h2, h3⟩)
 have HB0 := hide hb0
 have HP := hide h
 have HRP := hide (repeat_any (q + 1 + 1) line.size (by omega) hl W0 HW0.out.2.2)
 have l0 : W0.cell? ⟨w.heap.size + 1, 0, none⟩ = some (.string line) := by have h1 := HW0.out.2.1; rw [hq] at h1; simp [World.cell?, h1]
 unfold pfn at hW0
 unfold pv pfn
 clear hb0 h
 go_wp2_with fail
 rw [← hq]
 have HQ := hide hq
 clear hW0 hq
 refine HRP.out.mono ?_
 rintro e1 W1 ⟨Gr, rfl, hGr, hrow, hb1⟩
 have HB1 := hide hb1
 have HROW := hide hrow
 have HGR := hide hGr
 clear hrow hGr HRP
 have p0 : W1.cell? ⟨q, 0, none⟩ = some (.slice (some ⟨g, 0, none⟩) n cap) := by have h1 := (hb1.block _ (lt_of_get HW0.out.1)).trans HW0.out.1; simp [World.cell?, h1]
 have p1 : W1.cell? ⟨q, 1, none⟩ = some (pfn d) := by have h1 := (hb1.block _ (lt_of_get HW0.out.1)).trans HW0.out.1; simp [World.cell?, h1]
 have p2 := cell_alloc_old p0
 have p3 := cell_alloc_old p1
 unfold pfn at p1 p3
 clear hb1
 have HPW1 := hide (HP.out.below (HB0.out.trans (HB1.out.mono HB0.out.size)))
 have HPF := hide (pfind_any N A g n cap G d f F i s (W1.alloc (.cells #[.slice (some ⟨Gr, 0, none⟩) line.size line.size] 57)) (HPW1.out.below ((Below.refl _ _).alloc (Nat.le_refl _) _)) hs)
 go_wp2_with fail
 refine HPF.out.mono ?_
 rintro e3 W3 ⟨ao, cp, A', f', F', rfl, hfi, hoff3, hsub, hsup, hp3⟩
 have HLAID := hide (rules_laid HP.out hs HQ.out hs0 HB0.out HW0.out.2.1 HB1.out HGR.out HROW.out hfi hoff3 hsub hsup hp3)
 obtain ⟨bF, hbF⟩ : ∃ bF, bF = W1.heap.size := ⟨_, rfl⟩
 obtain ⟨bs, hbs⟩ : ∃ bs, bs = W3.heap.size := ⟨_, rfl⟩
 rw [← hbF, ← hbs] at HLAID
 have HBF := hide (backward_fn (.slice ao s.rs.length cp) ⟨_, _, _, rfl⟩ W3)
 rw [← hbs] at HBF
 clear hfi hoff3 hsub hsup hp3 HPF HPW1 hbs
 go_wp2_with fail
 refine HBF.out.mono ?_
 rintro e4 V' ⟨rfl, hV'⟩
 rw [← hV'] at HLAID
 rw [← hbF]
 clear hV' hbF HBF HW0 HB0 HP HB1 HROW HGR p0 p1 p2 p3 l0 hs0
 go_wp2_with fail
 refine (wpIn_wide (n := 9)).1 (range_outer rfl (by decide) (gf := 187) (lb := #[.pointer (some ⟨bs, 0, none⟩)]) rfl trivial (enters_of Tryz.func187 (by kernel_rfl) rfl) ?_)
 intro fn hfn
 rw [HLAID.out.ord.2.2.2]
 refine rules_loop HLAID.out (recd fn _ _ _ _ _) _ ?_ ?_
 ·intro j x B hx hj
  have HJ := hide hj
  refine round_recd trivial hj.rcd rfl ?_
  intro rb rc hrc
  rw [← hrc] at HJ ⊢
  clear hj hrc
  obtain ⟨A1, F1, hp1, hA1, hA1', hcs⟩ := HJ.out.painter
  obtain ⟨x1, hx1, hxc⟩ : ∃ x1, (F1 i)[j]? = some x1 ∧ x1.cells = x.cells := by
   have h1 := congrArg (fun l => l[j]?) hcs
   simp only [List.getElem?_map, hx] at h1
   cases h2 : (F1 i)[j]? with
   | none => rw [h2] at h1; cases h1
   | some y => rw [h2] at h1; exact ⟨y, rfl, by simpa using h1⟩
  rw [fdv_cells x, ← hxc, ← fdv_cells x1]
  have HP1 := hide hp1
  have HA1 := hide hA1
  have HA1' := hide hA1'
  have HCS := hide hcs
  have HX1 := hide hx1
  clear hp1 hA1 hA1' hcs hx1 hxc
  unfold fdv fnv
  gi_wp2_with fail
  refine ⟨heap_alloc_old (heap_alloc_old HJ.out.rcd), ?_⟩
  obtain ⟨B1, hB1, hoff1, hsz1, hru, hfi, hl1⟩ := two_put B (.cells #[.int .i64 j] 3) (.cells #[.int .u64 x1.sf, .func (.func 179) #[] #[.pointer (some ⟨x1.ρf.av, 0, none⟩)], .func (.func 181) #[] #[.pointer (some ⟨x1.ρf.ev, 0, none⟩)], .int .u64 x1.sb, .func (.func 179) #[] #[.pointer (some ⟨x1.ρb.av, 0, none⟩)], .func (.func 181) #[] #[.pointer (some ⟨x1.ρb.ev, 0, none⟩)]] 194) (bs + 1 + 1) _ rb HJ.out.rcd
  rw [hB1]
  obtain ⟨qb, hqb⟩ : ∃ qb, qb = B.heap.size := ⟨_, rfl⟩
  rw [← hqb] at hsz1 hru hfi ⊢
  have hq1 : q + 1 ≠ bs + 1 + 1 := by have := HLAID.out.ord; omega
  have hln := hoff1.same HJ.out.linex hq1
  have t0 : B1.cell? ⟨q + 1, 0, none⟩ = some (.string line) := by simp [World.cell?, hln]
  have t1 : B1.cell? ⟨qb + 1, 0, none⟩ = some (.int .u64 x1.sf) := by simp [World.cell?, hfi]
  have t2 : B1.cell? ⟨qb + 1, 1, none⟩ = some (.func (.func 179) #[] #[.pointer (some ⟨x1.ρf.av, 0, none⟩)]) := by simp [World.cell?, hfi]
  have t3 : B1.cell? ⟨qb + 1, 2, none⟩ = some (.func (.func 181) #[] #[.pointer (some ⟨x1.ρf.ev, 0, none⟩)]) := by simp [World.cell?, hfi]
  have t4 : B1.cell? ⟨qb + 1, 3, none⟩ = some (.int .u64 x1.sb) := by simp [World.cell?, hfi]
  have t5 : B1.cell? ⟨qb + 1, 4, none⟩ = some (.func (.func 179) #[] #[.pointer (some ⟨x1.ρb.av, 0, none⟩)]) := by simp [World.cell?, hfi]
  have t6 : B1.cell? ⟨qb + 1, 5, none⟩ = some (.func (.func 181) #[] #[.pointer (some ⟨x1.ρb.ev, 0, none⟩)]) := by simp [World.cell?, hfi]
  have HST := hide (starts_fn x1.ρf x1.sf x1.ρb x1.sb line 0 B1)
  unfold fnv at HST
  have HOFF1 := hide hoff1
  have HRU := hide hru
  have HL1 := hide hl1
  have HQB := hide hqb
  clear hB1 hoff1 hru hfi hl1 hqb hln
  gi_wp2_with fail
  refine ⟨trivial, (CallsIn.inRound (bs + 1 + 1) (callsIn_wide.2 HST.out)).mono ?_⟩
  rintro e V2 ⟨rfl, hV2⟩
  unfold seqv
  have hlx : V2.heap[bs + 1 + 1]? = some (.loop rb) := by rw [hV2]; exact heap_alloc_old (heap_alloc_old (heap_alloc_old HL1.out))
  have HLX := hide hlx
  have HV2 := hide hV2
  clear HST hlx hV2
  gi_wp2_with fail
  refine range_inner (l₀ := bs + 1 + 1) (r₀ := rb) rfl HLX.out (by decide) (gf := 182) (lb := #[.pointer (some ⟨qb + 2, 0, none⟩), .pointer (some ⟨qb + 2 + 1, 0, none⟩), .pointer (some ⟨qb + 2 + 1 + 1, 0, none⟩)]) rfl trivial (enters_of Tryz.func182 (by kernel_rfl) rfl) ?_
  intro fn2 hfn2
  have hv2s : V2.heap.size = qb + 2 + 3 := by rw [HV2.out, laid3_size, hsz1]
  rw [hv2s]
  obtain ⟨r, hr, hxa, hnn⟩ : ∃ r, s.rs[j]? = some r ∧ x1.a = r.a ∧ r.a.re.nullable = false := by
   obtain ⟨s2, ao2, cp2, a1, a2, a3, a4, a5⟩ := HP1.out.fin i _ HLAID.out.fi
   rw [HLAID.out.gi] at a2
   cases a2
   have h1 := congrArg (fun l => l[j]?) a3
   simp only [List.getElem?_map, HX1.out] at h1
   cases h2 : s.rs[j]? with
   | none => rw [h2] at h1; cases h1
   | some r =>
    rw [h2] at h1
    obtain ⟨_, _, vv, _, ⟨ao3, cp3, _, hru3⟩⟩ := (HP1.out.gram B (Below.refl _ _)).at_ i s HLAID.out.gi
    obtain ⟨rg, lg, ln, lc, _, hrr⟩ := hru3 j r h2
    obtain ⟨ns, _, _, _, _, _, _, _, _, hn⟩ := hrr.pat
    exact ⟨r, rfl, by simpa using h1, hn⟩
  obtain ⟨fr, hfr1, hfr2⟩ := HJ.out.row
  have hGB : Gr ≠ bs + 1 + 1 := by have := HLAID.out.ord; omega
  refine CallsIn.inRound (bs + 1 + 1) (rules_inner' (fr := fr) (recd fn2 _ _ _ _ _) _ hz hr hxa hnn ?_ ?_ ?_ ?_ hsz1 HV2.out (HOFF1.out.same hfr1 hGB) hfr2 ?_ ?_)
  ·refine (((HP1.out.fin i _ HLAID.out.fi).choose_spec.choose_spec.choose_spec.2.2.2.1.each x1 (List.mem_of_getElem? HX1.out)).1).off HOFF1.out (fun k hk e => ?_)
   subst e
   rcases HA1.out _ (HP1.out.own i _ HLAID.out.fi x1 (List.mem_of_getElem? HX1.out) _ hk).1 with h3 | h3
   ·rcases HLAID.out.sub _ h3 with h4 | h4
    ·have := (HLAID.out.sup _ h4).2; have := HLAID.out.ord; omega
    ·omega
   ·omega
  ·exact HP1.out.tab.2.keep (HOFF1.out.keep _ ⟨Nat.lt_of_lt_of_le HP1.out.tab.1 HP1.out.size, by have := HP1.out.tab.1; have := HLAID.out.hN; have := HLAID.out.ord; omega⟩)
  ·have := HP1.out.tab.1; have := HLAID.out.hN; have := HLAID.out.ord; omega
  ·refine ⟨by have := lt_of_get hfr1; have := HQB.out; omega, fun hk => ?_⟩
   rcases HA1.out _ (HP1.out.own i _ HLAID.out.fi x1 (List.mem_of_getElem? HX1.out) _ hk).1 with h3 | h3
   ·rcases HLAID.out.sub _ h3 with h4 | h4
    ·have := (HLAID.out.sup _ h4).2; have := HLAID.out.ord; omega
    ·have := HLAID.out.ord; omega
   ·have := HLAID.out.ord; omega
  ·intro p B2 hp hfrom hj2
   have HJ2 := hide hj2
   refine round_recd trivial hj2.rcd rfl ?_
   intro rb2 rc2 hrc2
   rw [← hrc2] at HJ2 ⊢
   clear hj2 hrc2
   gi_wp2_with fail
   refine ⟨HJ2.out.rcd, ?_⟩
   have hGl : Gr ≠ qb + 2 + 3 := by have := lt_of_get hfr1; have := HQB.out; omega
   obtain ⟨z, cz, fz, hD⟩ := rules_round (rb := rb2) HJ2.out hGl hp hr hfrom
   have HD := hide (hD _ rfl)
   have hk2 : ∀ (k : Nat) o, B1.heap[k]? = some o → ¬ x1.O k → k ≠ Gr → (B2.putObj (qb + 2 + 3) (.loop rb2)).heap[k]? = some o := fun k o hk h1 h2 => by
    have hlt := lt_of_get hk
    have hV3 : V2.heap[k]? = some o := by rw [HV2.out]; exact heap_alloc_old (heap_alloc_old (heap_alloc_old hk))
    refine (World.putObj_heap_other (by omega)).trans (HJ2.out.off.same (heap_alloc_old hV3) ?_)
    rintro (h3 | h3 | h3)
    ·exact h1 h3
    ·exact h2 h3
    ·omega
   have u1 : (B2.putObj (qb + 2 + 3) (.loop rb2)).cell? ⟨bF, 0, none⟩ = some (.slice (some ⟨Gr, 0, none⟩) line.size line.size) := by
    have h9 := hk2 bF _ (HOFF1.out.same HJ.out.firstx (by have := HLAID.out.ord; omega)) ?_ (by have := HLAID.out.ord; omega)
    ·simp [World.cell?, h9]
    ·intro hk
     rcases HA1.out _ (HP1.out.own i _ HLAID.out.fi x1 (List.mem_of_getElem? HX1.out) _ hk).1 with h3 | h3
     ·rcases HLAID.out.sub _ h3 with h4 | h4
      ·have := (HLAID.out.sup _ h4).2; have := HLAID.out.ord; omega
      ·have := HLAID.out.ord; omega
     ·have := HLAID.out.ord; omega
   have u2 : (B2.putObj (qb + 2 + 3) (.loop rb2)).cell? ⟨qb, 0, none⟩ = some (.int .i64 j) := by
    have h9 := hk2 qb _ HRU.out ?_ (by have := lt_of_get hfr1; have := HQB.out; omega)
    ·simp [World.cell?, h9]
    ·intro hk
     have := (HP1.out.old _ (HP1.out.own i _ HLAID.out.fi x1 (List.mem_of_getElem? HX1.out) _ hk).1).2
     have := HQB.out
     omega
   clear hD hk2 hfr1 hfr2 HJ2
   gi_wp2_with fail
   exact ⟨HD.out.1, HD.out.2.1, .inl ⟨rfl, HD.out.2.2⟩⟩
  ·intro v W O' hO' hF' hj2
   refine ⟨⟨v, rfl⟩, .inl ⟨hj2.rcd, fun ro => ?_⟩⟩
   have HFIN := hide (rules_after HLAID.out HJ.out HP1.out HA1.out HA1'.out HCS.out HX1.out HQB.out HOFF1.out HL1.out hsz1 (C1 := V2.alloc _) (by rw [HV2.out]; exact laid3_below _ _ _ _ _ _ _ _) (by rw [World.size_alloc, hv2s]) hj2 hO' hF' ro)
   clear hj2 hF' hO' hfr1 hfr2
   gi_wp2_with fail
   exact ⟨HFIN.out.1, .inl ⟨rfl, HFIN.out.2⟩⟩
 ·intro v W hj
  refine ⟨⟨v, rfl⟩, .inl ⟨hj.rcd, fun ro => ?_⟩⟩
  obtain ⟨W9, hW9, c9, d9, hpost⟩ := rules_end HLAID.out hj ro
  rw [hW9]
  have HD9 := hide d9
  have HPOST := hide hpost
  clear hj hW9 d9 hpost
  dsimp only
  go_wp2_with fail
  refine ⟨by simp, .inl ⟨_, _, rfl, run_takeDeferred HD9.out, ?_⟩⟩
  exact ⟨_, (by simp [results, Tryz.results125, go_sem]), HPOST.out⟩
end Go.Proofs.YtgncgdkpkkdaeaaGreatDoor
namespace Go.Proofs.YtgncgdkpkkdaeaaGreatDoor
open Go.RowKit Tint Go.Maps
def RemIPost (v : Array Value) (w : World) (e : Ending) (w' : World) : Prop :=
 e = .returned (.func (.func 160) #[] #[.pointer (some ⟨w.heap.size + 1 + 1, 0, none⟩), .pointer (some ⟨w.heap.size, 0, none⟩)]) ∧ Below w.heap.size w w' ∧ w'.heap.size = w.heap.size + 3 ∧ w'.heap[w.heap.size + 1 + 1]? = some (.cells #[.map (some (w.heap.size + 1))] 278 (0, 0)) ∧
  w'.heap[w.heap.size]? = some (.cells #[.func (.func 124) #[] v] 239 (0, 0)) ∧ MapV intT w' (w.heap.size + 1) 0 (fun _ => none)
set_option maxRecDepth 20000 in
set_option maxHeartbeats 1000000 in
theorem rememberI_any (v : Array Value) (w : World) : Calls Tryz.prog 123 #[.func (.func 124) #[] v] w (RemIPost v w) := by
 have hmm := @run_makeMap Tryz.prog
 go_enter Tryz.func123, Tryz.ntmps123
 go_wp2_with fail
 go_ret
 have hM := MapV.made intT (w.alloc (.cells #[.func (.func 124) #[] v] 239))
 have h1 := heap_alloc_last w (.cells #[.func (.func 124) #[] v] 239)
 have h2 := heap_alloc_last ((w.alloc (.cells #[.func (.func 124) #[] v] 239)).alloc (.map #[] 0)) (.cells #[.map (some (w.heap.size + 1))] 278)
 have b1 : Below w.heap.size w (w.alloc (.cells #[.func (.func 124) #[] v] 239)) := (Below.refl _ _).alloc (Nat.le_refl _) _
 have b2 := b1.alloc (o := .map #[] 0) (by simp)
 have b3 := b2.alloc (o := .cells #[.map (some (w.heap.size + 1))] 278) (by simp; omega)
 refine ⟨rfl, b3, by simp, by simpa using h2, heap_alloc_old (heap_alloc_old h1), ?_⟩
 rw [show (w.alloc (.cells #[.func (.func 124) #[] v] 239)).heap.size = w.heap.size + 1 by simp] at hM
 refine hM.keep ?_
 obtain ⟨es, clk, ho⟩ := hM.obj
 rw [ho]
 exact heap_alloc_old ho
set_option maxRecDepth 20000 in
set_option maxHeartbeats 2000000 in
theorem spans11_any (N : Nat) (A : Nat → Prop) (g n cap : Nat) (G : List GS) (d : PD) (f : Nat → Option Value) (F : Nat → List FD) (i : Nat) (s : GS) (line : ByteArray) (bP bL : Nat) (w : World) (h : PainterIs w N A g n cap G d f F) (hs : G[i]? = some s) (hl : 1 ≤ line.size) (hz : line.size ≤ 3000) (hbP : w.heap[bP]? = some (.cells #[.slice (some ⟨g, 0, none⟩) n cap, pfn d] 171 (0, 0))) (hbL : w.heap[bL]? = some (.cells #[.string line] 9 (0, 0))) :
  Calls Tryz.prog 124 #[.int .i64 i, .pointer (some ⟨bP, 0, none⟩), .pointer (some ⟨bL, 0, none⟩)] w (RulesPost N A g n cap G d s line.data.toList w) := by
 have c0 : w.cell? ⟨bP, 0, none⟩ = some (.slice (some ⟨g, 0, none⟩) n cap) := by simp [World.cell?, hbP]
 have c1 : w.cell? ⟨bP, 1, none⟩ = some (pfn d) := by simp [World.cell?, hbP]
 have c2 := cell_one hbL
 have HR := hide (rulesAt_any N A g n cap G d f F i s line w h hs hl hz)
 unfold pv at HR
 unfold pfn at c1 HR
 clear h hbP hbL
 go_enter Tryz.func124, Tryz.ntmps124
 go_wp2_with fail
 refine HR.out.mono ?_
 rintro e w1 hp
 have HP := hide hp
 obtain ⟨Gr, fr, A', f', F', rfl, -⟩ := hp
 clear HR
 go_wp2_with fail
 go_ret
 exact HP.out
structure RowsIs (w : World) (N : Nat) (A : Nat → Prop) (G : List GS) (T : List UInt8) (K kv wk bP bL : Nat) (f2 : Nat → Option Value) : Prop where
 kvx : w.heap[kv]? = some (.cells #[.map (some K)] 278 (0, 0)) ∧ ¬ A kv
 wkx : w.heap[wk]? = some (.cells #[.func (.func 124) #[] #[.pointer (some ⟨bP, 0, none⟩), .pointer (some ⟨bL, 0, none⟩)]] 239 (0, 0)) ∧ ¬ A wk
 map : (N ≤ K ∧ ¬ A K) ∧ ∃ m, MapV intT w K m f2 ∧ m ≤ known12 f2
 rows : ∀ i v, f2 i = some v → ∃ s Gr fr, G[i]? = some s ∧ v = .slice (some ⟨Gr, 0, none⟩) T.length T.length ∧ ¬ A Gr ∧ w.heap[Gr]? = some (.cells (fr.map (Value.int .i64)).toArray 3 (0, 0)) ∧ RowDone s.rs T 0 T.length fr
def RowsFree (K kv wk : Nat) (f2 : Nat → Option Value) (k : Nat) : Prop := k ≠ K ∧ k ≠ kv ∧ k ≠ wk ∧ ∀ i v, f2 i = some v → v.ownBlock ≠ some k
theorem own_slice (g n c : Nat) : (Value.slice (some ⟨g, 0, none⟩) n c).ownBlock = some g := rfl
theorem RowsIs.off {w w' : World} {N : Nat} {A A' Z : Nat → Prop} {G : List GS} {T : List UInt8} {K kv wk bP bL : Nat} {f2 : Nat → Option Value} (h : RowsIs w N A G T K kv wk bP bL f2) (ho : Off Z w w') (hz : ∀ k, Z k → k < w.heap.size → A k ∨ RowsFree K kv wk f2 k) (hA : ∀ k, A' k → A k ∨ w.heap.size ≤ k) : RowsIs w' N A' G T K kv wk bP bL f2 := by
 obtain ⟨m, hm, hk⟩ := h.map.2
 have hn : ∀ k, k < w.heap.size → ¬ A k → ¬ A' k := fun k h1 h2 h3 => (hA k h3).elim h2 (fun h4 => by omega)
 refine ⟨⟨ho.same h.kvx.1 fun hz' => (hz _ hz' (lt_of_get h.kvx.1)).elim h.kvx.2 (fun e => e.2.1 rfl), hn _ (lt_of_get h.kvx.1) h.kvx.2⟩, ⟨ho.same h.wkx.1 fun hz' => (hz _ hz' (lt_of_get h.wkx.1)).elim h.wkx.2 (fun e => e.2.2.1 rfl), hn _ (lt_of_get h.wkx.1) h.wkx.2⟩, ⟨⟨h.map.1.1, hn _ hm.lt h.map.1.2⟩, m, hm.keep (ho.keep _ ⟨hm.lt, fun hz' => (hz _ hz' hm.lt).elim h.map.1.2 (fun e => e.1 rfl)⟩), hk⟩, fun i v hi => ?_⟩
 obtain ⟨s, Gr, fr, h1, h2, h3, h4, h5⟩ := h.rows i v hi
 exact ⟨s, Gr, fr, h1, h2, hn _ (lt_of_get h4) h3, ho.same h4 (fun hz' => (hz _ hz' (lt_of_get h4)).elim h3 (fun e => e.2.2.2 i v hi (by rw [h2]; rfl))), h5⟩
def RowPost (N : Nat) (A : Nat → Prop) (g n cap : Nat) (G : List GS) (d : PD) (s : GS) (T : List UInt8) (K kv wk bP bL : Nat) (f2 : Nat → Option Value) (w : World) (e : Ending) (w' : World) : Prop :=
 ∃ (Gr : Nat) (fr : List Int) (A' : Nat → Prop) (f' : Nat → Option Value) (F' : Nat → List FD) (f2' : Nat → Option Value), e = .returned (.slice (some ⟨Gr, 0, none⟩) T.length T.length) ∧ w'.heap[Gr]? = some (.cells (fr.map (Value.int .i64)).toArray 3 (0, 0)) ∧ RowDone s.rs T 0 T.length fr ∧ Off (fun k => A k ∨ k = K) w w' ∧ (∀ k, A' k → A k ∨ w.heap.size ≤ k) ∧ (∀ k, A k → A' k) ∧ PainterIs w' N A' g n cap G d f' F' ∧ RowsIs w' N A' G T K kv wk bP bL f2' ∧ (∃ i, f2' i = some (.slice (some ⟨Gr, 0, none⟩) T.length T.length)) ∧ ∀ i v, f2' i = some v → f2 i = some v ∨ ∀ k, v.ownBlock = some k → w.heap.size ≤ k
theorem row_any (N : Nat) (A : Nat → Prop) (g n cap : Nat) (G : List GS) (d : PD) (f : Nat → Option Value) (F : Nat → List FD) (i : Nat) (s : GS) (line : ByteArray) (K kv wk bP bL : Nat) (f2 : Nat → Option Value) (w : World) (h : PainterIs w N A g n cap G d f F) (hR : RowsIs w N A G line.data.toList K kv wk bP bL f2) (hs : G[i]? = some s) (hl : 1 ≤ line.size) (hz : line.size ≤ 3000) (hbP : w.heap[bP]? = some (.cells #[.slice (some ⟨g, 0, none⟩) n cap, pfn d] 171 (0, 0))) (hbL : w.heap[bL]? = some (.cells #[.string line] 9 (0, 0))) :
  Calls Tryz.prog 160 #[.int .i64 i, .pointer (some ⟨kv, 0, none⟩), .pointer (some ⟨wk, 0, none⟩)] w (RowPost N A g n cap G d s line.data.toList K kv wk bP bL f2 w) := by
 have hG := h.gram w (Below.refl _ _)
 have hi : i < 12 := by have := get_lt hs; have := hG.few; have := hG.len; omega
 obtain ⟨m, hM, hm⟩ := hR.map.2
 cases hf : f2 i with
 | some v =>
  obtain ⟨s', Gr, fr, e1, rfl, e3, e4, e5⟩ := hR.rows i v hf
  rw [hs] at e1
  cases e1
  refine (memoI_hit K kv wk m f2 i (by omega) (some ⟨Gr, 0, none⟩) _ _ w hR.kvx.1 hM hf).mono ?_
  rintro e w' ⟨rfl, rfl⟩
  exact ⟨Gr, fr, A, f, F, f2, rfl, e4, e5, Off.refl _ _, fun k hk => .inl hk, fun k hk => hk, h, hR, ⟨i, hf⟩, fun _ _ h => .inl h⟩
 | none =>
  refine (memoI_miss K kv wk m f2 i (by omega) #[.pointer (some ⟨bP, 0, none⟩), .pointer (some ⟨bL, 0, none⟩)] (fun v w1 => RulesPost N A g n cap G d s line.data.toList w (.returned v) w1) w hR.kvx.1 hR.wkx.1 hM (by have := known12_le f2; omega) hf ((spans11_any N A g n cap G d f F i s line bP bL w h hs hl hz hbP hbL).mono ?_)).mono ?_
  ·rintro e w1 hp
   obtain ⟨Gr, fr, A', f', F', rfl, h1, h2, h3, h4, h5, h6⟩ := id hp
   exact ⟨_, _, _, rfl, h5.same hR.kvx.1 hR.kvx.2, h5.keep _ ⟨hM.lt, hR.map.1.2⟩, hp⟩
  ·rintro e w2 ⟨ao, n', cp, w1, rfl, ⟨Gr, fr, A', f', F', hv, h1, h2, h3, h4, h5, h6, h7, h8⟩, hM2, hg⟩
   cases hv
   have hK1 : w1.heap[K]? = w.heap[K]? := h5.keep _ ⟨hM.lt, hR.map.1.2⟩
   obtain ⟨es, clk, hKo⟩ := hM.obj
   have hKo1 := hK1.trans hKo
   have hoK : Off (fun k => k = K) w1 w2 := ⟨hg.os, hg.tape, hg.output, hg.size, fun k hk => hg.block k hk.1 (fun e => hk.2 (Option.some.inj e)), fun k c t _ hh => (hg.block k (lt_of_get hh) (fun e => by cases e; rw [hKo1] at hh; cases hh)).trans hh⟩
   have hKA : ¬ A' K := fun ha => (h6 K ha).elim hR.map.1.2 (fun h => by have := hM.lt; omega)
   have hGK : Gr ≠ K := fun e => by rw [e, hKo1] at h2; cases h2
   have h2' := hoK.same h2 hGK
   have hR1 := hR.off (A' := A') h5 (fun k hk _ => .inl hk) h6
   have hkK : kv ≠ K := fun e => by have := hR1.kvx.1; rw [e, hKo1] at this; cases this
   have hwK : wk ≠ K := fun e => by have := hR1.wkx.1; rw [e, hKo1] at this; cases this
   refine ⟨Gr, fr, A', f', F', _, rfl, h2', h4, (h5.sub fun k _ hk => .inl hk).then hoK (fun k _ hk => .inr hk), h6, h7, h8.off hoK (fun k hk => by subst hk; exact ⟨hR.map.1.1, hKA⟩), ⟨⟨hoK.same hR1.kvx.1 hkK, hR1.kvx.2⟩, ⟨hoK.same hR1.wkx.1 hwK, hR1.wkx.2⟩, ⟨⟨hR.map.1.1, hKA⟩, m + 1, hM2, by rw [known12_set hi hf]; omega⟩, fun i' v' hi' => ?_⟩, ⟨i, by simp⟩, fun i' v' hi' => ?_⟩
   ·by_cases hii : i' = i
    ·subst hii
     simp only [if_true] at hi'
     cases hi'
     exact ⟨s, Gr, fr, hs, rfl, h3, h2', h4⟩
    simp only [if_neg hii] at hi'
    obtain ⟨s', Gr', fr', a1, a2, a3, a4, a5⟩ := hR1.rows i' v' hi'
    exact ⟨s', Gr', fr', a1, a2, a3, hoK.same a4 (fun e => by rw [e, hKo1] at a4; cases a4), a5⟩
   ·by_cases hii : i' = i
    ·subst hii
     simp only [if_true] at hi'
     cases hi'
     exact .inr (fun k hk => by cases hk; exact h1)
    ·simp only [if_neg hii] at hi'
     exact .inl hi'
structure Sp where
 fr : Nat
 to : Nat
 nm : ByteArray
 dep : Nat
 co : ByteArray
def Sp.v (x : Sp) : Value := spv x.fr x.to x.nm x.dep x.co
structure HitAt (rs : List GR) (T : List UInt8) (at_ p k : Nat) (r : GR) (e : Nat) : Prop where
 le : at_ ≤ p
 lt : p < T.length
 rule : rs[k]? = some r
 from_ : From r.a.re T p
 first : ∀ (k' : Nat) (r' : GR), k' < k → rs[k']? = some r' → ¬ From r'.a.re T p
 least : ∀ p', at_ ≤ p' → p' < p → ∀ (k' : Nat) (r' : GR), rs[k']? = some r' → ¬ From r'.a.re T p'
 long : Long r.a.re T p e
def NoHit (rs : List GR) (T : List UInt8) (at_ : Nat) : Prop := ∀ p, at_ ≤ p → p < T.length → ∀ (k : Nat) (r : GR), rs[k]? = some r → ¬ From r.a.re T p
def gapL (at_ p : Nat) (nm : ByteArray) (dep : Nat) : List Sp := if at_ < p then [⟨at_, p, nm, dep, ⟨#[]⟩⟩] else []
inductive Path (G : List GS) (T : List UInt8) (st0 : List Nat) : Nat → List Nat → List Sp → Prop where
 | start : Path G T st0 0 st0 []
 | hit {at_ : Nat} {st : List Nat} {pre : List Sp} {top : Nat} {s : GS} {p k : Nat} {r : GR} {e : Nat} : Path G T st0 at_ st pre → at_ < T.length → st[st.length - 1]? = some top → G[top]? = some s → HitAt s.rs T at_ p k r e → Path G T st0 e (aft r.k r.op st) (pre ++ gapL at_ p s.nm st.length ++ [⟨p, e, s.nm, st.length, r.co⟩])
def Thru (G : List GS) (T : List UInt8) (st0 : List Nat) (sps : List Sp) (st : List Nat) : Prop :=
 Path G T st0 T.length st sps ∨ ∃ at_ pre top s, Path G T st0 at_ st pre ∧ at_ < T.length ∧ st[st.length - 1]? = some top ∧ G[top]? = some s ∧ NoHit s.rs T at_ ∧ sps = pre ++ [⟨at_, T.length, s.nm, st.length, ⟨#[]⟩⟩]
def Good (G : List GS) (st : List Nat) : Prop := (1 ≤ st.length ∧ st.length ≤ 8) ∧ ∀ x ∈ st, x < G.length
def GOk (G : List GS) : Prop := ∀ s ∈ G, ∀ r ∈ s.rs, r.a.re.nullable = false ∧ (r.k = 1 → r.op < G.length)
theorem Good.top {G : List GS} {st : List Nat} (h : Good G st) : ∃ top s, st[st.length - 1]? = some top ∧ G[top]? = some s := by
 obtain ⟨⟨h1, h2⟩, h3⟩ := h
 have hlt : st.length - 1 < st.length := by omega
 exact ⟨st[st.length - 1], _, List.getElem?_eq_getElem hlt, List.getElem?_eq_getElem (h3 _ (List.getElem_mem hlt))⟩
theorem Good.aft {G : List GS} {st : List Nat} {k op : Nat} (h : Good G st) (ho : k = 1 → op < G.length) : Good G (aft k op st) := by
 obtain ⟨⟨h1, h2⟩, h3⟩ := h
 obtain ⟨a, b⟩ := aft_length (k := k) (op := op) h2 h1
 refine ⟨⟨b, a⟩, fun x hx => ?_⟩
 unfold Go.Proofs.YtgncgdkpkkdaeaaGreatDoor.aft at hx
 split at hx
 ·rename_i hk
  rcases List.mem_append.1 hx with hx | hx
  ·exact h3 x hx
  ·rw [List.mem_singleton.1 hx]; exact ho hk.1
 ·split at hx
  ·exact h3 x (List.dropLast_subset _ hx)
  ·exact h3 x hx
theorem HitAt.gt {rs : List GR} {T : List UInt8} {at_ p k : Nat} {r : GR} {e : Nat} (h : HitAt rs T at_ p k r e) (hn : r.a.re.nullable = false) : p < e ∧ e ≤ T.length := by
 obtain ⟨h1, h2, h3, h4⟩ := h.long
 refine ⟨?_, h2⟩
 obtain ⟨j, a1, a2, a3⟩ := h.from_
 rcases Nat.lt_or_ge p e with h5 | h5
 ·exact h5
 ·have he : e = p := by omega
  subst he
  rcases Nat.lt_or_ge e j with h6 | h6
  ·exact absurd a3 (h4 j h6 a2)
  ·have : j = e := by omega
   subst this
   rw [seg_self] at a3
   rw [(mt_nil _).1 a3] at hn
   cases hn
theorem next_hit {rs : List GR} {T : List UInt8} {fr : List Int} {at_ p : Nat} (hd : RowDone rs T 0 T.length fr) (hn : NextIs fr at_ p) : (p = T.length ∧ NoHit rs T at_) ∨ (p < T.length ∧ ∃ (k : Nat) (r : GR), fr[p]? = some (k : Int) ∧ rs[k]? = some r ∧ From r.a.re T p ∧ (∀ (k' : Nat) (r' : GR), k' < k → rs[k']? = some r' → ¬ From r'.a.re T p) ∧ ∀ p', at_ ≤ p' → p' < p → ∀ (k' : Nat) (r' : GR), rs[k']? = some r' → ¬ From r'.a.re T p') := by
 obtain ⟨n1, n2, n3, n4⟩ := hn
 have hno : ∀ p', at_ ≤ p' → p' < p → ∀ (k' : Nat) (r' : GR), rs[k']? = some r' → ¬ From r'.a.re T p' := fun p' h1 h2 k' r' hr => by
  rcases hd.2 p' _ (n3 p' h1 h2) with ⟨_, h3⟩ | ⟨k, _, h3, _⟩
  ·exact h3 k' r' (Nat.zero_le _) hr
  ·omega
 rcases Nat.lt_or_ge p T.length with h | h
 ·refine .inr ⟨h, ?_⟩
  have hlt : p < fr.length := by rw [hd.1]; exact h
  obtain ⟨z, hz⟩ : ∃ z, fr[p]? = some z := ⟨_, List.getElem?_eq_getElem hlt⟩
  rcases hd.2 p z hz with ⟨rfl, _⟩ | ⟨k, r, rfl, _, h4, h5, h6⟩
  ·exact absurd hz (n4 hlt)
  ·exact ⟨k, r, hz, h4, h5, fun k' r' hk hr => h6 k' r' (Nat.zero_le _) hk hr, hno⟩
 ·rw [hd.1] at n2
  exact .inl ⟨by omega, fun p' h1 h2 => hno p' h1 (by omega)⟩
structure SP (N : Nat) (A0 : Nat → Prop) (w0 g n cap : Nat) (G : List GS) (d : PD) (line : ByteArray) (K kv wk bP bL bS : Nat) (A1 : Nat → Prop) (f1 : Nat → Option Value) (F1 : Nat → List FD) (f2 : Nat → Option Value) (st : List Nat) (Cl : Nat → Prop) (W : World) : Prop where
 p : PainterIs W N A1 g n cap G d f1 F1
 sub : ∀ k, A1 k → A0 k ∨ w0 ≤ k
 r : RowsIs W N A1 G line.data.toList K kv wk bP bL f2
 bp : W.heap[bP]? = some (.cells #[.slice (some ⟨g, 0, none⟩) n cap, pfn d] 171 (0, 0)) ∧ bP < w0 ∧ ¬ A1 bP
 bl : W.heap[bL]? = some (.cells #[.string line] 9 (0, 0)) ∧ bL < w0 ∧ ¬ A1 bL
 bs : W.heap[bS]? = some (.cells (stCells st).toArray 138 (0, 0)) ∧ w0 ≤ bS ∧ ¬ A1 bS
 kb : RowsFree K kv wk f2 bS
 new : w0 ≤ K ∧ w0 ≤ kv ∧ w0 ≤ wk ∧ ∀ i v, f2 i = some v → ∀ k, v.ownBlock = some k → w0 ≤ k
 size : w0 ≤ W.heap.size ∧ N ≤ w0
 cl : ∀ k, Cl k → (k < W.heap.size ∧ N ≤ k ∧ ¬ A1 k ∧ k ≠ bP ∧ k ≠ bL ∧ k ≠ bS) ∧ RowsFree K kv wk f2 k
section
variable {N : Nat} {A0 : Nat → Prop} {w0 g n cap : Nat} {G : List GS} {d : PD} {line : ByteArray} {K kv wk bP bL bS : Nat} {A1 : Nat → Prop} {f1 : Nat → Option Value} {F1 : Nat → List FD} {f2 : Nat → Option Value} {st : List Nat} {Cl : Nat → Prop} {W W' : World}
theorem SP.lt (h : SP N A0 w0 g n cap G d line K kv wk bP bL bS A1 f1 F1 f2 st Cl W) {k : Nat} (hk : W.heap.size ≤ k) : (N ≤ k ∧ ¬ A1 k ∧ k ≠ bP ∧ k ≠ bL ∧ k ≠ bS) ∧ RowsFree K kv wk f2 k := by
 have h1 := h.size
 have h2 := lt_of_get h.bp.1
 have h3 := lt_of_get h.bl.1
 have h4 := lt_of_get h.bs.1
 have h5 := lt_of_get h.r.kvx.1
 have h6 := lt_of_get h.r.wkx.1
 obtain ⟨m, hm, _⟩ := h.r.map.2
 have h7 := hm.lt
 refine ⟨⟨by omega, fun ha => by have := (h.p.old k ha).2; omega, by omega, by omega, by omega⟩, by omega, by omega, by omega, fun i v hi e => ?_⟩
 obtain ⟨s, Gr, fr, _, rfl, _, e4, _⟩ := h.r.rows i v hi
 have := lt_of_get e4
 rw [own_slice] at e
 cases e
 omega
theorem SP.round {Cl' : Nat → Prop} (h : SP N A0 w0 g n cap G d line K kv wk bP bL bS A1 f1 F1 f2 st Cl W) (ho : Off Cl W W') (hc : ∀ k, Cl' k → k < W'.heap.size ∧ (Cl k ∨ W.heap.size ≤ k)) : SP N A0 w0 g n cap G d line K kv wk bP bL bS A1 f1 F1 f2 st Cl' W' := by
 refine ⟨h.p.off ho (fun k hk => ⟨(h.cl k hk).1.2.1, (h.cl k hk).1.2.2.1⟩), h.sub, h.r.off ho (fun k hk _ => .inr (h.cl k hk).2) (fun k hk => .inl hk), ⟨ho.same h.bp.1 (fun e => (h.cl _ e).1.2.2.2.1 rfl), h.bp.2⟩, ⟨ho.same h.bl.1 (fun e => (h.cl _ e).1.2.2.2.2.1 rfl), h.bl.2⟩, ⟨ho.same h.bs.1 (fun e => (h.cl _ e).1.2.2.2.2.2 rfl), h.bs.2⟩, h.kb, h.new, ⟨Nat.le_trans h.size.1 ho.size, h.size.2⟩, fun k hk => ?_⟩
 obtain ⟨h1, h2 | h2⟩ := hc k hk
 ·exact ⟨⟨h1, (h.cl k h2).1.2⟩, (h.cl k h2).2⟩
 ·exact ⟨⟨h1, (h.lt h2).1⟩, (h.lt h2).2⟩
theorem SP.work {A' : Nat → Prop} {f' : Nat → Option Value} {F' : Nat → List FD} (h : SP N A0 w0 g n cap G d line K kv wk bP bL bS A1 f1 F1 f2 st Cl W) (ho : Off A1 W W') (hs : ∀ k, A' k → A1 k ∨ W.heap.size ≤ k) (hp : PainterIs W' N A' g n cap G d f' F') : SP N A0 w0 g n cap G d line K kv wk bP bL bS A' f' F' f2 st Cl W' := by
 have hn : ∀ k, k < W.heap.size → ¬ A1 k → ¬ A' k := fun k h1 h2 h3 => (hs k h3).elim h2 (fun h4 => by omega)
 exact ⟨hp, fun k hk => (hs k hk).elim (h.sub k) (fun h4 => .inr (Nat.le_trans h.size.1 h4)), h.r.off ho (fun k hk _ => .inl hk) hs, ⟨ho.same h.bp.1 h.bp.2.2, h.bp.2.1, hn _ (lt_of_get h.bp.1) h.bp.2.2⟩, ⟨ho.same h.bl.1 h.bl.2.2, h.bl.2.1, hn _ (lt_of_get h.bl.1) h.bl.2.2⟩, ⟨ho.same h.bs.1 h.bs.2.2, h.bs.2.1, hn _ (lt_of_get h.bs.1) h.bs.2.2⟩, h.kb, h.new, ⟨Nat.le_trans h.size.1 ho.size, h.size.2⟩, fun k hk => ⟨⟨Nat.lt_of_lt_of_le (h.cl k hk).1.1 ho.size, (h.cl k hk).1.2.1, hn _ (h.cl k hk).1.1 (h.cl k hk).1.2.2.1, (h.cl k hk).1.2.2.2⟩, (h.cl k hk).2⟩⟩
theorem SP.below (h : SP N A0 w0 g n cap G d line K kv wk bP bL bS A1 f1 F1 f2 st Cl W) (hb : Below W.heap.size W W') : SP N A0 w0 g n cap G d line K kv wk bP bL bS A1 f1 F1 f2 st Cl W' :=
 h.work (Off.of_below hb) (fun _ hk => .inl hk) (h.p.below hb)
theorem SP.row {A' : Nat → Prop} {f' : Nat → Option Value} {F' : Nat → List FD} {f2' : Nat → Option Value} (h : SP N A0 w0 g n cap G d line K kv wk bP bL bS A1 f1 F1 f2 st Cl W) (ho : Off (fun k => A1 k ∨ k = K) W W') (hs : ∀ k, A' k → A1 k ∨ W.heap.size ≤ k) (hp : PainterIs W' N A' g n cap G d f' F') (hr : RowsIs W' N A' G line.data.toList K kv wk bP bL f2') (hf : ∀ i v, f2' i = some v → f2 i = some v ∨ ∀ k, v.ownBlock = some k → W.heap.size ≤ k) : SP N A0 w0 g n cap G d line K kv wk bP bL bS A' f' F' f2' st Cl W' := by
 have hn : ∀ k, k < W.heap.size → ¬ A1 k → ¬ A' k := fun k h1 h2 h3 => (hs k h3).elim h2 (fun h4 => by omega)
 have hK : ∀ k, k < w0 → k ≠ K := fun k hk e => by have := h.new.1; omega
 have hfree : ∀ k, k < W.heap.size → RowsFree K kv wk f2 k → RowsFree K kv wk f2' k := fun k hk hr => ⟨hr.1, hr.2.1, hr.2.2.1, fun i v hi e => by
  rcases hf i v hi with h1 | h1
  ·exact hr.2.2.2 i v h1 e
  ·have := h1 _ e; omega⟩
 refine ⟨hp, fun k hk => (hs k hk).elim (h.sub k) (fun h4 => .inr (Nat.le_trans h.size.1 h4)), hr, ⟨ho.same h.bp.1 (fun e => e.elim h.bp.2.2 (hK _ h.bp.2.1)), h.bp.2.1, hn _ (lt_of_get h.bp.1) h.bp.2.2⟩, ⟨ho.same h.bl.1 (fun e => e.elim h.bl.2.2 (hK _ h.bl.2.1)), h.bl.2.1, hn _ (lt_of_get h.bl.1) h.bl.2.2⟩, ⟨ho.same h.bs.1 (fun e => e.elim h.bs.2.2 h.kb.1), h.bs.2.1, hn _ (lt_of_get h.bs.1) h.bs.2.2⟩, hfree _ (lt_of_get h.bs.1) h.kb, ⟨h.new.1, h.new.2.1, h.new.2.2.1, fun i v hi k hk => ?_⟩, ⟨Nat.le_trans h.size.1 ho.size, h.size.2⟩, fun k hk => ⟨⟨Nat.lt_of_lt_of_le (h.cl k hk).1.1 ho.size, (h.cl k hk).1.2.1, hn _ (h.cl k hk).1.1 (h.cl k hk).1.2.2.1, (h.cl k hk).1.2.2.2⟩, hfree _ (h.cl k hk).1.1 (h.cl k hk).2⟩⟩
 rcases hf i v hi with h1 | h1
 ·exact h.new.2.2.2 i v h1 k hk
 ·exact Nat.le_trans h.size.1 (h1 k hk)
theorem SP.restack {st' : List Nat} (h : SP N A0 w0 g n cap G d line K kv wk bP bL bS A1 f1 F1 f2 st Cl W) (ho : Off (fun k => k = bS) W W') (hb : W'.heap[bS]? = some (.cells (stCells st').toArray 138 (0, 0))) : SP N A0 w0 g n cap G d line K kv wk bP bL bS A1 f1 F1 f2 st' Cl W' := by
 have hs := h.bs.2.1
 exact ⟨h.p.off ho (fun k hk => by subst hk; exact ⟨Nat.le_trans h.size.2 hs, h.bs.2.2⟩), h.sub, h.r.off ho (fun k hk _ => by subst hk; exact .inr h.kb) (fun k hk => .inl hk), ⟨ho.same h.bp.1 (fun e => by have := h.bp.2.1; omega), h.bp.2⟩, ⟨ho.same h.bl.1 (fun e => by have := h.bl.2.1; omega), h.bl.2⟩, ⟨hb, h.bs.2⟩, h.kb, h.new, ⟨Nat.le_trans h.size.1 ho.size, h.size.2⟩, fun k hk => ⟨⟨Nat.lt_of_lt_of_le (h.cl k hk).1.1 ho.size, (h.cl k hk).1.2⟩, (h.cl k hk).2⟩⟩
end
end Go.Proofs.YtgncgdkpkkdaeaaGreatDoor
