/- joinEach. -/
import Derived.Test.YtgncgdkpkkdaeaaDoorR1
namespace Go.Proofs.YtgncgdkpkkdaeaaDoor
open Go.RowKit Tint Go.Maps

theorem join_any (X : Nat → Prop) (S n0 : Nat) (ns : List (Nd Value)) (Q : List D) (x : D) (a : ARe) (k : Nat) (w : World) (hX : Old X w) (hS : Shelf w X S n0 ns Q) (hx : RepD (IsCls w) n0 ns x k) (ha : a.lt n0) (hr : Rep (IsCls w) ns a) (hQ : tcat x a ∈ Q) :
    Calls Tryd.prog 57 #[.pointer (some ⟨S, 0, none⟩), .int .i64 k, .int .i64 a.ix] w (JoinPost X S n0 ns Q (tcat x a) w) := by
  by_cases hk : k = 0
  · subst hk
    exact join_zero X S n0 ns Q x a w hS hx ha hr
  · obtain ⟨sv, J, m, f, h1, h2, h3, h4, h5, h6, h7, h8⟩ := hS.ex
    cases hf : f (k, a.ix) with
    | none => exact join_new X S n0 ns Q x a k w hX hS hx hk ha hr hQ sv J m f h1 h2 h3 h4 hf h5 h6 h7 h8
    | some c =>
      obtain ⟨j, rfl, hj, hd, e, hn⟩ := h7 k a.ix c hf
      exact join_found X S n0 ns Q x a k w hX hS hx hk ha hr sv J m f h1 h4 j hf hj hd e hn

theorem make_ints (n : Nat) (hn : n ≤ 1000000000000) : ∃ cz : Array Value, cz.size = n ∧ ∀ w, (Instr.makeSlice 31 (.int .i64 n) (.int .i64 n)).run Tryd.prog w = .ok (.slice (some ⟨w.heap.size, 0, none⟩) n n) (w.alloc (.cells cz 3)) := by
  obtain ⟨i0, hi, hz0, hz1, hz2⟩ := info_parts info_int
  refine ⟨madeCells (Value.int .i64 0).cells (n * i0.size), ?_, fun w => ?_⟩
  · rw [size_madeCells, hz1, Nat.mul_one]
  · have := run_make (P := Tryd.prog) w 31 3 i0 (.int .i64 0) Tryd.underlying31 hi hz0 .i64 .i64 (n : Int) (n : Int) (by omega) (by omega) (by rw [hz2]; omega) (by omega)
    simpa using this

def EachPost (X : Nat → Prop) (S n0 : Nat) (ns : List (Nd Value)) (Q : List D) (ts : List D) (w : World) (e : Ending) (w' : World) : Prop :=
  ∃ (v : Value) (js : List Nat) (ms : List (Nd Value)), e = .returned v ∧ Fx X w w' ∧ Shelf w' X S n0 (ns ++ ms) Q ∧ Row w' X v js ∧ F2 (RepD (IsCls w') n0 (ns ++ ms)) ts js

/-- Foreign too: two blocks of numbers. -/
def two (X : Nat → Prop) (fv : Value) (O : Nat) : Nat → Prop := fun k => X k ∨ fv.ownBlock = some k ∨ k = O

/-- What joinEach has come to behind j rounds: the row at O. -/
def EachLoop (X : Nat → Prop) (S n0 : Nat) (ns : List (Nd Value)) (Q : List D) (xs : List D) (a : ARe) (fv : Value) (fs : List Nat) (w : World) (O : Nat) (k : Nat) (i : Value) (wr : World) : Prop :=
  ∃ (j : Nat) (js : List Nat) (ms : List (Nd Value)) (cur : Array Value), i = .int .i64 j ∧ j + k = fs.length ∧ Fx X w wr ∧ Shelf wr (two X fv O) S n0 (ns ++ ms) Q ∧ Ints wr 0 fv fs ∧ wr.heap[O]? = some (.cells cur 3 (0, 0)) ∧ cur.size = fs.length ∧
    cur.toList.take j = js.map (fun x : Nat => Value.int .i64 (x : Int)) ∧ F2 (RepD (IsCls wr) n0 (ns ++ ms)) ((xs.take j).map (tcat · a)) js

theorem two_shelf {X : Nat → Prop} {S n0 : Nat} {ns : List (Nd Value)} {Q : List D} {w : World} {fv : Value} {fs : List Nat} {O : Nat} {cur : Array Value} (h : Shelf w X S n0 ns Q) (hf : Ints w 0 fv fs) (hO : w.heap[O]? = some (.cells cur 3 (0, 0))) : Shelf w (two X fv O) S n0 ns Q :=
  h.keep (Stay.refl w) (fun _ _ _ ho _ => ho) (fun k hk => by
    rcases hk with hk | hk | rfl
    · exact .inl hk
    · refine .inr fun o ho => ?_
      obtain ⟨c, hc⟩ := hf.block hk
      rw [hc] at ho
      cases ho
      exact ⟨_, _, _, rfl, by decide, by decide⟩
    · refine .inr fun o ho => ?_
      rw [hO] at ho
      cases ho
      exact ⟨_, _, _, rfl, by decide, by decide⟩)

theorem each_step {X : Nat → Prop} {S n0 : Nat} {ns : List (Nd Value)} {Q : List D} {xs : List D} {a : ARe} {fv : Value} {fs : List Nat} {w wr w2 : World} {j k i2 : Nat} {js : List Nat} {ms ks : List (Nd Value)} {cur : Array Value} {xj : D}
    (hX : Old X w) (hI : Ints w 0 fv fs) (hj : j + (k + 1) = fs.length) (hF : Fx X w wr) (hI3 : Ints wr 0 fv fs) (hsz : cur.size = fs.length) (htk : cur.toList.take j = js.map (fun x : Nat => Value.int .i64 (x : Int)))
    (hF2 : F2 (RepD (IsCls wr) n0 (ns ++ ms)) ((xs.take j).map (tcat · a)) js) (hxj : xs[j]? = some xj) (hF2' : Fx (two X fv w.heap.size) wr w2) (hS2 : Shelf w2 (two X fv w.heap.size) S n0 (ns ++ ms ++ ks) Q) (hR2 : RepD (IsCls w2) n0 (ns ++ ms ++ ks) (tcat xj a) i2)
    (hO2 : w2.heap[w.heap.size]? = some (.cells cur 3 (0, 0))) :
    EachLoop X S n0 ns Q xs a fv fs w w.heap.size k (.int .i64 (j + 1 : Nat)) (w2.setCell ⟨w.heap.size, j, none⟩ (.int .i64 i2)) := by
  have hnX : ¬ X w.heap.size := fun h => by have := hX _ h; omega
  have hOne : ∀ b : Nat, b ≠ w.heap.size → (w2.setCell ⟨w.heap.size, j, none⟩ (.int .i64 i2)).heap[b]? = w2.heap[b]? := fun b hb => Below.heap_setCell _ _ _ _ hb
  have hst : Stay w2 (w2.setCell ⟨w.heap.size, j, none⟩ (.int .i64 i2)) := fun b c t ht hh => by
    rw [hOne b (by rintro rfl; rw [hO2] at hh; simp at hh; rcases ht with rfl | rfl <;> simp at hh)]
    exact hh
  refine ⟨j + 1, js ++ [i2], ms ++ ks, cur.setIfInBounds j (.int .i64 i2), rfl, by omega, (hF.trans (hF2'.sub fun _ h => .inl h)).setCell hnX hO2 (by rfl) _, ?_, ?_, ?_, by simpa using hsz, ?_, ?_⟩
  · rw [← List.append_assoc]
    exact hS2.keep hst (fun b o hb ho _ => by rw [hOne b (fun e => hb (.inr (.inr e)))]; exact ho) (fun b hb => .inl hb)
  · refine hI3.keepB fun b hb => ?_
    rw [hOne b (by
      obtain ⟨c, hc⟩ := hI.block hb
      have := lt_of_get hc
      omega)]
    exact hF2'.keep b (.inr (.inl hb))
  · exact heap_setCell_same w2 w.heap.size j _ hO2
  · have hjl : j < cur.toList.length := by simp; omega
    have e1 : (cur.setIfInBounds j (.int .i64 i2)).toList = cur.toList.set j (.int .i64 i2) := by simp
    rw [e1, List.take_succ_eq_append_getElem (by simpa using hjl), List.take_set_of_le (Nat.le_refl _), htk]
    simp
  · rw [← List.append_assoc]
    have hxl := get_lt hxj
    rw [List.take_succ_eq_append_getElem hxl, List.map_append, List.map_cons, List.map_nil]
    rw [List.getElem?_eq_getElem hxl] at hxj
    rw [Option.some.inj hxj]
    have hs1 := hF2'.staying
    exact (hF2.mono fun d k h => RepD.world hst (RepD.world hs1 h).append).snoc (RepD.world hst hR2)

theorem each_end {X : Nat → Prop} {S n0 : Nat} {ns : List (Nd Value)} {Q : List D} {xs : List D} {a : ARe} {fv : Value} {fs : List Nat} {w wr : World} {j : Nat} {js : List Nat} {ms : List (Nd Value)} {cur : Array Value}
    (hX : Old X w) (hlen : fs.length ≤ 1000000000) (hF0 : xs.length = fs.length) (hj : j = fs.length) (hF : Fx X w wr) (hS : Shelf wr (two X fv w.heap.size) S n0 (ns ++ ms) Q) (hO : wr.heap[w.heap.size]? = some (.cells cur 3 (0, 0))) (hsz : cur.size = fs.length)
    (htk : cur.toList.take j = js.map (fun x : Nat => Value.int .i64 (x : Int))) (hF2 : F2 (RepD (IsCls wr) n0 (ns ++ ms)) ((xs.take j).map (tcat · a)) js) :
    EachPost X S n0 ns Q (xs.map (tcat · a)) w (.returned (.slice (some ⟨w.heap.size, 0, none⟩) fs.length fs.length)) wr := by
  subst hj
  rw [List.take_of_length_le (by omega)] at hF2
  have hjs : js.length = fs.length := by
    have := congrArg List.length htk
    simp at this
    omega
  refine ⟨_, js, ms, rfl, hF, hS.keep (Stay.refl _) (fun _ _ _ h _ => h) (fun _ h => .inl (.inl h)), ⟨⟨by simp, .inr ⟨w.heap.size, fs.length, cur, by rw [hjs], Nat.zero_le _, hO, by omega, by unfold maxLen; omega, by omega, ?_⟩⟩, ?_⟩, hF2⟩
  · rw [hjs, Nat.mul_one]; exact htk
  · intro k hk hXk
    have e : w.heap.size = k := Option.some.inj hk
    have := hX _ hXk
    omega

set_option maxHeartbeats 2000000 in
theorem joinEach_any (X : Nat → Prop) (S n0 : Nat) (ns : List (Nd Value)) (Q : List D) (xs : List D) (a : ARe) (fv : Value) (fs : List Nat) (w : World) (hX : Old X w) (hS : Shelf w X S n0 ns Q) (hI : Ints w 0 fv fs) (hx : F2 (RepD (IsCls w) n0 ns) xs fs) (ha : a.lt n0) (hr : Rep (IsCls w) ns a)
    (hQ : ∀ x ∈ xs, tcat x a ∈ Q) (hlen : fs.length ≤ 1000000000) :
    Calls Tryd.prog 51 #[.pointer (some ⟨S, 0, none⟩), fv, .int .i64 a.ix] w (EachPost X S n0 ns Q (xs.map (tcat · a)) w) := by
  obtain ⟨cz, hcz, hmk⟩ := make_ints fs.length (by omega)
  have hform : ∃ ao cap, fv = .slice ao fs.length cap ∧ (0 < fs.length → ∃ g, ao = some ⟨g, 0, none⟩) := by
    rcases hI.2 with ⟨rfl, h0⟩ | ⟨g, cap, _, rfl, _⟩
    · exact ⟨none, 0, by rw [h0], fun h => by omega⟩
    · exact ⟨_, cap, rfl, fun _ => ⟨g, rfl⟩⟩
  obtain ⟨ao, cap, rfl, hao⟩ := hform
  have HX := hide hX
  have HS := hide hS
  have HI := hide hI
  have HF := hide hx
  have HR := hide hr
  have HQ := hide hQ
  have HAO := hide hao
  clear hX hS hI hx hr hQ hao
  go_enter Tryd.func51, Tryd.ntmps51
  go_wp2_with fail
  clear hmk
  go_loopg [15] fs.length (fun k i wr => EachLoop X S n0 ns Q xs a (.slice ao fs.length cap) fs w w.heap.size k i wr)
  case atStart =>
    have hb : Below w.heap.size w (w.alloc (.cells cz 3)) := (Below.refl _ _).alloc (Nat.le_refl _) _
    have hO := heap_alloc_last w (.cells cz 3)
    have hI2 : Ints (w.alloc (.cells cz 3)) 0 (.slice ao fs.length cap) fs := HI.out.keep fun k c hk => (hb.block k (lt_of_get hk)).trans hk
    exact ⟨0, [], [], cz, by simp, by simp, Fx.of_below HX.out hb, by simpa using two_shelf (HS.out.below hb) hI2 hO, hI2, hO, hcz, by simp, by simpa using F2.nil⟩
  case round =>
    obtain ⟨j, js, ms, cur, rfl, hj, hFx, hSh, hI3, hO, hsz, htk, hF2⟩ := hrel
    by_cases hlt : j < fs.length
    · obtain ⟨f, hf⟩ : ∃ f, fs[j]? = some f := ⟨fs[j], List.getElem?_eq_getElem hlt⟩
      obtain ⟨g, rfl⟩ := HAO.out (by omega)
      obtain ⟨g', cap', e', hcj⟩ := hI3.at hf
      cases e'
      obtain ⟨xj, hxj, hrj⟩ := HF.out.get hf
      have hst := hFx.staying
      have HRJ := hide ((RepD.world hst hrj).append (ms := ms))
      have HRA := hide ((HR.out.world hst).append (ms := ms))
      have HOld := hide (show Old (two X (.slice (some ⟨g, 0, none⟩) fs.length cap) w.heap.size) wr from by
        rintro k (hk | hk | rfl)
        · exact (HX.out.fx hFx) k hk
        · obtain ⟨c, hc⟩ := hI3.block hk; exact lt_of_get hc
        · exact lt_of_get hO)
      have HQJ := hide (HQ.out xj (List.mem_of_getElem? hxj))
      have HFx := hide hFx
      have HSh := hide hSh
      have HI3 := hide hI3
      have HO := hide hO
      have HTK := hide htk
      have HF2 := hide hF2
      have HXJ := hide hxj
      clear hFx hSh hI3 hO htk hF2 hxj hrj hst hf
      go_wp2_with fail
      refine (join_any _ S n0 (ns ++ ms) Q xj a f wr HOld.out HSh.out HRJ.out ha HRA.out HQJ.out).mono ?_
      rintro e w2 ⟨i2, ks, rfl, hF2, hS2, hR2⟩
      have hO2 : w2.heap[w.heap.size]? = some (.cells cur 3 (0, 0)) := (hF2.keep _ (.inr (.inr rfl))).trans HO.out
      have o1 : w2.cell? ⟨w.heap.size, j, none⟩ = some (cur[j]'(by omega)) := by
        simp [World.cell?, hO2, hsz, hlt]
      have of : w2.frozen? ⟨w.heap.size, j, none⟩ = false := by simp [World.frozen?, hO2]
      have HF2' := hide hF2
      have HS2 := hide hS2
      have HR2 := hide hR2
      have HO2 := hide hO2
      clear hF2 hS2 hR2 hO2
      go_wp2_with fail
      obtain ⟨k', rfl⟩ : ∃ k', gk = k' + 1 := ⟨gk - 1, by omega⟩
      have hstep := each_step HX.out HI.out hj HFx.out HI3.out hsz HTK.out HF2.out HXJ.out HF2'.out HS2.out HR2.out HO2.out
      go_roundg k'
      case measure => omega
      case rel => exact hstep
    · have HFx := hide hFx
      have HSh := hide hSh
      have HO := hide hO
      have HTK := hide htk
      have HF2 := hide hF2
      clear hFx hSh hI3 hO htk hF2
      go_wp2_with fail
      go_ret
      exact each_end HX.out hlen HF.out.length (by omega) HFx.out HSh.out HO.out hsz HTK.out HF2.out
end Go.Proofs.YtgncgdkpkkdaeaaDoor
