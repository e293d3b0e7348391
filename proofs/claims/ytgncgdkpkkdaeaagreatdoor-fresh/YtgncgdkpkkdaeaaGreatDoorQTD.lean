/- Put together from TD. -/
import Derived.Test.YtgncgdkpkkdaeaaGreatDoorQTC
import Derived.Test.YtgncgdkpkkdaeaaGreatDoorQK
import Derived.WalkSmall
/- The document's own search: rows of places; none. The document's own search: enter. -/
namespace Go.Proofs.YtgncgdkpkkdaeaaGreatDoor.Ref
open Go.RowKit Tint

theorem PlanAt.later {w w' : World} {B P : Nat} {ls : List (Value × Sp)} {first : Int} (h : PlanAt w B P ls first) (hB : B ≤ w.heap.size) (hb : Below w.heap.size w w') : PlanAt w' B P ls first := by
  obtain ⟨sv, h1, h2⟩ := h.ex
  exact ⟨⟨sv, (hb.block P (lt_of_get h1)).trans h1, ownsRow_keep h2 (fun k e => hb.block k (ownsRow_lt h2 e).2)⟩, fun l hl => (h.ons l hl).below ⟨hb.os, hb.tape, hb.output, hb.size, fun k hk => hb.block k (by omega)⟩, h.hP⟩

/-- A row of places, at block G. -/
def RowAt (w : World) (G : Nat) (ons : List (Option Nat)) : Prop := w.heap[G]? = some (.cells (ons.map optv).toArray 3 (0, 0))

def atk (ons : List (Option Nat)) (k : Nat) : Option Nat := (ons[k]?).getD none

theorem RowAt.cell {w : World} {G : Nat} {ons : List (Option Nat)} (h : RowAt w G ons) {k : Nat} (hk : k < ons.length) : w.cell? ⟨G, k, none⟩ = some (optv (atk ons k)) ∧ w.frozen? ⟨G, k, none⟩ = false := by
  unfold RowAt at h
  refine ⟨?_, by simp [World.frozen?, h]⟩
  simp [World.cell?, h, atk, List.getElem?_eq_getElem hk]

theorem RowAt.put {w : World} {G : Nat} {ons : List (Option Nat)} (h : RowAt w G ons) (k b : Nat) : RowAt (w.setCell ⟨G, k, none⟩ (.int .i64 b)) G (ons.set k (some b)) := by
  unfold RowAt at *
  rw [heap_setCell_same w G k _ h, List.setIfInBounds_toArray, List.map_set]
  rfl

theorem atk_set (ons : List (Option Nat)) (k b j : Nat) (hk : k < ons.length) : atk (ons.set k (some b)) j = if j = k then some b else atk ons j := by
  unfold atk
  rw [List.getElem?_set]
  by_cases h : k = j
  · subst h; simp [hk]
  · rw [if_neg h, if_neg (fun e => h e.symm)]

def zeros (n : Nat) : Array Value := (List.replicate n (Value.int .i64 0)).toArray

theorem fill_next (j k : Nat) : (List.replicate j (Value.int .i64 (-1)) ++ List.replicate (k + 1) (Value.int .i64 0)).set j (.int .i64 (-1)) = List.replicate (j + 1) (Value.int .i64 (-1)) ++ List.replicate k (Value.int .i64 0) := by
  rw [List.set_append_right _ _ (by simp), List.length_replicate, Nat.sub_self, List.replicate_succ (n := k), List.set_cons_zero, List.replicate_succ' (n := j), List.append_assoc]
  rfl

theorem make_ints (w : World) (n : Nat) (hn : n ≤ 1000) : (Instr.makeSlice 57 (.int .i64 n) (.int .i64 n)).run Tryz.prog w = .ok (.slice (some ⟨w.heap.size, 0, none⟩) n n) (w.alloc (.cells (zeros n) 3)) := by
  obtain ⟨i, hi, h0, h1, h2⟩ := info_parts (show (Tryz.prog.info? 3).map (fun i => (i.zero, i.size, i.bytes)) = some (some (.int .i64 0), 1, 8) by kernel_rfl)
  rw [run_make w 57 3 i (.int .i64 0) Tryz.underlying57 hi h0 .i64 .i64 n n (by omega) (by omega) (by rw [h2]; omega) (by omega)]
  have : madeCells (Value.int .i64 0).cells ((n : Int).toNat * i.size) = zeros n := by
    rw [h1]
    apply Array.toList_inj.1
    show (madeCells #[.int .i64 0] ((n : Int).toNat * 1)).toList = _
    rw [toList_madeCells_one]
    simp [zeros]
  rw [this]
  simp

def NoneLoop (w : World) (G n k : Nat) (vi : Value) (wr : World) : Prop :=
  ∃ j, vi = .int .i64 (j : Nat) ∧ j + k = n ∧ Below G w wr ∧ wr.heap[G]? = some (.cells (List.replicate j (Value.int .i64 (-1)) ++ List.replicate k (Value.int .i64 0)).toArray 3 (0, 0))

def NonePost (n : Nat) (w : World) (e : Ending) (w' : World) : Prop := e = .returned (.slice (some ⟨w.heap.size, 0, none⟩) n n) ∧ RowAt w' w.heap.size (List.replicate n none) ∧ Below w.heap.size w w'

set_option maxRecDepth 20000 in
set_option maxHeartbeats 1000000 in
theorem none_any (B P : Nat) (ls : List (Value × Sp)) (first : Int) (w : World) (h : PlanAt w B P ls first) (h0 : 0 < ls.length) (hn : ls.length ≤ 300) : Calls Tryz.prog 105 #[.pointer (some ⟨P, 0, none⟩)] w (NonePost ls.length w) := by
  obtain ⟨g, cap, m1, m2, m3, m4, m5, m6⟩ := h.mem h0
  obtain ⟨n, hnn⟩ : ∃ n, n = ls.length := ⟨_, rfl⟩
  rw [← hnn] at m1 hn ⊢
  have hmk := make_ints w n (by omega)
  clear h m2 m3 m4 m5 m6 h0 hnn
  go_enter Tryz.func105, Tryz.ntmps105
  go_wp2_with fail
  have HR0 := hide (heap_alloc_last w (.cells (zeros n) 3))
  have HB0 := hide (show Below w.heap.size w (w.alloc (.cells (zeros n) 3)) from (Below.refl _ _).alloc (Nat.le_refl _) _)
  obtain ⟨G, hG⟩ : ∃ G, G = w.heap.size := ⟨_, rfl⟩
  rw [← hG] at HR0 HB0 ⊢
  have HG := hide hG
  clear hmk hG m1
  generalize w.alloc (.cells (zeros n) 3) = w1 at *
  go_loopg [4] n (fun k vi wr => NoneLoop w G n k vi wr)
  case atStart => exact ⟨0, rfl, by omega, HB0.out, by rw [List.replicate_zero, List.nil_append]; exact HR0.out⟩
  case round =>
    obtain ⟨j, rfl, hj, hb, hr⟩ := hrel
    have HB := hide hb
    have HR := hide hr
    cases gk with
    | zero =>
      have hge : ¬ j < n := by omega
      have hg1 : decide (j < n) = false := by simpa using hge
      have HEND := hide (show NonePost n w (.returned (.slice (some ⟨G, 0, none⟩) n n)) wr from ⟨by rw [HG.out], by
        have h := HR.out
        rw [HG.out] at h
        unfold RowAt
        rw [h]
        obtain rfl : j = n := by omega
        simp [optv], by have h := HB.out; rwa [HG.out] at h⟩)
      clear hb hr
      go_wp2_with fail
      go_ret
      exact HEND.out
    | succ k =>
      have hjl : j < n := by omega
      have hg1 : decide ((j : Int) < (n : Int)) = true := by simpa using hjl
      have c1 : wr.cell? ⟨G, j, none⟩ = some (.int .i64 0) := by
        simp [World.cell?, hr]
      have f1 : wr.frozen? ⟨G, j, none⟩ = false := by simp [World.frozen?, hr]
      have HST := hide (show NoneLoop w G n k (.int .i64 ((j + 1 : Nat) : Int)) (wr.setCell ⟨G, j, none⟩ (.int .i64 (-1))) from ⟨j + 1, rfl, by omega, hb.setCell (Nat.le_refl _) _, by
        rw [heap_setCell_same wr G j _ hr, List.setIfInBounds_toArray, fill_next]⟩)
      clear hb hr
      go_wp2_with fail
      go_roundg k
      case measure => omega
      case rel => exact HST.out
end Go.Proofs.YtgncgdkpkkdaeaaGreatDoor.Ref

namespace Go.Proofs.YtgncgdkpkkdaeaaGreatDoor.Ref
open Go.RowKit Tint

def EnterPost (F : List Sp) (G spot began : Nat) (ons : List (Option Nat)) (w : World) (e : Ending) (w' : World) : Prop :=
  ∃ ons', e = .returned (.tuple #[]) ∧ Ap G w w' ∧ RowAt w' G ons' ∧ ons'.length = ons.length ∧ Ent F spot began (atk ons) (atk ons') ∧ Closed F (atk ons')

def EnterLoop (F : List Sp) (G spot began : Nat) (ons : List (Option Nat)) (w : World) (k : Nat) (vt : Value) (wr : World) : Prop :=
  ∃ (ts cur : List (Option Nat)) (g cap : Nat), vt = .slice (some ⟨g, 0, none⟩) ts.length cap ∧ wr.ownsRow w.heap.size 3 1 (.slice (some ⟨g, 0, none⟩) ts.length cap) ts.length (ts.map optv) ∧ Ap G w wr ∧ RowAt wr G cur ∧ cur.length = ons.length ∧ EntInv F spot began (atk ons) (atk cur) ts ∧ (∀ j, some j ∈ ts → j < ons.length) ∧ k = ts.length + 3 * cur.countP (later began) ∧ k ≤ 1 + 3 * ons.length

theorem info_int1 : (Tryz.prog.info? 3).map (fun i => (i.zero, i.size, i.bytes)) = some (some (.int .i64 0), 1, 8) := by kernel_rfl

theorem one_ints (a b : Int) : ∀ u ∈ [Value.int .i64 a, .int .i64 b], u.oneCell' = true := by
  intro u hu
  simp only [List.mem_cons, List.not_mem_nil, or_false] at hu
  rcases hu with rfl | rfl <;> rfl

theorem enter_push {F : List Sp} {G spot began : Nat} {ons : List (Option Nat)} {w W W1 w5 : World} {ts' cur2 : List (Option Nat)} {g g' cap' n : Nat} {to or : Option Nat} {zt zo : Int} (hGl : G < w.heap.size) (hg : w.heap.size ≤ g) (hap : Ap G w W) (hrow : RowAt W G cur2) (hlen : cur2.length = ons.length) (hinv : EntInv F spot began (atk ons) (atk cur2) (ts' ++ [to, or])) (hts : ∀ j, some j ∈ ts' → j < ons.length) (hlk : ∀ j, to = some j ∨ or = some j → j < ons.length)
    (hn : n = (ts' ++ [to, or]).length + 3 * cur2.countP (later began)) (hn2 : n ≤ 1 + 3 * ons.length) (hzt : optv to = .int .i64 zt) (hzo : optv or = .int .i64 zo) (hW1 : Below W.heap.size W W1) (hown : w5.ownsRow w.heap.size 3 1 (.slice (some ⟨g', 0, none⟩) (ts'.length + 2) cap') (ts'.length + 2) (ts'.map optv ++ [.int .i64 zt, .int .i64 zo])) (hgr : W1.grownBy w5 (some g)) :
    EnterLoop F G spot began ons w n (.slice (some ⟨g', 0, none⟩) (ts'.length + 2) cap') w5 := by
  have hl : (ts' ++ [to, or]).length = ts'.length + 2 := by simp
  have hGW : G < W.heap.size := Nat.lt_of_lt_of_le hGl hap.size
  have hsame : ∀ k, k < W.heap.size → k ≠ g → w5.heap[k]? = W.heap[k]? := fun k h1 h2 => (hgr.block k (Nat.lt_of_lt_of_le h1 hW1.size) (fun e => h2 (Option.some.inj e))).trans (hW1.block k h1)
  refine ⟨ts' ++ [to, or], cur2, g', cap', by rw [hl], ?_, ⟨hgr.os.trans (hW1.os.trans hap.os), hgr.tape.trans (hW1.tape.trans hap.tape), hgr.output.trans (hW1.output.trans hap.output), Nat.le_trans hap.size (Nat.le_trans hW1.size hgr.size), fun k hk1 hk2 => ?_⟩, ?_, hlen, hinv, fun j hj => ?_, hn, hn2⟩
  · rw [hl, List.map_append]
    simp only [List.map_cons, List.map_nil, hzt, hzo]
    exact hown
  · rw [hsame k (Nat.lt_of_lt_of_le hk1 hap.size) (by omega)]
    exact hap.keep k hk1 hk2
  · exact (hsame G hGW (by omega)).trans hrow
  · rcases List.mem_append.1 hj with h | h
    · exact hts j h
    · simp only [List.mem_cons, List.not_mem_nil, or_false] at h
      exact hlk j (h.imp Eq.symm Eq.symm)

set_option maxRecDepth 20000 in
set_option maxHeartbeats 2000000 in
theorem enter_any (wP : World) (B P : Nat) (ls : List (Value × Sp)) (first : Int) (hP : PlanAt wP B P ls first) (hBP : B ≤ wP.heap.size) (h0 : 0 < ls.length) (hn : ls.length ≤ 300) (hlk : ∀ l ∈ ls, Linked ls.length l.2)
    (G spot began : Nat) (ons : List (Option Nat)) (w : World) (hb : Below wP.heap.size wP w) (hG : wP.heap.size ≤ G) (hR : RowAt w G ons) (hlen : ons.length = ls.length) (hcl : Closed (ls.map (·.2)) (atk ons)) (hsp : spot < ls.length) :
    Calls Tryz.prog 106 #[.pointer (some ⟨P, 0, none⟩), .slice (some ⟨G, 0, none⟩) ls.length ls.length, .int .i64 spot, .int .i64 began] w (EnterPost (ls.map (·.2)) G spot began ons w) := by
  have HR := hide hR
  have HP := hide hP
  have HLK := hide hlk
  have HB := hide hb
  have HLEN := hide hlen
  have HCL := hide hcl
  have HGl := hide (lt_of_get hR)
  clear hR hP hlk hb hlen hcl
  go_enter Tryz.func106, Tryz.ntmps106
  go_wp2_with fail
  go_loopg [8] (1 + 3 * ons.countP (later began)) (fun k vt wr => EnterLoop (ls.map (·.2)) G spot began ons w k vt wr)
  case atStart =>
    refine ⟨[some spot], ons, w.heap.size, 1, rfl, ⟨rfl, .inr ⟨w.heap.size, 1, #[.int .i64 spot], rfl, Nat.le_refl _, heap_alloc_last _ _, Nat.le_refl _, by unfold maxLen; omega, rfl, rfl⟩⟩, (Ap.refl _ _).alloc _, heap_alloc_old HR.out, rfl, EntInv.begin HCL.out, fun j hj => ?_, rfl, by have := List.countP_le_length (p := later began) (l := ons); omega⟩
    obtain rfl : j = spot := by simpa using hj
    rw [HLEN.out]; exact hsp
  case round =>
    obtain ⟨ts, cur, g, cap, rfl, hown, hap, hrow, hcl, hinv, hts, hk, ht1⟩ := hrel
    have HAP := hide hap
    have HROW := hide hrow
    have HINV := hide hinv
    have HTS := hide hts
    have HK := hide hk
    have HCUR := hide hcl
    have HOWN := hide hown
    clear hap hrow hinv hts hk hcl hown
    rcases List.eq_nil_or_concat ts with rfl | ⟨ts', t, rfl⟩
    · obtain ⟨h1, h2⟩ := HINV.out.done
      have HEND := hide (show EnterPost (ls.map (·.2)) G spot began ons w (.returned (.tuple #[])) wr from ⟨cur, rfl, HAP.out, HROW.out, HCUR.out, h1, h2⟩)
      clear h1 h2
      go_wp2_with fail
      go_end0
      exact HEND.out
    · rw [List.concat_eq_append] at *
      have hl1 : (ts' ++ [t]).length = ts'.length + 1 := by simp
      have hl2 : ts'.length + 1 ≤ 1 + 3 * ons.length := by have := HK.out; rw [hl1] at this; omega
      have hl3 : ts'.length ≤ 1000 := by have := HLEN.out; omega
      have hown1 : wr.ownsRow w.heap.size 3 1 (.slice (some ⟨g, 0, none⟩) (ts'.length + 1) cap) (ts'.length + 1) (ts'.map optv ++ [optv t]) := by
        have h := HOWN.out
        rw [hl1, List.map_append] at h
        exact h
      have HPOP := hide (ownsRow_pop (by simp) hown1)
      have ct : wr.cell? ⟨g, ts'.length, none⟩ = some (optv t) := by
        rcases hown1.2 with ⟨h1, _⟩ | ⟨g', cap', cr, h1, _, h2, h3, _, h4, h5⟩
        · cases h1
        · cases h1
          have h6 : cr[ts'.length]? = some (optv t) := by
            have h7 : (cr.toList.take ((ts'.length + 1) * 1))[ts'.length]? = some (optv t) := by rw [h5]; simp
            rw [List.getElem?_take, if_pos (by omega)] at h7
            simpa using h7
          simp [World.cell?, h2, h6]
      have hcap : ts'.length + 1 ≤ cap := by
        rcases hown1.2 with ⟨h1, _⟩ | ⟨g', cap', cr, h1, _, h2, h3, _, h4, h5⟩
        · cases h1
        · cases h1; exact h3
      clear hown1 HOWN
      rw [hl1]
      cases t with
      | none =>
        simp only [optv] at ct
        have HST := hide (show EnterLoop (ls.map (·.2)) G spot began ons w (ts'.length + 3 * cur.countP (later began)) (.slice (some ⟨g, 0, none⟩) ts'.length cap) wr from ⟨ts', cur, g, cap, rfl, HPOP.out, HAP.out, HROW.out, HCUR.out, HINV.out.skip (fun k e => by cases e), fun j hj => HTS.out j (by simp [hj]), rfl, by have := HK.out; rw [hl1] at this; omega⟩)
        have HMS := hide (show ts'.length + 3 * cur.countP (later began) < gk by have := HK.out; rw [hl1] at this; omega)
        clear hl1 hl2
        go_wp2_with fail
        go_roundg (ts'.length + 3 * cur.countP (later began))
        case measure => exact HMS.out
        case rel => exact HST.out
      | some k =>
        simp only [optv] at ct
        have hkl : k < ls.length := by have := HTS.out k (by simp); rw [HLEN.out] at this; exact this
        have hkc : k < cur.length := by rw [HCUR.out, HLEN.out]; exact hkl
        obtain ⟨hc1, hc2⟩ := HROW.out.cell hkc
        have hbw := HB.out.trans (HAP.out.below (B := wP.heap.size) HB.out.size hG)
        have HPW := hide (HP.out.later hBP (hbw.trans ((Below.refl _ wr).setCell (p := ⟨G, k, none⟩) hG (.int .i64 began))))
        obtain ⟨⟨v, s⟩, hl⟩ : ∃ l, ls[k]? = some l := ⟨_, List.getElem?_eq_getElem hkl⟩
        obtain ⟨g2, cap2, m1, m2, m3, m4, m5, m6⟩ := HPW.out.mem h0
        obtain ⟨m7, m8, m9⟩ := m4 k _ hl
        have hov := HPW.out.ons (v, s) (List.mem_of_getElem? hl)
        have HF := hide (show (ls.map (·.2))[k]? = some s by rw [List.getElem?_map, hl]; rfl)
        have HLS := hide (HLK.out (v, s) (List.mem_of_getElem? hl))
        have HKK := hide (show gk = ts'.length + 1 + 3 * cur.countP (later began) by have := HK.out; rwa [hl1] at this)
        have HT2 := hide (show ∀ j, some j ∈ ts' → j < ons.length from fun j hj => HTS.out j (by simp [hj]))
        have hcc : cur[k]? = some (atk cur k) := by simp [atk, List.getElem?_eq_getElem hkc]
        have HCC := hide hcc
        have HAP2 := hide (show Ap G w (wr.setCell ⟨G, k, none⟩ (.int .i64 began)) from HAP.out.setCell rfl _)
        have HROW2 := hide (HROW.out.put k began)
        have HCUR2 := hide (show (cur.set k (some began)).length = ons.length by rw [List.length_set]; exact HCUR.out)
        have HATK := hide (atk_set cur k began · hkc)
        have HPOP2 := hide (show (wr.setCell ⟨G, k, none⟩ (.int .i64 began)).ownsRow w.heap.size 3 1 (.slice (some ⟨g, 0, none⟩) ts'.length cap) ts'.length (ts'.map optv) from ownsRow_keep HPOP.out (fun x e => Below.heap_setCell _ _ _ _ (by show x ≠ G; have := (ownsRow_lt HPOP.out e).1; have := HGl.out; omega)))
        have ht1' := ht1
        clear hcc hl m2 m3 m4 m5 m6 hbw HK HTS hl1 hl2 HPW
        generalize hak : atk cur k = ak at *
        by_cases hle : ∃ c, ak = some c ∧ c ≤ began
        · obtain ⟨c, rfl, hcb⟩ := hle
          simp only [optv] at hc1
          have g1 : decide ((c : Int) ≤ (began : Int)) = true := by simp; omega
          have HST := hide (show EnterLoop (ls.map (·.2)) G spot began ons w (ts'.length + 3 * cur.countP (later began)) (.slice (some ⟨g, 0, none⟩) ts'.length cap) wr from ⟨ts', cur, g, cap, rfl, HPOP.out, HAP.out, HROW.out, HCUR.out, HINV.out.skip (fun j e => by cases e; exact ⟨c, hak, hcb⟩), HT2.out, rfl, by have := HKK.out; omega⟩)
          have HMS := hide (show ts'.length + 3 * cur.countP (later began) < gk by have := HKK.out; omega)
          clear hak m1 m7 m8 m9 hov
          go_wp2_with fail
          go_roundg (ts'.length + 3 * cur.countP (later began))
          case measure => exact HMS.out
          case rel => exact HST.out
        · have HLA := hide (show later began ak = true by
            cases ak with
            | none => rfl
            | some c => simp [later]; exact Nat.lt_of_not_le fun e => hle ⟨c, rfl, e⟩)
          have HCN := hide (show ∀ c, atk cur k = some c → began < c from fun c e => Nat.lt_of_not_le fun e2 => hle ⟨c, by rw [← hak, e], e2⟩)
          have HCNT := hide (later_set HCC.out HLA.out)
          obtain ⟨on, to, or⟩ := s
          obtain ⟨zt, hzt⟩ : ∃ z, optv to = .int .i64 z := by cases to <;> exact ⟨_, rfl⟩
          obtain ⟨zo, hzo⟩ : ∃ z, optv or = .int .i64 z := by cases or <;> exact ⟨_, rfl⟩
          simp only [hzt, hzo] at m8 m9
          have hgd : ∃ z : Int, optv ak = .int .i64 z ∧ ((z < 0) ∨ (0 ≤ z ∧ (began : Int) < z)) := by
            cases ak with
            | none => exact ⟨-1, rfl, .inl (by decide)⟩
            | some c => exact ⟨c, rfl, .inr ⟨by omega, by have := Nat.lt_of_not_le fun e => hle ⟨c, rfl, e⟩; omega⟩⟩
          obtain ⟨z, hz, hzz⟩ := hgd
          rw [hz] at hc1
          clear hle hak hz
          cases on with
          | some cls =>
            obtain ⟨A, onl, hA1, hA2, hA3, hA4⟩ := hov
            simp only at hA1
            rw [hA1] at m7
            have HST := hide (show EnterLoop (ls.map (·.2)) G spot began ons w (ts'.length + 3 * (cur.set k (some began)).countP (later began)) (.slice (some ⟨g, 0, none⟩) ts'.length cap) (wr.setCell ⟨G, k, none⟩ (.int .i64 began)) from ⟨ts', _, g, cap, rfl, HPOP2.out, HAP2.out, HROW2.out, HCUR2.out, by
              have := HINV.out.set (us := []) HF.out HCN.out HATK.out (fun j e => by cases e) (fun e => by cases e)
              rwa [List.append_nil] at this, HT2.out, rfl, by have := HKK.out; have := HCNT.out; omega⟩)
            have HMS := hide (show ts'.length + 3 * (cur.set k (some began)).countP (later began) < gk by have := HKK.out; have := HCNT.out; omega)
            clear hA1 hA2 hA3 hA4
            rcases hzz with hz1 | ⟨hz1, hz2⟩
            · have g1 : decide (0 ≤ z) = false := by simp; omega
              go_wp2_with fail
              go_roundg (ts'.length + 3 * (cur.set k (some began)).countP (later began))
              case measure => exact HMS.out
              case rel => exact HST.out
            · have g1 : decide (0 ≤ z) = true := by simp; omega
              have g2 : decide (z ≤ (began : Int)) = false := by simp; omega
              go_wp2_with fail
              go_roundg (ts'.length + 3 * (cur.set k (some began)).countP (later began))
              case measure => exact HMS.out
              case rel => exact HST.out
          | none =>
            simp only [OnVal] at hov
            rw [hov] at m7
            clear hov
            have HIN2 := hide (HINV.out.set (us := [to, or]) HF.out HCN.out HATK.out (fun j e => by
              simp only [List.mem_cons, List.not_mem_nil, or_false] at e
              exact ⟨rfl, e.imp Eq.symm Eq.symm⟩) (fun _ j e => by
              simp only [List.mem_cons, List.not_mem_nil, or_false]
              exact e.imp Eq.symm Eq.symm))
            have HLJ := hide (show ∀ j, to = some j ∨ or = some j → j < ons.length from fun j e => by
              rw [HLEN.out]
              exact e.elim (HLS.out.1 j) (HLS.out.2.1 j))
            have HGG := hide (show w.heap.size ≤ g from (ownsRow_lt HPOP.out rfl).1)
            have HN2 := hide (show (ts' ++ [to, or]).length + 3 * (cur.set k (some began)).countP (later began) ≤ 1 + 3 * ons.length by have := HKK.out; have := HCNT.out; simp only [List.length_append, List.length_cons, List.length_nil]; omega)
            have HMS := hide (show (ts' ++ [to, or]).length + 3 * (cur.set k (some began)).countP (later began) < gk by have := HKK.out; have := HCNT.out; simp only [List.length_append, List.length_cons, List.length_nil]; omega)
            obtain ⟨i0, hi, hz0, hz1', hz3⟩ := info_parts info_int1
            rcases hzz with hz1 | ⟨hz1, hz2⟩
            · have g1 : decide (0 ≤ z) = false := by simp; omega
              go_wp2_with fail
              have HB4 := hide (show w.heap.size ≤ (wr.setCell ⟨G, k, none⟩ (.int .i64 began)).heap.size from HAP2.out.size)
              clear hc1 hc2 ct
              generalize wr.setCell ⟨G, k, none⟩ (.int .i64 began) = W2 at *
              have m1' := cell_alloc_old m1 (.cells #[.int .i64 zt, .int .i64 zo] 3)
              have m8' := cell_alloc_old m8 (.cells #[.int .i64 zt, .int .i64 zo] 3)
              have m9' := cell_alloc_old m9 (.cells #[.int .i64 zt, .int .i64 zo] 3)
              go_region_law (go_loud (refine step_append_at rfl (.tmp 57) (.tmp 74) 57 rfl w.heap.size 3 i0 (.int .i64 0) 1 8 Tryz.underlying57 hi hz0 hz1' hz3 rfl (by decide) (.slice (some ⟨g, 0, none⟩) ts'.length cap) ts'.length (ts'.map optv) (by rfl) (by exact row_alloc HPOP2.out _) ⟨W2.heap.size, 0, none⟩ 2 2 [.int .i64 zt, .int .i64 zo] (by rfl) (by rfl) (by exact cell_new_row W2 #[.int .i64 zt, .int .i64 zo] _) (one_ints zt zo) (by unfold maxLen; omega) (by omega) (by have := HB4.out; simp; omega) ?_; intro v' w5 hown hg _; obtain ⟨g', cap', rfl⟩ := own_form hown (by omega); have HST := hide (enter_push (n := (ts' ++ [to, or]).length + 3 * (cur.set k (some began)).countP (later began)) HGl.out HGG.out HAP2.out HROW2.out HCUR2.out HIN2.out HT2.out HLJ.out rfl HN2.out hzt hzo (((Below.refl _ W2).alloc (Nat.le_refl _) (.cells #[.int .i64 zt, .int .i64 zo] 3)).drew) hown hg); clear hown hg))
              all_goals
                go_wp2_with fail
                go_roundg ((ts' ++ [to, or]).length + 3 * (cur.set k (some began)).countP (later began))
                case measure => exact HMS.out
                case rel => exact HST.out
            · have g1 : decide (0 ≤ z) = true := by simp; omega
              have g2 : decide (z ≤ (began : Int)) = false := by simp; omega
              go_wp2_with fail
              have HB4 := hide (show w.heap.size ≤ (wr.setCell ⟨G, k, none⟩ (.int .i64 began)).heap.size from HAP2.out.size)
              clear hc1 hc2 ct
              generalize wr.setCell ⟨G, k, none⟩ (.int .i64 began) = W2 at *
              have m1' := cell_alloc_old m1 (.cells #[.int .i64 zt, .int .i64 zo] 3)
              have m8' := cell_alloc_old m8 (.cells #[.int .i64 zt, .int .i64 zo] 3)
              have m9' := cell_alloc_old m9 (.cells #[.int .i64 zt, .int .i64 zo] 3)
              go_region_law (go_loud (refine step_append_at rfl (.tmp 57) (.tmp 74) 57 rfl w.heap.size 3 i0 (.int .i64 0) 1 8 Tryz.underlying57 hi hz0 hz1' hz3 rfl (by decide) (.slice (some ⟨g, 0, none⟩) ts'.length cap) ts'.length (ts'.map optv) (by rfl) (by exact row_alloc HPOP2.out _) ⟨W2.heap.size, 0, none⟩ 2 2 [.int .i64 zt, .int .i64 zo] (by rfl) (by rfl) (by exact cell_new_row W2 #[.int .i64 zt, .int .i64 zo] _) (one_ints zt zo) (by unfold maxLen; omega) (by omega) (by have := HB4.out; simp; omega) ?_; intro v' w5 hown hg _; obtain ⟨g', cap', rfl⟩ := own_form hown (by omega); have HST := hide (enter_push (n := (ts' ++ [to, or]).length + 3 * (cur.set k (some began)).countP (later began)) HGl.out HGG.out HAP2.out HROW2.out HCUR2.out HIN2.out HT2.out HLJ.out rfl HN2.out hzt hzo (((Below.refl _ W2).alloc (Nat.le_refl _) (.cells #[.int .i64 zt, .int .i64 zo] 3)).drew) hown hg); clear hown hg))
              all_goals
                go_wp2_with fail
                go_roundg ((ts' ++ [to, or]).length + 3 * (cur.set k (some began)).countP (later began))
                case measure => exact HMS.out
                case rel => exact HST.out
end Go.Proofs.YtgncgdkpkkdaeaaGreatDoor.Ref

