/- Put together from H2, H3. -/
import Derived.Test.YtgncgdkpkkdaeaaGreatDoorQX
import Derived.Test.YtgncgdkpkkdaeaaGreatDoorQTE
import Derived.Test.YtgncgdkpkkdaeaaGreatDoorQVG
/- The document's going through a line: hits in memory; none. -/
namespace Go.Proofs.YtgncgdkpkkdaeaaGreatDoor
open Go.RowKit Tint Go.Maps

def hc (p : Int × Int) : List Value := [.int .i64 p.1, .int .i64 p.2]

/-- Where the rules are found, at block b. -/
def HitsAt (w : World) (b : Nat) (hs : List (Int × Int)) : Prop := w.heap[b]? = some (.cells (hs.flatMap hc).toArray 167 (0, 0))

theorem hits_get {hs : List (Int × Int)} {i : Nat} {p : Int × Int} (h : hs[i]? = some p) (j : Nat) (hj : j < 2) : (hs.flatMap hc)[i * 2 + j]? = (hc p)[j]? := by
  rw [List.flatMap_def]
  exact flatten_at (si := 2) (by intro r hr; obtain ⟨x, _, rfl⟩ := List.mem_map.1 hr; rfl) (by rw [List.getElem?_map, h]; rfl) j hj

theorem HitsAt.cell {w : World} {b : Nat} {hs : List (Int × Int)} (h : HitsAt w b hs) {i : Nat} {p : Int × Int} (hi : hs[i]? = some p) : w.cell? ⟨b, i * 2, none⟩ = some (.int .i64 p.1) ∧ w.cell? ⟨b, i * 2 + 1, none⟩ = some (.int .i64 p.2) ∧ w.frozen? ⟨b, i * 2, none⟩ = false ∧ w.frozen? ⟨b, i * 2 + 1, none⟩ = false := by
  unfold HitsAt at h
  refine ⟨cell_at h ?_, cell_at h ?_, by simp [World.frozen?, h], by simp [World.frozen?, h]⟩
  · rw [List.getElem?_toArray]; exact hits_get hi 0 (by omega)
  · rw [List.getElem?_toArray]; exact hits_get hi 1 (by omega)

theorem hits_set {hs : List (Int × Int)} {i : Nat} {p : Int × Int} (h : hs[i]? = some p) (a c : Int) : ((hs.flatMap hc).set (i * 2) (.int .i64 a)).set (i * 2 + 1) (.int .i64 c) = (hs.set i (a, c)).flatMap hc := by
  have hsz : ∀ (l : List (Int × Int)), ∀ r ∈ l.map hc, r.length = 2 := fun l r hr => by obtain ⟨x, _, rfl⟩ := List.mem_map.1 hr; rfl
  have h1 : (hs.map hc)[i]? = some (hc p) := by rw [List.getElem?_map, h]; rfl
  have e1 := flatten_set (hsz hs) h1 (o := 0) (by omega) (.int .i64 a)
  have h2 : ((hs.map hc).set i ((hc p).set 0 (.int .i64 a)))[i]? = some ((hc p).set 0 (.int .i64 a)) := by rw [List.getElem?_set_self (get_lt h1)]
  have e2 := flatten_set (rs := (hs.map hc).set i ((hc p).set 0 (.int .i64 a))) (si := 2) (fun r hr => by
    rcases List.mem_or_eq_of_mem_set hr with hr | rfl
    · exact hsz hs r hr
    · rfl) h2 (o := 1) (by omega) (.int .i64 c)
  rw [Nat.add_zero] at e1
  rw [List.flatMap_def, List.flatMap_def, ← e1, ← e2, List.set_set, List.map_set]
  rfl

theorem HitsAt.put {w : World} {b : Nat} {hs : List (Int × Int)} (h : HitsAt w b hs) {i : Nat} {p : Int × Int} (hi : hs[i]? = some p) (a c : Int) : HitsAt ((w.setCell ⟨b, i * 2, none⟩ (.int .i64 a)).setCell ⟨b, i * 2 + 1, none⟩ (.int .i64 c)) b (hs.set i (a, c)) := by
  unfold HitsAt at *
  rw [heap_setCell_same _ b (i * 2 + 1) _ (heap_setCell_same w b (i * 2) _ h), List.setIfInBounds_toArray, List.setIfInBounds_toArray, hits_set hi]

theorem HitsAt.put1 {w : World} {b : Nat} {hs : List (Int × Int)} (h : HitsAt w b hs) {i : Nat} {p : Int × Int} (hi : hs[i]? = some p) (a : Int) : HitsAt (w.setCell ⟨b, i * 2, none⟩ (.int .i64 a)) b (hs.set i (a, p.2)) := by
  unfold HitsAt at *
  have e := hits_set hi a p.2
  have h1 : ((hs.flatMap hc).set (i * 2) (.int .i64 a))[i * 2 + 1]? = some (.int .i64 p.2) := by
    rw [List.getElem?_set_ne (by omega), hits_get hi 1 (by omega)]; rfl
  rw [set_self h1] at e
  rw [heap_setCell_same w b (i * 2) _ h, List.setIfInBounds_toArray, e]

theorem info_hit : (Tryz.prog.info? 167).map (fun i => (i.zero, i.size, i.bytes)) = some (some (.agg #[.int .i64 0, .int .i64 0]), 2, 16) := by kernel_rfl

theorem make_hits (w : World) (n : Nat) (hn : n ≤ 1000) : (Instr.makeSlice 162 (.int .i64 n) (.int .i64 n)).run Tryz.prog w = .ok (.slice (some ⟨w.heap.size, 0, none⟩) n n) (w.alloc (.cells ((List.replicate n ((0 : Int), (0 : Int))).flatMap hc).toArray 167)) := by
  obtain ⟨i, hi, h0, h1, h2⟩ := info_parts info_hit
  rw [run_make w 162 167 i (.agg #[.int .i64 0, .int .i64 0]) Tryz.underlying162 hi h0 .i64 .i64 n n (by omega) (by omega) (by rw [h2]; omega) (by omega)]
  have : madeCells (Value.agg #[.int .i64 0, .int .i64 0]).cells ((n : Int).toNat * i.size) = ((List.replicate n ((0 : Int), (0 : Int))).flatMap hc).toArray := by
    rw [h1]
    have hl : ∀ n : Nat, (List.replicate n ((0 : Int), (0 : Int))).flatMap hc = List.replicate (n * 2) (.int .i64 0) := by
      intro n
      induction n with
      | zero => rfl
      | succ n ih => rw [List.replicate_succ, List.flatMap_cons, ih, show (n + 1) * 2 = n * 2 + 1 + 1 by omega, List.replicate_succ, List.replicate_succ]; rfl
    rw [hl]
    apply Array.ext
    · simp [size_madeCells]
    · intro k h3 h4
      simp only [madeCells, Array.getElem_map, Array.getElem_range, List.getElem_toArray, List.getElem_replicate]
      have : k % (Value.agg #[.int .i64 0, .int .i64 0]).cells.size = 0 ∨ k % (Value.agg #[.int .i64 0, .int .i64 0]).cells.size = 1 := by
        show k % 2 = 0 ∨ k % 2 = 1
        omega
      rcases this with e | e <;> rw [e] <;> rfl
  rw [this]
  simp

/-- The document's grammar, to be read. -/
structure RG (w : World) (B P : Nat) (g n cap : Nat) (ss : List RSt) : Prop where
  grm : Grm w B P (.slice (some ⟨g, 0, none⟩) n cap) ss
  plans : ∀ t ∈ ss, ∀ r ∈ t.rs, HasPlan w r
  few : ss.length ≤ 12 ∧ ∀ t ∈ ss, t.rs.length ≤ 40

theorem RG.below {w w' : World} {B P g n cap : Nat} {ss : List RSt} (h : RG w B P g n cap ss) (hb : Below w.heap.size w w') : RG w' B P g n cap ss := ⟨h.grm.below hb, fun t ht r hr => (h.plans t ht r hr).below hb, h.few⟩

/-- What is kept of it where other blocks are written. -/
theorem RG.keep {w w' : World} {B P g n cap : Nat} {ss : List RSt} (h : RG w B P g n cap ss) (hs : w.heap.size ≤ w'.heap.size) (hk : ∀ (k : Nat) c t, t ≠ 167 → w.heap[k]? = some (.cells c t (0, 0)) → w'.heap[k]? = some (.cells c t (0, 0))) : RG w' B P g n cap ss :=
  ⟨h.grm.keep fun k c t ht hh => hk k c t (by rcases ht with rfl | rfl | rfl <;> decide) hh, fun t ht r hr => (h.plans t ht r hr).keep hs fun k c t ht hh => hk k c t (by rcases ht with rfl | rfl | rfl <;> decide) hh, h.few⟩

def NoneLoop2 (w : World) (b n k : Nat) (vi : Value) (wr : World) : Prop :=
  ∃ j, vi = .int .i64 (j : Nat) ∧ j + k = n ∧ Below b w wr ∧ HitsAt wr b (List.replicate j ((-1 : Int), (0 : Int)) ++ List.replicate k ((0 : Int), (0 : Int)))

def NonePost2 (n : Nat) (w : World) (e : Ending) (w' : World) : Prop := e = .returned (.slice (some ⟨w.heap.size, 0, none⟩) n n) ∧ HitsAt w' w.heap.size (List.replicate n ((-1 : Int), (0 : Int))) ∧ Below w.heap.size w w'

set_option maxRecDepth 20000 in
set_option maxHeartbeats 1000000 in
theorem noneHits_any (B P g n0 cap : Nat) (ss : List RSt) (i : Nat) (s : RSt) (w : World) (h : RG w B P g n0 cap ss) (hi : ss[i]? = some s) : Calls Tryz.prog 87 #[.pointer (some ⟨g, i * 3, none⟩)] w (NonePost2 s.rs.length w) := by
  obtain ⟨c0, c1, c2, _⟩ := h.grm.at hi
  obtain ⟨rao, rcap, hrv, _⟩ := h.grm.rules (List.mem_of_getElem? hi)
  rw [hrv] at c1
  have hn := h.few.2 s (List.mem_of_getElem? hi)
  obtain ⟨n, hnn⟩ : ∃ n, n = s.rs.length := ⟨_, rfl⟩
  rw [← hnn] at c1 hn ⊢
  have hmk := make_hits w n (by omega)
  clear h hi hrv hnn c0 c2
  go_enter Tryz.func87, Tryz.ntmps87
  go_wp2_with fail
  have HR0 := hide (heap_alloc_last w (.cells ((List.replicate n ((0 : Int), (0 : Int))).flatMap hc).toArray 167))
  have HB0 := hide (show Below w.heap.size w (w.alloc (.cells ((List.replicate n ((0 : Int), (0 : Int))).flatMap hc).toArray 167)) from (Below.refl _ _).alloc (Nat.le_refl _) _)
  obtain ⟨b, hb⟩ : ∃ b, b = w.heap.size := ⟨_, rfl⟩
  rw [← hb] at HR0 HB0 ⊢
  have HG := hide hb
  clear hmk hb c1
  generalize w.alloc (.cells ((List.replicate n ((0 : Int), (0 : Int))).flatMap hc).toArray 167) = w1 at *
  go_loopg [4] n (fun k vi wr => NoneLoop2 w b n k vi wr)
  case atStart => exact ⟨0, rfl, by omega, HB0.out, by rw [List.replicate_zero, List.nil_append]; exact HR0.out⟩
  case round =>
    obtain ⟨j, rfl, hj, hb, hr⟩ := hrel
    have HB := hide hb
    have HR := hide hr
    cases gk with
    | zero =>
      have hge : ¬ j < n := by omega
      have hg1 : decide (j < n) = false := by simpa using hge
      have HEND := hide (show NonePost2 n w (.returned (.slice (some ⟨b, 0, none⟩) n n)) wr from ⟨by rw [HG.out], by
        have h := HR.out
        rw [HG.out] at h
        obtain rfl : j = n := by omega
        simpa using h, by have h := HB.out; rwa [HG.out] at h⟩)
      clear hb hr
      go_wp2_with fail
      go_ret
      exact HEND.out
    | succ k =>
      have hjl : j < n := by omega
      have hg1 : decide ((j : Int) < (n : Int)) = true := by simpa using hjl
      have hget : (List.replicate j ((-1 : Int), (0 : Int)) ++ List.replicate (k + 1) ((0 : Int), (0 : Int)))[j]? = some (0, 0) := by
        rw [List.getElem?_append_right (by simp), List.length_replicate, Nat.sub_self, List.replicate_succ]; rfl
      obtain ⟨e1, _, e3, _⟩ := hr.cell hget
      have HST := hide (show NoneLoop2 w b n k (.int .i64 ((j + 1 : Nat) : Int)) (wr.setCell ⟨b, j * 2, none⟩ (.int .i64 (-1))) from ⟨j + 1, rfl, by omega, hb.setCell (Nat.le_refl _) _, by
        have := hr.put1 hget (-1)
        rw [List.set_append_right _ _ (by simp), List.length_replicate, Nat.sub_self, List.replicate_succ, List.set_cons_zero] at this
        rw [List.replicate_succ', List.append_assoc]
        exact this⟩)
      clear hb hr
      go_wp2_with fail
      go_roundg k
      case measure => omega
      case rel => exact HST.out
end Go.Proofs.YtgncgdkpkkdaeaaGreatDoor

/- The document's going through a line: again. -/
namespace Go.Proofs.YtgncgdkpkkdaeaaGreatDoor
open Go.RowKit Tint Go.Maps

/-- A state of the document's and one of painting's have the same rules. -/
def SameS (s : RSt) (rs : List GR) : Prop := s.rs.length = rs.length ∧ ∀ (k : Nat) q r, s.rs[k]? = some q → rs[k]? = some r → PAlt q.p.data.toList (some (r.a.re, []))

theorem plan_of {w : World} {q : RRl} {r : GR} (h : HasPlan w q) (hp : PAlt q.p.data.toList (some (r.a.re, []))) : ∃ P B ls first, q.n = .pointer (some ⟨P, 0, none⟩) ∧ Ref.PlanIs w B P ls first r.a.re ∧ B ≤ w.heap.size := by
  obtain ⟨P, B, ls, first, re, h1, h2, h3, h4⟩ := h
  have := h2.det hp
  simp at this
  subst this
  exact ⟨P, B, ls, first, h1, h3, h4⟩

theorem HitsAt.off {Y : Nat → Prop} {w w' : World} {b : Nat} {hs : List (Int × Int)} (h : HitsAt w b hs) (ho : Off Y w w') (hy : ¬ Y b) : HitsAt w' b hs := ho.same h hy

def AgPost (rs : List GR) (T : List UInt8) (at_ b : Nat) (w : World) (e : Ending) (w' : World) : Prop :=
  (∃ v, e = .returned v) ∧ ∃ hs, HitsAt w' b hs ∧ HitsNow rs T at_ hs ∧ Off (fun k => k = b) w w'

def AgLoop (rs : List GR) (T : List UInt8) (at_ b n : Nat) (w : World) (k : Nat) (vi : Value) (wr : World) : Prop :=
  ∃ (j : Nat) (hs : List (Int × Int)), vi = .int .i64 j ∧ j + k = n ∧ HitsAt wr b hs ∧ HitsOk rs T at_ hs ∧ (∀ (i : Nat) r h, i < j → rs[i]? = some r → hs[i]? = some h → HitNow r.a.re T at_ h.1 h.2) ∧ Off (fun k => k = b) w wr

theorem ag_step {rs : List GR} {T : List UInt8} {at_ : Nat} {hs : List (Int × Int)} {j : Nat} {r : GR} {a c : Int} (hok : HitsOk rs T at_ hs) (hnow : ∀ (i : Nat) r h, i < j → rs[i]? = some r → hs[i]? = some h → HitNow r.a.re T at_ h.1 h.2) (hr : rs[j]? = some r) (hn : HitNow r.a.re T at_ a c) : HitsOk rs T at_ (hs.set j (a, c)) ∧ ∀ (i : Nat) r h, i < j + 1 → rs[i]? = some r → (hs.set j (a, c))[i]? = some h → HitNow r.a.re T at_ h.1 h.2 := by
  refine ⟨⟨by rw [List.length_set]; exact hok.1, fun i r' h h1 h2 => ?_⟩, fun i r' h hi h1 h2 => ?_⟩
  · rcases get_set h2 with ⟨rfl, rfl⟩ | ⟨_, h2⟩
    · rw [hr] at h1; cases h1; exact hn.ok (Nat.le_refl _)
    · exact hok.2 i r' h h1 h2
  · rcases get_set h2 with ⟨rfl, rfl⟩ | ⟨hne, h2⟩
    · rw [hr] at h1; cases h1; exact hn
    · exact hnow i r' h (by omega) h1 h2

set_option maxRecDepth 20000 in
set_option maxHeartbeats 2000000 in
theorem again_any (B P g n0 cap : Nat) (ss : List RSt) (i : Nat) (s : RSt) (rs : List GR) (text : ByteArray) (at_ b : Nat) (hs : List (Int × Int)) (w : World) (h : RG w B P g n0 cap ss) (hi : ss[i]? = some s) (hsame : SameS s rs) (hat : at_ ≤ text.size) (hz : text.size ≤ 3000) (hh : HitsAt w b hs) (hok : HitsOk rs text.data.toList at_ hs) :
    Calls Tryz.prog 88 #[.pointer (some ⟨g, i * 3, none⟩), .string text, .int .i64 at_, .slice (some ⟨b, 0, none⟩) rs.length rs.length] w (AgPost rs text.data.toList at_ b w) := by
  have hn := h.few.2 s (List.mem_of_getElem? hi)
  rw [hsame.1] at hn
  have HRG := hide (fun (wr : World) (ho : Off (fun k => k = b) w wr) => show RG wr B P g n0 cap ss from h.keep ho.size fun k c t ht hk => ho.same hk (fun e => by rw [e, hh] at hk; cases hk; exact ht rfl))
  have HSM := hide hsame
  have HH := hide hh
  have HOK := hide hok
  have HI := hide hi
  clear h hi hsame hh hok
  go_enter Tryz.func88, Tryz.ntmps88
  go_wp2_with fail
  go_loopg [8] rs.length (fun k vi wr => AgLoop rs text.data.toList at_ b rs.length w k vi wr)
  case atStart => exact ⟨0, hs, rfl, by omega, HH.out, HOK.out, fun i r h hi => by omega, Off.refl _ _⟩
  case round =>
    obtain ⟨j, hs, rfl, hj, hha, hok, hnow, hoff⟩ := hrel
    by_cases hjl : j < rs.length
    · have g1 : decide ((j : Int) < (rs.length : Int)) = true := decide_eq_true (by omega)
      obtain ⟨r, hr⟩ : ∃ r, rs[j]? = some r := ⟨_, List.getElem?_eq_getElem hjl⟩
      obtain ⟨p, hp⟩ : ∃ p, hs[j]? = some p := ⟨_, List.getElem?_eq_getElem (by rw [hok.1]; exact hjl)⟩
      obtain ⟨e1, e2, e3, e4⟩ := hha.cell hp
      have hwr : IntKind.i64.wrap ((j : Int) + 1) = (j : Int) + 1 := by rw [IntKind.wrap_i64]; omega
      by_cases hge : (at_ : Int) ≤ p.1
      · have g2 : decide ((at_ : Int) ≤ p.1) = true := decide_eq_true hge
        have HST := hide (show AgLoop rs text.data.toList at_ b rs.length w (rs.length - (j + 1)) (.int .i64 ((j : Int) + 1)) wr from ⟨j + 1, hs, by simp, by omega, hha, hok, fun i r' h' h1 h2 h3 => by
          rcases Nat.lt_or_ge i j with h4 | h4
          · exact hnow i r' h' h4 h2 h3
          · obtain rfl : i = j := by omega
            rw [hp] at h3; cases h3
            exact (hok.2 i r' p h2 hp).now hge, hoff⟩)
        clear hha hok hnow hoff
        go_wp2_with fail
        go_roundg (rs.length - (j + 1))
        case measure => omega
        case rel => exact HST.out
      · have g2 : decide ((at_ : Int) ≤ p.1) = false := decide_eq_false hge
        have hRG := HRG.out wr hoff
        obtain ⟨q, hq⟩ : ∃ q, s.rs[j]? = some q := ⟨_, List.getElem?_eq_getElem (by rw [HSM.out.1]; exact hjl)⟩
        obtain ⟨c0, c1, c2, _⟩ := hRG.grm.at HI.out
        obtain ⟨rg, rn, rcap, hrv⟩ : ∃ rg rn rcap, s.rv = .slice (some ⟨rg, 0, none⟩) rn rcap := by
          obtain ⟨rao, rcap, h1, h2⟩ := hRG.grm.rules (List.mem_of_getElem? HI.out)
          obtain ⟨rg, h3⟩ := h2 (by have := get_lt hq; omega)
          exact ⟨rg, _, rcap, by rw [h1, h3]⟩
        have d4 := hRG.grm.rule (List.mem_of_getElem? HI.out) hrv hq 4 (by omega) rfl
        obtain ⟨PP, PB, pls, first, hqn, hpl, hPB⟩ := plan_of (hRG.plans s (List.mem_of_getElem? HI.out) q (List.mem_of_getElem? hq)) (HSM.out.2 j q r hq hr)
        rw [hqn] at d4
        rw [hrv] at c1
        have hrn : rn = s.rs.length := by
          obtain ⟨rao, rcap2, h1, h2⟩ := hRG.grm.rules (List.mem_of_getElem? HI.out)
          rw [hrv] at h1
          cases h1
          rfl
        have hjn : j < rn := by rw [hrn]; exact get_lt hq
        have HFD := hide (Ref.find_any wr PB PP pls first r.a.re hpl hPB text at_ hat (by omega))
        have HHA := hide hha
        have HOK2 := hide hok
        have HNOW := hide hnow
        have HOFF := hide hoff
        have d4c := d4.1
        clear hha hok hnow hoff hRG hpl d4 c0 c2
        go_wp2_with fail
        refine HFD.out.mono ?_
        rintro e2' w2 ⟨o, hm, rfl, hb2⟩
        have hh2 : HitsAt w2 b hs := (hb2.block _ (lt_of_get HHA.out)).trans HHA.out
        obtain ⟨e1', e2', e3', e4'⟩ := hh2.cell hp
        cases o with
        | none =>
          have HST := hide (show AgLoop rs text.data.toList at_ b rs.length w (rs.length - (j + 1)) (.int .i64 ((j : Int) + 1)) ((w2.setCell ⟨b, j * 2, none⟩ (.int .i64 1000000)).setCell ⟨b, j * 2 + 1, none⟩ (.int .i64 0)) from by
            obtain ⟨s1, s2⟩ := ag_step (a := 1000000) (c := 0) HOK2.out HNOW.out hr (.inl ⟨rfl, hm⟩)
            refine ⟨j + 1, _, by simp, by omega, hh2.put hp _ _, s1, s2, ?_⟩
            exact ((HOFF.out.trans (Off.of_below hb2)).trans (Off.setCell (Y := fun k => k = b) (p := ⟨b, j * 2, none⟩) rfl hh2 (by decide) _)).trans (Off.setCell (Y := fun k => k = b) (p := ⟨b, j * 2 + 1, none⟩) rfl (heap_setCell_same w2 b (j * 2) _ hh2) (by decide) _))
          unfold found
          clear hm hb2 hh2 HFD HHA HOK2 HNOW HOFF
          go_wp2_with fail
          go_roundg (rs.length - (j + 1))
          case measure => omega
          case rel => exact HST.out
        | some se =>
          obtain ⟨s1, e1x⟩ := se
          have HST := hide (show AgLoop rs text.data.toList at_ b rs.length w (rs.length - (j + 1)) (.int .i64 ((j : Int) + 1)) ((w2.setCell ⟨b, j * 2, none⟩ (.int .i64 s1)).setCell ⟨b, j * 2 + 1, none⟩ (.int .i64 e1x)) from by
            obtain ⟨s1, s2⟩ := ag_step (a := s1) (c := e1x) HOK2.out HNOW.out hr (.inr ⟨s1, e1x, rfl, rfl, hm⟩)
            refine ⟨j + 1, _, by simp, by omega, hh2.put hp _ _, s1, s2, ?_⟩
            exact ((HOFF.out.trans (Off.of_below hb2)).trans (Off.setCell (Y := fun k => k = b) (p := ⟨b, j * 2, none⟩) rfl hh2 (by decide) _)).trans (Off.setCell (Y := fun k => k = b) (p := ⟨b, j * 2 + 1, none⟩) rfl (heap_setCell_same w2 b (j * 2) _ hh2) (by decide) _))
          unfold found
          clear hm hb2 hh2 HFD HHA HOK2 HNOW HOFF
          go_wp2_with fail
          go_roundg (rs.length - (j + 1))
          case measure => omega
          case rel => exact HST.out
    · have g1 : decide ((j : Int) < (rs.length : Int)) = false := decide_eq_false (by omega)
      obtain rfl : j = rs.length := by omega
      have HEND := hide (show AgPost rs text.data.toList at_ b w (.returned (.tuple #[])) wr from ⟨⟨_, rfl⟩, hs, hha, ⟨hok.1, fun i r h h1 h2 => hnow i r h (get_lt h1) h1 h2⟩, hoff⟩)
      clear hha hok hnow hoff
      go_wp2_with fail
      go_end0
      exact HEND.out
end Go.Proofs.YtgncgdkpkkdaeaaGreatDoor
