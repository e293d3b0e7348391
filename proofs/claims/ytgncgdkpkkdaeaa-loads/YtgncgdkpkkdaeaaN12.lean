/- tintref: Load. -/
import Derived.Test.YtgncgdkpkkdaeaaN11
import Derived.Test.YtgncgdkpkkdaeaaN8
import Derived.Test.YtgncgdkpkkdaeaaN6
import Derived.Deep.RegionHeld3
namespace Go.Proofs.Ytgncgdkpkkdaeaa
open Go.RowKit Tint

theorem chain_at {fs : Lns} (h3 : Fst pTwice [] fs none) (h4 : Fst pMany [] fs none) {k a : Nat} (hk : k ≤ 3) (hp : ∀ k', k' < k → Fst (tst fs k') [] fs none) (hit : Fst (tst fs k) [] fs (some a)) : Chain fs (tests fs) (ecode k) a := by
  match k, hk with
  | 0, _ => exact .skip h3 (.skip h4 (.hit hit))
  | 1, _ => exact .skip h3 (.skip h4 (.skip (hp 0 (by omega)) (.hit hit)))
  | 2, _ => exact .skip h3 (.skip h4 (.skip (hp 0 (by omega)) (.skip (hp 1 (by omega)) (.hit hit))))
  | 3, _ => exact .skip h3 (.skip h4 (.skip (hp 0 (by omega)) (.skip (hp 1 (by omega)) (.skip (hp 2 (by omega)) (.hit hit)))))

theorem chain_ok {fs : Lns} (h3 : Fst pTwice [] fs none) (h4 : Fst pMany [] fs none) (hp : ∀ k', k' < 4 → Fst (tst fs k') [] fs none) : Chain fs (tests fs) 0 0 :=
  .skip h3 (.skip h4 (.skip (hp 0 (by omega)) (.skip (hp 1 (by omega)) (.skip (hp 2 (by omega)) (.skip (hp 3 (by omega)) .nil)))))

def RefPost (s : List UInt8) (w : World) (e : Ending) (w' : World) : Prop :=
  Below w.heap.size w w' ∧ ((∃ ec a : Nat, ec ≠ 0 ∧ e = .returned (.tuple #[.pointer none, .int .i64 ec, .int .i64 a]) ∧ LoadIs s ec a []) ∨
    (∃ P B sv ss, e = .returned (.tuple #[.pointer (some ⟨P, 0, none⟩), .int .i64 0, .int .i64 0]) ∧ LoadIs s 0 0 (flat ss) ∧ w.heap.size ≤ B ∧ Grm w' B P sv ss ∧ ∀ t ∈ ss, ∀ r ∈ t.rs, HasPlan w' r))

def KLoop (E B P : Nat) (sv : Value) (ss0 : List RSt) (w0 : World) (m : Nat) (vk : Value) (wr : World) : Prop :=
  ∃ k ss, vk = .int .i64 (k : Nat) ∧ k + m = 4 ∧ LInv E B P sv ss0 w0 k 0 0 ss wr ∧ ∀ k', k' < k → Fst (tst (flat ss0) k') [] (flat ss0) none

def ILoop (E B P : Nat) (sv : Value) (ss0 : List RSt) (w0 : World) (k m : Nat) (vi : Value) (wr : World) : Prop :=
  ∃ i ss, vi = .int .i64 (i : Nat) ∧ i + m = ss0.length ∧ LInv E B P sv ss0 w0 k i 0 ss wr ∧ Fst (tst (flat ss0) k) [] (flat (ss0.take i)) none

def JLoop (E B P : Nat) (sv : Value) (ss0 : List RSt) (w0 : World) (k i : Nat) (s0 : RSt) (m : Nat) (vj : Value) (wr : World) : Prop :=
  ∃ j ss, vj = .int .i64 (j : Nat) ∧ j + m = s0.rs.length ∧ LInv E B P sv ss0 w0 k i j ss wr ∧ Fst (tst (flat ss0) k) [] ((flat (ss0.take i) ++ [(s0.at_, .state s0.name.data.toList)]) ++ (s0.rs.take j).map RRl.ln) none

theorem es_cell {w : World} {E k : Nat} (h : EsAt w E) (hk : k ≤ 3) : w.cell? ⟨E, k, none⟩ = some (.int .i64 (ecode k : Nat)) := by
  unfold EsAt at h
  match k, hk with
  | 0, _ => simp [World.cell?, h, ecode]
  | 1, _ => simp [World.cell?, h, ecode]
  | 2, _ => simp [World.cell?, h, ecode]
  | 3, _ => simp [World.cell?, h, ecode]

theorem rules_split {ss0 : List RSt} {i j : Nat} {s0 : RSt} {r0 : RRl} (hi : ss0[i]? = some s0) (hj : s0.rs[j]? = some r0) : flat ss0 = ((flat (ss0.take i) ++ [(s0.at_, .state s0.name.data.toList)]) ++ (s0.rs.take j).map RRl.ln) ++ (r0.at_, r0.ln.2) :: ((s0.rs.drop (j + 1)).map RRl.ln ++ flat (ss0.drop (i + 1))) := by
  have hl := get_lt hj
  rw [flat_split hi]
  conv => lhs; rw [← List.take_append_drop j s0.rs, List.drop_eq_getElem_cons hl]
  rw [List.getElem?_eq_getElem hl] at hj
  rw [Option.some.inj hj]
  simp
  rfl

theorem rules_take {ss0 : List RSt} {i j : Nat} {s0 : RSt} {r0 : RRl} (hj : s0.rs[j]? = some r0) : (flat (ss0.take i) ++ [(s0.at_, .state s0.name.data.toList)]) ++ (s0.rs.take (j + 1)).map RRl.ln = ((flat (ss0.take i) ++ [(s0.at_, .state s0.name.data.toList)]) ++ (s0.rs.take j).map RRl.ln) ++ [(r0.at_, r0.ln.2)] := by
  have hl := get_lt hj
  rw [List.getElem?_eq_getElem hl] at hj
  rw [List.take_succ_eq_append_getElem hl, Option.some.inj hj, List.map_append, ← List.append_assoc]
  rfl

theorem LInv.drew {E B P : Nat} {sv : Value} {ss0 : List RSt} {w0 : World} {k i j : Nat} {ss : List RSt} {w : World} (h : LInv E B P sv ss0 w0 k i j ss w) : LInv E B P sv ss0 w0 k i j ss w.drew :=
  ⟨h.es, h.grm.drew, h.shape, h.below.drew, h.short, fun i' j' s r h1 h2 h3 => (h.plans i' j' s r h1 h2 h3).keep (Nat.le_refl _) (fun _ _ _ _ hh => hh)⟩

/-- What the walk reads of the grammar, whatever plans there are. -/
theorem shape_cells {w : World} {B P g n cap rg rn rcap i j : Nat} {ss0 ss : List RSt} {s0 : RSt} {r0 : RRl} (hG : Grm w B P (.slice (some ⟨g, 0, none⟩) n cap) ss) (hsh : Shape ss0 ss) (hi : ss0[i]? = some s0) (hv : s0.rv = .slice (some ⟨rg, 0, none⟩) rn rcap) (hj : s0.rs[j]? = some r0) :
    w.cell? ⟨P, 0, none⟩ = some (.slice (some ⟨g, 0, none⟩) n cap) ∧ w.cell? ⟨g, i * 3 + 1, none⟩ = some (.slice (some ⟨rg, 0, none⟩) rn rcap) ∧ w.cell? ⟨rg, j * 6 + 5, none⟩ = some (.int .i64 r0.at_) := by
  obtain ⟨s, hs, hrv, hln⟩ := hsh.get hi
  obtain ⟨r, hr, hrl⟩ := lns_rule hln hj
  have hat : r.at_ = r0.at_ := congrArg Prod.fst hrl
  obtain ⟨-, a1, -, -⟩ := hG.at hs
  rw [hrv, hv] at a1
  exact ⟨hG.top_cell.1, a1, by rw [← hat]; exact (hG.fst hs (hrv.trans hv) hr).2.2.2.2.1⟩

set_option maxRecDepth 20000 in
set_option maxHeartbeats 4000000 in
theorem refLoad_any (s : ByteArray) (w : World) (hz : s.size ≤ maxLen) :
    Calls Try.prog 6 #[.string s] w (RefPost s.data.toList w) := by
  unfold maxLen at hz
  by_cases hl : 2000 < s.size
  · have g1 : decide ((2000 : Int) < (s.size : Int)) = true := decide_eq_true (by omega)
    have HEND := hide (show RefPost s.data.toList w (.returned (.tuple #[.pointer none, .int .i64 (1 : Nat), .int .i64 (0 : Nat)])) w from ⟨Below.refl _ _, .inl ⟨1, 0, by omega, rfl, .long hl⟩⟩)
    go_enter Try.func6, Try.ntmps6
    go_wp2_with fail
    exact bodyPost_ret (v := .tuple #[.pointer none, .int .i64 (1 : Nat), .int .i64 (0 : Nat)]) (by simp [results, Try.results6, go_sem, *]) rfl HEND.out
  · have g1 : decide ((2000 : Int) < (s.size : Int)) = false := decide_eq_false (by omega)
    have hz2 : s.size ≤ 2000 := by omega
    have HGA := hide (show Grm (w.alloc (.cells #[.slice none 0 0] 43)) w.heap.size w.heap.size (.slice none 0 0) [] from ⟨heap_alloc_last _ _, Nest.nil _ _ _ _ _ _, fun s hs => by simp at hs, Nat.le_refl _⟩)
    have HBA := hide (show Below w.heap.size w (w.alloc (.cells #[.slice none 0 0] 43)) from (Below.refl _ _).alloc (Nat.le_refl _) _)
    go_enter Try.func6, Try.ntmps6
    go_wp2_with fail
    obtain ⟨B, hB⟩ : ∃ B, B = w.heap.size := ⟨_, rfl⟩
    rw [← hB] at HGA ⊢
    have HBQ := hide hB
    clear hB
    generalize w.alloc (.cells #[.slice none 0 0] 43) = w1 at *
    refine (read_any B B s w1 (by rw [HBQ.out]; exact HBA.out.size) HGA.out hz2).mono ?_
    rintro e w2 ⟨hB2, ⟨a, rfl, hrd⟩ | ⟨rfl, acc, sv, ss, hrd, hG2, hflt, hss, hrs⟩⟩
    · have g2 : decide ((0 : Int) ≤ (a : Int)) = true := decide_eq_true (by omega)
      have HEND := hide (show RefPost s.data.toList w (.returned (.tuple #[.pointer none, .int .i64 (2 : Nat), .int .i64 a])) w2 from ⟨HBA.out.trans (by rw [← HBQ.out]; exact hB2), .inl ⟨2, a, by omega, rfl, .form hz2 hrd⟩⟩)
      clear HGA hB2 hrd
      go_wp2_with fail
      exact bodyPost_ret (v := .tuple #[.pointer none, .int .i64 (2 : Nat), .int .i64 a]) (by simp [results, Try.results6, go_sem, *]) rfl HEND.out
    · rw [byte_length] at hss hrs
      have HB2 := hide (show Below w.heap.size w w2 from HBA.out.trans (by rw [← HBQ.out]; exact hB2))
      have HG2 := hide hG2
      have HRD := hide hrd
      have HFL := hide hflt
      have HRS := hide hrs
      have HCN := hide (counted_any B B sv ss s.size w2 hG2 (by omega) (fun t ht => by have := hrs t ht; omega))
      clear hB2 hG2 hrd hflt hrs HGA
      go_wp2_with fail
      refine HCN.out.mono ?_
      rintro e w3 ⟨hB3, ⟨a, rfl, h3⟩ | ⟨h3, ⟨a, rfl, h4⟩ | ⟨h4, ⟨h0, rfl⟩ | ⟨h0, rfl⟩⟩⟩⟩
      · have HEND := hide (show RefPost s.data.toList w (.returned (.tuple #[.pointer none, .int .i64 (3 : Nat), .int .i64 a])) w3 from ⟨HB2.out.trans (hB3.mono HB2.out.size), .inl ⟨3, a, by omega, rfl, .fault hz2 HRD.out (by rw [← HFL.out]; exact .hit h3) (by omega)⟩⟩)
        clear hB3 h3 HCN
        go_wp2_with fail
        exact bodyPost_ret (v := .tuple #[.pointer none, .int .i64 (3 : Nat), .int .i64 a]) (by simp [results, Try.results6, go_sem, *]) rfl HEND.out
      · have HEND := hide (show RefPost s.data.toList w (.returned (.tuple #[.pointer none, .int .i64 (4 : Nat), .int .i64 a])) w3 from ⟨HB2.out.trans (hB3.mono HB2.out.size), .inl ⟨4, a, by omega, rfl, .fault hz2 HRD.out (by rw [← HFL.out]; exact .skip h3 (.hit h4)) (by omega)⟩⟩)
        clear hB3 h3 h4 HCN
        go_wp2_with fail
        exact bodyPost_ret (v := .tuple #[.pointer none, .int .i64 (4 : Nat), .int .i64 a]) (by simp [results, Try.results6, go_sem, *]) rfl HEND.out
      · have HEND := hide (show RefPost s.data.toList w (.returned (.tuple #[.pointer none, .int .i64 (4 : Nat), .int .i64 s.size])) w3 from ⟨HB2.out.trans (hB3.mono HB2.out.size), .inl ⟨4, s.size, by omega, rfl, .none hz2 HRD.out (by rw [← HFL.out, h0]; rfl)⟩⟩)
        clear hB3 h3 h4 h0 HCN
        go_wp2_with fail
        exact bodyPost_ret (v := .tuple #[.pointer none, .int .i64 (4 : Nat), .int .i64 s.size]) (by simp [results, Try.results6, go_sem, *]) rfl HEND.out
      · have HB3 := hide (HB2.out.trans (hB3.mono HB2.out.size))
        have HG3 := hide (HG2.out.below hB3)
        have H3 := hide h3
        have H4 := hide h4
        clear hB3 h3 h4 HCN HG2 HB2
        have HEA := hide (show EsAt (w3.alloc (.cells #[.int .i64 5, .int .i64 1, .int .i64 6, .int .i64 7] 3)) w3.heap.size from heap_alloc_last _ _)
        have HBE := hide (show Below w3.heap.size w3 (w3.alloc (.cells #[.int .i64 5, .int .i64 1, .int .i64 6, .int .i64 7] 3)) from (Below.refl _ _).alloc (Nat.le_refl _) _)
        go_wp2_with fail
        obtain ⟨E, hE⟩ : ∃ E, E = w3.heap.size := ⟨_, rfl⟩
        rw [← hE] at HEA ⊢
        clear hE
        generalize w3.alloc (.cells #[.int .i64 5, .int .i64 1, .int .i64 6, .int .i64 7] 3) = w4 at *
        have hB4 : B ≤ w4.heap.size := by rw [HBQ.out]; exact Nat.le_trans HB3.out.size HBE.out.size
        have HB4 := hide (show Below B w w4 by rw [HBQ.out]; exact HB3.out.trans (HBE.out.mono HB3.out.size))
        have HL0 := hide (show LInv E B B sv ss w4 0 0 0 ss w4 from ⟨HEA.out, HG3.out.below HBE.out, Shape.refl _, Below.refl _ _, fun h => by omega, fun i' j' s r h1 h2 h3 => by omega⟩)
        clear HEA HBE HG3 HB3
        go_loopg [9] 4 (fun m vk wx => KLoop E B B sv ss w4 m vk wx)
        case atStart => exact ⟨0, ss, rfl, rfl, HL0.out, fun k' h => by omega⟩
        case round =>
          obtain ⟨k, ssk, rfl, hk, hLk, hprev⟩ := hrel
          have HPV := hide hprev
          obtain ⟨km, hkm⟩ : ∃ km, km = gk := ⟨_, rfl⟩
          by_cases hk4 : k < 4
          · have g4 : decide ((k : Int) < 4) = true := decide_eq_true (by omega)
            have HLk := hide hLk
            clear hLk hprev
            go_wp2_with fail
            go_loopg [10] ss.length (fun m vi wx => ILoop E B B sv ss w4 k m vi wx)
            case atStart => exact ⟨0, ssk, rfl, by omega, HLk.out, .nil⟩
            case round =>
              obtain ⟨i, ssi, rfl, hi, hLi, hfi⟩ := hrel
              obtain ⟨im, him⟩ : ∃ im, im = gk := ⟨_, rfl⟩
              have c0 := hLi.grm.top_cell.1
              obtain ⟨ao, cap, hsv, hao⟩ := hLi.grm.form
              rw [hLi.shape.length] at hsv hao
              rw [hsv] at c0
              by_cases hil : i < ss.length
              · have g5 : decide ((i : Int) < (ss.length : Int)) = true := decide_eq_true (by omega)
                obtain ⟨g, rfl⟩ := hao (by omega)
                obtain ⟨s0, hs0⟩ : ∃ s0, ss[i]? = some s0 := ⟨ss[i], List.getElem?_eq_getElem hil⟩
                have HS0 := hide hs0
                have HST0 := hide (show Fst (tst (flat ss) k) [] (flat (ss.take i) ++ [(s0.at_, .state s0.name.data.toList)]) none from hfi.snoc (tst_state _ _ _ _))
                have HLi := hide hLi
                clear hLi hfi hs0
                go_wp2_with fail
                go_loopg [11] s0.rs.length (fun m vj wx => JLoop E B B sv ss w4 k i s0 m vj wx)
                case atStart => exact ⟨0, ssi, rfl, by omega, HLi.out, by simpa using HST0.out⟩
                case round =>
                  obtain ⟨j, ssj, rfl, hj, hLj, hfj⟩ := hrel
                  have HLj := hide hLj
                  have HFj := hide hfj
                  obtain ⟨sj, hsj, hrvj, hlnj⟩ := hLj.shape.get HS0.out
                  have hGj := hLj.grm
                  rw [hsv] at hGj
                  have d0 := hGj.top_cell.1
                  obtain ⟨-, d1, -, -⟩ := hGj.at hsj
                  obtain ⟨ro, rcap, hrv, hro⟩ := hLj.grm.rules (List.mem_of_getElem? hsj)
                  rw [lns_length hlnj] at hrv hro
                  rw [hrv] at d1
                  rw [hrvj] at hrv
                  have hE0 := es_cell hLj.es (show k ≤ 3 by omega)
                  have hrz := HRS.out s0 (List.mem_of_getElem? HS0.out)
                  have HRV := hide hrv
                  clear hLj hfj hsj hrvj hlnj hGj hrv
                  by_cases hjl : j < s0.rs.length
                  · have g6 : decide ((j : Int) < (s0.rs.length : Int)) = true := decide_eq_true (by omega)
                    obtain ⟨rg, rfl⟩ := hro (by omega)
                    obtain ⟨r0, hr0⟩ : ∃ r0, s0.rs[j]? = some r0 := ⟨s0.rs[j], List.getElem?_eq_getElem hjl⟩
                    have HR0 := hide hr0
                    have HWR := hide (wrong_any E B B sv ss w4 k i j ssj wr.drew HLj.out.drew (by omega) (show B ≤ wr.heap.size from Nat.le_trans hB4 HLj.out.below.size) (by omega) HS0.out hr0 HRV.out)
                    have HCE := hide (fun (w5 : World) (ss' : List RSt) (hG : Grm w5 B B sv ss') (hsh : Shape ss ss') => shape_cells (hsv ▸ hG) hsh HS0.out HRV.out hr0)
                    have hi0 : (i : Int) < (ss.length : Int) := by omega
                    have hj0 : (j : Int) < (s0.rs.length : Int) := by omega
                    have hk0 : (k : Int) < 4 := by omega
                    clear hr0
                    go_wp2_with fail
                    go_region_held3 (fun w' => w'.cell? ⟨B, 0, none⟩ = some (.slice (some ⟨g, 0, none⟩) ss.length cap) ∧ w'.cell? ⟨g, i * 3 + 1, none⟩ = some (.slice (some ⟨rg, 0, none⟩) s0.rs.length rcap) ∧ w'.cell? ⟨E, k, none⟩ = some (.int .i64 (ecode k : Nat)))
                      (first
                        | exact hS5
                        | go_keep)
                      (first
                        | (go_at_call 11; refine HWR.out.mono ?_; rintro e w5 ⟨b, ss', rfl, hb, hes, hG5, hsh, hbel, hnx⟩; obtain ⟨x1, x2, x3⟩ := HCE.out w5 ss' hG5 hsh; have x4 := es_cell hes (show k ≤ 3 by omega); have hS5 := And.intro x1 (And.intro x2 x4); have HBB := hide hb; have HBEL := hide hbel; have HNX := hide hnx; clear hb hes hG5 hsh hbel hnx))
                    cases b with
                    | true =>
                      have HEND := hide (fun n => show RefPost s.data.toList w (.returned (.tuple #[.pointer none, .int .i64 (ecode k : Nat), .int .i64 r0.at_])) (w5.drewN n) from ⟨Below.drewN' (by rw [← HBQ.out]; exact HB4.out.trans HBEL.out) n, .inl ⟨ecode k, r0.at_, by match k with | 0 => decide | 1 => decide | 2 => decide | _ + 3 => exact (by decide : (7 : Nat) ≠ 0), rfl, .fault hz2 HRD.out (by
                        rw [← HFL.out]
                        refine chain_at H3.out H4.out (by omega) HPV.out ?_
                        have := HFj.out.hit_at (a := r0.at_) (x := r0.ln.2) ((s0.rs.drop (j + 1)).map RRl.ln ++ flat (ss.drop (i + 1))) ((tst_pre _ _ _ _).2 (HBB.out.1 rfl))
                        rw [← rules_split HS0.out HR0.out] at this
                        exact this) (by match k with | 0 => decide | 1 => decide | 2 => decide | _ + 3 => exact (by decide : (7 : Nat) ≠ 0))⟩⟩)
                      clear HWR HCE HFj HLj HBB HBEL HNX HLi HST0 HLk HL0 hS5
                      go_wp2_with fail
                      go_quiet (fail)
                      go_wp2_with fail
                      exact bodyPost_ret (v := .tuple #[.pointer none, .int .i64 (ecode k : Nat), .int .i64 r0.at_]) (by simp [results, Try.results6, go_sem, *]) rfl (HEND.out _)
                    | false =>
                      have HST := hide (show JLoop E B B sv ss w4 k i s0 (gk - 1) (.int .i64 ((j + 1 : Nat) : Int)) w5 from ⟨j + 1, ss', rfl, by omega, HNX.out rfl, by
                        rw [rules_take HR0.out]
                        exact HFj.out.snoc (fun h => by have := HBB.out.2 ((tst_pre _ _ _ _).1 h); cases this)⟩)
                      have hj1 : j + 1 ≤ 9223372036854775807 := by omega
                      clear HWR HCE HFj HLj HBB HBEL HNX HLi HST0 HLk HL0 hS5
                      go_wp2_with fail
                      go_roundg (gk - 1)
                      case measure => omega
                      case rel => exact HST.out
                  · have g6 : decide ((j : Int) < (s0.rs.length : Int)) = false := decide_eq_false (by omega)
                    have HST := hide (show ILoop E B B sv ss w4 k (im - 1) (.int .i64 ((i + 1 : Nat) : Int)) wr from ⟨i + 1, ssj, rfl, by omega, HLj.out.nextI HS0.out (by omega), by
                      have := HFj.out
                      rw [List.take_of_length_le (l := s0.rs) (by omega), ← flat_take HS0.out] at this
                      exact this⟩)
                    have hi1 : i + 1 ≤ 9223372036854775807 := by omega
                    clear HFj HLj HLi HST0 HLk HL0
                    go_wp2_with fail
                    go_roundg (im - 1)
                    case measure => omega
                    case rel => exact HST.out
              · have g5 : decide ((i : Int) < (ss.length : Int)) = false := decide_eq_false (by omega)
                have HFk := hide (show Fst (tst (flat ss) k) [] (flat ss) none by rw [List.take_of_length_le (by omega)] at hfi; exact hfi)
                have HST := hide (show KLoop E B B sv ss w4 (km - 1) (.int .i64 ((k + 1 : Nat) : Int)) wr from ⟨k + 1, ssi, rfl, by omega, hLi.nextK (by omega) HFk.out, fun k' hk' => by
                  rcases Nat.lt_or_ge k' k with h | h
                  · exact HPV.out k' h
                  · have : k' = k := by omega
                    subst this
                    exact HFk.out⟩)
                have hk1 : k + 1 ≤ 9223372036854775807 := by omega
                clear hLi hfi HFk HLk HL0
                go_wp2_with fail
                go_roundg (km - 1)
                case measure => omega
                case rel => exact HST.out
          · have g4 : decide ((k : Int) < 4) = false := decide_eq_false (by omega)
            have hk44 : k = 4 := by omega
            have HEND := hide (show RefPost s.data.toList w (.returned (.tuple #[.pointer (some ⟨B, 0, none⟩), .int .i64 0, .int .i64 0])) wr from ⟨by rw [← HBQ.out]; exact HB4.out.trans hLk.below, .inr ⟨B, B, sv, ssk, rfl, by
              rw [hLk.shape.flat, HFL.out]
              refine .ok hz2 HRD.out ?_ ?_
              · rw [← HFL.out]
                exact chain_ok H3.out H4.out (fun k' h => HPV.out k' (by omega))
              · rw [← HFL.out]
                intro hf
                cases ss with
                | nil => exact h0 rfl
                | cons t l => simp [flat, RSt.lns] at hf, by rw [HBQ.out]; exact Nat.le_refl _, hLk.grm, fun t ht r hr => by
              obtain ⟨i', hi'⟩ := List.getElem?_of_mem ht
              obtain ⟨j', hj'⟩ := List.getElem?_of_mem hr
              exact hLk.plans i' j' t r hi' hj' (.inl (by omega))⟩⟩)
            clear hLk hprev HL0
            go_wp2_with fail
            exact bodyPost_ret (v := .tuple #[.pointer (some ⟨B, 0, none⟩), .int .i64 0, .int .i64 0]) (by simp [results, Try.results6, go_sem, *]) rfl HEND.out
end Go.Proofs.Ytgncgdkpkkdaeaa
