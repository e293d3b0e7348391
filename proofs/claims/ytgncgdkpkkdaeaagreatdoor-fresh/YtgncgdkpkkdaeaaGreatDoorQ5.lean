/- Put together from N12, C1, S28. -/
import Derived.Test.YtgncgdkpkkdaeaaGreatDoorQL
import Derived.Test.YtgncgdkpkkdaeaaGreatDoorQN6
import Derived.Deep.RegionHeld3
import Derived.Test.YtgncgdkpkkdaeaaGreatDoorQVG
import Derived.Test.YtgncgdkpkkdaeaaGreatDoorQ4
import Derived.Test.YtgncgdkpkkdaeaaGreatDoorQ3
/- tintref: Load. -/
namespace Go.Proofs.YtgncgdkpkkdaeaaGreatDoor
open Go.RowKit Tint

theorem chain_at {fs : Lns} (h3 : Fst pTwice [] fs none) (h4 : Fst pMany [] fs none) {k a : Nat} (hk : k ≤ 3) (hp : ∀ k', k' < k → Fst (tst fs k') [] fs none) (hit : Fst (tst fs k) [] fs (some a)) : Chain fs (tests fs) (ecode k) a := by
  match k, hk with
  | 0, _ => exact .skip h3 (.skip h4 (.hit hit))
  | 1, _ => exact .skip h3 (.skip h4 (.skip (hp 0 (by omega)) (.hit hit)))
  | 2, _ => exact .skip h3 (.skip h4 (.skip (hp 0 (by omega)) (.skip (hp 1 (by omega)) (.hit hit))))
  | 3, _ => exact .skip h3 (.skip h4 (.skip (hp 0 (by omega)) (.skip (hp 1 (by omega)) (.skip (hp 2 (by omega)) (.hit hit)))))

theorem chain_ok {fs : Lns} (h3 : Fst pTwice [] fs none) (h4 : Fst pMany [] fs none) (hp : ∀ k', k' < 4 → Fst (tst fs k') [] fs none) : Chain fs (tests fs) 0 0 :=
  .skip h3 (.skip h4 (.skip (hp 0 (by omega)) (.skip (hp 1 (by omega)) (.skip (hp 2 (by omega)) (.skip (hp 3 (by omega)) .nil)))))

def RefPost (s : List UInt8) (w : World) (e : Ending) (w' : World) : Prop :=
  Below w.heap.size w w' ∧ ((∃ ec a : Nat, ec ≠ 0 ∧ e = .returned (.tuple #[.pointer none, .int .i64 ec, .int .i64 a]) ∧ LoadIs s ec a []) ∨
    (∃ P B sv ss, e = .returned (.tuple #[.pointer (some ⟨P, 0, none⟩), .int .i64 0, .int .i64 0]) ∧ LoadIs s 0 0 (flat ss) ∧ w.heap.size ≤ B ∧ Grm w' B P sv ss ∧ ∀ t ∈ ss, ∀ r ∈ t.rs, HasPlan w' r))

def KLoop (E B P : Nat) (sv : Value) (ss0 : List RSt) (w0 : World) (m : Nat) (vk : Value) (wr : World) : Prop :=
  ∃ k ss, vk = .int .i64 (k : Nat) ∧ k + m = 4 ∧ LInv E B P sv ss0 w0 k 0 0 ss wr ∧ ∀ k', k' < k → Fst (tst (flat ss0) k') [] (flat ss0) none

def ILoop (E B P : Nat) (sv : Value) (ss0 : List RSt) (w0 : World) (k m : Nat) (vi : Value) (wr : World) : Prop :=
  ∃ i ss, vi = .int .i64 (i : Nat) ∧ i + m = ss0.length ∧ LInv E B P sv ss0 w0 k i 0 ss wr ∧ Fst (tst (flat ss0) k) [] (flat (ss0.take i)) none

def JLoop (E B P : Nat) (sv : Value) (ss0 : List RSt) (w0 : World) (k i : Nat) (s0 : RSt) (m : Nat) (vj : Value) (wr : World) : Prop :=
  ∃ j ss, vj = .int .i64 (j : Nat) ∧ j + m = s0.rs.length ∧ LInv E B P sv ss0 w0 k i j ss wr ∧ Fst (tst (flat ss0) k) [] ((flat (ss0.take i) ++ [(s0.at_, .state s0.name.data.toList)]) ++ (s0.rs.take j).map RRl.ln) none

theorem es_cell {w : World} {E k : Nat} (h : EsAt w E) (hk : k ≤ 3) : w.cell? ⟨E, k, none⟩ = some (.int .i64 (ecode k : Nat)) := by
  unfold EsAt at h
  match k, hk with
  | 0, _ => simp [World.cell?, h, ecode]
  | 1, _ => simp [World.cell?, h, ecode]
  | 2, _ => simp [World.cell?, h, ecode]
  | 3, _ => simp [World.cell?, h, ecode]

theorem rules_split {ss0 : List RSt} {i j : Nat} {s0 : RSt} {r0 : RRl} (hi : ss0[i]? = some s0) (hj : s0.rs[j]? = some r0) : flat ss0 = ((flat (ss0.take i) ++ [(s0.at_, .state s0.name.data.toList)]) ++ (s0.rs.take j).map RRl.ln) ++ (r0.at_, r0.ln.2) :: ((s0.rs.drop (j + 1)).map RRl.ln ++ flat (ss0.drop (i + 1))) := by
  have hl := get_lt hj
  rw [flat_split hi]
  conv => lhs; rw [← List.take_append_drop j s0.rs, List.drop_eq_getElem_cons hl]
  rw [List.getElem?_eq_getElem hl] at hj
  rw [Option.some.inj hj]
  simp
  rfl

theorem rules_take {ss0 : List RSt} {i j : Nat} {s0 : RSt} {r0 : RRl} (hj : s0.rs[j]? = some r0) : (flat (ss0.take i) ++ [(s0.at_, .state s0.name.data.toList)]) ++ (s0.rs.take (j + 1)).map RRl.ln = ((flat (ss0.take i) ++ [(s0.at_, .state s0.name.data.toList)]) ++ (s0.rs.take j).map RRl.ln) ++ [(r0.at_, r0.ln.2)] := by
  have hl := get_lt hj
  rw [List.getElem?_eq_getElem hl] at hj
  rw [List.take_succ_eq_append_getElem hl, Option.some.inj hj, List.map_append, ← List.append_assoc]
  rfl

theorem LInv.drew {E B P : Nat} {sv : Value} {ss0 : List RSt} {w0 : World} {k i j : Nat} {ss : List RSt} {w : World} (h : LInv E B P sv ss0 w0 k i j ss w) : LInv E B P sv ss0 w0 k i j ss w.drew :=
  ⟨h.es, h.grm.drew, h.shape, h.below.drew, h.short, fun i' j' s r h1 h2 h3 => (h.plans i' j' s r h1 h2 h3).keep (Nat.le_refl _) (fun _ _ _ _ hh => hh)⟩

/-- What the walk reads of the grammar, whatever plans there are. -/
theorem shape_cells {w : World} {B P g n cap rg rn rcap i j : Nat} {ss0 ss : List RSt} {s0 : RSt} {r0 : RRl} (hG : Grm w B P (.slice (some ⟨g, 0, none⟩) n cap) ss) (hsh : Shape ss0 ss) (hi : ss0[i]? = some s0) (hv : s0.rv = .slice (some ⟨rg, 0, none⟩) rn rcap) (hj : s0.rs[j]? = some r0) :
    w.cell? ⟨P, 0, none⟩ = some (.slice (some ⟨g, 0, none⟩) n cap) ∧ w.cell? ⟨g, i * 3 + 1, none⟩ = some (.slice (some ⟨rg, 0, none⟩) rn rcap) ∧ w.cell? ⟨rg, j * 6 + 5, none⟩ = some (.int .i64 r0.at_) := by
  obtain ⟨s, hs, hrv, hln⟩ := hsh.get hi
  obtain ⟨r, hr, hrl⟩ := lns_rule hln hj
  have hat : r.at_ = r0.at_ := congrArg Prod.fst hrl
  obtain ⟨-, a1, -, -⟩ := hG.at hs
  rw [hrv, hv] at a1
  exact ⟨hG.top_cell.1, a1, by rw [← hat]; exact (hG.fst hs (hrv.trans hv) hr).2.2.2.2.1⟩

set_option maxRecDepth 20000 in
set_option maxHeartbeats 4000000 in
theorem refLoad_any (s : ByteArray) (w : World) (hz : s.size ≤ maxLen) :
    Calls Tryz.prog 34 #[.string s] w (RefPost s.data.toList w) := by
  unfold maxLen at hz
  by_cases hl : 2000 < s.size
  · have g1 : decide ((2000 : Int) < (s.size : Int)) = true := decide_eq_true (by omega)
    have HEND := hide (show RefPost s.data.toList w (.returned (.tuple #[.pointer none, .int .i64 (1 : Nat), .int .i64 (0 : Nat)])) w from ⟨Below.refl _ _, .inl ⟨1, 0, by omega, rfl, .long hl⟩⟩)
    go_enter Tryz.func34, Tryz.ntmps34
    go_wp2_with fail
    exact bodyPost_ret (v := .tuple #[.pointer none, .int .i64 (1 : Nat), .int .i64 (0 : Nat)]) (by simp [results, Tryz.results34, go_sem, *]) rfl HEND.out
  · have g1 : decide ((2000 : Int) < (s.size : Int)) = false := decide_eq_false (by omega)
    have hz2 : s.size ≤ 2000 := by omega
    have HGA := hide (show Grm (w.alloc (.cells #[.slice none 0 0] 117)) w.heap.size w.heap.size (.slice none 0 0) [] from ⟨heap_alloc_last _ _, Nest.nil _ _ _ _ _ _, fun s hs => by simp at hs, Nat.le_refl _⟩)
    have HBA := hide (show Below w.heap.size w (w.alloc (.cells #[.slice none 0 0] 117)) from (Below.refl _ _).alloc (Nat.le_refl _) _)
    go_enter Tryz.func34, Tryz.ntmps34
    go_wp2_with fail
    obtain ⟨B, hB⟩ : ∃ B, B = w.heap.size := ⟨_, rfl⟩
    rw [← hB] at HGA ⊢
    have HBQ := hide hB
    clear hB
    generalize w.alloc (.cells #[.slice none 0 0] 117) = w1 at *
    refine (read_any B B s w1 (by rw [HBQ.out]; exact HBA.out.size) HGA.out hz2).mono ?_
    rintro e w2 ⟨hB2, ⟨a, rfl, hrd⟩ | ⟨rfl, acc, sv, ss, hrd, hG2, hflt, hss, hrs⟩⟩
    · have g2 : decide ((0 : Int) ≤ (a : Int)) = true := decide_eq_true (by omega)
      have HEND := hide (show RefPost s.data.toList w (.returned (.tuple #[.pointer none, .int .i64 (2 : Nat), .int .i64 a])) w2 from ⟨HBA.out.trans (by rw [← HBQ.out]; exact hB2), .inl ⟨2, a, by omega, rfl, .form hz2 hrd⟩⟩)
      clear HGA hB2 hrd
      go_wp2_with fail
      exact bodyPost_ret (v := .tuple #[.pointer none, .int .i64 (2 : Nat), .int .i64 a]) (by simp [results, Tryz.results34, go_sem, *]) rfl HEND.out
    · rw [byte_length] at hss hrs
      have HB2 := hide (show Below w.heap.size w w2 from HBA.out.trans (by rw [← HBQ.out]; exact hB2))
      have HG2 := hide hG2
      have HRD := hide hrd
      have HFL := hide hflt
      have HRS := hide hrs
      have HCN := hide (counted_any B B sv ss s.size w2 hG2 (by omega) (fun t ht => by have := hrs t ht; omega))
      clear hB2 hG2 hrd hflt hrs HGA
      go_wp2_with fail
      refine HCN.out.mono ?_
      rintro e w3 ⟨hB3, ⟨a, rfl, h3⟩ | ⟨h3, ⟨a, rfl, h4⟩ | ⟨h4, ⟨h0, rfl⟩ | ⟨h0, rfl⟩⟩⟩⟩
      · have HEND := hide (show RefPost s.data.toList w (.returned (.tuple #[.pointer none, .int .i64 (3 : Nat), .int .i64 a])) w3 from ⟨HB2.out.trans (hB3.mono HB2.out.size), .inl ⟨3, a, by omega, rfl, .fault hz2 HRD.out (by rw [← HFL.out]; exact .hit h3) (by omega)⟩⟩)
        clear hB3 h3 HCN
        go_wp2_with fail
        exact bodyPost_ret (v := .tuple #[.pointer none, .int .i64 (3 : Nat), .int .i64 a]) (by simp [results, Tryz.results34, go_sem, *]) rfl HEND.out
      · have HEND := hide (show RefPost s.data.toList w (.returned (.tuple #[.pointer none, .int .i64 (4 : Nat), .int .i64 a])) w3 from ⟨HB2.out.trans (hB3.mono HB2.out.size), .inl ⟨4, a, by omega, rfl, .fault hz2 HRD.out (by rw [← HFL.out]; exact .skip h3 (.hit h4)) (by omega)⟩⟩)
        clear hB3 h3 h4 HCN
        go_wp2_with fail
        exact bodyPost_ret (v := .tuple #[.pointer none, .int .i64 (4 : Nat), .int .i64 a]) (by simp [results, Tryz.results34, go_sem, *]) rfl HEND.out
      · have HEND := hide (show RefPost s.data.toList w (.returned (.tuple #[.pointer none, .int .i64 (4 : Nat), .int .i64 s.size])) w3 from ⟨HB2.out.trans (hB3.mono HB2.out.size), .inl ⟨4, s.size, by omega, rfl, .none hz2 HRD.out (by rw [← HFL.out, h0]; rfl)⟩⟩)
        clear hB3 h3 h4 h0 HCN
        go_wp2_with fail
        exact bodyPost_ret (v := .tuple #[.pointer none, .int .i64 (4 : Nat), .int .i64 s.size]) (by simp [results, Tryz.results34, go_sem, *]) rfl HEND.out
      · have HB3 := hide (HB2.out.trans (hB3.mono HB2.out.size))
        have HG3 := hide (HG2.out.below hB3)
        have H3 := hide h3
        have H4 := hide h4
        clear hB3 h3 h4 HCN HG2 HB2
        have HEA := hide (show EsAt (w3.alloc (.cells #[.int .i64 5, .int .i64 1, .int .i64 6, .int .i64 7] 3)) w3.heap.size from heap_alloc_last _ _)
        have HBE := hide (show Below w3.heap.size w3 (w3.alloc (.cells #[.int .i64 5, .int .i64 1, .int .i64 6, .int .i64 7] 3)) from (Below.refl _ _).alloc (Nat.le_refl _) _)
        go_wp2_with fail
        obtain ⟨E, hE⟩ : ∃ E, E = w3.heap.size := ⟨_, rfl⟩
        rw [← hE] at HEA ⊢
        clear hE
        generalize w3.alloc (.cells #[.int .i64 5, .int .i64 1, .int .i64 6, .int .i64 7] 3) = w4 at *
        have hB4 : B ≤ w4.heap.size := by rw [HBQ.out]; exact Nat.le_trans HB3.out.size HBE.out.size
        have HB4 := hide (show Below B w w4 by rw [HBQ.out]; exact HB3.out.trans (HBE.out.mono HB3.out.size))
        have HL0 := hide (show LInv E B B sv ss w4 0 0 0 ss w4 from ⟨HEA.out, HG3.out.below HBE.out, Shape.refl _, Below.refl _ _, fun h => by omega, fun i' j' s r h1 h2 h3 => by omega⟩)
        clear HEA HBE HG3 HB3
        go_loopg [9] 4 (fun m vk wx => KLoop E B B sv ss w4 m vk wx)
        case atStart => exact ⟨0, ss, rfl, rfl, HL0.out, fun k' h => by omega⟩
        case round =>
          obtain ⟨k, ssk, rfl, hk, hLk, hprev⟩ := hrel
          have HPV := hide hprev
          obtain ⟨km, hkm⟩ : ∃ km, km = gk := ⟨_, rfl⟩
          by_cases hk4 : k < 4
          · have g4 : decide ((k : Int) < 4) = true := decide_eq_true (by omega)
            have HLk := hide hLk
            clear hLk hprev
            go_wp2_with fail
            go_loopg [10] ss.length (fun m vi wx => ILoop E B B sv ss w4 k m vi wx)
            case atStart => exact ⟨0, ssk, rfl, by omega, HLk.out, .nil⟩
            case round =>
              obtain ⟨i, ssi, rfl, hi, hLi, hfi⟩ := hrel
              obtain ⟨im, him⟩ : ∃ im, im = gk := ⟨_, rfl⟩
              have c0 := hLi.grm.top_cell.1
              obtain ⟨ao, cap, hsv, hao⟩ := hLi.grm.form
              rw [hLi.shape.length] at hsv hao
              rw [hsv] at c0
              by_cases hil : i < ss.length
              · have g5 : decide ((i : Int) < (ss.length : Int)) = true := decide_eq_true (by omega)
                obtain ⟨g, rfl⟩ := hao (by omega)
                obtain ⟨s0, hs0⟩ : ∃ s0, ss[i]? = some s0 := ⟨ss[i], List.getElem?_eq_getElem hil⟩
                have HS0 := hide hs0
                have HST0 := hide (show Fst (tst (flat ss) k) [] (flat (ss.take i) ++ [(s0.at_, .state s0.name.data.toList)]) none from hfi.snoc (tst_state _ _ _ _))
                have HLi := hide hLi
                clear hLi hfi hs0
                go_wp2_with fail
                go_loopg [11] s0.rs.length (fun m vj wx => JLoop E B B sv ss w4 k i s0 m vj wx)
                case atStart => exact ⟨0, ssi, rfl, by omega, HLi.out, by simpa using HST0.out⟩
                case round =>
                  obtain ⟨j, ssj, rfl, hj, hLj, hfj⟩ := hrel
                  have HLj := hide hLj
                  have HFj := hide hfj
                  obtain ⟨sj, hsj, hrvj, hlnj⟩ := hLj.shape.get HS0.out
                  have hGj := hLj.grm
                  rw [hsv] at hGj
                  have d0 := hGj.top_cell.1
                  obtain ⟨-, d1, -, -⟩ := hGj.at hsj
                  obtain ⟨ro, rcap, hrv, hro⟩ := hLj.grm.rules (List.mem_of_getElem? hsj)
                  rw [lns_length hlnj] at hrv hro
                  rw [hrv] at d1
                  rw [hrvj] at hrv
                  have hE0 := es_cell hLj.es (show k ≤ 3 by omega)
                  have hrz := HRS.out s0 (List.mem_of_getElem? HS0.out)
                  have HRV := hide hrv
                  clear hLj hfj hsj hrvj hlnj hGj hrv
                  by_cases hjl : j < s0.rs.length
                  · have g6 : decide ((j : Int) < (s0.rs.length : Int)) = true := decide_eq_true (by omega)
                    obtain ⟨rg, rfl⟩ := hro (by omega)
                    obtain ⟨r0, hr0⟩ : ∃ r0, s0.rs[j]? = some r0 := ⟨s0.rs[j], List.getElem?_eq_getElem hjl⟩
                    have HR0 := hide hr0
                    have HWR := hide (wrong_any E B B sv ss w4 k i j ssj wr.drew HLj.out.drew (by omega) (show B ≤ wr.heap.size from Nat.le_trans hB4 HLj.out.below.size) (by omega) HS0.out hr0 HRV.out)
                    have HCE := hide (fun (w5 : World) (ss' : List RSt) (hG : Grm w5 B B sv ss') (hsh : Shape ss ss') => shape_cells (hsv ▸ hG) hsh HS0.out HRV.out hr0)
                    have hi0 : (i : Int) < (ss.length : Int) := by omega
                    have hj0 : (j : Int) < (s0.rs.length : Int) := by omega
                    have hk0 : (k : Int) < 4 := by omega
                    clear hr0
                    go_wp2_with fail
                    go_region_held3 (fun w' => w'.cell? ⟨B, 0, none⟩ = some (.slice (some ⟨g, 0, none⟩) ss.length cap) ∧ w'.cell? ⟨g, i * 3 + 1, none⟩ = some (.slice (some ⟨rg, 0, none⟩) s0.rs.length rcap) ∧ w'.cell? ⟨E, k, none⟩ = some (.int .i64 (ecode k : Nat)))
                      (first
                        | exact hS5
                        | go_keep)
                      (first
                        | (go_at_call 62; refine HWR.out.mono ?_; rintro e w5 ⟨b, ss', rfl, hb, hes, hG5, hsh, hbel, hnx⟩; obtain ⟨x1, x2, x3⟩ := HCE.out w5 ss' hG5 hsh; have x4 := es_cell hes (show k ≤ 3 by omega); have hS5 := And.intro x1 (And.intro x2 x4); have HBB := hide hb; have HBEL := hide hbel; have HNX := hide hnx; clear hb hes hG5 hsh hbel hnx))
                    cases b with
                    | true =>
                      have HEND := hide (fun n => show RefPost s.data.toList w (.returned (.tuple #[.pointer none, .int .i64 (ecode k : Nat), .int .i64 r0.at_])) (w5.drewN n) from ⟨Below.drewN' (by rw [← HBQ.out]; exact HB4.out.trans HBEL.out) n, .inl ⟨ecode k, r0.at_, by match k with | 0 => decide | 1 => decide | 2 => decide | _ + 3 => exact (by decide : (7 : Nat) ≠ 0), rfl, .fault hz2 HRD.out (by
                        rw [← HFL.out]
                        refine chain_at H3.out H4.out (by omega) HPV.out ?_
                        have := HFj.out.hit_at (a := r0.at_) (x := r0.ln.2) ((s0.rs.drop (j + 1)).map RRl.ln ++ flat (ss.drop (i + 1))) ((tst_pre _ _ _ _).2 (HBB.out.1 rfl))
                        rw [← rules_split HS0.out HR0.out] at this
                        exact this) (by match k with | 0 => decide | 1 => decide | 2 => decide | _ + 3 => exact (by decide : (7 : Nat) ≠ 0))⟩⟩)
                      clear HWR HCE HFj HLj HBB HBEL HNX HLi HST0 HLk HL0 hS5
                      go_wp2_with fail
                      go_quiet (fail)
                      go_wp2_with fail
                      exact bodyPost_ret (v := .tuple #[.pointer none, .int .i64 (ecode k : Nat), .int .i64 r0.at_]) (by simp [results, Tryz.results34, go_sem, *]) rfl (HEND.out _)
                    | false =>
                      have HST := hide (show JLoop E B B sv ss w4 k i s0 (gk - 1) (.int .i64 ((j + 1 : Nat) : Int)) w5 from ⟨j + 1, ss', rfl, by omega, HNX.out rfl, by
                        rw [rules_take HR0.out]
                        exact HFj.out.snoc (fun h => by have := HBB.out.2 ((tst_pre _ _ _ _).1 h); cases this)⟩)
                      have hj1 : j + 1 ≤ 9223372036854775807 := by omega
                      clear HWR HCE HFj HLj HBB HBEL HNX HLi HST0 HLk HL0 hS5
                      go_wp2_with fail
                      go_roundg (gk - 1)
                      case measure => omega
                      case rel => exact HST.out
                  · have g6 : decide ((j : Int) < (s0.rs.length : Int)) = false := decide_eq_false (by omega)
                    have HST := hide (show ILoop E B B sv ss w4 k (im - 1) (.int .i64 ((i + 1 : Nat) : Int)) wr from ⟨i + 1, ssj, rfl, by omega, HLj.out.nextI HS0.out (by omega), by
                      have := HFj.out
                      rw [List.take_of_length_le (l := s0.rs) (by omega), ← flat_take HS0.out] at this
                      exact this⟩)
                    have hi1 : i + 1 ≤ 9223372036854775807 := by omega
                    clear HFj HLj HLi HST0 HLk HL0
                    go_wp2_with fail
                    go_roundg (im - 1)
                    case measure => omega
                    case rel => exact HST.out
              · have g5 : decide ((i : Int) < (ss.length : Int)) = false := decide_eq_false (by omega)
                have HFk := hide (show Fst (tst (flat ss) k) [] (flat ss) none by rw [List.take_of_length_le (by omega)] at hfi; exact hfi)
                have HST := hide (show KLoop E B B sv ss w4 (km - 1) (.int .i64 ((k + 1 : Nat) : Int)) wr from ⟨k + 1, ssi, rfl, by omega, hLi.nextK (by omega) HFk.out, fun k' hk' => by
                  rcases Nat.lt_or_ge k' k with h | h
                  · exact HPV.out k' h
                  · have : k' = k := by omega
                    subst this
                    exact HFk.out⟩)
                have hk1 : k + 1 ≤ 9223372036854775807 := by omega
                clear hLi hfi HFk HLk HL0
                go_wp2_with fail
                go_roundg (km - 1)
                case measure => omega
                case rel => exact HST.out
          · have g4 : decide ((k : Int) < 4) = false := decide_eq_false (by omega)
            have hk44 : k = 4 := by omega
            have HEND := hide (show RefPost s.data.toList w (.returned (.tuple #[.pointer (some ⟨B, 0, none⟩), .int .i64 0, .int .i64 0])) wr from ⟨by rw [← HBQ.out]; exact HB4.out.trans hLk.below, .inr ⟨B, B, sv, ssk, rfl, by
              rw [hLk.shape.flat, HFL.out]
              refine .ok hz2 HRD.out ?_ ?_
              · rw [← HFL.out]
                exact chain_ok H3.out H4.out (fun k' h => HPV.out k' (by omega))
              · rw [← HFL.out]
                intro hf
                cases ss with
                | nil => exact h0 rfl
                | cons t l => simp [flat, RSt.lns] at hf, by rw [HBQ.out]; exact Nat.le_refl _, hLk.grm, fun t ht r hr => by
              obtain ⟨i', hi'⟩ := List.getElem?_of_mem ht
              obtain ⟨j', hj'⟩ := List.getElem?_of_mem hr
              exact hLk.plans i' j' t r hi' hj' (.inl (by omega))⟩⟩)
            clear hLk hprev HL0
            go_wp2_with fail
            exact bodyPost_ret (v := .tuple #[.pointer (some ⟨B, 0, none⟩), .int .i64 0, .int .i64 0]) (by simp [results, Tryz.results34, go_sem, *]) rfl HEND.out
end Go.Proofs.YtgncgdkpkkdaeaaGreatDoor

/- The document's grammar and painting's are one. -/
namespace Go.Proofs.YtgncgdkpkkdaeaaGreatDoor
open Go.RowKit Tint Go.Maps Go.Shelf

theorem secL_rules (l : List RRl) (r : Lns) (i c : Nat) : secL c (l.map RRl.ln ++ r) i = (if i + 1 = c then l.map RRl.ln else []) ++ secL c r i := by
  induction l with
  | nil => simp
  | cons a t ih =>
    have e1 : (a.ln).2.isState = false := rfl
    have e2 : (a.ln).2.isRule = true := rfl
    rw [List.map_cons, List.cons_append, secL, e1, e2, ih]
    by_cases h : i + 1 = c
    · simp [h]
    · simp [h]

theorem flat_cons (s : RSt) (t : List RSt) : flat (s :: t) = (s.at_, Ln.state s.name.data.toList) :: (s.rs.map RRl.ln ++ flat t) := by
  simp [flat, RSt.lns]

theorem secL_over (ss : List RSt) (i : Nat) : ∀ c, i + 1 ≤ c → secL c (flat ss) i = [] := by
  induction ss with
  | nil => intro c _; rfl
  | cons s t ih =>
    intro c hc
    rw [flat_cons, secL, if_pos (by rfl), secL_rules, if_neg (by omega), ih _ (by omega)]
    rfl

theorem secL_flat : ∀ (ss : List RSt) (c j : Nat) (t : RSt), ss[j]? = some t → secL c (flat ss) (c + j) = t.rs.map RRl.ln := by
  intro ss
  induction ss with
  | nil => intro c j t h; simp at h
  | cons s l ih =>
    intro c j t h
    rw [flat_cons, secL, if_pos (by rfl), secL_rules]
    cases j with
    | zero =>
      simp at h
      subst h
      rw [if_pos (by omega), secL_over _ _ _ (by omega), List.append_nil]
    | succ j =>
      rw [if_neg (by omega), List.nil_append, show c + (j + 1) = (c + 1) + j by omega]
      exact ih (c + 1) j t (by simpa using h)

theorem lnNames_flat (ss : List RSt) : lnNames (flat ss) = ss.map (·.name.data.toList) := by
  induction ss with
  | nil => rfl
  | cons s t ih =>
    have e : ∀ (l : List RRl), lnNames (l.map RRl.ln) = [] := fun l => by
      induction l with
      | nil => rfl
      | cons a b ih => rw [List.map_cons]; unfold lnNames at ih ⊢; rw [List.filterMap_cons]; simp [RRl.ln, lnName]
    rw [flat_cons, List.map_cons, ← ih]
    have e2 := e s.rs
    unfold lnNames at e2 ⊢
    rw [List.filterMap_cons, List.filterMap_append, e2]
    simp [lnName]

theorem flat_distinct {ss : List RSt} (h : Fst pTwice [] (flat ss) none) {i j : Nat} {t t' : RSt} (hij : i < j) (hi : ss[i]? = some t) (hj : ss[j]? = some t') : t.name.data.toList ≠ t'.name.data.toList := by
  intro he
  have hs : ss = ss.take j ++ t' :: ss.drop (j + 1) := by
    have hl := get_lt hj
    rw [← List.getElem?_eq_some_iff.1 hj |>.2, ← List.drop_eq_getElem_cons hl, List.take_append_drop]
  have hf : flat ss = flat (ss.take j) ++ (t'.at_, Ln.state t'.name.data.toList) :: (t'.rs.map RRl.ln ++ flat (ss.drop (j + 1))) := by
    rw [← flat_cons]
    conv => lhs; rw [hs]
    simp [flat]
  have h1 := fst_none_at h _ _ _ hf
  refine h1 ⟨_, rfl, t.at_, ?_⟩
  rw [List.nil_append, ← he]
  refine List.mem_flatMap.2 ⟨t, ?_, by simp [RSt.lns]⟩
  refine List.mem_of_getElem? (i := i) ?_
  rw [List.getElem?_take_of_lt hij, hi]

theorem chain_of {s : List UInt8} {L : Lns} (hl : LoadIs s 0 0 L) : Fst pTwice [] L none ∧ Fst pMany [] L none ∧ L ≠ [] ∧ ∀ y ∈ L, y.2.nb = true := by
  cases hl with
  | fault _ _ _ h1 => exact absurd rfl h1
  | ok _ _ hch hne =>
    refine ⟨?_, ?_, hne, fun y hy => (List.mem_filter.1 hy).2⟩
    · unfold tests at hch
      cases hch with
      | skip a1 _ => exact a1
    · unfold tests at hch
      cases hch with
      | skip _ hch => cases hch with
        | skip a1 _ => exact a1

theorem ba_ext {a b : ByteArray} (h : a.data.toList = b.data.toList) : a = b := by
  cases a
  cases b
  simp at h
  simp [h]

theorem same_of {s : List UInt8} {L : Lns} {G : List GS} {ss : List RSt} (h1 : LoadIs s 0 0 L) (h2 : LoadIs s 0 0 (flat ss)) (hg : LnsG L G) : SameG G ss ∧ (ss.length ≤ 12 ∧ ∀ t ∈ ss, t.rs.length ≤ 40) ∧ 0 < ss.length := by
  obtain ⟨-, -, rfl⟩ := h1.det h2
  obtain ⟨c1, c2, c3, c4⟩ := chain_of h2
  have hn := hg.names
  rw [lnNames_flat] at hn
  have hlen : G.length = ss.length := by
    have := congrArg List.length hn
    simpa using this.symm
  obtain ⟨f1, f2⟩ := few_of c4 c2
  rw [← lnNames_length, lnNames_flat, List.length_map] at f1
  have hnm : ∀ (i : Nat) (s : GS) (t : RSt), G[i]? = some s → ss[i]? = some t → s.nm.data.toList = t.name.data.toList := fun i s t hs ht => by
    have := congrArg (·[i]?) hn
    simp only [List.getElem?_map, hs, ht, Option.map_some, Option.some.injEq] at this
    exact this.symm
  refine ⟨⟨hlen, fun i s t hs ht => ?_⟩, ⟨f1, fun t ht => ?_⟩, ?_⟩
  · obtain ⟨r1, r2⟩ := hg.rules i s hs
    have hsec := secL_flat ss 0 i t ht
    rw [Nat.zero_add] at hsec
    rw [hsec] at r1 r2
    refine ⟨ba_ext (hnm i s t hs ht), by simpa using r1, fun k r q hr hq => ?_⟩
    obtain ⟨d, o, c, p, e1, e2, e3, e4, e5, e6, e7⟩ := r2 k q.ln r (by rw [List.getElem?_map, hq]; rfl) hr
    have e1' : Ln.rule q.d q.b.data.toList q.c.data.toList q.p.data.toList = .rule d o c p := e1
    cases e1'
    refine ⟨e6, e2, ba_ext e4, fun hd => ?_⟩
    have h5 := e5 hd
    rw [lnNames_flat, List.getElem?_map] at h5
    cases ht' : ss[r.op]? with
    | none => rw [ht'] at h5; cases h5
    | some t' =>
      rw [ht'] at h5
      simp only [Option.map_some, Option.some.injEq] at h5
      refine ⟨t', rfl, h5, fun j t'' hj ht2 e => ?_⟩
      exact flat_distinct c1 hj ht2 ht' (by rw [e, h5])
  · obtain ⟨i, hi⟩ := List.getElem?_of_mem ht
    have h3 := secL_short (flat ss) i 0
    have hsec := secL_flat ss 0 i t hi
    rw [Nat.zero_add] at hsec
    rw [hsec, List.length_map] at h3
    omega
  · cases ss with
    | nil => exact absurd rfl c3
    | cons _ _ => simp
end Go.Proofs.YtgncgdkpkkdaeaaGreatDoor

/- Line, Stack of a text. -/
namespace Go.Proofs.YtgncgdkpkkdaeaaGreatDoor
open Go.RowKit Tint Go.Maps Go.Shelf

theorem LE.length {x : LE} (h : x.st.length ≤ 8) : x.cells.length = 10 := by unfold LE.cells; rw [List.length_append, stCells_length h]; rfl

/-- A line's cells. -/
theorem LnsIs.cells {w : World} {B : Nat} {ao : Option Addr} {cp : Nat} {ls : List LE} (h : LnsIs w B (.slice ao ls.length cp) ls) {i : Nat} {x : LE} (hx : ls[i]? = some x) : ∃ lg, ao = some ⟨lg, 0, none⟩ ∧ lg < w.heap.size ∧ ∀ (y : Nat) c, x.cells[y]? = some c → w.cell? ⟨lg, i * 10 + y, none⟩ = some c := by
  obtain ⟨lg, c, hv⟩ := own_form h.row (by have := get_lt hx; omega)
  cases hv
  obtain ⟨_, cur, hcur⟩ := row_type h.row (k := lg) rfl
  refine ⟨lg, rfl, lt_of_get hcur, fun y c hy => (row_cell h.row ?_).1⟩
  have hy5 : y < 10 := by have := get_lt hy; rw [LE.length (h.each x (List.mem_of_getElem? hx)).1] at this; exact this
  rw [List.flatMap_def, flatten_at (si := 10) (by intro r hr; obtain ⟨z, hz, rfl⟩ := List.mem_map.1 hr; exact LE.length (h.each z hz).1) (r := x.cells) (by rw [List.getElem?_map, hx]; rfl) y hy5]
  exact hy

theorem Runs.short {G : List GS} (hok : GOk G) {st : List Nat} {ls : List (List UInt8)} {out : List (List Nat × List Sp)} {st' : List Nat} (h : Runs G st ls out st') (hl : ∀ l ∈ ls, l.length ≤ 3000) : ∀ y ∈ out, y.2.length ≤ 7000 := by
  induction h with
  | nil => intro y hy; simp at hy
  | cons h1 _ ih =>
    intro y hy
    rcases List.mem_cons.1 hy with rfl | hy
    · have hle := hl _ List.mem_cons_self
      rcases h1 with h1 | ⟨a, pre, top, s, h2, h3, _, _, _, rfl⟩
      · exact Nat.le_trans (h1.short hok) (by omega)
      · have := h2.short hok; show (pre ++ [_]).length ≤ 7000; rw [List.length_append, List.length_singleton]; omega
    · exact ih (fun l hl' => hl l (List.mem_cons_of_mem _ hl')) y hy

section
variable {w : World} {B bX bS g n cap : Nat} {text : ByteArray} {lv : Value} {ls : List LE} {work : Nat}

theorem sheetSpans_any (i : Nat) (x : LE) (h : SheetIs w B bS g n cap text lv ls work) (hx : ls[i]? = some x) :
    Calls Tryz.prog 53 #[.pointer (some ⟨bS, 0, none⟩), .int .i64 i] w fun e w' => e = .returned (.func (.func 107) #[] #[.pointer (some ⟨w.heap.size, 0, none⟩)]) ∧ w' = w.alloc (.cells #[x.sv] 64) := by
  have hlns := h.lns
  obtain ⟨ao, cp, hv⟩ := row_slice hlns.row
  subst hv
  obtain ⟨lg, hao, _, hc⟩ := hlns.cells hx
  subst hao
  have h8 := (hlns.each x (List.mem_of_getElem? hx)).1
  have c9 := hc 9 x.sv (by unfold LE.cells; rw [List.getElem?_append_right (by rw [stCells_length h8]; omega), stCells_length h8]; rfl)
  have c2 : w.cell? ⟨bS, 2, none⟩ = some (.slice (some ⟨lg, 0, none⟩) ls.length cp) := cell_at h.sh rfl
  have hi := get_lt hx
  obtain ⟨sao, scp, hsv⟩ := row_slice (hlns.each x (List.mem_of_getElem? hx)).2
  rw [hsv] at c9
  have HV := hide (values_fn x.sv ⟨_, _, _, hsv⟩ w)
  rw [hsv] at HV ⊢
  clear hlns hc h hx
  go_enter Tryz.func53, Tryz.ntmps53
  go_wp2_with fail
  refine HV.out.mono ?_
  rintro e w1 ⟨rfl, hw1⟩
  have HW := hide hw1
  clear hw1 HV
  go_wp2_with fail
  go_ret
  exact ⟨rfl, HW.out⟩

def LinePost (ls : List LE) (i : Int) (w : World) (e : Ending) (w' : World) : Prop :=
  Below w.heap.size w w' ∧ ((¬ (0 ≤ i ∧ i < ls.length) ∧ e = .returned (.tuple #[.slice none 0 0, .int .i64 8])) ∨ ∃ (k : Nat) (x : LE) (v : Value), i = k ∧ ls[k]? = some x ∧ e = .returned (.tuple #[v, .int .i64 0]) ∧ SpRow w' w.heap.size v x.sps)

set_option maxHeartbeats 1000000 in
theorem txLine_any (i : Int) (hfew : ∀ x ∈ ls, x.sps.length ≤ 7000) (h : SheetIs w B bS g n cap text lv ls work) (hx : w.heap[bX]? = some (.cells #[.pointer (some ⟨bS, 0, none⟩)] 46 (0, 0))) :
    Calls Tryz.prog 24 #[.pointer (some ⟨bX, 0, none⟩), .int .i64 i] w (LinePost ls i w) := by
  have c0 := cell_one hx
  have HF := hide (lineFault_any i h hx)
  by_cases hin : 0 ≤ i ∧ i < ls.length
  · rw [if_pos hin] at HF
    obtain ⟨k, rfl⟩ : ∃ k : Nat, i = k := ⟨i.toNat, by omega⟩
    obtain ⟨x, hxk⟩ : ∃ x, ls[k]? = some x := ⟨_, List.getElem?_eq_getElem (by omega)⟩
    have HS := hide (sheetSpans_any k x h hxk)
    have hrow := (h.lns.each x (List.mem_of_getElem? hxk)).2
    have HC := hide (collect_any B w.heap.size x.sv x.sps (w.alloc (.cells #[x.sv] 64)) (hfew x (List.mem_of_getElem? hxk)) (heap_alloc_last _ _) (row_keep hrow fun k hk => ((Below.refl _ _).alloc (Nat.le_refl _) _).block k (by obtain ⟨_, c, hc⟩ := row_type hrow hk; exact lt_of_get hc)))
    have HX := hide hxk
    clear h hx hrow hxk hin
    go_enter Tryz.func24, Tryz.ntmps24
    go_wp2_with fail
    refine HF.out.mono ?_
    rintro e1 w1 ⟨rfl, h1⟩
    subst h1
    go_wp2_with fail
    refine HS.out.mono ?_
    rintro e2 w2 ⟨rfl, h2⟩
    rw [← h2] at HC
    have hb2 : Below w1.heap.size w1 w2 := by rw [h2]; exact (Below.refl _ _).alloc (Nat.le_refl _) _
    clear h2
    go_wp2_with fail
    refine HC.out.mono ?_
    rintro e3 w3 ⟨v, rfl, h3, hb3⟩
    obtain ⟨vao, vc, hv⟩ := row_slice h3
    subst hv
    have HEND := hide (show LinePost ls (k : Int) w1 (.returned (.tuple #[.slice vao x.sps.length vc, .int .i64 0])) w3 from ⟨hb2.trans (hb3.mono hb2.size), .inr ⟨k, x, _, rfl, HX.out, rfl, row_base h3 hb2.size⟩⟩)
    clear h3 hb3 hb2 HC
    go_wp2_with fail
    go_ret2
    exact HEND.out
  · rw [if_neg hin] at HF
    clear h hx
    have HI := hide hin
    clear hin
    go_enter Tryz.func24, Tryz.ntmps24
    go_wp2_with fail
    refine HF.out.mono ?_
    rintro e1 w1 ⟨rfl, h1⟩
    subst h1
    go_wp2_with fail
    go_ret2
    exact ⟨Below.refl _ _, .inl ⟨HI.out, rfl⟩⟩

theorem sheetStack_any (i : Nat) (x : LE) (G : List GS) (h : SheetIs w B bS g n cap text lv ls work) (hx : ls[i]? = some x) (hgood : Good G x.st) (hG : GramIs w g n cap G) :
    Calls Tryz.prog 54 #[.pointer (some ⟨bS, 0, none⟩), .int .i64 i] w (NamesPost (nmsOf G x.st) w) := by
  have hlns := h.lns
  obtain ⟨ao, cp, hv⟩ := row_slice hlns.row
  subst hv
  obtain ⟨lg, hao, _, hc⟩ := hlns.cells hx
  subst hao
  obtain ⟨a0, a1, a2, a3, a4, a5, a6, a7, a8, hst⟩ := nine hgood.1.2
  have hcc : ∀ (y : Nat) c, (stCells x.st)[y]? = some c → w.cell? ⟨lg, i * 10 + y, none⟩ = some c := fun y c hy => hc y c (by unfold LE.cells; rw [List.getElem?_append_left (get_lt hy)]; exact hy)
  rw [hst] at hcc
  have d0 := hcc 0 _ rfl
  have d1 := hcc 1 _ rfl
  have d2 := hcc 2 _ rfl
  have d3 := hcc 3 _ rfl
  have d4 := hcc 4 _ rfl
  have d5 := hcc 5 _ rfl
  have d6 := hcc 6 _ rfl
  have d7 := hcc 7 _ rfl
  have d8 := hcc 8 _ rfl
  rw [Nat.add_zero] at d0
  have c0 : w.cell? ⟨bS, 0, none⟩ = some (.slice (some ⟨g, 0, none⟩) n cap) := cell_at h.sh rfl
  have c2 : w.cell? ⟨bS, 2, none⟩ = some (.slice (some ⟨lg, 0, none⟩) ls.length cp) := cell_at h.sh rfl
  have hi := get_lt hx
  have HN := hide (names_any g n cap G x.st hgood w.drew (hG.below (Below.refl _ _).drew))
  unfold stv at HN
  rw [hst] at HN
  have HKP := hide (fun (w' : World) (hb : Below w.drew.heap.size w.drew w') => show w'.cell? ⟨bS, 0, none⟩ = some (.slice (some ⟨g, 0, none⟩) n cap) ∧ w'.cell? ⟨bS, 2, none⟩ = some (.slice (some ⟨lg, 0, none⟩) ls.length cp) ∧ w'.cell? ⟨lg, i * 10, none⟩ = some (.int .i64 a0) ∧ w'.cell? ⟨lg, i * 10 + 1, none⟩ = some (.int .i64 a1) ∧ w'.cell? ⟨lg, i * 10 + 2, none⟩ = some (.int .i64 a2) ∧ w'.cell? ⟨lg, i * 10 + 3, none⟩ = some (.int .i64 a3) ∧ w'.cell? ⟨lg, i * 10 + 4, none⟩ = some (.int .i64 a4) ∧ w'.cell? ⟨lg, i * 10 + 5, none⟩ = some (.int .i64 a5) ∧ w'.cell? ⟨lg, i * 10 + 6, none⟩ = some (.int .i64 a6) ∧ w'.cell? ⟨lg, i * 10 + 7, none⟩ = some (.int .i64 a7) ∧ w'.cell? ⟨lg, i * 10 + 8, none⟩ = some (.int .i64 a8) from
    have hb' : Below w.heap.size w w' := ⟨hb.os, hb.tape, hb.output, hb.size, hb.block⟩
    ⟨cell_below c0 hb', cell_below c2 hb', cell_below d0 hb', cell_below d1 hb', cell_below d2 hb', cell_below d3 hb', cell_below d4 hb', cell_below d5 hb', cell_below d6 hb', cell_below d7 hb', cell_below d8 hb'⟩)
  clear hlns hc hcc h hx hst
  go_enter Tryz.func54, Tryz.ntmps54
  go_wp2_with fail
  go_region_held3 (fun w' => w'.cell? ⟨bS, 0, none⟩ = some (.slice (some ⟨g, 0, none⟩) n cap) ∧ w'.cell? ⟨bS, 2, none⟩ = some (.slice (some ⟨lg, 0, none⟩) ls.length cp) ∧ w'.cell? ⟨lg, i * 10, none⟩ = some (.int .i64 a0) ∧ w'.cell? ⟨lg, i * 10 + 1, none⟩ = some (.int .i64 a1) ∧ w'.cell? ⟨lg, i * 10 + 2, none⟩ = some (.int .i64 a2) ∧ w'.cell? ⟨lg, i * 10 + 3, none⟩ = some (.int .i64 a3) ∧ w'.cell? ⟨lg, i * 10 + 4, none⟩ = some (.int .i64 a4) ∧ w'.cell? ⟨lg, i * 10 + 5, none⟩ = some (.int .i64 a5) ∧ w'.cell? ⟨lg, i * 10 + 6, none⟩ = some (.int .i64 a6) ∧ w'.cell? ⟨lg, i * 10 + 7, none⟩ = some (.int .i64 a7) ∧ w'.cell? ⟨lg, i * 10 + 8, none⟩ = some (.int .i64 a8))
    (first
      | with_reducible exact hS1
      | go_keep)
    (first
      | (go_at_call 80; refine HN.out.mono ?_; clear HN; rintro e w1 ⟨v, rfl, h1, h2⟩; have hS1 := HKP.out w1 h2; have HE := hide (show NamesPost (nmsOf G x.st) w (.returned v) w1 from ⟨v, rfl, h1, ⟨h2.os, h2.tape, h2.output, h2.size, h2.block⟩⟩); obtain ⟨vao, vc, hv⟩ := row_slice h1; subst hv; clear h1 h2))
  all_goals
    clear hS1
    go_wp2_with fail
    go_ret
    exact HE.out

def StackPost (G : List GS) (ls : List LE) (i : Int) (w : World) (e : Ending) (w' : World) : Prop :=
  Below w.heap.size w w' ∧ ((¬ (0 ≤ i ∧ i < ls.length) ∧ e = .returned (.tuple #[.slice none 0 0, .int .i64 8])) ∨ ∃ (k : Nat) (x : LE) (v : Value), i = k ∧ ls[k]? = some x ∧ e = .returned (.tuple #[v, .int .i64 0]) ∧ NmRow w' w.heap.size v (nmsOf G x.st))

set_option maxHeartbeats 1000000 in
theorem txStack_any (i : Int) (G : List GS) (hgood : ∀ x ∈ ls, Good G x.st) (hG : GramIs w g n cap G) (h : SheetIs w B bS g n cap text lv ls work) (hx : w.heap[bX]? = some (.cells #[.pointer (some ⟨bS, 0, none⟩)] 46 (0, 0))) :
    Calls Tryz.prog 25 #[.pointer (some ⟨bX, 0, none⟩), .int .i64 i] w (StackPost G ls i w) := by
  have c0 := cell_one hx
  have HF := hide (lineFault_any i h hx)
  by_cases hin : 0 ≤ i ∧ i < ls.length
  · rw [if_pos hin] at HF
    obtain ⟨k, rfl⟩ : ∃ k : Nat, i = k := ⟨i.toNat, by omega⟩
    obtain ⟨x, hxk⟩ : ∃ x, ls[k]? = some x := ⟨_, List.getElem?_eq_getElem (by omega)⟩
    have HS := hide (sheetStack_any k x G h hxk (hgood x (List.mem_of_getElem? hxk)) hG)
    have HX := hide hxk
    clear h hx hxk hin hgood hG
    go_enter Tryz.func25, Tryz.ntmps25
    go_wp2_with fail
    refine HF.out.mono ?_
    rintro e1 w1 ⟨rfl, h1⟩
    subst h1
    go_wp2_with fail
    refine HS.out.mono ?_
    rintro e3 w3 ⟨v, rfl, h3, hb3⟩
    obtain ⟨vao, vc, hv⟩ := row_slice h3
    subst hv
    have HEND := hide (show StackPost G ls (k : Int) w1 (.returned (.tuple #[.slice vao (nmsOf G x.st).length vc, .int .i64 0])) w3 from ⟨hb3, .inr ⟨k, x, _, rfl, HX.out, rfl, h3⟩⟩)
    clear h3 hb3
    go_wp2_with fail
    go_ret2
    exact HEND.out
  · rw [if_neg hin] at HF
    clear h hx
    have HI := hide hin
    clear hin
    go_enter Tryz.func25, Tryz.ntmps25
    go_wp2_with fail
    refine HF.out.mono ?_
    rintro e1 w1 ⟨rfl, h1⟩
    subst h1
    go_wp2_with fail
    go_ret2
    exact ⟨Below.refl _ _, .inl ⟨HI.out, rfl⟩⟩
end
end Go.Proofs.YtgncgdkpkkdaeaaGreatDoor
