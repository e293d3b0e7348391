/- Put together from TE. -/
import Derived.Test.YtgncgdkpkkdaeaaGreatDoorQTD
import Derived.Test.YtgncgdkpkkdaeaaGreatDoorQK
/- The document's own search: Find. -/
namespace Go.Proofs.YtgncgdkpkkdaeaaGreatDoor.Ref
open Go.RowKit Tint

def beginV (o : Option (Nat × Nat)) : Value := optv (o.map (·.1))
def endV : Option (Nat × Nat) → Value
  | none => .int .i64 0
  | some (_, e) => .int .i64 e

/-- A row of places, later than the plan. -/
structure Fs (wP : World) (ls : List (Value × Sp)) (wr : World) (G : Nat) (ons : List (Option Nat)) : Prop where
  below : Below wP.heap.size wP wr
  hG : wP.heap.size ≤ G
  row : RowAt wr G ons
  len : ons.length = ls.length
  closed : Closed (ls.map (·.2)) (atk ons)

def FindLoop (wP : World) (ls : List (Value × Sp)) (first : Nat) (r : Re) (T : List UInt8) (f k : Nat) (von vb ve va : Value) (wr : World) : Prop :=
  ∃ G ons a o, von = .slice (some ⟨G, 0, none⟩) ls.length ls.length ∧ vb = beginV o ∧ ve = endV o ∧ va = .int .i64 (a : Nat) ∧ f ≤ a ∧ a + k = T.length + 1 ∧ Fs wP ls wr G ons ∧ (0 < k → OnIs (ls.map (·.2)) T first f (lim a o) a (atk ons)) ∧ Tint.Found r T f a o

/-- The next byte is taken, spot by spot. -/
def TakeLoop (wP : World) (ls : List (Value × Sp)) (L : Nat) (x : UInt8) (G G2 : Nat) (ons : List (Option Nat)) (k : Nat) (vl vk : Value) (wr : World) : Prop :=
  ∃ K nxs left, vk = .int .i64 (K : Nat) ∧ vl = .bool left ∧ K + k = ls.length ∧ Fs wP ls wr G2 nxs ∧ RowAt wr G ons ∧ Taken (ls.map (·.2)) L K x (atk ons) (atk nxs) ∧ (left = false → nxs = List.replicate ls.length none)

theorem atk_none (n k : Nat) : atk (List.replicate n none) k = none := by
  unfold atk
  rw [List.getElem?_replicate]
  split <;> rfl

theorem Fs.fresh {wP w w' : World} {ls : List (Value × Sp)} (hb : Below wP.heap.size wP w) (hr : RowAt w' w.heap.size (List.replicate ls.length none)) (hb2 : Below w.heap.size w w') : Fs wP ls w' w.heap.size (List.replicate ls.length none) :=
  ⟨hb.trans (hb2.mono hb.size), hb.size, hr, by simp, by
    have : atk (List.replicate ls.length none) = fun _ => .none := funext fun k => atk_none _ k
    rw [this]; exact Closed.none _⟩

theorem Fs.drewN {wP : World} {ls : List (Value × Sp)} {wr : World} {G : Nat} {ons : List (Option Nat)} (h : Fs wP ls wr G ons) (n : Nat) : Fs wP ls (wr.drewN n) G ons := ⟨⟨h.below.os, h.below.tape, h.below.output, h.below.size, h.below.block⟩, h.hG, h.row, h.len, h.closed⟩
theorem Fs.drew {wP : World} {ls : List (Value × Sp)} {wr : World} {G : Nat} {ons : List (Option Nat)} (h : Fs wP ls wr G ons) : Fs wP ls wr.drew G ons := ⟨⟨h.below.os, h.below.tape, h.below.output, h.below.size, h.below.block⟩, h.hG, h.row, h.len, h.closed⟩

theorem take_done {ls : List (Value × Sp)} {T : List UInt8} {first f L L' a K : Nat} {x : UInt8} {ons nxs : List (Option Nat)} (h : Taken (ls.map (·.2)) L' K x (atk ons) (atk nxs)) (hK : K = ls.length) (ho : OnIs (ls.map (·.2)) T first f L a (atk ons)) (hL : L' ≤ L) (hLa : L' ≤ a + 1) (ha : T[a]? = some x) : OnIs (ls.map (·.2)) T first f L' (a + 1) (atk nxs) :=
  Taken.done (by rw [List.length_map, ← hK]; exact h) ho hL hLa ha

theorem take_enter {wP : World} {ls : List (Value × Sp)} {L K G G2 k' b : Nat} {x : UInt8} {ons nxs : List (Option Nat)} {s : Sp} {c : Cls} {W w5 : World} {e : Ending} (hfs : Fs wP ls W G2 nxs) (hrow : RowAt W G ons) (hGG : G ≠ G2) (htk : Taken (ls.map (·.2)) L K x (atk ons) (atk nxs)) (h2 : atk ons K = some b) (h3 : b < L) (h4 : (ls.map (·.2))[K]? = some s) (h5 : s.on = some c) (h6 : c.has x = true) (h7 : s.to = some k') (hp : EnterPost (ls.map (·.2)) G2 k' b nxs W e w5) :
    e = .returned (.tuple #[]) ∧ ∃ nxs', Fs wP ls w5 G2 nxs' ∧ RowAt w5 G ons ∧ Taken (ls.map (·.2)) L (K + 1) x (atk ons) (atk nxs') := by
  obtain ⟨nxs', he, hap, hr, hl, hent, hcl⟩ := hp
  refine ⟨he, nxs', ⟨hfs.below.trans (hap.below (B := wP.heap.size) hfs.below.size hfs.hG), hfs.hG, hr, hl.trans hfs.len, hcl⟩, ?_, htk.take h2 h3 h4 h5 h6 h7 hent⟩
  exact (hap.keep G (lt_of_get hrow) hGG).trans hrow

set_option maxRecDepth 20000 in
set_option maxHeartbeats 40000000 in
theorem find_any (wP : World) (B P : Nat) (ls : List (Value × Sp)) (first : Nat) (r : Re) (hPI : PlanIs wP B P ls first r) (hB : B ≤ wP.heap.size) (text : ByteArray) (f : Nat) (hf : f ≤ text.size) (hsz : text.size ≤ 140737488351232) :
    Calls Tryz.prog 75 #[.pointer (some ⟨P, 0, none⟩), .string text, .int .i64 f] wP (FindPost wP.heap.size r text.data.toList f wP) := by
  have h0 : 0 < ls.length := Nat.lt_of_le_of_lt (Nat.zero_le _) hPI.lt
  have hn : ls.length ≤ 300 := hPI.small
  have HPI := hide hPI
  have HL := hide (show ∀ u, Tint.Reach (ls.map (·.2)) first u 0 ↔ Mt r u from hPI.laid.whole (by obtain ⟨v, hv⟩ := hPI.fin; rw [List.getElem?_map, hv]; rfl))
  have HNO := hide (fun (W : World) (hb : Below wP.heap.size wP W) => none_any B P ls first W (hPI.plan.later hB hb) h0 hn)
  have HEN := hide (fun (G spot began : Nat) (ons : List (Option Nat)) (W : World) (h : Fs wP ls W G ons) (hs : spot < ls.length) => enter_any wP B P ls first hPI.plan hB h0 hn hPI.links G spot began ons W h.below h.hG h.row h.len h.closed hs)
  have HPC := hide (fun (W : World) (hb : Below wP.heap.size wP W) => (hPI.plan.later hB hb).mem h0)
  have HFI := hide hPI.lt
  clear hPI
  go_enter Tryz.func75, Tryz.ntmps75
  go_wp2_with fail
  refine (HNO.out wP (Below.refl _ _)).mono ?_
  rintro e w1 ⟨rfl, hr1, hb1⟩
  have HF1 := hide (Fs.fresh (Below.refl _ wP) hr1 hb1)
  clear hr1 hb1
  go_wp2_with fail
  go_loopg [9, 10, 11, 12] (text.size + 1 - f) (fun k von vb ve va wr => FindLoop wP ls first r text.data.toList f k von vb ve va wr)
  case atStart => exact ⟨_, _, f, none, rfl, rfl, rfl, rfl, Nat.le_refl _, by rw [text_length]; omega, HF1.out, by
      have : atk (List.replicate ls.length none) = fun _ => .none := funext fun k => atk_none _ k
      rw [this]; exact fun _ => OnIs.start _ _ _ _, Tint.Found.start _ _ _⟩
  case round =>
    obtain ⟨G, ons, a, o, rfl, rfl, rfl, rfl, hfa, hk, hfs, hon, hfd⟩ := hrel
    rw [text_length] at hk
    have HFS := hide hfs
    have HON := hide hon
    have HFD := hide hfd
    clear hfs hon hfd
    cases gk with
    | zero =>
      have hgt : ¬ a ≤ text.size := by omega
      have g1 : decide (a ≤ text.size) = false := by simpa using hgt
      have HEND := hide (show FindPost wP.heap.size r text.data.toList f wP (.returned (found o)) wr from ⟨o, Tint.Found.end (by rw [text_length, show text.size + 1 = a by omega]; exact HFD.out), rfl, HFS.out.below⟩)
      cases o with
      | none =>
        simp only [beginV, endV, optv, Option.map_none]
        go_wp2_with fail
        exact bodyPost_ret (v := .tuple #[.int .i64 0, .int .i64 0, .bool false]) (by simp [results, Tryz.results75, go_sem, *]) rfl HEND.out
      | some p =>
        obtain ⟨b0, e0⟩ := p
        simp only [beginV, endV, optv, Option.map_some]
        go_wp2_with fail
        exact bodyPost_ret (v := .tuple #[.int .i64 b0, .int .i64 e0, .bool true]) (by simp [results, Tryz.results75, go_sem, *]) rfl HEND.out
    | succ k =>
      have hle : a ≤ text.size := by omega
      have g1 : decide ((a : Int) ≤ (text.size : Int)) = true := by simpa using hle
      obtain ⟨g2, cap2, m1, m2, m3, m4, m5, m6⟩ := HPC.out wr HFS.out.below
      clear m1 m3 m4 m5 m6
      cases o with
      | none =>
        simp only [beginV, endV, optv, Option.map_none]
        go_wp2_with fail
        refine (HEN.out G first a ons wr HFS.out HFI.out).mono ?_
        rintro e w2 ⟨ons1, rfl, hap, hrow, hlen, hent, hcl⟩
        have HFS1 := hide (show Fs wP ls w2 G ons1 from ⟨HFS.out.below.trans (hap.below (B := wP.heap.size) HFS.out.below.size HFS.out.hG), HFS.out.hG, hrow, hlen.trans HFS.out.len, hcl⟩)
        have HON1 := hide (show OnIs (ls.map (·.2)) text.data.toList first f (lim (a + 1) none) a (atk ons1) from (HON.out (by omega)).enter hfa hent)
        clear hap hrow hlen hent hcl m2
        have hc0 := (HFS1.out.row.cell (k := 0) (by rw [HFS1.out.len]; exact h0)).1
        rcases h00 : atk ons1 0 with _ | b1
        · rw [h00] at hc0
          simp only [optv] at hc0
          have HFD1 := hide (HFD.out.miss HL.out HON1.out h00)
          have HLM := hide (show a + 1 ≤ lim (a + 1) none from Nat.le_refl _)
          clear h00
          go_wp2_with fail
          refine (HNO.out w2 HFS1.out.below).mono ?_
          rintro e w3 ⟨rfl, hr3, hb3⟩
          have HFS3 := hide (Fs.fresh HFS1.out.below hr3 hb3)
          have HROW3 := hide (show RowAt w3 G ons1 from (hb3.block G (lt_of_get HFS1.out.row)).trans HFS1.out.row)
          obtain ⟨G2, hG2⟩ : ∃ G2, G2 = w2.heap.size := ⟨_, rfl⟩
          rw [← hG2] at HFS3 ⊢
          have HGG := hide (show G ≠ G2 by rw [hG2]; exact Nat.ne_of_lt (lt_of_get HFS1.out.row))
          clear hr3 hb3 hG2
          go_wp2_with fail
          rcases Nat.lt_or_ge a text.size with hlt | hge
          · have ga : decide ((a : Int) < (text.size : Int)) = true := by simpa using hlt
            obtain ⟨x, hx⟩ : ∃ x, x = text[a] := ⟨_, rfl⟩
            have HX := hide (show text.data.toList[a]? = some x by rw [hx]; exact List.getElem?_eq_getElem (show a < text.data.toList.length from hlt))
            have HXT := hide hx
            clear hx
            go_loopg [14, 15] ls.length (fun k vl vk wr' => TakeLoop wP ls (a + 1) x G G2 ons1 k vl vk wr')
            case atStart => exact ⟨0, List.replicate ls.length none, false, rfl, rfl, by omega, HFS3.out, HROW3.out, by
                have : atk (List.replicate ls.length none) = fun _ => .none := funext fun k => atk_none _ k
                rw [this]; exact Taken.start _ _ _ _, fun _ => rfl⟩
            case round =>
              obtain ⟨K, nxs, left, rfl, rfl, hK, hfs2, hrow2, htk, hleft⟩ := hrel
              have HFS2 := hide hfs2
              have HROW2 := hide hrow2
              have HTK := hide htk
              have HLEFT := hide hleft
              clear hfs2 hrow2 htk hleft
              cases gk with
              | zero =>
                have hKn : ¬ K < ls.length := by omega
                have gK : decide (K < ls.length) = false := by simpa using hKn
                have HDN := hide (take_done HTK.out (by omega) HON1.out HLM.out (by omega) HX.out)
                have HAZ := hide (show 0 < k → OnIs (ls.map (·.2)) text.data.toList first f (lim (a + 1) none) (a + 1) (atk nxs) from fun _ => HDN.out)
                go_wp2_with fail
                go_roundg k
                case measure => omega
                case rel => exact ⟨G2, nxs, a + 1, none, rfl, rfl, rfl, rfl, by omega, by rw [text_length]; omega, HFS2.out, HAZ.out, HFD1.out⟩
              | succ k2 =>
                have hKl : K < ls.length := by omega
                have gK : decide ((K : Int) < (ls.length : Int)) = true := by simpa using hKl
                have hGn := HGG.out
                obtain ⟨g3, cap3, n1, n2, n3, n4, n5, n6⟩ := HPC.out wr HFS2.out.below
                obtain ⟨⟨v, s⟩, hls⟩ : ∃ l, ls[K]? = some l := ⟨_, List.getElem?_eq_getElem hKl⟩
                obtain ⟨n7, n8, n9⟩ := n4 K _ hls
                have hov := (HPI.out.plan.later hB HFS2.out.below).ons (v, s) (List.mem_of_getElem? hls)
                have HLS := hide (HPI.out.links (v, s) (List.mem_of_getElem? hls))
                have HFK := hide (show (ls.map (·.2))[K]? = some s by rw [List.getElem?_map, hls]; rfl)
                have hc1 := (HROW2.out.cell (k := K) (by rw [HFS1.out.len]; exact hKl)).1
                have HSK := hide (show ∀ n, (∀ s' c b, atk ons1 K = some b → b < (a + 1) → (ls.map (·.2))[K]? = some s' → s'.on = some c → c.has x = true → False) → TakeLoop wP ls (a + 1) x G G2 ons1 k2 (.bool left) (.int .i64 ((K + 1 : Nat) : Int)) (wr.drewN n) from fun n hno => ⟨K + 1, nxs, left, rfl, rfl, by omega, HFS2.out.drewN n, HROW2.out, HTK.out.skip hno, HLEFT.out⟩)
                clear n2 n3 n4 n5 n6 n9 hls
                rcases hk0 : atk ons1 K with _ | b
                · rw [hk0] at hc1
                  simp only [optv] at hc1
                  have HS2 := hide (fun n => HSK.out n (fun s' c b h => by rw [hk0] at h; cases h))
                  clear hk0 hov n7 n8
                  go_wp2_with fail
                  go_quiet (fail)
                  rename Nat => nq5
                  go_wp2_with fail
                  go_roundg k2
                  case measure => omega
                  case rel => exact HS2.out nq5
                · rw [hk0] at hc1
                  simp only [optv] at hc1
                  obtain ⟨on, to, or⟩ := s
                  cases on with
                  | none =>
                    simp only [OnVal] at hov
                    rw [hov] at n7
                    have HS2 := hide (fun n => HSK.out n (fun s' c b _ _ h1 h2 => by rw [HFK.out] at h1; cases h1; cases h2))
                    clear hk0 hov n8
                    go_wp2_with fail
                    go_quiet (fail)
                    rename Nat => nq5
                    go_wp2_with fail
                    go_roundg k2
                    case measure => omega
                    case rel => exact HS2.out nq5
                  | some cls =>
                    obtain ⟨A, onl, hA1, hA2, hA3, hA4⟩ := hov
                    simp only at hA1
                    rw [hA1] at n7
                    have hxb : x.toNat < 256 := x.toNat_lt
                    have hcx : wr.cell? ⟨A, x.toNat, none⟩ = some (.bool (cls.has x)) := by
                      have h1 := hA3.1
                      have h2 := hA4 x
                      simp [World.cell?, h1, bools, h2]
                    rw [HXT.out] at hcx hxb
                    clear hA1 hA2 hA3 hA4
                    cases hhas : cls.has text[a] with
                    | false =>
                      rw [hhas] at hcx
                      have HS2 := hide (fun n => HSK.out n (fun s' c b _ _ h1 h2 h3 => by rw [HFK.out] at h1; cases h1; cases h2; rw [HXT.out, hhas] at h3; cases h3))
                      clear hk0 hhas n8
                      go_wp2_with fail
                      go_quiet (fail)
                      rename Nat => nq5
                      go_wp2_with fail
                      go_roundg k2
                      case measure => omega
                      case rel => exact HS2.out nq5
                    | true =>
                      rw [hhas] at hcx
                      have HHAS := hide (show cls.has x = true by rw [HXT.out]; exact hhas)
                      obtain ⟨k', hk'⟩ : ∃ k', to = some k' := HLS.out.2.2.elim (fun h => by cases h) id
                      subst hk'
                      simp only [optv] at n8
                      have hk'l : k' < ls.length := HLS.out.1 k' rfl
                      have HK0 := hide hk0
                      clear hhas hk0
                      have HBL := hide (show b < a + 1 by have := (HON1.out.sound K b HK0.out).2.1; simpa [lim] using this)
                      have HT6 := hide (fun (W w5 : World) (e : Ending) (hW : Fs wP ls W G2 nxs) (hr : RowAt W G ons1) (hp : EnterPost (ls.map (·.2)) G2 k' b nxs W e w5) => take_enter hW hr HGG.out HTK.out HK0.out HBL.out HFK.out rfl HHAS.out rfl hp)
                      go_wp2_with fail
                      go_quiet (fail)
                      rename Nat => nq5
                      have HFS5 := hide (HFS2.out.drewN nq5)
                      have HROW5 := hide (show RowAt (wr.drewN nq5) G ons1 from HROW2.out)
                      have n1' : (wr.drewN nq5).cell? ⟨P, 0, none⟩ = some (.slice (some ⟨g3, 0, none⟩) ls.length cap3) := n1
                      have n8' : (wr.drewN nq5).cell? ⟨g3, K * 3 + 1, none⟩ = some (.int .i64 k') := n8
                      have hc1' : (wr.drewN nq5).cell? ⟨G, K, none⟩ = some (.int .i64 b) := hc1
                      clear n1 n7 n8 hc1 hcx
                      generalize wr.drewN nq5 = w5 at *
                      go_wp2_with fail
                      go_region_with ((go_at_call 106; refine (HEN.out G2 k' b nxs _ (by exact HFS5.out.drew) hk'l).mono ?_; rintro e6 w6 hp6; obtain ⟨rfl, nxs6, hf6, hr6, ht6⟩ := HT6.out _ _ _ HFS5.out.drew HROW5.out hp6; have HST6 := hide (show TakeLoop wP ls (a + 1) x G G2 ons1 k2 (.bool true) (.int .i64 ((K + 1 : Nat) : Int)) w6 from ⟨K + 1, nxs6, true, rfl, rfl, by omega, hf6, hr6, ht6, fun h => by cases h⟩); clear hf6 hr6 ht6 hp6))
                      all_goals
                        go_wp2_with fail
                        go_roundg k2
                        case measure => omega
                        case rel => exact HST6.out
          · have ga : decide (a < text.size) = false := by simp; omega
            have gn : decide (0 < ls.length) = true := by simpa using h0
            go_loopg [14, 15] 0 (fun _ vl vk wr' => vl = .bool false ∧ vk = .int .i64 0 ∧ wr' = w3)
            case atStart => exact ⟨rfl, rfl, rfl⟩
            case round =>
              obtain ⟨rfl, rfl, rfl⟩ := hrel
              go_wp2_with fail
              go_roundg k
              case measure => omega
              case rel => exact ⟨G2, List.replicate ls.length none, a + 1, none, rfl, rfl, rfl, rfl, by omega, by rw [text_length]; omega, HFS3.out, (fun h => by omega), HFD1.out⟩
        · rw [h00] at hc0
          simp only [optv] at hc0
          obtain ⟨hfd1, hbb⟩ := HFD.out.hit HL.out HON1.out h00
          have HFD1 := hide hfd1
          have HLM := hide (show b1 + 1 ≤ lim (a + 1) none by have := (HON1.out.sound 0 b1 h00).2.1; omega)
          clear hfd1 hbb h00
          go_wp2_with fail
          refine (HNO.out w2 HFS1.out.below).mono ?_
          rintro e w3 ⟨rfl, hr3, hb3⟩
          have HFS3 := hide (Fs.fresh HFS1.out.below hr3 hb3)
          have HROW3 := hide (show RowAt w3 G ons1 from (hb3.block G (lt_of_get HFS1.out.row)).trans HFS1.out.row)
          obtain ⟨G2, hG2⟩ : ∃ G2, G2 = w2.heap.size := ⟨_, rfl⟩
          rw [← hG2] at HFS3 ⊢
          have HGG := hide (show G ≠ G2 by rw [hG2]; exact Nat.ne_of_lt (lt_of_get HFS1.out.row))
          clear hr3 hb3 hG2
          go_wp2_with fail
          rcases Nat.lt_or_ge a text.size with hlt | hge
          · have ga : decide ((a : Int) < (text.size : Int)) = true := by simpa using hlt
            obtain ⟨x, hx⟩ : ∃ x, x = text[a] := ⟨_, rfl⟩
            have HX := hide (show text.data.toList[a]? = some x by rw [hx]; exact List.getElem?_eq_getElem (show a < text.data.toList.length from hlt))
            have HXT := hide hx
            clear hx
            go_loopg [14, 15] ls.length (fun k vl vk wr' => TakeLoop wP ls (b1 + 1) x G G2 ons1 k vl vk wr')
            case atStart => exact ⟨0, List.replicate ls.length none, false, rfl, rfl, by omega, HFS3.out, HROW3.out, by
                have : atk (List.replicate ls.length none) = fun _ => .none := funext fun k => atk_none _ k
                rw [this]; exact Taken.start _ _ _ _, fun _ => rfl⟩
            case round =>
              obtain ⟨K, nxs, left, rfl, rfl, hK, hfs2, hrow2, htk, hleft⟩ := hrel
              have HFS2 := hide hfs2
              have HROW2 := hide hrow2
              have HTK := hide htk
              have HLEFT := hide hleft
              clear hfs2 hrow2 htk hleft
              cases gk with
              | zero =>
                have hKn : ¬ K < ls.length := by omega
                have gK : decide (K < ls.length) = false := by simpa using hKn
                have HDN := hide (take_done HTK.out (by omega) HON1.out HLM.out (by have := HFD1.out.2.1; have := HFD1.out.2.2.1; omega) HX.out)
                cases left with
                | false =>
                  have hnx := HLEFT.out rfl
                  subst hnx
                  have HNN := hide (show a < text.data.toList.length → OnIs (ls.map (·.2)) text.data.toList first f (b1 + 1) (a + 1) (fun _ => none) from fun _ => by
                    have h := HDN.out
                    have e : atk (List.replicate ls.length none) = fun _ => none := funext fun k => atk_none _ k
                    rwa [e] at h)
                  have HEND := hide (show FindPost wP.heap.size r text.data.toList f wP (.returned (found (some (b1, a)))) wr from ⟨_, HFD1.out.over HL.out (by rw [text_length]; exact hle) HNN.out, rfl, HFS2.out.below⟩)
                  go_wp2_with fail
                  exact bodyPost_ret (v := .tuple #[.int .i64 b1, .int .i64 a, .bool true]) (by simp [results, Tryz.results75, go_sem, *]) rfl HEND.out
                | true =>
                  have HAZ := hide (show 0 < k → OnIs (ls.map (·.2)) text.data.toList first f (lim (a + 1) (some (b1, a))) (a + 1) (atk nxs) from fun _ => HDN.out)
                  go_wp2_with fail
                  go_roundg k
                  case measure => omega
                  case rel => exact ⟨G2, nxs, a + 1, some (b1, a), rfl, rfl, rfl, rfl, by omega, by rw [text_length]; omega, HFS2.out, HAZ.out, HFD1.out⟩
              | succ k2 =>
                have hKl : K < ls.length := by omega
                have gK : decide ((K : Int) < (ls.length : Int)) = true := by simpa using hKl
                have hGn := HGG.out
                obtain ⟨g3, cap3, n1, n2, n3, n4, n5, n6⟩ := HPC.out wr HFS2.out.below
                obtain ⟨⟨v, s⟩, hls⟩ : ∃ l, ls[K]? = some l := ⟨_, List.getElem?_eq_getElem hKl⟩
                obtain ⟨n7, n8, n9⟩ := n4 K _ hls
                have hov := (HPI.out.plan.later hB HFS2.out.below).ons (v, s) (List.mem_of_getElem? hls)
                have HLS := hide (HPI.out.links (v, s) (List.mem_of_getElem? hls))
                have HFK := hide (show (ls.map (·.2))[K]? = some s by rw [List.getElem?_map, hls]; rfl)
                have hc1 := (HROW2.out.cell (k := K) (by rw [HFS1.out.len]; exact hKl)).1
                have HSK := hide (show ∀ n, (∀ s' c b, atk ons1 K = some b → b < (b1 + 1) → (ls.map (·.2))[K]? = some s' → s'.on = some c → c.has x = true → False) → TakeLoop wP ls (b1 + 1) x G G2 ons1 k2 (.bool left) (.int .i64 ((K + 1 : Nat) : Int)) (wr.drewN n) from fun n hno => ⟨K + 1, nxs, left, rfl, rfl, by omega, HFS2.out.drewN n, HROW2.out, HTK.out.skip hno, HLEFT.out⟩)
                clear n2 n3 n4 n5 n6 n9 hls
                rcases hk0 : atk ons1 K with _ | b
                · rw [hk0] at hc1
                  simp only [optv] at hc1
                  have HS2 := hide (fun n => HSK.out n (fun s' c b h => by rw [hk0] at h; cases h))
                  clear hk0 hov n7 n8
                  go_wp2_with fail
                  go_quiet (fail)
                  rename Nat => nq5
                  go_wp2_with fail
                  go_roundg k2
                  case measure => omega
                  case rel => exact HS2.out nq5
                · rw [hk0] at hc1
                  simp only [optv] at hc1
                  obtain ⟨on, to, or⟩ := s
                  cases on with
                  | none =>
                    simp only [OnVal] at hov
                    rw [hov] at n7
                    have HS2 := hide (fun n => HSK.out n (fun s' c b _ _ h1 h2 => by rw [HFK.out] at h1; cases h1; cases h2))
                    clear hk0 hov n8
                    go_wp2_with fail
                    go_quiet (fail)
                    rename Nat => nq5
                    go_wp2_with fail
                    go_roundg k2
                    case measure => omega
                    case rel => exact HS2.out nq5
                  | some cls =>
                    obtain ⟨A, onl, hA1, hA2, hA3, hA4⟩ := hov
                    simp only at hA1
                    rw [hA1] at n7
                    have hxb : x.toNat < 256 := x.toNat_lt
                    have hcx : wr.cell? ⟨A, x.toNat, none⟩ = some (.bool (cls.has x)) := by
                      have h1 := hA3.1
                      have h2 := hA4 x
                      simp [World.cell?, h1, bools, h2]
                    rw [HXT.out] at hcx hxb
                    clear hA1 hA2 hA3 hA4
                    cases hhas : cls.has text[a] with
                    | false =>
                      rw [hhas] at hcx
                      have HS2 := hide (fun n => HSK.out n (fun s' c b _ _ h1 h2 h3 => by rw [HFK.out] at h1; cases h1; cases h2; rw [HXT.out, hhas] at h3; cases h3))
                      clear hk0 hhas n8
                      go_wp2_with fail
                      go_quiet (fail)
                      rename Nat => nq5
                      go_wp2_with fail
                      go_roundg k2
                      case measure => omega
                      case rel => exact HS2.out nq5
                    | true =>
                      rw [hhas] at hcx
                      have HHAS := hide (show cls.has x = true by rw [HXT.out]; exact hhas)
                      obtain ⟨k', hk'⟩ : ∃ k', to = some k' := HLS.out.2.2.elim (fun h => by cases h) id
                      subst hk'
                      simp only [optv] at n8
                      have hk'l : k' < ls.length := HLS.out.1 k' rfl
                      have HK0 := hide hk0
                      clear hhas hk0
                      have gneg : decide ((b1 : Int) < 0) = false := by simp
                      by_cases hbb1 : b ≤ b1
                      · have gb1 : decide ((b : Int) ≤ (b1 : Int)) = true := by simpa using hbb1
                        have HBL := hide (show b < b1 + 1 by omega)
                        have HT6 := hide (fun (W w5 : World) (e : Ending) (hW : Fs wP ls W G2 nxs) (hr : RowAt W G ons1) (hp : EnterPost (ls.map (·.2)) G2 k' b nxs W e w5) => take_enter hW hr HGG.out HTK.out HK0.out HBL.out HFK.out rfl HHAS.out rfl hp)
                        go_wp2_with fail
                        go_quiet (fail)
                        rename Nat => nq5
                        have HFS5 := hide (HFS2.out.drewN nq5)
                        have HROW5 := hide (show RowAt (wr.drewN nq5) G ons1 from HROW2.out)
                        have n1' : (wr.drewN nq5).cell? ⟨P, 0, none⟩ = some (.slice (some ⟨g3, 0, none⟩) ls.length cap3) := n1
                        have n8' : (wr.drewN nq5).cell? ⟨g3, K * 3 + 1, none⟩ = some (.int .i64 k') := n8
                        have hc1' : (wr.drewN nq5).cell? ⟨G, K, none⟩ = some (.int .i64 b) := hc1
                        clear n1 n7 n8 hc1 hcx
                        generalize wr.drewN nq5 = w5 at *
                        go_wp2_with fail
                        go_region_with ((go_at_call 106; refine (HEN.out G2 k' b nxs _ (by exact HFS5.out.drew) hk'l).mono ?_; rintro e6 w6 hp6; obtain ⟨rfl, nxs6, hf6, hr6, ht6⟩ := HT6.out _ _ _ HFS5.out.drew HROW5.out hp6; have HST6 := hide (show TakeLoop wP ls (b1 + 1) x G G2 ons1 k2 (.bool true) (.int .i64 ((K + 1 : Nat) : Int)) w6 from ⟨K + 1, nxs6, true, rfl, rfl, by omega, hf6, hr6, ht6, fun h => by cases h⟩); clear hf6 hr6 ht6 hp6))
                        all_goals
                          go_wp2_with fail
                          go_roundg k2
                          case measure => omega
                          case rel => exact HST6.out
                      · have gb1 : decide (b ≤ b1) = false := by simpa using hbb1
                        have HS2 := hide (fun n => HSK.out n (fun s' c b' h0' h1' => by rw [HK0.out] at h0'; cases h0'; omega))
                        go_wp2_with fail
                        go_quiet (fail)
                        rename Nat => nq5
                        go_wp2_with fail
                        go_roundg k2
                        case measure => omega
                        case rel => exact HS2.out nq5
          · have ga : decide (a < text.size) = false := by simp; omega
            have gn : decide (0 < ls.length) = true := by simpa using h0
            go_loopg [14, 15] 0 (fun _ vl vk wr' => vl = .bool false ∧ vk = .int .i64 0 ∧ wr' = w3)
            case atStart => exact ⟨rfl, rfl, rfl⟩
            case round =>
              obtain ⟨rfl, rfl, rfl⟩ := hrel
              have HEND := hide (show FindPost wP.heap.size r text.data.toList f wP (.returned (found (some (b1, a)))) wr from ⟨_, HFD1.out.over HL.out (by rw [text_length]; exact hle) (fun h => by rw [text_length] at h; omega), rfl, HFS3.out.below⟩)
              go_wp2_with fail
              exact bodyPost_ret (v := .tuple #[.int .i64 b1, .int .i64 a, .bool true]) (by simp [results, Tryz.results75, go_sem, *]) rfl HEND.out
      | some p =>
        obtain ⟨b0, e0⟩ := p
        simp only [beginV, endV, optv, Option.map_some]
        have HFS1 := hide HFS.out
        have HON1 := hide (show OnIs (ls.map (·.2)) text.data.toList first f (lim (a + 1) (some (b0, e0))) a (atk ons) from HON.out (by omega))
        clear m2
        have hc0 := (HFS1.out.row.cell (k := 0) (by rw [HFS1.out.len]; exact h0)).1
        rcases h00 : atk ons 0 with _ | b1
        · rw [h00] at hc0
          simp only [optv] at hc0
          have HFD1 := hide (HFD.out.miss HL.out HON1.out h00)
          have HLM := hide (show b0 + 1 ≤ lim (a + 1) (some (b0, e0)) from Nat.le_refl _)
          clear h00
          go_wp2_with fail
          refine (HNO.out wr HFS1.out.below).mono ?_
          rintro e w3 ⟨rfl, hr3, hb3⟩
          have HFS3 := hide (Fs.fresh HFS1.out.below hr3 hb3)
          have HROW3 := hide (show RowAt w3 G ons from (hb3.block G (lt_of_get HFS1.out.row)).trans HFS1.out.row)
          obtain ⟨G2, hG2⟩ : ∃ G2, G2 = wr.heap.size := ⟨_, rfl⟩
          rw [← hG2] at HFS3 ⊢
          have HGG := hide (show G ≠ G2 by rw [hG2]; exact Nat.ne_of_lt (lt_of_get HFS1.out.row))
          clear hr3 hb3 hG2
          go_wp2_with fail
          rcases Nat.lt_or_ge a text.size with hlt | hge
          · have ga : decide ((a : Int) < (text.size : Int)) = true := by simpa using hlt
            obtain ⟨x, hx⟩ : ∃ x, x = text[a] := ⟨_, rfl⟩
            have HX := hide (show text.data.toList[a]? = some x by rw [hx]; exact List.getElem?_eq_getElem (show a < text.data.toList.length from hlt))
            have HXT := hide hx
            clear hx
            go_loopg [14, 15] ls.length (fun k vl vk wr' => TakeLoop wP ls (b0 + 1) x G G2 ons k vl vk wr')
            case atStart => exact ⟨0, List.replicate ls.length none, false, rfl, rfl, by omega, HFS3.out, HROW3.out, by
                have : atk (List.replicate ls.length none) = fun _ => .none := funext fun k => atk_none _ k
                rw [this]; exact Taken.start _ _ _ _, fun _ => rfl⟩
            case round =>
              obtain ⟨K, nxs, left, rfl, rfl, hK, hfs2, hrowr, htk, hleft⟩ := hrel
              have HFS2 := hide hfs2
              have HROW2 := hide hrowr
              have HTK := hide htk
              have HLEFT := hide hleft
              clear hfs2 hrowr htk hleft
              cases gk with
              | zero =>
                have hKn : ¬ K < ls.length := by omega
                have gK : decide (K < ls.length) = false := by simpa using hKn
                have HDN := hide (take_done HTK.out (by omega) HON1.out HLM.out (by have := HFD1.out.2.1; have := HFD1.out.2.2.1; omega) HX.out)
                cases left with
                | false =>
                  have hnx := HLEFT.out rfl
                  subst hnx
                  have HNN := hide (show a < text.data.toList.length → OnIs (ls.map (·.2)) text.data.toList first f (b0 + 1) (a + 1) (fun _ => none) from fun _ => by
                    have h := HDN.out
                    have e : atk (List.replicate ls.length none) = fun _ => none := funext fun k => atk_none _ k
                    rwa [e] at h)
                  have HEND := hide (show FindPost wP.heap.size r text.data.toList f wP (.returned (found (some (b0, e0)))) wr from ⟨_, HFD1.out.over HL.out (by rw [text_length]; exact hle) HNN.out, rfl, HFS2.out.below⟩)
                  go_wp2_with fail
                  exact bodyPost_ret (v := .tuple #[.int .i64 b0, .int .i64 e0, .bool true]) (by simp [results, Tryz.results75, go_sem, *]) rfl HEND.out
                | true =>
                  have HAZ := hide (show 0 < k → OnIs (ls.map (·.2)) text.data.toList first f (lim (a + 1) (some (b0, e0))) (a + 1) (atk nxs) from fun _ => HDN.out)
                  go_wp2_with fail
                  go_roundg k
                  case measure => omega
                  case rel => exact ⟨G2, nxs, a + 1, some (b0, e0), rfl, rfl, rfl, rfl, by omega, by rw [text_length]; omega, HFS2.out, HAZ.out, HFD1.out⟩
              | succ k2 =>
                have hKl : K < ls.length := by omega
                have gK : decide ((K : Int) < (ls.length : Int)) = true := by simpa using hKl
                have hGn := HGG.out
                obtain ⟨g3, cap3, n1, n2, n3, n4, n5, n6⟩ := HPC.out wr HFS2.out.below
                obtain ⟨⟨v, s⟩, hls⟩ : ∃ l, ls[K]? = some l := ⟨_, List.getElem?_eq_getElem hKl⟩
                obtain ⟨n7, n8, n9⟩ := n4 K _ hls
                have hov := (HPI.out.plan.later hB HFS2.out.below).ons (v, s) (List.mem_of_getElem? hls)
                have HLS := hide (HPI.out.links (v, s) (List.mem_of_getElem? hls))
                have HFK := hide (show (ls.map (·.2))[K]? = some s by rw [List.getElem?_map, hls]; rfl)
                have hc1 := (HROW2.out.cell (k := K) (by rw [HFS1.out.len]; exact hKl)).1
                have HSK := hide (show ∀ n, (∀ s' c b, atk ons K = some b → b < (b0 + 1) → (ls.map (·.2))[K]? = some s' → s'.on = some c → c.has x = true → False) → TakeLoop wP ls (b0 + 1) x G G2 ons k2 (.bool left) (.int .i64 ((K + 1 : Nat) : Int)) (wr.drewN n) from fun n hno => ⟨K + 1, nxs, left, rfl, rfl, by omega, HFS2.out.drewN n, HROW2.out, HTK.out.skip hno, HLEFT.out⟩)
                clear n2 n3 n4 n5 n6 n9 hls
                rcases hk0 : atk ons K with _ | b
                · rw [hk0] at hc1
                  simp only [optv] at hc1
                  have HS2 := hide (fun n => HSK.out n (fun s' c b h => by rw [hk0] at h; cases h))
                  clear hk0 hov n7 n8
                  go_wp2_with fail
                  go_quiet (fail)
                  rename Nat => nq5
                  go_wp2_with fail
                  go_roundg k2
                  case measure => omega
                  case rel => exact HS2.out nq5
                · rw [hk0] at hc1
                  simp only [optv] at hc1
                  obtain ⟨on, to, or⟩ := s
                  cases on with
                  | none =>
                    simp only [OnVal] at hov
                    rw [hov] at n7
                    have HS2 := hide (fun n => HSK.out n (fun s' c b _ _ h1 h2 => by rw [HFK.out] at h1; cases h1; cases h2))
                    clear hk0 hov n8
                    go_wp2_with fail
                    go_quiet (fail)
                    rename Nat => nq5
                    go_wp2_with fail
                    go_roundg k2
                    case measure => omega
                    case rel => exact HS2.out nq5
                  | some cls =>
                    obtain ⟨A, onl, hA1, hA2, hA3, hA4⟩ := hov
                    simp only at hA1
                    rw [hA1] at n7
                    have hxb : x.toNat < 256 := x.toNat_lt
                    have hcx : wr.cell? ⟨A, x.toNat, none⟩ = some (.bool (cls.has x)) := by
                      have h1 := hA3.1
                      have h2 := hA4 x
                      simp [World.cell?, h1, bools, h2]
                    rw [HXT.out] at hcx hxb
                    clear hA1 hA2 hA3 hA4
                    cases hhas : cls.has text[a] with
                    | false =>
                      rw [hhas] at hcx
                      have HS2 := hide (fun n => HSK.out n (fun s' c b _ _ h1 h2 h3 => by rw [HFK.out] at h1; cases h1; cases h2; rw [HXT.out, hhas] at h3; cases h3))
                      clear hk0 hhas n8
                      go_wp2_with fail
                      go_quiet (fail)
                      rename Nat => nq5
                      go_wp2_with fail
                      go_roundg k2
                      case measure => omega
                      case rel => exact HS2.out nq5
                    | true =>
                      rw [hhas] at hcx
                      have HHAS := hide (show cls.has x = true by rw [HXT.out]; exact hhas)
                      obtain ⟨k', hk'⟩ : ∃ k', to = some k' := HLS.out.2.2.elim (fun h => by cases h) id
                      subst hk'
                      simp only [optv] at n8
                      have hk'l : k' < ls.length := HLS.out.1 k' rfl
                      have HK0 := hide hk0
                      clear hhas hk0
                      have gneg : decide ((b0 : Int) < 0) = false := by simp
                      by_cases hbb0 : b ≤ b0
                      · have gb0 : decide ((b : Int) ≤ (b0 : Int)) = true := by simpa using hbb0
                        have HBL := hide (show b < b0 + 1 by omega)
                        have HT6 := hide (fun (W w5 : World) (e : Ending) (hW : Fs wP ls W G2 nxs) (hr : RowAt W G ons) (hp : EnterPost (ls.map (·.2)) G2 k' b nxs W e w5) => take_enter hW hr HGG.out HTK.out HK0.out HBL.out HFK.out rfl HHAS.out rfl hp)
                        go_wp2_with fail
                        go_quiet (fail)
                        rename Nat => nq5
                        have HFS5 := hide (HFS2.out.drewN nq5)
                        have HROW5 := hide (show RowAt (wr.drewN nq5) G ons from HROW2.out)
                        have n1' : (wr.drewN nq5).cell? ⟨P, 0, none⟩ = some (.slice (some ⟨g3, 0, none⟩) ls.length cap3) := n1
                        have n8' : (wr.drewN nq5).cell? ⟨g3, K * 3 + 1, none⟩ = some (.int .i64 k') := n8
                        have hc1' : (wr.drewN nq5).cell? ⟨G, K, none⟩ = some (.int .i64 b) := hc1
                        clear n1 n7 n8 hc1 hcx
                        generalize wr.drewN nq5 = w5 at *
                        go_wp2_with fail
                        go_region_with ((go_at_call 106; refine (HEN.out G2 k' b nxs _ (by exact HFS5.out.drew) hk'l).mono ?_; rintro e6 w6 hp6; obtain ⟨rfl, nxs6, hf6, hr6, ht6⟩ := HT6.out _ _ _ HFS5.out.drew HROW5.out hp6; have HST6 := hide (show TakeLoop wP ls (b0 + 1) x G G2 ons k2 (.bool true) (.int .i64 ((K + 1 : Nat) : Int)) w6 from ⟨K + 1, nxs6, true, rfl, rfl, by omega, hf6, hr6, ht6, fun h => by cases h⟩); clear hf6 hr6 ht6 hp6))
                        all_goals
                          go_wp2_with fail
                          go_roundg k2
                          case measure => omega
                          case rel => exact HST6.out
                      · have gb0 : decide (b ≤ b0) = false := by simpa using hbb0
                        have HS2 := hide (fun n => HSK.out n (fun s' c b' h0' h1' => by rw [HK0.out] at h0'; cases h0'; omega))
                        go_wp2_with fail
                        go_quiet (fail)
                        rename Nat => nq5
                        go_wp2_with fail
                        go_roundg k2
                        case measure => omega
                        case rel => exact HS2.out nq5
          · have ga : decide (a < text.size) = false := by simp; omega
            have gn : decide (0 < ls.length) = true := by simpa using h0
            go_loopg [14, 15] 0 (fun _ vl vk wr' => vl = .bool false ∧ vk = .int .i64 0 ∧ wr' = w3)
            case atStart => exact ⟨rfl, rfl, rfl⟩
            case round =>
              obtain ⟨rfl, rfl, rfl⟩ := hrel
              have HEND := hide (show FindPost wP.heap.size r text.data.toList f wP (.returned (found (some (b0, e0)))) wr from ⟨_, HFD1.out.over HL.out (by rw [text_length]; exact hle) (fun h => by rw [text_length] at h; omega), rfl, HFS3.out.below⟩)
              go_wp2_with fail
              exact bodyPost_ret (v := .tuple #[.int .i64 b0, .int .i64 e0, .bool true]) (by simp [results, Tryz.results75, go_sem, *]) rfl HEND.out
        · rw [h00] at hc0
          simp only [optv] at hc0
          obtain ⟨hfd1, hbb⟩ := HFD.out.hit HL.out HON1.out h00
          have HFD1 := hide hfd1
          have hbb' := hbb b0 e0 rfl
          have gb : decide ((b1 : Int) ≤ (b0 : Int)) = true := by simpa using hbb'
          have HLM := hide (show b1 + 1 ≤ lim (a + 1) (some (b0, e0)) by have := (HON1.out.sound 0 b1 h00).2.1; omega)
          clear hfd1 hbb h00
          go_wp2_with fail
          refine (HNO.out wr HFS1.out.below).mono ?_
          rintro e w3 ⟨rfl, hr3, hb3⟩
          have HFS3 := hide (Fs.fresh HFS1.out.below hr3 hb3)
          have HROW3 := hide (show RowAt w3 G ons from (hb3.block G (lt_of_get HFS1.out.row)).trans HFS1.out.row)
          obtain ⟨G2, hG2⟩ : ∃ G2, G2 = wr.heap.size := ⟨_, rfl⟩
          rw [← hG2] at HFS3 ⊢
          have HGG := hide (show G ≠ G2 by rw [hG2]; exact Nat.ne_of_lt (lt_of_get HFS1.out.row))
          clear hr3 hb3 hG2
          go_wp2_with fail
          rcases Nat.lt_or_ge a text.size with hlt | hge
          · have ga : decide ((a : Int) < (text.size : Int)) = true := by simpa using hlt
            obtain ⟨x, hx⟩ : ∃ x, x = text[a] := ⟨_, rfl⟩
            have HX := hide (show text.data.toList[a]? = some x by rw [hx]; exact List.getElem?_eq_getElem (show a < text.data.toList.length from hlt))
            have HXT := hide hx
            clear hx
            go_loopg [14, 15] ls.length (fun k vl vk wr' => TakeLoop wP ls (b1 + 1) x G G2 ons k vl vk wr')
            case atStart => exact ⟨0, List.replicate ls.length none, false, rfl, rfl, by omega, HFS3.out, HROW3.out, by
                have : atk (List.replicate ls.length none) = fun _ => .none := funext fun k => atk_none _ k
                rw [this]; exact Taken.start _ _ _ _, fun _ => rfl⟩
            case round =>
              obtain ⟨K, nxs, left, rfl, rfl, hK, hfs2, hrowr, htk, hleft⟩ := hrel
              have HFS2 := hide hfs2
              have HROW2 := hide hrowr
              have HTK := hide htk
              have HLEFT := hide hleft
              clear hfs2 hrowr htk hleft
              cases gk with
              | zero =>
                have hKn : ¬ K < ls.length := by omega
                have gK : decide (K < ls.length) = false := by simpa using hKn
                have HDN := hide (take_done HTK.out (by omega) HON1.out HLM.out (by have := HFD1.out.2.1; have := HFD1.out.2.2.1; omega) HX.out)
                cases left with
                | false =>
                  have hnx := HLEFT.out rfl
                  subst hnx
                  have HNN := hide (show a < text.data.toList.length → OnIs (ls.map (·.2)) text.data.toList first f (b1 + 1) (a + 1) (fun _ => none) from fun _ => by
                    have h := HDN.out
                    have e : atk (List.replicate ls.length none) = fun _ => none := funext fun k => atk_none _ k
                    rwa [e] at h)
                  have HEND := hide (show FindPost wP.heap.size r text.data.toList f wP (.returned (found (some (b1, a)))) wr from ⟨_, HFD1.out.over HL.out (by rw [text_length]; exact hle) HNN.out, rfl, HFS2.out.below⟩)
                  go_wp2_with fail
                  exact bodyPost_ret (v := .tuple #[.int .i64 b1, .int .i64 a, .bool true]) (by simp [results, Tryz.results75, go_sem, *]) rfl HEND.out
                | true =>
                  have HAZ := hide (show 0 < k → OnIs (ls.map (·.2)) text.data.toList first f (lim (a + 1) (some (b1, a))) (a + 1) (atk nxs) from fun _ => HDN.out)
                  go_wp2_with fail
                  go_roundg k
                  case measure => omega
                  case rel => exact ⟨G2, nxs, a + 1, some (b1, a), rfl, rfl, rfl, rfl, by omega, by rw [text_length]; omega, HFS2.out, HAZ.out, HFD1.out⟩
              | succ k2 =>
                have hKl : K < ls.length := by omega
                have gK : decide ((K : Int) < (ls.length : Int)) = true := by simpa using hKl
                have hGn := HGG.out
                obtain ⟨g3, cap3, n1, n2, n3, n4, n5, n6⟩ := HPC.out wr HFS2.out.below
                obtain ⟨⟨v, s⟩, hls⟩ : ∃ l, ls[K]? = some l := ⟨_, List.getElem?_eq_getElem hKl⟩
                obtain ⟨n7, n8, n9⟩ := n4 K _ hls
                have hov := (HPI.out.plan.later hB HFS2.out.below).ons (v, s) (List.mem_of_getElem? hls)
                have HLS := hide (HPI.out.links (v, s) (List.mem_of_getElem? hls))
                have HFK := hide (show (ls.map (·.2))[K]? = some s by rw [List.getElem?_map, hls]; rfl)
                have hc1 := (HROW2.out.cell (k := K) (by rw [HFS1.out.len]; exact hKl)).1
                have HSK := hide (show ∀ n, (∀ s' c b, atk ons K = some b → b < (b1 + 1) → (ls.map (·.2))[K]? = some s' → s'.on = some c → c.has x = true → False) → TakeLoop wP ls (b1 + 1) x G G2 ons k2 (.bool left) (.int .i64 ((K + 1 : Nat) : Int)) (wr.drewN n) from fun n hno => ⟨K + 1, nxs, left, rfl, rfl, by omega, HFS2.out.drewN n, HROW2.out, HTK.out.skip hno, HLEFT.out⟩)
                clear n2 n3 n4 n5 n6 n9 hls
                rcases hk0 : atk ons K with _ | b
                · rw [hk0] at hc1
                  simp only [optv] at hc1
                  have HS2 := hide (fun n => HSK.out n (fun s' c b h => by rw [hk0] at h; cases h))
                  clear hk0 hov n7 n8
                  go_wp2_with fail
                  go_quiet (fail)
                  rename Nat => nq5
                  go_wp2_with fail
                  go_roundg k2
                  case measure => omega
                  case rel => exact HS2.out nq5
                · rw [hk0] at hc1
                  simp only [optv] at hc1
                  obtain ⟨on, to, or⟩ := s
                  cases on with
                  | none =>
                    simp only [OnVal] at hov
                    rw [hov] at n7
                    have HS2 := hide (fun n => HSK.out n (fun s' c b _ _ h1 h2 => by rw [HFK.out] at h1; cases h1; cases h2))
                    clear hk0 hov n8
                    go_wp2_with fail
                    go_quiet (fail)
                    rename Nat => nq5
                    go_wp2_with fail
                    go_roundg k2
                    case measure => omega
                    case rel => exact HS2.out nq5
                  | some cls =>
                    obtain ⟨A, onl, hA1, hA2, hA3, hA4⟩ := hov
                    simp only at hA1
                    rw [hA1] at n7
                    have hxb : x.toNat < 256 := x.toNat_lt
                    have hcx : wr.cell? ⟨A, x.toNat, none⟩ = some (.bool (cls.has x)) := by
                      have h1 := hA3.1
                      have h2 := hA4 x
                      simp [World.cell?, h1, bools, h2]
                    rw [HXT.out] at hcx hxb
                    clear hA1 hA2 hA3 hA4
                    cases hhas : cls.has text[a] with
                    | false =>
                      rw [hhas] at hcx
                      have HS2 := hide (fun n => HSK.out n (fun s' c b _ _ h1 h2 h3 => by rw [HFK.out] at h1; cases h1; cases h2; rw [HXT.out, hhas] at h3; cases h3))
                      clear hk0 hhas n8
                      go_wp2_with fail
                      go_quiet (fail)
                      rename Nat => nq5
                      go_wp2_with fail
                      go_roundg k2
                      case measure => omega
                      case rel => exact HS2.out nq5
                    | true =>
                      rw [hhas] at hcx
                      have HHAS := hide (show cls.has x = true by rw [HXT.out]; exact hhas)
                      obtain ⟨k', hk'⟩ : ∃ k', to = some k' := HLS.out.2.2.elim (fun h => by cases h) id
                      subst hk'
                      simp only [optv] at n8
                      have hk'l : k' < ls.length := HLS.out.1 k' rfl
                      have HK0 := hide hk0
                      clear hhas hk0
                      have gneg : decide ((b1 : Int) < 0) = false := by simp
                      by_cases hbb1 : b ≤ b1
                      · have gb1 : decide ((b : Int) ≤ (b1 : Int)) = true := by simpa using hbb1
                        have HBL := hide (show b < b1 + 1 by omega)
                        have HT6 := hide (fun (W w5 : World) (e : Ending) (hW : Fs wP ls W G2 nxs) (hr : RowAt W G ons) (hp : EnterPost (ls.map (·.2)) G2 k' b nxs W e w5) => take_enter hW hr HGG.out HTK.out HK0.out HBL.out HFK.out rfl HHAS.out rfl hp)
                        go_wp2_with fail
                        go_quiet (fail)
                        rename Nat => nq5
                        have HFS5 := hide (HFS2.out.drewN nq5)
                        have HROW5 := hide (show RowAt (wr.drewN nq5) G ons from HROW2.out)
                        have n1' : (wr.drewN nq5).cell? ⟨P, 0, none⟩ = some (.slice (some ⟨g3, 0, none⟩) ls.length cap3) := n1
                        have n8' : (wr.drewN nq5).cell? ⟨g3, K * 3 + 1, none⟩ = some (.int .i64 k') := n8
                        have hc1' : (wr.drewN nq5).cell? ⟨G, K, none⟩ = some (.int .i64 b) := hc1
                        clear n1 n7 n8 hc1 hcx
                        generalize wr.drewN nq5 = w5 at *
                        go_wp2_with fail
                        go_region_with ((go_at_call 106; refine (HEN.out G2 k' b nxs _ (by exact HFS5.out.drew) hk'l).mono ?_; rintro e6 w6 hp6; obtain ⟨rfl, nxs6, hf6, hr6, ht6⟩ := HT6.out _ _ _ HFS5.out.drew HROW5.out hp6; have HST6 := hide (show TakeLoop wP ls (b1 + 1) x G G2 ons k2 (.bool true) (.int .i64 ((K + 1 : Nat) : Int)) w6 from ⟨K + 1, nxs6, true, rfl, rfl, by omega, hf6, hr6, ht6, fun h => by cases h⟩); clear hf6 hr6 ht6 hp6))
                        all_goals
                          go_wp2_with fail
                          go_roundg k2
                          case measure => omega
                          case rel => exact HST6.out
                      · have gb1 : decide (b ≤ b1) = false := by simpa using hbb1
                        have HS2 := hide (fun n => HSK.out n (fun s' c b' h0' h1' => by rw [HK0.out] at h0'; cases h0'; omega))
                        go_wp2_with fail
                        go_quiet (fail)
                        rename Nat => nq5
                        go_wp2_with fail
                        go_roundg k2
                        case measure => omega
                        case rel => exact HS2.out nq5
          · have ga : decide (a < text.size) = false := by simp; omega
            have gn : decide (0 < ls.length) = true := by simpa using h0
            go_loopg [14, 15] 0 (fun _ vl vk wr' => vl = .bool false ∧ vk = .int .i64 0 ∧ wr' = w3)
            case atStart => exact ⟨rfl, rfl, rfl⟩
            case round =>
              obtain ⟨rfl, rfl, rfl⟩ := hrel
              have HEND := hide (show FindPost wP.heap.size r text.data.toList f wP (.returned (found (some (b1, a)))) wr from ⟨_, HFD1.out.over HL.out (by rw [text_length]; exact hle) (fun h => by rw [text_length] at h; omega), rfl, HFS3.out.below⟩)
              go_wp2_with fail
              exact bodyPost_ret (v := .tuple #[.int .i64 b1, .int .i64 a, .bool true]) (by simp [results, Tryz.results75, go_sem, *]) rfl HEND.out
end Go.Proofs.YtgncgdkpkkdaeaaGreatDoor.Ref

