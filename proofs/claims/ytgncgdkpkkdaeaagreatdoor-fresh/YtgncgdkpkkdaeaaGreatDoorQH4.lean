/- Put together from H4. -/
import Derived.Test.YtgncgdkpkkdaeaaGreatDoorQY
import Derived.Test.YtgncgdkpkkdaeaaGreatDoorQ1
import Derived.Test.YtgncgdkpkkdaeaaGreatDoorQ2
import Derived.Deep.CutRange
import Derived.Deep.RegionHeld3
/- The document's Through. -/
namespace Go.Proofs.YtgncgdkpkkdaeaaGreatDoor
open Go.RowKit Tint Go.Maps

/-- The document's grammar and painting's are one. -/
structure SameG (G : List GS) (ss : List RSt) : Prop where
  len : G.length = ss.length
  st : ∀ (i : Nat) s t, G[i]? = some s → ss[i]? = some t → s.nm = t.name ∧ t.rs.length = s.rs.length ∧ ∀ (k : Nat) r q, s.rs[k]? = some r → t.rs[k]? = some q → PAlt q.p.data.toList (some (r.a.re, [])) ∧ r.k = q.d ∧ r.co = q.c ∧ (q.d = 1 → ∃ t', ss[r.op]? = some t' ∧ t'.name.data.toList = q.b.data.toList ∧ ∀ (j : Nat) t'', j < r.op → ss[j]? = some t'' → t''.name.data.toList ≠ q.b.data.toList)

/-- Numbers in a block. -/
def IntsAt (w : World) (b : Nat) (st : List Nat) : Prop := ∃ cur fz, w.heap[b]? = some (.cells cur 3 fz) ∧ ∀ (j : Nat) x, st[j]? = some x → cur[j]? = some (.int .i64 (x : Nat))

theorem IntsAt.cell {w : World} {b : Nat} {st : List Nat} (h : IntsAt w b st) {j x : Nat} (hj : st[j]? = some x) : w.cell? ⟨b, j, none⟩ = some (.int .i64 x) := by
  obtain ⟨cur, fz, h1, h2⟩ := h
  exact cell_at h1 (h2 j x hj)

theorem IntsAt.keep {w w' : World} {b : Nat} {st : List Nat} (h : IntsAt w b st) (hk : ∀ c fz, w.heap[b]? = some (.cells c 3 fz) → w'.heap[b]? = some (.cells c 3 fz)) : IntsAt w' b st := by
  obtain ⟨cur, fz, h1, h2⟩ := h
  exact ⟨cur, fz, hk _ _ h1, h2⟩

theorem IntsAt.below {w w' : World} {b : Nat} {st : List Nat} (h : IntsAt w b st) (hb : Below w.heap.size w w') : IntsAt w' b st := h.keep fun _ _ hh => (hb.block _ (lt_of_get hh)).trans hh

theorem IntsAt.sub {w : World} {b : Nat} {st st' : List Nat} (h : IntsAt w b st) (hs : ∀ (j : Nat) x, st'[j]? = some x → st[j]? = some x) : IntsAt w b st' := by
  obtain ⟨cur, fz, h1, h2⟩ := h
  exact ⟨cur, fz, h1, fun j x hj => h2 j x (hs j x hj)⟩

theorem ints_row {w : World} {B g n cap : Nat} {st : List Nat} (h : w.ownsRow B 3 1 (.slice (some ⟨g, 0, none⟩) n cap) n (st.map fun x : Nat => Value.int .i64 (x : Int))) : IntsAt w g st ∧ n ≤ cap := by
  rcases h.2 with ⟨h0, _⟩ | ⟨g', cap', cur, h1, _, h3, h4, _, _, h6⟩
  · cases h0
  · cases h1
    refine ⟨⟨cur, _, h3, fun j x hj => ?_⟩, h4⟩
    have hl := h.1
    rw [List.length_map] at hl
    have hjn : j < n * 1 := by have := get_lt hj; omega
    have h7 : (cur.toList.take (n * 1))[j]? = some (.int .i64 (x : Int)) := by rw [h6, List.getElem?_map, hj]; rfl
    rw [List.getElem?_take_of_lt hjn] at h7
    simpa using h7

/-- What is kept between two matches. -/
structure ThJ (w : World) (G : List GS) (T : List UInt8) (st0 : List Nat) (at_ : Nat) (st : List Nat) (pre : List Sp) (sb : Nat) (lv : Value) (W : World) : Prop where
  path : Path G T st0 at_ st pre
  good : Good G st
  ints : IntsAt W sb st
  row : SpRow W w.heap.size lv pre
  blw : Below w.heap.size w W

/-- A span was put to the others. -/
theorem ThJ.app {w : World} {G : List GS} {T : List UInt8} {st0 : List Nat} {at_ : Nat} {st : List Nat} {pre : List Sp} {sb : Nat} {lv lv' : Value} {W W4 : World} {o : Obj} {x : Sp} (h : ThJ w G T st0 at_ st pre sb lv W) (hrow : W4.ownsRow w.heap.size 70 5 lv' (pre.length + 1) (pre.flatMap Sp.cells ++ x.cells)) (hg : (W.alloc o).grownBy W4 lv.ownBlock) :
    IntsAt W4 sb st ∧ SpRow W4 w.heap.size lv' (pre ++ [x]) ∧ Below w.heap.size w W4 ∧ ∀ hb hs, HitsAt W hb hs → HitsAt W4 hb hs := by
  have hb : Below W.heap.size W (W.alloc o) := (Below.refl _ _).alloc (Nat.le_refl _) _
  have hr2 : SpRow (W.alloc o) w.heap.size lv pre := row_keep h.row fun k hk => by obtain ⟨_, c, hc⟩ := row_type h.row hk; exact hb.block k (lt_of_get hc)
  have o1 : Off (fun k => lv.ownBlock = some k) W W4 := (Off.of_below hb).trans (Off.of_grown hr2 (by decide) hg)
  have hty : ∀ k, lv.ownBlock = some k → w.heap.size ≤ k ∧ ∃ c, W.heap[k]? = some (.cells c 70 (0, 0)) := fun k hk => row_type h.row hk
  refine ⟨h.ints.keep fun c fz hh => o1.same hh (fun e => ?_), SpRow.snoc hrow, h.blw.trans ⟨o1.os, o1.tape, o1.output, o1.size, fun k hk => o1.keep k ⟨Nat.lt_of_lt_of_le hk h.blw.size, fun e => by have := (hty k e).1; omega⟩⟩, fun hb' hs hh => o1.same hh (fun e => ?_)⟩
  · obtain ⟨_, c', hc'⟩ := hty _ e
    rw [hh] at hc'
    simp at hc'
  · obtain ⟨_, c', hc'⟩ := hty _ e
    unfold HitsAt at hh
    rw [hh] at hc'
    simp at hc'

/-- Behind the bytes ahead of a match. -/
def GapJ (w : World) (st : List Nat) (sb : Nat) (pre : List Sp) (hb : Nat) (hs : List (Int × Int)) (vl : Value) (W : World) : Prop :=
  ∃ lao lcp, vl = .slice lao pre.length lcp ∧ IntsAt W sb st ∧ SpRow W w.heap.size vl pre ∧ Below w.heap.size w W ∧ HitsAt W hb hs

theorem GapJ.app {w : World} {st : List Nat} {sb : Nat} {pre : List Sp} {hb : Nat} {hs : List (Int × Int)} {lv lv' : Value} {W W4 : World} {o : Obj} {x : Sp} (h : GapJ w st sb pre hb hs lv W) (hrow : W4.ownsRow w.heap.size 70 5 lv' (pre.length + 1) (pre.flatMap Sp.cells ++ x.cells)) (hg : (W.alloc o).grownBy W4 lv.ownBlock) :
    GapJ w st sb (pre ++ [x]) hb hs lv' W4 ∧ ∀ (k : Nat) o', W.heap[k]? = some o' → (∀ c, o' ≠ .cells c 70 (0, 0)) → W4.heap[k]? = some o' := by
  obtain ⟨lao, lcp, h1, h2, h3, h4, h5⟩ := h
  have hbb : Below W.heap.size W (W.alloc o) := (Below.refl _ _).alloc (Nat.le_refl _) _
  have hr2 : SpRow (W.alloc o) w.heap.size lv pre := row_keep h3 fun k hk => by obtain ⟨_, c, hc⟩ := row_type h3 hk; exact hbb.block k (lt_of_get hc)
  have o1 : Off (fun k => lv.ownBlock = some k) W W4 := (Off.of_below hbb).trans (Off.of_grown hr2 (by decide) hg)
  have key : ∀ (k : Nat) o', W.heap[k]? = some o' → (∀ c, o' ≠ .cells c 70 (0, 0)) → W4.heap[k]? = some o' := fun k o' hk hne => o1.same hk (fun e => by
    obtain ⟨_, c, hc⟩ := row_type h3 e
    rw [hk] at hc
    cases hc
    exact hne _ rfl)
  have hsn : SpRow W4 w.heap.size lv' (pre ++ [x]) := SpRow.snoc hrow
  obtain ⟨ao', c', hv'⟩ := row_slice hsn
  refine ⟨⟨ao', c', hv', h2.keep fun c fz hh => key _ _ hh (fun c' => by simp), hsn, h4.trans ⟨o1.os, o1.tape, o1.output, o1.size, fun k hk => o1.keep k ⟨Nat.lt_of_lt_of_le hk h4.size, fun e => by have := (row_type h3 e).1; omega⟩⟩, key _ _ h5 (fun c => by simp)⟩, key⟩

/-- What is known of a state's rules. -/
def KnJ (w : World) (G : List GS) (T : List UInt8) (at_ : Nat) (was hv : Value) (W : World) : Prop :=
  (was = .int .i64 (-1) ∧ hv = .slice none 0 0) ∨ ∃ (i hb : Nat) (s : GS) (hs : List (Int × Int)), was = .int .i64 i ∧ G[i]? = some s ∧ hv = .slice (some ⟨hb, 0, none⟩) s.rs.length s.rs.length ∧ w.heap.size ≤ hb ∧ HitsAt W hb hs ∧ HitsOk s.rs T at_ hs

def HtJ (w : World) (G : List GS) (T : List UInt8) (st0 : List Nat) (at_ : Nat) (st : List Nat) (pre : List Sp) (sb : Nat) (lv : Value) (top : Nat) (s : GS) (vw vh : Value) (W : World) : Prop :=
  ∃ (hb : Nat) (hs : List (Int × Int)), vw = .int .i64 top ∧ vh = .slice (some ⟨hb, 0, none⟩) s.rs.length s.rs.length ∧ w.heap.size ≤ hb ∧ HitsAt W hb hs ∧ HitsOk s.rs T at_ hs ∧ ThJ w G T st0 at_ st pre sb lv W

def ThLoop (w : World) (G : List GS) (text : ByteArray) (st0 : List Nat) (k : Nat) (vs vl va vw vh : Value) (W : World) : Prop :=
  ∃ (at_ : Nat) (st : List Nat) (pre : List Sp) (sb scp : Nat) (lao : Option Addr) (lcp : Nat), vs = .slice (some ⟨sb, 0, none⟩) st.length scp ∧ vl = .slice lao pre.length lcp ∧ va = .int .i64 at_ ∧ at_ + k = text.size ∧ st.length ≤ scp ∧ ThJ w G text.data.toList st0 at_ st pre sb (.slice lao pre.length lcp) W ∧ KnJ w G text.data.toList at_ vw vh W

def ThPost (G : List GS) (T : List UInt8) (st0 : List Nat) (w : World) (e : Ending) (W : World) : Prop :=
  ∃ lv sps sb st scp, e = .returned (.tuple #[lv, .slice (some ⟨sb, 0, none⟩) st.length scp]) ∧ Thru G T st0 sps st ∧ SpRow W w.heap.size lv sps ∧ IntsAt W sb st ∧ st.length ≤ scp ∧ Below w.heap.size w W

set_option maxRecDepth 20000 in
set_option maxHeartbeats 8000000 in
theorem through_any (B P g n0 cap : Nat) (ss : List RSt) (G : List GS) (text : ByteArray) (st0 : List Nat) (sb0 scp0 : Nat) (w : World) (h : RG w B P g n0 cap ss) (hsame : SameG G ss) (hok : GOk G) (hgood : Good G st0) (hz : text.size ≤ 3000) (hi : IntsAt w sb0 st0) (hcp : st0.length ≤ scp0) :
    Calls Tryz.prog 64 #[.pointer (some ⟨P, 0, none⟩), .string text, .slice (some ⟨sb0, 0, none⟩) st0.length scp0] w (ThPost G text.data.toList st0 w) := by
  have HRG := hide h
  have HSG := hide hsame
  have HOK := hide hok
  have HGD := hide hgood
  have HI := hide hi
  clear h hsame hok hgood hi
  go_enter Tryz.func64, Tryz.ntmps64
  go_wp2_with fail
  go_loopg [2, 8, 9, 10, 11] text.size (fun k vs vl va vw vh wr => ThLoop w G text st0 k vs vl va vw vh wr)
  case atStart => exact ⟨0, st0, [], sb0, scp0, none, 0, rfl, rfl, rfl, by omega, hcp, ⟨.start, HGD.out, HI.out, World.ownsRow_nil _ _ _ _, Below.refl _ _⟩, .inl ⟨rfl, rfl⟩⟩
  case round =>
    obtain ⟨at_, st, pre, sb, scp, lao, lcp, rfl, rfl, rfl, hk, hscp, hth, hkn⟩ := hrel
    by_cases hlt : at_ < text.size
    · have g1 : decide ((at_ : Int) < (text.size : Int)) = true := decide_eq_true (by omega)
      obtain ⟨top, s, htop, hs⟩ := hth.good.top
      have hR := HRG.out.below hth.blw
      have c0 := hR.grm.top_cell.1
      have d0 := hth.ints.cell htop
      have hst1 := hth.good.1.1
      have hst8 := hth.good.1.2
      have hwr : IntKind.i64.wrap ((st.length : Int) - 1) = ((st.length - 1 : Nat) : Int) := by rw [IntKind.wrap_i64]; omega
      obtain ⟨sl, hsl⟩ : ∃ sl, sl = st.length - 1 := ⟨_, rfl⟩
      rw [← hsl] at htop d0 hwr
      have hslt : sl < st.length := by omega
      have htn : top < n0 := by
        have h1 : n0 = ss.length := by
          obtain ⟨ao, cp, e1, _⟩ := hR.grm.form
          cases e1
          rfl
        rw [h1, ← HSG.out.len]
        exact get_lt hs
      have HTH := hide hth
      have HKN := hide hkn
      have HTOP := hide htop
      have HS := hide hs
      have HSL := hide hsl
      clear hth hkn hR htop hs hsl
      go_wp2_with fail
      go_region_held3 (fun w' => w'.cell? ⟨P, 0, none⟩ = some (.slice (some ⟨g, 0, none⟩) n0 cap) ∧ w'.cell? ⟨sb, sl, none⟩ = some (.int .i64 top)) (go_keep) (fail)
      all_goals
        have HTHd := hide (show ThJ w G text.data.toList st0 at_ st pre sb (.slice lao pre.length lcp) wr.drew from ⟨HTH.out.path, HTH.out.good, HTH.out.ints.below (Below.refl _ _).drew, HTH.out.row, HTH.out.blw.trans (Below.refl _ _).drew⟩)
        obtain ⟨w1, hw1⟩ : ∃ w1, w1 = wr.drew := ⟨_, rfl⟩
        have HKNd := hide (show KnJ w G text.data.toList at_ u10 u11 w1 from by rw [hw1]; exact HKN.out)
        rw [← hw1] at HTHd ⊢
        clear HTH HKN hw1 c0
        dsimp only [Exit.then]
        refine (by with_reducible assumption : ∀ (a : Act) (w : World), Code.wp Tryz.prog _ _ a w → (_ : Act → World → Prop) a w) _ _ ?_
        refine wp_seq_k fun K1 hK1 => ?_
        have d1 := HTHd.out.ints.cell HTOP.out
        go_cut [10, 11] from 34 to 174 (fun vw vh wc => HtJ w G text.data.toList st0 at_ st pre sb (.slice lao pre.length lcp) top s vw vh wc)
        case first =>
          obtain ⟨t, ht⟩ : ∃ t, ss[top]? = some t := ⟨_, List.getElem?_eq_getElem (by rw [← HSG.out.len]; exact get_lt HS.out)⟩
          have hrl := (HSG.out.st top s t HS.out ht).2.1
          have HNN := hide (noneHits_any B P g n0 cap ss top t w1 (HRG.out.below HTHd.out.blw) ht)
          rw [hrl] at HNN
          by_cases hsame : u10 = .int .i64 top
          · subst hsame
            have e1 : ((top : Int) == (top : Int)) = true := by simp
            have HMT := hide (show HtJ w G text.data.toList st0 at_ st pre sb (.slice lao pre.length lcp) top s (.int .i64 top) u11 w1 from by
              rcases HKNd.out with ⟨h1, _⟩ | ⟨i, hb, s', hs, h1, h2, h3, h4, h5, h6⟩
              · simp at h1
              · have h7 : i = top := by simp at h1; omega
                subst h7
                rw [HS.out] at h2
                cases h2
                exact ⟨hb, hs, rfl, h3, h4, h5, h6, HTHd.out⟩)
            clear HKNd HNN ht hrl
            go_wp2_with fail
            go_meet
            case rel => exact HMT.out
          · obtain ⟨wi, hwi, hne⟩ : ∃ wi : Int, u10 = .int .i64 wi ∧ wi ≠ top := by
              rcases HKNd.out with ⟨h1, _⟩ | ⟨i, hb, s', hs, h1, _⟩
              · exact ⟨-1, h1, by omega⟩
              · exact ⟨i, h1, fun e => hsame (by rw [h1, e])⟩
            subst hwi
            have e1 : (wi == (top : Int)) = false := by rw [beq_eq_false_iff_ne]; exact hne
            have e2 : decide (wi = (top : Int)) = false := decide_eq_false hne
            clear HKNd hsame ht hrl
            go_wp2_with fail
            refine HNN.out.mono ?_
            rintro e3 w3 ⟨rfl, hh3, hb3⟩
            have HMT := hide (show HtJ w G text.data.toList st0 at_ st pre sb (.slice lao pre.length lcp) top s (.int .i64 top) (.slice (some ⟨w1.heap.size, 0, none⟩) s.rs.length s.rs.length) w3 from by
              have hj := HTHd.out
              refine ⟨w1.heap.size, _, rfl, rfl, hj.blw.size, hh3, ⟨by simp, fun i r h h1 h2 => ?_⟩, hj.path, hj.good, hj.ints.below hb3, row_keep hj.row fun k hk => by obtain ⟨_, c, hc⟩ := row_type hj.row hk; exact hb3.block k (lt_of_get hc), hj.blw.trans (hb3.mono hj.blw.size)⟩
              have := List.mem_of_getElem? h2
              rw [(List.mem_replicate.1 this).2]
              exact .inl rfl)
            clear hh3 hb3 HNN
            go_wp2_with fail
            go_meet
            case rel => exact HMT.out
        case rest =>
          obtain ⟨hb, hs, rfl, rfl, hhb, hha, hho, hth⟩ := hcut
          obtain ⟨t, ht⟩ : ∃ t, ss[top]? = some t := ⟨_, List.getElem?_eq_getElem (by rw [← HSG.out.len]; exact get_lt HS.out)⟩
          obtain ⟨hnm, hrl, hru⟩ := HSG.out.st top s t HS.out ht
          have hRc := HRG.out.below hth.blw
          have HAG := hide (again_any B P g n0 cap ss top t s.rs text at_ hb hs wc hRc ht ⟨hrl, fun k q r h1 h2 => (hru k r q h2 h1).1⟩ (by omega) hz hha hho)
          have HTHc := hide hth
          have HT := hide ht
          have HNM := hide hnm
          have HRU := hide hru
          have HHA := hide hha
          clear hha hho hth hnm hru ht hRc HKNd HTHd d1
          go_wp2_with fail
          refine HAG.out.mono ?_
          rintro e4 w4 ⟨⟨av, rfl⟩, hs4, hha4, hnow4, hoff4⟩
          have HTH4 := hide (show ThJ w G text.data.toList st0 at_ st pre sb (.slice lao pre.length lcp) w4 from by
            have hj := HTHc.out
            refine ⟨hj.path, hj.good, hj.ints.keep fun c fz hh => hoff4.same hh (fun e => ?_), row_keep hj.row fun k hk => ?_, hj.blw.trans ⟨hoff4.os, hoff4.tape, hoff4.output, hoff4.size, fun k hk => hoff4.keep k ⟨Nat.lt_of_lt_of_le hk hj.blw.size, by omega⟩⟩⟩
            · have h1 := HHA.out
              unfold HitsAt at h1
              rw [← e, hh] at h1
              simp at h1
            · obtain ⟨_, c, hc⟩ := row_type hj.row hk
              rw [hc]
              refine hoff4.same hc (fun e => ?_)
              have h1 := HHA.out
              unfold HitsAt at h1
              rw [← e, hc] at h1
              simp at h1)
          have HHA4 := hide hha4
          have HNOW := hide hnow4
          have hs4l : hs4.length = s.rs.length := hnow4.1
          clear hha4 hnow4 hoff4 HAG HTHc HHA
          obtain ⟨w5, hw5⟩ : ∃ w5, w5 = w4 := ⟨_, rfl⟩
          rw [← hw5]
          rw [← hw5] at HTH4 HHA4
          clear hw5
          go_wp2_with fail
          go_loopg [13, 14, 15, 16] s.rs.length (fun k vh vf vt vi wx => wx = w5 ∧ ∃ (j : Nat) (hit fr tt : Int), vh = .int .i64 hit ∧ vf = .int .i64 fr ∧ vt = .int .i64 tt ∧ vi = .int .i64 j ∧ j + k = s.rs.length ∧ Least hs4 j hit fr tt)
          case atStart => exact ⟨rfl, 0, -1, 0, 0, rfl, rfl, rfl, rfl, by omega, Least.start _ _ _⟩
          case round =>
            obtain ⟨rfl, j, hit, fr, tt, rfl, rfl, rfl, rfl, hjk, hle⟩ := hrel
            by_cases hjl : j < s.rs.length
            · have g5 : decide ((j : Int) < (s.rs.length : Int)) = true := decide_eq_true (by omega)
              obtain ⟨⟨p1, p2⟩, hp⟩ : ∃ p, hs4[j]? = some p := ⟨_, List.getElem?_eq_getElem (by rw [hs4l]; exact hjl)⟩
              obtain ⟨q1, q2, _, _⟩ := HHA4.out.cell hp
              dsimp only at q1 q2
              have hwr5 : IntKind.i64.wrap ((j : Int) + 1) = (j : Int) + 1 := by
                have h40 := HRG.out.few.2 t (List.mem_of_getElem? HT.out)
                rw [hrl] at h40
                rw [IntKind.wrap_i64]; omega
              by_cases f1 : p1 < 1000000
              · have e5 : decide (p1 < 1000000) = true := decide_eq_true f1
                by_cases f2 : hit < 0
                · have e6 : decide (hit < 0) = true := decide_eq_true f2

                  have HSTP := hide (show (Least hs4 (j + 1) (j : Int) p1 p2) from hle.take hp (by omega) (.inl f2))
                  clear hle
                  go_wp2_with fail
                  go_roundg (s.rs.length - (j + 1))
                  case measure => omega
                  case rel => exact ⟨rfl, j + 1, (j : Int), p1, p2, rfl, rfl, rfl, by simp, by omega, HSTP.out⟩
                · have e6 : decide (hit < 0) = false := decide_eq_false f2
                  by_cases f3 : p1 < fr
                  · have e7 : decide (p1 < fr) = true := decide_eq_true f3

                    have HSTP := hide (show (Least hs4 (j + 1) (j : Int) p1 p2) from hle.take hp (by omega) (.inr f3))
                    clear hle
                    go_wp2_with fail
                    go_roundg (s.rs.length - (j + 1))
                    case measure => omega
                    case rel => exact ⟨rfl, j + 1, (j : Int), p1, p2, rfl, rfl, rfl, by simp, by omega, HSTP.out⟩
                  · have e7 : decide (p1 < fr) = false := decide_eq_false f3

                    have HSTP := hide (show (Least hs4 (j + 1) hit fr tt) from hle.skip hp (.inr ⟨by omega, by show fr ≤ p1; omega⟩))
                    clear hle
                    go_wp2_with fail
                    go_roundg (s.rs.length - (j + 1))
                    case measure => omega
                    case rel => exact ⟨rfl, j + 1, hit, fr, tt, rfl, rfl, rfl, by simp, by omega, HSTP.out⟩
              · have e5 : decide (p1 < 1000000) = false := decide_eq_false f1

                have HSTP := hide (show (Least hs4 (j + 1) hit fr tt) from hle.skip hp (.inl (by show 1000000 ≤ p1; omega)))
                clear hle
                go_wp2_with fail
                go_roundg (s.rs.length - (j + 1))
                case measure => omega
                case rel => exact ⟨rfl, j + 1, hit, fr, tt, rfl, rfl, rfl, by simp, by omega, HSTP.out⟩
            · have g5 : decide ((j : Int) < (s.rs.length : Int)) = false := decide_eq_false (by omega)
              obtain rfl : j = s.rs.length := by omega
              have HLE := hide hle
              clear hle
              by_cases hneg : hit < 0
              · have e8 : decide (hit < 0) = true := decide_eq_true hneg
                have n1 := ((HRG.out.below HTH4.out.blw).grm.at HT.out).1
                obtain ⟨i0, hi, hz0, hz1, hz3⟩ := info_parts info_apispan
                have hpl : pre.length ≤ 6000 := by have := HTH4.out.path.short HOK.out; omega
                have HROW := hide (show (wr.alloc (.cells #[.int .i64 at_, .int .i64 text.size, .string t.name, .int .i64 st.length, .string ⟨#[]⟩] 70)).ownsRow w.heap.size 70 5 (.slice lao pre.length lcp) pre.length (pre.flatMap Sp.cells) from row_keep HTH4.out.row fun k hk => by obtain ⟨_, c, hc⟩ := row_type HTH4.out.row hk; exact ((Below.refl _ _).alloc (Nat.le_refl _) _).block k (lt_of_get hc))
                have HNW := hide (fun (y : Nat) u (h : ([.int .i64 at_, .int .i64 text.size, .string t.name, .int .i64 st.length, .string ⟨#[]⟩] : List Value)[y]? = some u) => show (wr.alloc (.cells #[.int .i64 at_, .int .i64 text.size, .string t.name, .int .i64 st.length, .string ⟨#[]⟩] 70)).cell? ((⟨wr.heap.size, 0, none⟩ : Addr).add y) = some u from cell_new_row wr #[.int .i64 at_, .int .i64 text.size, .string t.name, .int .i64 st.length, .string ⟨#[]⟩] _ y u h)
                have hbase : w.heap.size ≤ (wr.alloc (.cells #[.int .i64 at_, .int .i64 text.size, .string t.name, .int .i64 st.length, .string ⟨#[]⟩] 70)).heap.size := by rw [World.size_alloc]; have := HTH4.out.blw.size; omega
                have HNX := hide (fun (v' : Value) (W4 : World) (hr : W4.ownsRow w.heap.size 70 5 v' (pre.length + 1) (pre.flatMap Sp.cells ++ [.int .i64 at_, .int .i64 text.size, .string t.name, .int .i64 st.length, .string ⟨#[]⟩])) (hg : (wr.alloc (.cells #[.int .i64 at_, .int .i64 text.size, .string t.name, .int .i64 st.length, .string ⟨#[]⟩] 70)).grownBy W4 (Value.slice lao pre.length lcp).ownBlock) => show ThPost G text.data.toList st0 w (.returned (.tuple #[v', .slice (some ⟨sb, 0, none⟩) st.length scp])) W4 from by
                  obtain ⟨a1, a2, a3, _⟩ := HTH4.out.app (x := ⟨at_, text.size, t.name, st.length, ⟨#[]⟩⟩) hr hg
                  refine ⟨v', _, sb, st, scp, rfl, .inr ⟨at_, pre, top, s, HTH4.out.path, by rw [text_length]; exact hlt, by rw [← HSL.out]; exact HTOP.out, HS.out, HLE.out.no HNOW.out (by rw [text_length]; omega) hneg, rfl⟩, ?_, a1, hscp, a3⟩
                  rw [text_length, HNM.out]
                  exact a2)
                clear HLE HNOW HHA4 HTH4
                go_wp2_with (at_builtin; go_loud (refine wpList_append_own_at _ rfl (.tmp 93) (.tmp 104) 64 rfl w.heap.size 70 i0 (.agg #[.int .i64 0, .int .i64 0, .string ⟨#[]⟩, .int .i64 0, .string ⟨#[]⟩]) 5 56 Tryz.underlying64 hi hz0 hz1 hz3 rfl (by decide) (.slice lao pre.length lcp) pre.length (pre.flatMap Sp.cells) (by rfl) HROW.out ⟨wr.heap.size, 0, none⟩ 1 1 [.int .i64 at_, .int .i64 text.size, .string t.name, .int .i64 st.length, .string ⟨#[]⟩] (by rfl) rfl HNW.out (by simp [Value.oneCell']) (by unfold maxLen; omega) (by omega) hbase ?_; intro v' W4 hown hg _ _; have HEND := hide (HNX.out v' W4 hown hg); obtain ⟨g', cap', rfl⟩ := own_form hown (by omega); clear hown hg HNX HROW HNW))
                go_wp2_with fail
                go_ret2
                exact HEND.out
              · obtain ⟨kx, p, ex, r, h1, h2, h3, hrk, hhit⟩ := HLE.out.hit (fun r hr => (HOK.out s (List.mem_of_getElem? HS.out) r hr).1) HNOW.out (by omega)
                subst h1 h2 h3
                have e8 : decide ((kx : Int) < 0) = false := decide_eq_false (by omega)
                obtain ⟨q, hq⟩ : ∃ q, t.rs[kx]? = some q := ⟨_, List.getElem?_eq_getElem (by rw [hrl]; exact get_lt hrk)⟩
                obtain ⟨_, hqk, hqc, hqo⟩ := HRU.out kx r q hrk hq
                have hgtx := hhit.gt (HOK.out s (List.mem_of_getElem? HS.out) r (List.mem_of_getElem? hrk)).1
                rw [text_length] at hgtx
                have hapx := hhit.le
                have HHOK := hide (HNOW.out.ok (at' := ex) (by omega))
                have HHIT := hide hhit
                have HPATH := hide HTH4.out.path
                have HGOOD := hide HTH4.out.good
                have HQ := hide hq
                have HRK := hide hrk
                have HQO := hide hqo
                clear HLE HNOW hhit hq hrk hqo
                go_upto_if 109 with fail
                go_cut [8] from 107 to 174 (fun vl wc => GapJ w st sb (pre ++ gapL at_ p s.nm st.length) hb hs4 vl wc)
                case first =>
                  by_cases hgt : at_ < p
                  · have e9 : decide ((at_ : Int) < (p : Int)) = true := decide_eq_true (by omega)
                    have n1 := ((HRG.out.below HTH4.out.blw).grm.at HT.out).1
                    obtain ⟨i0, hi, hz0, hz1, hz3⟩ := info_parts info_apispan
                    have hpl : pre.length ≤ 6000 := by have := HTH4.out.path.short HOK.out; omega
                    have HROW := hide (show (wr.alloc (.cells #[.int .i64 at_, .int .i64 p, .string t.name, .int .i64 st.length, .string ⟨#[]⟩] 70)).ownsRow w.heap.size 70 5 (.slice lao pre.length lcp) pre.length (pre.flatMap Sp.cells) from row_keep HTH4.out.row fun k hk => by obtain ⟨_, c, hc⟩ := row_type HTH4.out.row hk; exact ((Below.refl _ _).alloc (Nat.le_refl _) _).block k (lt_of_get hc))
                    have HNW := hide (fun (y : Nat) u (h : ([.int .i64 at_, .int .i64 p, .string t.name, .int .i64 st.length, .string ⟨#[]⟩] : List Value)[y]? = some u) => show (wr.alloc (.cells #[.int .i64 at_, .int .i64 p, .string t.name, .int .i64 st.length, .string ⟨#[]⟩] 70)).cell? ((⟨wr.heap.size, 0, none⟩ : Addr).add y) = some u from cell_new_row wr #[.int .i64 at_, .int .i64 p, .string t.name, .int .i64 st.length, .string ⟨#[]⟩] _ y u h)
                    have hbase : w.heap.size ≤ (wr.alloc (.cells #[.int .i64 at_, .int .i64 p, .string t.name, .int .i64 st.length, .string ⟨#[]⟩] 70)).heap.size := by rw [World.size_alloc]; have := HTH4.out.blw.size; omega
                    have HNX := hide (fun (v' : Value) (W4 : World) (hr : W4.ownsRow w.heap.size 70 5 v' (pre.length + 1) (pre.flatMap Sp.cells ++ [.int .i64 at_, .int .i64 p, .string t.name, .int .i64 st.length, .string ⟨#[]⟩])) (hg : (wr.alloc (.cells #[.int .i64 at_, .int .i64 p, .string t.name, .int .i64 st.length, .string ⟨#[]⟩] 70)).grownBy W4 (Value.slice lao pre.length lcp).ownBlock) => show GapJ w st sb (pre ++ gapL at_ p s.nm st.length) hb hs4 v' W4 from by
                      obtain ⟨a1, a2, a3, a4⟩ := HTH4.out.app (x := ⟨at_, p, t.name, st.length, ⟨#[]⟩⟩) hr hg
                      rw [gapL, if_pos hgt, HNM.out]
                      obtain ⟨ao', c', hv'⟩ := row_slice a2
                      exact ⟨ao', c', hv', a1, a2, a3, a4 _ _ HHA4.out⟩)
                    clear HHA4 HTH4
                    go_wp2_with (at_builtin; go_loud (refine wpList_append_own_at _ rfl (.tmp 110) (.tmp 120) 64 rfl w.heap.size 70 i0 (.agg #[.int .i64 0, .int .i64 0, .string ⟨#[]⟩, .int .i64 0, .string ⟨#[]⟩]) 5 56 Tryz.underlying64 hi hz0 hz1 hz3 rfl (by decide) (.slice lao pre.length lcp) pre.length (pre.flatMap Sp.cells) (by rfl) HROW.out ⟨wr.heap.size, 0, none⟩ 1 1 [.int .i64 at_, .int .i64 p, .string t.name, .int .i64 st.length, .string ⟨#[]⟩] (by rfl) rfl HNW.out (by simp [Value.oneCell']) (by unfold maxLen; omega) (by omega) hbase ?_; intro v' W4 hown hg _ _; have HEND := hide (HNX.out v' W4 hown hg); obtain ⟨g', cap', rfl⟩ := own_form hown (by omega); clear hown hg HNX HROW HNW))
                    go_wp2_with fail
                    go_meet
                    case rel => exact HEND.out
                  · have e9 : decide ((at_ : Int) < (p : Int)) = false := decide_eq_false (by omega)
                    have HMT := hide (show GapJ w st sb (pre ++ gapL at_ p s.nm st.length) hb hs4 (.slice lao pre.length lcp) wr from by
                      rw [gapL, if_neg hgt, List.append_nil]
                      exact ⟨lao, lcp, rfl, HTH4.out.ints, HTH4.out.row, HTH4.out.blw, HHA4.out⟩)
                    clear HHA4 HTH4
                    go_wp2_with fail
                    go_meet
                    case rel => exact HMT.out
                case rest =>
                  obtain ⟨lao2, lcp2, rfl, hin, hrw, hbl, hha⟩ := hcut
                  have hRw := HRG.out.below hbl
                  obtain ⟨n1, n2, _, _⟩ := hRw.grm.at HT.out
                  obtain ⟨rg, rn, rcap, hrv, hrn⟩ : ∃ rg rn rcap, t.rv = .slice (some ⟨rg, 0, none⟩) rn rcap ∧ rn = t.rs.length := by
                    obtain ⟨rao, rcap, h1, h2⟩ := hRw.grm.rules (List.mem_of_getElem? HT.out)
                    obtain ⟨rg, h3⟩ := h2 (by have := get_lt HQ.out; omega)
                    exact ⟨rg, _, rcap, by rw [h1, h3], rfl⟩
                  have hkn : kx < rn := by rw [hrn]; exact get_lt HQ.out
                  obtain ⟨PP, PB, pls, pfirst, hqn, _, _⟩ := plan_of (hRw.plans t (List.mem_of_getElem? HT.out) q (List.mem_of_getElem? HQ.out)) (HRU.out kx r q HRK.out HQ.out).1
                  have x0 := (hRw.grm.rule (List.mem_of_getElem? HT.out) hrv HQ.out 0 (by omega) (u := .string q.a) rfl).1
                  have x1 := (hRw.grm.rule (List.mem_of_getElem? HT.out) hrv HQ.out 1 (by omega) (u := .string q.b) rfl).1
                  have x2 := (hRw.grm.rule (List.mem_of_getElem? HT.out) hrv HQ.out 2 (by omega) (u := .string q.c) rfl).1
                  have x3 := (hRw.grm.rule (List.mem_of_getElem? HT.out) hrv HQ.out 3 (by omega) (u := .string q.p) rfl).1
                  have x4 := (hRw.grm.rule (List.mem_of_getElem? HT.out) hrv HQ.out 4 (by omega) (u := .pointer (some ⟨PP, 0, none⟩)) (by rw [← hqn]; rfl)).1
                  have x5 := (hRw.grm.rule (List.mem_of_getElem? HT.out) hrv HQ.out 5 (by omega) (u := .int .i64 q.at_) rfl).1
                  rw [Nat.add_zero] at x0
                  rw [hrv] at n2
                  obtain ⟨w6, hw6⟩ : ∃ w6, wc.alloc (.cells #[.string q.a, .string q.b, .string q.c, .string q.p, .pointer (some ⟨PP, 0, none⟩), .int .i64 q.at_] 128) = w6 := ⟨_, rfl⟩
                  have hb6 : Below wc.heap.size wc w6 := by rw [← hw6]; exact (Below.refl _ _).alloc (Nat.le_refl _) _
                  have hq6 : w6.heap[wc.heap.size]? = some (.cells #[.string q.a, .string q.b, .string q.c, .string q.p, .pointer (some ⟨PP, 0, none⟩), .int .i64 q.at_] 128 (0, 0)) := by rw [← hw6]; exact heap_alloc_last _ _
                  have n6 := cell_below n1 hb6
                  have y2 : w6.cell? ⟨wc.heap.size, 2, none⟩ = some (.string q.c) := cell_at hq6 rfl
                  have HGP := hide (show GapJ w st sb (pre ++ gapL at_ p s.nm st.length) hb hs4 (.slice lao2 (pre ++ gapL at_ p s.nm st.length).length lcp2) w6 from ⟨lao2, lcp2, rfl, hin.below hb6, row_keep hrw fun k hk => by obtain ⟨_, c, hc⟩ := row_type hrw hk; exact hb6.block k (lt_of_get hc), hbl.trans (hb6.mono hbl.size), (hb6.block _ (lt_of_get hha)).trans hha⟩)
                  have HQ6 := hide hq6
                  obtain ⟨npre, hnpre⟩ : ∃ npre, npre = (pre ++ gapL at_ p s.nm st.length).length := ⟨_, rfl⟩
                  rw [← hnpre] at HGP ⊢
                  have HNP := hide hnpre
                  clear hin hrw hbl hha hRw hb6 hq6 hnpre hrv hqn
                  go_wp2_with (refine wpList_store_row rfl _ _ _ rfl _ #[.string q.a, .string q.b, .string q.c, .string q.p, .pointer (some ⟨PP, 0, none⟩), .int .i64 q.at_] rfl rfl 128 _ (heap_alloc_at _ _ _ rfl) rfl rfl (by simp [Value.oneCell']) ?_; rw [alloc_setRow _ _ _ _ _ rfl])
                  obtain ⟨rb, hrb⟩ : ∃ rb, rb = wc.heap.size := ⟨_, rfl⟩
                  rw [← hrb] at y2 HQ6 ⊢
                  clear hrb hw6 x0 x1 x2 x3 x4 x5 n1 n2
                  obtain ⟨i0, hi, hz0, hz1, hz3⟩ := info_parts info_apispan
                  have hnp : npre ≤ 6001 := by
                    have h1 := HPATH.out.short HOK.out
                    have h2 := gapL_short at_ p s.nm st.length
                    rw [HNP.out, List.length_append]; omega
                  go_cut [8] from 129 to 174 (fun vl wd => GapJ w st sb ((pre ++ gapL at_ p s.nm st.length) ++ [⟨p, ex, s.nm, st.length, r.co⟩]) hb hs4 vl wd ∧ wd.heap[rb]? = some (.cells #[.string q.a, .string q.b, .string q.c, .string q.p, .pointer (some ⟨PP, 0, none⟩), .int .i64 q.at_] 128 (0, 0)))
                  case first =>
                    have HROW := hide (show (w6.alloc (.cells #[.int .i64 p, .int .i64 ex, .string t.name, .int .i64 st.length, .string q.c] 70)).ownsRow w.heap.size 70 5 (.slice lao2 npre lcp2) npre ((pre ++ gapL at_ p s.nm st.length).flatMap Sp.cells) from by
                      obtain ⟨_, _, _, _, h3, _, _⟩ := HGP.out
                      have h4 : w6.ownsRow w.heap.size 70 5 (.slice lao2 npre lcp2) npre ((pre ++ gapL at_ p s.nm st.length).flatMap Sp.cells) := by have h5 := h3; unfold SpRow at h5; rw [← HNP.out] at h5; exact h5
                      exact row_keep h4 fun k hk => by obtain ⟨_, c, hc⟩ := row_type h4 hk; exact ((Below.refl _ _).alloc (Nat.le_refl _) _).block k (lt_of_get hc))
                    have HNW := hide (fun (y : Nat) u (h : ([.int .i64 p, .int .i64 ex, .string t.name, .int .i64 st.length, .string q.c] : List Value)[y]? = some u) => show (w6.alloc (.cells #[.int .i64 p, .int .i64 ex, .string t.name, .int .i64 st.length, .string q.c] 70)).cell? ((⟨w6.heap.size, 0, none⟩ : Addr).add y) = some u from cell_new_row w6 #[.int .i64 p, .int .i64 ex, .string t.name, .int .i64 st.length, .string q.c] _ y u h)
                    have hbase : w.heap.size ≤ (w6.alloc (.cells #[.int .i64 p, .int .i64 ex, .string t.name, .int .i64 st.length, .string q.c] 70)).heap.size := by rw [World.size_alloc]; obtain ⟨_, _, _, _, _, h4, _⟩ := HGP.out; have := h4.size; omega
                    have HNX := hide (fun (v' : Value) (W4 : World) (hr : W4.ownsRow w.heap.size 70 5 v' (npre + 1) ((pre ++ gapL at_ p s.nm st.length).flatMap Sp.cells ++ [.int .i64 p, .int .i64 ex, .string t.name, .int .i64 st.length, .string q.c])) (hg : (w6.alloc (.cells #[.int .i64 p, .int .i64 ex, .string t.name, .int .i64 st.length, .string q.c] 70)).grownBy W4 (Value.slice lao2 npre lcp2).ownBlock) => show GapJ w st sb ((pre ++ gapL at_ p s.nm st.length) ++ [⟨p, ex, s.nm, st.length, r.co⟩]) hb hs4 v' W4 ∧ W4.heap[rb]? = some (.cells #[.string q.a, .string q.b, .string q.c, .string q.p, .pointer (some ⟨PP, 0, none⟩), .int .i64 q.at_] 128 (0, 0)) from by
                      obtain ⟨a1, a2⟩ := HGP.out.app (x := ⟨p, ex, t.name, st.length, q.c⟩) (by rw [← HNP.out]; exact hr) hg
                      rw [← HNM.out, ← hqc] at a1
                      exact ⟨a1, a2 _ _ HQ6.out (fun c => by simp)⟩)
                    have n7 := cell_alloc_old n6
                    have y7 := cell_alloc_old y2
                    clear HGP HQ6
                    go_region_law (refine step_append_at rfl (.tmp 129) (.tmp 141) 64 rfl w.heap.size 70 i0 (.agg #[.int .i64 0, .int .i64 0, .string ⟨#[]⟩, .int .i64 0, .string ⟨#[]⟩]) 5 56 Tryz.underlying64 hi hz0 hz1 hz3 rfl (by decide) (.slice lao2 npre lcp2) npre ((pre ++ gapL at_ p s.nm st.length).flatMap Sp.cells) (by rfl) (by exact HROW.out) ⟨w6.heap.size, 0, none⟩ 1 1 [.int .i64 p, .int .i64 ex, .string t.name, .int .i64 st.length, .string q.c] (by rfl) (by rfl) (by exact HNW.out) (by simp [Value.oneCell']) (by unfold maxLen; omega) (by omega) (by exact hbase) ?_; intro v' W4 hown hg _; have HEND := hide (HNX.out v' W4 hown ⟨hg.os, hg.tape, hg.output, hg.size, hg.block⟩); obtain ⟨g', cap', rfl⟩ := own_form hown (by omega); clear hown hg)
                    all_goals
                      go_wp2_with fail
                      go_meet
                      exact HEND.out
                  case rest =>
                    obtain ⟨⟨lao3, lcp3, rfl, hin, hrw, hbl, hha⟩, hq3⟩ := hcut
                    obtain ⟨w7, hw7⟩ : ∃ w7, w7 = wc := ⟨_, rfl⟩
                    rw [← hw7] at hin hrw hbl hha hq3 ⊢
                    clear hw7
                    have hwd := HRG.out.grm.words t (List.mem_of_getElem? HT.out) q (List.mem_of_getElem? HQ.out)
                    have hqa := ba_of hwd.2
                    have z0 : w7.cell? ⟨rb, 0, none⟩ = some (.string q.a) := cell_at hq3 rfl
                    have z1 : w7.cell? ⟨rb, 1, none⟩ = some (.string q.b) := cell_at hq3 rfl
                    obtain ⟨n3, hn3⟩ : ∃ n3, n3 = ((pre ++ gapL at_ p s.nm st.length) ++ [(⟨p, ex, s.nm, st.length, r.co⟩ : Sp)]).length := ⟨_, rfl⟩
                    rw [← hn3] at hrw ⊢
                    have hpath2 : Path G text.data.toList st0 ex (aft r.k r.op st) ((pre ++ gapL at_ p s.nm st.length) ++ [⟨p, ex, s.nm, st.length, r.co⟩]) := Path.hit HPATH.out (by rw [text_length]; exact hlt) (by rw [← HSL.out]; exact HTOP.out) HS.out HHIT.out
                    have hgood2 : Good G (aft r.k r.op st) := HGOOD.out.aft (fun hk => (HOK.out s (List.mem_of_getElem? HS.out) r (List.mem_of_getElem? HRK.out)).2 hk)
                    have HMK := hide (fun (sb' scp' : Nat) (W : World) (h1 : (aft r.k r.op st).length ≤ scp') (h2 : IntsAt W sb' (aft r.k r.op st)) (h3 : SpRow W w.heap.size (.slice lao3 n3 lcp3) ((pre ++ gapL at_ p s.nm st.length) ++ [⟨p, ex, s.nm, st.length, r.co⟩])) (h4 : Below w.heap.size w W) (h5 : HitsAt W hb hs4) => show ThLoop w G text st0 (text.size - ex) (.slice (some ⟨sb', 0, none⟩) (aft r.k r.op st).length scp') (.slice lao3 n3 lcp3) (.int .i64 ex) (.int .i64 top) (.slice (some ⟨hb, 0, none⟩) s.rs.length s.rs.length) W from
                      ⟨ex, aft r.k r.op st, _, sb', scp', lao3, lcp3, rfl, by rw [hn3], rfl, by omega, h1, ⟨hpath2, hgood2, h2, by rw [← hn3]; exact h3, h4⟩, .inr ⟨top, hb, s, hs4, rfl, HS.out, rfl, hhb, h5, HHOK.out⟩⟩)
                    have HQ3 := hide hq3
                    have HIN := hide hin
                    have HRW := hide hrw
                    have HBL := hide hbl
                    have HHA := hide hha
                    clear hin hrw hbl hha hq3 hpath2 hgood2 HHIT HPATH HHOK hn3 HGP HQ6 HNP y2 n6
                    rw [hqk] at HMK
                    obtain ⟨dd, hdd⟩ : ∃ dd, dd = q.d := ⟨_, rfl⟩
                    rw [← hdd] at HMK hwd hqa
                    have HDD := hide hdd
                    clear hdd hqk
                    by_cases hd1 : dd = 1
                    · subst hd1
                      have hqa1 : q.a = (⟨#[112, 117, 115, 104]⟩ : ByteArray) := hqa
                      rw [hqa1] at z0
                      have HQA := hide hqa1
                      clear hqa hqa1 hwd
                      by_cases hst8' : st.length < 8
                      · have e10 : decide ((st.length : Int) < 8) = true := decide_eq_true (by omega)
                        have ha : aft 1 r.op st = st ++ [r.op] := by unfold aft; rw [if_pos ⟨rfl, hst8'⟩]
                        rw [ha] at HMK
                        obtain ⟨i1, hi1, hy0, hy1, hy3⟩ := info_parts info_int
                        obtain ⟨top', ht', hnm', hfst'⟩ := HQO.out HDD.out.symm
                        have HNW := hide (fun (y : Nat) u (h : (st.map fun x : Nat => Value.int .i64 (x : Int))[y]? = some u) => show w7.cell? ((⟨sb, 0, none⟩ : Addr).add y) = some u from by
                          rw [List.getElem?_map] at h
                          cases hy : st[y]? with
                          | none => rw [hy] at h; cases h
                          | some x =>
                            rw [hy] at h
                            cases h
                            have hcell := HIN.out.cell hy
                            by_cases h0 : y = 0
                            · subst h0; simpa [Addr.add] using hcell
                            · simpa [Addr.add, h0] using hcell)
                        have hbase1 : w.heap.size ≤ w7.heap.size := HBL.out.size
                        have HAP1 := hide (fun (v1 : Value) (W1 : World) (hg : w7.grownBy W1 (Value.slice none 0 0).ownBlock) => show W1.cell? ⟨rb, 1, none⟩ = some (.string q.b) ∧ Below w7.heap.size w7 W1 ∧ Calls Tryz.prog 86 #[.pointer (some ⟨P, 0, none⟩), .string q.b] W1 (fun e w' => e = .returned (.int .i64 r.op) ∧ w' = W1) from by
                          have hb1 : Below w7.heap.size w7 W1 := ⟨hg.os, hg.tape, hg.output, hg.size, fun k hk => hg.block k hk (by simp [Value.ownBlock])⟩
                          have hR1 := HRG.out.below (HBL.out.trans (hb1.mono HBL.out.size))
                          refine ⟨cell_below z1 hb1, hb1, (index_any B P _ ss q.b W1 hR1.grm (by have := hR1.few.1; omega)).mono ?_⟩
                          rintro e w' ⟨h1, (⟨i, t2, rfl, h2, h3, h4⟩ | ⟨rfl, h2⟩)⟩
                          · have hio : i = r.op := by
                              rcases Nat.lt_trichotomy i r.op with h | h | h
                              · exact absurd h3 (hfst' i t2 h h2)
                              · exact h
                              · exact absurd hnm' (h4 r.op top' h ht')
                            subst hio
                            exact ⟨rfl, h1⟩
                          · exact absurd hnm' (h2 top' (List.mem_of_getElem? ht')))
                        clear ht' hnm' hfst' top'
                        go_wp2_with (at_builtin; go_loud (refine wpList_append_own_at _ rfl (.tmp 151) (.tmp 152) 57 rfl w.heap.size 3 i1 (.int .i64 0) 1 8 Tryz.underlying57 hi1 hy0 hy1 hy3 rfl (by decide) (.slice none 0 0) 0 [] (by rfl) (World.ownsRow_nil _ _ _ _) ⟨sb, 0, none⟩ st.length scp (st.map fun x : Nat => Value.int .i64 (x : Int)) (by rfl) (by simp) HNW.out (by intro u hu; obtain ⟨x, _, rfl⟩ := List.mem_map.1 hu; rfl) (by unfold maxLen; omega) (by omega) hbase1 ?_; intro v1 W1 hown1 hg1 _ _; rw [Nat.zero_add, List.nil_append] at hown1; obtain ⟨zz1, hb1, hix⟩ := HAP1.out v1 W1 hg1; have HR1 := hide hown1; have HB1 := hide hb1; have HIX := hide hix; obtain ⟨g1, cap1, rfl⟩ := own_form hown1 (by omega); clear hown1 hg1 hb1 hix HAP1))
                        refine HIX.out.mono ?_
                        rintro e8 w8 ⟨rfl, h8⟩
                        obtain ⟨w9, hw9⟩ : ∃ w9, w9 = w8 := ⟨_, rfl⟩
                        rw [← h8] at HR1 HB1
                        rw [← hw9] at HR1 HB1 ⊢
                        clear HIX zz1 h8 hw9
                        have HROW2 := hide (show (w9.alloc (.cells #[.int .i64 r.op] 3)).ownsRow w.heap.size 3 1 (.slice (some ⟨g1, 0, none⟩) st.length cap1) st.length (st.map fun x : Nat => Value.int .i64 (x : Int)) from row_keep HR1.out fun k hk => by obtain ⟨_, c, hc⟩ := row_type HR1.out hk; exact ((Below.refl _ _).alloc (Nat.le_refl _) _).block k (lt_of_get hc))
                        have HNW2 := hide (fun (y : Nat) u (h : ([.int .i64 r.op] : List Value)[y]? = some u) => show (w9.alloc (.cells #[.int .i64 r.op] 3)).cell? ((⟨w9.heap.size, 0, none⟩ : Addr).add y) = some u from cell_new_row w9 #[.int .i64 r.op] _ y u h)
                        have hbase2 : w.heap.size ≤ (w9.alloc (.cells #[.int .i64 r.op] 3)).heap.size := by rw [World.size_alloc]; have := HB1.out.size; omega
                        have HNX := hide (fun (v2 : Value) (W2 : World) (hr : W2.ownsRow w.heap.size 3 1 v2 (st.length + 1) ((st.map fun x : Nat => Value.int .i64 (x : Int)) ++ [.int .i64 r.op])) (hg : (w9.alloc (.cells #[.int .i64 r.op] 3)).grownBy W2 (Value.slice (some ⟨g1, 0, none⟩) st.length cap1).ownBlock) => show ThLoop w G text st0 (text.size - ex) v2 (.slice lao3 n3 lcp3) (.int .i64 ex) (.int .i64 top) (.slice (some ⟨hb, 0, none⟩) s.rs.length s.rs.length) W2 from by
                          have hb9 : Below w7.heap.size w7 (w9.alloc (.cells #[.int .i64 r.op] 3)) := HB1.out.alloc HB1.out.size _
                          have o2 : Off (fun k => k = g1) (w9.alloc (.cells #[.int .i64 r.op] 3)) W2 := (Off.of_grown HROW2.out (by decide) hg).sub fun k _ e => by cases e; rfl
                          obtain ⟨hg1w, c1, hc1⟩ := row_type HROW2.out (k := g1) rfl
                          have key : ∀ (k : Nat) o, w7.heap[k]? = some o → (∀ c, o ≠ .cells c 3 (0, 0)) → W2.heap[k]? = some o := fun k o hk hne => by
                            have h9 := (hb9.block k (lt_of_get hk)).trans hk
                            refine o2.same h9 (fun e => ?_)
                            rw [e, hc1] at h9
                            cases h9
                            exact hne _ rfl
                          obtain ⟨g2, cap2, hv2⟩ := own_form hr (by omega)
                          subst hv2
                          rw [show (st.map fun x : Nat => Value.int .i64 (x : Int)) ++ [.int .i64 r.op] = (st ++ [r.op]).map fun x : Nat => Value.int .i64 (x : Int) by simp] at hr
                          obtain ⟨hints, hcap⟩ := ints_row hr
                          have hlen : (st ++ [r.op]).length = st.length + 1 := by simp
                          have := HMK.out g2 cap2 W2 (by rw [hlen]; exact hcap) hints (row_keep HRW.out fun k hk => by obtain ⟨_, c, hc⟩ := row_type HRW.out hk; rw [hc]; exact key k _ hc (fun c => by simp)) (HBL.out.trans ((hb9.mono HBL.out.size).trans ⟨o2.os, o2.tape, o2.output, o2.size, fun k hk => o2.keep k ⟨by omega, by omega⟩⟩)) (key _ _ HHA.out (fun c => by simp))
                          rw [hlen] at this
                          exact this)
                        have HZZ := hide (fun (W2 : World) (hg : (w9.alloc (.cells #[.int .i64 r.op] 3)).grownBy W2 (Value.slice (some ⟨g1, 0, none⟩) st.length cap1).ownBlock) => show W2.cell? ⟨rb, 0, none⟩ = some (.string (⟨#[112, 117, 115, 104]⟩ : ByteArray)) from by
                          have hb9 : Below w7.heap.size w7 (w9.alloc (.cells #[.int .i64 r.op] 3)) := HB1.out.alloc HB1.out.size _
                          have h9 := (hb9.block rb (lt_of_get HQ3.out)).trans HQ3.out
                          obtain ⟨_, c1, hc1⟩ := row_type HROW2.out (k := g1) rfl
                          have h2 := (hg.block rb (lt_of_get h9) (fun e => by
                            have e' : rb = g1 := by simpa [Value.ownBlock] using e
                            rw [e', hc1] at h9
                            simp at h9)).trans h9
                          have := cell_at (j := 0) h2 (v := .string q.a) rfl
                          rw [HQA.out] at this
                          exact this)
                        clear HMK
                        go_wp2_with (at_builtin; go_loud (refine wpList_append_own_at _ rfl (.tmp 154) (.tmp 159) 57 rfl w.heap.size 3 i1 (.int .i64 0) 1 8 Tryz.underlying57 hi1 hy0 hy1 hy3 rfl (by decide) (.slice (some ⟨g1, 0, none⟩) st.length cap1) st.length (st.map fun x : Nat => Value.int .i64 (x : Int)) (by rfl) HROW2.out ⟨w9.heap.size, 0, none⟩ 1 1 [.int .i64 r.op] (by rfl) rfl HNW2.out (by simp [Value.oneCell']) (by unfold maxLen; omega) (by omega) hbase2 ?_; intro v2 W2 hown2 hg2 _ _; have HST := hide (HNX.out v2 W2 hown2 hg2); have zz0 := (HZZ.out W2 hg2); obtain ⟨g2, cap2, rfl⟩ := own_form hown2 (by omega); clear hown2 hg2 HNX HROW2 HNW2))
                        go_wp2_with fail
                        go_roundg (text.size - ex)
                        case measure => omega
                        case rel => exact HST.out
                      · have e10 : decide ((st.length : Int) < 8) = false := decide_eq_false (by omega)
                        have ha : aft 1 r.op st = st := by unfold aft; rw [if_neg (by omega), if_neg (by omega)]
                        have HST := hide (HMK.out sb scp w7 (by rw [ha]; exact hscp) (by rw [ha]; exact HIN.out) HRW.out HBL.out HHA.out)
                        rw [ha] at HST
                        clear HMK
                        go_wp2_with fail
                        go_roundg (text.size - ex)
                        case measure => omega
                        case rel => exact HST.out
                    · by_cases hd2 : dd = 2
                      · subst hd2
                        have hqa1 : q.a = (⟨#[112, 111, 112]⟩ : ByteArray) := hqa
                        rw [hqa1] at z0
                        clear hqa hqa1 hwd hd1
                        by_cases hst1' : 1 < st.length
                        · have e10 : decide ((1 : Int) < (st.length : Int)) = true := decide_eq_true (by omega)
                          have ha : aft 2 r.op st = st.dropLast := by unfold aft; rw [if_neg (by omega), if_pos ⟨rfl, hst1'⟩]
                          have hal : st.dropLast.length = sl := by rw [List.length_dropLast, HSL.out]
                          have HST := hide (HMK.out sb scp w7 (by rw [ha, hal]; omega) (by rw [ha]; exact HIN.out.sub fun j x hj => by rw [List.getElem?_dropLast] at hj; split at hj; exact hj; cases hj) HRW.out HBL.out HHA.out)
                          rw [ha, hal] at HST
                          have hsc : (sl : Int) ≤ (scp : Int) := by omega
                          clear HMK
                          go_wp2_with fail
                          go_roundg (text.size - ex)
                          case measure => omega
                          case rel => exact HST.out
                        · have e10 : decide ((1 : Int) < (st.length : Int)) = false := decide_eq_false (by omega)
                          have ha : aft 2 r.op st = st := by unfold aft; rw [if_neg (by omega), if_neg (by omega)]
                          have HST := hide (HMK.out sb scp w7 (by rw [ha]; exact hscp) (by rw [ha]; exact HIN.out) HRW.out HBL.out HHA.out)
                          rw [ha] at HST
                          clear HMK
                          go_wp2_with fail
                          go_roundg (text.size - ex)
                          case measure => omega
                          case rel => exact HST.out
                      · have hd0 : dd = 0 := by omega
                        subst hd0
                        have hqa1 : q.a = (⟨#[116, 111, 107, 101, 110]⟩ : ByteArray) := hqa
                        rw [hqa1] at z0
                        clear hqa hqa1 hwd hd1 hd2
                        have ha : aft 0 r.op st = st := by unfold aft; rw [if_neg (by omega), if_neg (by omega)]
                        have HST := hide (HMK.out sb scp w7 (by rw [ha]; exact hscp) (by rw [ha]; exact HIN.out) HRW.out HBL.out HHA.out)
                        rw [ha] at HST
                        clear HMK
                        go_wp2_with fail
                        go_roundg (text.size - ex)
                        case measure => omega
                        case rel => exact HST.out
    · have g1 : decide ((at_ : Int) < (text.size : Int)) = false := decide_eq_false (by omega)
      obtain rfl : at_ = text.size := by omega
      have HEND := hide (show ThPost G text.data.toList st0 w (.returned (.tuple #[.slice lao pre.length lcp, .slice (some ⟨sb, 0, none⟩) st.length scp])) wr from ⟨_, pre, sb, st, scp, rfl, .inl (by rw [text_length]; exact hth.path), hth.row, hth.ints, hscp, hth.blw⟩)
      clear hth hkn
      go_wp2_with fail
      go_ret2
      exact HEND.out
end Go.Proofs.YtgncgdkpkkdaeaaGreatDoor
