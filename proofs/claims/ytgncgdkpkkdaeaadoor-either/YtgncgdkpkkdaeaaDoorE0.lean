/- Texts and patterns put together out of raw numbers. -/
import Derived.Test.YtgncgdkpkkdaeaaDoorL3
namespace Go.Proofs.YtgncgdkpkkdaeaaDoor
open Go.RowKit Tint

/-- A slice of raw numbers. -/
def Raws (w : World) (v : Value) (len : Nat) : Prop := (v = .slice none 0 0 ∧ len = 0) ∨ ∃ a cap, v = .slice (some a) len cap ∧ len ≤ 17592186044416 ∧ ∀ j, j < len → ∃ z, w.cell? (a.add j) = some (.int .i64 z) ∧ (Lit.int .i64 z).wf = true

theorem Raws.below {w W : World} {v : Value} {len : Nat} (h : Raws w v len) (hB : Below w.heap.size w W) : Raws W v len := by
  rcases h with h | ⟨a, cap, h1, h2, h3⟩
  · exact .inl h
  · refine .inr ⟨a, cap, h1, h2, fun j hj => ?_⟩
    obtain ⟨z, hz, hw⟩ := h3 j hj
    refine ⟨z, ?_, hw⟩
    rw [← hz]
    have hb : (a.add j).block < w.heap.size := by
      rcases Nat.lt_or_ge (a.add j).block w.heap.size with h | h
      · exact h
      · simp [World.cell?, Array.getElem?_eq_none h] at hz
    exact World.cell?_of_block (w := w) (hB.block _ hb)

def TextLoop (w : World) (n k : Nat) (vs vi : Value) (wr : World) : Prop :=
  ∃ (i : Nat) (s : ByteArray), vs = .string s ∧ vi = .int .i64 i ∧ s.size = i ∧ i + k = min n 40 ∧ Below w.heap.size w wr

def TextPost (w : World) (e : Ending) (w' : World) : Prop := ∃ s : ByteArray, e = .returned (.string s) ∧ s.size ≤ 40 ∧ Below w.heap.size w w'

set_option maxRecDepth 20000 in
set_option maxHeartbeats 1000000 in
theorem text_any (v : Value) (len : Nat) (w : World) (hR : Raws w v len) : Calls Tryd.prog 12 #[v] w (TextPost w) := by
  have HR := hide hR
  rcases hR with ⟨rfl, rfl⟩ | ⟨a, cap, rfl, hlen, _⟩
  · go_enter Tryd.func12, Tryd.ntmps12
    go_wp2_with fail
    go_loopg [3, 4] 0 (fun _ vs vi wr => vs = .string ⟨#[]⟩ ∧ vi = .int .i64 0 ∧ wr = w)
    case atStart => exact ⟨rfl, rfl, rfl⟩
    case round =>
      obtain ⟨rfl, rfl, rfl⟩ := hrel
      go_wp2_with fail
      go_ret
      exact ⟨_, rfl, by decide, Below.refl _ _⟩
  · go_enter Tryd.func12, Tryd.ntmps12
    go_wp2_with fail
    go_loopg [3, 4] (min len 40) (fun k vs vi wr => TextLoop w len k vs vi wr)
    case atStart => exact ⟨0, ⟨#[]⟩, rfl, rfl, rfl, by omega, Below.refl _ _⟩
    case round =>
      obtain ⟨i, s, rfl, rfl, hs, hk, hB⟩ := hrel
      have hs40 : s.size ≤ 40 := by omega
      have HB := hide hB
      have HRW := hide (HR.out.below hB)
      have HS := hide hs
      clear hB hs
      cases gk with
      | zero =>
        rcases Nat.lt_or_ge i len with h1 | h1
        · have g1 : decide ((i : Int) < (len : Int)) = true := by simpa using h1
          have g2 : decide (i < 40) = false := by simp; omega
          go_wp2_with fail
          go_ret
          exact ⟨_, rfl, hs40, HB.out⟩
        · have g1 : decide (i < len) = false := by simp; omega
          go_wp2_with fail
          go_ret
          exact ⟨_, rfl, hs40, HB.out⟩
      | succ k =>
        have h1 : i < len := by omega
        have g1 : decide ((i : Int) < (len : Int)) = true := by simpa using h1
        have g2 : decide ((i : Int) < 40) = true := by simp; omega
        obtain ⟨z, hz, hwf⟩ : ∃ z, wr.cell? (a.add i) = some (.int .i64 z) ∧ (Lit.int .i64 z).wf = true := by
          rcases HRW.out with ⟨h, _⟩ | ⟨a', cap', h, _, h3⟩
          · cases h
          · cases h; exact h3 i h1
        have HPK := hide (fun W => pick_any z 4 W hwf (by decide) (by decide))
        go_wp2_with fail
        refine (HPK.out _).mono ?_
        rintro e w2 ⟨r, hr, rfl, rfl⟩
        obtain ⟨d, hd⟩ : ∃ d : UInt8, (d.toNat : Int) = 97 + r := ⟨UInt8.ofNat (97 + r), by simp; omega⟩
        have hv1 := conv_one w2 d (97 + r) _ hd.symm rfl
        have HBB := hide (HB.out.alloc (o := .cells #[.int .u8 (97 + r)] 5) HB.out.size)
        have HK := hide hk
        clear hd hk hz
        go_wp2_with fail
        go_roundg k
        case measure => omega
        case rel => exact ⟨i + 1, _, rfl, rfl, by rw [ByteArray.size_append, HS.out]; rfl, by have := HK.out; omega, HBB.out⟩
def PatLoop (w : World) (n k : Nat) (vs vi : Value) (wr : World) : Prop :=
  ∃ (i : Nat) (s : List UInt8) (rs : List Re), vs = .string ⟨s.toArray⟩ ∧ vi = .int .i64 i ∧ s.length ≤ 19 ∧ Pieces s rs ∧ i + k = min n 5 ∧ Below w.heap.size w wr

def PatternPost (w : World) (e : Ending) (w' : World) : Prop := ∃ (s : List UInt8) (rs : List Re), e = .returned (.string ⟨s.toArray⟩) ∧ s.length ≤ 19 ∧ Pieces s rs ∧ Below w.heap.size w w'

theorem PatLoop.step {w W : World} {n k i : Nat} {s b : List UInt8} {rs : List Re} {r : Re} {v : ByteArray} (hp : Pieces s rs) (hb : IsPiece b r) (hv : v = ⟨(s ++ b).toArray⟩) (hl : s.length + b.length ≤ 19) (hk : i + (k + 1) = min n 5) (hB : Below w.heap.size w W) :
    PatLoop w n k (.string v) (.int .i64 ((i + 1 : Nat) : Int)) W :=
  ⟨i + 1, s ++ b, rs ++ [r], by rw [hv], rfl, by rw [List.length_append]; exact hl, hp.snoc hb, by omega, hB⟩

theorem ba_two (s b : List UInt8) (x : UInt8) : (⟨s.toArray⟩ : ByteArray) ++ ⟨b.toArray⟩ ++ ⟨#[x]⟩ = ⟨(s ++ (b ++ [x])).toArray⟩ := by
  rw [show (⟨#[x]⟩ : ByteArray) = ⟨([x] : List UInt8).toArray⟩ from rfl, ba_append, ba_append, List.append_assoc]

theorem cut_five : (⟨#[91, 97, 45, 98, 93]⟩ : ByteArray).extract 0 5 = ⟨#[91, 97, 45, 98, 93]⟩ := by
  apply ByteArray.ext
  simp [ByteArray.data_extract]

set_option maxRecDepth 20000 in
set_option maxHeartbeats 1000000 in
theorem pattern_any (v : Value) (len : Nat) (w : World) (hR : Raws w v len) : Calls Tryd.prog 11 #[v] w (PatternPost w) := by
  have HR := hide hR
  rcases hR with ⟨rfl, rfl⟩ | ⟨a, cap, rfl, hlen, _⟩
  · go_enter Tryd.func11, Tryd.ntmps11
    go_wp2_with fail
    go_loopg [3, 4] 0 (fun _ vs vi wr => vs = .string ⟨#[]⟩ ∧ vi = .int .i64 0 ∧ wr = w)
    case atStart => exact ⟨rfl, rfl, rfl⟩
    case round =>
      obtain ⟨rfl, rfl, rfl⟩ := hrel
      go_wp2_with fail
      go_ret
      exact ⟨[], [], rfl, by decide, .nil, Below.refl _ _⟩
  · go_enter Tryd.func11, Tryd.ntmps11
    go_wp2_with fail
    go_loopg [3, 4] (min len 5) (fun k vs vi wr => PatLoop w len k vs vi wr)
    case atStart => exact ⟨0, [], [], rfl, rfl, by decide, .nil, by omega, Below.refl _ _⟩
    case round =>
      obtain ⟨i, s, rs, rfl, rfl, hs, hp, hk, hB⟩ := hrel
      have HB := hide hB
      have HRW := hide (HR.out.below hB)
      have HP := hide hp
      clear hB hp
      cases gk with
      | zero =>
        rcases Nat.lt_or_ge i len with h1 | h1
        · have g1 : decide ((i : Int) < (len : Int)) = true := by simpa using h1
          have g2 : decide (i < 5) = false := by simp; omega
          go_wp2_with fail
          go_ret
          exact ⟨_, _, rfl, hs, HP.out, HB.out⟩
        · have g1 : decide (i < len) = false := by simp; omega
          go_wp2_with fail
          go_ret
          exact ⟨_, _, rfl, hs, HP.out, HB.out⟩
      | succ k =>
        have h1 : i < len := by omega
        have g1 : decide ((i : Int) < (len : Int)) = true := by simpa using h1
        have g2 : decide ((i : Int) < 5) = true := by simp; omega
        obtain ⟨z, hz, hwf⟩ : ∃ z, wr.cell? (a.add i) = some (.int .i64 z) ∧ (Lit.int .i64 z).wf = true := by
          rcases HRW.out with ⟨h, _⟩ | ⟨a', cap', h, _, h3⟩
          · cases h
          · cases h; exact h3 i h1
        have HPK := hide (fun W => pick_any z 1099511627776 W hwf (by decide) (by decide))
        go_wp2_with fail
        refine (HPK.out _).mono ?_
        rintro e w2 ⟨r, hr, rfl, rfl⟩
        have HK := hide hk
        clear hk hz
        obtain ⟨d, hd⟩ : ∃ d : UInt8, (d.toNat : Int) = 97 + r % 3 := ⟨UInt8.ofNat (97 + r % 3), by simp; omega⟩
        have hv1 := conv_one w2 d (97 + r % 3) _ hd.symm rfl
        have HBB := hide (HB.out.alloc (o := .cells #[.int .u8 (97 + r % 3)] 5) HB.out.size)
        have HD := hide (at_one (c := d) (by
          have hc : d.toNat = 97 ∨ d.toNat = 98 ∨ d.toNat = 99 := by omega
          rcases hc with h | h | h
          · rw [show d = 97 from UInt8.toNat_inj.1 h]; decide
          · rw [show d = 98 from UInt8.toNat_inj.1 h]; decide
          · rw [show d = 99 from UInt8.toNat_inj.1 h]; decide) (by omega) (by omega))
        clear hd
        by_cases q0 : r / 3 % 5 = 0
        · have k0 : ((r : Int) / 3 % 5 == 0) = true := by rw [beq_iff_eq]; omega
          go_wp2_with fail
          · go_ret
            exact ⟨_, _, rfl, hs, HP.out, HBB.out⟩
          · go_roundg k
            case measure => omega
            case rel => exact PatLoop.step HP.out at_dot.star (ba_two s [46] 42) (by show _ + 2 ≤ _; omega) HK.out HBB.out
          · go_roundg k
            case measure => omega
            case rel => exact PatLoop.step HP.out at_dot.plus (ba_two s [46] 43) (by show _ + 2 ≤ _; omega) HK.out HBB.out
          · go_roundg k
            case measure => omega
            case rel => exact PatLoop.step HP.out at_dot.opt (ba_two s [46] 63) (by show _ + 2 ≤ _; omega) HK.out HBB.out
          · go_roundg k
            case measure => omega
            case rel => exact PatLoop.step HP.out at_dot.plain (ba_append s [46]) (by show _ + 1 ≤ _; omega) HK.out HBB.out
        · have k0 : ((r : Int) / 3 % 5 == 0) = false := by rw [beq_eq_false_iff_ne]; omega
          by_cases q1 : r / 3 % 5 = 1
          · have k1 : ((r : Int) / 3 % 5 == 1) = true := by rw [beq_iff_eq]; omega
            go_wp2_with fail
            · go_ret
              exact ⟨_, _, rfl, hs, HP.out, HBB.out⟩
            · go_roundg k
              case measure => omega
              case rel => exact PatLoop.step HP.out at_ab.star (by rw [cut_five]; exact (ba_two s [91, 97, 45, 98, 93] 42)) (by show _ + 6 ≤ _; omega) HK.out HBB.out
            · go_roundg k
              case measure => omega
              case rel => exact PatLoop.step HP.out at_ab.plus (by rw [cut_five]; exact (ba_two s [91, 97, 45, 98, 93] 43)) (by show _ + 6 ≤ _; omega) HK.out HBB.out
            · go_roundg k
              case measure => omega
              case rel => exact PatLoop.step HP.out at_ab.opt (by rw [cut_five]; exact (ba_two s [91, 97, 45, 98, 93] 63)) (by show _ + 6 ≤ _; omega) HK.out HBB.out
            · go_roundg k
              case measure => omega
              case rel => exact PatLoop.step HP.out at_ab.plain (by rw [cut_five]; exact (ba_append s [91, 97, 45, 98, 93])) (by show _ + 5 ≤ _; omega) HK.out HBB.out
          · have k1 : ((r : Int) / 3 % 5 == 1) = false := by rw [beq_eq_false_iff_ne]; omega
            go_wp2_with fail
            · go_ret
              exact ⟨_, _, rfl, hs, HP.out, HBB.out⟩
            · go_roundg k
              case measure => omega
              case rel => exact PatLoop.step HP.out HD.out.star (ba_two s [d] 42) (by show _ + 2 ≤ _; omega) HK.out HBB.out
            · go_roundg k
              case measure => omega
              case rel => exact PatLoop.step HP.out HD.out.plus (ba_two s [d] 43) (by show _ + 2 ≤ _; omega) HK.out HBB.out
            · go_roundg k
              case measure => omega
              case rel => exact PatLoop.step HP.out HD.out.opt (ba_two s [d] 63) (by show _ + 2 ≤ _; omega) HK.out HBB.out
            · go_roundg k
              case measure => omega
              case rel => exact PatLoop.step HP.out HD.out.plain (ba_append s [d]) (by show _ + 1 ≤ _; omega) HK.out HBB.out
end Go.Proofs.YtgncgdkpkkdaeaaDoor
