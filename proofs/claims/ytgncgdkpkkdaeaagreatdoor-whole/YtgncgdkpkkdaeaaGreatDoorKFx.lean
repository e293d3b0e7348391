import Derived.Test.YtgncgdkpkkdaeaaGreatDoorKBase
import Derived.Test.YtgncgdkpkkdaeaaGreatDoorK3
import Derived.Test.YtgncgdkpkkdaeaaGreatDoorKT
import Derived.Test.YtgncgdkpkkdaeaaGreatDoorKU
import Derived.Test.YtgncgdkpkkdaeaaGreatDoorKG
import Derived.Test.YtgncgdkpkkdaeaaGreatDoorK7
import Derived.Test.YtgncgdkpkkdaeaaGreatDoorKDA
namespace Go.Proofs.YtgncgdkpkkdaeaaGreatDoor
open Go.RowKit Tint
def PickPost (n : Nat) (w : World) (e : Ending) (w' : World) : Prop := ∃ r : Nat, r < n ∧ e = .returned (.int .i64 r) ∧ w' = w
theorem tmod_nat (c : Int) (n : Nat) (h0 : 0 ≤ c) (hn : 0 < n) : ∃ r : Nat, r < n ∧ c.tmod n = r := by
 obtain ⟨k, rfl⟩ := Int.eq_ofNat_of_zero_le h0
 exact ⟨k % n, Nat.mod_lt _ hn, by simp [Int.tmod]⟩
theorem pick_any (c : Int) (n : Nat) (w : World) (hc : (Lit.int .i64 c).wf = true) (hn : 0 < n) (hn2 : n < 2^62) :
  Calls Tryz.prog 26 #[.int .i64 c, .int .i64 n] w (PickPost n w) := by
 have hcb : -9223372036854775808 ≤ c ∧ c ≤ 9223372036854775807 := by
  simp [Lit.wf, IntKind.min, IntKind.max, IntKind.signed, IntKind.bits] at hc
  omega
 have hn0 : ¬ ((n : Int) = 0) := by omega
 by_cases h : c < 0
 ·obtain ⟨r, hr, hr'⟩ := tmod_nat (-(c + 1)) n (by omega) hn
  go_enter Tryz.func26, Tryz.ntmps26
  go_wp2_with fail
  go_ret
  exact ⟨r, hr, rfl, rfl⟩
 ·obtain ⟨r, hr, hr'⟩ := tmod_nat c n (by omega) hn
  go_enter Tryz.func26, Tryz.ntmps26
  go_wp2_with fail
  go_ret
  exact ⟨r, hr, rfl, rfl⟩
end Go.Proofs.YtgncgdkpkkdaeaaGreatDoor
namespace Go.Proofs.YtgncgdkpkkdaeaaGreatDoor
open Go.RowKit Tint Go.Maps Go.Shelf
def Raws (w : World) (v : Value) (len : Nat) : Prop := (v = .slice none 0 0 ∧ len = 0) ∨ ∃ a cap, v = .slice (some a) len cap ∧ len ≤ 17592186044416 ∧ ∀ j, j < len → ∃ z, w.cell? (a.add j) = some (.int .i64 z) ∧ (Lit.int .i64 z).wf = true
theorem Raws.below {w W : World} {v : Value} {len : Nat} (h : Raws w v len) (hB : Below w.heap.size w W) : Raws W v len := by
 rcases h with h | ⟨a, cap, h1, h2, h3⟩
 ·exact .inl h
 ·refine .inr ⟨a, cap, h1, h2, fun j hj => ?_⟩
  obtain ⟨z, hz, hw⟩ := h3 j hj
  refine ⟨z, ?_, hw⟩
  rw [← hz]
  have hb : (a.add j).block < w.heap.size := by
   rcases Nat.lt_or_ge (a.add j).block w.heap.size with h | h
   ·exact h
   ·simp [World.cell?, Array.getElem?_eq_none h] at hz
  exact World.cell?_of_block (w := w) (hB.block _ hb)
def DocLoop (w : World) (n k : Nat) (vs vi : Value) (wr : World) : Prop :=
 ∃ (i : Nat) (s : ByteArray), vs = .string s ∧ vi = .int .i64 i ∧ s.size = i ∧ i + k = min n 200 ∧ Below w.heap.size w wr
def DocPost (w : World) (e : Ending) (w' : World) : Prop := ∃ s : ByteArray, e = .returned (.string s) ∧ s.size ≤ 200 ∧ Below w.heap.size w w'
set_option maxRecDepth 20000 in
set_option maxHeartbeats 1000000 in
theorem document_any (v : Value) (len : Nat) (w : World) (hR : Raws w v len) : Calls Tryz.prog 20 #[v] w (DocPost w) := by
 have HR := hide hR
 rcases hR with ⟨rfl, rfl⟩ | ⟨a, cap, rfl, hlen, _⟩
 ·go_enter Tryz.func20, Tryz.ntmps20
  go_wp2_with fail
  go_loopg [3, 4] 0 (fun _ vs vi wr => vs = .string ⟨#[]⟩ ∧ vi = .int .i64 0 ∧ wr = w)
  case atStart => exact ⟨rfl, rfl, rfl⟩
  case round =>
   obtain ⟨rfl, rfl, rfl⟩ := hrel
   go_wp2_with fail
   go_ret
   exact ⟨_, rfl, by decide, Below.refl _ _⟩
 ·go_enter Tryz.func20, Tryz.ntmps20
  go_wp2_with fail
  go_loopg [3, 4] (min len 200) (fun k vs vi wr => DocLoop w len k vs vi wr)
  case atStart => exact ⟨0, ⟨#[]⟩, rfl, rfl, rfl, by omega, Below.refl _ _⟩
  case round =>
   obtain ⟨i, s, rfl, rfl, hs, hk, hB⟩ := hrel
   have hs40 : s.size ≤ 200 := by omega
   have HB := hide hB
   have HRW := hide (HR.out.below hB)
   have HS := hide hs
   clear hB hs
   cases gk with
   | zero =>
    rcases Nat.lt_or_ge i len with h1 | h1
    ·have g1 : decide ((i : Int) < (len : Int)) = true := by simpa using h1
     have g2 : decide (i < 200) = false := by simp; omega
     go_wp2_with fail
     go_ret
     exact ⟨_, rfl, hs40, HB.out⟩
    ·have g1 : decide (i < len) = false := by simp; omega
     go_wp2_with fail
     go_ret
     exact ⟨_, rfl, hs40, HB.out⟩
   | succ k =>
    have h1 : i < len := by omega
    have g1 : decide ((i : Int) < (len : Int)) = true := by simpa using h1
    have g2 : decide ((i : Int) < 200) = true := by simp; omega
    obtain ⟨z, hz, hwf⟩ : ∃ z, wr.cell? (a.add i) = some (.int .i64 z) ∧ (Lit.int .i64 z).wf = true := by
     rcases HRW.out with ⟨h, _⟩ | ⟨a', cap', h, _, h3⟩
     ·cases h
     ·cases h; exact h3 i h1
    have HPK := hide (fun W => pick_any z 12 W hwf (by decide) (by decide))
    go_wp2_with fail
    refine (HPK.out _).mono ?_
    rintro e w2 ⟨r, hr, rfl, e2⟩
    subst w2
    have hw1 : IntKind.i64.wrap ((r : Int) + 1) = (r : Int) + 1 := by rw [IntKind.wrap_i64]; omega
    have hwi : IntKind.i64.wrap ((i : Int) + 1) = (i : Int) + 1 := by rw [IntKind.wrap_i64]; omega
    have HK := hide hk
    clear hk hz
    have HX := hide (show ((⟨#[97, 49, 34, 60, 62, 92, 32, 98, 50, 32, 10, 10]⟩ : ByteArray).extract r (r + 1)).size = 1 from by
     rw [ByteArray.size_extract]
     show min (r + 1) 12 - r = 1
     omega)
    go_wp2_with fail
    go_roundg k
    case measure => omega
    case rel => exact ⟨i + 1, _, rfl, by simp, by rw [ByteArray.size_append, HS.out, HX.out], by have := HK.out; omega, HB.out⟩
set_option maxRecDepth 20000 in
set_option maxHeartbeats 2000000 in
theorem split_any (s : ByteArray) (w : World) (hz : s.size ≤ 3000) : Calls Tryz.prog 22 #[.string s] w (RLinesPost s.data.toList w) := by
 obtain ⟨i0, hi0, hz0, hz1, hz3⟩ := info_parts info_str1
 go_enter Tryz.func22, Tryz.ntmps22
 go_wp2_with fail
 go_loopg [3, 4, 5] s.size (fun k vl va vi wr => RLLoop s w k vl va vi wr)
 case atStart => exact ⟨0, 0, [], none, 0, rfl, rfl, rfl, by omega, Nat.le_refl _, World.ownsRow_nil _ _ _ _, Nat.le_refl _, by simp [rest], fun m h1 h2 => by omega, Below.refl _ _⟩
 case round =>
  obtain ⟨a, i, nms, ao, c, rfl, rfl, rfl, hk, hai, hrow, hnl, hspl, hnt, hb⟩ := hrel
  have HROWx := hide hrow
  have HSPL := hide hspl
  have HNT := hide hnt
  have HBx := hide hb
  by_cases hlt : i < s.size
  ·have g1 : decide ((i : Int) < (s.size : Int)) = true := decide_eq_true (by omega)
   have hwr : IntKind.i64.wrap ((i : Int) + 1) = (i : Int) + 1 := by rw [IntKind.wrap_i64]; omega
   by_cases h10 : s[i] = 10
   ·have q1 : (((s[i].toNat : Nat) : Int) == 10) = true := by rw [h10]; rfl
    have HRS := hide (show rest s a = (s.extract a i).data.toList ++ 10 :: rest s (i + 1) by rw [extract_seg hai, rest_cons hlt, h10])
    have HTEN := hide (no_ten HNT.out)
    have hais : (a : Int) ≤ (i : Int) := by omega
    have hiss : (i : Int) ≤ (s.size : Int) := by omega
    have HROW := hide (show (wr.alloc (.cells #[.string (s.extract a i)] 9)).ownsRow w.heap.size 9 1 (.slice ao nms.length c) nms.length (nms.map Value.string) from row_keep hrow fun k hk => by obtain ⟨_, c, hc⟩ := row_type hrow hk; exact ((Below.refl _ _).alloc (Nat.le_refl _) _).block k (lt_of_get hc))
    have HNW := hide (fun (y : Nat) u (h : ([.string (s.extract a i)] : List Value)[y]? = some u) => show (wr.alloc (.cells #[.string (s.extract a i)] 9)).cell? ((⟨wr.heap.size, 0, none⟩ : Addr).add y) = some u from cell_new_row wr #[.string (s.extract a i)] _ y u h)
    have hbase : w.heap.size ≤ (wr.alloc (.cells #[.string (s.extract a i)] 9)).heap.size := by rw [World.size_alloc]; have := hb.size; omega
    have HNX := hide (fun (v' : Value) (W4 : World) (hr : W4.ownsRow w.heap.size 9 1 v' (nms.length + 1) (nms.map Value.string ++ [.string (s.extract a i)])) (hg : (wr.alloc (.cells #[.string (s.extract a i)] 9)).grownBy W4 (Value.slice ao nms.length c).ownBlock) => show RLLoop s w (s.size - (i + 1)) v' (.int .i64 ((i : Int) + 1)) (.int .i64 ((i : Int) + 1)) W4 from by
     obtain ⟨a1, a2⟩ := HROWx.out.snoc HBx.out hr hg
     obtain ⟨ao', c', hv'⟩ := row_slice hr
     subst hv'
     have hl : (nms ++ [s.extract a i]).length = nms.length + 1 := by simp
     refine ⟨i + 1, i + 1, nms ++ [s.extract a i], ao', c', by rw [hl], by simp, by simp, by omega, Nat.le_refl _, by rw [hl]; exact a1, by rw [hl]; omega, ?_, fun m h1 h2 => by omega, a2⟩
     rw [← HSPL.out, HRS.out, splitL_cut HTEN.out]
     simp)
    clear hrow hspl hnt hb h10
    go_wp2_with (at_builtin; go_loud (refine wpList_append_own_at _ rfl (.tmp 16) (.tmp 21) 61 rfl w.heap.size 9 i0 (.string ⟨#[]⟩) 1 16 Tryz.underlying61 hi0 hz0 hz1 hz3 rfl (by decide) (.slice ao nms.length c) nms.length (nms.map Value.string) (by rfl) HROW.out ⟨wr.heap.size, 0, none⟩ 1 1 [.string (s.extract a i)] (by rfl) rfl HNW.out (by simp [Value.oneCell']) (by unfold maxLen; omega) (by omega) hbase ?_; intro v' W4 hown hg _ _; have HST := hide (HNX.out v' W4 hown hg); obtain ⟨g', cap', rfl⟩ := own_form hown (by omega); clear hown hg HNX HROW HNW))
    go_wp2_with fail
    go_roundg (s.size - (i + 1))
    case measure => omega
    case rel => exact HST.out
   ·have q1 : (((s[i].toNat : Nat) : Int) == 10) = false := by
     rw [beq_eq_false_iff_ne]
     intro e
     exact h10 (UInt8.toNat_inj.1 (by show s[i].toNat = 10; omega))
    have HST := hide (show RLLoop s w (s.size - (i + 1)) (.slice ao nms.length c) (.int .i64 a) (.int .i64 ((i : Int) + 1)) wr from ⟨a, i + 1, nms, ao, c, rfl, rfl, by simp, by omega, by omega, hrow, by omega, hspl, fun m h1 h2 => by
     rcases Nat.lt_or_ge m i with h3 | h3
     ·exact hnt m h1 h3
     ·obtain rfl : m = i := by omega
      intro e
      apply h10
      have h4 : s.data.toList[m]? = some s[m] := by
       rw [List.getElem?_eq_getElem (by simpa using hlt)]
       rfl
      rw [h4] at e
      exact Option.some.inj e, hb⟩)
    clear hrow hspl hnt hb h10
    go_wp2_with fail
    go_roundg (s.size - (i + 1))
    case measure => omega
    case rel => exact HST.out
  ·have g1 : decide ((i : Int) < (s.size : Int)) = false := decide_eq_false (by omega)
   obtain rfl : i = s.size := by omega
   have hais : (a : Int) ≤ (s.size : Int) := by omega
   have HROW := hide (show (wr.alloc (.cells #[.string (s.extract a s.size)] 9)).ownsRow w.heap.size 9 1 (.slice ao nms.length c) nms.length (nms.map Value.string) from row_keep hrow fun k hk => by obtain ⟨_, c, hc⟩ := row_type hrow hk; exact ((Below.refl _ _).alloc (Nat.le_refl _) _).block k (lt_of_get hc))
   have HNW := hide (fun (y : Nat) u (h : ([.string (s.extract a s.size)] : List Value)[y]? = some u) => show (wr.alloc (.cells #[.string (s.extract a s.size)] 9)).cell? ((⟨wr.heap.size, 0, none⟩ : Addr).add y) = some u from cell_new_row wr #[.string (s.extract a s.size)] _ y u h)
   have hbase : w.heap.size ≤ (wr.alloc (.cells #[.string (s.extract a s.size)] 9)).heap.size := by rw [World.size_alloc]; have := hb.size; omega
   have HNX := hide (fun (v' : Value) (W4 : World) (hr : W4.ownsRow w.heap.size 9 1 v' (nms.length + 1) (nms.map Value.string ++ [.string (s.extract a s.size)])) (hg : (wr.alloc (.cells #[.string (s.extract a s.size)] 9)).grownBy W4 (Value.slice ao nms.length c).ownBlock) => show RLinesPost s.data.toList w (.returned v') W4 from by
    obtain ⟨a1, a2⟩ := HROWx.out.snoc HBx.out hr hg
    refine ⟨v', _, rfl, a1, ?_, a2⟩
    have he := extract_rest (s := s) (i := a) (Nat.le_refl s.size)
    have hten := no_ten HNT.out
    rw [he] at hten
    rw [← HSPL.out, splitL_one hten, List.map_append, ← he]
    rfl)
   clear hrow hspl hnt hb
   go_wp2_with (at_builtin; go_loud (refine wpList_append_own_at _ rfl (.tmp 25) (.tmp 29) 61 rfl w.heap.size 9 i0 (.string ⟨#[]⟩) 1 16 Tryz.underlying61 hi0 hz0 hz1 hz3 rfl (by decide) (.slice ao nms.length c) nms.length (nms.map Value.string) (by rfl) HROW.out ⟨wr.heap.size, 0, none⟩ 1 1 [.string (s.extract a s.size)] (by rfl) rfl HNW.out (by simp [Value.oneCell']) (by unfold maxLen; omega) (by omega) hbase ?_; intro v' W4 hown hg _ _; have HEND := hide (HNX.out v' W4 hown hg); obtain ⟨g', cap', rfl⟩ := own_form hown (by omega); clear hown hg HNX HROW HNW))
   go_wp2_with fail
   go_ret
   exact HEND.out
end Go.Proofs.YtgncgdkpkkdaeaaGreatDoor
namespace Go.Proofs.YtgncgdkpkkdaeaaGreatDoor
open Go.RowKit Tint Go.Maps
def NoPat (p : List UInt8) : Prop := PAlt p none ∨ ∃ r s', s' ≠ [] ∧ PAlt p (some (r, s'))
def MatchIs (p T : List UInt8) (f : Int) (v : Value) : Prop :=
 (60 < p.length ∧ v = .tuple #[.int .i64 0, .int .i64 0, .bool false, .int .i64 1]) ∨
 (p.length ≤ 60 ∧ NoPat p ∧ v = .tuple #[.int .i64 0, .int .i64 0, .bool false, .int .i64 6]) ∨
 (∃ r, p.length ≤ 60 ∧ PAlt p (some (r, [])) ∧ (f < 0 ∨ (T.length : Int) < f) ∧ v = .tuple #[.int .i64 0, .int .i64 0, .bool false, .int .i64 8]) ∨
 (∃ r, p.length ≤ 60 ∧ PAlt p (some (r, [])) ∧ ∃ f' : Nat, f = f' ∧ f' ≤ T.length ∧ ((IsMatch r T f' none ∧ v = .tuple #[.int .i64 0, .int .i64 0, .bool false, .int .i64 0]) ∨ ∃ s e : Nat, IsMatch r T f' (some (s, e)) ∧ v = .tuple #[.int .i64 s, .int .i64 e, .bool true, .int .i64 0]))
def MatchPost (p T : List UInt8) (f : Int) (w : World) (e : Ending) (w' : World) : Prop := ∃ v, e = .returned v ∧ MatchIs p T f v ∧ Below w.heap.size w w'
theorem Off.below {O : Nat → Prop} {w w' : World} {B : Nat} (h : Off O w w') (hB : B ≤ w.heap.size) (hO : ∀ k, O k → B ≤ k) : Below B w w' :=
 ⟨h.os, h.tape, h.output, h.size, fun k hk => h.keep k ⟨by omega, fun ho => by have := hO k ho; omega⟩⟩
set_option maxRecDepth 20000 in
set_option maxHeartbeats 2000000 in
theorem match_any (pat text : ByteArray) (f : Int) (w : World) (hT : Tab w) (hw : 1 < w.heap.size) (hp : pat.size ≤ maxLen) (hsz : text.size ≤ maxLen) (hf : (Lit.int .i64 f).wf = true) :
  Calls Tryz.prog 73 #[.string pat, .string text, .int .i64 f] w (MatchPost pat.data.toList text.data.toList f w) := by
 have HPA := hide (parse_any pat w hp)
 have HT := hide hT
 clear hT
 go_enter Tryz.func73, Tryz.ntmps73
 go_wp2_with fail
 refine HPA.out.mono ?_
 rintro e w1 ⟨hB1, ⟨h60, rfl⟩ | ⟨h60, hno, rfl⟩ | ⟨h60, sv, a, ns, rfl, hA, hL1, hR1, hE1, hn1⟩⟩
 ·have hb := hB1.alloc (o := .cells #[.slice none 0 0, .int .i64 0] 184) hB1.size
  have HEND := hide (show MatchPost pat.data.toList text.data.toList f w (.returned (.tuple #[.int .i64 0, .int .i64 0, .bool false, .int .i64 1])) (w1.alloc (.cells #[.slice none 0 0, .int .i64 0] 184)) from ⟨_, rfl, .inl ⟨h60, rfl⟩, hb⟩)
  clear hb hB1 HPA
  go_wp2_with fail
  exact bodyPost_ret (v := .tuple #[.int .i64 0, .int .i64 0, .bool false, .int .i64 1]) (by simp [results, Tryz.results73, go_sem, *]) rfl HEND.out
 ·have hb := hB1.alloc (o := .cells #[.slice none 0 0, .int .i64 0] 184) hB1.size
  have HEND := hide (show MatchPost pat.data.toList text.data.toList f w (.returned (.tuple #[.int .i64 0, .int .i64 0, .bool false, .int .i64 6])) (w1.alloc (.cells #[.slice none 0 0, .int .i64 0] 184)) from ⟨_, rfl, .inr (.inl ⟨h60, hno, rfl⟩), hb⟩)
  clear hb hB1 HPA hno
  go_wp2_with fail
  exact bodyPost_ret (v := .tuple #[.int .i64 0, .int .i64 0, .bool false, .int .i64 6]) (by simp [results, Tryz.results73, go_sem, *]) rfl HEND.out
 ·have h0 : 0 < ns.length := by obtain ⟨x, hx⟩ := hE1; exact get_lt hx
  obtain ⟨g, cap, rfl⟩ := own_form hL1.1 h0
  obtain ⟨ix, hix⟩ : ∃ ix, ix = a.ix := ⟨_, rfl⟩
  rw [← hix]
  have hb := hB1.alloc (o := .cells #[.slice (some ⟨g, 0, none⟩) ns.length cap, .int .i64 ix] 184) hB1.size
  have HB := hide hb
  have HIX := hide hix
  have HA := hide hA
  have hbx : Below w1.heap.size w1 (w1.alloc (.cells #[.slice (some ⟨g, 0, none⟩) ns.length cap, .int .i64 ix] 184)) := (Below.refl _ _).alloc (Nat.le_refl _) _
  have HL2 := hide (hL1.base.alloc (.cells #[.slice (some ⟨g, 0, none⟩) ns.length cap, .int .i64 ix] 184))
  have HR2 := hide (hR1.world (Stay.of_below hbx))
  have HE2 := hide (hE1.world (Stay.of_below hbx))
  clear hB1 hA hL1 hR1 hE1 hb hbx hix HPA
  by_cases hneg : f < 0
  ·have HEND := hide (show MatchPost pat.data.toList text.data.toList f w (.returned (.tuple #[.int .i64 0, .int .i64 0, .bool false, .int .i64 8])) _ from ⟨_, rfl, .inr (.inr (.inl ⟨a.re, h60, HA.out, .inl hneg, rfl⟩)), HB.out⟩)
   go_wp2_with fail
   exact bodyPost_ret (v := .tuple #[.int .i64 0, .int .i64 0, .bool false, .int .i64 8]) (by simp [results, Tryz.results73, go_sem, *]) rfl HEND.out
  ·obtain ⟨f', rfl⟩ : ∃ f' : Nat, f = f' := ⟨f.toNat, by omega⟩
   by_cases hgt : text.size < f'
   ·have HEND := hide (show MatchPost pat.data.toList text.data.toList (f' : Int) w (.returned (.tuple #[.int .i64 0, .int .i64 0, .bool false, .int .i64 8])) _ from ⟨_, rfl, .inr (.inr (.inl ⟨a.re, h60, HA.out, .inr (by rw [text_length]; omega), rfl⟩)), HB.out⟩)
    have hg1 : decide ((text.size : Int) < (f' : Int)) = true := by simp; omega
    clear hneg hf
    go_wp2_with fail
    exact bodyPost_ret (v := .tuple #[.int .i64 0, .int .i64 0, .bool false, .int .i64 8]) (by simp [results, Tryz.results73, go_sem, *]) rfl HEND.out
   ·have hg1 : decide (text.size < f') = false := by simp; omega
    have hle : f' ≤ text.size := by omega
    have hsz' := PAlt.size HA.out _ _ rfl
    rw [ARe.sz_re, ARe.leaves_re, text_length] at hsz'
    simp only [List.length_nil] at hsz'
    have HFI := hide (finder_any (.slice (some ⟨g, 0, none⟩) ns.length cap) ns a _ (Nat.lt_of_lt_of_le hw HB.out.size) HL2.out HR2.out HE2.out h0 hn1 (by omega) (by omega) ix HIX.out)
    have hT2 : Tab (w1.alloc (.cells #[.slice (some ⟨g, 0, none⟩) ns.length cap, .int .i64 ix] 184)) := HT.out.keep (HB.out.block 1 hw)
    have HT2 := hide hT2
    clear hneg hf hT2 hsz' HL2 HR2 HE2
    go_wp2_with fail
    refine HFI.out.mono ?_
    rintro e w3 ⟨ρf, sf, ρb, sb, rfl, hB3, hF3⟩
    have hb3 := HB.out.trans (hB3.mono HB.out.size)
    have HFD := hide (find_any _ a ρf sf ρb sb text f' w3 (HT2.out.keep (hB3.block _ (Nat.lt_of_lt_of_le hw HB.out.size))) hF3 hle hsz)
    have HB3 := hide hb3
    clear hB3 hF3 hb3 HFI HT2
    unfold fnv at HFD
    unfold fnv
    go_wp2_with fail
    refine HFD.out.mono ?_
    rintro e w4 ⟨o, ho, rfl, hB4, -⟩
    have HB4 := hide (HB3.out.trans (Off.below hB4 HB3.out.size (fun k hk => Nat.le_trans HB.out.size hk.1)))
    clear hB4 HFD
    cases o with
    | none =>
     have HEND := hide (show MatchPost pat.data.toList text.data.toList (f' : Int) w (.returned (.tuple #[.int .i64 0, .int .i64 0, .bool false, .int .i64 0])) w4 from ⟨_, rfl, .inr (.inr (.inr ⟨a.re, h60, HA.out, f', rfl, hle, .inl ⟨ho, rfl⟩⟩)), HB4.out⟩)
     clear ho HB HB3 HB4
     simp only [found]
     go_wp2_with fail
     exact bodyPost_ret (v := .tuple #[.int .i64 0, .int .i64 0, .bool false, .int .i64 0]) (by simp [results, Tryz.results73, go_sem, *]) rfl HEND.out
    | some p =>
     obtain ⟨s, e⟩ := p
     have HEND := hide (show MatchPost pat.data.toList text.data.toList (f' : Int) w (.returned (.tuple #[.int .i64 s, .int .i64 e, .bool true, .int .i64 0])) w4 from ⟨_, rfl, .inr (.inr (.inr ⟨a.re, h60, HA.out, f', rfl, hle, .inr ⟨s, e, ho, rfl⟩⟩)), HB4.out⟩)
     clear ho HB HB3 HB4
     simp only [found]
     go_wp2_with fail
     exact bodyPost_ret (v := .tuple #[.int .i64 s, .int .i64 e, .bool true, .int .i64 0]) (by simp [results, Tryz.results73, go_sem, *]) rfl HEND.out
end Go.Proofs.YtgncgdkpkkdaeaaGreatDoor
namespace Go.Proofs.YtgncgdkpkkdaeaaGreatDoor
open Tint
def accB : List UInt8 → D → Bool
 | [], d => d.re.nullable
 | b :: u, d => (pd b d).any (accB u)
theorem accB_iff (u : List UInt8) (d : D) : accB u d = true ↔ Mt d.re u := by
 induction u generalizing d with
 | nil => rw [mt_nil]; rfl
 | cons b u ih =>
  rw [pd_spec]
  simp only [accB, List.any_eq_true]
  exact ⟨fun ⟨x, h1, h2⟩ => ⟨x, h1, (ih x).1 h2⟩, fun ⟨x, h1, h2⟩ => ⟨x, h1, (ih x).2 h2⟩⟩
def NoSign (s : List UInt8) : Prop := s.head? ≠ some 42 ∧ s.head? ≠ some 43 ∧ s.head? ≠ some 63
def IsPiece (b : List UInt8) (r : Re) : Prop := (∀ s, NoSign s → ¬ atEnd (b ++ s) ∧ PPiece (b ++ s) (some (r, s))) ∧ ∀ s, NoSign (b ++ s)
inductive Pieces : List UInt8 → List Re → Prop where
 | nil : Pieces [] []
 | snoc {b c : List UInt8} {rs : List Re} {r : Re} : Pieces b rs → IsPiece c r → Pieces (b ++ c) (rs ++ [r])
theorem noSign_end {s : List UInt8} (h : atEnd s) : NoSign s := by
 rcases h with rfl | h | h
 ·simp [NoSign]
 ·simp [NoSign, h]
 ·simp [NoSign, h]
theorem PCat.pieces {b : List UInt8} {rs : List Re} (h : Pieces b rs) : ∀ s qs s', NoSign s → PCat s (some (qs, s')) → PCat (b ++ s) (some (rs ++ qs, s')) ∧ NoSign (b ++ s) := by
 induction h with
 | nil => intro s qs s' h1 h2; exact ⟨h2, h1⟩
 | snoc hb hc ih =>
  rename_i b c rs r
  intro s qs s' h1 h2
  obtain ⟨h3, h4⟩ := hc.1 s h1
  have := ih (c ++ s) (r :: qs) s' (hc.2 s) (.more h3 h4 h2)
  rw [List.append_assoc, List.append_assoc]
  exact this
theorem PAlt.pieces {b : List UInt8} {rs : List Re} (h : Pieces b rs) : PAlt b (some (seqOf rs, [])) := by
 have h1 := (PCat.pieces h [] [] [] (noSign_end (.inl rfl)) (.stop (.inl rfl))).1
 rw [List.append_nil, List.append_nil] at h1
 exact .one h1 (.stop (by simp))
theorem MatchIs.pat {p T : List UInt8} {f : Nat} {r : Re} {v : Value} (h : MatchIs p T f v) (hl : p.length ≤ 60) (hp : PAlt p (some (r, []))) (hf : f ≤ T.length) :
  ∃ o, IsMatch r T f o ∧ ((o = none ∧ v = .tuple #[.int .i64 0, .int .i64 0, .bool false, .int .i64 0]) ∨ ∃ s e : Nat, o = some (s, e) ∧ v = .tuple #[.int .i64 s, .int .i64 e, .bool true, .int .i64 0]) := by
 rcases h with ⟨h1, _⟩ | ⟨_, h2, _⟩ | ⟨r', _, _, h3, _⟩ | ⟨r', _, h4, f', h5, _, h6⟩
 ·omega
 ·rcases h2 with h2 | ⟨r', s', h3, h2⟩
  ·have := PAlt.det hp h2; cases this
  ·have := PAlt.det hp h2
   simp only [Option.some.injEq, Prod.mk.injEq] at this
   exact absurd this.2.symm h3
 ·omega
 ·have := PAlt.det hp h4
  simp only [Option.some.injEq, Prod.mk.injEq, and_true] at this
  subst this
  obtain rfl : f = f' := by omega
  rcases h6 with ⟨h6, h7⟩ | ⟨s, e, h6, h7⟩
  ·exact ⟨none, h6, .inl ⟨rfl, h7⟩⟩
  ·exact ⟨some (s, e), h6, .inr ⟨s, e, rfl, h7⟩⟩
end Go.Proofs.YtgncgdkpkkdaeaaGreatDoor
namespace Go.Proofs.YtgncgdkpkkdaeaaGreatDoor
open Go.RowKit Tint
def IsAtom (b : List UInt8) (r : Re) : Prop := (∀ s, PAtom (b ++ s) (some (r, s))) ∧ (∀ s, ¬ atEnd (b ++ s)) ∧ ∀ s, NoSign (b ++ s)
theorem at_one {c : UInt8} (h1 : isSign c = false) (h2 : 32 ≤ c.toNat) (h3 : c.toNat ≤ 126) : IsAtom [c] (.cls (.range c c)) := by
 have hn : ∀ d, isSign d = true → c ≠ d := fun d hd e => by rw [e, hd] at h1; cases h1
 have hp : ∀ s, pOne ([c] ++ s) = some (c, s) := fun s => by
  show pOne (c :: s) = _
  simp [pOne, hn 92 (by decide), h1, h2, h3]
 refine ⟨fun s => ?_, fun s => ?_, fun s => ?_⟩
 ·have := PAtom.one (s := [c] ++ s) (by simpa using hn 40 (by decide)) (by simpa using hn 46 (by decide)) (by simpa using hn 91 (by decide))
  rw [hp] at this
  exact this
 ·simp [atEnd, hn 124 (by decide), hn 41 (by decide)]
 ·simp [NoSign, hn 42 (by decide), hn 43 (by decide), hn 63 (by decide)]
theorem at_nac : IsAtom [91, 94, 97, 45, 99, 93] (.cls (.compl (.range 97 99))) := by
 refine ⟨fun s => ?_, fun s => by simp [atEnd], fun s => by simp [NoSign]⟩
 exact PAtom.cls (s := 94 :: 97 :: 45 :: 99 :: 93 :: s) (o := some (.compl (.range 97 99), s)) (.neg (s' := 93 :: s) (c := .range 97 99) (o := some (.range 97 99, s)) (by rfl) .stop)
theorem IsAtom.plain {b : List UInt8} {r : Re} (h : IsAtom b r) : IsPiece b r := ⟨fun s hs => ⟨h.2.1 s, .plain (h.1 s) hs.1 hs.2.1 hs.2.2⟩, h.2.2⟩
theorem IsAtom.star {b : List UInt8} {r : Re} (h : IsAtom b r) : IsPiece (b ++ [42]) (.star r) :=
 ⟨fun s _ => ⟨by rw [List.append_assoc]; exact h.2.1 _, by rw [List.append_assoc]; exact .star (h.1 _)⟩, fun s => by rw [List.append_assoc]; exact h.2.2 _⟩
theorem IsAtom.plus {b : List UInt8} {r : Re} (h : IsAtom b r) : IsPiece (b ++ [43]) (.plus r) :=
 ⟨fun s _ => ⟨by rw [List.append_assoc]; exact h.2.1 _, by rw [List.append_assoc]; exact .plus (h.1 _)⟩, fun s => by rw [List.append_assoc]; exact h.2.2 _⟩
def checkB (a : ARe) (T : List UInt8) (f s e : Nat) : Bool :=
 decide (f ≤ s) && decide (s ≤ e) && decide (e ≤ T.length) && accB (seg T s e) (.base a) && ((List.range s).all fun i => decide (i < f) || (List.range (T.length + 1)).all fun j => !accB (seg T i j) (.base a)) && (List.range (T.length + 1)).all fun j => decide (j ≤ e) || !accB (seg T s j) (.base a)
theorem isMatch_of_check {a : ARe} {T : List UInt8} {f s e : Nat} (h : checkB a T f s e = true) : IsMatch a.re T f (some (s, e)) := by
 simp only [checkB, Bool.and_eq_true, decide_eq_true_eq, List.all_eq_true, List.mem_range, Bool.or_eq_true, Bool.not_eq_true'] at h
 obtain ⟨⟨⟨⟨⟨h1, h2⟩, h3⟩, h4⟩, h5⟩, h6⟩ := h
 refine ⟨h1, h2, h3, (accB_iff _ (.base a)).1 h4, fun i hi hs hx => ?_, fun j hj hl hx => ?_⟩
 ·obtain ⟨j, k1, k2, k3⟩ := hx
  rcases h5 i hs with h | h
  ·omega
  ·have := h j (by omega)
   rw [(accB_iff _ (.base a)).2 k3] at this
   cases this
 ·rcases h6 j (by omega) with h | h
  ·omega
  ·rw [(accB_iff _ (.base a)).2 hx] at h
   cases h
def known1 : ARe := .seq 1 (.cls 2 (.range 97 97)) (.star 3 (.cls 4 (.range 98 98)))
def known2 : ARe := .plus 1 2 (.cls 3 (.compl (.range 97 99)))
theorem known1_is : IsMatch known1.re [120, 97, 98, 98, 97, 98] 2 (some (4, 6)) := isMatch_of_check (by decide +kernel)
theorem known2_is : IsMatch known2.re [97, 98, 100, 100] 0 (some (2, 4)) := isMatch_of_check (by decide +kernel)
theorem known1_pat : PAlt [97, 98, 42] (some (known1.re, [])) :=
 PAlt.pieces (b := [97, 98, 42]) (rs := [.cls (.range 97 97), .star (.cls (.range 98 98))]) (.snoc (b := [97]) (c := [98, 42]) (rs := [.cls (.range 97 97)]) (.snoc (b := []) (rs := []) .nil (at_one (by decide) (by decide) (by decide)).plain) (at_one (c := 98) (by decide) (by decide) (by decide)).star)
theorem known2_pat : PAlt [91, 94, 97, 45, 99, 93, 43] (some (known2.re, [])) :=
 PAlt.pieces (b := [91, 94, 97, 45, 99, 93, 43]) (rs := [.plus (.cls (.compl (.range 97 99)))]) (.snoc (b := []) (c := [91, 94, 97, 45, 99, 93, 43]) (rs := []) .nil at_nac.plus)
def mval : Option (Nat × Nat) → Value
 | none => .tuple #[.int .i64 0, .int .i64 0, .bool false, .int .i64 0]
 | some (s, e) => .tuple #[.int .i64 s, .int .i64 e, .bool true, .int .i64 0]
def PatPost (r : Re) (T : List UInt8) (f : Nat) (w : World) (e : Ending) (w' : World) : Prop := ∃ o, IsMatch r T f o ∧ e = .returned (mval o) ∧ Below w.heap.size w w'
theorem match_pat (pat text : ByteArray) (f : Nat) (r : Re) (w : World) (hT : Tab w) (hw : 1 < w.heap.size) (hl : pat.size ≤ 60) (hp : PAlt pat.data.toList (some (r, []))) (hf : f ≤ text.size) (hsz : text.size ≤ maxLen) :
  Calls Tryz.prog 73 #[.string pat, .string text, .int .i64 f] w (PatPost r text.data.toList f w) := by
 refine (match_any pat text f w hT hw (by unfold maxLen; omega) hsz (WalkArith.wf_i64 (by unfold maxLen at hsz; omega))).mono ?_
 rintro e w' ⟨v, rfl, h1, h2⟩
 obtain ⟨o, ho, ⟨rfl, rfl⟩ | ⟨s, e, rfl, rfl⟩⟩ := h1.pat hl hp hf
 ·exact ⟨none, ho, rfl, h2⟩
 ·exact ⟨some (s, e), ho, rfl, h2⟩
set_option maxRecDepth 20000 in
set_option maxHeartbeats 1000000 in
theorem known_any (w : World) (hT : Tab w) (hw : 1 < w.heap.size) : Calls Tryz.prog 48 #[] w fun e w' => e = .returned (.bool true) ∧ Below w.heap.size w w' := by
 go_enter Tryz.func48, Tryz.ntmps48
 go_wp2_with fail
 refine (match_pat ⟨#[97, 98, 42]⟩ ⟨#[120, 97, 98, 98, 97, 98]⟩ 2 known1.re w hT hw (by decide) known1_pat (by decide) (by unfold maxLen; decide)).mono ?_
 rintro e w1 ⟨o, ho, rfl, hB1⟩
 obtain rfl := ho.unique known1_is
 have HB1 := hide hB1
 have hT1 := hT.keep (hB1.block 1 hw)
 have hw1 := Nat.lt_of_lt_of_le hw hB1.size
 clear ho hB1
 simp only [mval]
 go_wp2_with fail
 refine (match_pat ⟨#[91, 94, 97, 45, 99, 93, 43]⟩ ⟨#[97, 98, 100, 100]⟩ 0 known2.re w1 hT1 hw1 (by decide) known2_pat (by decide) (by unfold maxLen; decide)).mono ?_
 rintro e w2 ⟨o, ho, rfl, hB2⟩
 obtain rfl := ho.unique known2_is
 have HB2 := hide (HB1.out.trans (hB2.mono HB1.out.size))
 clear ho hB2 hT1 hw1 HB1
 simp only [mval]
 go_wp2
 go_ret
 exact ⟨rfl, HB2.out⟩
end Go.Proofs.YtgncgdkpkkdaeaaGreatDoor
namespace Tint
def codeB : List UInt8 := [115, 116, 97, 116, 101, 32, 99, 111, 100, 101, 10, 112, 117, 115, 104, 32, 116, 101, 120, 116, 32, 113, 117, 111, 116, 101, 32, 61, 32, 34, 10, 112, 117, 115, 104, 32, 110, 111, 116, 101, 32, 109, 97, 114, 107, 32, 61, 32, 60, 10, 116, 111, 107, 101, 110, 32, 110, 117, 109, 98, 101, 114, 32, 61, 32, 91, 48, 45, 57, 93, 43, 10, 116, 111, 107, 101, 110, 32, 119, 111, 114, 100, 32, 61, 32, 91, 97, 45, 122, 93, 43, 10, 115, 116, 97, 116, 101, 32, 116, 101, 120, 116, 10, 112, 111, 112, 32, 113, 117, 111, 116, 101, 32, 61, 32, 34, 10, 116, 111, 107, 101, 110, 32, 115, 105, 103, 110, 32, 61, 32, 92, 92, 46, 10, 115, 116, 97, 116, 101, 32, 110, 111, 116, 101, 10, 112, 117, 115, 104, 32, 110, 111, 116, 101, 32, 109, 97, 114, 107, 32, 61, 32, 60, 10, 112, 111, 112, 32, 109, 97, 114, 107, 32, 61, 32, 62, 10]
def codeLns : Lns := [(0, .state [99, 111, 100, 101]), (11, .rule 1 [116, 101, 120, 116] [113, 117, 111, 116, 101] [34]), (31, .rule 1 [110, 111, 116, 101] [109, 97, 114, 107] [60]), (50, .rule 0 [] [110, 117, 109, 98, 101, 114] [91, 48, 45, 57, 93, 43]), (72, .rule 0 [] [119, 111, 114, 100] [91, 97, 45, 122, 93, 43]), (92, .state [116, 101, 120, 116]), (103, .rule 2 [] [113, 117, 111, 116, 101] [34]), (117, .rule 0 [] [115, 105, 103, 110] [92, 92, 46]), (134, .state [110, 111, 116, 101]), (145, .rule 1 [110, 111, 116, 101] [109, 97, 114, 107] [60]), (164, .rule 2 [] [109, 97, 114, 107] [62])]
set_option maxRecDepth 100000 in
theorem code_rd : rd 0 [] codeB = .inr codeLns := by with_unfolding_all rfl
theorem alt_one {s : List UInt8} {r : Re} (hne : ¬ atEnd s) (h : PPiece s (some (r, []))) : PAlt s (some (r, [])) :=
 .one (.more hne h (.stop (.inl rfl))) (.stop (by simp))
theorem atom_one {s s' : List UInt8} {b : UInt8} (h1 : s.head? ≠ some 40) (h2 : s.head? ≠ some 46) (h3 : s.head? ≠ some 91) (h : pOne s = some (b, s')) : PAtom s (some (.cls (.range b b), s')) := by
 have := PAtom.one h1 h2 h3
 rw [h] at this
 exact this
theorem ne_end {c : UInt8} {s : List UInt8} (h1 : c ≠ 124) (h2 : c ≠ 41) : ¬ atEnd (c :: s) := by
 rintro (h | h | h)
 ·cases h
 ·simp at h; exact h1 h
 ·simp at h; exact h2 h
theorem pat_sign {c : UInt8} (h : pOne [c] = some (c, [])) (h1 : c ≠ 40) (h2 : c ≠ 46) (h3 : c ≠ 91) (h4 : c ≠ 124) (h5 : c ≠ 41) : PAlt [c] (some (.cls (.range c c), [])) :=
 alt_one (ne_end h4 h5) (.plain (atom_one (by simp [h1]) (by simp [h2]) (by simp [h3]) h) (by simp) (by simp) (by simp))
theorem pat_quote : PAlt [34] (some (.cls (.range 34 34), [])) := pat_sign (by decide) (by decide) (by decide) (by decide) (by decide) (by decide)
theorem pat_lt : PAlt [60] (some (.cls (.range 60 60), [])) := pat_sign (by decide) (by decide) (by decide) (by decide) (by decide) (by decide)
theorem pat_gt : PAlt [62] (some (.cls (.range 62 62), [])) := pat_sign (by decide) (by decide) (by decide) (by decide) (by decide) (by decide)
theorem pat_range {a b : UInt8} {s : List UInt8} (h : pRange (a :: 45 :: b :: 93 :: s) = some (.range a b, 93 :: s)) (h1 : a ≠ 94) : PAtom (91 :: a :: 45 :: b :: 93 :: s) (some (.cls (.range a b), s)) := by
 have := PAtom.cls (PClass.pos (by simp [h1]) h .stop)
 exact this
theorem pat_number : PAlt [91, 48, 45, 57, 93, 43] (some (.plus (.cls (.range 48 57)), [])) := alt_one (ne_end (by decide) (by decide)) (.plus (pat_range rfl (by decide)))
theorem pat_word : PAlt [91, 97, 45, 122, 93, 43] (some (.plus (.cls (.range 97 122)), [])) := alt_one (ne_end (by decide) (by decide)) (.plus (pat_range rfl (by decide)))
theorem pat_back : PAlt [92, 92, 46] (some (.seq (.cls (.range 92 92)) (.cls .any), [])) :=
 .one (rs := [.cls (.range 92 92), .cls .any]) (.more (ne_end (by decide) (by decide)) (.plain (atom_one (s' := [46]) (b := 92) (by simp) (by simp) (by simp) (by decide)) (by simp) (by simp) (by simp))
  (.more (ne_end (by decide) (by decide)) (.plain .dot (by simp) (by simp) (by simp)) (.stop (.inl rfl)))) (.stop (by simp))
theorem fst_none {p : Lns → Ln → Prop} : ∀ {l pre : Lns}, (∀ l1 a x l2, l = l1 ++ (a, x) :: l2 → ¬ p (pre ++ l1) x) → Fst p pre l none := by
 intro l
 induction l with
 | nil => intro pre _; exact .nil
 | cons y l ih =>
  intro pre h
  obtain ⟨a, x⟩ := y
  refine .skip (by simpa using h [] a x l rfl) (ih fun l1 a' x' l2 e => ?_)
  have := h ((a, x) :: l1) a' x' l2 (by rw [e]; rfl)
  simpa using this
theorem fst_mem {p : Lns → Ln → Prop} {l : Lns} (h : ∀ pre a x, (a, x) ∈ l → ¬ p pre x) : Fst p [] l none := fst_none fun l1 a x l2 e => h _ a x (by rw [e]; simp)
theorem code_pats : ∀ a d o c p, (a, Ln.rule d o c p) ∈ codeLns → p.length ≤ 60 ∧ ∃ r, PAlt p (some (r, [])) ∧ r.nullable = false := by
 intro a d o c p h
 simp only [codeLns, List.mem_cons, Prod.mk.injEq, Ln.rule.injEq, List.not_mem_nil, or_false, reduceCtorEq, and_false, false_or] at h
 rcases h with ⟨-, -, -, -, rfl⟩ | ⟨-, -, -, -, rfl⟩ | ⟨-, -, -, -, rfl⟩ | ⟨-, -, -, -, rfl⟩ | ⟨-, -, -, -, rfl⟩ | ⟨-, -, -, -, rfl⟩ | ⟨-, -, -, -, rfl⟩ | ⟨-, -, -, -, rfl⟩
 ·exact ⟨by decide, _, pat_quote, rfl⟩
 ·exact ⟨by decide, _, pat_lt, rfl⟩
 ·exact ⟨by decide, _, pat_number, rfl⟩
 ·exact ⟨by decide, _, pat_word, rfl⟩
 ·exact ⟨by decide, _, pat_quote, rfl⟩
 ·exact ⟨by decide, _, pat_back, rfl⟩
 ·exact ⟨by decide, _, pat_lt, rfl⟩
 ·exact ⟨by decide, _, pat_gt, rfl⟩
theorem code_filter : codeLns.filter (·.2.nb) = codeLns := by rfl
theorem code_chain : Chain codeLns (tests codeLns) 0 0 := by
 refine .skip ?_ (.skip ?_ (.skip ?_ (.skip ?_ (.skip ?_ (.skip ?_ .nil)))))
 ·repeat (first | exact Fst.nil | refine Fst.skip (by simp [pTwice]) ?_)
 ·repeat (first | exact Fst.nil | refine Fst.skip (by simp [pMany, Ln.isState, Ln.isRule, Ln.nb]) ?_)
 ·refine fst_mem fun pre a x h => ?_
  rintro ⟨o, c, p, rfl, hn⟩
  simp only [codeLns, List.mem_cons, Prod.mk.injEq, Ln.rule.injEq, List.not_mem_nil, or_false, reduceCtorEq, and_false, false_or] at h
  rcases h with ⟨-, -, rfl, -⟩ | ⟨-, -, rfl, -⟩ | ⟨-, h, -⟩ | ⟨-, h, -⟩ | ⟨-, h, -⟩ | ⟨-, h, -⟩ | ⟨-, -, rfl, -⟩ | ⟨-, h, -⟩
  ·exact hn _ (List.mem_of_getElem? (i := 5) rfl)
  ·exact hn _ (List.mem_of_getElem? (i := 8) rfl)
  all_goals first | (exact absurd h (by decide)) | exact hn _ (List.mem_of_getElem? (i := 8) rfl)
 ·refine fst_mem fun pre a x h => ?_
  rintro ⟨d, o, c, p, rfl, hl⟩
  have := (code_pats _ _ _ _ _ h).1
  omega
 ·refine fst_mem fun pre a x h => ?_
  rintro ⟨d, o, c, p, rfl, _, hn⟩
  obtain ⟨r, hr, _⟩ := (code_pats _ _ _ _ _ h).2
  exact hn ⟨r, hr⟩
 ·refine fst_mem fun pre a x h => ?_
  rintro ⟨d, o, c, p, r', rfl, hp, hn⟩
  obtain ⟨r, hr, hf⟩ := (code_pats _ _ _ _ _ h).2
  have := hr.det hp
  simp only [Option.some.injEq, Prod.mk.injEq, and_true] at this
  rw [← this, hf] at hn
  cases hn
set_option maxRecDepth 100000 in
theorem code_len : codeB.length ≤ 2000 := by decide
theorem code_load : LoadIs codeB 0 0 codeLns := by
 have h := LoadIs.ok (s := codeB) code_len code_rd (by rw [code_filter]; exact code_chain) (by rw [code_filter]; simp [codeLns])
 rw [code_filter] at h
 exact h
end Tint
namespace Go.Proofs.YtgncgdkpkkdaeaaGreatDoor
open Go.RowKit Tint Go.Maps Go.Shelf
structure KD where
 P : Nat
 g : Nat
 n : Nat
 cap : Nat
 N : Nat
 G : List GS
structure KIs (w : World) (k : KD) : Prop where
 top : w.heap[k.P]? = some (.cells #[.slice (some ⟨k.g, 0, none⟩) k.n k.cap] 38 (0, 0))
 gram : ∀ w', Below k.N w w' → GramIs w' k.g k.n k.cap k.G
 hN : k.N ≤ w.heap.size
 hP : k.P < k.N
 ok : GOk k.G
 pos : 0 < k.G.length
 code : LnsG codeLns k.G
theorem KIs.below {w w' : World} {k : KD} (h : KIs w k) (hb : Below w.heap.size w w') : KIs w' k :=
 ⟨(hb.block _ (lt_of_get h.top)).trans h.top, fun w2 hb2 => h.gram w2 ((hb.mono h.hN).trans hb2), Nat.le_trans h.hN hb.size, h.hP, h.ok, h.pos, h.code⟩
structure KT where
 bX : Nat
 bS : Nat
 lv : Value
 ls : List LE
 work : Nat
 B : Nat
 text : ByteArray
structure KText (w : World) (k : KD) (t : KT) : Prop where
 tx : w.heap[t.bX]? = some (.cells #[.pointer (some ⟨t.bS, 0, none⟩)] 46 (0, 0))
 sheet : SheetIs w t.B t.bS k.g k.n k.cap t.text t.lv t.ls t.work
 runs : ∃ st, Runs k.G [0] (splitL t.text.data.toList) (t.ls.map LE.pr) st
 hB : k.N ≤ t.B
 hX : t.B ≤ t.bX
theorem KText.below {w w' : World} {k : KD} {t : KT} (h : KText w k t) (hb : Below w.heap.size w w') : KText w' k t :=
 ⟨(hb.block _ (lt_of_get h.tx)).trans h.tx, h.sheet.below hb, h.runs, h.hB, h.hX⟩
theorem KText.good {w : World} {k : KD} {t : KT} (h : KText w k t) (hk : KIs w k) : (∀ x ∈ t.ls, Good k.G x.st) ∧ ∀ x ∈ t.ls, x.sps.length ≤ 7000 := by
 obtain ⟨_, h2⟩ := h.runs
 have hg : Good k.G [0] := ⟨⟨by simp, by simp⟩, fun x hx => by rw [List.mem_singleton.1 hx]; exact hk.pos⟩
 refine ⟨fun x hx => h2.good hk.ok hg x.pr (List.mem_map_of_mem hx), fun x hx => h2.short hk.ok (fun l hl => ?_) x.pr (List.mem_map_of_mem hx)⟩
 have := splitL_short hl
 rw [text_length] at this
 have := h.sheet.size
 omega
theorem Thru.ne_nil {G : List GS} {T : List UInt8} {st0 : List Nat} {sps : List Sp} {st : List Nat} (h : Thru G T st0 sps st) (hT : T ≠ []) : sps ≠ [] := by
 rcases h with h | ⟨_, _, _, _, _, _, _, _, _, rfl⟩
 ·generalize hn : T.length = n at h
  cases h with
  | start => exact absurd (List.length_eq_zero_iff.1 hn) hT
  | hit _ _ _ _ _ => simp
 ·simp
theorem first_line {G : List GS} {c : UInt8} {t : List UInt8} {st0 : List Nat} {out : List (List Nat × List Sp)} {st : List Nat} (h : Runs G st0 (splitL (c :: t)) out st) (hc : c ≠ 10) : ∃ y, out[0]? = some y ∧ y.2 ≠ [] := by
 rw [splitL, if_neg hc] at h
 cases hs : splitL t with
 | nil => exact absurd hs (splitL_ne t)
 | cons l ls =>
  rw [hs] at h
  cases h with
  | cons ht _ => exact ⟨_, rfl, ht.ne_nil (by simp)⟩
def codeTx : ByteArray := ⟨#[115, 116, 97, 116, 101, 32, 99, 111, 100, 101, 10, 112, 117, 115, 104, 32, 116, 101, 120, 116, 32, 113, 117, 111, 116, 101, 32, 61, 32, 34, 10, 112, 117, 115, 104, 32, 110, 111, 116, 101, 32, 109, 97, 114, 107, 32, 61, 32, 60, 10, 116, 111, 107, 101, 110, 32, 110, 117, 109, 98, 101, 114, 32, 61, 32, 91, 48, 45, 57, 93, 43, 10, 116, 111, 107, 101, 110, 32, 119, 111, 114, 100, 32, 61, 32, 91, 97, 45, 122, 93, 43, 10, 115, 116, 97, 116, 101, 32, 116, 101, 120, 116, 10, 112, 111, 112, 32, 113, 117, 111, 116, 101, 32, 61, 32, 34, 10, 116, 111, 107, 101, 110, 32, 115, 105, 103, 110, 32, 61, 32, 92, 92, 46, 10, 115, 116, 97, 116, 101, 32, 110, 111, 116, 101, 10, 112, 117, 115, 104, 32, 110, 111, 116, 101, 32, 109, 97, 114, 107, 32, 61, 32, 60, 10, 112, 111, 112, 32, 109, 97, 114, 107, 32, 61, 32, 62, 10]⟩
set_option maxRecDepth 100000 in
theorem codeTx_list : codeTx.data.toList = codeB := rfl
def KOpened (s : ByteArray) (w : World) (e : Ending) (w' : World) : Prop :=
 Below w.heap.size w w' ∧ ∃ (k : KD) (t : KT), e = .returned (.tuple #[.pointer (some ⟨k.P, 0, none⟩), .pointer (some ⟨t.bX, 0, none⟩)]) ∧ KIs w' k ∧ KText w' k t ∧ t.text = s ∧ t.work = t.ls.length ∧ w.heap.size ≤ k.N
set_option maxRecDepth 100000 in
set_option maxHeartbeats 4000000 in
theorem kOpened_any (s : ByteArray) (w : World) (hT : Tab w) (hm : Mx w) (hz : s.size ≤ 3000) : Calls Tryz.prog 21 #[.string s] w (KOpened s w) := by
 have HLD := hide (progLoad_any codeTx w hm)
 unfold codeTx at HLD
 have HK := hide (And.intro hT hm)
 clear hT hm
 go_enter Tryz.func21, Tryz.ntmps21
 go_wp2_with fail
 refine HLD.out.mono ?_
 rintro e w1 ⟨hb1, ⟨ec, a, hec, rfl, hli⟩ | ⟨P, B, ao, n, cap, ls0, ss, rfl, hli, hB, hM, hP⟩⟩
 ·exact absurd (hli.det (by have h := code_load; rw [← codeTx_list] at h; exact h)).1 hec
 ·have hl := (hli.det (by have h := code_load; rw [← codeTx_list] at h; exact h)).2.2
  obtain ⟨g, G, rfl, hpos, hgr, hok, hlg⟩ := made_gram hM hli
  rw [hl] at hlg
  have hk : KIs w1 ⟨P, g, n, cap, w1.heap.size, G⟩ := ⟨hP, hgr, Nat.le_refl _, lt_of_get hP, hok, hpos, hlg⟩
  have HKI := hide hk
  have HB1 := hide hb1
  have HKN := hide (known_any w1 (HK.out.1.below hb1) (cell_lt ((HK.out.1.below hb1) 0 (by decide))))
  clear hb1 hli hB hM hP hl hpos hgr hok hlg hk HLD
  go_wp2_with fail
  refine HKN.out.mono ?_
  rintro e w2 ⟨rfl, hb2⟩
  have hk2 := HKI.out.below hb2
  have hbw2 := HB1.out.trans (hb2.mono HB1.out.size)
  have hn : 0 < n := by
   have h1 := (hk2.gram w2 (Below.refl _ _)).len
   have h2 := hk2.pos
   simp at h1 h2
   omega
  have HOP := hide (open_any w1.heap.size P g n cap G s w2 hk2.top hn hk2.ok hk2.pos (HK.out.1.below hbw2) (Nat.lt_of_lt_of_le (cell_lt (HK.out.1 0 (by decide))) HB1.out.size) hk2.gram hk2.hN (HK.out.2.below hbw2) (Nat.lt_of_lt_of_le (by obtain ⟨m, h⟩ := HK.out.2; exact cell_lt h) HB1.out.size))
  have HK2 := hide hk2
  have HBW2 := hide hbw2
  clear hb2 hk2 hbw2 HKN hn
  go_wp2_with fail
  refine HOP.out.mono ?_
  rintro e w3 ⟨hb3, ⟨hbad, rfl⟩ | ⟨_, bX, bS, lv, ls, st, rfl, hx3, hbX, hs3, hr3⟩⟩
  ·omega
  ·have ht : KText w3 ⟨P, g, n, cap, w1.heap.size, G⟩ ⟨bX, bS, lv, ls, ls.length, w2.heap.size, s⟩ := ⟨hx3, hs3, ⟨st, hr3⟩, HK2.out.hN, hbX⟩
   have hk3 := HK2.out.below hb3
   have hbw3 := HBW2.out.trans (hb3.mono HBW2.out.size)
   have hgd := ht.good hk3
   have HLN := hide (txLine_any 0 hgd.2 ht.sheet ht.tx)
   have HWK := hide (fun W (hb : Below w3.heap.size w3 W) => txWork_any (ht.below hb).sheet (ht.below hb).tx)
   have HLS := hide (fun W (hb : Below w3.heap.size w3 W) => txLines_any (ht.below hb).sheet (ht.below hb).tx)
   have hlp : 0 < ls.length := by
    have := hr3.length
    rw [List.length_map, splitL_length] at this
    omega
   have HT := hide ht
   have HK3 := hide hk3
   have HBW3 := hide hbw3
   have HR3 := hide hr3
   obtain ⟨nl, hnl⟩ : ∃ nl, nl = ls.length := ⟨_, rfl⟩
   have HNL := hide hnl
   simp only at HWK HLS
   rw [← hnl] at HWK HLS
   clear hb3 hx3 hs3 hr3 ht hk3 hbw3 hgd HOP hbX hnl
   go_wp2_with fail
   refine HLN.out.mono ?_
   rintro e w4 ⟨hb4, ⟨hbad, rfl⟩ | ⟨k, x, v, hk0, hxk, rfl, hsp⟩⟩
   ·exact absurd ⟨Int.le_refl _, by omega⟩ hbad
   ·obtain ⟨vo, vc, hv⟩ := row_slice hsp
    subst hv
    obtain rfl : k = 0 := by omega
    have hb34 := hb4
    have hlen0 : s.size = 0 ∨ (∃ h : 0 < s.size, s[0] = 10) ∨ 0 < x.sps.length := by
     rcases Nat.eq_zero_or_pos s.size with h | h
     ·exact .inl h
     ·by_cases h10 : s[0] = 10
      ·exact .inr (.inl ⟨h, h10⟩)
      ·refine .inr (.inr ?_)
       have hne : s.data.toList = s[0] :: s.data.toList.tail := by
        have h0 : s.data.toList[0]? = some s[0] := by
         rw [List.getElem?_eq_getElem (by rw [text_length]; exact h)]
         rfl
        cases hl : s.data.toList with
        | nil => rw [hl] at h0; simp at h0
        | cons y l => rw [hl] at h0; simp at h0; rw [h0]; rfl
       have hr := HR3.out
       rw [hne] at hr
       obtain ⟨y, hy, hy2⟩ := first_line hr h10
       rw [List.getElem?_map, hxk] at hy
       simp only [Option.map_some, Option.some.injEq] at hy
       rw [← hy] at hy2
       exact List.length_pos_iff.2 hy2
    obtain ⟨m, hm⟩ : ∃ m, m = x.sps.length := ⟨_, rfl⟩
    rw [← hm] at hlen0 ⊢
    have HEND := hide (show KOpened s w (.returned (.tuple #[.pointer (some ⟨P, 0, none⟩), .pointer (some ⟨bX, 0, none⟩)])) w4 from
     ⟨HBW3.out.trans (hb4.mono HBW3.out.size), _, _, rfl, HK3.out.below hb4, HT.out.below hb4, rfl, rfl, HB1.out.size⟩)
    have HWK4 := hide (HWK.out w4 hb4)
    have HLS4 := hide (HLS.out w4 hb4)
    clear hb4 hb34 hsp hxk hm hk0 HWK HLS HLN
    go_wp2_with fail
    refine HWK4.out.mono ?_
    rintro e w5 ⟨rfl, e5⟩
    subst w5
    clear HWK4
    go_wp2_with fail
    refine HLS4.out.mono ?_
    rintro e w5 ⟨rfl, e5⟩
    subst w5
    clear HLS4
    rcases hlen0 with h | ⟨h, h10⟩ | h
    ·have q2 : decide ((0 : Int) < (s.size : Int)) = false := decide_eq_false (by omega)
     by_cases hm0 : m = 0
     ·have q1 : ((m : Int) == 0) = true := by rw [hm0]; rfl
      clear hm0
      go_wp2_with fail
      go_ret2
      exact HEND.out
     ·have q1 : ((m : Int) == 0) = false := by rw [beq_eq_false_iff_ne]; omega
      clear hm0
      go_wp2_with fail
      go_ret2
      exact HEND.out
    ·have q2 : decide ((0 : Int) < (s.size : Int)) = true := decide_eq_true (by omega)
     have q3 : (((s[0].toNat : Nat) : Int) == 10) = true := by rw [h10]; rfl
     by_cases hm0 : m = 0
     ·have q1 : ((m : Int) == 0) = true := by rw [hm0]; rfl
      clear hm0 h10
      go_wp2_with fail
      go_ret2
      exact HEND.out
     ·have q1 : ((m : Int) == 0) = false := by rw [beq_eq_false_iff_ne]; omega
      clear hm0 h10
      go_wp2_with fail
      go_ret2
      exact HEND.out
    ·have q1 : ((m : Int) == 0) = false := by rw [beq_eq_false_iff_ne]; omega
     go_wp2_with fail
     go_ret2
     exact HEND.out
def EdIs (B bS g n cap : Nat) (G : List GS) (text : ByteArray) (ls : List LE) (work a an : Nat) (put : ByteArray) (w w' : World) : Prop :=
 Off (fun k => k = bS) w w' ∧ ∃ (text' : ByteArray) (lv' : Value) (ls' : List LE) (work' : Nat) (sF : List Nat),
  text'.data.toList = text.data.toList.take a ++ put.data.toList ++ text.data.toList.drop an ∧ SheetIs w' B bS g n cap text' lv' ls' work' ∧ Runs G [0] (splitL text'.data.toList) (ls'.map LE.pr) sF ∧
  work ≤ work' ∧ work' ≤ work + (1 + put.data.toList.count 10 + moreN (ls.map LE.st) (ls'.map LE.st) ((text.data.toList.drop an).count 10)) ∧ work' ≤ work + 3001
section
variable {w : World} {N B bX bS g n cap : Nat} {G : List GS} {text : ByteArray} {lv : Value} {ls : List LE} {work : Nat} {sE : List Nat}
theorem shText_any (h : SheetIs w B bS g n cap text lv ls work) : Calls Tryz.prog 56 #[.pointer (some ⟨bS, 0, none⟩)] w fun e w' => e = .returned (.string text) ∧ w' = w := by
 have c1 : w.cell? ⟨bS, 1, none⟩ = some (.string text) := cell_at h.sh rfl
 go_enter Tryz.func56, Tryz.ntmps56
 go_wp2_with fail
 go_ret
 exact ⟨rfl, rfl⟩
def InsPost (B bS g n cap : Nat) (G : List GS) (text : ByteArray) (ls : List LE) (work : Nat) (i : Int) (put : ByteArray) (w : World) (e : Ending) (w' : World) : Prop :=
 (¬ (0 ≤ i ∧ i ≤ text.size) ∧ e = .returned (.int .i64 8) ∧ w' = w) ∨ ((0 ≤ i ∧ i ≤ text.size) ∧ 3000 < text.size + put.size ∧ e = .returned (.int .i64 1) ∧ w' = w) ∨
  ∃ a : Nat, i = a ∧ a ≤ text.size ∧ text.size + put.size ≤ 3000 ∧ e = .returned (.int .i64 0) ∧ EdIs B bS g n cap G text ls work a a put w w'
set_option maxRecDepth 20000 in
set_option maxHeartbeats 1000000 in
theorem insert_any (i : Int) (put : ByteArray) (hok : GOk G) (hpos : 0 < G.length) (hT : Tab w) (h0 : 1 < N) (hG : ∀ w', Below N w w' → GramIs w' g n cap G) (hN : N ≤ B) (hM : Mx w) (hMN : 0 < N)
  (h : SheetIs w B bS g n cap text lv ls work) (hx : w.heap[bX]? = some (.cells #[.pointer (some ⟨bS, 0, none⟩)] 46 (0, 0))) (hr : Runs G [0] (splitL text.data.toList) (ls.map LE.pr) sE) (hwk : work ≤ 1000000000000000000) :
  Calls Tryz.prog 41 #[.pointer (some ⟨bX, 0, none⟩), .int .i64 i, .string put] w (InsPost B bS g n cap G text ls work i put w) := by
 have c0 := cell_one hx
 have HC := hide (closed_any bX bS w hx)
 have HTX := hide (shText_any h)
 have hz := h.size
 have HRP := hide (fun (a : Nat) (ha : a ≤ text.size) (hz : text.size + put.size ≤ 3000) => replace_any N B bS g n cap G text lv ls work a 0 put sE w hok hpos hT h0 hG hN hM hMN h hr hwk (by omega) (by omega))
 have wz : IntKind.i64.wrap (3000 - (text.size : Int)) = 3000 - (text.size : Int) := by rw [IntKind.wrap_i64]; omega
 clear h hx hr hT hG hM
 by_cases h1 : 0 ≤ i
 ·have g1 : decide (i < 0) = false := decide_eq_false (by omega)
  by_cases h2 : i ≤ text.size
  ·have g2 : decide ((text.size : Int) < i) = false := decide_eq_false (by omega)
   by_cases h3 : text.size + put.size ≤ 3000
   ·have g3 : decide (3000 - (text.size : Int) < (put.size : Int)) = false := decide_eq_false (by omega)
    obtain ⟨a, rfl⟩ : ∃ a : Nat, i = a := ⟨i.toNat, by omega⟩
    have HRQ := hide (HRP.out a (by omega) h3)
    go_enter Tryz.func41, Tryz.ntmps41
    go_wp2_with fail
    refine HC.out.mono ?_
    rintro e w1 ⟨rfl, e1⟩
    subst w1
    go_wp2_with fail
    refine HTX.out.mono ?_
    rintro e w1 ⟨rfl, e1⟩
    subst w1
    go_wp2_with fail
    refine HRQ.out.mono ?_
    rintro e w1 ⟨rfl, he1⟩
    have HE := hide he1
    clear he1
    go_wp2_with fail
    go_ret
    exact .inr (.inr ⟨a, rfl, by omega, h3, rfl, HE.out⟩)
   ·have g3 : decide (3000 - (text.size : Int) < (put.size : Int)) = true := decide_eq_true (by omega)
    clear HRP
    go_enter Tryz.func41, Tryz.ntmps41
    go_wp2_with fail
    refine HC.out.mono ?_
    rintro e w1 ⟨rfl, e1⟩
    subst w1
    go_wp2_with fail
    refine HTX.out.mono ?_
    rintro e w1 ⟨rfl, e1⟩
    subst w1
    go_wp2_with fail
    go_ret
    exact .inr (.inl ⟨⟨h1, h2⟩, by omega, rfl, rfl⟩)
  ·have g2 : decide ((text.size : Int) < i) = true := decide_eq_true (by omega)
   clear HRP
   go_enter Tryz.func41, Tryz.ntmps41
   go_wp2_with fail
   refine HC.out.mono ?_
   rintro e w1 ⟨rfl, e1⟩
   subst w1
   go_wp2_with fail
   refine HTX.out.mono ?_
   rintro e w1 ⟨rfl, e1⟩
   subst w1
   go_wp2_with fail
   go_ret
   exact .inl ⟨fun h => by omega, rfl, rfl⟩
 ·have g1 : decide (i < 0) = true := decide_eq_true (by omega)
  clear HRP
  go_enter Tryz.func41, Tryz.ntmps41
  go_wp2_with fail
  refine HC.out.mono ?_
  rintro e w1 ⟨rfl, e1⟩
  subst w1
  go_wp2_with fail
  refine HTX.out.mono ?_
  rintro e w1 ⟨rfl, e1⟩
  subst w1
  go_wp2_with fail
  go_ret
  exact .inl ⟨fun h => by omega, rfl, rfl⟩
def DelPost (B bS g n cap : Nat) (G : List GS) (text : ByteArray) (ls : List LE) (work : Nat) (i m : Int) (w : World) (e : Ending) (w' : World) : Prop :=
 (¬ (0 ≤ m ∧ 0 ≤ i ∧ i ≤ text.size ∧ m ≤ text.size - i) ∧ e = .returned (.int .i64 8) ∧ w' = w) ∨
  ∃ a k : Nat, i = a ∧ m = k ∧ a + k ≤ text.size ∧ e = .returned (.int .i64 0) ∧ EdIs B bS g n cap G text ls work a (a + k) ⟨#[]⟩ w w'
set_option maxRecDepth 20000 in
set_option maxHeartbeats 1000000 in
theorem delete_any (i m : Int) (hok : GOk G) (hpos : 0 < G.length) (hT : Tab w) (h0 : 1 < N) (hG : ∀ w', Below N w w' → GramIs w' g n cap G) (hN : N ≤ B) (hM : Mx w) (hMN : 0 < N)
  (h : SheetIs w B bS g n cap text lv ls work) (hx : w.heap[bX]? = some (.cells #[.pointer (some ⟨bS, 0, none⟩)] 46 (0, 0))) (hr : Runs G [0] (splitL text.data.toList) (ls.map LE.pr) sE) (hwk : work ≤ 1000000000000000000) :
  Calls Tryz.prog 42 #[.pointer (some ⟨bX, 0, none⟩), .int .i64 i, .int .i64 m] w (DelPost B bS g n cap G text ls work i m w) := by
 have c0 := cell_one hx
 have HC := hide (closed_any bX bS w hx)
 have HTX := hide (shText_any h)
 have hz := h.size
 have HRP := hide (fun (a k : Nat) (ha : a + k ≤ text.size) => replace_any N B bS g n cap G text lv ls work a k ⟨#[]⟩ sE w hok hpos hT h0 hG hN hM hMN h hr hwk ha (by show text.size + 0 ≤ 3000 + k; omega))
 clear h hx hr hT hG hM
 by_cases h0 : 0 ≤ m
 ·have g0 : decide (m < 0) = false := decide_eq_false (by omega)
  by_cases h1 : 0 ≤ i
  ·have g1 : decide (i < 0) = false := decide_eq_false (by omega)
   by_cases h2 : i ≤ text.size
   ·have g2 : decide ((text.size : Int) < i) = false := decide_eq_false (by omega)
    have wz : IntKind.i64.wrap ((text.size : Int) - i) = (text.size : Int) - i := by rw [IntKind.wrap_i64]; omega
    by_cases h3 : m ≤ text.size - i
    ·have g3 : decide ((text.size : Int) - i < m) = false := decide_eq_false (by omega)
     obtain ⟨a, rfl⟩ : ∃ a : Nat, i = a := ⟨i.toNat, by omega⟩
     obtain ⟨k, rfl⟩ : ∃ k : Nat, m = k := ⟨m.toNat, by omega⟩
     have HRQ := hide (HRP.out a k (by omega))
     go_enter Tryz.func42, Tryz.ntmps42
     go_wp2_with fail
     refine HC.out.mono ?_
     rintro e w1 ⟨rfl, e1⟩
     subst w1
     go_wp2_with fail
     refine HTX.out.mono ?_
     rintro e w1 ⟨rfl, e1⟩
     subst w1
     go_wp2_with fail
     refine HRQ.out.mono ?_
     rintro e w1 ⟨rfl, he1⟩
     have HE := hide he1
     clear he1
     go_wp2_with fail
     go_ret
     exact .inr ⟨a, k, rfl, rfl, by omega, rfl, HE.out⟩
    ·have g3 : decide ((text.size : Int) - i < m) = true := decide_eq_true (by omega)
     clear HRP
     go_enter Tryz.func42, Tryz.ntmps42
     go_wp2_with fail
     refine HC.out.mono ?_
     rintro e w1 ⟨rfl, e1⟩
     subst w1
     go_wp2_with fail
     refine HTX.out.mono ?_
     rintro e w1 ⟨rfl, e1⟩
     subst w1
     go_wp2_with fail
     go_ret
     exact .inl ⟨fun h => by omega, rfl, rfl⟩
   ·have g2 : decide ((text.size : Int) < i) = true := decide_eq_true (by omega)
    clear HRP
    go_enter Tryz.func42, Tryz.ntmps42
    go_wp2_with fail
    refine HC.out.mono ?_
    rintro e w1 ⟨rfl, e1⟩
    subst w1
    go_wp2_with fail
    refine HTX.out.mono ?_
    rintro e w1 ⟨rfl, e1⟩
    subst w1
    go_wp2_with fail
    go_ret
    exact .inl ⟨fun h => by omega, rfl, rfl⟩
  ·have g1 : decide (i < 0) = true := decide_eq_true (by omega)
   clear HRP
   go_enter Tryz.func42, Tryz.ntmps42
   go_wp2_with fail
   refine HC.out.mono ?_
   rintro e w1 ⟨rfl, e1⟩
   subst w1
   go_wp2_with fail
   refine HTX.out.mono ?_
   rintro e w1 ⟨rfl, e1⟩
   subst w1
   go_wp2_with fail
   go_ret
   exact .inl ⟨fun h => by omega, rfl, rfl⟩
 ·have g0 : decide (m < 0) = true := decide_eq_true (by omega)
  clear HRP
  go_enter Tryz.func42, Tryz.ntmps42
  go_wp2_with fail
  refine HC.out.mono ?_
  rintro e w1 ⟨rfl, e1⟩
  subst w1
  go_wp2_with fail
  refine HTX.out.mono ?_
  rintro e w1 ⟨rfl, e1⟩
  subst w1
  go_wp2_with fail
  go_ret
  exact .inl ⟨fun h => by omega, rfl, rfl⟩
end
end Go.Proofs.YtgncgdkpkkdaeaaGreatDoor
