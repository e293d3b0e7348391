/- tintref: until, ruleOf. -/
import Derived.Test.YtgncgdkpkkdaeaaN1
namespace Go.Proofs.Ytgncgdkpkkdaeaa
open Go.RowKit Tint

theorem extract_list (s : ByteArray) (i j : Nat) : (s.extract i j).data.toList = (s.data.toList.drop i).take (j - i) := by
  simp [ByteArray.data_extract]

theorem extract_rest {s : ByteArray} {i j : Nat} (h : s.size ≤ j) : (s.extract i j).data.toList = rest s i := by
  rw [extract_list, rest, List.take_of_length_le]
  rw [List.length_drop, byte_length]
  omega

theorem extract_seg {s : ByteArray} {i j : Nat} (hij : i ≤ j) : rest s i = (s.extract i j).data.toList ++ rest s j := by
  rw [extract_list, rest, rest]
  conv => lhs; rw [← List.take_append_drop (j - i) (s.data.toList.drop i), List.drop_drop]
  rw [show i + (j - i) = j by omega]

def UntilPost (s : ByteArray) (at_ : Nat) (w : World) (e : Ending) (w' : World) : Prop :=
  w' = w ∧ ((∃ (t : ByteArray) (j : Nat), rest s at_ = t.data.toList ++ 32 :: rest s j ∧ j ≤ s.size ∧ at_ < j ∧ (32 : UInt8) ∉ t.data.toList ∧ e = .returned (.tuple #[.string t, .int .i64 j])) ∨
    ((32 : UInt8) ∉ rest s at_ ∧ ∃ t : ByteArray, t.data.toList = rest s at_ ∧ e = .returned (.tuple #[.string t, .int .i64 0])))

def UntilLoop (s : ByteArray) (at_ : Nat) (w : World) (k : Nat) (i : Value) (wr : World) : Prop :=
  ∃ j : Nat, i = .int .i64 j ∧ at_ ≤ j ∧ j + k = s.size ∧ wr = w ∧ ∀ m, at_ ≤ m → m < j → s.data.toList[m]? ≠ some 32

theorem no_blank {s : ByteArray} {i j : Nat} (h : ∀ m, i ≤ m → m < j → s.data.toList[m]? ≠ some 32) : (32 : UInt8) ∉ (s.extract i j).data.toList := by
  intro hm
  rw [extract_list] at hm
  obtain ⟨k, hk⟩ := List.getElem?_of_mem hm
  have hl := get_lt hk
  rw [List.length_take] at hl
  rw [List.getElem?_take_of_lt (by omega), List.getElem?_drop] at hk
  exact h (i + k) (by omega) (by omega) hk

set_option maxRecDepth 20000 in
set_option maxHeartbeats 1000000 in
theorem until_any (s : ByteArray) (at_ : Nat) (w : World) (h : at_ ≤ s.size) (hz : s.size ≤ 1000000000) :
    Calls Try.prog 30 #[.string s, .int .i64 at_] w (UntilPost s at_ w) := by
  go_enter Try.func30, Try.ntmps30
  go_wp2_with fail
  go_loopg [6] (s.size - at_) (fun k i wr => UntilLoop s at_ w k i wr)
  case atStart => exact ⟨at_, rfl, Nat.le_refl _, by omega, rfl, fun m h1 h2 => by omega⟩
  case round =>
    obtain ⟨j, rfl, hle, hk, rfl, hall⟩ := hrel
    by_cases hlt : j < s.size
    · have g1 : decide ((j : Int) < (s.size : Int)) = true := by simp; omega
      have HG := hide (byte_get hlt)
      have HALL := hide hall
      clear hall
      by_cases h1 : s[j] = 32
      · have q1 : (((s[j].toNat : Nat) : Int) == 32) = true := by rw [h1]; rfl
        have HEND := hide (show UntilPost s at_ wr (.returned (.tuple #[.string (s.extract at_ j), .int .i64 ((j + 1 : Nat) : Int)])) wr from
          ⟨rfl, .inl ⟨s.extract at_ j, j + 1, by rw [extract_seg hle, rest_cons hlt, h1], hlt, by omega, no_blank HALL.out, rfl⟩⟩)
        have hi : j + 1 ≤ 9223372036854775807 := by omega
        clear HALL HG h1
        go_wp2_with fail
        exact bodyPost_ret (v := .tuple #[.string (s.extract at_ j), .int .i64 ((j + 1 : Nat) : Int)]) (by simp [results, Try.results30, go_sem, *]) rfl HEND.out
      · have q1 : (((s[j].toNat : Nat) : Int) == 32) = false := by
          rw [beq_eq_false_iff_ne]; intro e; exact h1 (UInt8.toNat_inj.1 (by simpa using Int.ofNat.inj e))
        obtain ⟨k', rfl⟩ : ∃ k', gk = k' + 1 := ⟨gk - 1, by omega⟩
        have hi : j + 1 ≤ 9223372036854775807 := by omega
        have HN := hide h1
        clear h1
        go_wp2_with fail
        go_roundg k'
        case measure => omega
        case rel =>
          refine ⟨j + 1, rfl, by omega, by omega, rfl, fun m h2 h3 => ?_⟩
          rcases Nat.lt_or_ge m j with h4 | h4
          · exact HALL.out m h2 h4
          · have : m = j := by omega
            subst this
            rw [HG.out]
            exact fun e => HN.out (Option.some.inj e)
    · have g1 : decide (j < s.size) = false := by simp; omega
      have HEND := hide (show UntilPost s at_ wr (.returned (.tuple #[.string (s.extract at_ s.size), .int .i64 0])) wr from
        ⟨rfl, .inr ⟨by rw [← extract_rest (Nat.le_refl s.size)]; exact no_blank (fun m h1 h2 => hall m h1 (by omega)), s.extract at_ s.size, extract_rest (Nat.le_refl _), rfl⟩⟩)
      clear hall
      go_wp2_with fail
      exact bodyPost_ret (v := .tuple #[.string (s.extract at_ s.size), .int .i64 0]) (by simp [results, Try.results30, go_sem, *]) rfl HEND.out
end Go.Proofs.Ytgncgdkpkkdaeaa
