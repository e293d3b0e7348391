/- What a finder finds. -/
import Derived.Test.YtjjeomcojobjhaaDoorR20
namespace Go.Proofs.YtjjeomcojobjhaaDoor
open Go.RowKit Tint Go.Maps

/-- The first match from f on, and its longest. -/
def IsMatch (r : Re) (T : List UInt8) (f : Nat) : Option (Nat × Nat) → Prop
  | none => ∀ i, f ≤ i → ¬ From r T i
  | some (s, e) => f ≤ s ∧ s ≤ e ∧ e ≤ T.length ∧ Mt r (seg T s e) ∧ (∀ i, f ≤ i → i < s → ¬ From r T i) ∧ ∀ j, e < j → j ≤ T.length → ¬ Mt r (seg T s j)

def found : Option (Nat × Nat) → Value
  | none => .tuple #[.int .i64 0, .int .i64 0, .bool false]
  | some (s, e) => .tuple #[.int .i64 s, .int .i64 e, .bool true]

def FindPost (B : Nat) (r : Re) (T : List UInt8) (f : Nat) (w : World) (e : Ending) (w' : World) : Prop := ∃ o, IsMatch r T f o ∧ e = .returned (found o) ∧ Below B w w'

theorem find_none {B N : Nat} {r : Re} {T : List UInt8} {f : Nat} {w w1 : World} (hB : B ≤ N) (hF : Fx (old N) w w1) (h : ∀ i, f ≤ i → ¬ From r T i) : FindPost B r T f w (.returned (.tuple #[.int .i64 0, .int .i64 0, .bool false])) w1 :=
  ⟨none, h, rfl, ⟨hF.os, hF.tape, hF.output, hF.size, fun k hk => hF.keep k (show k < N by omega)⟩⟩

theorem find_some {B N0 N1 : Nat} {r : Re} {T : List UInt8} {f s e : Nat} {w w1 w2 : World} (hB : B ≤ N0) (h01 : N0 ≤ N1) (hF : Fx (old N1) w w1) (hG : Fx (old N0) w1 w2) (h1 : f ≤ s) (h2 : From r T s) (h3 : ∀ i, f ≤ i → i < s → ¬ From r T i) (h4 : s ≤ e) (h5 : e ≤ T.length) (h6 : e = s ∨ Mt r (seg T s e)) (h7 : ∀ j, e < j → j ≤ T.length → ¬ Mt r (seg T s j)) : FindPost B r T f w (.returned (.tuple #[.int .i64 s, .int .i64 e, .bool true])) w2 := by
  refine ⟨some (s, e), ⟨h1, h4, h5, ?_, h3, h7⟩, rfl, ⟨hG.os.trans hF.os, hG.tape.trans hF.tape, hG.output.trans hF.output, Nat.le_trans hF.size hG.size, fun k hk => (hG.keep k (show k < N0 by omega)).trans (hF.keep k (show k < N1 by omega))⟩⟩
  rcases h6 with rfl | h6
  · obtain ⟨j, a1, a2, a3⟩ := h2
    rcases Nat.lt_or_ge e j with h | h
    · exact absurd a3 (h7 j h a2)
    · have : j = e := by omega
      subst this; exact a3
  · exact h6

set_option maxRecDepth 20000 in
set_option maxHeartbeats 2000000 in
theorem find_any (B : Nat) (a : ARe) (bb fb : Nat) (text : ByteArray) (f : Nat) (w : World) (hT : Tab w) (hF : FinderIs w B a bb fb) (hf : f ≤ text.size) (hsz : text.size ≤ maxLen) :
    Calls Tryd.prog 24 #[.string text, .int .i64 f, .pointer (some ⟨bb, 0, none⟩), .pointer (some ⟨fb, 0, none⟩)] w (FindPost B a.re text.data.toList f w) := by
  obtain ⟨N0, N1, nf, nb, ρf, ρb, sf, sb, tf, tb, ef, eb, hB0, h00, h01, h1w, hbb, hfb, hFb, hIb, hLb, hFf, hIf, hLf⟩ := hF
  have b0 : w.cell? ⟨bb, 0, none⟩ = some (.int .u64 sb) := by simp [World.cell?, hbb]
  have b1 : w.cell? ⟨bb, 1, none⟩ = some (.func (.func 39) #[] #[.pointer (some ⟨ρb.av, 0, none⟩)]) := by simp [World.cell?, hbb]
  have b2 : w.cell? ⟨bb, 2, none⟩ = some (.func (.func 41) #[] #[.pointer (some ⟨ρb.ev, 0, none⟩)]) := by simp [World.cell?, hbb]
  have HLE := hide (least_any (old N1) ρb nb a.mir tb eb sb a.re text f w (fun k hk => Nat.lt_of_lt_of_le hk h1w) (show 0 < N1 by omega) hT hFb hIb hLb a.mir_re hf hsz)
  have HFB := hide hfb
  have HFF := hide hFf
  have HT := hide hT
  have HIF := hide hIf
  have HLF := hide hLf
  clear hbb hfb hFb hIb hLb hFf hIf hLf hT
  unfold rdv at HLE
  go_enter Tryd.func24, Tryd.ntmps24
  go_wp2_with fail
  refine HLE.out.mono ?_
  rintro e w1 ⟨start, ok, us, en', rfl, hF1, hFu1, hok, hno⟩
  cases ok with
  | false =>
    have HEND := hide (find_none (show B ≤ N1 by omega) hF1 (hno rfl).2)
    clear hF1 hFu1 hok hno HLE
    go_wp2_with fail
    exact bodyPost_ret (v := .tuple #[.int .i64 0, .int .i64 0, .bool false]) (by simp [results, Tryd.results24, go_sem, *]) rfl HEND.out
  | true =>
    obtain ⟨k1, k2, k3, k4⟩ := hok rfl
    have hfb1 := hF1.stay _ _ _ (by decide) HFB.out
    have c0 : w1.cell? ⟨fb, 0, none⟩ = some (.int .u64 sf) := by simp [World.cell?, hfb1]
    have c1 : w1.cell? ⟨fb, 1, none⟩ = some (.func (.func 39) #[] #[.pointer (some ⟨ρf.av, 0, none⟩)]) := by simp [World.cell?, hfb1]
    have c2 : w1.cell? ⟨fb, 2, none⟩ = some (.func (.func 41) #[] #[.pointer (some ⟨ρf.ev, 0, none⟩)]) := by simp [World.cell?, hfb1]
    have hbel : Below N1 w w1 := ⟨hF1.os, hF1.tape, hF1.output, hF1.size, fun k hk => hF1.keep k hk⟩
    have HLO := hide (longest_any (old N0) ρf nf a tf ef sf text start w1 (fun k hk => Nat.lt_of_lt_of_le (show k < w.heap.size from Nat.lt_of_lt_of_le hk (by omega)) hF1.size) h00 (HT.out.keep (hF1.keep 0 (show 0 < N1 by omega))) (HFF.out w1 hbel) HIF.out HLF.out k2 hsz)
    have HF1 := hide hF1
    have K1 := hide k1
    have K3 := hide k3
    have K4 := hide k4
    clear hF1 hFu1 hok hno HLE hfb1 hbel k1 k2 k3 k4
    unfold rdv at HLO
    go_wp2_with fail
    refine HLO.out.mono ?_
    rintro e w2 ⟨stop, us2, en2, rfl, hF2, hFu2, h4, h5, h6, h7⟩
    have HEND := hide (find_some hB0 h01 HF1.out hF2 K1.out K3.out K4.out h4 h5 h6 h7)
    clear hF2 hFu2 h4 h5 h6 h7 HLO
    go_wp2_with fail
    exact bodyPost_ret (v := .tuple #[.int .i64 start, .int .i64 stop, .bool true]) (by simp [results, Tryd.results24, go_sem, *]) rfl HEND.out
end Go.Proofs.YtjjeomcojobjhaaDoor
