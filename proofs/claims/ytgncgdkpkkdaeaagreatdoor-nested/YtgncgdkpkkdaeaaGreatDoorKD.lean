import Derived.Test.YtgncgdkpkkdaeaaGreatDoorKC
import Derived.Maps.OwnSet
import Derived.Maps.OwnOps
import Derived.DeepKeys4
import Derived.Test.YtgncgdkpkkdaeaaGreatDoorKA
import Derived.Maps.AppendAt
import Derived.Deep.AppendSrc
import Derived.Laws.EntriesVeiled
import Derived.WideLaws
namespace Go.Proofs.YtgncgdkpkkdaeaaGreatDoor
open Go.RowKit Tint
theorem _root_.Tint.Rep.drewN {w : World} {ns : List (Nd Value)} {a : ARe} (h : Rep (IsCls w) ns a) (n : Nat) : Rep (IsCls (w.drewN n)) ns a :=
 Rep.world (w := w) (w' := w.drewN n) (fun _ _ _ _ h => h) h
def PCatR (s : List UInt8) (o : Option (Re × List UInt8)) : Prop := ∃ o', PCat s o' ∧ o = o'.map fun p => (seqOf p.1, p.2)
def PcsLoop (B P : Nat) (text : ByteArray) (at_ : Nat) (ns : List (Nd Value)) (w : World) (k : Nat) (pv : Value) (wr : World) : Prop :=
 PFr B w wr ∧ ∃ (at' : Nat) (ms : List (Nd Value)) (ps : List ARe), Psr wr B P text at' (ns ++ ms) ∧ Ints wr w.heap.size pv (ps.map ARe.ix) ∧ (∀ a ∈ ps, Rep (IsCls wr) (ns ++ ms) a) ∧
  ms.length + ps.length + 3 * (rest text at').length ≤ 3 * (rest text at_).length ∧ k = (rest text at').length ∧
  ∀ o, PCat (rest text at') o → PCat (rest text at_) (o.map fun p => (ps.map ARe.re ++ p.1, p.2))
theorem info_int : (Tryz.prog.info? 3).map (fun i => (i.zero, i.size, i.bytes)) = some (some (.int .i64 0), 1, 8) := by kernel_rfl
theorem next_end (d : UInt8) (s : List UInt8) (B P : Nat) (text : ByteArray) (at_ : Nat) (ns : List (Nd Value)) (w : World) (hP : Psr w B P text at_ ns) (h : rest text at_ = d :: s) (f : Bool) (hf : (d == 124 || d == 41) = f) :
  Calls Tryz.prog 192 #[.pointer (some ⟨P, 0, none⟩), .string ⟨#[124, 41]⟩] w fun e w' => e = .returned (.bool f) ∧ ∃ n, w' = w.drewN n := by
 refine (next_any ⟨#[124, 41]⟩ B P text at_ ns w hP).mono ?_
 rintro e w' ⟨rfl, n, rfl⟩
 refine ⟨?_, n, rfl⟩
 rw [h]
 simp only [List.head?_cons]
 rw [← hf]
 simp only [List.contains_cons, List.contains_nil, Bool.or_false]
theorem Ints.drewN {w : World} {B : Nat} {v : Value} {xs : List Nat} (h : Ints w B v xs) (n : Nat) : Ints (w.drewN n) B v xs := h
theorem pcs_grown {B P : Nat} {text : ByteArray} {at_ : Nat} {ns : List (Nd Value)} {w0 w w3 : World} {v : Value} {xs : List Nat} {o : Obj} (hP : Psr w B P text at_ ns) (hI : Ints w w0.heap.size v xs) (hs : w0.heap.size ≤ w.heap.size) (hF : PFr B w0 w)
  (hg : (w.alloc o).grownBy w3 v.ownBlock) : Psr w3 B P text at_ ns ∧ Stay w w3 ∧ PFr B w0 w3 := by
 have hrow : ∀ k, some k = v.ownBlock → w0.heap.size ≤ k ∧ ∃ c, w.heap[k]? = some (.cells c 3 (0, 0)) := by
  intro k hk
  rcases hI.2 with ⟨rfl, _⟩ | ⟨g, cap, cur, rfl, hg, hh, _⟩
  ·cases hk
  ·cases hk; exact ⟨hg, cur, hh⟩
 have hold : ∀ (k : Nat) c t fz, t ≠ 3 → w.heap[k]? = some (.cells c t fz) → w3.heap[k]? = some (.cells c t fz) := by
  intro k c t fz ht hh
  have hlt := lt_of_get hh
  rw [hg.block k (by simp; omega) (fun e => by
   obtain ⟨_, c', h'⟩ := hrow k e
   rw [hh] at h'
   simp at h'
   exact ht h'.2.1)]
  exact heap_alloc_old hh
 refine ⟨?_, ?_, ?_⟩
 ·obtain ⟨⟨sv, h1, h2⟩, a, b, c⟩ := hP
  refine ⟨⟨sv, hold _ _ _ _ (by decide) h1, h2.keep fun k hk => ?_⟩, a, b, c⟩
  obtain ⟨_, cur, hc⟩ := h2.block hk
  rw [hc]
  exact hold _ _ _ _ (by decide) hc
 ·intro k c t ht hh
  exact hold k c t _ (by rcases ht with rfl | rfl <;> decide) hh
 ·refine ⟨hg.os.trans hF.os, hg.tape.trans hF.tape, hg.output.trans hF.output, ?_, fun k hk hn => ?_⟩
  ·have := hg.size; simp at this; omega
  ·rw [hg.block k (by simp; omega) (fun e => by have := (hrow k e).1; omega), Below.heap_alloc _ _ _ (by omega)]
   exact hF.keep k hk hn
-- The way out of the loop, in a world in which the parts lie.
def PcsOut (B P : Nat) (text : ByteArray) (at_ : Nat) (ns : List (Nd Value)) (w : World) (at' : Nat) (ms : List (Nd Value)) (ps : List ARe) (pv : Value) (wr : World) : Prop :=
 PFr B w wr ∧ Psr wr B P text at' (ns ++ ms) ∧ Ints wr w.heap.size pv (ps.map ARe.ix) ∧ (∀ a ∈ ps, Rep (IsCls wr) (ns ++ ms) a) ∧
  ms.length + ps.length + 3 * (rest text at').length ≤ 3 * (rest text at_).length ∧ PCat (rest text at_) (some (ps.map ARe.re, rest text at'))
theorem pcs_seq {B P : Nat} {text : ByteArray} {at_ : Nat} {ns : List (Nd Value)} {w : World} {at' : Nat} {ms : List (Nd Value)} {ps : List ARe} {pv : Value} {wr : World} (hP : Pre B P text at_ ns w) (h : PcsOut B P text at_ ns w at' ms ps pv wr) (nq : Nat) :
  Calls Tryz.prog 194 #[.pointer (some ⟨P, 0, none⟩), pv] (wr.drewN nq) (SeqPost B P text at' (ns ++ ms) ps (wr.drewN nq)) := by
 obtain ⟨hF, h1, h2, h3, h4, h5⟩ := h
 refine inSequence_any B w.heap.size P text at' (ns ++ ms) ps pv (wr.drewN nq) (h1.drewN nq) ?_ (h2.drewN nq) ?_ ?_
 ·have := hP.bound; simp only [List.length_append]; omega
 ·intro a ha; exact Rep.world (w := wr) (w' := wr.drewN nq) (fun _ _ _ _ h => h) (h3 a ha)
 ·exact (hP.eps.append (ms := ms)).world hF.stay
theorem pcs_end {B P : Nat} {text : ByteArray} {at_ : Nat} {ns : List (Nd Value)} {w : World} {at' : Nat} {ms : List (Nd Value)} {ps : List ARe} {pv : Value} {wr : World} {nq : Nat} {e : Ending} {w' : World}
  (h : PcsOut B P text at_ ns w at' ms ps pv wr) (hs : SeqPost B P text at' (ns ++ ms) ps (wr.drewN nq) e w') :
  ∃ i : Nat, e = .returned (.int .i64 i) ∧ AltPost PCatR 0 B P text at_ ns w (.returned (.tuple #[.int .i64 i, .bool true])) w' := by
 obtain ⟨hF, h1, h2, h3, h4, h5⟩ := h
 obtain ⟨hF2, a, ks, rfl, hre, hP2, hR2, hl⟩ := hs
 refine ⟨a.ix, rfl, (hF.drewN nq).trans hF2, .inl ⟨a, at', ms ++ ks, rfl, ⟨_, h5, by rw [hre]; rfl⟩, by rw [← List.append_assoc]; exact hP2, by rw [← List.append_assoc]; exact hR2, ?_⟩⟩
 simp only [List.length_append]; omega
set_option maxHeartbeats 2000000 in
theorem pieces_any (n : Nat) (hC : ChoicesAt n) (B P : Nat) (text : ByteArray) (at_ : Nat) (ns : List (Nd Value)) (w : World) (hP : Pre B P text at_ ns w) (hn : (rest text at_).length ≤ n) :
  Calls Tryz.prog 170 #[.pointer (some ⟨P, 0, none⟩)] w (AltPost PCatR 0 B P text at_ ns w) := by
 have HP := hide hP
 have HN := hide hn
 clear hP hn
 obtain ⟨i0, hi, hz0, hz1, hz2⟩ := info_parts info_int
 go_enter Tryz.func170, Tryz.ntmps170
 go_wp2_with fail
 go_loopg [4] (rest text at_).length (fun k pv wr => PcsLoop B P text at_ ns w k pv wr)
 case atStart =>
  exact ⟨PFr.refl _ _, at_, [], [], by simpa using HP.out.psr, World.ownsRow_nil _ _ _ _, by simp, by simp, rfl, fun o h => by cases o with | none => exact h | some p => exact h⟩
 case round =>
  obtain ⟨hF, at1, ms, ps, hP1, hI, hA, hb, hk, hcont⟩ := hrel
  have HK := hide hk
  have HF := hide hF
  have HP1 := hide hP1
  have HI := hide hI
  have HA := hide hA
  have HB := hide hb
  have HCT := hide hcont
  have h0 := (HP.out.eps.append (ms := ms)).world hF.stay
  have H0 := hide h0
  obtain ⟨c0, c1, f1⟩ := hP1.cells
  have hsm := hP1.small
  have hle1 := hP1.le
  clear hF hP1 hI hA hb hcont h0 hk
  cases hr : rest text at1 with
  | nil =>
   have he := rest_eq_nil hle1 hr
   have HO := hide (show PcsOut B P text at_ ns w at1 ms ps u4 wr from ⟨HF.out, HP1.out, HI.out, HA.out, HB.out, by
    have := HCT.out (some ([], rest text at1)) (.stop (.inl hr))
    simpa using this⟩)
   have hg : decide (at1 < text.size) = false := by simp; omega
   clear hr he
   go_wp2_with fail
   go_quiet (fail)
   go_wp2_with fail
   refine (pcs_seq HP.out HO.out nq).mono ?_
   rintro e w2 hs
   obtain ⟨i, rfl, hA2⟩ := pcs_end HO.out hs
   have HA2 := hide hA2
   clear hs hA2
   go_wp2_with fail
   go_ret2
   exact HA2.out
  | cons c s =>
   obtain ⟨hlt, hc, hrs⟩ := rest_eq_cons hr
   have hg : decide ((at1 : Int) < (text.size : Int)) = true := by simpa using hlt
   have HR := hide hr
   clear hr hrs hc
   cases hd : (c == 124 || c == 41) with
   | true =>
    have HD := hide hd
    have HO := hide (show PcsOut B P text at_ ns w at1 ms ps u4 wr from ⟨HF.out, HP1.out, HI.out, HA.out, HB.out, by
     have he : atEnd (rest text at1) := by
      rw [HR.out]
      simp only [Bool.or_eq_true, beq_iff_eq] at hd
      rcases hd with rfl | rfl
      ·exact .inr (.inl rfl)
      ·exact .inr (.inr rfl)
     have := HCT.out (some ([], rest text at1)) (.stop he)
     simpa using this⟩)
    clear hd
    go_wp2_with fail
    go_quiet ((go_at_call 192; exact Calls.quiet_of (next_end c s B P text at1 (ns ++ ms) _ (HP1.out.drewN _) HR.out true HD.out)))
    go_wp2_with fail
    refine (pcs_seq HP.out HO.out nq).mono ?_
    rintro e w2 hs
    obtain ⟨i, rfl, hA2⟩ := pcs_end HO.out hs
    have HA2 := hide hA2
    clear hs hA2
    go_wp2_with fail
    go_ret2
    exact HA2.out
   | false =>
    have HD := hide hd
    have hne : ¬ atEnd (rest text at1) := by
     rw [HR.out]
     simp only [Bool.or_eq_false_iff, beq_eq_false_iff_ne] at hd
     rintro (h | h | h)
     ·cases h
     ·simp at h; exact hd.1 h
     ·simp at h; exact hd.2 h
    have HNE := hide hne
    have HPre := hide (show ∀ nq, Pre B P text at1 (ns ++ ms) (wr.drewN nq) from fun nq => ⟨HP1.out.drewN nq, H0.out.world (fun _ _ _ _ h => h), by have := HP.out.bound; have := HB.out; simp only [List.length_append]; omega⟩)
    have HN1 := hide (show (rest text at1).length ≤ n by have := HN.out; have := HB.out; omega)
    clear hd hne
    go_wp2_with fail
    go_quiet ((go_at_call 192; exact Calls.quiet_of (next_end c s B P text at1 (ns ++ ms) _ (HP1.out.drewN _) HR.out false HD.out)))
    go_wp2_with fail
    refine (piece_any n hC B P text at1 (ns ++ ms) (wr.drewN nq) (HPre.out nq) HN1.out).mono ?_
    rintro e w2 ⟨hF2, ⟨a, at2, ks, rfl, hA2, hP2, hR2, hb2⟩ | ⟨i, rfl, hA2⟩⟩
    ·have HF2 := hide hF2
     have HA2 := hide hA2
     have HP2 := hide hP2
     have HR2 := hide hR2
     have HB2 := hide hb2
     have HI2 := hide (show Ints w2 w.heap.size u4 (ps.map ARe.ix) from (HI.out.drewN nq).pfr hF2)
     have hpl : (ps.map ARe.ix).length + 1 ≤ 1000 := by have := HP.out.bound; have := HB.out; simp only [List.length_map]; omega
     have hbs : w.heap.size ≤ w2.heap.size := Nat.le_trans HF.out.size hF2.size
     clear hF2 hA2 hP2 hR2 hb2
     go_wp2_with (at_builtin; refine wpList_append_own _ rfl _ _ 57 rfl w.heap.size 3 i0 (.int .i64 0) 1 8 Tryz.underlying57 hi hz0 hz1 hz2 rfl (by decide) _ _ _ rfl (HI2.out.alloc _) ⟨w2.heap.size, 0, none⟩ 1 1 [.int .i64 a.ix] rfl rfl (by exact cell_new_row w2 #[.int .i64 a.ix] _) (by simp [Value.oneCell']) (by unfold maxLen; omega) (by omega) (by simp; omega) ?_; intro v' w3 hown hg hnn)
     have hg2 : (w2.alloc (.cells #[.int .i64 a.ix] 3)).grownBy w3 u4.ownBlock := hg
     obtain ⟨hP3, hS3, hF3⟩ := pcs_grown HP2.out HI2.out hbs ((HF.out.drewN nq).trans HF2.out) hg2
     have hI3 : Ints w3 w.heap.size v' ((ps ++ [a]).map ARe.ix) := by
      unfold Ints
      simpa using hown
     have HP3 := hide hP3
     have HS3 := hide hS3
     have HF3 := hide hF3
     have HI3 := hide hI3
     clear hP3 hS3 hF3 hI3 hg hg2 hown hnn
     go_wp2_with fail
     go_roundg (rest text at2).length
     case measure => have := HB2.out; rw [HK.out]; omega
     case rel =>
      refine ⟨HF3.out, at2, ms ++ ks, ps ++ [a], by rw [← List.append_assoc]; exact HP3.out, HI3.out, ?_, ?_, rfl, ?_⟩
      ·intro b hb
       rw [← List.append_assoc]
       rcases List.mem_append.1 hb with hb | hb
       ·exact (((Rep.drewN (HA.out b hb) nq).world HF2.out.stay).world HS3.out).append
       ·simp only [List.mem_singleton] at hb
        subst hb
        exact HR2.out.world HS3.out
      ·have h1 := HB2.out
       have h2 := HB.out
       simp only [List.length_append, List.length_cons, List.length_nil]
       omega
      ·intro o ho
       cases o with
       | none =>
        have := HCT.out none (.moreBad HNE.out HA2.out ho)
        simpa using this
       | some p =>
        have := HCT.out (some (a.re :: p.1, p.2)) (.more HNE.out HA2.out ho)
        simpa using this
    ·have HF2 := hide hF2
     have HA2 := hide hA2
     clear hF2 hA2
     go_wp2_with fail
     go_ret2
     refine ⟨(HF.out.drewN nq).trans HF2.out, .inr ⟨0, by simp, none, ?_, rfl⟩⟩
     have := HCT.out none (.bad HNE.out HA2.out)
     simpa using this
theorem pcatR_some {s s' : List UInt8} {r : Re} (h : PCatR s (some (r, s'))) : ∃ rs, PCat s (some (rs, s')) ∧ r = seqOf rs := by
 obtain ⟨o, h1, h2⟩ := h
 cases o with
 | none => cases h2
 | some p => simp only [Option.map_some, Option.some.injEq, Prod.mk.injEq] at h2; exact ⟨p.1, by rw [h2.2]; exact h1, h2.1⟩
theorem pcatR_none {s : List UInt8} (h : PCatR s none) : PCat s none := by
 obtain ⟨o, h1, h2⟩ := h
 cases o with
 | none => exact h1
 | some p => cases h2
def ChLoop (B P : Nat) (text : ByteArray) (at_ : Nat) (ns : List (Nd Value)) (w : World) (k : Nat) (left okv : Value) (wr : World) : Prop :=
 PFr B w wr ∧ ((okv = .bool true ∧ ∃ (a : ARe) (at' : Nat) (ms : List (Nd Value)), left = .int .i64 a.ix ∧ Psr wr B P text at' (ns ++ ms) ∧ Rep (IsCls wr) (ns ++ ms) a ∧
   ms.length + 3 * (rest text at').length ≤ 3 * (rest text at_).length ∧ k = 1 + (rest text at').length ∧ ∀ o, PMore a.re (rest text at') o → PAlt (rest text at_) o) ∨
  (okv = .bool false ∧ k = 0 ∧ (∃ i : Nat, left = .int .i64 i) ∧ PAlt (rest text at_) none))
set_option maxHeartbeats 2000000 in
theorem choices_any (n : Nat) (hC : ChoicesAt n) (B P : Nat) (text : ByteArray) (at_ : Nat) (ns : List (Nd Value)) (w : World) (hP : Pre B P text at_ ns w) (hn : (rest text at_).length ≤ n) :
  Calls Tryz.prog 139 #[.pointer (some ⟨P, 0, none⟩)] w (AltPost PAlt 0 B P text at_ ns w) := by
 have HP := hide hP
 have HN := hide hn
 clear hP hn
 go_enter Tryz.func139, Tryz.ntmps139
 go_wp2_with fail
 refine (pieces_any n hC B P text at_ ns w HP.out HN.out).mono ?_
 rintro e w1 hpost
 obtain ⟨left, okv, k0, rfl, hL⟩ : ∃ (i : Nat) (ok : Bool) (k0 : Nat), e = .returned (.tuple #[.int .i64 i, .bool ok]) ∧ ChLoop B P text at_ ns w k0 (.int .i64 i) (.bool ok) w1 := by
  rcases hpost with ⟨hF1, ⟨a, at1, ms, rfl, hA1, hP1, hR1, hb1⟩ | ⟨i, rfl, hA1⟩⟩
  ·obtain ⟨rs, h1, h2⟩ := pcatR_some hA1
   exact ⟨a.ix, true, 1 + (rest text at1).length, rfl, hF1, .inl ⟨rfl, a, at1, ms, rfl, hP1, hR1, by omega, rfl, fun o ho => .one h1 (h2 ▸ ho)⟩⟩
  ·exact ⟨i, false, 0, rfl, hF1, .inr ⟨rfl, rfl, ⟨i, rfl⟩, .bad (pcatR_none hA1)⟩⟩
 have HL := hide hL
 clear hL hpost
 go_wp2_with fail
 go_loopg [4, 5] k0 (fun k left okv wr => ChLoop B P text at_ ns w k left okv wr)
 case atStart => exact HL.out
 case round =>
  obtain ⟨hF, ⟨rfl, a, at1, ms, rfl, hP1, hR1, hb1, hk, hm⟩ | ⟨rfl, hk, ⟨i, rfl⟩, hm⟩⟩ := hrel
  ·have HF := hide hF
   have HP1 := hide hP1
   have HR1 := hide hR1
   have HB1 := hide hb1
   have HK := hide hk
   have HM := hide hm
   have H0 := hide ((HP.out.eps.append (ms := ms)).world hF.stay)
   clear hF hP1 hR1 hb1 hk hm
   go_wp2_with fail
   refine (take_any 124 B P text at1 (ns ++ ms) wr HP1.out).mono ?_
   rintro e w2 ⟨r, at2, rfl, hP2, hF2, ⟨rfl, h2⟩ | ⟨rfl, hat2, h2⟩⟩
   ·have HP2 := hide hP2
    have HF2 := hide hF2
    have H2 := hide h2
    have hl2 : (rest text at2).length + 1 = (rest text at1).length := by rw [h2]; rfl
    have HL2 := hide hl2
    have HPre := hide (show Pre B P text at2 (ns ++ ms) w2 from ⟨hP2, H0.out.world hF2.stay, by have := HP.out.bound; have := HB1.out; simp only [List.length_append]; omega⟩)
    clear hP2 hF2 h2 hl2
    go_wp2_with fail
    refine (pieces_any n hC B P text at2 (ns ++ ms) w2 HPre.out (by have := HN.out; have := HB1.out; have := HL2.out; omega)).mono ?_
    rintro e w3 ⟨hF3, ⟨a3, at3, ks, rfl, hA3, hP3, hR3, hb3⟩ | ⟨i, rfl, hA3⟩⟩
    ·obtain ⟨rs, hc3, hre3⟩ := pcatR_some hA3
     have hRa : Rep (IsCls w3) (ns ++ ms ++ ks) a := ((HR1.out.world HF2.out.stay).world hF3.stay).append
     obtain ⟨x, hx, hxe⟩ := hRa.empty
     obtain ⟨y, hy, hye⟩ := hR3.empty
     have HE := hide (show Emp (ns ++ ms ++ ks) 3 a.ix a3.ix (a.re.nullable || a3.re.nullable) from .inr (.inr (.inr (.inr ⟨rfl, x, y, hx, hy, by rw [hxe, hye]⟩))))
     have HRa := hide hRa
     have HF3 := hide hF3
     have HP3 := hide hP3
     have HR3 := hide hR3
     have HB3 := hide hb3
     have HC3 := hide hc3
     have HRE := hide hre3
     have hlen : (ns ++ ms ++ ks).length ≤ 1000 := by have := HP.out.bound; have := HB1.out; have := HL2.out; simp only [List.length_append]; omega
     have HLen := hide hlen
     clear hF3 hA3 hP3 hR3 hb3 hc3 hre3 hRa hx hxe hy hye hlen
     go_wp2_with fail
     refine (add_any B P text at3 (ns ++ ms ++ ks) 3 a.ix a3.ix .nilFunc (a.re.nullable || a3.re.nullable) false w3 HP3.out HLen.out HE.out (.inl rfl)).mono ?_
     rintro e w4 ⟨rfl, hP4, hF4⟩
     have HP4 := hide hP4
     have HF4 := hide hF4
     clear hP4 hF4
     obtain ⟨j, hj⟩ : ∃ j, j = (ns ++ ms ++ ks).length := ⟨_, rfl⟩
     rw [← hj]
     have HJ := hide hj
     clear hj
     go_wp2_with fail
     go_roundg (1 + (rest text at3).length)
     case measure => have := HK.out; have := HL2.out; have := HB3.out; omega
     case rel =>
      refine ⟨((HF.out.trans HF2.out).trans HF3.out).trans HF4.out, .inl ⟨rfl, .alt j a a3, at3, ms ++ ks ++ [⟨3, .nilFunc, a.ix, a3.ix, a.re.nullable || a3.re.nullable⟩], rfl, ?_, ?_, ?_, rfl, ?_⟩⟩
      ·rw [← List.append_assoc, ← List.append_assoc]; exact HP4.out
      ·rw [← List.append_assoc, ← List.append_assoc]
       refine ⟨?_, ⟨.nilFunc, ?_⟩, (HRa.out.world HF4.out.stay).append, (HR3.out.world HF4.out.stay).append⟩
       ·rw [HJ.out]; have := pos_of_eps H0.out; simp only [List.length_append] at this ⊢; omega
       ·rw [HJ.out]; exact ix_last _
      ·have h1 := HB1.out
       have h2 := HB3.out
       have h3 := HL2.out
       simp only [List.length_append, List.length_cons, List.length_nil]
       omega
      ·intro o ho
       refine HM.out o ?_
       rw [H2.out]
       refine .more HC3.out ?_
       rw [← HRE.out]
       exact ho
    ·have HF3 := hide hF3
     have HA3 := hide (pcatR_none hA3)
     clear hF3 hA3
     go_wp2_with fail
     go_roundg 0
     case measure => have := HK.out; omega
     case rel =>
      refine ⟨(HF.out.trans HF2.out).trans HF3.out, .inr ⟨rfl, rfl, ⟨a.ix, rfl⟩, HM.out none ?_⟩⟩
      rw [H2.out]
      exact .bad HA3.out
   ·subst hat2
    have HP2 := hide hP2
    have HF2 := hide hF2
    have H2 := hide h2
    clear hP2 hF2 h2
    go_wp2_with fail
    go_ret2
    exact ⟨HF.out.trans HF2.out, .inl ⟨a, at2, ms, by simp, HM.out _ (.stop H2.out), HP2.out, HR1.out.world HF2.out.stay, by have := HB1.out; omega⟩⟩
  ·have HF := hide hF
   have HM := hide hm
   clear hF hm hk
   go_wp2_with fail
   go_ret2
   exact ⟨HF.out, .inr ⟨i, by simp, HM.out⟩⟩
theorem choices_all (n : Nat) : ChoicesAt n := by
 induction n with
 | zero => intro B P text at_ ns w _ h; omega
 | succ n ih => intro B P text at_ ns w hP h; exact choices_any n ih B P text at_ ns w hP (by omega)
def nd0 : Nd Value := ⟨0, .nilFunc, 0, 0, true⟩
def pw (w : World) (s : ByteArray) : World :=
 ((w.alloc (.cells #[.slice none 0 0, .int .i64 0] 184)).alloc (.cells #[.int .i64 0, .nilFunc, .int .i64 0, .int .i64 0, .bool true] 292)).alloc
  (.cells #[.string s, .int .i64 0, .slice (some ⟨w.heap.size + 1, 0, none⟩) 1 1] 257)
theorem pw_below (w : World) (s : ByteArray) : Below w.heap.size w (pw w s) :=
 (((Below.refl _ _).alloc (Nat.le_refl _) _).alloc (by simp) _).alloc (by simp; omega) _
theorem pw_R (w : World) (s : ByteArray) : (pw w s).heap[w.heap.size]? = some (.cells #[.slice none 0 0, .int .i64 0] 184 (0, 0)) :=
 heap_alloc_old (heap_alloc_old (heap_alloc_last w _))
theorem pw_pre (w : World) (s : ByteArray) (h : s.size ≤ 60) : Pre w.heap.size (w.heap.size + 1 + 1) s 0 [nd0] (pw w s) := by
 refine ⟨⟨⟨.slice (some ⟨w.heap.size + 1, 0, none⟩) 1 1, ?_, ?_⟩, Nat.zero_le _, h, by omega⟩, ⟨.nilFunc, rfl⟩, ?_⟩
 ·have := heap_alloc_last ((w.alloc (.cells #[.slice none 0 0, .int .i64 0] 184)).alloc (.cells #[.int .i64 0, .nilFunc, .int .i64 0, .int .i64 0, .bool true] 292)) (.cells #[.string s, .int .i64 0, .slice (some ⟨w.heap.size + 1, 0, none⟩) 1 1] 257)
  simpa [pw] using this
 ·refine ⟨⟨rfl, .inr ⟨w.heap.size + 1, 1, #[.int .i64 0, .nilFunc, .int .i64 0, .int .i64 0, .bool true], rfl, by omega, ?_, Nat.le_refl _, by unfold maxLen; omega, rfl, rfl⟩⟩, fun d hd => by simp at hd; subst hd; exact .inl rfl⟩
  have := heap_alloc_last (w.alloc (.cells #[.slice none 0 0, .int .i64 0] 184)) (.cells #[.int .i64 0, .nilFunc, .int .i64 0, .int .i64 0, .bool true] 292)
  exact heap_alloc_old (by simpa using this)
 ·rw [length_rest]; simp only [List.length_cons, List.length_nil]; omega
def ParsePost (s : ByteArray) (w : World) (e : Ending) (w' : World) : Prop :=
 Below w.heap.size w w' ∧ ((60 < s.size ∧ e = .returned (.tuple #[.agg #[.slice none 0 0, .int .i64 0], .int .i64 1])) ∨
  (s.size ≤ 60 ∧ (PAlt s.data.toList none ∨ ∃ r s', s' ≠ [] ∧ PAlt s.data.toList (some (r, s'))) ∧ e = .returned (.tuple #[.agg #[.slice none 0 0, .int .i64 0], .int .i64 6])) ∨
  (s.size ≤ 60 ∧ ∃ (sv : Value) (a : ARe) (ns : List (Nd Value)), e = .returned (.tuple #[.agg #[sv, .int .i64 a.ix], .int .i64 0]) ∧ PAlt s.data.toList (some (a.re, [])) ∧
   Lists w' w.heap.size sv ns ∧ Rep (IsCls w') ns a ∧ Rep (IsCls w') ns .eps ∧ ns.length ≤ 200))
set_option maxHeartbeats 1000000 in
theorem parse_long (s : ByteArray) (w : World) (hs : s.size ≤ maxLen) (h : 60 < s.size) :
  Calls Tryz.prog 100 #[.string s] w (ParsePost s w) := by
 unfold maxLen at hs
 go_enter Tryz.func100, Tryz.ntmps100
 go_wp2
 exact bodyPost_ret (v := .tuple #[.agg #[.slice none 0 0, .int .i64 0], .int .i64 1]) (by simp [results, Tryz.results100, go_sem]) rfl ⟨(Below.refl _ _).alloc (Nat.le_refl _) _, .inl ⟨h, rfl⟩⟩
theorem rest_zero (s : ByteArray) : rest s 0 = s.data.toList := by simp [rest]
theorem Below.trans_pfr {w w1 w2 : World} (h : Below w.heap.size w w1) (k : PFr w.heap.size w1 w2) : Below w.heap.size w w2 := h.trans (k.below h.size)
theorem parse_end {s : ByteArray} {w w1 : World} {sv : Value} {a : ARe} {at' : Nat} {ns : List (Nd Value)} (h : s.size ≤ 60) (hF : PFr w.heap.size (pw w s) w1) (hA : PAlt (rest s 0) (some (a.re, rest s at'))) (hat : at' = s.size)
  (hL : Lists w1 w.heap.size sv ns) (hR : Rep (IsCls w1) ns a) (h0 : Rep (IsCls w1) ns .eps) (hn : ns.length ≤ 200) (i : Value) :
  ParsePost s w (.returned (.tuple #[.agg #[sv, .int .i64 a.ix], .int .i64 0])) ((w1.setCell ⟨w.heap.size, 0, none⟩ sv).setCell ⟨w.heap.size, 1, none⟩ i) := by
 have hb := Below.trans_pfr (pw_below w s) hF
 have hRr := hF.other (pw_R w s) (by decide) (by decide)
 have hne : ∀ (k : Nat) c t, t ≠ 184 → w1.heap[k]? = some (.cells c t (0, 0)) → ((w1.setCell ⟨w.heap.size, 0, none⟩ sv).setCell ⟨w.heap.size, 1, none⟩ i).heap[k]? = some (.cells c t (0, 0)) := by
  intro k c t ht hk
  have hkw : k ≠ w.heap.size := by
   rintro rfl
   rw [hRr] at hk
   simp at hk
   exact ht hk.2.symm
  rw [Below.heap_setCell _ _ _ _ (by exact hkw), Below.heap_setCell _ _ _ _ (by exact hkw)]
  exact hk
 have hst : Stay w1 ((w1.setCell ⟨w.heap.size, 0, none⟩ sv).setCell ⟨w.heap.size, 1, none⟩ i) := fun k c t ht hk => hne k c t (by rcases ht with rfl | rfl <;> decide) hk
 refine ⟨(hb.setCell (Nat.le_refl _) _).setCell (Nat.le_refl _) _, .inr (.inr ⟨h, sv, a, ns, rfl, ?_, ?_, hR.world hst, h0.world hst, hn⟩)⟩
 ·rw [← rest_zero, ← rest_nil (text := s) (at_ := at') (by omega)]; exact hA
 ·refine hL.keep fun k hk => ?_
  obtain ⟨_, cur, hc⟩ := hL.block hk
  rw [hc]
  exact hne k _ _ (by decide) hc
set_option maxHeartbeats 1000000 in
theorem parse_short (s : ByteArray) (w : World) (h : s.size ≤ 60) :
  Calls Tryz.prog 100 #[.string s] w (ParsePost s w) := by
 have hg : decide ((60 : Int) < (s.size : Int)) = false := by simp; omega
 go_enter Tryz.func100, Tryz.ntmps100
 go_wp2_with (first | (go_at_call 138; go_in))
 refine (choices_all 61 w.heap.size (w.heap.size + 1 + 1) s 0 [nd0] (pw w s) (pw_pre w s h) (by rw [length_rest]; omega)).mono ?_
 rintro e w1 ⟨hF, ⟨a, at1, ms, rfl, hA, hP, hR, hb⟩ | ⟨i, rfl, hA⟩⟩
 ·have hRr := hF.other (pw_R w s) (by decide) (by decide)
  have r0 : w1.cell? ⟨w.heap.size, 0, none⟩ = some (.slice none 0 0) := by simp [World.cell?, hRr]
  have r1 : w1.cell? ⟨w.heap.size, 1, none⟩ = some (.int .i64 0) := by simp [World.cell?, hRr]
  have g0 : w1.frozen? ⟨w.heap.size, 0, none⟩ = false := by simp [World.frozen?, hRr]
  have g1 : w1.frozen? ⟨w.heap.size, 1, none⟩ = false := by simp [World.frozen?, hRr]
  have HF := hide hF
  have HA := hide hA
  have HP := hide hP
  have HR := hide hR
  have H0 := hide (((pw_pre w s h).eps.append (ms := ms)).world hF.stay)
  have HB := hide hb
  obtain ⟨c0, c1, -⟩ := hP.cells
  have hle := hP.le
  obtain ⟨⟨sv, hp1, hp2⟩, -⟩ := hP
  have c2 : w1.cell? ⟨w.heap.size + 1 + 1, 2, none⟩ = some sv := by simp [World.cell?, hp1]
  have HL := hide hp2
  clear hF hA hR hb hp1 hp2 hRr
  by_cases hat : at1 < s.size
  ·have hg2 : decide ((at1 : Int) < (s.size : Int)) = true := by simpa using hat
   go_wp2_with fail
   refine bodyPost_ret (v := .tuple #[.agg #[.slice none 0 0, .int .i64 0], .int .i64 6]) (by simp [results, Tryz.results100, go_sem, *]) rfl ?_
   refine ⟨?_, .inr (.inl ⟨h, .inr ⟨a.re, rest s at1, ?_, by rw [← rest_zero]; exact HA.out⟩, rfl⟩)⟩
   ·exact ((Below.trans_pfr (pw_below w s) HF.out).setCell (Nat.le_refl _) _).setCell (Nat.le_refl _) _
   ·rw [rest_cons hat]; simp
  ·have hat' : at1 = s.size := by omega
   have hg2 : decide (at1 < s.size) = false := by simp; omega
   have HAT := hide hat'
   clear hat hat'
   have HLen := hide (show ([nd0] ++ ms).length ≤ 200 by have := HB.out; rw [length_rest, length_rest] at this; simp only [List.length_append, List.length_cons, List.length_nil]; omega)
   have hsv : ∃ g cap, sv = .slice (some ⟨g, 0, none⟩) ([nd0] ++ ms).length cap := own_form HL.out.1 (by simp)
   obtain ⟨g, cap, rfl⟩ := hsv
   go_wp2_with fail
   exact bodyPost_ret (v := .tuple #[.agg #[.slice (some ⟨g, 0, none⟩) ([nd0] ++ ms).length cap, .int .i64 a.ix], .int .i64 0]) (by simp [results, Tryz.results100, go_sem, *]) rfl (parse_end h HF.out HA.out HAT.out HL.out HR.out H0.out HLen.out _)
 ·have hRr := hF.other (pw_R w s) (by decide) (by decide)
  have r0 : w1.cell? ⟨w.heap.size, 0, none⟩ = some (.slice none 0 0) := by simp [World.cell?, hRr]
  have r1 : w1.cell? ⟨w.heap.size, 1, none⟩ = some (.int .i64 0) := by simp [World.cell?, hRr]
  have g0 : w1.frozen? ⟨w.heap.size, 0, none⟩ = false := by simp [World.frozen?, hRr]
  have g1 : w1.frozen? ⟨w.heap.size, 1, none⟩ = false := by simp [World.frozen?, hRr]
  have HF := hide hF
  have HA := hide hA
  clear hF hA hRr
  go_wp2_with fail
  refine bodyPost_ret (v := .tuple #[.agg #[.slice none 0 0, .int .i64 0], .int .i64 6]) (by simp [results, Tryz.results100, go_sem, *]) rfl ?_
  exact ⟨((Below.trans_pfr (pw_below w s) HF.out).setCell (Nat.le_refl _) _).setCell (Nat.le_refl _) _, .inr (.inl ⟨h, .inl (by rw [← rest_zero]; exact HA.out), rfl⟩)⟩
theorem parse_any (s : ByteArray) (w : World) (hs : s.size ≤ maxLen) : Calls Tryz.prog 100 #[.string s] w (ParsePost s w) := by
 by_cases h : s.size ≤ 60
 ·exact parse_short s w h
 ·exact parse_long s w hs (by omega)
end Go.Proofs.YtgncgdkpkkdaeaaGreatDoor
namespace Go.Proofs.YtgncgdkpkkdaeaaGreatDoor
open Go.RowKit Tint Go.Maps
theorem laidOut : laidOutB Tryz.prog = true := by kernel_rfl
theorem law_int : Keyed Tryz.prog 3 := int_keyed Tryz.underlying3
theorem row_pair : (333 : TypeId) < Tryz.prog.types.size := of_decide_eq_true (by kernel_rfl)
theorem wide_pair : (match Tryz.prog.underlying 333 with | some (.array _ _) | some (.struct _) => true | _ => false) = true := by kernel_rfl
set_option maxRecDepth 100000 in
theorem law_pair : Keyed Tryz.prog 333 := Keyed.of_law (deep_law_laid laidOut (m := 3) (by omega) row_pair (by kernel_rfl) wide_pair)
theorem row_given : (305 : TypeId) < Tryz.prog.types.size := of_decide_eq_true (by kernel_rfl)
theorem wide_given : (match Tryz.prog.underlying 305 with | some (.array _ _) | some (.struct _) => true | _ => false) = true := by kernel_rfl
set_option maxRecDepth 100000 in
theorem law_given : Keyed Tryz.prog 305 := Keyed.of_law (deep_law_laid laidOut (m := 3) (by omega) row_given (by kernel_rfl) wide_given)
set_option maxRecDepth 100000 in
theorem tiled_pair : Tryz.prog.tiled 3 333 = true := tiled_of_laidOut laidOut 3 _ (by kernel_rfl) (by kernel_rfl)
set_option maxRecDepth 100000 in
theorem tiled_given : Tryz.prog.tiled 3 305 = true := tiled_of_laidOut laidOut 3 _ (by kernel_rfl) (by kernel_rfl)
theorem wf_nat (a : Nat) (h : a ≤ 1000000000000) : (Lit.int .i64 (a : Int)).wf = true := by
 exact WalkArith.wf_i64 (by omega)
theorem size_types : ∃ m, Tryz.prog.types.size = m + 1 := ⟨Tryz.prog.types.size - 1, by kernel_rfl⟩
theorem keyType_pair : Tryz.prog.keyType 333 = true := by kernel_rfl
theorem keyType_given : Tryz.prog.keyType 305 = true := by kernel_rfl
theorem cellsOf_pair : Tryz.prog.cellsOf 333 = 2 := by kernel_rfl
theorem cellsOf_given : Tryz.prog.cellsOf 305 = 2 := by kernel_rfl
theorem cellsOf_int : Tryz.prog.cellsOf 3 = 1 := by kernel_rfl
theorem cellsOf_u8 : Tryz.prog.cellsOf 5 = 1 := by kernel_rfl
theorem lits_int (m : Nat) (a : Int) (h : (Lit.int .i64 a).wf = true) : Tryz.prog.keyLits (m + 1) 3 [.int .i64 a] = some [.int .i64 a] := by
 unfold Program.keyLits
 simp [Tryz.underlying3, h]
theorem lits_u8 (m : Nat) (a : Int) (h : (Lit.int .u8 a).wf = true) : Tryz.prog.keyLits (m + 1) 5 [.int .u8 a] = some [.int .u8 a] := by
 unfold Program.keyLits
 simp [Tryz.underlying5, h]
theorem key_pair (a b : Nat) (ha : a ≤ 1000000000000) (hb : b ≤ 1000000000000) : ∃ kl, keyOf Tryz.prog 333 (.agg #[.int .i64 a, .int .i64 b]) = some kl := by
 have wa := wf_nat a ha
 have wb := wf_nat b hb
 obtain ⟨m, hm⟩ := size_types
 refine ⟨.string (keyBytes [.int .i64 a, .int .i64 b]), ?_⟩
 have h1 : Tryz.prog.keyLits (m + 1 + 1) 333 [.int .i64 a, .int .i64 b] = some [.int .i64 a, .int .i64 b] := by
  unfold Program.keyLits
  simp [Tryz.underlying333, cellsOf_pair, cellsOf_int, lits_int, wa, wb]
 simp only [keyOf, Tryz.underlying333, keyType_pair, hm]
 simp [Value.formed, cellsOf_pair, h1, Value.cells, Tryz.underlying333]
theorem wf_u8 (b : UInt8) : (Lit.int .u8 (b.toNat : Int)).wf = true := by
 have := b.toNat_lt
 have h1 : IntKind.u8.min = 0 := rfl
 have h2 : IntKind.u8.max = 255 := rfl
 simp only [Lit.wf, h1, h2, Bool.and_eq_true, decide_eq_true_eq]
 omega
theorem key_given (a : Nat) (b : UInt8) (ha : a ≤ 1000000000000) : ∃ kl, keyOf Tryz.prog 305 (.agg #[.int .i64 a, .int .u8 b.toNat]) = some kl := by
 have wa := wf_nat a ha
 have wb := wf_u8 b
 obtain ⟨m, hm⟩ := size_types
 refine ⟨.string (keyBytes [.int .i64 a, .int .u8 b.toNat]), ?_⟩
 have h1 : Tryz.prog.keyLits (m + 1 + 1) 305 [.int .i64 a, .int .u8 b.toNat] = some [.int .i64 a, .int .u8 b.toNat] := by
  unfold Program.keyLits
  simp [Tryz.underlying305, cellsOf_given, cellsOf_int, cellsOf_u8, lits_int, lits_u8, wa, wb]
 simp only [keyOf, Tryz.underlying305, keyType_given, hm]
 simp [Value.formed, cellsOf_given, h1, Value.cells, Tryz.underlying305]
set_option maxRecDepth 100000 in
theorem inj_pair {a b : Value} {l : Lit} (ha : keyOf Tryz.prog 333 a = some l) (hb : keyOf Tryz.prog 333 b = some l) : a = b := keyOf_inj_deep tiled_pair wide_pair ha hb
set_option maxRecDepth 100000 in
theorem inj_given {a b : Value} {l : Lit} (ha : keyOf Tryz.prog 305 a = some l) (hb : keyOf Tryz.prog 305 b = some l) : a = b := keyOf_inj_deep tiled_given wide_given ha hb
structure KeyT (κ : Type) where
 K : TypeId
 kv : κ → Value
 ok : κ → Prop
 keyed : Keyed Tryz.prog K
 key : ∀ x, ok x → ∃ kl, keyOf Tryz.prog K (kv x) = some kl
 inj : ∀ x y kl, ok x → ok y → keyOf Tryz.prog K (kv x) = some kl → keyOf Tryz.prog K (kv y) = some kl → x = y
def pairT : KeyT (Nat × Nat) where
 K := 333
 kv x := .agg #[.int .i64 x.1, .int .i64 x.2]
 ok x := x.1 ≤ 1000000000000 ∧ x.2 ≤ 1000000000000
 keyed := law_pair
 key x h := key_pair x.1 x.2 h.1 h.2
 inj x y kl _ _ h1 h2 := by
  have := inj_pair h1 h2
  simp at this
  exact Prod.ext (by omega) (by omega)
def givenT : KeyT (Nat × UInt8) where
 K := 305
 kv x := .agg #[.int .i64 x.1, .int .u8 x.2.toNat]
 ok x := x.1 ≤ 1000000000000
 keyed := law_given
 key x h := key_given x.1 x.2 h
 inj x y kl _ _ h1 h2 := by
  have := inj_given h1 h2
  simp at this
  exact Prod.ext (by omega) (UInt8.toNat_inj.1 (by omega))
def intT : KeyT Nat where
 K := 3
 kv x := .int .i64 x
 ok x := x ≤ 1000000000000
 keyed := law_int
 key x h := ⟨_, keyOf_int_mk Tryz.underlying3 (wf_nat x h)⟩
 inj x y kl hx hy h1 h2 := by
  rw [keyOf_int_mk Tryz.underlying3 (wf_nat x hx)] at h1
  rw [keyOf_int_mk Tryz.underlying3 (wf_nat y hy)] at h2
  rw [← h1] at h2
  simp at h2
  omega
def MapIs {κ : Type} (T : KeyT κ) (E : TypeId) (q : IntKind) (w : World) (b n : Nat) (f : κ → Option Int) : Prop :=
 ∃ D : DataW Unit, w.ownsMap Tryz.prog T.K (plainElem Tryz.prog E) b n D ∧
  ∀ x kl, T.ok x → keyOf Tryz.prog T.K (T.kv x) = some kl → Maps.has D kl = (f x).isSome ∧ D.atKey kl (.lit (.int q 0)) = .lit (.int q ((f x).getD 0))
theorem MapIs.made {κ : Type} (T : KeyT κ) (E : TypeId) (q : IntKind) (w : World) : MapIs T E q (w.alloc (.map #[] 0)) w.heap.size 0 (fun _ => none) :=
 ⟨.map [], World.ownsMap_made w _ _ _, fun _ _ _ _ => ⟨rfl, rfl⟩⟩
theorem MapIs.lt {κ : Type} {T : KeyT κ} {E : TypeId} {q : IntKind} {w : World} {b n : Nat} {f : κ → Option Int} (h : MapIs T E q w b n f) : b < w.heap.size := by
 obtain ⟨D, h, _⟩ := h; exact h.lt
theorem MapIs.keep {κ : Type} {T : KeyT κ} {E : TypeId} {q : IntKind} {w w' : World} {b n : Nat} {f : κ → Option Int} (h : MapIs T E q w b n f) (hb : w'.heap[b]? = w.heap[b]?) : MapIs T E q w' b n f := by
 obtain ⟨D, ⟨es, clock, h1, h2⟩, h3⟩ := h
 exact ⟨D, ⟨es, clock, hb.trans h1, h2⟩, h3⟩
theorem MapIs.obj {κ : Type} {T : KeyT κ} {E : TypeId} {q : IntKind} {w : World} {b n : Nat} {f : κ → Option Int} (h : MapIs T E q w b n f) : ∃ es clock, w.heap[b]? = some (.map es clock) := by
 obtain ⟨D, ⟨es, clock, h1, h2⟩, h3⟩ := h
 exact ⟨es, clock, h1⟩
theorem MapIs.look {κ : Type} {T : KeyT κ} {E : TypeId} {q : IntKind} {w : World} {b n : Nat} {f : κ → Option Int} (h : MapIs T E q w b n f) {t : TypeId} (ht : Tryz.prog.underlying t = some (.map T.K E)) (he : Tryz.prog.underlying E = some (.int q))
  (hz : ∀ w, (zeroValue E).run Tryz.prog w = .ok (.int q 0) w) (x : κ) (hx : T.ok x) :
  (Instr.lookup t (.map (some b)) (T.kv x) true).run Tryz.prog w = .ok (.tuple #[.int q ((f x).getD 0), .bool (f x).isSome]) w := by
 obtain ⟨D, h1, h2⟩ := h
 obtain ⟨kl, hkl⟩ := T.key x hx
 have hw0 : (Lit.int q 0).wf = true := by cases q <;> decide
 obtain ⟨v, ps, hrun, hv⟩ := h1.look_ok T.keyed ht (hz w) (plainElem_int he hw0) hkl
 obtain ⟨c, rfl, hc, hwc⟩ := plainElem_int_inv he hv
 simp only [Prod.mk.injEq] at hc
 obtain ⟨h3, h4⟩ := h2 x kl hx hkl
 rw [h4] at hc
 simp at hc
 rw [hrun, h3, hc.1]
theorem MapIs.store {κ : Type} [DecidableEq κ] {T : KeyT κ} {E : TypeId} {q : IntKind} {w : World} {b n : Nat} {f : κ → Option Int} (h : MapIs T E q w b n f) {t : TypeId} (ht : Tryz.prog.underlying t = some (.map T.K E)) (he : Tryz.prog.underlying E = some (.int q))
  (hn : n < 1000000000000) (x : κ) (hx : T.ok x) (c : Int) (hc : (Lit.int q c).wf = true) :
  ∃ w', (Instr.mapUpdate t (.map (some b)) (T.kv x) (.int q c)).run Tryz.prog w = .ok () w' ∧ MapIs T E q w' b (n + 1) (fun y => if y = x then some c else f y) ∧ w.grownBy w' (some b) := by
 obtain ⟨D, h1, h2⟩ := h
 obtain ⟨kl, hkl⟩ := T.key x hx
 obtain ⟨w', hrun, r1, r2⟩ := h1.update T.keyed ht (by unfold maxLen; omega) hkl (plainElem_int he hc)
 refine ⟨w', hrun, ⟨_, r1, ?_⟩, r2⟩
 have hD : IsMap D := h1.isMap
 have hk : WideAt.IsKeyLit kl := T.keyed.key hkl
 intro y ky hy hky
 by_cases e : y = x
 ·subst e
  rw [hkl] at hky
  cases hky
  simp [has_put_same hD hk, atKey_put_same hD hk]
 ·have hne : ky ≠ kl := fun e' => e (T.inj y x kl hy hx (e' ▸ hky) hkl)
  rw [has_put_other hne, atKey_put_other hne]
  simpa [e] using h2 y ky hy hky
end Go.Proofs.YtgncgdkpkkdaeaaGreatDoor
namespace Tint
inductive F2 {α β : Type} (R : α → β → Prop) : List α → List β → Prop where
 | nil : F2 R [] []
 | cons {a : α} {b : β} {l : List α} {m : List β} : R a b → F2 R l m → F2 R (a :: l) (b :: m)
theorem F2.mono {α β : Type} {R R' : α → β → Prop} (h : ∀ a b, R a b → R' a b) {l : List α} {m : List β} (f : F2 R l m) : F2 R' l m := by
 induction f with
 | nil => exact .nil
 | cons h1 _ ih => exact .cons (h _ _ h1) ih
theorem F2.length {α β : Type} {R : α → β → Prop} {l : List α} {m : List β} (f : F2 R l m) : l.length = m.length := by
 induction f with
 | nil => rfl
 | cons _ _ ih => simp [ih]
theorem F2.append {α β : Type} {R : α → β → Prop} {l l' : List α} {m m' : List β} (f : F2 R l m) (g : F2 R l' m') : F2 R (l ++ l') (m ++ m') := by
 induction f with
 | nil => exact g
 | cons h _ ih => exact .cons h ih
theorem F2.get {α β : Type} {R : α → β → Prop} {l : List α} {m : List β} (f : F2 R l m) {i : Nat} {b : β} (h : m[i]? = some b) : ∃ a, l[i]? = some a ∧ R a b := by
 induction f generalizing i with
 | nil => simp at h
 | cons h1 _ ih =>
  cases i with
  | zero => simp at h; subst h; exact ⟨_, rfl, h1⟩
  | succ i => simp at h ⊢; exact ih h
theorem F2.snoc {α β : Type} {R : α → β → Prop} {l : List α} {m : List β} {a : α} {b : β} (f : F2 R l m) (h : R a b) : F2 R (l ++ [a]) (m ++ [b]) := f.append (.cons h .nil)
def joinsA : ARe → List D
 | .eps => []
 | .cls _ _ => []
 | .seq _ x y => joinsA x ++ (allA x).map (tcat · y) ++ joinsA y
 | .alt _ x y => joinsA x ++ joinsA y
 | .star i x => joinsA x ++ (allA x).map (tcat · (.star i x))
 | .plus _ j x => joinsA x ++ (allA x).map (tcat · (.star j x))
 | .opt _ x => joinsA x
def joinsD : D → List D
 | .base a => joinsA a
 | .snoc d a => joinsD d ++ (allD d).map (tcat · a) ++ joinsA a
def ARe.sz : ARe → Nat
 | .eps => 1
 | .cls _ _ => 1
 | .seq _ a b => a.sz + b.sz + 1
 | .alt _ a b => a.sz + b.sz + 1
 | .star _ a => a.sz + 1
 | .plus _ _ a => a.sz + 2
 | .opt _ a => a.sz + 1
def D.sz : D → Nat
 | .base a => a.sz
 | .snoc d a => d.sz + a.sz
theorem ARe.sz_pos (a : ARe) : 1 ≤ a.sz := by cases a <;> simp [ARe.sz]
theorem tcat_sz (d : D) (a : ARe) : (tcat d a).sz ≤ d.sz + a.sz := by
 unfold tcat
 split
 ·simp [D.sz]
 ·simp [D.sz]
theorem sq_le {a b c : Nat} (h : a + b ≤ c) : a * a + b * b ≤ c * c := by
 have h1 : (a + b) * (a + b) ≤ c * c := Nat.mul_le_mul h h
 have h2 : (a + b) * (a + b) = a * a + b * b + 2 * (a * b) := by
  rw [Nat.add_mul, Nat.mul_add, Nat.mul_add, Nat.mul_comm b a]; omega
 omega
theorem sq_one {a c : Nat} (h : a + 1 ≤ c) : a * a + 2 * a + 1 ≤ c * c := by
 have h1 : (a + 1) * (a + 1) ≤ c * c := Nat.mul_le_mul h h
 have h2 : (a + 1) * (a + 1) = a * a + 2 * a + 1 := by
  rw [Nat.add_mul, Nat.mul_add, Nat.mul_one, Nat.one_mul]; omega
 omega
theorem allA_sz (a : ARe) : ∀ d ∈ allA a, d.sz ≤ a.sz * a.sz := by
 induction a with
 | eps => simp [allA]
 | cls i c => intro d hd; simp only [allA, List.mem_singleton] at hd; subst hd; simp [D.sz, ARe.sz]
 | seq i x y ihx ihy =>
  intro d hd
  simp only [allA, List.mem_append, List.mem_map] at hd
  have h1 := sq_le (a := x.sz) (b := y.sz + 1) (c := x.sz + y.sz + 1) (by omega)
  have h2 := sq_one (a := y.sz) (c := y.sz + 1) (by omega)
  have hx : x.sz ≤ x.sz * x.sz := Nat.le_mul_of_pos_left _ x.sz_pos
  simp only [ARe.sz]
  rcases hd with ⟨d', h, rfl⟩ | h
  ·have h3 := tcat_sz d' y
   have h4 := ihx _ h
   omega
  ·have h4 := ihy _ h
   omega
 | alt i x y ihx ihy =>
  intro d hd
  simp only [allA, List.mem_append] at hd
  have h1 := sq_le (a := x.sz) (b := y.sz) (c := x.sz + y.sz + 1) (by omega)
  simp only [ARe.sz]
  rcases hd with h | h
  ·have h4 := ihx _ h; omega
  ·have h4 := ihy _ h; omega
 | star i x ih =>
  intro d hd
  simp only [allA, List.mem_map] at hd
  obtain ⟨d', h, rfl⟩ := hd
  have h3 := tcat_sz d' (.star i x)
  have h4 := ih _ h
  have h2 := sq_one (a := x.sz) (c := x.sz + 1) (by omega)
  have := x.sz_pos
  simp only [ARe.sz] at h3 ⊢
  omega
 | plus i j x ih =>
  intro d hd
  simp only [allA, List.mem_map] at hd
  obtain ⟨d', h, rfl⟩ := hd
  have h3 := tcat_sz d' (.star j x)
  have h4 := ih _ h
  have h2 := sq_one (a := x.sz) (c := x.sz + 2) (by omega)
  have := x.sz_pos
  simp only [ARe.sz] at h3 ⊢
  omega
 | opt i x ih =>
  intro d hd
  have h4 := ih _ hd
  have h2 := sq_one (a := x.sz) (c := x.sz + 1) (by omega)
  simp only [ARe.sz]
  omega
theorem leaves_sz (a : ARe) : a.leaves ≤ a.sz := by
 induction a <;> simp_all [ARe.leaves, ARe.sz] <;> omega
theorem length_allD (d : D) : (allD d).length ≤ d.sz := by
 induction d with
 | base a => simp only [allD, length_allA, D.sz]; exact leaves_sz a
 | snoc d a ih => simp only [allD, List.length_append, List.length_map, length_allA, D.sz]; have := leaves_sz a; omega
theorem length_joinsA (a : ARe) : (joinsA a).length ≤ a.sz * a.sz := by
 induction a with
 | eps => simp [joinsA]
 | cls i c => simp [joinsA]
 | seq i x y ihx ihy =>
  have h1 := sq_le (a := x.sz + 1) (b := y.sz) (c := x.sz + y.sz + 1) (by omega)
  have h2 := sq_one (a := x.sz) (c := x.sz + 1) (by omega)
  have h3 := leaves_sz x
  simp only [joinsA, List.length_append, List.length_map, length_allA, ARe.sz]
  omega
 | alt i x y ihx ihy =>
  have h1 := sq_le (a := x.sz) (b := y.sz) (c := x.sz + y.sz + 1) (by omega)
  simp only [joinsA, List.length_append, ARe.sz]
  omega
 | star i x ih =>
  have h2 := sq_one (a := x.sz) (c := x.sz + 1) (by omega)
  have h3 := leaves_sz x
  simp only [joinsA, List.length_append, List.length_map, length_allA, ARe.sz]
  omega
 | plus i j x ih =>
  have h2 := sq_one (a := x.sz) (c := x.sz + 2) (by omega)
  have h3 := leaves_sz x
  simp only [joinsA, List.length_append, List.length_map, length_allA, ARe.sz]
  omega
 | opt i x ih =>
  have h2 := sq_one (a := x.sz) (c := x.sz + 1) (by omega)
  simp only [joinsA, ARe.sz]
  omega
theorem length_joinsD (d : D) : (joinsD d).length ≤ d.sz * d.sz := by
 induction d with
 | base a => exact length_joinsA a
 | snoc d a ih =>
  have h1 := length_joinsA a
  have h2 := length_allD d
  have h3 : d.sz * d.sz + a.sz * a.sz + 2 * (d.sz * a.sz) ≤ (d.sz + a.sz) * (d.sz + a.sz) := by
   rw [Nat.add_mul, Nat.mul_add, Nat.mul_add, Nat.mul_comm a.sz d.sz]; omega
  have h4 : d.sz ≤ d.sz * a.sz := Nat.le_mul_of_pos_right _ a.sz_pos
  simp only [joinsD, List.length_append, List.length_map, D.sz]
  omega
def shelved (a : ARe) : List D := (met a).flatMap joinsD
theorem length_flatMap_le {α β : Type} (f : α → List β) (n : Nat) : ∀ l : List α, (∀ x ∈ l, (f x).length ≤ n) → (l.flatMap f).length ≤ l.length * n
 | [], _ => by simp
 | x :: l, h => by
  have h1 := h x (by simp)
  have h2 := length_flatMap_le f n l (fun y hy => h y (by simp [hy]))
  simp only [List.flatMap_cons, List.length_append, List.length_cons]
  have h3 : (l.length + 1) * n = l.length * n + n := by rw [Nat.add_mul, Nat.one_mul]
  omega
theorem length_shelved (a : ARe) (h : a.sz ≤ 200) (hl : a.leaves ≤ 60) : (shelved a).length ≤ 100000000000 := by
 have h1 := length_flatMap_le joinsD (40000 * 40000) (met a) (fun d hd => by
  refine Nat.le_trans (length_joinsD d) ?_
  have hs : d.sz ≤ 40000 := by
   have h200 : a.sz * a.sz ≤ 200 * 200 := Nat.mul_le_mul h h
   simp only [met, List.mem_cons] at hd
   rcases hd with rfl | hd
   ·simp only [D.sz]; omega
   ·have := allA_sz a d hd; omega
  exact Nat.mul_le_mul hs hs)
 have h2 : (met a).length ≤ 61 := by rw [length_met]; omega
 have h3 : (met a).length * (40000 * 40000) ≤ 61 * (40000 * 40000) := Nat.mul_le_mul_right _ h2
 unfold shelved
 omega
theorem joins_shelved {a : ARe} {d : D} (h : d ∈ met a) : ∀ t ∈ joinsD d, t ∈ shelved a := fun _ ht => List.mem_flatMap.2 ⟨d, h, ht⟩
def ARe.lt (n0 : Nat) : ARe → Prop
 | .eps => 0 < n0
 | .cls i _ => i < n0
 | .seq i a b => i < n0 ∧ a.lt n0 ∧ b.lt n0
 | .alt i a b => i < n0 ∧ a.lt n0 ∧ b.lt n0
 | .star i a => i < n0 ∧ a.lt n0
 | .plus i j a => i < n0 ∧ j < n0 ∧ a.lt n0
 | .opt i a => i < n0 ∧ a.lt n0
theorem ARe.lt.lt_ix {n0 : Nat} {a : ARe} (h : a.lt n0) : a.ix < n0 := by
 cases a with
 | eps => exact h
 | cls i c => exact h
 | seq i a b => exact h.1
 | alt i a b => exact h.1
 | star i a => exact h.1
 | plus i j a => exact h.1
 | opt i a => exact h.1
theorem Rep.all_lt {α : Type} {isC : α → Cls → Prop} {ns : List (Nd α)} {a : ARe} (h : Rep isC ns a) : a.lt ns.length := by
 have hl : ∀ {i : Nat} {nd : Nd α}, ns[i]? = some nd → i < ns.length := fun {i nd} h => by
  rcases Nat.lt_or_ge i ns.length with h' | h'
  ·exact h'
  ·rw [List.getElem?_eq_none h'] at h; cases h
 induction a with
 | eps => obtain ⟨_, h⟩ := h; exact hl h
 | cls i c => obtain ⟨_, _, h, _⟩ := h; exact hl h
 | seq i a b iha ihb => obtain ⟨_, ⟨_, h⟩, h1, h2⟩ := h; exact ⟨hl h, iha h1, ihb h2⟩
 | alt i a b iha ihb => obtain ⟨_, ⟨_, h⟩, h1, h2⟩ := h; exact ⟨hl h, iha h1, ihb h2⟩
 | star i a ih => obtain ⟨_, ⟨_, h⟩, h1⟩ := h; exact ⟨hl h, ih h1⟩
 | plus i j a ih => obtain ⟨_, _, ⟨_, h⟩, ⟨_, h'⟩, h1⟩ := h; exact ⟨hl h, hl h', ih h1⟩
 | opt i a ih => obtain ⟨_, ⟨_, h⟩, h1⟩ := h; exact ⟨hl h, ih h1⟩
def RepD {α : Type} (isC : α → Cls → Prop) (n0 : Nat) (ns : List (Nd α)) : D → Nat → Prop
 | .base a, k => k = a.ix ∧ a.lt n0 ∧ Rep isC ns a
 | .snoc d a, k => n0 ≤ k ∧ a.lt n0 ∧ Rep isC ns a ∧ ∃ m, m ≠ 0 ∧ RepD isC n0 ns d m ∧ ∃ h, ns[k]? = some ⟨2, h, m, a.ix, d.re.nullable && a.re.nullable⟩
theorem RepD.mono {α : Type} {isC isC' : α → Cls → Prop} {n0 : Nat} {ns ns' : List (Nd α)} (hc : ∀ h c, isC h c → isC' h c) (hn : ∀ (i : Nat) nd, ns[i]? = some nd → ns'[i]? = some nd) {d : D} {k : Nat} (h : RepD isC n0 ns d k) : RepD isC' n0 ns' d k := by
 induction d generalizing k with
 | base a => obtain ⟨h1, h2, h3⟩ := h; exact ⟨h1, h2, h3.mono hc hn⟩
 | snoc d a ih =>
  obtain ⟨h1, h2, h3, m, h4, h5, x, h6⟩ := h
  exact ⟨h1, h2, h3.mono hc hn, m, h4, ih h5, x, hn _ _ h6⟩
theorem get_append_left {α : Type} {ns ms : List α} {i : Nat} {x : α} (h : ns[i]? = some x) : (ns ++ ms)[i]? = some x := by
 rcases Nat.lt_or_ge i ns.length with h' | h'
 ·rw [List.getElem?_append_left h']; exact h
 ·rw [List.getElem?_eq_none h'] at h; cases h
theorem RepD.append {α : Type} {isC : α → Cls → Prop} {n0 : Nat} {ns ms : List (Nd α)} {d : D} {k : Nat} (h : RepD isC n0 ns d k) : RepD isC n0 (ns ++ ms) d k :=
 h.mono (fun _ _ h => h) (fun _ _ h => get_append_left h)
theorem RepD.empty {α : Type} {isC : α → Cls → Prop} {n0 : Nat} {ns : List (Nd α)} {d : D} {k : Nat} (h : RepD isC n0 ns d k) : ∃ nd, ns[k]? = some nd ∧ nd.empty = d.re.nullable := by
 cases d with
 | base a => obtain ⟨rfl, _, h⟩ := h; exact h.empty
 | snoc d a => obtain ⟨_, _, _, m, _, _, x, h⟩ := h; exact ⟨_, h, rfl⟩
theorem RepD.lt {α : Type} {isC : α → Cls → Prop} {n0 : Nat} {ns : List (Nd α)} {d : D} {k : Nat} (h : RepD isC n0 ns d k) : k < ns.length := by
 obtain ⟨nd, h, _⟩ := h.empty
 rcases Nat.lt_or_ge k ns.length with h' | h'
 ·exact h'
 ·rw [List.getElem?_eq_none h'] at h; cases h
theorem Rep.zero {α : Type} {isC : α → Cls → Prop} {ns : List (Nd α)} {a : ARe} (h : Rep isC ns a) (h0 : a.ix = 0) : a = .eps := by
 cases a with
 | eps => rfl
 | cls i c => exact absurd h0 h.1
 | seq i a b => exact absurd h0 h.1
 | alt i a b => exact absurd h0 h.1
 | star i a => exact absurd h0 h.1
 | plus i j a => exact absurd h0 h.1
 | opt i a => exact absurd h0 h.1
theorem RepD.zero {α : Type} {isC : α → Cls → Prop} {n0 : Nat} {ns : List (Nd α)} {d : D} (hn : 0 < n0) (h : RepD isC n0 ns d 0) : d = .base .eps := by
 cases d with
 | base a => obtain ⟨h1, _, h⟩ := h; rw [h.zero h1.symm]
 | snoc d a => obtain ⟨h1, _⟩ := h; omega
theorem RepD.pos {α : Type} {isC : α → Cls → Prop} {n0 : Nat} {ns : List (Nd α)} {d : D} {k : Nat} (h : RepD isC n0 ns d k) (hk : k ≠ 0) (a : ARe) : tcat d a = .snoc d a := by
 unfold tcat
 split
 ·obtain ⟨h1, _⟩ := h; exact absurd h1 hk
 ·rfl
def Uniq {α : Type} (n0 : Nat) (ns : List (Nd α)) : Prop := ∀ (j k : Nat) nd nd', n0 ≤ j → n0 ≤ k → ns[j]? = some nd → ns[k]? = some nd' → nd.left = nd'.left → nd.right = nd'.right → j = k
theorem RepD.func {α : Type} {isC : α → Cls → Prop} {n0 : Nat} {ns : List (Nd α)} (hu : Uniq n0 ns) {d : D} {k k' : Nat} (h : RepD isC n0 ns d k) (h' : RepD isC n0 ns d k') : k = k' := by
 induction d generalizing k k' with
 | base a => rw [h.1, h'.1]
 | snoc d a ih =>
  obtain ⟨h1, _, _, m, _, h2, x, h3⟩ := h
  obtain ⟨h1', _, _, m', _, h2', x', h3'⟩ := h'
  exact hu k k' _ _ h1 h1' h3 h3' (ih h2 h2') rfl
theorem pigeon {α β : Type} [DecidableEq β] {R : α → β → Prop} (hf : ∀ a b b', R a b → R a b' → b = b') {l : List β} {P : List α} (hn : l.Nodup) (h : ∀ b ∈ l, ∃ a ∈ P, R a b) : l.length ≤ P.length := by
 classical
 let f : α → Option β := fun a => if h : ∃ b, R a b then some h.choose else none
 have h1 : ∀ b ∈ l, b ∈ P.filterMap f := by
  intro b hb
  obtain ⟨a, ha, hr⟩ := h b hb
  refine List.mem_filterMap.2 ⟨a, ha, ?_⟩
  have he : ∃ b, R a b := ⟨b, hr⟩
  simp only [f, dif_pos he]
  rw [hf a _ _ he.choose_spec hr]
 exact Nat.le_trans (nodup_length_le hn h1) (List.length_filterMap_le f P)
theorem length_pdA (b : UInt8) (a : ARe) : (pdA b a).length ≤ a.sz := by
 induction a with
 | eps => simp [pdA, ARe.sz]
 | cls i c => simp only [pdA]; split <;> simp [ARe.sz]
 | seq i x y ihx ihy =>
  simp only [pdA, List.length_append, List.length_map, ARe.sz]
  split <;> (try simp only [List.length_nil]) <;> omega
 | alt i x y ihx ihy => simp only [pdA, List.length_append, ARe.sz]; omega
 | star i x ih => simp only [pdA, List.length_map, ARe.sz]; omega
 | plus i j x ih => simp only [pdA, List.length_map, ARe.sz]; omega
 | opt i x ih => simp only [pdA, ARe.sz]; omega
theorem length_pd (b : UInt8) (d : D) : (pd b d).length ≤ d.sz := by
 induction d with
 | base a => exact length_pdA b a
 | snoc d a ih =>
  have := length_pdA b a
  simp only [pd, List.length_append, List.length_map, D.sz]
  split <;> (try simp only [List.length_nil]) <;> omega
end Tint
namespace Go.Proofs.YtgncgdkpkkdaeaaGreatDoor
open Go.RowKit Tint Go.Maps
theorem Below.drewN' {B : Nat} {a w : World} (h : Below B a w) (n : Nat) : Below B a (w.drewN n) := ⟨h.os, h.tape, h.output, h.size, h.block⟩
theorem step_append_at {P : Program} {ops : Array Oper} {o : Oper} {a : Act} {w : World} {K : Act → World → Prop} {Q : Exit → Act → World → Prop} {E : Prop}
  (hg : o.guard = none) (s x : Operand) (t : TypeId) (hop : o.op = Op.call { callee := Callee.builtin Builtin.append, args := #[s, x], argTypes := #[t, t] })
  (base : Nat) (e : TypeId) (i : TypeInfo) (z : Value) (size bytes : Nat) (h1 : P.underlying t = some (.slice e)) (h2 : P.info? e = some i) (h3 : i.zero = some z) (h4 : i.size = size) (h5 : i.bytes = bytes) (h6 : z.cells.size = size) (h7 : 0 < size)
  (v : Value) (n : Nat) (xs : List Value) (hs : a.eval s = v) (hown : w.ownsRow base e size v n xs)
  (ad : Addr) (m c : Nat) (news : List Value) (hx : a.eval x = .slice (some ad) m c) (hn : news.length = m * size) (hc : ∀ j u, news[j]? = some u → w.cell? (ad.add j) = some u) (h1c : ∀ u ∈ news, u.oneCell' = true)
  (b1 : n + m ≤ maxLen) (b2 : (n + m) * bytes ≤ 140737488355328) (hb : base ≤ w.heap.size)
  (hK : ∀ v' w', w'.ownsRow base e size v' (n + m) (xs ++ news) → w.grownBy w' v.ownBlock → (v'.ownBlock = v.ownBlock ∨ v'.ownBlock = some w.heap.size) → K (a.put o.dst v') w') :
  if Region.wanted o (yielded ops a.tmps) = true then Oper.wp P o a w K Q else E := by
 have hw : Region.wanted o (yielded ops a.tmps) = true := by simp [Region.wanted, hg]
 rw [if_pos hw]
 obtain ⟨v', w', hr, r2, r3, r4, r5⟩ := run_append_own_at (P := P) w base t o.type e i z size bytes h1 h2 h3 h4 h5 h6 h7 v n xs hown ad m c news hn hc h1c b1 b2 hb
 unfold Oper.wp execOp
 simp only [hop, resolve, invoke, builtin, Sem.run_bind, Sem.run_pure, Result.andThen_ok, List.map_toArray, List.map_cons, List.map_nil, hs, hx, hr]
 exact hK v' w' r2 r3 r5
end Go.Proofs.YtgncgdkpkkdaeaaGreatDoor
namespace Tint
def Re.sz : Re → Nat
 | .eps => 1
 | .cls _ => 1
 | .seq a b => a.sz + b.sz + 1
 | .alt a b => a.sz + b.sz + 1
 | .star a => a.sz + 1
 | .plus a => a.sz + 2
 | .opt a => a.sz + 1
def Re.leaves : Re → Nat
 | .eps => 0
 | .cls _ => 1
 | .seq a b => a.leaves + b.leaves
 | .alt a b => a.leaves + b.leaves
 | .star a => a.leaves
 | .plus a => a.leaves
 | .opt a => a.leaves
theorem ARe.sz_re (a : ARe) : a.re.sz = a.sz := by induction a <;> simp_all [ARe.re, Re.sz, ARe.sz]
theorem ARe.leaves_re (a : ARe) : a.re.leaves = a.leaves := by induction a <;> simp_all [ARe.re, Re.leaves, ARe.leaves]
def szs : List Re → Nat
 | [] => 0
 | r :: rs => r.sz + 1 + szs rs
def lvs : List Re → Nat
 | [] => 0
 | r :: rs => r.leaves + lvs rs
theorem sz_seqOf : ∀ rs : List Re, (seqOf rs).sz ≤ szs rs + 1
 | [] => by simp [seqOf, Re.sz, szs]
 | [r] => by simp only [seqOf, szs]; omega
 | r :: q :: rs => by
  have := sz_seqOf (q :: rs)
  simp only [seqOf, Re.sz, szs] at *
  omega
theorem lvs_seqOf : ∀ rs : List Re, (seqOf rs).leaves ≤ lvs rs
 | [] => by simp [seqOf, Re.leaves, lvs]
 | [r] => by simp [seqOf, lvs]
 | r :: q :: rs => by
  have := lvs_seqOf (q :: rs)
  simp only [seqOf, Re.leaves, lvs] at *
  omega
mutual
theorem PAtom.size {s : List UInt8} {o : Option (Re × List UInt8)} (h : PAtom s o) : ∀ r s', o = some (r, s') → r.sz + 1 + 3 * s'.length ≤ 3 * s.length ∧ r.leaves + s'.length ≤ s.length := by
 match h with
 | .paren k => intro r s' e; cases e; have := PAlt.size k _ _ rfl; simp only [List.length_cons] at *; omega
 | .parenBad _ => intro r s' e; cases e
 | .parenOpen _ _ => intro r s' e; cases e
 | .dot => intro r s' e; cases e; simp [Re.sz, Re.leaves]; omega
 | .cls k =>
  rename_i s o
  intro r s' e
  cases o with
  | none => cases e
  | some p =>
   simp only [Option.map_some, Option.some.injEq, Prod.mk.injEq] at e
   obtain ⟨rfl, rfl⟩ := e
   have := PClass.len (c := p.1) (s' := p.2) k
   simp only [Re.sz, Re.leaves, List.length_cons]; omega
 | .one _ _ _ =>
  intro r s' e
  cases hp : pOne s with
  | none => rw [hp] at e; cases e
  | some p =>
   rw [hp] at e
   simp only [Option.map_some, Option.some.injEq, Prod.mk.injEq] at e
   obtain ⟨rfl, rfl⟩ := e
   have := pOne_len (b := p.1) (s' := p.2) hp
   simp only [Re.sz, Re.leaves]; omega
 termination_by structural h
theorem PPiece.size {s : List UInt8} {o : Option (Re × List UInt8)} (h : PPiece s o) : ∀ r s', o = some (r, s') → r.sz + 1 + 3 * s'.length ≤ 3 * s.length ∧ r.leaves + s'.length ≤ s.length := by
 match h with
 | .bad _ => intro r s' e; cases e
 | .star k => intro r s' e; cases e; have := PAtom.size k _ _ rfl; simp only [List.length_cons, Re.sz, Re.leaves] at *; omega
 | .plus k => intro r s' e; cases e; have := PAtom.size k _ _ rfl; simp only [List.length_cons, Re.sz, Re.leaves] at *; omega
 | .opt k => intro r s' e; cases e; have := PAtom.size k _ _ rfl; simp only [List.length_cons, Re.sz, Re.leaves] at *; omega
 | .plain k _ _ _ => intro r s' e; cases e; exact PAtom.size k _ _ rfl
 termination_by structural h
theorem PCat.size {s : List UInt8} {o : Option (List Re × List UInt8)} (h : PCat s o) : ∀ rs s', o = some (rs, s') → szs rs + 3 * s'.length ≤ 3 * s.length ∧ lvs rs + s'.length ≤ s.length := by
 match h with
 | .stop _ => intro r s' e; cases e; simp [szs, lvs]
 | .bad _ _ => intro r s' e; cases e
 | .more _ k l => intro r s' e; cases e; have := PPiece.size k _ _ rfl; have := PCat.size l _ _ rfl; simp only [szs, lvs] at *; omega
 | .moreBad _ _ _ => intro r s' e; cases e
 termination_by structural h
theorem PMore.size {k : Re} {s : List UInt8} {o : Option (Re × List UInt8)} (h : PMore k s o) : ∀ r s', o = some (r, s') → r.sz + 3 * s'.length ≤ k.sz + 3 * s.length ∧ r.leaves + s'.length ≤ k.leaves + s.length := by
 match h with
 | .stop _ => intro r s' e; cases e; simp
 | .bad _ => intro r s' e; cases e
 | .more (rs := rs) c m =>
  intro r s' e
  have h1 := PCat.size c _ _ rfl
  have h2 := PMore.size m _ _ e
  have h3 := sz_seqOf rs
  have h4 := lvs_seqOf rs
  simp only [Re.sz, Re.leaves, List.length_cons] at *
  omega
 termination_by structural h
theorem PAlt.size {s : List UInt8} {o : Option (Re × List UInt8)} (h : PAlt s o) : ∀ r s', o = some (r, s') → r.sz + 3 * s'.length ≤ 3 * s.length + 1 ∧ r.leaves + s'.length ≤ s.length := by
 match h with
 | .bad _ => intro r s' e; cases e
 | .one (rs := rs) c m =>
  intro r s' e
  have h1 := PCat.size c _ _ rfl
  have h2 := PMore.size m _ _ e
  have h3 := sz_seqOf rs
  have h4 := lvs_seqOf rs
  omega
 termination_by structural h
end
def ARe.mir : ARe → ARe
 | .eps => .eps
 | .cls i c => .cls i c
 | .seq i a b => .seq i b.mir a.mir
 | .alt i a b => .alt i a.mir b.mir
 | .star i a => .star i a.mir
 | .plus i j a => .plus i j a.mir
 | .opt i a => .opt i a.mir
theorem ARe.mir_ix (a : ARe) : a.mir.ix = a.ix := by cases a <;> rfl
theorem ARe.mir_re (a : ARe) : a.mir.re = a.re.rev := by induction a <;> simp_all [ARe.mir, ARe.re, Re.rev]
theorem ARe.mir_sz (a : ARe) : a.mir.sz = a.sz := by induction a <;> simp_all [ARe.mir, ARe.sz]; omega
theorem ARe.mir_leaves (a : ARe) : a.mir.leaves = a.leaves := by induction a <;> simp_all [ARe.mir, ARe.leaves]; omega
theorem Rep.mir {α : Type} {isC : α → Cls → Prop} {ns ns' : List (Nd α)} (h2 : ∀ (i : Nat) h l r e, ns[i]? = some ⟨2, h, l, r, e⟩ → ns'[i]? = some ⟨2, h, r, l, e⟩) (hn : ∀ (i : Nat) nd, nd.kind ≠ 2 → ns[i]? = some nd → ns'[i]? = some nd) {a : ARe} (h : Rep isC ns a) : Rep isC ns' a.mir := by
 induction a with
 | eps => obtain ⟨x, h⟩ := h; exact ⟨x, hn _ _ (by simp) h⟩
 | cls i c => obtain ⟨h0, x, h1, h2⟩ := h; exact ⟨h0, x, hn _ _ (by simp) h1, h2⟩
 | seq i a b iha ihb =>
  obtain ⟨h0, ⟨x, h1⟩, h3, h4⟩ := h
  refine ⟨h0, ⟨x, ?_⟩, ihb h4, iha h3⟩
  rw [ARe.mir_ix, ARe.mir_ix, ARe.mir_re, ARe.mir_re, nullable_rev, nullable_rev, Bool.and_comm]
  exact h2 _ _ _ _ _ h1
 | alt i a b iha ihb =>
  obtain ⟨h0, ⟨x, h1⟩, h3, h4⟩ := h
  refine ⟨h0, ⟨x, ?_⟩, iha h3, ihb h4⟩
  rw [ARe.mir_ix, ARe.mir_ix, ARe.mir_re, ARe.mir_re, nullable_rev, nullable_rev]
  exact hn _ _ (by simp) h1
 | star i a ih => obtain ⟨h0, ⟨x, h1⟩, h3⟩ := h; exact ⟨h0, ⟨x, by rw [ARe.mir_ix]; exact hn _ _ (by simp) h1⟩, ih h3⟩
 | plus i j a ih => obtain ⟨h0, h0', ⟨x, h1⟩, ⟨y, h4⟩, h3⟩ := h; exact ⟨h0, h0', ⟨x, by rw [ARe.mir_ix, ARe.mir_re, nullable_rev]; exact hn _ _ (by simp) h1⟩, ⟨y, by rw [ARe.mir_ix]; exact hn _ _ (by simp) h4⟩, ih h3⟩
 | opt i a ih => obtain ⟨h0, ⟨x, h1⟩, h3⟩ := h; exact ⟨h0, ⟨x, by rw [ARe.mir_ix]; exact hn _ _ (by simp) h1⟩, ih h3⟩
end Tint
