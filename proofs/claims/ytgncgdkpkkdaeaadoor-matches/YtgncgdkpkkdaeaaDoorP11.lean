/- CAT. -/
import Derived.Test.YtgncgdkpkkdaeaaDoorP10
namespace Go.Proofs.YtgncgdkpkkdaeaaDoor
open Go.RowKit Tint

theorem _root_.Tint.Rep.drewN {w : World} {ns : List (Nd Value)} {a : ARe} (h : Rep (IsCls w) ns a) (n : Nat) : Rep (IsCls (w.drewN n)) ns a :=
  Rep.world (w := w) (w' := w.drewN n) (fun _ _ _ _ h => h) h

/-- CAT, its parts put together. -/
def PCatR (s : List UInt8) (o : Option (Re × List UInt8)) : Prop := ∃ o', PCat s o' ∧ o = o'.map fun p => (seqOf p.1, p.2)

def PcsLoop (B P : Nat) (text : ByteArray) (at_ : Nat) (ns : List (Nd Value)) (w : World) (k : Nat) (pv : Value) (wr : World) : Prop :=
  PFr B w wr ∧ ∃ (at' : Nat) (ms : List (Nd Value)) (ps : List ARe), Psr wr B P text at' (ns ++ ms) ∧ Ints wr w.heap.size pv (ps.map ARe.ix) ∧ (∀ a ∈ ps, Rep (IsCls wr) (ns ++ ms) a) ∧
    ms.length + ps.length + 3 * (rest text at').length ≤ 3 * (rest text at_).length ∧ k = (rest text at').length ∧
    ∀ o, PCat (rest text at') o → PCat (rest text at_) (o.map fun p => (ps.map ARe.re ++ p.1, p.2))

theorem info_int : (Tryd.prog.info? 3).map (fun i => (i.zero, i.size, i.bytes)) = some (some (.int .i64 0), 1, 8) := by kernel_rfl

theorem next_end (d : UInt8) (s : List UInt8) (B P : Nat) (text : ByteArray) (at_ : Nat) (ns : List (Nd Value)) (w : World) (hP : Psr w B P text at_ ns) (h : rest text at_ = d :: s) (f : Bool) (hf : (d == 124 || d == 41) = f) :
    Calls Tryd.prog 44 #[.pointer (some ⟨P, 0, none⟩), .string ⟨#[124, 41]⟩] w fun e w' => e = .returned (.bool f) ∧ ∃ n, w' = w.drewN n := by
  refine (next_any ⟨#[124, 41]⟩ B P text at_ ns w hP).mono ?_
  rintro e w' ⟨rfl, n, rfl⟩
  refine ⟨?_, n, rfl⟩
  rw [h]
  simp only [List.head?_cons]
  rw [← hf]
  simp only [List.contains_cons, List.contains_nil, Bool.or_false]

theorem Ints.drewN {w : World} {B : Nat} {v : Value} {xs : List Nat} (h : Ints w B v xs) (n : Nat) : Ints (w.drewN n) B v xs := h

/-- An append to a slice of numbers of the call's own: what the parser has is as it was. -/
theorem pcs_grown {B P : Nat} {text : ByteArray} {at_ : Nat} {ns : List (Nd Value)} {w0 w w3 : World} {v : Value} {xs : List Nat} {o : Obj} (hP : Psr w B P text at_ ns) (hI : Ints w w0.heap.size v xs) (hs : w0.heap.size ≤ w.heap.size) (hF : PFr B w0 w)
    (hg : (w.alloc o).grownBy w3 v.ownBlock) : Psr w3 B P text at_ ns ∧ Stay w w3 ∧ PFr B w0 w3 := by
  have hrow : ∀ k, some k = v.ownBlock → w0.heap.size ≤ k ∧ ∃ c, w.heap[k]? = some (.cells c 3 (0, 0)) := by
    intro k hk
    rcases hI.2 with ⟨rfl, _⟩ | ⟨g, cap, cur, rfl, hg, hh, _⟩
    · cases hk
    · cases hk; exact ⟨hg, cur, hh⟩
  have hold : ∀ (k : Nat) c t fz, t ≠ 3 → w.heap[k]? = some (.cells c t fz) → w3.heap[k]? = some (.cells c t fz) := by
    intro k c t fz ht hh
    have hlt := lt_of_get hh
    rw [hg.block k (by simp; omega) (fun e => by
      obtain ⟨_, c', h'⟩ := hrow k e
      rw [hh] at h'
      simp at h'
      exact ht h'.2.1)]
    exact heap_alloc_old hh
  refine ⟨?_, ?_, ?_⟩
  · obtain ⟨⟨sv, h1, h2⟩, a, b, c⟩ := hP
    refine ⟨⟨sv, hold _ _ _ _ (by decide) h1, h2.keep fun k hk => ?_⟩, a, b, c⟩
    obtain ⟨_, cur, hc⟩ := h2.block hk
    rw [hc]
    exact hold _ _ _ _ (by decide) hc
  · intro k c t ht hh
    exact hold k c t _ (by rcases ht with rfl | rfl <;> decide) hh
  · refine ⟨hg.os.trans hF.os, hg.tape.trans hF.tape, hg.output.trans hF.output, ?_, fun k hk hn => ?_⟩
    · have := hg.size; simp at this; omega
    · rw [hg.block k (by simp; omega) (fun e => by have := (hrow k e).1; omega), Below.heap_alloc _ _ _ (by omega)]
      exact hF.keep k hk hn

-- The way out of the loop, in a world in which the parts lie.
def PcsOut (B P : Nat) (text : ByteArray) (at_ : Nat) (ns : List (Nd Value)) (w : World) (at' : Nat) (ms : List (Nd Value)) (ps : List ARe) (pv : Value) (wr : World) : Prop :=
  PFr B w wr ∧ Psr wr B P text at' (ns ++ ms) ∧ Ints wr w.heap.size pv (ps.map ARe.ix) ∧ (∀ a ∈ ps, Rep (IsCls wr) (ns ++ ms) a) ∧
    ms.length + ps.length + 3 * (rest text at').length ≤ 3 * (rest text at_).length ∧ PCat (rest text at_) (some (ps.map ARe.re, rest text at'))

theorem pcs_seq {B P : Nat} {text : ByteArray} {at_ : Nat} {ns : List (Nd Value)} {w : World} {at' : Nat} {ms : List (Nd Value)} {ps : List ARe} {pv : Value} {wr : World} (hP : Pre B P text at_ ns w) (h : PcsOut B P text at_ ns w at' ms ps pv wr) (nq : Nat) :
    Calls Tryd.prog 46 #[.pointer (some ⟨P, 0, none⟩), pv] (wr.drewN nq) (SeqPost B P text at' (ns ++ ms) ps (wr.drewN nq)) := by
  obtain ⟨hF, h1, h2, h3, h4, h5⟩ := h
  refine inSequence_any B w.heap.size P text at' (ns ++ ms) ps pv (wr.drewN nq) (h1.drewN nq) ?_ (h2.drewN nq) ?_ ?_
  · have := hP.bound; simp only [List.length_append]; omega
  · intro a ha; exact Rep.world (w := wr) (w' := wr.drewN nq) (fun _ _ _ _ h => h) (h3 a ha)
  · exact (hP.eps.append (ms := ms)).world hF.stay

theorem pcs_end {B P : Nat} {text : ByteArray} {at_ : Nat} {ns : List (Nd Value)} {w : World} {at' : Nat} {ms : List (Nd Value)} {ps : List ARe} {pv : Value} {wr : World} {nq : Nat} {e : Ending} {w' : World}
    (h : PcsOut B P text at_ ns w at' ms ps pv wr) (hs : SeqPost B P text at' (ns ++ ms) ps (wr.drewN nq) e w') :
    ∃ i : Nat, e = .returned (.int .i64 i) ∧ AltPost PCatR 0 B P text at_ ns w (.returned (.tuple #[.int .i64 i, .bool true])) w' := by
  obtain ⟨hF, h1, h2, h3, h4, h5⟩ := h
  obtain ⟨hF2, a, ks, rfl, hre, hP2, hR2, hl⟩ := hs
  refine ⟨a.ix, rfl, (hF.drewN nq).trans hF2, .inl ⟨a, at', ms ++ ks, rfl, ⟨_, h5, by rw [hre]; rfl⟩, by rw [← List.append_assoc]; exact hP2, by rw [← List.append_assoc]; exact hR2, ?_⟩⟩
  simp only [List.length_append]; omega

set_option maxHeartbeats 2000000 in
theorem pieces_any (n : Nat) (hC : ChoicesAt n) (B P : Nat) (text : ByteArray) (at_ : Nat) (ns : List (Nd Value)) (w : World) (hP : Pre B P text at_ ns w) (hn : (rest text at_).length ≤ n) :
    Calls Tryd.prog 30 #[.pointer (some ⟨P, 0, none⟩)] w (AltPost PCatR 0 B P text at_ ns w) := by
  have HP := hide hP
  have HN := hide hn
  clear hP hn
  obtain ⟨i0, hi, hz0, hz1, hz2⟩ := info_parts info_int
  go_enter Tryd.func30, Tryd.ntmps30
  go_wp2_with fail
  go_loopg [4] (rest text at_).length (fun k pv wr => PcsLoop B P text at_ ns w k pv wr)
  case atStart =>
    exact ⟨PFr.refl _ _, at_, [], [], by simpa using HP.out.psr, World.ownsRow_nil _ _ _ _, by simp, by simp, rfl, fun o h => by cases o with | none => exact h | some p => exact h⟩
  case round =>
    obtain ⟨hF, at1, ms, ps, hP1, hI, hA, hb, hk, hcont⟩ := hrel
    have HK := hide hk
    have HF := hide hF
    have HP1 := hide hP1
    have HI := hide hI
    have HA := hide hA
    have HB := hide hb
    have HCT := hide hcont
    have h0 := (HP.out.eps.append (ms := ms)).world hF.stay
    have H0 := hide h0
    obtain ⟨c0, c1, f1⟩ := hP1.cells
    have hsm := hP1.small
    have hle1 := hP1.le
    clear hF hP1 hI hA hb hcont h0 hk
    cases hr : rest text at1 with
    | nil =>
      have he := rest_eq_nil hle1 hr
      have HO := hide (show PcsOut B P text at_ ns w at1 ms ps u4 wr from ⟨HF.out, HP1.out, HI.out, HA.out, HB.out, by
        have := HCT.out (some ([], rest text at1)) (.stop (.inl hr))
        simpa using this⟩)
      have hg : decide (at1 < text.size) = false := by simp; omega
      clear hr he
      go_wp2_with fail
      go_quiet (fail)
      go_wp2_with fail
      refine (pcs_seq HP.out HO.out nq).mono ?_
      rintro e w2 hs
      obtain ⟨i, rfl, hA2⟩ := pcs_end HO.out hs
      have HA2 := hide hA2
      clear hs hA2
      go_wp2_with fail
      go_ret2
      exact HA2.out
    | cons c s =>
      obtain ⟨hlt, hc, hrs⟩ := rest_eq_cons hr
      have hg : decide ((at1 : Int) < (text.size : Int)) = true := by simpa using hlt
      have HR := hide hr
      clear hr hrs hc
      cases hd : (c == 124 || c == 41) with
      | true =>
        have HD := hide hd
        have HO := hide (show PcsOut B P text at_ ns w at1 ms ps u4 wr from ⟨HF.out, HP1.out, HI.out, HA.out, HB.out, by
          have he : atEnd (rest text at1) := by
            rw [HR.out]
            simp only [Bool.or_eq_true, beq_iff_eq] at hd
            rcases hd with rfl | rfl
            · exact .inr (.inl rfl)
            · exact .inr (.inr rfl)
          have := HCT.out (some ([], rest text at1)) (.stop he)
          simpa using this⟩)
        clear hd
        go_wp2_with fail
        go_quiet ((go_at_call 44; exact Calls.quiet_of (next_end c s B P text at1 (ns ++ ms) _ (HP1.out.drewN _) HR.out true HD.out)))
        go_wp2_with fail
        refine (pcs_seq HP.out HO.out nq).mono ?_
        rintro e w2 hs
        obtain ⟨i, rfl, hA2⟩ := pcs_end HO.out hs
        have HA2 := hide hA2
        clear hs hA2
        go_wp2_with fail
        go_ret2
        exact HA2.out
      | false =>
        have HD := hide hd
        have hne : ¬ atEnd (rest text at1) := by
          rw [HR.out]
          simp only [Bool.or_eq_false_iff, beq_eq_false_iff_ne] at hd
          rintro (h | h | h)
          · cases h
          · simp at h; exact hd.1 h
          · simp at h; exact hd.2 h
        have HNE := hide hne
        have HPre := hide (show ∀ nq, Pre B P text at1 (ns ++ ms) (wr.drewN nq) from fun nq => ⟨HP1.out.drewN nq, H0.out.world (fun _ _ _ _ h => h), by have := HP.out.bound; have := HB.out; simp only [List.length_append]; omega⟩)
        have HN1 := hide (show (rest text at1).length ≤ n by have := HN.out; have := HB.out; omega)
        clear hd hne
        go_wp2_with fail
        go_quiet ((go_at_call 44; exact Calls.quiet_of (next_end c s B P text at1 (ns ++ ms) _ (HP1.out.drewN _) HR.out false HD.out)))
        go_wp2_with fail
        refine (piece_any n hC B P text at1 (ns ++ ms) (wr.drewN nq) (HPre.out nq) HN1.out).mono ?_
        rintro e w2 ⟨hF2, ⟨a, at2, ks, rfl, hA2, hP2, hR2, hb2⟩ | ⟨i, rfl, hA2⟩⟩
        · have HF2 := hide hF2
          have HA2 := hide hA2
          have HP2 := hide hP2
          have HR2 := hide hR2
          have HB2 := hide hb2
          have HI2 := hide (show Ints w2 w.heap.size u4 (ps.map ARe.ix) from (HI.out.drewN nq).pfr hF2)
          have hpl : (ps.map ARe.ix).length + 1 ≤ 1000 := by have := HP.out.bound; have := HB.out; simp only [List.length_map]; omega
          have hbs : w.heap.size ≤ w2.heap.size := Nat.le_trans HF.out.size hF2.size
          clear hF2 hA2 hP2 hR2 hb2
          go_wp2_with (at_builtin; refine wpList_append_own _ rfl _ _ 31 rfl w.heap.size 3 i0 (.int .i64 0) 1 8 Tryd.underlying31 hi hz0 hz1 hz2 rfl (by decide) _ _ _ rfl (HI2.out.alloc _) ⟨w2.heap.size, 0, none⟩ 1 1 [.int .i64 a.ix] rfl rfl (by exact cell_new_row w2 #[.int .i64 a.ix] _) (by simp [Value.oneCell']) (by unfold maxLen; omega) (by omega) (by simp; omega) ?_; intro v' w3 hown hg hnn)
          have hg2 : (w2.alloc (.cells #[.int .i64 a.ix] 3)).grownBy w3 u4.ownBlock := hg
          obtain ⟨hP3, hS3, hF3⟩ := pcs_grown HP2.out HI2.out hbs ((HF.out.drewN nq).trans HF2.out) hg2
          have hI3 : Ints w3 w.heap.size v' ((ps ++ [a]).map ARe.ix) := by
            unfold Ints
            simpa using hown
          have HP3 := hide hP3
          have HS3 := hide hS3
          have HF3 := hide hF3
          have HI3 := hide hI3
          clear hP3 hS3 hF3 hI3 hg hg2 hown hnn
          go_wp2_with fail
          go_roundg (rest text at2).length
          case measure => have := HB2.out; rw [HK.out]; omega
          case rel =>
            refine ⟨HF3.out, at2, ms ++ ks, ps ++ [a], by rw [← List.append_assoc]; exact HP3.out, HI3.out, ?_, ?_, rfl, ?_⟩
            · intro b hb
              rw [← List.append_assoc]
              rcases List.mem_append.1 hb with hb | hb
              · exact (((Rep.drewN (HA.out b hb) nq).world HF2.out.stay).world HS3.out).append
              · simp only [List.mem_singleton] at hb
                subst hb
                exact HR2.out.world HS3.out
            · have h1 := HB2.out
              have h2 := HB.out
              simp only [List.length_append, List.length_cons, List.length_nil]
              omega
            · intro o ho
              cases o with
              | none =>
                have := HCT.out none (.moreBad HNE.out HA2.out ho)
                simpa using this
              | some p =>
                have := HCT.out (some (a.re :: p.1, p.2)) (.more HNE.out HA2.out ho)
                simpa using this
        · have HF2 := hide hF2
          have HA2 := hide hA2
          clear hF2 hA2
          go_wp2_with fail
          go_ret2
          refine ⟨(HF.out.drewN nq).trans HF2.out, .inr ⟨0, by simp, none, ?_, rfl⟩⟩
          have := HCT.out none (.bad HNE.out HA2.out)
          simpa using this
end Go.Proofs.YtgncgdkpkkdaeaaDoor
