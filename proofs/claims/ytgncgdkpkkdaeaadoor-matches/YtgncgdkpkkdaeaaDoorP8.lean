/- Parts are put one behind the other. -/
import Derived.Test.YtgncgdkpkkdaeaaDoorP7
namespace Go.Proofs.YtgncgdkpkkdaeaaDoor
open Go.RowKit Tint

theorem _root_.Tint.Rep.world {w w' : World} (h : Stay w w') {ns : List (Nd Value)} {a : ARe} (hr : Rep (IsCls w) ns a) : Rep (IsCls w') ns a :=
  hr.mono (fun _ _ hc => hc.stay h) (fun _ _ hn => hn)

/-- A slice of numbers that the parser has made. -/
def Ints (w : World) (B : Nat) (v : Value) (xs : List Nat) : Prop := w.ownsRow B 3 1 v xs.length (xs.map fun x : Nat => Value.int .i64 (x : Int))

theorem Ints.keep {w w' : World} {B : Nat} {v : Value} {xs : List Nat} (h : Ints w B v xs) (hk : ∀ (k : Nat) c, w.heap[k]? = some (.cells c 3 (0, 0)) → w'.heap[k]? = some (.cells c 3 (0, 0))) : Ints w' B v xs := by
  obtain ⟨h1, h2⟩ := h
  refine ⟨h1, ?_⟩
  rcases h2 with h2 | ⟨g, cap, cur, hv, hg, hh, r⟩
  · exact .inl h2
  · exact .inr ⟨g, cap, cur, hv, hg, hk _ _ hh, r⟩

theorem Ints.pfr {w w' : World} {B B' : Nat} {v : Value} {xs : List Nat} (h : Ints w B v xs) (hF : PFr B' w w') : Ints w' B v xs :=
  h.keep fun _ _ hh => hF.other hh (by decide) (by decide)

theorem Ints.at {w : World} {B : Nat} {v : Value} {xs : List Nat} (h : Ints w B v xs) {i x : Nat} (hi : xs[i]? = some x) :
    ∃ g cap, v = .slice (some ⟨g, 0, none⟩) xs.length cap ∧ w.cell? ⟨g, i, none⟩ = some (.int .i64 x) := by
  have hlt := get_lt hi
  obtain ⟨h1, h2⟩ := h
  rcases h2 with ⟨rfl, h0⟩ | ⟨g, cap, cur, rfl, hg, hh, hn, hc, hs, ht⟩
  · omega
  · refine ⟨g, cap, rfl, ?_⟩
    have e : (xs.map fun x : Nat => Value.int .i64 (x : Int))[i]? = some (.int .i64 x) := by simp [hi]
    rw [← ht, List.getElem?_take_of_lt (by omega)] at e
    simpa [World.cell?, hh] using e

/-- What 'inSequence' has come to: m parts are still to be put ahead. -/
def SeqLoop (B P : Nat) (text : ByteArray) (at_ : Nat) (ns : List (Nd Value)) (ps : List ARe) (w : World) (m : Nat) (whole i : Value) (wr : World) : Prop :=
  PFr B w wr ∧ m + 1 ≤ ps.length ∧ i = .int .i64 ((m : Int) - 1) ∧ ∃ (a : ARe) (ms : List (Nd Value)), whole = .int .i64 a.ix ∧ a.re = seqOf ((ps.drop m).map ARe.re) ∧
    Psr wr B P text at_ (ns ++ ms) ∧ Rep (IsCls wr) (ns ++ ms) a ∧ ms.length + m + 1 = ps.length

def SeqPost (B P : Nat) (text : ByteArray) (at_ : Nat) (ns : List (Nd Value)) (ps : List ARe) (w : World) (e : Ending) (w' : World) : Prop :=
  PFr B w w' ∧ ∃ (a : ARe) (ms : List (Nd Value)), e = .returned (.int .i64 a.ix) ∧ a.re = seqOf (ps.map ARe.re) ∧
    Psr w' B P text at_ (ns ++ ms) ∧ Rep (IsCls w') (ns ++ ms) a ∧ ms.length ≤ ps.length - 1

theorem seqOf_cons {r : Re} {rs : List Re} (h : rs ≠ []) : seqOf (r :: rs) = .seq r (seqOf rs) := by
  cases rs with
  | nil => exact absurd rfl h
  | cons b l => rfl

set_option maxHeartbeats 1000000 in
theorem inSequence_any (B B2 P : Nat) (text : ByteArray) (at_ : Nat) (ns : List (Nd Value)) (ps : List ARe) (pv : Value) (w : World) (hP : Psr w B P text at_ ns) (hn : ns.length + ps.length ≤ 900)
    (hI : Ints w B2 pv (ps.map ARe.ix)) (hA : ∀ a ∈ ps, Rep (IsCls w) ns a) (h0 : Rep (IsCls w) ns .eps) :
    Calls Tryd.prog 46 #[.pointer (some ⟨P, 0, none⟩), pv] w (SeqPost B P text at_ ns ps w) := by
  have HP := hide hP
  have HI := hide hI
  have HA := hide hA
  clear hP hI hA
  by_cases hz : ps.length = 0
  · obtain rfl : ps = [] := List.eq_nil_of_length_eq_zero hz
    have hl : ∃ ao cap, pv = .slice ao 0 cap := by
      rcases HI.out.2 with ⟨rfl, _⟩ | ⟨g, cap, _, rfl, _⟩
      · exact ⟨_, _, rfl⟩
      · exact ⟨_, _, rfl⟩
    obtain ⟨ao, cap, rfl⟩ := hl
    have H0 := hide h0
    clear h0
    go_enter Tryd.func46, Tryd.ntmps46
    go_wp2
    go_ret
    exact ⟨PFr.refl _ _, .eps, [], rfl, rfl, by simpa using HP.out, by simpa using H0.out, by simp⟩
  · obtain ⟨n, hlen⟩ : ∃ n, ps.length = n + 1 := ⟨ps.length - 1, by omega⟩
    obtain ⟨la, hla⟩ : ∃ a, ps[n]? = some a := ⟨ps[n], List.getElem?_eq_getElem (by omega)⟩
    obtain ⟨g, cap, rfl, hc⟩ := HI.out.at (i := n) (x := la.ix) (by simp [hla])
    rw [List.length_map, hlen] at HI ⊢
    have HLA := hide hla
    have HLEN := hide hlen
    have HN := hide hn
    have hn2 : n ≤ 900 := by omega
    have hz1 : ((n : Int) + 1 == 0) = false := by rw [beq_eq_false_iff_ne]; omega
    clear hla hlen hz hn h0
    go_enter Tryd.func46, Tryd.ntmps46
    go_wp2_with fail
    go_loopg [5, 6] n (fun m whole i wr => SeqLoop B P text at_ ns ps w m whole i wr)
    case atStart =>
      refine ⟨PFr.refl _ _, by rw [HLEN.out]; omega, by go_num, la, [], rfl, ?_, by simpa using HP.out, ?_, by simp [HLEN.out]⟩
      · have := HLEN.out
        rw [List.drop_eq_getElem_cons (by omega), List.drop_of_length_le (by omega)]
        rw [List.getElem?_eq_getElem (by omega)] at HLA
        have := Option.some.inj HLA.out
        simp [this, seqOf]
      · simpa using HA.out la (List.mem_of_getElem? HLA.out)
    case round =>
      obtain ⟨hF, hm, rfl, a, ms, rfl, hre, hP2, hR, hms⟩ := hrel
      cases gk with
      | zero =>
        have HF := hide hF
        have HRE := hide hre
        have HP2 := hide hP2
        have HR := hide hR
        have HMS := hide hms
        clear hF hre hP2 hR hms
        go_wp2_with fail
        go_ret
        refine ⟨HF.out, a, ms, by simp, ?_, HP2.out, HR.out, ?_⟩
        · simpa using HRE.out
        · have := HMS.out; omega
      | succ j =>
        obtain ⟨pa, hpa⟩ : ∃ a, ps[j]? = some a := ⟨ps[j], List.getElem?_eq_getElem (by omega)⟩
        have hI2 := HI.out.pfr hF
        obtain ⟨g', cap', e', hcj⟩ := hI2.at (i := j) (x := pa.ix) (by simp [hpa])
        simp only [Value.slice.injEq, Option.some.injEq, Addr.mk.injEq] at e'
        obtain ⟨⟨rfl, -⟩, -, rfl⟩ := e'
        have hjn : j < n + 1 := by have := HLEN.out; omega
        have hra : Rep (IsCls wr) (ns ++ ms) pa := ((HA.out pa (List.mem_of_getElem? hpa)).world hF.stay).append
        obtain ⟨x, hx, hxe⟩ := hra.empty
        obtain ⟨y, hy, hye⟩ := hR.empty
        have hE : Emp (ns ++ ms) 2 pa.ix a.ix (pa.re.nullable && a.re.nullable) := .inr (.inr (.inr (.inl ⟨rfl, x, y, hx, hy, by rw [hxe, hye]⟩)))
        have HF := hide hF
        have HRE := hide hre
        have HP2 := hide hP2
        have HR := hide hR
        have HMS := hide hms
        have HE := hide hE
        have HRA := hide hra
        have HPA := hide hpa
        have hlen2 : (ns ++ ms).length ≤ 1000 := by have := HN.out; simp; omega
        have HLN := hide hlen2
        clear hF hre hP2 hR hms hE hra hpa hx hy hxe hye hI2 hlen2
        go_wp2_with fail
        refine (add_any B P text at_ (ns ++ ms) 2 pa.ix a.ix .nilFunc (pa.re.nullable && a.re.nullable) false wr HP2.out HLN.out HE.out (.inl rfl)).mono ?_
        rintro e w2 ⟨rfl, hP3, hF3⟩
        have HP3 := hide hP3
        have HF3 := hide hF3
        clear hP3 hF3
        go_wp2_with fail
        go_roundg j
        case measure => omega
        case rel =>
          have hst := HF3.out.stay
          refine ⟨HF.out.trans HF3.out, by omega, by go_num, .seq (ns ++ ms).length pa a, ms ++ [⟨2, .nilFunc, pa.ix, a.ix, pa.re.nullable && a.re.nullable⟩], by simp [ARe.ix], ?_, ?_, ?_, ?_⟩
          · have hl := HLEN.out
            have e1 : ps.drop j = pa :: ps.drop (j + 1) := by
              have h1 := HPA.out
              rw [List.getElem?_eq_getElem (by omega)] at h1
              rw [List.drop_eq_getElem_cons (by omega), Option.some.inj h1]
            rw [e1, List.map_cons, seqOf_cons, ← HRE.out]
            · rfl
            · intro h0
              have := congrArg List.length h0
              simp at this; omega
          · rw [← List.append_assoc]; exact HP3.out
          · rw [← List.append_assoc]
            refine ⟨?_, ⟨.nilFunc, ?_⟩, (HRA.out.world hst).append, (HR.out.world hst).append⟩
            · have := HRA.out.lt; omega
            · rw [List.getElem?_append_right (Nat.le_refl _)]; simp
          · have := HMS.out; simp; omega
end Go.Proofs.YtgncgdkpkkdaeaaDoor
