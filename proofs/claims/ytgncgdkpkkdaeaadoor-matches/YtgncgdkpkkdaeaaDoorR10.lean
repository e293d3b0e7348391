/- What is left of a numbered expression, given a byte. -/
import Derived.Test.YtgncgdkpkkdaeaaDoorR9
import Derived.Maps.RangeWalk
import Derived.Deep.RegionHeld3
namespace Go.Proofs.YtgncgdkpkkdaeaaDoor
open Go.RowKit Tint Go.Maps

/-- A set of numbers: those of the terms of a list. -/
def SetIs (ts L : List D) (R : Nat) : Prop := (∀ t ∈ L, ∃ m, ts[m]? = some t ∧ R.testBit m = true) ∧ ∀ m, R.testBit m = true → ∃ t ∈ L, ts[m]? = some t

theorem SetIs.append {ts us L : List D} {R : Nat} (h : SetIs ts L R) : SetIs (ts ++ us) L R :=
  ⟨fun t ht => let ⟨m, h1, h2⟩ := h.1 t ht; ⟨m, get_append_left h1, h2⟩, fun m hm => let ⟨t, h1, h2⟩ := h.2 m hm; ⟨t, h1, get_append_left h2⟩⟩

theorem SetIs.snoc {ts L : List D} {R n : Nat} {t : D} (h : SetIs ts L R) (hn : ts[n]? = some t) : SetIs ts (L ++ [t]) (R ||| 2 ^ n) := by
  refine ⟨fun x hx => ?_, fun m hm => ?_⟩
  · rcases List.mem_append.1 hx with hx | hx
    · obtain ⟨m, h1, h2⟩ := h.1 x hx
      exact ⟨m, h1, by rw [Nat.testBit_or, h2]; rfl⟩
    · simp at hx
      subst hx
      exact ⟨n, hn, by rw [Nat.testBit_or, Nat.testBit_two_pow]; simp⟩
  · rw [Nat.testBit_or, Bool.or_eq_true] at hm
    rcases hm with hm | hm
    · obtain ⟨x, h1, h2⟩ := h.2 m hm
      exact ⟨x, List.mem_append.2 (.inl h1), h2⟩
    · rw [Nat.testBit_two_pow] at hm
      simp at hm
      subst hm
      exact ⟨t, by simp, hn⟩

theorem SetIs.lt {ts L : List D} {R : Nat} (h : SetIs ts L R) (hl : ts.length ≤ 64) : R < 18446744073709551616 := by
  refine Nat.lt_pow_two_of_testBit (n := 64) R fun i hi => ?_
  cases hb : R.testBit i with
  | false => rfl
  | true =>
    obtain ⟨t, _, ht⟩ := h.2 i hb
    have := get_lt ht
    omega

/-- Foreign to derive: all that is the reader's beside the shelf. -/
def othr (X : Nat → Prop) (ρ : Rd) (pv : Value) : Nat → Prop := fun k => plus X ρ k ∨ numC ρ.M ρ.pl pv k ∨ k = ρ.ev

theorem Dyn.beside {w : World} {X : Nat → Prop} {ρ : Rd} {n0 : Nat} {root : ARe} {ns : List (Nd Value)} {ts : List D} {pls : List Nat} {en : Nat} {pv : Value} (h : Dyn w X ρ n0 root ns ts pls en) (hN : Nums w ρ.M ρ.pl pv pls) : Shelf w (othr X ρ pv) ρ.S n0 ns (shelved root) :=
  h.shelf.keep (Stay.refl w) (fun _ _ _ ho _ => ho) (fun k hk => by
    rcases hk with hk | hk | rfl
    · exact .inl hk
    · rcases hk with rfl | hk
      · exact .inl (.inr (.inl rfl))
      · refine .inr fun o ho => ?_
        cases o with
        | cells c t fz =>
          rcases hN.types (.inr hk) c t fz ho with rfl | rfl
          · exact ⟨_, _, _, rfl, by decide, by decide⟩
          · exact ⟨_, _, _, rfl, by decide, by decide⟩
        | _ =>
          rcases hk with rfl | hk
          · rw [hN.var] at ho; cases ho
          · obtain ⟨c', hc'⟩ := hN.row.block hk
            rw [hc'] at ho; cases ho
    · refine .inr fun o ho => ?_
      rw [h.ev] at ho
      cases ho
      exact ⟨_, _, _, rfl, by decide, by decide⟩)

theorem othr_old {w : World} {X : Nat → Prop} {ρ : Rd} {pv : Value} {pls : List Nat} {en : Nat} (hX : Old X w) (hK : ρ.K < w.heap.size) (hN : Nums w ρ.M ρ.pl pv pls) (he : w.heap[ρ.ev]? = some (.cells #[.int .u64 en] 43 (0, 0))) : Old (othr X ρ pv) w := by
  have hM : ρ.M < w.heap.size := by obtain ⟨m, f, hm, _⟩ := hN.map; exact hm.lt
  rintro k ((hk | rfl | rfl) | (rfl | rfl | hk) | rfl)
  · exact hX k hk
  · exact hM
  · exact hK
  · exact hM
  · exact lt_of_get hN.var
  · obtain ⟨c, hc⟩ := hN.row.block hk; exact lt_of_get hc
  · exact lt_of_get he

/-- The reader behind derive, the row that came out foreign. -/
theorem Dyn.derived {w w' : World} {X : Nat → Prop} {ρ : Rd} {n0 : Nat} {root : ARe} {ns ms : List (Nd Value)} {ts : List D} {pls js : List Nat} {en : Nat} {pv v : Value} (h : Dyn w X ρ n0 root ns ts pls en) (hN : Nums w ρ.M ρ.pl pv pls) (hv : ∀ k, pv.ownBlock = some k → ¬ X k) (hF : Fx (othr X ρ pv) w w')
    (hS : Shelf w' (othr X ρ pv) ρ.S n0 (ns ++ ms) (shelved root)) (hr : Row w' (othr X ρ pv) v js) : Dyn w' (orBlock X v) ρ n0 root (ns ++ ms) ts pls en := by
  have hst := hF.staying
  have hN' : Nums w' ρ.M ρ.pl pv pls := by
    refine ⟨(hF.keep _ (.inr (.inl (.inr (.inl rfl))))).trans hN.var, hN.row.keepB fun k hk => hF.keep k (.inr (.inl (.inr (.inr hk)))), ?_, hN.nodup, hN.small⟩
    obtain ⟨m, f, hm, h1, h2⟩ := hN.map
    exact ⟨m, f, hm.keep (hF.keep _ (.inr (.inl (.inl rfl)))), h1, h2⟩
  have he := (hF.keep ρ.ev (.inr (.inr rfl))).trans h.ev
  have hne : ∀ k, othr X ρ pv k → v.ownBlock ≠ some k := fun k hk e => hr.2 k e hk
  refine ⟨hS.keep (Stay.refl _) (fun _ _ _ ho _ => ho) (fun k hk => ?_), ⟨pv, hN', ?_⟩, he, ⟨?_, ?_, ?_⟩, h.reps.mono fun d k hh => (RepD.world hst hh).append, h.met, h.bits, h.sz, h.leaves⟩
  · rcases hk with (hk | hk) | hk
    · exact .inl (.inl (.inl hk))
    · refine .inr fun o ho => ?_
      obtain ⟨c, hc⟩ := hr.1.block hk
      rw [hc] at ho
      cases ho
      exact ⟨_, _, _, rfl, by decide, by decide⟩
    · exact .inl (.inl (.inr hk))
  · rintro k hk (h1 | h1)
    · exact hv k hk h1
    · exact hne k (.inr (.inl (.inr (.inr hk)))) h1
  · rintro (h1 | h1)
    · exact h.nX.1 h1
    · exact hne _ (.inr (.inl (.inl rfl))) h1
  · rintro (h1 | h1)
    · exact h.nX.2.1 h1
    · exact hne _ (.inr (.inl (.inr (.inl rfl)))) h1
  · rintro (h1 | h1)
    · exact h.nX.2.2 h1
    · exact hne _ (.inr (.inr rfl)) h1

theorem Dyn.less {w : World} {X : Nat → Prop} {ρ : Rd} {n0 : Nat} {root : ARe} {ns : List (Nd Value)} {ts : List D} {pls : List Nat} {en : Nat} {v : Value} (h : Dyn w (orBlock X v) ρ n0 root ns ts pls en) : Dyn w X ρ n0 root ns ts pls en := by
  obtain ⟨pv, hN, hv⟩ := h.nums
  exact ⟨h.shelf.keep (Stay.refl _) (fun _ _ _ h _ => h) (fun k hk => .inl (hk.elim (fun h => .inl (.inl h)) .inr)), ⟨pv, hN, fun k hk hx => hv k hk (.inl hx)⟩, h.ev, ⟨fun hx => h.nX.1 (.inl hx), fun hx => h.nX.2.1 (.inl hx), fun hx => h.nX.2.2 (.inl hx)⟩, h.reps, h.met, h.bits, h.sz, h.leaves⟩

def WorkPost (X : Nat → Prop) (ρ : Rd) (n0 : Nat) (root : ARe) (ts L : List D) (w : World) (e : Ending) (w' : World) : Prop :=
  ∃ (R : Nat) (ns' : List (Nd Value)) (us : List D) (pls' : List Nat) (en' : Nat), e = .returned (.int .u64 R) ∧ Fx X w w' ∧ Dyn w' X ρ n0 root ns' (ts ++ us) pls' en' ∧ SetIs (ts ++ us) L R

def WorkLoop (X : Nat → Prop) (ρ : Rd) (n0 : Nat) (root : ARe) (ns : List (Nd Value)) (ts L : List D) (v : Value) (js : List Nat) (w : World) (k : Nat) (left i : Value) (wr : World) : Prop :=
  ∃ (j R : Nat) (us : List D) (pls' : List Nat) (en' : Nat), i = .int .i64 j ∧ left = .int .u64 R ∧ j + k = js.length ∧ Fx (orBlock X v) w wr ∧ Stc wr ρ ∧ Ints wr 0 v js ∧ F2 (RepD (IsCls wr) n0 ns) L js ∧ Dyn wr (orBlock X v) ρ n0 root ns (ts ++ us) pls' en' ∧ SetIs (ts ++ us) (L.take j) R

theorem work_step {X : Nat → Prop} {ρ : Rd} {n0 : Nat} {root : ARe} {ns : List (Nd Value)} {ts us L : List D} {v : Value} {js : List Nat} {w wr w3 : World} {k j R n : Nat} {x : D} {ts' : List D} {pls3 : List Nat} {en3 : Nat}
    (hj : j + (k + 1) = js.length) (hF : Fx (orBlock X v) w wr) (hs : Stc wr ρ) (hI : Ints wr 0 v js) (hL : F2 (RepD (IsCls wr) n0 ns) L js) (hset : SetIs (ts ++ us) (L.take j) R) (hx : L[j]? = some x)
    (hF3 : Fx (orBlock X v) wr w3) (hD3 : Dyn w3 (orBlock X v) ρ n0 root ns ts' pls3 en3) (hn : ts'[n]? = some x) (ht' : ts' = ts ++ us ∨ ts' = ts ++ us ++ [x]) :
    WorkLoop X ρ n0 root ns ts L v js w k (.int .u64 ((R ||| 2 ^ n : Nat) : Int)) (.int .i64 ((j + 1 : Nat) : Int)) w3 := by
  have hxl := get_lt hx
  have etk : L.take (j + 1) = L.take j ++ [x] := by
    rw [List.take_succ_eq_append_getElem hxl]
    rw [List.getElem?_eq_getElem hxl] at hx
    rw [Option.some.inj hx]
  obtain ⟨us', rfl, hset'⟩ : ∃ us', ts' = ts ++ us' ∧ SetIs (ts ++ us') (L.take j) R := by
    rcases ht' with rfl | rfl
    · exact ⟨us, rfl, hset⟩
    · exact ⟨us ++ [x], by simp, by rw [← List.append_assoc]; exact hset.append⟩
  exact ⟨j + 1, R ||| 2 ^ n, us', pls3, en3, rfl, rfl, by omega, hF.trans hF3, hs.fx hF3, hI.keepB fun b hb => hF3.keep b (.inr hb), hL.mono fun d k h => RepD.world hF3.staying h, hD3, by rw [etk]; exact hset'.snoc hn⟩

theorem work_end {X : Nat → Prop} {ρ : Rd} {n0 : Nat} {root : ARe} {ns : List (Nd Value)} {ts us L : List D} {v : Value} {js pls' : List Nat} {w0 w wr : World} {j R en' : Nat}
    (hF0 : Fx X w0 w) (hj : j = js.length) (hF : Fx (orBlock X v) w wr) (hL : F2 (RepD (IsCls wr) n0 ns) L js) (hD : Dyn wr (orBlock X v) ρ n0 root ns (ts ++ us) pls' en') (hset : SetIs (ts ++ us) (L.take j) R) :
    WorkPost X ρ n0 root ts L w0 (.returned (.int .u64 (R : Int))) wr := by
  have e := hL.length
  rw [List.take_of_length_le (by omega)] at hset
  exact ⟨R, ns, us, pls', en', rfl, hF0.trans (hF.sub fun _ h => .inl h), hD.less, hset⟩

theorem SetIs.nil (ts : List D) : SetIs ts [] 0 := ⟨fun _ h => by simp at h, fun m hm => by simp at hm⟩

theorem Dyn.below {w w' : World} {X : Nat → Prop} {ρ : Rd} {n0 : Nat} {root : ARe} {ns : List (Nd Value)} {ts : List D} {pls : List Nat} {en : Nat} (hD : Dyn w X ρ n0 root ns ts pls en) (hb : Below w.heap.size w w') : Dyn w' X ρ n0 root ns ts pls en := by
  have hc : ∀ (k : Nat) o, w.heap[k]? = some o → w'.heap[k]? = some o := fun k o hh => (hb.block k (lt_of_get hh)).trans hh
  have hst : Stay w w' := Stay.of_below hb
  obtain ⟨pv, hN, hv⟩ := hD.nums
  refine ⟨hD.shelf.below hb, ⟨pv, ⟨hc _ _ hN.var, hN.row.keepB fun k hk => ?_, ?_, hN.nodup, hN.small⟩, hv⟩, hc _ _ hD.ev, hD.nX, hD.reps.mono fun d k hh => RepD.world hst hh, hD.met, hD.bits, hD.sz, hD.leaves⟩
  · obtain ⟨c, hcc⟩ := hN.row.block hk
    rw [hcc]; exact hc _ _ hcc
  · obtain ⟨m, f, hm, h1, h2⟩ := hN.map
    exact ⟨m, f, hm.keep (hb.block _ hm.lt), h1, h2⟩

theorem WorkPost.back {X : Nat → Prop} {ρ : Rd} {n0 : Nat} {root : ARe} {ts L : List D} {w w0 : World} {e : Ending} {w' : World} (hF : Fx X w w0) (h : WorkPost X ρ n0 root ts L w0 e w') : WorkPost X ρ n0 root ts L w e w' := by
  obtain ⟨R, ns', us, pls', en', h1, h2, h3⟩ := h
  exact ⟨R, ns', us, pls', en', h1, hF.trans h2, h3⟩

set_option maxHeartbeats 2000000 in
theorem work_any (X : Nat → Prop) (ρ : Rd) (n0 : Nat) (root : ARe) (ns : List (Nd Value)) (ts : List D) (pls : List Nat) (en : Nat) (t : D) (n : Nat) (b : UInt8) (w : World) (hX : Old X w) (hK : ρ.K < w.heap.size) (hD : Dyn w X ρ n0 root ns ts pls en) (hs : Stc w ρ) (ht : ts[n]? = some t) :
    Calls Tryd.prog 37 #[.agg #[.int .i64 n, .int .u8 b.toNat], .pointer (some ⟨ρ.sv, 0, none⟩), .pointer (some ⟨ρ.xv, 0, none⟩), .pointer (some ⟨ρ.kk, 0, none⟩)] w (WorkPost X ρ n0 root ts (pd b t) w) := by
  have hbG : Below w.heap.size w (w.alloc (.cells #[.int .i64 n, .int .u8 b.toNat] 98)) := (Below.refl _ _).alloc (Nat.le_refl _) _
  suffices hgoal : Calls Tryd.prog 37 #[.agg #[.int .i64 n, .int .u8 b.toNat], .pointer (some ⟨ρ.sv, 0, none⟩), .pointer (some ⟨ρ.xv, 0, none⟩), .pointer (some ⟨ρ.kk, 0, none⟩)] w (WorkPost X ρ n0 root ts (pd b t) (w.alloc (.cells #[.int .i64 n, .int .u8 b.toNat] 98))) from hgoal.mono fun e w' h => h.back (Fx.of_below hX hbG)
  replace hs := hs.fx (Fx.of_below hX hbG)
  replace hX := hX.mono hbG.size
  replace hK := Nat.lt_of_lt_of_le hK hbG.size
  replace hD := hD.below hbG
  have hG := heap_alloc_last w (.cells #[.int .i64 n, .int .u8 b.toNat] 98)
  have hq0 : (w.alloc (.cells #[.int .i64 n, .int .u8 b.toNat] 98)).cell? ⟨w.heap.size, 0, none⟩ = some (.int .i64 n) := by rw [World.cell?, hG]; rfl
  have hq1 : (w.alloc (.cells #[.int .i64 n, .int .u8 b.toNat] 98)).cell? ⟨w.heap.size, 1, none⟩ = some (.int .u8 b.toNat) := by rw [World.cell?, hG]; rfl
  have HG := hide hG
  clear hG hbG
  obtain ⟨pv, hN, hv⟩ := hD.nums
  obtain ⟨k, hk⟩ : ∃ k, pls[n]? = some k := by
    have h1 := get_lt ht
    rw [hD.reps.length] at h1
    exact ⟨pls[n], List.getElem?_eq_getElem h1⟩
  obtain ⟨t', ht', hr⟩ := hD.reps.get hk
  rw [ht] at ht'
  cases ht'
  have htm := hD.met t (List.mem_of_getElem? ht)
  have hsz : t.sz ≤ 1000000 := by
    have h200 : root.sz * root.sz ≤ 200 * 200 := Nat.mul_le_mul hD.sz hD.sz
    simp only [met, List.mem_cons] at htm
    rcases htm with rfl | h
    · have := hD.sz; simp only [D.sz]; omega
    · have := allA_sz root t h; omega
  have s0 := cell_one hs.sv
  have x0 := cell_one hs.xv
  have HEX := hide (expressionOf_any ρ.M ρ.pl pv pls k n (w.alloc (.cells #[.int .i64 n, .int .u8 b.toNat] 98)).drew ⟨hN.var, hN.row, (let ⟨m, f, h1, h2⟩ := hN.map; ⟨m, f, h1.keep rfl, h2⟩), hN.nodup, hN.small⟩ hk)
  have HDV := hide (derive_all b t (othr X ρ pv) ρ.S n0 ns (shelved root) k (w.alloc (.cells #[.int .i64 n, .int .u8 b.toNat] 98)).drew (show Old (othr X ρ pv) (w.alloc (.cells #[.int .i64 n, .int .u8 b.toNat] 98)).drew from othr_old (w := w.alloc (.cells #[.int .i64 n, .int .u8 b.toNat] 98)) hX hK hN hD.ev) (hD.beside hN).drew (RepD.world (w := w.alloc (.cells #[.int .i64 n, .int .u8 b.toNat] 98)) (w' := (w.alloc (.cells #[.int .i64 n, .int .u8 b.toNat] 98)).drew) (fun _ _ _ _ h => h) hr) (joins_shelved htm) hsz)
  have HX := hide hX
  have HD := hide hD
  have HS := hide hs
  have HN := hide hN
  have HV := hide hv
  have HTM := hide htm
  clear hX hD hs ht hN hv hk hr htm hK
  obtain ⟨q, hq⟩ : ∃ q, q = w.heap.size := ⟨_, rfl⟩
  go_enter Tryd.func37, Tryd.ntmps37
  go_wp2_with fail
  rw [← hq] at hq0 hq1 HG ⊢
  clear hq
  generalize w.alloc (.cells #[.int .i64 n, .int .u8 b.toNat] 98) = W at *
  have HKP := hide (fun (w2 : World) (hF : Fx (othr X ρ pv) W w2) => show w2.cell? ⟨q, 0, none⟩ = some (.int .i64 n) ∧ w2.cell? ⟨q, 1, none⟩ = some (.int .u8 b.toNat) ∧ w2.cell? ⟨ρ.sv, 0, none⟩ = some (.pointer (some ⟨ρ.S, 0, none⟩)) ∧ w2.cell? ⟨ρ.xv, 0, none⟩ = some (.func (.func 49) #[] #[.pointer (some ⟨ρ.pl, 0, none⟩)]) from
    have h1 := hF.stay _ _ _ (by decide) HG.out
    ⟨by simp [World.cell?, h1], by simp [World.cell?, h1], cell_one (HS.out.fx hF).sv, cell_one (HS.out.fx hF).xv⟩)
  go_region_held3 (fun w' => w'.cell? ⟨q, 0, none⟩ = some (.int .i64 n) ∧ w'.cell? ⟨q, 1, none⟩ = some (.int .u8 b.toNat) ∧ w'.cell? ⟨ρ.sv, 0, none⟩ = some (.pointer (some ⟨ρ.S, 0, none⟩)) ∧ w'.cell? ⟨ρ.xv, 0, none⟩ = some (.func (.func 49) #[] #[.pointer (some ⟨ρ.pl, 0, none⟩)]))
    (first
      | with_reducible exact hS5
      | go_keep)
    (first
      | (go_at_call 49; refine HEX.out.mono ?_; rintro e1 w1 ⟨rfl, rfl⟩)
      | (go_at_call 38; refine HDV.out.mono ?_; rintro e2 w2 ⟨v2, js, ms, rfl, hF2, hS2, hI2, hj2⟩; obtain ⟨ao, cap, rfl⟩ := hI2.1.form; have HF2 := hide hF2.undrew; have hS5 := HKP.out w2 HF2.out; have HS2 := hide hS2; have HI2 := hide hI2; have HJ2 := hide hj2; clear hF2 hS2 hI2 hj2))
  all_goals
    have hF2 := HF2.out
    have hs2 := HS.out.fx hF2
    have hD2 := HD.out.derived HN.out HV.out hF2 HS2.out HI2.out
    have hjl : js.length ≤ 1000000 := by
      have h1 := HJ2.out.length
      have h2 := length_pd b t
      omega
    have HOX := hide ((HX.out.fx hF2).orBlock HI2.out.1)
    have HI := hide HI2.out.1
    have HJ := hide HJ2.out
    have HD2 := hide hD2
    have HSC := hide hs2
    have HFX := hide (hF2.sub (Y := X) fun _ h => .inl (.inl h))
    have HCL := hide (fun x (hx : x ∈ pd b t) => met_closed root b t HTM.out x hx)
    clear HF2 HS2 HI2 HJ2 HX HD HS HN HV HTM hF2 hs2 hD2 HEX HDV
    go_wp2_with fail
    go_loopg [6, 18] js.length (fun k left i wr => WorkLoop X ρ n0 root (ns ++ ms) ts (pd b t) (.slice ao js.length cap) js w2 k left i wr)
    case atStart =>
      exact ⟨0, 0, [], pls, en, by simp, by simp, by simp, Fx.refl _ _, HSC.out, HI.out, HJ.out, by simpa using HD2.out, by simpa using SetIs.nil _⟩
    case round =>
      obtain ⟨j, R, us, pls', en', rfl, rfl, hj, hFx, hs, hI, hL, hDr, hset⟩ := hrel
      have hRlt := hset.lt (by have h1 := hDr.few; have h2 := hDr.reps.length; omega)
      by_cases hlt : j < js.length
      · obtain ⟨f, hf⟩ : ∃ f, js[j]? = some f := ⟨js[j], List.getElem?_eq_getElem hlt⟩
        obtain ⟨g', cap', e', hcj⟩ := hI.at hf
        cases e'
        obtain ⟨xj, hxj, hrj⟩ := hL.get hf
        have c0 := cell_one hs.kk
        have HMK := hide (mark_any _ ρ n0 root (ns ++ ms) (ts ++ us) pls' en' xj f wr (HOX.out.fx hFx) hDr hs hrj (HCL.out xj (List.mem_of_getElem? hxj)))
        have HFr := hide hFx
        have Hsr := hide hs
        have HIr := hide hI
        have HLr := hide hL
        have HDr := hide hDr
        have Hset := hide hset
        have HXJ := hide hxj
        clear hFx hs hI hL hDr hset hxj hrj hf
        go_wp2_with fail
        refine HMK.out.mono ?_
        rintro e w3 ⟨n3, ts', pls3, en3, rfl, hF3, hD3, hn3, ht3⟩
        have hn64 : n3 < 64 := by
          have h1 := get_lt hn3
          have h2 := hD3.few
          have h3 := hD3.reps.length
          omega
        obtain ⟨k', rfl⟩ : ∃ k', gk = k' + 1 := ⟨gk - 1, by omega⟩
        have hstep := work_step hj HFr.out Hsr.out HIr.out HLr.out Hset.out HXJ.out hF3 hD3 hn3 ht3
        have HOR := hide (bits_or_u64_nat R (2 ^ n3) hRlt (two_pow_lt hn64))
        have HST := hide hstep
        clear hstep hF3 hD3 hn3 ht3 hn64
        go_wp2_with fail
        go_roundg k'
        case measure => omega
        case rel =>
          have hst := HST.out
          rw [← HOR.out] at hst
          have e2 : ((2 ^ n3 : Nat) : Int) = (2 : Int) ^ n3 := by simp
          rw [e2] at hst
          exact hst
      · have HEND := hide (work_end HFX.out (by omega) hFx hL hDr hset)
        clear hFx hs hI hL hDr hset
        go_wp2_with fail
        go_ret
        exact HEND.out
end Go.Proofs.YtgncgdkpkkdaeaaDoor
