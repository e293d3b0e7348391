import Derived.Test.YtgncgdkpkkdaeaaGreatDoorKP
import Derived.Maps.RangeWalk
import Derived.Deep.RegionHeld3
namespace Go.Proofs.YtgncgdkpkkdaeaaGreatDoor
open Go.RowKit Tint Go.Maps
def SetIs (ts L : List D) (R : Nat) : Prop := (∀ t ∈ L, ∃ m, ts[m]? = some t ∧ R.testBit m = true) ∧ ∀ m, R.testBit m = true → ∃ t ∈ L, ts[m]? = some t
theorem SetIs.append {ts us L : List D} {R : Nat} (h : SetIs ts L R) : SetIs (ts ++ us) L R :=
 ⟨fun t ht => let ⟨m, h1, h2⟩ := h.1 t ht; ⟨m, get_append_left h1, h2⟩, fun m hm => let ⟨t, h1, h2⟩ := h.2 m hm; ⟨t, h1, get_append_left h2⟩⟩
theorem SetIs.snoc {ts L : List D} {R n : Nat} {t : D} (h : SetIs ts L R) (hn : ts[n]? = some t) : SetIs ts (L ++ [t]) (R ||| 2 ^ n) := by
 refine ⟨fun x hx => ?_, fun m hm => ?_⟩
 ·rcases List.mem_append.1 hx with hx | hx
  ·obtain ⟨m, h1, h2⟩ := h.1 x hx
   exact ⟨m, h1, by rw [Nat.testBit_or, h2]; rfl⟩
  ·simp at hx
   subst hx
   exact ⟨n, hn, by rw [Nat.testBit_or, Nat.testBit_two_pow]; simp⟩
 ·rw [Nat.testBit_or, Bool.or_eq_true] at hm
  rcases hm with hm | hm
  ·obtain ⟨x, h1, h2⟩ := h.2 m hm
   exact ⟨x, List.mem_append.2 (.inl h1), h2⟩
  ·rw [Nat.testBit_two_pow] at hm
   simp at hm
   subst hm
   exact ⟨t, by simp, hn⟩
theorem SetIs.lt {ts L : List D} {R : Nat} (h : SetIs ts L R) (hl : ts.length ≤ 64) : R < 18446744073709551616 := by
 refine Nat.lt_pow_two_of_testBit (n := 64) R fun i hi => ?_
 cases hb : R.testBit i with
 | false => rfl
 | true =>
  obtain ⟨t, _, ht⟩ := h.2 i hb
  have := get_lt ht
  omega
def othr (X : Nat → Prop) (ρ : Rd) (pv : Value) : Nat → Prop := fun k => plus X ρ k ∨ numC ρ.M ρ.pl pv k ∨ k = ρ.ev
theorem Dyn.beside {w : World} {X : Nat → Prop} {ρ : Rd} {n0 : Nat} {root : ARe} {ns : List (Nd Value)} {ts : List D} {pls : List Nat} {en : Nat} {pv : Value} (h : Dyn w X ρ n0 root ns ts pls en) (hN : Nums w ρ.M ρ.pl pv pls) : Shelf w (othr X ρ pv) ρ.S n0 ns (shelved root) :=
 h.shelf.keep (Stay.refl w) (fun _ _ _ ho _ => ho) (fun k hk => by
  rcases hk with hk | hk | rfl
  ·exact .inl hk
  ·rcases hk with rfl | hk
   ·exact .inl (.inr (.inl rfl))
   ·refine .inr fun o ho => ?_
    cases o with
    | cells c t fz =>
     rcases hN.types (.inr hk) c t fz ho with rfl | rfl
     ·exact ⟨_, _, _, rfl, by decide, by decide⟩
     ·exact ⟨_, _, _, rfl, by decide, by decide⟩
    | _ =>
     rcases hk with rfl | hk
     ·rw [hN.var] at ho; cases ho
     ·obtain ⟨c', hc'⟩ := hN.row.block hk
      rw [hc'] at ho; cases ho
  ·refine .inr fun o ho => ?_
   rw [h.ev] at ho
   cases ho
   exact ⟨_, _, _, rfl, by decide, by decide⟩)
theorem othr_old {w : World} {X : Nat → Prop} {ρ : Rd} {pv : Value} {pls : List Nat} {en : Nat} (hX : Old X w) (hK : ρ.K < w.heap.size) (hN : Nums w ρ.M ρ.pl pv pls) (he : w.heap[ρ.ev]? = some (.cells #[.int .u64 en] 188 (0, 0))) : Old (othr X ρ pv) w := by
 have hM : ρ.M < w.heap.size := by obtain ⟨m, f, hm, _⟩ := hN.map; exact hm.lt
 rintro k ((hk | rfl | rfl) | (rfl | rfl | hk) | rfl)
 ·exact hX k hk
 ·exact hM
 ·exact hK
 ·exact hM
 ·exact lt_of_get hN.var
 ·obtain ⟨c, hc⟩ := hN.row.block hk; exact lt_of_get hc
 ·exact lt_of_get he
theorem Dyn.derived {w w' : World} {X : Nat → Prop} {ρ : Rd} {n0 : Nat} {root : ARe} {ns ms : List (Nd Value)} {ts : List D} {pls js : List Nat} {en : Nat} {pv v : Value} (h : Dyn w X ρ n0 root ns ts pls en) (hN : Nums w ρ.M ρ.pl pv pls) (hv : ∀ k, pv.ownBlock = some k → ¬ X k) (hF : Fx (othr X ρ pv) w w')
  (hS : Shelf w' (othr X ρ pv) ρ.S n0 (ns ++ ms) (shelved root)) (hr : Row w' (othr X ρ pv) v js) : Dyn w' (orBlock X v) ρ n0 root (ns ++ ms) ts pls en := by
 have hst := hF.staying
 have hN' : Nums w' ρ.M ρ.pl pv pls := by
  refine ⟨(hF.keep _ (.inr (.inl (.inr (.inl rfl))))).trans hN.var, hN.row.keepB fun k hk => hF.keep k (.inr (.inl (.inr (.inr hk)))), ?_, hN.nodup, hN.small⟩
  obtain ⟨m, f, hm, h1, h2⟩ := hN.map
  exact ⟨m, f, hm.keep (hF.keep _ (.inr (.inl (.inl rfl)))), h1, h2⟩
 have he := (hF.keep ρ.ev (.inr (.inr rfl))).trans h.ev
 have hne : ∀ k, othr X ρ pv k → v.ownBlock ≠ some k := fun k hk e => hr.2 k e hk
 refine ⟨hS.keep (Stay.refl _) (fun _ _ _ ho _ => ho) (fun k hk => ?_), ⟨pv, hN', ?_⟩, he, ⟨?_, ?_, ?_⟩, h.reps.mono fun d k hh => (RepD.world hst hh).append, h.met, h.bits, h.sz, h.leaves⟩
 ·rcases hk with (hk | hk) | hk
  ·exact .inl (.inl (.inl hk))
  ·refine .inr fun o ho => ?_
   obtain ⟨c, hc⟩ := hr.1.block hk
   rw [hc] at ho
   cases ho
   exact ⟨_, _, _, rfl, by decide, by decide⟩
  ·exact .inl (.inl (.inr hk))
 ·rintro k hk (h1 | h1)
  ·exact hv k hk h1
  ·exact hne k (.inr (.inl (.inr (.inr hk)))) h1
 ·rintro (h1 | h1)
  ·exact h.nX.1 h1
  ·exact hne _ (.inr (.inl (.inl rfl))) h1
 ·rintro (h1 | h1)
  ·exact h.nX.2.1 h1
  ·exact hne _ (.inr (.inl (.inr (.inl rfl)))) h1
 ·rintro (h1 | h1)
  ·exact h.nX.2.2 h1
  ·exact hne _ (.inr (.inr rfl)) h1
theorem Dyn.less {w : World} {X : Nat → Prop} {ρ : Rd} {n0 : Nat} {root : ARe} {ns : List (Nd Value)} {ts : List D} {pls : List Nat} {en : Nat} {v : Value} (h : Dyn w (orBlock X v) ρ n0 root ns ts pls en) : Dyn w X ρ n0 root ns ts pls en := by
 obtain ⟨pv, hN, hv⟩ := h.nums
 exact ⟨h.shelf.keep (Stay.refl _) (fun _ _ _ h _ => h) (fun k hk => .inl (hk.elim (fun h => .inl (.inl h)) .inr)), ⟨pv, hN, fun k hk hx => hv k hk (.inl hx)⟩, h.ev, ⟨fun hx => h.nX.1 (.inl hx), fun hx => h.nX.2.1 (.inl hx), fun hx => h.nX.2.2 (.inl hx)⟩, h.reps, h.met, h.bits, h.sz, h.leaves⟩
def WorkPost (X : Nat → Prop) (ρ : Rd) (n0 : Nat) (root : ARe) (ts L : List D) (w : World) (e : Ending) (w' : World) : Prop :=
 ∃ (R : Nat) (ns' : List (Nd Value)) (us : List D) (pls' : List Nat) (en' : Nat), e = .returned (.int .u64 R) ∧ Fx X w w' ∧ Dyn w' X ρ n0 root ns' (ts ++ us) pls' en' ∧ SetIs (ts ++ us) L R
def WorkLoop (X : Nat → Prop) (ρ : Rd) (n0 : Nat) (root : ARe) (ns : List (Nd Value)) (ts L : List D) (v : Value) (js : List Nat) (w : World) (k : Nat) (left i : Value) (wr : World) : Prop :=
 ∃ (j R : Nat) (us : List D) (pls' : List Nat) (en' : Nat), i = .int .i64 j ∧ left = .int .u64 R ∧ j + k = js.length ∧ Fx (orBlock X v) w wr ∧ Stc wr ρ ∧ Ints wr 0 v js ∧ F2 (RepD (IsCls wr) n0 ns) L js ∧ Dyn wr (orBlock X v) ρ n0 root ns (ts ++ us) pls' en' ∧ SetIs (ts ++ us) (L.take j) R
theorem work_step {X : Nat → Prop} {ρ : Rd} {n0 : Nat} {root : ARe} {ns : List (Nd Value)} {ts us L : List D} {v : Value} {js : List Nat} {w wr w3 : World} {k j R n : Nat} {x : D} {ts' : List D} {pls3 : List Nat} {en3 : Nat}
  (hj : j + (k + 1) = js.length) (hF : Fx (orBlock X v) w wr) (hs : Stc wr ρ) (hI : Ints wr 0 v js) (hL : F2 (RepD (IsCls wr) n0 ns) L js) (hset : SetIs (ts ++ us) (L.take j) R) (hx : L[j]? = some x)
  (hF3 : Fx (orBlock X v) wr w3) (hD3 : Dyn w3 (orBlock X v) ρ n0 root ns ts' pls3 en3) (hn : ts'[n]? = some x) (ht' : ts' = ts ++ us ∨ ts' = ts ++ us ++ [x]) :
  WorkLoop X ρ n0 root ns ts L v js w k (.int .u64 ((R ||| 2 ^ n : Nat) : Int)) (.int .i64 ((j + 1 : Nat) : Int)) w3 := by
 have hxl := get_lt hx
 have etk : L.take (j + 1) = L.take j ++ [x] := by
  rw [List.take_succ_eq_append_getElem hxl]
  rw [List.getElem?_eq_getElem hxl] at hx
  rw [Option.some.inj hx]
 obtain ⟨us', rfl, hset'⟩ : ∃ us', ts' = ts ++ us' ∧ SetIs (ts ++ us') (L.take j) R := by
  rcases ht' with rfl | rfl
  ·exact ⟨us, rfl, hset⟩
  ·exact ⟨us ++ [x], by simp, by rw [← List.append_assoc]; exact hset.append⟩
 exact ⟨j + 1, R ||| 2 ^ n, us', pls3, en3, rfl, rfl, by omega, hF.trans hF3, hs.fx hF3, hI.keepB fun b hb => hF3.keep b (.inr hb), hL.mono fun d k h => RepD.world hF3.staying h, hD3, by rw [etk]; exact hset'.snoc hn⟩
theorem work_end {X : Nat → Prop} {ρ : Rd} {n0 : Nat} {root : ARe} {ns : List (Nd Value)} {ts us L : List D} {v : Value} {js pls' : List Nat} {w0 w wr : World} {j R en' : Nat}
  (hF0 : Fx X w0 w) (hj : j = js.length) (hF : Fx (orBlock X v) w wr) (hL : F2 (RepD (IsCls wr) n0 ns) L js) (hD : Dyn wr (orBlock X v) ρ n0 root ns (ts ++ us) pls' en') (hset : SetIs (ts ++ us) (L.take j) R) :
  WorkPost X ρ n0 root ts L w0 (.returned (.int .u64 (R : Int))) wr := by
 have e := hL.length
 rw [List.take_of_length_le (by omega)] at hset
 exact ⟨R, ns, us, pls', en', rfl, hF0.trans (hF.sub fun _ h => .inl h), hD.less, hset⟩
theorem SetIs.nil (ts : List D) : SetIs ts [] 0 := ⟨fun _ h => by simp at h, fun m hm => by simp at hm⟩
theorem Dyn.below {w w' : World} {X : Nat → Prop} {ρ : Rd} {n0 : Nat} {root : ARe} {ns : List (Nd Value)} {ts : List D} {pls : List Nat} {en : Nat} (hD : Dyn w X ρ n0 root ns ts pls en) (hb : Below w.heap.size w w') : Dyn w' X ρ n0 root ns ts pls en := by
 have hc : ∀ (k : Nat) o, w.heap[k]? = some o → w'.heap[k]? = some o := fun k o hh => (hb.block k (lt_of_get hh)).trans hh
 have hst : Stay w w' := Stay.of_below hb
 obtain ⟨pv, hN, hv⟩ := hD.nums
 refine ⟨hD.shelf.below hb, ⟨pv, ⟨hc _ _ hN.var, hN.row.keepB fun k hk => ?_, ?_, hN.nodup, hN.small⟩, hv⟩, hc _ _ hD.ev, hD.nX, hD.reps.mono fun d k hh => RepD.world hst hh, hD.met, hD.bits, hD.sz, hD.leaves⟩
 ·obtain ⟨c, hcc⟩ := hN.row.block hk
  rw [hcc]; exact hc _ _ hcc
 ·obtain ⟨m, f, hm, h1, h2⟩ := hN.map
  exact ⟨m, f, hm.keep (hb.block _ hm.lt), h1, h2⟩
theorem WorkPost.back {X : Nat → Prop} {ρ : Rd} {n0 : Nat} {root : ARe} {ts L : List D} {w w0 : World} {e : Ending} {w' : World} (hF : Fx X w w0) (h : WorkPost X ρ n0 root ts L w0 e w') : WorkPost X ρ n0 root ts L w e w' := by
 obtain ⟨R, ns', us, pls', en', h1, h2, h3⟩ := h
 exact ⟨R, ns', us, pls', en', h1, hF.trans h2, h3⟩
set_option maxHeartbeats 2000000 in
theorem work_any (X : Nat → Prop) (ρ : Rd) (n0 : Nat) (root : ARe) (ns : List (Nd Value)) (ts : List D) (pls : List Nat) (en : Nat) (t : D) (n : Nat) (b : UInt8) (w : World) (hX : Old X w) (hK : ρ.K < w.heap.size) (hD : Dyn w X ρ n0 root ns ts pls en) (hs : Stc w ρ) (ht : ts[n]? = some t) :
  Calls Tryz.prog 177 #[.agg #[.int .i64 n, .int .u8 b.toNat], .pointer (some ⟨ρ.sv, 0, none⟩), .pointer (some ⟨ρ.xv, 0, none⟩), .pointer (some ⟨ρ.kk, 0, none⟩)] w (WorkPost X ρ n0 root ts (pd b t) w) := by
 have hbG : Below w.heap.size w (w.alloc (.cells #[.int .i64 n, .int .u8 b.toNat] 305)) := (Below.refl _ _).alloc (Nat.le_refl _) _
 suffices hgoal : Calls Tryz.prog 177 #[.agg #[.int .i64 n, .int .u8 b.toNat], .pointer (some ⟨ρ.sv, 0, none⟩), .pointer (some ⟨ρ.xv, 0, none⟩), .pointer (some ⟨ρ.kk, 0, none⟩)] w (WorkPost X ρ n0 root ts (pd b t) (w.alloc (.cells #[.int .i64 n, .int .u8 b.toNat] 305))) from hgoal.mono fun e w' h => h.back (Fx.of_below hX hbG)
 replace hs := hs.fx (Fx.of_below hX hbG)
 replace hX := hX.mono hbG.size
 replace hK := Nat.lt_of_lt_of_le hK hbG.size
 replace hD := hD.below hbG
 have hG := heap_alloc_last w (.cells #[.int .i64 n, .int .u8 b.toNat] 305)
 have hq0 : (w.alloc (.cells #[.int .i64 n, .int .u8 b.toNat] 305)).cell? ⟨w.heap.size, 0, none⟩ = some (.int .i64 n) := by rw [World.cell?, hG]; rfl
 have hq1 : (w.alloc (.cells #[.int .i64 n, .int .u8 b.toNat] 305)).cell? ⟨w.heap.size, 1, none⟩ = some (.int .u8 b.toNat) := by rw [World.cell?, hG]; rfl
 have HG := hide hG
 clear hG hbG
 obtain ⟨pv, hN, hv⟩ := hD.nums
 obtain ⟨k, hk⟩ : ∃ k, pls[n]? = some k := by
  have h1 := get_lt ht
  rw [hD.reps.length] at h1
  exact ⟨pls[n], List.getElem?_eq_getElem h1⟩
 obtain ⟨t', ht', hr⟩ := hD.reps.get hk
 rw [ht] at ht'
 cases ht'
 have htm := hD.met t (List.mem_of_getElem? ht)
 have hsz : t.sz ≤ 1000000 := by
  have h200 : root.sz * root.sz ≤ 200 * 200 := Nat.mul_le_mul hD.sz hD.sz
  simp only [met, List.mem_cons] at htm
  rcases htm with rfl | h
  ·have := hD.sz; simp only [D.sz]; omega
  ·have := allA_sz root t h; omega
 have s0 := cell_one hs.sv
 have x0 := cell_one hs.xv
 have HEX := hide (expressionOf_any ρ.M ρ.pl pv pls k n (w.alloc (.cells #[.int .i64 n, .int .u8 b.toNat] 305)).drew ⟨hN.var, hN.row, (let ⟨m, f, h1, h2⟩ := hN.map; ⟨m, f, h1.keep rfl, h2⟩), hN.nodup, hN.small⟩ hk)
 have HDV := hide (derive_all b t (othr X ρ pv) ρ.S n0 ns (shelved root) k (w.alloc (.cells #[.int .i64 n, .int .u8 b.toNat] 305)).drew (show Old (othr X ρ pv) (w.alloc (.cells #[.int .i64 n, .int .u8 b.toNat] 305)).drew from othr_old (w := w.alloc (.cells #[.int .i64 n, .int .u8 b.toNat] 305)) hX hK hN hD.ev) (hD.beside hN).drew (RepD.world (w := w.alloc (.cells #[.int .i64 n, .int .u8 b.toNat] 305)) (w' := (w.alloc (.cells #[.int .i64 n, .int .u8 b.toNat] 305)).drew) (fun _ _ _ _ h => h) hr) (joins_shelved htm) hsz)
 have HX := hide hX
 have HD := hide hD
 have HS := hide hs
 have HN := hide hN
 have HV := hide hv
 have HTM := hide htm
 clear hX hD hs ht hN hv hk hr htm hK
 obtain ⟨q, hq⟩ : ∃ q, q = w.heap.size := ⟨_, rfl⟩
 go_enter Tryz.func177, Tryz.ntmps177
 go_wp2_with fail
 rw [← hq] at hq0 hq1 HG ⊢
 clear hq
 generalize w.alloc (.cells #[.int .i64 n, .int .u8 b.toNat] 305) = W at *
 have HKP := hide (fun (w2 : World) (hF : Fx (othr X ρ pv) W w2) => show w2.cell? ⟨q, 0, none⟩ = some (.int .i64 n) ∧ w2.cell? ⟨q, 1, none⟩ = some (.int .u8 b.toNat) ∧ w2.cell? ⟨ρ.sv, 0, none⟩ = some (.pointer (some ⟨ρ.S, 0, none⟩)) ∧ w2.cell? ⟨ρ.xv, 0, none⟩ = some (.func (.func 197) #[] #[.pointer (some ⟨ρ.pl, 0, none⟩)]) from
  have h1 := hF.stay _ _ _ (by decide) HG.out
  ⟨by simp [World.cell?, h1], by simp [World.cell?, h1], cell_one (HS.out.fx hF).sv, cell_one (HS.out.fx hF).xv⟩)
 go_region_held3 (fun w' => w'.cell? ⟨q, 0, none⟩ = some (.int .i64 n) ∧ w'.cell? ⟨q, 1, none⟩ = some (.int .u8 b.toNat) ∧ w'.cell? ⟨ρ.sv, 0, none⟩ = some (.pointer (some ⟨ρ.S, 0, none⟩)) ∧ w'.cell? ⟨ρ.xv, 0, none⟩ = some (.func (.func 197) #[] #[.pointer (some ⟨ρ.pl, 0, none⟩)]))
  (first
   | with_reducible exact hS5
   | go_keep)
  (first
   | (go_at_call 197; refine HEX.out.mono ?_; rintro e1 w1 ⟨rfl, rfl⟩)
   | (go_at_call 178; refine HDV.out.mono ?_; rintro e2 w2 ⟨v2, js, ms, rfl, hF2, hS2, hI2, hj2⟩; obtain ⟨ao, cap, rfl⟩ := hI2.1.form; have HF2 := hide hF2.undrew; have hS5 := HKP.out w2 HF2.out; have HS2 := hide hS2; have HI2 := hide hI2; have HJ2 := hide hj2; clear hF2 hS2 hI2 hj2))
 all_goals
  have hF2 := HF2.out
  have hs2 := HS.out.fx hF2
  have hD2 := HD.out.derived HN.out HV.out hF2 HS2.out HI2.out
  have hjl : js.length ≤ 1000000 := by
   have h1 := HJ2.out.length
   have h2 := length_pd b t
   omega
  have HOX := hide ((HX.out.fx hF2).orBlock HI2.out.1)
  have HI := hide HI2.out.1
  have HJ := hide HJ2.out
  have HD2 := hide hD2
  have HSC := hide hs2
  have HFX := hide (hF2.sub (Y := X) fun _ h => .inl (.inl h))
  have HCL := hide (fun x (hx : x ∈ pd b t) => met_closed root b t HTM.out x hx)
  clear HF2 HS2 HI2 HJ2 HX HD HS HN HV HTM hF2 hs2 hD2 HEX HDV
  go_wp2_with fail
  go_loopg [6, 18] js.length (fun k left i wr => WorkLoop X ρ n0 root (ns ++ ms) ts (pd b t) (.slice ao js.length cap) js w2 k left i wr)
  case atStart =>
   exact ⟨0, 0, [], pls, en, by simp, by simp, by simp, Fx.refl _ _, HSC.out, HI.out, HJ.out, by simpa using HD2.out, by simpa using SetIs.nil _⟩
  case round =>
   obtain ⟨j, R, us, pls', en', rfl, rfl, hj, hFx, hs, hI, hL, hDr, hset⟩ := hrel
   have hRlt := hset.lt (by have h1 := hDr.few; have h2 := hDr.reps.length; omega)
   by_cases hlt : j < js.length
   ·obtain ⟨f, hf⟩ : ∃ f, js[j]? = some f := ⟨js[j], List.getElem?_eq_getElem hlt⟩
    obtain ⟨g', cap', e', hcj⟩ := hI.at hf
    cases e'
    obtain ⟨xj, hxj, hrj⟩ := hL.get hf
    have c0 := cell_one hs.kk
    have HMK := hide (mark_any _ ρ n0 root (ns ++ ms) (ts ++ us) pls' en' xj f wr (HOX.out.fx hFx) hDr hs hrj (HCL.out xj (List.mem_of_getElem? hxj)))
    have HFr := hide hFx
    have Hsr := hide hs
    have HIr := hide hI
    have HLr := hide hL
    have HDr := hide hDr
    have Hset := hide hset
    have HXJ := hide hxj
    clear hFx hs hI hL hDr hset hxj hrj hf
    go_wp2_with fail
    refine HMK.out.mono ?_
    rintro e w3 ⟨n3, ts', pls3, en3, rfl, hF3, hD3, hn3, ht3⟩
    have hn64 : n3 < 64 := by
     have h1 := get_lt hn3
     have h2 := hD3.few
     have h3 := hD3.reps.length
     omega
    obtain ⟨k', rfl⟩ : ∃ k', gk = k' + 1 := ⟨gk - 1, by omega⟩
    have hstep := work_step hj HFr.out Hsr.out HIr.out HLr.out Hset.out HXJ.out hF3 hD3 hn3 ht3
    have HOR := hide (bits_or_u64_nat R (2 ^ n3) hRlt (two_pow_lt hn64))
    have HST := hide hstep
    clear hstep hF3 hD3 hn3 ht3 hn64
    go_wp2_with fail
    go_roundg k'
    case measure => omega
    case rel =>
     have hst := HST.out
     rw [← HOR.out] at hst
     have e2 : ((2 ^ n3 : Nat) : Int) = (2 : Int) ^ n3 := by simp
     rw [e2] at hst
     exact hst
   ·have HEND := hide (work_end HFX.out (by omega) hFx hL hDr hset)
    clear hFx hs hI hL hDr hset
    go_wp2_with fail
    go_ret
    exact HEND.out
def orK (X : Nat → Prop) (ρ : Rd) : Nat → Prop := fun k => X k ∨ k = ρ.K
theorem zero_set (w : World) : (zeroValue 188).run Tryz.prog w = .ok (.int .u64 0) w := by kernel_rfl
structure Full (w : World) (X : Nat → Prop) (ρ : Rd) (n0 : Nat) (root : ARe) (ts : List D) (en : Nat) : Prop where
 dyn : ∃ ns pls, Dyn w (orK X ρ) ρ n0 root ns ts pls en
 stc : Stc w ρ
 nK : ¬ X ρ.K
 known : ∃ (m : Nat) (f : Nat × UInt8 → Option Int) (ks : List (Nat × UInt8)), MapIs givenT 188 .u64 w ρ.K m f ∧ m ≤ ks.length ∧ ks.Nodup ∧ (∀ x ∈ ks, x.1 < ts.length ∧ (f x).isSome = true) ∧ ∀ n b c, f (n, b) = some c → ∃ (R : Nat) (t : D), c = R ∧ ts[n]? = some t ∧ SetIs ts (pd b t) R
def AfterPost (X : Nat → Prop) (ρ : Rd) (n0 : Nat) (root : ARe) (ts L : List D) (w : World) (e : Ending) (w' : World) : Prop :=
 ∃ (R : Nat) (us : List D) (en' : Nat), e = .returned (.int .u64 R) ∧ Fx X w w' ∧ Full w' X ρ n0 root (ts ++ us) en' ∧ SetIs (ts ++ us) L R
theorem Full.few {w : World} {X : Nat → Prop} {ρ : Rd} {n0 : Nat} {root : ARe} {ts : List D} {en : Nat} (h : Full w X ρ n0 root ts en) : ts.length ≤ 61 := by
 obtain ⟨ns, pls, hD⟩ := h.dyn
 rw [hD.reps.length]
 exact hD.few
theorem keys_few (ks : List (Nat × UInt8)) (hn : ks.Nodup) (h : ∀ x ∈ ks, x.1 < 64) : ks.length ≤ 16384 := by
 have h1 := nodup_length_le (l := ks) (m := (List.range 64).flatMap fun n => (List.range 256).map fun b => (n, b.toUInt8)) hn (fun x hx => by
  refine List.mem_flatMap.2 ⟨x.1, List.mem_range.2 (h x hx), List.mem_map.2 ⟨x.2.toNat, List.mem_range.2 x.2.toNat_lt, ?_⟩⟩
  refine Prod.ext rfl ?_
  simp)
 have h2 : ((List.range 64).flatMap fun n => (List.range 256).map fun b => (n, b.toUInt8)).length ≤ (List.range 64).length * 256 := length_flatMap_le _ 256 _ (fun x _ => by simp)
 simp only [List.length_range] at h2
 omega
theorem Dyn.grownK {w w' : World} {X : Nat → Prop} {ρ : Rd} {n0 : Nat} {root : ARe} {ns : List (Nd Value)} {ts : List D} {pls : List Nat} {en : Nat} {es : Array _} {clk : Nat} (h : Dyn w (orK X ρ) ρ n0 root ns ts pls en) (ho : w.heap[ρ.K]? = some (.map es clk)) (hg : w.grownBy w' (some ρ.K)) : Dyn w' (orK X ρ) ρ n0 root ns ts pls en := by
 have hb : ∀ k : Nat, k < w.heap.size → k ≠ ρ.K → w'.heap[k]? = w.heap[k]? := fun k hk hne => hg.block k hk (fun e => hne (Option.some.inj e))
 have hc : ∀ (k : Nat) c t fz, w.heap[k]? = some (.cells c t fz) → w'.heap[k]? = some (.cells c t fz) := fun k c t fz hh => by
  rw [hb k (lt_of_get hh) (by rintro rfl; rw [ho] at hh; cases hh)]; exact hh
 have hst : Stay w w' := fun k c t _ hh => hc k c t _ hh
 obtain ⟨pv, hN, hv⟩ := h.nums
 refine ⟨h.shelf.keep hst (fun k o hnp hk _ => ?_) (fun _ h => .inl h), ⟨pv, ⟨hc _ _ _ _ hN.var, hN.row.keepB fun k hk => ?_, ?_, hN.nodup, hN.small⟩, hv⟩, hc _ _ _ _ h.ev, h.nX, h.reps.mono fun d k hh => RepD.world hst hh, h.met, h.bits, h.sz, h.leaves⟩
 ·rw [hb k (lt_of_get hk) (fun e => hnp (.inr (.inr e)))]; exact hk
 ·obtain ⟨c, hcc⟩ := hN.row.block hk
  rw [hcc]; exact hc _ _ _ _ hcc
 ·obtain ⟨m, f, hm, h1, h2⟩ := hN.map
  exact ⟨m, f, hm.keep (hb _ hm.lt (fun e => h.nX.1 (.inr e))), h1, h2⟩
theorem Full.below {w w' : World} {X : Nat → Prop} {ρ : Rd} {n0 : Nat} {root : ARe} {ts : List D} {en : Nat} (h : Full w X ρ n0 root ts en) (hb : Below w.heap.size w w') : Full w' X ρ n0 root ts en := by
 obtain ⟨⟨ns, pls, hD⟩, hs, hk, m, f, ks, hm, h1, h2, h3, h4⟩ := h
 have hc : ∀ (k : Nat) o, w.heap[k]? = some o → w'.heap[k]? = some o := fun k o hh => (hb.block k (lt_of_get hh)).trans hh
 have hst : Stay w w' := Stay.of_below hb
 obtain ⟨pv, hN, hv⟩ := hD.nums
 refine ⟨⟨ns, pls, hD.shelf.below hb, ⟨pv, ⟨hc _ _ hN.var, hN.row.keepB fun k hk => ?_, ?_, hN.nodup, hN.small⟩, hv⟩, hc _ _ hD.ev, hD.nX, hD.reps.mono fun d k hh => RepD.world hst hh, hD.met, hD.bits, hD.sz, hD.leaves⟩, ⟨hc _ _ hs.sv, hc _ _ hs.mv, hc _ _ hs.nv, hc _ _ hs.xv, hc _ _ hs.kk, hc _ _ hs.wk, hc _ _ hs.kv, hc _ _ hs.av⟩, hk, m, f, ks, hm.keep (hb.block _ hm.lt), h1, h2, h3, h4⟩
 ·obtain ⟨c, hcc⟩ := hN.row.block hk
  rw [hcc]; exact hc _ _ hcc
 ·obtain ⟨m, f, hm, h1, h2⟩ := hN.map
  exact ⟨m, f, hm.keep (hb.block _ hm.lt), h1, h2⟩
theorem after_new {X : Nat → Prop} {ρ : Rd} {n0 : Nat} {root : ARe} {ts us : List D} {en en' n R m : Nat} {t : D} {b : UInt8} {w w0 w1 w2 : World} {ns' : List (Nd Value)} {pls' : List Nat} {f : Nat × UInt8 → Option Int} {ks : List (Nat × UInt8)}
  (hX : Old X w) (hF : Full w X ρ n0 root ts en) (hB : Below w.heap.size w w0) (hm : m ≤ ks.length) (hn : ks.Nodup) (hks : ∀ x ∈ ks, x.1 < ts.length ∧ (f x).isSome = true) (hf : ∀ n b c, f (n, b) = some c → ∃ (R : Nat) (t : D), c = R ∧ ts[n]? = some t ∧ SetIs ts (pd b t) R)
  (ht : ts[n]? = some t) (hnone : f (n, b) = none) (hF1 : Fx (orK X ρ) w0 w1) (hD1 : Dyn w1 (orK X ρ) ρ n0 root ns' (ts ++ us) pls' en') (hs1 : SetIs (ts ++ us) (pd b t) R) (hM1 : MapIs givenT 188 .u64 w1 ρ.K m f)
  (hM2 : MapIs givenT 188 .u64 w2 ρ.K (m + 1) (fun y => if y = (n, b) then some (R : Int) else f y)) (hg : w1.grownBy w2 (some ρ.K)) : AfterPost X ρ n0 root ts (pd b t) w (.returned (.int .u64 R)) w2 := by
 obtain ⟨es, clk, ho⟩ := hM1.obj
 have hF0 : Fx X w w1 := (Fx.of_below hX hB).trans (hF1.sub fun _ h => .inl h)
 have hF2 : Fx X w w2 := hF0.grown hg (hX.fx hF0) (fun k e => by cases e; exact hF.nK) (fun k e c t fz hh => by cases e; rw [ho] at hh; cases hh)
 refine ⟨R, us, en', rfl, hF2, ⟨⟨ns', pls', hD1.grownK ho hg⟩, hF.stc.fx hF2, hF.nK, m + 1, _, (n, b) :: ks, hM2, by simp; omega, List.nodup_cons.2 ⟨fun hx => ?_, hn⟩, ?_, ?_⟩, hs1⟩
 ·have := (hks _ hx).2
  rw [hnone] at this
  cases this
 ·intro x hx
  have hl := get_lt ht
  rcases List.mem_cons.1 hx with rfl | hx
  ·exact ⟨by simp; omega, by simp⟩
  ·obtain ⟨h1, h2⟩ := hks x hx
   refine ⟨by simp; omega, ?_⟩
   by_cases e : x = (n, b)
   ·simp [e]
   ·simp [e, h2]
 ·intro n' b' c hc
  by_cases e : (n', b') = (n, b)
  ·rw [if_pos e] at hc
   simp only [Prod.mk.injEq] at e
   obtain ⟨rfl, rfl⟩ := e
   exact ⟨R, t, (Option.some.inj hc).symm, get_append_left ht, hs1⟩
  ·rw [if_neg e] at hc
   obtain ⟨R', t', h1, h2, h3⟩ := hf n' b' c hc
   exact ⟨R', t', h1, get_append_left h2, h3.append⟩
theorem wf_u64 {R : Nat} (h : R < 18446744073709551616) : (Lit.int .u64 (R : Int)).wf = true := by
 simp only [Lit.wf, IntKind.min, IntKind.max, IntKind.signed, IntKind.bits]
 simp
 omega
set_option maxRecDepth 20000 in
set_option maxHeartbeats 2000000 in
theorem after_any (X : Nat → Prop) (ρ : Rd) (n0 : Nat) (root : ARe) (ts : List D) (en : Nat) (t : D) (n : Nat) (b : UInt8) (w : World) (hX : Old X w) (hF : Full w X ρ n0 root ts en) (ht : ts[n]? = some t) :
  Calls Tryz.prog 198 #[.agg #[.int .i64 n, .int .u8 b.toNat], .pointer (some ⟨ρ.kv, 0, none⟩), .pointer (some ⟨ρ.wk, 0, none⟩)] w (AfterPost X ρ n0 root ts (pd b t) w) := by
 obtain ⟨m, f, ks, hM, hm, hnd, hks, hf⟩ := hF.known
 have hl := get_lt ht
 have hfew := hF.few
 have c0 := cell_one hF.stc.kv
 have c0' := cell_alloc_old c0
 have hlk : (Instr.lookup 319 (.map (some ρ.K)) (.agg #[.int .i64 n, .int .u8 b.toNat]) true).run Tryz.prog (w.alloc (.cells #[.int .i64 n, .int .u8 b.toNat] 305)) = .ok (.tuple #[.int .u64 ((f (n, b)).getD 0), .bool (f (n, b)).isSome]) (w.alloc (.cells #[.int .i64 n, .int .u8 b.toNat] 305)) := by
  have h5 : MapIs givenT 188 .u64 (w.alloc (.cells #[.int .i64 n, .int .u8 b.toNat] 305)) ρ.K m f := hM.keep (Below.heap_alloc _ _ _ hM.lt)
  exact h5.look (t := 319) Tryz.underlying319 Tryz.underlying188 zero_set (n, b) (by show n ≤ _; omega)
 cases hfn : f (n, b) with
 | some c =>
  obtain ⟨R, t', rfl, ht', hset⟩ := hf n b c hfn
  rw [ht] at ht'
  cases ht'
  rw [hfn] at hlk
  have hlk2 : (Instr.lookup 319 (.map (some ρ.K)) (.agg #[.int .i64 n, .int .u8 b.toNat]) true).run Tryz.prog (w.alloc (.cells #[.int .i64 n, .int .u8 b.toNat] 305)) = .ok (.tuple #[.int .u64 R, .bool true]) (w.alloc (.cells #[.int .i64 n, .int .u8 b.toNat] 305)) := hlk
  clear hlk
  have HEND := hide (show AfterPost X ρ n0 root ts (pd b t) w (.returned (.int .u64 R)) (w.alloc (.cells #[.int .i64 n, .int .u8 b.toNat] 305)) from
   have hb : Below w.heap.size w (w.alloc (.cells #[.int .i64 n, .int .u8 b.toNat] 305)) := (Below.refl _ _).alloc (Nat.le_refl _) _
   ⟨R, [], en, rfl, Fx.of_below hX hb, by simpa using hF.below hb, by simpa using hset⟩)
  clear hF hX hM hm hnd hks hf hset hfn ht
  go_enter Tryz.func198, Tryz.ntmps198
  go_wp2
  go_ret
  exact HEND.out
 | none =>
  rw [hfn] at hlk
  have hlk2 : (Instr.lookup 319 (.map (some ρ.K)) (.agg #[.int .i64 n, .int .u8 b.toNat]) true).run Tryz.prog (w.alloc (.cells #[.int .i64 n, .int .u8 b.toNat] 305)) = .ok (.tuple #[.int .u64 0, .bool false]) (w.alloc (.cells #[.int .i64 n, .int .u8 b.toNat] 305)) := hlk
  clear hlk
  have hb : Below w.heap.size w (w.alloc (.cells #[.int .i64 n, .int .u8 b.toNat] 305)) := (Below.refl _ _).alloc (Nat.le_refl _) _
  have HB := hide hb
  have hKlt := hM.lt
  have hF0 := hF.below hb
  obtain ⟨ns, pls, hD0⟩ := hF0.dyn
  have hX0 : Old (orK X ρ) (w.alloc (.cells #[.int .i64 n, .int .u8 b.toNat] 305)) := by
   rintro k (hk | rfl)
   ·exact (hX.mono hb.size) k hk
   ·exact Nat.lt_of_lt_of_le hM.lt hb.size
  have HWK := hide (work_any (orK X ρ) ρ n0 root ns ts pls en t n b _ hX0 (hX0 _ (.inr rfl)) hD0 hF0.stc ht)
  have c1 := cell_one hF0.stc.wk
  have HT := hide (heap_alloc_last w (.cells #[.int .i64 n, .int .u8 b.toNat] 305))
  have HX := hide hX
  have HF := hide hF
  have HM := hide hM
  have Hm := hide hm
  have HND := hide hnd
  have HKS := hide hks
  have Hf := hide hf
  have HFN := hide hfn
  have Ht := hide ht
  clear hF hX hM hm hnd hks hf hfn ht hD0 hF0 hX0 hb hKlt
  go_enter Tryz.func198, Tryz.ntmps198
  go_wp2_with fail
  refine HWK.out.mono ?_
  rintro e w1 ⟨R, ns', us, pls', en', rfl, hF1, hD1, hs1⟩
  have hRlt := hs1.lt (by have h1 := hD1.few; have h2 := hD1.reps.length; omega)
  have hM0 : MapIs givenT 188 .u64 (w.alloc (.cells #[.int .i64 n, .int .u8 b.toNat] 305)) ρ.K m f := HM.out.keep (Below.heap_alloc _ _ _ HM.out.lt)
  have hM1 : MapIs givenT 188 .u64 w1 ρ.K m f := hM0.keep (hF1.keep _ (.inr rfl))
  have hT1 := hF1.stay _ _ _ (by decide) HT.out
  have hkv1 := cell_one (hF1.stay _ _ _ (by decide) (HF.out.below HB.out).stc.kv)
  have k0 : w1.cell? ⟨w.heap.size, 0, none⟩ = some (.int .i64 n) := by simp [World.cell?, hT1]
  have k1 : w1.cell? ⟨w.heap.size, 1, none⟩ = some (.int .u8 b.toNat) := by simp [World.cell?, hT1]
  have hmk : m < 1000000000000 := by
   have h1 := keys_few ks HND.out (fun x hx => by have := (HKS.out x hx).1; omega)
   have h2 := Hm.out
   omega
  obtain ⟨w2, hrun, hM2, hg⟩ := hM1.store (t := 319) Tryz.underlying319 Tryz.underlying188 hmk (n, b) (by show n ≤ _; omega) (R : Int) (wf_u64 hRlt)
  have hrun2 : (Instr.mapUpdate 319 (.map (some ρ.K)) (.agg #[.int .i64 n, .int .u8 b.toNat]) (.int .u64 R)).run Tryz.prog w1 = .ok () w2 := hrun
  have HEND := hide (after_new HX.out HF.out HB.out Hm.out HND.out HKS.out Hf.out Ht.out HFN.out hF1 hD1 hs1 hM1 hM2 hg)
  clear hF1 hD1 hs1 hM0 hM1 hT1 hrun hM2 hg HWK c1 hlk2 HM HB HT HX HF Hm HND HKS Hf HFN Ht
  go_wp2
  go_ret
  exact HEND.out
def Lang (ts : List D) (L : Nat) (u : List UInt8) : Prop := ∃ (m : Nat) (t : D), L.testBit m = true ∧ ts[m]? = some t ∧ Mt t.re u
def Inr (ts : List D) (L : Nat) : Prop := ∀ m, L.testBit m = true → m < ts.length
theorem Inr.append {ts us : List D} {L : Nat} (h : Inr ts L) : Inr (ts ++ us) L := fun m hm => by
 have := h m hm
 simp; omega
theorem Inr.or {ts : List D} {L R : Nat} (h : Inr ts L) (h' : Inr ts R) : Inr ts (L ||| R) := fun m hm => by
 rw [Nat.testBit_or, Bool.or_eq_true] at hm
 exact hm.elim (h m) (h' m)
theorem Inr.lt {ts : List D} {L : Nat} (h : Inr ts L) (hl : ts.length ≤ 64) : L < 18446744073709551616 := by
 refine Nat.lt_pow_two_of_testBit (n := 64) L fun i hi => ?_
 cases hb : L.testBit i with
 | false => rfl
 | true => have := h i hb; omega
theorem Lang.append {ts us : List D} {L : Nat} (h : Inr ts L) (u : List UInt8) : Lang (ts ++ us) L u ↔ Lang ts L u := by
 constructor
 ·rintro ⟨m, t, h1, h2, h3⟩
  rw [List.getElem?_append_left (h m h1)] at h2
  exact ⟨m, t, h1, h2, h3⟩
 ·rintro ⟨m, t, h1, h2, h3⟩
  exact ⟨m, t, h1, get_append_left h2, h3⟩
theorem Lang.or {ts : List D} {L R : Nat} {u : List UInt8} : Lang ts (L ||| R) u ↔ Lang ts L u ∨ Lang ts R u := by
 constructor
 ·rintro ⟨m, t, h1, h2, h3⟩
  rw [Nat.testBit_or, Bool.or_eq_true] at h1
  exact h1.elim (fun h => .inl ⟨m, t, h, h2, h3⟩) (fun h => .inr ⟨m, t, h, h2, h3⟩)
 ·rintro (⟨m, t, h1, h2, h3⟩ | ⟨m, t, h1, h2, h3⟩)
  ·exact ⟨m, t, by rw [Nat.testBit_or, h1]; rfl, h2, h3⟩
  ·exact ⟨m, t, by rw [Nat.testBit_or, h1]; simp, h2, h3⟩
theorem SetIs.inr {ts L : List D} {R : Nat} (h : SetIs ts L R) : Inr ts R := fun m hm => let ⟨_, _, h2⟩ := h.2 m hm; get_lt h2
theorem SetIs.lang {ts L : List D} {R : Nat} (h : SetIs ts L R) (u : List UInt8) : Lang ts R u ↔ ∃ d ∈ L, Mt d.re u := by
 constructor
 ·rintro ⟨m, t, h1, h2, h3⟩
  obtain ⟨t', h4, h5⟩ := h.2 m h1
  rw [h2] at h5
  cases h5
  exact ⟨t, h4, h3⟩
 ·rintro ⟨d, h1, h2⟩
  obtain ⟨m, h3, h4⟩ := h.1 d h1
  exact ⟨m, d, h4, h3, h2⟩
def GivePost (X : Nat → Prop) (ρ : Rd) (n0 : Nat) (root : ARe) (ts : List D) (L : Nat) (b : UInt8) (w : World) (e : Ending) (w' : World) : Prop :=
 ∃ (R : Nat) (us : List D) (en' : Nat), e = .returned (.int .u64 R) ∧ Fx X w w' ∧ Full w' X ρ n0 root (ts ++ us) en' ∧ Inr (ts ++ us) R ∧ ∀ u, Lang (ts ++ us) R u ↔ Lang ts L (b :: u)
def GiveLoop (X : Nat → Prop) (ρ : Rd) (n0 : Nat) (root : ARe) (ts : List D) (L : Nat) (b : UInt8) (w : World) (k : Nat) (left out : Value) (wr : World) : Prop :=
 ∃ (o : Nat) (us : List D) (en' : Nat), left = .int .u64 k ∧ out = .int .u64 o ∧ Fx X w wr ∧ Full wr X ρ n0 root (ts ++ us) en' ∧ Inr ts k ∧ Inr (ts ++ us) o ∧ (∀ i, k.testBit i = true → L.testBit i = true) ∧
  ∀ u, Lang (ts ++ us) o u ↔ ∃ i t, L.testBit i = true ∧ k.testBit i = false ∧ ts[i]? = some t ∧ Mt t.re (b :: u)
theorem give_step {X : Nat → Prop} {ρ : Rd} {n0 : Nat} {root : ARe} {ts us us' : List D} {L k o R en' : Nat} {t : D} {b : UInt8} {w wr w3 : World} (hX : Fx X w wr) (hk : Inr ts k) (hk0 : k ≠ 0) (hk64 : k < 18446744073709551616) (ho : Inr (ts ++ us) o) (hs : ∀ i, k.testBit i = true → L.testBit i = true)
  (hl : ∀ u, Lang (ts ++ us) o u ↔ ∃ i t, L.testBit i = true ∧ k.testBit i = false ∧ ts[i]? = some t ∧ Mt t.re (b :: u)) (ht : ts[Lib.ctz 64 k]? = some t) (hF3 : Fx X wr w3) (hFu : Full w3 X ρ n0 root (ts ++ us ++ us') en') (hset : SetIs (ts ++ us ++ us') (pd b t) R) :
  GiveLoop X ρ n0 root ts L b w (k &&& (k - 1)) (.int .u64 ((k &&& (k - 1) : Nat) : Int)) (.int .u64 ((o ||| R : Nat) : Int)) w3 := by
 obtain ⟨h1, h2, h3, h4⟩ := low_bit k hk64 hk0
 generalize Lib.ctz 64 k = c at *
 rw [List.append_assoc] at hFu hset
 refine ⟨o ||| R, us ++ us', en', rfl, rfl, hX.trans hF3, hFu, fun m hm => hk m ?_, ?_, fun i hi => hs i ?_, fun u => ?_⟩
 ·rw [h3] at hm; simp at hm; exact hm.1
 ·rw [← List.append_assoc]
  rw [← List.append_assoc] at hset
  exact ho.append.or hset.inr
 ·rw [h3] at hi; simp at hi; exact hi.1
 ·rw [Lang.or, ← List.append_assoc, Lang.append ho, hl]
  rw [← List.append_assoc] at hset
  rw [hset.lang, ← pd_spec]
  constructor
  ·rintro (⟨i, t', a1, a2, a3, a4⟩ | h)
   ·exact ⟨i, t', a1, by rw [h3, a2]; rfl, a3, a4⟩
   ·exact ⟨c, t, hs c h2, by rw [h3]; simp, ht, h⟩
  ·rintro ⟨i, t', a1, a2, a3, a4⟩
   rw [h3] at a2
   simp at a2
   cases hki : k.testBit i with
   | false => exact .inl ⟨i, t', a1, hki, a3, a4⟩
   | true =>
    have e := a2 hki
    subst e
    rw [ht] at a3
    cases a3
    exact .inr a4
set_option maxHeartbeats 2000000 in
theorem give_any (X : Nat → Prop) (ρ : Rd) (n0 : Nat) (root : ARe) (ts : List D) (en : Nat) (L : Nat) (b : UInt8) (w : World) (hX : Old X w) (h0 : X 1) (hT : Tab w) (hF : Full w X ρ n0 root ts en) (hL : Inr ts L) :
  Calls Tryz.prog 180 #[.func (.func 198) #[] #[.pointer (some ⟨ρ.kv, 0, none⟩), .pointer (some ⟨ρ.wk, 0, none⟩)], .int .u64 L, .int .u8 b.toNat] w (GivePost X ρ n0 root ts L b w) := by
 have HX := hide hX
 have H0 := hide h0
 have HT := hide hT
 have HF := hide hF
 have HL := hide hL
 clear hX h0 hT hF hL
 go_enter Tryz.func180, Tryz.ntmps180
 go_wp2_with fail
 go_loopg [1, 7] L (fun k left out wr => GiveLoop X ρ n0 root ts L b w k left out wr)
 case atStart =>
  refine ⟨0, [], en, rfl, rfl, Fx.refl _ _, by simpa using HF.out, HL.out, by intro m hm; simp at hm, fun i hi => hi, fun u => ?_⟩
  constructor
  ·rintro ⟨m, t, h1, _⟩; simp at h1
  ·rintro ⟨i, t, h1, h2, _⟩; rw [h1] at h2; cases h2
 case round =>
  obtain ⟨o, us, en', rfl, rfl, hFx, hFu, hk, ho, hsub, hl⟩ := hrel
  have hfew := hFu.few
  have hk64 := hk.lt (by simp at hfew; omega)
  have ho64 := ho.lt (by omega)
  by_cases hk0 : gk = 0
  ·have HEND := hide (show GivePost X ρ n0 root ts L b w (.returned (.int .u64 o)) wr from ⟨o, us, en', rfl, hFx, hFu, ho, fun u => (by
    rw [hl u]
    subst hk0
    constructor
    ·rintro ⟨i, t, h1, _, h3, h4⟩; exact ⟨i, t, h1, h3, h4⟩
    ·rintro ⟨i, t, h1, h3, h4⟩; exact ⟨i, t, h1, by simp, h3, h4⟩)⟩)
   subst hk0
   clear hFx hFu hk ho hsub hl
   go_wp2_with fail
   go_ret
   exact HEND.out
  ·have hk0' : ((gk : Int) == 0) = false := by rw [beq_eq_false_iff_ne]; omega
   obtain ⟨hc64, hcb, hcl, hclt⟩ := low_bit gk hk64 hk0
   obtain ⟨t, ht⟩ : ∃ t, ts[Lib.ctz 64 gk]? = some t := ⟨_, List.getElem?_eq_getElem (hk _ hcb)⟩
   have HTZ := hide (tz_any gk wr hk64 hk0 (HT.out.keep (hFx.keep 1 H0.out)))
   have HAF := hide (after_any X ρ n0 root (ts ++ us) en' t (Lib.ctz 64 gk) b wr (HX.out.fx hFx) hFu (get_append_left ht))
   have HFx := hide hFx
   have Hk := hide hk
   have Ho := hide ho
   have Hs := hide hsub
   have Hl := hide hl
   have Ht := hide ht
   clear hFx hFu hk ho hsub hl ht hcb hcl
   go_wp2_with fail
   refine HTZ.out.mono ?_
   rintro e w1 ⟨rfl, rfl⟩
   go_wp2_with fail
   refine HAF.out.mono ?_
   rintro e w3 ⟨R, us', en3, rfl, hF3, hFu3, hset3⟩
   have hR64 := hset3.inr.lt (by have h1 := hFu3.few; omega)
   have HST := hide (give_step HFx.out Hk.out hk0 hk64 Ho.out Hs.out Hl.out Ht.out hF3 hFu3 hset3)
   have HOR := hide (bits_or_u64_nat o R ho64 hR64)
   have HAN := hide (bits_and_u64_nat gk (gk - 1) hk64 (by omega))
   have HM1 := hide (show ((gk : Int) - 1) = ((gk - 1 : Nat) : Int) from by omega)
   clear hF3 hFu3 hset3 HTZ HAF
   go_wp2_with fail
   go_roundg (gk &&& (gk - 1))
   case measure => exact hclt
   case rel =>
    have hst := HST.out
    rw [← HOR.out, ← HAN.out, ← HM1.out] at hst
    exact hst
set_option maxHeartbeats 1000000 in
theorem give3_any (X : Nat → Prop) (ρ : Rd) (n0 : Nat) (root : ARe) (ts : List D) (en : Nat) (L : Nat) (b : UInt8) (w : World) (hX : Old X w) (h0 : X 1) (hT : Tab w) (hF : Full w X ρ n0 root ts en) (hL : Inr ts L) :
  Calls Tryz.prog 179 #[.int .u64 L, .int .u8 b.toNat, .pointer (some ⟨ρ.av, 0, none⟩)] w (GivePost X ρ n0 root ts L b w) := by
 have c0 := cell_one hF.stc.av
 have HG := hide (give_any X ρ n0 root ts en L b w hX h0 hT hF hL)
 clear hX h0 hT hF hL
 go_enter Tryz.func179, Tryz.ntmps179
 go_wp2_with fail
 refine HG.out.mono ?_
 rintro e w1 ⟨R, us, en', rfl, h1, h2, h3, h4⟩
 have HEND := hide (show GivePost X ρ n0 root ts L b w (.returned (.int .u64 R)) w1 from ⟨R, us, en', rfl, h1, h2, h3, h4⟩)
 clear h1 h2 h3 h4
 go_wp2
 go_ret
 exact HEND.out
theorem ends_iff {w : World} {X : Nat → Prop} {ρ : Rd} {n0 : Nat} {root : ARe} {ns : List (Nd Value)} {ts : List D} {pls : List Nat} {en : Nat} (h : Dyn w X ρ n0 root ns ts pls en) (L : Nat) : L &&& en ≠ 0 ↔ Lang ts L [] := by
 constructor
 ·intro hne
  obtain ⟨i, hi⟩ := Nat.exists_testBit_of_ne_zero hne
  rw [Nat.testBit_and, Bool.and_eq_true] at hi
  obtain ⟨t, h1, h2⟩ := (h.bits i).1 hi.2
  exact ⟨i, t, hi.1, h1, (mt_nil _).2 h2⟩
 ·rintro ⟨m, t, h1, h2, h3⟩ h0
  have hb := (h.bits m).2 ⟨t, h2, (mt_nil _).1 h3⟩
  have : (L &&& en).testBit m = true := by rw [Nat.testBit_and, h1, hb]; rfl
  rw [h0] at this
  simp at this
def EndsPost (ts : List D) (L : Nat) (w : World) (e : Ending) (w' : World) : Prop := ∃ x, e = .returned (.bool x) ∧ w' = w ∧ (x = true ↔ Lang ts L [])
set_option maxHeartbeats 1000000 in
theorem ends4_any (X : Nat → Prop) (ρ : Rd) (n0 : Nat) (root : ARe) (ts : List D) (en : Nat) (L : Nat) (w : World) (hF : Full w X ρ n0 root ts en) (hL : Inr ts L) :
  Calls Tryz.prog 181 #[.int .u64 L, .pointer (some ⟨ρ.ev, 0, none⟩)] w (EndsPost ts L w) := by
 have hfew := hF.few
 obtain ⟨ns, pls, hD⟩ := hF.dyn
 have c0 := cell_one hD.ev
 have HB := hide (bits_and_u64_nat L en (hL.lt (by omega)) hD.en_lt)
 have HE := hide (ends_iff hD L)
 clear hF hL hD
 go_enter Tryz.func181, Tryz.ntmps181
 go_wp2
 go_ret
 refine ⟨_, rfl, rfl, ?_⟩
 rw [← HE.out, HB.out]
 simp only [bne_iff_ne, ne_eq]
 omega
def rdv (ρ : Rd) (start : Nat) : Value := .agg #[.int .u64 start, .func (.func 179) #[] #[.pointer (some ⟨ρ.av, 0, none⟩)], .func (.func 181) #[] #[.pointer (some ⟨ρ.ev, 0, none⟩)]]
end Go.Proofs.YtgncgdkpkkdaeaaGreatDoor
