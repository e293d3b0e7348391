import Derived.Test.YtgncgdkpkkdaeaaGreatDoorKE
import Derived.Laws.Bits64b
import Derived.Lib.TrailingZeros
namespace Go.Proofs.YtgncgdkpkkdaeaaGreatDoor
open Go.RowKit Tint Go.Maps
theorem step_append_ints {ops : Array Oper} {o : Oper} {a : Act} {w : World} {K : Act → World → Prop} {Q : Exit → Act → World → Prop} {E : Prop} (hg : o.guard = none) (s x : Operand)
  (hop : o.op = Op.call { callee := Callee.builtin Builtin.append, args := #[s, x], argTypes := #[57, 57] }) (v u : Value) (xs ys : List Nat) (hs : a.eval s = v) (hx : a.eval x = u) (hv : Ints w 0 v xs) (hu : Ints w 0 u ys) (hn : xs.length + ys.length ≤ 1000000000000)
  (hK : ∀ v' w', Ints w' 0 v' (xs ++ ys) → w.grownBy w' v.ownBlock → (v'.ownBlock = v.ownBlock ∨ v'.ownBlock = some w.heap.size) → K (a.put o.dst v') w') :
  if Region.wanted o (yielded ops a.tmps) = true then Oper.wp Tryz.prog o a w K Q else E := by
 have hw : Region.wanted o (yielded ops a.tmps) = true := by simp [Region.wanted, hg]
 rw [if_pos hw]
 obtain ⟨v', w', hr, r2, r3, r5⟩ := run_append_ints w o.type v u xs ys hv hu hn
 unfold Oper.wp execOp
 simp only [hop, resolve, invoke, builtin, Sem.run_bind, Sem.run_pure, Result.andThen_ok, List.map_toArray, List.map_cons, List.map_nil, hs, hx, hr]
 exact hK v' w' r2 r3 r5
theorem wpList_append_ints (w : World) {ops : Array Oper} {rest : List Oper} {o : Oper} {a : Act} {Q : Exit → Act → World → Prop} (hg : o.guard = none) (s x : Operand)
  (hop : o.op = Op.call { callee := Callee.builtin Builtin.append, args := #[s, x], argTypes := #[57, 57] }) (v u : Value) (xs ys : List Nat) (hs : a.eval s = v) (hx : a.eval x = u) (hv : Ints w 0 v xs) (hu : Ints w 0 u ys) (hn : xs.length + ys.length ≤ 1000000000000)
  (hK : ∀ v' w', Ints w' 0 v' (xs ++ ys) → w.grownBy w' v.ownBlock → (v'.ownBlock = v.ownBlock ∨ v'.ownBlock = some w.heap.size) → wpList Tryz.prog ops Q rest (a.put o.dst v') w') : wpList Tryz.prog ops Q (o :: rest) a w := by
 refine wpList_plain hg fun K hK' => ?_
 obtain ⟨v', w', hr, r2, r3, r5⟩ := run_append_ints w o.type v u xs ys hv hu hn
 unfold Oper.wp execOp
 simp only [hop, resolve, invoke, builtin, Sem.run_bind, Sem.run_pure, Result.andThen_ok, List.map_toArray, List.map_cons, List.map_nil, hs, hx, hr]
 exact hK' _ _ (hK v' w' r2 r3 r5)
theorem rows_appended {X : Nat → Prop} {S n0 : Nat} {ns ms : List (Nd Value)} {Q ts : List D} {w w4 w5 : World} {v2 v5 : Value} {js2 js : List Nat} (hX : Old X w) (hF : Fx X w w4) (hS : Shelf w4 X S n0 (ns ++ ms) Q) (hv : Row w4 X v2 js2) (hI : Ints w5 0 v5 js) (hg : w4.grownBy w5 v2.ownBlock)
  (hloc : v5.ownBlock = v2.ownBlock ∨ v5.ownBlock = some w4.heap.size) (h2 : F2 (RepD (IsCls w4) n0 (ns ++ ms)) ts js) : EachPost X S n0 ns Q ts w (.returned v5) w5 := by
 have hty : ∀ k, v2.ownBlock = some k → ∀ c t fz, w4.heap[k]? = some (.cells c t fz) → t = 3 := fun k hk c t fz h => by
  obtain ⟨c', hc⟩ := hv.1.block hk
  rw [hc] at h
  cases h; rfl
 have hF5 : Fx X w4 w5 := (Fx.refl X w4).grown hg (hX.fx hF) hv.2 (fun k hk c t fz h => by rw [hty k hk c t fz h]; rfl)
 have hst := hF5.staying
 refine ⟨v5, js, ms, rfl, hF.trans hF5, ?_, ⟨hI, ?_⟩, h2.mono fun d k h => RepD.world hst h⟩
 ·refine hS.keep hst (fun k o hk ho hc => ?_) (fun k hk => .inl hk)
  rw [hg.block k (lt_of_get ho) (fun e => by
   obtain ⟨c', hc'⟩ := hv.1.block e.symm
   rw [ho] at hc'
   cases hc'
   rcases hc _ _ _ rfl with h | h <;> cases h)]
  exact ho
 ·intro k hk hXk
  rcases hloc with e | e
  ·rw [e] at hk; exact hv.2 k hk hXk
  ·rw [e] at hk
   have h1 := hX k hXk
   have h2 := hF.size
   have h3 : w4.heap.size = k := Option.some.inj hk
   omega
theorem orBlock_shelf {X : Nat → Prop} {S n0 : Nat} {ns : List (Nd Value)} {Q : List D} {w : World} {v : Value} {js : List Nat} (h : Shelf w X S n0 ns Q) (hv : Ints w 0 v js) : Shelf w (orBlock X v) S n0 ns Q :=
 h.keep (Stay.refl w) (fun _ _ _ ho _ => ho) (fun k hk => by
  rcases hk with hk | hk
  ·exact .inl hk
  ·refine .inr fun o ho => ?_
   obtain ⟨c, hc⟩ := hv.block hk
   rw [hc] at ho
   cases ho
   exact ⟨_, _, _, rfl, by decide, by decide⟩)
theorem second {X : Nat → Prop} {S n0 : Nat} {ns ms : List (Nd Value)} {Q ts us : List D} {w w2 w4 : World} {v2 v4 : Value} {js2 : List Nat} (hF : Fx X w w2) (hv : Row w2 X v2 js2) (h2 : F2 (RepD (IsCls w2) n0 (ns ++ ms)) ts js2) (hp : EachPost (orBlock X v2) S n0 (ns ++ ms) Q us w2 (.returned v4) w4) :
  ∃ js4 ks, Fx X w w4 ∧ Shelf w4 X S n0 (ns ++ (ms ++ ks)) Q ∧ Row w4 X v2 js2 ∧ Ints w4 0 v4 js4 ∧ F2 (RepD (IsCls w4) n0 (ns ++ (ms ++ ks))) (ts ++ us) (js2 ++ js4) ∧ js4.length = us.length := by
 obtain ⟨v, js4, ks, e, hF4, hS4, hR4, hf4⟩ := hp
 cases e
 refine ⟨js4, ks, hF.trans (hF4.sub fun _ h => .inl h), ?_, ⟨hv.1.keepB fun k hk => hF4.keep k (.inr hk), hv.2⟩, hR4.1, ?_, hf4.length.symm⟩
 ·rw [← List.append_assoc]
  exact hS4.keep (Stay.refl _) (fun _ _ _ h _ => h) (fun _ h => .inl (.inl h))
 ·rw [← List.append_assoc]
  exact (h2.mono fun d k h => (RepD.world hF4.staying h).append).append hf4
set_option maxHeartbeats 4000000 in
theorem derive_alt_node (b : UInt8) (k l r : Nat) (hv : Value) (e : Bool) (d d' : D) (hd : DOK b d) (hd' : DOK b d') (X : Nat → Prop) (S n0 : Nat) (ns : List (Nd Value)) (Q : List D) (w : World) (hX : Old X w) (hS : Shelf w X S n0 ns Q)
  (hn : ns[k]? = some ⟨3, hv, l, r, e⟩) (hR : RepD (IsCls w) n0 ns d l) (hR' : RepD (IsCls w) n0 ns d' r) (hQ1 : ∀ t ∈ joinsD d, t ∈ Q) (hQ2 : ∀ t ∈ joinsD d', t ∈ Q) (hsz : d.sz ≤ 1000000) (hsz' : d'.sz ≤ 1000000) :
  Calls Tryz.prog 178 #[.pointer (some ⟨S, 0, none⟩), .int .i64 k, .int .u8 b.toNat] w (EachPost X S n0 ns Q (pd b d ++ pd b d') w) := by
 obtain ⟨g, cap, c0, m0, m1, m2, m3, m4, hfm⟩ := hS.at hn
 have hkl := get_lt hn
 have hlen := hS.length
 have hst := store_form hfm
 have HX := hide hX
 have hb : Below w.heap.size w (w.alloc (.cells #[.int .i64 3, hv, .int .i64 l, .int .i64 r, .bool e] 292)) := (Below.refl _ _).alloc (Nat.le_refl _) _
 have HS1 := hide (andE_shelf hS (.cells #[.int .i64 3, hv, .int .i64 l, .int .i64 r, .bool e] 292))
 have HX1 := hide (andE_old hX (.cells #[.int .i64 3, hv, .int .i64 l, .int .i64 r, .bool e] 292))
 have HB := hide hb
 have HE := hide (heap_alloc_last w (.cells #[.int .i64 3, hv, .int .i64 l, .int .i64 r, .bool e] 292))
 have HD := hide (hd _ S n0 ns Q l (w.alloc (.cells #[.int .i64 3, hv, .int .i64 l, .int .i64 r, .bool e] 292)).drew HX1.out HS1.out.drew (RepD.world (Stay.of_below hb.drew) hR) hQ1 hsz)
 have HD' := hide (fun (w2 : World) (v2 : Value) (js : List Nat) (ms : List (Nd Value)) (hF2 : Fx (andE X w.heap.size) (w.alloc (.cells #[.int .i64 3, hv, .int .i64 l, .int .i64 r, .bool e] 292)) w2) (hS2 : Shelf w2 (andE X w.heap.size) S n0 (ns ++ ms) Q) (hI2 : Row w2 (andE X w.heap.size) v2 js) =>
  hd' (orBlock (andE X w.heap.size) v2) S n0 (ns ++ ms) Q r w2 ((HX1.out.fx hF2).orBlock hI2.1) (orBlock_shelf hS2 hI2.1) ((RepD.world ((Stay.of_below hb).trans hF2.staying) hR').append) hQ2 hsz')
 have HFB := hide (Fx.of_below hX hb)
 clear hX hS hn hR hR' hQ1 hQ2 hfm hb
 go_enter Tryz.func178, Tryz.ntmps178
 go_wp2_with fail
 go_region_law (first
  | (go_simp; go_at_call_of 178 (Value.int IntKind.i64 (l : Int)); refine HD.out.mono ?_; rintro e2 w2 ⟨v2, js, ms, rfl, hF2, hS2, hI2, hj2⟩; have HF2 := hide hF2.undrew; have HS2 := hide hS2; have HI2 := hide hI2; have HJ2 := hide hj2; clear hF2 hS2 hI2 hj2; obtain ⟨q2, q3⟩ := cells_E HE.out HF2.out)
  | (go_simp; go_at_call_of 178 (Value.int IntKind.i64 (r : Int)); refine (HD'.out w2 v2 js ms HF2.out HS2.out HI2.out).mono ?_; rintro e4 w4 hp; obtain ⟨v4, -, -, rfl, -⟩ := id hp; obtain ⟨js4, ks, hA4, hB4, hC4, hD4, hE4, hl4⟩ := second HF2.out HI2.out HJ2.out hp; have hnn : js.length + js4.length ≤ 1000000000000 := (by have h1 := HJ2.out.length; have h2 := length_pd b d; have h3 := length_pd b d'; omega); have HA4 := hide hA4; have HB4 := hide hB4; have HC4 := hide hC4; have HD4 := hide hD4; have HE4 := hide hE4; clear hp hA4 hB4 hC4 hD4 hE4 hl4)
  | (refine step_append_ints rfl (.tmp 59) (.tmp 64) rfl v2 v4 js js4 (by rfl) (by rfl) HC4.out.1 HD4.out hnn ?_; intro v5 w5 hI5 hg5 hl5; have HEND := hide (rows_appended HX1.out (HA4.out) HB4.out HC4.out hI5 hg5 hl5 HE4.out); clear hI5 hg5 hl5))
 all_goals
  have hend : EachPost X S n0 ns Q (pd b d ++ pd b d') w (.returned v5) w5 := by
   obtain ⟨_, js5, ms5, e5, f5, s5, r5, g5⟩ := HEND.out
   cases e5
   exact ⟨_, js5, ms5, rfl, HFB.out.trans (f5.sub fun _ h => .inl h), s5.less, r5.less, g5⟩
  have HF := hide hend
  clear hend
  go_wp2_with fail
  go_ret
  exact HF.out
theorem Shelf.flag {w : World} {X : Nat → Prop} {S n0 : Nat} {ns : List (Nd Value)} {Q : List D} (h : Shelf w X S n0 ns Q) {k : Nat} {d : D} (hk : RepD (IsCls w) n0 ns d k) :
  ∃ g len cap, w.cell? ⟨S, 0, none⟩ = some (.slice (some ⟨g, 0, none⟩) len cap) ∧ k < len ∧ len ≤ 100000000200 ∧ w.cell? ⟨g, k * 5 + 4, none⟩ = some (.bool d.re.nullable) := by
 obtain ⟨nd, h1, h2⟩ := hk.empty
 obtain ⟨g, cap, c0, -, -, -, -, c4, -⟩ := h.at h1
 exact ⟨g, _, cap, c0, get_lt h1, h.length, by rw [← h2]; exact c4⟩
set_option maxHeartbeats 4000000 in
theorem derive_seq_node (b : UInt8) (k l : Nat) (hv : Value) (r : Nat) (e : Bool) (d : D) (a : ARe) (hd : DOK b d) (hd' : DOK b (.base a)) (X : Nat → Prop) (S n0 : Nat) (ns : List (Nd Value)) (Q : List D) (w : World) (hX : Old X w) (hS : Shelf w X S n0 ns Q)
  (hn : ns[k]? = some ⟨2, hv, l, r, e⟩) (hak : a.ix = r) (hR : RepD (IsCls w) n0 ns d l) (ha : a.lt n0) (hra : Rep (IsCls w) ns a) (hQ1 : ∀ t ∈ joinsD d, t ∈ Q) (hQ2 : ∀ x ∈ pd b d, tcat x a ∈ Q) (hQ3 : ∀ t ∈ joinsA a, t ∈ Q) (hsz : d.sz ≤ 1000000) (hsz' : a.sz ≤ 1000000)
  (ts : List D) (hts : ts = (pd b d).map (tcat · a) ++ (if d.re.nullable then pdA b a else [])) :
  Calls Tryz.prog 178 #[.pointer (some ⟨S, 0, none⟩), .int .i64 k, .int .u8 b.toNat] w (EachPost X S n0 ns Q ts w) := by
 obtain ⟨g, cap, c0, m0, m1, m2, m3, m4, hfm⟩ := hS.at hn
 have hkl := get_lt hn
 have hlen := hS.length
 have hst := store_form hfm
 subst hak
 have HTS := hide hts
 have HX := hide hX
 obtain ⟨r, hr⟩ : ∃ r, r = a.ix := ⟨_, rfl⟩
 rw [← hr] at m3
 have hb : Below w.heap.size w (w.alloc (.cells #[.int .i64 2, hv, .int .i64 l, .int .i64 r, .bool e] 292)) := (Below.refl _ _).alloc (Nat.le_refl _) _
 have HS1 := hide (andE_shelf hS (.cells #[.int .i64 2, hv, .int .i64 l, .int .i64 r, .bool e] 292))
 have HX1 := hide (andE_old hX (.cells #[.int .i64 2, hv, .int .i64 l, .int .i64 r, .bool e] 292))
 have HE := hide (heap_alloc_last w (.cells #[.int .i64 2, hv, .int .i64 l, .int .i64 r, .bool e] 292))
 have HD := hide (hd _ S n0 ns Q l (w.alloc (.cells #[.int .i64 2, hv, .int .i64 l, .int .i64 r, .bool e] 292)).drew HX1.out HS1.out.drew (RepD.world (Stay.of_below hb.drew) hR) hQ1 hsz)
 have HJ := hide (fun (w2 : World) (v2 : Value) (js : List Nat) (ms : List (Nd Value)) (hF2 : Fx (andE X w.heap.size) (w.alloc (.cells #[.int .i64 2, hv, .int .i64 l, .int .i64 r, .bool e] 292)) w2) (hS2 : Shelf w2 (andE X w.heap.size) S n0 (ns ++ ms) Q) (hI2 : Row w2 (andE X w.heap.size) v2 js) (hj2 : F2 (RepD (IsCls w2) n0 (ns ++ ms)) (pd b d) js) => by
  have hjl : js.length ≤ 1000000000 := by
   have h1 := hj2.length
   have h2 := length_pd b d
   omega
  have hst2 := (Stay.of_below hb).trans hF2.staying
  have := joinEach_any _ S n0 (ns ++ ms) Q (pd b d) a v2 js w2 (HX1.out.fx hF2) hS2 hI2.1 hj2 ha ((hra.world hst2).append) hQ2 hjl
  rw [← hr] at this
  exact this)
 have HL := hide (fun (w3 : World) (ms : List (Nd Value)) (hF3 : Fx (andE X w.heap.size) (w.alloc (.cells #[.int .i64 2, hv, .int .i64 l, .int .i64 r, .bool e] 292)) w3) => (RepD.world ((Stay.of_below hb).trans hF3.staying) hR).append (ms := ms))
 have HD' := hide (fun (w3 : World) (v3 : Value) (js : List Nat) (ms : List (Nd Value)) (hF3 : Fx (andE X w.heap.size) (w.alloc (.cells #[.int .i64 2, hv, .int .i64 l, .int .i64 r, .bool e] 292)) w3) (hS3 : Shelf w3 (andE X w.heap.size) S n0 (ns ++ ms) Q) (hI3 : Row w3 (andE X w.heap.size) v3 js) =>
  hd' (orBlock (andE X w.heap.size) v3) S n0 (ns ++ ms) Q r w3 ((HX1.out.fx hF3).orBlock hI3.1) (orBlock_shelf hS3 hI3.1) (show RepD _ _ _ (.base a) r from ⟨hr, ha, (hra.world ((Stay.of_below hb).trans hF3.staying)).append⟩) hQ3 hsz')
 have HFB := hide (Fx.of_below hX hb)
 clear hX hS hn hR hra hQ1 hQ2 hQ3 hfm hb ha hr hts
 go_enter Tryz.func178, Tryz.ntmps178
 go_wp2_with fail
 go_region_with (first
  | (go_at_call 178; refine HD.out.mono ?_; rintro e2 w2 ⟨v2, js, ms, rfl, hF2, hS2, hI2, hj2⟩; have HF2 := hide hF2.undrew; have HS2 := hide hS2; have HI2 := hide hI2; have HJ2 := hide hj2; clear hF2 hS2 hI2 hj2; obtain ⟨q2, q3⟩ := cells_E HE.out HF2.out)
  | (go_at_call 199; refine (HJ.out w2 v2 js ms HF2.out HS2.out HI2.out HJ2.out).mono ?_; rintro e3 w3 ⟨v3, js3, ms3, rfl, hF3, hS3, hI3, hj3⟩; have HF3 := hide (HF2.out.trans hF3); have HS3 := hide hS3; have HI3 := hide hI3; have HJ3 := hide hj3; clear hF3 hS3 hI3 hj3))
 all_goals
  rw [List.append_assoc] at HS3 HJ3
  obtain ⟨p2, p3⟩ := cells_E HE.out HF3.out
  obtain ⟨g3, len3, cap3, f0, f1, f2, f4⟩ := HS3.out.flag (HL.out w3 (ms ++ ms3) HF3.out)
  clear q2 q3 m0 m1 m2 m3 m4 c0
  cases hnl : d.re.nullable with
  | false =>
   rw [hnl] at f4
   have HEND := hide (show ∀ nq, EachPost X S n0 ns Q ts w (.returned v3) (w3.drewN nq) from fun nq => by
    rw [HTS.out, hnl]
    simp only [Bool.false_eq_true, if_false, List.append_nil]
    exact ⟨v3, js3, ms ++ ms3, rfl, (HFB.out.trans (HF3.out.sub fun _ h => .inl h)).drewN nq, HS3.out.less.drewN nq, HI3.out.less, HJ3.out.mono fun d k h => RepD.world (w := w3) (w' := w3.drewN nq) (fun _ _ _ _ h => h) h⟩)
   clear hnl
   go_wp2_with fail
   go_quiet (fail)
   go_wp2_with fail
   go_ret
   exact HEND.out nq
  | true =>
   rw [hnl] at f4
   have HTS2 := hide (show ts = (pd b d).map (tcat · a) ++ pd b (.base a) from by rw [HTS.out, hnl]; rfl)
   have HJ4 := hide (show ∀ nq, F2 (RepD (IsCls (w3.drewN nq)) n0 (ns ++ (ms ++ ms3))) ((pd b d).map (tcat · a)) js3 from fun nq => HJ3.out.mono fun d k h => RepD.world (w := w3) (w' := w3.drewN nq) (fun _ _ _ _ h => h) h)
   have HI4 := hide (show ∀ nq, Row (w3.drewN nq) (andE X w.heap.size) v3 js3 from fun nq => HI3.out)
   clear hnl
   go_wp2_with fail
   go_quiet (fail)
   go_wp2_with fail
   refine (HD'.out (w3.drewN nq) v3 js3 (ms ++ ms3) (HF3.out.drewN nq) (HS3.out.drewN nq) (HI4.out nq)).mono ?_
   rintro e4 w4 hp
   obtain ⟨v4, -, -, rfl, -⟩ := id hp
   obtain ⟨js4, ks, hA4, hB4, hC4, hD4, hE4, hl4⟩ := second (HF3.out.drewN nq) (HI4.out nq) (HJ4.out nq) hp
   have hnn : js3.length + js4.length ≤ 1000000000000 := by
    have h1 := HJ3.out.length
    have h2 := length_pd b d
    have h3 := length_pd b (.base a)
    simp only [List.length_map] at h1
    simp only [D.sz] at h3
    omega
   have HA4 := hide hA4
   have HB4 := hide hB4
   have HC4 := hide hC4
   have HD4 := hide hD4
   have HE4 := hide hE4
   clear hp hA4 hB4 hC4 hD4 hE4 hl4 f0 f1 f2 f4 p2 p3
   go_wp2_with (at_builtin; refine wpList_append_ints w4 rfl (.tmp 45) (.tmp 50) rfl v3 v4 js3 js4 (by rfl) (by rfl) HC4.out.1 HD4.out hnn ?_; intro v5 w5 hI5 hg5 hl5; have HEND := hide (rows_appended HX1.out (HA4.out) HB4.out HC4.out hI5 hg5 hl5 HE4.out); clear hI5 hg5 hl5)
   have hend : EachPost X S n0 ns Q ts w (.returned v5) w5 := by
    obtain ⟨_, js5, ms5, e5, f5, s5, r5, g5⟩ := HEND.out
    cases e5
    rw [HTS2.out]
    exact ⟨_, js5, ms5, rfl, HFB.out.trans (f5.sub fun _ h => .inl h), s5.less, r5.less, g5⟩
   have HF := hide hend
   clear hend
   go_wp2_with fail
   go_ret
   exact HF.out
theorem derive_base (b : UInt8) (a : ARe) : DOK b (.base a) := by
 induction a with
 | eps =>
  intro X S n0 ns Q k w hX hS hR hQ hsz
  obtain ⟨rfl, hl, h, hn⟩ := hR
  exact derive_eps_node b _ _ _ _ _ X S n0 ns Q w hX hS hn
 | cls i c =>
  intro X S n0 ns Q k w hX hS hR hQ hsz
  obtain ⟨rfl, hl, _, h, hn, hc⟩ := hR
  exact derive_leaf_node b _ _ _ _ _ c X S n0 ns Q w hX hS hn hc
 | seq i x y ihx ihy =>
  intro X S n0 ns Q k w hX hS hR hQ hsz
  obtain ⟨rfl, ⟨hl, hlx, hly⟩, _, ⟨h, hn⟩, hx, hy⟩ := hR
  simp only [D.sz, ARe.sz] at hsz
  simp only [joinsD, joinsA, List.mem_append] at hQ
  exact derive_seq_node b _ _ _ _ _ (.base x) y ihx ihy X S n0 ns Q w hX hS hn rfl ⟨rfl, hlx, hx⟩ hly hy (fun t ht => hQ t (.inl (.inl ht))) (pd_joins (d := .base x) fun t ht => hQ t (.inl (.inr ht))) (fun t ht => hQ t (.inr ht)) (by simp only [D.sz]; omega) (by omega) _ rfl
 | alt i x y ihx ihy =>
  intro X S n0 ns Q k w hX hS hR hQ hsz
  obtain ⟨rfl, ⟨hl, hlx, hly⟩, _, ⟨h, hn⟩, hx, hy⟩ := hR
  simp only [D.sz, ARe.sz] at hsz
  simp only [joinsD, joinsA, List.mem_append] at hQ
  exact derive_alt_node b _ _ _ _ _ (.base x) (.base y) ihx ihy X S n0 ns Q w hX hS hn ⟨rfl, hlx, hx⟩ ⟨rfl, hly, hy⟩ (fun t ht => hQ t (.inl ht)) (fun t ht => hQ t (.inr ht)) (by simp only [D.sz]; omega) (by simp only [D.sz]; omega)
 | star i x ih =>
  intro X S n0 ns Q k w hX hS hR hQ hsz
  obtain ⟨rfl, hl, hr⟩ := hR
  obtain ⟨_, ⟨h, hn⟩, hx⟩ := id hr
  simp only [D.sz, ARe.sz] at hsz
  simp only [joinsD, joinsA, List.mem_append] at hQ
  exact derive_star_node b _ _ _ _ _ (.base x) (.star _ x) ih X S n0 ns Q w hX hS hn rfl ⟨rfl, hl.2, hx⟩ hl hr (fun t ht => hQ t (.inl ht)) (pd_joins (d := .base x) fun t ht => hQ t (.inr ht)) (by simp only [D.sz]; omega)
 | plus i j x ih =>
  intro X S n0 ns Q k w hX hS hR hQ hsz
  obtain ⟨rfl, ⟨hl, hlj, hlx⟩, _, hj0, ⟨h, hn⟩, hj, hx⟩ := hR
  simp only [D.sz, ARe.sz] at hsz
  simp only [joinsD, joinsA, List.mem_append] at hQ
  exact derive_plus_node b _ _ _ _ _ (.base x) (.star j x) ih X S n0 ns Q w hX hS hn rfl ⟨rfl, hlx, hx⟩ ⟨hlj, hlx⟩ ⟨hj0, hj, hx⟩ (fun t ht => hQ t (.inl ht)) (pd_joins (d := .base x) fun t ht => hQ t (.inr ht)) (by simp only [D.sz]; omega)
 | opt i x ih =>
  intro X S n0 ns Q k w hX hS hR hQ hsz
  obtain ⟨rfl, ⟨hl, hlx⟩, _, ⟨h, hn⟩, hx⟩ := hR
  simp only [D.sz, ARe.sz] at hsz
  exact derive_opt_node b _ _ _ _ _ (.base x) ih X S n0 ns Q w hX hS hn ⟨rfl, hlx, hx⟩ hQ (by simp only [D.sz]; omega)
theorem derive_all (b : UInt8) (d : D) : DOK b d := by
 induction d with
 | base a => exact derive_base b a
 | snoc d a ih =>
  intro X S n0 ns Q k w hX hS hR hQ hsz
  obtain ⟨hk, hl, ha, m, hm, hd, h, hn⟩ := hR
  simp only [D.sz] at hsz
  simp only [joinsD, List.mem_append] at hQ
  exact derive_seq_node b _ _ _ _ _ d a ih (derive_base b a) X S n0 ns Q w hX hS hn rfl hd hl ha (fun t ht => hQ t (.inl (.inl ht))) (pd_joins fun t ht => hQ t (.inl (.inr ht))) (fun t ht => hQ t (.inr ht)) (by omega) (by omega) _ rfl
theorem Ints.form {w : World} {B : Nat} {v : Value} {xs : List Nat} (h : Ints w B v xs) : ∃ ao cap, v = .slice ao xs.length cap := by
 rcases h.2 with ⟨rfl, h0⟩ | ⟨g, cap, _, rfl, _⟩
 ·exact ⟨none, 0, by rw [h0]⟩
 ·exact ⟨_, cap, rfl⟩
structure Keeps (C : Nat → Prop) (w w' : World) : Prop where
 os : w'.os = w.os
 tape : w'.tape = w.tape
 output : w'.output = w.output
 size : w.heap.size ≤ w'.heap.size
 keep : ∀ k, k < w.heap.size → ¬ C k → w'.heap[k]? = w.heap[k]?
theorem Keeps.refl (C : Nat → Prop) (w : World) : Keeps C w w := ⟨rfl, rfl, rfl, Nat.le_refl _, fun _ _ _ => rfl⟩
structure Nums (w : World) (M pl : Nat) (pv : Value) (pls : List Nat) : Prop where
 var : w.heap[pl]? = some (.cells #[pv] 57 (0, 0))
 row : Ints w 0 pv pls
 map : ∃ m f, MapIs intT 3 .i64 w M m f ∧ m ≤ pls.length ∧ ∀ k c, f k = some c ↔ ∃ n : Nat, c = n ∧ pls[n]? = some k
 nodup : pls.Nodup
 small : ∀ k ∈ pls, k ≤ 1000000000000
def numC (M pl : Nat) (pv : Value) : Nat → Prop := fun k => k = M ∨ k = pl ∨ pv.ownBlock = some k
def NumPost (M pl : Nat) (pv : Value) (pls : List Nat) (k : Nat) (w : World) (e : Ending) (w' : World) : Prop :=
 ∃ (n : Nat) (pv' : Value) (pls' : List Nat), e = .returned (.int .i64 n) ∧ Keeps (numC M pl pv) w w' ∧ Nums w' M pl pv' pls' ∧ pls'[n]? = some k ∧ (pls' = pls ∨ pls' = pls ++ [k]) ∧ (pv'.ownBlock = pv.ownBlock ∨ ∃ b, pv'.ownBlock = some b ∧ w.heap.size ≤ b)
theorem nodup_get {l : List Nat} (hn : l.Nodup) {i j x : Nat} (h1 : l[i]? = some x) (h2 : l[j]? = some x) : i = j := by
 have l1 := get_lt h1
 have l2 := get_lt h2
 rw [List.getElem?_eq_getElem l1] at h1
 rw [List.getElem?_eq_getElem l2] at h2
 exact (List.getElem_inj hn).1 ((Option.some.inj h1).trans (Option.some.inj h2).symm)
set_option maxHeartbeats 1000000 in
theorem number_old (M pl mv : Nat) (pv : Value) (pls : List Nat) (k n : Nat) (w : World) (hN : Nums w M pl pv pls) (hmv : w.heap[mv]? = some (.cells #[.map (some M)] 318 (0, 0))) (hk : k ≤ 1000000000000) (h : pls[n]? = some k) :
  Calls Tryz.prog 196 #[.int .i64 k, .pointer (some ⟨mv, 0, none⟩), .pointer (some ⟨pl, 0, none⟩)] w (NumPost M pl pv pls k w) := by
 obtain ⟨m, f, hM, hm, hf⟩ := hN.map
 have c0 := cell_one hmv
 have hlk := hM.look (t := 318) Tryz.underlying318 Tryz.underlying3 zero_int k hk
 rw [(hf k n).2 ⟨n, rfl, h⟩] at hlk
 have hlk2 : (Instr.lookup 318 (.map (some M)) (.int .i64 k) true).run Tryz.prog w = .ok (.tuple #[.int .i64 n, .bool true]) w := hlk
 have HEND := hide (show NumPost M pl pv pls k w (.returned (.int .i64 n)) w from ⟨n, pv, pls, rfl, Keeps.refl _ _, hN, h, .inl rfl, .inl rfl⟩)
 clear hN hM hm hf hlk hmv h
 go_enter Tryz.func196, Tryz.ntmps196
 go_wp2
 go_ret
 exact HEND.out
theorem number_end {M pl k m : Nat} {pv pv' : Value} {pls : List Nat} {f : Nat → Option Int} {w w1 w2 : World} {c : Array Value} (hN : Nums w M pl pv pls) (hk : k ≤ 1000000000000) (hnew : k ∉ pls) (hm : m ≤ pls.length) (hf : ∀ k c, f k = some c ↔ ∃ n : Nat, c = n ∧ pls[n]? = some k)
  (hM1 : MapIs intT 3 .i64 w1 M (m + 1) (fun y => if y = k then some (pls.length : Int) else f y)) (hg1 : w.grownBy w1 (some M)) (hI2 : Ints w2 0 pv' (pls ++ [k])) (hg2 : (w1.alloc (.cells c 3)).grownBy w2 pv.ownBlock)
  (hl2 : pv'.ownBlock = pv.ownBlock ∨ pv'.ownBlock = some (w1.alloc (.cells c 3)).heap.size) :
  w2.heap[pl]? = some (.cells #[pv] 57 (0, 0)) ∧ NumPost M pl pv pls k w (.returned (.int .i64 pls.length)) (w2.setCell ⟨pl, 0, none⟩ pv') := by
 obtain ⟨es, clk, hMo⟩ : ∃ es clk, w.heap[M]? = some (.map es clk) := by obtain ⟨_, _, h, _⟩ := hN.map; exact h.obj
 obtain ⟨es1, clk1, hMo1⟩ := hM1.obj
 have hplM : pl ≠ M := by rintro rfl; rw [hN.var] at hMo; cases hMo
 have hpl1 : w1.heap[pl]? = some (.cells #[pv] 57 (0, 0)) := by
  rw [hg1.block pl (lt_of_get hN.var) (fun e => hplM (Option.some.inj e))]; exact hN.var
 have hrow : ∀ j, pv.ownBlock = some j → ∃ cur, w.heap[j]? = some (.cells cur 3 (0, 0)) := fun j hj => hN.row.block hj
 have hpl2 : w2.heap[pl]? = some (.cells #[pv] 57 (0, 0)) := by
  rw [hg2.block pl (by have := lt_of_get hpl1; simp; omega) (fun e => by
   obtain ⟨cur, hc⟩ := hrow pl e.symm
   rw [hN.var] at hc; simp at hc)]
  exact heap_alloc_old hpl1
 have hM2 : w2.heap[M]? = some (.map es1 clk1) := by
  rw [hg2.block M (by have := lt_of_get hMo1; simp; omega) (fun e => by
   obtain ⟨cur, hc⟩ := hrow M e.symm
   rw [hMo] at hc; cases hc)]
  exact heap_alloc_old hMo1
 refine ⟨hpl2, pls.length, pv', pls ++ [k], rfl, ⟨hg2.os.trans hg1.os, hg2.tape.trans hg1.tape, hg2.output.trans hg1.output, ?_, ?_⟩, ⟨heap_setCell_same w2 pl 0 _ hpl2, ?_, ⟨m + 1, (fun y => if y = k then some (pls.length : Int) else f y), ?_, ?_, ?_⟩, ?_, ?_⟩, ?_, .inr rfl, ?_⟩
 ·have h1 := hg1.size
  have h2 := hg2.size
  simp [World.setCell] at h2 ⊢
  omega
 ·intro j hj hC
  have hjM : j ≠ M := fun e => hC (.inl e)
  have hjp : j ≠ pl := fun e => hC (.inr (.inl e))
  rw [Below.heap_setCell _ _ _ _ (by exact hjp), hg2.block j (by have := hg1.size; simp; omega) (fun e => hC (.inr (.inr e.symm))), Below.heap_alloc _ _ _ (by have := hg1.size; omega), hg1.block j hj (fun e => hjM (Option.some.inj e))]
 ·refine hI2.keepB fun j hj => Below.heap_setCell _ _ _ _ ?_
  obtain ⟨cur, hc⟩ := hI2.block hj
  rintro rfl
  rw [hpl2] at hc
  simp at hc
 ·refine hM1.keep ?_
  rw [Below.heap_setCell _ _ _ _ (by exact fun e => hplM e.symm), hM2, hMo1]
 ·simp; omega
 ·intro x c
  show (if x = k then some (pls.length : Int) else f x) = some c ↔ _
  by_cases e : x = k
  ·subst e
   rw [if_pos rfl]
   constructor
   ·intro h
    refine ⟨pls.length, by simpa using h.symm, by simp⟩
   ·rintro ⟨n, rfl, h⟩
    rcases Nat.lt_or_ge n pls.length with hl | hl
    ·rw [List.getElem?_append_left hl] at h
     exact absurd (List.mem_of_getElem? h) hnew
    ·have := get_lt h
     simp at this
     rw [show n = pls.length by omega]
  ·rw [if_neg e, hf]
   constructor
   ·rintro ⟨n, rfl, h⟩; exact ⟨n, rfl, get_append_left h⟩
   ·rintro ⟨n, rfl, h⟩
    rcases Nat.lt_or_ge n pls.length with hl | hl
    ·rw [List.getElem?_append_left hl] at h; exact ⟨n, rfl, h⟩
    ·have := get_lt h
     simp at this
     rw [show n = pls.length by omega] at h
     simp at h
     exact absurd h.symm e
 ·exact List.nodup_append.2 ⟨hN.nodup, by simp, fun a ha b hb => by simp at hb; subst hb; rintro rfl; exact hnew ha⟩
 ·intro x hx
  rcases List.mem_append.1 hx with h | h
  ·exact hN.small x h
  ·simp at h; omega
 ·simp
 ·rcases hl2 with e | e
  ·exact .inl e
  ·refine .inr ⟨_, e, ?_⟩
   have := hg1.size
   simp; omega
set_option maxHeartbeats 1000000 in
theorem number_new (M pl mv : Nat) (pv : Value) (pls : List Nat) (k : Nat) (w : World) (hN : Nums w M pl pv pls) (hmv : w.heap[mv]? = some (.cells #[.map (some M)] 318 (0, 0))) (hk : k ≤ 1000000000000) (hl : pls.length ≤ 1000000) (h : k ∉ pls) :
  Calls Tryz.prog 196 #[.int .i64 k, .pointer (some ⟨mv, 0, none⟩), .pointer (some ⟨pl, 0, none⟩)] w (NumPost M pl pv pls k w) := by
 obtain ⟨m, f, hM, hm, hf⟩ := hN.map
 have c0 := cell_one hmv
 have c1 := cell_one hN.var
 have hlk := hM.look (t := 318) Tryz.underlying318 Tryz.underlying3 zero_int k hk
 have hnone : f k = none := by
  cases hfk : f k with
  | none => rfl
  | some c => obtain ⟨n, _, h2⟩ := (hf k c).1 hfk; exact absurd (List.mem_of_getElem? h2) h
 rw [hnone] at hlk
 have hlk2 : (Instr.lookup 318 (.map (some M)) (.int .i64 k) true).run Tryz.prog w = .ok (.tuple #[.int .i64 0, .bool false]) w := hlk
 obtain ⟨w1, hrun, hM1, hg1⟩ := hM.store (t := 318) Tryz.underlying318 Tryz.underlying3 (by omega) k hk (pls.length : Int) (wf_nat _ (by omega))
 have hrun2 : (Instr.mapUpdate 318 (.map (some M)) (.int .i64 k) (.int .i64 pls.length)).run Tryz.prog w = .ok () w1 := hrun
 obtain ⟨es, clk, hMo⟩ := hM.obj
 have hplM : pl ≠ M := by rintro rfl; rw [hN.var] at hMo; cases hMo
 have hmvM : mv ≠ M := by rintro rfl; rw [hmv] at hMo; cases hMo
 have hpl1 : w1.heap[pl]? = some (.cells #[pv] 57 (0, 0)) := by
  rw [hg1.block pl (lt_of_get hN.var) (fun e => hplM (Option.some.inj e))]; exact hN.var
 have d1 := cell_one hpl1
 have hI1 : Ints w1 0 pv pls := hN.row.keepB fun j hj => hg1.block j (lt_of_get (hN.row.block hj).choose_spec) (fun e => by
  obtain ⟨cur, hc⟩ := hN.row.block hj
  rw [Option.some.inj e, hMo] at hc; cases hc)
 have hform : ∃ ao cap, pv = .slice ao pls.length cap := by
  rcases hN.row.2 with ⟨rfl, h0⟩ | ⟨g, cap, _, rfl, _⟩
  ·exact ⟨none, 0, by rw [h0]⟩
  ·exact ⟨_, cap, rfl⟩
 obtain ⟨ao, cap, rfl⟩ := hform
 have hone : Ints (w1.alloc (.cells #[.int .i64 k] 3)) 0 (.slice (some ⟨w1.heap.size, 0, none⟩) 1 1) [k] :=
  ⟨by simp, .inr ⟨w1.heap.size, 1, #[.int .i64 k], rfl, Nat.zero_le _, heap_alloc_last _ _, Nat.le_refl _, by unfold maxLen; omega, rfl, rfl⟩⟩
 have HONE := hide hone
 have HI1 := hide (hI1.keepB (w' := w1.alloc (.cells #[.int .i64 k] 3)) fun j hj => Below.heap_alloc _ _ _ (lt_of_get (hI1.block hj).choose_spec))
 have HN := hide hN
 have HH := hide h
 have HM := hide hm
 have HF := hide hf
 have HM1 := hide hM1
 have HG1 := hide hg1
 clear hN hM hm hf hlk hmv h hI1 hM1 hg1 hrun hMo hnone hpl1 hone
 go_enter Tryz.func196, Tryz.ntmps196
 go_wp2_with (at_builtin; refine wpList_append_ints _ rfl (.tmp 20) (.tmp 22) rfl _ _ pls [k] (by rfl) (by rfl) HI1.out HONE.out (by simp; omega) ?_; intro v' w2 hI2 hg2 hl2; obtain ⟨hp2, hpost⟩ := number_end HN.out hk HH.out HM.out HF.out HM1.out HG1.out hI2 hg2 hl2; have p0 := cell_one hp2; have pf : w2.frozen? ⟨pl, 0, none⟩ = false := (by simp [World.frozen?, hp2]); obtain ⟨ao2, cap2, rfl⟩ := hI2.form; rw [List.length_append, List.length_cons, List.length_nil] at hpost; have HP := hide hpost; clear hI2 hg2 hl2 hp2 hpost)
 go_ret
 exact HP.out
theorem number_any (M pl mv : Nat) (pv : Value) (pls : List Nat) (k : Nat) (w : World) (hN : Nums w M pl pv pls) (hmv : w.heap[mv]? = some (.cells #[.map (some M)] 318 (0, 0))) (hk : k ≤ 1000000000000) (hl : pls.length ≤ 1000000) :
  Calls Tryz.prog 196 #[.int .i64 k, .pointer (some ⟨mv, 0, none⟩), .pointer (some ⟨pl, 0, none⟩)] w (NumPost M pl pv pls k w) := by
 by_cases h : k ∈ pls
 ·obtain ⟨n, hn⟩ := List.mem_iff_getElem?.1 h
  exact number_old M pl mv pv pls k n w hN hmv hk hn
 ·exact number_new M pl mv pv pls k w hN hmv hk hl h
set_option maxHeartbeats 1000000 in
theorem expressionOf_any (M pl : Nat) (pv : Value) (pls : List Nat) (k n : Nat) (w : World) (hN : Nums w M pl pv pls) (h : pls[n]? = some k) :
  Calls Tryz.prog 197 #[.int .i64 n, .pointer (some ⟨pl, 0, none⟩)] w fun e w' => e = .returned (.int .i64 k) ∧ w' = w := by
 have c1 := cell_one hN.var
 obtain ⟨g, cap, rfl, hc⟩ := hN.row.at h
 have hlt := get_lt h
 clear hN h
 go_enter Tryz.func197, Tryz.ntmps197
 go_wp2
 go_ret
 exact ⟨rfl, rfl⟩
set_option maxHeartbeats 1000000 in
theorem tz_core (x k idx : Nat) (w : World) (hx0 : ((x : Int) == 0) = false)
  (key : IntKind.u64.wrap (bits BinOp.and IntKind.u64 (x : Int) (IntKind.u64.wrap (-(x : Int))) * 285870213051353865) / 288230376151711744 = (idx : Int))
  (hi : idx < 64) (hk : k < 64) (hcell : w.cell? ⟨1, idx, none⟩ = some (.int .u8 k)) :
  Calls Tryz.prog 200 #[.int .u64 x] w fun e w' => e = .returned (.int .i64 k) ∧ w' = w := by
 go_enter Tryz.func200, Tryz.ntmps200
 go_wp2_with (simp only [key])
 go_ret
 exact ⟨rfl, rfl⟩
def Tab (w : World) : Prop := ∀ j, j < 64 → w.cell? ⟨1, j, none⟩ = some (.int .u8 (Lib.deBruijn64tab.getD j 0))
theorem Tab.keep {w w' : World} (h : Tab w) (hk : w'.heap[1]? = w.heap[1]?) : Tab w' := fun j hj => (World.cell?_of_block (w := w) hk).trans (h j hj)
theorem tz_key (x a : Nat) (hx : x < 18446744073709551616) (hx0 : x ≠ 0) (h : x &&& (18446744073709551616 - x) = a) :
  IntKind.u64.wrap (bits BinOp.and IntKind.u64 (x : Int) (IntKind.u64.wrap (-(x : Int))) * 285870213051353865) / 288230376151711744 = ((a * 285870213051353865 % 18446744073709551616 / 288230376151711744 : Nat) : Int) := by
 have hneg : IntKind.u64.wrap (-(x : Int)) = ((18446744073709551616 - x : Nat) : Int) := by rw [IntKind.wrap_u64]; omega
 rw [hneg, bits_and_u64_nat x _ hx (by omega), h, IntKind.wrap_u64]
 omega
theorem tz_any (x : Nat) (w : World) (hx : x < 18446744073709551616) (hx0 : x ≠ 0) (hT : Tab w) :
  Calls Tryz.prog 200 #[.int .u64 x] w fun e w' => e = .returned (.int .i64 (Lib.ctz 64 x)) ∧ w' = w := by
 obtain ⟨h1, h2⟩ := Lib.lowest_bit 64 x hx0 hx
 obtain ⟨h3, h4⟩ := Lib.deBruijn64_at _ h2
 have hc := hT _ h3
 rw [h4] at hc
 exact tz_core x (Lib.ctz 64 x) _ w (by rw [beq_eq_false_iff_ne]; omega) (tz_key x _ hx hx0 h1) h3 h2 hc
theorem low_bit (x : Nat) (hx : x < 18446744073709551616) (hx0 : x ≠ 0) : Lib.ctz 64 x < 64 ∧ x.testBit (Lib.ctz 64 x) = true ∧ (∀ i, (x &&& (x - 1)).testBit i = (x.testBit i && decide (i ≠ Lib.ctz 64 x))) ∧ x &&& (x - 1) < x := by
 obtain ⟨m, hm, hk⟩ := Lib.ctzFrom_spec 64 x (by omega) (by omega)
 have e : Lib.ctz 64 x = Lib.ctzFrom 64 x := by simp [Lib.ctz, hx0]
 rw [e]
 generalize Lib.ctzFrom 64 x = k at hm hk
 have hp : 0 < 2 ^ k := Nat.two_pow_pos k
 have h1 : x = 2 ^ k * (2 * m + 1) + 0 := by omega
 have h2 : x - 1 = 2 ^ k * (2 * m) + (2 ^ k - 1) := by
  rw [hm, Nat.mul_add, Nat.mul_one]; omega
 have b1 : ∀ i, x.testBit i = if i < k then false else (2 * m + 1).testBit (i - k) := fun i => by
  rw [h1, Nat.testBit_two_pow_mul_add _ hp]; simp
 have b2 : ∀ i, (x - 1).testBit i = if i < k then true else (2 * m).testBit (i - k) := fun i => by
  rw [h2, Nat.testBit_two_pow_mul_add _ (by omega), Nat.testBit_two_pow_sub_one]
  by_cases h : i < k <;> simp [h]
 refine ⟨hk, by rw [b1]; simp [Nat.testBit_zero], fun i => ?_, ?_⟩
 ·rw [Nat.testBit_and, b1, b2]
  by_cases h : i < k
  ·simp [h]
  ·by_cases h' : i = k
   ·subst h'; simp [Nat.testBit_zero]
   ·obtain ⟨j, rfl⟩ : ∃ j, i = k + (j + 1) := ⟨i - k - 1, by omega⟩
    have e3 : k + (j + 1) - k = j + 1 := by omega
    rw [if_neg h, if_neg h, e3, Nat.testBit_succ, Nat.testBit_succ]
    have d1 : (2 * m + 1) / 2 = m := by omega
    have d2 : 2 * m / 2 = m := by omega
    rw [d1, d2]
    simp
 ·have : x &&& (x - 1) ≤ x - 1 := Nat.and_le_right
  omega
structure Rd where
 S : Nat
 sv : Nat
 M : Nat
 mv : Nat
 pl : Nat
 nv : Nat
 xv : Nat
 ev : Nat
 kk : Nat
 wk : Nat
 K : Nat
 kv : Nat
 av : Nat
structure Stc (w : World) (ρ : Rd) : Prop where
 sv : w.heap[ρ.sv]? = some (.cells #[.pointer (some ⟨ρ.S, 0, none⟩)] 295 (0, 0))
 mv : w.heap[ρ.mv]? = some (.cells #[.map (some ρ.M)] 318 (0, 0))
 nv : w.heap[ρ.nv]? = some (.cells #[.func (.func 196) #[] #[.pointer (some ⟨ρ.mv, 0, none⟩), .pointer (some ⟨ρ.pl, 0, none⟩)]] 284 (0, 0))
 xv : w.heap[ρ.xv]? = some (.cells #[.func (.func 197) #[] #[.pointer (some ⟨ρ.pl, 0, none⟩)]] 284 (0, 0))
 kk : w.heap[ρ.kk]? = some (.cells #[.func (.func 175) #[] #[.pointer (some ⟨ρ.nv, 0, none⟩), .pointer (some ⟨ρ.sv, 0, none⟩), .pointer (some ⟨ρ.ev, 0, none⟩)]] 301 (0, 0))
 wk : w.heap[ρ.wk]? = some (.cells #[.func (.func 177) #[] #[.pointer (some ⟨ρ.sv, 0, none⟩), .pointer (some ⟨ρ.xv, 0, none⟩), .pointer (some ⟨ρ.kk, 0, none⟩)]] 302 (0, 0))
 kv : w.heap[ρ.kv]? = some (.cells #[.map (some ρ.K)] 319 (0, 0))
 av : w.heap[ρ.av]? = some (.cells #[.func (.func 198) #[] #[.pointer (some ⟨ρ.kv, 0, none⟩), .pointer (some ⟨ρ.wk, 0, none⟩)]] 302 (0, 0))
theorem Stc.fx {w w' : World} {ρ : Rd} {X : Nat → Prop} (h : Stc w ρ) (hF : Fx X w w') : Stc w' ρ :=
 ⟨hF.stay _ _ _ (by decide) h.sv, hF.stay _ _ _ (by decide) h.mv, hF.stay _ _ _ (by decide) h.nv, hF.stay _ _ _ (by decide) h.xv, hF.stay _ _ _ (by decide) h.kk, hF.stay _ _ _ (by decide) h.wk, hF.stay _ _ _ (by decide) h.kv, hF.stay _ _ _ (by decide) h.av⟩
def plus (X : Nat → Prop) (ρ : Rd) : Nat → Prop := fun k => X k ∨ k = ρ.M ∨ k = ρ.K
structure Dyn (w : World) (X : Nat → Prop) (ρ : Rd) (n0 : Nat) (root : ARe) (ns : List (Nd Value)) (ts : List D) (pls : List Nat) (en : Nat) : Prop where
 shelf : Shelf w (plus X ρ) ρ.S n0 ns (shelved root)
 nums : ∃ pv, Nums w ρ.M ρ.pl pv pls ∧ ∀ k, pv.ownBlock = some k → ¬ X k
 ev : w.heap[ρ.ev]? = some (.cells #[.int .u64 en] 188 (0, 0))
 nX : ¬ X ρ.M ∧ ¬ X ρ.pl ∧ ¬ X ρ.ev
 reps : F2 (RepD (IsCls w) n0 ns) ts pls
 met : ∀ t ∈ ts, t ∈ met root
 bits : ∀ n, en.testBit n = true ↔ ∃ t, ts[n]? = some t ∧ t.re.nullable = true
 sz : root.sz ≤ 200
 leaves : root.leaves ≤ 60
theorem Dyn.few {w : World} {X : Nat → Prop} {ρ : Rd} {n0 : Nat} {root : ARe} {ns : List (Nd Value)} {ts : List D} {pls : List Nat} {en : Nat} (h : Dyn w X ρ n0 root ns ts pls en) : pls.length ≤ 61 := by
 obtain ⟨pv, hN, _⟩ := h.nums
 have h1 := pigeon (R := fun d k => RepD (IsCls w) n0 ns d k) (fun d b b' r r' => r.func h.shelf.uniq r') (P := Tint.met root) hN.nodup (fun k hk => by
  obtain ⟨i, hi⟩ := List.mem_iff_getElem?.1 hk
  obtain ⟨t, ht, hr⟩ := h.reps.get hi
  exact ⟨t, h.met t (List.mem_of_getElem? ht), hr⟩)
 rw [length_met] at h1
 have := h.leaves
 omega
theorem Dyn.en_lt {w : World} {X : Nat → Prop} {ρ : Rd} {n0 : Nat} {root : ARe} {ns : List (Nd Value)} {ts : List D} {pls : List Nat} {en : Nat} (h : Dyn w X ρ n0 root ns ts pls en) : en < 18446744073709551616 := by
 have h1 := h.few
 rw [← h.reps.length] at h1
 refine Nat.lt_pow_two_of_testBit (n := 64) en fun i hi => ?_
 cases hb : en.testBit i with
 | false => rfl
 | true =>
  obtain ⟨t, ht, _⟩ := (h.bits i).1 hb
  have := get_lt ht
  omega
end Go.Proofs.YtgncgdkpkkdaeaaGreatDoor
