/- derive: a choice, a sequence. -/
import Derived.Test.YtgncgdkpkkdaeaaDoorR3
namespace Go.Proofs.YtgncgdkpkkdaeaaDoor
open Go.RowKit Tint Go.Maps

theorem step_append_ints {ops : Array Oper} {o : Oper} {a : Act} {w : World} {K : Act → World → Prop} {Q : Exit → Act → World → Prop} {E : Prop} (hg : o.guard = none) (s x : Operand)
    (hop : o.op = Op.call { callee := Callee.builtin Builtin.append, args := #[s, x], argTypes := #[31, 31] }) (v u : Value) (xs ys : List Nat) (hs : a.eval s = v) (hx : a.eval x = u) (hv : Ints w 0 v xs) (hu : Ints w 0 u ys) (hn : xs.length + ys.length ≤ 1000000000000)
    (hK : ∀ v' w', Ints w' 0 v' (xs ++ ys) → w.grownBy w' v.ownBlock → (v'.ownBlock = v.ownBlock ∨ v'.ownBlock = some w.heap.size) → K (a.put o.dst v') w') :
    if Region.wanted o (yielded ops a.tmps) = true then Oper.wp Tryd.prog o a w K Q else E := by
  have hw : Region.wanted o (yielded ops a.tmps) = true := by simp [Region.wanted, hg]
  rw [if_pos hw]
  obtain ⟨v', w', hr, r2, r3, r5⟩ := run_append_ints w o.type v u xs ys hv hu hn
  unfold Oper.wp execOp
  simp only [hop, resolve, invoke, builtin, Sem.run_bind, Sem.run_pure, Result.andThen_ok, List.map_toArray, List.map_cons, List.map_nil, hs, hx, hr]
  exact hK v' w' r2 r3 r5

theorem wpList_append_ints (w : World) {ops : Array Oper} {rest : List Oper} {o : Oper} {a : Act} {Q : Exit → Act → World → Prop} (hg : o.guard = none) (s x : Operand)
    (hop : o.op = Op.call { callee := Callee.builtin Builtin.append, args := #[s, x], argTypes := #[31, 31] }) (v u : Value) (xs ys : List Nat) (hs : a.eval s = v) (hx : a.eval x = u) (hv : Ints w 0 v xs) (hu : Ints w 0 u ys) (hn : xs.length + ys.length ≤ 1000000000000)
    (hK : ∀ v' w', Ints w' 0 v' (xs ++ ys) → w.grownBy w' v.ownBlock → (v'.ownBlock = v.ownBlock ∨ v'.ownBlock = some w.heap.size) → wpList Tryd.prog ops Q rest (a.put o.dst v') w') : wpList Tryd.prog ops Q (o :: rest) a w := by
  refine wpList_plain hg fun K hK' => ?_
  obtain ⟨v', w', hr, r2, r3, r5⟩ := run_append_ints w o.type v u xs ys hv hu hn
  unfold Oper.wp execOp
  simp only [hop, resolve, invoke, builtin, Sem.run_bind, Sem.run_pure, Result.andThen_ok, List.map_toArray, List.map_cons, List.map_nil, hs, hx, hr]
  exact hK' _ _ (hK v' w' r2 r3 r5)

/-- Behind an append of rows. -/
theorem rows_appended {X : Nat → Prop} {S n0 : Nat} {ns ms : List (Nd Value)} {Q ts : List D} {w w4 w5 : World} {v2 v5 : Value} {js2 js : List Nat} (hX : Old X w) (hF : Fx X w w4) (hS : Shelf w4 X S n0 (ns ++ ms) Q) (hv : Row w4 X v2 js2) (hI : Ints w5 0 v5 js) (hg : w4.grownBy w5 v2.ownBlock)
    (hloc : v5.ownBlock = v2.ownBlock ∨ v5.ownBlock = some w4.heap.size) (h2 : F2 (RepD (IsCls w4) n0 (ns ++ ms)) ts js) : EachPost X S n0 ns Q ts w (.returned v5) w5 := by
  have hty : ∀ k, v2.ownBlock = some k → ∀ c t fz, w4.heap[k]? = some (.cells c t fz) → t = 3 := fun k hk c t fz h => by
    obtain ⟨c', hc⟩ := hv.1.block hk
    rw [hc] at h
    cases h; rfl
  have hF5 : Fx X w4 w5 := (Fx.refl X w4).grown hg (hX.fx hF) hv.2 (fun k hk c t fz h => by rw [hty k hk c t fz h]; rfl)
  have hst := hF5.staying
  refine ⟨v5, js, ms, rfl, hF.trans hF5, ?_, ⟨hI, ?_⟩, h2.mono fun d k h => RepD.world hst h⟩
  · refine hS.keep hst (fun k o hk ho hc => ?_) (fun k hk => .inl hk)
    rw [hg.block k (lt_of_get ho) (fun e => by
      obtain ⟨c', hc'⟩ := hv.1.block e.symm
      rw [ho] at hc'
      cases hc'
      rcases hc _ _ _ rfl with h | h <;> cases h)]
    exact ho
  · intro k hk hXk
    rcases hloc with e | e
    · rw [e] at hk; exact hv.2 k hk hXk
    · rw [e] at hk
      have h1 := hX k hXk
      have h2 := hF.size
      have h3 : w4.heap.size = k := Option.some.inj hk
      omega

theorem orBlock_shelf {X : Nat → Prop} {S n0 : Nat} {ns : List (Nd Value)} {Q : List D} {w : World} {v : Value} {js : List Nat} (h : Shelf w X S n0 ns Q) (hv : Ints w 0 v js) : Shelf w (orBlock X v) S n0 ns Q :=
  h.keep (Stay.refl w) (fun _ _ _ ho _ => ho) (fun k hk => by
    rcases hk with hk | hk
    · exact .inl hk
    · refine .inr fun o ho => ?_
      obtain ⟨c, hc⟩ := hv.block hk
      rw [hc] at ho
      cases ho
      exact ⟨_, _, _, rfl, by decide, by decide⟩)

/-- A second row beside the first: what the second call leaves. -/
theorem second {X : Nat → Prop} {S n0 : Nat} {ns ms : List (Nd Value)} {Q ts us : List D} {w w2 w4 : World} {v2 v4 : Value} {js2 : List Nat} (hF : Fx X w w2) (hv : Row w2 X v2 js2) (h2 : F2 (RepD (IsCls w2) n0 (ns ++ ms)) ts js2) (hp : EachPost (orBlock X v2) S n0 (ns ++ ms) Q us w2 (.returned v4) w4) :
    ∃ js4 ks, Fx X w w4 ∧ Shelf w4 X S n0 (ns ++ (ms ++ ks)) Q ∧ Row w4 X v2 js2 ∧ Ints w4 0 v4 js4 ∧ F2 (RepD (IsCls w4) n0 (ns ++ (ms ++ ks))) (ts ++ us) (js2 ++ js4) ∧ js4.length = us.length := by
  obtain ⟨v, js4, ks, e, hF4, hS4, hR4, hf4⟩ := hp
  cases e
  refine ⟨js4, ks, hF.trans (hF4.sub fun _ h => .inl h), ?_, ⟨hv.1.keepB fun k hk => hF4.keep k (.inr hk), hv.2⟩, hR4.1, ?_, hf4.length.symm⟩
  · rw [← List.append_assoc]
    exact hS4.keep (Stay.refl _) (fun _ _ _ h _ => h) (fun _ h => .inl (.inl h))
  · rw [← List.append_assoc]
    exact (h2.mono fun d k h => (RepD.world hF4.staying h).append).append hf4

set_option maxHeartbeats 4000000 in
theorem derive_alt_node (b : UInt8) (k l r : Nat) (hv : Value) (e : Bool) (d d' : D) (hd : DOK b d) (hd' : DOK b d') (X : Nat → Prop) (S n0 : Nat) (ns : List (Nd Value)) (Q : List D) (w : World) (hX : Old X w) (hS : Shelf w X S n0 ns Q)
    (hn : ns[k]? = some ⟨3, hv, l, r, e⟩) (hR : RepD (IsCls w) n0 ns d l) (hR' : RepD (IsCls w) n0 ns d' r) (hQ1 : ∀ t ∈ joinsD d, t ∈ Q) (hQ2 : ∀ t ∈ joinsD d', t ∈ Q) (hsz : d.sz ≤ 1000000) (hsz' : d'.sz ≤ 1000000) :
    Calls Tryd.prog 38 #[.pointer (some ⟨S, 0, none⟩), .int .i64 k, .int .u8 b.toNat] w (EachPost X S n0 ns Q (pd b d ++ pd b d') w) := by
  obtain ⟨g, cap, c0, m0, m1, m2, m3, m4, hfm⟩ := hS.at hn
  have hkl := get_lt hn
  have hlen := hS.length
  have hst := store_form hfm
  have HX := hide hX
  have hb : Below w.heap.size w (w.alloc (.cells #[.int .i64 3, hv, .int .i64 l, .int .i64 r, .bool e] 84)) := (Below.refl _ _).alloc (Nat.le_refl _) _
  have HS1 := hide (andE_shelf hS (.cells #[.int .i64 3, hv, .int .i64 l, .int .i64 r, .bool e] 84))
  have HX1 := hide (andE_old hX (.cells #[.int .i64 3, hv, .int .i64 l, .int .i64 r, .bool e] 84))
  have HB := hide hb
  have HE := hide (heap_alloc_last w (.cells #[.int .i64 3, hv, .int .i64 l, .int .i64 r, .bool e] 84))
  have HD := hide (hd _ S n0 ns Q l (w.alloc (.cells #[.int .i64 3, hv, .int .i64 l, .int .i64 r, .bool e] 84)).drew HX1.out HS1.out.drew (RepD.world (Stay.of_below hb.drew) hR) hQ1 hsz)
  have HD' := hide (fun (w2 : World) (v2 : Value) (js : List Nat) (ms : List (Nd Value)) (hF2 : Fx (andE X w.heap.size) (w.alloc (.cells #[.int .i64 3, hv, .int .i64 l, .int .i64 r, .bool e] 84)) w2) (hS2 : Shelf w2 (andE X w.heap.size) S n0 (ns ++ ms) Q) (hI2 : Row w2 (andE X w.heap.size) v2 js) =>
    hd' (orBlock (andE X w.heap.size) v2) S n0 (ns ++ ms) Q r w2 ((HX1.out.fx hF2).orBlock hI2.1) (orBlock_shelf hS2 hI2.1) ((RepD.world ((Stay.of_below hb).trans hF2.staying) hR').append) hQ2 hsz')
  have HFB := hide (Fx.of_below hX hb)
  clear hX hS hn hR hR' hQ1 hQ2 hfm hb
  go_enter Tryd.func38, Tryd.ntmps38
  go_wp2_with fail
  go_region_law (first
    | (go_simp; go_at_call_of 38 (Value.int IntKind.i64 (l : Int)); refine HD.out.mono ?_; rintro e2 w2 ⟨v2, js, ms, rfl, hF2, hS2, hI2, hj2⟩; have HF2 := hide hF2.undrew; have HS2 := hide hS2; have HI2 := hide hI2; have HJ2 := hide hj2; clear hF2 hS2 hI2 hj2; obtain ⟨q2, q3⟩ := cells_E HE.out HF2.out)
    | (go_simp; go_at_call_of 38 (Value.int IntKind.i64 (r : Int)); refine (HD'.out w2 v2 js ms HF2.out HS2.out HI2.out).mono ?_; rintro e4 w4 hp; obtain ⟨v4, -, -, rfl, -⟩ := id hp; obtain ⟨js4, ks, hA4, hB4, hC4, hD4, hE4, hl4⟩ := second HF2.out HI2.out HJ2.out hp; have hnn : js.length + js4.length ≤ 1000000000000 := (by have h1 := HJ2.out.length; have h2 := length_pd b d; have h3 := length_pd b d'; omega); have HA4 := hide hA4; have HB4 := hide hB4; have HC4 := hide hC4; have HD4 := hide hD4; have HE4 := hide hE4; clear hp hA4 hB4 hC4 hD4 hE4 hl4)
    | (refine step_append_ints rfl (.tmp 59) (.tmp 64) rfl v2 v4 js js4 (by rfl) (by rfl) HC4.out.1 HD4.out hnn ?_; intro v5 w5 hI5 hg5 hl5; have HEND := hide (rows_appended HX1.out (HA4.out) HB4.out HC4.out hI5 hg5 hl5 HE4.out); clear hI5 hg5 hl5))
  all_goals
    have hend : EachPost X S n0 ns Q (pd b d ++ pd b d') w (.returned v5) w5 := by
      obtain ⟨_, js5, ms5, e5, f5, s5, r5, g5⟩ := HEND.out
      cases e5
      exact ⟨_, js5, ms5, rfl, HFB.out.trans (f5.sub fun _ h => .inl h), s5.less, r5.less, g5⟩
    have HF := hide hend
    clear hend
    go_wp2_with fail
    go_ret
    exact HF.out

/-- What the walk wants to look whether a part matches the empty text. -/
theorem Shelf.flag {w : World} {X : Nat → Prop} {S n0 : Nat} {ns : List (Nd Value)} {Q : List D} (h : Shelf w X S n0 ns Q) {k : Nat} {d : D} (hk : RepD (IsCls w) n0 ns d k) :
    ∃ g len cap, w.cell? ⟨S, 0, none⟩ = some (.slice (some ⟨g, 0, none⟩) len cap) ∧ k < len ∧ len ≤ 100000000200 ∧ w.cell? ⟨g, k * 5 + 4, none⟩ = some (.bool d.re.nullable) := by
  obtain ⟨nd, h1, h2⟩ := hk.empty
  obtain ⟨g, cap, c0, -, -, -, -, c4, -⟩ := h.at h1
  exact ⟨g, _, cap, c0, get_lt h1, h.length, by rw [← h2]; exact c4⟩

set_option maxHeartbeats 4000000 in
theorem derive_seq_node (b : UInt8) (k l : Nat) (hv : Value) (r : Nat) (e : Bool) (d : D) (a : ARe) (hd : DOK b d) (hd' : DOK b (.base a)) (X : Nat → Prop) (S n0 : Nat) (ns : List (Nd Value)) (Q : List D) (w : World) (hX : Old X w) (hS : Shelf w X S n0 ns Q)
    (hn : ns[k]? = some ⟨2, hv, l, r, e⟩) (hak : a.ix = r) (hR : RepD (IsCls w) n0 ns d l) (ha : a.lt n0) (hra : Rep (IsCls w) ns a) (hQ1 : ∀ t ∈ joinsD d, t ∈ Q) (hQ2 : ∀ x ∈ pd b d, tcat x a ∈ Q) (hQ3 : ∀ t ∈ joinsA a, t ∈ Q) (hsz : d.sz ≤ 1000000) (hsz' : a.sz ≤ 1000000)
    (ts : List D) (hts : ts = (pd b d).map (tcat · a) ++ (if d.re.nullable then pdA b a else [])) :
    Calls Tryd.prog 38 #[.pointer (some ⟨S, 0, none⟩), .int .i64 k, .int .u8 b.toNat] w (EachPost X S n0 ns Q ts w) := by
  obtain ⟨g, cap, c0, m0, m1, m2, m3, m4, hfm⟩ := hS.at hn
  have hkl := get_lt hn
  have hlen := hS.length
  have hst := store_form hfm
  subst hak
  have HTS := hide hts
  have HX := hide hX
  obtain ⟨r, hr⟩ : ∃ r, r = a.ix := ⟨_, rfl⟩
  rw [← hr] at m3
  have hb : Below w.heap.size w (w.alloc (.cells #[.int .i64 2, hv, .int .i64 l, .int .i64 r, .bool e] 84)) := (Below.refl _ _).alloc (Nat.le_refl _) _
  have HS1 := hide (andE_shelf hS (.cells #[.int .i64 2, hv, .int .i64 l, .int .i64 r, .bool e] 84))
  have HX1 := hide (andE_old hX (.cells #[.int .i64 2, hv, .int .i64 l, .int .i64 r, .bool e] 84))
  have HE := hide (heap_alloc_last w (.cells #[.int .i64 2, hv, .int .i64 l, .int .i64 r, .bool e] 84))
  have HD := hide (hd _ S n0 ns Q l (w.alloc (.cells #[.int .i64 2, hv, .int .i64 l, .int .i64 r, .bool e] 84)).drew HX1.out HS1.out.drew (RepD.world (Stay.of_below hb.drew) hR) hQ1 hsz)
  have HJ := hide (fun (w2 : World) (v2 : Value) (js : List Nat) (ms : List (Nd Value)) (hF2 : Fx (andE X w.heap.size) (w.alloc (.cells #[.int .i64 2, hv, .int .i64 l, .int .i64 r, .bool e] 84)) w2) (hS2 : Shelf w2 (andE X w.heap.size) S n0 (ns ++ ms) Q) (hI2 : Row w2 (andE X w.heap.size) v2 js) (hj2 : F2 (RepD (IsCls w2) n0 (ns ++ ms)) (pd b d) js) => by
    have hjl : js.length ≤ 1000000000 := by
      have h1 := hj2.length
      have h2 := length_pd b d
      omega
    have hst2 := (Stay.of_below hb).trans hF2.staying
    have := joinEach_any _ S n0 (ns ++ ms) Q (pd b d) a v2 js w2 (HX1.out.fx hF2) hS2 hI2.1 hj2 ha ((hra.world hst2).append) hQ2 hjl
    rw [← hr] at this
    exact this)
  have HL := hide (fun (w3 : World) (ms : List (Nd Value)) (hF3 : Fx (andE X w.heap.size) (w.alloc (.cells #[.int .i64 2, hv, .int .i64 l, .int .i64 r, .bool e] 84)) w3) => (RepD.world ((Stay.of_below hb).trans hF3.staying) hR).append (ms := ms))
  have HD' := hide (fun (w3 : World) (v3 : Value) (js : List Nat) (ms : List (Nd Value)) (hF3 : Fx (andE X w.heap.size) (w.alloc (.cells #[.int .i64 2, hv, .int .i64 l, .int .i64 r, .bool e] 84)) w3) (hS3 : Shelf w3 (andE X w.heap.size) S n0 (ns ++ ms) Q) (hI3 : Row w3 (andE X w.heap.size) v3 js) =>
    hd' (orBlock (andE X w.heap.size) v3) S n0 (ns ++ ms) Q r w3 ((HX1.out.fx hF3).orBlock hI3.1) (orBlock_shelf hS3 hI3.1) (show RepD _ _ _ (.base a) r from ⟨hr, ha, (hra.world ((Stay.of_below hb).trans hF3.staying)).append⟩) hQ3 hsz')
  have HFB := hide (Fx.of_below hX hb)
  clear hX hS hn hR hra hQ1 hQ2 hQ3 hfm hb ha hr hts
  go_enter Tryd.func38, Tryd.ntmps38
  go_wp2_with fail
  go_region_with (first
    | (go_at_call 38; refine HD.out.mono ?_; rintro e2 w2 ⟨v2, js, ms, rfl, hF2, hS2, hI2, hj2⟩; have HF2 := hide hF2.undrew; have HS2 := hide hS2; have HI2 := hide hI2; have HJ2 := hide hj2; clear hF2 hS2 hI2 hj2; obtain ⟨q2, q3⟩ := cells_E HE.out HF2.out)
    | (go_at_call 51; refine (HJ.out w2 v2 js ms HF2.out HS2.out HI2.out HJ2.out).mono ?_; rintro e3 w3 ⟨v3, js3, ms3, rfl, hF3, hS3, hI3, hj3⟩; have HF3 := hide (HF2.out.trans hF3); have HS3 := hide hS3; have HI3 := hide hI3; have HJ3 := hide hj3; clear hF3 hS3 hI3 hj3))
  all_goals
    rw [List.append_assoc] at HS3 HJ3
    obtain ⟨p2, p3⟩ := cells_E HE.out HF3.out
    obtain ⟨g3, len3, cap3, f0, f1, f2, f4⟩ := HS3.out.flag (HL.out w3 (ms ++ ms3) HF3.out)
    clear q2 q3 m0 m1 m2 m3 m4 c0
    cases hnl : d.re.nullable with
    | false =>
      rw [hnl] at f4
      have HEND := hide (show ∀ nq, EachPost X S n0 ns Q ts w (.returned v3) (w3.drewN nq) from fun nq => by
        rw [HTS.out, hnl]
        simp only [Bool.false_eq_true, if_false, List.append_nil]
        exact ⟨v3, js3, ms ++ ms3, rfl, (HFB.out.trans (HF3.out.sub fun _ h => .inl h)).drewN nq, HS3.out.less.drewN nq, HI3.out.less, HJ3.out.mono fun d k h => RepD.world (w := w3) (w' := w3.drewN nq) (fun _ _ _ _ h => h) h⟩)
      clear hnl
      go_wp2_with fail
      go_quiet (fail)
      go_wp2_with fail
      go_ret
      exact HEND.out nq
    | true =>
      rw [hnl] at f4
      have HTS2 := hide (show ts = (pd b d).map (tcat · a) ++ pd b (.base a) from by rw [HTS.out, hnl]; rfl)
      have HJ4 := hide (show ∀ nq, F2 (RepD (IsCls (w3.drewN nq)) n0 (ns ++ (ms ++ ms3))) ((pd b d).map (tcat · a)) js3 from fun nq => HJ3.out.mono fun d k h => RepD.world (w := w3) (w' := w3.drewN nq) (fun _ _ _ _ h => h) h)
      have HI4 := hide (show ∀ nq, Row (w3.drewN nq) (andE X w.heap.size) v3 js3 from fun nq => HI3.out)
      clear hnl
      go_wp2_with fail
      go_quiet (fail)
      go_wp2_with fail
      refine (HD'.out (w3.drewN nq) v3 js3 (ms ++ ms3) (HF3.out.drewN nq) (HS3.out.drewN nq) (HI4.out nq)).mono ?_
      rintro e4 w4 hp
      obtain ⟨v4, -, -, rfl, -⟩ := id hp
      obtain ⟨js4, ks, hA4, hB4, hC4, hD4, hE4, hl4⟩ := second (HF3.out.drewN nq) (HI4.out nq) (HJ4.out nq) hp
      have hnn : js3.length + js4.length ≤ 1000000000000 := by
        have h1 := HJ3.out.length
        have h2 := length_pd b d
        have h3 := length_pd b (.base a)
        simp only [List.length_map] at h1
        simp only [D.sz] at h3
        omega
      have HA4 := hide hA4
      have HB4 := hide hB4
      have HC4 := hide hC4
      have HD4 := hide hD4
      have HE4 := hide hE4
      clear hp hA4 hB4 hC4 hD4 hE4 hl4 f0 f1 f2 f4 p2 p3
      go_wp2_with (at_builtin; refine wpList_append_ints w4 rfl (.tmp 45) (.tmp 50) rfl v3 v4 js3 js4 (by rfl) (by rfl) HC4.out.1 HD4.out hnn ?_; intro v5 w5 hI5 hg5 hl5; have HEND := hide (rows_appended HX1.out (HA4.out) HB4.out HC4.out hI5 hg5 hl5 HE4.out); clear hI5 hg5 hl5)
      have hend : EachPost X S n0 ns Q ts w (.returned v5) w5 := by
        obtain ⟨_, js5, ms5, e5, f5, s5, r5, g5⟩ := HEND.out
        cases e5
        rw [HTS2.out]
        exact ⟨_, js5, ms5, rfl, HFB.out.trans (f5.sub fun _ h => .inl h), s5.less, r5.less, g5⟩
      have HF := hide hend
      clear hend
      go_wp2_with fail
      go_ret
      exact HF.out
end Go.Proofs.YtgncgdkpkkdaeaaDoor
