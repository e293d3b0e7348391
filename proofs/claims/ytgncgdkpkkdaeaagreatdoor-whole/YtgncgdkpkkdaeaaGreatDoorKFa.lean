import Derived.Test.YtgncgdkpkkdaeaaGreatDoorKX
import Derived.Test.YtgncgdkpkkdaeaaGreatDoorKVG
import Derived.Test.YtgncgdkpkkdaeaaGreatDoorKFx
namespace Go.Proofs.YtgncgdkpkkdaeaaGreatDoor
open Go.RowKit Tint Go.Maps
def endOf (l : List Sp) : Nat := ((l.getLast?).map Sp.to).getD 0
theorem endOf_snoc (l : List Sp) (x : Sp) : endOf (l ++ [x]) = x.to := by simp [endOf]
inductive Til (nm0 : ByteArray) (d0 : Nat) : Bool → List Sp → Prop where
 | nil : Til nm0 d0 true []
 | snoc {b : Bool} {l : List Sp} {x : Sp} : Til nm0 d0 b l → x.fr = endOf l → endOf l < x.to → 1 ≤ x.dep → x.dep ≤ 8 → (l = [] → x.nm = nm0 ∧ x.dep = d0) → (b = true ∨ x.co ≠ ⟨#[]⟩) → Til nm0 d0 (decide (x.co ≠ ⟨#[]⟩)) (l ++ [x])
structure TilAt (nm0 : ByteArray) (d0 : Nat) (sps : List Sp) (k : Nat) (x : Sp) : Prop where
 fr : x.fr = endOf (sps.take k)
 lt : endOf (sps.take k) < x.to
 lo : 1 ≤ x.dep
 hi : x.dep ≤ 8
 first : k = 0 → x.nm = nm0 ∧ x.dep = d0
 two : ∀ y, 0 < k → sps[k - 1]? = some y → x.co ≠ ⟨#[]⟩ ∨ y.co ≠ ⟨#[]⟩
 next : endOf (sps.take (k + 1)) = x.to
theorem Til.last {nm0 : ByteArray} {d0 : Nat} {b : Bool} {l : List Sp} (h : Til nm0 d0 b l) {y : Sp} (hy : l[l.length - 1]? = some y) (hl : 0 < l.length) : b = decide (y.co ≠ ⟨#[]⟩) := by
 cases h with
 | nil => simp at hl
 | snoc h1 h2 h3 h4 h5 h6 h7 =>
  simp at hy
  rw [hy]
theorem Til.at {nm0 : ByteArray} {d0 : Nat} {b : Bool} {sps : List Sp} (h : Til nm0 d0 b sps) : ∀ {k : Nat} {x : Sp}, sps[k]? = some x → TilAt nm0 d0 sps k x := by
 induction h with
 | nil => intro k x hx; simp at hx
 | @snoc b l z h1 h2 h3 h4 h5 h6 h7 ih =>
  intro k x hx
  rcases Nat.lt_or_ge k l.length with hk | hk
  ·rw [List.getElem?_append_left hk] at hx
   have hi := ih hx
   refine ⟨?_, ?_, hi.lo, hi.hi, hi.first, fun y h0 hy => hi.two y h0 (by rw [List.getElem?_append_left (by omega)] at hy; exact hy), ?_⟩
   ·rw [List.take_append_of_le_length (by omega)]; exact hi.fr
   ·rw [List.take_append_of_le_length (by omega)]; exact hi.lt
   ·rw [List.take_append_of_le_length (by omega)]; exact hi.next
  ·have hk2 : k = l.length := by
    have := get_lt hx
    rw [List.length_append, List.length_singleton] at this
    omega
   subst hk2
   rw [List.getElem?_append_right (Nat.le_refl _)] at hx
   simp at hx
   subst hx
   have ht : (l ++ [z]).take l.length = l := List.take_left
   refine ⟨by rw [ht]; exact h2, by rw [ht]; exact h3, h4, h5, fun h0 => h6 (List.length_eq_zero_iff.1 h0), fun y h0 hy => ?_, ?_⟩
   ·rw [List.getElem?_append_left (by omega)] at hy
    rcases h7 with h7 | h7
    ·have := h1.last hy h0
     rw [h7] at this
     exact .inr (of_decide_eq_true this.symm)
    ·exact .inl h7
   ·rw [List.take_of_length_le (by simp), endOf_snoc]
def Coloured (G : List GS) : Prop := ∀ s ∈ G, ∀ r ∈ s.rs, r.co ≠ ⟨#[]⟩
theorem Path.til {G : List GS} {T : List UInt8} {st0 : List Nat} (hok : GOk G) (hco : Coloured G) (hg : Good G st0) {top0 : Nat} {s0 : GS} (ht0 : st0[st0.length - 1]? = some top0) (hs0 : G[top0]? = some s0) {at_ : Nat} {st : List Nat} {pre : List Sp} (h : Path G T st0 at_ st pre) :
  Til s0.nm st0.length true pre ∧ endOf pre = at_ ∧ (pre = [] → st = st0) ∧ Good G st := by
 induction h with
 | start => exact ⟨.nil, rfl, fun _ => rfl, hg⟩
 | @hit at_ st pre top s p k r e hp hlt htop hs hh ih =>
  obtain ⟨i1, i2, i3, i4⟩ := ih
  have hr := List.mem_of_getElem? hh.rule
  have hsG := List.mem_of_getElem? hs
  have hnu := (hok s hsG r hr).1
  have hgt := hh.gt hnu
  have hcr := hco s hsG r hr
  have hfirst : pre = [] → s.nm = s0.nm ∧ st.length = st0.length := fun h0 => by
   have := i3 h0
   subst this
   rw [ht0] at htop
   cases htop
   rw [hs0] at hs
   cases hs
   exact ⟨rfl, rfl⟩
  have hgap : Til s0.nm st0.length (decide (¬ at_ < p)) (pre ++ gapL at_ p s.nm st.length) ∧ endOf (pre ++ gapL at_ p s.nm st.length) = p ∧ (pre ++ gapL at_ p s.nm st.length = [] → pre = []) := by
   unfold gapL
   by_cases hap : at_ < p
   ·rw [if_pos hap]
    have := Til.snoc (x := ⟨at_, p, s.nm, st.length, ⟨#[]⟩⟩) i1 i2.symm (by rw [i2]; exact hap) i4.1.1 i4.1.2 hfirst (.inl rfl)
    refine ⟨?_, endOf_snoc _ _, fun h => by simp at h⟩
    have hd : decide (¬ at_ < p) = decide ((⟨at_, p, s.nm, st.length, ⟨#[]⟩⟩ : Sp).co ≠ ⟨#[]⟩) := by
     rw [decide_eq_false (by simpa using hap), decide_eq_false (by simp)]
    rw [hd]
    exact this
   ·rw [if_neg hap, List.append_nil]
    have hle := hh.le
    exact ⟨by rw [decide_eq_true hap]; exact i1, by rw [i2]; omega, fun h => h⟩
  have hsn := Til.snoc (x := ⟨p, e, s.nm, st.length, r.co⟩) hgap.1 hgap.2.1.symm (by rw [hgap.2.1]; exact hgt.1) i4.1.1 i4.1.2 (fun h => hfirst (hgap.2.2 h)) (.inr hcr)
  rw [decide_eq_true hcr] at hsn
  exact ⟨hsn, endOf_snoc _ _, fun h => by simp at h, i4.aft fun hk => (hok s hsG r hr).2 hk⟩
theorem Thru.til {G : List GS} {T : List UInt8} {st0 : List Nat} (hok : GOk G) (hco : Coloured G) (hg : Good G st0) {top0 : Nat} {s0 : GS} (ht0 : st0[st0.length - 1]? = some top0) (hs0 : G[top0]? = some s0) {sps : List Sp} {st : List Nat} (h : Thru G T st0 sps st) :
  ∃ b, Til s0.nm st0.length b sps ∧ endOf sps = T.length := by
 rcases h with h | ⟨at_, pre, top, s, hp, hlt, htop, hs, _, rfl⟩
 ·obtain ⟨h1, h2, _⟩ := h.til hok hco hg ht0 hs0
  exact ⟨_, h1, h2⟩
 ·obtain ⟨h1, h2, h3, h4⟩ := hp.til hok hco hg ht0 hs0
  refine ⟨_, Til.snoc (x := ⟨at_, T.length, s.nm, st.length, ⟨#[]⟩⟩) h1 h2.symm (by rw [h2]; exact hlt) h4.1.1 h4.1.2 (fun h0 => ?_) (.inl rfl), endOf_snoc _ _⟩
  have := h3 h0
  subst this
  rw [ht0] at htop
  cases htop
  rw [hs0] at hs
  cases hs
  exact ⟨rfl, rfl⟩
theorem aft_head {k op : Nat} {st : List Nat} (h : 1 ≤ st.length) : (aft k op st)[0]? = st[0]? := by
 unfold aft
 split
 ·rw [List.getElem?_append_left (by omega)]
 ·split
  ·rename_i h1
   rw [List.dropLast_eq_take, List.getElem?_take, if_pos (by omega)]
  ·rfl
theorem Path.head {G : List GS} {T : List UInt8} {st0 : List Nat} (hok : GOk G) (hg : Good G st0) {at_ : Nat} {st : List Nat} {pre : List Sp} (h : Path G T st0 at_ st pre) : st[0]? = st0[0]? ∧ Good G st := by
 induction h with
 | start => exact ⟨rfl, hg⟩
 | hit hp hlt htop hs hh ih =>
  exact ⟨(aft_head ih.2.1.1).trans ih.1, ih.2.aft fun hk => (hok _ (List.mem_of_getElem? hs) _ (List.mem_of_getElem? hh.rule)).2 hk⟩
theorem Thru.head {G : List GS} {T : List UInt8} {st0 : List Nat} (hok : GOk G) (hg : Good G st0) {sps : List Sp} {st : List Nat} (h : Thru G T st0 sps st) : st[0]? = st0[0]? := by
 rcases h with h | ⟨_, _, _, _, h, _⟩
 ·exact (h.head hok hg).1
 ·exact (h.head hok hg).1
theorem Runs.each {G : List GS} (hok : GOk G) {st : List Nat} {ls : List (List UInt8)} {out : List (List Nat × List Sp)} {st' : List Nat} (h : Runs G st ls out st') (hg : Good G st) : ∀ (i : Nat) y, out[i]? = some y → Good G y.1 ∧ y.1[0]? = st[0]? ∧ ∃ l st2, ls[i]? = some l ∧ Thru G l y.1 y.2 st2 := by
 induction h with
 | nil => intro i y hy; simp at hy
 | @cons st l ls sps st1 out st' ht hr ih =>
  intro i y hy
  cases i with
  | zero => simp at hy; subst hy; exact ⟨hg, rfl, l, st1, rfl, ht⟩
  | succ i =>
   simp only [List.getElem?_cons_succ] at hy
   obtain ⟨h1, h2, l', st2, h3, h4⟩ := ih (ht.good hok hg) i y hy
   exact ⟨h1, h2.trans (ht.head hok hg), l', st2, h3, h4⟩
theorem secL_mem {y : Nat × Ln} {i : Nat} : ∀ {l : Lns} {c : Nat}, y ∈ secL c l i → y ∈ l := by
 intro l
 induction l with
 | nil => intro c h; simp [secL] at h
 | cons z t ih =>
  intro c h
  unfold secL at h
  split at h
  ·exact List.mem_cons_of_mem _ (ih h)
  ·split at h
   ·rcases List.mem_cons.1 h with rfl | h
    ·exact List.mem_cons_self
    ·exact List.mem_cons_of_mem _ (ih h)
   ·exact List.mem_cons_of_mem _ (ih h)
theorem code_colour : ∀ a d o c p, (a, Ln.rule d o c p) ∈ codeLns → c ≠ [] := by
 intro a d o c p h
 simp only [codeLns, List.mem_cons, Prod.mk.injEq, Ln.rule.injEq, List.not_mem_nil, or_false, reduceCtorEq, and_false, false_or] at h
 rcases h with ⟨-, -, -, rfl, -⟩ | ⟨-, -, -, rfl, -⟩ | ⟨-, -, -, rfl, -⟩ | ⟨-, -, -, rfl, -⟩ | ⟨-, -, -, rfl, -⟩ | ⟨-, -, -, rfl, -⟩ | ⟨-, -, -, rfl, -⟩ | ⟨-, -, -, rfl, -⟩ <;> simp
theorem code_coloured {G : List GS} (h : LnsG codeLns G) : Coloured G := by
 intro s hs r hr
 obtain ⟨i, hi⟩ := List.mem_iff_getElem?.1 hs
 obtain ⟨j, hj⟩ := List.mem_iff_getElem?.1 hr
 obtain ⟨h1, h2⟩ := h.rules i s hi
 obtain ⟨y, hy⟩ : ∃ y, (secL 0 codeLns i)[j]? = some y := ⟨_, List.getElem?_eq_getElem (by rw [h1]; exact get_lt hj)⟩
 obtain ⟨d, o, c, p, hx, _, _, hc, _⟩ := h2 j y r hy hj
 have hm := secL_mem (List.mem_of_getElem? hy)
 obtain ⟨a, x⟩ := y
 simp only at hx
 subst hx
 have := code_colour _ _ _ _ _ hm
 intro e
 rw [e] at hc
 exact this hc.symm
theorem code_name0 {G : List GS} (h : LnsG codeLns G) : ∃ s, G[0]? = some s ∧ s.nm = ⟨#[99, 111, 100, 101]⟩ := by
 have h1 := congrArg (·[0]?) h.names
 have h2 : (lnNames codeLns)[0]? = some [99, 111, 100, 101] := rfl
 simp only [h2, List.getElem?_map] at h1
 cases hs : G[0]? with
 | none => rw [hs] at h1; simp at h1
 | some s =>
  rw [hs] at h1
  simp only [Option.map_some, Option.some.injEq] at h1
  refine ⟨s, rfl, ?_⟩
  cases hn : s.nm with
  | mk d =>
   rw [hn] at h1
   have : d.toList = [99, 111, 100, 101] := h1.symm
   congr 1
   exact Array.toList_inj.1 this
end Go.Proofs.YtgncgdkpkkdaeaaGreatDoor
namespace Go.Proofs.YtgncgdkpkkdaeaaGreatDoor
open Go.RowKit Tint Go.Maps Go.Shelf
theorem KText.line {w : World} {k : KD} {t : KT} (h : KText w k t) (hk : KIs w k) {i : Nat} {x : LE} (hx : t.ls[i]? = some x) :
  Good k.G x.st ∧ x.st[0]? = some 0 ∧ ∃ (l : List UInt8) (top : Nat) (s : GS) (b : Bool), (splitL t.text.data.toList)[i]? = some l ∧ x.st[x.st.length - 1]? = some top ∧ k.G[top]? = some s ∧ Til s.nm x.st.length b x.sps ∧ endOf x.sps = l.length := by
 obtain ⟨_, hr⟩ := h.runs
 have hg : Good k.G [0] := ⟨⟨by simp, by simp⟩, fun y hy => by rw [List.mem_singleton.1 hy]; exact hk.pos⟩
 obtain ⟨h1, h2, l, st2, h3, h4⟩ := hr.each hk.ok hg i x.pr (by rw [List.getElem?_map, hx]; rfl)
 obtain ⟨top, s, ht, hs⟩ := h1.top
 obtain ⟨b, h5, h6⟩ := h4.til hk.ok (code_coloured hk.code) h1 ht hs
 exact ⟨h1, h2, l, top, s, b, h3, ht, hs, h5, h6⟩
theorem sp_len (y : Sp) : y.cells.length = 5 := rfl
theorem sp_cell {w : World} {B pg n c : Nat} {sps : List Sp} (h : SpRow w B (.slice (some ⟨pg, 0, none⟩) n c) sps) {q : Nat} {y : Sp} {u : Nat} {v : Value} (hq : sps[q]? = some y) (hu : y.cells[u]? = some v) : w.cell? ⟨pg, q * 5 + u, none⟩ = some v := by
 obtain ⟨ao, c', hv⟩ := row_slice h
 cases hv
 refine (row_cell h ?_).1
 rw [List.flatMap_def, flatten_at (si := 5) (by intro r hr; obtain ⟨z, _, rfl⟩ := List.mem_map.1 hr; exact sp_len z) (r := y.cells) (by rw [List.getElem?_map, hq]; rfl) u (by have := get_lt hu; rw [sp_len] at this; exact this)]
 exact hu
def WhLoop (w : World) (nl : Nat) (k : Nat) (vi : Value) (wr : World) : Prop :=
 ∃ j : Nat, vi = .int .i64 j ∧ j + k = nl ∧ Below w.heap.size w wr
def InLoop (w : World) (sps : List Sp) (k : Nat) (vt vk : Value) (wr : World) : Prop :=
 ∃ (j te : Nat), vk = .int .i64 j ∧ vt = .int .i64 te ∧ te = endOf (sps.take j) ∧ j + k = sps.length ∧ Below w.heap.size w wr
set_option maxRecDepth 20000 in
set_option maxHeartbeats 4000000 in
theorem whole_walk (v : Value) (len : Nat) (w : World) (hT : Tab w) (hm : Mx w) (hR : Raws w v len) : Calls Tryz.prog 7 #[v] w fun e w' => e = .returned (.bool true) ∧ Below w.heap.size w w' := by
 have HD := hide (document_any v len w hR)
 have HK := hide (And.intro hT hm)
 clear hT hm hR
 go_enter Tryz.func7, Tryz.ntmps7
 go_wp2_with fail
 refine HD.out.mono ?_
 rintro e w1 ⟨s, rfl, hsz, hb1⟩
 have HO := hide (kOpened_any s w1 (HK.out.1.below hb1) (HK.out.2.below hb1) (by omega))
 have HB1 := hide hb1
 clear hb1 HD
 go_wp2_with fail
 refine HO.out.mono ?_
 rintro e w2 ⟨hb2, kd, t, rfl, hki, hkt, hts, htw, hN⟩
 have HSP := hide (split_any s w2 (by omega))
 have HKI := hide hki
 have HKT := hide hkt
 have HTS := hide hts
 have hbw2 := HB1.out.trans (hb2.mono HB1.out.size)
 have HBW2 := hide hbw2
 clear hb2 hki hkt htw hN HO hbw2 hts
 go_wp2_with fail
 refine HSP.out.mono ?_
 rintro e w3 ⟨lv, nms, rfl, hnr, hnm, hb3⟩
 have hkt3 := HKT.out.below hb3
 have hki3 := HKI.out.below hb3
 have HLS := hide (txLines_any hkt3.sheet hkt3.tx)
 have hlen : t.ls.length = nms.length := by
  obtain ⟨_, hr⟩ := hkt3.runs
  have h1 := hr.length
  rw [List.length_map, HTS.out, ← hnm, List.length_map] at h1
  exact h1
 have hpos : 0 < nms.length := by
  have := congrArg List.length hnm
  rw [List.length_map, splitL_length] at this
  omega
 have hn31 : nms.length ≤ 3001 := by
  have := congrArg List.length hnm
  rw [List.length_map, splitL_length] at this
  have h2 := List.count_le_length (a := (10 : UInt8)) (l := s.data.toList)
  rw [text_length] at h2
  omega
 obtain ⟨lg, lc, hlv⟩ := own_form hnr hpos
 subst hlv
 rw [hlen] at HLS
 obtain ⟨nl, hnl⟩ : ∃ nl, nl = nms.length := ⟨_, rfl⟩
 have HNR := hide hnr
 have HNM := hide hnm
 have HB3 := hide (HBW2.out.trans (hb3.mono HBW2.out.size))
 have HK3 := hide (And.intro hki3 hkt3)
 have HLEN := hide hlen
 rw [← hnl] at HLS hn31 ⊢
 have HNL := hide hnl
 clear hnr hnm hb3 hkt3 hki3 HSP hlen hpos hnl
 go_wp2_with fail
 refine HLS.out.mono ?_
 rintro e w4 ⟨rfl, e4⟩
 subst w4
 clear HLS
 go_wp2_with fail
 go_loopg [7] nl (fun k vi wr => WhLoop w3 nl k vi wr)
 case atStart => exact ⟨0, rfl, by omega, Below.refl _ _⟩
 case round =>
  obtain ⟨j, rfl, hjk, hbr⟩ := hrel
  by_cases hlt : j < nl
  ·have g1 : decide ((j : Int) < (nl : Int)) = true := decide_eq_true (by omega)
   have hwr : IntKind.i64.wrap ((j : Int) + 1) = (j : Int) + 1 := by rw [IntKind.wrap_i64]; omega
   have hki := HK3.out.1.below hbr
   have hkt := HK3.out.2.below hbr
   have hgd := hkt.good hki
   obtain ⟨x, hx⟩ : ∃ x, t.ls[j]? = some x := ⟨_, List.getElem?_eq_getElem (by rw [HLEN.out, ← HNL.out]; exact hlt)⟩
   have HLN := hide (txLine_any (j : Int) hgd.2 hkt.sheet hkt.tx)
   have HBR := hide hbr
   have HX := hide hx
   clear hki hkt hgd hbr hx
   go_wp2_with fail
   refine HLN.out.mono ?_
   rintro e w5 ⟨hb5, ⟨hbad, rfl⟩ | ⟨j', x', v', hj', hx', rfl, hsp⟩⟩
   ·exact absurd ⟨by omega, by rw [HLEN.out, ← HNL.out]; omega⟩ hbad
   ·obtain rfl : j' = j := by omega
    rw [HX.out] at hx'
    cases hx'
    have hbr5 := HBR.out.trans (hb5.mono HBR.out.size)
    have hki := HK3.out.1.below hbr5
    have hkt := HK3.out.2.below hbr5
    have hgd := hkt.good hki
    have HSK := hide (txStack_any (j' : Int) kd.G hgd.1 (hki.gram w5 (Below.refl _ _)) hkt.sheet hkt.tx)
    have HSPR := hide hsp
    have HBR5 := hide hbr5
    obtain ⟨pao, pc, hv'⟩ := row_slice hsp
    subst hv'
    clear hb5 hsp hki hkt hgd hbr5 hj' HLN
    go_wp2_with fail
    refine HSK.out.mono ?_
    rintro e w6 ⟨hb6, ⟨hbad, rfl⟩ | ⟨j2, x2, v2, hj2, hx2, rfl, hnm2⟩⟩
    ·exact absurd ⟨by omega, by rw [HLEN.out, ← HNL.out]; omega⟩ hbad
    ·obtain rfl : j2 = j' := by omega
     rw [HX.out] at hx2
     cases hx2
     have hbr6 := HBR5.out.trans (hb6.mono HBR5.out.size)
     obtain ⟨hgood, hbot, l, top, gs, bb, hl, htop, hgs, htil, hend⟩ := (HK3.out.2.below hbr6).line (HK3.out.1.below hbr6) HX.out
     have hnl2 : (nmsOf kd.G x.st).length = x.st.length := by simp [nmsOf]
     have hstp : 0 < x.st.length := hgood.1.1
     have hsp6 := row_typ HSPR.out (w' := w6) (fun k c hh => (hb6.block k (lt_of_get hh)).trans hh)
     obtain ⟨sg, sc, hv2⟩ := own_form hnm2 (by rw [hnl2]; exact hstp)
     subst hv2
     obtain ⟨s0, hs0, hs0n⟩ := code_name0 HKI.out.code
     have y0 : w6.cell? ⟨sg, 0, none⟩ = some (.string ⟨#[99, 111, 100, 101]⟩) := (row_cell hnm2 (j := 0) (by
      rw [List.getElem?_map, nmsOf, List.getElem?_map, hbot]
      simp [hs0, hs0n])).1
     have hz1 : x.st.length - 1 < x.st.length := by omega
     have yL : w6.cell? ⟨sg, x.st.length - 1, none⟩ = some (.string gs.nm) := (row_cell hnm2 (j := x.st.length - 1) (by
      rw [List.getElem?_map, nmsOf, List.getElem?_map, htop]
      simp [hgs])).1
     have hl8 := hgood.1.2
     obtain ⟨sn, hsn⟩ : ∃ sn, sn = x.st.length := ⟨_, rfl⟩
     obtain ⟨sz, hsz1⟩ : ∃ sz, sz = sn - 1 := ⟨_, rfl⟩
     rw [← hsn, ← hsz1] at yL
     rw [hnl2, ← hsn]
     have wz : IntKind.i64.wrap ((sn : Int) - 1) = (sz : Int) := by rw [IntKind.wrap_i64]; omega
     have hszn : sz < sn := by omega
     have qs : ((sn : Int) == 0) = false := by rw [beq_eq_false_iff_ne]; omega
     have HTIL := hide htil
     rw [← hsn] at HTIL
     have HEND := hide hend
     have HL := hide hl
     have HSP6 := hide hsp6
     have HB6 := hide hbr6
     have hm7 : x.sps.length ≤ 7000 := ((HK3.out.2.below hbr6).good (HK3.out.1.below hbr6)).2 x (List.mem_of_getElem? HX.out)
     obtain ⟨m, hm⟩ : ∃ m, m = x.sps.length := ⟨_, rfl⟩
     have HM := hide hm
     rw [← hm] at hm7 ⊢
     clear hb6 hbr6 hgood hbot hl htop hgs htil hend hnl2 hsp6 hnm2 hs0 hs0n hsn hsz1 hm HSPR HSK hz1 hl8 hstp
     go_wp2_with fail
     go_loopg [12, 13] m (fun k vt vk W => InLoop w6 x.sps k vt vk W)
     case atStart => exact ⟨0, 0, rfl, rfl, rfl, by rw [← HM.out]; omega, Below.refl _ _⟩
     case round =>
      obtain ⟨kk, te, rfl, rfl, hte, hkm, hbi⟩ := hrel
      rw [← HM.out] at hkm
      by_cases hlt2 : kk < m
      ·have g3 : decide ((kk : Int) < (m : Int)) = true := decide_eq_true (by omega)
       have hwk : IntKind.i64.wrap ((kk : Int) + 1) = (kk : Int) + 1 := by rw [IntKind.wrap_i64]; omega
       obtain ⟨z, hz⟩ : ∃ z, x.sps[kk]? = some z := ⟨_, List.getElem?_eq_getElem (by rw [← HM.out]; exact hlt2)⟩
       have hta := HTIL.out.at hz
       have hspi := row_typ HSP6.out (w' := wr) (fun k c hh => (hbi.block k (lt_of_get hh)).trans hh)
       obtain ⟨pg, pc2, hpv⟩ := own_form hspi (by rw [← HM.out]; omega)
       cases hpv
       have rc : ∀ (q : Nat) y (u : Nat) c, x.sps[q]? = some y → y.cells[u]? = some c → wr.cell? ⟨pg, q * 5 + u, none⟩ = some c := fun q y u c hq hu => (sp_cell hspi hq hu)
       have f0 := rc kk z 0 _ hz rfl
       have f1 := rc kk z 1 _ hz rfl
       have f2 := rc kk z 2 _ hz rfl
       have f3 := rc kk z 3 _ hz rfl
       have f4 := rc kk z 4 _ hz rfl
       rw [Nat.add_zero, hta.fr, ← hte] at f0
       have hto := hta.lt
       rw [← hte] at hto
       have q1 : decide ((z.to : Int) ≤ (te : Int)) = false := decide_eq_false (by omega)
       have hlo := hta.lo
       have hhi := hta.hi
       have q2 : decide ((z.dep : Int) < 1) = false := decide_eq_false (by omega)
       have q3 : decide ((8 : Int) < (z.dep : Int)) = false := decide_eq_false (by omega)
       have yLi := cell_below yL hbi
       have HNX := hide (fun n => show InLoop w6 x.sps (m - (kk + 1)) (.int .i64 z.to) (.int .i64 ((kk : Int) + 1)) (wr.drewN n) from ⟨kk + 1, z.to, by simp, rfl, hta.next.symm, by rw [← HM.out]; omega, Below.drewN' hbi n⟩)
       have HTA := hide hta
       have HZ := hide hz
       clear hta hspi hte hbi hz
       rcases Nat.eq_zero_or_pos kk with hk0 | hk0
       ·have e0 : ((kk : Int) == 0) = true := by rw [hk0]; rfl
        have e1 : decide ((0 : Int) < (kk : Int)) = false := decide_eq_false (by omega)
        have e2 : decide (0 < kk) = false := decide_eq_false (by omega)
        have e3 : ¬ 0 < kk := by omega
        have hfi := HTA.out.first hk0
        rw [hfi.1] at f2
        rw [hfi.2] at f3 q2 q3
        clear hfi rc hk0
        go_wp2_with fail
        go_quiet (fail)
        go_wp2_with fail
        go_roundg (m - (kk + 1))
        case measure => omega
        case rel => exact HNX.out _
       ·have e0 : ((kk : Int) == 0) = false := by rw [beq_eq_false_iff_ne]; omega
        have e1 : decide ((0 : Int) < (kk : Int)) = true := decide_eq_true (by omega)
        have e2 : decide (0 < kk) = true := decide_eq_true hk0
        have e3 : 0 < kk := hk0
        obtain ⟨kp, hkp⟩ : ∃ kp, kp = kk - 1 := ⟨_, rfl⟩
        have wp : IntKind.i64.wrap ((kk : Int) - 1) = (kp : Int) := by rw [IntKind.wrap_i64]; omega
        have hkpm : kp < m := by omega
        obtain ⟨y, hy⟩ : ∃ y, x.sps[kp]? = some y := ⟨_, List.getElem?_eq_getElem (by rw [← HM.out]; exact hkpm)⟩
        have f4p := rc kp y 4 _ hy rfl
        have htwo := HTA.out.two y hk0 (by rw [← hkp]; exact hy)
        clear rc hy hkp hk0
        by_cases hzc : z.co = ⟨#[]⟩
        ·have hyc := htwo.resolve_left (fun h => h hzc)
         have ec : z.co.toList.isEmpty = true := by rw [hzc, Lib.toList_data]; rfl
         have ey : y.co.toList.isEmpty = false := by
          rw [Lib.toList_data]
          cases hb : y.co.data.toList with
          | nil => exact absurd (WideShapes.bytes_inj (by rw [hb])) hyc
          | cons _ _ => rfl
         clear hzc hyc htwo
         go_wp2_with fail
         go_quiet (fail)
         go_wp2_with fail
         go_roundg (m - (kk + 1))
         case measure => omega
         case rel => exact HNX.out _
        ·have ec : z.co.toList.isEmpty = false := by
          rw [Lib.toList_data]
          cases hb : z.co.data.toList with
          | nil => exact absurd (WideShapes.bytes_inj (by rw [hb])) hzc
          | cons _ _ => rfl
         clear hzc htwo
         go_wp2_with fail
         go_quiet (fail)
         go_wp2_with fail
         go_roundg (m - (kk + 1))
         case measure => omega
         case rel => exact HNX.out _
      ·have g3 : decide ((kk : Int) < (m : Int)) = false := decide_eq_false (by omega)
       obtain ⟨nm, hnmj⟩ : ∃ nm, nms[j2]? = some nm := ⟨_, List.getElem?_eq_getElem (by rw [← HNL.out]; exact hlt)⟩
       have hbw := HB6.out.trans (hbi.mono HB6.out.size)
       have c5 : wr.cell? ⟨lg, j2, none⟩ = some (.string nm) := cell_below (row_cell HNR.out (j := j2) (u := .string nm) (by rw [List.getElem?_map, hnmj]; rfl)).1 hbw
       have hsz2 : nm.size = te := by
        have h1 := HL.out
        rw [HTS.out, ← HNM.out, List.getElem?_map, hnmj] at h1
        simp only [Option.map_some, Option.some.injEq] at h1
        have h2 := HEND.out
        have h3 := HM.out
        rw [hte, List.take_of_length_le (by omega), h2, ← h1, text_length]
       have HNX := hide (show WhLoop w3 nl (nl - (j2 + 1)) (.int .i64 ((j2 : Int) + 1)) wr from ⟨j2 + 1, by simp, by omega, hbw⟩)
       clear hte hbi hbw hnmj
       go_wp2_with fail
       go_roundg (nl - (j2 + 1))
       case measure => omega
       case rel => exact HNX.out
  ·have g1 : decide ((j : Int) < (nl : Int)) = false := decide_eq_false (by omega)
   have HEND := hide (HB3.out.trans (hbr.mono HB3.out.size))
   clear hbr
   go_wp2_with fail
   go_ret
   exact ⟨rfl, HEND.out⟩
end Go.Proofs.YtgncgdkpkkdaeaaGreatDoor
