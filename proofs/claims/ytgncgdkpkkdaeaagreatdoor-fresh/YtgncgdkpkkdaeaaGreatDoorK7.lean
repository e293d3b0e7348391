import Derived.Test.YtgncgdkpkkdaeaaGreatDoorK6
namespace Go.Proofs.YtgncgdkpkkdaeaaGreatDoor
open Go.RowKit Tint Go.Maps Go.Shelf
theorem off_typ {w w' : World} {bD : Nat} {c0 : Array Value} {t0 : TypeId} {f0 : Nat × Nat} (ho : Off (fun k => k = bD) w w') (hD : w.heap[bD]? = some (.cells c0 t0 f0)) {k : Nat} {c : Array Value} {t : TypeId} {fz : Nat × Nat} (hk : w.heap[k]? = some (.cells c t fz)) (ht : t ≠ t0) : w'.heap[k]? = some (.cells c t fz) := by
 refine ho.same hk fun e => ht ?_
 have e' : k = bD := e
 rw [e', hD] at hk
 simp only [Option.some.injEq, Obj.cells.injEq] at hk
 exact hk.2.1.symm
theorem SheetIs.below {w w' : World} {B bS g n cap : Nat} {text : ByteArray} {lv : Value} {ls : List LE} {work : Nat} (h : SheetIs w B bS g n cap text lv ls work) (hb : Below w.heap.size w w') : SheetIs w' B bS g n cap text lv ls work :=
 ⟨(hb.block _ (lt_of_get h.sh)).trans h.sh, h.lns.below hb, h.base, h.size⟩
theorem Tab.below {w w' : World} (h : Tab w) (hb : Below w.heap.size w w') : Tab w' := h.keep (hb.block _ (cell_lt (h 0 (by decide))))
end Go.Proofs.YtgncgdkpkkdaeaaGreatDoor
