import Derived.Test.YtgncgdkpkkdaeaaGreatDoorM7
namespace Go.Proofs.YtgncgdkpkkdaeaaGreatDoor
open Go.RowKit aO Go.Maps Go.Shelf
theorem kK.below{w w':World}(h:kK w)(hb:Below w.heap.size w w'):kK w':=h.keep (hb.block _ (dw (h 0 (by decide))))
set_option maxRecDepth 20000 in
set_option maxHeartbeats 2000000 in
theorem zf(s text:ByteArray)(w:World)(hT:kK w)(hm:Mx w)(hz:s.size<=maxLen):Calls Tryz.prog 3 #[.string s,.string text] w λe w'=>e=.returned (.bool true)/\Below w.heap.size w w':=by
 have t0:1 < w.heap.size:=dw (hT 0 (by decide));have m0:0 < w.heap.size:=by obtain ⟨m,h⟩:=hm;exact dw h
 have HL:=aa (iw s w hm hz);have HK:=aa (And.intro hT hm);clear hT hm;go_enter Tryz.func3,Tryz.ntmps3;go_wp2_with fail;refine HL.out.mono ?_;rintro e w1 ⟨hb1,⟨rfl,-⟩|⟨b,rfl,hB,hN,-⟩⟩
 ·have ai:=aa hb1;clear hb1 HL;go_wp2_with fail;go_ret;exact ⟨rfl,ai.out⟩
 ·have HO:=aa (lr w1 b text hB (HK.out.1.below hb1) (HK.out.2.below hb1) (Nat.lt_of_lt_of_le t0 hN) (Nat.lt_of_lt_of_le m0 hN));have bA:=aa hb1;clear hb1 hB HL hN t0 m0;go_wp2_with fail;refine HO.out.mono ?_;rintro e w2 ⟨hb2,⟨rfl,-⟩|⟨d,rfl,hS,-⟩⟩
  ·have ai:=aa (bA.out.trans (hb2.mono bA.out.size));clear hb2 HO;go_wp2_with fail;go_ret;exact ⟨rfl,ai.out⟩
  ·have cL:=aa (bA.out.trans (hb2.mono bA.out.size));have HW:=aa (mI w2 d true hS);clear hb2 hS HO bA;go_wp2_with fail;refine HW.out.mono ?_;rintro e w3 ⟨rfl,hb3⟩;have ai:=aa (cL.out.trans (hb3.mono cL.out.size));clear hb3 HW cL;go_wp2_with fail;go_ret;exact ⟨rfl,ai.out⟩
end Go.Proofs.YtgncgdkpkkdaeaaGreatDoor
