import Derived.Test.YtgncgdkpkkdaeaaGreatDoorM7
namespace Go.Proofs.YtgncgdkpkkdaeaaGreatDoor
open Go.RowKit aQ Go.Maps Go.Shelf
theorem kB.below{w w':World}(h:kB w)(hb:Below w.heap.size w w'):kB w':=h.keep (hb.block _ (eM (h 0 (by decide))))
set_option maxRecDepth 20000 in
set_option maxHeartbeats 2000000 in
theorem xW(s text:ByteArray)(w:World)(hT:kB w)(hm:Mx w)(hz:s.size<=maxLen):Calls Tryz.prog 3 #[.string s,.string text] w λe w'=>e=.returned (.bool true)/\Below w.heap.size w w':=by
 have t0:1 < w.heap.size:=eM (hT 0 (by decide));have m0:0 < w.heap.size:=by obtain ⟨m,h⟩:=hm;exact eM h
 have HL:=aa (kJ s w hm hz);have HK:=aa (And.intro hT hm);clear hT hm;go_enter Tryz.func3,Tryz.ntmps3;go_wp2_with fail;refine HL.out.mono ?_;rintro e w1 ⟨hb1,⟨rfl,-⟩|⟨b,rfl,hB,hN,-⟩⟩
 ·have ai:=aa hb1;clear hb1 HL;go_wp2_with fail;go_ret;exact ⟨rfl,ai.out⟩
 ·have HO:=aa (qG w1 b text hB (HK.out.1.below hb1) (HK.out.2.below hb1) (Nat.lt_of_lt_of_le t0 hN) (Nat.lt_of_lt_of_le m0 hN));have br:=aa hb1;clear hb1 hB HL hN t0 m0;go_wp2_with fail;refine HO.out.mono ?_;rintro e w2 ⟨hb2,⟨rfl,-⟩|⟨d,rfl,hS,-⟩⟩
  ·have ai:=aa (br.out.trans (hb2.mono br.out.size));clear hb2 HO;go_wp2_with fail;go_ret;exact ⟨rfl,ai.out⟩
  ·have cM:=aa (br.out.trans (hb2.mono br.out.size));have HW:=aa (lV w2 d true hS);clear hb2 hS HO br;go_wp2_with fail;refine HW.out.mono ?_;rintro e w3 ⟨rfl,hb3⟩;have ai:=aa (cM.out.trans (hb3.mono cM.out.size));clear hb3 HW cM;go_wp2_with fail;go_ret;exact ⟨rfl,ai.out⟩
end Go.Proofs.YtgncgdkpkkdaeaaGreatDoor
