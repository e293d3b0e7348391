import Derived.Test.YtgncgdkpkkdaeaaGreatDoorMG
import Derived.Test.YtgncgdkpkkdaeaaGreatDoorSh
import Derived.Laws.IdiomStrings
namespace Go.Proofs.YtgncgdkpkkdaeaaGreatDoor
open Go.RowKit aO
variable {w:World}
def Mx(w:World):Prop:=∃m,w.cell? ⟨0,0,none⟩=some (.int .i64 m)
theorem Mx.below{w':World}(h:Mx w)(hb:Below w.heap.size w w'):Mx w':=by obtain ⟨m,hm⟩:=h;exact ⟨m,(hb.cell (World.block_lt_of_cell? w _ hm)).trans hm⟩
theorem Mx.drewN(h:Mx w)(n:Nat):Mx (w.drewN n):=h
def Sr(s:ByteArray)(c:UInt8)(w:World)(e:Ending)(w':World):Prop:=
 (∃n,w'=w.drewN n)/\((∃a b:ByteArray,s.data.toList=a.data.toList++c::b.data.toList/\c∉a.data.toList/\e=.returned (.tuple #[.string a,.string b,.bool true]))∨(c∉s.data.toList/\e=.returned (.tuple #[.string s,.string ⟨#[]⟩,.bool false])))
theorem tJ(s:ByteArray)(c:UInt8)(w:World)(hs:s.size<=1000000000)(hm:Mx w):Calls Tryz.prog 108 #[.string s,.string ⟨#[c]⟩] w (Sr s c w):=by
 obtain ⟨m,hm⟩:=hm;refine (Tryz.strings_Cut s ⟨#[c]⟩ m w (by omega) hm).mono ?_;rintro e w' ⟨rfl,hn⟩;refine ⟨hn,?_⟩;rcases QZ c s.data.toList with ⟨a,b,h1,h2,-,h3⟩|⟨h1,-,h3⟩
 ·refine .inl ⟨⟨a.toArray⟩,⟨b.toArray⟩,h1,h2,?_⟩;rw[show (⟨#[c]⟩:ByteArray).data.toList=[c] from rfl,h3]
 ·refine .inr ⟨h1,?_⟩;rw[show (⟨#[c]⟩:ByteArray).data.toList=[c] from rfl,h3]
def Dm(s:ByteArray)(w:World)(e:Ending)(w':World):Prop:=
 (∃n,w'=w.drewN n)/\∃(a b:ByteArray) (o:Bool),e=.returned (.tuple #[.string a,.string b,.bool o])/\a.size<=s.size/\b.size<=s.size /\
  ((o=true/\isName a.data.toList=true/\bq s.data.toList=some (a.data.toList,b.data.toList))∨(bq s.data.toList=none/\(o=false∨isName a.data.toList=false)))
theorem KP(s sep:List UInt8):(Lib.cut s sep).1.length<=s.length/\(Lib.cut s sep).2.1.length<=s.length:=by
 unfold Lib.cut;split
 ·simp only[List.length_take,List.length_drop];omega
 ·simp
theorem Ch(s:ByteArray)(w:World)(hs:s.size<=1000000000)(hm:Mx w):Calls Tryz.prog 108 #[.string s,.string ⟨#[32,61,32]⟩] w (Dm s w):=by
 obtain ⟨m,hm⟩:=hm;refine (Tryz.strings_Cut s ⟨#[32,61,32]⟩ m w (by omega) hm).mono ?_;rintro e w' ⟨rfl,hn⟩;have hz:=KP s.data.toList [32,61,32];refine ⟨hn,⟨(Lib.cut s.data.toList [32,61,32]).1.toArray⟩,⟨(Lib.cut s.data.toList [32,61,32]).2.1.toArray⟩,(Lib.cut s.data.toList [32,61,32]).2.2,rfl,?_,?_,?_⟩
 ·show (Lib.cut s.data.toList [32,61,32]).1.toArray.size<=_;simpa using hz.1
 ·show (Lib.cut s.data.toList [32,61,32]).2.1.toArray.size<=_;simpa using hz.2
 rcases M8 s.data.toList with ⟨c,p,h1,h2,h3⟩|⟨h1,h2⟩
 ·rw[h3];exact .inl ⟨rfl,h2,h1⟩
 ·exact .inr ⟨h1,h2⟩
theorem Gp(w:World)(t:ByteArray)(j:Nat)(h:j<t.size)(cp:Nat)(fz:Nat×Nat):(w.alloc (.cells (bytesRow t cp) 5 fz)).drew.cell? ⟨w.heap.size,j,none⟩=some (.int .u8 t[j].toNat):=by
 have hh:(w.alloc (.cells (bytesRow t cp) 5 fz)).drew.heap[w.heap.size]?=some (.cells (bytesRow t cp) 5 fz):=by show (w.heap.push _)[w.heap.size]?=_;simp
 have hb:(bytesRow t cp)[j]?=some (.int .u8 t[j].toNat):=bytesRow_at t cp j h;unfold World.cell?;simp only[hh];exact hb
def Pf(t:ByteArray)(w:World)(k:Nat)(i:Value)(wr:World):Prop:=
 ∃j:Nat,i=.int .i64 j/\j+k=t.size/\wr=w/\∀(m:Nat) (x:UInt8),m<j->t.data.toList[m]?=some x->letter x=true
set_option maxRecDepth 20000 in
set_option maxHeartbeats 1000000 in
theorem kB(t:ByteArray)(w:World)(hz:t.size<=1000000000):
  Calls Tryz.prog 147 #[.string t] w λe w'=>e=.returned (.bool (isName t.data.toList))/\Below w.heap.size w w':=by
 have hcv:=run_bytes_of_string (P:=Tryz.prog) w 9 147 5 t Tryz.underlying9 Tryz.underlying147 Tryz.underlying5;go_enter Tryz.func147,Tryz.ntmps147;go_wp2_with fail
 have HB:=aa (show Below w.heap.size w (w.alloc (.cells (bytesRow t (grownCap w t.size 0 5)) 5 ((bytesRow t (grownCap w t.size 0 5)).size,(bytesRow t (grownCap w t.size 0 5)).size+1))).drew from ((Below.refl _ _).alloc (Nat.le_refl _) _).drew)
 have HC:=aa (λ(j:Nat) (h:j<t.size)=>show (w.alloc (.cells (bytesRow t (grownCap w t.size 0 5)) 5 ((bytesRow t (grownCap w t.size 0 5)).size,(bytesRow t (grownCap w t.size 0 5)).size+1))).drew.cell? ⟨w.heap.size,j,none⟩=some (.int .u8 t[j].toNat) from Gp w t j h _ _);clear hcv;generalize grownCap w t.size 0 5=cp at *
 obtain ⟨q,hq⟩:∃q,q=w.heap.size:=⟨_,rfl⟩;rw[<-hq]at HC ⊢;clear hq;generalize (w.alloc (.cells (bytesRow t cp) 5 ((bytesRow t cp).size,(bytesRow t cp).size+1))).drew=W at *;go_loopg [8] t.size (λk i wr=>Pf t W k i wr)
 case atStart=>exact ⟨0,rfl,by omega,rfl,λm x h=>by omega⟩
 case round=>
  obtain ⟨j,rfl,hk,rfl,hall⟩:=hrel;by_cases hlt:j<t.size
  ·have g1:decide ((j:Int)<(t.size:Int))=true:=decide_eq_true (by omega);have hc:=HC.out j hlt;have HG:=aa (pP hlt);have fZ:=aa hall;clear hall;by_cases h1:t[j].toNat<97
   ·have HE:=aa (all_false HG.out (show letter t[j]=false by simp[letter];omega));have q1:decide (((t[j].toNat:Nat):Int)<97)=true:=decide_eq_true (by omega);go_wp2_with fail;go_ret;exact ⟨by rw[HE.out];rfl,HB.out⟩
   ·by_cases h2:122<t[j].toNat
    ·have HE:=aa (all_false HG.out (show letter t[j]=false by simp[letter];omega));have q1:decide (((t[j].toNat:Nat):Int)<97)=false:=decide_eq_false (by omega);have q2:decide ((122:Int)<((t[j].toNat:Nat):Int))=true:=decide_eq_true (by omega);go_wp2_with fail;go_ret;exact ⟨by rw[HE.out];rfl,HB.out⟩
    ·have q1:decide (((t[j].toNat:Nat):Int)<97)=false:=decide_eq_false (by omega);have q2:decide ((122:Int)<((t[j].toNat:Nat):Int))=false:=decide_eq_false (by omega);have HL:=aa (show letter t[j]=true by simp[letter];omega);obtain ⟨k',rfl⟩:∃k',gk=k'+1:=⟨gk - 1,by omega⟩;have hi:j+1<=9223372036854775807:=by omega
     go_wp2_with fail;go_roundg k'
     case measure=>omega
     case rel=>
      refine ⟨j+1,rfl,by omega,rfl,λm x hm hx=>?_⟩;rcases Nat.lt_or_ge m j with h|h
      ·exact fZ.out m x h hx
      ·have:m=j:=by omega
       subst this;rw[HG.out]at hx;cases hx;exact HL.out
  ·have g1:decide ((j:Int)<(t.size:Int))=false:=decide_eq_false (by omega);have HE:=aa (all_true (l:=t.data.toList) (λm x hx=>hall m x (by have:=aw hx;rw[aM]at this;omega) hx));rw[aM]at HE;clear hall;by_cases h1:1<=t.size
   ·by_cases h2:t.size<=12
    ·have q1:decide ((1:Int)<=(t.size:Int))=true:=decide_eq_true (by omega);have q2:decide ((t.size:Int)<=12)=true:=decide_eq_true (by omega);go_wp2_with fail;go_ret;exact ⟨by rw[HE.out,decide_eq_true h1,decide_eq_true h2];rfl,HB.out⟩
    ·have q1:decide ((1:Int)<=(t.size:Int))=true:=decide_eq_true (by omega);have q2:decide ((t.size:Int)<=12)=false:=decide_eq_false (by omega);go_wp2_with fail;go_ret;exact ⟨by rw[HE.out,decide_eq_true h1,decide_eq_false h2];rfl,HB.out⟩
   ·have q1:decide ((1:Int)<=(t.size:Int))=false:=decide_eq_false (by omega);go_wp2_with fail;go_ret;exact ⟨by rw[HE.out,decide_eq_false h1];rfl,HB.out⟩
end Go.Proofs.YtgncgdkpkkdaeaaGreatDoor
