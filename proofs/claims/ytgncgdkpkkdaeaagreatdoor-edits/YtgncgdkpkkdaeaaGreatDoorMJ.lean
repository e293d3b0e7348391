import Derived.Test.YtgncgdkpkkdaeaaGreatDoorMH
import Derived.Test.YtgncgdkpkkdaeaaGreatDoorMI
namespace Go.Proofs.YtgncgdkpkkdaeaaGreatDoor
open Go.RowKit aO
variable {B N i:Nat} {sv v':Value} {W w w3 wC wL:World}
structure aV where
 at_:Nat
 x:Ln
 kd:Nat
 d:Nat
 st:ByteArray
 co:ByteArray
 ao:Option Addr
 ln:Nat
 cp:Nat
 wh:Nat
 fl:Nat
def aV.cells(l:aV):List Value:=[.int .i64 l.at_,.int .i64 l.kd,.string l.st,.int .i64 l.d,.string l.co,.slice l.ao l.ln l.cp,.int .i64 l.wh,.int .i64 l.fl]
def aV.pr(l:aV):Nat×Ln:=(l.at_,l.x)
structure Lines(w:World)(B:Nat)(sv:Value)(ls:List aV):Prop where
 row:w.ownsRow B 219 8 sv ls.length (ls.flatMap aV.cells)
 each:∀l∈ls,gh w B l.kd l.d l.st l.co (.slice l.ao l.ln l.cp) l.wh l.fl l.x
variable {ls:List aV}
theorem Lines.below{w':World}(h:Lines w B sv ls)(hb:Below w.heap.size w w'):Lines w' B sv ls:=
 ⟨aG h.row λk e=>by obtain ⟨_,cur,hc⟩:=aj h.row e;exact hb.block k (ae hc),λl hl=>(h.each l hl).keep λhp=>hp.below hb⟩
variable {l:aV}
theorem Lines.push(h:Lines W B sv ls)(hB:B<=W.heap.size)(hl:gh W B l.kd l.d l.st l.co (.slice l.ao l.ln l.cp) l.wh l.fl l.x)
  (hown:w3.ownsRow B 219 8 v' (ls.length+1) (ls.flatMap aV.cells++l.cells)) (hg:W.grownBy w3 sv.ownBlock):Lines w3 B v' (ls++[l])/\Below B W w3:=by
 have hk:∀{p:List UInt8} {lv:Value} {wh fl:Nat},fA W B p lv wh fl->fA w3 B p lv wh fl:=λhp=>hp.keep λk c t ht hh=>by
  rw[hg.block k (ae hh) (λe=>by
   obtain ⟨_,cur,hc⟩:=aj h.row e.symm;rw[hc]at hh;simp only[Option.some.injEq,Obj.cells.injEq]at hh;rcases ht with rfl|rfl|rfl
   ·exact absurd hh.2.1 (by decide)
   ·exact absurd hh.2.1 (by decide)
   ·exact absurd hh.2.1 (by decide))]
  exact hh
 refine ⟨⟨by simpa using hown,λy hy=>?_⟩,eE hB hg (λk e=>(aj h.row e).1)⟩;rcases List.mem_append.1 hy with hy|hy
 ·exact (h.each y hy).keep hk
 ·rw[List.mem_singleton.1 hy];exact hl.keep hk
theorem JB:(Tryz.prog.info? 219).map (λi=>(i.zero,i.size,i.bytes))=some (some (.agg #[.int .i64 0,.int .i64 0,.string ⟨#[]⟩,.int .i64 0,.string ⟨#[]⟩,.slice none 0 0,.int .i64 0,.int .i64 0]),8,96):=by kernel_rfl
def jR(s:List UInt8)(w:World)(e:Ending)(w':World):Prop:=
 Below w.heap.size w w'/\((∃a:Nat,e=.returned (.tuple #[.slice none 0 0,.int .i64 a,.bool false])/\rd 0 [] s=.inl a) ∨
  (∃(sv:Value) (ls:List aV),e=.returned (.tuple #[sv,.int .i64 0,.bool true])/\rd 0 [] s=.inr (ls.map aV.pr)/\Lines w' w.heap.size sv ls/\ls.length<=s.length))
structure Zq(s:ByteArray)(w:World)(a:Nat)(sv:Value)(ls:List aV)(st:Bool)(wr:World):Prop where
 le:a<=s.size
 run:rd 0 [] s.data.toList=rd a (ls.map aV.pr) (rest s a)
 lines:Lines wr w.heap.size sv ls
 started:st=(ls.map aV.pr).any (·.2.aL)
 below:Below w.heap.size w wr
 few:ls.length<=a
def Nq(s:ByteArray)(w:World)(k:Nat)(vl vs va:Value)(wr:World):Prop:=
 ∃(a:Nat) (ls:List aV) (st:Bool) (sv:Value),vl=sv/\vs=.bool st/\va=.int .i64 a/\a+k=s.size/\Zq s w a sv ls st wr
theorem dM{kd d:Nat}{st co:ByteArray}{lv:Value}{wh fl:Nat}{x:Ln}(h:gh w B kd d st co lv wh fl x):(kd=1<->x.aL=true)/\(kd=2<->x.aY=true):=by
 cases x with
 | blank=>obtain ⟨rfl,_⟩:=h;simp[Ln.aL,Ln.aY]
 | state n=>obtain ⟨rfl,_⟩:=h;simp[Ln.aL,Ln.aY]
 | rule d' o c p=>obtain ⟨rfl,_⟩:=h;simp[Ln.aL,Ln.aY]
set_option maxRecDepth 20000 in
set_option maxHeartbeats 2000000 in
theorem xm(s:ByteArray)(w:World)(hz:s.size<=2000)(hm:Mx w):
  Calls Tryz.prog 81 #[.string s] w (jR s.data.toList w):=by
 have HM:=aa hm;clear hm;go_enter Tryz.func81,Tryz.ntmps81;go_wp2_with fail;go_loopg [5,6,7] s.size (λk vl vs va wr=>Nq s w k vl vs va wr)
 case atStart=>exact ⟨0,[],false,_,rfl,rfl,rfl,by omega,Nat.zero_le _,by simp[rest],⟨World.ownsRow_nil _ _ _ _,λl hl=>by simp at hl⟩,rfl,Below.refl _ _,Nat.le_refl _⟩
 case round=>
  obtain ⟨a,ls,st,sv,rfl,rfl,rfl,hk,hR⟩:=hrel;have HR:=aa hR;have wN:=hR.le;have sS:=hR.few;clear hR;by_cases hlt:a<s.size
  ·have g1:decide ((a:Int)<(s.size:Int))=true:=decide_eq_true (by omega);have Rb:w.heap.size<=wr.heap.size:=HR.out.below.size;have uC:=aa (tJ (s.extract a s.size) 10 wr (by rw[ByteArray.size_extract];omega) (HM.out.below HR.out.below));go_wp2_with fail;refine uC.out.mono ?_;rintro e w1 ⟨⟨n1,rfl⟩,jk⟩;rw[cZ (Nat.le_refl _)]at jk
   have eK:=aa (show Zq s w a u5 ls st (wr.drewN n1) from ⟨HR.out.le,HR.out.run,HR.out.lines.below (Below.drewN' (Below.refl _ _) n1),HR.out.started,Below.drewN' HR.out.below n1,HR.out.few⟩);clear HR uC;generalize wr.drewN n1=W1 at *
   obtain ⟨bo,b2,en,rfl,hbz,hen⟩:∃(bo b2:ByteArray) (en:Bool),e=.returned (.tuple #[.string bo,.string b2,.bool en])/\a+bo.size<=s.size/\((en=true/\rest s a=bo.data.toList++10::rest s (a+bo.size+1)/\(10:UInt8)∉bo.data.toList/\a+bo.size+1<=s.size)∨(en=false/\(10:UInt8)∉rest s a)):=by
    rcases jk with ⟨x,y,h1,h2,rfl⟩|⟨h1,rfl⟩
    ·have hl:=congrArg List.length h1;rw[aX,List.length_append,List.length_cons,aM,aM]at hl;refine ⟨x,y,true,rfl,by omega,.inl ⟨rfl,?_,h2,by omega⟩⟩;have e1:rest s (a+x.size+1)=(rest s a).drop (x.size+1):=by simp[rest,List.drop_drop,Nat.add_assoc]
     have e2:rest s (a+x.size+1)=y.data.toList:=by rw[e1,h1,show x.size+1=x.data.toList.length+1 from rfl,List.drop_append];simp
     rw[e2];exact h1
    ·refine ⟨_,_,false,rfl,by rw[ByteArray.size_extract];omega,.inr ⟨rfl,h1⟩⟩
   have oD:=aa hen;have jd:=aa (zE bo W1 (by omega) (HM.out.below eK.out.below));clear jk hen;go_wp2_with fail;refine jd.out.mono ?_;rintro e w2 ⟨dW,kd,d,wh,fl,sa,co,ao,ln,cp,ok,rfl,dZ⟩;have Zr:w.heap.size<=W1.heap.size:=eK.out.below.size;have cL:=aa (eK.out.below.trans (dW.mono Zr));have ld:=aa (eK.out.lines.below dW);have Rc:=aa dW;clear dW jd
   cases ok with
   | false=>
    have hno:cH bo.data.toList=none:=by rcases dZ with ⟨h,_⟩|⟨_,h⟩;cases h;exact h
    have ai:=aa (λo=>show jR s.data.toList w (.returned (.tuple #[.slice none 0 0,.int .i64 a,.bool false])) (w2.alloc o) from ⟨cL.out.alloc cL.out.size o,.inl ⟨a,rfl,by
     rw[eK.out.run];rcases oD.out with ⟨_,h1,h2,_⟩|⟨_,h1⟩
     ·rw[h1];exact EX h2 hno
     ·refine zB (λe=>?_) h1;have:=congrArg List.length e;rw[aX]at this;simp at this;omega⟩⟩)
    clear dZ hno ld eK cL Rc oD
    cases st with
    | true=>
     go_wp2_with fail;exact bodyPost_ret (v:=.tuple #[.slice none 0 0,.int .i64 a,.bool false]) (by simp[results,Tryz.results81,go_sem, *]) rfl (ai.out _)
    | false=>
     cases hb1:((kd:Int)==1) with
     | true=>
      go_wp2_with fail;exact bodyPost_ret (v:=.tuple #[.slice none 0 0,.int .i64 a,.bool false]) (by simp[results,Tryz.results81,go_sem, *]) rfl (ai.out _)
     | false=>
      go_wp2_with fail;exact bodyPost_ret (v:=.tuple #[.slice none 0 0,.int .i64 a,.bool false]) (by simp[results,Tryz.results81,go_sem, *]) rfl (ai.out _)
   | true=>
    obtain ⟨x,hx,hLI⟩:∃x,cH bo.data.toList=some x/\gh w2 W1.heap.size kd d sa co (.slice ao ln cp) wh fl x:=by rcases dZ with ⟨_,h⟩|⟨h,_⟩;exact h;cases h
    have HX:=aa hx;have IX:=aa (hLI.keep (B:=W1.heap.size) (w':=w2) λhp=>hp);clear dZ hx hLI
    cases en with
    | false=>
     have ai:=aa (λo=>show jR s.data.toList w (.returned (.tuple #[.slice none 0 0,.int .i64 a,.bool false])) (w2.alloc o) from ⟨cL.out.alloc cL.out.size o,.inl ⟨a,rfl,by
      rw[eK.out.run];rcases oD.out with ⟨h0,_⟩|⟨_,h1⟩
      ·cases h0
      ·refine zB (λe=>?_) h1;have:=congrArg List.length e;rw[aX]at this;simp at this;omega⟩⟩)
     clear HX IX ld eK cL Rc oD
     cases st with
     | true=>
      go_wp2_with fail;exact bodyPost_ret (v:=.tuple #[.slice none 0 0,.int .i64 a,.bool false]) (by simp[results,Tryz.results81,go_sem, *]) rfl (ai.out _)
     | false=>
      cases hb1:((kd:Int)==1) with
      | true=>
       go_wp2_with fail;exact bodyPost_ret (v:=.tuple #[.slice none 0 0,.int .i64 a,.bool false]) (by simp[results,Tryz.results81,go_sem, *]) rfl (ai.out _)
      | false=>
       go_wp2_with fail;exact bodyPost_ret (v:=.tuple #[.slice none 0 0,.int .i64 a,.bool false]) (by simp[results,Tryz.results81,go_sem, *]) rfl (ai.out _)
    | true=>
     obtain ⟨eJ,hk2⟩:=dM IX.out;have hen:rest s a=bo.data.toList++10::rest s (a+bo.size+1)/\(10:UInt8)∉bo.data.toList/\a+bo.size+1<=s.size:=by rcases oD.out with ⟨_,h⟩|⟨h,_⟩;exact h;cases h
     have JC:=eK.out.started;by_cases Rf:kd=2/\st=false
     ·obtain ⟨hkd,rfl⟩:=Rf;have hb1:((kd:Int)==1)=false:=by rw[hkd];rfl
      have hb2:((kd:Int)==2)=true:=by rw[hkd];rfl
      have ai:=aa (λo=>show jR s.data.toList w (.returned (.tuple #[.slice none 0 0,.int .i64 a,.bool false])) (w2.alloc o) from ⟨cL.out.alloc cL.out.size o,.inl ⟨a,rfl,by rw[eK.out.run,hen.1];exact Cf hen.2.1 HX.out (hk2.1 hkd) JC.symm⟩⟩)
      clear HX IX ld eK cL Rc oD hen eJ hk2 JC hkd;go_wp2_with fail;exact bodyPost_ret (v:=.tuple #[.slice none 0 0,.int .i64 a,.bool false]) (by simp[results,Tryz.results81,go_sem, *]) rfl (ai.out _)
     ·have haz:a+bo.size+1<=9223372036854775807:=by omega
      obtain ⟨k',hk'⟩:∃k',gk=k'+(bo.size+1):=⟨gk - (bo.size+1),by omega⟩;obtain ⟨i0,hi,hz0,hz1,hz3⟩:=info_parts JB
      have L0:=aa (show Below w2.heap.size w2 ((w2.alloc (.cells #[.int .i64 a,.int .i64 kd,.string sa,.int .i64 d,.string co,.slice ao ln cp,.int .i64 wh,.int .i64 fl] 219)).alloc (.cells #[.int .i64 a,.int .i64 kd,.string sa,.int .i64 d,.string co,.slice ao ln cp,.int .i64 wh,.int .i64 fl] 219)) from ((Below.refl _ _).alloc (Nat.le_refl _) _).alloc (by simp) _)
      have HKEY:=aa (show ∀v' w3 (k9:Bool),k9=(st||x.aL)->w3.ownsRow w.heap.size 219 8 v' (ls.length+1) (ls.flatMap aV.cells++[.int .i64 a,.int .i64 kd,.string sa,.int .i64 d,.string co,.slice ao ln cp,.int .i64 wh,.int .i64 fl])->((w2.alloc (.cells #[.int .i64 a,.int .i64 kd,.string sa,.int .i64 d,.string co,.slice ao ln cp,.int .i64 wh,.int .i64 fl] 219)).alloc (.cells #[.int .i64 a,.int .i64 kd,.string sa,.int .i64 d,.string co,.slice ao ln cp,.int .i64 wh,.int .i64 fl] 219)).grownBy w3 u5.ownBlock->Nq s w k' v' (.bool k9) (.int .i64 ((a+(bo.size+1):Nat):Int)) w3 from λv' w3 k9 hst hown hg=>by
       obtain ⟨h1,h2⟩:=Lines.push (l:=⟨a,x,kd,d,sa,co,ao,ln,cp,wh,fl⟩) (ld.out.below L0.out) (Nat.le_trans cL.out.size L0.out.size) ((IX.out.keep (w':=w2) λhp=>hp).keep (w':=(w2.alloc (.cells #[.int .i64 a,.int .i64 kd,.string sa,.int .i64 d,.string co,.slice ao ln cp,.int .i64 wh,.int .i64 fl] 219)).alloc (.cells #[.int .i64 a,.int .i64 kd,.string sa,.int .i64 d,.string co,.slice ao ln cp,.int .i64 wh,.int .i64 fl] 219)) (λhp=>hp.below L0.out) |> λhh=>by
        cases x with
        | blank=>exact hh
        | state n=>exact hh
        | rule d' o c p=>exact ⟨hh.1,hh.2.1,hh.2.2.1,hh.2.2.2.1,hh.2.2.2.2.1,hh.2.2.2.2.2.mono Zr⟩) hown hg
       refine ⟨a+(bo.size+1),ls++[⟨a,x,kd,d,sa,co,ao,ln,cp,wh,fl⟩],k9,v',rfl,rfl,rfl,by omega,by omega,?_,h1,?_,cL.out.trans ((L0.out.mono cL.out.size).trans h2),by simp;omega⟩
       ·rw[eK.out.run,hen.1,tI hen.2.1 HX.out (λhc=>Rf ⟨hk2.2 hc.1,by rw[JC];exact hc.2⟩),List.map_append];rfl
       ·rw[hst,JC,List.map_append,List.any_append];simp[aV.pr])
      have ba:=aa (show ((w2.alloc (.cells #[.int .i64 a,.int .i64 kd,.string sa,.int .i64 d,.string co,.slice ao ln cp,.int .i64 wh,.int .i64 fl] 219)).alloc (.cells #[.int .i64 a,.int .i64 kd,.string sa,.int .i64 d,.string co,.slice ao ln cp,.int .i64 wh,.int .i64 fl] 219)).ownsRow w.heap.size 219 8 u5 ls.length (ls.flatMap aV.cells) from (ld.out.below L0.out).row)
      have ea:=aa (show ∀j u,([.int .i64 a,.int .i64 kd,.string sa,.int .i64 d,.string co,.slice ao ln cp,.int .i64 wh,.int .i64 fl]:List Value)[j]?=some u->((w2.alloc (.cells #[.int .i64 a,.int .i64 kd,.string sa,.int .i64 d,.string co,.slice ao ln cp,.int .i64 wh,.int .i64 fl] 219)).alloc (.cells #[.int .i64 a,.int .i64 kd,.string sa,.int .i64 d,.string co,.slice ao ln cp,.int .i64 wh,.int .i64 fl] 219)).cell? ((⟨w2.heap.size+1,0,none⟩:Addr).add j)=some u from λj u hj=>by
       have:=aD (w2.alloc (.cells #[.int .i64 a,.int .i64 kd,.string sa,.int .i64 d,.string co,.slice ao ln cp,.int .i64 wh,.int .i64 fl] 219)) #[.int .i64 a,.int .i64 kd,.string sa,.int .i64 d,.string co,.slice ao ln cp,.int .i64 wh,.int .i64 fl] 219 j u hj;simpa using this)
      have HO:Hid (∀u∈([.int .i64 a,.int .i64 kd,.string sa,.int .i64 d,.string co,.slice ao ln cp,.int .i64 wh,.int .i64 fl]:List Value),u.oneCell'=true):=by intro u hu;simp only[List.mem_cons,List.not_mem_nil,or_false]at hu;rcases hu with rfl|rfl|rfl|rfl|rfl|rfl|rfl|rfl<;>rfl
      have hb1:ls.length+1<=maxLen:=by unfold maxLen;omega
      have pK:(ls.length+1)*96<=140737488355328:=by omega
      have xn:w.heap.size<=w2.heap.size+2:=by have:=cL.out.size;omega
      have Ei:=aa JC;have uQ:=aa Rf;have Xh:=aa eJ;have Zs:=aa hk2;clear HX IX ld eK cL Rc oD hen JC Rf eJ hk2 L0 HM
      cases st with
      | true=>
       have Cq:=aa (show true=(true||x.aL) from rfl)
       cases hb2:((kd:Int)==2) with
       | true=>
        go_wp2_with (at_builtin;refine wpList_append_own _ rfl (.tmp 54) (.tmp 56) 153 rfl w.heap.size 219 i0 (.agg #[.int .i64 0,.int .i64 0,.string ⟨#[]⟩,.int .i64 0,.string ⟨#[]⟩,.slice none 0 0,.int .i64 0,.int .i64 0]) 8 96 Tryz.underlying153 hi hz0 hz1 hz3 rfl (by decide) u5 ls.length (ls.flatMap aV.cells) rfl ba.out ⟨w2.heap.size+1,0,none⟩ 1 1 [.int .i64 a,.int .i64 kd,.string sa,.int .i64 d,.string co,.slice ao ln cp,.int .i64 wh,.int .i64 fl] rfl rfl ea.out HO.out hb1 pK (by simpa using xn) ?_;intro v' w3 hown hg _;have HST:=aa (HKEY.out v' w3 true (by first|exact Cq.out|rfl) hown hg);obtain ⟨g',cap',rfl⟩:=az hown (by omega);clear hown hg)
        go_roundg k'
        case measure=>omega
        case rel=>exact HST.out
       | false=>
        go_wp2_with (at_builtin;refine wpList_append_own _ rfl (.tmp 54) (.tmp 56) 153 rfl w.heap.size 219 i0 (.agg #[.int .i64 0,.int .i64 0,.string ⟨#[]⟩,.int .i64 0,.string ⟨#[]⟩,.slice none 0 0,.int .i64 0,.int .i64 0]) 8 96 Tryz.underlying153 hi hz0 hz1 hz3 rfl (by decide) u5 ls.length (ls.flatMap aV.cells) rfl ba.out ⟨w2.heap.size+1,0,none⟩ 1 1 [.int .i64 a,.int .i64 kd,.string sa,.int .i64 d,.string co,.slice ao ln cp,.int .i64 wh,.int .i64 fl] rfl rfl ea.out HO.out hb1 pK (by simpa using xn) ?_;intro v' w3 hown hg _;have HST:=aa (HKEY.out v' w3 true (by first|exact Cq.out|rfl) hown hg);obtain ⟨g',cap',rfl⟩:=az hown (by omega);clear hown hg)
        go_roundg k'
        case measure=>omega
        case rel=>exact HST.out
      | false=>
       have ada:((kd:Int)==2)=false:=by rw[beq_eq_false_iff_ne];intro e;exact uQ.out ⟨by omega,rfl⟩
       by_cases Rg:kd=1
       ·have DO:((kd:Int)==1)=true:=by rw[Rg];rfl
        have Cq:=aa (show true=(false||x.aL) by rw[Xh.out.1 Rg];rfl);clear Rg
        go_wp2_with (at_builtin;refine wpList_append_own _ rfl (.tmp 54) (.tmp 56) 153 rfl w.heap.size 219 i0 (.agg #[.int .i64 0,.int .i64 0,.string ⟨#[]⟩,.int .i64 0,.string ⟨#[]⟩,.slice none 0 0,.int .i64 0,.int .i64 0]) 8 96 Tryz.underlying153 hi hz0 hz1 hz3 rfl (by decide) u5 ls.length (ls.flatMap aV.cells) rfl ba.out ⟨w2.heap.size+1,0,none⟩ 1 1 [.int .i64 a,.int .i64 kd,.string sa,.int .i64 d,.string co,.slice ao ln cp,.int .i64 wh,.int .i64 fl] rfl rfl ea.out HO.out hb1 pK (by simpa using xn) ?_;intro v' w3 hown hg _;have HST:=aa (HKEY.out v' w3 true (by first|exact Cq.out|rfl) hown hg);obtain ⟨g',cap',rfl⟩:=az hown (by omega);clear hown hg)
        go_roundg k'
        case measure=>omega
        case rel=>exact HST.out
       ·have DO:((kd:Int)==1)=false:=by rw[beq_eq_false_iff_ne];omega
        have Cq:=aa (show false=(false||x.aL) by
         cases Yr:x.aL with
         | true=>exact absurd (Xh.out.2 Yr) Rg
         | false=>rfl)
        go_wp2_with (at_builtin;refine wpList_append_own _ rfl (.tmp 54) (.tmp 56) 153 rfl w.heap.size 219 i0 (.agg #[.int .i64 0,.int .i64 0,.string ⟨#[]⟩,.int .i64 0,.string ⟨#[]⟩,.slice none 0 0,.int .i64 0,.int .i64 0]) 8 96 Tryz.underlying153 hi hz0 hz1 hz3 rfl (by decide) u5 ls.length (ls.flatMap aV.cells) rfl ba.out ⟨w2.heap.size+1,0,none⟩ 1 1 [.int .i64 a,.int .i64 kd,.string sa,.int .i64 d,.string co,.slice ao ln cp,.int .i64 wh,.int .i64 fl] rfl rfl ea.out HO.out hb1 pK (by simpa using xn) ?_;intro v' w3 hown hg _;have HST:=aa (HKEY.out v' w3 false (by first|exact Cq.out|rfl) hown hg);obtain ⟨g',cap',rfl⟩:=az hown (by omega);clear hown hg)
        go_roundg k'
        case measure=>omega
        case rel=>exact HST.out
  ·have g1:decide ((a:Int)<(s.size:Int))=false:=decide_eq_false (by omega);have ai:=aa (show jR s.data.toList w (.returned (.tuple #[u5,.int .i64 0,.bool true])) wr from ⟨HR.out.below,.inr ⟨u5,ls,rfl,by rw[HR.out.run,dv (by omega),M9],HR.out.lines,by rw[aM];omega⟩⟩);clear HR;go_wp2_with fail
   exact bodyPost_ret (v:=.tuple #[u5,.int .i64 0,.bool true]) (by simp[results,Tryz.results81,go_sem, *]) rfl ai.out
def aV.agg(l:aV):Value:=.agg #[.int .i64 l.at_,.int .i64 l.kd,.string l.st,.int .i64 l.d,.string l.co,.slice l.ao l.ln l.cp,.int .i64 l.wh,.int .i64 l.fl]
theorem Cr(h:ls[i]?=some l)(j:Nat)(hj:j<8):(ls.flatMap aV.cells)[i*8+j]?=l.cells[j]?:=by
 induction ls generalizing i with
 | nil=>simp at h
 | cons a t ih=>
  cases i with
  | zero=>
   simp only[List.getElem?_cons_zero,Option.some.injEq]at h;subst h;simp only[List.flatMap_cons];rw[List.getElem?_append_left (by simp[aV.cells];omega)];simp
  | succ i=>
   simp only[List.getElem?_cons_succ]at h;have:=ih h;simp only[List.flatMap_cons];rw[List.getElem?_append_right (by simp[aV.cells];omega),<-this];congr 1;simp[aV.cells];omega
theorem Lines.form(h:Lines w B sv ls):∃ao cap,sv=.slice ao ls.length cap/\(0<ls.length->∃g,ao=some ⟨g,0,none⟩):=by
 rcases h.row.2 with ⟨h1,h0⟩|⟨g,cap,cur,h1,_⟩
 ·exact ⟨none,0,by rw[h1,h0],λh=>by omega⟩
 ·exact ⟨some ⟨g,0,none⟩,cap,h1,λ_=>⟨g,rfl⟩⟩
theorem Lines.cells{g n cap:Nat}(h:Lines w B (.slice (some ⟨g,0,none⟩) n cap) ls)(hi:ls[i]?=some l):
  w.cell? ⟨g,i*8,none⟩=some (.int .i64 l.at_)/\w.cell? ⟨g,i*8+1,none⟩=some (.int .i64 l.kd)/\w.cell? ⟨g,i*8+2,none⟩=some (.string l.st)/\w.cell? ⟨g,i*8+3,none⟩=some (.int .i64 l.d)/\w.cell? ⟨g,i*8+4,none⟩=some (.string l.co)/\w.cell? ⟨g,i*8+5,none⟩=some (.slice l.ao l.ln l.cp)/\w.cell? ⟨g,i*8+6,none⟩=some (.int .i64 l.wh)/\w.cell? ⟨g,i*8+7,none⟩=some (.int .i64 l.fl):=by
 have hn:n=ls.length:=by
  rcases h.row.2 with ⟨h0,_⟩|⟨g',cap',cur,e1,_⟩
  ·cases h0
  ·cases e1;rfl
 subst hn;have f:=λj (hj:j<8) (u:Value) (hu:l.cells[j]?=some u)=>(bG h.row (show (ls.flatMap aV.cells)[i*8+j]?=some u by rw[Cr hi j hj];exact hu)).1
 exact ⟨f 0 (by omega) _ rfl,f 1 (by omega) _ rfl,f 2 (by omega) _ rfl,f 3 (by omega) _ rfl,f 4 (by omega) _ rfl,f 5 (by omega) _ rfl,f 6 (by omega) _ rfl,f 7 (by omega) _ rfl⟩
def Ve(G:World->Prop)(ls:List aV)(p:cM->Ln->Prop)(g:Nat)(lb:Array Value)(Inv:List aV->World->Prop):Prop:=
 ∀pre l post w,ls=pre++l::post->G w->Inv pre w->Calls Tryz.prog g (#[l.agg]++lb) w λe w'=>∃b,e=.returned (.bool b)/\(b=true<->p (pre.map aV.pr) l.x)/\G w'/\(b=false->Inv (pre++[l]) w')
def tK(G:World->Prop)(ls:List aV)(p:cM->Ln->Prop)(Inv:List aV->World->Prop)(e:Ending)(w':World):Prop:=
 G w'/\((∃(j:Nat) (l:aV),e=.returned (.int .i64 j)/\ls[j]?=some l/\dF p [] (ls.map aV.pr) (some l.at_))∨(e=.returned (.int .i64 (-1))/\dF p [] (ls.map aV.pr) none/\Inv ls w'))
def Hh(G:World->Prop)(ls:List aV)(p:cM->Ln->Prop)(Inv:List aV->World->Prop)(k:Nat)(i:Value)(wr:World):Prop:=
 ∃j:Nat,i=.int .i64 j/\j+k=ls.length/\G wr/\Inv (ls.take j) wr/\dF p [] ((ls.take j).map aV.pr) none
set_option maxRecDepth 20000 in
set_option maxHeartbeats 2000000 in
theorem dN(wC:World)(B:Nat)(sv:Value)(ls:List aV)(p:cM->Ln->Prop)(g:Nat)(lb:Array Value)(Inv:List aV->World->Prop)(w:World)(hL:Lines wC B sv ls)(G:World->Prop)(hG:∀w,G w->Below wC.heap.size wC w)(hP:Ve G ls p g lb Inv)(he:Enters g)(hB:G w)(hI:Inv [] w)(hz:ls.length<=1000000):
  Calls Tryz.prog 115 #[sv,.func (.func g) #[] lb] w (tK G ls p Inv):=by
 obtain ⟨ao,cap,rfl,hao⟩:=hL.form;have HL:=aa hL;have HP:=aa hP;have HB:=aa hB;have HI:=aa hI;have Cb:=aa hao;unfold Enters at he;clear hL hP hB hI hao;go_enter Tryz.func115,Tryz.ntmps115;go_wp2_with fail;go_loopg [8] ls.length (λk i wr=>Hh G ls p Inv k i wr)
 case atStart=>exact ⟨0,rfl,by omega,HB.out,HI.out,.nil⟩
 case round=>
  obtain ⟨j,rfl,hk,kZ,Zt,hf⟩:=hrel;by_cases hlt:j<ls.length
  ·have g1:decide ((j:Int)<(ls.length:Int))=true:=decide_eq_true (by omega);obtain ⟨q,rfl⟩:=Cb.out (by omega);obtain ⟨l,hl⟩:∃l,ls[j]?=some l:=⟨ls[j],List.getElem?_eq_getElem hlt⟩;have hsp:ls=ls.take j++l::ls.drop (j+1):=by have hl':=hl;rw[List.getElem?_eq_getElem hlt]at hl';rw[<-Option.some.inj hl',<-List.drop_eq_getElem_cons hlt,List.take_append_drop]
   have iv:ls.take (j+1)=ls.take j++[l]:=by have hl':=hl;rw[List.getElem?_eq_getElem hlt]at hl';rw[List.take_succ_eq_append_getElem hlt,Option.some.inj hl']
   obtain ⟨c0,c1,c2,c3,c4,c5,c6,c7⟩:=(HL.out.below (hG _ kZ)).cells hl;have zj:=aa (HP.out (ls.take j) l (ls.drop (j+1)) wr hsp kZ Zt);have HF:=aa hf;have Zu:=aa hl;have rO:=aa hsp;have AK:=aa iv;have xG:j+1<=9223372036854775807:=by omega
   unfold aV.agg at zj;clear hf hl hsp iv kZ Zt;go_wp2_with fail;refine zj.out.mono ?_;rintro e w1 ⟨b,rfl,hb,eR,PT⟩
   cases b with
   | true=>
    have ai:=aa (show tK G ls p Inv (.returned (.int .i64 j)) w1 from ⟨eR,.inl ⟨j,l,rfl,Zu.out,by
     have h1:=HF.out.ue (a:=l.at_) (x:=l.x) ((ls.drop (j+1)).map aV.pr) (hb.1 rfl)
     have e1:ls.map aV.pr=(ls.take j).map aV.pr++(l.at_,l.x)::(ls.drop (j+1)).map aV.pr:=by
      conv=>lhs;rw[rO.out]
      simp[aV.pr]
     rw[e1];exact h1⟩⟩)
    clear hb eR PT zj HF Zu rO AK;go_wp2_with fail;go_ret;exact ai.out
   | false=>
    have HST:=aa (show Hh G ls p Inv (gk - 1) (.int .i64 ((j+1:Nat):Int)) w1 from ⟨j+1,rfl,by omega,eR,by rw[AK.out];exact PT rfl,by rw[AK.out,List.map_append];exact HF.out.snoc (a:=l.at_) (λh=>by have:=hb.2 h;cases this)⟩);clear hb eR PT zj HF Zu rO AK;go_wp2_with fail;go_roundg (gk - 1)
    case measure=>omega
    case rel=>exact HST.out
  ·have g1:decide ((j:Int)<(ls.length:Int))=false:=decide_eq_false (by omega);have ai:=aa (show tK G ls p Inv (.returned (.int .i64 (-1))) wr from ⟨kZ,.inr ⟨rfl,by rw[List.take_of_length_le (by omega)]at hf;exact hf,by rw[List.take_of_length_le (by omega)]at Zt;exact Zt⟩⟩);clear hf kZ Zt;go_wp2_with fail;go_ret;exact ai.out
def Zv(ns:List ByteArray)(v:ByteArray)(w:World)(k:Nat)(i:Value)(wr:World):Prop:=
 ∃j:Nat,i=.int .i64 j/\j+k=ns.length/\wr=w/\∀(m:Nat) (t:ByteArray),m<j->ns[m]?=some t->t.data.toList≠v.data.toList
set_option maxRecDepth 20000 in
set_option maxHeartbeats 1000000 in
theorem Fe(B:Nat)(sv:Value)(ns:List ByteArray)(v:ByteArray)(w:World)(hr:w.ownsRow B 9 1 sv ns.length (ns.map Value.string))(hz:ns.length<=1000000):
  Calls Tryz.prog 184 #[sv,.string v] w λe w'=>w'=w/\((∃j:Nat,e=.returned (.int .i64 j)/\∃t∈ns,t.data.toList=v.data.toList)∨(e=.returned (.int .i64 (-1))/\∀t∈ns,t.data.toList≠v.data.toList)):=by
 obtain ⟨ao,cap,rfl,hao⟩:∃ao cap,sv=.slice ao ns.length cap/\(0<ns.length->∃g,ao=some ⟨g,0,none⟩):=by
  rcases hr.2 with ⟨h1,h0⟩|⟨g,cap,cur,h1,_⟩
  ·exact ⟨none,0,by rw[h1,h0],λh=>by omega⟩
  ·exact ⟨some ⟨g,0,none⟩,cap,h1,λ_=>⟨g,rfl⟩⟩
 have HR:=aa hr;have Cb:=aa hao;clear hr hao;go_enter Tryz.func184,Tryz.ntmps184;go_wp2_with fail;go_loopg [8] ns.length (λk i wr=>Zv ns v w k i wr)
 case atStart=>exact ⟨0,rfl,by omega,rfl,λm t h=>by omega⟩
 case round=>
  obtain ⟨j,rfl,hk,rfl,hall⟩:=hrel;by_cases hlt:j<ns.length
  ·have g1:decide ((j:Int)<(ns.length:Int))=true:=decide_eq_true (by omega);obtain ⟨q,rfl⟩:=Cb.out (by omega);obtain ⟨t,ht⟩:∃t,ns[j]?=some t:=⟨ns[j],List.getElem?_eq_getElem hlt⟩;have c0:=(bG HR.out (j:=j) (u:=.string t) (by rw[List.getElem?_map,ht];rfl)).1;have HT:=aa ht;have fZ:=aa hall;have xG:j+1<=9223372036854775807:=by omega
   clear ht hall;by_cases hq:t.data.toList=v.data.toList
   ·have q1:(v.toList==t.toList)=true:=by rw[ByteArray.toList_eq,ByteArray.toList_eq,hq];simp
    have q1':(t.toList==v.toList)=true:=by rw[ByteArray.toList_eq,ByteArray.toList_eq,hq];simp
    have HQ:=aa hq;clear hq;go_wp2_with fail;go_ret;exact ⟨rfl,.inl ⟨j,rfl,t,List.mem_of_getElem? HT.out,HQ.out⟩⟩
   ·have q1:(v.toList==t.toList)=false:=by rw[beq_eq_false_iff_ne,ByteArray.toList_eq,ByteArray.toList_eq];exact λe=>hq e.symm
    have q1':(t.toList==v.toList)=false:=by rw[beq_eq_false_iff_ne,ByteArray.toList_eq,ByteArray.toList_eq];exact hq
    have HQ:=aa hq;clear hq;go_wp2_with fail;go_roundg (gk - 1)
    case measure=>omega
    case rel=>
     refine ⟨j+1,rfl,by omega,rfl,λm t' hm ib=>?_⟩;rcases Nat.lt_or_ge m j with h|h
     ·exact fZ.out m t' h ib
     ·have:m=j:=by omega
      subst this;rw[HT.out]at ib;cases ib;exact HQ.out
  ·have g1:decide ((j:Int)<(ns.length:Int))=false:=decide_eq_false (by omega);have fZ:=aa hall;clear hall;go_wp2_with fail;go_ret;refine ⟨rfl,.inr ⟨rfl,λt ht=>?_⟩⟩;obtain ⟨m,hm⟩:=List.getElem?_of_mem ht;exact fZ.out m t (by have:=aw hm;omega) hm
set_option maxRecDepth 20000 in
set_option maxHeartbeats 1000000 in
theorem xo(B:Nat)(sv:Value)(ns:List ByteArray)(v:ByteArray)(w:World)(hr:w.ownsRow B 9 1 sv ns.length (ns.map Value.string))(hz:ns.length<=1000000):
  Calls Tryz.prog 150 #[sv,.string v] w λe w'=>w'=w/\∃b,e=.returned (.bool b)/\(b=true<->∃t∈ns,t.data.toList=v.data.toList):=by
 have wG:=aa (Fe B sv ns v w hr hz)
 have oq:∃ao cap,sv=.slice ao ns.length cap:=by
  rcases hr.2 with ⟨h1,h0⟩|⟨g,cap,cur,h1,_⟩
  ·exact ⟨none,0,by rw[h1,h0]⟩
  ·exact ⟨some ⟨g,0,none⟩,cap,h1⟩
 obtain ⟨ao,cap,rfl⟩:=oq;clear hr;go_enter Tryz.func150,Tryz.ntmps150;go_wp2_with fail;refine wG.out.mono ?_;rintro e w1 ⟨rfl,⟨j,rfl,ht⟩|⟨rfl,hno⟩⟩
 ·have q1:decide ((0:Int)<=(j:Int))=true:=decide_eq_true (by omega);have HT:=aa ht;clear ht;go_wp2_with fail;go_ret;exact ⟨rfl,true,rfl,⟨λ_=>HT.out,λ_=>rfl⟩⟩
 ·have HT:=aa hno;clear hno;go_wp2_with fail;go_ret;exact ⟨rfl,false,rfl,⟨λh=>(by cases h),λ⟨t,h1,h2⟩=>absurd h2 (HT.out t h1)⟩⟩
def aI(pre:List aV):List ByteArray:=pre.filterMap λl=>if l.kd=1 then some l.st else none
def GX(wC wL:World)(D:Nat->Prop)(w:World):Prop:=Below wC.heap.size wC w/\wL.heap.size<=w.heap.size/\∀b,b<wL.heap.size->¬D b->w.heap[b]?=wL.heap[b]?
structure Nr(wL:World)(N:Nat)(pre:List aV)(w:World):Prop where
 size:wL.heap.size<=w.heap.size
 keep:∀b,b<wL.heap.size->b≠N->w.heap[b]?=wL.heap[b]?
 box:∃v,w.heap[N]?=some (.cells #[v] 61 (0,0))/\w.ownsRow wL.heap.size 9 1 v (aI pre).length ((aI pre).map Value.string)
theorem ig(pre:List aV)(l:aV):aI (pre++[l])=aI pre++(if l.kd=1 then [l.st] else []):=by unfold aI;rw[List.filterMap_append];congr 1;by_cases h:l.kd=1<;>simp[h]
theorem Cu:(Tryz.prog.info? 9).map (λi=>(i.zero,i.size,i.bytes))=some (some (.string ⟨#[]⟩),1,16):=by kernel_rfl
variable {pre:List aV}
theorem JD{post:List aV}(hL:Lines wC B sv ls)(hs:ls=pre++l::post):(l.kd≠1->¬dL (pre.map aV.pr) l.x)/\(l.kd=1->(dL (pre.map aV.pr) l.x<->∃t∈aI pre,t.data.toList=l.st.data.toList)):=by
 have hl:=hL.each l (by rw[hs];simp);refine ⟨λhk h=>?_,λhk=>?_⟩
 ·obtain ⟨n,hx,_⟩:=h;rw[hx]at hl;exact hk hl.1
 ·cases hx:l.x with
  | blank=>rw[hx]at hl;have:=hl.1;omega
  | rule d o c p=>rw[hx]at hl;have:=hl.1;omega
  | state n=>
   rw[hx]at hl;obtain ⟨_,_,hn,_⟩:=hl;constructor
   ·rintro ⟨n',h1,a,h2⟩;cases h1;obtain ⟨t,ht,he⟩:=List.mem_map.1 h2;have Cc:=hL.each t (by rw[hs];exact List.mem_append_left _ ht);have hxt:t.x=.state n:=congrArg Prod.snd he;rw[hxt]at Cc;exact ⟨t.st,List.mem_filterMap.2 ⟨t,ht,by rw[if_pos Cc.1]⟩,by rw[Cc.2.2.1,hn]⟩
   ·rintro ⟨t,ht,he⟩;obtain ⟨l',hl',hh⟩:=List.mem_filterMap.1 ht;by_cases hk':l'.kd=1
    ·rw[if_pos hk']at hh;cases hh;have Cc:=hL.each l' (by rw[hs];exact List.mem_append_left _ hl');have hst:=(dM Cc).1.1 hk'
     cases DW:l'.x with
     | blank=>rw[DW]at hst;cases hst
     | rule d o c p=>rw[DW]at hst;cases hst
     | state n'=>
      rw[DW]at Cc;refine ⟨n,rfl,l'.at_,List.mem_map.2 ⟨l',hl',?_⟩⟩;have h5:n'=n:=by rw[<-Cc.2.2.1,he,hn]
      rw[aV.pr,DW,h5]
    ·rw[if_neg hk']at hh;cases hh
theorem Nr.alloc(h:Nr wL N pre w)(o:Obj):Nr wL N pre (w.alloc o):=by obtain ⟨v,hb,hrow⟩:=h.box;exact ⟨by have:=h.size;simp;omega,λb h1 h2=>(Below.heap_alloc _ _ _ (Nat.lt_of_lt_of_le h1 h.size)).trans (h.keep b h1 h2),v,heap_alloc_old hb,mR hrow o⟩
theorem Nr.push{v:Value}(h:Nr wL N pre W)(hk:l.kd=1)(hb:W.heap[N]?=some (.cells #[v] 61 (0,0)))(hrow:W.ownsRow wL.heap.size 9 1 v (aI pre).length ((aI pre).map Value.string))(hN:wC.heap.size<=N)(hNL:N<wL.heap.size)(hB:Below wC.heap.size wC W)
  (hown:w3.ownsRow wL.heap.size 9 1 v' ((aI pre).length+1) ((aI pre).map Value.string++[.string l.st])) (hg:W.grownBy w3 v.ownBlock):
  Nr wL N (pre++[l]) (w3.setCell ⟨N,0,none⟩ v')/\Below wC.heap.size wC (w3.setCell ⟨N,0,none⟩ v')/\w3.cell? ⟨N,0,none⟩=some v/\w3.frozen? ⟨N,0,none⟩=false:=by
 have hne:∀b,b<wL.heap.size->some b≠v.ownBlock:=λb hb' e=>by have:=(aj hrow e.symm).1;omega
 have h3:w3.heap[N]?=some (.cells #[v] 61 (0,0)):=(hg.block N (ae hb) (hne N hNL)).trans hb;have hsz:(w3.setCell ⟨N,0,none⟩ v').heap.size=w3.heap.size:=by simp[World.setCell]
 refine ⟨⟨by rw[hsz];exact Nat.le_trans h.size hg.size,λb h1 h2=>?_,v',heap_setCell_same w3 N 0 _ h3,?_⟩,?_,by simp[World.cell?,h3],by simp[World.frozen?,h3]⟩
 ·rw[Below.heap_setCell _ _ _ _ h2,hg.block b (Nat.lt_of_lt_of_le h1 h.size) (hne b h1)];exact h.keep b h1 h2
 ·rw[ig,if_pos hk,List.map_append,List.length_append];refine aG hown λk e=>Below.heap_setCell _ _ _ _ ?_
  rintro rfl;have:=(aj hown e).1;omega
 ·have hb3:Below wC.heap.size W w3:=⟨hg.os,hg.tape,hg.output,hg.size,λk hk'=>hg.block k (Nat.lt_of_lt_of_le hk' hB.size) (hne k (by omega))⟩;exact (hB.trans hb3).setCell hN _
set_option maxRecDepth 20000 in
set_option maxHeartbeats 1000000 in
theorem JE(wC wL:World)(B N:Nat)(sv:Value)(ls:List aV)(hL:Lines wC B sv ls)(hz:ls.length<=1000000)(hN:wC.heap.size<=N)(hNL:N<wL.heap.size):
  Ve (GX wC wL (·=N)) ls dL 149 #[.pointer (some ⟨N,0,none⟩)] (Nr wL N):=by
 rintro pre l post w hs ⟨hB,-⟩ hI;obtain ⟨Zw,X5⟩:=JD hL hs;obtain ⟨v,hb,hrow⟩:=hI.box
 have hlen:(aI pre).length<=1000000:=by
  have h1:(aI pre).length<=pre.length:=List.length_filterMap_le ..;have h2:pre.length<=ls.length:=by rw[hs];simp
  omega
 have c0:w.cell? ⟨N,0,none⟩=some v:=by simp[World.cell?,hb]
 show Calls Tryz.prog _ #[l.agg,.pointer (some ⟨N,0,none⟩)] w _;unfold aV.agg;by_cases hk:l.kd=1
 ·have q1:((l.kd:Int) != 1)=false:=by rw[hk];rfl
  have D9:=aa (xo wL.heap.size v (aI pre) l.st (w.alloc (.cells #[.int .i64 l.at_,.int .i64 l.kd,.string l.st,.int .i64 l.d,.string l.co,.slice l.ao l.ln l.cp,.int .i64 l.wh,.int .i64 l.fl] 219)) (mR hrow (.cells #[.int .i64 l.at_,.int .i64 l.kd,.string l.st,.int .i64 l.d,.string l.co,.slice l.ao l.ln l.cp,.int .i64 l.wh,.int .i64 l.fl] 219)) hlen)
  have HI:=aa (hI.alloc (.cells #[.int .i64 l.at_,.int .i64 l.kd,.string l.st,.int .i64 l.d,.string l.co,.slice l.ao l.ln l.cp,.int .i64 l.wh,.int .i64 l.fl] 219));have HB:=aa (hB.alloc hB.size (.cells #[.int .i64 l.at_,.int .i64 l.kd,.string l.st,.int .i64 l.d,.string l.co,.slice l.ao l.ln l.cp,.int .i64 l.wh,.int .i64 l.fl] 219));have HT:=aa (X5 hk);have HK:=aa hk
  have ba:=aa (mR hrow (.cells #[.int .i64 l.at_,.int .i64 l.kd,.string l.st,.int .i64 l.d,.string l.co,.slice l.ao l.ln l.cp,.int .i64 l.wh,.int .i64 l.fl] 219));have wH:=aa (heap_alloc_old (o:=(.cells #[.int .i64 l.at_,.int .i64 l.kd,.string l.st,.int .i64 l.d,.string l.co,.slice l.ao l.ln l.cp,.int .i64 l.wh,.int .i64 l.fl] 219)) hb)
  have UW:=ar c0 (.cells #[.int .i64 l.at_,.int .i64 l.kd,.string l.st,.int .i64 l.d,.string l.co,.slice l.ao l.ln l.cp,.int .i64 l.wh,.int .i64 l.fl] 219);obtain ⟨i0,hi,hz0,hz1,hz3⟩:=info_parts Cu
  obtain ⟨ao,cap,rfl⟩:∃ao cap,v=.slice ao (aI pre).length cap:=by
   rcases hrow.2 with ⟨h1,h0⟩|⟨g,cap,cur,h1,_⟩
   ·exact ⟨none,0,by rw[h1,h0]⟩
   ·exact ⟨some ⟨g,0,none⟩,cap,h1⟩
  have uZ:=aa (af w (.cells #[.int .i64 l.at_,.int .i64 l.kd,.string l.st,.int .i64 l.d,.string l.co,.slice l.ao l.ln l.cp,.int .i64 l.wh,.int .i64 l.fl] 219));clear hI hB Zw X5 hk hrow hb c0 hL hs;obtain ⟨q,hq⟩:∃q,q=w.heap.size:=⟨_,rfl⟩;go_enter Tryz.func149,Tryz.ntmps149;go_wp2_with fail;rw[<-hq]at uZ ⊢;clear hq
  generalize w.alloc (.cells #[.int .i64 l.at_,.int .i64 l.kd,.string l.st,.int .i64 l.d,.string l.co,.slice l.ao l.ln l.cp,.int .i64 l.wh,.int .i64 l.fl] 219)=W1 at *;refine D9.out.mono ?_;rintro e w1 ⟨rfl,b,rfl,hb⟩;have Bk:=aa (hb.trans HT.out.symm);have oX:=uZ.out;have d2:w1.cell? ⟨q,2,none⟩=some (.string l.st):=by simp[World.cell?,oX]
  have HKEY:=aa (λ(v':Value) (w3:World) (hown:w3.ownsRow wL.heap.size 9 1 v' ((aI pre).length+1) ((aI pre).map Value.string++[.string l.st])) (hg:(w1.alloc (.cells #[.string l.st] 9)).grownBy w3 (Value.slice ao (aI pre).length cap).ownBlock)=>Nr.push (wC:=wC) (HI.out.alloc _) HK.out (heap_alloc_old wH.out) (mR ba.out _) hN hNL (HB.out.alloc HB.out.size _) hown hg)
  have lF:=aa (mR ba.out (.cells #[.string l.st] 9));have abA:wL.heap.size<=w1.heap.size+1:=by have:=HI.out.size;omega
  clear hb oX HT D9 HI HB HK ba wH uZ
  go_wp2_with (at_builtin;refine wpList_append_own _ rfl _ _ 61 rfl wL.heap.size 9 i0 (.string ⟨#[]⟩) 1 16 Tryz.underlying61 hi hz0 hz1 hz3 rfl (by decide) (.slice ao (aI pre).length cap) (aI pre).length ((aI pre).map Value.string) rfl lF.out ⟨w1.heap.size,0,none⟩ 1 1 [.string l.st] rfl rfl (by exact aD w1 #[.string l.st] _) (by simp[Value.oneCell']) (by unfold maxLen;omega) (by omega) (by simpa using abA) ?_;intro v' w3 hown hg _;obtain ⟨k1,k2,k3,k4⟩:=HKEY.out v' w3 hown hg;obtain ⟨g',cap',rfl⟩:=az hown (by omega);have Xh:=aa k1;have Zs:=aa k2;clear hown hg k1 k2)
  go_ret;exact ⟨b,rfl,Bk.out,⟨Zs.out,Xh.out.size,Xh.out.keep⟩,λ_=>Xh.out⟩
 ·have q1:((l.kd:Int) != 1)=true:=by rw[bne_iff_ne];omega
  have HN:∀o,Nr wL N (pre++[l]) (w.alloc o):=λo=>⟨by have:=hI.size;simp;omega,λb h1 h2=>(Below.heap_alloc _ _ _ (Nat.lt_of_lt_of_le h1 hI.size)).trans (hI.keep b h1 h2),v,heap_alloc_old hb,by rw[ig,if_neg hk,List.append_nil];exact mR hrow o⟩
  have ai:=aa (λo=>show ∃b,Ending.returned (.bool false)=.returned (.bool b)/\(b=true<->dL (pre.map aV.pr) l.x)/\GX wC wL (·=N) (w.alloc o)/\(b=false->Nr wL N (pre++[l]) (w.alloc o)) from
   ⟨false,rfl,⟨λh=>(by cases h),λh=>absurd h (Zw hk)⟩,⟨hB.alloc hB.size o,(HN o).size,(HN o).keep⟩,λ_=>HN o⟩)
  clear HN;clear hI hB Zw X5 hk hrow hb;go_enter Tryz.func149,Tryz.ntmps149;go_wp2_with fail;go_ret;exact ai.out _
def Lk(pre:List aV):Nat:=((pre.map aV.pr).filter (·.2.aL)).length
def Ll(pre:List aV):Nat:=((pre.map aV.pr).filter (·.2.aY)).length
theorem Cv(pre:List aV)(l:aV):Lk (pre++[l])=Lk pre+if l.x.aL=true then 1 else 0:=by unfold Lk;rw[List.map_append,List.filter_append,List.length_append];by_cases h:l.x.aL=true<;>simp[aV.pr,h]
theorem Cw(pre:List aV)(l:aV):Ll (pre++[l])=Ll pre+if l.x.aY=true then 1 else 0:=by unfold Ll;rw[List.map_append,List.filter_append,List.length_append];by_cases h:l.x.aY=true<;>simp[aV.pr,h]
structure Xi(wL:World)(S R:Nat)(pre:List aV)(w:World):Prop where
 size:wL.heap.size<=w.heap.size
 keep:∀b,b<wL.heap.size->b≠S->b≠R->w.heap[b]?=wL.heap[b]?
 st:w.heap[S]?=some (.cells #[.int .i64 (Lk pre:Nat)] 3 (0,0))
 rl:w.heap[R]?=some (.cells #[.int .i64 (Ll pre:Nat)] 3 (0,0))
 le:Lk pre<=12/\Ll pre<=40
theorem Xi.after{S R:Nat}{a b:Int}(h:Xi wL S R pre w)(hsz:w.heap.size<=W.heap.size)(hk:∀k,k<w.heap.size->k≠S->k≠R->W.heap[k]?=w.heap[k]?)(hS:W.heap[S]?=some (.cells #[.int .i64 a] 3 (0,0)))(hR:W.heap[R]?=some (.cells #[.int .i64 b] 3 (0,0)))(ha:a=(Lk (pre++[l]):Nat))(hb:b=(Ll (pre++[l]):Nat))(hle:Lk (pre++[l])<=12/\Ll (pre++[l])<=40):Xi wL S R (pre++[l]) W:=
 ⟨Nat.le_trans h.size hsz,λk h1 h2 h3=>(hk k (Nat.lt_of_lt_of_le h1 h.size) h2 h3).trans (h.keep k h1 h2 h3),by rw[hS,ha],by rw[hR,hb],hle⟩
theorem Ns(h1:Lk pre<=12)(h2:Ll pre<=40):dA (pre.map aV.pr) l.x<->(12<Lk (pre++[l])∨40<Ll (pre++[l])):=by
 rw[Cv,Cw];unfold dA;show l.x.nb=true/\(12<Lk pre+_∨40<Ll pre+_)<->_
 cases hx:l.x with
 | blank=>simp[Ln.nb,Ln.aL,Ln.aY];omega
 | state n=>simp[Ln.nb,Ln.aL,Ln.aY]
 | rule d o c p=>simp[Ln.nb,Ln.aL,Ln.aY]
set_option maxRecDepth 20000 in
set_option maxHeartbeats 1000000 in
theorem Nt(wC wL:World)(B S R:Nat)(sv:Value)(ls:List aV)(hL:Lines wC B sv ls)(hS:wC.heap.size<=S)(hR:wC.heap.size<=R)(hne:S≠R):
  Ve (GX wC wL (λb=>b=S∨b=R)) ls dA 151 #[.pointer (some ⟨S,0,none⟩),.pointer (some ⟨R,0,none⟩)] (Xi wL S R):=by
 rintro pre l post w hs ⟨hB,-⟩ hI;have Cx:=Ns (l:=l) hI.le.1 hI.le.2;have pV:=dM (hL.each l (by rw[hs];simp));have e1:=Cv pre l;have e2:=Cw pre l;have hle:=hI.le;show Calls Tryz.prog _ #[l.agg,.pointer (some ⟨S,0,none⟩),.pointer (some ⟨R,0,none⟩)] w _;unfold aV.agg
 have ai:=aa (λ(W:World) (a b:Nat) (hb:Below wC.heap.size wC W) (hsz:w.heap.size<=W.heap.size) (hk:∀k,k<w.heap.size->k≠S->k≠R->W.heap[k]?=w.heap[k]?) (hS:W.heap[S]?=some (.cells #[.int .i64 (a:Int)] 3 (0,0))) (hR:W.heap[R]?=some (.cells #[.int .i64 (b:Int)] 3 (0,0))) (ha:a=Lk (pre++[l])) (tE:b=Ll (pre++[l]))=>show ∃x,Ending.returned (.bool (decide (12<a)||decide (40<b)))=.returned (.bool x)/\(x=true<->dA (pre.map aV.pr) l.x)/\GX wC wL (λb=>b=S∨b=R) W/\(x=false->Xi wL S R (pre++[l]) W) from
  ⟨_,rfl,by rw[Cx,<-ha,<-tE];simp,⟨hb,Nat.le_trans hI.size hsz,λk h1 h2=>(hk k (Nat.lt_of_lt_of_le h1 hI.size) (λh=>h2 (.inl h)) (λh=>h2 (.inr h))).trans (hI.keep k h1 (λh=>h2 (.inl h)) (λh=>h2 (.inr h)))⟩,λhx=>hI.after hsz hk hS hR (by rw[ha]) (by rw[tE]) (by simp at hx;omega)⟩)
 have HST:=aa (heap_alloc_old (o:=(.cells #[.int .i64 l.at_,.int .i64 l.kd,.string l.st,.int .i64 l.d,.string l.co,.slice l.ao l.ln l.cp,.int .i64 l.wh,.int .i64 l.fl] 219)) hI.st);have jd:=aa (heap_alloc_old (o:=(.cells #[.int .i64 l.at_,.int .i64 l.kd,.string l.st,.int .i64 l.d,.string l.co,.slice l.ao l.ln l.cp,.int .i64 l.wh,.int .i64 l.fl] 219)) hI.rl)
 have HB:=aa (hB.alloc hB.size (.cells #[.int .i64 l.at_,.int .i64 l.kd,.string l.st,.int .i64 l.d,.string l.co,.slice l.ao l.ln l.cp,.int .i64 l.wh,.int .i64 l.fl] 219));have IZ:=aa (λk (hk:k<w.heap.size)=>Below.heap_alloc w (.cells #[.int .i64 l.at_,.int .i64 l.kd,.string l.st,.int .i64 l.d,.string l.co,.slice l.ao l.ln l.cp,.int .i64 l.wh,.int .i64 l.fl] 219) k hk)
 obtain ⟨a,ha⟩:∃a,a=Lk pre:=⟨_,rfl⟩;obtain ⟨b,hb⟩:∃b,b=Ll pre:=⟨_,rfl⟩;rw[<-ha]at HST e1 hle;rw[<-hb]at jd e2 hle;have hst:=HST.out;have oz:=jd.out
 have s0:(w.alloc (.cells #[.int .i64 l.at_,.int .i64 l.kd,.string l.st,.int .i64 l.d,.string l.co,.slice l.ao l.ln l.cp,.int .i64 l.wh,.int .i64 l.fl] 219)).cell? ⟨S,0,none⟩=some (.int .i64 a):=by simp[World.cell?,hst]
 have r0:(w.alloc (.cells #[.int .i64 l.at_,.int .i64 l.kd,.string l.st,.int .i64 l.d,.string l.co,.slice l.ao l.ln l.cp,.int .i64 l.wh,.int .i64 l.fl] 219)).cell? ⟨R,0,none⟩=some (.int .i64 b):=by simp[World.cell?,oz]
 have sf:(w.alloc (.cells #[.int .i64 l.at_,.int .i64 l.kd,.string l.st,.int .i64 l.d,.string l.co,.slice l.ao l.ln l.cp,.int .i64 l.wh,.int .i64 l.fl] 219)).frozen? ⟨S,0,none⟩=false:=by simp[World.frozen?,hst]
 have rf:(w.alloc (.cells #[.int .i64 l.at_,.int .i64 l.kd,.string l.st,.int .i64 l.d,.string l.co,.slice l.ao l.ln l.cp,.int .i64 l.wh,.int .i64 l.fl] 219)).frozen? ⟨R,0,none⟩=false:=by simp[World.frozen?,oz]
 have abB:R≠S:=Ne.symm hne;have ha1:a+1<=9223372036854775807:=by omega
 have hb1:b+1<=9223372036854775807:=by omega
 obtain ⟨adb,ade⟩:=hle;clear hst oz;have HW:Hid (∀(W:World),W=w.alloc (.cells #[.int .i64 l.at_,.int .i64 l.kd,.string l.st,.int .i64 l.d,.string l.co,.slice l.ao l.ln l.cp,.int .i64 l.wh,.int .i64 l.fl] 219)->w.heap.size<=W.heap.size/\∀k,k<w.heap.size->W.heap[k]?=w.heap[k]?):=λW hW=>by subst hW;exact ⟨by simp,λk hk=>IZ.out k hk⟩
 by_cases eJ:l.kd=1
 ·have q1:((l.kd:Int)==1)=true:=by rw[eJ];rfl
  rw[if_pos (pV.1.1 eJ)]at e1;rw[if_neg (λh=>by have:=pV.2.2 h;omega)]at e2;have E1:=aa e1;have E2:=aa e2
  have kq:=aa (ai.out ((w.alloc (.cells #[.int .i64 l.at_,.int .i64 l.kd,.string l.st,.int .i64 l.d,.string l.co,.slice l.ao l.ln l.cp,.int .i64 l.wh,.int .i64 l.fl] 219)).setCell ⟨S,0,none⟩ (.int .i64 ((a+1:Nat):Int))) (a+1) b (HB.out.setCell hS _) (by simp[World.setCell]) (λk h1 h2 h3=>(Below.heap_setCell _ _ _ _ h2).trans ((HW.out _ rfl).2 k h1)) (heap_setCell_same _ S 0 _ HST.out) (by rw[Below.heap_setCell _ _ _ _ abB];exact jd.out) E1.out.symm (by rw[E2.out];omega))
  have DU:decide ((40:Int)<(b:Int))=false:=decide_eq_false (by omega);clear hI hB Cx pV e1 e2 ha hb eJ hL hs ai HW IZ HST jd HB;by_cases Zx:12<=a
  ·have q2:decide ((12:Int)<(a:Int)+1)=true:=decide_eq_true (by omega);have q3:decide (12<a+1)=true:=decide_eq_true (by omega);rw[q3,Bool.true_or]at kq;clear q3;go_enter Tryz.func151,Tryz.ntmps151;go_wp2_with fail;go_ret;exact kq.out
  ·have q2:decide ((12:Int)<(a:Int)+1)=false:=decide_eq_false (by omega);have q3:decide (12<a+1)=false:=decide_eq_false (by omega);have q4:decide (40<b)=false:=decide_eq_false (by omega);rw[q3,q4,Bool.or_false]at kq;clear q3 q4;go_enter Tryz.func151,Tryz.ntmps151;go_wp2_with fail;go_ret;exact kq.out
 ·have q1:((l.kd:Int)==1)=false:=by rw[beq_eq_false_iff_ne];omega
  rw[if_neg (λh=>eJ (pV.1.2 h))]at e1;have E1:=aa e1;have q2:decide ((12:Int)<(a:Int))=false:=decide_eq_false (by omega);have q3:decide (12<a)=false:=decide_eq_false (by omega);by_cases hk2:l.kd=2
  ·have q5:((l.kd:Int)==2)=true:=by rw[hk2];rfl
   rw[if_pos (pV.2.1 hk2)]at e2;have E2:=aa e2
   have kq:=aa (ai.out ((w.alloc (.cells #[.int .i64 l.at_,.int .i64 l.kd,.string l.st,.int .i64 l.d,.string l.co,.slice l.ao l.ln l.cp,.int .i64 l.wh,.int .i64 l.fl] 219)).setCell ⟨R,0,none⟩ (.int .i64 ((b+1:Nat):Int))) a (b+1) (HB.out.setCell hR _) (by simp[World.setCell]) (λk h1 h2 h3=>(Below.heap_setCell _ _ _ _ h3).trans ((HW.out _ rfl).2 k h1)) (by rw[Below.heap_setCell _ _ _ _ hne];exact HST.out) (heap_setCell_same _ R 0 _ jd.out) (by rw[E1.out];omega) E2.out.symm)
   rw[q3,Bool.false_or]at kq;clear hI hB Cx pV e1 e2 ha hb eJ hk2 hL hs ai HW IZ HST jd HB q3;by_cases DU:40<=b
   ·have q6:decide ((40:Int)<(b:Int)+1)=true:=decide_eq_true (by omega);have q7:decide (40<b+1)=true:=decide_eq_true (by omega);rw[q7]at kq;clear q7;go_enter Tryz.func151,Tryz.ntmps151;go_wp2_with fail;go_ret;exact kq.out
   ·have q6:decide ((40:Int)<(b:Int)+1)=false:=decide_eq_false (by omega);have q7:decide (40<b+1)=false:=decide_eq_false (by omega);rw[q7]at kq;clear q7;go_enter Tryz.func151,Tryz.ntmps151;go_wp2_with fail;go_ret;exact kq.out
  ·have q5:((l.kd:Int)==2)=false:=by rw[beq_eq_false_iff_ne];omega
   rw[if_neg (λh=>hk2 (pV.2.2 h))]at e2;have E2:=aa e2;have kq:=aa (ai.out (w.alloc (.cells #[.int .i64 l.at_,.int .i64 l.kd,.string l.st,.int .i64 l.d,.string l.co,.slice l.ao l.ln l.cp,.int .i64 l.wh,.int .i64 l.fl] 219)) a b HB.out (HW.out _ rfl).1 (λk h1 h2 h3=>(HW.out _ rfl).2 k h1) HST.out jd.out (by rw[E1.out];omega) (by rw[E2.out];omega))
   have q6:decide ((40:Int)<(b:Int))=false:=decide_eq_false (by omega);have q7:decide (40<b)=false:=decide_eq_false (by omega);rw[q3,q7,Bool.or_false]at kq;clear hI hB Cx pV e1 e2 ha hb eJ hk2 hL hs ai HW IZ HST jd HB q3 q7;go_enter Tryz.func151,Tryz.ntmps151;go_wp2_with fail;go_ret;exact kq.out
end Go.Proofs.YtgncgdkpkkdaeaaGreatDoor
