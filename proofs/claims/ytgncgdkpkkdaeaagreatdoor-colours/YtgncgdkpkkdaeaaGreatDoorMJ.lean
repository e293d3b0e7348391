import Derived.Test.YtgncgdkpkkdaeaaGreatDoorMH
import Derived.Test.YtgncgdkpkkdaeaaGreatDoorMI
namespace Go.Proofs.YtgncgdkpkkdaeaaGreatDoor
open Go.RowKit aQ
variable {B N i:Nat} {sv v':Value} {W w w3 wC wL:World}
structure aU where
 at_:Nat
 x:Ln
 kd:Nat
 d:Nat
 st:ByteArray
 co:ByteArray
 ao:Option Addr
 ln:Nat
 cp:Nat
 wh:Nat
 fl:Nat
def aU.cells(l:aU):List Value:=[.int .i64 l.at_,.int .i64 l.kd,.string l.st,.int .i64 l.d,.string l.co,.slice l.ao l.ln l.cp,.int .i64 l.wh,.int .i64 l.fl]
def aU.pr(l:aU):Nat×Ln:=(l.at_,l.x)
structure Lines(w:World)(B:Nat)(sv:Value)(ls:List aU):Prop where
 row:w.ownsRow B 219 8 sv ls.length (ls.flatMap aU.cells)
 each:∀l∈ls,fQ w B l.kd l.d l.st l.co (.slice l.ao l.ln l.cp) l.wh l.fl l.x
variable {ls:List aU}
theorem Lines.below{w':World}(h:Lines w B sv ls)(hb:Below w.heap.size w w'):Lines w' B sv ls:=
 ⟨aJ h.row λk e=>by obtain ⟨_,cur,hc⟩:=aw h.row e;exact hb.block k (ae hc),λl hl=>(h.each l hl).keep λhp=>hp.below hb⟩
variable {l:aU}
theorem Lines.push(h:Lines W B sv ls)(hB:B<=W.heap.size)(hl:fQ W B l.kd l.d l.st l.co (.slice l.ao l.ln l.cp) l.wh l.fl l.x)
  (hown:w3.ownsRow B 219 8 v' (ls.length+1) (ls.flatMap aU.cells++l.cells)) (hg:W.grownBy w3 sv.ownBlock):Lines w3 B v' (ls++[l])/\Below B W w3:=by
 have hk:∀{p:List UInt8} {lv:Value} {wh fl:Nat},eX W B p lv wh fl->eX w3 B p lv wh fl:=λhp=>hp.keep λk c t ht hh=>by
  rw[hg.block k (ae hh) (λe=>by
   obtain ⟨_,cur,hc⟩:=aw h.row e.symm;rw[hc]at hh;simp only[Option.some.injEq,Obj.cells.injEq]at hh;rcases ht with rfl|rfl|rfl
   ·exact absurd hh.2.1 (by decide)
   ·exact absurd hh.2.1 (by decide)
   ·exact absurd hh.2.1 (by decide))]
  exact hh
 refine ⟨⟨by simpa using hown,λy hy=>?_⟩,ek hB hg (λk e=>(aw h.row e).1)⟩;rcases List.mem_append.1 hy with hy|hy
 ·exact (h.each y hy).keep hk
 ·rw[List.mem_singleton.1 hy];exact hl.keep hk
theorem Il:(Tryz.prog.info? 219).map (λi=>(i.zero,i.size,i.bytes))=some (some (.agg #[.int .i64 0,.int .i64 0,.string ⟨#[]⟩,.int .i64 0,.string ⟨#[]⟩,.slice none 0 0,.int .i64 0,.int .i64 0]),8,96):=by kernel_rfl
def jw(s:List UInt8)(w:World)(e:Ending)(w':World):Prop:=
 Below w.heap.size w w'/\((∃a:Nat,e=.returned (.tuple #[.slice none 0 0,.int .i64 a,.bool false])/\rd 0 [] s=.inl a) ∨
  (∃(sv:Value) (ls:List aU),e=.returned (.tuple #[sv,.int .i64 0,.bool true])/\rd 0 [] s=.inr (ls.map aU.pr)/\Lines w' w.heap.size sv ls/\ls.length<=s.length))
structure XE(s:ByteArray)(w:World)(a:Nat)(sv:Value)(ls:List aU)(st:Bool)(wr:World):Prop where
 le:a<=s.size
 run:rd 0 [] s.data.toList=rd a (ls.map aU.pr) (rest s a)
 lines:Lines wr w.heap.size sv ls
 started:st=(ls.map aU.pr).any (·.2.aL)
 below:Below w.heap.size w wr
 few:ls.length<=a
def L1(s:ByteArray)(w:World)(k:Nat)(vl vs va:Value)(wr:World):Prop:=
 ∃(a:Nat) (ls:List aU) (st:Bool) (sv:Value),vl=sv/\vs=.bool st/\va=.int .i64 a/\a+k=s.size/\XE s w a sv ls st wr
theorem dB{kd d:Nat}{st co:ByteArray}{lv:Value}{wh fl:Nat}{x:Ln}(h:fQ w B kd d st co lv wh fl x):(kd=1<->x.aL=true)/\(kd=2<->x.aZ=true):=by
 cases x with
 | blank=>obtain ⟨rfl,_⟩:=h;simp[Ln.aL,Ln.aZ]
 | state n=>obtain ⟨rfl,_⟩:=h;simp[Ln.aL,Ln.aZ]
 | rule d' o c p=>obtain ⟨rfl,_⟩:=h;simp[Ln.aL,Ln.aZ]
set_option maxRecDepth 20000 in
set_option maxHeartbeats 2000000 in
theorem vK(s:ByteArray)(w:World)(hz:s.size<=2000)(hm:Mx w):
  Calls Tryz.prog 81 #[.string s] w (jw s.data.toList w):=by
 have HM:=aa hm;clear hm;go_enter Tryz.func81,Tryz.ntmps81;go_wp2_with fail;go_loopg [5,6,7] s.size (λk vl vs va wr=>L1 s w k vl vs va wr)
 case atStart=>exact ⟨0,[],false,_,rfl,rfl,rfl,by omega,Nat.zero_le _,by simp[rest],⟨World.ownsRow_nil _ _ _ _,λl hl=>by simp at hl⟩,rfl,Below.refl _ _,Nat.le_refl _⟩
 case round=>
  obtain ⟨a,ls,st,sv,rfl,rfl,rfl,hk,hR⟩:=hrel;have HR:=aa hR;have uZ:=hR.le;have vp:=hR.few;clear hR;by_cases hlt:a<s.size
  ·have g1:decide ((a:Int)<(s.size:Int))=true:=decide_eq_true (by omega);have PG:w.heap.size<=wr.heap.size:=HR.out.below.size;have tB:=aa (rZ (s.extract a s.size) 10 wr (by rw[ByteArray.size_extract];omega) (HM.out.below HR.out.below));go_wp2_with fail;refine tB.out.mono ?_;rintro e w1 ⟨⟨n1,rfl⟩,iN⟩;rw[cQ (Nat.le_refl _)]at iN
   have ez:=aa (show XE s w a u5 ls st (wr.drewN n1) from ⟨HR.out.le,HR.out.run,HR.out.lines.below (Below.drewN' (Below.refl _ _) n1),HR.out.started,Below.drewN' HR.out.below n1,HR.out.few⟩);clear HR tB;generalize wr.drewN n1=W1 at *
   obtain ⟨bo,b2,en,rfl,hbz,hen⟩:∃(bo b2:ByteArray) (en:Bool),e=.returned (.tuple #[.string bo,.string b2,.bool en])/\a+bo.size<=s.size/\((en=true/\rest s a=bo.data.toList++10::rest s (a+bo.size+1)/\(10:UInt8)∉bo.data.toList/\a+bo.size+1<=s.size)∨(en=false/\(10:UInt8)∉rest s a)):=by
    rcases iN with ⟨x,y,h1,h2,rfl⟩|⟨h1,rfl⟩
    ·have hl:=congrArg List.length h1;rw[aW,List.length_append,List.length_cons,aK,aK]at hl;refine ⟨x,y,true,rfl,by omega,.inl ⟨rfl,?_,h2,by omega⟩⟩;have e1:rest s (a+x.size+1)=(rest s a).drop (x.size+1):=by simp[rest,List.drop_drop,Nat.add_assoc]
     have e2:rest s (a+x.size+1)=y.data.toList:=by rw[e1,h1,show x.size+1=x.data.toList.length+1 from rfl,List.drop_append];simp
     rw[e2];exact h1
    ·refine ⟨_,_,false,rfl,by rw[ByteArray.size_extract];omega,.inr ⟨rfl,h1⟩⟩
   have nG:=aa hen;have iI:=aa (yx bo W1 (by omega) (HM.out.below ez.out.below));clear iN hen;go_wp2_with fail;refine iI.out.mono ?_;rintro e w2 ⟨fc,kd,d,wh,fl,sa,co,ao,ln,cp,ok,rfl,eA⟩;have XF:w.heap.size<=W1.heap.size:=ez.out.below.size;have cM:=aa (ez.out.below.trans (fc.mono XF));have kC:=aa (ez.out.lines.below fc);have PH:=aa fc;clear fc iI
   cases ok with
   | false=>
    have hno:cC bo.data.toList=none:=by rcases eA with ⟨h,_⟩|⟨_,h⟩;cases h;exact h
    have ai:=aa (λo=>show jw s.data.toList w (.returned (.tuple #[.slice none 0 0,.int .i64 a,.bool false])) (w2.alloc o) from ⟨cM.out.alloc cM.out.size o,.inl ⟨a,rfl,by
     rw[ez.out.run];rcases nG.out with ⟨_,h1,h2,_⟩|⟨_,h1⟩
     ·rw[h1];exact DT h2 hno
     ·refine yu (λe=>?_) h1;have:=congrArg List.length e;rw[aW]at this;simp at this;omega⟩⟩)
    clear eA hno kC ez cM PH nG
    cases st with
    | true=>
     go_wp2_with fail;exact bodyPost_ret (v:=.tuple #[.slice none 0 0,.int .i64 a,.bool false]) (by simp[results,Tryz.results81,go_sem, *]) rfl (ai.out _)
    | false=>
     cases hb1:((kd:Int)==1) with
     | true=>
      go_wp2_with fail;exact bodyPost_ret (v:=.tuple #[.slice none 0 0,.int .i64 a,.bool false]) (by simp[results,Tryz.results81,go_sem, *]) rfl (ai.out _)
     | false=>
      go_wp2_with fail;exact bodyPost_ret (v:=.tuple #[.slice none 0 0,.int .i64 a,.bool false]) (by simp[results,Tryz.results81,go_sem, *]) rfl (ai.out _)
   | true=>
    obtain ⟨x,hx,hLI⟩:∃x,cC bo.data.toList=some x/\fQ w2 W1.heap.size kd d sa co (.slice ao ln cp) wh fl x:=by rcases eA with ⟨_,h⟩|⟨h,_⟩;exact h;cases h
    have HX:=aa hx;have GZ:=aa (hLI.keep (B:=W1.heap.size) (w':=w2) λhp=>hp);clear eA hx hLI
    cases en with
    | false=>
     have ai:=aa (λo=>show jw s.data.toList w (.returned (.tuple #[.slice none 0 0,.int .i64 a,.bool false])) (w2.alloc o) from ⟨cM.out.alloc cM.out.size o,.inl ⟨a,rfl,by
      rw[ez.out.run];rcases nG.out with ⟨h0,_⟩|⟨_,h1⟩
      ·cases h0
      ·refine yu (λe=>?_) h1;have:=congrArg List.length e;rw[aW]at this;simp at this;omega⟩⟩)
     clear HX GZ kC ez cM PH nG
     cases st with
     | true=>
      go_wp2_with fail;exact bodyPost_ret (v:=.tuple #[.slice none 0 0,.int .i64 a,.bool false]) (by simp[results,Tryz.results81,go_sem, *]) rfl (ai.out _)
     | false=>
      cases hb1:((kd:Int)==1) with
      | true=>
       go_wp2_with fail;exact bodyPost_ret (v:=.tuple #[.slice none 0 0,.int .i64 a,.bool false]) (by simp[results,Tryz.results81,go_sem, *]) rfl (ai.out _)
      | false=>
       go_wp2_with fail;exact bodyPost_ret (v:=.tuple #[.slice none 0 0,.int .i64 a,.bool false]) (by simp[results,Tryz.results81,go_sem, *]) rfl (ai.out _)
    | true=>
     obtain ⟨ey,hk2⟩:=dB GZ.out;have hen:rest s a=bo.data.toList++10::rest s (a+bo.size+1)/\(10:UInt8)∉bo.data.toList/\a+bo.size+1<=s.size:=by rcases nG.out with ⟨_,h⟩|⟨h,_⟩;exact h;cases h
     have Im:=ez.out.started;by_cases PI:kd=2/\st=false
     ·obtain ⟨hkd,rfl⟩:=PI;have hb1:((kd:Int)==1)=false:=by rw[hkd];rfl
      have hb2:((kd:Int)==2)=true:=by rw[hkd];rfl
      have ai:=aa (λo=>show jw s.data.toList w (.returned (.tuple #[.slice none 0 0,.int .i64 a,.bool false])) (w2.alloc o) from ⟨cM.out.alloc cM.out.size o,.inl ⟨a,rfl,by rw[ez.out.run,hen.1];exact AZ hen.2.1 HX.out (hk2.1 hkd) Im.symm⟩⟩)
      clear HX GZ kC ez cM PH nG hen ey hk2 Im hkd;go_wp2_with fail;exact bodyPost_ret (v:=.tuple #[.slice none 0 0,.int .i64 a,.bool false]) (by simp[results,Tryz.results81,go_sem, *]) rfl (ai.out _)
     ·have haz:a+bo.size+1<=9223372036854775807:=by omega
      obtain ⟨k',hk'⟩:∃k',gk=k'+(bo.size+1):=⟨gk - (bo.size+1),by omega⟩;obtain ⟨i0,hi,hz0,hz1,hz3⟩:=info_parts Il
      have KD:=aa (show Below w2.heap.size w2 ((w2.alloc (.cells #[.int .i64 a,.int .i64 kd,.string sa,.int .i64 d,.string co,.slice ao ln cp,.int .i64 wh,.int .i64 fl] 219)).alloc (.cells #[.int .i64 a,.int .i64 kd,.string sa,.int .i64 d,.string co,.slice ao ln cp,.int .i64 wh,.int .i64 fl] 219)) from ((Below.refl _ _).alloc (Nat.le_refl _) _).alloc (by simp) _)
      have HKEY:=aa (show ∀v' w3 (kA:Bool),kA=(st||x.aL)->w3.ownsRow w.heap.size 219 8 v' (ls.length+1) (ls.flatMap aU.cells++[.int .i64 a,.int .i64 kd,.string sa,.int .i64 d,.string co,.slice ao ln cp,.int .i64 wh,.int .i64 fl])->((w2.alloc (.cells #[.int .i64 a,.int .i64 kd,.string sa,.int .i64 d,.string co,.slice ao ln cp,.int .i64 wh,.int .i64 fl] 219)).alloc (.cells #[.int .i64 a,.int .i64 kd,.string sa,.int .i64 d,.string co,.slice ao ln cp,.int .i64 wh,.int .i64 fl] 219)).grownBy w3 u5.ownBlock->L1 s w k' v' (.bool kA) (.int .i64 ((a+(bo.size+1):Nat):Int)) w3 from λv' w3 kA hst hown hg=>by
       obtain ⟨h1,h2⟩:=Lines.push (l:=⟨a,x,kd,d,sa,co,ao,ln,cp,wh,fl⟩) (kC.out.below KD.out) (Nat.le_trans cM.out.size KD.out.size) ((GZ.out.keep (w':=w2) λhp=>hp).keep (w':=(w2.alloc (.cells #[.int .i64 a,.int .i64 kd,.string sa,.int .i64 d,.string co,.slice ao ln cp,.int .i64 wh,.int .i64 fl] 219)).alloc (.cells #[.int .i64 a,.int .i64 kd,.string sa,.int .i64 d,.string co,.slice ao ln cp,.int .i64 wh,.int .i64 fl] 219)) (λhp=>hp.below KD.out) |> λhh=>by
        cases x with
        | blank=>exact hh
        | state n=>exact hh
        | rule d' o c p=>exact ⟨hh.1,hh.2.1,hh.2.2.1,hh.2.2.2.1,hh.2.2.2.2.1,hh.2.2.2.2.2.mono XF⟩) hown hg
       refine ⟨a+(bo.size+1),ls++[⟨a,x,kd,d,sa,co,ao,ln,cp,wh,fl⟩],kA,v',rfl,rfl,rfl,by omega,by omega,?_,h1,?_,cM.out.trans ((KD.out.mono cM.out.size).trans h2),by simp;omega⟩
       ·rw[ez.out.run,hen.1,rY hen.2.1 HX.out (λhc=>PI ⟨hk2.2 hc.1,by rw[Im];exact hc.2⟩),List.map_append];rfl
       ·rw[hst,Im,List.map_append,List.any_append];simp[aU.pr])
      have bE:=aa (show ((w2.alloc (.cells #[.int .i64 a,.int .i64 kd,.string sa,.int .i64 d,.string co,.slice ao ln cp,.int .i64 wh,.int .i64 fl] 219)).alloc (.cells #[.int .i64 a,.int .i64 kd,.string sa,.int .i64 d,.string co,.slice ao ln cp,.int .i64 wh,.int .i64 fl] 219)).ownsRow w.heap.size 219 8 u5 ls.length (ls.flatMap aU.cells) from (kC.out.below KD.out).row)
      have fp:=aa (show ∀j u,([.int .i64 a,.int .i64 kd,.string sa,.int .i64 d,.string co,.slice ao ln cp,.int .i64 wh,.int .i64 fl]:List Value)[j]?=some u->((w2.alloc (.cells #[.int .i64 a,.int .i64 kd,.string sa,.int .i64 d,.string co,.slice ao ln cp,.int .i64 wh,.int .i64 fl] 219)).alloc (.cells #[.int .i64 a,.int .i64 kd,.string sa,.int .i64 d,.string co,.slice ao ln cp,.int .i64 wh,.int .i64 fl] 219)).cell? ((⟨w2.heap.size+1,0,none⟩:Addr).add j)=some u from λj u hj=>by
       have:=aF (w2.alloc (.cells #[.int .i64 a,.int .i64 kd,.string sa,.int .i64 d,.string co,.slice ao ln cp,.int .i64 wh,.int .i64 fl] 219)) #[.int .i64 a,.int .i64 kd,.string sa,.int .i64 d,.string co,.slice ao ln cp,.int .i64 wh,.int .i64 fl] 219 j u hj;simpa using this)
      have HO:Hid (∀u∈([.int .i64 a,.int .i64 kd,.string sa,.int .i64 d,.string co,.slice ao ln cp,.int .i64 wh,.int .i64 fl]:List Value),u.oneCell'=true):=by intro u hu;simp only[List.mem_cons,List.not_mem_nil,or_false]at hu;rcases hu with rfl|rfl|rfl|rfl|rfl|rfl|rfl|rfl<;>rfl
      have hb1:ls.length+1<=maxLen:=by unfold maxLen;omega
      have oH:(ls.length+1)*96<=140737488355328:=by omega
      have vL:w.heap.size<=w2.heap.size+2:=by have:=cM.out.size;omega
      have Da:=aa Im;have yq:=aa PI;have Vm:=aa ey;have XG:=aa hk2;clear HX GZ kC ez cM PH nG hen Im PI ey hk2 KD HM
      cases st with
      | true=>
       have Bh:=aa (show true=(true||x.aL) from rfl)
       cases hb2:((kd:Int)==2) with
       | true=>
        go_wp2_with (at_builtin;refine wpList_append_own _ rfl (.tmp 54) (.tmp 56) 153 rfl w.heap.size 219 i0 (.agg #[.int .i64 0,.int .i64 0,.string ⟨#[]⟩,.int .i64 0,.string ⟨#[]⟩,.slice none 0 0,.int .i64 0,.int .i64 0]) 8 96 Tryz.underlying153 hi hz0 hz1 hz3 rfl (by decide) u5 ls.length (ls.flatMap aU.cells) rfl bE.out ⟨w2.heap.size+1,0,none⟩ 1 1 [.int .i64 a,.int .i64 kd,.string sa,.int .i64 d,.string co,.slice ao ln cp,.int .i64 wh,.int .i64 fl] rfl rfl fp.out HO.out hb1 oH (by simpa using vL) ?_;intro v' w3 hown hg _;have HST:=aa (HKEY.out v' w3 true (by first|exact Bh.out|rfl) hown hg);obtain ⟨g',cap',rfl⟩:=aC hown (by omega);clear hown hg)
        go_roundg k'
        case measure=>omega
        case rel=>exact HST.out
       | false=>
        go_wp2_with (at_builtin;refine wpList_append_own _ rfl (.tmp 54) (.tmp 56) 153 rfl w.heap.size 219 i0 (.agg #[.int .i64 0,.int .i64 0,.string ⟨#[]⟩,.int .i64 0,.string ⟨#[]⟩,.slice none 0 0,.int .i64 0,.int .i64 0]) 8 96 Tryz.underlying153 hi hz0 hz1 hz3 rfl (by decide) u5 ls.length (ls.flatMap aU.cells) rfl bE.out ⟨w2.heap.size+1,0,none⟩ 1 1 [.int .i64 a,.int .i64 kd,.string sa,.int .i64 d,.string co,.slice ao ln cp,.int .i64 wh,.int .i64 fl] rfl rfl fp.out HO.out hb1 oH (by simpa using vL) ?_;intro v' w3 hown hg _;have HST:=aa (HKEY.out v' w3 true (by first|exact Bh.out|rfl) hown hg);obtain ⟨g',cap',rfl⟩:=aC hown (by omega);clear hown hg)
        go_roundg k'
        case measure=>omega
        case rel=>exact HST.out
      | false=>
       have ab4:((kd:Int)==2)=false:=by rw[beq_eq_false_iff_ne];intro e;exact yq.out ⟨by omega,rfl⟩
       by_cases PJ:kd=1
       ·have CI:((kd:Int)==1)=true:=by rw[PJ];rfl
        have Bh:=aa (show true=(false||x.aL) by rw[Vm.out.1 PJ];rfl);clear PJ
        go_wp2_with (at_builtin;refine wpList_append_own _ rfl (.tmp 54) (.tmp 56) 153 rfl w.heap.size 219 i0 (.agg #[.int .i64 0,.int .i64 0,.string ⟨#[]⟩,.int .i64 0,.string ⟨#[]⟩,.slice none 0 0,.int .i64 0,.int .i64 0]) 8 96 Tryz.underlying153 hi hz0 hz1 hz3 rfl (by decide) u5 ls.length (ls.flatMap aU.cells) rfl bE.out ⟨w2.heap.size+1,0,none⟩ 1 1 [.int .i64 a,.int .i64 kd,.string sa,.int .i64 d,.string co,.slice ao ln cp,.int .i64 wh,.int .i64 fl] rfl rfl fp.out HO.out hb1 oH (by simpa using vL) ?_;intro v' w3 hown hg _;have HST:=aa (HKEY.out v' w3 true (by first|exact Bh.out|rfl) hown hg);obtain ⟨g',cap',rfl⟩:=aC hown (by omega);clear hown hg)
        go_roundg k'
        case measure=>omega
        case rel=>exact HST.out
       ·have CI:((kd:Int)==1)=false:=by rw[beq_eq_false_iff_ne];omega
        have Bh:=aa (show false=(false||x.aL) by
         cases Ww:x.aL with
         | true=>exact absurd (Vm.out.2 Ww) PJ
         | false=>rfl)
        go_wp2_with (at_builtin;refine wpList_append_own _ rfl (.tmp 54) (.tmp 56) 153 rfl w.heap.size 219 i0 (.agg #[.int .i64 0,.int .i64 0,.string ⟨#[]⟩,.int .i64 0,.string ⟨#[]⟩,.slice none 0 0,.int .i64 0,.int .i64 0]) 8 96 Tryz.underlying153 hi hz0 hz1 hz3 rfl (by decide) u5 ls.length (ls.flatMap aU.cells) rfl bE.out ⟨w2.heap.size+1,0,none⟩ 1 1 [.int .i64 a,.int .i64 kd,.string sa,.int .i64 d,.string co,.slice ao ln cp,.int .i64 wh,.int .i64 fl] rfl rfl fp.out HO.out hb1 oH (by simpa using vL) ?_;intro v' w3 hown hg _;have HST:=aa (HKEY.out v' w3 false (by first|exact Bh.out|rfl) hown hg);obtain ⟨g',cap',rfl⟩:=aC hown (by omega);clear hown hg)
        go_roundg k'
        case measure=>omega
        case rel=>exact HST.out
  ·have g1:decide ((a:Int)<(s.size:Int))=false:=decide_eq_false (by omega);have ai:=aa (show jw s.data.toList w (.returned (.tuple #[u5,.int .i64 0,.bool true])) wr from ⟨HR.out.below,.inr ⟨u5,ls,rfl,by rw[HR.out.run,dg (by omega),LO],HR.out.lines,by rw[aK];omega⟩⟩);clear HR;go_wp2_with fail
   exact bodyPost_ret (v:=.tuple #[u5,.int .i64 0,.bool true]) (by simp[results,Tryz.results81,go_sem, *]) rfl ai.out
def aU.agg(l:aU):Value:=.agg #[.int .i64 l.at_,.int .i64 l.kd,.string l.st,.int .i64 l.d,.string l.co,.slice l.ao l.ln l.cp,.int .i64 l.wh,.int .i64 l.fl]
theorem Bi(h:ls[i]?=some l)(j:Nat)(hj:j<8):(ls.flatMap aU.cells)[i*8+j]?=l.cells[j]?:=by
 induction ls generalizing i with
 | nil=>simp at h
 | cons a t ih=>
  cases i with
  | zero=>
   simp only[List.getElem?_cons_zero,Option.some.injEq]at h;subst h;simp only[List.flatMap_cons];rw[List.getElem?_append_left (by simp[aU.cells];omega)];simp
  | succ i=>
   simp only[List.getElem?_cons_succ]at h;have:=ih h;simp only[List.flatMap_cons];rw[List.getElem?_append_right (by simp[aU.cells];omega),<-this];congr 1;simp[aU.cells];omega
theorem Lines.form(h:Lines w B sv ls):∃ao cap,sv=.slice ao ls.length cap/\(0<ls.length->∃g,ao=some ⟨g,0,none⟩):=by
 rcases h.row.2 with ⟨h1,h0⟩|⟨g,cap,cur,h1,_⟩
 ·exact ⟨none,0,by rw[h1,h0],λh=>by omega⟩
 ·exact ⟨some ⟨g,0,none⟩,cap,h1,λ_=>⟨g,rfl⟩⟩
theorem Lines.cells{g n cap:Nat}(h:Lines w B (.slice (some ⟨g,0,none⟩) n cap) ls)(hi:ls[i]?=some l):
  w.cell? ⟨g,i*8,none⟩=some (.int .i64 l.at_)/\w.cell? ⟨g,i*8+1,none⟩=some (.int .i64 l.kd)/\w.cell? ⟨g,i*8+2,none⟩=some (.string l.st)/\w.cell? ⟨g,i*8+3,none⟩=some (.int .i64 l.d)/\w.cell? ⟨g,i*8+4,none⟩=some (.string l.co)/\w.cell? ⟨g,i*8+5,none⟩=some (.slice l.ao l.ln l.cp)/\w.cell? ⟨g,i*8+6,none⟩=some (.int .i64 l.wh)/\w.cell? ⟨g,i*8+7,none⟩=some (.int .i64 l.fl):=by
 have hn:n=ls.length:=by
  rcases h.row.2 with ⟨h0,_⟩|⟨g',cap',cur,e1,_⟩
  ·cases h0
  ·cases e1;rfl
 subst hn;have f:=λj (hj:j<8) (u:Value) (hu:l.cells[j]?=some u)=>(bU h.row (show (ls.flatMap aU.cells)[i*8+j]?=some u by rw[Bi hi j hj];exact hu)).1
 exact ⟨f 0 (by omega) _ rfl,f 1 (by omega) _ rfl,f 2 (by omega) _ rfl,f 3 (by omega) _ rfl,f 4 (by omega) _ rfl,f 5 (by omega) _ rfl,f 6 (by omega) _ rfl,f 7 (by omega) _ rfl⟩
def Ty(G:World->Prop)(ls:List aU)(p:cK->Ln->Prop)(g:Nat)(lb:Array Value)(Inv:List aU->World->Prop):Prop:=
 ∀pre l post w,ls=pre++l::post->G w->Inv pre w->Calls Tryz.prog g (#[l.agg]++lb) w λe w'=>∃b,e=.returned (.bool b)/\(b=true<->p (pre.map aU.pr) l.x)/\G w'/\(b=false->Inv (pre++[l]) w')
def r9(G:World->Prop)(ls:List aU)(p:cK->Ln->Prop)(Inv:List aU->World->Prop)(e:Ending)(w':World):Prop:=
 G w'/\((∃(j:Nat) (l:aU),e=.returned (.int .i64 j)/\ls[j]?=some l/\dF p [] (ls.map aU.pr) (some l.at_))∨(e=.returned (.int .i64 (-1))/\dF p [] (ls.map aU.pr) none/\Inv ls w'))
def FY(G:World->Prop)(ls:List aU)(p:cK->Ln->Prop)(Inv:List aU->World->Prop)(k:Nat)(i:Value)(wr:World):Prop:=
 ∃j:Nat,i=.int .i64 j/\j+k=ls.length/\G wr/\Inv (ls.take j) wr/\dF p [] ((ls.take j).map aU.pr) none
set_option maxRecDepth 20000 in
set_option maxHeartbeats 2000000 in
theorem dC(wC:World)(B:Nat)(sv:Value)(ls:List aU)(p:cK->Ln->Prop)(g:Nat)(lb:Array Value)(Inv:List aU->World->Prop)(w:World)(hL:Lines wC B sv ls)(G:World->Prop)(hG:∀w,G w->Below wC.heap.size wC w)(hP:Ty G ls p g lb Inv)(he:Enters g)(hB:G w)(hI:Inv [] w)(hz:ls.length<=1000000):
  Calls Tryz.prog 115 #[sv,.func (.func g) #[] lb] w (r9 G ls p Inv):=by
 obtain ⟨ao,cap,rfl,hao⟩:=hL.form;have HL:=aa hL;have HP:=aa hP;have HB:=aa hB;have HI:=aa hI;have AW:=aa hao;unfold Enters at he;clear hL hP hB hI hao;go_enter Tryz.func115,Tryz.ntmps115;go_wp2_with fail;go_loopg [8] ls.length (λk i wr=>FY G ls p Inv k i wr)
 case atStart=>exact ⟨0,rfl,by omega,HB.out,HI.out,.nil⟩
 case round=>
  obtain ⟨j,rfl,hk,kz,XH,hf⟩:=hrel;by_cases hlt:j<ls.length
  ·have g1:decide ((j:Int)<(ls.length:Int))=true:=decide_eq_true (by omega);obtain ⟨q,rfl⟩:=AW.out (by omega);obtain ⟨l,hl⟩:∃l,ls[j]?=some l:=⟨ls[j],List.getElem?_eq_getElem hlt⟩;have hsp:ls=ls.take j++l::ls.drop (j+1):=by have hl':=hl;rw[List.getElem?_eq_getElem hlt]at hl';rw[<-Option.some.inj hl',<-List.drop_eq_getElem_cons hlt,List.take_append_drop]
   have gX:ls.take (j+1)=ls.take j++[l]:=by have hl':=hl;rw[List.getElem?_eq_getElem hlt]at hl';rw[List.take_succ_eq_append_getElem hlt,Option.some.inj hl']
   obtain ⟨c0,c1,c2,c3,c4,c5,c6,c7⟩:=(HL.out.below (hG _ kz)).cells hl;have x9:=aa (HP.out (ls.take j) l (ls.drop (j+1)) wr hsp kz XH);have HF:=aa hf;have HLL:=aa hl;have qE:=aa hsp;have zA:=aa gX;have wy:j+1<=9223372036854775807:=by omega
   unfold aU.agg at x9;clear hf hl hsp gX kz XH;go_wp2_with fail;refine x9.out.mono ?_;rintro e w1 ⟨b,rfl,hb,eF,Ok⟩
   cases b with
   | true=>
    have ai:=aa (show r9 G ls p Inv (.returned (.int .i64 j)) w1 from ⟨eF,.inl ⟨j,l,rfl,HLL.out,by
     have h1:=HF.out.sO (a:=l.at_) (x:=l.x) ((ls.drop (j+1)).map aU.pr) (hb.1 rfl)
     have e1:ls.map aU.pr=(ls.take j).map aU.pr++(l.at_,l.x)::(ls.drop (j+1)).map aU.pr:=by
      conv=>lhs;rw[qE.out]
      simp[aU.pr]
     rw[e1];exact h1⟩⟩)
    clear hb eF Ok x9 HF HLL qE zA;go_wp2_with fail;go_ret;exact ai.out
   | false=>
    have HST:=aa (show FY G ls p Inv (gk - 1) (.int .i64 ((j+1:Nat):Int)) w1 from ⟨j+1,rfl,by omega,eF,by rw[zA.out];exact Ok rfl,by rw[zA.out,List.map_append];exact HF.out.snoc (a:=l.at_) (λh=>by have:=hb.2 h;cases this)⟩);clear hb eF Ok x9 HF HLL qE zA;go_wp2_with fail;go_roundg (gk - 1)
    case measure=>omega
    case rel=>exact HST.out
  ·have g1:decide ((j:Int)<(ls.length:Int))=false:=decide_eq_false (by omega);have ai:=aa (show r9 G ls p Inv (.returned (.int .i64 (-1))) wr from ⟨kz,.inr ⟨rfl,by rw[List.take_of_length_le (by omega)]at hf;exact hf,by rw[List.take_of_length_le (by omega)]at XH;exact XH⟩⟩);clear hf kz XH;go_wp2_with fail;go_ret;exact ai.out
def XI(ns:List ByteArray)(v:ByteArray)(w:World)(k:Nat)(i:Value)(wr:World):Prop:=
 ∃j:Nat,i=.int .i64 j/\j+k=ns.length/\wr=w/\∀(m:Nat) (t:ByteArray),m<j->ns[m]?=some t->t.data.toList≠v.data.toList
set_option maxRecDepth 20000 in
set_option maxHeartbeats 1000000 in
theorem D7(B:Nat)(sv:Value)(ns:List ByteArray)(v:ByteArray)(w:World)(hr:w.ownsRow B 9 1 sv ns.length (ns.map Value.string))(hz:ns.length<=1000000):
  Calls Tryz.prog 184 #[sv,.string v] w λe w'=>w'=w/\((∃j:Nat,e=.returned (.int .i64 j)/\∃t∈ns,t.data.toList=v.data.toList)∨(e=.returned (.int .i64 (-1))/\∀t∈ns,t.data.toList≠v.data.toList)):=by
 obtain ⟨ao,cap,rfl,hao⟩:∃ao cap,sv=.slice ao ns.length cap/\(0<ns.length->∃g,ao=some ⟨g,0,none⟩):=by
  rcases hr.2 with ⟨h1,h0⟩|⟨g,cap,cur,h1,_⟩
  ·exact ⟨none,0,by rw[h1,h0],λh=>by omega⟩
  ·exact ⟨some ⟨g,0,none⟩,cap,h1,λ_=>⟨g,rfl⟩⟩
 have HR:=aa hr;have AW:=aa hao;clear hr hao;go_enter Tryz.func184,Tryz.ntmps184;go_wp2_with fail;go_loopg [8] ns.length (λk i wr=>XI ns v w k i wr)
 case atStart=>exact ⟨0,rfl,by omega,rfl,λm t h=>by omega⟩
 case round=>
  obtain ⟨j,rfl,hk,rfl,hall⟩:=hrel;by_cases hlt:j<ns.length
  ·have g1:decide ((j:Int)<(ns.length:Int))=true:=decide_eq_true (by omega);obtain ⟨q,rfl⟩:=AW.out (by omega);obtain ⟨t,ht⟩:∃t,ns[j]?=some t:=⟨ns[j],List.getElem?_eq_getElem hlt⟩;have c0:=(bU HR.out (j:=j) (u:=.string t) (by rw[List.getElem?_map,ht];rfl)).1;have HT:=aa ht;have fP:=aa hall;have wy:j+1<=9223372036854775807:=by omega
   clear ht hall;by_cases hq:t.data.toList=v.data.toList
   ·have q1:(v.toList==t.toList)=true:=by rw[ByteArray.toList_eq,ByteArray.toList_eq,hq];simp
    have q1':(t.toList==v.toList)=true:=by rw[ByteArray.toList_eq,ByteArray.toList_eq,hq];simp
    have HQ:=aa hq;clear hq;go_wp2_with fail;go_ret;exact ⟨rfl,.inl ⟨j,rfl,t,List.mem_of_getElem? HT.out,HQ.out⟩⟩
   ·have q1:(v.toList==t.toList)=false:=by rw[beq_eq_false_iff_ne,ByteArray.toList_eq,ByteArray.toList_eq];exact λe=>hq e.symm
    have q1':(t.toList==v.toList)=false:=by rw[beq_eq_false_iff_ne,ByteArray.toList_eq,ByteArray.toList_eq];exact hq
    have HQ:=aa hq;clear hq;go_wp2_with fail;go_roundg (gk - 1)
    case measure=>omega
    case rel=>
     refine ⟨j+1,rfl,by omega,rfl,λm t' hm gJ=>?_⟩;rcases Nat.lt_or_ge m j with h|h
     ·exact fP.out m t' h gJ
     ·have:m=j:=by omega
      subst this;rw[HT.out]at gJ;cases gJ;exact HQ.out
  ·have g1:decide ((j:Int)<(ns.length:Int))=false:=decide_eq_false (by omega);have fP:=aa hall;clear hall;go_wp2_with fail;go_ret;refine ⟨rfl,.inr ⟨rfl,λt ht=>?_⟩⟩;obtain ⟨m,hm⟩:=List.getElem?_of_mem ht;exact fP.out m t (by have:=au hm;omega) hm
set_option maxRecDepth 20000 in
set_option maxHeartbeats 1000000 in
theorem vM(B:Nat)(sv:Value)(ns:List ByteArray)(v:ByteArray)(w:World)(hr:w.ownsRow B 9 1 sv ns.length (ns.map Value.string))(hz:ns.length<=1000000):
  Calls Tryz.prog 150 #[sv,.string v] w λe w'=>w'=w/\∃b,e=.returned (.bool b)/\(b=true<->∃t∈ns,t.data.toList=v.data.toList):=by
 have uT:=aa (D7 B sv ns v w hr hz)
 have rB:∃ao cap,sv=.slice ao ns.length cap:=by
  rcases hr.2 with ⟨h1,h0⟩|⟨g,cap,cur,h1,_⟩
  ·exact ⟨none,0,by rw[h1,h0]⟩
  ·exact ⟨some ⟨g,0,none⟩,cap,h1⟩
 obtain ⟨ao,cap,rfl⟩:=rB;clear hr;go_enter Tryz.func150,Tryz.ntmps150;go_wp2_with fail;refine uT.out.mono ?_;rintro e w1 ⟨rfl,⟨j,rfl,ht⟩|⟨rfl,hno⟩⟩
 ·have q1:decide ((0:Int)<=(j:Int))=true:=decide_eq_true (by omega);have HT:=aa ht;clear ht;go_wp2_with fail;go_ret;exact ⟨rfl,true,rfl,⟨λ_=>HT.out,λ_=>rfl⟩⟩
 ·have HT:=aa hno;clear hno;go_wp2_with fail;go_ret;exact ⟨rfl,false,rfl,⟨λh=>(by cases h),λ⟨t,h1,h2⟩=>absurd h2 (HT.out t h1)⟩⟩
def aG(pre:List aU):List ByteArray:=pre.filterMap λl=>if l.kd=1 then some l.st else none
def GX(wC wL:World)(D:Nat->Prop)(w:World):Prop:=Below wC.heap.size wC w/\wL.heap.size<=w.heap.size/\∀b,b<wL.heap.size->¬D b->w.heap[b]?=wL.heap[b]?
structure L3(wL:World)(N:Nat)(pre:List aU)(w:World):Prop where
 size:wL.heap.size<=w.heap.size
 keep:∀b,b<wL.heap.size->b≠N->w.heap[b]?=wL.heap[b]?
 box:∃v,w.heap[N]?=some (.cells #[v] 61 (0,0))/\w.ownsRow wL.heap.size 9 1 v (aG pre).length ((aG pre).map Value.string)
theorem gO(pre:List aU)(l:aU):aG (pre++[l])=aG pre++(if l.kd=1 then [l.st] else []):=by unfold aG;rw[List.filterMap_append];congr 1;by_cases h:l.kd=1<;>simp[h]
theorem Bj:(Tryz.prog.info? 9).map (λi=>(i.zero,i.size,i.bytes))=some (some (.string ⟨#[]⟩),1,16):=by kernel_rfl
variable {pre:List aU}
theorem Io{post:List aU}(hL:Lines wC B sv ls)(hs:ls=pre++l::post):(l.kd≠1->¬dG (pre.map aU.pr) l.x)/\(l.kd=1->(dG (pre.map aU.pr) l.x<->∃t∈aG pre,t.data.toList=l.st.data.toList)):=by
 have hl:=hL.each l (by rw[hs];simp);refine ⟨λhk h=>?_,λhk=>?_⟩
 ·obtain ⟨n,hx,_⟩:=h;rw[hx]at hl;exact hk hl.1
 ·cases hx:l.x with
  | blank=>rw[hx]at hl;have:=hl.1;omega
  | rule d o c p=>rw[hx]at hl;have:=hl.1;omega
  | state n=>
   rw[hx]at hl;obtain ⟨_,_,hn,_⟩:=hl;constructor
   ·rintro ⟨n',h1,a,h2⟩;cases h1;obtain ⟨t,ht,he⟩:=List.mem_map.1 h2;have AX:=hL.each t (by rw[hs];exact List.mem_append_left _ ht);have hxt:t.x=.state n:=congrArg Prod.snd he;rw[hxt]at AX;exact ⟨t.st,List.mem_filterMap.2 ⟨t,ht,by rw[if_pos AX.1]⟩,by rw[AX.2.2.1,hn]⟩
   ·rintro ⟨t,ht,he⟩;obtain ⟨l',hl',hh⟩:=List.mem_filterMap.1 ht;by_cases hk':l'.kd=1
    ·rw[if_pos hk']at hh;cases hh;have AX:=hL.each l' (by rw[hs];exact List.mem_append_left _ hl');have hst:=(dB AX).1.1 hk'
     cases CO:l'.x with
     | blank=>rw[CO]at hst;cases hst
     | rule d o c p=>rw[CO]at hst;cases hst
     | state n'=>
      rw[CO]at AX;refine ⟨n,rfl,l'.at_,List.mem_map.2 ⟨l',hl',?_⟩⟩;have h5:n'=n:=by rw[<-AX.2.2.1,he,hn]
      rw[aU.pr,CO,h5]
    ·rw[if_neg hk']at hh;cases hh
theorem L3.alloc(h:L3 wL N pre w)(o:Obj):L3 wL N pre (w.alloc o):=by obtain ⟨v,hb,hrow⟩:=h.box;exact ⟨by have:=h.size;simp;omega,λb h1 h2=>(Below.heap_alloc _ _ _ (Nat.lt_of_lt_of_le h1 h.size)).trans (h.keep b h1 h2),v,heap_alloc_old hb,mf hrow o⟩
theorem L3.push{v:Value}(h:L3 wL N pre W)(hk:l.kd=1)(hb:W.heap[N]?=some (.cells #[v] 61 (0,0)))(hrow:W.ownsRow wL.heap.size 9 1 v (aG pre).length ((aG pre).map Value.string))(hN:wC.heap.size<=N)(ZX:N<wL.heap.size)(hB:Below wC.heap.size wC W)
  (hown:w3.ownsRow wL.heap.size 9 1 v' ((aG pre).length+1) ((aG pre).map Value.string++[.string l.st])) (hg:W.grownBy w3 v.ownBlock):
  L3 wL N (pre++[l]) (w3.setCell ⟨N,0,none⟩ v')/\Below wC.heap.size wC (w3.setCell ⟨N,0,none⟩ v')/\w3.cell? ⟨N,0,none⟩=some v/\w3.frozen? ⟨N,0,none⟩=false:=by
 have hne:∀b,b<wL.heap.size->some b≠v.ownBlock:=λb hb' e=>by have:=(aw hrow e.symm).1;omega
 have h3:w3.heap[N]?=some (.cells #[v] 61 (0,0)):=(hg.block N (ae hb) (hne N ZX)).trans hb;have hsz:(w3.setCell ⟨N,0,none⟩ v').heap.size=w3.heap.size:=by simp[World.setCell]
 refine ⟨⟨by rw[hsz];exact Nat.le_trans h.size hg.size,λb h1 h2=>?_,v',heap_setCell_same w3 N 0 _ h3,?_⟩,?_,by simp[World.cell?,h3],by simp[World.frozen?,h3]⟩
 ·rw[Below.heap_setCell _ _ _ _ h2,hg.block b (Nat.lt_of_lt_of_le h1 h.size) (hne b h1)];exact h.keep b h1 h2
 ·rw[gO,if_pos hk,List.map_append,List.length_append];refine aJ hown λk e=>Below.heap_setCell _ _ _ _ ?_
  rintro rfl;have:=(aw hown e).1;omega
 ·have hb3:Below wC.heap.size W w3:=⟨hg.os,hg.tape,hg.output,hg.size,λk hk'=>hg.block k (Nat.lt_of_lt_of_le hk' hB.size) (hne k (by omega))⟩;exact (hB.trans hb3).setCell hN _
set_option maxRecDepth 20000 in
set_option maxHeartbeats 1000000 in
theorem Ip(wC wL:World)(B N:Nat)(sv:Value)(ls:List aU)(hL:Lines wC B sv ls)(hz:ls.length<=1000000)(hN:wC.heap.size<=N)(ZX:N<wL.heap.size):
  Ty (GX wC wL (·=N)) ls dG 149 #[.pointer (some ⟨N,0,none⟩)] (L3 wL N):=by
 rintro pre l post w hs ⟨hB,-⟩ hI;obtain ⟨XJ,V7⟩:=Io hL hs;obtain ⟨v,hb,hrow⟩:=hI.box
 have hlen:(aG pre).length<=1000000:=by
  have h1:(aG pre).length<=pre.length:=List.length_filterMap_le ..;have h2:pre.length<=ls.length:=by rw[hs];simp
  omega
 have c0:w.cell? ⟨N,0,none⟩=some v:=by simp[World.cell?,hb]
 show Calls Tryz.prog _ #[l.agg,.pointer (some ⟨N,0,none⟩)] w _;unfold aU.agg;by_cases hk:l.kd=1
 ·have q1:((l.kd:Int) != 1)=false:=by rw[hk];rfl
  have C0:=aa (vM wL.heap.size v (aG pre) l.st (w.alloc (.cells #[.int .i64 l.at_,.int .i64 l.kd,.string l.st,.int .i64 l.d,.string l.co,.slice l.ao l.ln l.cp,.int .i64 l.wh,.int .i64 l.fl] 219)) (mf hrow (.cells #[.int .i64 l.at_,.int .i64 l.kd,.string l.st,.int .i64 l.d,.string l.co,.slice l.ao l.ln l.cp,.int .i64 l.wh,.int .i64 l.fl] 219)) hlen)
  have HI:=aa (hI.alloc (.cells #[.int .i64 l.at_,.int .i64 l.kd,.string l.st,.int .i64 l.d,.string l.co,.slice l.ao l.ln l.cp,.int .i64 l.wh,.int .i64 l.fl] 219));have HB:=aa (hB.alloc hB.size (.cells #[.int .i64 l.at_,.int .i64 l.kd,.string l.st,.int .i64 l.d,.string l.co,.slice l.ao l.ln l.cp,.int .i64 l.wh,.int .i64 l.fl] 219));have HT:=aa (V7 hk);have HK:=aa hk
  have bE:=aa (mf hrow (.cells #[.int .i64 l.at_,.int .i64 l.kd,.string l.st,.int .i64 l.d,.string l.co,.slice l.ao l.ln l.cp,.int .i64 l.wh,.int .i64 l.fl] 219));have uU:=aa (heap_alloc_old (o:=(.cells #[.int .i64 l.at_,.int .i64 l.kd,.string l.st,.int .i64 l.d,.string l.co,.slice l.ao l.ln l.cp,.int .i64 l.wh,.int .i64 l.fl] 219)) hb)
  have Tf:=aq c0 (.cells #[.int .i64 l.at_,.int .i64 l.kd,.string l.st,.int .i64 l.d,.string l.co,.slice l.ao l.ln l.cp,.int .i64 l.wh,.int .i64 l.fl] 219);obtain ⟨i0,hi,hz0,hz1,hz3⟩:=info_parts Bj
  obtain ⟨ao,cap,rfl⟩:∃ao cap,v=.slice ao (aG pre).length cap:=by
   rcases hrow.2 with ⟨h1,h0⟩|⟨g,cap,cur,h1,_⟩
   ·exact ⟨none,0,by rw[h1,h0]⟩
   ·exact ⟨some ⟨g,0,none⟩,cap,h1⟩
  have Ba:=aa (af w (.cells #[.int .i64 l.at_,.int .i64 l.kd,.string l.st,.int .i64 l.d,.string l.co,.slice l.ao l.ln l.cp,.int .i64 l.wh,.int .i64 l.fl] 219));clear hI hB XJ V7 hk hrow hb c0 hL hs;obtain ⟨q,hq⟩:∃q,q=w.heap.size:=⟨_,rfl⟩;go_enter Tryz.func149,Tryz.ntmps149;go_wp2_with fail;rw[<-hq]at Ba ⊢;clear hq
  generalize w.alloc (.cells #[.int .i64 l.at_,.int .i64 l.kd,.string l.st,.int .i64 l.d,.string l.co,.slice l.ao l.ln l.cp,.int .i64 l.wh,.int .i64 l.fl] 219)=W1 at *;refine C0.out.mono ?_;rintro e w1 ⟨rfl,b,rfl,hb⟩;have Fk:=aa (hb.trans HT.out.symm);have qF:=Ba.out;have d2:w1.cell? ⟨q,2,none⟩=some (.string l.st):=by simp[World.cell?,qF]
  have HKEY:=aa (λ(v':Value) (w3:World) (hown:w3.ownsRow wL.heap.size 9 1 v' ((aG pre).length+1) ((aG pre).map Value.string++[.string l.st])) (hg:(w1.alloc (.cells #[.string l.st] 9)).grownBy w3 (Value.slice ao (aG pre).length cap).ownBlock)=>L3.push (wC:=wC) (HI.out.alloc _) HK.out (heap_alloc_old uU.out) (mf bE.out _) hN ZX (HB.out.alloc HB.out.size _) hown hg)
  have kR:=aa (mf bE.out (.cells #[.string l.st] 9));have aaG:wL.heap.size<=w1.heap.size+1:=by have:=HI.out.size;omega
  clear hb qF HT C0 HI HB HK bE uU Ba
  go_wp2_with (at_builtin;refine wpList_append_own _ rfl _ _ 61 rfl wL.heap.size 9 i0 (.string ⟨#[]⟩) 1 16 Tryz.underlying61 hi hz0 hz1 hz3 rfl (by decide) (.slice ao (aG pre).length cap) (aG pre).length ((aG pre).map Value.string) rfl kR.out ⟨w1.heap.size,0,none⟩ 1 1 [.string l.st] rfl rfl (by exact aF w1 #[.string l.st] _) (by simp[Value.oneCell']) (by unfold maxLen;omega) (by omega) (by simpa using aaG) ?_;intro v' w3 hown hg _;obtain ⟨k1,k2,k3,k4⟩:=HKEY.out v' w3 hown hg;obtain ⟨g',cap',rfl⟩:=aC hown (by omega);have Vm:=aa k1;have XG:=aa k2;clear hown hg k1 k2)
  go_ret;exact ⟨b,rfl,Fk.out,⟨XG.out,Vm.out.size,Vm.out.keep⟩,λ_=>Vm.out⟩
 ·have q1:((l.kd:Int) != 1)=true:=by rw[bne_iff_ne];omega
  have HN:∀o,L3 wL N (pre++[l]) (w.alloc o):=λo=>⟨by have:=hI.size;simp;omega,λb h1 h2=>(Below.heap_alloc _ _ _ (Nat.lt_of_lt_of_le h1 hI.size)).trans (hI.keep b h1 h2),v,heap_alloc_old hb,by rw[gO,if_neg hk,List.append_nil];exact mf hrow o⟩
  have ai:=aa (λo=>show ∃b,Ending.returned (.bool false)=.returned (.bool b)/\(b=true<->dG (pre.map aU.pr) l.x)/\GX wC wL (·=N) (w.alloc o)/\(b=false->L3 wL N (pre++[l]) (w.alloc o)) from
   ⟨false,rfl,⟨λh=>(by cases h),λh=>absurd h (XJ hk)⟩,⟨hB.alloc hB.size o,(HN o).size,(HN o).keep⟩,λ_=>HN o⟩)
  clear HN;clear hI hB XJ V7 hk hrow hb;go_enter Tryz.func149,Tryz.ntmps149;go_wp2_with fail;go_ret;exact ai.out _
def J3(pre:List aU):Nat:=((pre.map aU.pr).filter (·.2.aL)).length
def J4(pre:List aU):Nat:=((pre.map aU.pr).filter (·.2.aZ)).length
theorem Bk(pre:List aU)(l:aU):J3 (pre++[l])=J3 pre+if l.x.aL=true then 1 else 0:=by unfold J3;rw[List.map_append,List.filter_append,List.length_append];by_cases h:l.x.aL=true<;>simp[aU.pr,h]
theorem Bl(pre:List aU)(l:aU):J4 (pre++[l])=J4 pre+if l.x.aZ=true then 1 else 0:=by unfold J4;rw[List.map_append,List.filter_append,List.length_append];by_cases h:l.x.aZ=true<;>simp[aU.pr,h]
structure Vn(wL:World)(S R:Nat)(pre:List aU)(w:World):Prop where
 size:wL.heap.size<=w.heap.size
 keep:∀b,b<wL.heap.size->b≠S->b≠R->w.heap[b]?=wL.heap[b]?
 st:w.heap[S]?=some (.cells #[.int .i64 (J3 pre:Nat)] 3 (0,0))
 rl:w.heap[R]?=some (.cells #[.int .i64 (J4 pre:Nat)] 3 (0,0))
 le:J3 pre<=12/\J4 pre<=40
theorem Vn.after{S R:Nat}{a b:Int}(h:Vn wL S R pre w)(hsz:w.heap.size<=W.heap.size)(hk:∀k,k<w.heap.size->k≠S->k≠R->W.heap[k]?=w.heap[k]?)(hS:W.heap[S]?=some (.cells #[.int .i64 a] 3 (0,0)))(hR:W.heap[R]?=some (.cells #[.int .i64 b] 3 (0,0)))(ha:a=(J3 (pre++[l]):Nat))(hb:b=(J4 (pre++[l]):Nat))(hle:J3 (pre++[l])<=12/\J4 (pre++[l])<=40):Vn wL S R (pre++[l]) W:=
 ⟨Nat.le_trans h.size hsz,λk h1 h2 h3=>(hk k (Nat.lt_of_lt_of_le h1 h.size) h2 h3).trans (h.keep k h1 h2 h3),by rw[hS,ha],by rw[hR,hb],hle⟩
theorem L4(h1:J3 pre<=12)(h2:J4 pre<=40):dt (pre.map aU.pr) l.x<->(12<J3 (pre++[l])∨40<J4 (pre++[l])):=by
 rw[Bk,Bl];unfold dt;show l.x.nb=true/\(12<J3 pre+_∨40<J4 pre+_)<->_
 cases hx:l.x with
 | blank=>simp[Ln.nb,Ln.aL,Ln.aZ];omega
 | state n=>simp[Ln.nb,Ln.aL,Ln.aZ]
 | rule d o c p=>simp[Ln.nb,Ln.aL,Ln.aZ]
set_option maxRecDepth 20000 in
set_option maxHeartbeats 1000000 in
theorem L5(wC wL:World)(B S R:Nat)(sv:Value)(ls:List aU)(hL:Lines wC B sv ls)(hS:wC.heap.size<=S)(hR:wC.heap.size<=R)(hne:S≠R):
  Ty (GX wC wL (λb=>b=S∨b=R)) ls dt 151 #[.pointer (some ⟨S,0,none⟩),.pointer (some ⟨R,0,none⟩)] (Vn wL S R):=by
 rintro pre l post w hs ⟨hB,-⟩ hI;have Bn:=L4 (l:=l) hI.le.1 hI.le.2;have oU:=dB (hL.each l (by rw[hs];simp));have e1:=Bk pre l;have e2:=Bl pre l;have hle:=hI.le;show Calls Tryz.prog _ #[l.agg,.pointer (some ⟨S,0,none⟩),.pointer (some ⟨R,0,none⟩)] w _;unfold aU.agg
 have ai:=aa (λ(W:World) (a b:Nat) (hb:Below wC.heap.size wC W) (hsz:w.heap.size<=W.heap.size) (hk:∀k,k<w.heap.size->k≠S->k≠R->W.heap[k]?=w.heap[k]?) (hS:W.heap[S]?=some (.cells #[.int .i64 (a:Int)] 3 (0,0))) (hR:W.heap[R]?=some (.cells #[.int .i64 (b:Int)] 3 (0,0))) (ha:a=J3 (pre++[l])) (wo:b=J4 (pre++[l]))=>show ∃x,Ending.returned (.bool (decide (12<a)||decide (40<b)))=.returned (.bool x)/\(x=true<->dt (pre.map aU.pr) l.x)/\GX wC wL (λb=>b=S∨b=R) W/\(x=false->Vn wL S R (pre++[l]) W) from
  ⟨_,rfl,by rw[Bn,<-ha,<-wo];simp,⟨hb,Nat.le_trans hI.size hsz,λk h1 h2=>(hk k (Nat.lt_of_lt_of_le h1 hI.size) (λh=>h2 (.inl h)) (λh=>h2 (.inr h))).trans (hI.keep k h1 (λh=>h2 (.inl h)) (λh=>h2 (.inr h)))⟩,λhx=>hI.after hsz hk hS hR (by rw[ha]) (by rw[wo]) (by simp at hx;omega)⟩)
 have HST:=aa (heap_alloc_old (o:=(.cells #[.int .i64 l.at_,.int .i64 l.kd,.string l.st,.int .i64 l.d,.string l.co,.slice l.ao l.ln l.cp,.int .i64 l.wh,.int .i64 l.fl] 219)) hI.st);have iI:=aa (heap_alloc_old (o:=(.cells #[.int .i64 l.at_,.int .i64 l.kd,.string l.st,.int .i64 l.d,.string l.co,.slice l.ao l.ln l.cp,.int .i64 l.wh,.int .i64 l.fl] 219)) hI.rl)
 have HB:=aa (hB.alloc hB.size (.cells #[.int .i64 l.at_,.int .i64 l.kd,.string l.st,.int .i64 l.d,.string l.co,.slice l.ao l.ln l.cp,.int .i64 l.wh,.int .i64 l.fl] 219));have G1:=aa (λk (hk:k<w.heap.size)=>Below.heap_alloc w (.cells #[.int .i64 l.at_,.int .i64 l.kd,.string l.st,.int .i64 l.d,.string l.co,.slice l.ao l.ln l.cp,.int .i64 l.wh,.int .i64 l.fl] 219) k hk)
 obtain ⟨a,ha⟩:∃a,a=J3 pre:=⟨_,rfl⟩;obtain ⟨b,hb⟩:∃b,b=J4 pre:=⟨_,rfl⟩;rw[<-ha]at HST e1 hle;rw[<-hb]at iI e2 hle;have hst:=HST.out;have ot:=iI.out
 have s0:(w.alloc (.cells #[.int .i64 l.at_,.int .i64 l.kd,.string l.st,.int .i64 l.d,.string l.co,.slice l.ao l.ln l.cp,.int .i64 l.wh,.int .i64 l.fl] 219)).cell? ⟨S,0,none⟩=some (.int .i64 a):=by simp[World.cell?,hst]
 have r0:(w.alloc (.cells #[.int .i64 l.at_,.int .i64 l.kd,.string l.st,.int .i64 l.d,.string l.co,.slice l.ao l.ln l.cp,.int .i64 l.wh,.int .i64 l.fl] 219)).cell? ⟨R,0,none⟩=some (.int .i64 b):=by simp[World.cell?,ot]
 have sf:(w.alloc (.cells #[.int .i64 l.at_,.int .i64 l.kd,.string l.st,.int .i64 l.d,.string l.co,.slice l.ao l.ln l.cp,.int .i64 l.wh,.int .i64 l.fl] 219)).frozen? ⟨S,0,none⟩=false:=by simp[World.frozen?,hst]
 have rf:(w.alloc (.cells #[.int .i64 l.at_,.int .i64 l.kd,.string l.st,.int .i64 l.d,.string l.co,.slice l.ao l.ln l.cp,.int .i64 l.wh,.int .i64 l.fl] 219)).frozen? ⟨R,0,none⟩=false:=by simp[World.frozen?,ot]
 have aaH:R≠S:=Ne.symm hne;have ha1:a+1<=9223372036854775807:=by omega
 have hb1:b+1<=9223372036854775807:=by omega
 obtain ⟨ab5,ab6⟩:=hle;clear hst ot;have HW:Hid (∀(W:World),W=w.alloc (.cells #[.int .i64 l.at_,.int .i64 l.kd,.string l.st,.int .i64 l.d,.string l.co,.slice l.ao l.ln l.cp,.int .i64 l.wh,.int .i64 l.fl] 219)->w.heap.size<=W.heap.size/\∀k,k<w.heap.size->W.heap[k]?=w.heap[k]?):=λW hW=>by subst hW;exact ⟨by simp,λk hk=>G1.out k hk⟩
 by_cases ey:l.kd=1
 ·have q1:((l.kd:Int)==1)=true:=by rw[ey];rfl
  rw[if_pos (oU.1.1 ey)]at e1;rw[if_neg (λh=>by have:=oU.2.2 h;omega)]at e2;have E1:=aa e1;have E2:=aa e2
  have jS:=aa (ai.out ((w.alloc (.cells #[.int .i64 l.at_,.int .i64 l.kd,.string l.st,.int .i64 l.d,.string l.co,.slice l.ao l.ln l.cp,.int .i64 l.wh,.int .i64 l.fl] 219)).setCell ⟨S,0,none⟩ (.int .i64 ((a+1:Nat):Int))) (a+1) b (HB.out.setCell hS _) (by simp[World.setCell]) (λk h1 h2 h3=>(Below.heap_setCell _ _ _ _ h2).trans ((HW.out _ rfl).2 k h1)) (heap_setCell_same _ S 0 _ HST.out) (by rw[Below.heap_setCell _ _ _ _ aaH];exact iI.out) E1.out.symm (by rw[E2.out];omega))
  have CM:decide ((40:Int)<(b:Int))=false:=decide_eq_false (by omega);clear hI hB Bn oU e1 e2 ha hb ey hL hs ai HW G1 HST iI HB;by_cases XK:12<=a
  ·have q2:decide ((12:Int)<(a:Int)+1)=true:=decide_eq_true (by omega);have q3:decide (12<a+1)=true:=decide_eq_true (by omega);rw[q3,Bool.true_or]at jS;clear q3;go_enter Tryz.func151,Tryz.ntmps151;go_wp2_with fail;go_ret;exact jS.out
  ·have q2:decide ((12:Int)<(a:Int)+1)=false:=decide_eq_false (by omega);have q3:decide (12<a+1)=false:=decide_eq_false (by omega);have q4:decide (40<b)=false:=decide_eq_false (by omega);rw[q3,q4,Bool.or_false]at jS;clear q3 q4;go_enter Tryz.func151,Tryz.ntmps151;go_wp2_with fail;go_ret;exact jS.out
 ·have q1:((l.kd:Int)==1)=false:=by rw[beq_eq_false_iff_ne];omega
  rw[if_neg (λh=>ey (oU.1.2 h))]at e1;have E1:=aa e1;have q2:decide ((12:Int)<(a:Int))=false:=decide_eq_false (by omega);have q3:decide (12<a)=false:=decide_eq_false (by omega);by_cases hk2:l.kd=2
  ·have q5:((l.kd:Int)==2)=true:=by rw[hk2];rfl
   rw[if_pos (oU.2.1 hk2)]at e2;have E2:=aa e2
   have jS:=aa (ai.out ((w.alloc (.cells #[.int .i64 l.at_,.int .i64 l.kd,.string l.st,.int .i64 l.d,.string l.co,.slice l.ao l.ln l.cp,.int .i64 l.wh,.int .i64 l.fl] 219)).setCell ⟨R,0,none⟩ (.int .i64 ((b+1:Nat):Int))) a (b+1) (HB.out.setCell hR _) (by simp[World.setCell]) (λk h1 h2 h3=>(Below.heap_setCell _ _ _ _ h3).trans ((HW.out _ rfl).2 k h1)) (by rw[Below.heap_setCell _ _ _ _ hne];exact HST.out) (heap_setCell_same _ R 0 _ iI.out) (by rw[E1.out];omega) E2.out.symm)
   rw[q3,Bool.false_or]at jS;clear hI hB Bn oU e1 e2 ha hb ey hk2 hL hs ai HW G1 HST iI HB q3;by_cases CM:40<=b
   ·have q6:decide ((40:Int)<(b:Int)+1)=true:=decide_eq_true (by omega);have q7:decide (40<b+1)=true:=decide_eq_true (by omega);rw[q7]at jS;clear q7;go_enter Tryz.func151,Tryz.ntmps151;go_wp2_with fail;go_ret;exact jS.out
   ·have q6:decide ((40:Int)<(b:Int)+1)=false:=decide_eq_false (by omega);have q7:decide (40<b+1)=false:=decide_eq_false (by omega);rw[q7]at jS;clear q7;go_enter Tryz.func151,Tryz.ntmps151;go_wp2_with fail;go_ret;exact jS.out
  ·have q5:((l.kd:Int)==2)=false:=by rw[beq_eq_false_iff_ne];omega
   rw[if_neg (λh=>hk2 (oU.2.2 h))]at e2;have E2:=aa e2;have jS:=aa (ai.out (w.alloc (.cells #[.int .i64 l.at_,.int .i64 l.kd,.string l.st,.int .i64 l.d,.string l.co,.slice l.ao l.ln l.cp,.int .i64 l.wh,.int .i64 l.fl] 219)) a b HB.out (HW.out _ rfl).1 (λk h1 h2 h3=>(HW.out _ rfl).2 k h1) HST.out iI.out (by rw[E1.out];omega) (by rw[E2.out];omega))
   have q6:decide ((40:Int)<(b:Int))=false:=decide_eq_false (by omega);have q7:decide (40<b)=false:=decide_eq_false (by omega);rw[q3,q7,Bool.or_false]at jS;clear hI hB Bn oU e1 e2 ha hb ey hk2 hL hs ai HW G1 HST iI HB q3 q7;go_enter Tryz.func151,Tryz.ntmps151;go_wp2_with fail;go_ret;exact jS.out
end Go.Proofs.YtgncgdkpkkdaeaaGreatDoor
