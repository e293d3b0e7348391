import Derived.Test.YtgncgdkpkkdaeaaGreatDoorAH
import Derived.Test.YtgncgdkpkkdaeaaGreatDoorAI
set_option maxRecDepth 20000
set_option maxHeartbeats 2000000
namespace Go.Proofs.YtgncgdkpkkdaeaaGreatDoor
open Go.RowKit bu
variable {B N i:Nat} {sv v':Value} {W w w3 wC wL:World}
structure aW where
 at_:Nat
 x:Ln
 kd:Nat
 d:Nat
 st:ByteArray
 co:ByteArray
 ao:Option Addr
 ln:Nat
 cp:Nat
 wh:Nat
 fl:Nat
def aW.cells(l:aW):List Value:=[.int .i64 l.at_,.int .i64 l.kd,.string l.st,.int .i64 l.d,.string l.co,.slice l.ao l.ln l.cp,.int .i64 l.wh,.int .i64 l.fl]
def aW.pr(l:aW):Nat×Ln:=(l.at_,l.x)
structure Lines(w:World)(B:Nat)(sv:Value)(ls:List aW):Prop where
 row:w.ownsRow B 219 8 sv ls.length (ls.flatMap aW.cells)
 each:∀l∈ls,gO w B l.kd l.d l.st l.co (.slice l.ao l.ln l.cp) l.wh l.fl l.x
variable {ls:List aW}
theorem Lines.below{w':World}(h:Lines w B sv ls)(hb:Below w.heap.size w w'):Lines w' B sv ls:=
 ⟨aI h.row λk e=>by obtain ⟨_,cur,hc⟩:=ar h.row e;exact hb.block k (ae hc),λl hl=>(h.each l hl).keep λhp=>hp.below hb⟩
variable {l:aW}
theorem Lines.push(h:Lines W B sv ls)(hB:B<=W.heap.size)(hl:gO W B l.kd l.d l.st l.co (.slice l.ao l.ln l.cp) l.wh l.fl l.x)
  (hown:w3.ownsRow B 219 8 v' (ls.length+1) (ls.flatMap aW.cells++l.cells)) (hg:W.grownBy w3 sv.ownBlock):Lines w3 B v' (ls++[l])/\Below B W w3:=by
 have hk:∀{p:List UInt8} {lv:Value} {wh fl:Nat},fT W B p lv wh fl->fT w3 B p lv wh fl:=λhp=>hp.keep λk c t ht hh=>by
  rw[hg.block k (ae hh) (λe=>by
   obtain ⟨_,cur,hc⟩:=ar h.row e.symm;rw[hc]at hh;simp only[fA,Obj.cells.injEq]at hh;rcases ht with rfl|rfl|rfl
   ·exact absurd hh.2.1 (by decide)
   ·exact absurd hh.2.1 (by decide)
   ·exact absurd hh.2.1 (by decide))]
  exact hh
 refine ⟨⟨by simpa using hown,λy hy=>?_⟩,eR hB hg (λk e=>(ar h.row e).1)⟩;rcases List.mem_append.1 hy with hy|hy
 ·exact (h.each y hy).keep hk
 ·rw[List.mem_singleton.1 hy];exact hl.keep hk
theorem Ko:(Tryz.prog.info? 219).map (λi=>(i.zero,i.size,i.bytes))=some (some (.agg #[.int .i64 0,.int .i64 0,.string ⟨#[]⟩,.int .i64 0,.string ⟨#[]⟩,.slice none 0 0,.int .i64 0,.int .i64 0]),8,96):=by kernel_rfl
def kr(s:List UInt8)(w:World)(e:Ending)(w':World):Prop:=
 Below w.heap.size w w'/\((∃a:Nat,e=.returned (.tuple #[.slice none 0 0,.int .i64 a,.bool false])/\rd 0 [] s=.inl a) ∨
  (∃(sv:Value) (ls:List aW),e=.returned (.tuple #[sv,.int .i64 0,.bool true])/\rd 0 [] s=.inr (ls.map aW.pr)/\Lines w' w.heap.size sv ls/\ls.length<=s.length))
structure Z9(s:ByteArray)(w:World)(a:Nat)(sv:Value)(ls:List aW)(st:Bool)(wr:World):Prop where
 le:a<=s.size
 run:rd 0 [] s.data.toList=rd a (ls.map aW.pr) (rest s a)
 lines:Lines wr w.heap.size sv ls
 started:st=(ls.map aW.pr).any (·.2.aN)
 below:Below w.heap.size w wr
 few:ls.length<=a
def Ok(s:ByteArray)(w:World)(k:Nat)(vl vs va:Value)(wr:World):Prop:=
 ∃(a:Nat) (ls:List aW) (st:Bool) (sv:Value),vl=sv/\vs=.bool st/\va=.int .i64 a/\a+k=s.size/\Z9 s w a sv ls st wr
theorem dX{kd d:Nat}{st co:ByteArray}{lv:Value}{wh fl:Nat}{x:Ln}(h:gO w B kd d st co lv wh fl x):(kd=1<->x.aN=true)/\(kd=2<->x.aZ=true):=by
 cases x with
 | blank=>obtain ⟨rfl,_⟩:=h;simp[Ln.aN,Ln.aZ]
 | state n=>obtain ⟨rfl,_⟩:=h;simp[Ln.aN,Ln.aZ]
 | rule d' o c p=>obtain ⟨rfl,_⟩:=h;simp[Ln.aN,Ln.aZ]
theorem xV(s:ByteArray)(w:World)(hz:s.size<=2000)(hm:Mx w):
  Calls Tryz.prog 81 #[.string s] w (kr s.data.toList w):=by
 have HM:=aa hm;clear hm;go_enter Tryz.func81,Tryz.ntmps81;go_wp2_with fail;go_loopg [5,6,7] s.size (λk vl vs va wr=>Ok s w k vl vs va wr)
 case atStart=>exact ⟨0,[],false,_,rfl,rfl,rfl,by omega,Nat.zero_le _,by simp[rest],⟨World.ownsRow_nil _ _ _ _,λl hl=>by simp at hl⟩,rfl,Below.refl _ _,bc _⟩
 case round=>
  obtain ⟨a,ls,st,sv,rfl,rfl,rfl,hk,hR⟩:=hrel;have HR:=aa hR;have xB:=hR.le;have tT:=hR.few;clear hR;by_cases hlt:a<s.size
  ·have g1:decide ((a:Int)<(s.size:Int))=true:=cF (by omega);have Sb:w.heap.size<=wr.heap.size:=HR.out.below.size;have vC:=aa (uz (s.extract a s.size) 10 wr (by rw[ByteArray.size_extract];omega) (HM.out.below HR.out.below));go_wp2_with fail;refine vC.out.mono ?_;rintro e w1 ⟨⟨n1,rfl⟩,jG⟩;rw[dn (bc _)]at jG
   have eZ:=aa (show Z9 s w a u5 ls st (wr.drewN n1) from ⟨HR.out.le,HR.out.run,HR.out.lines.below (Below.drewN' (Below.refl _ _) n1),HR.out.started,Below.drewN' HR.out.below n1,HR.out.few⟩);clear HR vC;generalize wr.drewN n1=W1 at *
   obtain ⟨bo,b2,en,rfl,hbz,hen⟩:∃(bo b2:ByteArray) (en:Bool),e=.returned (.tuple #[.string bo,.string b2,.bool en])/\a+bo.size<=s.size/\((en=true/\rest s a=bo.data.toList++10::rest s (a+bo.size+1)/\(10:UInt8)∉bo.data.toList/\a+bo.size+1<=s.size)∨(en=false/\(10:UInt8)∉rest s a)):=by
    rcases jG with ⟨x,y,h1,h2,rfl⟩|⟨h1,rfl⟩
    ·have hl:=congrArg List.length h1;rw[aY,dG,fe,aO,aO]at hl;refine ⟨x,y,true,rfl,by omega,.inl ⟨rfl,?_,h2,by omega⟩⟩;have e1:rest s (a+x.size+1)=(rest s a).drop (x.size+1):=by simp[rest,List.drop_drop,Nat.add_assoc]
     have e2:rest s (a+x.size+1)=y.data.toList:=by rw[e1,h1,show x.size+1=x.data.toList.length+1 from rfl,List.drop_append];simp
     rw[e2];exact h1
    ·refine ⟨_,_,false,rfl,by rw[ByteArray.size_extract];omega,.inr ⟨rfl,h1⟩⟩
   have py:=aa hen;have jA:=aa (Az bo W1 (by omega) (HM.out.below eZ.out.below));clear jG hen;go_wp2_with fail;refine jA.out.mono ?_;rintro e w2 ⟨eE,kd,d,wh,fl,sa,co,ao,ln,cp,ok,rfl,eM⟩;have aab:w.heap.size<=W1.heap.size:=eZ.out.below.size;have cW:=aa (eZ.out.below.trans (eE.mono aab));have lW:=aa (eZ.out.lines.below eE);have Sc:=aa eE;clear eE jA
   cases ok with
   | false=>
    have hno:cS bo.data.toList=none:=by rcases eM with ⟨h,_⟩|⟨_,h⟩;cases h;exact h
    have aq:=aa (λo=>show kr s.data.toList w (.returned (.tuple #[.slice none 0 0,.int .i64 a,.bool false])) (w2.alloc o) from ⟨cW.out.alloc cW.out.size o,.inl ⟨a,rfl,by
     rw[eZ.out.run];rcases py.out with ⟨_,h1,h2,_⟩|⟨_,h1⟩
     ·rw[h1];exact FQ h2 hno
     ·refine Au (λe=>?_) h1;have:=congrArg List.length e;rw[aY]at this;simp at this;omega⟩⟩)
    clear eM hno lW eZ cW Sc py
    cases st with
    | true=>
     go_wp2_with fail;exact bodyPost_ret (v:=.tuple #[.slice none 0 0,.int .i64 a,.bool false]) (by simp[results,Tryz.results81,go_sem, *]) rfl (aq.out _)
    | false=>
     cases hb1:((kd:Int)==1) with
     | true=>
      go_wp2_with fail;exact bodyPost_ret (v:=.tuple #[.slice none 0 0,.int .i64 a,.bool false]) (by simp[results,Tryz.results81,go_sem, *]) rfl (aq.out _)
     | false=>
      go_wp2_with fail;exact bodyPost_ret (v:=.tuple #[.slice none 0 0,.int .i64 a,.bool false]) (by simp[results,Tryz.results81,go_sem, *]) rfl (aq.out _)
   | true=>
    obtain ⟨x,hx,hLI⟩:∃x,cS bo.data.toList=some x/\gO w2 W1.heap.size kd d sa co (.slice ao ln cp) wh fl x:=by rcases eM with ⟨_,h⟩|⟨h,_⟩;exact h;cases h
    have HX:=aa hx;have JI:=aa (hLI.keep (B:=W1.heap.size) (w':=w2) λhp=>hp);clear eM hx hLI
    cases en with
    | false=>
     have aq:=aa (λo=>show kr s.data.toList w (.returned (.tuple #[.slice none 0 0,.int .i64 a,.bool false])) (w2.alloc o) from ⟨cW.out.alloc cW.out.size o,.inl ⟨a,rfl,by
      rw[eZ.out.run];rcases py.out with ⟨h0,_⟩|⟨_,h1⟩
      ·cases h0
      ·refine Au (λe=>?_) h1;have:=congrArg List.length e;rw[aY]at this;simp at this;omega⟩⟩)
     clear HX JI lW eZ cW Sc py
     cases st with
     | true=>
      go_wp2_with fail;exact bodyPost_ret (v:=.tuple #[.slice none 0 0,.int .i64 a,.bool false]) (by simp[results,Tryz.results81,go_sem, *]) rfl (aq.out _)
     | false=>
      cases hb1:((kd:Int)==1) with
      | true=>
       go_wp2_with fail;exact bodyPost_ret (v:=.tuple #[.slice none 0 0,.int .i64 a,.bool false]) (by simp[results,Tryz.results81,go_sem, *]) rfl (aq.out _)
      | false=>
       go_wp2_with fail;exact bodyPost_ret (v:=.tuple #[.slice none 0 0,.int .i64 a,.bool false]) (by simp[results,Tryz.results81,go_sem, *]) rfl (aq.out _)
    | true=>
     obtain ⟨eY,hk2⟩:=dX JI.out;have hen:rest s a=bo.data.toList++10::rest s (a+bo.size+1)/\(10:UInt8)∉bo.data.toList/\a+bo.size+1<=s.size:=by rcases py.out with ⟨_,h⟩|⟨h,_⟩;exact h;cases h
     have Kq:=eZ.out.started;by_cases Sd:kd=2/\st=false
     ·obtain ⟨hkd,rfl⟩:=Sd;have hb1:((kd:Int)==1)=false:=by rw[hkd];rfl
      have hb2:((kd:Int)==2)=true:=by rw[hkd];rfl
      have aq:=aa (λo=>show kr s.data.toList w (.returned (.tuple #[.slice none 0 0,.int .i64 a,.bool false])) (w2.alloc o) from ⟨cW.out.alloc cW.out.size o,.inl ⟨a,rfl,by rw[eZ.out.run,hen.1];exact C3 hen.2.1 HX.out (hk2.1 hkd) Kq.symm⟩⟩)
      clear HX JI lW eZ cW Sc py hen eY hk2 Kq hkd;go_wp2_with fail;exact bodyPost_ret (v:=.tuple #[.slice none 0 0,.int .i64 a,.bool false]) (by simp[results,Tryz.results81,go_sem, *]) rfl (aq.out _)
     ·have haz:a+bo.size+1<=9223372036854775807:=by omega
      obtain ⟨k',hk'⟩:∃k',gk=k'+(bo.size+1):=⟨gk - (bo.size+1),by omega⟩;obtain ⟨i0,hi,hz0,hz1,hz3⟩:=info_parts Ko
      have MN:=aa (show Below w2.heap.size w2 ((w2.alloc (.cells #[.int .i64 a,.int .i64 kd,.string sa,.int .i64 d,.string co,.slice ao ln cp,.int .i64 wh,.int .i64 fl] 219)).alloc (.cells #[.int .i64 a,.int .i64 kd,.string sa,.int .i64 d,.string co,.slice ao ln cp,.int .i64 wh,.int .i64 fl] 219)) from (cq _ _).alloc (by simp) _)
      have HKEY:=aa (show ∀v' w3 (lV:Bool),lV=(st||x.aN)->w3.ownsRow w.heap.size 219 8 v' (ls.length+1) (ls.flatMap aW.cells++[.int .i64 a,.int .i64 kd,.string sa,.int .i64 d,.string co,.slice ao ln cp,.int .i64 wh,.int .i64 fl])->((w2.alloc (.cells #[.int .i64 a,.int .i64 kd,.string sa,.int .i64 d,.string co,.slice ao ln cp,.int .i64 wh,.int .i64 fl] 219)).alloc (.cells #[.int .i64 a,.int .i64 kd,.string sa,.int .i64 d,.string co,.slice ao ln cp,.int .i64 wh,.int .i64 fl] 219)).grownBy w3 u5.ownBlock->Ok s w k' v' (.bool lV) (.int .i64 ((a+(bo.size+1):Nat):Int)) w3 from λv' w3 lV hst hown hg=>by
       obtain ⟨h1,h2⟩:=Lines.push (l:=⟨a,x,kd,d,sa,co,ao,ln,cp,wh,fl⟩) (lW.out.below MN.out) (bJ cW.out.size MN.out.size) ((JI.out.keep (w':=w2) λhp=>hp).keep (w':=(w2.alloc (.cells #[.int .i64 a,.int .i64 kd,.string sa,.int .i64 d,.string co,.slice ao ln cp,.int .i64 wh,.int .i64 fl] 219)).alloc (.cells #[.int .i64 a,.int .i64 kd,.string sa,.int .i64 d,.string co,.slice ao ln cp,.int .i64 wh,.int .i64 fl] 219)) (λhp=>hp.below MN.out) |> λhh=>by
        cases x with
        | blank=>exact hh
        | state n=>exact hh
        | rule d' o c p=>exact ⟨hh.1,hh.2.1,hh.2.2.1,hh.2.2.2.1,hh.2.2.2.2.1,hh.2.2.2.2.2.mono aab⟩) hown hg
       refine ⟨a+(bo.size+1),ls++[⟨a,x,kd,d,sa,co,ao,ln,cp,wh,fl⟩],lV,v',rfl,rfl,rfl,by omega,by omega,?_,h1,?_,cW.out.trans ((MN.out.mono cW.out.size).trans h2),by simp;omega⟩
       ·rw[eZ.out.run,hen.1,ux hen.2.1 HX.out (λhc=>Sd ⟨hk2.2 hc.1,by rw[Kq];exact hc.2⟩),List.map_append];rfl
       ·rw[hst,Kq,List.map_append,List.any_append];simp[aW.pr])
      have bj:=aa (show ((w2.alloc (.cells #[.int .i64 a,.int .i64 kd,.string sa,.int .i64 d,.string co,.slice ao ln cp,.int .i64 wh,.int .i64 fl] 219)).alloc (.cells #[.int .i64 a,.int .i64 kd,.string sa,.int .i64 d,.string co,.slice ao ln cp,.int .i64 wh,.int .i64 fl] 219)).ownsRow w.heap.size 219 8 u5 ls.length (ls.flatMap aW.cells) from (lW.out.below MN.out).row)
      have ey:=aa (show ∀j u,([.int .i64 a,.int .i64 kd,.string sa,.int .i64 d,.string co,.slice ao ln cp,.int .i64 wh,.int .i64 fl]:List Value)[j]?=some u->((w2.alloc (.cells #[.int .i64 a,.int .i64 kd,.string sa,.int .i64 d,.string co,.slice ao ln cp,.int .i64 wh,.int .i64 fl] 219)).alloc (.cells #[.int .i64 a,.int .i64 kd,.string sa,.int .i64 d,.string co,.slice ao ln cp,.int .i64 wh,.int .i64 fl] 219)).cell? ((⟨w2.heap.size+1,0,none⟩:Addr).add j)=some u from λj u hj=>by
       have:=aG (w2.alloc (.cells #[.int .i64 a,.int .i64 kd,.string sa,.int .i64 d,.string co,.slice ao ln cp,.int .i64 wh,.int .i64 fl] 219)) #[.int .i64 a,.int .i64 kd,.string sa,.int .i64 d,.string co,.slice ao ln cp,.int .i64 wh,.int .i64 fl] 219 j u hj;simpa using this)
      have HO:Hid (∀u∈([.int .i64 a,.int .i64 kd,.string sa,.int .i64 d,.string co,.slice ao ln cp,.int .i64 wh,.int .i64 fl]:List Value),u.oneCell'=true):=by intro u hu;simp only[List.mem_cons,List.not_mem_nil,or_false]at hu;rcases hu with rfl|rfl|rfl|rfl|rfl|rfl|rfl|rfl<;>rfl
      have hb1:ls.length+1<=maxLen:=by unfold maxLen;omega
      have qq:(ls.length+1)*96<=140737488355328:=by omega
      have xW:w.heap.size<=w2.heap.size+2:=by have:=cW.out.size;omega
      have E5:=aa Kq;have vP:=aa Sd;have X3:=aa eY;have Ax:=aa hk2;clear HX JI lW eZ cW Sc py hen Kq Sd eY hk2 MN HM
      cases st with
      | true=>
       have Dg:=aa (show true=(true||x.aN) from rfl)
       cases hb2:((kd:Int)==2) with
       | true=>
        go_wp2_with (at_builtin;refine wpList_append_own _ rfl (.tmp 54) (.tmp 56) 153 rfl w.heap.size 219 i0 (.agg #[.int .i64 0,.int .i64 0,.string ⟨#[]⟩,.int .i64 0,.string ⟨#[]⟩,.slice none 0 0,.int .i64 0,.int .i64 0]) 8 96 Tryz.underlying153 hi hz0 hz1 hz3 rfl (by decide) u5 ls.length (ls.flatMap aW.cells) rfl bj.out ⟨w2.heap.size+1,0,none⟩ 1 1 [.int .i64 a,.int .i64 kd,.string sa,.int .i64 d,.string co,.slice ao ln cp,.int .i64 wh,.int .i64 fl] rfl rfl ey.out HO.out hb1 qq (by simpa using xW) ?_;intro v' w3 hown hg _;have HST:=aa (HKEY.out v' w3 true (by first|exact Dg.out|rfl) hown hg);obtain ⟨g',cap',rfl⟩:=aB hown (by omega);clear hown hg)
        go_roundg k'
        case measure=>omega
        case rel=>exact HST.out
       | false=>
        go_wp2_with (at_builtin;refine wpList_append_own _ rfl (.tmp 54) (.tmp 56) 153 rfl w.heap.size 219 i0 (.agg #[.int .i64 0,.int .i64 0,.string ⟨#[]⟩,.int .i64 0,.string ⟨#[]⟩,.slice none 0 0,.int .i64 0,.int .i64 0]) 8 96 Tryz.underlying153 hi hz0 hz1 hz3 rfl (by decide) u5 ls.length (ls.flatMap aW.cells) rfl bj.out ⟨w2.heap.size+1,0,none⟩ 1 1 [.int .i64 a,.int .i64 kd,.string sa,.int .i64 d,.string co,.slice ao ln cp,.int .i64 wh,.int .i64 fl] rfl rfl ey.out HO.out hb1 qq (by simpa using xW) ?_;intro v' w3 hown hg _;have HST:=aa (HKEY.out v' w3 true (by first|exact Dg.out|rfl) hown hg);obtain ⟨g',cap',rfl⟩:=aB hown (by omega);clear hown hg)
        go_roundg k'
        case measure=>omega
        case rel=>exact HST.out
      | false=>
       have adD:((kd:Int)==2)=false:=by rw[er];intro e;exact vP.out ⟨by omega,rfl⟩
       by_cases Sg:kd=1
       ·have ED:((kd:Int)==1)=true:=by rw[Sg];rfl
        have Dg:=aa (show true=(false||x.aN) by rw[X3.out.1 Sg];rfl);clear Sg
        go_wp2_with (at_builtin;refine wpList_append_own _ rfl (.tmp 54) (.tmp 56) 153 rfl w.heap.size 219 i0 (.agg #[.int .i64 0,.int .i64 0,.string ⟨#[]⟩,.int .i64 0,.string ⟨#[]⟩,.slice none 0 0,.int .i64 0,.int .i64 0]) 8 96 Tryz.underlying153 hi hz0 hz1 hz3 rfl (by decide) u5 ls.length (ls.flatMap aW.cells) rfl bj.out ⟨w2.heap.size+1,0,none⟩ 1 1 [.int .i64 a,.int .i64 kd,.string sa,.int .i64 d,.string co,.slice ao ln cp,.int .i64 wh,.int .i64 fl] rfl rfl ey.out HO.out hb1 qq (by simpa using xW) ?_;intro v' w3 hown hg _;have HST:=aa (HKEY.out v' w3 true (by first|exact Dg.out|rfl) hown hg);obtain ⟨g',cap',rfl⟩:=aB hown (by omega);clear hown hg)
        go_roundg k'
        case measure=>omega
        case rel=>exact HST.out
       ·have ED:((kd:Int)==1)=false:=by rw[er];omega
        have Dg:=aa (show false=(false||x.aN) by
         cases Zd:x.aN with
         | true=>exact absurd (X3.out.2 Zd) Sg
         | false=>rfl)
        go_wp2_with (at_builtin;refine wpList_append_own _ rfl (.tmp 54) (.tmp 56) 153 rfl w.heap.size 219 i0 (.agg #[.int .i64 0,.int .i64 0,.string ⟨#[]⟩,.int .i64 0,.string ⟨#[]⟩,.slice none 0 0,.int .i64 0,.int .i64 0]) 8 96 Tryz.underlying153 hi hz0 hz1 hz3 rfl (by decide) u5 ls.length (ls.flatMap aW.cells) rfl bj.out ⟨w2.heap.size+1,0,none⟩ 1 1 [.int .i64 a,.int .i64 kd,.string sa,.int .i64 d,.string co,.slice ao ln cp,.int .i64 wh,.int .i64 fl] rfl rfl ey.out HO.out hb1 qq (by simpa using xW) ?_;intro v' w3 hown hg _;have HST:=aa (HKEY.out v' w3 false (by first|exact Dg.out|rfl) hown hg);obtain ⟨g',cap',rfl⟩:=aB hown (by omega);clear hown hg)
        go_roundg k'
        case measure=>omega
        case rel=>exact HST.out
  ·have g1:decide ((a:Int)<(s.size:Int))=false:=bV (by omega);have aq:=aa (show kr s.data.toList w (.returned (.tuple #[u5,.int .i64 0,.bool true])) wr from ⟨HR.out.below,.inr ⟨u5,ls,rfl,by rw[HR.out.run,dF (by omega),N2],HR.out.lines,by rw[aO];omega⟩⟩);clear HR;go_wp2_with fail
   exact bodyPost_ret (v:=.tuple #[u5,.int .i64 0,.bool true]) (by simp[results,Tryz.results81,go_sem, *]) rfl aq.out
def aW.agg(l:aW):Value:=.agg #[.int .i64 l.at_,.int .i64 l.kd,.string l.st,.int .i64 l.d,.string l.co,.slice l.ao l.ln l.cp,.int .i64 l.wh,.int .i64 l.fl]
theorem Dh(h:ls[i]?=some l)(j:Nat)(hj:j<8):(ls.flatMap aW.cells)[i*8+j]?=l.cells[j]?:=by
 induction ls generalizing i with
 | nil=>simp at h
 | cons a t ih=>
  cases i with
  | zero=>
   simp only[List.getElem?_cons_zero,fA]at h;subst h;simp only[List.flatMap_cons];rw[nz (by simp[aW.cells];omega)];simp
  | succ i=>
   simp only[List.getElem?_cons_succ]at h;have:=ih h;simp only[List.flatMap_cons];rw[pS (by simp[aW.cells];omega),<-this];congr 1;simp[aW.cells];omega
theorem Lines.form(h:Lines w B sv ls):∃ao cap,sv=.slice ao ls.length cap/\(0<ls.length->∃g,ao=some ⟨g,0,none⟩):=by
 rcases h.row.2 with ⟨h1,h0⟩|⟨g,cap,cur,h1,_⟩
 ·exact ⟨none,0,by rw[h1,h0],λh=>by omega⟩
 ·exact ⟨some ⟨g,0,none⟩,cap,h1,λ_=>⟨g,rfl⟩⟩
theorem Lines.cells{g n cap:Nat}(h:Lines w B (.slice (some ⟨g,0,none⟩) n cap) ls)(hi:ls[i]?=some l):
  w.cell? ⟨g,i*8,none⟩=some (.int .i64 l.at_)/\w.cell? ⟨g,i*8+1,none⟩=some (.int .i64 l.kd)/\w.cell? ⟨g,i*8+2,none⟩=some (.string l.st)/\w.cell? ⟨g,i*8+3,none⟩=some (.int .i64 l.d)/\w.cell? ⟨g,i*8+4,none⟩=some (.string l.co)/\w.cell? ⟨g,i*8+5,none⟩=some (.slice l.ao l.ln l.cp)/\w.cell? ⟨g,i*8+6,none⟩=some (.int .i64 l.wh)/\w.cell? ⟨g,i*8+7,none⟩=some (.int .i64 l.fl):=by
 have hn:n=ls.length:=by
  rcases h.row.2 with ⟨h0,_⟩|⟨g',cap',cur,e1,_⟩
  ·cases h0
  ·cases e1;rfl
 subst hn;have f:=λj (hj:j<8) (u:Value) (hu:l.cells[j]?=some u)=>(bG h.row (show (ls.flatMap aW.cells)[i*8+j]?=some u by rw[Dh hi j hj];exact hu)).1
 exact ⟨f 0 (by omega) _ rfl,f 1 (by omega) _ rfl,f 2 (by omega) _ rfl,f 3 (by omega) _ rfl,f 4 (by omega) _ rfl,f 5 (by omega) _ rfl,f 6 (by omega) _ rfl,f 7 (by omega) _ rfl⟩
def V3(G:World->Prop)(ls:List aW)(p:cU->Ln->Prop)(g:Nat)(lb:Array Value)(Inv:List aW->World->Prop):Prop:=
 ∀pre l post w,ls=pre++l::post->G w->Inv pre w->Calls Tryz.prog g (#[l.agg]++lb) w λe w'=>∃b,e=.returned (.bool b)/\(b=true<->p (pre.map aW.pr) l.x)/\G w'/\(b=false->Inv (pre++[l]) w')
def uA(G:World->Prop)(ls:List aW)(p:cU->Ln->Prop)(Inv:List aW->World->Prop)(e:Ending)(w':World):Prop:=
 G w'/\((∃(j:Nat) (l:aW),e=.returned (.int .i64 j)/\ls[j]?=some l/\dQ p [] (ls.map aW.pr) (some l.at_))∨(e=.returned (.int .i64 (-1))/\dQ p [] (ls.map aW.pr) none/\Inv ls w'))
def IM(G:World->Prop)(ls:List aW)(p:cU->Ln->Prop)(Inv:List aW->World->Prop)(k:Nat)(i:Value)(wr:World):Prop:=
 ∃j:Nat,i=.int .i64 j/\j+k=ls.length/\G wr/\Inv (ls.take j) wr/\dQ p [] ((ls.take j).map aW.pr) none
theorem dY(wC:World)(B:Nat)(sv:Value)(ls:List aW)(p:cU->Ln->Prop)(g:Nat)(lb:Array Value)(Inv:List aW->World->Prop)(w:World)(hL:Lines wC B sv ls)(G:World->Prop)(hG:∀w,G w->Below wC.heap.size wC w)(hP:V3 G ls p g lb Inv)(he:Enters g)(hB:G w)(hI:Inv [] w)(hz:ls.length<=1000000):
  Calls Tryz.prog 115 #[sv,.func (.func g) #[] lb] w (uA G ls p Inv):=by
 obtain ⟨ao,cap,rfl,hao⟩:=hL.form;have HL:=aa hL;have HP:=aa hP;have HB:=aa hB;have HI:=aa hI;have CZ:=aa hao;unfold Enters at he;clear hL hP hB hI hao;go_enter Tryz.func115,Tryz.ntmps115;go_wp2_with fail;go_loopg [8] ls.length (λk i wr=>IM G ls p Inv k i wr)
 case atStart=>exact ⟨0,rfl,by omega,HB.out,HI.out,.nil⟩
 case round=>
  obtain ⟨j,rfl,hk,lS,hIw,hf⟩:=hrel;by_cases hlt:j<ls.length
  ·have g1:decide ((j:Int)<(ls.length:Int))=true:=cF (by omega);obtain ⟨q,rfl⟩:=CZ.out (by omega);obtain ⟨l,hl⟩:∃l,ls[j]?=some l:=⟨ls[j],cB hlt⟩;have hsp:ls=ls.take j++l::ls.drop (j+1):=by have hl':=hl;rw[cB hlt]at hl';rw[<-Option.some.inj hl',<-List.drop_eq_getElem_cons hlt,List.take_append_drop]
   have iP:ls.take (j+1)=ls.take j++[l]:=by have hl':=hl;rw[cB hlt]at hl';rw[List.take_succ_eq_append_getElem hlt,Option.some.inj hl']
   obtain ⟨c0,c1,c2,c3,c4,c5,c6,c7⟩:=(HL.out.below (hG _ lS)).cells hl;have Ad:=aa (HP.out (ls.take j) l (ls.drop (j+1)) wr hsp lS hIw);have HF:=aa hf;have HLL:=aa hl;have pY:=aa hsp;have BK:=aa iP;have yv:j+1<=9223372036854775807:=by omega
   unfold aW.agg at Ad;clear hf hl hsp iP lS hIw;go_wp2_with fail;refine Ad.out.mono ?_;rintro e w1 ⟨b,rfl,hb,fu,QH⟩
   cases b with
   | true=>
    have aq:=aa (show uA G ls p Inv (.returned (.int .i64 j)) w1 from ⟨fu,.inl ⟨j,l,rfl,HLL.out,by
     have h1:=HF.out.uR (a:=l.at_) (x:=l.x) ((ls.drop (j+1)).map aW.pr) (hb.1 rfl)
     have e1:ls.map aW.pr=(ls.take j).map aW.pr++(l.at_,l.x)::(ls.drop (j+1)).map aW.pr:=by
      conv=>lhs;rw[pY.out]
      simp[aW.pr]
     rw[e1];exact h1⟩⟩)
    clear hb fu QH Ad HF HLL pY BK;go_wp2_with fail;go_ret;exact aq.out
   | false=>
    have HST:=aa (show IM G ls p Inv (gk - 1) (.int .i64 ((j+1:Nat):Int)) w1 from ⟨j+1,rfl,by omega,fu,by rw[BK.out];exact QH rfl,by rw[BK.out,List.map_append];exact HF.out.snoc (a:=l.at_) (λh=>by have:=hb.2 h;cases this)⟩);clear hb fu QH Ad HF HLL pY BK;go_wp2_with fail;go_roundg (gk - 1)
    case measure=>omega
    case rel=>exact HST.out
  ·have g1:decide ((j:Int)<(ls.length:Int))=false:=bV (by omega);have aq:=aa (show uA G ls p Inv (.returned (.int .i64 (-1))) wr from ⟨lS,.inr ⟨rfl,by rw[List.take_of_length_le (by omega)]at hf;exact hf,by rw[List.take_of_length_le (by omega)]at hIw;exact hIw⟩⟩);clear hf lS hIw;go_wp2_with fail;go_ret;exact aq.out
def aac(ns:List ByteArray)(v:ByteArray)(w:World)(k:Nat)(i:Value)(wr:World):Prop:=
 ∃j:Nat,i=.int .i64 j/\j+k=ns.length/\wr=w/\∀(m:Nat) (t:ByteArray),m<j->ns[m]?=some t->t.data.toList≠v.data.toList
theorem Gb(B:Nat)(sv:Value)(ns:List ByteArray)(v:ByteArray)(w:World)(hr:w.ownsRow B 9 1 sv ns.length (ns.map Value.string))(hz:ns.length<=1000000):
  Calls Tryz.prog 184 #[sv,.string v] w λe w'=>w'=w/\((∃j:Nat,e=.returned (.int .i64 j)/\∃t∈ns,t.data.toList=v.data.toList)∨(e=.returned (.int .i64 (-1))/\∀t∈ns,t.data.toList≠v.data.toList)):=by
 obtain ⟨ao,cap,rfl,hao⟩:∃ao cap,sv=.slice ao ns.length cap/\(0<ns.length->∃g,ao=some ⟨g,0,none⟩):=by
  rcases hr.2 with ⟨h1,h0⟩|⟨g,cap,cur,h1,_⟩
  ·exact ⟨none,0,by rw[h1,h0],λh=>by omega⟩
  ·exact ⟨some ⟨g,0,none⟩,cap,h1,λ_=>⟨g,rfl⟩⟩
 have HR:=aa hr;have CZ:=aa hao;clear hr hao;go_enter Tryz.func184,Tryz.ntmps184;go_wp2_with fail;go_loopg [8] ns.length (λk i wr=>aac ns v w k i wr)
 case atStart=>exact ⟨0,rfl,by omega,rfl,λm t h=>by omega⟩
 case round=>
  obtain ⟨j,rfl,hk,rfl,hall⟩:=hrel;by_cases hlt:j<ns.length
  ·have g1:decide ((j:Int)<(ns.length:Int))=true:=cF (by omega);obtain ⟨q,rfl⟩:=CZ.out (by omega);obtain ⟨t,ht⟩:∃t,ns[j]?=some t:=⟨ns[j],cB hlt⟩;have c0:=(bG HR.out (j:=j) (u:=.string t) (by rw[fX,ht];rfl)).1;have HT:=aa ht;have gN:=aa hall;have yv:j+1<=9223372036854775807:=by omega
   clear ht hall;by_cases hq:t.data.toList=v.data.toList
   ·have q1:(v.toList==t.toList)=true:=by rw[ByteArray.toList_eq,ByteArray.toList_eq,hq];simp
    have q1':(t.toList==v.toList)=true:=by rw[ByteArray.toList_eq,ByteArray.toList_eq,hq];simp
    have HQ:=aa hq;clear hq;go_wp2_with fail;go_ret;exact ⟨rfl,.inl ⟨j,rfl,t,bn HT.out,HQ.out⟩⟩
   ·have q1:(v.toList==t.toList)=false:=by rw[er,ByteArray.toList_eq,ByteArray.toList_eq];exact λe=>hq e.symm
    have q1':(t.toList==v.toList)=false:=by rw[er,ByteArray.toList_eq,ByteArray.toList_eq];exact hq
    have HQ:=aa hq;clear hq;go_wp2_with fail;go_roundg (gk - 1)
    case measure=>omega
    case rel=>
     refine ⟨j+1,rfl,by omega,rfl,λm t' hm jo=>?_⟩;rcases ed m j with h|h
     ·exact gN.out m t' h jo
     ·have:m=j:=by omega
      subst this;rw[HT.out]at jo;cases jo;exact HQ.out
  ·have g1:decide ((j:Int)<(ns.length:Int))=false:=bV (by omega);have gN:=aa hall;clear hall;go_wp2_with fail;go_ret;refine ⟨rfl,.inr ⟨rfl,λt ht=>?_⟩⟩;obtain ⟨m,hm⟩:=List.getElem?_of_mem ht;exact gN.out m t (by have:=az hm;omega) hm
theorem xX(B:Nat)(sv:Value)(ns:List ByteArray)(v:ByteArray)(w:World)(hr:w.ownsRow B 9 1 sv ns.length (ns.map Value.string))(hz:ns.length<=1000000):
  Calls Tryz.prog 150 #[sv,.string v] w λe w'=>w'=w/\∃b,e=.returned (.bool b)/\(b=true<->∃t∈ns,t.data.toList=v.data.toList):=by
 have xu:=aa (Gb B sv ns v w hr hz)
 have oX:∃ao cap,sv=.slice ao ns.length cap:=by
  rcases hr.2 with ⟨h1,h0⟩|⟨g,cap,cur,h1,_⟩
  ·exact ⟨none,0,by rw[h1,h0]⟩
  ·exact ⟨some ⟨g,0,none⟩,cap,h1⟩
 obtain ⟨ao,cap,rfl⟩:=oX;clear hr;go_enter Tryz.func150,Tryz.ntmps150;go_wp2_with fail;refine xu.out.mono ?_;rintro e w1 ⟨rfl,⟨j,rfl,ht⟩|⟨rfl,hno⟩⟩
 ·have q1:decide ((0:Int)<=(j:Int))=true:=cF (by omega);have HT:=aa ht;clear ht;go_wp2_with fail;go_ret;exact ⟨rfl,true,rfl,⟨λ_=>HT.out,λ_=>rfl⟩⟩
 ·have HT:=aa hno;clear hno;go_wp2_with fail;go_ret;exact ⟨rfl,false,rfl,⟨λh=>(by cases h),λ⟨t,h1,h2⟩=>absurd h2 (HT.out t h1)⟩⟩
def aK(pre:List aW):List ByteArray:=pre.filterMap λl=>if l.kd=1 then some l.st else none
def GX(wC wL:World)(D:Nat->Prop)(w:World):Prop:=Below wC.heap.size wC w/\wL.heap.size<=w.heap.size/\∀b,b<wL.heap.size->¬D b->w.heap[b]?=wL.heap[b]?
structure Ol(wL:World)(N:Nat)(pre:List aW)(w:World):Prop where
 size:wL.heap.size<=w.heap.size
 keep:∀b,b<wL.heap.size->b≠N->w.heap[b]?=wL.heap[b]?
 box:∃v,w.heap[N]?=some (.cells #[v] 61 (0,0))/\w.ownsRow wL.heap.size 9 1 v (aK pre).length ((aK pre).map Value.string)
theorem iH(pre:List aW)(l:aW):aK (pre++[l])=aK pre++(if l.kd=1 then [l.st] else []):=by unfold aK;rw[List.filterMap_append];congr 1;by_cases h:l.kd=1<;>simp[h]
theorem Di:(Tryz.prog.info? 9).map (λi=>(i.zero,i.size,i.bytes))=some (some (.string ⟨#[]⟩),1,16):=by kernel_rfl
variable {pre:List aW}
theorem Kr{post:List aW}(hL:Lines wC B sv ls)(hs:ls=pre++l::post):(l.kd≠1->¬dW (pre.map aW.pr) l.x)/\(l.kd=1->(dW (pre.map aW.pr) l.x<->∃t∈aK pre,t.data.toList=l.st.data.toList)):=by
 have hl:=hL.each l (by rw[hs];simp);refine ⟨λhk h=>?_,λhk=>?_⟩
 ·obtain ⟨n,hx,_⟩:=h;rw[hx]at hl;exact hk hl.1
 ·cases hx:l.x with
  | blank=>rw[hx]at hl;have:=hl.1;omega
  | rule d o c p=>rw[hx]at hl;have:=hl.1;omega
  | state n=>
   rw[hx]at hl;obtain ⟨_,_,hn,_⟩:=hl;constructor
   ·rintro ⟨n',h1,a,h2⟩;cases h1;obtain ⟨t,ht,he⟩:=List.mem_map.1 h2;have C0:=hL.each t (by rw[hs];exact List.mem_append_left _ ht);have hxt:t.x=.state n:=congrArg Prod.snd he;rw[hxt]at C0;exact ⟨t.st,List.mem_filterMap.2 ⟨t,ht,by rw[if_pos C0.1]⟩,by rw[C0.2.2.1,hn]⟩
   ·rintro ⟨t,ht,he⟩;obtain ⟨l',hl',hh⟩:=List.mem_filterMap.1 ht;by_cases hk':l'.kd=1
    ·rw[if_pos hk']at hh;cases hh;have C0:=hL.each l' (by rw[hs];exact List.mem_append_left _ hl');have hst:=(dX C0).1.1 hk'
     cases EI:l'.x with
     | blank=>rw[EI]at hst;cases hst
     | rule d o c p=>rw[EI]at hst;cases hst
     | state n'=>
      rw[EI]at C0;refine ⟨n,rfl,l'.at_,List.mem_map.2 ⟨l',hl',?_⟩⟩;have h5:n'=n:=by rw[<-C0.2.2.1,he,hn]
      rw[aW.pr,EI,h5]
    ·rw[if_neg hk']at hh;cases hh
theorem Ol.alloc(h:Ol wL N pre w)(o:Obj):Ol wL N pre (w.alloc o):=by obtain ⟨v,hb,hrow⟩:=h.box;exact ⟨by have:=h.size;simp;omega,λb h1 h2=>(Below.heap_alloc _ _ _ (dw h1 h.size)).trans (h.keep b h1 h2),v,af hb,nN hrow o⟩
theorem Ol.push{v:Value}(h:Ol wL N pre W)(hk:l.kd=1)(hb:W.heap[N]?=some (.cells #[v] 61 (0,0)))(hrow:W.ownsRow wL.heap.size 9 1 v (aK pre).length ((aK pre).map Value.string))(hN:wC.heap.size<=N)(hNL:N<wL.heap.size)(hB:Below wC.heap.size wC W)
  (hown:w3.ownsRow wL.heap.size 9 1 v' ((aK pre).length+1) ((aK pre).map Value.string++[.string l.st])) (hg:W.grownBy w3 v.ownBlock):
  Ol wL N (pre++[l]) (w3.setCell ⟨N,0,none⟩ v')/\Below wC.heap.size wC (w3.setCell ⟨N,0,none⟩ v')/\w3.cell? ⟨N,0,none⟩=some v/\w3.frozen? ⟨N,0,none⟩=false:=by
 have hne:∀b,b<wL.heap.size->some b≠v.ownBlock:=λb hb' e=>by have:=(ar hrow e.symm).1;omega
 have h3:w3.heap[N]?=some (.cells #[v] 61 (0,0)):=(hg.block N (ae hb) (hne N hNL)).trans hb;have hsz:(w3.setCell ⟨N,0,none⟩ v').heap.size=w3.heap.size:=by simp[World.setCell]
 refine ⟨⟨by rw[hsz];exact bJ h.size hg.size,λb h1 h2=>?_,v',ah w3 N 0 _ h3,?_⟩,?_,by simp[World.cell?,h3],by simp[World.frozen?,h3]⟩
 ·rw[eV _ _ _ _ h2,hg.block b (dw h1 h.size) (hne b h1)];exact h.keep b h1 h2
 ·rw[iH,if_pos hk,List.map_append,dG];refine aI hown λk e=>eV _ _ _ _ ?_
  rintro rfl;have:=(ar hown e).1;omega
 ·have hb3:Below wC.heap.size W w3:=⟨hg.os,hg.tape,hg.output,hg.size,λk hk'=>hg.block k (dw hk' hB.size) (hne k (by omega))⟩;exact (hB.trans hb3).setCell hN _
theorem Ks(wC wL:World)(B N:Nat)(sv:Value)(ls:List aW)(hL:Lines wC B sv ls)(hz:ls.length<=1000000)(hN:wC.heap.size<=N)(hNL:N<wL.heap.size):
  V3 (GX wC wL (·=N)) ls dW 149 #[.pointer (some ⟨N,0,none⟩)] (Ol wL N):=by
 rintro pre l post w hs ⟨hB,-⟩ hI;obtain ⟨ht1,YP⟩:=Kr hL hs;obtain ⟨v,hb,hrow⟩:=hI.box
 have hlen:(aK pre).length<=1000000:=by
  have h1:(aK pre).length<=pre.length:=List.length_filterMap_le ..;have h2:pre.length<=ls.length:=by rw[hs];simp
  omega
 have c0:w.cell? ⟨N,0,none⟩=some v:=by simp[World.cell?,hb]
 show Calls Tryz.prog _ #[l.agg,.pointer (some ⟨N,0,none⟩)] w _;unfold aW.agg;by_cases hk:l.kd=1
 ·have q1:((l.kd:Int) != 1)=false:=by rw[hk];rfl
  have EU:=aa (xX wL.heap.size v (aK pre) l.st (w.alloc (.cells #[.int .i64 l.at_,.int .i64 l.kd,.string l.st,.int .i64 l.d,.string l.co,.slice l.ao l.ln l.cp,.int .i64 l.wh,.int .i64 l.fl] 219)) (nN hrow (.cells #[.int .i64 l.at_,.int .i64 l.kd,.string l.st,.int .i64 l.d,.string l.co,.slice l.ao l.ln l.cp,.int .i64 l.wh,.int .i64 l.fl] 219)) hlen)
  have HI:=aa (hI.alloc (.cells #[.int .i64 l.at_,.int .i64 l.kd,.string l.st,.int .i64 l.d,.string l.co,.slice l.ao l.ln l.cp,.int .i64 l.wh,.int .i64 l.fl] 219));have HB:=aa (hB.alloc hB.size (.cells #[.int .i64 l.at_,.int .i64 l.kd,.string l.st,.int .i64 l.d,.string l.co,.slice l.ao l.ln l.cp,.int .i64 l.wh,.int .i64 l.fl] 219));have HT:=aa (YP hk);have HK:=aa hk
  have bj:=aa (nN hrow (.cells #[.int .i64 l.at_,.int .i64 l.kd,.string l.st,.int .i64 l.d,.string l.co,.slice l.ao l.ln l.cp,.int .i64 l.wh,.int .i64 l.fl] 219));have xw:=aa (af (o:=(.cells #[.int .i64 l.at_,.int .i64 l.kd,.string l.st,.int .i64 l.d,.string l.co,.slice l.ao l.ln l.cp,.int .i64 l.wh,.int .i64 l.fl] 219)) hb)
  have VM:=aw c0 (.cells #[.int .i64 l.at_,.int .i64 l.kd,.string l.st,.int .i64 l.d,.string l.co,.slice l.ao l.ln l.cp,.int .i64 l.wh,.int .i64 l.fl] 219);obtain ⟨i0,hi,hz0,hz1,hz3⟩:=info_parts Di
  obtain ⟨ao,cap,rfl⟩:∃ao cap,v=.slice ao (aK pre).length cap:=by
   rcases hrow.2 with ⟨h1,h0⟩|⟨g,cap,cur,h1,_⟩
   ·exact ⟨none,0,by rw[h1,h0]⟩
   ·exact ⟨some ⟨g,0,none⟩,cap,h1⟩
  have vZ:=aa (ag w (.cells #[.int .i64 l.at_,.int .i64 l.kd,.string l.st,.int .i64 l.d,.string l.co,.slice l.ao l.ln l.cp,.int .i64 l.wh,.int .i64 l.fl] 219));clear hI hB ht1 YP hk hrow hb c0 hL hs;obtain ⟨q,hq⟩:∃q,q=w.heap.size:=⟨_,rfl⟩;go_enter Tryz.func149,Tryz.ntmps149;go_wp2_with fail;rw[<-hq]at vZ ⊢;clear hq
  generalize w.alloc (.cells #[.int .i64 l.at_,.int .i64 l.kd,.string l.st,.int .i64 l.d,.string l.co,.slice l.ao l.ln l.cp,.int .i64 l.wh,.int .i64 l.fl] 219)=W1 at *;refine EU.out.mono ?_;rintro e w1 ⟨rfl,b,rfl,hb⟩;have Ch:=aa (hb.trans HT.out.symm);have pO:=vZ.out;have d2:w1.cell? ⟨q,2,none⟩=some (.string l.st):=by simp[World.cell?,pO]
  have HKEY:=aa (λ(v':Value) (w3:World) (hown:w3.ownsRow wL.heap.size 9 1 v' ((aK pre).length+1) ((aK pre).map Value.string++[.string l.st])) (hg:(w1.alloc (.cells #[.string l.st] 9)).grownBy w3 (Value.slice ao (aK pre).length cap).ownBlock)=>Ol.push (wC:=wC) (HI.out.alloc _) HK.out (af xw.out) (nN bj.out _) hN hNL (HB.out.alloc HB.out.size _) hown hg)
  have mA:=aa (nN bj.out (.cells #[.string l.st] 9));have ab5:wL.heap.size<=w1.heap.size+1:=by have:=HI.out.size;omega
  clear hb pO HT EU HI HB HK bj xw vZ
  go_wp2_with (at_builtin;refine wpList_append_own _ rfl _ _ 61 rfl wL.heap.size 9 i0 (.string ⟨#[]⟩) 1 16 Tryz.underlying61 hi hz0 hz1 hz3 rfl (by decide) (.slice ao (aK pre).length cap) (aK pre).length ((aK pre).map Value.string) rfl mA.out ⟨w1.heap.size,0,none⟩ 1 1 [.string l.st] rfl rfl (by exact aG w1 #[.string l.st] _) (by simp[Value.oneCell']) (by unfold maxLen;omega) (by omega) (by simpa using ab5) ?_;intro v' w3 hown hg _;obtain ⟨k1,k2,k3,k4⟩:=HKEY.out v' w3 hown hg;obtain ⟨g',cap',rfl⟩:=aB hown (by omega);have X3:=aa k1;have Ax:=aa k2;clear hown hg k1 k2)
  go_ret;exact ⟨b,rfl,Ch.out,⟨Ax.out,X3.out.size,X3.out.keep⟩,λ_=>X3.out⟩
 ·have q1:((l.kd:Int) != 1)=true:=by rw[bne_iff_ne];omega
  have HN:∀o,Ol wL N (pre++[l]) (w.alloc o):=λo=>⟨by have:=hI.size;simp;omega,λb h1 h2=>(Below.heap_alloc _ _ _ (dw h1 hI.size)).trans (hI.keep b h1 h2),v,af hb,by rw[iH,if_neg hk,List.append_nil];exact nN hrow o⟩
  have aq:=aa (λo=>show ∃b,Ending.returned (.bool false)=.returned (.bool b)/\(b=true<->dW (pre.map aW.pr) l.x)/\GX wC wL (·=N) (w.alloc o)/\(b=false->Ol wL N (pre++[l]) (w.alloc o)) from
   ⟨false,rfl,⟨λh=>(by cases h),λh=>absurd h (ht1 hk)⟩,⟨hB.alloc hB.size o,(HN o).size,(HN o).keep⟩,λ_=>HN o⟩)
  clear HN;clear hI hB ht1 YP hk hrow hb;go_enter Tryz.func149,Tryz.ntmps149;go_wp2_with fail;go_ret;exact aq.out _
def Md(pre:List aW):Nat:=((pre.map aW.pr).filter (·.2.aN)).length
def Me(pre:List aW):Nat:=((pre.map aW.pr).filter (·.2.aZ)).length
theorem Dj(pre:List aW)(l:aW):Md (pre++[l])=Md pre+if l.x.aN=true then 1 else 0:=by unfold Md;rw[List.map_append,List.filter_append,dG];by_cases h:l.x.aN=true<;>simp[aW.pr,h]
theorem Dk(pre:List aW)(l:aW):Me (pre++[l])=Me pre+if l.x.aZ=true then 1 else 0:=by unfold Me;rw[List.map_append,List.filter_append,dG];by_cases h:l.x.aZ=true<;>simp[aW.pr,h]
structure X4(wL:World)(S R:Nat)(pre:List aW)(w:World):Prop where
 size:wL.heap.size<=w.heap.size
 keep:∀b,b<wL.heap.size->b≠S->b≠R->w.heap[b]?=wL.heap[b]?
 st:w.heap[S]?=some (.cells #[.int .i64 (Md pre:Nat)] 3 (0,0))
 rl:w.heap[R]?=some (.cells #[.int .i64 (Me pre:Nat)] 3 (0,0))
 le:Md pre<=12/\Me pre<=40
theorem X4.after{S R:Nat}{a b:Int}(h:X4 wL S R pre w)(hsz:w.heap.size<=W.heap.size)(hk:∀k,k<w.heap.size->k≠S->k≠R->W.heap[k]?=w.heap[k]?)(hS:W.heap[S]?=some (.cells #[.int .i64 a] 3 (0,0)))(hR:W.heap[R]?=some (.cells #[.int .i64 b] 3 (0,0)))(ha:a=(Md (pre++[l]):Nat))(hb:b=(Me (pre++[l]):Nat))(hle:Md (pre++[l])<=12/\Me (pre++[l])<=40):X4 wL S R (pre++[l]) W:=
 ⟨bJ h.size hsz,λk h1 h2 h3=>(hk k (dw h1 h.size) h2 h3).trans (h.keep k h1 h2 h3),by rw[hS,ha],by rw[hR,hb],hle⟩
theorem Om(h1:Md pre<=12)(h2:Me pre<=40):dI (pre.map aW.pr) l.x<->(12<Md (pre++[l])∨40<Me (pre++[l])):=by
 rw[Dj,Dk];unfold dI;show l.x.nb=true/\(12<Md pre+_∨40<Me pre+_)<->_
 cases hx:l.x with
 | blank=>simp[Ln.nb,Ln.aN,Ln.aZ];omega
 | state n=>simp[Ln.nb,Ln.aN,Ln.aZ]
 | rule d o c p=>simp[Ln.nb,Ln.aN,Ln.aZ]
theorem Oo(wC wL:World)(B S R:Nat)(sv:Value)(ls:List aW)(hL:Lines wC B sv ls)(hS:wC.heap.size<=S)(hR:wC.heap.size<=R)(hne:S≠R):
  V3 (GX wC wL (λb=>b=S∨b=R)) ls dI 151 #[.pointer (some ⟨S,0,none⟩),.pointer (some ⟨R,0,none⟩)] (X4 wL S R):=by
 rintro pre l post w hs ⟨hB,-⟩ hI;have Dl:=Om (l:=l) hI.le.1 hI.le.2;have qG:=dX (hL.each l (by rw[hs];simp));have e1:=Dj pre l;have e2:=Dk pre l;have hle:=hI.le;show Calls Tryz.prog _ #[l.agg,.pointer (some ⟨S,0,none⟩),.pointer (some ⟨R,0,none⟩)] w _;unfold aW.agg
 have aq:=aa (λ(W:World) (a b:Nat) (hb:Below wC.heap.size wC W) (hsz:w.heap.size<=W.heap.size) (hk:∀k,k<w.heap.size->k≠S->k≠R->W.heap[k]?=w.heap[k]?) (hS:W.heap[S]?=some (.cells #[.int .i64 (a:Int)] 3 (0,0))) (hR:W.heap[R]?=some (.cells #[.int .i64 (b:Int)] 3 (0,0))) (ha:a=Md (pre++[l])) (uq:b=Me (pre++[l]))=>show ∃x,Ending.returned (.bool (decide (12<a)||decide (40<b)))=.returned (.bool x)/\(x=true<->dI (pre.map aW.pr) l.x)/\GX wC wL (λb=>b=S∨b=R) W/\(x=false->X4 wL S R (pre++[l]) W) from
  ⟨_,rfl,by rw[Dl,<-ha,<-uq];simp,⟨hb,bJ hI.size hsz,λk h1 h2=>(hk k (dw h1 hI.size) (λh=>h2 (.inl h)) (λh=>h2 (.inr h))).trans (hI.keep k h1 (λh=>h2 (.inl h)) (λh=>h2 (.inr h)))⟩,λhx=>hI.after hsz hk hS hR (by rw[ha]) (by rw[uq]) (by simp at hx;omega)⟩)
 have HST:=aa (af (o:=(.cells #[.int .i64 l.at_,.int .i64 l.kd,.string l.st,.int .i64 l.d,.string l.co,.slice l.ao l.ln l.cp,.int .i64 l.wh,.int .i64 l.fl] 219)) hI.st);have jA:=aa (af (o:=(.cells #[.int .i64 l.at_,.int .i64 l.kd,.string l.st,.int .i64 l.d,.string l.co,.slice l.ao l.ln l.cp,.int .i64 l.wh,.int .i64 l.fl] 219)) hI.rl)
 have HB:=aa (hB.alloc hB.size (.cells #[.int .i64 l.at_,.int .i64 l.kd,.string l.st,.int .i64 l.d,.string l.co,.slice l.ao l.ln l.cp,.int .i64 l.wh,.int .i64 l.fl] 219));have JK:=aa (λk (hk:k<w.heap.size)=>Below.heap_alloc w (.cells #[.int .i64 l.at_,.int .i64 l.kd,.string l.st,.int .i64 l.d,.string l.co,.slice l.ao l.ln l.cp,.int .i64 l.wh,.int .i64 l.fl] 219) k hk)
 obtain ⟨a,ha⟩:∃a,a=Md pre:=⟨_,rfl⟩;obtain ⟨b,hb⟩:∃b,b=Me pre:=⟨_,rfl⟩;rw[<-ha]at HST e1 hle;rw[<-hb]at jA e2 hle;have hst:=HST.out;have od:=jA.out
 have s0:(w.alloc (.cells #[.int .i64 l.at_,.int .i64 l.kd,.string l.st,.int .i64 l.d,.string l.co,.slice l.ao l.ln l.cp,.int .i64 l.wh,.int .i64 l.fl] 219)).cell? ⟨S,0,none⟩=some (.int .i64 a):=by simp[World.cell?,hst]
 have r0:(w.alloc (.cells #[.int .i64 l.at_,.int .i64 l.kd,.string l.st,.int .i64 l.d,.string l.co,.slice l.ao l.ln l.cp,.int .i64 l.wh,.int .i64 l.fl] 219)).cell? ⟨R,0,none⟩=some (.int .i64 b):=by simp[World.cell?,od]
 have sf:(w.alloc (.cells #[.int .i64 l.at_,.int .i64 l.kd,.string l.st,.int .i64 l.d,.string l.co,.slice l.ao l.ln l.cp,.int .i64 l.wh,.int .i64 l.fl] 219)).frozen? ⟨S,0,none⟩=false:=by simp[World.frozen?,hst]
 have rf:(w.alloc (.cells #[.int .i64 l.at_,.int .i64 l.kd,.string l.st,.int .i64 l.d,.string l.co,.slice l.ao l.ln l.cp,.int .i64 l.wh,.int .i64 l.fl] 219)).frozen? ⟨R,0,none⟩=false:=by simp[World.frozen?,od]
 have ab6:R≠S:=Ne.symm hne;have ha1:a+1<=9223372036854775807:=by omega
 have hb1:b+1<=9223372036854775807:=by omega
 obtain ⟨adE,adF⟩:=hle;clear hst od;have HW:Hid (∀(W:World),W=w.alloc (.cells #[.int .i64 l.at_,.int .i64 l.kd,.string l.st,.int .i64 l.d,.string l.co,.slice l.ao l.ln l.cp,.int .i64 l.wh,.int .i64 l.fl] 219)->w.heap.size<=W.heap.size/\∀k,k<w.heap.size->W.heap[k]?=w.heap[k]?):=λW hW=>by subst hW;exact ⟨by simp,λk hk=>JK.out k hk⟩
 by_cases eY:l.kd=1
 ·have q1:((l.kd:Int)==1)=true:=by rw[eY];rfl
  rw[if_pos (qG.1.1 eY)]at e1;rw[if_neg (λh=>by have:=qG.2.2 h;omega)]at e2;have E1:=aa e1;have E2:=aa e2
  have kV:=aa (aq.out ((w.alloc (.cells #[.int .i64 l.at_,.int .i64 l.kd,.string l.st,.int .i64 l.d,.string l.co,.slice l.ao l.ln l.cp,.int .i64 l.wh,.int .i64 l.fl] 219)).setCell ⟨S,0,none⟩ (.int .i64 ((a+1:Nat):Int))) (a+1) b (HB.out.setCell hS _) (by simp[World.setCell]) (λk h1 h2 h3=>(eV _ _ _ _ h2).trans ((HW.out _ rfl).2 k h1)) (ah _ S 0 _ HST.out) (by rw[eV _ _ _ _ ab6];exact jA.out) E1.out.symm (by rw[E2.out];omega))
  have EG:decide ((40:Int)<(b:Int))=false:=bV (by omega);clear hI hB Dl qG e1 e2 ha hb eY hL hs aq HW JK HST jA HB;by_cases h12:12<=a
  ·have q2:decide ((12:Int)<(a:Int)+1)=true:=cF (by omega);have q3:decide (12<a+1)=true:=cF (by omega);rw[q3,Bool.true_or]at kV;clear q3;go_enter Tryz.func151,Tryz.ntmps151;go_wp2_with fail;go_ret;exact kV.out
  ·have q2:decide ((12:Int)<(a:Int)+1)=false:=bV (by omega);have q3:decide (12<a+1)=false:=bV (by omega);have q4:decide (40<b)=false:=bV (by omega);rw[q3,q4,Bool.or_false]at kV;clear q3 q4;go_enter Tryz.func151,Tryz.ntmps151;go_wp2_with fail;go_ret;exact kV.out
 ·have q1:((l.kd:Int)==1)=false:=by rw[er];omega
  rw[if_neg (λh=>eY (qG.1.2 h))]at e1;have E1:=aa e1;have q2:decide ((12:Int)<(a:Int))=false:=bV (by omega);have q3:decide (12<a)=false:=bV (by omega);by_cases hk2:l.kd=2
  ·have q5:((l.kd:Int)==2)=true:=by rw[hk2];rfl
   rw[if_pos (qG.2.1 hk2)]at e2;have E2:=aa e2
   have kV:=aa (aq.out ((w.alloc (.cells #[.int .i64 l.at_,.int .i64 l.kd,.string l.st,.int .i64 l.d,.string l.co,.slice l.ao l.ln l.cp,.int .i64 l.wh,.int .i64 l.fl] 219)).setCell ⟨R,0,none⟩ (.int .i64 ((b+1:Nat):Int))) a (b+1) (HB.out.setCell hR _) (by simp[World.setCell]) (λk h1 h2 h3=>(eV _ _ _ _ h3).trans ((HW.out _ rfl).2 k h1)) (by rw[eV _ _ _ _ hne];exact HST.out) (ah _ R 0 _ jA.out) (by rw[E1.out];omega) E2.out.symm)
   rw[q3,Bool.false_or]at kV;clear hI hB Dl qG e1 e2 ha hb eY hk2 hL hs aq HW JK HST jA HB q3;by_cases EG:40<=b
   ·have q6:decide ((40:Int)<(b:Int)+1)=true:=cF (by omega);have q7:decide (40<b+1)=true:=cF (by omega);rw[q7]at kV;clear q7;go_enter Tryz.func151,Tryz.ntmps151;go_wp2_with fail;go_ret;exact kV.out
   ·have q6:decide ((40:Int)<(b:Int)+1)=false:=bV (by omega);have q7:decide (40<b+1)=false:=bV (by omega);rw[q7]at kV;clear q7;go_enter Tryz.func151,Tryz.ntmps151;go_wp2_with fail;go_ret;exact kV.out
  ·have q5:((l.kd:Int)==2)=false:=by rw[er];omega
   rw[if_neg (λh=>hk2 (qG.2.2 h))]at e2;have E2:=aa e2;have kV:=aa (aq.out (w.alloc (.cells #[.int .i64 l.at_,.int .i64 l.kd,.string l.st,.int .i64 l.d,.string l.co,.slice l.ao l.ln l.cp,.int .i64 l.wh,.int .i64 l.fl] 219)) a b HB.out (HW.out _ rfl).1 (λk h1 h2 h3=>(HW.out _ rfl).2 k h1) HST.out jA.out (by rw[E1.out];omega) (by rw[E2.out];omega))
   have q6:decide ((40:Int)<(b:Int))=false:=bV (by omega);have q7:decide (40<b)=false:=bV (by omega);rw[q3,q7,Bool.or_false]at kV;clear hI hB Dl qG e1 e2 ha hb eY hk2 hL hs aq HW JK HST jA HB q3 q7;go_enter Tryz.func151,Tryz.ntmps151;go_wp2_with fail;go_ret;exact kV.out
end Go.Proofs.YtgncgdkpkkdaeaaGreatDoor
