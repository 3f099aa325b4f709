import Derived.Test.YthhpbhpfagoapaaGreatJAA
import Derived.Test.YthhpbhpfagoapaaGreatJAQ
import Derived.Deep.DeepCutAuto
import Derived.Deep.QuietTactic
import Derived.BigQuiet
import Derived.WalkSmall
import Derived.Deep.RegionHeld3
namespace Go.Proofs.YthhpbhpfagoapaaGreat
set_option linter.unusedVariables false
set_option linter.unusedSimpArgs false
set_option maxRecDepth 100000
set_option maxHeartbeats 16000000
open Go.RowKit
section
structure Vals (w:World) (a:Option Addr) (l:List CellB):Prop where
 lies:Lies w a l
 small:∀ c ∈ l,qr c
 few:l.length≤60
theorem Vals.later {w w':World} {a:Option Addr} {l:List CellB} (h:Vals w a l) (hb:Below w.heap.size w w'):Vals w' a l:=⟨h.lies.later hb,h.small,h.few⟩
theorem St {c:CellB} (h:qr c):okC c:=⟨h.1,h.2.1,by have:=h.2.2;unfold maxLen;omega⟩
def Holds3 (w:World) (g:Nat) (c:CellB):Prop :=
 w.cell? ⟨g,0,none⟩=some (.bool c.null)∧w.cell? ⟨g,1,none⟩=some (.int .i64 c.int)∧w.cell? ⟨g,2,none⟩=some (strB c.text)
theorem Holds3.later {w w':World} {g:Nat} {c:CellB} (h:Holds3 w g c) (hg:g < w.heap.size) (hb:Below w.heap.size w w'):Holds3 w' g c :=
 ⟨(hb.cell (p:=⟨g,_,none⟩) hg).trans h.1,(hb.cell (p:=⟨g,_,none⟩) hg).trans h.2.1,(hb.cell (p:=⟨g,_,none⟩) hg).trans h.2.2⟩
theorem zn (wr:World) (c d:CellB) :
  Holds3 ((wr.alloc (.cells #[.bool c.null,.int .i64 c.int,strB c.text] 58)).alloc (.cells #[.bool d.null,.int .i64 d.int,strB d.text] 58)) wr.heap.size c ∧
  Holds3 ((wr.alloc (.cells #[.bool c.null,.int .i64 c.int,strB c.text] 58)).alloc (.cells #[.bool d.null,.int .i64 d.int,strB d.text] 58)) (wr.heap.size+1) d ∧
  Below wr.heap.size wr ((wr.alloc (.cells #[.bool c.null,.int .i64 c.int,strB c.text] 58)).alloc (.cells #[.bool d.null,.int .i64 d.int,strB d.text] 58)) ∧
  ((wr.alloc (.cells #[.bool c.null,.int .i64 c.int,strB c.text] 58)).alloc (.cells #[.bool d.null,.int .i64 d.int,strB d.text] 58)).heap.size=wr.heap.size+2:=by
 refine ⟨⟨?_,?_,?_⟩,⟨?_,?_,?_⟩,((Below.refl _ _).alloc (ae _) _).alloc (by simp) _,by simp⟩
 all_goals simp [go_sem]
set_option maxRecDepth 100000 in
theorem Hz (a:Option Addr) (cap:Nat) (l:List CellB) (w:World) (hv:Vals w a l) :
  Calls Tryz.prog 117 #[.int .i64 0,.slice a l.length cap] w fun e w'=>e=.returned (strB (qy 0 l))∧Below w.heap.size w w':=by
 have Hv:=hid hv
 have hn:=hv.few
 clear hv
 go_enter Tryz.func117,Tryz.ntmps117
 go_wp2_with fail
 refine (Jr a cap l _ (by omega) Hv.out.lies).mono ?_
 rintro e w1 ⟨dv,rfl,hdown,hb1⟩
 clear hdown
 go_wp2_with fail
 go_loopw [5,8] (fun s i wr=>∃ k:Nat,k≤l.length∧i=.int .i64 (k:Int)∧s=strB (js 0 l k)∧Below w.heap.size w wr) (fun _ i _=>l.length - (intOf i).toNat)
 case atStart=>exact ⟨0,ah _,rfl,rfl,hb1⟩
 case round =>
  clear hb1
  obtain ⟨k,hkl,rfl,rfl,hB⟩:=hrel
  by_cases hlt:k < l.length
  ·have hlies:=(Hv.out.later hB).lies
   have hlen:=xj 0 l Hv.out.small hn k
   have hstep:=QX 0 l Hv.out.small hn k
   have HS:Hid (js 0 l (k+1)=js 0 l k++qN 0 l k):=rfl
   have hsm:=Hv.out.small l[k] (al hlt)
   have hpr:=Jl l Hv.out.small k
   have HT:Hid (qN 0 l k=bB (l[k]).int):=by show bB (xX l k).int=_;rw [qg l k hlt]
   obtain ⟨b,off,ha,hbw,hcell⟩:=hlies.at_ (ai (by omega))
   subst ha
   have Hcell:=hid hcell
   clear hlies
   obtain ⟨g1,g2,g3⟩:=hcell k hlt
   clear hcell
   generalize js 0 l k=acc at *
   have hz0:=hB.size
   go_upto_if 47 with fail
   go_cut [10] (fun p wc=>p=.pointer (some ⟨wr.heap.size+1,0,none⟩)∧Holds3 wc wr.heap.size l[k]∧Holds3 wc (wr.heap.size+1) (jX l k)∧Below wr.heap.size wr wc∧wc.heap.size=wr.heap.size+2)
   case first =>
    by_cases hk0:k=0
    ·subst hk0
     go_wp2
     go_meet
     case rel=>exact ⟨rfl,zn wr l[0] qG⟩
    ·obtain ⟨m,rfl⟩:∃ m,k=m+1:=⟨k - 1,by omega⟩
     obtain ⟨f1,f2,f3⟩:=Hcell.out m (by omega)
     have hpm:jX l (m+1)=l[m]:=by unfold jX;rw [aj (by omega)];exact qg l m (by omega)
     have Hpm:=hid hpm
     clear hpm
     go_wp2
     go_meet
     case rel=>exact ⟨rfl,by rw [Hpm.out];exact zn wr l[m+1] l[m]⟩
   case rest =>
    obtain ⟨rfl,hh1,hh2,hb3,hsz⟩:=hcut
    obtain ⟨v1,v2,v3⟩:=hh1
    obtain ⟨q1,q2,q3⟩:=hh2
    have hB3:=hB.trans (hb3.mono hz0)
    have hz3:=hB3.size
    obtain ⟨s1,s2,s3⟩:=hsm
    obtain ⟨r1,r2,r3⟩:=hpr
    have HB3:=hid hb3
    clear g1 g2 g3 hb3 hB
    go_wp2_with fail
    refine (BT _ _ s1 s2).mono ?_
    rintro e w4 ⟨rfl,hb4⟩
    have hbl:=XF l[k].int
    have hbl2:(bB l[k].int).length≤8:=by omega
    clear hbl
    go_wp2
    go_roundw
    case rel=>exact ⟨k+1,by omega,by go_num,by rw [HS.out,HT.out];rw [xo],hB3.trans (hb4.mono hz3)⟩
    case measure=>simp [intOf];omega
  ·have hke:k=l.length:=by omega
   subst hke
   go_wp2
   go_ret
   exact ⟨qC (by simp [qy]),hB⟩
set_option maxRecDepth 100000 in
theorem Fa (a:Option Addr) (cap:Nat) (l:List CellB) (w:World) (hv:Vals w a l) :
  Calls Tryz.prog 117 #[.int .i64 1,.slice a l.length cap] w fun e w'=>e=.returned (strB (qy 1 l))∧Below w.heap.size w w':=by
 have Hv:=hid hv
 have hn:=hv.few
 clear hv
 go_enter Tryz.func117,Tryz.ntmps117
 go_wp2_with fail
 refine (Jr a cap l _ (by omega) Hv.out.lies).mono ?_
 rintro e w1 ⟨dv,rfl,hdown,hb1⟩
 clear hdown
 go_wp2_with fail
 go_loopw [5,8] (fun s i wr=>∃ k:Nat,k≤l.length∧i=.int .i64 (k:Int)∧s=strB (js 1 l k)∧Below w.heap.size w wr) (fun _ i _=>l.length - (intOf i).toNat)
 case atStart=>exact ⟨0,ah _,rfl,rfl,hb1⟩
 case round =>
  clear hb1
  obtain ⟨k,hkl,rfl,rfl,hB⟩:=hrel
  by_cases hlt:k < l.length
  ·have hlies:=(Hv.out.later hB).lies
   have hlen:=xj 1 l Hv.out.small hn k
   have hstep:=QX 1 l Hv.out.small hn k
   have HS:Hid (js 1 l (k+1)=js 1 l k++qN 1 l k):=rfl
   have hsm:=Hv.out.small l[k] (al hlt)
   have hpr:=Jl l Hv.out.small k
   have HT:Hid (qN 1 l k=zB (wrap64 ((l[k]).int - (jX l k).int))):=by show zB (wrap64 ((xX l k).int - (jX l k).int))=_;rw [qg l k hlt]
   obtain ⟨b,off,ha,hbw,hcell⟩:=hlies.at_ (ai (by omega))
   subst ha
   have Hcell:=hid hcell
   clear hlies
   obtain ⟨g1,g2,g3⟩:=hcell k hlt
   clear hcell
   generalize js 1 l k=acc at *
   have hz0:=hB.size
   go_upto_if 47 with fail
   go_cut [10] (fun p wc=>p=.pointer (some ⟨wr.heap.size+1,0,none⟩)∧Holds3 wc wr.heap.size l[k]∧Holds3 wc (wr.heap.size+1) (jX l k)∧Below wr.heap.size wr wc∧wc.heap.size=wr.heap.size+2)
   case first =>
    by_cases hk0:k=0
    ·subst hk0
     go_wp2
     go_meet
     case rel=>exact ⟨rfl,zn wr l[0] qG⟩
    ·obtain ⟨m,rfl⟩:∃ m,k=m+1:=⟨k - 1,by omega⟩
     obtain ⟨f1,f2,f3⟩:=Hcell.out m (by omega)
     have hpm:jX l (m+1)=l[m]:=by unfold jX;rw [aj (by omega)];exact qg l m (by omega)
     have Hpm:=hid hpm
     clear hpm
     go_wp2
     go_meet
     case rel=>exact ⟨rfl,by rw [Hpm.out];exact zn wr l[m+1] l[m]⟩
   case rest =>
    obtain ⟨rfl,hh1,hh2,hb3,hsz⟩:=hcut
    obtain ⟨v1,v2,v3⟩:=hh1
    obtain ⟨q1,q2,q3⟩:=hh2
    have hB3:=hB.trans (hb3.mono hz0)
    have hz3:=hB3.size
    obtain ⟨s1,s2,s3⟩:=hsm
    obtain ⟨r1,r2,r3⟩:=hpr
    have HB3:=hid hb3
    clear g1 g2 g3 hb3 hB
    obtain ⟨e1,e2⟩:=zr ((l[k]).int - (jX l k).int)
    go_wp2_with fail
    refine (Mz _ _ e1 e2).mono ?_
    rintro e w4 ⟨rfl,hb4⟩
    have hbl:=Zt _ e1 e2
    go_wp2
    go_roundw
    case rel=>exact ⟨k+1,by omega,by go_num,by rw [HS.out,HT.out];rw [xo],hB3.trans (hb4.mono hz3)⟩
    case measure=>simp [intOf];omega
  ·have hke:k=l.length:=by omega
   subst hke
   go_wp2
   go_ret
   exact ⟨qC (by simp [qy]),hB⟩
set_option maxRecDepth 100000 in
theorem Fb (a:Option Addr) (cap:Nat) (l:List CellB) (w:World) (hv:Vals w a l) :
  Calls Tryz.prog 117 #[.int .i64 5,.slice a l.length cap] w fun e w'=>e=.returned (strB (qy 5 l))∧Below w.heap.size w w':=by
 have Hv:=hid hv
 have hn:=hv.few
 clear hv
 go_enter Tryz.func117,Tryz.ntmps117
 go_wp2_with fail
 refine (Jr a cap l _ (by omega) Hv.out.lies).mono ?_
 rintro e w1 ⟨dv,rfl,hdown,hb1⟩
 clear hdown
 go_wp2_with fail
 go_loopw [5,8] (fun s i wr=>∃ k:Nat,k≤l.length∧i=.int .i64 (k:Int)∧s=strB (js 5 l k)∧Below w.heap.size w wr) (fun _ i _=>l.length - (intOf i).toNat)
 case atStart=>exact ⟨0,ah _,rfl,rfl,hb1⟩
 case round =>
  clear hb1
  obtain ⟨k,hkl,rfl,rfl,hB⟩:=hrel
  by_cases hlt:k < l.length
  ·have hlies:=(Hv.out.later hB).lies
   have hlen:=xj 5 l Hv.out.small hn k
   have hstep:=QX 5 l Hv.out.small hn k
   have HS:Hid (js 5 l (k+1)=js 5 l k++qN 5 l k):=rfl
   have hsm:=Hv.out.small l[k] (al hlt)
   have hpr:=Jl l Hv.out.small k
   have HT:Hid (qN 5 l k=xB (l[k]).text):=by show xB (xX l k).text=_;rw [qg l k hlt]
   obtain ⟨b,off,ha,hbw,hcell⟩:=hlies.at_ (ai (by omega))
   subst ha
   have Hcell:=hid hcell
   clear hlies
   obtain ⟨g1,g2,g3⟩:=hcell k hlt
   clear hcell
   generalize js 5 l k=acc at *
   have hz0:=hB.size
   go_upto_if 47 with fail
   go_cut [10] (fun p wc=>p=.pointer (some ⟨wr.heap.size+1,0,none⟩)∧Holds3 wc wr.heap.size l[k]∧Holds3 wc (wr.heap.size+1) (jX l k)∧Below wr.heap.size wr wc∧wc.heap.size=wr.heap.size+2)
   case first =>
    by_cases hk0:k=0
    ·subst hk0
     go_wp2
     go_meet
     case rel=>exact ⟨rfl,zn wr l[0] qG⟩
    ·obtain ⟨m,rfl⟩:∃ m,k=m+1:=⟨k - 1,by omega⟩
     obtain ⟨f1,f2,f3⟩:=Hcell.out m (by omega)
     have hpm:jX l (m+1)=l[m]:=by unfold jX;rw [aj (by omega)];exact qg l m (by omega)
     have Hpm:=hid hpm
     clear hpm
     go_wp2
     go_meet
     case rel=>exact ⟨rfl,by rw [Hpm.out];exact zn wr l[m+1] l[m]⟩
   case rest =>
    obtain ⟨rfl,hh1,hh2,hb3,hsz⟩:=hcut
    obtain ⟨v1,v2,v3⟩:=hh1
    obtain ⟨q1,q2,q3⟩:=hh2
    have hB3:=hB.trans (hb3.mono hz0)
    have hz3:=hB3.size
    obtain ⟨s1,s2,s3⟩:=hsm
    obtain ⟨r1,r2,r3⟩:=hpr
    have HB3:=hid hb3
    clear g1 g2 g3 hb3 hB
    go_wp2_with fail
    refine (Ml _ _ (by rw [jR];omega)).mono ?_
    rintro e w4 ⟨rfl,hb4⟩
    rw [Vv]
    have hbl:=UI _ s3
    go_wp2
    go_roundw
    case rel=>exact ⟨k+1,by omega,by go_num,by rw [HS.out,HT.out];rw [xo],hB3.trans (hb4.mono hz3)⟩
    case measure=>simp [intOf];omega
  ·have hke:k=l.length:=by omega
   subst hke
   go_wp2
   go_ret
   exact ⟨qC (by simp [qy]),hB⟩
end
section
theorem Pf (n:Int) (w:World) (h0:0≤n) (h1:n≤9223372036854775807) :
  Calls Tryz.prog 147 #[.int .u64 (IntKind.u64.wrap n)] w fun e w'=>e=.returned (strB (uB n.toNat))∧Below w.heap.size w w':=by
 rw [Jj h0 h1]
 exact Rg n w h0 (by omega)
set_option maxRecDepth 100000 in
theorem Hd (a:Option Addr) (cap:Nat) (l:List CellB) (w:World) (hv:Vals w a l) :
  Calls Tryz.prog 117 #[.int .i64 2,.slice a l.length cap] w fun e w'=>e=.returned (strB (qy 2 l))∧Below w.heap.size w w':=by
 have Hv:=hid hv
 have hn:=hv.few
 clear hv
 go_enter Tryz.func117,Tryz.ntmps117
 go_wp2_with fail
 refine (Jr a cap l _ (by omega) Hv.out.lies).mono ?_
 rintro e w1 ⟨dv,rfl,hdown,hb1⟩
 clear hdown
 go_wp2_with fail
 go_loopw [5,8] (fun s i wr=>∃ k:Nat,k≤l.length∧i=.int .i64 (k:Int)∧s=strB (js 2 l k)∧Below w.heap.size w wr) (fun _ i _=>l.length - (intOf i).toNat)
 case atStart=>exact ⟨0,ah _,rfl,rfl,hb1⟩
 case round =>
  clear hb1
  obtain ⟨k,hkl,rfl,rfl,hB⟩:=hrel
  by_cases hlt:k < l.length
  ·have hlies:=(Hv.out.later hB).lies
   have hlen:=xj 2 l Hv.out.small hn k
   have hstep:=QX 2 l Hv.out.small hn k
   have HS:Hid (js 2 l (k+1)=js 2 l k++qN 2 l k):=rfl
   have hsm:=Hv.out.small l[k] (al hlt)
   have hpr:=Jl l Hv.out.small k
   have HT0:Hid (qN 2 l k=if k=0∨(l[k]).int≠(jX l k).int then uB (Jm (l[k]).int (l.drop (k+1))+1)++zB (l[k]).int else []):=by
    show qN 2 l k=_
    simp only [qN,qg l k hlt]
   obtain ⟨b,off,ha,hbw,hcell⟩:=hlies.at_ (ai (by omega))
   subst ha
   have Hcell:=hid hcell
   clear hlies
   obtain ⟨g1,g2,g3⟩:=hcell k hlt
   clear hcell
   generalize js 2 l k=acc at *
   have hz0:=hB.size
   go_upto_if 47 with fail
   go_cut [10] (fun p wc=>p=.pointer (some ⟨wr.heap.size+1,0,none⟩)∧Holds3 wc wr.heap.size l[k]∧Holds3 wc (wr.heap.size+1) (jX l k)∧Below wr.heap.size wr wc∧wc.heap.size=wr.heap.size+2)
   case first =>
    by_cases hk0:k=0
    ·subst hk0
     go_wp2
     go_meet
     case rel=>exact ⟨rfl,zn wr l[0] qG⟩
    ·obtain ⟨m,rfl⟩:∃ m,k=m+1:=⟨k - 1,by omega⟩
     obtain ⟨f1,f2,f3⟩:=Hcell.out m (by omega)
     have hpm:jX l (m+1)=l[m]:=by unfold jX;rw [aj (by omega)];exact qg l m (by omega)
     have Hpm:=hid hpm
     clear hpm
     go_wp2
     go_meet
     case rel=>exact ⟨rfl,by rw [Hpm.out];exact zn wr l[m+1] l[m]⟩
   case rest =>
    obtain ⟨rfl,hh1,hh2,hb3,hsz⟩:=hcut
    obtain ⟨v1,v2,v3⟩:=hh1
    obtain ⟨q1,q2,q3⟩:=hh2
    have hB3:=hB.trans (hb3.mono hz0)
    have hz3:=hB3.size
    obtain ⟨s1,s2,s3⟩:=hsm
    obtain ⟨r1,r2,r3⟩:=hpr
    have HB3:=hid hb3
    clear g1 g2 g3 hb3 hB
    have hcases:(k=0∨k≠0∧(l[k]).int≠(jX l k).int)∨(k≠0∧(l[k]).int=(jX l k).int):=by omega
    rcases hcases with hyes|⟨hk0,heq⟩
    ·have HT:Hid (qN 2 l k=uB (Jm (l[k]).int (l.drop (k+1))+1)++zB (l[k]).int):=by
      have:=HT0.out
      rw [aw (by omega)] at this
      exact this
     clear HT0
     have hrow:=UZ (l[k]).int (l.drop (k+1))
     rw [an] at hrow
     have HRL:=hid (Nf (l[k]).int (l.drop (k+1)))
     have HRE:=hid (Ve (l[k]).int (l.drop (k+1)))
     generalize Jm (l[k]).int (l.drop (k+1))=rr at *
     have hb:(((k:Int) == 0)=true)∨(((k:Int) == 0)=false)∧(((l[k]).int != (jX l k).int)=true):=by
      rcases hyes with h0|⟨h0,hne⟩
      ·left;simp [h0]
      ·right;exact ⟨by simp;omega,by rw [bne_iff_ne];exact hne⟩
     clear hyes
     generalize hGe:wr.heap.size=G at *
     have HGe:=hid hGe
     clear hGe
     have hbu:=jM (rr+1) (by omega)
     have hbz:=Zt _ s1 s2
     go_upto_region 23 with fail
     go_cut [86] (fun t wd=>t=.bool true∧wc=wd)
     case first =>
      rcases hb with hb1|⟨hb1,hb2⟩
      all_goals
       go_wp2
       go_meet
       case rel=>exact ⟨rfl,rfl⟩
     case rest =>
      obtain ⟨rfl,rfl⟩:=hcut
      clear hb q1 q2 q3 v1 v3 r1 r2 r3 s3
      go_wp2_with fail
      go_loopw [11] (fun t wi=>∃ m:Nat,m≤rr∧t=.int .i64 ((m:Int)+1)∧Below wc.heap.size wc wi) (fun t _=>100 - (intOf t).toNat)
      case atStart=>exact ⟨0,ah _,rfl,Below.refl _ _⟩
      case round =>
       obtain ⟨m,hm,rfl,hBi⟩:=hrel
       have x2:=(hBi.cell (p:=⟨G,1,none⟩) (by show G < wc.heap.size;omega)).trans v2
       by_cases hmr:m < rr
       ·obtain ⟨y1,y2⟩:=HRL.out m hmr
        rw [aZ] at y2
        have hidx:k+(m+1) < l.length:=by omega
        obtain ⟨_,z2,_⟩:=Hcell.out (k+(m+1)) hidx
        have y3:(l[k+(m+1)]).int=(l[k]).int:=by rw [← y2];congr 2;omega
        rw [y3] at z2
        have x3:=(hBi.cell (p:=⟨b,off+(k+(m+1))*3+1,none⟩) (by show b < wc.heap.size;omega)).trans ((HB3.out.cell (p:=⟨b,off+(k+(m+1))*3+1,none⟩) hbw).trans z2)
        have hii:(k:Int)+((m:Int)+1) < (l.length:Int):=by omega
        clear y1 y2 y3 z2 v2
        go_wp2_with fail
        go_quiet (fail)
        go_wp2
        go_roundw
        case rel=>exact ⟨m+1,by omega,by go_num,below_drewN hBi nq⟩
        case measure=>simp [intOf];omega
       ·have hme:m=rr:=by omega
        subst hme
        go_upto_region 25 with fail
        go_cut [104] (fun t wd=>t=.bool false∧Below wc.heap.size wc wd)
        case first =>
         by_cases hidx:k+(m+1) < l.length
         ·have y1:=HRE.out (by rw [an];omega)
          rw [aZ] at y1
          obtain ⟨_,z2,_⟩:=Hcell.out (k+(m+1)) hidx
          have y3:(((l[k+(m+1)]).int == (l[k]).int))=false:=by
           have e:l[k+(m+1)]=l[k+1+m]:=by congr 1;omega
           rw [e];simpa using y1
          have x3:=(hBi.cell (p:=⟨b,off+(k+(m+1))*3+1,none⟩) (by show b < wc.heap.size;omega)).trans ((HB3.out.cell (p:=⟨b,off+(k+(m+1))*3+1,none⟩) hbw).trans z2)
          have hii:(k:Int)+((m:Int)+1) < (l.length:Int):=by omega
          clear y1 z2 v2
          go_quiet (fail)
          go_wp2_with fail
          go_meet
          case rel=>exact ⟨rfl,below_drewN hBi nq⟩
         ·have hii:(l.length:Int)≤(k:Int)+((m:Int)+1):=by omega
          have hdf:decide ((k:Int)+((m:Int)+1) < (l.length:Int))=false:=by simp;omega
          clear v2
          go_quiet (fail)
          go_wp2_with fail
          go_meet
          case rel=>exact ⟨rfl,below_drewN hBi nq⟩
        case rest =>
         obtain ⟨rfl,hBj⟩:=hcut
         have x4:=(hBj.cell (p:=⟨G,1,none⟩) (by show G < _;omega)).trans v2
         have hzj:=hBj.size
         clear x2 v2 hBi
         have hq1:¬ (9223372036854775807 < acc.length+(uB (m+1)).length):=by omega
         have hq2:¬ (9223372036854775807 < acc.length+(uB (m+1)).length+(zB (l[k]).int).length):=by omega
         go_wp2_with fail
         go_region_held3 (fun w'=>w'.cell? ⟨G,1,none⟩=some (.int .i64 (l[k]).int)) (first|assumption|simp [*])
          (first
           | (go_at_call 147;refine (Pf ((m:Int)+1) _ ?_ ?_).mono ?_;omega;omega;rintro e w5 ⟨rfl,hb5⟩;rw [show ((m:Int)+1).toNat=m+1 from by omega];have x5:=(hb5.cell (p:=⟨G,1,none⟩) (show G < wc.heap.size by omega)).trans x4)
           | (go_at_call 177;refine (Mz _ _ s1 s2).mono ?_;rintro e w6 ⟨rfl,hb6⟩;have x6:=(hb6.cell (p:=⟨G,1,none⟩) (aa (show G < wc.heap.size by omega) hb5.size)).trans x5))
         have hB6:Below w.heap.size w w6:=hB3.trans ((hBj.trans ((ji hb5).mono hzj)).trans (hb6.mono (ar hzj hb5.size)) |>.mono hz3)
         have HB6:=hid hB6
         clear hB6 x4 x5 x6 hb5 hb6 hq1 hq2
         go_wp2
         go_roundw
         case rel=>exact ⟨k+1,by omega,by go_num,by rw [HS.out,HT.out,← af,xo,xo],HB6.out⟩
         case measure=>simp [intOf];omega
    ·have HT:Hid (qN 2 l k=[]):=by
      have:=HT0.out
      rw [aj (by omega)] at this
      exact this
     clear HT0
     have hb1:((k:Int) == 0)=false:=by simp;omega
     have hb2:((l[k]).int != (jX l k).int)=false:=by simp [heq]
     clear heq hk0
     go_wp2
     go_roundw
     case rel=>exact ⟨k+1,by omega,by go_num,by rw [HS.out,HT.out,aB],hB3⟩
     case measure=>simp [intOf];omega
  ·have hke:k=l.length:=by omega
   subst hke
   go_wp2
   go_ret
   exact ⟨qC (by simp [qy]),hB⟩
end
end Go.Proofs.YthhpbhpfagoapaaGreat
