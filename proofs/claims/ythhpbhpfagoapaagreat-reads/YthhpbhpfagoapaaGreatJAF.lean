import Derived.Test.YthhpbhpfagoapaaGreatJAA
import Derived.Test.YthhpbhpfagoapaaGreatJAT
import Derived.Lib.Strings
import Derived.Test.YthhpbhpfagoapaaGreatJAB
namespace Go.Proofs.YthhpbhpfagoapaaGreat
set_option linter.unusedVariables false
set_option linter.unusedSimpArgs false
set_option maxRecDepth 100000
set_option maxHeartbeats 16000000
open Go.RowKit
section
theorem IJ (tx:List UInt8) (m:Nat):((⟨tx.toArray⟩:ByteArray).extract m tx.length).data.toList=tx.drop m:=by
 rw [Lib.extract_data,Vv,aC (by rw [an];omega)]
theorem LZ (tx:List UInt8) (m:Nat) (h:tx.length≤12):((⟨tx.toArray⟩:ByteArray).extract m tx.length).size≤1000000:=by
 rw [Lib.size_eq,IJ,an];omega
theorem Xv (tx:List UInt8) (m:Nat) (h:m < tx.length) (h2:m < (⟨tx.toArray⟩:ByteArray).size):(⟨tx.toArray⟩:ByteArray)[m]'h2=tx[m]:=rfl
set_option maxRecDepth 100000 in
theorem Hi (a:Option Addr) (cap:Nat) (l:List CellB) (w:World) (hv:Vals w a l) :
  Calls Tryz.prog 117 #[.int .i64 4,.slice a l.length cap] w fun e w'=>e=.returned (strB (qy 4 l))∧Below w.heap.size w w':=by
 have Hv:=hid hv
 have hn:=hv.few
 clear hv
 go_enter Tryz.func117,Tryz.ntmps117
 go_wp2_with fail
 refine (Jr a cap l _ (by omega) Hv.out.lies).mono ?_
 rintro e w1 ⟨dv,rfl,hdown,hb1⟩
 clear hdown
 go_wp2_with fail
 go_loopw [5,8] (fun s i wr=>∃ k:Nat,k≤l.length∧i=.int .i64 (k:Int)∧s=strB (js 4 l k)∧Below w.heap.size w wr) (fun _ i _=>l.length - (intOf i).toNat)
 case atStart=>exact ⟨0,ah _,rfl,rfl,hb1⟩
 case round =>
  clear hb1
  obtain ⟨k,hkl,rfl,rfl,hB⟩:=hrel
  by_cases hlt:k < l.length
  ·have hlies:=(Hv.out.later hB).lies
   have hlen:=xj 4 l Hv.out.small hn k
   have hstep:=QX 4 l Hv.out.small hn k
   have HS:Hid (js 4 l (k+1)=js 4 l k++qN 4 l k):=rfl
   have hsm:=Hv.out.small l[k] (al hlt)
   have hpr:=Jl l Hv.out.small k
   have HT:Hid (qN 4 l k=uB (jN (l[k]).text (jX l k).text)++xB ((l[k]).text.drop (jN (l[k]).text (jX l k).text))):=by
    show qN 4 l k=_
    simp only [qN,qg l k hlt]
   obtain ⟨hs1,hs2⟩:=Jh (l[k]).text (jX l k).text
   have HSL:=hid (UN (l[k]).text (jX l k).text)
   have HSE:=hid (Gw (l[k]).text (jX l k).text)
   obtain ⟨b,off,ha,hbw,hcell⟩:=hlies.at_ (ai (by omega))
   subst ha
   have Hcell:=hid hcell
   clear hlies
   obtain ⟨g1,g2,g3⟩:=hcell k hlt
   clear hcell
   generalize js 4 l k=acc at *
   have hz0:=hB.size
   go_upto_if 47 with fail
   go_cut [10] (fun p wc=>p=.pointer (some ⟨wr.heap.size+1,0,none⟩)∧Holds3 wc wr.heap.size l[k]∧Holds3 wc (wr.heap.size+1) (jX l k)∧Below wr.heap.size wr wc∧wc.heap.size=wr.heap.size+2)
   case first =>
    by_cases hk0:k=0
    ·subst hk0
     go_wp2
     go_meet
     case rel=>exact ⟨rfl,zn wr l[0] qG⟩
    ·obtain ⟨m,rfl⟩:∃ m,k=m+1:=⟨k - 1,by omega⟩
     obtain ⟨f1,f2,f3⟩:=Hcell.out m (by omega)
     have hpm:jX l (m+1)=l[m]:=by unfold jX;rw [aj (by omega)];exact qg l m (by omega)
     have Hpm:=hid hpm
     clear hpm
     go_wp2
     go_meet
     case rel=>exact ⟨rfl,by rw [Hpm.out];exact zn wr l[m+1] l[m]⟩
   case rest =>
    obtain ⟨rfl,hh1,hh2,hb3,hsz⟩:=hcut
    obtain ⟨v1,v2,v3⟩:=hh1
    obtain ⟨q1,q2,q3⟩:=hh2
    have hB3:=hB.trans (hb3.mono hz0)
    have hz3:=hB3.size
    obtain ⟨s1,s2,s3⟩:=hsm
    obtain ⟨r1,r2,r3⟩:=hpr
    have HB3:=hid hb3
    clear g1 g2 g3 hb3 hB
    generalize hGe:wr.heap.size=G at *
    have HGe:=hid hGe
    clear hGe
    have hbu:=jM (jN (l[k]).text (jX l k).text) (by omega)
    have hbx:=UI ((l[k]).text.drop (jN (l[k]).text (jX l k).text)) (by rw [an];omega)
    generalize jN (l[k]).text (jX l k).text=sh at *
    generalize (l[k]).text=tx at *
    generalize (jX l k).text=py at *
    clear v1 v2 q1 q2 r1 r2 s1 s2
    go_wp2_with fail
    go_loopw [12] (fun t wi=>∃ m:Nat,m≤sh∧t=.int .i64 (m:Int)∧Below wc.heap.size wc wi) (fun t _=>100 - (intOf t).toNat)
    case atStart=>exact ⟨0,ah _,rfl,Below.refl _ _⟩
    case round =>
     obtain ⟨m,hm,rfl,hBi⟩:=hrel
     have x3:=(hBi.cell (p:=⟨G,2,none⟩) (by show G < wc.heap.size;omega)).trans v3
     have p3:=(hBi.cell (p:=⟨G+1,2,none⟩) (by show G+1 < wc.heap.size;omega)).trans q3
     by_cases hmr:m < sh
     ·have l1:m < tx.length:=by omega
      have l2:m < py.length:=by omega
      have m1:m < (⟨tx.toArray⟩:ByteArray).size:=by rw [jR];exact l1
      have m2:m < (⟨py.toArray⟩:ByteArray).size:=by rw [jR];exact l2
      have he:(((((⟨tx.toArray⟩:ByteArray)[m]'m1).toNat:Int)) == ((((⟨py.toArray⟩:ByteArray)[m]'m2).toNat:Int)))=true:=by
       rw [Xv tx m l1,Xv py m l2,HSL.out m hmr l1 l2];simp
      have i1:(m:Int) < (tx.length:Int):=by omega
      have i2:(m:Int) < (py.length:Int):=by omega
      clear v3 q3
      go_wp2_with fail
      go_quiet (fail)
      go_wp2
      go_roundw
      case rel=>exact ⟨m+1,by omega,by go_num,below_drewN hBi nq⟩
      case measure=>simp [intOf];omega
     ·have hme:m=sh:=by omega
      subst hme
      go_upto_region 32 with fail
      go_cut [150] (fun t wd=>t=.bool false∧Below wc.heap.size wc wd)
      case first =>
       by_cases l1:m < tx.length
       ·have i1:(m:Int) < (tx.length:Int):=by omega
        by_cases l2:m < py.length
        ·have i2:(m:Int) < (py.length:Int):=by omega
         have hne:=HSE.out l1 l2
         have m1:m < (⟨tx.toArray⟩:ByteArray).size:=by rw [jR];exact l1
         have m2:m < (⟨py.toArray⟩:ByteArray).size:=by rw [jR];exact l2
         have hne2:(((((⟨tx.toArray⟩:ByteArray)[m]'m1).toNat:Int)) == ((((⟨py.toArray⟩:ByteArray)[m]'m2).toNat:Int)))=false:=by
          rw [Xv tx m l1,Xv py m l2]
          have:¬ (tx[m]'l1).toNat=(py[m]'l2).toNat:=fun h=>hne (cF.1 h)
          simp;omega
         clear hne v3 q3
         go_quiet (fail)
         go_wp2_with fail
         go_meet
         case rel=>exact ⟨rfl,below_drewN hBi nq⟩
        ·have i2:decide ((m:Int) < (py.length:Int))=false:=by simp;omega
         clear v3 q3
         go_quiet (fail)
         go_wp2_with fail
         go_meet
         case rel=>exact ⟨rfl,below_drewN hBi nq⟩
       ·have i1:decide ((m:Int) < (tx.length:Int))=false:=by simp;omega
        clear v3 q3
        go_quiet (fail)
        go_wp2_with fail
        go_meet
        case rel=>exact ⟨rfl,below_drewN hBi nq⟩
      case rest =>
       obtain ⟨rfl,hBj⟩:=hcut
       have x4:=(hBj.cell (p:=⟨G,2,none⟩) (by show G < _;omega)).trans v3
       have hzj:=hBj.size
       clear x3 p3 v3 q3 hBi
       have j1:(m:Int)≤(tx.length:Int):=by omega
       have hq1:¬ (9223372036854775807 < acc.length+(uB m).length):=by omega
       have hq2:¬ (9223372036854775807 < acc.length+(uB m).length+(xB (tx.drop m)).length):=by omega
       go_wp2_with fail
       go_region_held3 (fun w'=>w'.cell? ⟨G,2,none⟩=some (strB tx)) (first|assumption|simp [*])
        (first
         | (go_at_call 147;refine (Pf (m:Int) _ ?_ ?_).mono ?_;omega;omega;rintro e w5 ⟨rfl,hb5⟩;rw [aY];have x5:=(hb5.cell (p:=⟨G,2,none⟩) (show G < wc.heap.size by omega)).trans x4)
         | (go_at_call 146;refine (Ml _ _ (LZ tx m s3)).mono ?_;rintro e w6 ⟨rfl,hb6⟩;rw [IJ];have x6:=(hb6.cell (p:=⟨G,2,none⟩) (aa (show G < wc.heap.size by omega) hb5.size)).trans x5))
       have hB6:Below w.heap.size w w6:=hB3.trans ((hBj.trans ((ji hb5).mono hzj)).trans (hb6.mono (ar hzj hb5.size)) |>.mono hz3)
       have HB6:=hid hB6
       clear hB6 x4 x5 x6 hb5 hb6 hq1 hq2
       go_wp2
       go_roundw
       case rel=>exact ⟨k+1,by omega,by go_num,by rw [HS.out,HT.out,← af,xo,xo],HB6.out⟩
       case measure=>simp [intOf];omega
  ·have hke:k=l.length:=by omega
   subst hke
   go_wp2
   go_ret
   exact ⟨qC (by simp [qy]),hB⟩
end
section
theorem DF (s t:List UInt8) (w:World) (h1:s.length≤12) (h2:t.length≤12) :
  Calls Tryz.prog 248 #[strB s,strB t] w fun e w'=>e=.returned (.int .i64 (jN s t:Int))∧Below w.heap.size w w':=by
 have hs:=jR s
 have ht:=jR t
 have hle:=Jh s t
 have HSL:=hid (UN s t)
 have HSE:=hid (Gw s t)
 obtain ⟨hle1,hle2⟩:=hle
 generalize jN s t=sh at *
 go_enter Tryz.func248,Tryz.ntmps248
 go_wp2
 go_loopw [5] (fun i wr=>∃ k:Nat,k≤sh∧i=.int .i64 (k:Int)∧Below w.heap.size w wr) (fun i _=>sh - (intOf i).toNat)
 case atStart=>exact ⟨0,ah _,rfl,Below.refl _ _⟩
 case round =>
  obtain ⟨m,hm,rfl,hB⟩:=hrel
  by_cases hmr:m < sh
  ·have l1:m < s.length:=by omega
   have l2:m < t.length:=by omega
   have m1:m < (⟨s.toArray⟩:ByteArray).size:=by rw [jR];exact l1
   have m2:m < (⟨t.toArray⟩:ByteArray).size:=by rw [jR];exact l2
   have he:(((((⟨s.toArray⟩:ByteArray)[m]'m1).toNat:Int)) == ((((⟨t.toArray⟩:ByteArray)[m]'m2).toNat:Int)))=true:=by
    rw [Xv s m l1,Xv t m l2,HSL.out m hmr l1 l2];simp
   have i1:(m:Int) < (s.length:Int):=by omega
   have i2:(m:Int) < (t.length:Int):=by omega
   go_wp2_with fail
   go_quiet (fail)
   go_wp2
   go_roundw
   case rel=>exact ⟨m+1,by omega,by go_num,below_drewN hB nq⟩
   case measure=>simp [intOf];omega
  ·have hme:m=sh:=by omega
   subst hme
   by_cases l1:m < s.length
   ·have i1:(m:Int) < (s.length:Int):=by omega
    by_cases l2:m < t.length
    ·have i2:(m:Int) < (t.length:Int):=by omega
     have hne:=HSE.out l1 l2
     have m1:m < (⟨s.toArray⟩:ByteArray).size:=by rw [jR];exact l1
     have m2:m < (⟨t.toArray⟩:ByteArray).size:=by rw [jR];exact l2
     have hne2:(((((⟨s.toArray⟩:ByteArray)[m]'m1).toNat:Int)) == ((((⟨t.toArray⟩:ByteArray)[m]'m2).toNat:Int)))=false:=by
      rw [Xv s m l1,Xv t m l2]
      have:¬ (s[m]'l1).toNat=(t[m]'l2).toNat:=fun h=>hne (cF.1 h)
      simp;omega
     clear hne
     go_wp2_with fail
     go_quiet (fail)
     go_wp2
     go_ret
     exact ⟨rfl,below_drewN hB nq⟩
    ·have i2:decide ((m:Int) < (t.length:Int))=false:=by simp;omega
     go_wp2_with fail
     go_quiet (fail)
     go_wp2
     go_ret
     exact ⟨rfl,below_drewN hB nq⟩
   ·have i1:decide ((m:Int) < (s.length:Int))=false:=by simp;omega
    go_wp2_with fail
    go_quiet (fail)
    go_wp2
    go_ret
    exact ⟨rfl,below_drewN hB nq⟩
theorem Px (kind:Int) (w:World) :
  Calls Tryz.prog 65 #[.int .i64 kind] w fun e w'=>e=.returned (.bool (decide (kind=0) || decide (kind=1)))∧w'=w:=by
 by_cases h0:kind=0
 ·subst h0
  go_enter Tryz.func65,Tryz.ntmps65
  go_wp2
  go_ret
  exact ⟨rfl,rfl⟩
 ·have k0:(kind == 0)=false:=by simp [h0]
  by_cases h1:kind=1
  ·subst h1
   go_enter Tryz.func65,Tryz.ntmps65
   go_wp2
   go_ret
   exact ⟨rfl,rfl⟩
  ·have k1:(kind == 1)=false:=by simp [h1]
   have HK:Hid ((decide (kind=0) || decide (kind=1))=false):=by simp [Hid,h0,h1]
   clear h0 h1
   go_enter Tryz.func65,Tryz.ntmps65
   go_wp2
   go_ret
   exact ⟨jP HK.out.symm,rfl⟩
end
end Go.Proofs.YthhpbhpfagoapaaGreat
