import Derived.Test.YthhpbhpfagoapaaGreatRGuess2
import Derived.Test.YthhpbhpfagoapaaGreatJAF
import Derived.Test.YthhpbhpfagoapaaGreatJAE
import Derived.Test.YthhpbhpfagoapaaGreatRPage
import Derived.Test.YthhpbhpfagoapaaGreatJAI
import Derived.Deep.CutBlock
import Derived.Test.YthhpbhpfagoapaaGreatJAV
import Derived.Test.YthhpbhpfagoapaaGreatJAP
import Derived.Test.YthhpbhpfagoapaaGreatTk
import Derived.Test.YthhpbhpfagoapaaGreatJAX
import Derived.Test.YthhpbhpfagoapaaGreatYForm4
import Derived.Test.YthhpbhpfagoapaaGreatWTab
namespace Go.Proofs.YthhpbhpfagoapaaGreat
set_option linter.unusedVariables false
set_option linter.unusedSimpArgs false
set_option maxRecDepth 100000
set_option maxHeartbeats 16000000
open Go.RowKit
section
set_option maxRecDepth 100000 in
theorem Mw (kind:Int) (s:List UInt8) (w:World) (hk:kind=0∨kind=1) (hs:s.length≤maxLen) :
  Calls Tryz.prog 112 #[.int .i64 kind,strB s] w fun e w'=>∃ v,e=.returned (.tuple #[v,.bool (qU kind s).isSome])∧YZ w' v (qU kind s)∧Below w.heap.size w w':=by
 obtain ⟨i1,hi1,hy0,hy1,hy2⟩:=info_parts Tryz.infoCell
 go_enter Tryz.func112,Tryz.ntmps112
 go_upto_region 1 with fail
 go_cut [23] (fun t wc=>t=.bool false∧w=wc)
 case first =>
  have hkk:(kind != 0)=false∨(kind != 0)=true∧(kind != 1)=false:=by rcases hk with rfl|rfl<;>simp
  rcases hkk with hk0|⟨hk0,hk1⟩
  ·go_wp2_with fail
   go_meet
   case rel=>exact ⟨rfl,rfl⟩
  ·go_wp2_with fail
   go_meet
   case rel=>exact ⟨rfl,rfl⟩
 case rest =>
  obtain ⟨rfl,rfl⟩:=hcut
  go_wp2_with fail
  have hsp1:=UM w s
  have HB1:=hid ((Below.refl w.heap.size w).alloc (Nat.le_refl _) (Obj.cells #[strB s,Value.int IntKind.i64 0,Value.bool false] 243))
  have hz1:w.heap.size < (w.alloc (Obj.cells #[strB s,Value.int IntKind.i64 0,Value.bool false] 243)).heap.size:=by simp
  generalize w.alloc (Obj.cells #[strB s,Value.int IntKind.i64 0,Value.bool false] 243)=w1 at *
  obtain ⟨p,hpe⟩:∃ p,p=w.heap.size:=⟨_,rfl⟩
  rw [← hpe] at hsp1 hz1 ⊢
  have Hpe:=hid hpe
  clear hpe
  refine (Jr p s (some s) 60 _ hs (by decide) (by decide) hsp1).mono ?_
  rintro e w2 ⟨rfl,hsp2,hg2⟩
  have e60:(60:Int).toNat=60:=rfl
  rw [e60] at hsp2 ⊢
  have hn:=xI 60 (some s)
  have HU:Hid (∃ n st2,jJ 60 (some s)=(n,st2)):=⟨_,_,rfl⟩
  have HR0:Hid (Runs w1 w2 p s (jJ 60 (some s)).2 (.slice none 0 0) []):=⟨World.ownsRow_nil _ _ _ _,hsp2,hg2⟩
  obtain ⟨n,st2,hfe⟩:=HU.out
  rw [hfe] at hn HR0 ⊢
  have Hfe:=hid hfe
  simp only at hn HR0 ⊢
  clear e60 hsp1 hsp2 hg2 HU hfe
  go_upto_block 0 with fail
  go_cut [8,9,10,11,12,13] (fun lv cv _ _ _ _ wc=>∃ (fl:List Bool) (st3:Option (List UInt8)),cv=.int .i64 (jO fl:Int)∧Runs w1 wc p s st3 lv fl∧fl.length≤n∧zW n 200 [] false st2=(fl,st3))
  case first =>
   go_wp2_with fail
   go_loopw [8,9,10,11,12,13] (fun lv cv bv rv _ _ wr=>∃ (R:Nat) (fl:List Bool) (b:Bool) (str:Option (List UInt8)),R≤200∧rv=.int .i64 (R:Int)∧cv=.int .i64 (jO fl:Int)∧bv=.bool b∧Runs w1 wr p s str lv fl∧fl.length≤n∧zW n (200 - R) fl b str=zW n 200 [] false st2)
    (fun _ _ _ rv _ _ _=>200 - (intOf rv).toNat)
   case atStart=>exact ⟨0,[],false,st2,by omega,rfl,rfl,rfl,HR0.out,Nat.zero_le _,rfl⟩
   case round =>
    obtain ⟨R,fl,b,str,hR,rfl,rfl,rfl,hr,hfn,hrun⟩:=hrel
    obtain ⟨a,cap,rfl,_,_⟩:=JA hr.row (Yn fl)
    rw [List.length_map] at *
    obtain ⟨hbad,hbf⟩:=Jw hr.spot
    have Hr:=hid hr
    have Hrun:=hid hrun
    clear hr hrun hbf
    have hcl:=Ip fl
    by_cases hgo:fl.length < n∧R < 200∧str.isSome=true
    ·obtain ⟨hlt,hR2,hso⟩:=hgo
     obtain ⟨r0,rfl⟩:=Option.isSome_iff_exists.1 hso
     simp only [JO] at hbad
     clear hso
     go_wp2_with fail
     refine (Jr p s (some r0) _ _ hs (by omega) (by omega) Hr.out.spot).mono ?_
     rintro e w3 ⟨rfl,hsp3,hg3⟩
     have e12:((n:Int) - (fl.length:Int)).toNat=n - fl.length:=by omega
     rw [e12] at hsp3 ⊢
     have hfl:=xI (n - fl.length) (some r0)
     have Hrun2:Hid (zW n (200 - (R+1)) (fl++List.replicate (jJ (n - fl.length) (some r0)).1 b) (!b) (jJ (n - fl.length) (some r0)).2=zW n 200 [] false st2):=by
      have h1:=Hrun.out
      rw [show 200 - R=(200 - (R+1))+1 by omega,zW,if_pos ⟨hlt,rfl⟩] at h1
      exact h1
     have HR3:Hid (Runs w1 w3 p s (jJ (n - fl.length) (some r0)).2 (.slice a fl.length cap) (fl++List.replicate 0 b)):=by
      rw [List.replicate_zero,List.append_nil]
      exact ⟨qS Hr.out.row hz1 hg3,hsp3,ja Hr.out.grown hg3⟩
     clear hsp3 hg3 Hr Hrun e12 hbad
     generalize jJ (n - fl.length) (some r0)=fr at *
     obtain ⟨k,st3⟩:=fr
     simp only at hfl Hrun2 HR3 ⊢
     go_wp2_with fail
     go_loopw [8,13] (fun lv i w3=>∃ j:Nat,j≤k∧i=.int .i64 (j:Int)∧Runs w1 w3 p s st3 lv (fl++List.replicate j b)) (fun _ i _=>k - (intOf i).toNat)
     case atStart=>exact ⟨0,Nat.zero_le _,rfl,HR3.out⟩
     case round =>
      obtain ⟨j,hjk,rfl,hm⟩:=hrel
      have Hm:=hid hm
      have hrow:=hm.row
      have hzw:=hm.grown.size
      clear hm HR3
      have hlr:(fl++List.replicate j b).length≤60:=by rw [List.length_append,List.length_replicate];omega
      by_cases hjl:j < k
      ·go_wp2_with (at_builtin;refine wpList_append_own _ rfl (.tmp 57) (.tmp 60) 59 rfl w1.heap.size 58 i1 (.agg #[.bool false,.int .i64 0,.string ⟨#[]⟩]) 3 32 Tryz.underlying59 hi1 hy0 hy1 hy2 rfl (by decide) _ _ _ rfl (hrow.alloc _) ⟨_,0,none⟩ 1 1 [.bool b,.int .i64 0,.string ⟨#[]⟩] rfl rfl ?c1 ?c2 ?c3 ?c4 ?c5 ?_)
       case c1=>exact qj _ #[.bool b,.int .i64 0,.string ⟨#[]⟩] 58
       case c2=>intro u hu;simp at hu;rcases hu with rfl|rfl|rfl<;>rfl
       case c3=>unfold maxLen;omega
       case c4=>omega
       case c5=>simp;omega
       intro v4 w4 hl4 hg4 _
       have HR:=hid (Mn hz1 Hm.out (by rw [List.length_append,List.length_replicate,List.map_append,List.map_replicate];exact hl4) hg4)
       clear hl4 hg4 hrow Hm
       go_wp2
       go_roundw
       case rel=>exact ⟨j+1,by omega,by go_num,HR.out⟩
       case measure=>simp [intOf];omega
      ·have hje:j=k:=by omega
       subst hje
       clear hjl hrow
       cases b with
       | true =>
        have HC:Hid (jO (fl++List.replicate j true)=jO fl):=(ZL fl j).2
        go_wp2_with fail
        go_roundw
        case rel=>exact ⟨R+1,_,false,_,by omega,by go_num,by rw [HC.out],rfl,Hm.out,by rw [List.length_append,List.length_replicate];omega,Hrun2.out⟩
        case measure=>simp [intOf];omega
       | false =>
        have HC:Hid (jO (fl++List.replicate j false)=jO fl+j):=(ZL fl j).1
        go_wp2_with fail
        go_roundw
        case rel=>exact ⟨R+1,_,true,_,by omega,by go_num,by rw [HC.out];go_num,rfl,Hm.out,by rw [List.length_append,List.length_replicate];omega,Hrun2.out⟩
        case measure=>simp [intOf];omega
    ·have HE:Hid (zW n 200 [] false st2=(fl,str)):=by
      rw [Hid,← Hrun.out]
      by_cases hR3:R < 200
      ·exact Am _ _ _ _ _ (fun h=>hgo ⟨h.1,hR3,h.2⟩)
      ·rw [show 200 - R=0 by omega];rfl
     by_cases hlt:fl.length < n
     ·by_cases hR3:R < 200
      ·have hb2:JO str=true:=by
        cases str with
        | none=>rfl
        | some x=>exact absurd ⟨hlt,hR3,rfl⟩ hgo
       rw [hb2] at hbad
       clear hgo hb2
       go_wp2_with fail
       go_meet
       case rel=>exact ⟨fl,str,rfl,Hr.out,hfn,HE.out⟩
      ·have hR4:R=200:=by omega
       subst hR4
       clear hgo hR3 hbad
       go_wp2_with fail
       go_meet
       case rel=>exact ⟨fl,str,rfl,Hr.out,hfn,HE.out⟩
     ·have hle:n≤fl.length:=by omega
      clear hgo hlt hbad
      go_wp2_with fail
      go_meet
      case rel=>exact ⟨fl,str,rfl,Hr.out,hfn,HE.out⟩
  case rest =>
   obtain ⟨fl,st3,rfl,hr,hfn,hrun⟩:=hcut
   obtain ⟨a,cap,hlv,-,-⟩:=JA hr.row (Yn fl)
   rw [List.length_map] at hlv
   subst hlv
   obtain ⟨hbad,hbf⟩:=Jw hr.spot
   have Hr:=hid hr
   have Hrun:=hid hrun
   have HB3:=hid (Ei HB1.out hr.grown (Nat.le_of_eq Hpe.out.symm))
   clear hr hrun hbf HR0
   have hcl:=Ip fl
   by_cases hno:st3=none∨fl.length≠n
   ·have HN:Hid (qU kind s=none):=by
     simp only [Hid,qU,Xe,Hfe.out,Hrun.out]
     rw [if_pos hno]
    by_cases hb3:st3=none
    ·subst hb3
     simp only [JO] at hbad
     clear hno
     go_wp2_with fail
     go_ret2
     rw [HN.out]
     exact ⟨_,rfl,⟨none,0,rfl⟩,HB3.out⟩
    ·have hb4:JO st3=false:=by
      cases st3 with
      | none=>exact absurd rfl hb3
      | some x=>rfl
     have hne:((fl.length:Int) != (n:Int))=true:=by
      have:fl.length≠n:=hno.resolve_left hb3
      simp;omega
     rw [hb4] at hbad
     clear hno hb3 hb4
     go_wp2
     go_ret2
     rw [HN.out]
     exact ⟨_,rfl,⟨none,0,rfl⟩,HB3.out⟩
   ·have hno1:st3≠none:=fun h=>hno (.inl h)
    have hno2:fl.length=n:=Classical.byContradiction fun h=>hno (.inr h)
    have hb4:JO st3=false:=by
     cases st3 with
     | none=>exact absurd rfl hno1
     | some x=>rfl
    subst hno2
    have hne:((fl.length:Int) != (fl.length:Int))=false:=by simp
    rw [hb4] at hbad
    clear hno1 hb4
    go_upto_if 80 with fail
    go_cut [14,15,16] (fun _ _ _ wx=>∃ L:List CellB,L.length=fl.length∧(∀ c ∈ L,okC c)∧wx.ownsRow w1.heap.size 58 3 (.slice a fl.length cap) fl.length (jG L)∧Below w.heap.size w wx∧Xe kind s=some L)
    case first =>
     have HC:Hid (Xe kind s=if jO fl=0 then some (qh fl []) else if (xQ kind (jO fl) st3).2=none∨(xQ kind (jO fl) st3).1.length≠jO fl then none else some (qh fl (xQ kind (jO fl) st3).1)):=by
      simp only [Hid,Xe,Hfe.out,Hrun.out]
      rw [if_neg hno]
     clear hno
     by_cases hc0:jO fl=0
     ·have hcz:(jO fl:Int)=0:=by omega
      have HE:Hid (Xe kind s=some (fl.map Xx)):=by
       rw [Hid,HC.out,if_pos hc0,AD fl hc0]
      clear hc0
      go_wp2_with fail
      go_meet
      case rel=>exact ⟨_,by simp,Yn fl,Hr.out.row,HB3.out,HE.out⟩
     ·have hcp:(0:Int) < (jO fl:Int):=by omega
      have hpc:p < wc.heap.size:=Nat.lt_of_lt_of_le hz1 Hr.out.grown.size
      have hcn:jO fl≤60:=by omega
      go_wp2_with fail
      refine (YX p s st3 kind (jO fl) _ hs hpc hcn hk Hr.out.spot).mono ?_
      rintro e w5 ⟨v5,rfl,hrow5,hok5,hsp5,hg5⟩
      have HC2:=HC.out
      rw [if_neg hc0] at HC2
      generalize xQ kind (jO fl) st3=gr at *
      obtain ⟨V,st5⟩:=gr
      simp only at hrow5 hok5 hsp5 HC2
      have HC3:=hid HC2
      clear HC HC2 hc0
      obtain ⟨a5,cap5,rfl,-,-⟩:=JA hrow5 hok5
      obtain ⟨hbad5,-⟩:=Jw hsp5
      have HW5:=hid hrow5
      have HO5:=hid hok5
      have HB5:=hid (HB3.out.grown hg5 HB3.out.size (fun k hk=>by simp at hk;have:=Hpe.out;omega))
      have HR5:=hid (qS Hr.out.row hz1 hg5)
      have hz5:=hg5.size
      clear hrow5 hok5 hsp5 hg5 hbad
      by_cases hno5:st5=none∨V.length≠jO fl
      ·have HN:Hid (qU kind s=none):=by
        have h1:=HC3.out
        rw [if_pos hno5] at h1
        simp only [Hid,qU,h1]
       by_cases hb3:st5=none
       ·subst hb3
        simp only [JO] at hbad5
        clear hno5
        go_wp2_with fail
        go_ret2
        rw [HN.out]
        exact ⟨_,rfl,⟨none,0,rfl⟩,HB5.out⟩
       ·have hb4:JO st5=false:=by
         cases st5 with
         | none=>exact absurd rfl hb3
         | some x=>rfl
        have hne5:((V.length:Int) != (jO fl:Int))=true:=by
         have:V.length≠jO fl:=hno5.resolve_left hb3
         simp;omega
        rw [hb4] at hbad5
        clear hno5 hb3 hb4
        go_wp2_with fail
        go_ret2
        rw [HN.out]
        exact ⟨_,rfl,⟨none,0,rfl⟩,HB5.out⟩
      ·have hV1:st5≠none:=fun h=>hno5 (.inl h)
       have hV2:V.length=jO fl:=Classical.byContradiction fun h=>hno5 (.inr h)
       have HE:Hid (Xe kind s=some (qh fl V)):=by
        have h1:=HC3.out
        rw [if_neg hno5] at h1
        exact h1
       have hb4:JO st5=false:=by
        cases st5 with
        | none=>exact absurd rfl hV1
        | some x=>rfl
       have hne5:((V.length:Int) != (jO fl:Int))=false:=by simp;omega
       rw [hb4] at hbad5
       have HV2:=hid hV2
       clear hno5 hV1 hb4 HC3 hV2
       go_upto_block 4 with fail
       obtain ⟨g,rfl,hgB⟩:∃ g,a=some ⟨g,0,none⟩∧w1.heap.size≤g:=by
        rcases HR5.out.2 with ⟨h1,h2⟩|⟨g,c,cur,h1,h2,h3⟩
        ·omega
        ·simp only [Value.slice.injEq] at h1
         exact ⟨g,h1.1,h2⟩
       have hgc:g < wc.heap.size:=(Hr.out.row.lt g rfl).2
       clear hbad5 hne5
       go_wp2_with fail
       go_loopw [15,16] (fun av i wr=>∃ k:Nat,k≤fl.length∧i=.int .i64 (k:Int)∧av=.int .i64 (jO (fl.take k):Int)∧wr.ownsRow w1.heap.size 58 3 (.slice (some ⟨g,0,none⟩) fl.length cap) fl.length (jG (Ze fl V k))∧wr.ownsRow wc.heap.size 58 3 (.slice a5 V.length cap5) V.length (jG V)∧Below w.heap.size w wr)
        (fun _ i _=>fl.length - (intOf i).toNat)
       case atStart=>exact ⟨0,Nat.zero_le _,rfl,rfl,by rw [Ti];exact HR5.out,HW5.out,HB5.out⟩
       case round =>
        obtain ⟨k,hkn,rfl,rfl,hrw,hvw,hB⟩:=hrel
        have Hrw:=hid hrw
        have Hvw:=hid hvw
        have HB:=hid hB
        clear hrw hvw hB
        by_cases hlt:k < fl.length
        ·have hrow:=Hrw.out
         obtain ⟨c1,c2,c3,f1,f2,f3⟩:=Tb hrow (by rw [ZN]) k hlt (Xx fl[k]) (SP fl V k hlt)
         cases hfk:fl[k] with
         | true =>
          rw [hfk] at c1 c2 c3
          simp only [Xx] at c1 c2 c3
          have HM:Hid (Ze fl V (k+1)=Ze fl V k):=TB fl V k hlt hfk
          have HA:Hid (jO (fl.take (k+1))=jO (fl.take k)):=Gw fl k hlt hfk
          clear hrow hfk c2 c3 f1 f2 f3
          go_wp2_with fail
          go_roundw
          case rel=>exact ⟨k+1,by omega,by go_num,by rw [HA.out],by rw [HM.out];exact Hrw.out,Hvw.out,HB.out⟩
          case measure=>simp [intOf];omega
         | false =>
          rw [hfk] at c1 c2 c3
          simp only [Xx] at c1 c2 c3
          obtain ⟨ht1,ht2⟩:=Rj fl k hlt hfk
          have HA:=hid ht2
          have hat:jO (fl.take k) < V.length:=by rw [HV2.out];exact ht1
          have HM:Hid (Ze fl V (k+1)=(Ze fl V k).set k (V[jO (fl.take k)]'hat)):=MQ fl V k hlt hfk hat
          obtain ⟨g5,rfl,hg5⟩:∃ g5,a5=some ⟨g5,0,none⟩∧wc.heap.size≤g5:=by
           rcases Hvw.out.2 with ⟨h1,h2⟩|⟨g,c,cur,h1,h2,h3⟩
           ·omega
           ·simp only [Value.slice.injEq] at h1
            exact ⟨g,h1.1,h2⟩
          obtain ⟨d1,d2,d3,-,-,-⟩:=Tb Hvw.out rfl (jO (fl.take k)) hat _ (List.getElem?_eq_getElem hat)
          have hat6:jO (fl.take k)≤60:=by have:=HV2.out;omega
          generalize hatd:jO (fl.take k)=at_ at *
          have hati:(at_:Int) < (V.length:Int):=by omega
          clear hrow hfk ht1 ht2
          have HS:Hid ((((wr.setCell ⟨g,k*3,none⟩ (.bool (V[at_]).null)).setCell ⟨g,k*3+1,none⟩ (.int .i64 (V[at_]).int)).setCell ⟨g,k*3+2,none⟩ (strB (V[at_]).text)).ownsRow w1.heap.size 58 3 (.slice (some ⟨g,0,none⟩) fl.length cap) fl.length (jG (Ze fl V (k+1)))):=by
           have h:=PZ (l:=Ze fl V k) (c:=V[at_]) (k:=k) (by rw [ZN];exact Hrw.out) (by rw [ZN];exact hlt)
           rw [ZN] at h
           rw [Hid,HM.out]
           exact h
          have HG:=hid (Rr wr g (k*3) (k*3+1) (k*3+2) (.bool (V[at_]).null) (.int .i64 (V[at_]).int) (strB (V[at_]).text))
          have HV:Hid ((((wr.setCell ⟨g,k*3,none⟩ (.bool (V[at_]).null)).setCell ⟨g,k*3+1,none⟩ (.int .i64 (V[at_]).int)).setCell ⟨g,k*3+2,none⟩ (strB (V[at_]).text)).ownsRow wc.heap.size 58 3 (.slice (some ⟨g5,0,none⟩) V.length cap5) V.length (jG V)) :=
           Hvw.out.kept HG.out (.inr (by simp only [Value.ownBlock,ne_eq,Option.some.injEq];omega))
          have HB8:=hid (HB.out.grown HG.out HB.out.size (fun j hj=>by simp at hj;have:=HB1.out.size;omega))
          go_wp2_with fail
          go_roundw
          case rel=>exact ⟨k+1,by omega,by go_num,by rw [HA.out];go_num,HS.out,HV.out,HB8.out⟩
          case measure=>simp [intOf];omega
        ·have hke:k=fl.length:=by omega
         subst hke
         go_wp2_with fail
         go_meet
         case rel=>exact ⟨qh fl V,JG _ _,Tm fl V HO5.out,by rw [← Ss];exact Hrw.out,HB.out,HE.out⟩
    case rest =>
     obtain ⟨L,hLn,hokL,hrowL,hBL,hcl2⟩:=hcut
     obtain ⟨a2,cap2,hav,-,hlies⟩:=JA hrowL hokL
     have HL:=hid hlies
     have HB9:=hid hBL
     have HU:Hid (qU kind s=if qD kind L=true∧xw kind L=s then some L else none):=by simp only [Hid,qU,hcl2]
     have hL60:L.length≤60:=by omega
     obtain ⟨rfl,hcc,rfl⟩:a=a2∧fl.length=L.length∧cap=cap2:=by simpa using hav
     have HOK:=hid hokL
     rw [hcc]
     clear hav hrowL hokL hlies hBL hcl2 hno hne hcc hLn hfn hcl
     go_wp2_with fail
     refine (CK kind a cap L _ (by unfold maxLen;omega) HL.out).mono ?_
     rintro e w6 ⟨rfl,hb6⟩
     have HL6:=hid (HL.out.later hb6)
     have HB6:=hid (HB9.out.trans (hb6.mono HB9.out.size))
     clear hb6
     cases hok:qD kind L with
     | false =>
      have HN:Hid (qU kind s=none):=by
       rw [Hid,HU.out,if_neg (by simp [hok])]
      clear hok
      go_wp2_with fail
      go_ret2
      rw [HN.out]
      exact ⟨_,rfl,⟨none,0,rfl⟩,HB6.out⟩
     | true =>
      have hsm:=(TJ hok HOK.out).1
      have HV:Hid (Vals w6 a L):=⟨HL6.out,hsm,hL60⟩
      have HU2:Hid (qU kind s=if xw kind L=s then some L else none):=by
       rw [Hid,HU.out,hok];simp
      clear hok hsm
      go_wp2_with fail
      refine (TM kind a cap L _ HV.out).mono ?_
      rintro e w7 ⟨rfl,hb7⟩
      have HL7:=hid (HL6.out.later hb7)
      have HB7:=hid (HB6.out.trans (hb7.mono HB6.out.size))
      clear hb7
      by_cases heq:xw kind L=s
      ·have HS9:Hid (qU kind s=some L):=by rw [Hid,HU2.out,if_pos heq]
       rw [heq]
       clear HU2 HU heq
       go_wp2_with fail
       go_ret2
       rw [HS9.out]
       exact ⟨_,rfl,⟨a,cap,rfl,HL7.out⟩,HB7.out⟩
      ·have HN:Hid (qU kind s=none):=by rw [Hid,HU2.out,if_neg heq]
       have hbn:(xw kind L == s)=false:=by simp [heq]
       clear HU2 HU heq
       generalize xw kind L=pg at *
       go_wp2_with fail
       go_ret2
       rw [HN.out]
       exact ⟨_,rfl,⟨none,0,rfl⟩,HB7.out⟩
end
section
theorem ToldAt.later {w x:World} {T base:Nat} {S:SheetF} (h:ToldAt w T base S) (hb:Below w.heap.size w x):ToldAt x T base S:=by
 obtain ⟨cv,sv,pv,ev,h1,h2,h3,h4,h5⟩:=h
 exact ⟨cv,sv,pv,ev,jb hb h1,jw h2 hb,jw h3 hb,jw h4 hb,jw h5 hb⟩
theorem Cb {w:World} {base n:Nat} {pa:Option Addr} {pc:Nat} {M:List ModF} (h:w.ownsRow base 9 1 (.slice pa n pc) n (JT M)) (k:Nat) (hk:k < M.length) :
  ∃ g,pa=some ⟨g,0,none⟩∧g < w.heap.size∧w.cell? ⟨g,k,none⟩=some (strB (M[k]).plain):=by
 have hl:(JT M).length=M.length:=by simp [JT]
 have hn:n=M.length:=by have:=h.1;omega
 rcases h.2 with ⟨h0,h1⟩|⟨g,cap,cur,hv,_⟩
 ·omega
 ·simp only [Value.slice.injEq] at hv
  obtain ⟨rfl,_,rfl⟩:=hv
  refine ⟨g,rfl,(h.lt g rfl).2,?_⟩
  rw [h.cellAt _ (by omega)]
  simp [JT,hk]
theorem PP {w:World} {base n:Nat} {ea:Option Addr} {ec:Nat} {M:List ModF} (h:w.ownsRow base 167 2 (.slice ea n ec) n (zR M)) (k:Nat) (hk:k < M.length) :
  ∃ g,ea=some ⟨g,0,none⟩∧g < w.heap.size∧w.cell? ⟨g,k*2,none⟩=some (strB (M[k]).nonce)∧w.cell? ⟨g,k*2+1,none⟩=some (strB (M[k]).body):=by
 have hl:(zR M).length=M.length*2:=XQ (fun m:ModF=>[strB m.nonce,strB m.body]) 2 (fun _=>rfl) M
 have hn:n=M.length:=by have:=h.1;omega
 have at_:∀ i,i < 2→(zR M)[k*2+i]?=([strB (M[k]).nonce,strB (M[k]).body]:List Value)[i]?:=fun i hi=>Xp (fun m:ModF=>[strB m.nonce,strB m.body]) 2 (fun _=>rfl) M k i hk hi
 rcases h.2 with ⟨h0,h1⟩|⟨g,cap,cur,hv,_⟩
 ·omega
 ·simp only [Value.slice.injEq] at hv
  obtain ⟨rfl,_,rfl⟩:=hv
  refine ⟨g,rfl,(h.lt g rfl).2,?_,?_⟩
  ·rw [h.cellAt _ (by omega)];exact at_ 0 (by decide)
  ·rw [h.cellAt _ (by omega)];exact at_ 1 (by decide)
theorem Se (w:World) (A B C:Array Value) (ta tb tc:TypeId) :
  Below w.heap.size w (((w.alloc (.cells A ta)).alloc (.cells B tb)).alloc (.cells C tc))∧(((w.alloc (.cells A ta)).alloc (.cells B tb)).alloc (.cells C tc)).heap[w.heap.size]?=some (.cells A ta (0,0))∧(((w.alloc (.cells A ta)).alloc (.cells B tb)).alloc (.cells C tc)).heap[w.heap.size+1]?=some (.cells B tb (0,0))∧(((w.alloc (.cells A ta)).alloc (.cells B tb)).alloc (.cells C tc)).heap[w.heap.size+2]?=some (.cells C tc (0,0)):=by
 obtain ⟨hb,_,h0,h1⟩:=JP w A ta B tb
 obtain ⟨hb2,_,_,h2⟩:=qg ((w.alloc (.cells A ta)).alloc (.cells B tb)) C tc
 have hs:((w.alloc (.cells A ta)).alloc (.cells B tb)).heap.size=w.heap.size+2:=by simp
 rw [hs] at h2
 exact ⟨hb.trans (hb2.mono hb.size),jb hb2 h0,jb hb2 h1,h2⟩
theorem Ur {w:World} {q:Nat} {a b c d e:Value} {t:TypeId} (hh:w.heap[q]?=some (.cells #[a,b,c,d,e] t (0,0))) :
  w.cell? ⟨q,0,none⟩=some a∧w.cell? ⟨q,1,none⟩=some b∧w.cell? ⟨q,2,none⟩=some c∧w.cell? ⟨q,3,none⟩=some d∧w.cell? ⟨q,4,none⟩=some e:=by
 refine ⟨?_,?_,?_,?_,?_⟩<;>rw [cell_of_row w q _ _ _ (0,0) hh]<;>rfl
theorem JV {w:World} {q:Nat} {a b c d e f:Value} {t:TypeId} (hh:w.heap[q]?=some (.cells #[a,b,c,d,e,f] t (0,0))) :
  w.cell? ⟨q,0,none⟩=some a∧w.cell? ⟨q,1,none⟩=some b∧w.cell? ⟨q,2,none⟩=some c∧w.cell? ⟨q,3,none⟩=some d∧w.cell? ⟨q,4,none⟩=some e∧w.cell? ⟨q,5,none⟩=some f:=by
 refine ⟨?_,?_,?_,?_,?_,?_⟩<;>rw [cell_of_row w q _ _ _ (0,0) hh]<;>rfl
theorem KF {w:World} {q:Nat} {a b c d:Value} {t:TypeId} (hh:w.heap[q]?=some (.cells #[a,b,c,d] t (0,0))) :
  w.cell? ⟨q,0,none⟩=some a∧w.cell? ⟨q,1,none⟩=some b∧w.cell? ⟨q,2,none⟩=some c∧w.cell? ⟨q,3,none⟩=some d:=by
 refine ⟨?_,?_,?_,?_⟩<;>rw [cell_of_row w q _ _ _ (0,0) hh]<;>rfl
abbrev found0:Array Value:=#[Value.string { data:=#[] },.int .i64 0,.int .i64 0,.int .i64 0,nilV]
structure CAt (x w:World) (col fnd:Array Value) (cv:Value) (cells:List CellB) (sv:Value) (n:Nat) (xs:List Value):Prop where
 below:Below w.heap.size w x
 b0:x.heap[w.heap.size]?=some (.cells found0 91 (0,0))
 b1:x.heap[w.heap.size+1]?=some (.cells col 61 (0,0))
 b2:x.heap[w.heap.size+2]?=some (.cells fnd 91 (0,0))
 cellrow:x.ownsRow (w.heap.size+3) 58 3 cv cells.length (jG cells)
 sealrow:x.ownsRow (w.heap.size+3) 40 4 sv n xs
 one:∀ u ∈ xs,u.oneCell'=true
section
variable {x y w:World} {col fnd:Array Value} {cv:Value} {cells:List CellB} {sv:Value} {n:Nat} {xs:List Value}
theorem CAt.size (h:CAt x w col fnd cv cells sv n xs):w.heap.size+3≤x.heap.size:=Nat.succ_le_of_lt (Array.getElem?_eq_some_iff.1 h.b2).1
theorem CAt.later (h:CAt x w col fnd cv cells sv n xs) (hb:Below x.heap.size x y):CAt y w col fnd cv cells sv n xs :=
 ⟨h.below.trans (hb.mono h.below.size),jb hb h.b0,jb hb h.b1,jb hb h.b2,jw h.cellrow hb,jw h.sealrow hb,h.one⟩
theorem CAt.alloc (h:CAt x w col fnd cv cells sv n xs) (o:Obj):CAt (x.alloc o) w col fnd cv cells sv n xs :=
 h.later ((Below.refl x.heap.size x).alloc (Nat.le_refl _) o)
theorem qY {x y:World} {v:Value} {b e s m q:Nat} {zs:List Value} {o:Obj} (hg:x.grownBy y v.ownBlock) (ho:x.ownsRow b e s v m zs) (h:x.heap[q]?=some o) (hq:q < b):y.heap[q]?=some o:=by
 rw [hg.block q (Array.getElem?_eq_some_iff.1 h).1 (fun e=>by have:=(ho.lt q e.symm).1;omega)]
 exact h
theorem CAt.cellsUp (h:CAt x w col fnd cv cells sv n xs) {cv':Value} {cells':List CellB} (hg:x.grownBy y cv.ownBlock) (ho:y.ownsRow (w.heap.size+3) 58 3 cv' cells'.length (jG cells')):CAt y w col fnd cv' cells' sv n xs :=
 ⟨Jb h.below hg (fun k hk=>by have:=(h.cellrow.lt k hk).1;omega),qY hg h.cellrow h.b0 (by omega),qY hg h.cellrow h.b1 (by omega),qY hg h.cellrow h.b2 (by omega),ho,h.sealrow.kept hg (qc h.sealrow h.cellrow (by decide)),h.one⟩
theorem CAt.sealUp (h:CAt x w col fnd cv cells sv n xs) {sv':Value} {n':Nat} {xs':List Value} (hg:x.grownBy y sv.ownBlock) (ho:y.ownsRow (w.heap.size+3) 40 4 sv' n' xs') (h1:∀ u ∈ xs',u.oneCell'=true):CAt y w col fnd cv cells sv' n' xs' :=
 ⟨Jb h.below hg (fun k hk=>by have:=(h.sealrow.lt k hk).1;omega),qY hg h.sealrow h.b0 (by omega),qY hg h.sealrow h.b1 (by omega),qY hg h.sealrow h.b2 (by omega),h.cellrow.kept hg (qc h.cellrow h.sealrow (by decide)),ho,h1⟩
theorem Jk {x:World} {b e s m B:Nat} {v:Value} {zs:List Value} (h:x.ownsRow b e s v m zs) (hB:B < b):v.ownBlock=none∨v.ownBlock≠some B:=by
 rcases hv:v.ownBlock with _|g
 ·exact .inl rfl
 ·refine .inr (fun e=>?_)
  have:=(h.lt g hv).1
  injection e with e
  omega
theorem CAt.rowB (h:CAt x w col fnd cv cells sv n xs) (B:Nat) (cs:Array Value) (hw:w.heap.size+3≤B) (h1:cv.ownBlock=none∨cv.ownBlock≠some B) (h2:sv.ownBlock=none∨sv.ownBlock≠some B):CAt (x.setRow B cs) w col fnd cv cells sv n xs:=by
 have hg:=Qy x B cs
 exact ⟨h.below.trans (jg hg (by omega) h.below.size),qi hg h.b0 (by omega),qi hg h.b1 (by omega),qi hg h.b2 (by omega),h.cellrow.kept hg h1,h.sealrow.kept hg h2,h.one⟩
theorem CAt.setF (h:CAt x w col fnd cv cells sv n xs) (i:Nat) (v:Value):CAt (x.setCell ⟨w.heap.size+2,i,none⟩ v) w col (fnd.setIfInBounds i v) cv cells sv n xs:=by
 have hg:=zS x (w.heap.size+2) i v
 exact ⟨h.below.trans (jg hg (by omega) h.below.size),qi hg h.b0 (by omega),qi hg h.b1 (by omega),heap_setCell_same x _ i _ _ v h.b2,h.cellrow.kept hg (Jk h.cellrow (by omega)),h.sealrow.kept hg (Jk h.sealrow (by omega)),h.one⟩
end
theorem AW {pre:List UInt8} {r:List KeyB} {key:Int} {s:SpotB} {m:ModF} {p:List UInt8} (hm:xX key m) (h:zY pre r key s m=some p):p.length≤65535:=by
 unfold zY at h
 rcases hm with ⟨h0,_,_,h3⟩|⟨h0,_,_,_,h4⟩
 ·rw [if_pos h0] at h
  injection h with h
  subst h
  exact h3
 ·rw [if_neg h0] at h
  unfold qo at h
  split at h
  ·injection h with h
   subst h
   rw [zw,List.length_take]
   omega
  ·cases h
theorem AL {t:List ColB}:∀ {L:List SpotB} {M:List ModF},ModsOk t L M→∀ k (hk:k < L.length) (hm:k < M.length),xX (jk t (L[k]).c).key M[k]:=by
 intro L M h
 induction h with
 | nil=>intro k hk;exact absurd hk (by simp)
 | cons h0 _ ih =>
  intro k hk hm
  cases k with
  | zero=>exact h0
  | succ k=>exact ih k (by simpa using hk) (by simpa using hm)
theorem Cg {foot:Nat} {parts footer:List UInt8} {S:SheetF} (h:SheetOk foot parts footer S) {c:Nat} (hc:c < S.cols.length):((S.cols[c]).kind=0∨(S.cols[c]).kind=1)∧0≤(S.cols[c]).key∧(S.cols[c]).key≤9:=by
 have hh:=h.heads
 simp only [jV,Bool.and_eq_true] at hh
 exact (QE (QM hh.1 (Nat.le_refl _) c hc).1).2
theorem EO {R C G P:Nat} (hC1:1≤C) (hr:R≤60) (hG:1≤G) (hP:1≤P) (hG6:G≤60) (hC:C≤6):∀ s ∈ jC R C G P,s.g < 60∧s.c < 60∧s.p < 60∧s.start < 60∧s.many≤60:=by
 intro s hs
 have hl:(List.replicate C (⟨[],0,0,List.replicate R ⟨true,0,[]⟩⟩:ColB)).length=C:=by simp
 have hR:R=Nr (List.replicate C (⟨[],0,0,List.replicate R ⟨true,0,[]⟩⟩:ColB)):=by
  obtain ⟨D,rfl⟩:∃ D,C=D+1:=⟨C - 1,by omega⟩
  simp [Nr,List.replicate_succ]
 have h:=CV (t:=List.replicate C (⟨[],0,0,List.replicate R ⟨true,0,[]⟩⟩:ColB)) hR hr hG hP hG6 (by simpa using hC) s (by rw [hl];exact hs)
 exact h.few
def LZ (F:FoundB) (w:World) (e:Ending) (w':World):Prop :=
 Below w.heap.size w w'∧∃ u sv n xs,e=.returned (.tuple #[.agg #[strB F.name,.int .i64 F.kind,.int .i64 F.key,.int .i64 F.state,u],sv])∧w'.ownsRow w.heap.size 58 3 u F.cells.length (jG F.cells)∧(∀ x ∈ F.cells,qx x)∧w'.ownsRow w.heap.size 40 4 sv n xs∧n≤21960∧∀ u ∈ xs,u.oneCell'=true
end
section
theorem Rg (S:SheetF) (foot:Nat) (parts footer:List UInt8) (T base c:Nat) (pre:List UInt8) (ra:Option Addr) (rcap:Nat) (r:List KeyB) (w:World) (hok:SheetOk foot parts footer S) (hT:ToldAt w T base S) (hc:c < S.cols.length) (hpre:pre.length≤20) (hr:xY r=true) (hrm:r.length≤maxLen) (hl:LiesK w ra r) :
  Calls Tryz.prog 91 #[.pointer (some ⟨T,0,none⟩),.int .i64 (c:Int),strB pre,.slice ra r.length rcap] w (LZ (xt pre r S c) w):=by
 have hp:=hok.plan
 simp only [qX,Bool.and_eq_true,decide_eq_true_eq] at hp
 have hh:=hok.heads
 simp only [jV,Bool.and_eq_true,decide_eq_true_eq] at hh
 have hR60:=hok.rows
 have hC6:S.cols.length≤6:=by omega
 have hML:=qQ hok.mods
 obtain ⟨hkd,hk0,hk9⟩:=Cg hok hc
 have HMO:=hid (AL hok.mods)
 have hLn:(qz S).length≤21960:=Ry (by omega) (by omega) (by omega) hR60 hC6
 have HSM:Hid (∀ s ∈ qz S,s.g < 60∧s.c < 60∧s.p < 60∧s.start < 60∧s.many≤60):=EO (by omega) hR60 (by omega) (by omega) (by omega) hC6
 have HSS:Hid (∀ s ∈ qz S,s.sort=80∨s.sort=77):=ZI
 have hca:=Xb hc
 have HFD:Hid (xt pre r S c=if 0 < (S.cols[c]).key∧jA r (S.cols[c]).key=false then ⟨(S.cols[c]).name,(S.cols[c]).kind,(S.cols[c]).key,1,[]⟩ else match jD pre r (S.cols[c]).kind (S.cols[c]).key c (some []) (qz S) S.mods with
   | none=>⟨(S.cols[c]).name,(S.cols[c]).kind,(S.cols[c]).key,2,[]⟩
   | some cells=>⟨(S.cols[c]).name,(S.cols[c]).kind,(S.cols[c]).key,0,cells⟩):=by
  show _=_
  unfold xt
  rw [hca]
  rfl
 have HTH:Hid (∀ i cells,jD pre r (S.cols[c]).kind (S.cols[c]).key c (some []) ((qz S).take i) (S.mods.take i)=some cells→cells.length≤S.rows∧∀ s,(qz S)[i]?=some s→s.sort=77→s.c=c→s.start < cells.length):=fun i cells h=>Yo pre r (S.cols[c]).kind (S.cols[c]).key hc (by omega) (by omega) hML h
 obtain ⟨cv,sv,pv,ev,hT1,hT2,hT3,hT4,hT5⟩:=hT
 obtain ⟨pa,pc,rfl⟩:=jr hT4
 obtain ⟨ea,ec,rfl⟩:=jr hT5
 obtain ⟨ca,cc,rfl⟩:=jr hT2
 obtain ⟨sa,sc,rfl⟩:=jr hT3
 have hTw:T < w.heap.size:=(Array.getElem?_eq_some_iff.1 hT1).1
 have HT1:=hid hT1
 have HT2:=hid hT2
 have HT3:=hid hT3
 have HT4:=hid hT4
 have HT5:=hid hT5
 obtain ⟨cg,hcg,hcgl,t0,t1,t2,t3⟩:=Yf hT2 c hc
 subst hcg
 have HLK:=hid hl
 have HSE:=hid (fun w' (h:LiesK w' ra r)=>Zh ra rcap r (S.cols[c]).key w' hrm h)
 have HSC:Hid (jm r (S.cols[c]).key=[] ↔ jA r (S.cols[c]).key=false):=XT hr
 have HSL:Hid (jA r (S.cols[c]).key=true→(jm r (S.cols[c]).key).length=8):=fun h=>QP hr h
 clear hT1 hT2 hT3 hT4 hT5 hl hp hh hca hok hr
 generalize (S.cols[c]).name=nm at *
 generalize (S.cols[c]).kind=kd at *
 generalize hky:(S.cols[c]).key=ky at *
 have HKY:=hid hky
 clear hky
 generalize hLL:qz S=L at *
 generalize hMM:S.mods=M at *
 clear hLL hMM
 have hci:(c:Int) < (S.cols.length:Int):=by omega
 obtain ⟨hb3,hx0,hx1,hx2⟩:=Se w found0 #[strB nm,.int .i64 kd,.int .i64 ky,nilV] #[strB nm,.int .i64 kd,.int .i64 ky,.int .i64 0,nilV] 91 61 91
 have HA0:=hid (CAt.mk hb3 hx0 hx1 hx2 (cv:=nilV) (cells:=[]) (World.ownsRow_nil _ _ _ _) (sv:=nilV) (n:=0) (xs:=[]) (World.ownsRow_nil _ _ _ _) (by intro u hu;cases hu))
 clear hb3 hx0 hx1 hx2
 obtain ⟨_,_,_,_,_,d5,_⟩:=xq HT1.out
 go_enter Tryz.func91,Tryz.ntmps91
 go_upto_region 3 with fail
 generalize hW0:((w.alloc _).alloc _).alloc _=W0 at *
 clear hW0 t0 t1 t2 t3 d5
 obtain ⟨_,_,e2,_⟩:=KF HA0.out.b1
 go_cut [44] (fun bv wd=>bv=.bool (decide (0 < ky∧jA r ky=false))∧CAt wd w #[strB nm,.int .i64 kd,.int .i64 ky,nilV] #[strB nm,.int .i64 kd,.int .i64 ky,.int .i64 0,nilV] nilV [] nilV 0 [])
 case first =>
  by_cases hk:0 < ky
  ·go_wp2_with fail
   refine (HSE.out W0 (HLK.out.later HA0.out.below)).mono ?_
   rintro e w1 ⟨rfl,hb1⟩
   have HA1:=hid (HA0.out.later hb1)
   clear hb1 e2
   cases hs:jA r ky with
   | false =>
    rw [HSC.out.2 hs]
    go_wp2
    go_meet
    case rel=>exact ⟨by simp [hk,hs],HA1.out⟩
   | true =>
    obtain ⟨b,l,hbl⟩:∃ b l,jm r ky=b :: l:=by
     have:=HSL.out hs
     match hq:jm r ky with
     | []=>rw [hq] at this;cases this
     | b :: l=>exact ⟨b,l,rfl⟩
    rw [hbl]
    go_wp2
    go_meet
    case rel=>exact ⟨by simp [hs],HA1.out⟩
  ·obtain rfl:ky=0:=by omega
   go_wp2
   go_meet
   case rel=>exact ⟨by simp,HA0.out⟩
 case rest =>
  obtain ⟨hbv,hA⟩:=hcut
  subst hbv
  have HA1:=hid hA
  clear hA HA0 e2
  by_cases hlk:0 < ky∧jA r ky=false
  ·rw [if_pos hlk] at HFD
   have hd:decide (0 < ky∧jA r ky=false)=true:=decide_eq_true hlk
   rw [hd]
   obtain ⟨_,_,_,g3,_⟩:=Ur HA1.out.b2
   have f3:=frozen_of_row wc (w.heap.size+2) 3 _ _ HA1.out.b2
   go_upto_region 5 with fail
   have HE2:Hid (CAt (wc.setCell ⟨w.heap.size+2,3,none⟩ (.int .i64 1)) w #[strB nm,.int .i64 kd,.int .i64 ky,nilV] #[strB nm,.int .i64 kd,.int .i64 ky,.int .i64 1,nilV] nilV [] nilV 0 []):=HA1.out.setF 3 (.int .i64 1)
   clear g3 f3
   generalize hye:wc.setCell _ _=ye at *
   clear hye
   go_wp2_with (first|(refine wpList_load_row rfl 91 (.tmp 11) rfl (w.heap.size+2) rfl 91 #[strB nm,.int .i64 kd,.int .i64 ky,.int .i64 1,nilV] (0,0) _ HE2.out.b2 Tryz.underlying91 rfl (by kernel_rfl) ?_)|(refine wpList_store_row rfl 91 (.tmp 8) (.tmp 46) rfl w.heap.size #[strB nm,.int .i64 kd,.int .i64 ky,.int .i64 1,nilV] rfl rfl 91 found0 HE2.out.b0 (by kernel_rfl) rfl (by simp [Value.oneCell']) ?_))
   have HoE:=hid (setRow_heap ye w.heap.size _ #[strB nm,.int .i64 kd,.int .i64 ky,.int .i64 1,nilV] 91 (0,0) HE2.out.b0)
   have HBE:=hid (HE2.out.below.trans (jg (Qy ye w.heap.size #[strB nm,.int .i64 kd,.int .i64 ky,.int .i64 1,nilV]) (Nat.le_refl _) HE2.out.below.size))
   generalize hze:ye.setRow _ _=ze at *
   clear hze
   rw [HFD.out]
   exact bodyPost_ret (v:=.tuple #[.agg #[strB nm,.int .i64 kd,.int .i64 ky,.int .i64 1,nilV],nilV]) (qk (p:=8) (q:=9) rfl _ _ _ _ _ rfl rfl (run_loadVar_row (P:=Tryz.prog) ze w.heap.size 91 91 #[strB nm,.int .i64 kd,.int .i64 ky,.int .i64 1,nilV] (0,0) _ HoE.out Tryz.underlying91 rfl (by kernel_rfl))) rfl ⟨HBE.out,nilV,nilV,0,[],rfl,World.ownsRow_nil _ _ _ _,(fun x hx=>by cases hx),World.ownsRow_nil _ _ _ _,Nat.zero_le _,(fun u hu=>by cases hu)⟩
  ·rw [if_neg hlk] at HFD
   have hd:decide (0 < ky∧jA r ky=false)=false:=decide_eq_false hlk
   rw [hd]
   have HSL8:Hid (0 < ky→(jm r ky).length≤1000):=fun h=>by
    have:jA r ky=true:=by
     cases hq:jA r ky with
     | true=>rfl
     | false=>exact absurd ⟨h,hq⟩ hlk
    rw [HSL.out this]
    decide
   clear hd hlk HSC HSL HSE
   go_wp2
   go_loopw [12,13,14] (fun cv sv i wr=>∃ (k:Nat) (cells:List CellB) (n:Nat) (xs:List Value),k≤L.length∧i=.int .i64 (k:Int)∧jD pre r kd ky c (some []) (L.take k) (M.take k)=some cells∧CAt wr w #[strB nm,.int .i64 kd,.int .i64 ky,nilV] #[strB nm,.int .i64 kd,.int .i64 ky,.int .i64 0,nilV] cv cells sv n xs∧(∀ x ∈ cells,qx x)∧n≤k) (fun _ _ i _=>L.length - (intOf i).toNat)
   case atStart=>exact ⟨0,[],0,[],Nat.zero_le _,rfl,by simp [jD],HA1.out,(by intro x hx;cases hx),Nat.le_refl _⟩
   case round =>
    obtain ⟨k,cells,n,xs,hkL,rfl,hcf,hA,hsm,hnk⟩:=hrel
    obtain ⟨va,vc,rfl⟩:=jr hA.cellrow
    obtain ⟨za,zc,rfl⟩:=jr hA.sealrow
    have HCF:=hid hcf
    have HA:=hid hA
    have HSMC:=hid hsm
    clear hcf hA hsm HA1
    have d6:=(xq (jb HA.out.below HT1.out)).2.2.2.2.2.2.1
    by_cases hlt:k < L.length
    ·have hki:(k:Int) < (L.length:Int):=by omega
     have hkm:k < M.length:=by omega
     have hkmi:(k:Int) < (M.length:Int):=by omega
     obtain ⟨sg,hsg,hsgl,s0,s1,s2,s3,s4,s5⟩:=UQ (jw HT3.out HA.out.below) k hlt
     have hsg':=hsg
     subst hsg'
     have HBX:=hid (qg wr #[strB [(L[k]).sort],.int .i64 ((L[k]).g:Int),.int .i64 ((L[k]).c:Int),.int .i64 ((L[k]).p:Int),.int .i64 ((L[k]).start:Int),.int .i64 ((L[k]).many:Int)] 161).2.2.2
     have HAB:=hid (HA.out.alloc (.cells #[strB [(L[k]).sort],.int .i64 ((L[k]).g:Int),.int .i64 ((L[k]).c:Int),.int .i64 ((L[k]).p:Int),.int .i64 ((L[k]).start:Int),.int .i64 ((L[k]).many:Int)] 161))
     have hBw:=HA.out.size
     have HMOK:=hid (HMO.out k hlt hkm)
     have hq:=HSM.out L[k] (List.getElem_mem hlt)
     have hss:=HSS.out L[k] (List.getElem_mem hlt)
     have HGS:Hid (L[k]?=some L[k]):=List.getElem?_eq_getElem hlt
     have HGM:Hid (M[k]?=some M[k]):=List.getElem?_eq_getElem hkm
     go_upto_region 12 with fail
     clear s0 s1 s2 s3 s4 s5 d6 HA
     generalize hwx:wr.alloc _=wx at *
     clear hwx
     generalize hBB:wr.heap.size=B at *
     clear hBB
     obtain ⟨pg,hpg,_,p0⟩:=Cb (jw HT4.out HAB.out.below) k hkm
     subst hpg
     obtain ⟨_,_,_,_,_,_,_,d7,_⟩:=xq (jb HAB.out.below HT1.out)
     have HMA:=hid (fun y (hb:Below w.heap.size w y)=>PP (jw HT5.out hb) k hkm)
     generalize L[k]=s at *
     generalize hmk:M[k]=m at *
     clear hmk
     have HST:=hid (Ib pre r kd ky c HGS.out HGM.out HCF.out)
     obtain ⟨x0,x1,x2,x3,x4,x5⟩:=JV HBX.out
     by_cases hcc:s.c=c
     ·rw [if_pos hcc] at HST
      have hne:((s.c:Int) != (c:Int))=false:=by simp [hcc]
      have HCC:=hid hcc
      clear hcc
      obtain ⟨_,_,e2,_⟩:=KF HAB.out.b1
      go_upto_if 76 with fail
      clear x0 x1 x2 x3 x4 x5 d7 p0
      go_cut [13,16,17,76] (fun sv' pv' okv _ wd=>∃ n' xs' ok p,pv'=strB p∧okv=.bool ok∧ok=(zY pre r ky s m).isSome∧(∀ q,zY pre r ky s m=some q→p=q)∧CAt wd w #[strB nm,.int .i64 kd,.int .i64 ky,nilV] #[strB nm,.int .i64 kd,.int .i64 ky,.int .i64 0,nilV] (.slice va cells.length vc) cells sv' n' xs'∧n'≤k+1∧wd.heap[B]?=some (.cells #[strB [s.sort],.int .i64 (s.g:Int),.int .i64 (s.c:Int),.int .i64 (s.p:Int),.int .i64 (s.start:Int),.int .i64 (s.many:Int)] 161 (0,0)))
      case first =>
       by_cases hk:0 < ky
       ·have HPF:Hid (zY pre r ky s m=qo (jm r ky) m.nonce (qu pre s.sort s.g s.c s.p) m.body):=by
         show _=_
         unfold zY
         rw [if_neg (by omega)]
        have hmo:=HMOK.out
        rw [HCC.out,Xb hc,HKY.out] at hmo
        have hmo2:m.nonce.length=4∧m.body.length≤65535:=by
         rcases hmo with h|h
         ·omega
         ·exact ⟨h.2.2.1,h.2.2.2.2⟩
        obtain ⟨sec,hsec⟩:∃ sec,sec=jm r ky:=⟨_,rfl⟩
        obtain ⟨bd,hbd⟩:∃ bd,bd=qu pre s.sort s.g s.c s.p:=⟨_,rfl⟩
        obtain ⟨oo,hoo⟩:∃ oo,oo=(zY pre r ky s m).isSome:=⟨_,rfl⟩
        have HOO:=hid hoo
        have HBD:Hid (∀ w',Calls Tryz.prog 86 #[strB pre,strB [s.sort],.int .i64 (s.g:Int),.int .i64 (s.c:Int),.int .i64 (s.p:Int)] w' fun e w2=>e=.returned (strB bd)∧Below w'.heap.size w' w2):=fun w'=>by
         rw [hbd]
         exact Vw pre s.sort s.g s.c s.p w' hpre (by omega) (by omega) (by omega)
        have HOP:Hid (∀ w',LiesK w' ra r→Calls Tryz.prog 89 #[.slice ra r.length rcap,.int .i64 ky,strB bd,.agg #[strB m.nonce,strB m.body]] w' fun e w2=>Below w'.heap.size w' w2∧∃ p,e=.returned (.tuple #[.agg #[strB sec,strB m.nonce,strB bd,strB m.body],strB p,.bool oo])∧∀ q,zY pre r ky s m=some q→p=q):=fun w' h=>by
         have hbl:=Xv pre s.sort s.g s.c s.p hpre
         have h2:=Ub ra rcap r ky (qu pre s.sort s.g s.c s.p) m.nonce m.body w' h hrm (HSL8.out hk) (by omega) (by omega) (by unfold maxLen;omega)
         rw [hoo,hsec,hbd,HPF.out]
         exact h2
        clear hsec hbd hoo hmo
        obtain ⟨eg,heg,_⟩:=HMA.out wx HAB.out.below
        subst heg
        have HS17:Hid (∀ w',CAt w' w #[strB nm,.int .i64 kd,.int .i64 ky,nilV] #[strB nm,.int .i64 kd,.int .i64 ky,.int .i64 0,nilV] (.slice va cells.length vc) cells (.slice za n zc) n xs→w'.heap[B]?=some (.cells #[strB [s.sort],.int .i64 (s.g:Int),.int .i64 (s.c:Int),.int .i64 (s.p:Int),.int .i64 (s.start:Int),.int .i64 (s.many:Int)] 161 (0,0))→w'.cell? ⟨w.heap.size+1,2,none⟩=some (.int .i64 ky)∧w'.cell? ⟨B,0,none⟩=some (strB [s.sort])∧w'.cell? ⟨B,1,none⟩=some (.int .i64 (s.g:Int))∧w'.cell? ⟨B,2,none⟩=some (.int .i64 (s.c:Int))∧w'.cell? ⟨B,3,none⟩=some (.int .i64 (s.p:Int))∧w'.cell? ⟨T,8,none⟩=some (.slice (some ⟨eg,0,none⟩) M.length ec)∧w'.cell? ⟨eg,k*2,none⟩=some (strB m.nonce)∧w'.cell? ⟨eg,k*2+1,none⟩=some (strB m.body)):=fun y hA hB=>by
         obtain ⟨g,hg,_,h1,h2⟩:=HMA.out y hA.below
         simp only [Option.some.injEq,Addr.mk.injEq,and_true] at hg
         subst hg
         obtain ⟨y0,y1,y2,y3,_⟩:=JV hB
         exact ⟨(KF hA.b1).2.2.1,y0,y1,y2,y3,(xq (jb hA.below HT1.out)).2.2.2.2.2.2.2.2,h1,h2⟩
        have HBS:=hid (qg wx seal0 40).2.2.2
        have HAC:=hid (HAB.out.alloc (.cells seal0 40))
        have HBC:=hid (Jz (.cells seal0 40) HBX.out)
        have HZB:=hid (zF HAB.out.sealrow (Nat.le_refl _))
        have HVB:=hid (zF HAB.out.cellrow (Nat.le_refl _))
        have hB2:=HAB.out.size
        have hBl:B < wx.heap.size:=(Array.getElem?_eq_some_iff.1 HBX.out).1
        clear HAB HBX
        go_upto_region 17 with fail
        clear e2
        generalize hwy:wx.alloc _=wy at *
        clear hwy
        generalize hBs:wx.heap.size=B2 at *
        clear hBs
        have hS:=HS17.out wy HAC.out HBC.out
        refine wp_region_held_drew (S:=fun w'=>w'.cell? ⟨w.heap.size+1,2,none⟩=some (.int .i64 ky)∧w'.cell? ⟨B,0,none⟩=some (strB [s.sort])∧w'.cell? ⟨B,1,none⟩=some (.int .i64 (s.g:Int))∧w'.cell? ⟨B,2,none⟩=some (.int .i64 (s.c:Int))∧w'.cell? ⟨B,3,none⟩=some (.int .i64 (s.p:Int))∧w'.cell? ⟨T,8,none⟩=some (.slice (some ⟨eg,0,none⟩) M.length ec)∧w'.cell? ⟨eg,k*2,none⟩=some (strB m.nonce)∧w'.cell? ⟨eg,k*2+1,none⟩=some (strB m.body)) (by kernel_rfl) hS (fun hHeld=>?_)
        refine tk 0 (.slice ra r.length rcap) ?_
        refine tk 1 (.pointer (some ⟨w.heap.size+1,2,none⟩)) ?_
        refine tk 2 (.int .i64 ky) ?_
        refine tk 3 (strB pre) ?_
        refine tk 4 (.pointer (some ⟨B,0,none⟩)) ?_
        refine tk 5 (strB [s.sort]) ?_
        refine tk 6 (.pointer (some ⟨B,1,none⟩)) ?_
        refine tk 7 (.int .i64 (s.g:Int)) ?_
        refine tk 8 (.pointer (some ⟨B,2,none⟩)) ?_
        refine tk 9 (.int .i64 (s.c:Int)) ?_
        refine tk 10 (.pointer (some ⟨B,3,none⟩)) ?_
        refine tk 11 (.int .i64 (s.p:Int)) ?_
        refine tk 13 (.pointer (some ⟨T,0,none⟩)) ?_
        refine tk 14 (.pointer (some ⟨T,0,none⟩)) ?_
        refine tk 15 (.pointer (some ⟨T,8,none⟩)) ?_
        refine tk 16 (.slice (some ⟨eg,0,none⟩) M.length ec) ?_
        refine tk 17 (.int .i64 (k:Int)) ?_
        refine tk 18 (.pointer (some ⟨eg,k*2,none⟩)) ?_
        refine tk 19 (.agg #[strB m.nonce,strB m.body]) ?_
        simp only [ga,gb,gc,Act.put,gd,ge,gf]
        refine wpAnyH_ready (rs:=[12]) (by kernel_rfl) (by simp) ?_
        refine AllReadyH.cons (o:=_) rfl (fun K hK=>?_) AllReadyH.nil
        simp only [ga,gb,gc]
        go_simp
        go_at_call 86
        refine (HBD.out _).mono ?_
        rintro e y1 ⟨rfl,hb1⟩
        replace hb1:=ji hb1
        have HA1:=hid (HAC.out.later hb1)
        have HB1:=hid (jb hb1 HBC.out)
        have HS1:=hid (jb hb1 HBS.out)
        clear hb1 hS HAC HBC HBS
        have hS:=HS17.out y1 HA1.out HB1.out
        try go_wp2_with fail
        refine hK.out _ _ hS (fun hHeld=>?_)
        clear hK K
        try simp only [ga,gb,gc,Act.put,gd,ge,gf]
        refine wpAnyH_ready (rs:=[20]) (by kernel_rfl) (by simp) ?_
        refine AllReadyH.cons (o:=_) rfl (fun K hK=>?_) AllReadyH.nil
        simp only [ga,gb,gc]
        go_simp
        go_at_call 89
        refine (HOP.out _ (HLK.out.later HA1.out.below)).mono ?_
        rintro e y2 ⟨hb2,p,rfl,hpq⟩
        have HPQ:=hid hpq
        have HA2:=hid (HA1.out.later hb2)
        have HB2:=hid (jb hb2 HB1.out)
        have HS2:=hid (jb hb2 HS1.out)
        clear hb2 hS hpq HA1 HB1 HS1
        have hS:=HS17.out y2 HA2.out HB2.out
        try go_wp2_with fail
        refine hK.out _ _ hS (fun hHeld=>?_)
        clear hK K
        try simp only [ga,gb,gc,Act.put,gd,ge,gf]
        refine tk 21 (.tuple #[.agg #[strB sec,strB m.nonce,strB bd,strB m.body],strB p,.bool oo]) ?_
        refine tk 22 (.agg #[strB sec,strB m.nonce,strB bd,strB m.body]) ?_
        refine tk 23 (strB p) ?_
        refine tk 24 (.bool oo) ?_
        simp only [ga,gb,gc,Act.put,gd,ge,gf]
        refine wpAnyH_ready (rs:=[25]) (by kernel_rfl) (by simp) ?_
        refine AllReadyH.cons (o:=_) rfl (fun K hK=>?_) AllReadyH.nil
        simp only [ga,gb,gc]
        rw [if_pos (by simp [Region.wanted])]
        refine wp_store_row 40 (.tmp 18) (.tmp 100) rfl B2 #[strB sec,strB m.nonce,strB bd,strB m.body] rfl rfl 40 seal0 HS2.out (by kernel_rfl) rfl (by simp [Value.oneCell']) ?_
        have HA3:=hid (HA2.out.rowB B2 #[strB sec,strB m.nonce,strB bd,strB m.body] hB2 HVB.out HZB.out)
        have HB3:=hid (qi (Qy y2 B2 #[strB sec,strB m.nonce,strB bd,strB m.body]) HB2.out (by omega))
        have HS3:=hid (setRow_heap y2 B2 _ #[strB sec,strB m.nonce,strB bd,strB m.body] 40 (0,0) HS2.out)
        clear hS HA2 HB2 HS2
        have hS:=HS17.out _ HA3.out HB3.out
        refine hK.out _ _ hS (fun hHeld=>?_)
        clear hK K
        try simp only [ga,gb,gc,Act.put,gd,ge,gf]
        refine tk 26 (strB p) ?_
        refine tk 27 (.bool oo) ?_
        simp only [ga,gb,gc,Act.put,gd,ge,gf]
        refine wpAnyH_done (by kernel_rfl) ?_ _
        clear hHeld hS
        generalize hy3:y2.setRow _ _=y3 at *
        clear hy3
        obtain ⟨i0,hi,hz0,hz1,hz2⟩:=info_parts Tryz.infoSealed
        go_wp2_with (first|(refine wpList_load_row rfl 40 (.tmp 18) rfl B2 rfl 40 #[strB sec,strB m.nonce,strB bd,strB m.body] (0,0) _ HS3.out Tryz.underlying40 rfl (by kernel_rfl) ?_)|(at_builtin;refine wpList_append_own _ rfl (.tmp 103) (.tmp 105) 28 rfl (w.heap.size+3) 40 i0 _ 4 64 Tryz.underlying28 hi hz0 hz1 hz2 rfl (by decide) _ _ _ rfl (HA3.out.sealrow.alloc _) ⟨_,0,none⟩ 1 1 [strB sec,strB m.nonce,strB bd,strB m.body] rfl rfl (qj y3 #[strB sec,strB m.nonce,strB bd,strB m.body] 40) (by intro u hu;simp at hu;rcases hu with rfl|rfl|rfl|rfl<;>rfl) (by unfold maxLen;omega) (by omega) (by have:=HA3.out.size;simp;omega) ?_;intro v4 w4 hown4 hgr4 _))
        have HA4:=hid ((HA3.out.alloc (.cells #[strB sec,strB m.nonce,strB bd,strB m.body] 40)).sealUp hgr4 hown4 (by
         intro u hu
         rcases List.mem_append.1 hu with h|h
         ·exact HA3.out.one u h
         ·simp at h
          rcases h with rfl|rfl|rfl|rfl<;>rfl))
        have HB4:=hid (jq hgr4 (HA3.out.sealrow.alloc (.cells #[strB sec,strB m.nonce,strB bd,strB m.body] 40)) (Jz (.cells #[strB sec,strB m.nonce,strB bd,strB m.body] 40) HB3.out) (by decide))
        clear hown4 hgr4 HA3 HB3 HS3
        go_wp2
        go_meet
        case rel=>exact ⟨n+1,_,oo,p,rfl,rfl,HOO.out,HPQ.out,HA4.out,by omega,HB4.out⟩
       ·have hk00:ky=0:=by omega
        go_wp2
        go_meet
        case rel=>exact ⟨n,xs,true,m.plain,rfl,rfl,by unfold zY;rw [if_pos hk00];rfl,fun q hq=>by unfold zY at hq;rw [if_pos hk00] at hq;injection hq,HAB.out,by omega,HBX.out⟩
      case rest =>
       obtain ⟨n',xs',ok,p,hpv,hov,hok,hpq,hA,hn',hBX⟩:=hcut
       subst hpv hov
       have HAD:=hid hA
       have HBD:=hid hBX
       have HPQ:=hid hpq
       have HOK:=hid hok
       obtain ⟨zb,zd,hze⟩:=jr hA.sealrow
       subst hze
       clear hA hBX hpq hok HAB HBX
       obtain ⟨x0,x1,x2,x3,x4,x5⟩:=JV HBD.out
       obtain ⟨_,e1,e2,_⟩:=KF HAD.out.b1
       cases ok with
       | false =>
        have HPN:Hid (zY pre r ky s m=none):=by
         show _=_
         cases hq:zY pre r ky s m with
         | none=>rfl
         | some q=>have:=HOK.out;rw [hq] at this;cases this
        have HSN:Hid (Qk pre r kd ky cells s m=none):=by
         show _=_
         unfold Qk
         rw [HPN.out]
        rw [HSN.out] at HST
        rw [XW pre r kd ky c hML HST.out] at HFD
        clear x0 x1 x2 x3 x4 x5 e1 e2
        go_upto_region 26 with fail
        obtain ⟨_,_,_,g3,_⟩:=Ur HAD.out.b2
        have f3:=frozen_of_row wc (w.heap.size+2) 3 _ _ HAD.out.b2
        go_upto_region 27 with fail
        have HE2:Hid (CAt (wc.setCell ⟨w.heap.size+2,3,none⟩ (.int .i64 2)) w #[strB nm,.int .i64 kd,.int .i64 ky,nilV] #[strB nm,.int .i64 kd,.int .i64 ky,.int .i64 2,nilV] (.slice va cells.length vc) cells (.slice zb n' zd) n' xs'):=HAD.out.setF 3 (.int .i64 2)
        clear g3 f3
        generalize hye:wc.setCell _ _=ye at *
        clear hye
        go_wp2_with (first|(refine wpList_load_row rfl 91 (.tmp 11) rfl (w.heap.size+2) rfl 91 #[strB nm,.int .i64 kd,.int .i64 ky,.int .i64 2,nilV] (0,0) _ HE2.out.b2 Tryz.underlying91 rfl (by kernel_rfl) ?_)|(refine wpList_store_row rfl 91 (.tmp 8) (.tmp 144) rfl w.heap.size #[strB nm,.int .i64 kd,.int .i64 ky,.int .i64 2,nilV] rfl rfl 91 found0 HE2.out.b0 (by kernel_rfl) rfl (by simp [Value.oneCell']) ?_))
        have HoE:=hid (setRow_heap ye w.heap.size _ #[strB nm,.int .i64 kd,.int .i64 ky,.int .i64 2,nilV] 91 (0,0) HE2.out.b0)
        have HBE:=hid (HE2.out.below.trans (jg (Qy ye w.heap.size #[strB nm,.int .i64 kd,.int .i64 ky,.int .i64 2,nilV]) (Nat.le_refl _) HE2.out.below.size))
        generalize hze:ye.setRow _ _=ze at *
        clear hze
        rw [HFD.out]
        exact bodyPost_ret (v:=.tuple #[.agg #[strB nm,.int .i64 kd,.int .i64 ky,.int .i64 2,nilV],nilV]) (qk (p:=8) (q:=9) rfl _ _ _ _ _ rfl rfl (run_loadVar_row (P:=Tryz.prog) ze w.heap.size 91 91 #[strB nm,.int .i64 kd,.int .i64 ky,.int .i64 2,nilV] (0,0) _ HoE.out Tryz.underlying91 rfl (by kernel_rfl))) rfl ⟨HBE.out,nilV,nilV,0,[],rfl,World.ownsRow_nil _ _ _ _,(fun x hx=>by cases hx),World.ownsRow_nil _ _ _ _,Nat.zero_le _,(fun u hu=>by cases hu)⟩
       | true =>
        have HPS:Hid (zY pre r ky s m=some p):=by
         show _=_
         cases hq:zY pre r ky s m with
         | none=>have:=HOK.out;rw [hq] at this;cases this
         | some q=>rw [HPQ.out q hq]
        have hpl:p.length≤65535:=by
         have hmo:=HMOK.out
         rw [HCC.out,Xb hc,HKY.out] at hmo
         exact AW hmo HPS.out
        have HSF:Hid (Qk pre r kd ky cells s m=if s.sort=77 then (if p=JR kd (cells.drop s.start) then some cells else none) else match qU kd p with
          | none=>none
          | some l=>if l.length=s.many then some (cells++l) else none):=by
         show _=_
         unfold Qk
         rw [HPS.out]
         rfl
        rcases hss with hso|hso
        ·rw [if_neg (by rw [hso];decide)] at HSF
         rw [hso] at x0
         have hvc:=(GG HAD.out.cellrow).1
         obtain ⟨i1,hi1,hy0,hy1,hy2⟩:=info_parts Tryz.infoCell
         have hcl:=(HTH.out k cells HCF.out).1
         go_wp2_with fail
         clear x0 x1 x2 x3 x4 e1 e2
         refine (Mw kd p wc hkd (by unfold maxLen;omega)).mono ?_
         rintro e w5 ⟨v,rfl,hpa,hb5⟩
         have HA5:=hid (HAD.out.later hb5)
         have HB5:=hid (jb hb5 HBD.out)
         clear hb5 HAD HBD x5
         have x5:=(JV HB5.out).2.2.2.2.2
         cases hu:qU kd p with
         | none =>
          rw [hu] at hpa HSF
          simp only [YZ] at hpa
          obtain ⟨a2,cap2,hv⟩:=hpa
          subst hv
          rw [HSF.out] at HST
          rw [XW pre r kd ky c hML HST.out] at HFD
          rw [show (none:Option (List CellB)).isSome=false from rfl]
          go_upto_region 26 with (at_builtin;refine xK rfl (.tmp 138) (.tmp 139) 59 rfl 58 i1 Tryz.underlying59 hi1 va cells.length vc rfl hvc a2 cap2 rfl ?_)
          clear x5
          obtain ⟨_,_,_,g3,_⟩:=Ur HA5.out.b2
          have f3:=frozen_of_row w5 (w.heap.size+2) 3 _ _ HA5.out.b2
          go_upto_region 27 with fail
          have HE2:Hid (CAt (w5.setCell ⟨w.heap.size+2,3,none⟩ (.int .i64 2)) w #[strB nm,.int .i64 kd,.int .i64 ky,nilV] #[strB nm,.int .i64 kd,.int .i64 ky,.int .i64 2,nilV] (.slice va cells.length vc) cells (.slice zb n' zd) n' xs'):=HA5.out.setF 3 (.int .i64 2)
          clear g3 f3
          generalize hye:w5.setCell _ _=ye at *
          clear hye
          go_wp2_with (first|(refine wpList_load_row rfl 91 (.tmp 11) rfl (w.heap.size+2) rfl 91 #[strB nm,.int .i64 kd,.int .i64 ky,.int .i64 2,nilV] (0,0) _ HE2.out.b2 Tryz.underlying91 rfl (by kernel_rfl) ?_)|(refine wpList_store_row rfl 91 (.tmp 8) (.tmp 144) rfl w.heap.size #[strB nm,.int .i64 kd,.int .i64 ky,.int .i64 2,nilV] rfl rfl 91 found0 HE2.out.b0 (by kernel_rfl) rfl (by simp [Value.oneCell']) ?_))
          have HoE:=hid (setRow_heap ye w.heap.size _ #[strB nm,.int .i64 kd,.int .i64 ky,.int .i64 2,nilV] 91 (0,0) HE2.out.b0)
          have HBE:=hid (HE2.out.below.trans (jg (Qy ye w.heap.size #[strB nm,.int .i64 kd,.int .i64 ky,.int .i64 2,nilV]) (Nat.le_refl _) HE2.out.below.size))
          generalize hze:ye.setRow _ _=ze at *
          clear hze
          rw [HFD.out]
          exact bodyPost_ret (v:=.tuple #[.agg #[strB nm,.int .i64 kd,.int .i64 ky,.int .i64 2,nilV],nilV]) (qk (p:=8) (q:=9) rfl _ _ _ _ _ rfl rfl (run_loadVar_row (P:=Tryz.prog) ze w.heap.size 91 91 #[strB nm,.int .i64 kd,.int .i64 ky,.int .i64 2,nilV] (0,0) _ HoE.out Tryz.underlying91 rfl (by kernel_rfl))) rfl ⟨HBE.out,nilV,nilV,0,[],rfl,World.ownsRow_nil _ _ _ _,(fun x hx=>by cases hx),World.ownsRow_nil _ _ _ _,Nat.zero_le _,(fun u hu=>by cases hu)⟩
         | some l =>
          have hl60:l.length≤60:=by
           have:=(XS hu).1
           simp only [qD,Bool.and_eq_true,decide_eq_true_eq] at this
           exact this.1.2
          have HSL2:Hid (∀ x ∈ cells++l,qx x):=fun x hx=>by
           rcases List.mem_append.1 hx with h|h
           ·exact HSMC.out x h
           ·exact Gk hu x h
          rw [hu] at hpa HSF
          simp only [YZ] at hpa
          obtain ⟨a2,cap2,hv,hlies⟩:=hpa
          subst hv
          have HLI:=hid hlies
          clear hlies hu
          rw [show (some l).isSome=true from rfl]
          simp only at HSF
          by_cases hlm:l.length=s.many
          ·rw [if_pos hlm] at HSF
           have hbq:((l.length:Int) == (s.many:Int))=true:=by rw [beq_iff_eq];omega
           rw [HSF.out] at HST
           by_cases hl0:l.length=0
           ·obtain rfl:l=[]:=List.eq_nil_of_length_eq_zero hl0
            rw [List.append_nil] at HST
            have hbz:((0:Int) == (s.many:Int))=true:=by rw [beq_iff_eq];simp only [List.length_nil] at hlm;omega
            clear hl0 hlm hbq
            go_wp2_with (at_builtin;refine xK rfl (.tmp 138) (.tmp 139) 59 rfl 58 i1 Tryz.underlying59 hi1 va cells.length vc rfl hvc a2 cap2 rfl ?_)
            clear x5 hbz
            go_wp2
            go_roundw
            case rel=>exact ⟨k+1,cells,n',xs',by omega,by go_num,HST.out,HA5.out,HSMC.out,by omega⟩
            case measure=>simp [intOf];omega
           ·have hl1:0 < l.length:=by omega
            obtain ⟨b2,off2,ha2,_,hcell⟩:=HLI.out.at_ (List.ne_nil_of_length_pos hl1)
            subst ha2
            have HCL:=hid (Lies.cells hcell)
            have hz5:=HA5.out.size
            clear hcell hl0 hlm
            go_wp2_with (at_builtin;refine wpList_append_lies _ rfl _ _ _ rfl (w.heap.size+3) 58 i1 _ 3 32 Tryz.underlying59 hi1 hy0 hy1 hy2 rfl (by omega) _ cells.length (jG cells) rfl HA5.out.cellrow ⟨b2,off2,none⟩ l.length cap2 (jG l) rfl (Jh l) HCL.out (ZR l) hl1 (by unfold maxLen;omega) (by omega) (by omega) _ rfl ?_;intro gg gc w6 hown6 hgr6 hat6 hlt6)
            have HA6:Hid (CAt w6 w #[strB nm,.int .i64 kd,.int .i64 ky,nilV] #[strB nm,.int .i64 kd,.int .i64 ky,.int .i64 0,nilV] (.slice (some ⟨gg,0,none⟩) (cells.length+l.length) gc) (cells++l) (.slice zb n' zd) n' xs'):=HA5.out.cellsUp hgr6 (by
             rw [Jj,List.length_append]
             exact hown6)
            clear hown6 hgr6 hat6 hlt6 x5 hbq HCL
            go_wp2
            go_roundw
            case rel=>exact ⟨k+1,cells++l,n',xs',by omega,by go_num,HST.out,HA6.out,HSL2.out,by omega⟩
            case measure=>simp [intOf];omega
          ·rw [if_neg hlm] at HSF
           have hbq:((l.length:Int) == (s.many:Int))=false:=by rw [beq_eq_false_iff_ne];omega
           rw [HSF.out] at HST
           rw [XW pre r kd ky c hML HST.out] at HFD
           by_cases hl0:l.length=0
           ·obtain rfl:l=[]:=List.eq_nil_of_length_eq_zero hl0
            have hbz:((0:Int) == (s.many:Int))=false:=by rw [beq_eq_false_iff_ne];simp only [List.length_nil] at hlm;omega
            clear hl0 hlm hbq
            go_upto_region 26 with (at_builtin;refine xK rfl (.tmp 138) (.tmp 139) 59 rfl 58 i1 Tryz.underlying59 hi1 va cells.length vc rfl hvc a2 cap2 rfl ?_)
            clear x5 hbz
            obtain ⟨_,_,_,g3,_⟩:=Ur HA5.out.b2
            have f3:=frozen_of_row w5 (w.heap.size+2) 3 _ _ HA5.out.b2
            go_upto_region 27 with fail
            have HE2:Hid (CAt (w5.setCell ⟨w.heap.size+2,3,none⟩ (.int .i64 2)) w #[strB nm,.int .i64 kd,.int .i64 ky,nilV] #[strB nm,.int .i64 kd,.int .i64 ky,.int .i64 2,nilV] (.slice va cells.length vc) cells (.slice zb n' zd) n' xs'):=HA5.out.setF 3 (.int .i64 2)
            clear g3 f3
            generalize hye:w5.setCell _ _=ye at *
            clear hye
            go_wp2_with (first|(refine wpList_load_row rfl 91 (.tmp 11) rfl (w.heap.size+2) rfl 91 #[strB nm,.int .i64 kd,.int .i64 ky,.int .i64 2,nilV] (0,0) _ HE2.out.b2 Tryz.underlying91 rfl (by kernel_rfl) ?_)|(refine wpList_store_row rfl 91 (.tmp 8) (.tmp 144) rfl w.heap.size #[strB nm,.int .i64 kd,.int .i64 ky,.int .i64 2,nilV] rfl rfl 91 found0 HE2.out.b0 (by kernel_rfl) rfl (by simp [Value.oneCell']) ?_))
            have HoE:=hid (setRow_heap ye w.heap.size _ #[strB nm,.int .i64 kd,.int .i64 ky,.int .i64 2,nilV] 91 (0,0) HE2.out.b0)
            have HBE:=hid (HE2.out.below.trans (jg (Qy ye w.heap.size #[strB nm,.int .i64 kd,.int .i64 ky,.int .i64 2,nilV]) (Nat.le_refl _) HE2.out.below.size))
            generalize hze:ye.setRow _ _=ze at *
            clear hze
            rw [HFD.out]
            exact bodyPost_ret (v:=.tuple #[.agg #[strB nm,.int .i64 kd,.int .i64 ky,.int .i64 2,nilV],nilV]) (qk (p:=8) (q:=9) rfl _ _ _ _ _ rfl rfl (run_loadVar_row (P:=Tryz.prog) ze w.heap.size 91 91 #[strB nm,.int .i64 kd,.int .i64 ky,.int .i64 2,nilV] (0,0) _ HoE.out Tryz.underlying91 rfl (by kernel_rfl))) rfl ⟨HBE.out,nilV,nilV,0,[],rfl,World.ownsRow_nil _ _ _ _,(fun x hx=>by cases hx),World.ownsRow_nil _ _ _ _,Nat.zero_le _,(fun u hu=>by cases hu)⟩
           ·have hl1:0 < l.length:=by omega
            obtain ⟨b2,off2,ha2,_,hcell⟩:=HLI.out.at_ (List.ne_nil_of_length_pos hl1)
            subst ha2
            have HCL:=hid (Lies.cells hcell)
            have hz5:=HA5.out.size
            clear hcell hl0 hlm
            go_upto_region 26 with (at_builtin;refine wpList_append_lies _ rfl _ _ _ rfl (w.heap.size+3) 58 i1 _ 3 32 Tryz.underlying59 hi1 hy0 hy1 hy2 rfl (by omega) _ cells.length (jG cells) rfl HA5.out.cellrow ⟨b2,off2,none⟩ l.length cap2 (jG l) rfl (Jh l) HCL.out (ZR l) hl1 (by unfold maxLen;omega) (by omega) (by omega) _ rfl ?_;intro gg gc w6 hown6 hgr6 hat6 hlt6)
            have HA6:Hid (CAt w6 w #[strB nm,.int .i64 kd,.int .i64 ky,nilV] #[strB nm,.int .i64 kd,.int .i64 ky,.int .i64 0,nilV] (.slice (some ⟨gg,0,none⟩) (cells.length+l.length) gc) (cells++l) (.slice zb n' zd) n' xs'):=HA5.out.cellsUp hgr6 (by
             rw [Jj,List.length_append]
             exact hown6)
            clear hown6 hgr6 hat6 hlt6 x5 hbq HCL
            obtain ⟨_,_,_,g3,_⟩:=Ur HA6.out.b2
            have f3:=frozen_of_row w6 (w.heap.size+2) 3 _ _ HA6.out.b2
            go_upto_region 27 with fail
            have HE2:Hid (CAt (w6.setCell ⟨w.heap.size+2,3,none⟩ (.int .i64 2)) w #[strB nm,.int .i64 kd,.int .i64 ky,nilV] #[strB nm,.int .i64 kd,.int .i64 ky,.int .i64 2,nilV] (.slice (some ⟨gg,0,none⟩) (cells.length+l.length) gc) (cells++l) (.slice zb n' zd) n' xs'):=HA6.out.setF 3 (.int .i64 2)
            clear g3 f3
            generalize hye:w6.setCell _ _=ye at *
            clear hye
            go_wp2_with (first|(refine wpList_load_row rfl 91 (.tmp 11) rfl (w.heap.size+2) rfl 91 #[strB nm,.int .i64 kd,.int .i64 ky,.int .i64 2,nilV] (0,0) _ HE2.out.b2 Tryz.underlying91 rfl (by kernel_rfl) ?_)|(refine wpList_store_row rfl 91 (.tmp 8) (.tmp 144) rfl w.heap.size #[strB nm,.int .i64 kd,.int .i64 ky,.int .i64 2,nilV] rfl rfl 91 found0 HE2.out.b0 (by kernel_rfl) rfl (by simp [Value.oneCell']) ?_))
            have HoE:=hid (setRow_heap ye w.heap.size _ #[strB nm,.int .i64 kd,.int .i64 ky,.int .i64 2,nilV] 91 (0,0) HE2.out.b0)
            have HBE:=hid (HE2.out.below.trans (jg (Qy ye w.heap.size #[strB nm,.int .i64 kd,.int .i64 ky,.int .i64 2,nilV]) (Nat.le_refl _) HE2.out.below.size))
            generalize hze:ye.setRow _ _=ze at *
            clear hze
            rw [HFD.out]
            exact bodyPost_ret (v:=.tuple #[.agg #[strB nm,.int .i64 kd,.int .i64 ky,.int .i64 2,nilV],nilV]) (qk (p:=8) (q:=9) rfl _ _ _ _ _ rfl rfl (run_loadVar_row (P:=Tryz.prog) ze w.heap.size 91 91 #[strB nm,.int .i64 kd,.int .i64 ky,.int .i64 2,nilV] (0,0) _ HoE.out Tryz.underlying91 rfl (by kernel_rfl))) rfl ⟨HBE.out,nilV,nilV,0,[],rfl,World.ownsRow_nil _ _ _ _,(fun x hx=>by cases hx),World.ownsRow_nil _ _ _ _,Nat.zero_le _,(fun u hu=>by cases hu)⟩
        ·rw [if_pos hso] at HSF
         have hst:=(HTH.out k cells HCF.out).2 s HGS.out hso HCC.out
         have hcl:=(HTH.out k cells HCF.out).1
         rw [hso] at x0
         have hvc:=(GG HAD.out.cellrow).1
         obtain ⟨vg,hvg⟩:∃ vg,va=some ⟨vg,0,none⟩:=by
          rcases HAD.out.cellrow.2 with ⟨h0,h1⟩|⟨g,cap,cur,hv,_⟩
          ·omega
          ·injection hv with hv1 _ _
           exact ⟨g,hv1⟩
         subst hvg
         obtain ⟨_,_,hva,_,hlies⟩:=JA HAD.out.cellrow (fun x hx=>⟨(HSMC.out x hx).1,(HSMC.out x hx).2.1,Nat.le_trans (HSMC.out x hx).2.2 (by decide)⟩)
         injection hva with hva1 hva2 hva3
         subst hva1 hva3
         clear hva2
         have hld:(cells.drop s.start).length=cells.length - s.start:=List.length_drop
         have HLD:Hid (Lies wc (some ⟨vg,s.start*3,none⟩) (cells.drop s.start)):=by
          obtain ⟨b,off,hbo,hb1,hb2⟩:=hlies.at_ (List.ne_nil_of_length_pos (by omega))
          simp only [Option.some.injEq,Addr.mk.injEq,and_true] at hbo
          obtain ⟨rfl,rfl⟩:=hbo
          have h:=Lies.part hlies.ok hb1 hb2 s.start (cells.length - s.start)
          rw [List.take_of_length_le (by omega),Nat.zero_add] at h
          exact h
         obtain ⟨MT,hMT⟩:∃ MT,MT=JR kd (cells.drop s.start):=⟨_,rfl⟩
         rw [← hMT] at HSF
         have HMT:Hid (∀ w',Below wc.heap.size wc w'→Calls Tryz.prog 145 #[.int .i64 kd,.slice (some ⟨vg,s.start*3,none⟩) (cells.length - s.start) (vc - s.start)] w' fun e w2=>e=.returned (strB MT)∧Below w'.heap.size w' w2):=fun w' hw'=>by
          have h:=Ep kd (some ⟨vg,s.start*3,none⟩) (vc - s.start) (cells.drop s.start) w' (by omega) (fun x hx=>HSMC.out x (List.mem_of_mem_drop hx)) (HLD.out.later hw')
          rw [hld] at h
          rw [hMT]
          exact h
         clear hMT hlies hld HLD
         have i1:(0:Int)≤(s.start:Int):=by omega
         have i2:(s.start:Int)≤(cells.length:Int):=by omega
         have i3:(cells.length:Int)≤(vc:Int):=by omega
         have i6:¬ vc=s.start:=by omega
         have i8:(cells.length:Int) - (s.start:Int)=((cells.length - s.start:Nat):Int):=by omega
         go_upto_region 20 with fail
         clear x0 x1 x2 x3 x5 e2
         by_cases hpm:p=MT
         ·rw [if_pos hpm] at HSF
          have hpq:(p == MT)=true:=by rw [hpm];simp
          clear hpm
          rw [HSF.out] at HST
          refine wp_region_held_drew (S:=fun w'=>w'.cell? ⟨w.heap.size+1,1,none⟩=some (.int .i64 kd)∧w'.cell? ⟨B,4,none⟩=some (.int .i64 (s.start:Int))) (by kernel_rfl) ⟨e1,x4⟩ (fun hHeld=>?_)
          refine tk 0 (strB p) ?_
          refine tk 1 (.pointer (some ⟨w.heap.size+1,1,none⟩)) ?_
          refine tk 2 (.int .i64 kd) ?_
          refine tk 3 (.slice (some ⟨vg,0,none⟩) cells.length vc) ?_
          refine tk 4 (.pointer (some ⟨B,4,none⟩)) ?_
          refine tk 5 (.int .i64 (s.start:Int)) ?_
          refine tk 6 (.slice (some ⟨vg,s.start*3,none⟩) (cells.length - s.start) (vc - s.start)) ?_
          simp only [ga,gb,gc,Act.put,gd,ge,gf]
          refine wpAnyH_ready (rs:=[7]) (by kernel_rfl) (by simp) ?_
          refine AllReadyH.cons (o:=_) rfl (fun K hK=>?_) AllReadyH.nil
          simp only [ga,gb,gc]
          go_simp
          go_at_call 145
          refine (HMT.out _ (qb (Below.refl _ _))).mono ?_
          rintro e w5 ⟨rfl,hb5⟩
          replace hb5:=ji hb5
          have HA5:=hid (HAD.out.later hb5)
          have HB5:=hid (jb hb5 HBD.out)
          clear hb5 HAD HBD e1 x4
          have e1:=(KF HA5.out.b1).2.1
          have x4:=(JV HB5.out).2.2.2.2.1
          try go_wp2_with fail
          refine hK.out _ _ ⟨e1,x4⟩ (fun hHeld=>?_)
          clear hK K
          try simp only [ga,gb,gc,Act.put,gd,ge,gf]
          refine tk 8 (.bool true) ?_
          refine tk 9 (.bool true) ?_
          simp only [ga,gb,gc,Act.put,gd,ge,gf]
          refine wpAnyH_done (by kernel_rfl) ?_ _
          clear hHeld e1 x4
          clear hpq
          go_wp2
          go_roundw
          case rel=>exact ⟨k+1,cells,n',xs',by omega,by go_num,HST.out,HA5.out,HSMC.out,by omega⟩
          case measure=>simp [intOf];omega
         ·rw [if_neg hpm] at HSF
          have hpq:(p == MT)=false:=by simp [hpm]
          clear hpm
          rw [HSF.out] at HST
          rw [XW pre r kd ky c hML HST.out] at HFD
          refine wp_region_held_drew (S:=fun w'=>w'.cell? ⟨w.heap.size+1,1,none⟩=some (.int .i64 kd)∧w'.cell? ⟨B,4,none⟩=some (.int .i64 (s.start:Int))) (by kernel_rfl) ⟨e1,x4⟩ (fun hHeld=>?_)
          refine tk 0 (strB p) ?_
          refine tk 1 (.pointer (some ⟨w.heap.size+1,1,none⟩)) ?_
          refine tk 2 (.int .i64 kd) ?_
          refine tk 3 (.slice (some ⟨vg,0,none⟩) cells.length vc) ?_
          refine tk 4 (.pointer (some ⟨B,4,none⟩)) ?_
          refine tk 5 (.int .i64 (s.start:Int)) ?_
          refine tk 6 (.slice (some ⟨vg,s.start*3,none⟩) (cells.length - s.start) (vc - s.start)) ?_
          simp only [ga,gb,gc,Act.put,gd,ge,gf]
          refine wpAnyH_ready (rs:=[7]) (by kernel_rfl) (by simp) ?_
          refine AllReadyH.cons (o:=_) rfl (fun K hK=>?_) AllReadyH.nil
          simp only [ga,gb,gc]
          go_simp
          go_at_call 145
          refine (HMT.out _ (qb (Below.refl _ _))).mono ?_
          rintro e w5 ⟨rfl,hb5⟩
          replace hb5:=ji hb5
          have HA5:=hid (HAD.out.later hb5)
          have HB5:=hid (jb hb5 HBD.out)
          clear hb5 HAD HBD e1 x4
          have e1:=(KF HA5.out.b1).2.1
          have x4:=(JV HB5.out).2.2.2.2.1
          try go_wp2_with fail
          refine hK.out _ _ ⟨e1,x4⟩ (fun hHeld=>?_)
          clear hK K
          try simp only [ga,gb,gc,Act.put,gd,ge,gf]
          refine tk 8 (.bool false) ?_
          refine tk 9 (.bool false) ?_
          simp only [ga,gb,gc,Act.put,gd,ge,gf]
          refine wpAnyH_done (by kernel_rfl) ?_ _
          clear hHeld e1 x4
          clear hpq
          go_upto_region 26 with fail
          obtain ⟨_,_,_,g3,_⟩:=Ur HA5.out.b2
          have f3:=frozen_of_row w5 (w.heap.size+2) 3 _ _ HA5.out.b2
          go_upto_region 27 with fail
          have HE2:Hid (CAt (w5.setCell ⟨w.heap.size+2,3,none⟩ (.int .i64 2)) w #[strB nm,.int .i64 kd,.int .i64 ky,nilV] #[strB nm,.int .i64 kd,.int .i64 ky,.int .i64 2,nilV] (.slice (some ⟨vg,0,none⟩) cells.length vc) cells (.slice zb n' zd) n' xs'):=HA5.out.setF 3 (.int .i64 2)
          clear g3 f3
          generalize hye:w5.setCell _ _=ye at *
          clear hye
          go_wp2_with (first|(refine wpList_load_row rfl 91 (.tmp 11) rfl (w.heap.size+2) rfl 91 #[strB nm,.int .i64 kd,.int .i64 ky,.int .i64 2,nilV] (0,0) _ HE2.out.b2 Tryz.underlying91 rfl (by kernel_rfl) ?_)|(refine wpList_store_row rfl 91 (.tmp 8) (.tmp 144) rfl w.heap.size #[strB nm,.int .i64 kd,.int .i64 ky,.int .i64 2,nilV] rfl rfl 91 found0 HE2.out.b0 (by kernel_rfl) rfl (by simp [Value.oneCell']) ?_))
          have HoE:=hid (setRow_heap ye w.heap.size _ #[strB nm,.int .i64 kd,.int .i64 ky,.int .i64 2,nilV] 91 (0,0) HE2.out.b0)
          have HBE:=hid (HE2.out.below.trans (jg (Qy ye w.heap.size #[strB nm,.int .i64 kd,.int .i64 ky,.int .i64 2,nilV]) (Nat.le_refl _) HE2.out.below.size))
          generalize hze:ye.setRow _ _=ze at *
          clear hze
          rw [HFD.out]
          exact bodyPost_ret (v:=.tuple #[.agg #[strB nm,.int .i64 kd,.int .i64 ky,.int .i64 2,nilV],nilV]) (qk (p:=8) (q:=9) rfl _ _ _ _ _ rfl rfl (run_loadVar_row (P:=Tryz.prog) ze w.heap.size 91 91 #[strB nm,.int .i64 kd,.int .i64 ky,.int .i64 2,nilV] (0,0) _ HoE.out Tryz.underlying91 rfl (by kernel_rfl))) rfl ⟨HBE.out,nilV,nilV,0,[],rfl,World.ownsRow_nil _ _ _ _,(fun x hx=>by cases hx),World.ownsRow_nil _ _ _ _,Nat.zero_le _,(fun u hu=>by cases hu)⟩
     ·rw [if_neg hcc] at HST
      have hne:((s.c:Int) != (c:Int))=true:=by simp;omega
      go_wp2
      go_roundw
      case rel=>exact ⟨k+1,cells,n,xs,by omega,by go_num,HST.out,HAB.out,HSMC.out,by omega⟩
      case measure=>simp [intOf];omega
    ·have hke:k=L.length:=by omega
     have hki:¬ (k:Int) < (L.length:Int):=by omega
     subst hke
     rw [List.take_length,← hML,List.take_length] at HCF
     rw [HCF.out] at HFD
     simp only at HFD
     obtain ⟨_,_,_,_,g4⟩:=Ur HA.out.b2
     have f4:=frozen_of_row wr (w.heap.size+2) 4 _ _ HA.out.b2
     go_upto_region 29 with fail
     have HE2:Hid (CAt (wr.setCell ⟨w.heap.size+2,4,none⟩ (.slice va cells.length vc)) w #[strB nm,.int .i64 kd,.int .i64 ky,nilV] #[strB nm,.int .i64 kd,.int .i64 ky,.int .i64 0,.slice va cells.length vc] (.slice va cells.length vc) cells (.slice za n zc) n xs):=HA.out.setF 4 (.slice va cells.length vc)
     clear g4 f4 HA d6
     generalize hye:wr.setCell _ _=ye at *
     clear hye
     go_wp2_with (first|(refine wpList_load_row rfl 91 (.tmp 11) rfl (w.heap.size+2) rfl 91 #[strB nm,.int .i64 kd,.int .i64 ky,.int .i64 0,.slice va cells.length vc] (0,0) _ HE2.out.b2 Tryz.underlying91 rfl (by kernel_rfl) ?_)|(refine wpList_store_row rfl 91 (.tmp 8) (.tmp 147) rfl w.heap.size #[strB nm,.int .i64 kd,.int .i64 ky,.int .i64 0,.slice va cells.length vc] rfl rfl 91 found0 HE2.out.b0 (by kernel_rfl) rfl (by simp [Value.oneCell']) ?_))
     have hgr:=Qy ye w.heap.size #[strB nm,.int .i64 kd,.int .i64 ky,.int .i64 0,.slice va cells.length vc]
     have HoE:=hid (setRow_heap ye w.heap.size _ #[strB nm,.int .i64 kd,.int .i64 ky,.int .i64 0,.slice va cells.length vc] 91 (0,0) HE2.out.b0)
     have HBE:=hid (HE2.out.below.trans (jg hgr (Nat.le_refl _) HE2.out.below.size))
     have HCE:=hid (jy (HE2.out.cellrow.kept hgr (Jk HE2.out.cellrow (by omega))) (Nat.le_add_right w.heap.size 3))
     have HON:=hid HE2.out.one
     have HZE:=hid (jy (HE2.out.sealrow.kept hgr (Jk HE2.out.sealrow (by omega))) (Nat.le_add_right w.heap.size 3))
     clear hgr HE2
     generalize hze:ye.setRow _ _=ze at *
     clear hze
     rw [HFD.out]
     exact bodyPost_ret (v:=.tuple #[.agg #[strB nm,.int .i64 kd,.int .i64 ky,.int .i64 0,.slice va cells.length vc],.slice za n zc]) (qk (p:=8) (q:=9) rfl _ _ _ _ _ rfl rfl (run_loadVar_row (P:=Tryz.prog) ze w.heap.size 91 91 #[strB nm,.int .i64 kd,.int .i64 ky,.int .i64 0,.slice va cells.length vc] (0,0) _ HoE.out Tryz.underlying91 rfl (by kernel_rfl))) rfl ⟨HBE.out,_,_,n,xs,rfl,HCE.out,HSMC.out,HZE.out,by omega,HON.out⟩
end
section
theorem FoundsAt.aside {base b e s m:Nat} {x y:World} {v u:Value} {zs:List Value} {F:Nat→FoundB} {n:Nat} {Vs:Nat→Value} (h:FoundsAt base x v F n Vs) (hg:x.grownBy y u.ownBlock) (ho:x.ownsRow b e s u m zs) (h1:91≠e) (h2:58≠e):FoundsAt base y v F n Vs :=
 ⟨h.row.kept hg (qc h.row ho h1),fun j hj=>(h.cells j hj).kept hg (qc (h.cells j hj) ho h2),h.small,h.apart⟩
theorem FoundsAt.under {base B:Nat} {x y:World} {v:Value} {F:Nat→FoundB} {n:Nat} {Vs:Nat→Value} (h:FoundsAt base x v F n Vs) (hg:x.grownBy y (some B)) (hB:B < base):FoundsAt base y v F n Vs :=
 ⟨h.row.kept hg (Jk h.row hB),fun j hj=>(h.cells j hj).kept hg (Jk (h.cells j hj) hB),h.small,h.apart⟩
theorem ToldAt.aside {x y:World} {T base b e s m:Nat} {S:SheetF} {u:Value} {zs:List Value} (h:ToldAt x T base S) (hg:x.grownBy y u.ownBlock) (ho:x.ownsRow b e s u m zs) (h1:179≠e) (h2:61≠e) (h3:161≠e) (h4:9≠e) (h5:167≠e):ToldAt y T base S:=by
 obtain ⟨cv,sv,pv,ev,k1,k2,k3,k4,k5⟩:=h
 exact ⟨cv,sv,pv,ev,jq hg ho k1 h1,k2.kept hg (qc k2 ho h2),k3.kept hg (qc k3 ho h3),k4.kept hg (qc k4 ho h4),k5.kept hg (qc k5 ho h5)⟩
theorem ToldAt.box {x y:World} {T base B:Nat} {S:SheetF} {cs:Array Value} (h:ToldAt x T base S) (hg:x.grownBy y (some B)) (hB:x.heap[B]?=some (.cells cs 106 (0,0))):ToldAt y T base S:=by
 obtain ⟨cv,sv,pv,ev,k1,k2,k3,k4,k5⟩:=h
 have hne:T≠B:=by
  intro e
  subst e
  rw [hB] at k1
  injection k1 with k1
  injection k1 with _ k6 _
  exact absurd k6 (by decide)
 exact ⟨cv,sv,pv,ev,qi hg k1 hne,k2.kept hg (qM k2 hB (by decide)),k3.kept hg (qM k3 hB (by decide)),k4.kept hg (qM k4 hB (by decide)),k5.kept hg (qM k5 hB (by decide))⟩
structure RAt (x w:World) (fb ob:Nat) (f:FormF) (fv sv:Value) (F:Nat→FoundB) (k:Nat) (Vs:Nat→Value) (n:Nat) (xs:List Value):Prop where
 below:Below w.heap.size w x
 lo:w.heap.size≤fb
 lt:fb < ob
 file:x.heap[fb]?=some (.cells (fileC f) 169 (0,0))
 out:x.heap[ob]?=some (.cells #[fv,sv] 106 (0,0))
 found:FoundsAt (ob+1) x fv F k Vs
 seals:x.ownsRow (ob+1) 40 4 sv n xs
section
variable {x y w:World} {fb ob:Nat} {f:FormF} {fv sv:Value} {F:Nat→FoundB} {k:Nat} {Vs:Nat→Value} {n:Nat} {xs:List Value}
theorem RAt.size (h:RAt x w fb ob f fv sv F k Vs n xs):ob+1≤x.heap.size:=Nat.succ_le_of_lt (Array.getElem?_eq_some_iff.1 h.out).1
theorem RAt.later (h:RAt x w fb ob f fv sv F k Vs n xs) (hb:Below x.heap.size x y):RAt y w fb ob f fv sv F k Vs n xs :=
 ⟨h.below.trans (hb.mono h.below.size),h.lo,h.lt,jb hb h.file,jb hb h.out,h.found.later hb,jw h.seals hb⟩
theorem RAt.alloc (h:RAt x w fb ob f fv sv F k Vs n xs) (o:Obj):RAt (x.alloc o) w fb ob f fv sv F k Vs n xs :=
 h.later ((Below.refl x.heap.size x).alloc (Nat.le_refl _) o)
theorem RAt.drew (h:RAt x w fb ob f fv sv F k Vs n xs):RAt x.drew w fb ob f fv sv F k Vs n xs :=
 h.later (qb (Below.refl x.heap.size x))
theorem RAt.filec (h:RAt x w fb ob f fv sv F k Vs n xs):x.cell? ⟨fb,1,none⟩=some (.int .i64 (f.foot:Int))∧x.cell? ⟨fb,4,none⟩=some (strB f.nonce)∧x.cell? ⟨fb,5,none⟩=some (strB f.body):=by
 obtain ⟨_,h1,_,_,h4,h5⟩:=JV h.file
 exact ⟨h1,h4,h5⟩
theorem RAt.rowB (h:RAt x w fb ob f fv sv F k Vs n xs) (B:Nat) (cs:Array Value) {old:Array Value} (hw:ob+1≤B) (hB:x.heap[B]?=some (.cells old 40 (0,0))) (h2:sv.ownBlock=none∨sv.ownBlock≠some B):RAt (x.setRow B cs) w fb ob f fv sv F k Vs n xs:=by
 have hg:=Qy x B cs
 have:=h.lo
 have:=h.lt
 exact ⟨h.below.trans (jg hg (by omega) h.below.size),h.lo,h.lt,qi hg h.file (by omega),qi hg h.out (by omega),⟨h.found.row.kept hg (qM h.found.row hB (by decide)),fun j hj=>(h.found.cells j hj).kept hg (qM (h.found.cells j hj) hB (by decide)),h.found.small,h.found.apart⟩,h.seals.kept hg h2⟩
theorem RAt.sealUp (h:RAt x w fb ob f fv sv F k Vs n xs) {sv':Value} {n':Nat} {xs':List Value} (hg:x.grownBy y sv.ownBlock) (ho:y.ownsRow (ob+1) 40 4 sv' n' xs'):RAt (y.setCell ⟨ob,1,none⟩ sv') w fb ob f fv sv' F k Vs n' xs':=by
 have h1:=h.lo
 have h2:=h.lt
 have hout:=qY hg h.seals h.out (by omega)
 have hset:=zS y ob 1 sv'
 have hB:=Jb h.below hg (fun k hk=>by have:=(h.seals.lt k hk).1;omega)
 refine ⟨hB.trans (jg hset (by omega) hB.size),h.lo,h.lt,qi hset (qY hg h.seals h.file (by omega)) (by omega),?_,(h.found.aside hg h.seals (by decide) (by decide)).under hset (by omega),ho.kept hset (Jk ho (by omega))⟩
 rw [heap_setCell_same y ob 1 _ _ sv' hout]
 rfl
theorem RAt.foundUp (h:RAt x w fb ob f fv sv F k Vs n xs) {fv' u:Value} {B:Nat} (hB:∀ j,j < k→∀ a,(Vs j).ownBlock=some a→a < B) (hu:x.ownsRow B 58 3 u (F k).cells.length (jG (F k).cells)) (hbB:ob+1≤B) (hs:∀ z ∈ (F k).cells,qx z)
  (hg:x.grownBy y fv.ownBlock) (ho:y.ownsRow (ob+1) 91 5 fv' (k+1) (JL F Vs k++Um (F k) u)):RAt (y.setCell ⟨ob,0,none⟩ fv') w fb ob f fv' sv F (k+1) (fun j=>if j=k then u else Vs j) n xs:=by
 have h1:=h.lo
 have h2:=h.lt
 have hout:=qY hg h.found.row h.out (by omega)
 have hset:=zS y ob 0 fv'
 have hBl:=Jb h.below hg (fun k hk=>by have:=(h.found.row.lt k hk).1;omega)
 have hst:=h.found.step hB hu hbB hs hg ho
 refine ⟨hBl.trans (jg hset (by omega) hBl.size),h.lo,h.lt,qi hset (qY hg h.found.row h.file (by omega)) (by omega),?_,hst.under hset (by omega),(h.seals.kept hg (qc h.seals h.found.row (by decide))).kept hset (Jk (h.seals.kept hg (qc h.seals h.found.row (by decide))) (by omega))⟩
 rw [heap_setCell_same y ob 0 _ _ fv' hout]
 rfl
end
theorem xW {w:World} {q:Nat} {a b:Value} {t:TypeId} (hh:w.heap[q]?=some (.cells #[a,b] t (0,0))):w.cell? ⟨q,0,none⟩=some a∧w.cell? ⟨q,1,none⟩=some b:=by
 refine ⟨?_,?_⟩<;>rw [cell_of_row w q _ _ _ (0,0) hh]<;>rfl
theorem Rz {file:List UInt8} {f:FormF} (h:zf file=some f):f.parts.length≤65000∧f.footer.length≤65000∧f.nonce.length=4∧f.body.length≤65000∧f.foot≤9:=by
 obtain ⟨h1,h2⟩:=RG h
 have h3:=h1.short
 have hl:=h1.lens
 refine ⟨?_,by omega,h1.nonce,by omega,h1.foot.2⟩
 unfold xj at h3
 simp only [List.length_append] at h3
 omega
end
section
noncomputable def NM (f:FormF) (pre:List UInt8) (r:List KeyB) (trust:Bool) (ft:List UInt8):Int × Option SheetF :=
 match xo f.foot f.parts ft with
 | none=>(9,none)
 | some S=>if (f.told && !trust)=true then (if jA r (f.foot:Int)=false then (8,none) else if qo (jm r (f.foot:Int)) f.nonce (qu pre 83 0 0 0++ft) f.body=some [] then (0,some S) else (4,none)) else (0,some S)
section
variable {file pre:List UInt8} {r:List KeyB} {trust:Bool} {f:FormF}
theorem EL (hp:¬ 20 < pre.length) (hr:xY r=true) (hf:zf file=some f) (ht:f.told=true):qN file pre r trust=NM f pre r trust f.footer:=by
 unfold qN NM
 rw [if_neg hp,if_neg (by rw [hr];decide),hf]
 simp only [ht,if_true,Bool.true_and]
 cases xo f.foot f.parts f.footer with
 | none=>rfl
 | some S=>cases trust<;>simp
theorem MP (hp:¬ 20 < pre.length) (hr:xY r=true) (hf:zf file=some f) (ht:f.told=false) (hn:jA r (f.foot:Int)=false):qN file pre r trust=(8,none):=by
 unfold qN
 rw [if_neg hp,if_neg (by rw [hr];decide),hf]
 simp [ht,hn]
theorem Ex (hp:¬ 20 < pre.length) (hr:xY r=true) (hf:zf file=some f) (ht:f.told=false) (hn:jA r (f.foot:Int)=true) (ho:qo (jm r (f.foot:Int)) f.nonce (qu pre 70 0 0 0) f.body=none):qN file pre r trust=(4,none):=by
 unfold qN
 rw [if_neg hp,if_neg (by rw [hr];decide),hf]
 simp [ht,hn,ho]
theorem De (hp:¬ 20 < pre.length) (hr:xY r=true) (hf:zf file=some f) (ht:f.told=false) (hn:jA r (f.foot:Int)=true) {ft:List UInt8} (ho:qo (jm r (f.foot:Int)) f.nonce (qu pre 70 0 0 0) f.body=some ft):qN file pre r trust=NM f pre r trust ft:=by
 unfold qN NM
 rw [if_neg hp,if_neg (by rw [hr];decide),hf]
 simp only [ht,hn,ho,Bool.false_and]
 cases xo f.foot f.parts ft<;>simp
theorem Mh {sec non ext body p:List UInt8} (h:qo sec non ext body=some p):p.length≤65535:=by
 unfold qo at h
 split at h
 ·rename_i hc
  injection h with h
  subst h
  rw [zw,List.length_take]
  omega
 ·cases h
end
def F0:Nat→FoundB:=fun _=>⟨[],0,0,0,[]⟩
def V0:Nat→Value:=fun _=>nilV
theorem RAt.begin {x w:World} {fb ob:Nat} {f:FormF} {sv:Value} {F:Nat→FoundB} {Vs:Nat→Value} {n:Nat} {xs:List Value} (h:RAt x w fb ob f nilV sv F 0 Vs n xs) (F':Nat→FoundB) (Vs':Nat→Value):RAt x w fb ob f nilV sv F' 0 Vs' n xs :=
 ⟨h.below,h.lo,h.lt,h.file,h.out,⟨World.ownsRow_nil _ _ _ _,fun j hj=>absurd hj (by omega),fun j hj=>absurd hj (by omega),fun i j _ hj=>absurd hj (by omega)⟩,h.seals⟩
theorem ToldAt.boxT {x y:World} {T base B:Nat} {S:SheetF} {cs:Array Value} {e:TypeId} (h:ToldAt x T base S) (hg:x.grownBy y (some B)) (hB:x.heap[B]?=some (.cells cs e (0,0))) (h1:179≠e) (h2:61≠e) (h3:161≠e) (h4:9≠e) (h5:167≠e):ToldAt y T base S:=by
 obtain ⟨cv,sv,pv,ev,k1,k2,k3,k4,k5⟩:=h
 have hne:T≠B:=by
  intro e
  subst e
  rw [hB] at k1
  injection k1 with k1
  injection k1 with _ k6 _
  exact h1 k6.symm
 exact ⟨cv,sv,pv,ev,qi hg k1 hne,k2.kept hg (qM k2 hB h2),k3.kept hg (qM k3 hB h3),k4.kept hg (qM k4 hB h4),k5.kept hg (qM k5 hB h5)⟩
structure RTAt (T tb:Nat) (S:SheetF) (x w:World) (fb ob:Nat) (f:FormF) (fv sv:Value) (F:Nat→FoundB) (k:Nat) (Vs:Nat→Value) (n:Nat) (xs:List Value):Prop extends RAt x w fb ob f fv sv F k Vs n xs where
 told:ToldAt x T tb S
section
variable {x y w:World} {T tb:Nat} {S:SheetF} {fb ob:Nat} {f:FormF} {fv sv:Value} {F:Nat→FoundB} {k:Nat} {Vs:Nat→Value} {n:Nat} {xs:List Value}
theorem RTAt.later (h:RTAt T tb S x w fb ob f fv sv F k Vs n xs) (hb:Below x.heap.size x y):RTAt T tb S y w fb ob f fv sv F k Vs n xs:=⟨h.toRAt.later hb,h.told.later hb⟩
theorem RTAt.alloc (h:RTAt T tb S x w fb ob f fv sv F k Vs n xs) (o:Obj):RTAt T tb S (x.alloc o) w fb ob f fv sv F k Vs n xs :=
 h.later ((Below.refl x.heap.size x).alloc (Nat.le_refl _) o)
theorem RTAt.drew (h:RTAt T tb S x w fb ob f fv sv F k Vs n xs):RTAt T tb S x.drew w fb ob f fv sv F k Vs n xs :=
 h.later (qb (Below.refl x.heap.size x))
theorem RTAt.rowB (h:RTAt T tb S x w fb ob f fv sv F k Vs n xs) (B:Nat) (cs:Array Value) {old:Array Value} (hw:ob+1≤B) (hB:x.heap[B]?=some (.cells old 40 (0,0))) (h2:sv.ownBlock=none∨sv.ownBlock≠some B):RTAt T tb S (x.setRow B cs) w fb ob f fv sv F k Vs n xs :=
 ⟨h.toRAt.rowB B cs hw hB h2,h.told.boxT (Qy x B cs) hB (by decide) (by decide) (by decide) (by decide) (by decide)⟩
end
theorem Gp (x:World) (b:Option Nat):x.grownBy x b:=⟨rfl,rfl,rfl,Nat.le_refl _,fun _ _ _=>rfl⟩
theorem Cf (x:World) (A B:Array Value) (t:TypeId):Below x.heap.size x ((x.alloc (.cells A t)).setRow x.heap.size B):=by
 have h:=(Below.refl x.heap.size x).alloc (Nat.le_refl _) (.cells A t)
 exact h.trans (jg (Qy _ x.heap.size B) (Nat.le_refl _) h.size)
theorem Vl {file:List UInt8} {f:FormF} {ft:List UInt8} {S:SheetF} (hf:zf file=some f) (h:SheetOk f.foot f.parts ft S):ft.length≤4200:=by
 have hl:=Rz hf
 exact Zr (fun x hx=>by
  have h1:=Zc _ _ _ _ x hx
  rw [← h.parts] at h1
  omega) h
end
section
theorem Iq:QV:=by
 intro file pre ra rcap r trust w hfl hpl hrm hl
 have HL:=hid hl
 clear hl
 go_enter Tryz.func38,Tryz.ntmps38
 by_cases hp:20 < pre.length
 ·have hpi:(20:Int) < (pre.length:Int):=by omega
  have HSF:Hid (qN file pre r trust=(7,none)):=by show _=_;unfold qN;rw [if_pos hp]
  go_wp2
  go_ret2
  exact ⟨Below.refl _ _,.inl ⟨7,HSF.out,by decide,rfl⟩⟩
 ·have hpi:¬ (20:Int) < (pre.length:Int):=by omega
  have hp20:pre.length≤20:=by omega
  have HP:=hid hp
  clear hp
  go_wp2_with fail
  clear hpi
  refine (In ra rcap r w hrm HL.out).mono ?_
  rintro e w1 ⟨rfl,hb1⟩
  have HB1:=hid hb1
  clear hb1
  cases hr:xY r with
  | false =>
   have HSF:Hid (qN file pre r trust=(1,none)):=by show _=_;unfold qN;rw [if_neg HP.out,if_pos hr]
   go_wp2
   go_ret2
   exact ⟨HB1.out,.inl ⟨1,HSF.out,by decide,rfl⟩⟩
  | true =>
   have HR:=hid hr
   clear hr
   go_wp2_with fail
   refine (EY file w1 hfl).mono ?_
   rintro e w2 ⟨hb2,hx⟩
   have HB2:=hid (HB1.out.trans (hb2.mono HB1.out.size))
   clear hb2 HB1
   obtain ⟨hbx,_,_,hox⟩:=qg w2 file0 169
   have HX:=hid hox
   have HBX:=hid (HB2.out.trans (hbx.mono HB2.out.size))
   have hw2:=HB2.out.size
   clear hbx hox
   rcases hx with ⟨hn,C,⟨hc1,hc2⟩,rfl⟩|⟨f,hf,rfl⟩
   ·rw [Eu] at hn
    have HSF:Hid (qN file pre r trust=(9,none)):=by show _=_;unfold qN;rw [if_neg HP.out,if_neg (by rw [HR.out];decide),hn]
    have hc3:(Tryz.prog.info? 169).map (·.size)=some C.size:=by rw [hc1];kernel_rfl
    clear hn
    go_wp2_with (refine wpList_store_row rfl 169 (.tmp 11) (.tmp 36) rfl w2.heap.size C rfl rfl 169 file0 HX.out hc3 hc1.symm hc2 ?_)
    have HBE:=hid (HBX.out.trans (jg (Qy (w2.alloc (.cells file0 169)) w2.heap.size C) hw2 HBX.out.size))
    generalize hwe:(w2.alloc _).setRow _ _=we at *
    clear hwe
    go_wp2
    go_ret2
    exact ⟨HBE.out,.inl ⟨9,HSF.out,by decide,rfl⟩⟩
   ·rw [Eu] at hf
    have HF:=hid hf
    obtain ⟨hl1,hl2,hl3,hl4,hl5⟩:=Rz hf
    clear hf
    go_upto_region 9 with (refine wpList_store_row rfl 169 (.tmp 11) (.tmp 36) rfl w2.heap.size (fileC f) rfl rfl 169 file0 HX.out (by kernel_rfl) rfl (by simp [Value.oneCell']) ?_)
    have HB3:=hid (HBX.out.trans (jg (Qy (w2.alloc (.cells file0 169)) w2.heap.size (fileC f)) hw2 HBX.out.size))
    have HF3:=hid (setRow_heap (w2.alloc (.cells file0 169)) w2.heap.size _ (fileC f) 169 (0,0) HX.out)
    generalize hw3:(w2.alloc _).setRow _ _=w3 at *
    clear hw3 HX HBX HB2
    generalize hfb:w2.heap.size=fb at *
    clear hfb
    obtain ⟨c0,c1,c2,c3,c4,c5⟩:=JV HF3.out
    go_cut [13] (fun bv wd=>bv=.bool (jA r (f.foot:Int))∧Below w.heap.size w wd∧wd.heap[fb]?=some (.cells (fileC f) 169 (0,0)))
    case first =>
     go_wp2_with fail
     refine (Zh ra rcap r (f.foot:Int) w3 hrm (HL.out.later HB3.out)).mono ?_
     rintro e w4 ⟨rfl,hb4⟩
     have HB4:=hid (HB3.out.trans (hb4.mono HB3.out.size))
     have HF4:=hid (jb hb4 HF3.out)
     clear hb4 HB3 HF3 c0 c1 c2 c3 c4 c5
     cases hs:jA r (f.foot:Int) with
     | false =>
      rw [(XT HR.out).2 hs]
      go_wp2
      go_meet
      case rel=>exact ⟨by rw [hs],HB4.out,HF4.out⟩
     | true =>
      obtain ⟨b,l,hbl⟩:∃ b l,jm r (f.foot:Int)=b :: l:=by
       have h8:=QP HR.out hs
       match hq:jm r (f.foot:Int) with
       | []=>rw [hq] at h8;cases h8
       | b :: l=>exact ⟨b,l,rfl⟩
      rw [hbl]
      go_wp2
      go_meet
      case rel=>exact ⟨by rw [hs],HB4.out,HF4.out⟩
    case rest =>
     obtain ⟨hbv,hB5,hF5⟩:=hcut
     subst hbv
     have HB5:=hid hB5
     have HF5:=hid hF5
     clear hB5 hF5 HB3 HF3 c0 c1 c2 c3 c4 c5
     obtain ⟨th,hth⟩:∃ th,jA r (f.foot:Int)=th:=⟨_,rfl⟩
     have HTH:=hid hth
     rw [hth]
     clear hth
     obtain ⟨hbo,_,_,hoo⟩:=qg wc #[nilV,nilV] 106
     have hfbw:fb < wc.heap.size:=(Array.getElem?_eq_some_iff.1 HF5.out).1
     have HA0:Hid (RAt (wc.alloc (.cells #[nilV,nilV] 106)) w fb wc.heap.size f nilV nilV F0 0 V0 0 []):=⟨HB5.out.trans (hbo.mono HB5.out.size),hw2,hfbw,jb hbo HF5.out,hoo,⟨World.ownsRow_nil _ _ _ _,fun j hj=>absurd hj (by omega),fun j hj=>absurd hj (by omega),fun i j _ hj=>absurd hj (by omega)⟩,World.ownsRow_nil _ _ _ _⟩
     clear hbo hoo HB5 HF5
     go_upto_region 11 with fail
     generalize hWQ:wc.alloc _=WQ at *
     clear hWQ
     generalize hob:wc.heap.size=ob at *
     clear hob
     obtain ⟨c0,c1,c2,c3,c4,c5⟩:=JV HA0.out.file
     go_upto_if 51 with fail
     clear c1 c2 c3 c4 c5
     go_cut [15,51] (fun ftv _ wd=>∃ ft sv n xs,ftv=strB ft∧RAt wd w fb ob f nilV sv F0 0 V0 n xs∧n≤1∧ft.length≤65535∧qN file pre r trust=NM f pre r trust ft)
     case first =>
      cases ht:f.told with
      | true =>
       refine wp_cond_false rfl ?_
       go_wp2
       go_meet
       case rel=>exact ⟨f.footer,nilV,0,[],rfl,HA0.out,by omega,by omega,EL HP.out HR.out HF.out ht⟩
      | false =>
       refine wp_cond_true rfl ?_
       have HT:=hid ht
       clear c0 ht
       cases th with
       | false =>
        have HSF:=hid (MP (trust:=trust) HP.out HR.out HF.out HT.out HTH.out)
        go_wp2
        go_ret2
        exact ⟨HA0.out.below,.inl ⟨8,HSF.out,by decide,rfl⟩⟩
       | true =>
        have hsec:(jm r (f.foot:Int)).length=8:=QP HR.out HTH.out
        have hbl:=Xv pre 70 0 0 0 hp20
        obtain ⟨sec,hsc⟩:∃ sec,sec=jm r (f.foot:Int):=⟨_,rfl⟩
        obtain ⟨bd,hbd⟩:∃ bd,bd=qu pre 70 0 0 0:=⟨_,rfl⟩
        rw [← hbd] at hbl
        obtain ⟨oo,hoo⟩:∃ oo,oo=(qo (jm r (f.foot:Int)) f.nonce (qu pre 70 0 0 0) f.body).isSome:=⟨_,rfl⟩
        have HOO:=hid hoo
        have HBD:Hid (∀ w',Calls Tryz.prog 86 #[strB pre,strB [70],.int .i64 0,.int .i64 0,.int .i64 0] w' fun e w2=>e=.returned (strB bd)∧Below w'.heap.size w' w2):=fun w'=>by
         rw [hbd]
         exact Vw pre 70 0 0 0 w' hp20 (by decide) (by decide) (by decide)
        have HOP:Hid (∀ w',LiesK w' ra r→Calls Tryz.prog 89 #[.slice ra r.length rcap,.int .i64 (f.foot:Int),strB bd,.agg #[strB f.nonce,strB f.body]] w' fun e w2=>Below w'.heap.size w' w2∧∃ p,e=.returned (.tuple #[.agg #[strB sec,strB f.nonce,strB bd,strB f.body],strB p,.bool oo])∧∀ q,qo (jm r (f.foot:Int)) f.nonce (qu pre 70 0 0 0) f.body=some q→p=q):=fun w' h=>by
         have h2:=Ub ra rcap r (f.foot:Int) (qu pre 70 0 0 0) f.nonce f.body w' h hrm (by omega) (by omega) (by rw [← hbd];omega) (by unfold maxLen;omega)
         rw [hoo,hsc,hbd]
         exact h2
        clear hsc hbd hoo hsec
        go_upto_region 15 with fail
        go_cut [16,17,18] (fun bv pv ov wd=>∃ Bs p oo',bv=.pointer (some ⟨Bs,0,none⟩)∧pv=strB p∧ov=.bool oo'∧oo'=(qo (jm r (f.foot:Int)) f.nonce (qu pre 70 0 0 0) f.body).isSome∧(∀ q,qo (jm r (f.foot:Int)) f.nonce (qu pre 70 0 0 0) f.body=some q→p=q)∧RAt wd w fb ob f nilV nilV F0 0 V0 0 []∧ob+1≤Bs∧wd.heap[Bs]?=some (.cells #[strB sec,strB f.nonce,strB bd,strB f.body] 40 (0,0))∧(nilV.ownBlock=none∨nilV.ownBlock≠some Bs))
        case first =>
         have hS:=HA0.out.filec
         refine wp_region_held_drew (S:=fun w'=>w'.cell? ⟨fb,1,none⟩=some (.int .i64 (f.foot:Int))∧w'.cell? ⟨fb,4,none⟩=some (strB f.nonce)∧w'.cell? ⟨fb,5,none⟩=some (strB f.body)) (by kernel_rfl) hS (fun hHeld=>?_)
         clear hS
         refine tk 0 (.slice ra r.length rcap) ?_
         refine tk 1 (.pointer (some ⟨fb,1,none⟩)) ?_
         refine tk 2 (.int .i64 (f.foot:Int)) ?_
         refine tk 3 (strB pre) ?_
         refine tk 5 (.pointer (some ⟨fb,4,none⟩)) ?_
         refine tk 6 (.agg #[strB f.nonce,strB f.body]) ?_
         simp only [ga,gb,gc,Act.put,gd,ge,gf]
         refine wpAnyH_ready (rs:=[4,12]) (by kernel_rfl) (by simp) ?_
         refine AllReadyH.cons (o:=_) rfl (fun K hK=>?_) (AllReadyH.cons (o:=_) rfl (fun K hK=>?_) AllReadyH.nil)
         ·simp only [ga,gb,gc]
          go_simp
          go_at_call 86
          refine (HBD.out _).mono ?_
          rintro e y1 ⟨rfl,hb1⟩
          replace hb1:=ji hb1
          have HA1:Hid (RAt y1 w fb ob f nilV nilV F0 0 V0 0 []):=HA0.out.later hb1
          have hS:=HA1.out.filec
          clear hb1
          try go_wp2_with fail
          refine hK.out _ _ hS (fun hHeld=>?_)
          clear hK K hS
          try simp only [ga,gb,gc,Act.put,gd,ge,gf]
          refine wpAnyH_ready (rs:=[7,12]) (by kernel_rfl) (by simp) ?_
          refine AllReadyH.cons (o:=_) rfl (fun K hK=>?_) (AllReadyH.cons (o:=_) rfl (fun K hK=>?_) AllReadyH.nil)
          ·simp only [ga,gb,gc]
           go_simp
           go_at_call 89
           refine (HOP.out _ (HL.out.later HA1.out.below)).mono ?_
           rintro e y2 ⟨hb2,p,rfl,hpq⟩
           have HPQ:=hid hpq
           have HA2:Hid (RAt y2 w fb ob f nilV nilV F0 0 V0 0 []):=HA1.out.later hb2
           have hS:=HA2.out.filec
           clear hb2 hpq
           try go_wp2_with fail
           refine hK.out _ _ hS (fun hHeld=>?_)
           clear hK K hS
           try simp only [ga,gb,gc,Act.put,gd,ge,gf]
           refine tk 8 (.tuple #[.agg #[strB sec,strB f.nonce,strB bd,strB f.body],strB p,.bool oo]) ?_
           refine tk 9 (.agg #[strB sec,strB f.nonce,strB bd,strB f.body]) ?_
           refine tk 10 (strB p) ?_
           refine tk 11 (.bool oo) ?_
           simp only [ga,gb,gc,Act.put,gd,ge,gf]
           refine wpAnyH_ready (rs:=[12]) (by kernel_rfl) (by simp) ?_
           refine AllReadyH.cons (o:=_) rfl (fun K hK=>?_) AllReadyH.nil
           simp only [ga,gb,gc]
           go_simp
           try go_wp2_with fail
           have HAa:Hid (RAt (y2.alloc (.cells seal0 40)) w fb ob f nilV nilV F0 0 V0 0 []):=(HA2.out.alloc (.cells seal0 40))
           have HSa:Hid ((y2.alloc (.cells seal0 40)).heap[y2.heap.size]?=some (.cells seal0 40 (0,0))):=(qg y2 seal0 40).2.2.2
           have hBz:=HA2.out.size
           have HZB:=hid (zF HA2.out.seals (Nat.le_refl y2.heap.size))
           have hS:=HAa.out.filec
           refine hK.out _ _ hS (fun hHeld=>?_)
           clear hK K hS
           try simp only [ga,gb,gc,Act.put,gd,ge,gf]
           generalize hya:(y2.alloc (.cells seal0 40))=ya at *
           clear hya
           generalize hBs:y2.heap.size=Bs at *
           clear hBs
           refine wpAnyH_ready (rs:=[13]) (by kernel_rfl) (by simp) ?_
           refine AllReadyH.cons (o:=_) rfl (fun K hK=>?_) AllReadyH.nil
           simp only [ga,gb,gc]
           rw [if_pos (by simp [Region.wanted])]
           refine wp_store_row 40 (.tmp 16) (.tmp 63) rfl Bs #[strB sec,strB f.nonce,strB bd,strB f.body] rfl rfl 40 seal0 HSa.out (by kernel_rfl) rfl (by simp [Value.oneCell']) ?_
           have HA3:Hid (RAt (ya.setRow Bs #[strB sec,strB f.nonce,strB bd,strB f.body]) w fb ob f nilV nilV F0 0 V0 0 []):=HAa.out.rowB Bs #[strB sec,strB f.nonce,strB bd,strB f.body] (by omega) HSa.out HZB.out
           have HS3:=hid (setRow_heap ya Bs _ #[strB sec,strB f.nonce,strB bd,strB f.body] 40 (0,0) HSa.out)
           have hS:=HA3.out.filec
           refine hK.out _ _ hS (fun hHeld=>?_)
           clear hK K hS
           try simp only [ga,gb,gc,Act.put,gd,ge,gf]
           refine tk 14 (strB p) ?_
           refine tk 15 (.bool oo) ?_
           simp only [ga,gb,gc,Act.put,gd,ge,gf]
           refine wpAnyH_done (by kernel_rfl) ?_ _
           clear hHeld
           generalize hy3:ya.setRow _ _=y3 at *
           clear hy3
           go_wp2
           go_meet
           case rel=>exact ⟨Bs,p,oo,rfl,rfl,rfl,HOO.out,HPQ.out,HA3.out,by omega,HS3.out,HZB.out⟩
          ·simp only [ga,gb,gc]
           go_simp
           try go_wp2_with fail
           have HAa:Hid (RAt (y1.alloc (.cells seal0 40)) w fb ob f nilV nilV F0 0 V0 0 []):=(HA1.out.alloc (.cells seal0 40))
           have HSa:Hid ((y1.alloc (.cells seal0 40)).heap[y1.heap.size]?=some (.cells seal0 40 (0,0))):=(qg y1 seal0 40).2.2.2
           have hBz:=HA1.out.size
           have HZB:=hid (zF HA1.out.seals (Nat.le_refl y1.heap.size))
           have hS:=HAa.out.filec
           refine hK.out _ _ hS (fun hHeld=>?_)
           clear hK K hS
           try simp only [ga,gb,gc,Act.put,gd,ge,gf]
           generalize hya:(y1.alloc (.cells seal0 40))=ya at *
           clear hya
           generalize hBs:y1.heap.size=Bs at *
           clear hBs
           refine wpAnyH_ready (rs:=[7]) (by kernel_rfl) (by simp) ?_
           refine AllReadyH.cons (o:=_) rfl (fun K hK=>?_) AllReadyH.nil
           simp only [ga,gb,gc]
           go_simp
           go_at_call 89
           refine (HOP.out _ (HL.out.later HAa.out.below)).mono ?_
           rintro e y2 ⟨hb2,p,rfl,hpq⟩
           have HPQ:=hid hpq
           have HA2:Hid (RAt y2 w fb ob f nilV nilV F0 0 V0 0 []):=HAa.out.later hb2
           have HS2:=hid (jb hb2 HSa.out)
           have hS:=HA2.out.filec
           clear hb2 hpq
           try go_wp2_with fail
           refine hK.out _ _ hS (fun hHeld=>?_)
           clear hK K hS
           try simp only [ga,gb,gc,Act.put,gd,ge,gf]
           refine tk 8 (.tuple #[.agg #[strB sec,strB f.nonce,strB bd,strB f.body],strB p,.bool oo]) ?_
           refine tk 9 (.agg #[strB sec,strB f.nonce,strB bd,strB f.body]) ?_
           refine tk 10 (strB p) ?_
           refine tk 11 (.bool oo) ?_
           simp only [ga,gb,gc,Act.put,gd,ge,gf]
           refine wpAnyH_ready (rs:=[13]) (by kernel_rfl) (by simp) ?_
           refine AllReadyH.cons (o:=_) rfl (fun K hK=>?_) AllReadyH.nil
           simp only [ga,gb,gc]
           rw [if_pos (by simp [Region.wanted])]
           refine wp_store_row 40 (.tmp 16) (.tmp 63) rfl Bs #[strB sec,strB f.nonce,strB bd,strB f.body] rfl rfl 40 seal0 HS2.out (by kernel_rfl) rfl (by simp [Value.oneCell']) ?_
           have HA3:Hid (RAt (y2.setRow Bs #[strB sec,strB f.nonce,strB bd,strB f.body]) w fb ob f nilV nilV F0 0 V0 0 []):=HA2.out.rowB Bs #[strB sec,strB f.nonce,strB bd,strB f.body] (by omega) HS2.out HZB.out
           have HS3:=hid (setRow_heap y2 Bs _ #[strB sec,strB f.nonce,strB bd,strB f.body] 40 (0,0) HS2.out)
           have hS:=HA3.out.filec
           refine hK.out _ _ hS (fun hHeld=>?_)
           clear hK K hS
           try simp only [ga,gb,gc,Act.put,gd,ge,gf]
           refine tk 14 (strB p) ?_
           refine tk 15 (.bool oo) ?_
           simp only [ga,gb,gc,Act.put,gd,ge,gf]
           refine wpAnyH_done (by kernel_rfl) ?_ _
           clear hHeld
           generalize hy3:y2.setRow _ _=y3 at *
           clear hy3
           go_wp2
           go_meet
           case rel=>exact ⟨Bs,p,oo,rfl,rfl,rfl,HOO.out,HPQ.out,HA3.out,by omega,HS3.out,HZB.out⟩
         ·simp only [ga,gb,gc]
          go_simp
          try go_wp2_with fail
          have HAa:Hid (RAt (WQ.alloc (.cells seal0 40)).drew w fb ob f nilV nilV F0 0 V0 0 []):=(HA0.out.alloc (.cells seal0 40)).drew
          have HSa:Hid ((WQ.alloc (.cells seal0 40)).drew.heap[WQ.heap.size]?=some (.cells seal0 40 (0,0))):=(qg WQ seal0 40).2.2.2
          have hBz:=HA0.out.size
          have HZB:=hid (zF HA0.out.seals (Nat.le_refl WQ.heap.size))
          have hS:=HAa.out.filec
          refine hK.out _ _ hS (fun hHeld=>?_)
          clear hK K hS
          try simp only [ga,gb,gc,Act.put,gd,ge,gf]
          generalize hya:(WQ.alloc (.cells seal0 40)).drew=ya at *
          clear hya
          generalize hBs:WQ.heap.size=Bs at *
          clear hBs
          refine wpAnyH_ready (rs:=[4]) (by kernel_rfl) (by simp) ?_
          refine AllReadyH.cons (o:=_) rfl (fun K hK=>?_) AllReadyH.nil
          simp only [ga,gb,gc]
          go_simp
          go_at_call 86
          refine (HBD.out _).mono ?_
          rintro e y1 ⟨rfl,hb1⟩
          have HA1:Hid (RAt y1 w fb ob f nilV nilV F0 0 V0 0 []):=HAa.out.later hb1
          have HS1:=hid (jb hb1 HSa.out)
          have hS:=HA1.out.filec
          clear hb1
          try go_wp2_with fail
          refine hK.out _ _ hS (fun hHeld=>?_)
          clear hK K hS
          try simp only [ga,gb,gc,Act.put,gd,ge,gf]
          refine wpAnyH_ready (rs:=[7]) (by kernel_rfl) (by simp) ?_
          refine AllReadyH.cons (o:=_) rfl (fun K hK=>?_) AllReadyH.nil
          simp only [ga,gb,gc]
          go_simp
          go_at_call 89
          refine (HOP.out _ (HL.out.later HA1.out.below)).mono ?_
          rintro e y2 ⟨hb2,p,rfl,hpq⟩
          have HPQ:=hid hpq
          have HA2:Hid (RAt y2 w fb ob f nilV nilV F0 0 V0 0 []):=HA1.out.later hb2
          have HS2:=hid (jb hb2 HS1.out)
          have hS:=HA2.out.filec
          clear hb2 hpq
          try go_wp2_with fail
          refine hK.out _ _ hS (fun hHeld=>?_)
          clear hK K hS
          try simp only [ga,gb,gc,Act.put,gd,ge,gf]
          refine tk 8 (.tuple #[.agg #[strB sec,strB f.nonce,strB bd,strB f.body],strB p,.bool oo]) ?_
          refine tk 9 (.agg #[strB sec,strB f.nonce,strB bd,strB f.body]) ?_
          refine tk 10 (strB p) ?_
          refine tk 11 (.bool oo) ?_
          simp only [ga,gb,gc,Act.put,gd,ge,gf]
          refine wpAnyH_ready (rs:=[13]) (by kernel_rfl) (by simp) ?_
          refine AllReadyH.cons (o:=_) rfl (fun K hK=>?_) AllReadyH.nil
          simp only [ga,gb,gc]
          rw [if_pos (by simp [Region.wanted])]
          refine wp_store_row 40 (.tmp 16) (.tmp 63) rfl Bs #[strB sec,strB f.nonce,strB bd,strB f.body] rfl rfl 40 seal0 HS2.out (by kernel_rfl) rfl (by simp [Value.oneCell']) ?_
          have HA3:Hid (RAt (y2.setRow Bs #[strB sec,strB f.nonce,strB bd,strB f.body]) w fb ob f nilV nilV F0 0 V0 0 []):=HA2.out.rowB Bs #[strB sec,strB f.nonce,strB bd,strB f.body] (by omega) HS2.out HZB.out
          have HS3:=hid (setRow_heap y2 Bs _ #[strB sec,strB f.nonce,strB bd,strB f.body] 40 (0,0) HS2.out)
          have hS:=HA3.out.filec
          refine hK.out _ _ hS (fun hHeld=>?_)
          clear hK K hS
          try simp only [ga,gb,gc,Act.put,gd,ge,gf]
          refine tk 14 (strB p) ?_
          refine tk 15 (.bool oo) ?_
          simp only [ga,gb,gc,Act.put,gd,ge,gf]
          refine wpAnyH_done (by kernel_rfl) ?_ _
          clear hHeld
          generalize hy3:y2.setRow _ _=y3 at *
          clear hy3
          go_wp2
          go_meet
          case rel=>exact ⟨Bs,p,oo,rfl,rfl,rfl,HOO.out,HPQ.out,HA3.out,by omega,HS3.out,HZB.out⟩
        case rest =>
         obtain ⟨Bs,p,oo',hbv,hpv,hov,hoo',hpq,hA,hBsl,hrow,hzb⟩:=hcut
         subst hbv hpv hov
         have HA:=hid hA
         have HBs:=hid hrow
         have HZB:=hid hzb
         have HPQ:=hid hpq
         have HO2:=hid hoo'
         clear hA hrow hzb hpq hoo' HA0 HOP HBD HOO
         cases oo' with
         | false =>
          have hno:qo (jm r (f.foot:Int)) f.nonce (qu pre 70 0 0 0) f.body=none:=by
           cases hq:qo (jm r (f.foot:Int)) f.nonce (qu pre 70 0 0 0) f.body with
           | none=>rfl
           | some q=>have h9:=HO2.out;rw [hq] at h9;cases h9
          have HSF9:Hid (qN file pre r trust=(4,none)):=Ex HP.out HR.out HF.out HT.out HTH.out hno
          clear hno
          go_wp2
          go_ret2
          exact ⟨HA.out.below,.inl ⟨4,HSF9.out,by decide,rfl⟩⟩
         | true =>
          have hop:qo (jm r (f.foot:Int)) f.nonce (qu pre 70 0 0 0) f.body=some p:=by
           cases hq:qo (jm r (f.foot:Int)) f.nonce (qu pre 70 0 0 0) f.body with
           | none=>have h9:=HO2.out;rw [hq] at h9;cases h9
           | some q=>rw [HPQ.out q hq]
          have HSF9:=hid (De (trust:=trust) HP.out HR.out HF.out HT.out HTH.out hop)
          have hpl6:=Mh hop
          clear hop
          obtain ⟨i1,hi1,hy0,hy1,hy2⟩:=info_parts Tryz.infoSealed
          go_upto_region 19 with fail
          have dd:=(xW HA.out.out).2
          refine wp_region_held_drew (S:=fun w'=>w'.heap[Bs]?=some (.cells #[strB sec,strB f.nonce,strB bd,strB f.body] 40 (0,0))) (by kernel_rfl) HBs.out (fun hHeld=>?_)
          refine tk 0 (.pointer (some ⟨ob,0,none⟩)) ?_
          refine tk 1 (.pointer (some ⟨ob,0,none⟩)) ?_
          refine tk 2 (.pointer (some ⟨ob,0,none⟩)) ?_
          refine tk 3 (.pointer (some ⟨ob,1,none⟩)) ?_
          simp only [ga,gb,gc,Act.put,gd,ge,gf]
          refine wpAnyH_take (i:=5) (oi:=_) (v:=.agg #[strB sec,strB f.nonce,strB bd,strB f.body]) rfl (by kernel_rfl) (by kernel_rfl) (by kernel_rfl) (fun _ _ _ h=>h) (Or.inl ⟨by rfl,fun w hSw=>?_⟩) (by assumption) ?_
          ·have hrl:=run_loadVar_row (P:=Tryz.prog) w Bs 40 40 #[strB sec,strB f.nonce,strB bd,strB f.body] (0,0) _ hSw Tryz.underlying40 rfl (by kernel_rfl)
           unfold execOp
           simp [List.getElem_toArray,List.getElem_cons_zero,Act.eval,Instr.loadAt,Instr.sureAddr,Sem.run_bind,Sem.run_pure,Result.andThen_ok,hrl]
          simp only [ga,gb,gc,Act.put,gd,ge,gf]
          refine wpAnyH_ready (rs:=[4,6]) (by kernel_rfl) (by simp) ?_
          refine AllReadyH.cons (o:=_) rfl (fun K hK=>?_) (AllReadyH.cons (o:=_) rfl (fun K hK=>?_) AllReadyH.nil)
          ·simp only [ga,gb,gc]
           go_simp
           try go_wp2_with fail
           refine hK.out _ _ HBs.out (fun hHeld=>?_)
           clear hK K
           try simp only [ga,gb,gc,Act.put,gd,ge,gf]
           refine wpAnyH_ready (rs:=[6]) (by kernel_rfl) (by simp) ?_
           refine AllReadyH.cons (o:=_) rfl (fun K hK=>?_) AllReadyH.nil
           simp only [ga,gb,gc]
           go_simp
           try go_wp2_with fail
           have HbW:Hid ((wc.alloc (.cells #[strB sec,strB f.nonce,strB bd,strB f.body] 40)).drew.heap[Bs]?=some (.cells #[strB sec,strB f.nonce,strB bd,strB f.body] 40 (0,0))):=Jz _ HBs.out
           have HAW:Hid (RAt (wc.alloc (.cells #[strB sec,strB f.nonce,strB bd,strB f.body] 40)).drew w fb ob f nilV nilV F0 0 V0 0 []):=(HA.out.alloc (.cells #[strB sec,strB f.nonce,strB bd,strB f.body] 40)).drew
           have HNW:Hid (∀ j u,([strB sec,strB f.nonce,strB bd,strB f.body]:List Value)[j]?=some u→(wc.alloc (.cells #[strB sec,strB f.nonce,strB bd,strB f.body] 40)).drew.cell? ((⟨wc.heap.size,0,none⟩:Addr).add j)=some u):=xf wc #[strB sec,strB f.nonce,strB bd,strB f.body] 40 (by simp)
           have dW:=(xW HAW.out.out).2
           refine hK.out _ _ HbW.out (fun hHeld=>?_)
           clear hK K dd
           try simp only [ga,gb,gc,Act.put,gd,ge,gf]
           generalize hwcX:(wc.alloc (.cells #[strB sec,strB f.nonce,strB bd,strB f.body] 40)).drew=WY at *
           clear hwcX
           generalize hnb:wc.heap.size=nb at HNW ⊢
           clear hnb HA HBs
           refine wpAnyH_ready (rs:=[7]) (by kernel_rfl) (by simp) ?_
           refine AllReadyH.cons (o:=_) rfl (fun K hK=>?_) AllReadyH.nil
           simp only [ga,gb,gc]
           rw [if_pos (by simp [Region.wanted])]
           refine wp_append_own _ (.tmp 73) (.tmp 75) 28 rfl (ob+1) 40 i1 _ 4 64 Tryz.underlying28 hi1 hy0 hy1 hy2 rfl (by decide) nilV 0 [] rfl HAW.out.seals ⟨nb,0,none⟩ 1 1 [strB sec,strB f.nonce,strB bd,strB f.body] rfl rfl HNW.out ?_ (by unfold maxLen;omega) (by omega) HAW.out.size ?_
           ·intro u hu
            simp at hu
            rcases hu with rfl|rfl|rfl|rfl<;>rfl
           intro v6 w6 hown6 hgr6 _
           have HBn:Hid (w6.heap[Bs]?=some (.cells #[strB sec,strB f.nonce,strB bd,strB f.body] 40 (0,0))):=by
            show _=_
            rw [hgr6.block Bs (Array.getElem?_eq_some_iff.1 HbW.out).1 (by
             intro e
             rcases HZB.out with h|h
             ·rw [h] at e;cases e
             ·exact h e.symm)]
            exact HbW.out
           obtain ⟨va,vc,hv6⟩:=jr hown6
           subst hv6
           have HO6:=hid (qY hgr6 HAW.out.seals HAW.out.out (by omega))
           have HA7:=hid (HAW.out.sealUp hgr6 hown6)
           clear hown6 hgr6 HNW HAW HbW dW
           refine hK.out _ _ HBn.out (fun hHeld=>?_)
           clear hK K
           try simp only [ga,gb,gc,Act.put,gd,ge,gf]
           refine tk 8 (.pointer (some ⟨ob,0,none⟩)) ?_
           refine tk 9 (.pointer (some ⟨ob,1,none⟩)) ?_
           simp only [ga,gb,gc,Act.put,gd,ge,gf]
           refine wpAnyH_ready (rs:=[10]) (by kernel_rfl) (by simp) ?_
           refine AllReadyH.cons (o:=_) rfl (fun K hK=>?_) AllReadyH.nil
           simp only [ga,gb,gc]
           have cc:=(xW HO6.out).2
           have fz:=frozen_of_row w6 ob 1 _ _ HO6.out
           go_simp
           try go_wp2_with fail
           have HBt:=qi (zS w6 ob 1 (.slice va (0+1) vc)) HBn.out (by omega)
           refine hK.out _ _ HBt (fun hHeld=>?_)
           clear hK K cc fz
           refine wpAnyH_done (by kernel_rfl) ?_ _
           clear hHeld HBt HO6 HBn
           generalize hw7:w6.setCell _ _=w7 at *
           clear hw7
           go_wp2
           go_meet
           case rel=>exact ⟨p,_,_,_,rfl,HA7.out,by omega,hpl6,HSF9.out⟩
          ·simp only [ga,gb,gc]
           go_simp
           try go_wp2_with fail
           have HbW:Hid ((wc.alloc (.cells #[strB sec,strB f.nonce,strB bd,strB f.body] 40)).drew.heap[Bs]?=some (.cells #[strB sec,strB f.nonce,strB bd,strB f.body] 40 (0,0))):=Jz _ HBs.out
           have HAW:Hid (RAt (wc.alloc (.cells #[strB sec,strB f.nonce,strB bd,strB f.body] 40)).drew w fb ob f nilV nilV F0 0 V0 0 []):=(HA.out.alloc (.cells #[strB sec,strB f.nonce,strB bd,strB f.body] 40)).drew
           have HNW:Hid (∀ j u,([strB sec,strB f.nonce,strB bd,strB f.body]:List Value)[j]?=some u→(wc.alloc (.cells #[strB sec,strB f.nonce,strB bd,strB f.body] 40)).drew.cell? ((⟨wc.heap.size,0,none⟩:Addr).add j)=some u):=xf wc #[strB sec,strB f.nonce,strB bd,strB f.body] 40 (by simp)
           have dW:=(xW HAW.out.out).2
           refine hK.out _ _ HbW.out (fun hHeld=>?_)
           clear hK K dd
           try simp only [ga,gb,gc,Act.put,gd,ge,gf]
           generalize hwcX:(wc.alloc (.cells #[strB sec,strB f.nonce,strB bd,strB f.body] 40)).drew=WY at *
           clear hwcX
           generalize hnb:wc.heap.size=nb at HNW ⊢
           clear hnb HA HBs
           refine wpAnyH_ready (rs:=[4]) (by kernel_rfl) (by simp) ?_
           refine AllReadyH.cons (o:=_) rfl (fun K hK=>?_) AllReadyH.nil
           simp only [ga,gb,gc]
           go_simp
           try go_wp2_with fail
           refine hK.out _ _ HbW.out (fun hHeld=>?_)
           clear hK K
           try simp only [ga,gb,gc,Act.put,gd,ge,gf]
           refine wpAnyH_ready (rs:=[7]) (by kernel_rfl) (by simp) ?_
           refine AllReadyH.cons (o:=_) rfl (fun K hK=>?_) AllReadyH.nil
           simp only [ga,gb,gc]
           rw [if_pos (by simp [Region.wanted])]
           refine wp_append_own _ (.tmp 73) (.tmp 75) 28 rfl (ob+1) 40 i1 _ 4 64 Tryz.underlying28 hi1 hy0 hy1 hy2 rfl (by decide) nilV 0 [] rfl HAW.out.seals ⟨nb,0,none⟩ 1 1 [strB sec,strB f.nonce,strB bd,strB f.body] rfl rfl HNW.out ?_ (by unfold maxLen;omega) (by omega) HAW.out.size ?_
           ·intro u hu
            simp at hu
            rcases hu with rfl|rfl|rfl|rfl<;>rfl
           intro v6 w6 hown6 hgr6 _
           have HBn:Hid (w6.heap[Bs]?=some (.cells #[strB sec,strB f.nonce,strB bd,strB f.body] 40 (0,0))):=by
            show _=_
            rw [hgr6.block Bs (Array.getElem?_eq_some_iff.1 HbW.out).1 (by
             intro e
             rcases HZB.out with h|h
             ·rw [h] at e;cases e
             ·exact h e.symm)]
            exact HbW.out
           obtain ⟨va,vc,hv6⟩:=jr hown6
           subst hv6
           have HO6:=hid (qY hgr6 HAW.out.seals HAW.out.out (by omega))
           have HA7:=hid (HAW.out.sealUp hgr6 hown6)
           clear hown6 hgr6 HNW HAW HbW dW
           refine hK.out _ _ HBn.out (fun hHeld=>?_)
           clear hK K
           try simp only [ga,gb,gc,Act.put,gd,ge,gf]
           refine tk 8 (.pointer (some ⟨ob,0,none⟩)) ?_
           refine tk 9 (.pointer (some ⟨ob,1,none⟩)) ?_
           simp only [ga,gb,gc,Act.put,gd,ge,gf]
           refine wpAnyH_ready (rs:=[10]) (by kernel_rfl) (by simp) ?_
           refine AllReadyH.cons (o:=_) rfl (fun K hK=>?_) AllReadyH.nil
           simp only [ga,gb,gc]
           have cc:=(xW HO6.out).2
           have fz:=frozen_of_row w6 ob 1 _ _ HO6.out
           go_simp
           try go_wp2_with fail
           have HBt:=qi (zS w6 ob 1 (.slice va (0+1) vc)) HBn.out (by omega)
           refine hK.out _ _ HBt (fun hHeld=>?_)
           clear hK K cc fz
           refine wpAnyH_done (by kernel_rfl) ?_ _
           clear hHeld HBt HO6 HBn
           generalize hw7:w6.setCell _ _=w7 at *
           clear hw7
           go_wp2
           go_meet
           case rel=>exact ⟨p,_,_,_,rfl,HA7.out,by omega,hpl6,HSF9.out⟩
     case rest =>
      obtain ⟨ft,sv,n,xs,hfv,hA,hn1,hft,hsf⟩:=hcut
      subst hfv
      obtain ⟨za,zc,hze⟩:=jr hA.seals
      subst hze
      have HA:=hid hA
      have HSF:=hid hsf
      clear hA hsf HA0 c0
      go_wp2_with (refine wpList_load_row rfl 169 (.tmp 11) rfl fb rfl 169 (fileC f) (0,0) _ HA.out.file Tryz.underlying169 rfl (by kernel_rfl) ?_)
      refine (Ad f ft wc (by omega) hl1 (by unfold maxLen;omega)).mono ?_
      rintro e w6 ⟨hb6,hx⟩
      have HA6:=hid (HA.out.later hb6)
      clear hb6
      rcases hx with ⟨hn,v,rfl⟩|⟨S,T,hS,rfl,hTo⟩
      ·rw [DY] at hn
       have HSE:Hid (qN file pre r trust=(9,none)):=by show _=_;rw [HSF.out];unfold NM;rw [hn]
       clear hn
       go_wp2
       go_ret2
       exact ⟨HA6.out.below,.inl ⟨9,HSE.out,by decide,rfl⟩⟩
      ·rw [DY] at hS
       have HOK:=hid (Uq hS)
       have hft2:=Vl HF.out HOK.out
       have HSG:Hid (qN file pre r trust=if (f.told && !trust)=true then (if jA r (f.foot:Int)=false then (8,none) else if qo (jm r (f.foot:Int)) f.nonce (qu pre 83 0 0 0++ft) f.body=some [] then (0,some S) else (4,none)) else (0,some S)):=by
        show _=_
        rw [HSF.out]
        unfold NM
        rw [hS]
       have HA0:Hid (RTAt T wc.heap.size S w6 w fb ob f nilV (.slice za n zc) F0 0 V0 n xs):=⟨HA6.out,hTo⟩
       clear hS HSF HA HA6 hTo
       generalize hOB:wc.heap.size=tb at *
       clear hOB
       obtain ⟨c0,_⟩:=JV HA0.out.file
       go_upto_region 23 with fail
       go_cut [92] (fun bv wd=>bv=.bool (f.told && !trust)∧w6=wd)
       case first =>
        cases ht:f.told with
        | true =>
         rw [ht] at c0
         cases trust with
         | true =>
          go_wp2
          go_meet
          case rel=>exact ⟨by rw [ht];rfl,rfl⟩
         | false =>
          go_wp2
          go_meet
          case rel=>exact ⟨by rw [ht];rfl,rfl⟩
        | false =>
         rw [ht] at c0
         go_wp2
         go_meet
         case rel=>exact ⟨by rw [ht];rfl,rfl⟩
       case rest =>
        obtain ⟨hbv,hww⟩:=hcut
        subst hbv hww
        clear c0
        go_upto_if 92 with fail
        go_cut [92] (fun _ wd=>∃ sv n xs,RTAt T tb S wd w fb ob f nilV sv F0 0 V0 n xs∧n≤2∧qN file pre r trust=(0,some S))
        case first =>
         cases hb:(f.told && !trust) with
         | false =>
          have HSE:Hid (qN file pre r trust=(0,some S)):=by show _=_;rw [HSG.out,if_neg (by rw [hb];decide)]
          refine wp_cond_false (by first|rfl|(rw [hb];rfl)) ?_
          go_wp2
          go_meet
          case rel=>exact ⟨_,n,xs,HA0.out,by omega,HSE.out⟩
         | true =>
          refine wp_cond_true (by first|rfl|(rw [hb];rfl)) ?_
          rw [if_pos hb] at HSG
          clear hb
          cases th with
          | false =>
           rw [if_pos HTH.out] at HSG
           go_wp2
           go_ret2
           exact ⟨HA0.out.below,.inl ⟨8,HSG.out,by decide,rfl⟩⟩
          | true =>
           rw [if_neg (by rw [HTH.out];decide)] at HSG
           have hsec:(jm r (f.foot:Int)).length=8:=QP HR.out HTH.out
           have hbl:=Xv pre 83 0 0 0 hp20
           obtain ⟨sec,hsc⟩:∃ sec,sec=jm r (f.foot:Int):=⟨_,rfl⟩
           obtain ⟨bd,hbd⟩:∃ bd,bd=qu pre 83 0 0 0:=⟨_,rfl⟩
           rw [← hbd] at hbl
           obtain ⟨oo,hoo⟩:∃ oo,oo=(qo (jm r (f.foot:Int)) f.nonce (qu pre 83 0 0 0++ft) f.body).isSome:=⟨_,rfl⟩
           have HOO:=hid hoo
           have HBD:Hid (∀ w',Calls Tryz.prog 86 #[strB pre,strB [83],.int .i64 0,.int .i64 0,.int .i64 0] w' fun e w2=>e=.returned (strB bd)∧Below w'.heap.size w' w2):=fun w'=>by
            rw [hbd]
            exact Vw pre 83 0 0 0 w' hp20 (by decide) (by decide) (by decide)
           have HOP:Hid (∀ w',LiesK w' ra r→Calls Tryz.prog 89 #[.slice ra r.length rcap,.int .i64 (f.foot:Int),strB (bd++ft),.agg #[strB f.nonce,strB f.body]] w' fun e w2=>Below w'.heap.size w' w2∧∃ p,e=.returned (.tuple #[.agg #[strB sec,strB f.nonce,strB (bd++ft),strB f.body],strB p,.bool oo])∧∀ q,qo (jm r (f.foot:Int)) f.nonce (qu pre 83 0 0 0++ft) f.body=some q→p=q):=fun w' h=>by
            have h2:=Ub ra rcap r (f.foot:Int) (qu pre 83 0 0 0++ft) f.nonce f.body w' h hrm (by omega) (by omega) (by rw [← hbd];rw [List.length_append];omega) (by unfold maxLen;omega)
            rw [hoo,hsc,hbd]
            exact h2
           clear hsc hbd hoo hsec
           have q1:¬ (9223372036854775807 < bd.length+ft.length):=by omega
           go_upto_region 26 with fail
           go_cut [20,21,22] (fun bv pv ov wd=>∃ Bs p oo',bv=.pointer (some ⟨Bs,0,none⟩)∧pv=strB p∧ov=.bool oo'∧oo'=(qo (jm r (f.foot:Int)) f.nonce (qu pre 83 0 0 0++ft) f.body).isSome∧(∀ q,qo (jm r (f.foot:Int)) f.nonce (qu pre 83 0 0 0++ft) f.body=some q→p=q)∧RTAt T tb S wd w fb ob f nilV (.slice za n zc) F0 0 V0 n xs∧ob+1≤Bs∧wd.heap[Bs]?=some (.cells #[strB sec,strB f.nonce,strB (bd++ft),strB f.body] 40 (0,0))∧((Value.slice za n zc).ownBlock=none∨(Value.slice za n zc).ownBlock≠some Bs))
           case first =>
            have hS:=HA0.out.filec
            refine wp_region_held_drew (S:=fun w'=>w'.cell? ⟨fb,1,none⟩=some (.int .i64 (f.foot:Int))∧w'.cell? ⟨fb,4,none⟩=some (strB f.nonce)∧w'.cell? ⟨fb,5,none⟩=some (strB f.body)) (by kernel_rfl) hS (fun hHeld=>?_)
            clear hS
            refine tk 0 (.slice ra r.length rcap) ?_
            refine tk 1 (.pointer (some ⟨fb,1,none⟩)) ?_
            refine tk 2 (.int .i64 (f.foot:Int)) ?_
            refine tk 3 (strB pre) ?_
            refine tk 7 (.pointer (some ⟨fb,4,none⟩)) ?_
            refine tk 8 (.agg #[strB f.nonce,strB f.body]) ?_
            refine tk 5 (strB ft) ?_
            simp only [ga,gb,gc,Act.put,gd,ge,gf]
            refine wpAnyH_ready (rs:=[4,14]) (by kernel_rfl) (by simp) ?_
            refine AllReadyH.cons (o:=_) rfl (fun K hK=>?_) (AllReadyH.cons (o:=_) rfl (fun K hK=>?_) AllReadyH.nil)
            ·simp only [ga,gb,gc]
             go_simp
             go_at_call 86
             refine (HBD.out _).mono ?_
             rintro e y1 ⟨rfl,hb1⟩
             replace hb1:=ji hb1
             have HA1:Hid (RTAt T tb S y1 w fb ob f nilV (.slice za n zc) F0 0 V0 n xs):=HA0.out.later hb1
             have hS:=HA1.out.filec
             clear hb1
             try go_wp2_with fail
             refine hK.out _ _ hS (fun hHeld=>?_)
             clear hK K hS
             try simp only [ga,gb,gc,Act.put,gd,ge,gf]
             refine tk 6 (Value.string ({ data:=bd.toArray }++{ data:=ft.toArray })) ?_
             simp only [ga,gb,gc,Act.put,gd,ge,gf]
             refine wpAnyH_ready (rs:=[9,14]) (by kernel_rfl) (by simp) ?_
             refine AllReadyH.cons (o:=_) rfl (fun K hK=>?_) (AllReadyH.cons (o:=_) rfl (fun K hK=>?_) AllReadyH.nil)
             ·simp only [ga,gb,gc]
              go_simp
              go_at_call 89
              rw [xe]
              refine (HOP.out _ (HL.out.later HA1.out.below)).mono ?_
              rintro e y2 ⟨hb2,p,rfl,hpq⟩
              have HPQ:=hid hpq
              have HA2:Hid (RTAt T tb S y2 w fb ob f nilV (.slice za n zc) F0 0 V0 n xs):=HA1.out.later hb2
              have hS:=HA2.out.filec
              clear hb2 hpq
              try go_wp2_with fail
              refine hK.out _ _ hS (fun hHeld=>?_)
              clear hK K hS
              try simp only [ga,gb,gc,Act.put,gd,ge,gf]
              refine tk 10 (.tuple #[.agg #[strB sec,strB f.nonce,strB (bd++ft),strB f.body],strB p,.bool oo]) ?_
              refine tk 11 (.agg #[strB sec,strB f.nonce,strB (bd++ft),strB f.body]) ?_
              refine tk 12 (strB p) ?_
              refine tk 13 (.bool oo) ?_
              simp only [ga,gb,gc,Act.put,gd,ge,gf]
              refine wpAnyH_ready (rs:=[14]) (by kernel_rfl) (by simp) ?_
              refine AllReadyH.cons (o:=_) rfl (fun K hK=>?_) AllReadyH.nil
              simp only [ga,gb,gc]
              go_simp
              try go_wp2_with fail
              have HAa:Hid (RTAt T tb S (y2.alloc (.cells seal0 40)) w fb ob f nilV (.slice za n zc) F0 0 V0 n xs):=(HA2.out.alloc (.cells seal0 40))
              have HSa:Hid ((y2.alloc (.cells seal0 40)).heap[y2.heap.size]?=some (.cells seal0 40 (0,0))):=(qg y2 seal0 40).2.2.2
              have hBz:=HA2.out.size
              have HZB:=hid (zF HA2.out.seals (Nat.le_refl y2.heap.size))
              have hS:=HAa.out.filec
              refine hK.out _ _ hS (fun hHeld=>?_)
              clear hK K hS
              try simp only [ga,gb,gc,Act.put,gd,ge,gf]
              generalize hya:(y2.alloc (.cells seal0 40))=ya at *
              clear hya
              generalize hBs:y2.heap.size=Bs at *
              clear hBs
              refine wpAnyH_ready (rs:=[15]) (by kernel_rfl) (by simp) ?_
              refine AllReadyH.cons (o:=_) rfl (fun K hK=>?_) AllReadyH.nil
              simp only [ga,gb,gc]
              rw [if_pos (by simp [Region.wanted])]
              refine wp_store_row 40 (.tmp 20) (.tmp 106) rfl Bs #[strB sec,strB f.nonce,strB (bd++ft),strB f.body] rfl rfl 40 seal0 HSa.out (by kernel_rfl) rfl (by simp [Value.oneCell']) ?_
              have HA3:Hid (RTAt T tb S (ya.setRow Bs #[strB sec,strB f.nonce,strB (bd++ft),strB f.body]) w fb ob f nilV (.slice za n zc) F0 0 V0 n xs):=HAa.out.rowB Bs #[strB sec,strB f.nonce,strB (bd++ft),strB f.body] (by omega) HSa.out HZB.out
              have HS3:=hid (setRow_heap ya Bs _ #[strB sec,strB f.nonce,strB (bd++ft),strB f.body] 40 (0,0) HSa.out)
              have hS:=HA3.out.filec
              refine hK.out _ _ hS (fun hHeld=>?_)
              clear hK K hS
              try simp only [ga,gb,gc,Act.put,gd,ge,gf]
              refine tk 16 (strB p) ?_
              refine tk 17 (.bool oo) ?_
              simp only [ga,gb,gc,Act.put,gd,ge,gf]
              refine wpAnyH_done (by kernel_rfl) ?_ _
              clear hHeld
              generalize hy3:ya.setRow _ _=y3 at *
              clear hy3
              go_wp2
              go_meet
              case rel=>exact ⟨Bs,p,oo,rfl,rfl,rfl,HOO.out,HPQ.out,HA3.out,by omega,HS3.out,HZB.out⟩
             ·simp only [ga,gb,gc]
              go_simp
              try go_wp2_with fail
              have HAa:Hid (RTAt T tb S (y1.alloc (.cells seal0 40)) w fb ob f nilV (.slice za n zc) F0 0 V0 n xs):=(HA1.out.alloc (.cells seal0 40))
              have HSa:Hid ((y1.alloc (.cells seal0 40)).heap[y1.heap.size]?=some (.cells seal0 40 (0,0))):=(qg y1 seal0 40).2.2.2
              have hBz:=HA1.out.size
              have HZB:=hid (zF HA1.out.seals (Nat.le_refl y1.heap.size))
              have hS:=HAa.out.filec
              refine hK.out _ _ hS (fun hHeld=>?_)
              clear hK K hS
              try simp only [ga,gb,gc,Act.put,gd,ge,gf]
              generalize hya:(y1.alloc (.cells seal0 40))=ya at *
              clear hya
              generalize hBs:y1.heap.size=Bs at *
              clear hBs
              refine wpAnyH_ready (rs:=[9]) (by kernel_rfl) (by simp) ?_
              refine AllReadyH.cons (o:=_) rfl (fun K hK=>?_) AllReadyH.nil
              simp only [ga,gb,gc]
              go_simp
              go_at_call 89
              rw [xe]
              refine (HOP.out _ (HL.out.later HAa.out.below)).mono ?_
              rintro e y2 ⟨hb2,p,rfl,hpq⟩
              have HPQ:=hid hpq
              have HA2:Hid (RTAt T tb S y2 w fb ob f nilV (.slice za n zc) F0 0 V0 n xs):=HAa.out.later hb2
              have HS2:=hid (jb hb2 HSa.out)
              have hS:=HA2.out.filec
              clear hb2 hpq
              try go_wp2_with fail
              refine hK.out _ _ hS (fun hHeld=>?_)
              clear hK K hS
              try simp only [ga,gb,gc,Act.put,gd,ge,gf]
              refine tk 10 (.tuple #[.agg #[strB sec,strB f.nonce,strB (bd++ft),strB f.body],strB p,.bool oo]) ?_
              refine tk 11 (.agg #[strB sec,strB f.nonce,strB (bd++ft),strB f.body]) ?_
              refine tk 12 (strB p) ?_
              refine tk 13 (.bool oo) ?_
              simp only [ga,gb,gc,Act.put,gd,ge,gf]
              refine wpAnyH_ready (rs:=[15]) (by kernel_rfl) (by simp) ?_
              refine AllReadyH.cons (o:=_) rfl (fun K hK=>?_) AllReadyH.nil
              simp only [ga,gb,gc]
              rw [if_pos (by simp [Region.wanted])]
              refine wp_store_row 40 (.tmp 20) (.tmp 106) rfl Bs #[strB sec,strB f.nonce,strB (bd++ft),strB f.body] rfl rfl 40 seal0 HS2.out (by kernel_rfl) rfl (by simp [Value.oneCell']) ?_
              have HA3:Hid (RTAt T tb S (y2.setRow Bs #[strB sec,strB f.nonce,strB (bd++ft),strB f.body]) w fb ob f nilV (.slice za n zc) F0 0 V0 n xs):=HA2.out.rowB Bs #[strB sec,strB f.nonce,strB (bd++ft),strB f.body] (by omega) HS2.out HZB.out
              have HS3:=hid (setRow_heap y2 Bs _ #[strB sec,strB f.nonce,strB (bd++ft),strB f.body] 40 (0,0) HS2.out)
              have hS:=HA3.out.filec
              refine hK.out _ _ hS (fun hHeld=>?_)
              clear hK K hS
              try simp only [ga,gb,gc,Act.put,gd,ge,gf]
              refine tk 16 (strB p) ?_
              refine tk 17 (.bool oo) ?_
              simp only [ga,gb,gc,Act.put,gd,ge,gf]
              refine wpAnyH_done (by kernel_rfl) ?_ _
              clear hHeld
              generalize hy3:y2.setRow _ _=y3 at *
              clear hy3
              go_wp2
              go_meet
              case rel=>exact ⟨Bs,p,oo,rfl,rfl,rfl,HOO.out,HPQ.out,HA3.out,by omega,HS3.out,HZB.out⟩
            ·simp only [ga,gb,gc]
             go_simp
             try go_wp2_with fail
             have HAa:Hid (RTAt T tb S (w6.alloc (.cells seal0 40)).drew w fb ob f nilV (.slice za n zc) F0 0 V0 n xs):=(HA0.out.alloc (.cells seal0 40)).drew
             have HSa:Hid ((w6.alloc (.cells seal0 40)).drew.heap[w6.heap.size]?=some (.cells seal0 40 (0,0))):=(qg w6 seal0 40).2.2.2
             have hBz:=HA0.out.size
             have HZB:=hid (zF HA0.out.seals (Nat.le_refl w6.heap.size))
             have hS:=HAa.out.filec
             refine hK.out _ _ hS (fun hHeld=>?_)
             clear hK K hS
             try simp only [ga,gb,gc,Act.put,gd,ge,gf]
             generalize hya:(w6.alloc (.cells seal0 40)).drew=ya at *
             clear hya
             generalize hBs:w6.heap.size=Bs at *
             clear hBs
             refine wpAnyH_ready (rs:=[4]) (by kernel_rfl) (by simp) ?_
             refine AllReadyH.cons (o:=_) rfl (fun K hK=>?_) AllReadyH.nil
             simp only [ga,gb,gc]
             go_simp
             go_at_call 86
             refine (HBD.out _).mono ?_
             rintro e y1 ⟨rfl,hb1⟩
             have HA1:Hid (RTAt T tb S y1 w fb ob f nilV (.slice za n zc) F0 0 V0 n xs):=HAa.out.later hb1
             have HS1:=hid (jb hb1 HSa.out)
             have hS:=HA1.out.filec
             clear hb1
             try go_wp2_with fail
             refine hK.out _ _ hS (fun hHeld=>?_)
             clear hK K hS
             try simp only [ga,gb,gc,Act.put,gd,ge,gf]
             refine tk 6 (Value.string ({ data:=bd.toArray }++{ data:=ft.toArray })) ?_
             simp only [ga,gb,gc,Act.put,gd,ge,gf]
             refine wpAnyH_ready (rs:=[9]) (by kernel_rfl) (by simp) ?_
             refine AllReadyH.cons (o:=_) rfl (fun K hK=>?_) AllReadyH.nil
             simp only [ga,gb,gc]
             go_simp
             go_at_call 89
             rw [xe]
             refine (HOP.out _ (HL.out.later HA1.out.below)).mono ?_
             rintro e y2 ⟨hb2,p,rfl,hpq⟩
             have HPQ:=hid hpq
             have HA2:Hid (RTAt T tb S y2 w fb ob f nilV (.slice za n zc) F0 0 V0 n xs):=HA1.out.later hb2
             have HS2:=hid (jb hb2 HS1.out)
             have hS:=HA2.out.filec
             clear hb2 hpq
             try go_wp2_with fail
             refine hK.out _ _ hS (fun hHeld=>?_)
             clear hK K hS
             try simp only [ga,gb,gc,Act.put,gd,ge,gf]
             refine tk 10 (.tuple #[.agg #[strB sec,strB f.nonce,strB (bd++ft),strB f.body],strB p,.bool oo]) ?_
             refine tk 11 (.agg #[strB sec,strB f.nonce,strB (bd++ft),strB f.body]) ?_
             refine tk 12 (strB p) ?_
             refine tk 13 (.bool oo) ?_
             simp only [ga,gb,gc,Act.put,gd,ge,gf]
             refine wpAnyH_ready (rs:=[15]) (by kernel_rfl) (by simp) ?_
             refine AllReadyH.cons (o:=_) rfl (fun K hK=>?_) AllReadyH.nil
             simp only [ga,gb,gc]
             rw [if_pos (by simp [Region.wanted])]
             refine wp_store_row 40 (.tmp 20) (.tmp 106) rfl Bs #[strB sec,strB f.nonce,strB (bd++ft),strB f.body] rfl rfl 40 seal0 HS2.out (by kernel_rfl) rfl (by simp [Value.oneCell']) ?_
             have HA3:Hid (RTAt T tb S (y2.setRow Bs #[strB sec,strB f.nonce,strB (bd++ft),strB f.body]) w fb ob f nilV (.slice za n zc) F0 0 V0 n xs):=HA2.out.rowB Bs #[strB sec,strB f.nonce,strB (bd++ft),strB f.body] (by omega) HS2.out HZB.out
             have HS3:=hid (setRow_heap y2 Bs _ #[strB sec,strB f.nonce,strB (bd++ft),strB f.body] 40 (0,0) HS2.out)
             have hS:=HA3.out.filec
             refine hK.out _ _ hS (fun hHeld=>?_)
             clear hK K hS
             try simp only [ga,gb,gc,Act.put,gd,ge,gf]
             refine tk 16 (strB p) ?_
             refine tk 17 (.bool oo) ?_
             simp only [ga,gb,gc,Act.put,gd,ge,gf]
             refine wpAnyH_done (by kernel_rfl) ?_ _
             clear hHeld
             generalize hy3:y2.setRow _ _=y3 at *
             clear hy3
             go_wp2
             go_meet
             case rel=>exact ⟨Bs,p,oo,rfl,rfl,rfl,HOO.out,HPQ.out,HA3.out,by omega,HS3.out,HZB.out⟩
           case rest =>
            obtain ⟨Bs,p,oo',hbv,hpv,hov,hoo',hpq,hA,hBsl,hrow,hzb⟩:=hcut
            subst hbv hpv hov
            have HA:=hid hA
            have HBs:=hid hrow
            have HZB:=hid hzb
            have HPQ:=hid hpq
            have HO2:=hid hoo'
            clear hA hrow hzb hpq hoo' HA0 HOP HBD HOO
            cases oo' with
            | false =>
             have hno:qo (jm r (f.foot:Int)) f.nonce (qu pre 83 0 0 0++ft) f.body=none:=by
              cases hq:qo (jm r (f.foot:Int)) f.nonce (qu pre 83 0 0 0++ft) f.body with
              | none=>rfl
              | some q=>have h9:=HO2.out;rw [hq] at h9;cases h9
             have HSF9:Hid (qN file pre r trust=(4,none)):=by show _=_;rw [HSG.out,if_neg (by rw [hno];simp)]
             clear hno
             go_wp2
             go_ret2
             exact ⟨HA.out.below,.inl ⟨4,HSF9.out,by decide,rfl⟩⟩
            | true =>
             have hop:qo (jm r (f.foot:Int)) f.nonce (qu pre 83 0 0 0++ft) f.body=some p:=by
              cases hq:qo (jm r (f.foot:Int)) f.nonce (qu pre 83 0 0 0++ft) f.body with
              | none=>have h9:=HO2.out;rw [hq] at h9;cases h9
              | some q=>rw [HPQ.out q hq]
             cases p with
             | cons b l =>
              rw [if_neg (by rw [hop];simp)] at HSG
              clear hop
              go_wp2
              go_ret2
              exact ⟨HA.out.below,.inl ⟨4,HSG.out,by decide,rfl⟩⟩
             | nil =>
              rw [if_pos hop] at HSG
              clear hop
              obtain ⟨i1,hi1,hy0,hy1,hy2⟩:=info_parts Tryz.infoSealed
              have HTO:=hid HA.out.told
              have HAr:=hid HA.out.toRAt
              clear HA
              have HA:=HAr
              clear HAr
              go_upto_region 29 with fail
              have dd:=(xW HA.out.out).2
              refine wp_region_held_drew (S:=fun w'=>w'.heap[Bs]?=some (.cells #[strB sec,strB f.nonce,strB (bd++ft),strB f.body] 40 (0,0))) (by kernel_rfl) HBs.out (fun hHeld=>?_)
              refine tk 0 (.pointer (some ⟨ob,0,none⟩)) ?_
              refine tk 1 (.pointer (some ⟨ob,0,none⟩)) ?_
              refine tk 2 (.pointer (some ⟨ob,0,none⟩)) ?_
              refine tk 3 (.pointer (some ⟨ob,1,none⟩)) ?_
              simp only [ga,gb,gc,Act.put,gd,ge,gf]
              refine wpAnyH_take (i:=5) (oi:=_) (v:=.agg #[strB sec,strB f.nonce,strB (bd++ft),strB f.body]) rfl (by kernel_rfl) (by kernel_rfl) (by kernel_rfl) (fun _ _ _ h=>h) (Or.inl ⟨by rfl,fun w hSw=>?_⟩) (by assumption) ?_
              ·have hrl:=run_loadVar_row (P:=Tryz.prog) w Bs 40 40 #[strB sec,strB f.nonce,strB (bd++ft),strB f.body] (0,0) _ hSw Tryz.underlying40 rfl (by kernel_rfl)
               unfold execOp
               simp [List.getElem_toArray,List.getElem_cons_zero,Act.eval,Instr.loadAt,Instr.sureAddr,Sem.run_bind,Sem.run_pure,Result.andThen_ok,hrl]
              simp only [ga,gb,gc,Act.put,gd,ge,gf]
              refine wpAnyH_ready (rs:=[4,6]) (by kernel_rfl) (by simp) ?_
              refine AllReadyH.cons (o:=_) rfl (fun K hK=>?_) (AllReadyH.cons (o:=_) rfl (fun K hK=>?_) AllReadyH.nil)
              ·simp only [ga,gb,gc]
               go_simp
               try go_wp2_with fail
               refine hK.out _ _ HBs.out (fun hHeld=>?_)
               clear hK K
               try simp only [ga,gb,gc,Act.put,gd,ge,gf]
               refine wpAnyH_ready (rs:=[6]) (by kernel_rfl) (by simp) ?_
               refine AllReadyH.cons (o:=_) rfl (fun K hK=>?_) AllReadyH.nil
               simp only [ga,gb,gc]
               go_simp
               try go_wp2_with fail
               have HbW:Hid ((wc.alloc (.cells #[strB sec,strB f.nonce,strB (bd++ft),strB f.body] 40)).drew.heap[Bs]?=some (.cells #[strB sec,strB f.nonce,strB (bd++ft),strB f.body] 40 (0,0))):=Jz _ HBs.out
               have HAW:Hid (RAt (wc.alloc (.cells #[strB sec,strB f.nonce,strB (bd++ft),strB f.body] 40)).drew w fb ob f nilV (.slice za n zc) F0 0 V0 n xs):=(HA.out.alloc (.cells #[strB sec,strB f.nonce,strB (bd++ft),strB f.body] 40)).drew
               have HTW:Hid (ToldAt (wc.alloc (.cells #[strB sec,strB f.nonce,strB (bd++ft),strB f.body] 40)).drew T tb S):=(HTO.out.later ((Below.refl wc.heap.size wc).alloc (Nat.le_refl _) (.cells #[strB sec,strB f.nonce,strB (bd++ft),strB f.body] 40))).later (qb (Below.refl _ _))
               have HNW:Hid (∀ j u,([strB sec,strB f.nonce,strB (bd++ft),strB f.body]:List Value)[j]?=some u→(wc.alloc (.cells #[strB sec,strB f.nonce,strB (bd++ft),strB f.body] 40)).drew.cell? ((⟨wc.heap.size,0,none⟩:Addr).add j)=some u):=xf wc #[strB sec,strB f.nonce,strB (bd++ft),strB f.body] 40 (by simp)
               have dW:=(xW HAW.out.out).2
               refine hK.out _ _ HbW.out (fun hHeld=>?_)
               clear hK K dd
               try simp only [ga,gb,gc,Act.put,gd,ge,gf]
               generalize hwcX:(wc.alloc (.cells #[strB sec,strB f.nonce,strB (bd++ft),strB f.body] 40)).drew=WY at *
               clear hwcX
               generalize hnb:wc.heap.size=nb at HNW ⊢
               clear hnb HA HBs HTO
               refine wpAnyH_ready (rs:=[7]) (by kernel_rfl) (by simp) ?_
               refine AllReadyH.cons (o:=_) rfl (fun K hK=>?_) AllReadyH.nil
               simp only [ga,gb,gc]
               rw [if_pos (by simp [Region.wanted])]
               refine wp_append_own _ (.tmp 119) (.tmp 121) 28 rfl (ob+1) 40 i1 _ 4 64 Tryz.underlying28 hi1 hy0 hy1 hy2 rfl (by decide) (.slice za n zc) n xs rfl HAW.out.seals ⟨nb,0,none⟩ 1 1 [strB sec,strB f.nonce,strB (bd++ft),strB f.body] rfl rfl HNW.out ?_ (by unfold maxLen;omega) (by omega) HAW.out.size ?_
               ·intro u hu
                simp at hu
                rcases hu with rfl|rfl|rfl|rfl<;>rfl
               intro v6 w6 hown6 hgr6 _
               have HBn:Hid (w6.heap[Bs]?=some (.cells #[strB sec,strB f.nonce,strB (bd++ft),strB f.body] 40 (0,0))):=by
                show _=_
                rw [hgr6.block Bs (Array.getElem?_eq_some_iff.1 HbW.out).1 (by
                 intro e
                 rcases HZB.out with h|h
                 ·rw [h] at e;cases e
                 ·exact h e.symm)]
                exact HbW.out
               obtain ⟨va,vc,hv6⟩:=jr hown6
               subst hv6
               have HO6:=hid (qY hgr6 HAW.out.seals HAW.out.out (by omega))
               have HA7:=hid (HAW.out.sealUp hgr6 hown6)
               have HT6:=hid ((HTW.out.aside hgr6 HAW.out.seals (by decide) (by decide) (by decide) (by decide) (by decide)).box (zS w6 ob 1 (.slice va (n+1) vc)) HO6.out)
               clear hown6 hgr6 HNW HAW HbW dW HTW
               refine hK.out _ _ HBn.out (fun hHeld=>?_)
               clear hK K
               try simp only [ga,gb,gc,Act.put,gd,ge,gf]
               refine tk 8 (.pointer (some ⟨ob,0,none⟩)) ?_
               refine tk 9 (.pointer (some ⟨ob,1,none⟩)) ?_
               simp only [ga,gb,gc,Act.put,gd,ge,gf]
               refine wpAnyH_ready (rs:=[10]) (by kernel_rfl) (by simp) ?_
               refine AllReadyH.cons (o:=_) rfl (fun K hK=>?_) AllReadyH.nil
               simp only [ga,gb,gc]
               have cc:=(xW HO6.out).2
               have fz:=frozen_of_row w6 ob 1 _ _ HO6.out
               go_simp
               try go_wp2_with fail
               have HBt:=qi (zS w6 ob 1 (.slice va (n+1) vc)) HBn.out (by omega)
               refine hK.out _ _ HBt (fun hHeld=>?_)
               clear hK K cc fz
               refine wpAnyH_done (by kernel_rfl) ?_ _
               clear hHeld HBt HO6 HBn
               generalize hw7:w6.setCell _ _=w7 at *
               clear hw7
               go_wp2
               go_meet
               case rel=>exact ⟨_,_,_,⟨HA7.out,HT6.out⟩,by omega,HSG.out⟩
              ·simp only [ga,gb,gc]
               go_simp
               try go_wp2_with fail
               have HbW:Hid ((wc.alloc (.cells #[strB sec,strB f.nonce,strB (bd++ft),strB f.body] 40)).drew.heap[Bs]?=some (.cells #[strB sec,strB f.nonce,strB (bd++ft),strB f.body] 40 (0,0))):=Jz _ HBs.out
               have HAW:Hid (RAt (wc.alloc (.cells #[strB sec,strB f.nonce,strB (bd++ft),strB f.body] 40)).drew w fb ob f nilV (.slice za n zc) F0 0 V0 n xs):=(HA.out.alloc (.cells #[strB sec,strB f.nonce,strB (bd++ft),strB f.body] 40)).drew
               have HTW:Hid (ToldAt (wc.alloc (.cells #[strB sec,strB f.nonce,strB (bd++ft),strB f.body] 40)).drew T tb S):=(HTO.out.later ((Below.refl wc.heap.size wc).alloc (Nat.le_refl _) (.cells #[strB sec,strB f.nonce,strB (bd++ft),strB f.body] 40))).later (qb (Below.refl _ _))
               have HNW:Hid (∀ j u,([strB sec,strB f.nonce,strB (bd++ft),strB f.body]:List Value)[j]?=some u→(wc.alloc (.cells #[strB sec,strB f.nonce,strB (bd++ft),strB f.body] 40)).drew.cell? ((⟨wc.heap.size,0,none⟩:Addr).add j)=some u):=xf wc #[strB sec,strB f.nonce,strB (bd++ft),strB f.body] 40 (by simp)
               have dW:=(xW HAW.out.out).2
               refine hK.out _ _ HbW.out (fun hHeld=>?_)
               clear hK K dd
               try simp only [ga,gb,gc,Act.put,gd,ge,gf]
               generalize hwcX:(wc.alloc (.cells #[strB sec,strB f.nonce,strB (bd++ft),strB f.body] 40)).drew=WY at *
               clear hwcX
               generalize hnb:wc.heap.size=nb at HNW ⊢
               clear hnb HA HBs HTO
               refine wpAnyH_ready (rs:=[4]) (by kernel_rfl) (by simp) ?_
               refine AllReadyH.cons (o:=_) rfl (fun K hK=>?_) AllReadyH.nil
               simp only [ga,gb,gc]
               go_simp
               try go_wp2_with fail
               refine hK.out _ _ HbW.out (fun hHeld=>?_)
               clear hK K
               try simp only [ga,gb,gc,Act.put,gd,ge,gf]
               refine wpAnyH_ready (rs:=[7]) (by kernel_rfl) (by simp) ?_
               refine AllReadyH.cons (o:=_) rfl (fun K hK=>?_) AllReadyH.nil
               simp only [ga,gb,gc]
               rw [if_pos (by simp [Region.wanted])]
               refine wp_append_own _ (.tmp 119) (.tmp 121) 28 rfl (ob+1) 40 i1 _ 4 64 Tryz.underlying28 hi1 hy0 hy1 hy2 rfl (by decide) (.slice za n zc) n xs rfl HAW.out.seals ⟨nb,0,none⟩ 1 1 [strB sec,strB f.nonce,strB (bd++ft),strB f.body] rfl rfl HNW.out ?_ (by unfold maxLen;omega) (by omega) HAW.out.size ?_
               ·intro u hu
                simp at hu
                rcases hu with rfl|rfl|rfl|rfl<;>rfl
               intro v6 w6 hown6 hgr6 _
               have HBn:Hid (w6.heap[Bs]?=some (.cells #[strB sec,strB f.nonce,strB (bd++ft),strB f.body] 40 (0,0))):=by
                show _=_
                rw [hgr6.block Bs (Array.getElem?_eq_some_iff.1 HbW.out).1 (by
                 intro e
                 rcases HZB.out with h|h
                 ·rw [h] at e;cases e
                 ·exact h e.symm)]
                exact HbW.out
               obtain ⟨va,vc,hv6⟩:=jr hown6
               subst hv6
               have HO6:=hid (qY hgr6 HAW.out.seals HAW.out.out (by omega))
               have HA7:=hid (HAW.out.sealUp hgr6 hown6)
               have HT6:=hid ((HTW.out.aside hgr6 HAW.out.seals (by decide) (by decide) (by decide) (by decide) (by decide)).box (zS w6 ob 1 (.slice va (n+1) vc)) HO6.out)
               clear hown6 hgr6 HNW HAW HbW dW HTW
               refine hK.out _ _ HBn.out (fun hHeld=>?_)
               clear hK K
               try simp only [ga,gb,gc,Act.put,gd,ge,gf]
               refine tk 8 (.pointer (some ⟨ob,0,none⟩)) ?_
               refine tk 9 (.pointer (some ⟨ob,1,none⟩)) ?_
               simp only [ga,gb,gc,Act.put,gd,ge,gf]
               refine wpAnyH_ready (rs:=[10]) (by kernel_rfl) (by simp) ?_
               refine AllReadyH.cons (o:=_) rfl (fun K hK=>?_) AllReadyH.nil
               simp only [ga,gb,gc]
               have cc:=(xW HO6.out).2
               have fz:=frozen_of_row w6 ob 1 _ _ HO6.out
               go_simp
               try go_wp2_with fail
               have HBt:=qi (zS w6 ob 1 (.slice va (n+1) vc)) HBn.out (by omega)
               refine hK.out _ _ HBt (fun hHeld=>?_)
               clear hK K cc fz
               refine wpAnyH_done (by kernel_rfl) ?_ _
               clear hHeld HBt HO6 HBn
               generalize hw7:w6.setCell _ _=w7 at *
               clear hw7
               go_wp2
               go_meet
               case rel=>exact ⟨_,_,_,⟨HA7.out,HT6.out⟩,by omega,HSG.out⟩
        case rest =>
         obtain ⟨sv,n,xs,hA,hn2,hsf⟩:=hcut
         have HSF:=hid hsf
         have hh:=HOK.out.heads
         simp only [jV,Bool.and_eq_true,decide_eq_true_eq] at hh
         have hC6:S.cols.length≤6:=by omega
         have HCOL:=hid (fun k hk w' (hT:ToldAt w' T tb S) (hl:LiesK w' ra r)=>Rg S f.foot f.parts ft T tb k pre ra rcap r w' HOK.out hT hk hp20 HR.out hrm hl)
         have HSHORT:=hid (VP file pre r trust S HSF.out).2
         have HAb:=hid (hA.toRAt.begin (xt pre r S) V0)
         have HTO:=hid hA.told
         clear hA hsf hh HSG HA0
         generalize hFE:xt pre r S=F at *
         have HFE:=hid hFE
         clear hFE
         go_wp2
         go_loopw [23] (fun i wr=>∃ (k:Nat) (fv sv:Value) (Vs:Nat→Value) (n:Nat) (xs:List Value),k≤S.cols.length∧i=.int .i64 (k:Int)∧RAt wr w fb ob f fv sv F k Vs n xs∧n≤2+21960*k∧ToldAt wr T tb S) (fun i _=>S.cols.length - (intOf i).toNat)
         case atStart=>exact ⟨0,nilV,_,V0,n,xs,Nat.zero_le _,rfl,HAb.out,by omega,HTO.out⟩
         case round =>
          clear hn2 HAb HTO
          obtain ⟨k,fv,sv,Vs,n,xs,hkC,rfl,hA,hn,hTo⟩:=hrel
          obtain ⟨fa,fc,rfl⟩:=jr hA.found.row
          obtain ⟨za,zc,rfl⟩:=jr hA.seals
          have HA:=hid hA
          have HTO:=hid hTo
          obtain ⟨cv,sv',pv,ev,h1,h2,_⟩:=hTo
          obtain ⟨ca,cc,rfl⟩:=jr h2
          have d5:=(xq h1).2.2.2.2.2.1
          clear hA h1 h2
          by_cases hlt:k < S.cols.length
          ·have hki:(k:Int) < (S.cols.length:Int):=by omega
           go_wp2_with fail
           clear d5
           refine (HCOL.out k hlt wr HTO.out (HL.out.later HA.out.below)).mono ?_
           rintro e w5 ⟨hb5,u,zv,m,zs,rfl,hu,hus,hz,hm,hone⟩
           obtain ⟨ua,uc,rfl⟩:=jr hu
           obtain ⟨ya,yc,rfl⟩:=jr hz
           have HVB:Hid (∀ j,j < k→∀ a,(Vs j).ownBlock=some a→a < wr.heap.size):=fun j hj a ha=>((HA.out.found.cells j hj).lt a ha).2
           have hB0:=HA.out.size
           have HA5:=hid (HA.out.later hb5)
           have HT5:=hid (HTO.out.later hb5)
           have HU5:=hid hu
           have HZ5:=hid hz
           have HUS:=hid hus
           have HONE:=hid hone
           have hB05:=hb5.size
           clear hb5 hu hz hus hone HA HTO
           generalize hBB:wr.heap.size=B0 at *
           clear hBB
           have HX:=hid (qg w5 found0 91).2.2.2
           have hbl:=Cf w5 found0 #[strB (F k).name,.int .i64 (F k).kind,.int .i64 (F k).key,.int .i64 (F k).state,.slice ua (F k).cells.length uc] 91
           have HA:=hid (HA5.out.later hbl)
           have HTO:=hid (HT5.out.later hbl)
           have HU:=hid (jw HU5.out hbl)
           have HZ:=hid (jw HZ5.out hbl)
           have HBs:=hid (setRow_heap (w5.alloc (.cells found0 91)) w5.heap.size _ #[strB (F k).name,.int .i64 (F k).kind,.int .i64 (F k).key,.int .i64 (F k).state,.slice ua (F k).cells.length uc] 91 (0,0) HX.out)
           have HZB:=hid (zF HA5.out.found.row (Nat.le_refl _))
           have hBs:=HA5.out.size
           clear hbl
           go_upto_region 34 with (refine wpList_store_row rfl 91 (.tmp 24) (.tmp 140) rfl w5.heap.size #[strB (F k).name,.int .i64 (F k).kind,.int .i64 (F k).key,.int .i64 (F k).state,.slice ua (F k).cells.length uc] rfl rfl 91 found0 HX.out (by kernel_rfl) rfl (by simp [Value.oneCell']) ?_)
           clear HX HA5 HT5 HU5 HZ5
           generalize hw6:(w5.alloc _).setRow _ _=w6 at *
           clear hw6
           generalize hBss:w5.heap.size=Bs at *
           clear hBss
           obtain ⟨i1,hi1,hy0,hy1,hy2⟩:=info_parts Tryz.infoFound
           have dd:=(xW HA.out.out).1
           refine wp_region_held_drew (S:=fun w'=>w'.heap[Bs]?=some (.cells #[strB (F k).name,.int .i64 (F k).kind,.int .i64 (F k).key,.int .i64 (F k).state,.slice ua (F k).cells.length uc] 91 (0,0))) (by kernel_rfl) HBs.out (fun hHeld=>?_)
           refine tk 0 (.pointer (some ⟨ob,0,none⟩)) ?_
           refine tk 1 (.pointer (some ⟨ob,0,none⟩)) ?_
           refine tk 2 (.pointer (some ⟨ob,0,none⟩)) ?_
           refine tk 3 (.pointer (some ⟨ob,0,none⟩)) ?_
           simp only [ga,gb,gc,Act.put,gd,ge,gf]
           refine wpAnyH_take (i:=5) (oi:=_) (v:=.agg #[strB (F k).name,.int .i64 (F k).kind,.int .i64 (F k).key,.int .i64 (F k).state,.slice ua (F k).cells.length uc]) rfl (by kernel_rfl) (by kernel_rfl) (by kernel_rfl) (fun _ _ _ h=>h) (Or.inl ⟨by rfl,fun w hSw=>?_⟩) (by assumption) ?_
           ·have hrl:=run_loadVar_row (P:=Tryz.prog) w Bs 91 91 #[strB (F k).name,.int .i64 (F k).kind,.int .i64 (F k).key,.int .i64 (F k).state,.slice ua (F k).cells.length uc] (0,0) _ hSw Tryz.underlying91 rfl (by kernel_rfl)
            unfold execOp
            simp [List.getElem_toArray,List.getElem_cons_zero,Act.eval,Instr.loadAt,Instr.sureAddr,Sem.run_bind,Sem.run_pure,Result.andThen_ok,hrl]
           simp only [ga,gb,gc,Act.put,gd,ge,gf]
           refine wpAnyH_ready (rs:=[4,6]) (by kernel_rfl) (by simp) ?_
           refine AllReadyH.cons (o:=_) rfl (fun K hK=>?_) (AllReadyH.cons (o:=_) rfl (fun K hK=>?_) AllReadyH.nil)
           ·simp only [ga,gb,gc]
            go_simp
            try go_wp2_with fail
            refine hK.out _ _ HBs.out (fun hHeld=>?_)
            clear hK K
            try simp only [ga,gb,gc,Act.put,gd,ge,gf]
            refine wpAnyH_ready (rs:=[6]) (by kernel_rfl) (by simp) ?_
            refine AllReadyH.cons (o:=_) rfl (fun K hK=>?_) AllReadyH.nil
            simp only [ga,gb,gc]
            go_simp
            try go_wp2_with fail
            have HbW:Hid ((w6.alloc (.cells #[strB (F k).name,.int .i64 (F k).kind,.int .i64 (F k).key,.int .i64 (F k).state,.slice ua (F k).cells.length uc] 91)).drew.heap[Bs]?=some (.cells #[strB (F k).name,.int .i64 (F k).kind,.int .i64 (F k).key,.int .i64 (F k).state,.slice ua (F k).cells.length uc] 91 (0,0))):=Jz _ HBs.out
            have HAW:Hid (RAt (w6.alloc (.cells #[strB (F k).name,.int .i64 (F k).kind,.int .i64 (F k).key,.int .i64 (F k).state,.slice ua (F k).cells.length uc] 91)).drew w fb ob f (.slice fa k fc) (.slice za n zc) F k Vs n xs):=(HA.out.alloc (.cells #[strB (F k).name,.int .i64 (F k).kind,.int .i64 (F k).key,.int .i64 (F k).state,.slice ua (F k).cells.length uc] 91)).drew
            have HTW:Hid (ToldAt (w6.alloc (.cells #[strB (F k).name,.int .i64 (F k).kind,.int .i64 (F k).key,.int .i64 (F k).state,.slice ua (F k).cells.length uc] 91)).drew T tb S):=(HTO.out.later ((Below.refl w6.heap.size w6).alloc (Nat.le_refl _) (.cells #[strB (F k).name,.int .i64 (F k).kind,.int .i64 (F k).key,.int .i64 (F k).state,.slice ua (F k).cells.length uc] 91))).later (qb (Below.refl _ _))
            have HUW:Hid ((w6.alloc (.cells #[strB (F k).name,.int .i64 (F k).kind,.int .i64 (F k).key,.int .i64 (F k).state,.slice ua (F k).cells.length uc] 91)).drew.ownsRow B0 58 3 (.slice ua (F k).cells.length uc) (F k).cells.length (jG (F k).cells)):=HU.out.alloc _
            have HZW:Hid ((w6.alloc (.cells #[strB (F k).name,.int .i64 (F k).kind,.int .i64 (F k).key,.int .i64 (F k).state,.slice ua (F k).cells.length uc] 91)).drew.ownsRow B0 40 4 (.slice ya m yc) m zs):=HZ.out.alloc _
            have HNW:Hid (∀ j u,([strB (F k).name,.int .i64 (F k).kind,.int .i64 (F k).key,.int .i64 (F k).state,.slice ua (F k).cells.length uc]:List Value)[j]?=some u→(w6.alloc (.cells #[strB (F k).name,.int .i64 (F k).kind,.int .i64 (F k).key,.int .i64 (F k).state,.slice ua (F k).cells.length uc] 91)).drew.cell? ((⟨w6.heap.size,0,none⟩:Addr).add j)=some u):=xf w6 #[strB (F k).name,.int .i64 (F k).kind,.int .i64 (F k).key,.int .i64 (F k).state,.slice ua (F k).cells.length uc] 91 (by simp)
            have dW:=(xW HAW.out.out).1
            refine hK.out _ _ HbW.out (fun hHeld=>?_)
            clear hK K dd
            try simp only [ga,gb,gc,Act.put,gd,ge,gf]
            generalize hw6X:(w6.alloc (.cells #[strB (F k).name,.int .i64 (F k).kind,.int .i64 (F k).key,.int .i64 (F k).state,.slice ua (F k).cells.length uc] 91)).drew=WY at *
            clear hw6X
            generalize hnb:w6.heap.size=nb at HNW ⊢
            clear hnb HA HBs HTO
            refine wpAnyH_ready (rs:=[7]) (by kernel_rfl) (by simp) ?_
            refine AllReadyH.cons (o:=_) rfl (fun K hK=>?_) AllReadyH.nil
            simp only [ga,gb,gc]
            rw [if_pos (by simp [Region.wanted])]
            refine wp_append_own _ (.tmp 146) (.tmp 148) 32 rfl (ob+1) 91 i1 _ 5 64 Tryz.underlying32 hi1 hy0 hy1 hy2 rfl (by decide) (.slice fa k fc) k (JL F Vs k) rfl HAW.out.found.row ⟨nb,0,none⟩ 1 1 [strB (F k).name,.int .i64 (F k).kind,.int .i64 (F k).key,.int .i64 (F k).state,.slice ua (F k).cells.length uc] rfl rfl HNW.out ?_ (by unfold maxLen;omega) (by omega) HAW.out.size ?_
            ·intro u hu
             simp at hu
             rcases hu with rfl|rfl|rfl|rfl|rfl<;>rfl
            intro v6 w6 hown6 hgr6 _
            have HBn:Hid (w6.heap[Bs]?=some (.cells #[strB (F k).name,.int .i64 (F k).kind,.int .i64 (F k).key,.int .i64 (F k).state,.slice ua (F k).cells.length uc] 91 (0,0))):=by
             show _=_
             rw [hgr6.block Bs (Array.getElem?_eq_some_iff.1 HbW.out).1 (by
              intro e
              rcases HZB.out with h|h
              ·rw [h] at e;cases e
              ·exact h e.symm)]
             exact HbW.out
            obtain ⟨va,vc,hv6⟩:=jr hown6
            subst hv6
            have HO6:=hid (qY hgr6 HAW.out.found.row HAW.out.out (by omega))
            have HA7:=hid (HAW.out.foundUp (B:=B0) HVB.out HUW.out hB0 HUS.out hgr6 hown6)
            have HT6:=hid ((HTW.out.aside hgr6 HAW.out.found.row (by decide) (by decide) (by decide) (by decide) (by decide)).box (zS w6 ob 0 (.slice va (k+1) vc)) HO6.out)
            have HZ7:=hid ((HZW.out.kept hgr6 (qc HZW.out HAW.out.found.row (by decide))).kept (zS w6 ob 0 (.slice va (k+1) vc)) (Jk (HZW.out.kept hgr6 (qc HZW.out HAW.out.found.row (by decide))) (by omega)))
            clear hown6 hgr6 HNW HAW HbW dW HTW
            refine hK.out _ _ HBn.out (fun hHeld=>?_)
            clear hK K
            try simp only [ga,gb,gc,Act.put,gd,ge,gf]
            refine tk 8 (.pointer (some ⟨ob,0,none⟩)) ?_
            refine tk 9 (.pointer (some ⟨ob,0,none⟩)) ?_
            simp only [ga,gb,gc,Act.put,gd,ge,gf]
            refine wpAnyH_ready (rs:=[10]) (by kernel_rfl) (by simp) ?_
            refine AllReadyH.cons (o:=_) rfl (fun K hK=>?_) AllReadyH.nil
            simp only [ga,gb,gc]
            have cc:=(xW HO6.out).1
            have fz:=frozen_of_row w6 ob 0 _ _ HO6.out
            go_simp
            try go_wp2_with fail
            have HBt:=qi (zS w6 ob 0 (.slice va (k+1) vc)) HBn.out (by omega)
            refine hK.out _ _ HBt (fun hHeld=>?_)
            clear hK K cc fz
            refine wpAnyH_done (by kernel_rfl) ?_ _
            clear hHeld HBt HO6 HBn
            generalize hw7:w6.setCell _ _=w7 at *
            clear hw7
            clear HUW HZW
            have dd:=(xW HA7.out.out).2
            have fz:=frozen_of_row w7 ob 1 _ _ HA7.out.out
            have hcap:=(GG HA7.out.seals).1
            obtain ⟨i2,hi2,hx0,hx1,hx2⟩:=info_parts Tryz.infoSealed
            by_cases hm0:m=0
            ·subst hm0
             go_wp2_with (at_builtin;refine xK rfl (.tmp 156) (.tmp 157) 28 rfl 40 i2 Tryz.underlying28 hi2 za n zc rfl hcap ya yc rfl ?_)
             have HA8:=hid (HA7.out.sealUp (Gp w7 _) HA7.out.seals)
             have HT8:=hid (HT6.out.box (zS w7 ob 1 (.slice za n zc)) HA7.out.out)
             clear HA7 HT6 HZ7 dd fz
             generalize hw8:w7.setCell _ _=w8 at *
             clear hw8
             go_wp2
             go_roundw
             case rel=>exact ⟨k+1,_,_,_,n,xs,by omega,by go_num,HA8.out,by omega,HT8.out⟩
             case measure=>simp [intOf];omega
            ·have hm1:0 < m:=by omega
             obtain ⟨yg,hyg⟩:∃ yg,ya=some ⟨yg,0,none⟩:=by
              rcases HZ7.out.2 with ⟨h0,h1⟩|⟨g,cap,cur,hv,_⟩
              ·omega
              ·injection hv with hv1 _ _
               exact ⟨g,hv1⟩
             subst hyg
             have hz7:=HA7.out.size
             have HCL:Hid (∀ j u,zs[j]?=some u→w7.cell? ((⟨yg,0,none⟩:Addr).add j)=some u):=HZ7.out.cells (g:=yg) rfl
             have hzl:=HZ7.out.1
             clear hm0
             go_wp2_with (at_builtin;refine wpList_append_lies _ rfl (.tmp 156) (.tmp 157) 28 rfl (ob+1) 40 i2 _ 4 64 Tryz.underlying28 hi2 hx0 hx1 hx2 rfl (by omega) (.slice za n zc) n xs rfl HA7.out.seals ⟨yg,0,none⟩ m yc zs rfl hzl HCL.out HONE.out hm1 (by unfold maxLen;omega) (by omega) (by omega) _ rfl ?_;intro gg gc w9 hown9 hgr9 hat9 hlt9;have hO9:=qY hgr9 HA7.out.seals HA7.out.out (by omega);have c9:=(xW hO9).2;have f9:=frozen_of_row w9 ob 1 _ _ hO9)
             have HA8:=hid (HA7.out.sealUp hgr9 hown9)
             have HT8:=hid ((HT6.out.aside hgr9 HA7.out.seals (by decide) (by decide) (by decide) (by decide) (by decide)).box (zS w9 ob 1 (.slice (some ⟨gg,0,none⟩) (n+m) gc)) hO9)
             clear HA7 HT6 HZ7 dd fz hown9 hgr9 hat9 hlt9 hO9 c9 f9 HCL hzl
             generalize hw8:w9.setCell _ _=w8 at *
             clear hw8
             go_wp2
             go_roundw
             case rel=>exact ⟨k+1,_,_,_,n+m,_,by omega,by go_num,HA8.out,by omega,HT8.out⟩
             case measure=>simp [intOf];omega
           ·simp only [ga,gb,gc]
            go_simp
            try go_wp2_with fail
            have HbW:Hid ((w6.alloc (.cells #[strB (F k).name,.int .i64 (F k).kind,.int .i64 (F k).key,.int .i64 (F k).state,.slice ua (F k).cells.length uc] 91)).drew.heap[Bs]?=some (.cells #[strB (F k).name,.int .i64 (F k).kind,.int .i64 (F k).key,.int .i64 (F k).state,.slice ua (F k).cells.length uc] 91 (0,0))):=Jz _ HBs.out
            have HAW:Hid (RAt (w6.alloc (.cells #[strB (F k).name,.int .i64 (F k).kind,.int .i64 (F k).key,.int .i64 (F k).state,.slice ua (F k).cells.length uc] 91)).drew w fb ob f (.slice fa k fc) (.slice za n zc) F k Vs n xs):=(HA.out.alloc (.cells #[strB (F k).name,.int .i64 (F k).kind,.int .i64 (F k).key,.int .i64 (F k).state,.slice ua (F k).cells.length uc] 91)).drew
            have HTW:Hid (ToldAt (w6.alloc (.cells #[strB (F k).name,.int .i64 (F k).kind,.int .i64 (F k).key,.int .i64 (F k).state,.slice ua (F k).cells.length uc] 91)).drew T tb S):=(HTO.out.later ((Below.refl w6.heap.size w6).alloc (Nat.le_refl _) (.cells #[strB (F k).name,.int .i64 (F k).kind,.int .i64 (F k).key,.int .i64 (F k).state,.slice ua (F k).cells.length uc] 91))).later (qb (Below.refl _ _))
            have HUW:Hid ((w6.alloc (.cells #[strB (F k).name,.int .i64 (F k).kind,.int .i64 (F k).key,.int .i64 (F k).state,.slice ua (F k).cells.length uc] 91)).drew.ownsRow B0 58 3 (.slice ua (F k).cells.length uc) (F k).cells.length (jG (F k).cells)):=HU.out.alloc _
            have HZW:Hid ((w6.alloc (.cells #[strB (F k).name,.int .i64 (F k).kind,.int .i64 (F k).key,.int .i64 (F k).state,.slice ua (F k).cells.length uc] 91)).drew.ownsRow B0 40 4 (.slice ya m yc) m zs):=HZ.out.alloc _
            have HNW:Hid (∀ j u,([strB (F k).name,.int .i64 (F k).kind,.int .i64 (F k).key,.int .i64 (F k).state,.slice ua (F k).cells.length uc]:List Value)[j]?=some u→(w6.alloc (.cells #[strB (F k).name,.int .i64 (F k).kind,.int .i64 (F k).key,.int .i64 (F k).state,.slice ua (F k).cells.length uc] 91)).drew.cell? ((⟨w6.heap.size,0,none⟩:Addr).add j)=some u):=xf w6 #[strB (F k).name,.int .i64 (F k).kind,.int .i64 (F k).key,.int .i64 (F k).state,.slice ua (F k).cells.length uc] 91 (by simp)
            have dW:=(xW HAW.out.out).1
            refine hK.out _ _ HbW.out (fun hHeld=>?_)
            clear hK K dd
            try simp only [ga,gb,gc,Act.put,gd,ge,gf]
            generalize hw6X:(w6.alloc (.cells #[strB (F k).name,.int .i64 (F k).kind,.int .i64 (F k).key,.int .i64 (F k).state,.slice ua (F k).cells.length uc] 91)).drew=WY at *
            clear hw6X
            generalize hnb:w6.heap.size=nb at HNW ⊢
            clear hnb HA HBs HTO
            refine wpAnyH_ready (rs:=[4]) (by kernel_rfl) (by simp) ?_
            refine AllReadyH.cons (o:=_) rfl (fun K hK=>?_) AllReadyH.nil
            simp only [ga,gb,gc]
            go_simp
            try go_wp2_with fail
            refine hK.out _ _ HbW.out (fun hHeld=>?_)
            clear hK K
            try simp only [ga,gb,gc,Act.put,gd,ge,gf]
            refine wpAnyH_ready (rs:=[7]) (by kernel_rfl) (by simp) ?_
            refine AllReadyH.cons (o:=_) rfl (fun K hK=>?_) AllReadyH.nil
            simp only [ga,gb,gc]
            rw [if_pos (by simp [Region.wanted])]
            refine wp_append_own _ (.tmp 146) (.tmp 148) 32 rfl (ob+1) 91 i1 _ 5 64 Tryz.underlying32 hi1 hy0 hy1 hy2 rfl (by decide) (.slice fa k fc) k (JL F Vs k) rfl HAW.out.found.row ⟨nb,0,none⟩ 1 1 [strB (F k).name,.int .i64 (F k).kind,.int .i64 (F k).key,.int .i64 (F k).state,.slice ua (F k).cells.length uc] rfl rfl HNW.out ?_ (by unfold maxLen;omega) (by omega) HAW.out.size ?_
            ·intro u hu
             simp at hu
             rcases hu with rfl|rfl|rfl|rfl|rfl<;>rfl
            intro v6 w6 hown6 hgr6 _
            have HBn:Hid (w6.heap[Bs]?=some (.cells #[strB (F k).name,.int .i64 (F k).kind,.int .i64 (F k).key,.int .i64 (F k).state,.slice ua (F k).cells.length uc] 91 (0,0))):=by
             show _=_
             rw [hgr6.block Bs (Array.getElem?_eq_some_iff.1 HbW.out).1 (by
              intro e
              rcases HZB.out with h|h
              ·rw [h] at e;cases e
              ·exact h e.symm)]
             exact HbW.out
            obtain ⟨va,vc,hv6⟩:=jr hown6
            subst hv6
            have HO6:=hid (qY hgr6 HAW.out.found.row HAW.out.out (by omega))
            have HA7:=hid (HAW.out.foundUp (B:=B0) HVB.out HUW.out hB0 HUS.out hgr6 hown6)
            have HT6:=hid ((HTW.out.aside hgr6 HAW.out.found.row (by decide) (by decide) (by decide) (by decide) (by decide)).box (zS w6 ob 0 (.slice va (k+1) vc)) HO6.out)
            have HZ7:=hid ((HZW.out.kept hgr6 (qc HZW.out HAW.out.found.row (by decide))).kept (zS w6 ob 0 (.slice va (k+1) vc)) (Jk (HZW.out.kept hgr6 (qc HZW.out HAW.out.found.row (by decide))) (by omega)))
            clear hown6 hgr6 HNW HAW HbW dW HTW
            refine hK.out _ _ HBn.out (fun hHeld=>?_)
            clear hK K
            try simp only [ga,gb,gc,Act.put,gd,ge,gf]
            refine tk 8 (.pointer (some ⟨ob,0,none⟩)) ?_
            refine tk 9 (.pointer (some ⟨ob,0,none⟩)) ?_
            simp only [ga,gb,gc,Act.put,gd,ge,gf]
            refine wpAnyH_ready (rs:=[10]) (by kernel_rfl) (by simp) ?_
            refine AllReadyH.cons (o:=_) rfl (fun K hK=>?_) AllReadyH.nil
            simp only [ga,gb,gc]
            have cc:=(xW HO6.out).1
            have fz:=frozen_of_row w6 ob 0 _ _ HO6.out
            go_simp
            try go_wp2_with fail
            have HBt:=qi (zS w6 ob 0 (.slice va (k+1) vc)) HBn.out (by omega)
            refine hK.out _ _ HBt (fun hHeld=>?_)
            clear hK K cc fz
            refine wpAnyH_done (by kernel_rfl) ?_ _
            clear hHeld HBt HO6 HBn
            generalize hw7:w6.setCell _ _=w7 at *
            clear hw7
            clear HUW HZW
            have dd:=(xW HA7.out.out).2
            have fz:=frozen_of_row w7 ob 1 _ _ HA7.out.out
            have hcap:=(GG HA7.out.seals).1
            obtain ⟨i2,hi2,hx0,hx1,hx2⟩:=info_parts Tryz.infoSealed
            by_cases hm0:m=0
            ·subst hm0
             go_wp2_with (at_builtin;refine xK rfl (.tmp 156) (.tmp 157) 28 rfl 40 i2 Tryz.underlying28 hi2 za n zc rfl hcap ya yc rfl ?_)
             have HA8:=hid (HA7.out.sealUp (Gp w7 _) HA7.out.seals)
             have HT8:=hid (HT6.out.box (zS w7 ob 1 (.slice za n zc)) HA7.out.out)
             clear HA7 HT6 HZ7 dd fz
             generalize hw8:w7.setCell _ _=w8 at *
             clear hw8
             go_wp2
             go_roundw
             case rel=>exact ⟨k+1,_,_,_,n,xs,by omega,by go_num,HA8.out,by omega,HT8.out⟩
             case measure=>simp [intOf];omega
            ·have hm1:0 < m:=by omega
             obtain ⟨yg,hyg⟩:∃ yg,ya=some ⟨yg,0,none⟩:=by
              rcases HZ7.out.2 with ⟨h0,h1⟩|⟨g,cap,cur,hv,_⟩
              ·omega
              ·injection hv with hv1 _ _
               exact ⟨g,hv1⟩
             subst hyg
             have hz7:=HA7.out.size
             have HCL:Hid (∀ j u,zs[j]?=some u→w7.cell? ((⟨yg,0,none⟩:Addr).add j)=some u):=HZ7.out.cells (g:=yg) rfl
             have hzl:=HZ7.out.1
             clear hm0
             go_wp2_with (at_builtin;refine wpList_append_lies _ rfl (.tmp 156) (.tmp 157) 28 rfl (ob+1) 40 i2 _ 4 64 Tryz.underlying28 hi2 hx0 hx1 hx2 rfl (by omega) (.slice za n zc) n xs rfl HA7.out.seals ⟨yg,0,none⟩ m yc zs rfl hzl HCL.out HONE.out hm1 (by unfold maxLen;omega) (by omega) (by omega) _ rfl ?_;intro gg gc w9 hown9 hgr9 hat9 hlt9;have hO9:=qY hgr9 HA7.out.seals HA7.out.out (by omega);have c9:=(xW hO9).2;have f9:=frozen_of_row w9 ob 1 _ _ hO9)
             have HA8:=hid (HA7.out.sealUp hgr9 hown9)
             have HT8:=hid ((HT6.out.aside hgr9 HA7.out.seals (by decide) (by decide) (by decide) (by decide) (by decide)).box (zS w9 ob 1 (.slice (some ⟨gg,0,none⟩) (n+m) gc)) hO9)
             clear HA7 HT6 HZ7 dd fz hown9 hgr9 hat9 hlt9 hO9 c9 f9 HCL hzl
             generalize hw8:w9.setCell _ _=w8 at *
             clear hw8
             go_wp2
             go_roundw
             case rel=>exact ⟨k+1,_,_,_,n+m,_,by omega,by go_num,HA8.out,by omega,HT8.out⟩
             case measure=>simp [intOf];omega
          ·have hke:k=S.cols.length:=by omega
           have hki:¬ (k:Int) < (S.cols.length:Int):=by omega
           subst hke
           obtain ⟨la,lc,hv,hlies⟩:=HA.out.found.lies HSHORT.out
           injection hv with hv1 hv2 hv3
           subst hv1 hv3
           clear hv2
           have HLF:=hid hlies
           have HCE:=hid (xW HA.out.out).1
           clear hlies
           go_wp2
           go_ret2
           exact ⟨HA.out.below,.inr ⟨S,ob,_,_,HSF.out,rfl,HCE.out,by rw [HFE.out];exact HLF.out⟩⟩
end
end Go.Proofs.YthhpbhpfagoapaaGreat
