import Derived.Test.YthhpbhpfagoapabGreatJAL
import Derived.Test.YthhpbhpfagoapabGreatDRead3
import Derived.Deep.QuietTactic
import Derived.BigQuiet
import Derived.Deep.Cut
import Derived.Deep.CutBlock
namespace Go.Proofs.YthhpbhpfagoapabGreat
set_option linter.unusedVariables false
set_option linter.unusedSimpArgs false
set_option maxRecDepth 100000
set_option maxHeartbeats 16000000
open Go.RowKit
theorem AM (sa sb so:List UInt8) (ha:Option Addr) (hcap:Nat) (how:List Int) (w:World) (h1:sa.length≤1000000000) (h2:sb.length≤1000000000) (h3:so.length≤maxLen) (hl:LiesI w ha how) :
  Calls Tryz.prog 15 #[strB sa,strB sb,strB so,.slice ha how.length hcap] w fun e w'=>(∃ s,e=.returned (strB s)∧s.length=sa.length)∧Below w.heap.size w w':=by
 have Hl:=hid hl
 have hfew:=hl.few
 have HR:=hid hl.ok
 clear hl
 unfold maxLen at h3
 go_enter Tryz.func15,Tryz.ntmps15
 go_wp2
 go_loopw [9,10] (fun sv i wr=>∃ (q:Nat) (s:List UInt8),i=.int .i64 (q:Int)∧sv=strB s∧s.length≤sa.length∧sa.length≤s.length∧q≤how.length+3∧Below w.heap.size w wr) (fun _ i _=>how.length+4 - (intOf i).toNat)
 case atStart=>exact ⟨0,sa,rfl,rfl,Nat.le_refl _,Nat.le_refl _,by omega,Below.refl _ _⟩
 case round =>
  obtain ⟨q,s,rfl,rfl,hsl,hsg,hq,hB⟩:=hrel
  have HB:=hid hB
  have Hlr:=hid (Hl.out.later hB)
  clear hB
  have hwq:IntKind.i64.wrap ((q:Int)+3)=(q:Int)+3:=by rw [IntKind.wrap_i64];omega
  by_cases hlt:q+3 < how.length
  ·have hlti:(q:Int)+3 < (how.length:Int):=by omega
   obtain ⟨b,off,rfl,hbw,hcell⟩:=Hlr.out.at_ (List.ne_nil_of_length_pos (by omega))
   have d0:=hcell (q) (by omega)
   have d1:=hcell (q+1) (by omega)
   have d2:=hcell (q+2) (by omega)
   have d3:=hcell (q+3) (by omega)
   have r0:=HR.out _ (List.getElem_mem (show q < how.length by omega))
   have r1:=HR.out _ (List.getElem_mem (show q+1 < how.length by omega))
   have r2:=HR.out _ (List.getElem_mem (show q+2 < how.length by omega))
   have r3:=HR.out _ (List.getElem_mem (show q+3 < how.length by omega))
   have HD0:=hid d0
   have HD1:Hid (wr.cell? ⟨b,off+(q+1),none⟩=some (.int .i64 how[q+1])):=d1
   have HD2:Hid (wr.cell? ⟨b,off+(q+2),none⟩=some (.int .i64 how[q+2])):=d2
   have HD3:Hid (wr.cell? ⟨b,off+(q+3),none⟩=some (.int .i64 how[q+3])):=d3
   have hw1:IntKind.i64.wrap ((q:Int)+1)=((q+1:Nat):Int):=by rw [IntKind.wrap_i64];omega
   have hw2:IntKind.i64.wrap ((q:Int)+2)=((q+2:Nat):Int):=by rw [IntKind.wrap_i64];omega
   have hw3:IntKind.i64.wrap ((q:Int)+3)=((q+3:Nat):Int):=by rw [IntKind.wrap_i64];omega
   have hi0:(q:Int) < (how.length:Int):=by omega
   have hi1:((q+1:Nat):Int) < (how.length:Int):=by omega
   have hi2:((q+2:Nat):Int) < (how.length:Int):=by omega
   have hi3:((q+3:Nat):Int) < (how.length:Int):=by omega
   clear d1 d2 d3 hcell
   generalize how[q]=c0 at *
   generalize how[q+1]=c1 at *
   generalize how[q+2]=c2 at *
   generalize how[q+3]=c3 at *
   obtain ⟨hp0,hp1⟩:=qB c0 3 (by decide)
   go_wp2_with fail
   refine (Jk c0 3 _ r0.1 r0.2 (by decide) (by decide)).mono ?_
   rintro e w1 ⟨rfl,rfl⟩
   generalize qi c0 3=V0 at *
   clear d0 hp0 hp1 hwq
   go_upto_if 29 with fail
   go_cut [11] (fun fr wc=>∃ from_:List UInt8,fr=strB from_∧from_.length≤9223372036854775807∧wc=w1)
   case first =>
    by_cases hv:V0=0
    ·have hv':(V0 == 0)=true:=by simp [hv]
     go_wp2
     go_meet
     case rel=>exact ⟨so,rfl,by omega,rfl⟩
    ·have hv':(V0 == 0)=false:=by simpa using hv
     go_wp2
     go_meet
     case rel=>exact ⟨sb,rfl,by omega,rfl⟩
   case rest =>
    obtain ⟨fr,rfl,hfr,rfl⟩:=hcut
    by_cases hs0:s.length=0
    ·have hsi:((s.length:Int) == 0)=true:=by rw [beq_iff_eq];omega
     have hw4:IntKind.i64.wrap ((q:Int)+4)=((q+4:Nat):Int):=by rw [IntKind.wrap_i64];omega
     clear hw1 hw2 hw3
     go_wp2
     exact ⟨⟨q+4,s,by go_num,rfl,hsl,hsg,by omega,HB.out⟩,by simp [intOf];omega⟩
    ·have hsi:((s.length:Int) == 0)=false:=by rw [beq_eq_false_iff_ne];omega
     by_cases hf0:fr.length=0
     ·have hfi:((fr.length:Int) == 0)=true:=by rw [beq_iff_eq];omega
      have hw4:IntKind.i64.wrap ((q:Int)+4)=((q+4:Nat):Int):=by rw [IntKind.wrap_i64];omega
      clear hw1 hw2 hw3
      go_wp2
      exact ⟨⟨q+4,s,by go_num,rfl,hsl,hsg,by omega,HB.out⟩,by simp [intOf];omega⟩
     ·have hfi:((fr.length:Int) == 0)=false:=by rw [beq_eq_false_iff_ne];omega
      have e1:=HD1.out
      have HP1:=hid (Jk c1 (s.length:Int) wc r1.1 r1.2 (by omega) (by omega))
      obtain ⟨hi10,hi11⟩:=qB c1 (s.length:Int) (by omega)
      generalize qi c1 (s.length:Int)=I at *
      go_wp2_with fail
      refine HP1.out.mono ?_
      rintro e w2 ⟨rfl,rfl⟩
      have e2:=HD2.out
      have HP2:=hid (Jk c2 (fr.length:Int) w2 r2.1 r2.2 (by omega) (by omega))
      obtain ⟨hm0,hm1⟩:=qB c2 (fr.length:Int) (by omega)
      generalize qi c2 (fr.length:Int)=M at *
      clear e1 HP1
      go_wp2_with fail
      refine HP2.out.mono ?_
      rintro e w3 ⟨rfl,rfl⟩
      clear e2 HP2
      go_upto_region 11 with fail
      go_cut [66] (fun t wd=>∃ bb,t=.bool bb∧(bb=true→I < (fr.length:Int))∧wd=w3)
      case first =>
       have e0:=HD0.out
       go_wp2_with fail
       refine (Jk c0 2 _ r0.1 r0.2 (by decide) (by decide)).mono ?_
       rintro e w4 ⟨rfl,rfl⟩
       clear e0
       generalize qi c0 2=V2 at *
       by_cases hv2:V2=0
       ·have hv2':(V2 == 0)=true:=by simp [hv2]
        go_wp2
        go_meet
        case rel=>exact ⟨decide (I < (fr.length:Int)),rfl,(fun h=>of_decide_eq_true h),rfl⟩
       ·have hv2':(V2 == 0)=false:=by simpa using hv2
        go_wp2
        go_meet
        case rel=>exact ⟨false,rfl,(fun h=>by cases h),rfl⟩
      case rest =>
       obtain ⟨bb,rfl,hbb,rfl⟩:=hcut
       go_upto_if 66 with fail
       go_cut [13] (fun mv wd=>∃ m:Int,mv=.int .i64 m∧0≤m∧m < (fr.length:Int)∧wd=wc)
       case first =>
        cases bb with
        | true =>
         have:=hbb rfl
         go_wp2
         go_meet
         case rel=>exact ⟨I,rfl,hi10,this,rfl⟩
        | false =>
         go_wp2
         go_meet
         case rel=>exact ⟨M,rfl,hm0,hm1,rfl⟩
       case rest =>
        obtain ⟨m,rfl,hmm0,hmm1,rfl⟩:=hcut
        clear hbb hm0 hm1
        have e3:=HD3.out
        go_wp2_with fail
        refine (Jk c3 40 _ r3.1 r3.2 (by decide) (by decide)).mono ?_
        rintro e w5 ⟨rfl,rfl⟩
        obtain ⟨hn0,hn1⟩:=qB c3 40 (by decide)
        generalize qi c3 40=NN at *
        clear e3
        have hwd:IntKind.i64.wrap ((s.length:Int) - I)=(s.length:Int) - I:=by rw [IntKind.wrap_i64];omega
        have hwe:IntKind.i64.wrap ((fr.length:Int) - m)=(fr.length:Int) - m:=by rw [IntKind.wrap_i64];omega
        go_upto_if 79 with fail
        go_cut [14] (fun nv wd=>∃ n:Int,nv=.int .i64 n∧0≤n∧n≤(s.length:Int) - I∧wd=w5)
        case first =>
         by_cases hc:(s.length:Int) - I < NN
         ·go_wp2
          go_meet
          case rel=>exact ⟨_,rfl,by omega,by omega,rfl⟩
         ·go_wp2
          go_meet
          case rel=>exact ⟨NN,rfl,hn0,by omega,rfl⟩
        case rest =>
         obtain ⟨n,rfl,hnn0,hnn1,rfl⟩:=hcut
         clear hn0 hn1
         go_upto_if 89 with fail
         go_cut [14] (fun nv wd=>∃ n:Int,nv=.int .i64 n∧0≤n∧n≤(s.length:Int) - I∧n≤(fr.length:Int) - m∧wd=wc)
         case first =>
          by_cases hc:(fr.length:Int) - m < n
          ·go_wp2
           go_meet
           case rel=>exact ⟨_,rfl,by omega,by omega,by omega,rfl⟩
          ·go_wp2
           go_meet
           case rel=>exact ⟨n,rfl,hnn0,hnn1,by omega,rfl⟩
         case rest =>
          clear hnn0 hnn1
          obtain ⟨n',rfl,hnn0,hnn1,hnn2,rfl⟩:=hcut
          obtain ⟨i,rfl⟩:∃ i:Nat,I=(i:Int):=⟨I.toNat,by omega⟩
          obtain ⟨mm,rfl⟩:∃ mm:Nat,m=(mm:Int):=⟨m.toNat,by omega⟩
          obtain ⟨nn,rfl⟩:∃ nn:Nat,n'=(nn:Int):=⟨n'.toNat,by omega⟩
          have x1:(⟨s.toArray⟩:ByteArray).extract 0 i=⟨(s.take i).toArray⟩:=Ct s i
          have x2:(⟨fr.toArray⟩:ByteArray).extract mm (mm+nn)=⟨((fr.drop mm).take nn).toArray⟩:=by rw [Ko,Nat.add_sub_cancel_left]
          have x3:(⟨s.toArray⟩:ByteArray).extract (i+nn) s.length=⟨(s.drop (i+nn)).toArray⟩:=Ix s (i+nn)
          have l1:(s.take i).length≤i:=by rw [List.length_take];omega
          have l2:((fr.drop mm).take nn).length≤nn:=by rw [List.length_take];omega
          have l3:(s.drop (i+nn)).length≤s.length:=by rw [List.length_drop];omega
          have HLen:Hid ((s.take i++(fr.drop mm).take nn++s.drop (i+nn)).length=s.length):=by
           show List.length _=_
           simp only [List.length_append,List.length_take,List.length_drop]
           omega
          have hwf:IntKind.i64.wrap ((mm:Int)+(nn:Int))=((mm+nn:Nat):Int):=by rw [IntKind.wrap_i64];omega
          have hwg:IntKind.i64.wrap ((i:Int)+(nn:Int))=((i+nn:Nat):Int):=by rw [IntKind.wrap_i64];omega
          have hw4:IntKind.i64.wrap ((q:Int)+4)=((q+4:Nat):Int):=by rw [IntKind.wrap_i64];omega
          have b1:(i:Int)≤(s.length:Int):=by omega
          have b2:((mm+nn:Nat):Int)≤(fr.length:Int):=by omega
          have b3:(mm:Int)≤((mm+nn:Nat):Int):=by omega
          have b4:((i+nn:Nat):Int)≤(s.length:Int):=by omega
          have b5:(0:Int)≤((mm+nn:Nat):Int):=by omega
          have b6:(0:Int)≤((i+nn:Nat):Int):=by omega
          clear hw1 hw2 hw3 hwd hwe HD0 HD1 HD2 HD3 hsi hfi
          go_upto_region 18 with fail
          go_quiet (fail)
          rw [If,If]
          have HLen2:Hid ((s.take i++(fr.drop mm).take nn++s.drop (i+nn)).length=s.length):=HLen
          generalize s.take i++(fr.drop mm).take nn++s.drop (i+nn)=s' at *
          clear x1 x2 x3 l1 l2 l3 b1 b2 b3 b4 b5 b6 hwf hwg
          go_wp2
          exact ⟨⟨q+4,s',by go_num,rfl,by have:=HLen.out;omega,by have:=HLen.out;omega,by omega,below_drewN HB.out _⟩,by simp [intOf];omega⟩
  ·have hdn:¬ ((q:Int)+3 < (how.length:Int)):=by omega
   go_wp2
   go_ret
   exact ⟨⟨s,rfl,by omega⟩,HB.out⟩
end Go.Proofs.YthhpbhpfagoapabGreat
