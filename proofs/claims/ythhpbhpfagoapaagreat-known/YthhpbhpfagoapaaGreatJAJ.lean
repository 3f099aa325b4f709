import Derived.Test.YthhpbhpfagoapaaGreatJAM
import Derived.Test.YthhpbhpfagoapaaGreatJAL
import Derived.Test.YthhpbhpfagoapaaGreatJAF
import Derived.Test.YthhpbhpfagoapaaGreatJBP
import Derived.Test.YthhpbhpfagoapaaGreatKHead
import Derived.Deep.RegionHeld3
import Derived.Deep.RegionWith
namespace Go.Proofs.YthhpbhpfagoapaaGreat
set_option linter.unusedVariables false
set_option linter.unusedSimpArgs false
set_option maxRecDepth 100000
set_option maxHeartbeats 16000000
section
theorem Me (raw:List Int) (pre:List UInt8) (c:Int) (hr:∀ x ∈ raw,QT x):(xC (qg raw pre) (jL c 0)).length≤65000:=by
 have h:=QN raw pre c hr
 refine Ts h ?_ ?_ ?_
 ·show (Jw raw (zI raw)).length≤4
  rw [QY]
  exact (Zp raw).2
 ·have h1:jY (qg raw pre).table=((qg raw pre).table[0]'(by have:=h.table.few.1;omega)).cells.length:=NI h.table.few.1
  have h2:=Ze raw
  have e:(qg raw pre).table[0]'(by have:=h.table.few.1;omega)=Xq raw 0 (qr raw):=Zc raw (zI raw) 0 _
  rw [h1,e]
  simp only [Xq,List.length_map,List.length_range]
  omega
 ·show (1+qe (atB raw 4) 6).toNat≤6
  have:=qG (atB raw 4) 6 (by decide)
  omega
theorem AT (raw:List Int) (pre:List UInt8) (c without:Int) (trust:Bool) (hr:∀ x ∈ raw,QT x) :
  zn (xC (qg raw pre) (jL c 0)) (qg raw pre).pre (jL c without) trust=if qn without 5=true∧¬ ((qg raw pre).plan.told=true∧trust=true) then (8,none) else (0,some (zm (qg raw pre) (jL c 0))):=by
 have hn:js (jL c without) (qg raw pre).plan.foot=!qn without 5:=(JG c without).2.1 5 (by decide) (by decide)
 rw [GB (QN raw pre c hr) (Me raw pre c hr) (JG c without).1 (fun h=>RB c without (show (1:Int)≤(qg raw pre).plan.foot from (by decide:(1:Int)≤5)) (show (qg raw pre).plan.foot≤5 from (by decide:(5:Int)≤5)) h),hn]
 cases qn without 5<;>simp
theorem NU (raw:List Int) (pre:List UInt8) (c without:Int) (hr:∀ x ∈ raw,QT x) {i:Nat} (hi:i < (qg raw pre).table.length) :
  xr (qg raw pre).pre (jL c without) (zm (qg raw pre) (jL c 0)) i=if 0 < ((qg raw pre).table[i]).key∧qn without ((qg raw pre).table[i]).key.toNat=true then ⟨((qg raw pre).table[i]).name,((qg raw pre).table[i]).kind,((qg raw pre).table[i]).key,1,[]⟩ else ⟨((qg raw pre).table[i]).name,((qg raw pre).table[i]).kind,((qg raw pre).table[i]).key,0,((qg raw pre).table[i]).cells⟩:=by
 have h:=QN raw pre c hr
 have hk:0≤((qg raw pre).table[i]).key∧((qg raw pre).table[i]).key≤4:=by
  have e:(qg raw pre).table[i]=Xq raw i (qr raw):=Zc raw (zI raw) i hi
  rw [e]
  have:=qG (atB raw (10+i)) 5 (by decide)
  simp only [Xq]
  omega
 rw [Nl h hi (by
  by_cases h0:((qg raw pre).table[i]).key=0
  ·exact .inl h0
  ·exact .inr (fun hn=>RB c without (by omega) (by omega) hn))]
 by_cases h0:0 < ((qg raw pre).table[i]).key
 ·have hn:=(JG c without).2.1 ((qg raw pre).table[i]).key (by omega) (by omega)
  rw [hn]
  cases qn without ((qg raw pre).table[i]).key.toNat<;>simp
 ·rw [if_neg (fun h=>h0 h.1),if_neg (fun h=>h0 h.1)]
end
section
open Go.RowKit
theorem CZ (c without:Int) (w:World) (p:Nat) (tv:Value) (j:JobB) (h0:-9223372036854775808≤c) (h1:c≤9223372036854775807) (hp:p < w.heap.size) (hb:Box7 p tv j w) :
  Calls Tryz.prog 29 #[.int .i64 c,.int .i64 without] w.drew fun e w'=>∃ ra rcap,e=.returned (.slice ra (jL c without).length rcap)∧LiesK w' ra (jL c without)∧Below w.heap.size w w'∧Box7 p tv j w':=by
 refine (Ex c without w.drew h0 h1).mono ?_
 rintro e w5 ⟨rv,rfl,hrv,hb5⟩
 have hb5':Below w.heap.size w w5:=ji hb5
 obtain ⟨ra,rcap,rfl,hrl⟩:=Ro hrv (JG c without).2.2.2.2
 exact ⟨ra,rcap,rfl,hrl,hb5',XD hb hp hb5'⟩
def Ud (told trust:Bool) (without:Int):Bool:=qn without 5 && !(told && trust)
theorem EV {told trust:Bool} {without:Int} (h:Ud told trust without=true):qn without 5=true∧(told=false∨(told=true∧trust=false)):=by
 unfold Ud at h
 cases h1:qn without 5<;>cases told<;>cases trust<;>rw [h1] at h<;>first|(exact absurd h (by decide))|simp
theorem Sv {told trust:Bool} {without:Int} (h:Ud told trust without=false):qn without 5=false∨(qn without 5=true∧told=true∧trust=true):=by
 unfold Ud at h
 cases h1:qn without 5<;>cases told<;>cases trust<;>rw [h1] at h<;>first|(exact absurd h (by decide))|simp
theorem LZ (without:Int):qn without 5=(bits .and .i64 without 32 != 0):=by
 unfold qn
 rw [show wrap64 (2 ^ 5)=32 by decide +kernel]
theorem Mo (raw:List Int) (pre:List UInt8) (c without:Int) (trust:Bool) (hr:∀ x ∈ raw,QT x) (ra:Option Addr) (rcap:Nat) (w:World) (hl:LiesK w ra (jL c without)) :
  Calls Tryz.prog 30 #[strB (xC (qg raw pre) (jL c 0)),strB (qg raw pre).pre,.slice ra (jL c without).length rcap,.bool trust] w fun e w'=>Below w.heap.size w w' ∧
   ((Ud (qg raw pre).plan.told trust without=true∧e=.returned (.tuple #[.slice none 0 0,.int .i64 8])) ∨
    (Ud (qg raw pre).plan.told trust without=false∧∃ la lc,e=.returned (.tuple #[.slice la (qg raw pre).table.length lc,.int .i64 0])∧LiesF w' la (xr (qg raw pre).pre (jL c without) (zm (qg raw pre) (jL c 0))) (qg raw pre).table.length)):=by
 have hf:=Me raw pre c hr
 have hp:=(QN raw pre c hr).pre
 have h5:=(JG c without).2.2.2.1
 have hk:=AT raw pre c without trust hr
 have hsh:=VE (xC (qg raw pre) (jL c 0)) (qg raw pre).pre (jL c without) trust
 refine (Rn _ _ ra rcap (jL c without) trust w (by unfold maxLen;omega) (by unfold maxLen;omega) (by unfold maxLen;omega) hl).mono ?_
 rintro e w' ⟨hb,⟨err,hs,hne,he⟩|⟨S,v,Vs,hs,he,hfa⟩⟩
 ·refine ⟨hb,.inl ?_⟩
  rw [hk] at hs
  split at hs
  ·rename_i hc
   simp only [Prod.mk.injEq,and_true] at hs
   refine ⟨?_,by rw [he,hs]⟩
   simp only [Ud,hc.1,Bool.true_and]
   have:=hc.2
   cases h1:(qg raw pre).plan.told<;>cases h2:trust<;>simp_all
  ·simp at hs
 ·refine ⟨hb,.inr ?_⟩
  obtain ⟨_,hs2⟩:=hsh S hs
  rw [hk] at hs
  split at hs
  ·simp at hs
  ·rename_i hc
   simp only [Prod.mk.injEq,Option.some.injEq,true_and] at hs
   subst hs
   have hlen:(zm (qg raw pre) (jL c 0)).cols.length=(qg raw pre).table.length:=by
    show (zk (qg raw pre).table).length=_
    simp [zk]
   refine ⟨?_,?_⟩
   ·cases h0:qn without 5<;>cases h1:(qg raw pre).plan.told<;>cases h2:trust<;>simp_all [Ud]
   ·obtain ⟨la,lc,hv,hlf⟩:=hfa.lies hs2
    rw [hlen] at hv hlf
    exact ⟨la,lc,by rw [he,hv],hlf⟩
theorem Dw (raw:List Int) (pre:List UInt8) (c without:Int) (hr:∀ x ∈ raw,QT x) :
  Xh (xr (qg raw pre).pre (jL c without) (zm (qg raw pre) (jL c 0))) (qg raw pre).table.length (qg raw pre).table=true:=by
 simp only [Xh,decide_true,Bool.true_and]
 rw [IV]
 intro k hk
 rw [NU raw pre c without hr hk,zg hk]
 split<;>exact ⟨rfl,rfl,rfl⟩
end
section
open Go.RowKit
theorem MF (a:Option Addr) (cap:Nat) (raw:List Int) (pre:List UInt8) (c without:Int) (trust:Bool) (w:World) (hl:LiesI w a raw) (hp:pre.length≤maxLen)
  (hc0:-9223372036854775808≤c) (hc1:c≤9223372036854775807) (hh0:-9223372036854775808≤without) (hh1:without≤9223372036854775807) :
  Calls Tryz.prog 8 #[.slice a raw.length cap,strB pre,.int .i64 c,.int .i64 without,.bool trust] w fun e w'=>e=.returned (.bool true)∧Below w.heap.size w w':=by
 have HJ0:=hid (PL a cap raw pre w hl hp)
 have HG:=hid (QN raw pre c hl.ok)
 have HRD:=hid (Mo raw pre c without trust hl.ok)
 have HHD:=hid (Dw raw pre c without hl.ok)
 have HFD:=hid (fun k hk=>NU raw pre c without hl.ok (i:=k) hk)
 obtain ⟨hr1,hr2,hr5,hrk⟩:=Yi c
 have hr5':(jL c 0).length≤maxLen:=by rw [hr5];decide
 have h20:=HG.out.table.few
 have hgd:=HG.out.table.head
 have HGD:=hid hgd
 clear hl hrk hr1 hr2 hr5 hgd
 generalize qg raw pre=J at *
 generalize hFF:xr J.pre (jL c without) (zm J (jL c 0))=FF at *
 clear hFF
 go_enter Tryz.func8,Tryz.ntmps8
 go_wp2_with fail
 refine HJ0.out.mono ?_
 rintro e w1 ⟨tv,P,rfl,hP,hR1,hb1⟩
 obtain ⟨ta,tc,rfl⟩:=Qt hR1.table
 have hPl:P.length=J.table.length:=VG hP
 rw [hPl] at hR1 ⊢
 clear hPl
 go_upto_region 2 with fail
 obtain ⟨hbb,hsb,_,hhb⟩:=qa w1 (jobC (.slice ta J.table.length tc) J) 26
 generalize w1.alloc (.cells #[.slice ta J.table.length tc,.int .i64 J.plan.group,.int .i64 J.plan.page,.int .i64 J.plan.foot,.bool J.plan.told,.string ⟨J.pre.toArray⟩,.int .i64 J.draw] 26)=w2 at *
 have HLJ:Hid (∀ w',Below w2.heap.size w2 w'→LiesJ w' ta tc J):=fun w' hb=>EQ ((hR1.later hbb).later hb) hP HG.out
 have hB2:=hb1.trans (hbb.mono hb1.size)
 have HB2:=hid hB2
 generalize hp1:w1.heap.size=p1 at *
 have hX:Box7 p1 (.slice ta J.table.length tc) J w2:=KP hhb
 have hlt:p1 < w2.heap.size:=(Array.getElem?_eq_some_iff.1 hhb).1
 have HRg1:=hid (Cm c w2 p1 _ J hc0 hc1 hlt hX)
 clear hb1 hbb hhb hR1 hp1 hP hB2 HJ0 hsb
 have HW1:Hid (∀ w' ra rcap,Below w2.heap.size w2 w'→LiesK w' ra (jL c 0)→Box7 p1 (.slice ta J.table.length tc) J w'→Calls Tryz.prog 28 #[jobV (.slice ta J.table.length tc) J,.slice ra (jL c 0).length rcap] w'
   fun e w3=>∃ lv,e=.returned (.tuple #[strB (xC J (jL c 0)),lv,.bool true])∧Below w2.heap.size w2 w3∧Box7 p1 (.slice ta J.table.length tc) J w3):=by
  intro w' ra rcap hb hk hx
  refine (Eo ta tc ra rcap (jL c 0) J w' (HLJ.out w' hb) hk hr5' HG.out).mono ?_
  rintro e w3 ⟨lv,he,_,hb2⟩
  exact ⟨lv,he,hb.trans (hb2.mono hb.size),XD hx (Nat.lt_of_lt_of_le hlt hb.size) hb2⟩
 go_wp2_with fail
 have hXd:Box7 p1 (.slice ta J.table.length tc) J w2.drew:=hX
 go_region_held3 (fun w'=>w'.cell? ⟨p1,0,none⟩=some (.slice ta J.table.length tc)∧w'.cell? ⟨p1,1,none⟩=some (.int .i64 J.plan.group)∧w'.cell? ⟨p1,2,none⟩=some (.int .i64 J.plan.page)∧w'.cell? ⟨p1,3,none⟩=some (.int .i64 J.plan.foot)∧w'.cell? ⟨p1,4,none⟩=some (.bool J.plan.told)∧w'.cell? ⟨p1,5,none⟩=some (strB J.pre)∧w'.cell? ⟨p1,6,none⟩=some (.int .i64 J.draw))
  (first|with_reducible exact Y6|with_reducible exact Y5|with_reducible exact hXd)
  (first
   | (go_at_call 29;refine HRg1.out.mono ?_;rintro e w5 ⟨ra,rcap,rfl,hk5,hb5,Y5⟩)
   | (go_at_call 28;refine (HW1.out _ _ _ hb5 hk5 Y5).mono ?_;rintro e w6 ⟨lv1,rfl,hb6,Y6⟩))
 rename_i hSS
 clear hSS
 have hlt6:p1 < w6.heap.size:=Nat.lt_of_lt_of_le hlt hb6.size
 have HRg2:=hid (CZ c without w6 p1 _ J hc0 hc1 hlt6 Y6)
 have HB6:=hid hb6
 have HX6:=hid Y6
 clear Y5 hX hXd hb5 hk5 HRg1 HW1 hr5'
 generalize hFB:xC J (jL c 0)=FB at *
 clear hFB
 have HR1:Hid (∀ w' ra rcap,Below w6.heap.size w6 w'→LiesK w' ra (jL c without)→Box7 p1 (.slice ta J.table.length tc) J w'→Calls Tryz.prog 30 #[strB FB,strB J.pre,.slice ra (jL c without).length rcap,.bool trust] w'
   fun e w3=>(Below w6.heap.size w6 w3∧Box7 p1 (.slice ta J.table.length tc) J w3)∧∃ la n lc er,e=.returned (.tuple #[.slice la n lc,.int .i64 er]) ∧
   ((Ud J.plan.told trust without=true∧n=0∧er=8)∨(Ud J.plan.told trust without=false∧n=J.table.length∧er=0∧LiesF w3 la FF J.table.length))):=by
  intro w' ra rcap hb hk hx
  refine (HRD.out ra rcap w' hk).mono ?_
  rintro e w3 ⟨hb2,⟨h1,he⟩|⟨h1,la,lc,he,hlf⟩⟩
  ·exact ⟨⟨hb.trans (hb2.mono hb.size),XD hx (Nat.lt_of_lt_of_le hlt6 hb.size) hb2⟩,none,0,0,8,he,.inl ⟨h1,rfl,rfl⟩⟩
  ·exact ⟨⟨hb.trans (hb2.mono hb.size),XD hx (Nat.lt_of_lt_of_le hlt6 hb.size) hb2⟩,la,_,lc,0,he,.inr ⟨h1,rfl,rfl,hlf⟩⟩
 clear hb6 Y6 HRD
 go_upto_region 5 with fail
 obtain ⟨x0,x1,x2,x3,x4,x5,x6⟩:=HX6.out
 have hXd:Box7 p1 (.slice ta J.table.length tc) J w6.drew:=HX6.out
 clear x0 x1 x2 x3 x4 x5 x6
 go_region_held3 (fun w'=>w'.cell? ⟨p1,0,none⟩=some (.slice ta J.table.length tc)∧w'.cell? ⟨p1,1,none⟩=some (.int .i64 J.plan.group)∧w'.cell? ⟨p1,2,none⟩=some (.int .i64 J.plan.page)∧w'.cell? ⟨p1,3,none⟩=some (.int .i64 J.plan.foot)∧w'.cell? ⟨p1,4,none⟩=some (.bool J.plan.told)∧w'.cell? ⟨p1,5,none⟩=some (strB J.pre)∧w'.cell? ⟨p1,6,none⟩=some (.int .i64 J.draw))
  (first|with_reducible exact Y8.2|with_reducible exact Y7|with_reducible exact hXd)
  (first
   | (go_at_call 29;refine HRg2.out.mono ?_;rintro e w7 ⟨ra2,rcap2,rfl,hk7,hb7,Y7⟩)
   | (go_at_call 30;refine (HR1.out _ _ _ hb7 hk7 Y7).mono ?_;rintro e w8 ⟨Y8,la,n,lc,er,rfl,hcase⟩))
 rename_i hSS
 clear hSS
 obtain ⟨hb8,Y9⟩:=Y8
 have HX8:=hid Y9
 have HB8:=hid (HB6.out.trans (hb8.mono HB6.out.size))
 have HBF:Hid (∀ w',Below w8.heap.size w8 w'→Below w.heap.size w w'):=fun w' hb=>by
  have h1:=HB2.out.trans (HB8.out.mono HB2.out.size)
  exact h1.trans (hb.mono h1.size)
 have HLJ8:Hid (∀ w',Below w8.heap.size w8 w'→LiesJ w' ta tc J):=fun w' hb=>HLJ.out w' (HB8.out.trans (hb.mono HB8.out.size))
 have hlt8:p1 < w8.heap.size:=Nat.lt_of_lt_of_le hlt HB8.out.size
 clear Y7 hXd hb7 hk7 HRg2 HR1 hb8 HLJ HX6 HB6 hlt hlt6 Y9
 have ho5:=LZ without
 obtain ⟨x0,x1,x2,x3,x4,x5,x6⟩:=HX8.out
 rcases hcase with ⟨hsh,rfl,rfl⟩|⟨hsh,rfl,rfl,hlf⟩
 ·have h1:(bits .and .i64 without 32 != 0)=true:=by rw [← ho5];exact (EV hsh).1
  have HBX:=hid (HBF.out w8 (Below.refl _ _))
  have h2:=(EV hsh).2
  clear hsh ho5
  rcases h2 with h2|⟨h2,rfl⟩
  ·rw [h2] at x4
   clear x0 x1 x2 x3 x5 x6
   go_wp2
   go_ret
   exact ⟨rfl,HBX.out⟩
  ·rw [h2] at x4
   clear x0 x1 x2 x3 x5 x6
   go_wp2
   go_ret
   exact ⟨rfl,HBX.out⟩
 ·have HLF:=hid hlf
  have h1:(bits .and .i64 without 32 != 0)=false∨((bits .and .i64 without 32 != 0)=true∧J.plan.told=true∧trust=true):=by
   rw [← ho5]
   exact Sv hsh
  clear hsh ho5 hlf
  clear x0 x1 x2 x3 x5 x6
  go_upto_region 6 with fail
  go_cut [56] (fun t wd=>t=.bool false∧wd=w8)
  case first =>
   rcases h1 with h1|⟨h1,h2,h3⟩
   ·go_wp2_with fail
    go_meet
    case rel=>exact ⟨rfl,rfl⟩
   ·rw [h2] at x4
    subst h3
    go_wp2_with fail
    go_meet
    case rel=>exact ⟨rfl,rfl⟩
  case rest =>
   obtain ⟨rfl,rfl⟩:=hcut
   clear h1 x4
   obtain ⟨x0,x1,x2,x3,x4,x5,x6⟩:=HX8.out
   clear x1 x2 x3 x4 x5 x6
   have hjl:=(HLJ8.out _ (Below.refl _ _)).len
   go_wp2_with fail
   refine (AU la ta lc tc FF J.table.length J.table _ (by omega) hjl HLF.out (HLJ8.out _ (Below.refl _ _)).table).mono ?_
   rw [HHD.out]
   rintro e w9 ⟨rfl,hb9⟩
   have HB9:=hid hb9
   clear hb9 x0
   go_wp2_with fail
   go_loopw [18] (fun i wr=>∃ k:Nat,k≤J.table.length∧i=.int .i64 (k:Int)∧Below wc.heap.size wc wr) (fun i _=>J.table.length - (intOf i).toNat)
   case atStart=>exact ⟨0,Nat.zero_le _,rfl,HB9.out⟩
   case round =>
    obtain ⟨k,hk,rfl,hB⟩:=hrel
    by_cases hlt:k < J.table.length
    ·have hki:(k:Int) < (J.table.length:Int):=by omega
     obtain ⟨b,rfl,hbw,hcell⟩:=(HLF.out.later hB).at_ (by omega)
     obtain ⟨ca,cc,g1,g2,g3,g4,g5,g6,g7⟩:=hcell k hlt
     obtain ⟨b',off,rfl,hbw',hcell'⟩:=(HLJ8.out _ hB).table.at_ (List.ne_nil_of_length_pos (by omega))
     obtain ⟨k1,k2,k3,v,k4,ca',cc',rfl,hcc,hlc,hcm⟩:=hcell' k hlt
     have hfk:=HFD.out k hlt
     obtain ⟨_,_,hky0,hky9⟩:=HGD.out k hlt
     have HC:Hid ((0 < (J.table[k]).key∧qn without (J.table[k]).key.toNat=true∧(FF k).state=1∧(FF k).cells.length=0)∨(¬ (0 < (J.table[k]).key∧qn without (J.table[k]).key.toNat=true)∧(FF k).state=0∧GV (FF k).cells (J.table[k]).cells=true)):=by
      show _∨_
      by_cases hA:0 < (J.table[k]).key∧qn without (J.table[k]).key.toNat=true
      ·rw [if_pos hA] at hfk;rw [hfk];exact .inl ⟨hA.1,hA.2,rfl,rfl⟩
      ·rw [if_neg hA] at hfk;rw [hfk];exact .inr ⟨hA,rfl,deqC_iff.2 rfl⟩
     clear hfk
     have HSC:=hid (fun w' (hb:Below wr.heap.size wr w')=>MU ca ca' cc cc' (FF k).cells (J.table[k]).cells w' (by unfold maxLen;omega) (by unfold maxLen;omega) (g6.later hb) (hlc.later hb))
     have y0:=(hB.cell (p:=⟨p1,0,none⟩) hlt8).trans HX8.out.1
     have HB:=hid hB
     clear hcell hcell' g1 g2 g3 g6 g7 hlc hcm hcc hB
     generalize GV (FF k).cells (J.table[k]).cells=D at *
     generalize (FF k).cells.length=m at *
     generalize (FF k).state=st at *
     generalize (J.table[k]).cells.length=m' at *
     generalize (J.table[k]).key=ky at *
     generalize (J.table[k]).kind=kd at *
     generalize (J.table[k]).name=nm at *
     go_upto_region 15 with fail
     clear y0 k1 k2 k3 k4
     obtain ⟨hbb,hsb,_,hhb⟩:=qa wr #[strB nm,.int .i64 kd,.int .i64 ky,.slice ca' m' cc'] 61
     generalize wr.alloc (.cells #[.string ⟨nm.toArray⟩,.int .i64 kd,.int .i64 ky,.slice ca' m' cc'] 61)=w10 at *
     have z2:w10.cell? ⟨wr.heap.size,2,none⟩=some (.int .i64 ky):=by rw [ja hhb];rfl
     have z3:w10.cell? ⟨wr.heap.size,3,none⟩=some (.slice ca' m' cc'):=by rw [ja hhb];rfl
     have f3:=(hbb.cell (p:=⟨b,k*5+3,none⟩) hbw).trans g4
     have f4:=(hbb.cell (p:=⟨b,k*5+4,none⟩) hbw).trans g5
     have HB10:=hid (HB.out.trans (hbb.mono HB.out.size))
     have hltx:wr.heap.size < w10.heap.size:=(Array.getElem?_eq_some_iff.1 hhb).1
     have hltb:b < w10.heap.size:=Nat.lt_of_lt_of_le hbw hbb.size
     have HSC2:Hid (∀ w',Below w10.heap.size w10 w'→Calls Tryz.prog 25 #[.slice ca m cc,.slice ca' m' cc'] w' fun e w2=>e=.returned (.bool D)∧Below w'.heap.size w' w2):=fun w' hb=>HSC.out w' (hbb.trans (hb.mono hbb.size))
     clear g4 g5 HSC hhb hbb hsb
     generalize hpx:wr.heap.size=px at *
     clear hpx
     have hd3:w10.drew.cell? ⟨px,3,none⟩=some (.slice ca' m' cc')∧w10.drew.cell? ⟨b,k*5+4,none⟩=some (.slice ca m cc):=⟨z3,f4⟩
     go_region_held3 (fun w'=>w'.cell? ⟨px,3,none⟩=some (.slice ca' m' cc')∧w'.cell? ⟨b,k*5+4,none⟩=some (.slice ca m cc))
      (first|with_reducible exact Y11|with_reducible exact hd3)
      (first|(go_at_call 25;refine (HSC2.out _ (JH (Below.refl _ _))).mono ?_;rintro e w11 ⟨rfl,hb11⟩;have Y11:w11.cell? ⟨px,3,none⟩=some (.slice ca' m' cc')∧w11.cell? ⟨b,k*5+4,none⟩=some (.slice ca m cc):=⟨(hb11.cell (p:=⟨px,3,none⟩) hltx).trans z3,(hb11.cell (p:=⟨b,k*5+4,none⟩) hltb).trans f4⟩))
     rename_i hSS
     clear hSS hd3
     have hb11':=ji hb11
     have HB11:=hid (HB10.out.trans (hb11'.mono HB10.out.size))
     have v2:=(hb11'.cell (p:=⟨px,2,none⟩) hltx).trans z2
     have v3:=(hb11'.cell (p:=⟨b,k*5+3,none⟩) hltb).trans f3
     have v4:=Y11.2
     clear Y11 z2 z3 f3 f4 hb11 hb11' HSC2
     rcases HC.out with ⟨hA,hbit,rfl,rfl⟩|⟨hA,rfl,rfl⟩
     ·have hbt:(bits .and .i64 without (wrap64 (2 ^ ky.toNat)) != 0)=true:=hbit
      clear hbit HC
      go_wp2_with fail
      go_roundw
      case rel=>exact ⟨k+1,by omega,by go_num,HB11.out⟩
      case measure=>simp [intOf];omega
     ·clear HC
      by_cases h0:0 < ky
      ·have hbt:(bits .and .i64 without (wrap64 (2 ^ ky.toNat)) != 0)=false:=by
        cases hq:(bits .and .i64 without (wrap64 (2 ^ ky.toNat)) != 0) with
        | false=>rfl
        | true=>exact absurd ⟨h0,hq⟩ hA
       clear hA
       go_wp2_with fail
       go_roundw
       case rel=>exact ⟨k+1,by omega,by go_num,HB11.out⟩
       case measure=>simp [intOf];omega
      ·clear hA
       go_wp2_with fail
       go_roundw
       case rel=>exact ⟨k+1,by omega,by go_num,HB11.out⟩
       case measure=>simp [intOf];omega
    ·have hke:k=J.table.length:=by omega
     subst hke
     have HBX:=hid (HBF.out _ hB)
     go_wp2
     go_ret
     exact ⟨rfl,HBX.out⟩
end
end Go.Proofs.YthhpbhpfagoapaaGreat
