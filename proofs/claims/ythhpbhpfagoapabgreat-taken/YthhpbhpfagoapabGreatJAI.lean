import Derived.Test.YthhpbhpfagoapabGreatHLaw
import Derived.Test.YthhpbhpfagoapabGreatJAB
import Derived.Test.YthhpbhpfagoapabGreatHEnd
import Derived.Test.YthhpbhpfagoapabGreatJAJ
namespace Go.Proofs.YthhpbhpfagoapabGreat
set_option linter.unusedVariables false
set_option linter.unusedSimpArgs false
set_option maxRecDepth 100000
set_option maxHeartbeats 16000000
open Go.RowKit
section
abbrev ReadC (file pre:List UInt8) (r:List KeyB) (F:Nat→FoundB) (n:Nat) (er:Int):Prop :=
 (er≠0∧xg file pre r false=(er,none))∨(er=0∧∃ S,xg file pre r false=(0,some S)∧n=S.cols.length∧F=qi pre r S)
theorem Eb (file pre:List UInt8) (ra:Option Addr) (rcap:Nat) (r:List KeyB) (w:World) (hfl:file.length≤maxLen) (hpl:pre.length≤maxLen) (hrm:r.length≤maxLen) (hl:LiesK w ra r) :
  Calls Tryz.prog 16 #[strB file,strB pre,.slice ra r.length rcap,.bool false] w fun e w'=>Below w.heap.size w w'∧∃ la n lc er F,e=.returned (.tuple #[.slice la n lc,.int .i64 er])∧n≤1000∧LiesF w' la F n∧ReadC file pre r F n er:=by
 refine (Tq file pre ra rcap r false w hfl hpl hrm hl).mono ?_
 rintro e w' ⟨hb,⟨err,hs,hne,he⟩|⟨S,v,Vs,hs,he,hfa⟩⟩
 ·exact ⟨hb,none,0,0,err,fun _=>⟨[],0,0,0,[]⟩,he,by decide,⟨fun h=>by omega⟩,.inl ⟨hne,hs⟩⟩
 ·obtain ⟨h1,h2⟩:=GR file pre r false S hs
  obtain ⟨la,lc,rfl,hlf⟩:=hfa.lies h2
  exact ⟨hb,la,_,lc,0,_,he,h1,hlf,.inr ⟨rfl,S,hs,rfl,rfl⟩⟩
theorem ET {js:List JobB} {r:List KeyB} {file pre:List UInt8} {e:Ending} (h:ForgedX js r file pre e):∃ x fe,e=.returned (.tuple #[sealV x,.int .i64 fe]):=by
 rcases h with ⟨_,he⟩|⟨_,⟨_,he⟩|⟨S,f,_,_,⟨_,he⟩|⟨_,he⟩⟩⟩
 ·exact ⟨_,_,he⟩
 ·exact ⟨_,_,he⟩
 ·exact ⟨_,_,he⟩
 ·cases hs:zp (Zr pre r f S) (xf js r) with
  | none=>rw [hs] at he;exact ⟨_,_,he⟩
  | some x=>rw [hs] at he;exact ⟨_,_,he⟩
theorem GZ (ja:Option Addr) (jc:Nat) (js:List JobB) (ra:Option Addr) (rcap:Nat) (r:List KeyB) (file pre:List UInt8) (w:World) (hjm:js.length≤maxLen) (hjc:js.length≤jc) (hj:LiesJs w ja js) (hr:LiesK w ra r) (hrm:r.length≤maxLen) (hfl:file.length≤maxLen) (hpl:pre.length≤maxLen) :
  Calls Tryz.prog 17 #[.slice ja js.length jc,.slice ra r.length rcap,strB file,strB pre] w fun e w'=>(∃ x fe,e=.returned (.tuple #[sealV x,.int .i64 fe])∧ForgedX js r file pre (.returned (.tuple #[sealV x,.int .i64 fe])))∧Below w.heap.size w w':=by
 refine (Cf ja jc js ra rcap r file pre w hjm hjc hj hr hrm hfl hpl).mono ?_
 rintro e w' ⟨hx,hb⟩
 obtain ⟨x,fe,rfl⟩:=ET hx
 exact ⟨⟨x,fe,rfl,hx⟩,hb⟩
theorem SH {w:World} {J1 J2:JobB} {ta1 ta2:Option Addr} {tc1 tc2 b:Nat} (hb:b < w.heap.size) (hc:∀ j,w.cell? ⟨b,j,none⟩=(#[.slice ta1 J1.table.length tc1,.int .i64 J1.plan.group,.int .i64 J1.plan.page,.int .i64 J1.plan.foot,.bool J1.plan.told,strB J1.pre,.int .i64 J1.draw,.slice ta2 J2.table.length tc2,.int .i64 J2.plan.group,.int .i64 J2.plan.page,.int .i64 J2.plan.foot,.bool J2.plan.told,strB J2.pre,.int .i64 J2.draw]:Array Value)[j]?) (h1:LiesJ w ta1 tc1 J1) (h2:LiesJ w ta2 tc2 J2):LiesJs w (some ⟨b,0,none⟩) [J1,J2]:=by
 refine ⟨fun _=>⟨b,0,rfl,hb,fun k hk=>?_⟩⟩
 match k,hk with
 | 0,_=>exact ⟨ta1,tc1,hc 0,hc 1,hc 2,hc 3,hc 4,hc 5,hc 6,h1⟩
 | 1,_=>exact ⟨ta2,tc2,hc 7,hc 8,hc 9,hc 10,hc 11,hc 12,hc 13,h2⟩
theorem Sz {w:World} {J1:JobB} {ta1:Option Addr} {tc1 b:Nat} (hb:b < w.heap.size) (hc:∀ j,w.cell? ⟨b,j,none⟩=(#[.slice ta1 J1.table.length tc1,.int .i64 J1.plan.group,.int .i64 J1.plan.page,.int .i64 J1.plan.foot,.bool J1.plan.told,strB J1.pre,.int .i64 J1.draw]:Array Value)[j]?) (h1:LiesJ w ta1 tc1 J1):LiesJs w (some ⟨b,0,none⟩) [J1]:=by
 refine ⟨fun _=>⟨b,0,rfl,hb,fun k hk=>?_⟩⟩
 match k,hk with
 | 0,_=>exact ⟨ta1,tc1,hc 0,hc 1,hc 2,hc 3,hc 4,hc 5,hc 6,h1⟩
theorem Pk {J1 J2:JobB} (h:J1.pre≠J2.pre):QV [J1,J2]:=by
 intro k hk j hj
 match k,hk with
 | 0,_=>simp at hj
 | 1,_ =>
  simp at hj
  subst hj
  exact h
theorem YF {J1:JobB}:QV [J1]:=by
 intro k hk j hj
 match k,hk with
 | 0,_=>simp at hj
theorem DS (a1:Option Addr) (cap1:Nat) (raw1:List Int) (a2:Option Addr) (cap2:Nat) (raw2:List Int) (c:Int) (file:List UInt8) (a4:Option Addr) (cap4:Nat) (how:List Int) (second:Bool) (w:World) (hl1:LiesI w a1 raw1) (hl2:LiesI w a2 raw2) (hl4:LiesI w a4 how) (hf:file.length≤maxLen)
  (hc0:-9223372036854775808≤c) (hc1:c≤9223372036854775807) :
  Calls Tryz.prog 4 #[.slice a1 raw1.length cap1,.slice a2 raw2.length cap2,.int .i64 c,strB file,.slice a4 how.length cap4,.bool second] w fun e w'=>e=.returned (.bool true)∧Below w.heap.size w w':=by
 obtain ⟨i0,hi,hz0,hz1,hz2⟩:=info_parts Tryz.infoSealed
 have HJ1:Hid (∀ w',Below w.heap.size w w'→Calls Tryz.prog 6 #[.slice a1 raw1.length cap1,.string ⟨#[111,110,101]⟩] w' fun e w'=>_):=fun w' hb=>NF a1 cap1 raw1 [111,110,101] w' (hl1.later hb) (by decide)
 have HJ2:Hid (∀ w',Below w.heap.size w w'→Calls Tryz.prog 6 #[.slice a2 raw2.length cap2,.string ⟨#[116,119,111]⟩] w' fun e w'=>_):=fun w' hb=>NF a2 cap2 raw2 [116,119,111] w' (hl2.later hb) (by decide)
 have HG1:=hid (JM raw1 [111,110,101] c hl1.ok)
 have HG2:=hid (JM raw2 [116,119,111] c hl2.ok)
 have HQ1:Hid ((qo raw1 [111,110,101]).pre=[111,110,101]):=rfl
 have HQ2:Hid ((qo raw2 [116,119,111]).pre=[116,119,111]):=rfl
 have hf1:=Vt raw1 [111,110,101] c hl1.ok
 have hf2:=Vt raw2 [116,119,111] c hl2.ok
 have HL4:=hid hl4
 have hrk:=(VQ c).2.2.2
 have hrm:(jV c 0).length≤maxLen:=by rw [(VQ c).2.2.1];decide
 have h4:=hl4.few
 clear hl1 hl2 hl4
 generalize qo raw1 [111,110,101]=J1 at *
 generalize qo raw2 [116,119,111]=J2 at *
 go_enter Tryz.func4,Tryz.ntmps4
 go_wp2_with fail
 refine (AD c 0 w hc0 hc1).mono ?_
 rintro e w0 ⟨rv,rfl,hrv,hb0⟩
 obtain ⟨ra,rcap,rfl,hrl⟩:=YO hrv hrk
 have HR:=hid hrl
 have HB0:=hid hb0
 clear hrv hrl hrk hb0
 go_wp2_with fail
 refine (HJ1.out w0 HB0.out).mono ?_
 clear HJ1
 rintro e w1 ⟨tv1,P1,rfl,hP1,hR1,hb1⟩
 obtain ⟨ta1,tc1,rfl⟩:=Jf hR1.table
 rw [Xv hP1] at hR1 ⊢
 go_upto_region 3 with fail
 obtain ⟨hbb1,hsb1,_,hhb1⟩:=jK w1 (jobC (.slice ta1 J1.table.length tc1) J1) 27
 generalize w1.alloc (.cells #[.slice ta1 J1.table.length tc1,.int .i64 J1.plan.group,.int .i64 J1.plan.page,.int .i64 J1.plan.foot,.bool J1.plan.told,.string ⟨J1.pre.toArray⟩,.int .i64 J1.draw] 27)=w2 at *
 have HLJ1:Hid (∀ w',Below w2.heap.size w2 w'→LiesJ w' ta1 tc1 J1):=fun w' hb=>ZN ((hR1.later hbb1).later hb) hP1 HG1.out
 have HX1:Hid (Box7 w1.heap.size (.slice ta1 J1.table.length tc1) J1 w2):=XP hhb1
 have hlt1:w1.heap.size < w2.heap.size:=(Array.getElem?_eq_some_iff.1 hhb1).1
 have HB2:=hid (HB0.out.trans ((hb1.trans (hbb1.mono hb1.size)).mono HB0.out.size))
 have HR2:=hid (HR.out.later (hb1.trans (hbb1.mono hb1.size)))
 generalize w1.heap.size=p1 at *
 clear hb1 hbb1 hhb1 hR1 hP1 hsb1 HB0 HR
 go_wp2_with fail
 refine (HJ2.out w2 HB2.out).mono ?_
 clear HJ2
 rintro e w3 ⟨tv2,P2,rfl,hP2,hR2,hb3⟩
 obtain ⟨ta2,tc2,rfl⟩:=Jf hR2.table
 rw [Xv hP2] at hR2 ⊢
 go_upto_region 4 with fail
 obtain ⟨hbb3,hsb3,_,hhb3⟩:=jK w3 (jobC (.slice ta2 J2.table.length tc2) J2) 27
 generalize w3.alloc (.cells #[.slice ta2 J2.table.length tc2,.int .i64 J2.plan.group,.int .i64 J2.plan.page,.int .i64 J2.plan.foot,.bool J2.plan.told,.string ⟨J2.pre.toArray⟩,.int .i64 J2.draw] 27)=w4 at *
 have hb24:=hb3.trans (hbb3.mono hb3.size)
 have HLJ:Hid (∀ w',Below w4.heap.size w4 w'→LiesJ w' ta1 tc1 J1∧LiesJ w' ta2 tc2 J2):=fun w' hb=>⟨HLJ1.out w' (hb24.trans (hb.mono hb24.size)),ZN ((hR2.later hbb3).later hb) hP2 HG2.out⟩
 have HX:Hid (∀ w',Below w4.heap.size w4 w'→Box7 p1 (.slice ta1 J1.table.length tc1) J1 w'∧Box7 w3.heap.size (.slice ta2 J2.table.length tc2) J2 w'):=fun w' hb=>⟨Ky HX1.out hlt1 (hb24.trans (hb.mono hb24.size)),Ky (XP hhb3) (Array.getElem?_eq_some_iff.1 hhb3).1 hb⟩
 have HB4:=hid (HB2.out.trans (hb24.mono HB2.out.size))
 have HR4:Hid (∀ w',Below w4.heap.size w4 w'→LiesK w' ra (jV c 0)):=fun w' hb=>HR2.out.later (hb24.trans (hb.mono hb24.size))
 generalize w3.heap.size=p2 at *
 clear hb3 hbb3 hhb3 hR2 hP2 hsb3 HB2 HR2 HLJ1 HX1 hb24 hlt1
 have HW1:=hid (fun w' (hb:Below w4.heap.size w4 w')=>ZO ta1 tc1 ra rcap (jV c 0) J1 w' (HLJ.out w' hb).1 (HR4.out w' hb) hrm HG1.out)
 have HW2:=hid (fun w' (hb:Below w4.heap.size w4 w')=>ZO ta2 tc2 ra rcap (jV c 0) J2 w' (HLJ.out w' hb).2 (HR4.out w' hb) hrm HG2.out)
 have hn1:=HG1.out.logLen
 have hn2:=HG2.out.logLen
 have hm2:=Dk J2 (jV c 0)
 have HLG:Hid (xf [J1,J2] (jV c 0)=Jg J1 (jV c 0)++Jg J2 (jV c 0)):=by simp [Hid,xf]
 generalize jV c 0=r at *
 obtain ⟨⟨x0,x1,x2,x3,x4,x5,x6⟩,_⟩:=HX.out w4 (Below.refl _ _)
 go_wp2_with fail
 refine (HW1.out w4 (Below.refl _ _)).mono ?_
 clear x0 x1 x2 x3 x4 x5 x6 HW1
 rintro e w5 ⟨lv1,rfl,hlog1,hb5⟩
 obtain ⟨_,⟨x0,x1,x2,x3,x4,x5,x6⟩⟩:=HX.out w5 hb5
 have HB5:=hid hb5
 have HO5:=hid hlog1
 clear hb5 hlog1
 go_wp2_with fail
 refine (HW2.out w5 HB5.out).mono ?_
 clear x0 x1 x2 x3 x4 x5 x6 HW2
 rintro e w6 ⟨lv2,rfl,hlog2,hb6⟩
 have HB6:=hid (HB5.out.trans (hb6.mono HB5.out.size))
 have HO6:=hid (jN HO5.out hb6)
 obtain ⟨g,lcap,rfl⟩:∃ g lcap,lv2=.slice (some ⟨g,0,none⟩) (Jg J2 r).length lcap:=by
  rcases hlog2.2 with ⟨_,h0⟩|⟨g,lcap,cur,h,_⟩
  ·omega
  ·exact ⟨g,lcap,h⟩
 have HLog:=hid hlog2
 have hs6:=HB6.out.size
 have HSL:=hid (Xj (Jg J2 r))
 have HS1:=hid (Vr (l:=Jg J2 r))
 clear hb6 hlog2 HO5 HB5
 generalize Jg J1 r=Lk at *
 generalize Jg J2 r=Lj at *
 generalize hFA:zr J1 r=FA at *
 generalize hFB:zr J2 r=FB at *
 clear hFA hFB
 go_wp2_with (at_builtin;refine wpList_append_own _ rfl (.tmp 55) (.tmp 56) 37 rfl w4.heap.size 54 i0 _ 4 64 Tryz.underlying37 hi hz0 hz1 hz2 rfl (by decide) _ _ _ rfl HO6.out ⟨g,0,none⟩ Lj.length lcap (qI Lj) rfl HSL.out (VL HLog.out) HS1.out (by unfold maxLen;omega) (by omega) hs6 ?_)
 intro v2 w7 hown2 hgr2 _
 have HB7:=hid (HB6.out.grown hgr2 hs6 (fun k hk=>(HO6.out.lt k hk).1))
 obtain ⟨ga,gc,rfl,hLS⟩:∃ ga gc,v2=.slice ga (xf [J1,J2] r).length gc∧LiesS w7 ga (xf [J1,J2] r):=Kp (n:=Lk.length+Lj.length) (by rw [HLG.out,KJ];exact hown2)
 have hll:(xf [J1,J2] r).length≤200000:=by rw [HLG.out,List.length_append];omega
 have HLS:=hid hLS
 clear hown2 hgr2 hLS HO6 HLog HB6 hs6 HSL HS1 HLG hi hz0 hz1 hz2
 go_upto_if 60 with fail
 go_cut [3] (fun fv wd=>∃ fl:List UInt8,fv=strB fl∧fl.length≤maxLen∧Below w7.heap.size w7 wd)
 case first =>
  by_cases hh:how.length=0
  ·have hhi:¬ ((0:Int) < (how.length:Int)):=by omega
   clear hh
   go_wp2
   go_meet
   case rel=>exact ⟨file,rfl,hf,Below.refl _ _⟩
  ·have hhi:(0:Int) < (how.length:Int):=by omega
   have HSP:=hid (DD FA FB file a4 cap4 how w7 (by omega) (by omega) hf (HL4.out.later (HB4.out.trans (HB7.out.mono HB4.out.size))))
   go_wp2_with fail
   refine HSP.out.mono ?_
   rintro e w8 ⟨⟨s,rfl,hs⟩,hb8⟩
   have HB8:=hid hb8
   clear hb8 HSP
   go_wp2
   go_meet
   case rel=>exact ⟨s,rfl,by unfold maxLen;omega,HB8.out⟩
 case rest =>
  clear hf hf1 hf2 h4 HL4
  obtain ⟨fl,rfl,hf,hb8⟩:=hcut
  have HB8:=hid (HB7.out.trans (hb8.mono HB7.out.size))
  have HLS8:=hid (HLS.out.later hb8)
  clear hb8 HB7 HLS
  obtain ⟨J,hJt,hJf⟩:∃ J,(second=true→J=J2)∧(second=false→J=J1):=by
   cases second
   ·exact ⟨J1,fun h=>(by cases h),fun _=>rfl⟩
   ·exact ⟨J2,fun _=>rfl,fun h=>(by cases h)⟩
  have HJt:=hid hJt
  have HJf:=hid hJf
  have hp3:J.pre.length=3:=by
   cases second
   ·rw [hJf rfl,HQ1.out];rfl
   ·rw [hJt rfl,HQ2.out];rfl
  clear hJt hJf
  go_upto_if 66 with fail
  go_cut [22] (fun pv wd=>pv=strB J.pre∧wd=wc)
  case first =>
   cases second
   ·have HE:=hid (HJf.out rfl)
    clear HJt HJf
    go_wp2
    go_meet
    case rel=>exact ⟨by rw [HE.out,HQ1.out],rfl⟩
   ·have HE:=hid (HJt.out rfl)
    clear HJt HJf
    go_wp2
    go_meet
    case rel=>exact ⟨by rw [HE.out,HQ2.out],rfl⟩
  case rest =>
   obtain ⟨rfl,rfl⟩:=hcut
   have HRD:=hid (Eb fl J.pre ra rcap r wc hf (by unfold maxLen;omega) hrm (HR4.out _ HB8.out))
   have HFG:=hid (fun ja jc js w' (hb:Below wc.heap.size wc w') (hm:js.length≤8) (hc:js.length≤jc) (hj:LiesJs w' ja js)=>GZ ja jc js ra rcap r fl J.pre w' (by unfold maxLen;omega) hc hj (HR4.out _ (HB8.out.trans (hb.mono HB8.out.size))) hrm hf (by unfold maxLen;omega))
   go_wp2_with fail
   refine HRD.out.mono ?_
   clear HRD
   rintro e w9 ⟨hb9,la,n,lc,er,F,rfl,hn,hlf,hcase⟩
   have HC:=hid hcase
   have HLF:=hid hlf
   have hb49:=HB8.out.trans (hb9.mono HB8.out.size)
   obtain ⟨⟨x0,x1,x2,x3,x4,x5,x6⟩,⟨y0,y1,y2,y3,y4,y5,y6⟩⟩:=HX.out w9 hb49
   have HB9:=hid hb9
   have HB49:=hid hb49
   clear hcase hlf hb9 hb49
   go_wp2_with fail
   clear x0 x1 x2 x3 x4 x5 x6 y0 y1 y2 y3 y4 y5 y6
   obtain ⟨hbA,hsA,hcA,_⟩:=jK w9 #[.slice ta1 J1.table.length tc1,.int .i64 J1.plan.group,.int .i64 J1.plan.page,.int .i64 J1.plan.foot,.bool J1.plan.told,strB J1.pre,.int .i64 J1.draw,.slice ta2 J2.table.length tc2,.int .i64 J2.plan.group,.int .i64 J2.plan.page,.int .i64 J2.plan.foot,.bool J2.plan.told,strB J2.pre,.int .i64 J2.draw] 27
   generalize w9.alloc _=w10 at *
   have HB4A:=hid (HB49.out.trans (hbA.mono HB49.out.size))
   have HLJs:=hid (SH hsA hcA (HLJ.out w10 HB4A.out).1 (HLJ.out w10 HB4A.out).2)
   have HBA:=hid (HB9.out.trans (hbA.mono HB9.out.size))
   have HLFA:=hid (HLF.out.later hbA)
   generalize w9.heap.size=p9 at *
   clear hbA hsA hcA HLF HB9 HB49
   refine (HFG.out _ 2 [J1,J2] w10 HBA.out (by simp) (by simp) HLJs.out).mono ?_
   clear HFG HLJs
   rintro e w11 ⟨⟨x,fe,rfl,hfx⟩,hb11⟩
   have HFX:=hid hfx
   have HB411:=hid (HB4A.out.trans (hb11.mono HB4A.out.size))
   have HB811:=hid (HBA.out.trans (hb11.mono HBA.out.size))
   have HLF11:=hid (HLFA.out.later hb11)
   clear hfx hb11 HB4A HBA HLFA
   obtain ⟨s1,s2,s3,s4⟩:=x
   go_upto_region 16 with fail
   obtain ⟨hbB,hsB,_,hhB⟩:=jK w11 #[strB s1,strB s2,strB s3,strB s4] 54
   generalize w11.alloc (.cells #[.string ⟨s1.toArray⟩,.string ⟨s2.toArray⟩,.string ⟨s3.toArray⟩,.string ⟨s4.toArray⟩] 54)=w12 at *
   have HB412:=hid (HB411.out.trans (hbB.mono HB411.out.size))
   have HB812:=hid (HB811.out.trans (hbB.mono HB811.out.size))
   have HLF12:=hid (HLF11.out.later hbB)
   have HH12:=hid hhB
   generalize w11.heap.size=pb at *
   clear hbB hsB hhB HLF11 HB411 HB811
   obtain ⟨⟨x0,x1,x2,x3,x4,x5,x6⟩,_⟩:=HX.out w12 HB412.out
   have HD1:=hid (ZG la lc F n ta1 tc1 J1 w12 hn HLF12.out (HLJ.out w12 HB412.out).1)
   go_wp2_with fail
   refine HD1.out.mono ?_
   clear x0 x1 x2 x3 x4 x5 x6 HD1
   rintro e w13 ⟨rfl,hb13⟩
   have HB413:=hid (HB412.out.trans (hb13.mono HB412.out.size))
   have HB813:=hid (HB812.out.trans (hb13.mono HB812.out.size))
   have HLF13:=hid (HLF12.out.later hb13)
   have HH13:=hid (jd hb13 HH12.out)
   clear hb13 HLF12 HB412 HB812 HH12
   have HJm:Hid (J ∈ [J1,J2]):=by
    show J ∈ [J1,J2]
    cases second
    ·rw [HJf.out rfl];simp
    ·rw [HJt.out rfl];simp
   have HD2:=hid (ZG la lc F n ta2 tc2 J2 w13 hn HLF13.out (HLJ.out w13 HB413.out).2)
   obtain ⟨_,⟨x0,x1,x2,x3,x4,x5,x6⟩⟩:=HX.out w13 HB413.out
   go_upto_if 87 with fail
   go_cut [27] (fun dv wd=>dv=.bool (xW F n J.table)∧Below w13.heap.size w13 wd)
   case first =>
    cases second
    ·have HE:=hid (HJf.out rfl)
     clear HJt HJf x0 x1 x2 x3 x4 x5 x6 HD2
     go_wp2
     go_meet
     case rel=>exact ⟨by rw [HE.out],Below.refl _ _⟩
    ·have HE:=hid (HJt.out rfl)
     clear HJt HJf
     go_wp2_with fail
     refine HD2.out.mono ?_
     clear x0 x1 x2 x3 x4 x5 x6 HD2
     rintro e w14 ⟨rfl,hb14⟩
     have HB14:=hid hb14
     clear hb14
     go_wp2
     go_meet
     case rel=>exact ⟨by rw [HE.out],HB14.out⟩
   case rest =>
    clear x0 x1 x2 x3 x4 x5 x6 HD2 HJt HJf
    obtain ⟨rfl,hb14⟩:=hcut
    have HB814:=hid (HB813.out.trans (hb14.mono HB813.out.size))
    have HH14:=hid (jd hb14 HH13.out)
    have HBF:Hid (∀ w',Below wc.heap.size wc w'→Below w.heap.size w w'):=fun w' hb=>by
     have h1:=HB413.out.trans (hb14.mono HB413.out.size)
     have h2:=HB4.out.trans (h1.mono HB4.out.size)
     exact h2.trans (hb.mono h2.size)
    have hap:QV [J1,J2]:=Pk (by rw [HQ1.out,HQ2.out];decide)
    obtain ⟨E1,E2,E3⟩:=RW (J:=J) (F:=F) (n:=n) (er:=er) (fun j hj=>by
     simp only [List.mem_cons,List.not_mem_nil,or_false] at hj
     rcases hj with rfl|rfl
     ·exact HG1.out
     ·exact HG2.out) hap (by simp) HFX.out HC.out (fun S hS=>GN hap HJm.out rfl)
    have HLS14:=hid (HLS8.out.later HB814.out)
    have HE2:=hid (fun a b=>E2 a b ⟨HJm.out,rfl⟩)
    have HE3:=hid (fun a b=>E3 a (.inl b))
    have HE1:=hid E1
    clear E1 E2 E3 hap HFX HC HLS8 HB814 HB813 hb14 HH13 HLF13 HX HLJ HR4 HG1 HG2 HQ1 HQ2
    generalize xW F n J.table=D at *
    by_cases he:er=0
    ·subst he
     cases D with
     | false =>
      obtain ⟨rfl,hx⟩:=HE2.out rfl rfl
      simp only [SealB.mk.injEq] at hx
      obtain ⟨rfl,rfl,rfl,rfl⟩:=hx
      clear HE1 HE2 HE3
      obtain ⟨y0,y1,y2,y3⟩:=xO HH14.out
      go_wp2
      go_ret
      exact ⟨rfl,HBF.out _ (Below.refl _ _)⟩
     | true =>
      obtain ⟨rfl,hok,hnl,h65⟩:=HE3.out rfl rfl
      have HPV:=hid (Ry ⟨s1,s2,s3,s4⟩ fl ga gc (xf [J1,J2] r) wc (by omega) hok hnl (by omega) HLS14.out)
      clear HE1 HE2 HE3 hok hnl
      obtain ⟨y0,y1,y2,y3⟩:=xO HH14.out
      go_wp2_with fail
      refine HPV.out.mono ?_
      clear y0 y1 y2 y3
      rintro e w15 ⟨rfl,hb15⟩
      have HB15:=hid (HBF.out _ hb15)
      clear hb15 HPV
      go_wp2
      go_ret
      exact ⟨rfl,HB15.out⟩
    ·obtain ⟨rfl,hx⟩:=HE1.out he
     simp only [SealB.mk.injEq] at hx
     obtain ⟨rfl,rfl,rfl,rfl⟩:=hx
     have hen:(er != 0)=true:=by rw [bne_iff_ne];exact he
     clear HE1 HE2 HE3 he
     obtain ⟨y0,y1,y2,y3⟩:=xO HH14.out
     go_wp2
     go_ret
     exact ⟨rfl,HBF.out _ (Below.refl _ _)⟩
end
section
theorem Mq (raw:List Int) (c:Int) (hr:∀ x ∈ raw,Xy x) {F:Nat→FoundB} {n:Nat} {er:Int} (h:ReadC (zr (qo raw [111,110,101]) (jV c 0)) [111,110,101] (jV c 0) F n er) :
  er=0∧xW F n (qo raw [111,110,101]).table=false:=by
 have hk:=Cr raw [111,110,101] c 0 false hr
 rw [if_neg (fun h=>by rw [RE] at h;exact absurd h.1 (by decide))] at hk
 have hk':xg (zr (qo raw [111,110,101]) (jV c 0)) [111,110,101] (jV c 0) false=(0,some (Je (qo raw [111,110,101]) (jV c 0))):=hk
 rcases h with ⟨hne,hs⟩|⟨h0,S,hs,rfl,rfl⟩
 ·rw [hk'] at hs;simp at hs
 ·refine ⟨h0,?_⟩
  rw [hk'] at hs
  simp only [Prod.mk.injEq,Option.some.injEq,true_and] at hs
  subst hs
  have hlen:(Je (qo raw [111,110,101]) (jV c 0)).cols.length=(qo raw [111,110,101]).table.length:=by
   show (zg (qo raw [111,110,101]).table).length=_
   simp [zg]
  rw [hlen]
  unfold xW
  rw [Bool.or_eq_false_iff]
  refine ⟨?_,wrongTo_iff.2 fun k hk2 ⟨_,_,h3⟩=>h3 ?_⟩
  ·have:=MD raw [111,110,101] c 0 hr
   have e:Ji (qi [111,110,101] (jV c 0) (Je (qo raw [111,110,101]) (jV c 0))) (qo raw [111,110,101]).table.length (qo raw [111,110,101]).table=true:=this
   rw [e]
   rfl
  ·have:=RD raw [111,110,101] c 0 hr hk2
   rw [if_neg (fun h=>by rw [RE] at h;exact absurd h.2 (by decide))] at this
   rw [xz hk2]
   exact congrArg FoundB.cells this
theorem Cv (a1:Option Addr) (cap1:Nat) (raw1:List Int) (a2:Option Addr) (cap2:Nat) (raw2:List Int) (c:Int) (unknown:Bool) (w:World) (hl1:LiesI w a1 raw1) (hl2:LiesI w a2 raw2)
  (hc0:-9223372036854775808≤c) (hc1:c≤9223372036854775807) :
  Calls Tryz.prog 5 #[.slice a1 raw1.length cap1,.slice a2 raw2.length cap2,.int .i64 c,.bool unknown] w fun e w'=>e=.returned (.bool true)∧Below w.heap.size w w':=by
 have HJ1:Hid (∀ w',Below w.heap.size w w'→Calls Tryz.prog 6 #[.slice a1 raw1.length cap1,.string ⟨#[111,110,101]⟩] w' fun e w'=>_):=fun w' hb=>NF a1 cap1 raw1 [111,110,101] w' (hl1.later hb) (by decide)
 have HJ2:Hid (∀ w',Below w.heap.size w w'→Calls Tryz.prog 6 #[.slice a2 raw2.length cap2,.string ⟨#[111,110,101]⟩] w' fun e w'=>_):=fun w' hb=>NF a2 cap2 raw2 [111,110,101] w' (hl2.later hb) (by decide)
 have HG1:=hid (JM raw1 [111,110,101] c hl1.ok)
 have HG2:=hid (JM raw2 [111,110,101] c hl2.ok)
 have HQ1:Hid ((qo raw1 [111,110,101]).pre=[111,110,101]):=rfl
 have HQ2:Hid ((qo raw2 [111,110,101]).pre=[111,110,101]):=rfl
 have hf1:=Vt raw1 [111,110,101] c hl1.ok
 have hf2:=Vt raw2 [111,110,101] c hl2.ok
 have hrk:=(VQ c).2.2.2
 have hrm:(jV c 0).length≤maxLen:=by rw [(VQ c).2.2.1];decide
 have HTR:=hid (fun F n er=>Mq raw2 c hl2.ok (F:=F) (n:=n) (er:=er))
 clear hl1 hl2
 generalize qo raw1 [111,110,101]=J1 at *
 generalize qo raw2 [111,110,101]=J2 at *
 go_enter Tryz.func5,Tryz.ntmps5
 go_wp2_with fail
 refine (AD c 0 w hc0 hc1).mono ?_
 rintro e w0 ⟨rv,rfl,hrv,hb0⟩
 obtain ⟨ra,rcap,rfl,hrl⟩:=YO hrv hrk
 have HR:=hid hrl
 have HB0:=hid hb0
 clear hrv hrl hrk hb0
 go_wp2_with fail
 refine (HJ1.out w0 HB0.out).mono ?_
 clear HJ1
 rintro e w1 ⟨tv1,P1,rfl,hP1,hR1,hb1⟩
 obtain ⟨ta1,tc1,rfl⟩:=Jf hR1.table
 rw [Xv hP1] at hR1 ⊢
 go_upto_region 3 with fail
 obtain ⟨hbb1,hsb1,_,hhb1⟩:=jK w1 (jobC (.slice ta1 J1.table.length tc1) J1) 27
 generalize w1.alloc (.cells #[.slice ta1 J1.table.length tc1,.int .i64 J1.plan.group,.int .i64 J1.plan.page,.int .i64 J1.plan.foot,.bool J1.plan.told,.string ⟨J1.pre.toArray⟩,.int .i64 J1.draw] 27)=w2 at *
 have HLJ1:Hid (∀ w',Below w2.heap.size w2 w'→LiesJ w' ta1 tc1 J1):=fun w' hb=>ZN ((hR1.later hbb1).later hb) hP1 HG1.out
 have HX1:Hid (Box7 w1.heap.size (.slice ta1 J1.table.length tc1) J1 w2):=XP hhb1
 have hlt1:w1.heap.size < w2.heap.size:=(Array.getElem?_eq_some_iff.1 hhb1).1
 have HB2:=hid (HB0.out.trans ((hb1.trans (hbb1.mono hb1.size)).mono HB0.out.size))
 have HR2:=hid (HR.out.later (hb1.trans (hbb1.mono hb1.size)))
 generalize w1.heap.size=p1 at *
 clear hb1 hbb1 hhb1 hR1 hP1 hsb1 HB0 HR
 go_wp2_with fail
 refine (HJ2.out w2 HB2.out).mono ?_
 clear HJ2
 rintro e w3 ⟨tv2,P2,rfl,hP2,hR2,hb3⟩
 obtain ⟨ta2,tc2,rfl⟩:=Jf hR2.table
 rw [Xv hP2] at hR2 ⊢
 go_upto_region 4 with fail
 obtain ⟨hbb3,hsb3,_,hhb3⟩:=jK w3 (jobC (.slice ta2 J2.table.length tc2) J2) 27
 generalize w3.alloc (.cells #[.slice ta2 J2.table.length tc2,.int .i64 J2.plan.group,.int .i64 J2.plan.page,.int .i64 J2.plan.foot,.bool J2.plan.told,.string ⟨J2.pre.toArray⟩,.int .i64 J2.draw] 27)=w4 at *
 have hb24:=hb3.trans (hbb3.mono hb3.size)
 have HLJ:Hid (∀ w',Below w4.heap.size w4 w'→LiesJ w' ta1 tc1 J1∧LiesJ w' ta2 tc2 J2):=fun w' hb=>⟨HLJ1.out w' (hb24.trans (hb.mono hb24.size)),ZN ((hR2.later hbb3).later hb) hP2 HG2.out⟩
 have HX:Hid (∀ w',Below w4.heap.size w4 w'→Box7 p1 (.slice ta1 J1.table.length tc1) J1 w'∧Box7 w3.heap.size (.slice ta2 J2.table.length tc2) J2 w'):=fun w' hb=>⟨Ky HX1.out hlt1 (hb24.trans (hb.mono hb24.size)),Ky (XP hhb3) (Array.getElem?_eq_some_iff.1 hhb3).1 hb⟩
 have HB4:=hid (HB2.out.trans (hb24.mono HB2.out.size))
 have HR4:Hid (∀ w',Below w4.heap.size w4 w'→LiesK w' ra (jV c 0)):=fun w' hb=>HR2.out.later (hb24.trans (hb.mono hb24.size))
 generalize w3.heap.size=p2 at *
 clear hb3 hbb3 hhb3 hR2 hP2 hsb3 HB2 HR2 HLJ1 HX1 hb24 hlt1
 have HW1:=hid (fun w' (hb:Below w4.heap.size w4 w')=>ZO ta1 tc1 ra rcap (jV c 0) J1 w' (HLJ.out w' hb).1 (HR4.out w' hb) hrm HG1.out)
 have HW2:=hid (fun w' (hb:Below w4.heap.size w4 w')=>ZO ta2 tc2 ra rcap (jV c 0) J2 w' (HLJ.out w' hb).2 (HR4.out w' hb) hrm HG2.out)
 have hn1:=HG1.out.logLen
 have hn2:=HG2.out.logLen
 generalize jV c 0=r at *
 obtain ⟨⟨x0,x1,x2,x3,x4,x5,x6⟩,_⟩:=HX.out w4 (Below.refl _ _)
 go_wp2_with fail
 refine (HW1.out w4 (Below.refl _ _)).mono ?_
 clear x0 x1 x2 x3 x4 x5 x6 HW1
 rintro e w5 ⟨lv1,rfl,hlog1,hb5⟩
 obtain ⟨_,⟨x0,x1,x2,x3,x4,x5,x6⟩⟩:=HX.out w5 hb5
 have HB5:=hid hb5
 have HO5:=hid hlog1
 clear hb5 hlog1
 go_wp2_with fail
 refine (HW2.out w5 HB5.out).mono ?_
 clear x0 x1 x2 x3 x4 x5 x6 HW2
 rintro e w6 ⟨lv2,rfl,hlog2,hb6⟩
 have HB6:=hid (HB5.out.trans (hb6.mono HB5.out.size))
 have HO6:=hid (jN HO5.out hb6)
 obtain ⟨ga,gc,rfl,hLS⟩:=Kp HO6.out
 obtain ⟨ga2,gc2,rfl,_⟩:=Kp hlog2
 have HLS:=hid hLS
 have HLG:Hid (xf [J1] r=Jg J1 r):=by simp [Hid,xf]
 have HFew:=hid hf2
 clear hb6 hlog2 HO5 HO6 HB5 hLS hf1 hf2
 generalize hFA:zr J1 r=FA at *
 generalize hFB:zr J2 r=FB at *
 clear hFA hFB
 obtain ⟨⟨x0,x1,x2,x3,x4,x5,x6⟩,_⟩:=HX.out w6 HB6.out
 go_upto_region 9 with fail
 clear x0 x1 x2 x3 x4 x5 x6
 obtain ⟨hbA,hsA,hcA,_⟩:=jK w6 #[.slice ta1 J1.table.length tc1,.int .i64 J1.plan.group,.int .i64 J1.plan.page,.int .i64 J1.plan.foot,.bool J1.plan.told,strB J1.pre,.int .i64 J1.draw] 27
 generalize w6.alloc (.cells #[.slice ta1 J1.table.length tc1,.int .i64 J1.plan.group,.int .i64 J1.plan.page,.int .i64 J1.plan.foot,.bool J1.plan.told,.string ⟨J1.pre.toArray⟩,.int .i64 J1.draw] 27)=w7 at *
 have HB7:=hid (HB6.out.trans (hbA.mono HB6.out.size))
 have HLJs:=hid (Sz hsA hcA (HLJ.out w7 HB7.out).1)
 have HLS7:Hid (LiesS w7 ga (xf [J1] r)):=by show LiesS w7 ga (xf [J1] r);rw [HLG.out];exact HLS.out.later hbA
 have Hll:Hid ((xf [J1] r).length≤200000):=by show (xf [J1] r).length≤200000;rw [HLG.out];omega
 have HSL:Hid (Value.slice ga (Jg J1 r).length gc=.slice ga (xf [J1] r).length gc):=by show _=_;rw [HLG.out]
 generalize w6.heap.size=p9 at *
 clear hbA hsA hcA HLS HLG HB6 hn1 hn2
 rw [HSL.out]
 go_upto_if 54 with fail
 go_cut [13,18] (fun lv jv wd=>∃ (js:List JobB) (la:Option Addr) (lc:Nat) (ja:Option Addr) (jc:Nat),lv=.slice la (xf js r).length lc∧jv=.slice ja js.length jc∧js.length≤8∧js.length≤jc∧(xf js r).length≤200000∧LiesS w7 la (xf js r)∧LiesJs w7 ja js∧((unknown=true∧js=[])∨(unknown=false∧js=[J1]))∧wd=w7)
 case first =>
  cases unknown
  ·go_wp2
   go_meet
   case rel=>exact ⟨[J1],ga,gc,_,1,rfl,rfl,by simp,by simp,Hll.out,HLS7.out,HLJs.out,.inr ⟨by simp,rfl⟩,rfl⟩
  ·go_wp2
   go_meet
   case rel=>exact ⟨[],none,0,none,0,rfl,rfl,by simp,by simp,by simp [xf],⟨fun h=>absurd rfl h⟩,⟨fun h=>absurd rfl h⟩,.inl ⟨by simp,rfl⟩,rfl⟩
 case rest =>
  clear HSL Hll HLS7 HLJs
  obtain ⟨js,sa,sc,ja,jc,rfl,rfl,h8,h9,hll,hLS,hLJs,hun,rfl⟩:=hcut
  have HUN:=hid hun
  have HRD:=hid (Eb FB [111,110,101] ra rcap r wc (by have:=HFew.out;unfold maxLen;omega) (by decide) hrm (HR4.out _ HB7.out))
  have HFG:=hid (fun w' (hb:Below wc.heap.size wc w')=>GZ ja jc js ra rcap r FB [111,110,101] w' (by unfold maxLen;omega) h9 (hLJs.later hb) (HR4.out _ (HB7.out.trans (hb.mono HB7.out.size))) hrm (by have:=HFew.out;unfold maxLen;omega) (by decide))
  have HLS8:=hid hLS
  clear hun hLS hLJs
  go_wp2_with fail
  refine HRD.out.mono ?_
  clear HRD
  rintro e w9 ⟨hb9,la,n,lc,er,F,rfl,hn,hlf,hcase⟩
  obtain ⟨rfl,hd2⟩:=HTR.out F n er hcase
  have HC:=hid hcase
  have HLF:=hid hlf
  have HB9:=hid hb9
  have HD2:=hid hd2
  clear hcase hlf hb9 hd2 HTR
  go_wp2_with fail
  refine (HFG.out w9 HB9.out).mono ?_
  clear HFG
  rintro e w11 ⟨⟨x,fe,rfl,hfx⟩,hb11⟩
  have HFX:=hid hfx
  have HB811:=hid (HB9.out.trans (hb11.mono HB9.out.size))
  have HB411:=hid (HB7.out.trans (HB811.out.mono HB7.out.size))
  have HLF11:=hid (HLF.out.later hb11)
  clear hfx hb11 HLF HB9
  obtain ⟨s1,s2,s3,s4⟩:=x
  go_upto_region 14 with fail
  obtain ⟨hbB,hsB,_,hhB⟩:=jK w11 #[strB s1,strB s2,strB s3,strB s4] 54
  generalize w11.alloc (.cells #[.string ⟨s1.toArray⟩,.string ⟨s2.toArray⟩,.string ⟨s3.toArray⟩,.string ⟨s4.toArray⟩] 54)=w12 at *
  have HB412:=hid (HB411.out.trans (hbB.mono HB411.out.size))
  have HB812:=hid (HB811.out.trans (hbB.mono HB811.out.size))
  have HLF12:=hid (HLF11.out.later hbB)
  have HH12:=hid hhB
  generalize w11.heap.size=pb at *
  clear hbB hsB hhB HLF11 HB411 HB811
  obtain ⟨_,⟨x0,x1,x2,x3,x4,x5,x6⟩⟩:=HX.out w12 HB412.out
  have HDA:Hid (Calls Tryz.prog 18 #[.slice la n lc,jobV (.slice ta2 J2.table.length tc2) J2] w12 fun e w'=>e=.returned (.bool false)∧Below w12.heap.size w12 w'):=by
   have:=ZG la lc F n ta2 tc2 J2 w12 hn HLF12.out (HLJ.out w12 HB412.out).2
   rw [HD2.out] at this
   exact this
  go_wp2_with fail
  refine HDA.out.mono ?_
  clear x0 x1 x2 x3 x4 x5 x6 HDA
  rintro e w13 ⟨rfl,hb13⟩
  have HB413:=hid (HB412.out.trans (hb13.mono HB412.out.size))
  have HB813:=hid (HB812.out.trans (hb13.mono HB812.out.size))
  have HLF13:=hid (HLF12.out.later hb13)
  have HH13:=hid (jd hb13 HH12.out)
  clear hb13 HLF12 HB412 HB812 HH12
  obtain ⟨⟨x0,x1,x2,x3,x4,x5,x6⟩,_⟩:=HX.out w13 HB413.out
  have HDB:=hid (ZG la lc F n ta1 tc1 J1 w13 hn HLF13.out (HLJ.out w13 HB413.out).1)
  go_wp2_with fail
  refine HDB.out.mono ?_
  clear x0 x1 x2 x3 x4 x5 x6 HDB
  rintro e w14 ⟨rfl,hb14⟩
  have HB814:=hid (HB813.out.trans (hb14.mono HB813.out.size))
  have HH14:=hid (jd hb14 HH13.out)
  have HLS14:=hid (HLS8.out.later HB814.out)
  have HBF:Hid (∀ w',Below w14.heap.size w14 w'→Below w.heap.size w w'):=fun w' hb=>by
   have h1:=HB413.out.trans (hb14.mono HB413.out.size)
   have h2:=HB4.out.trans (h1.mono HB4.out.size)
   exact h2.trans (hb.mono h2.size)
  have hap:QV js:=by
   rcases HUN.out with ⟨_,rfl⟩|⟨_,rfl⟩
   ·intro k hk;simp at hk
   ·exact YF
  have hgs:∀ j ∈ js,GoodJ j r:=by
   rcases HUN.out with ⟨_,rfl⟩|⟨_,rfl⟩
   ·intro j hj;simp at hj
   ·intro j hj
    simp only [List.mem_cons,List.not_mem_nil,or_false] at hj
    subst hj
    exact HG1.out
  obtain ⟨_,E2,E3⟩:=RW (J:=J1) (F:=F) (n:=n) (er:=0) hgs hap h8 HFX.out HC.out (fun S hS=>by
   rcases HUN.out with ⟨_,rfl⟩|⟨_,rfl⟩
   ·exact IV
   ·exact GN YF (by simp) HQ1.out)
  have HE3:Hid (xW F n J1.table=true∨unknown=true→fe=0∧SeenOk FB ⟨s1,s2,s3,s4⟩∧(⟨s1,s2,s3,s4⟩:SealB) ∉ xf js r∧FB.length≤65000):=fun h=>E3 rfl (by
   rcases h with h|h
   ·exact .inl h
   ·rcases HUN.out with ⟨_,rfl⟩|⟨hu,_⟩
    ·exact .inr (by simp)
    ·rw [h] at hu;cases hu)
  have HE2:Hid (xW F n J1.table=false→unknown=false→fe=11∧(⟨s1,s2,s3,s4⟩:SealB)=⟨[],[],[],[]⟩):=fun h hu=>E2 rfl h (by
   rcases HUN.out with ⟨hu',_⟩|⟨_,rfl⟩
   ·rw [hu] at hu';cases hu'
   ·exact ⟨by simp,HQ1.out⟩)
  clear E2 E3 hap hgs HFX HC HLS8 HB814 HB813 hb14 HH13 HLF13 HX HLJ HR4 HG1 HG2 HQ1 HQ2 HUN h8 h9
  have HPV:Hid (xW F n J1.table=true∨unknown=true→Calls Tryz.prog 19 #[sealV ⟨s1,s2,s3,s4⟩,strB FB,.slice sa (xf js r).length sc] w14 fun e w'=>e=.returned (.bool true)∧Below w14.heap.size w14 w'):=fun h=>by
   obtain ⟨_,hok,hnl,h65⟩:=HE3.out h
   exact Ry ⟨s1,s2,s3,s4⟩ FB sa sc (xf js r) w14 (by omega) hok hnl (by omega) HLS14.out
  generalize xW F n J1.table=D at *
  obtain ⟨y0,y1,y2,y3⟩:=xO HH14.out
  cases unknown with
  | true =>
   obtain ⟨rfl,_⟩:=HE3.out (.inr rfl)
   have HPV2:=hid (HPV.out (.inr rfl))
   clear HE2 HE3 HPV
   go_wp2_with fail
   refine HPV2.out.mono ?_
   clear y0 y1 y2 y3
   rintro e w15 ⟨rfl,hb15⟩
   have HB15:=hid (HBF.out _ hb15)
   clear hb15 HPV2
   go_wp2
   go_ret
   exact ⟨rfl,HB15.out⟩
  | false =>
   cases D with
   | true =>
    obtain ⟨rfl,_⟩:=HE3.out (.inl rfl)
    have HPV2:=hid (HPV.out (.inl rfl))
    clear HE2 HE3 HPV
    go_wp2_with fail
    refine HPV2.out.mono ?_
    clear y0 y1 y2 y3
    rintro e w15 ⟨rfl,hb15⟩
    have HB15:=hid (HBF.out _ hb15)
    clear hb15 HPV2
    go_wp2
    go_ret
    exact ⟨rfl,HB15.out⟩
   | false =>
    obtain ⟨rfl,hx⟩:=HE2.out rfl rfl
    simp only [SealB.mk.injEq] at hx
    obtain ⟨rfl,rfl,rfl,rfl⟩:=hx
    clear HE2 HE3 HPV
    go_wp2
    go_ret
    exact ⟨rfl,HBF.out _ (Below.refl _ _)⟩
end
end Go.Proofs.YthhpbhpfagoapabGreat
