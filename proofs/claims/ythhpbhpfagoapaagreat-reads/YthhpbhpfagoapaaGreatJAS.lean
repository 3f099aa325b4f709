import Derived.Test.YthhpbhpfagoapaaGreatJAA
import Derived.Test.YthhpbhpfagoapaaGreatJAT
import Derived.Test.YthhpbhpfagoapaaGreatJAF
import Derived.Test.YthhpbhpfagoapaaGreatJAO
import Derived.Deep.RegionWith
import Derived.Test.YthhpbhpfagoapaaGreatJAP
import Derived.Deep.QuietTactic
import Derived.BigQuiet
import Derived.WalkSmall
import Derived.Lib.Strings
import Derived.Test.YthhpbhpfagoapaaGreatJAZ
namespace Go.Proofs.YthhpbhpfagoapaaGreat
set_option linter.unusedVariables false
set_option linter.unusedSimpArgs false
set_option maxRecDepth 100000
set_option maxHeartbeats 16000000
open Go.RowKit
section
set_option maxRecDepth 100000 in
theorem Hy (a:Option Addr) (cap:Nat) (l:List CellB) (w:World) (hv:Vals w a l) :
  Calls Tryz.prog 117 #[.int .i64 3,.slice a l.length cap] w fun e w'=>e=.returned (strB (qy 3 l))∧Below w.heap.size w w':=by
 have Hv:=hid hv
 have hn:=hv.few
 clear hv
 go_enter Tryz.func117,Tryz.ntmps117
 go_wp2_with fail
 refine (Jr a cap l _ (by omega) Hv.out.lies).mono ?_
 rintro e w1 ⟨dv,rfl,hdown,hb1⟩
 obtain ⟨da,dcap,rfl,_,hLd⟩:=JF hdown (fun c hc=>St (Hv.out.small c (Ql l l.length (ae _) c hc)))
 have HLd:=hid hLd
 have hsd:∀ c ∈ qi l,qr c:=fun c hc=>Hv.out.small c (Ql l l.length (ae _) c hc)
 have Hsd:=hid hsd
 have hdn:(qi l).length≤60:=ar (zA l l.length) hn
 clear hdown hLd hsd
 go_wp2_with fail
 refine (Rg _ _ (by omega) (by omega)).mono ?_
 rintro e w2 ⟨rfl,hb2⟩
 rw [aY]
 go_wp2_with fail
 go_loopw [5,7] (fun s i wr=>∃ k:Nat,k≤(qi l).length∧i=.int .i64 (k:Int)∧s=strB (zH (qi l) k)∧Below w1.heap.size w1 wr) (fun _ i _=>(qi l).length - (intOf i).toNat)
 case atStart=>exact ⟨0,ah _,rfl,rfl,hb2⟩
 case round =>
  clear hb2
  obtain ⟨k,hkl,rfl,rfl,hB⟩:=hrel
  by_cases hlt:k < (qi l).length
  ·have hlen:=KC (qi l) Hsd.out hdn k
   have HS:Hid (zH (qi l) (k+1)=zH (qi l) k++xB ((qi l)[k]).text):=by
    show zH (qi l) k++xB (xX (qi l) k).text=_
    rw [qg _ k hlt]
   obtain ⟨_,_,s3⟩:=Hsd.out (qi l)[k] (al hlt)
   obtain ⟨b,off,ha,hbw,hcell⟩:=(HLd.out.later hB).at_ (ai (by omega))
   obtain ⟨g1,g2,g3⟩:=hcell k hlt
   subst ha
   clear hcell
   have hbl:=UI _ s3
   generalize zH (qi l) k=acc at *
   generalize ((qi l)[k]).text=tx at *
   go_wp2_with fail
   refine (Ml _ _ (by rw [jR];omega)).mono ?_
   rintro e w4 ⟨rfl,hb4⟩
   rw [Vv]
   clear g1 g2 g3
   go_wp2
   go_roundw
   case rel=>exact ⟨k+1,by omega,by go_num,by rw [HS.out,xo],hB.trans (hb4.mono hB.size)⟩
   case measure=>simp [intOf];omega
  ·have hke:k=(qi l).length:=by omega
   subst hke
   have hwl:=KC (qi l) Hsd.out hdn (qi l).length
   generalize hW:zH (qi l) (qi l).length=words at *
   have HW:=hid hW
   clear hW
   go_wp2_with fail
   go_loopw [5,8] (fun s i wr=>∃ k:Nat,k≤l.length∧i=.int .i64 (k:Int)∧s=strB (words++js 3 l k)∧Below w1.heap.size w1 wr) (fun _ i _=>l.length - (intOf i).toNat)
   case atStart=>exact ⟨0,ah _,rfl,by simp [js],hB⟩
   case round =>
    clear hB
    obtain ⟨k,hkl,rfl,rfl,hB0⟩:=hrel
    have hB:=hb1.trans (hB0.mono hb1.size)
    have hz1:=hB0.size
    by_cases hlt:k < l.length
    ·have hlies:=(Hv.out.later hB).lies
     have hlen:=xj 3 l Hv.out.small hn k
     have hstep:=QX 3 l Hv.out.small hn k
     have HS:Hid (js 3 l (k+1)=js 3 l k++qN 3 l k):=rfl
     have hsm:=Hv.out.small l[k] (al hlt)
     have hpr:=Jl l Hv.out.small k
     have HT:Hid (qN 3 l k=uB (jV (qi l) (l[k]).text)):=by show uB (jV (qi l) (xX l k).text)=_;rw [qg l k hlt]
     have hfl:=ZW (qi l) (l[k]).text
     have hdl:=zA l l.length
     have hdl2:(qi l).length≤60:=ar hdl hn
     have Hex:=hid (ZO l k hlt)
     clear hdl
     obtain ⟨b,off,ha,hbw,hcell⟩:=hlies.at_ (ai (by omega))
     subst ha
     have Hcell:=hid hcell
     clear hlies
     obtain ⟨g1,g2,g3⟩:=hcell k hlt
     clear hcell
     generalize js 3 l k=acc at *
     have hz0:=hB.size
     go_upto_if 47 with fail
     go_cut [10] (fun p wc=>p=.pointer (some ⟨wr.heap.size+1,0,none⟩)∧Holds3 wc wr.heap.size l[k]∧Holds3 wc (wr.heap.size+1) (jX l k)∧Below wr.heap.size wr wc∧wc.heap.size=wr.heap.size+2)
     case first =>
      by_cases hk0:k=0
      ·subst hk0
       go_wp2
       go_meet
       case rel=>exact ⟨rfl,zn wr l[0] qG⟩
      ·obtain ⟨m,rfl⟩:∃ m,k=m+1:=⟨k - 1,by omega⟩
       obtain ⟨f1,f2,f3⟩:=Hcell.out m (by omega)
       have hpm:jX l (m+1)=l[m]:=by unfold jX;rw [aj (by omega)];exact qg l m (by omega)
       have Hpm:=hid hpm
       clear hpm
       go_wp2
       go_meet
       case rel=>exact ⟨rfl,by rw [Hpm.out];exact zn wr l[m+1] l[m]⟩
     case rest =>
      obtain ⟨rfl,hh1,hh2,hb3,hsz⟩:=hcut
      obtain ⟨v1,v2,v3⟩:=hh1
      obtain ⟨q1,q2,q3⟩:=hh2
      have hB3:=hB.trans (hb3.mono hz0)
      have hz3:=hB3.size
      obtain ⟨s1,s2,s3⟩:=hsm
      obtain ⟨r1,r2,r3⟩:=hpr
      have HB3:=hid hb3
      clear g1 g2 g3 hb3 hB
      have hLd:=(HLd.out.later hB0).later HB3.out
      have HLd2:=hid hLd
      clear hLd
      have hbl:=jM (jV (qi l) (l[k]).text) (by omega)
      go_wp2_with fail
      refine (RW da dcap (qi l) (l[k]).text _ (by omega) HLd2.out Hex.out).mono ?_
      rintro e wc ⟨rfl,rfl⟩
      generalize jV (qi l) (l[k]).text=ff at *
      go_wp2_with fail
      refine (Rg _ _ (by omega) (by omega)).mono ?_
      rintro e w4 ⟨rfl,hb4⟩
      rw [aY]
      have HB4:=hid ((hB0.trans (HB3.out.mono hz1)).trans (hb4.mono (ar hz1 HB3.out.size)))
      go_wp2
      go_roundw
      case rel=>exact ⟨k+1,by omega,by go_num,by rw [HS.out,HT.out,← af,xo],HB4.out⟩
      case measure=>simp [intOf];omega
    ·have hke:k=l.length:=by omega
     subst hke
     go_wp2
     go_ret
     exact ⟨qC (by unfold qy;rw [aw rfl,HW.out]),hB⟩
end
section
theorem Mt (n:Nat) (hn:n≤5) (a:Option Addr) (cap:Nat) (l:List CellB) (w:World) (hv:Vals w a l) :
  Calls Tryz.prog 117 #[.int .i64 (n:Int),.slice a l.length cap] w fun e w'=>e=.returned (strB (qy n l))∧Below w.heap.size w w':=by
 match n,hn with
 | 0,_=>exact Hz a cap l w hv
 | 1,_=>exact Fa a cap l w hv
 | 2,_=>exact Hd a cap l w hv
 | 3,_=>exact Hy a cap l w hv
 | 4,_=>exact Hi a cap l w hv
 | 5,_=>exact Fb a cap l w hv
def MF (kind:Int):Array Value:=#[.int .i64 (QD kind 0:Int),.int .i64 (QD kind 1:Int),.int .i64 (QD kind 2:Int)]
theorem SD (kind:Int) (w:World) :
  Calls Tryz.prog 116 #[.int .i64 kind] w fun e w'=>e=.returned (.slice (some ⟨w.heap.size,0,none⟩) 3 3)∧w'=w.alloc (.cells (MF kind) 3):=by
 by_cases hk:kind=0
 ·subst hk
  go_enter Tryz.func116,Tryz.ntmps116
  go_wp2
  go_ret
  exact ⟨rfl,rfl⟩
 ·have hk2:(kind == 0)=false:=by simp [hk]
  have HW:Hid (MF kind=#[.int .i64 5,.int .i64 3,.int .i64 4]):=by simp [Hid,MF,QD,hk]
  clear hk
  go_enter Tryz.func116,Tryz.ntmps116
  go_wp2
  go_ret
  exact ⟨rfl,by rw [HW.out]⟩
theorem LD (kind:Int) (w:World) (k:Nat) (hk:k < 3):(w.alloc (.cells (MF kind) 3)).cell? ⟨w.heap.size,k,none⟩=some (.int .i64 (QD kind k:Int)):=by
 rw [World.cell?_alloc_mark]
 match k,hk with
 | 0,_=>rfl
 | 1,_=>rfl
 | 2,_=>rfl
theorem Ld (kind:Int) (k:Nat) (hk:k < 3):QD kind k≤5:=by
 unfold QD;split
 ·omega
 ·split<;>omega
theorem Vals.alloc {w:World} {a:Option Addr} {l:List CellB} (h:Vals w a l) (o:Obj):Vals (w.alloc o) a l:=h.later ((Below.refl _ _).alloc (ae _) _)
theorem Vals.drew {w:World} {a:Option Addr} {l:List CellB} (h:Vals w a l):Vals w.drew a l:=h.later (Below.refl _ _).drew
theorem LN (n:Nat) (h:n≤5):IntKind.u8.wrap ((n:Int).tmod 5)=(n:Int) % 5:=by
 rw [Int.tmod_eq_emod_of_nonneg (by omega),IntKind.wrap_u8];omega
theorem Bp (W:World) (n:Nat) (h:n≤5) :
  Sem.run Tryz.prog (convert 149 9 (.slice (some ⟨W.heap.size,0,none⟩) 1 1)) (W.alloc (.cells #[.int .u8 (IntKind.u8.wrap ((n:Int).tmod 5))] 5)) =
   .ok (strB [byB ((n:Int) % 5)]) (W.alloc (.cells #[.int .u8 (IntKind.u8.wrap ((n:Int).tmod 5))] 5)):=by
 rw [LN n h]
 exact KI W _ (by omega) (by omega)
theorem MI (W:World) (n:Nat) (h:n≤5) (w5:World) (hb:Below (W.alloc (.cells #[.int .u8 (IntKind.u8.wrap ((n:Int).tmod 5))] 5)).heap.size (W.alloc (.cells #[.int .u8 (IntKind.u8.wrap ((n:Int).tmod 5))] 5)) w5) :
  Sem.run Tryz.prog (convert 149 9 (.slice (some ⟨W.heap.size,0,none⟩) 1 1)) w5=.ok (strB [byB ((n:Int) % 5)]) w5:=by
 refine run_convert_bytes_back (P:=Tryz.prog) _ 149 9 5 ⟨W.heap.size,0,none⟩ 1 [byB ((n:Int) % 5)] Tryz.underlying149 Tryz.underlying5 Tryz.underlying9 ?_
 intro j hj
 match j,hj with
 | 0,_ =>
  have e:(⟨W.heap.size,0,none⟩:Addr).add 0=⟨W.heap.size,0,none⟩:=rfl
  rw [e,hb.cell (p:=⟨W.heap.size,0,none⟩) (by simp),World.cell?_alloc_mark,LN n h]
  simp [xK ((n:Int) % 5) (by omega) (by omega)]
theorem LF (W:World) (n:Nat) (h:n≤5) :
  Sem.run Tryz.prog (convert 149 9 (.slice (some ⟨W.heap.size,0,none⟩) 1 1)) (W.alloc (.cells #[.int .u8 (IntKind.u8.wrap ((n:Int).tmod 5))] 5)).drew =
   .ok (strB [byB ((n:Int) % 5)]) (W.alloc (.cells #[.int .u8 (IntKind.u8.wrap ((n:Int).tmod 5))] 5)).drew :=
 MI W n h _ (Below.refl _ _).drew
theorem Gp {wr w5:World} {o:Obj} (hb:Below (wr.alloc o).drew.heap.size (wr.alloc o).drew w5):Below wr.heap.size wr w5 :=
 ((Below.refl _ _).alloc (ae _) _).trans ((ji hb).mono (by show wr.heap.size≤(wr.alloc o).heap.size;simp))
theorem AO {wr w5:World} {o:Obj} {g k:Nat} {v:Value} (hb:Below (wr.alloc o).drew.heap.size (wr.alloc o).drew w5) (hg:g < wr.heap.size) (hc:wr.cell? ⟨g,k,none⟩=some v):w5.cell? ⟨g,k,none⟩=some v :=
 ((Gp hb).cell (p:=⟨g,k,none⟩) hg).trans hc
theorem Eo {l:List CellB} (h:l.length=0):l=[]:=ao h
set_option maxRecDepth 100000 in
theorem Si (kind:Int) (a:Option Addr) (cap:Nat) (l:List CellB) (w:World) (hv:Vals w a l) :
  Calls Tryz.prog 52 #[.int .i64 kind,.slice a l.length cap] w fun e w'=>e=.returned (strB (xq kind l))∧Below w.heap.size w w':=by
 have Hv:=hid hv
 have hn:=hv.few
 clear hv
 go_enter Tryz.func52,Tryz.ntmps52
 go_wp2_with fail
 refine (NF a cap l _ (by omega) Hv.out.lies).mono ?_
 rintro e w1 ⟨vv,rfl,hown,hb1⟩
 have hmem:∀ c ∈ je l,c ∈ l:=fun c hc=>(bJ.1 hc).1
 have hsv:∀ c ∈ je l,qr c:=fun c hc=>Hv.out.small c (hmem c hc)
 have hvl:(je l).length≤l.length:=bE _ _
 have HP:Hid (xq kind l=if je l=[] then zC l else zC l++jJ kind (je l) 3):=rfl
 have hhl:=XC l hn
 obtain ⟨va,vcap,rfl,_,hLv⟩:=JF hown (fun c hc=>St (hsv c hc))
 have HV:Hid (Vals w1 va (je l)):=⟨hLv,hsv,by omega⟩
 have Hsv:=hid hsv
 clear hown hLv hmem hsv
 generalize je l=vs at *
 by_cases h0:vs.length=0
 ·have HP2:Hid (xq kind l=zC l):=by have:=HP.out;rw [aw (Eo h0)] at this;exact this
  have hz:((vs.length:Int) == 0)=true:=cI.2 (by omega)
  clear h0
  go_wp2_with fail
  refine (Ij a cap l _ hn (Hv.out.later hb1).lies).mono ?_
  rintro e w2 ⟨rfl,hb2⟩
  go_wp2
  go_ret
  exact ⟨qC HP2.out.symm,hb1.trans (hb2.mono hb1.size)⟩
 ·have HP2:Hid (xq kind l=zC l++jJ kind vs 3):=by have:=HP.out;rw [aj (fun h=>h0 (by rw [h];rfl))] at this;exact this
  have hz:((vs.length:Int) == 0)=false:=aQ.2 (by omega)
  clear h0 HP
  go_wp2_with fail
  refine (SD kind _).mono ?_
  rintro e w2 ⟨rfl,hw2⟩
  have hgw:w1.heap.size < w2.heap.size:=by rw [hw2];simp
  have hb2:Below w1.heap.size w1 w2:=by rw [hw2];exact (Below.refl _ _).alloc (ae _) _
  have HC:Hid (∀ k,k < 3→w2.cell? ⟨w1.heap.size,k,none⟩=some (.int .i64 (QD kind k:Int))):=by intro k hk;rw [hw2];exact LD kind w1 k hk
  have HV2:=hid (HV.out.later hb2)
  have hB2:=hb1.trans (hb2.mono hb1.size)
  clear hw2 hb2
  generalize hgg:w1.heap.size=gw at *
  have HGg:=hid hgg
  clear hgg
  go_wp2_with fail
  go_loopw [7,8] (fun s i wr=>∃ k:Nat,k≤3∧i=.int .i64 (k:Int)∧s=strB (jJ kind vs k)∧Below w2.heap.size w2 wr) (fun _ i _=>3 - (intOf i).toNat)
  case atStart=>exact ⟨0,ah _,rfl,rfl,Below.refl _ _⟩
  case round =>
   obtain ⟨k,hk,rfl,rfl,hB⟩:=hrel
   have hbl:=XX kind vs Hsv.out (by omega) k
   by_cases hlt:k < 3
   ·have hck:=(hB.cell (p:=⟨gw,k,none⟩) hgw).trans (HC.out k hlt)
    have hVr:=HV2.out.later hB
    have HVr:=hid hVr
    have hwn:=Ld kind k hlt
    have HBt:Hid (jJ kind vs (k+1)=if k=0∨(zK (QD kind k) vs).length < (jJ kind vs k).length then zK (QD kind k) vs else jJ kind vs k):=rfl
    have hwl:=Kx (QD kind k) vs Hsv.out (by omega)
    clear hVr
    generalize QD kind k=n at *
    generalize jJ kind vs k=best at *
    have hcv:=fun W=>KI W ((n:Int) % 5) (by omega) (by omega)
    have hzr:=hB.size
    go_upto_region 9 with fail
    go_cut [9] (fun s wd=>s=strB (zK n vs)∧Below wr.heap.size wr wd)
    case first =>
     have hgr:gw < wr.heap.size:=by omega
     have hq1:¬ (9223372036854775807 < 1+(qy n vs).length):=by omega
     clear hcv
     have hcv1:=fun W=>Bp W n hwn
     have hcv2:=fun W=>LF W n hwn
     go_region_with (first
      | (go_at_call 117;refine (Mt n hwn va vcap vs _ ?_).mono ?_;exact HVr.out.drew;rintro e w5 ⟨rfl,hb5⟩;have x5:w5.cell? ⟨gw,k,none⟩=some (.int .i64 (n:Int)):=(hb5.cell (p:=⟨gw,k,none⟩) hgr).trans hck;have hBw:Below wr.heap.size wr w5:=ji hb5)
      | (go_at_call 117;refine (Mt n hwn va vcap vs _ ?_).mono ?_;exact (HVr.out.alloc _).drew;rintro e w5 ⟨rfl,hb5⟩;have x5:w5.cell? ⟨gw,k,none⟩=some (.int .i64 (n:Int)):=AO hb5 hgr hck;have hBw:Below wr.heap.size wr w5:=Gp hb5;have hcv5:=MI wr n hwn w5 (ji hb5)))
     all_goals
      go_wp2_with fail
      go_meet
      case rel=>exact ⟨by simp [zK,xo],by first|exact hBw|exact hBw.alloc hBw.size _⟩
    case rest =>
     obtain ⟨rfl,hBd⟩:=hcut
     have hB5:=hB.trans (hBd.mono hzr)
     have HB5:=hid hB5
     have hcl:(zK n vs).length≤5001:=by simp only [zK,aH];omega
     clear hB hBd hB5 hck hcv
     have hcs:(((k:Int) == 0)=true)∨(((k:Int) == 0)=false∧(zK n vs).length < best.length)∨(((k:Int) == 0)=false∧¬ (zK n vs).length < best.length):=by
      by_cases h:k=0
      ·left;simp [h]
      ·right
       by_cases h2:(zK n vs).length < best.length
       ·left;exact ⟨by simp;omega,h2⟩
       ·right;exact ⟨by simp;omega,h2⟩
     rcases hcs with c1|⟨c1,c2⟩|⟨c1,c2⟩
     ·have HB1:Hid (jJ kind vs (k+1)=zK n vs):=by have:=HBt.out;rw [aw (.inl (by simpa using c1))] at this;exact this
      generalize zK n vs=cd at *
      go_wp2
      go_roundw
      case rel=>exact ⟨k+1,by omega,by go_num,by rw [HB1.out],HB5.out⟩
      case measure=>simp [intOf];omega
     ·have HB1:Hid (jJ kind vs (k+1)=zK n vs):=by have:=HBt.out;rw [aw (.inr c2)] at this;exact this
      generalize zK n vs=cd at *
      go_wp2
      go_roundw
      case rel=>exact ⟨k+1,by omega,by go_num,by rw [HB1.out],HB5.out⟩
      case measure=>simp [intOf];omega
     ·have HB1:Hid (jJ kind vs (k+1)=best):=by have:=HBt.out;rw [aj (fun h=>h.elim (by simpa using c1) c2)] at this;exact this
      generalize zK n vs=cd at *
      go_wp2
      go_roundw
      case rel=>exact ⟨k+1,by omega,by go_num,by rw [HB1.out],HB5.out⟩
      case measure=>simp [intOf];omega
   ·have hk3:k=3:=by omega
    subst hk3
    have hB3:=hB2.trans (hB.mono hB2.size)
    go_wp2_with fail
    refine (Ij a cap l _ hn (Hv.out.later hB3).lies).mono ?_
    rintro e w5 ⟨rfl,hb5⟩
    go_wp2
    go_ret
    exact ⟨YJ HP2.out.symm,hB3.trans (hb5.mono hB3.size)⟩
end
section
def jY (w:World) (p:Nat) (s:List UInt8) (st:Option (List UInt8)):Prop :=
 ∃ (at_:Nat) (bad:Bool),w.heap[p]?=some (.cells #[strB s,.int .i64 (at_:Int),.bool bad] 243 (0,0))∧at_≤s.length∧st=(if bad=true then none else some (s.drop at_))
theorem ja {a b c:World} {p:Option Nat} (h:a.grownBy b p) (k:b.grownBy c p):a.grownBy c p :=
 ⟨k.os.trans h.os,k.tape.trans h.tape,k.output.trans h.output,ar h.size k.size,fun i hi hne=>(k.block i (aa hi h.size) hne).trans (h.block i hi hne)⟩
theorem xt {w:World} {p:Nat} {x y z:Value} {t:TypeId} (h:w.heap[p]?=some (.cells #[x,y,z] t (0,0))) :
  (w.cell? ⟨p,0,none⟩=some x∧w.cell? ⟨p,1,none⟩=some y∧w.cell? ⟨p,2,none⟩=some z)∧(∀ j,w.frozen? ⟨p,j,none⟩=false):=by
 refine ⟨⟨?_,?_,?_⟩,fun j=>frozen_of_row w p j _ t h⟩
 ·rw [cell_of_row w p 0 _ t (0,0) h];rfl
 ·rw [cell_of_row w p 1 _ t (0,0) h];rfl
 ·rw [cell_of_row w p 2 _ t (0,0) h];rfl
theorem XB {w:World} {p:Nat} {x y z v:Value} {t:TypeId} (h:w.heap[p]?=some (.cells #[x,y,z] t (0,0))):(w.setCell ⟨p,2,none⟩ v).heap[p]?=some (.cells #[x,y,v] t (0,0))∧w.grownBy (w.setCell ⟨p,2,none⟩ v) (some p):=by
 refine ⟨?_,⟨rfl,rfl,rfl,by simp,fun k _ hk=>heap_setCell_other w ⟨p,2,none⟩ k v (fun e=>hk (by simp [e]))⟩⟩
 rw [heap_setCell_same w p 2 _ t v h]
 rfl
theorem DR {w:World} {p:Nat} {x y z v:Value} {t:TypeId} (h:w.heap[p]?=some (.cells #[x,y,z] t (0,0))):(w.setCell ⟨p,1,none⟩ v).heap[p]?=some (.cells #[x,v,z] t (0,0))∧w.grownBy (w.setCell ⟨p,1,none⟩ v) (some p):=by
 refine ⟨?_,⟨rfl,rfl,rfl,by simp,fun k _ hk=>heap_setCell_other w ⟨p,1,none⟩ k v (fun e=>hk (by simp [e]))⟩⟩
 rw [heap_setCell_same w p 1 _ t v h]
 rfl
theorem Je {a b:World} {p:Option Nat} (h:a.grownBy b p) (n:Nat):a.grownBy (b.drewN n) p:=⟨h.os,h.tape,h.output,h.size,h.block⟩
theorem Ee {w:World} {p at_:Nat} {s:List UInt8} {z:Value} (h:w.heap[p]?=some (.cells #[strB s,.int .i64 (at_:Int),z] 243 (0,0))) (ha:at_≤s.length) (nq:Nat) :
  jY ((w.drewN nq).setCell ⟨p,2,none⟩ (.bool true)) p s none :=
 ⟨at_,true,(XB (w:=w.drewN nq) h).1,ha,rfl⟩
theorem Gg {w:World} {p:Nat} {x y z v:Value} {t:TypeId} (h:w.heap[p]?=some (.cells #[x,y,z] t (0,0))) (nq:Nat):w.grownBy ((w.drewN nq).setCell ⟨p,2,none⟩ v) (some p):=by
 have h1:=(XB (w:=w.drewN nq) (v:=v) h).2
 exact ⟨h1.os,h1.tape,h1.output,h1.size,h1.block⟩
theorem Bb {w:World} {p at_ m:Nat} {s:List UInt8} {y:Value} (h:w.heap[p]?=some (.cells #[strB s,y,.bool false] 243 (0,0))) (ha:at_+m≤s.length) (n1 n2:Nat) :
  jY (((w.drewN n1).setCell ⟨p,1,none⟩ (.int .i64 ((at_:Int)+(m:Int)))).drewN n2) p s (some ((s.drop at_).drop ((m:Int)).toNat)):=by
 refine ⟨at_+m,false,?_,ha,by simp [bz]⟩
 have:=(DR (w:=w.drewN n1) (v:=.int .i64 ((at_:Int)+(m:Int))) h).1
 simpa using this
theorem PM {w:World} {p:Nat} {x y z v:Value} {t:TypeId} (h:w.heap[p]?=some (.cells #[x,y,z] t (0,0))) (n1 n2:Nat):w.grownBy (((w.drewN n1).setCell ⟨p,1,none⟩ v).drewN n2) (some p):=by
 have h1:=(DR (w:=w.drewN n1) (v:=v) h).2
 exact ⟨h1.os,h1.tape,h1.output,h1.size,h1.block⟩
theorem Li {s:ByteArray} {l:List UInt8} (h:s.data.toList=l):Ending.returned (.string s)=.returned (strB l):=by
 subst h
 obtain ⟨⟨t⟩⟩:=s
 rfl
theorem QJ (p:Nat) (s:List UInt8) (st:Option (List UInt8)) (n:Int) (w:World) (hs:s.length≤maxLen) (h0:-9223372036854775808≤n) (h1:n≤9223372036854775807) (hp:jY w p s st) :
  Calls Tryz.prog 149 #[.pointer (some ⟨p,0,none⟩),.int .i64 n] w fun e w'=>e=.returned (strB (qk n st).1)∧jY w' p s (qk n st).2∧w.grownBy w' (some p):=by
 obtain ⟨at_,bad,hrow,hat,hst⟩:=hp
 obtain ⟨⟨c0,c1,c2⟩,cf⟩:=xt hrow
 have f1:=cf 1
 have f2:=cf 2
 have Hrow:=hid hrow
 unfold maxLen at hs
 clear hrow cf
 cases bad with
 | true =>
  simp only [bG] at hst
  subst hst
  go_enter Tryz.func149,Tryz.ntmps149
  go_wp2_with fail
  go_quiet (fail)
  go_wp2
  go_ret
  exact ⟨rfl,Ee Hrow.out hat nq,Gg Hrow.out nq⟩
 | false =>
  simp only [bl,bU] at hst
  subst hst
  have hdl:(s.drop at_).length=s.length - at_:=an
  by_cases hn0:n < 0
  ·have HT:Hid (qk n (some (s.drop at_))=([],none)):=by simp [Hid,qk,hn0]
   go_enter Tryz.func149,Tryz.ntmps149
   go_wp2_with fail
   go_quiet (fail)
   go_wp2
   go_ret
   rw [HT.out]
   exact ⟨rfl,Ee Hrow.out hat nq,Gg Hrow.out nq⟩
  ·have hn1:decide (n < 0)=false:=by simp;omega
   have hn2:(0:Int)≤n:=by omega
   by_cases hn3:(s.length:Int) - (at_:Int) < n
   ·have HT:Hid (qk n (some (s.drop at_))=([],none)):=by
     exact Qz (.inr (by rw [hdl];omega))
    clear hn0
    go_enter Tryz.func149,Tryz.ntmps149
    go_wp2_with fail
    go_quiet (fail)
    go_wp2
    go_ret
    rw [HT.out]
    exact ⟨rfl,Ee Hrow.out hat nq,Gg Hrow.out nq⟩
   ·have HT:Hid (qk n (some (s.drop at_))=((s.drop at_).take n.toNat,some ((s.drop at_).drop n.toNat))):=by
     exact Ja (by omega) (by rw [hdl];omega)
    obtain ⟨m,rfl⟩:=bk hn2
    have hn4:decide ((s.length:Int) - (at_:Int) < (m:Int))=false:=by simp;omega
    have hn5:(m:Int)≤(s.length:Int) - (at_:Int):=by omega
    clear hn0 hn3
    go_enter Tryz.func149,Tryz.ntmps149
    go_wp2_with fail
    go_quiet (fail)
    go_wp2_with fail
    have b1:(at_:Int)≤(at_:Int)+(m:Int):=by omega
    have b2:(at_:Int)+(m:Int)≤(s.length:Int):=by omega
    have b3:(0:Int)≤(at_:Int):=by omega
    have b4:(at_:Int)+(m:Int) - (m:Int)=(at_:Int):=by omega
    have b5:((at_:Int)+(m:Int)).toNat=at_+m:=by omega
    go_quiet (fail)
    go_wp2_with fail
    go_ret
    rw [HT.out]
    refine ⟨Li ?_,Bb Hrow.out (by omega) _ _,PM Hrow.out _ _⟩
    rw [Lib.extract_data,Vv]
    simp
def Qa:Option (List UInt8)→Bool
 | none=>true
 | some _=>false
theorem KB {w:World} {p:Nat} {s:List UInt8} {st:Option (List UInt8)} (h:jY w p s st):w.cell? ⟨p,2,none⟩=some (.bool (Qa st)):=by
 obtain ⟨at_,bad,hrow,_,rfl⟩:=h
 rw [(xt hrow).1.2.2]
 cases bad<;>rfl
theorem PX (c:UInt8):IntKind.u64.wrap (((⟨#[c]⟩:ByteArray)[0]'(by simp [ByteArray.size])).toNat:Int)=(c.toNat:Int):=by
 have:=c.toNat_lt
 show IntKind.u64.wrap (c.toNat:Int)=_
 rw [IntKind.wrap_u64];omega
theorem Py (n sc c:Nat):IntKind.u64.wrap ((n:Int)+IntKind.u64.wrap ((sc:Int)*((c:Int) % 128)))=(((n+sc*(c % 128)) % 18446744073709551616:Nat):Int):=by
 have e:(sc:Int)*((c:Int) % 128)=((sc*(c % 128):Nat):Int):=by simp
 rw [e,IntKind.wrap_u64,IntKind.wrap_u64]
 omega
theorem BL (sc:Nat):IntKind.u64.wrap ((sc:Int)*128)=((sc*128 % 18446744073709551616:Nat):Int):=by
 rw [IntKind.wrap_u64];omega
set_option maxRecDepth 100000 in
theorem PL (p:Nat) (s:List UInt8) (st:Option (List UInt8)) (w:World) (hs:s.length≤maxLen) (hp:jY w p s st) :
  Calls Tryz.prog 236 #[.pointer (some ⟨p,0,none⟩)] w fun e w'=>e=.returned (.int .u64 ((uP 10 0 1 st).1:Int))∧jY w' p s (uP 10 0 1 st).2∧w.grownBy w' (some p):=by
 have Hp:=hid hp
 clear hp
 go_enter Tryz.func236,Tryz.ntmps236
 go_wp2
 go_loopw [3,4,5] (fun t c i wr=>∃ (k n sc:Nat) (sr:Option (List UInt8)),k≤10∧i=.int .i64 (k:Int)∧t=.int .u64 (n:Int)∧c=.int .u64 (sc:Int)∧n < 18446744073709551616∧sc < 18446744073709551616∧uP (10 - k) n sc sr=uP 10 0 1 st∧jY wr p s sr∧w.grownBy wr (some p))
  (fun _ _ i _=>10 - (intOf i).toNat)
 case atStart=>exact ⟨0,0,1,st,ah _,rfl,rfl,rfl,by omega,by omega,rfl,Hp.out,World.grownBy.refl _ _⟩
 case round =>
  obtain ⟨k,n,sc,sr,hk,rfl,rfl,rfl,hn,hsc,hu,hsp,hg⟩:=hrel
  have HU:=hid hu
  have Hsp:=hid hsp
  have Hg:=hid hg
  clear hu hsp hg
  by_cases hlt:k < 10
  ·go_wp2_with fail
   refine (QJ p s sr 1 _ hs (by decide) (by decide) Hsp.out).mono ?_
   rintro e w1 ⟨rfl,hsp1,hg1⟩
   have HG1:=hid (ja Hg.out hg1)
   have hb1:=KB hsp1
   have Hsp1:=hid hsp1
   clear hg1 hsp1
   rcases YC sr with ht|⟨c,r,rfl,ht⟩
   ·rw [ht] at hb1 Hsp1 ⊢
    have HF:Hid (uP 10 0 1 st=(0,none)):=by
     have:=HU.out
     rw [show 10 - k=(9 - k)+1 by omega] at this
     simp only [uP,ht] at this
     exact this.symm
    clear ht
    go_wp2
    go_ret
    rw [HF.out]
    exact ⟨rfl,Hsp1.out,HG1.out⟩
   ·rw [ht] at hb1 Hsp1 ⊢
    have HF:Hid (uP 10 0 1 st=if c.toNat < 128 then ((n+sc*(c.toNat % 128)) % 18446744073709551616,some r) else uP (9 - k) ((n+sc*(c.toNat % 128)) % 18446744073709551616) (sc*128 % 18446744073709551616) (some r)):=by
     have:=HU.out
     rw [show 10 - k=(9 - k)+1 by omega] at this
     simp only [uP,ht] at this
     exact this.symm
    have hcb:=c.toNat_lt
    have Hn:=hid hn
    have Hsc:=hid hsc
    clear ht hn hsc
    simp only [Qa] at hb1
    have hcw:=PX c
    by_cases hc:c.toNat < 128
    ·have HF2:Hid (uP 10 0 1 st=((n+sc*(c.toNat % 128)) % 18446744073709551616,some r)):=by have:=HF.out;rw [aw hc] at this;exact this
     have hci:(c.toNat:Int) < 128:=by omega
     clear HF hc
     go_wp2
     go_ret
     rw [HF2.out]
     exact ⟨xm (Py n sc c.toNat),Hsp1.out,HG1.out⟩
    ·have HF2:Hid (uP 10 0 1 st=uP (9 - k) ((n+sc*(c.toNat % 128)) % 18446744073709551616) (sc*128 % 18446744073709551616) (some r)):=by have:=HF.out;rw [aj hc] at this;exact this
     have hci:(128:Int)≤(c.toNat:Int):=by omega
     clear HF hc
     go_wp2
     go_roundw
     case rel=>exact ⟨k+1,_,_,_,by omega,by go_num,by rw [Py],by rw [BL],Nat.mod_lt _ (by decide),Nat.mod_lt _ (by decide),by rw [HF2.out,show 10 - (k+1)=9 - k by omega],Hsp1.out,HG1.out⟩
     case measure=>simp [intOf];omega
  ·have hke:k=10:=by omega
   subst hke
   have HF:Hid (uP 10 0 1 st=(0,none)):=by have:=HU.out;rw [show 10 - 10=0 from rfl] at this;rw [← this];rfl
   obtain ⟨at_,bad,hrow,hat,_⟩:=Hsp.out
   have f2:=(xt hrow).2 2
   have c2:=(xt hrow).1.2.2
   have Hrow:=hid hrow
   clear hrow HU hn hsc
   go_wp2
   go_ret
   rw [HF.out]
   have hb:=XB (v:=.bool true) Hrow.out
   exact ⟨rfl,⟨at_,true,hb.1,hat,rfl⟩,ja Hg.out hb.2⟩
end
section
theorem ZK (n:Int) (w:World) :
  Calls Tryz.prog 153 #[.int .i64 n] w fun e w'=>e=.returned (.bool (decide (1≤n) && decide (n≤9)))∧w'=w:=by
 go_enter Tryz.func153,Tryz.ntmps153
 go_wp2
 all_goals
  go_ret
  exact ⟨jP (by simp;try omega),rfl⟩
theorem Rp (n:Int) (w:World) :
  Calls Tryz.prog 213 #[.int .i64 n] w fun e w'=>e=.returned (.bool (decide (1≤n) && decide (n≤60)))∧w'=w:=by
 go_enter Tryz.func213,Tryz.ntmps213
 go_wp2
 all_goals
  go_ret
  exact ⟨jP (by simp;try omega),rfl⟩
theorem EM (s:List UInt8) (w:World) (hs:s.length≤maxLen) :
  Calls Tryz.prog 94 #[strB s] w fun e w'=>e=.returned (.bool (decide (s.length≤20)))∧w'=w:=by
 unfold maxLen at hs
 go_enter Tryz.func94,Tryz.ntmps94
 go_wp2
 go_ret
 exact ⟨jP (by simp;try omega),rfl⟩
theorem Do (p:PlanB) (w:World) :
  Calls Tryz.prog 135 #[planV p] w fun e w'=>e=.returned (.bool (qS p))∧Below w.heap.size w w':=by
 have HP:Hid (qS p=((decide (1≤p.group) && decide (p.group≤60)) && ((decide (1≤p.page) && decide (p.page≤60)) && (decide (1≤p.foot) && decide (p.foot≤9))))):=rfl
 obtain ⟨a,b,c,d⟩:=p
 simp only at HP
 have HB:=hid ((Below.refl w.heap.size w).alloc (ae _) (.cells #[.int .i64 a,.int .i64 b,.int .i64 c,.bool d] 24))
 generalize hA:(decide (1≤a) && decide (a≤60))=A at *
 generalize hA2:(decide (1≤b) && decide (b≤60))=A2 at *
 generalize hA3:(decide (1≤c) && decide (c≤9))=A3 at *
 have K1:=hid hA
 have K2:=hid hA2
 have K3:=hid hA3
 clear hA hA2 hA3
 go_enter Tryz.func135,Tryz.ntmps135
 go_wp2_with fail
 refine (Rp a _).mono ?_
 rintro e w1 ⟨rfl,rfl⟩
 rw [K1.out]
 cases A with
 | false =>
  go_wp2
  go_ret
  exact ⟨jP HP.out.symm,HB.out⟩
 | true =>
  go_wp2_with fail
  refine (Rp b _).mono ?_
  rintro e w1 ⟨rfl,rfl⟩
  rw [K2.out]
  cases A2 with
  | false =>
   go_wp2
   go_ret
   exact ⟨jP HP.out.symm,HB.out⟩
  | true =>
   go_wp2_with fail
   refine (ZK c _).mono ?_
   rintro e w1 ⟨rfl,rfl⟩
   rw [K3.out]
   go_wp2
   go_ret
   exact ⟨jP HP.out.symm,HB.out⟩
theorem Tu (s:ByteArray) (w:World) (hs:s.size≤maxLen) :
  Calls Tryz.prog 268 #[.string s] w fun e w'=>e=.returned (.bool (xE s.data.toList))∧w'=w:=by
 unfold maxLen at hs
 have HE:Hid (xE s.data.toList=(s.data.toList.all Jx && (decide (1≤s.size) && decide (s.size≤8)))):=by
  show _=_
  rw [VJ];simp
 go_enter Tryz.func268,Tryz.ntmps268
 by_cases h1:1≤s.size
 ·have h1i:¬ (s.size:Int) < 1:=by omega
  by_cases h2:s.size≤8
  ·have h2i:¬ (8:Int) < (s.size:Int):=by omega
   have HE2:Hid (xE s.data.toList=s.data.toList.all Jx):=by
    show _=_
    rw [HE.out];simp [h1,h2]
   go_wp2
   go_loop [14] (fun i=>∃ k:Nat,k≤s.size∧i=.int .i64 k∧(s.data.toList.take k).all Jx=true) (fun i=>s.size - (intOf i).toNat)
   case atStart=>exact ⟨0,ah _,rfl,rfl⟩
   case round =>
    obtain ⟨k,hk,rfl,hall⟩:=hrel
    have Hall:=hid hall
    clear hall
    by_cases hlt:k < s.size
    ·have hbt:=(s[k]'hlt).toNat_lt
     have HT:Hid (Jx s[k]=true→(s.data.toList.take (k+1)).all Jx=true):=by
      intro h
      rw [KZ s k hlt,List.all_append,Hall.out]
      simp [h]
     have HA:Hid (Jx s[k]=false→xE s.data.toList=false):=by
      intro hf
      rw [HE2.out,List.all_eq_false]
      exact ⟨s[k],by have:=al (l:=s.data.toList) (n:=k) (by simpa using hlt);exact this,by simp [hf]⟩
     have HL:Hid (Jx s[k]=(decide (97≤(s[k]).toNat) && decide ((s[k]).toNat≤122))):=rfl
     by_cases h1:(s[k]).toNat < 97
     ·have h1i:((s[k]).toNat:Int) < 97:=by omega
      go_wp2
      go_ret
      exact ⟨jP (HA.out (by rw [HL.out];simp;omega)).symm,rfl⟩
     ·have h1i:¬ ((s[k]).toNat:Int) < 97:=by omega
      by_cases h2:122 < (s[k]).toNat
      ·have h2i:(122:Int) < ((s[k]).toNat:Int):=by omega
       go_wp2
       go_ret
       exact ⟨jP (HA.out (by rw [HL.out];simp;omega)).symm,rfl⟩
      ·have h2i:¬ (122:Int) < ((s[k]).toNat:Int):=by omega
       go_wp2
       go_round
       case rel=>exact ⟨k+1,by omega,by go_num,HT.out (by rw [HL.out];simp;omega)⟩
       case measure=>simp [intOf];omega
    ·have HF:Hid (xE s.data.toList=true):=by
      show _=_
      rw [HE2.out]
      have:=Hall.out
      rwa [aC (by simp;omega)] at this
     go_wp2
     go_ret
     exact ⟨jP HF.out.symm,rfl⟩
  ·have h2i:(8:Int) < (s.size:Int):=by omega
   have HF:Hid (xE s.data.toList=false):=by show _=_;rw [HE.out];simp [h2]
   go_wp2
   go_ret
   exact ⟨jP HF.out.symm,rfl⟩
 ·have h1i:(s.size:Int) < 1:=by omega
  have HF:Hid (xE s.data.toList=false):=by show _=_;rw [HE.out];simp [h1]
  go_wp2
  go_ret
  exact ⟨jP HF.out.symm,rfl⟩
theorem Dc (s:List UInt8) (w:World) (hs:s.length≤maxLen) :
  Calls Tryz.prog 268 #[strB s] w fun e w'=>e=.returned (.bool (xE s))∧w'=w :=
 Tu ⟨s.toArray⟩ w (by rw [jR];exact hs)
theorem IR (c:ColB) (hk:-9223372036854775808≤c.key):zV c=(xE c.name && ((decide (c.kind=0) || decide (c.kind=1)) && (decide (c.key=0) || (decide (1≤c.key) && decide (c.key≤9))))):=by
 apply Lu
 simp only [zV,au,cj,az]
 constructor
 ·rintro ⟨h1,h2,h3⟩;exact ⟨h1,by omega,by omega⟩
 ·rintro ⟨h1,h2,h3⟩;exact ⟨h1,by omega,by omega⟩
theorem US (c:ColB) (v:Value) (w:World) (hc:Sh c) (hv:v.oneCell'=true) :
  Calls Tryz.prog 254 #[colV c v] w fun e w'=>e=.returned (.bool (zV c))∧Below w.heap.size w w':=by
 obtain ⟨h1,h2,h3,h4⟩:=hc
 have HP:=hid (IR c h3)
 have H1:=hid h1
 have HB:=hid ((Below.refl w.heap.size w).alloc (ae _) (.cells #[strB c.name,.int .i64 c.kind,.int .i64 c.key,v] 61))
 obtain ⟨nm,kd,ky,cs⟩:=c
 simp only at *
 clear h1 h2
 generalize hA:xE nm=A at *
 generalize hA2:(decide (kd=0) || decide (kd=1))=A2 at *
 generalize hA3:(decide (1≤ky) && decide (ky≤9))=A3 at *
 have K1:=hid hA
 have K2:=hid hA2
 have K3:=hid hA3
 clear hA hA2 hA3
 go_enter Tryz.func254,Tryz.ntmps254
 go_wp2_with fail
 refine (Dc nm _ H1.out).mono ?_
 rintro e w1 ⟨rfl,rfl⟩
 rw [K1.out]
 cases A with
 | false =>
  go_wp2
  go_ret
  exact ⟨jP HP.out.symm,HB.out⟩
 | true =>
  go_wp2_with fail
  refine (Px kd _).mono ?_
  rintro e w1 ⟨rfl,rfl⟩
  rw [K2.out]
  cases A2 with
  | false =>
   go_wp2
   go_ret
   exact ⟨jP HP.out.symm,HB.out⟩
  | true =>
   by_cases hk:ky=0
   ·subst hk
    go_wp2
    go_ret
    exact ⟨jP (by rw [HP.out];simp),HB.out⟩
   ·have hk2:(ky == 0)=false:=by simp [hk]
    have Hk:=hid hk
    clear hk
    go_wp2_with fail
    refine (ZK ky _).mono ?_
    rintro e w1 ⟨rfl,rfl⟩
    rw [K3.out]
    go_wp2
    go_ret
    exact ⟨jP (by rw [HP.out];simp [Hk.out]),HB.out⟩
theorem II (a:Option Addr) (cap:Nat) (t:List ColB) (s:List UInt8) (w:World) (hm:t.length≤maxLen) (hs:s.length≤maxLen) (hl:LiesT w a t) :
  Calls Tryz.prog 255 #[.slice a t.length cap,strB s] w fun e w'=>e=.returned (.bool (zq t s))∧Below w.heap.size w w':=by
 have Hl:=hid hl
 clear hl
 unfold maxLen at hm hs
 go_enter Tryz.func255,Tryz.ntmps255
 go_wp2
 go_loopw [9] (fun i wr=>∃ k:Nat,k≤t.length∧i=.int .i64 k∧zq (t.take k) s=false∧Below w.heap.size w wr) (fun i _=>t.length - (intOf i).toNat)
 case atStart=>exact ⟨0,ah _,rfl,rfl,Below.refl _ _⟩
 case round =>
  obtain ⟨k,hkl,rfl,hno,hB⟩:=hrel
  have Hno:=hid hno
  clear hno
  by_cases hlt:k < t.length
  ·obtain ⟨b,off,rfl,hbw,hcell⟩:=(Hl.out.later hB).at_ (ai (by omega))
   obtain ⟨g1,g2,g3,v,g4,ca,cap2,rfl,_⟩:=hcell k hlt
   clear hcell
   have hki:(k:Int) < (t.length:Int):=by omega
   have HB1:=hid (hB.alloc hB.size (Obj.cells #[strB (t[k]).name,.int .i64 (t[k]).kind,.int .i64 (t[k]).key,.slice ca (t[k]).cells.length cap2] 61))
   have HS:=hid (UU (t:=t) (k:=t.length) (m:=k) hlt hlt s)
   rw [aF] at HS
   by_cases he:(t[k]).name=s
   ·have HH:Hid (zq t s=true):=by
     simp only [Hid,zq,cO]
     exact ⟨t[k],al hlt,by simp [he]⟩
    rw [he] at g1
    rw [he] at HB1
    clear he
    go_wp2
    go_ret
    exact ⟨jP HH.out.symm,HB1.out⟩
   ·have hne:((t[k]).name == s)=false:=by simpa using he
    have He:=hid he
    clear he
    go_wp2
    go_roundw
    case rel=>exact ⟨k+1,by omega,by go_num,by rw [HS.out,Hno.out];simp [He.out],HB1.out⟩
    case measure=>simp [intOf];omega
  ·go_wp2
   go_ret
   exact ⟨jP (by have:=Hno.out;rw [aC (by omega)] at this;rw [this]),hB⟩
theorem LiesT.take {w:World} {a:Option Addr} {t:List ColB} (h:LiesT w a t) (k:Nat):LiesT w a (t.take k):=by
 refine ⟨fun c hc=>h.ok c (bg hc),fun hne=>?_⟩
 obtain ⟨b,off,ha,hb,hc⟩:=h.at_ (fun e=>hne (by rw [e];simp))
 refine ⟨b,off,ha,hb,fun j hj=>?_⟩
 have hj':j < t.length:=by rw [aq] at hj;omega
 have e:(t.take k)[j]=t[j]:=cD
 rw [e]
 exact hc j hj'
theorem EN (a:Option Addr) (cap k:Nat) (t:List ColB) (s:List UInt8) (w:World) (hm:t.length≤maxLen) (hs:s.length≤maxLen) (hk:k≤t.length) (hl:LiesT w a t) :
  Calls Tryz.prog 255 #[.slice a k cap,strB s] w fun e w'=>e=.returned (.bool (zq (t.take k) s))∧Below w.heap.size w w':=by
 have e:(t.take k).length=k:=by rw [aq];omega
 have:=II a cap (t.take k) s w (by omega) hs (hl.take k)
 rw [e] at this
 exact this
theorem AF (a:Option Addr) (cap:Nat) (t:List ColB) (w:World) (hm:t.length≤maxLen) (hcap:t.length≤cap) (hl:LiesT w a t) :
  Calls Tryz.prog 212 #[.slice a t.length cap] w fun e w'=>e=.returned (.bool (jZ t))∧Below w.heap.size w w':=by
 have Hl:=hid hl
 clear hl
 have hm0:=hm
 unfold maxLen at hm
 have HE:Hid (jZ t=(JO t t.length && (decide (1≤t.length) && decide (t.length≤6)))):=rfl
 by_cases h1:1≤t.length
 ·have h1i:¬ (t.length:Int) < 1:=by omega
  by_cases h6:t.length≤6
  ·have h6i:¬ (6:Int) < (t.length:Int):=by omega
   have HE2:Hid (jZ t=JO t t.length):=by show _=_;rw [HE.out];simp [h1,h6]
   go_enter Tryz.func212,Tryz.ntmps212
   go_wp2
   go_loopw [15] (fun i wr=>∃ k:Nat,k≤t.length∧i=.int .i64 k∧JO t k=true∧Below w.heap.size w wr) (fun i _=>t.length - (intOf i).toNat)
   case atStart=>exact ⟨0,ah _,rfl,rfl,Below.refl _ _⟩
   case round =>
    obtain ⟨k,hkl,rfl,hall,hB⟩:=hrel
    have Hall:=hid hall
    clear hall
    by_cases hlt:k < t.length
    ·obtain ⟨b,off,rfl,hbw,hcell⟩:=(Hl.out.later hB).at_ (ai (by omega))
     obtain ⟨g1,g2,g3,v,g4,ca,cap2,rfl,_⟩:=hcell k hlt
     clear hcell
     have Hok:=hid (Hl.out.ok t[k] (al hlt))
     have hnl:(t[k]).name.length≤maxLen:=Hok.out.1
     have Hnl:=hid hnl
     clear hnl
     have HT:=hid (Vy hlt Hall.out)
     have HN:=hid (Ri (t:=t) hlt)
     have hki:(k:Int) < (t.length:Int):=by omega
     have hkc:(k:Int)≤(cap:Int):=by omega
     go_wp2_with fail
     obtain ⟨hbb,hsb,hcb,_⟩:=qm wr #[strB (t[k]).name,.int .i64 (t[k]).kind,.int .i64 (t[k]).key,.slice ca (t[k]).cells.length cap2] 61
     have y0:=hcb 0
     have y1:=hcb 1
     have y2:=hcb 2
     have y3:=hcb 3
     simp only [bw,bm,bn] at y0 y1 y2 y3
     have HBb:=hid (hB.trans (hbb.mono hB.size))
     clear hcb hbb g1 g2 g3 g4 hB hbw
     generalize wr.alloc _=wb at *
     have HL:=hid (Hl.out.later HBb.out)
     cases hh:zV t[k] with
     | false =>
      have Hh:=hid hh
      clear hh
      first|go_region_with (first
       | (go_at_call 254;refine (US t[k] (.slice ca (t[k]).cells.length cap2) _ Hok.out rfl).mono ?_;rintro e w5 ⟨rfl,hb5⟩;rw [Hh.out];replace hb5:=ji hb5))|fail
      all_goals
       go_simp
       go_wp2
       go_ret
       exact ⟨jP (HN.out (by rw [Hh.out];rfl)).symm,HBb.out.trans (hb5.mono HBb.out.size)⟩
     | true =>
      have Hh:=hid hh
      clear hh
      first|go_region_with (first
       | (go_at_call 254;refine (US t[k] (.slice ca (t[k]).cells.length cap2) _ Hok.out rfl).mono ?_;rintro e w5 ⟨rfl,hb5⟩;rw [Hh.out];replace hb5:=ji hb5;have z0:=(hb5.cell (p:=⟨wr.heap.size,0,none⟩) hsb).trans y0)
       | (go_at_call 255;refine (EN (some ⟨b,off,none⟩) cap k t (t[k]).name _ hm0 Hnl.out hkl (HL.out.later hb5)).mono ?_;rintro e w6 ⟨rfl,hb6⟩))|fail
      have hB6:=HBb.out.trans (((hb5.trans (hb6.mono hb5.size))).mono HBb.out.size)
      go_simp
      cases hx:zq (t.take k) (t[k]).name with
      | true =>
       have Hx:=hid hx
       clear hx
       go_wp2
       go_ret
       exact ⟨jP (HN.out (by rw [Hx.out];simp)).symm,hB6⟩
      | false =>
       have Hx:=hid hx
       clear hx
       go_wp2
       go_roundw
       case rel=>exact ⟨k+1,by omega,by go_num,by rw [HT.out,Hh.out,Hx.out];rfl,hB6⟩
       case measure=>simp [intOf];omega
    ·have hke:k=t.length:=by omega
     subst hke
     go_wp2
     go_ret
     exact ⟨jP (by rw [HE2.out,Hall.out]),hB⟩
  ·have h6i:(6:Int) < (t.length:Int):=by omega
   have HF:Hid (jZ t=false):=by show _=_;rw [HE.out];simp [h6]
   go_enter Tryz.func212,Tryz.ntmps212
   go_wp2
   go_ret
   exact ⟨jP HF.out.symm,Below.refl _ _⟩
 ·have h1i:(t.length:Int) < 1:=by omega
  have HF:Hid (jZ t=false):=by show _=_;rw [HE.out];simp [h1]
  go_enter Tryz.func212,Tryz.ntmps212
  go_wp2
  go_ret
  exact ⟨jP HF.out.symm,Below.refl _ _⟩
end
end Go.Proofs.YthhpbhpfagoapaaGreat
