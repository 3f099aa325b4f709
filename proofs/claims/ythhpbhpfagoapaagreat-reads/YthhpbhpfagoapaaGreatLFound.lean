import Derived.Test.YthhpbhpfagoapaaGreatJAA
import Derived.Test.YthhpbhpfagoapaaGreatRTk
import Derived.Test.YthhpbhpfagoapaaGreatJAJ
import Derived.Test.YthhpbhpfagoapaaGreatJAD
import Derived.Test.YthhpbhpfagoapaaGreatJBP
import Derived.Test.YthhpbhpfagoapaaGreatJBG
import Derived.Test.YthhpbhpfagoapaaGreatYLay
import Derived.Test.YthhpbhpfagoapaaGreatJBO
import Derived.Test.YthhpbhpfagoapaaGreatJBQ
import Derived.Test.YthhpbhpfagoapaaGreatJAZ
namespace Go.Proofs.YthhpbhpfagoapaaGreat
set_option linter.unusedVariables false
set_option linter.unusedSimpArgs false
set_option maxRecDepth 100000
set_option maxHeartbeats 16000000
open Go.RowKit
section
theorem PY (a a2:Option Addr) (cap cap2:Nat) (F:Nat→FoundB) (n:Nat) (w:World) (hm:n≤1000) (hl:LiesF w a F n) (hl2:LiesF w a2 F n) :
  Calls Tryz.prog 39 #[.slice a n cap,.slice a2 n cap2] w fun e w'=>e=.returned (.bool true)∧Below w.heap.size w w':=by
 have Hl:=hid hl
 have Hl2:=hid hl2
 clear hl hl2
 have hne:((n:Int) != (n:Int))=false:=by simp
 go_enter Tryz.func39,Tryz.ntmps39
 go_wp2
 go_loopw [5] (fun i wr=>∃ k:Nat,k≤n∧i=.int .i64 (k:Int)∧Below w.heap.size w wr) (fun i _=>n - (intOf i).toNat)
 case atStart=>exact ⟨0,ah _,rfl,Below.refl _ _⟩
 case round =>
  obtain ⟨k,hk,rfl,hB⟩:=hrel
  have HB:=hid hB
  clear hne
  by_cases hlt:k < n
  ·obtain ⟨b,rfl,hbw,hcell⟩:=(Hl.out.later hB).at_ (by omega)
   obtain ⟨ca,cc,g1,g2,g3,g4,g5,g6,g7⟩:=hcell k hlt
   obtain ⟨b',rfl,hbw',hcell'⟩:=(Hl2.out.later hB).at_ (by omega)
   obtain ⟨ca',cc',k1,k2,k3,k4,k5,k6,k7⟩:=hcell' k hlt
   clear hcell hcell' k7 hB
   have hki:(k:Int) < (n:Int):=by omega
   have HSC:=hid (fun w' (hb:Below wr.heap.size wr w')=>Lg ca ca' cc cc' (F k).cells w' (by unfold maxLen;omega) (g6.later hb) (k6.later hb))
   clear g6 k6
   generalize (F k).cells=ce at *
   generalize (F k).name=nm at *
   generalize (F k).kind=kd at *
   generalize (F k).key=ky at *
   generalize (F k).state=st at *
   generalize ce.length=m at *
   have HS0:=hid (show wr.cell? ⟨b,k*5,none⟩=some (strB nm)∧wr.cell? ⟨b,k*5+1,none⟩=some (.int .i64 kd)∧wr.cell? ⟨b,k*5+2,none⟩=some (.int .i64 ky)∧wr.cell? ⟨b,k*5+3,none⟩=some (.int .i64 st)∧wr.cell? ⟨b,k*5+4,none⟩=some (.slice ca m cc)∧wr.cell? ⟨b',k*5,none⟩=some (strB nm)∧wr.cell? ⟨b',k*5+1,none⟩=some (.int .i64 kd)∧wr.cell? ⟨b',k*5+2,none⟩=some (.int .i64 ky)∧wr.cell? ⟨b',k*5+3,none⟩=some (.int .i64 st)∧wr.cell? ⟨b',k*5+4,none⟩=some (.slice ca' m cc') from ⟨g1,g2,g3,g4,g5,k1,k2,k3,k4,k5⟩)
   have HLT:=hid (bH hbw hbw')
   clear g1 g2 g3 g4 g5 k1 k2 k3 k4 k5 hbw hbw' g7
   go_upto_region 6 with fail
   refine wp_region_held_drew (S:=fun w'=>w'.cell? ⟨b,k*5,none⟩=some (strB nm)∧w'.cell? ⟨b,k*5+1,none⟩=some (.int .i64 kd)∧w'.cell? ⟨b,k*5+2,none⟩=some (.int .i64 ky)∧w'.cell? ⟨b,k*5+3,none⟩=some (.int .i64 st)∧w'.cell? ⟨b,k*5+4,none⟩=some (.slice ca m cc)∧w'.cell? ⟨b',k*5,none⟩=some (strB nm)∧w'.cell? ⟨b',k*5+1,none⟩=some (.int .i64 kd)∧w'.cell? ⟨b',k*5+2,none⟩=some (.int .i64 ky)∧w'.cell? ⟨b',k*5+3,none⟩=some (.int .i64 st)∧w'.cell? ⟨b',k*5+4,none⟩=some (.slice ca' m cc')) (by kernel_rfl) HS0.out (fun hHeld=>?_)
   refine tk 0 (.slice (some ⟨b,0,none⟩) n cap) ?_
   refine tk 1 (.int .i64 (k:Int)) ?_
   refine tk 2 (.pointer (some ⟨b,k*5,none⟩)) ?_
   refine tk 3 (.pointer (some ⟨b,k*5+4,none⟩)) ?_
   refine tk 4 (.slice ca m cc) ?_
   refine tk 5 (.slice (some ⟨b',0,none⟩) n cap2) ?_
   refine tk 6 (.int .i64 (k:Int)) ?_
   refine tk 7 (.pointer (some ⟨b',k*5,none⟩)) ?_
   refine tk 8 (.pointer (some ⟨b',k*5+4,none⟩)) ?_
   refine tk 9 (.slice ca' m cc') ?_
   simp only [jA,jB,jC,Act.put,jD,jE,jF]
   refine rd 10 (fun K hK=>?_)
   simp only [jA,jB,jC]
   go_simp
   go_at_call 92
   refine (HSC.out _ (qe (Below.refl _ _))).mono ?_
   rintro e w1 ⟨rfl,hb1⟩
   have hb1':=ji hb1
   have HB1:=hid (HB.out.trans (hb1'.mono HB.out.size))
   have HS1:Hid (w1.cell? ⟨b,k*5,none⟩=some (strB nm)∧w1.cell? ⟨b,k*5+1,none⟩=some (.int .i64 kd)∧w1.cell? ⟨b,k*5+2,none⟩=some (.int .i64 ky)∧w1.cell? ⟨b,k*5+3,none⟩=some (.int .i64 st)∧w1.cell? ⟨b,k*5+4,none⟩=some (.slice ca m cc)∧w1.cell? ⟨b',k*5,none⟩=some (strB nm)∧w1.cell? ⟨b',k*5+1,none⟩=some (.int .i64 kd)∧w1.cell? ⟨b',k*5+2,none⟩=some (.int .i64 ky)∧w1.cell? ⟨b',k*5+3,none⟩=some (.int .i64 st)∧w1.cell? ⟨b',k*5+4,none⟩=some (.slice ca' m cc')):=by
    obtain ⟨a1,a2,a3,a4,a5,b1,b2,b3,b4,b5⟩:=HS0.out
    obtain ⟨l1,l2⟩:=HLT.out
    exact ⟨(hb1'.cell (p:=⟨b,_,none⟩) l1).trans a1,(hb1'.cell (p:=⟨b,_,none⟩) l1).trans a2,(hb1'.cell (p:=⟨b,_,none⟩) l1).trans a3,(hb1'.cell (p:=⟨b,_,none⟩) l1).trans a4,(hb1'.cell (p:=⟨b,_,none⟩) l1).trans a5,(hb1'.cell (p:=⟨b',_,none⟩) l2).trans b1,(hb1'.cell (p:=⟨b',_,none⟩) l2).trans b2,(hb1'.cell (p:=⟨b',_,none⟩) l2).trans b3,(hb1'.cell (p:=⟨b',_,none⟩) l2).trans b4,(hb1'.cell (p:=⟨b',_,none⟩) l2).trans b5⟩
   clear hb1 hb1' HSC
   try go_wp2_with fail
   refine hK.out _ _ HS1.out (fun hHeld=>?_)
   clear hK K
   try simp only [jA,jB,jC,Act.put,jD,jE,jF]
   refine tk 11 (.bool true) ?_
   simp only [jA,jB,jC,Act.put,jD,jE,jF]
   refine wpAnyH_done (by kernel_rfl) ?_ _
   clear hHeld
   go_upto_region 7 with fail
   refine wp_region_held_drew (S:=fun w'=>w'.cell? ⟨b,k*5,none⟩=some (strB nm)∧w'.cell? ⟨b,k*5+1,none⟩=some (.int .i64 kd)∧w'.cell? ⟨b,k*5+2,none⟩=some (.int .i64 ky)∧w'.cell? ⟨b,k*5+3,none⟩=some (.int .i64 st)∧w'.cell? ⟨b,k*5+4,none⟩=some (.slice ca m cc)∧w'.cell? ⟨b',k*5,none⟩=some (strB nm)∧w'.cell? ⟨b',k*5+1,none⟩=some (.int .i64 kd)∧w'.cell? ⟨b',k*5+2,none⟩=some (.int .i64 ky)∧w'.cell? ⟨b',k*5+3,none⟩=some (.int .i64 st)∧w'.cell? ⟨b',k*5+4,none⟩=some (.slice ca' m cc')) (by kernel_rfl) HS1.out (fun hHeld=>?_)
   refine tk 0 (.slice (some ⟨b,0,none⟩) n cap) ?_
   refine tk 1 (.int .i64 (k:Int)) ?_
   refine tk 2 (.pointer (some ⟨b,k*5,none⟩)) ?_
   refine tk 3 (.pointer (some ⟨b,k*5,none⟩)) ?_
   refine tk 4 (strB nm) ?_
   refine tk 5 (.slice (some ⟨b',0,none⟩) n cap2) ?_
   refine tk 6 (.int .i64 (k:Int)) ?_
   refine tk 7 (.pointer (some ⟨b',k*5,none⟩)) ?_
   refine tk 8 (.pointer (some ⟨b',k*5,none⟩)) ?_
   refine tk 9 (strB nm) ?_
   refine tk 10 (.bool false) ?_
   refine tk 11 (.bool false) ?_
   refine tk 12 (.slice (some ⟨b,0,none⟩) n cap) ?_
   refine tk 13 (.int .i64 (k:Int)) ?_
   refine tk 14 (.pointer (some ⟨b,k*5,none⟩)) ?_
   refine tk 15 (.pointer (some ⟨b,k*5+1,none⟩)) ?_
   refine tk 16 (.int .i64 kd) ?_
   refine tk 17 (.slice (some ⟨b',0,none⟩) n cap2) ?_
   refine tk 18 (.int .i64 (k:Int)) ?_
   refine tk 19 (.pointer (some ⟨b',k*5,none⟩)) ?_
   refine tk 20 (.pointer (some ⟨b',k*5+1,none⟩)) ?_
   refine tk 21 (.int .i64 kd) ?_
   refine tk 22 (.bool false) ?_
   refine tk 23 (.bool false) ?_
   refine tk 24 (.bool false) ?_
   refine tk 25 (.slice (some ⟨b,0,none⟩) n cap) ?_
   refine tk 26 (.int .i64 (k:Int)) ?_
   refine tk 27 (.pointer (some ⟨b,k*5,none⟩)) ?_
   refine tk 28 (.pointer (some ⟨b,k*5+2,none⟩)) ?_
   refine tk 29 (.int .i64 ky) ?_
   refine tk 30 (.slice (some ⟨b',0,none⟩) n cap2) ?_
   refine tk 31 (.int .i64 (k:Int)) ?_
   refine tk 32 (.pointer (some ⟨b',k*5,none⟩)) ?_
   refine tk 33 (.pointer (some ⟨b',k*5+2,none⟩)) ?_
   refine tk 34 (.int .i64 ky) ?_
   refine tk 35 (.bool false) ?_
   refine tk 36 (.bool false) ?_
   refine tk 37 (.bool false) ?_
   refine tk 38 (.slice (some ⟨b,0,none⟩) n cap) ?_
   refine tk 39 (.int .i64 (k:Int)) ?_
   refine tk 40 (.pointer (some ⟨b,k*5,none⟩)) ?_
   refine tk 41 (.pointer (some ⟨b,k*5+3,none⟩)) ?_
   refine tk 42 (.int .i64 st) ?_
   refine tk 43 (.slice (some ⟨b',0,none⟩) n cap2) ?_
   refine tk 44 (.int .i64 (k:Int)) ?_
   refine tk 45 (.pointer (some ⟨b',k*5,none⟩)) ?_
   refine tk 46 (.pointer (some ⟨b',k*5+3,none⟩)) ?_
   refine tk 47 (.int .i64 st) ?_
   refine tk 48 (.bool false) ?_
   refine tk 49 (.bool false) ?_
   refine tk 50 (.bool false) ?_
   refine tk 51 (.bool true) ?_
   refine tk 52 (.bool false) ?_
   refine tk 53 (.bool false) ?_
   simp only [jA,jB,jC,Act.put,jD,jE,jF]
   refine wpAnyH_done (by kernel_rfl) ?_ _
   clear hHeld
   go_wp2
   go_roundw
   case rel=>exact ⟨k+1,by omega,by go_num,qe HB1.out⟩
   case measure=>simp [intOf];omega
  ·have hke:k=n:=by omega
   subst hke
   go_wp2
   go_ret
   exact ⟨rfl,HB.out⟩
end
section
def Sb (file pre:List UInt8) (r:List KeyB) (trust:Bool) (w:World) (e:Ending) (w':World):Prop :=
 Below w.heap.size w w'∧((∃ err,qO file pre r trust=(err,none)∧err≠0∧e=.returned (.tuple #[.pointer none,.int .i64 err])) ∨
  ∃ S B a cap,qO file pre r trust=(0,some S)∧e=.returned (.tuple #[.pointer (some ⟨B,0,none⟩),.int .i64 0])∧w'.cell? ⟨B,0,none⟩=some (.slice a S.cols.length cap)∧LiesF w' a (xh pre r S) S.cols.length)
def Xm:Prop:=∀ (file pre:List UInt8) (ra:Option Addr) (rcap:Nat) (r:List KeyB) (trust:Bool) (w:World),file.length≤maxLen→pre.length≤maxLen→r.length≤maxLen→LiesK w ra r →
 Calls Tryz.prog 38 #[strB file,strB pre,.slice ra r.length rcap,.bool trust] w (Sb file pre r trust w)
theorem Tj (hdoc:Xm) (hshort:Rq) (file pre:List UInt8) (ra:Option Addr) (rcap:Nat) (r:List KeyB) (trust:Bool) (w:World) (hfl:file.length≤maxLen) (hpl:pre.length≤maxLen) (hrm:r.length*24≤140737488351232) (hrl:r.length≤maxLen) (hl:LiesK w ra r) :
  Calls Tryz.prog 10 #[strB file,strB pre,.slice ra r.length rcap,.bool trust] w fun e w'=>∃ v,e=.returned (.tuple #[v,.bool true])∧Below w.heap.size w w':=by
 have Hl:=hid hl
 have HD:=hid (fun w' (h:LiesK w' ra r)=>hdoc file pre ra rcap r trust w' hfl hpl hrl h)
 have HSH:=hid (hshort file pre r trust)
 clear hl hdoc hshort
 go_enter Tryz.func10,Tryz.ntmps10
 go_wp2_with fail
 refine (DE ra rcap r w hrm Hl.out).mono ?_
 rintro e w2 ⟨q,rfl,hK2,hb2⟩
 have HK2:=hid hK2
 have HR2:Hid (LiesK w2 (some ⟨q,0,none⟩) r):=GA (by have:=HK2.out;rw [Ko] at this;exact this) Hl.out.ok
 have HB2:=hid hb2
 clear hK2 hb2
 go_wp2_with fail
 refine (Ch file pre (some ⟨q,0,none⟩) (r.length+8) r trust w2 hfl hpl hrl HR2.out).mono ?_
 rintro e w3 ⟨hb3,hcase⟩
 have HB3:=hid (HB2.out.trans (hb3.mono HB2.out.size))
 have HK3:=hid (jx HK2.out hb3)
 have HL3:=hid (Hl.out.later HB3.out)
 clear hb3 HK2 HR2 HB2
 rcases hcase with ⟨err,hsf,herr,rfl⟩|⟨S,v,Vs,hsf,rfl,hfa⟩
 ·have Hsf:=hid hsf
  have Herr:=hid herr
  have hne:(err != 0)=true:=by rw [bne_iff_ne];exact herr
  clear hsf herr
  go_wp2_with fail
  refine (NC ra rcap q w.heap.size r w3 hrm HL3.out HK3.out).mono ?_
  rintro e w4 ⟨rfl,hb4⟩
  have HB4:=hid (HB3.out.trans (hb4.mono HB3.out.size))
  have HL4:=hid (HL3.out.later hb4)
  clear hb4
  go_wp2_with fail
  refine (HD.out w4 HL4.out).mono ?_
  rintro e w5 ⟨hb5,⟨err',hsf',_,rfl⟩|⟨S,B,a,cap,hsf',_⟩⟩
  ·rw [Hsf.out] at hsf'
   injection hsf' with he _
   subst he
   have HB5:=hid (HB4.out.trans (hb5.mono HB4.out.size))
   have hee:(err == err)=true:=by simp
   clear hb5
   go_wp2
   go_ret2
   exact ⟨_,rfl,HB5.out⟩
  ·rw [Hsf.out] at hsf'
   injection hsf' with _ h2
   cases h2
 ·have Hsf:=hid hsf
  obtain ⟨hn,hsh⟩:=HSH.out S hsf
  obtain ⟨a,cap,rfl,hlf⟩:=hfa.lies hsh
  have Hlf:=hid hlf
  clear hsf hsh hfa hlf
  go_wp2_with fail
  refine (NC ra rcap q w.heap.size r w3 hrm HL3.out HK3.out).mono ?_
  rintro e w4 ⟨rfl,hb4⟩
  have HB4:=hid (HB3.out.trans (hb4.mono HB3.out.size))
  have HL4:=hid (HL3.out.later hb4)
  have HF4:=hid (Hlf.out.later hb4)
  clear hb4
  go_wp2_with fail
  refine (HD.out w4 HL4.out).mono ?_
  rintro e w5 ⟨hb5,⟨err',hsf',herr',_⟩|⟨S',B,a',cap',hsf',rfl,hc5,hlf'⟩⟩
  ·rw [Hsf.out] at hsf'
   injection hsf' with he _
   exact absurd he.symm herr'
  ·rw [Hsf.out] at hsf'
   injection hsf' with _ he
   injection he with he
   subst he
   have HB5:=hid (HB4.out.trans (hb5.mono HB4.out.size))
   have HF5:=hid (HF4.out.later hb5)
   have HF5':=hid hlf'
   clear hb5 hlf'
   generalize xh pre r S=F at *
   generalize S.cols.length=n at *
   go_wp2_with fail
   refine (PY a a' cap cap' F n w5 hn HF5.out HF5'.out).mono ?_
   rintro e w6 ⟨rfl,hb6⟩
   have HB6:=hid (HB5.out.trans (hb6.mono HB5.out.size))
   clear hb6
   go_wp2
   go_ret2
   exact ⟨_,rfl,HB6.out⟩
theorem Md (hdoc:Xm) (file pre:List UInt8) (ra:Option Addr) (rcap:Nat) (r:List KeyB) (trust:Bool) (w:World) (hfl:file.length≤maxLen) (hpl:pre.length≤maxLen) (hrm:r.length*24≤140737488351232) (hrl:r.length≤maxLen) (hl:LiesK w ra r) :
  Calls Tryz.prog 4 #[strB file,strB pre,.slice ra r.length rcap,.bool trust] w fun e w'=>e=.returned (.bool true)∧Below w.heap.size w w':=by
 have HR:=hid (Tj hdoc GG file pre ra rcap r trust w hfl hpl hrm hrl hl)
 clear hdoc hl
 go_enter Tryz.func4,Tryz.ntmps4
 go_wp2_with fail
 refine HR.out.mono ?_
 rintro e w1 ⟨v,rfl,hb1⟩
 have HB1:=hid hb1
 clear hb1
 go_wp2
 go_ret
 exact ⟨rfl,HB1.out⟩
end
section
theorem FoundsAt.aside {base b e s m:Nat} {x y:World} {v u:Value} {zs:List Value} {F:Nat→FoundB} {n:Nat} {Vs:Nat→Value} (h:FoundsAt base x v F n Vs) (hg:x.grownBy y u.ownBlock) (ho:x.ownsRow b e s u m zs) (h1:91≠e) (h2:58≠e):FoundsAt base y v F n Vs :=
 ⟨h.row.kept hg (qj h.row ho h1),fun j hj=>(h.cells j hj).kept hg (qj (h.cells j hj) ho h2),h.small,h.apart⟩
theorem FoundsAt.under {base B:Nat} {x y:World} {v:Value} {F:Nat→FoundB} {n:Nat} {Vs:Nat→Value} (h:FoundsAt base x v F n Vs) (hg:x.grownBy y (some B)) (hB:B < base):FoundsAt base y v F n Vs :=
 ⟨h.row.kept hg (Jq h.row hB),fun j hj=>(h.cells j hj).kept hg (Jq (h.cells j hj) hB),h.small,h.apart⟩
theorem ToldAt.aside {x y:World} {T base b e s m:Nat} {S:SheetF} {u:Value} {zs:List Value} (h:ToldAt x T base S) (hg:x.grownBy y u.ownBlock) (ho:x.ownsRow b e s u m zs) (h1:179≠e) (h2:61≠e) (h3:161≠e) (h4:9≠e) (h5:167≠e):ToldAt y T base S:=by
 obtain ⟨cv,sv,pv,ev,k1,k2,k3,k4,k5⟩:=h
 exact ⟨cv,sv,pv,ev,jq hg ho k1 h1,k2.kept hg (qj k2 ho h2),k3.kept hg (qj k3 ho h3),k4.kept hg (qj k4 ho h4),k5.kept hg (qj k5 ho h5)⟩
theorem ToldAt.box {x y:World} {T base B:Nat} {S:SheetF} {cs:Array Value} (h:ToldAt x T base S) (hg:x.grownBy y (some B)) (hB:x.heap[B]?=some (.cells cs 106 (0,0))):ToldAt y T base S:=by
 obtain ⟨cv,sv,pv,ev,k1,k2,k3,k4,k5⟩:=h
 have hne:T≠B:=by
  intro e
  subst e
  rw [hB] at k1
  injection k1 with k1
  injection k1 with _ k6 _
  exact absurd k6 (by decide)
 exact ⟨cv,sv,pv,ev,qp hg k1 hne,k2.kept hg (qT k2 hB (by decide)),k3.kept hg (qT k3 hB (by decide)),k4.kept hg (qT k4 hB (by decide)),k5.kept hg (qT k5 hB (by decide))⟩
structure RAt (x w:World) (fb ob:Nat) (f:FormF) (fv sv:Value) (F:Nat→FoundB) (k:Nat) (Vs:Nat→Value) (Z:List SealB):Prop where
 below:Below w.heap.size w x
 lo:w.heap.size≤fb
 lt:fb < ob
 file:x.heap[fb]?=some (.cells (fileC f) 169 (0,0))
 out:x.heap[ob]?=some (.cells #[fv,sv] 106 (0,0))
 found:FoundsAt (ob+1) x fv F k Vs
 seals:x.ownsRow (ob+1) 40 4 sv Z.length (zg Z)
section
variable {x y w:World} {fb ob:Nat} {f:FormF} {fv sv:Value} {F:Nat→FoundB} {k:Nat} {Vs:Nat→Value} {Z:List SealB}
theorem RAt.size (h:RAt x w fb ob f fv sv F k Vs Z):ob+1≤x.heap.size:=Nat.succ_le_of_lt (ag.1 h.out).1
theorem RAt.later (h:RAt x w fb ob f fv sv F k Vs Z) (hb:Below x.heap.size x y):RAt y w fb ob f fv sv F k Vs Z :=
 ⟨h.below.trans (hb.mono h.below.size),h.lo,h.lt,jb hb h.file,jb hb h.out,h.found.later hb,jx h.seals hb⟩
theorem RAt.alloc (h:RAt x w fb ob f fv sv F k Vs Z) (o:Obj):RAt (x.alloc o) w fb ob f fv sv F k Vs Z :=
 h.later ((Below.refl x.heap.size x).alloc (ae _) o)
theorem RAt.drew (h:RAt x w fb ob f fv sv F k Vs Z):RAt x.drew w fb ob f fv sv F k Vs Z :=
 h.later (qe (Below.refl x.heap.size x))
theorem RAt.filec (h:RAt x w fb ob f fv sv F k Vs Z):x.cell? ⟨fb,1,none⟩=some (.int .i64 (f.foot:Int))∧x.cell? ⟨fb,4,none⟩=some (strB f.nonce)∧x.cell? ⟨fb,5,none⟩=some (strB f.body):=by
 obtain ⟨_,h1,_,_,h4,h5⟩:=JU h.file
 exact ⟨h1,h4,h5⟩
theorem RAt.rowB (h:RAt x w fb ob f fv sv F k Vs Z) (B:Nat) (cs:Array Value) {old:Array Value} (hw:ob+1≤B) (hB:x.heap[B]?=some (.cells old 40 (0,0))) (h2:sv.ownBlock=none∨sv.ownBlock≠some B):RAt (x.setRow B cs) w fb ob f fv sv F k Vs Z:=by
 have hg:=QN x B cs
 have:=h.lo
 have:=h.lt
 exact ⟨h.below.trans (jg hg (by omega) h.below.size),h.lo,h.lt,qp hg h.file (by omega),qp hg h.out (by omega),⟨h.found.row.kept hg (qT h.found.row hB (by decide)),fun j hj=>(h.found.cells j hj).kept hg (qT (h.found.cells j hj) hB (by decide)),h.found.small,h.found.apart⟩,h.seals.kept hg h2⟩
theorem RAt.sealUp (h:RAt x w fb ob f fv sv F k Vs Z) {sv':Value} {Z':List SealB} (hg:x.grownBy y sv.ownBlock) (ho:y.ownsRow (ob+1) 40 4 sv' Z'.length (zg Z')):RAt (y.setCell ⟨ob,1,none⟩ sv') w fb ob f fv sv' F k Vs Z':=by
 have h1:=h.lo
 have h2:=h.lt
 have hout:=xk hg h.seals h.out (by omega)
 have hset:=Jc y ob 1 sv'
 have hB:=Jk h.below hg (fun k hk=>by have:=(h.seals.lt k hk).1;omega)
 refine ⟨hB.trans (jg hset (by omega) hB.size),h.lo,h.lt,qp hset (xk hg h.seals h.file (by omega)) (by omega),?_,(h.found.aside hg h.seals (by decide) (by decide)).under hset (by omega),ho.kept hset (Jq ho (by omega))⟩
 rw [heap_setCell_same y ob 1 _ _ sv' hout]
 rfl
theorem RAt.foundUp (h:RAt x w fb ob f fv sv F k Vs Z) {fv' u:Value} {B:Nat} (hB:∀ j,j < k→∀ a,(Vs j).ownBlock=some a→a < B) (hu:x.ownsRow B 58 3 u (F k).cells.length (jO (F k).cells)) (hbB:ob+1≤B) (hs:∀ z ∈ (F k).cells,qr z)
  (hg:x.grownBy y fv.ownBlock) (ho:y.ownsRow (ob+1) 91 5 fv' (k+1) (JX F Vs k++Uu (F k) u)):RAt (y.setCell ⟨ob,0,none⟩ fv') w fb ob f fv' sv F (k+1) (fun j=>if j=k then u else Vs j) Z:=by
 have h1:=h.lo
 have h2:=h.lt
 have hout:=xk hg h.found.row h.out (by omega)
 have hset:=Jc y ob 0 fv'
 have hBl:=Jk h.below hg (fun k hk=>by have:=(h.found.row.lt k hk).1;omega)
 have hst:=h.found.step hB hu hbB hs hg ho
 refine ⟨hBl.trans (jg hset (by omega) hBl.size),h.lo,h.lt,qp hset (xk hg h.found.row h.file (by omega)) (by omega),?_,hst.under hset (by omega),(h.seals.kept hg (qj h.seals h.found.row (by decide))).kept hset (Jq (h.seals.kept hg (qj h.seals h.found.row (by decide))) (by omega))⟩
 rw [heap_setCell_same y ob 0 _ _ fv' hout]
 rfl
end
theorem xZ {w:World} {q:Nat} {a b:Value} {t:TypeId} (hh:w.heap[q]?=some (.cells #[a,b] t (0,0))):w.cell? ⟨q,0,none⟩=some a∧w.cell? ⟨q,1,none⟩=some b:=by
 refine ⟨?_,?_⟩<;>rw [cell_of_row w q _ _ _ (0,0) hh]<;>rfl
theorem Ye {file:List UInt8} {f:FormF} (h:zt file=some f):f.parts.length≤65000∧f.footer.length≤65000∧f.nonce.length=4∧f.body.length≤65000∧f.foot≤9:=by
 obtain ⟨h1,h2⟩:=Yl h
 have h3:=h1.short
 have hl:=h1.lens
 refine ⟨?_,by omega,h1.nonce,by omega,h1.foot.2⟩
 unfold xu at h3
 simp only [ab] at h3
 omega
def Vh (pre:List UInt8) (r:List KeyB) (f:FormF):List SealB:=if f.told=true then [] else [KX pre r f]
def GM (pre:List UInt8) (r:List KeyB) (f:FormF) (trust:Bool):List SealB:=if (f.told && trust)=true then [] else [KX pre r f]
def ZJ (pre:List UInt8) (r:List KeyB) (f:FormF) (S:SheetF) (trust:Bool) (k:Nat):List SealB:=GM pre r f trust++(List.range k).flatMap (Iw pre r S)
section
variable {pre:List UInt8} {r:List KeyB} {f:FormF} {S:SheetF} {trust:Bool}
theorem DN (h:f.told=true):Vh pre r f=[]:=aw h
theorem Ci (h:f.told=false):Vh pre r f=[⟨jl r (f.foot:Int),f.nonce,qo pre 70 0 0 0,f.body⟩]:=by
 unfold Vh KX
 simp [h]
theorem Dl (h:(f.told && !trust)=false):GM pre r f trust=Vh pre r f:=by
 unfold GM Vh
 cases h1:f.told<;>cases trust<;>simp_all
theorem DY (h:(f.told && !trust)=true):GM pre r f trust=Vh pre r f++[⟨jl r (f.foot:Int),f.nonce,qo pre 83 0 0 0++f.footer,f.body⟩]:=by
 unfold GM Vh KX
 cases h1:f.told<;>cases trust<;>simp_all
theorem Ka (k:Nat):ZJ pre r f S trust (k+1)=ZJ pre r f S trust k++Iw pre r S k:=by
 unfold ZJ
 rw [bt,bf,af]
 simp
end
def ReadSX (file pre:List UInt8) (r:List KeyB) (trust:Bool) (w:World) (e:Ending) (w':World):Prop :=
 Below w.heap.size w w'∧((∃ err,qO file pre r trust=(err,none)∧err≠0∧e=.returned (.tuple #[.pointer none,.int .i64 err])) ∨
  ∃ S f B a cap sv,qO file pre r trust=(0,some S)∧zt file=some f∧e=.returned (.tuple #[.pointer (some ⟨B,0,none⟩),.int .i64 0])∧w'.cell? ⟨B,0,none⟩=some (.slice a S.cols.length cap)∧LiesF w' a (xh pre r S) S.cols.length∧w'.cell? ⟨B,1,none⟩=some sv∧w'.ownsRow w.heap.size 40 4 sv (ZJ pre r f S trust S.cols.length).length (zg (ZJ pre r f S trust S.cols.length))∧(ZJ pre r f S trust S.cols.length).length≤200000)
theorem ReadSX.does {file pre:List UInt8} {r:List KeyB} {trust:Bool} {w:World} {e:Ending} {w':World} (h:ReadSX file pre r trust w e w'):Sb file pre r trust w e w':=by
 obtain ⟨hb,h|⟨S,f,B,a,cap,sv,h1,_,h2,h3,h4,_⟩⟩:=h
 ·exact ⟨hb,.inl h⟩
 ·exact ⟨hb,.inr ⟨S,B,a,cap,h1,h2,h3,h4⟩⟩
end
section
def Ry (f:FormF) (pre:List UInt8) (r:List KeyB) (trust:Bool) (ft:List UInt8):Int × Option SheetF :=
 match xW f.foot f.parts ft with
 | none=>(9,none)
 | some S=>if (f.told && !trust)=true then (if jy r (f.foot:Int)=false then (8,none) else if qw (jl r (f.foot:Int)) f.nonce (qo pre 83 0 0 0++ft) f.body=some [] then (0,some S) else (4,none)) else (0,some S)
section
variable {file pre:List UInt8} {r:List KeyB} {trust:Bool} {f:FormF}
theorem Ay (hp:¬ 20 < pre.length) (hr:xY r=true) (hf:zt file=some f) (ht:f.told=true):qO file pre r trust=Ry f pre r trust f.footer:=by
 unfold qO Ry
 rw [aj hp,aj (by rw [hr];decide),hf]
 simp only [ht,bG,Bool.true_and]
 cases xW f.foot f.parts f.footer with
 | none=>rfl
 | some S=>cases trust<;>simp
theorem CE (hp:¬ 20 < pre.length) (hr:xY r=true) (hf:zt file=some f) (ht:f.told=false) (hn:jy r (f.foot:Int)=false):qO file pre r trust=(8,none):=by
 unfold qO
 rw [aj hp,aj (by rw [hr];decide),hf]
 simp [ht,hn]
theorem IU (hp:¬ 20 < pre.length) (hr:xY r=true) (hf:zt file=some f) (ht:f.told=false) (hn:jy r (f.foot:Int)=true) (ho:qw (jl r (f.foot:Int)) f.nonce (qo pre 70 0 0 0) f.body=none):qO file pre r trust=(4,none):=by
 unfold qO
 rw [aj hp,aj (by rw [hr];decide),hf]
 simp [ht,hn,ho]
theorem Mg (hp:¬ 20 < pre.length) (hr:xY r=true) (hf:zt file=some f) (ht:f.told=false) (hn:jy r (f.foot:Int)=true) {ft:List UInt8} (ho:qw (jl r (f.foot:Int)) f.nonce (qo pre 70 0 0 0) f.body=some ft):qO file pre r trust=Ry f pre r trust ft:=by
 unfold qO Ry
 rw [aj hp,aj (by rw [hr];decide),hf]
 simp only [ht,hn,ho,Bool.false_and]
 cases xW f.foot f.parts ft<;>simp
theorem MY {sec non ext body p:List UInt8} (h:qw sec non ext body=some p):p.length≤65535:=by
 unfold qw at h
 split at h
 ·rename_i hc
  injection h with h
  subst h
  rw [zP,aq]
  omega
 ·cases h
end
def F0:Nat→FoundB:=fun _=>⟨[],0,0,0,[]⟩
def V0:Nat→Value:=fun _=>nilV
theorem RAt.begin {x w:World} {fb ob:Nat} {f:FormF} {sv:Value} {F:Nat→FoundB} {Vs:Nat→Value} {Z:List SealB} (h:RAt x w fb ob f nilV sv F 0 Vs Z) (F':Nat→FoundB) (Vs':Nat→Value):RAt x w fb ob f nilV sv F' 0 Vs' Z :=
 ⟨h.below,h.lo,h.lt,h.file,h.out,⟨World.ownsRow_nil _ _ _ _,fun j hj=>absurd hj (by omega),fun j hj=>absurd hj (by omega),fun i j _ hj=>absurd hj (by omega)⟩,h.seals⟩
theorem ToldAt.boxT {x y:World} {T base B:Nat} {S:SheetF} {cs:Array Value} {e:TypeId} (h:ToldAt x T base S) (hg:x.grownBy y (some B)) (hB:x.heap[B]?=some (.cells cs e (0,0))) (h1:179≠e) (h2:61≠e) (h3:161≠e) (h4:9≠e) (h5:167≠e):ToldAt y T base S:=by
 obtain ⟨cv,sv,pv,ev,k1,k2,k3,k4,k5⟩:=h
 have hne:T≠B:=by
  intro e
  subst e
  rw [hB] at k1
  injection k1 with k1
  injection k1 with _ k6 _
  exact h1 k6.symm
 exact ⟨cv,sv,pv,ev,qp hg k1 hne,k2.kept hg (qT k2 hB h2),k3.kept hg (qT k3 hB h3),k4.kept hg (qT k4 hB h4),k5.kept hg (qT k5 hB h5)⟩
structure RTAt (T tb:Nat) (S:SheetF) (x w:World) (fb ob:Nat) (f:FormF) (fv sv:Value) (F:Nat→FoundB) (k:Nat) (Vs:Nat→Value) (Z:List SealB):Prop extends RAt x w fb ob f fv sv F k Vs Z where
 told:ToldAt x T tb S
section
variable {x y w:World} {T tb:Nat} {S:SheetF} {fb ob:Nat} {f:FormF} {fv sv:Value} {F:Nat→FoundB} {k:Nat} {Vs:Nat→Value} {Z:List SealB}
theorem RTAt.later (h:RTAt T tb S x w fb ob f fv sv F k Vs Z) (hb:Below x.heap.size x y):RTAt T tb S y w fb ob f fv sv F k Vs Z:=⟨h.toRAt.later hb,h.told.later hb⟩
theorem RTAt.alloc (h:RTAt T tb S x w fb ob f fv sv F k Vs Z) (o:Obj):RTAt T tb S (x.alloc o) w fb ob f fv sv F k Vs Z :=
 h.later ((Below.refl x.heap.size x).alloc (ae _) o)
theorem RTAt.drew (h:RTAt T tb S x w fb ob f fv sv F k Vs Z):RTAt T tb S x.drew w fb ob f fv sv F k Vs Z :=
 h.later (qe (Below.refl x.heap.size x))
theorem RTAt.rowB (h:RTAt T tb S x w fb ob f fv sv F k Vs Z) (B:Nat) (cs:Array Value) {old:Array Value} (hw:ob+1≤B) (hB:x.heap[B]?=some (.cells old 40 (0,0))) (h2:sv.ownBlock=none∨sv.ownBlock≠some B):RTAt T tb S (x.setRow B cs) w fb ob f fv sv F k Vs Z :=
 ⟨h.toRAt.rowB B cs hw hB h2,h.told.boxT (QN x B cs) hB (by decide) (by decide) (by decide) (by decide) (by decide)⟩
end
theorem Gk (x:World) (b:Option Nat):x.grownBy x b:=⟨rfl,rfl,rfl,ae _,fun _ _ _=>rfl⟩
theorem TI (x:World) (A B:Array Value) (t:TypeId):Below x.heap.size x ((x.alloc (.cells A t)).setRow x.heap.size B):=by
 have h:=(Below.refl x.heap.size x).alloc (ae _) (.cells A t)
 exact h.trans (jg (QN _ x.heap.size B) (ae _) h.size)
theorem VK {file:List UInt8} {f:FormF} {ft:List UInt8} {S:SheetF} (hf:zt file=some f) (h:SheetOk f.foot f.parts ft S):ft.length≤4200:=by
 have hl:=Ye hf
 exact ZM (fun x hx=>by
  have h1:=ZB _ _ _ _ x hx
  rw [← h.parts] at h1
  omega) h
end
end Go.Proofs.YthhpbhpfagoapaaGreat
