import Derived.Test.YthhpbhpfagoapaaGreatTk
import Derived.Test.YthhpbhpfagoapaaGreatJAZ
import Derived.Test.YthhpbhpfagoapaaGreatJAH
import Derived.Test.YthhpbhpfagoapaaGreatJBC
import Derived.Test.YthhpbhpfagoapaaGreatJAQ
import Derived.Test.YthhpbhpfagoapaaGreatJAC
import Derived.Test.YthhpbhpfagoapaaGreatJAM
import Derived.Test.YthhpbhpfagoapaaGreatJAJ
import Derived.Test.YthhpbhpfagoapaaGreatRGuess2
import Derived.Test.YthhpbhpfagoapaaGreatJAY
import Derived.Test.YthhpbhpfagoapaaGreatRPage
import Derived.Deep.CutBlock
namespace Go.Proofs.YthhpbhpfagoapaaGreat
set_option linter.unusedVariables false
set_option linter.unusedSimpArgs false
set_option maxRecDepth 100000
set_option maxHeartbeats 16000000
open Go.RowKit
section
structure LiesF (w:World) (a:Option Addr) (F:Nat→FoundB) (n:Nat):Prop where
 at_:0 < n→∃ b,a=some ⟨b,0,none⟩∧b < w.heap.size∧∀ j,j < n→∃ ca cc,
  w.cell? ⟨b,j*5,none⟩=some (strB (F j).name)∧w.cell? ⟨b,j*5+1,none⟩=some (.int .i64 (F j).kind)∧w.cell? ⟨b,j*5+2,none⟩=some (.int .i64 (F j).key)∧w.cell? ⟨b,j*5+3,none⟩=some (.int .i64 (F j).state) ∧
  w.cell? ⟨b,j*5+4,none⟩=some (.slice ca (F j).cells.length cc)∧Lies w ca (F j).cells∧(F j).cells.length≤1000
theorem LiesF.later {w w':World} {a:Option Addr} {F:Nat→FoundB} {n:Nat} (h:LiesF w a F n) (hb:Below w.heap.size w w'):LiesF w' a F n:=by
 refine ⟨fun hne=>?_⟩
 obtain ⟨b,ha,hlt,hc⟩:=h.at_ hne
 refine ⟨b,ha,Nat.lt_of_lt_of_le hlt hb.size,fun j hj=>?_⟩
 obtain ⟨ca,cc,h1,h2,h3,h4,h5,h6,h7⟩:=hc j hj
 exact ⟨ca,cc,(hb.cell (p:=⟨b,_,none⟩) hlt).trans h1,(hb.cell (p:=⟨b,_,none⟩) hlt).trans h2,(hb.cell (p:=⟨b,_,none⟩) hlt).trans h3,(hb.cell (p:=⟨b,_,none⟩) hlt).trans h4,(hb.cell (p:=⟨b,_,none⟩) hlt).trans h5,h6.later hb,h7⟩
theorem CV (a a2:Option Addr) (cap cap2:Nat) (F:Nat→FoundB) (n:Nat) (w:World) (hm:n≤1000) (hl:LiesF w a F n) (hl2:LiesF w a2 F n) :
  Calls Tryz.prog 39 #[.slice a n cap,.slice a2 n cap2] w fun e w'=>e=.returned (.bool true)∧Below w.heap.size w w':=by
 have Hl:=hid hl
 have Hl2:=hid hl2
 clear hl hl2
 have hne:((n:Int) != (n:Int))=false:=by simp
 go_enter Tryz.func39,Tryz.ntmps39
 go_wp2
 go_loopw [5] (fun i wr=>∃ k:Nat,k≤n∧i=.int .i64 (k:Int)∧Below w.heap.size w wr) (fun i _=>n - (intOf i).toNat)
 case atStart=>exact ⟨0,Nat.zero_le _,rfl,Below.refl _ _⟩
 case round =>
  obtain ⟨k,hk,rfl,hB⟩:=hrel
  have HB:=hid hB
  clear hne
  by_cases hlt:k < n
  ·obtain ⟨b,rfl,hbw,hcell⟩:=(Hl.out.later hB).at_ (by omega)
   obtain ⟨ca,cc,g1,g2,g3,g4,g5,g6,g7⟩:=hcell k hlt
   obtain ⟨b',rfl,hbw',hcell'⟩:=(Hl2.out.later hB).at_ (by omega)
   obtain ⟨ca',cc',k1,k2,k3,k4,k5,k6,k7⟩:=hcell' k hlt
   clear hcell hcell' k7 hB
   have hki:(k:Int) < (n:Int):=by omega
   have HSC:=hid (fun w' (hb:Below wr.heap.size wr w')=>PV ca ca' cc cc' (F k).cells w' (by unfold maxLen;omega) (g6.later hb) (k6.later hb))
   clear g6 k6
   generalize (F k).cells=ce at *
   generalize (F k).name=nm at *
   generalize (F k).kind=kd at *
   generalize (F k).key=ky at *
   generalize (F k).state=st at *
   generalize ce.length=m at *
   have HS0:=hid (show wr.cell? ⟨b,k*5,none⟩=some (strB nm)∧wr.cell? ⟨b,k*5+1,none⟩=some (.int .i64 kd)∧wr.cell? ⟨b,k*5+2,none⟩=some (.int .i64 ky)∧wr.cell? ⟨b,k*5+3,none⟩=some (.int .i64 st)∧wr.cell? ⟨b,k*5+4,none⟩=some (.slice ca m cc)∧wr.cell? ⟨b',k*5,none⟩=some (strB nm)∧wr.cell? ⟨b',k*5+1,none⟩=some (.int .i64 kd)∧wr.cell? ⟨b',k*5+2,none⟩=some (.int .i64 ky)∧wr.cell? ⟨b',k*5+3,none⟩=some (.int .i64 st)∧wr.cell? ⟨b',k*5+4,none⟩=some (.slice ca' m cc') from ⟨g1,g2,g3,g4,g5,k1,k2,k3,k4,k5⟩)
   have HLT:=hid (And.intro hbw hbw')
   clear g1 g2 g3 g4 g5 k1 k2 k3 k4 k5 hbw hbw' g7
   go_upto_region 6 with fail
   refine wp_region_held_drew (S:=fun w'=>w'.cell? ⟨b,k*5,none⟩=some (strB nm)∧w'.cell? ⟨b,k*5+1,none⟩=some (.int .i64 kd)∧w'.cell? ⟨b,k*5+2,none⟩=some (.int .i64 ky)∧w'.cell? ⟨b,k*5+3,none⟩=some (.int .i64 st)∧w'.cell? ⟨b,k*5+4,none⟩=some (.slice ca m cc)∧w'.cell? ⟨b',k*5,none⟩=some (strB nm)∧w'.cell? ⟨b',k*5+1,none⟩=some (.int .i64 kd)∧w'.cell? ⟨b',k*5+2,none⟩=some (.int .i64 ky)∧w'.cell? ⟨b',k*5+3,none⟩=some (.int .i64 st)∧w'.cell? ⟨b',k*5+4,none⟩=some (.slice ca' m cc')) (by kernel_rfl) HS0.out (fun hHeld=>?_)
   refine tk 0 (.slice (some ⟨b,0,none⟩) n cap) ?_
   refine tk 1 (.int .i64 (k:Int)) ?_
   refine tk 2 (.pointer (some ⟨b,k*5,none⟩)) ?_
   refine tk 3 (.pointer (some ⟨b,k*5+4,none⟩)) ?_
   refine tk 4 (.slice ca m cc) ?_
   refine tk 5 (.slice (some ⟨b',0,none⟩) n cap2) ?_
   refine tk 6 (.int .i64 (k:Int)) ?_
   refine tk 7 (.pointer (some ⟨b',k*5,none⟩)) ?_
   refine tk 8 (.pointer (some ⟨b',k*5+4,none⟩)) ?_
   refine tk 9 (.slice ca' m cc') ?_
   simp only [ga,gb,gc,Act.put,gd,ge,gf]
   refine rd 10 (fun K hK=>?_)
   simp only [ga,gb,gc]
   go_simp
   go_at_call 92
   refine (HSC.out _ (qa (Below.refl _ _))).mono ?_
   rintro e w1 ⟨rfl,hb1⟩
   have hb1':=ji hb1
   have HB1:=hid (HB.out.trans (hb1'.mono HB.out.size))
   have HS1:Hid (w1.cell? ⟨b,k*5,none⟩=some (strB nm)∧w1.cell? ⟨b,k*5+1,none⟩=some (.int .i64 kd)∧w1.cell? ⟨b,k*5+2,none⟩=some (.int .i64 ky)∧w1.cell? ⟨b,k*5+3,none⟩=some (.int .i64 st)∧w1.cell? ⟨b,k*5+4,none⟩=some (.slice ca m cc)∧w1.cell? ⟨b',k*5,none⟩=some (strB nm)∧w1.cell? ⟨b',k*5+1,none⟩=some (.int .i64 kd)∧w1.cell? ⟨b',k*5+2,none⟩=some (.int .i64 ky)∧w1.cell? ⟨b',k*5+3,none⟩=some (.int .i64 st)∧w1.cell? ⟨b',k*5+4,none⟩=some (.slice ca' m cc')):=by
    obtain ⟨a1,a2,a3,a4,a5,b1,b2,b3,b4,b5⟩:=HS0.out
    obtain ⟨l1,l2⟩:=HLT.out
    exact ⟨(hb1'.cell (p:=⟨b,_,none⟩) l1).trans a1,(hb1'.cell (p:=⟨b,_,none⟩) l1).trans a2,(hb1'.cell (p:=⟨b,_,none⟩) l1).trans a3,(hb1'.cell (p:=⟨b,_,none⟩) l1).trans a4,(hb1'.cell (p:=⟨b,_,none⟩) l1).trans a5,(hb1'.cell (p:=⟨b',_,none⟩) l2).trans b1,(hb1'.cell (p:=⟨b',_,none⟩) l2).trans b2,(hb1'.cell (p:=⟨b',_,none⟩) l2).trans b3,(hb1'.cell (p:=⟨b',_,none⟩) l2).trans b4,(hb1'.cell (p:=⟨b',_,none⟩) l2).trans b5⟩
   clear hb1 hb1' HSC
   try go_wp2_with fail
   refine hK.out _ _ HS1.out (fun hHeld=>?_)
   clear hK K
   try simp only [ga,gb,gc,Act.put,gd,ge,gf]
   refine tk 11 (.bool true) ?_
   simp only [ga,gb,gc,Act.put,gd,ge,gf]
   refine wpAnyH_done (by kernel_rfl) ?_ _
   clear hHeld
   go_upto_region 7 with fail
   refine wp_region_held_drew (S:=fun w'=>w'.cell? ⟨b,k*5,none⟩=some (strB nm)∧w'.cell? ⟨b,k*5+1,none⟩=some (.int .i64 kd)∧w'.cell? ⟨b,k*5+2,none⟩=some (.int .i64 ky)∧w'.cell? ⟨b,k*5+3,none⟩=some (.int .i64 st)∧w'.cell? ⟨b,k*5+4,none⟩=some (.slice ca m cc)∧w'.cell? ⟨b',k*5,none⟩=some (strB nm)∧w'.cell? ⟨b',k*5+1,none⟩=some (.int .i64 kd)∧w'.cell? ⟨b',k*5+2,none⟩=some (.int .i64 ky)∧w'.cell? ⟨b',k*5+3,none⟩=some (.int .i64 st)∧w'.cell? ⟨b',k*5+4,none⟩=some (.slice ca' m cc')) (by kernel_rfl) HS1.out (fun hHeld=>?_)
   refine tk 0 (.slice (some ⟨b,0,none⟩) n cap) ?_
   refine tk 1 (.int .i64 (k:Int)) ?_
   refine tk 2 (.pointer (some ⟨b,k*5,none⟩)) ?_
   refine tk 3 (.pointer (some ⟨b,k*5,none⟩)) ?_
   refine tk 4 (strB nm) ?_
   refine tk 5 (.slice (some ⟨b',0,none⟩) n cap2) ?_
   refine tk 6 (.int .i64 (k:Int)) ?_
   refine tk 7 (.pointer (some ⟨b',k*5,none⟩)) ?_
   refine tk 8 (.pointer (some ⟨b',k*5,none⟩)) ?_
   refine tk 9 (strB nm) ?_
   refine tk 10 (.bool false) ?_
   refine tk 11 (.bool false) ?_
   refine tk 12 (.slice (some ⟨b,0,none⟩) n cap) ?_
   refine tk 13 (.int .i64 (k:Int)) ?_
   refine tk 14 (.pointer (some ⟨b,k*5,none⟩)) ?_
   refine tk 15 (.pointer (some ⟨b,k*5+1,none⟩)) ?_
   refine tk 16 (.int .i64 kd) ?_
   refine tk 17 (.slice (some ⟨b',0,none⟩) n cap2) ?_
   refine tk 18 (.int .i64 (k:Int)) ?_
   refine tk 19 (.pointer (some ⟨b',k*5,none⟩)) ?_
   refine tk 20 (.pointer (some ⟨b',k*5+1,none⟩)) ?_
   refine tk 21 (.int .i64 kd) ?_
   refine tk 22 (.bool false) ?_
   refine tk 23 (.bool false) ?_
   refine tk 24 (.bool false) ?_
   refine tk 25 (.slice (some ⟨b,0,none⟩) n cap) ?_
   refine tk 26 (.int .i64 (k:Int)) ?_
   refine tk 27 (.pointer (some ⟨b,k*5,none⟩)) ?_
   refine tk 28 (.pointer (some ⟨b,k*5+2,none⟩)) ?_
   refine tk 29 (.int .i64 ky) ?_
   refine tk 30 (.slice (some ⟨b',0,none⟩) n cap2) ?_
   refine tk 31 (.int .i64 (k:Int)) ?_
   refine tk 32 (.pointer (some ⟨b',k*5,none⟩)) ?_
   refine tk 33 (.pointer (some ⟨b',k*5+2,none⟩)) ?_
   refine tk 34 (.int .i64 ky) ?_
   refine tk 35 (.bool false) ?_
   refine tk 36 (.bool false) ?_
   refine tk 37 (.bool false) ?_
   refine tk 38 (.slice (some ⟨b,0,none⟩) n cap) ?_
   refine tk 39 (.int .i64 (k:Int)) ?_
   refine tk 40 (.pointer (some ⟨b,k*5,none⟩)) ?_
   refine tk 41 (.pointer (some ⟨b,k*5+3,none⟩)) ?_
   refine tk 42 (.int .i64 st) ?_
   refine tk 43 (.slice (some ⟨b',0,none⟩) n cap2) ?_
   refine tk 44 (.int .i64 (k:Int)) ?_
   refine tk 45 (.pointer (some ⟨b',k*5,none⟩)) ?_
   refine tk 46 (.pointer (some ⟨b',k*5+3,none⟩)) ?_
   refine tk 47 (.int .i64 st) ?_
   refine tk 48 (.bool false) ?_
   refine tk 49 (.bool false) ?_
   refine tk 50 (.bool false) ?_
   refine tk 51 (.bool true) ?_
   refine tk 52 (.bool false) ?_
   refine tk 53 (.bool false) ?_
   simp only [ga,gb,gc,Act.put,gd,ge,gf]
   refine wpAnyH_done (by kernel_rfl) ?_ _
   clear hHeld
   go_wp2
   go_roundw
   case rel=>exact ⟨k+1,by omega,by go_num,qa HB1.out⟩
   case measure=>simp [intOf];omega
  ·have hke:k=n:=by omega
   subst hke
   go_wp2
   go_ret
   exact ⟨rfl,HB.out⟩
end
section
theorem XG {F:Nat→FoundB} {Vs:Nat→Value} {n j:Nat} (hj:j < n) {i:Nat} (hi:i < 5):(JG F Vs n)[j*5+i]?=(Us (F j) (Vs j))[i]?:=by
 unfold JG
 rw [List.flatMap_def,ZS (s:=5) _ hi]
 ·rw [List.getElem?_map,List.getElem?_range hj];rfl
 ·intro x hx
  simp only [List.mem_map] at hx
  obtain ⟨k,_,rfl⟩:=hx
  rfl
theorem FoundsAt.lies {base:Nat} {w:World} {v:Value} {F:Nat→FoundB} {n:Nat} {Vs:Nat→Value} (h:FoundsAt base w v F n Vs) (hlen:∀ j,j < n→(F j).cells.length≤1000):∃ a cap,v=.slice a n cap∧LiesF w a F n:=by
 rcases h.row.2 with ⟨hv,h0⟩|⟨g,cap,cur,hv,_⟩
 ·exact ⟨none,0,by rw [hv,h0],⟨fun hn=>by omega⟩⟩
 ·have hrow:=h.row
  subst hv
  refine ⟨some ⟨g,0,none⟩,cap,rfl,⟨fun _=>⟨g,rfl,(hrow.lt g rfl).2,fun j hj=>?_⟩⟩⟩
  obtain ⟨ca,cc,hvs,_,hl⟩:=Jz (h.cells j hj) (fun x hx=>⟨(h.small j hj x hx).1,(h.small j hj x hx).2.1,Nat.le_trans (h.small j hj x hx).2.2 (by decide)⟩)
  refine ⟨ca,cc,?_,?_,?_,?_,?_,hl,hlen j hj⟩
  ·rw [hrow.cellAt _ (by omega)];exact XG (i:=0) hj (by omega)
  ·rw [hrow.cellAt _ (by omega)];exact XG (i:=1) hj (by omega)
  ·rw [hrow.cellAt _ (by omega)];exact XG (i:=2) hj (by omega)
  ·rw [hrow.cellAt _ (by omega)];exact XG (i:=3) hj (by omega)
  ·rw [hrow.cellAt _ (by omega),← hvs];exact XG (i:=4) hj (by omega)
end
section
def Lv (file pre:List UInt8) (r:List KeyB) (trust:Bool) (w:World) (e:Ending) (w':World):Prop :=
 Below w.heap.size w w'∧((∃ err,qL file pre r trust=(err,none)∧err≠0∧e=.returned (.tuple #[.pointer none,.int .i64 err])) ∨
  ∃ S B a cap,qL file pre r trust=(0,some S)∧e=.returned (.tuple #[.pointer (some ⟨B,0,none⟩),.int .i64 0])∧w'.cell? ⟨B,0,none⟩=some (.slice a S.cols.length cap)∧LiesF w' a (xt pre r S) S.cols.length)
def QU:Prop:=∀ (file pre:List UInt8) (ra:Option Addr) (rcap:Nat) (r:List KeyB) (trust:Bool) (w:World),file.length≤maxLen→pre.length≤maxLen→r.length≤maxLen→LiesK w ra r →
 Calls Tryz.prog 38 #[strB file,strB pre,.slice ra r.length rcap,.bool trust] w (Lv file pre r trust w)
def NK:Prop:=∀ (file pre:List UInt8) (r:List KeyB) (trust:Bool) (S:SheetF),qL file pre r trust=(0,some S)→S.cols.length≤1000∧∀ j,j < S.cols.length→(xt pre r S j).cells.length≤1000
theorem VM:NK:=by
 intro file pre r trust S h
 obtain ⟨_,_,foot,parts,footer,hok⟩:=RL h
 have hp:=hok.plan
 simp only [qU,Bool.and_eq_true,decide_eq_true_eq] at hp
 have hh:=hok.heads
 simp only [jV,Bool.and_eq_true,decide_eq_true_eq] at hh
 refine ⟨by omega,fun j hj=>?_⟩
 have hml:=qQ hok.mods
 unfold xt
 split
 ·exact Nat.zero_le _
 ·split
  ·exact Nat.zero_le _
  ·rename_i cells hc
   have:=(Gj pre r (jk S.cols j).kind (jk S.cols j).key (R:=S.rows) (C:=S.cols.length) (G:=S.plan.group.toNat) (P:=S.plan.page.toNat) (c:=j) hj (by omega) (by omega) (M:=S.mods) hml (i:=(qx S).length) (cells:=cells) (by
    show jD _ _ _ _ _ _ ((qx S).take _) (S.mods.take _)=_
    rw [List.take_length,← hml,List.take_length]
    exact hc)).1
   have:=hok.rows
   simp only
   omega
theorem MZ (hdoc:QU) (hshort:NK) (file pre:List UInt8) (ra:Option Addr) (rcap:Nat) (r:List KeyB) (trust:Bool) (w:World) (hfl:file.length≤maxLen) (hpl:pre.length≤maxLen) (hrm:r.length*24≤140737488351232) (hrl:r.length≤maxLen) (hl:LiesK w ra r) :
  Calls Tryz.prog 10 #[strB file,strB pre,.slice ra r.length rcap,.bool trust] w fun e w'=>∃ v,e=.returned (.tuple #[v,.bool true])∧Below w.heap.size w w':=by
 have Hl:=hid hl
 have HD:=hid (fun w' (h:LiesK w' ra r)=>hdoc file pre ra rcap r trust w' hfl hpl hrl h)
 have HSH:=hid (hshort file pre r trust)
 clear hl hdoc hshort
 go_enter Tryz.func10,Tryz.ntmps10
 go_wp2_with fail
 refine (Ao ra rcap r w hrm Hl.out).mono ?_
 rintro e w2 ⟨q,rfl,hK2,hb2⟩
 have HK2:=hid hK2
 have HR2:Hid (LiesK w2 (some ⟨q,0,none⟩) r):=VQ (by have:=HK2.out;rw [ZC] at this;exact this) Hl.out.ok
 have HB2:=hid hb2
 clear hK2 hb2
 go_wp2_with fail
 refine (ME file pre (some ⟨q,0,none⟩) (r.length+8) r trust w2 hfl hpl hrl HR2.out).mono ?_
 rintro e w3 ⟨hb3,hcase⟩
 have HB3:=hid (HB2.out.trans (hb3.mono HB2.out.size))
 have HK3:=hid (jw HK2.out hb3)
 have HL3:=hid (Hl.out.later HB3.out)
 clear hb3 HK2 HR2 HB2
 rcases hcase with ⟨err,hsf,herr,rfl⟩|⟨S,v,Vs,hsf,rfl,hfa⟩
 ·have Hsf:=hid hsf
  have Herr:=hid herr
  have hne:(err != 0)=true:=by rw [bne_iff_ne];exact herr
  clear hsf herr
  go_wp2_with fail
  refine (GW ra rcap q w.heap.size r w3 hrm HL3.out HK3.out).mono ?_
  rintro e w4 ⟨rfl,hb4⟩
  have HB4:=hid (HB3.out.trans (hb4.mono HB3.out.size))
  have HL4:=hid (HL3.out.later hb4)
  clear hb4
  go_wp2_with fail
  refine (HD.out w4 HL4.out).mono ?_
  rintro e w5 ⟨hb5,⟨err',hsf',_,rfl⟩|⟨S,B,a,cap,hsf',_⟩⟩
  ·rw [Hsf.out] at hsf'
   injection hsf' with he _
   subst he
   have HB5:=hid (HB4.out.trans (hb5.mono HB4.out.size))
   have hee:(err == err)=true:=by simp
   clear hb5
   go_wp2
   go_ret2
   exact ⟨_,rfl,HB5.out⟩
  ·rw [Hsf.out] at hsf'
   injection hsf' with _ h2
   cases h2
 ·have Hsf:=hid hsf
  obtain ⟨hn,hsh⟩:=HSH.out S hsf
  obtain ⟨a,cap,rfl,hlf⟩:=hfa.lies hsh
  have Hlf:=hid hlf
  clear hsf hsh hfa hlf
  go_wp2_with fail
  refine (GW ra rcap q w.heap.size r w3 hrm HL3.out HK3.out).mono ?_
  rintro e w4 ⟨rfl,hb4⟩
  have HB4:=hid (HB3.out.trans (hb4.mono HB3.out.size))
  have HL4:=hid (HL3.out.later hb4)
  have HF4:=hid (Hlf.out.later hb4)
  clear hb4
  go_wp2_with fail
  refine (HD.out w4 HL4.out).mono ?_
  rintro e w5 ⟨hb5,⟨err',hsf',herr',_⟩|⟨S',B,a',cap',hsf',rfl,hc5,hlf'⟩⟩
  ·rw [Hsf.out] at hsf'
   injection hsf' with he _
   exact absurd he.symm herr'
  ·rw [Hsf.out] at hsf'
   injection hsf' with _ he
   injection he with he
   subst he
   have HB5:=hid (HB4.out.trans (hb5.mono HB4.out.size))
   have HF5:=hid (HF4.out.later hb5)
   have HF5':=hid hlf'
   clear hb5 hlf'
   generalize xt pre r S=F at *
   generalize S.cols.length=n at *
   go_wp2_with fail
   refine (CV a a' cap cap' F n w5 hn HF5.out HF5'.out).mono ?_
   rintro e w6 ⟨rfl,hb6⟩
   have HB6:=hid (HB5.out.trans (hb6.mono HB5.out.size))
   clear hb6
   go_wp2
   go_ret2
   exact ⟨_,rfl,HB6.out⟩
theorem AC (hdoc:QU) (file pre:List UInt8) (ra:Option Addr) (rcap:Nat) (r:List KeyB) (trust:Bool) (w:World) (hfl:file.length≤maxLen) (hpl:pre.length≤maxLen) (hrm:r.length*24≤140737488351232) (hrl:r.length≤maxLen) (hl:LiesK w ra r) :
  Calls Tryz.prog 4 #[strB file,strB pre,.slice ra r.length rcap,.bool trust] w fun e w'=>e=.returned (.bool true)∧Below w.heap.size w w':=by
 have HR:=hid (MZ hdoc VM file pre ra rcap r trust w hfl hpl hrm hrl hl)
 clear hdoc hl
 go_enter Tryz.func4,Tryz.ntmps4
 go_wp2_with fail
 refine HR.out.mono ?_
 rintro e w1 ⟨v,rfl,hb1⟩
 have HB1:=hid hb1
 clear hb1
 go_wp2
 go_ret
 exact ⟨rfl,HB1.out⟩
end
section
theorem Pn {kind:Int} {l:List CellB} (h:qE kind l=true) (hok:∀ c ∈ l,okC c):(∀ c ∈ l,qz c)∧l.length≤60:=by
 unfold qE at h
 simp only [Bool.and_eq_true,Bool.or_eq_true,decide_eq_true_eq,List.all_eq_true] at h
 obtain ⟨⟨hk,hl⟩,hf⟩:=h
 refine ⟨fun c hc=>?_,hl⟩
 obtain ⟨h0,h1,_⟩:=hok c hc
 refine ⟨h0,h1,?_⟩
 have:=hf c hc
 unfold xL at this
 split at this
 ·simp at this;rw [this.2];simp
 ·split at this
  ·simp at this;rw [this];simp
  ·simp at this;exact this.2
end
section
set_option maxRecDepth 100000 in
theorem MD (kind:Int) (s:List UInt8) (w:World) (hk:kind=0∨kind=1) (hs:s.length≤maxLen) :
  Calls Tryz.prog 112 #[.int .i64 kind,strB s] w fun e w'=>∃ v,e=.returned (.tuple #[v,.bool (qV kind s).isSome])∧Yw w' v (qV kind s)∧Below w.heap.size w w':=by
 obtain ⟨i1,hi1,hy0,hy1,hy2⟩:=info_parts Tryz.infoCell
 go_enter Tryz.func112,Tryz.ntmps112
 go_upto_region 1 with fail
 go_cut [23] (fun t wc=>t=.bool false∧w=wc)
 case first =>
  have hkk:(kind != 0)=false∨(kind != 0)=true∧(kind != 1)=false:=by rcases hk with rfl|rfl<;>simp
  rcases hkk with hk0|⟨hk0,hk1⟩
  ·go_wp2_with fail
   go_meet
   case rel=>exact ⟨rfl,rfl⟩
  ·go_wp2_with fail
   go_meet
   case rel=>exact ⟨rfl,rfl⟩
 case rest =>
  obtain ⟨rfl,rfl⟩:=hcut
  go_wp2_with fail
  have hsp1:=UR w s
  have HB1:=hid ((Below.refl w.heap.size w).alloc (Nat.le_refl _) (Obj.cells #[strB s,Value.int IntKind.i64 0,Value.bool false] 243))
  have hz1:w.heap.size < (w.alloc (Obj.cells #[strB s,Value.int IntKind.i64 0,Value.bool false] 243)).heap.size:=by simp
  generalize w.alloc (Obj.cells #[strB s,Value.int IntKind.i64 0,Value.bool false] 243)=w1 at *
  obtain ⟨p,hpe⟩:∃ p,p=w.heap.size:=⟨_,rfl⟩
  rw [← hpe] at hsp1 hz1 ⊢
  have Hpe:=hid hpe
  clear hpe
  refine (Jo p s (some s) 60 _ hs (by decide) (by decide) hsp1).mono ?_
  rintro e w2 ⟨rfl,hsp2,hg2⟩
  have e60:(60:Int).toNat=60:=rfl
  rw [e60] at hsp2 ⊢
  have hn:=xI 60 (some s)
  have HU:Hid (∃ n st2,jJ 60 (some s)=(n,st2)):=⟨_,_,rfl⟩
  have HR0:Hid (Runs w1 w2 p s (jJ 60 (some s)).2 (.slice none 0 0) []):=⟨World.ownsRow_nil _ _ _ _,hsp2,hg2⟩
  obtain ⟨n,st2,hfe⟩:=HU.out
  rw [hfe] at hn HR0 ⊢
  have Hfe:=hid hfe
  simp only at hn HR0 ⊢
  clear e60 hsp1 hsp2 hg2 HU hfe
  go_upto_block 0 with fail
  go_cut [8,9,10,11,12,13] (fun lv cv _ _ _ _ wc=>∃ (fl:List Bool) (st3:Option (List UInt8)),cv=.int .i64 (jO fl:Int)∧Runs w1 wc p s st3 lv fl∧fl.length≤n∧zV n 200 [] false st2=(fl,st3))
  case first =>
   go_wp2_with fail
   go_loopw [8,9,10,11,12,13] (fun lv cv bv rv _ _ wr=>∃ (R:Nat) (fl:List Bool) (b:Bool) (str:Option (List UInt8)),R≤200∧rv=.int .i64 (R:Int)∧cv=.int .i64 (jO fl:Int)∧bv=.bool b∧Runs w1 wr p s str lv fl∧fl.length≤n∧zV n (200 - R) fl b str=zV n 200 [] false st2)
    (fun _ _ _ rv _ _ _=>200 - (intOf rv).toNat)
   case atStart=>exact ⟨0,[],false,st2,by omega,rfl,rfl,rfl,HR0.out,Nat.zero_le _,rfl⟩
   case round =>
    obtain ⟨R,fl,b,str,hR,rfl,rfl,rfl,hr,hfn,hrun⟩:=hrel
    obtain ⟨a,cap,rfl,_,_⟩:=Jz hr.row (Yj fl)
    rw [List.length_map] at *
    obtain ⟨hbad,hbf⟩:=JB hr.spot
    have Hr:=hid hr
    have Hrun:=hid hrun
    clear hr hrun hbf
    have hcl:=Iw fl
    by_cases hgo:fl.length < n∧R < 200∧str.isSome=true
    ·obtain ⟨hlt,hR2,hso⟩:=hgo
     obtain ⟨r0,rfl⟩:=Option.isSome_iff_exists.1 hso
     simp only [JN] at hbad
     clear hso
     go_wp2_with fail
     refine (Jo p s (some r0) _ _ hs (by omega) (by omega) Hr.out.spot).mono ?_
     rintro e w3 ⟨rfl,hsp3,hg3⟩
     have e12:((n:Int) - (fl.length:Int)).toNat=n - fl.length:=by omega
     rw [e12] at hsp3 ⊢
     have hfl:=xI (n - fl.length) (some r0)
     have Hrun2:Hid (zV n (200 - (R+1)) (fl++List.replicate (jJ (n - fl.length) (some r0)).1 b) (!b) (jJ (n - fl.length) (some r0)).2=zV n 200 [] false st2):=by
      have h1:=Hrun.out
      rw [show 200 - R=(200 - (R+1))+1 by omega,zV,if_pos ⟨hlt,rfl⟩] at h1
      exact h1
     have HR3:Hid (Runs w1 w3 p s (jJ (n - fl.length) (some r0)).2 (.slice a fl.length cap) (fl++List.replicate 0 b)):=by
      rw [List.replicate_zero,List.append_nil]
      exact ⟨qS Hr.out.row hz1 hg3,hsp3,ja Hr.out.grown hg3⟩
     clear hsp3 hg3 Hr Hrun e12 hbad
     generalize jJ (n - fl.length) (some r0)=fr at *
     obtain ⟨k,st3⟩:=fr
     simp only at hfl Hrun2 HR3 ⊢
     go_wp2_with fail
     go_loopw [8,13] (fun lv i w3=>∃ j:Nat,j≤k∧i=.int .i64 (j:Int)∧Runs w1 w3 p s st3 lv (fl++List.replicate j b)) (fun _ i _=>k - (intOf i).toNat)
     case atStart=>exact ⟨0,Nat.zero_le _,rfl,HR3.out⟩
     case round =>
      obtain ⟨j,hjk,rfl,hm⟩:=hrel
      have Hm:=hid hm
      have hrow:=hm.row
      have hzw:=hm.grown.size
      clear hm HR3
      have hlr:(fl++List.replicate j b).length≤60:=by rw [List.length_append,List.length_replicate];omega
      by_cases hjl:j < k
      ·go_wp2_with (at_builtin;refine wpList_append_own _ rfl (.tmp 57) (.tmp 60) 59 rfl w1.heap.size 58 i1 (.agg #[.bool false,.int .i64 0,.string ⟨#[]⟩]) 3 32 Tryz.underlying59 hi1 hy0 hy1 hy2 rfl (by decide) _ _ _ rfl (hrow.alloc _) ⟨_,0,none⟩ 1 1 [.bool b,.int .i64 0,.string ⟨#[]⟩] rfl rfl ?c1 ?c2 ?c3 ?c4 ?c5 ?_)
       case c1=>exact qj _ #[.bool b,.int .i64 0,.string ⟨#[]⟩] 58
       case c2=>intro u hu;simp at hu;rcases hu with rfl|rfl|rfl<;>rfl
       case c3=>unfold maxLen;omega
       case c4=>omega
       case c5=>simp;omega
       intro v4 w4 hl4 hg4 _
       have HR:=hid (Md hz1 Hm.out (by rw [List.length_append,List.length_replicate,List.map_append,List.map_replicate];exact hl4) hg4)
       clear hl4 hg4 hrow Hm
       go_wp2
       go_roundw
       case rel=>exact ⟨j+1,by omega,by go_num,HR.out⟩
       case measure=>simp [intOf];omega
      ·have hje:j=k:=by omega
       subst hje
       clear hjl hrow
       cases b with
       | true =>
        have HC:Hid (jO (fl++List.replicate j true)=jO fl):=(ZH fl j).2
        go_wp2_with fail
        go_roundw
        case rel=>exact ⟨R+1,_,false,_,by omega,by go_num,by rw [HC.out],rfl,Hm.out,by rw [List.length_append,List.length_replicate];omega,Hrun2.out⟩
        case measure=>simp [intOf];omega
       | false =>
        have HC:Hid (jO (fl++List.replicate j false)=jO fl+j):=(ZH fl j).1
        go_wp2_with fail
        go_roundw
        case rel=>exact ⟨R+1,_,true,_,by omega,by go_num,by rw [HC.out];go_num,rfl,Hm.out,by rw [List.length_append,List.length_replicate];omega,Hrun2.out⟩
        case measure=>simp [intOf];omega
    ·have HE:Hid (zV n 200 [] false st2=(fl,str)):=by
      rw [Hid,← Hrun.out]
      by_cases hR3:R < 200
      ·exact AE _ _ _ _ _ (fun h=>hgo ⟨h.1,hR3,h.2⟩)
      ·rw [show 200 - R=0 by omega];rfl
     by_cases hlt:fl.length < n
     ·by_cases hR3:R < 200
      ·have hb2:JN str=true:=by
        cases str with
        | none=>rfl
        | some x=>exact absurd ⟨hlt,hR3,rfl⟩ hgo
       rw [hb2] at hbad
       clear hgo hb2
       go_wp2_with fail
       go_meet
       case rel=>exact ⟨fl,str,rfl,Hr.out,hfn,HE.out⟩
      ·have hR4:R=200:=by omega
       subst hR4
       clear hgo hR3 hbad
       go_wp2_with fail
       go_meet
       case rel=>exact ⟨fl,str,rfl,Hr.out,hfn,HE.out⟩
     ·have hle:n≤fl.length:=by omega
      clear hgo hlt hbad
      go_wp2_with fail
      go_meet
      case rel=>exact ⟨fl,str,rfl,Hr.out,hfn,HE.out⟩
  case rest =>
   obtain ⟨fl,st3,rfl,hr,hfn,hrun⟩:=hcut
   obtain ⟨a,cap,hlv,-,-⟩:=Jz hr.row (Yj fl)
   rw [List.length_map] at hlv
   subst hlv
   obtain ⟨hbad,hbf⟩:=JB hr.spot
   have Hr:=hid hr
   have Hrun:=hid hrun
   have HB3:=hid (Ei HB1.out hr.grown (Nat.le_of_eq Hpe.out.symm))
   clear hr hrun hbf HR0
   have hcl:=Iw fl
   by_cases hno:st3=none∨fl.length≠n
   ·have HN:Hid (qV kind s=none):=by
     simp only [Hid,qV,Xf,Hfe.out,Hrun.out]
     rw [if_pos hno]
    by_cases hb3:st3=none
    ·subst hb3
     simp only [JN] at hbad
     clear hno
     go_wp2_with fail
     go_ret2
     rw [HN.out]
     exact ⟨_,rfl,⟨none,0,rfl⟩,HB3.out⟩
    ·have hb4:JN st3=false:=by
      cases st3 with
      | none=>exact absurd rfl hb3
      | some x=>rfl
     have hne:((fl.length:Int) != (n:Int))=true:=by
      have:fl.length≠n:=hno.resolve_left hb3
      simp;omega
     rw [hb4] at hbad
     clear hno hb3 hb4
     go_wp2
     go_ret2
     rw [HN.out]
     exact ⟨_,rfl,⟨none,0,rfl⟩,HB3.out⟩
   ·have hno1:st3≠none:=fun h=>hno (.inl h)
    have hno2:fl.length=n:=Classical.byContradiction fun h=>hno (.inr h)
    have hb4:JN st3=false:=by
     cases st3 with
     | none=>exact absurd rfl hno1
     | some x=>rfl
    subst hno2
    have hne:((fl.length:Int) != (fl.length:Int))=false:=by simp
    rw [hb4] at hbad
    clear hno1 hb4
    go_upto_if 80 with fail
    go_cut [14,15,16] (fun _ _ _ wx=>∃ L:List CellB,L.length=fl.length∧(∀ c ∈ L,okC c)∧wx.ownsRow w1.heap.size 58 3 (.slice a fl.length cap) fl.length (jG L)∧Below w.heap.size w wx∧Xf kind s=some L)
    case first =>
     have HC:Hid (Xf kind s=if jO fl=0 then some (qh fl []) else if (xT kind (jO fl) st3).2=none∨(xT kind (jO fl) st3).1.length≠jO fl then none else some (qh fl (xT kind (jO fl) st3).1)):=by
      simp only [Hid,Xf,Hfe.out,Hrun.out]
      rw [if_neg hno]
     clear hno
     by_cases hc0:jO fl=0
     ·have hcz:(jO fl:Int)=0:=by omega
      have HE:Hid (Xf kind s=some (fl.map Xy)):=by
       rw [Hid,HC.out,if_pos hc0,AL fl hc0]
      clear hc0
      go_wp2_with fail
      go_meet
      case rel=>exact ⟨_,by simp,Yj fl,Hr.out.row,HB3.out,HE.out⟩
     ·have hcp:(0:Int) < (jO fl:Int):=by omega
      have hpc:p < wc.heap.size:=Nat.lt_of_lt_of_le hz1 Hr.out.grown.size
      have hcn:jO fl≤60:=by omega
      go_wp2_with fail
      refine (YO p s st3 kind (jO fl) _ hs hpc hcn hk Hr.out.spot).mono ?_
      rintro e w5 ⟨v5,rfl,hrow5,hok5,hsp5,hg5⟩
      have HC2:=HC.out
      rw [if_neg hc0] at HC2
      generalize xT kind (jO fl) st3=gr at *
      obtain ⟨V,st5⟩:=gr
      simp only at hrow5 hok5 hsp5 HC2
      have HC3:=hid HC2
      clear HC HC2 hc0
      obtain ⟨a5,cap5,rfl,-,-⟩:=Jz hrow5 hok5
      obtain ⟨hbad5,-⟩:=JB hsp5
      have HW5:=hid hrow5
      have HO5:=hid hok5
      have HB5:=hid (HB3.out.grown hg5 HB3.out.size (fun k hk=>by simp at hk;have:=Hpe.out;omega))
      have HR5:=hid (qS Hr.out.row hz1 hg5)
      have hz5:=hg5.size
      clear hrow5 hok5 hsp5 hg5 hbad
      by_cases hno5:st5=none∨V.length≠jO fl
      ·have HN:Hid (qV kind s=none):=by
        have h1:=HC3.out
        rw [if_pos hno5] at h1
        simp only [Hid,qV,h1]
       by_cases hb3:st5=none
       ·subst hb3
        simp only [JN] at hbad5
        clear hno5
        go_wp2_with fail
        go_ret2
        rw [HN.out]
        exact ⟨_,rfl,⟨none,0,rfl⟩,HB5.out⟩
       ·have hb4:JN st5=false:=by
         cases st5 with
         | none=>exact absurd rfl hb3
         | some x=>rfl
        have hne5:((V.length:Int) != (jO fl:Int))=true:=by
         have:V.length≠jO fl:=hno5.resolve_left hb3
         simp;omega
        rw [hb4] at hbad5
        clear hno5 hb3 hb4
        go_wp2_with fail
        go_ret2
        rw [HN.out]
        exact ⟨_,rfl,⟨none,0,rfl⟩,HB5.out⟩
      ·have hV1:st5≠none:=fun h=>hno5 (.inl h)
       have hV2:V.length=jO fl:=Classical.byContradiction fun h=>hno5 (.inr h)
       have HE:Hid (Xf kind s=some (qh fl V)):=by
        have h1:=HC3.out
        rw [if_neg hno5] at h1
        exact h1
       have hb4:JN st5=false:=by
        cases st5 with
        | none=>exact absurd rfl hV1
        | some x=>rfl
       have hne5:((V.length:Int) != (jO fl:Int))=false:=by simp;omega
       rw [hb4] at hbad5
       have HV2:=hid hV2
       clear hno5 hV1 hb4 HC3 hV2
       go_upto_block 4 with fail
       obtain ⟨g,rfl,hgB⟩:∃ g,a=some ⟨g,0,none⟩∧w1.heap.size≤g:=by
        rcases HR5.out.2 with ⟨h1,h2⟩|⟨g,c,cur,h1,h2,h3⟩
        ·omega
        ·simp only [Value.slice.injEq] at h1
         exact ⟨g,h1.1,h2⟩
       have hgc:g < wc.heap.size:=(Hr.out.row.lt g rfl).2
       clear hbad5 hne5
       go_wp2_with fail
       go_loopw [15,16] (fun av i wr=>∃ k:Nat,k≤fl.length∧i=.int .i64 (k:Int)∧av=.int .i64 (jO (fl.take k):Int)∧wr.ownsRow w1.heap.size 58 3 (.slice (some ⟨g,0,none⟩) fl.length cap) fl.length (jG (Zh fl V k))∧wr.ownsRow wc.heap.size 58 3 (.slice a5 V.length cap5) V.length (jG V)∧Below w.heap.size w wr)
        (fun _ i _=>fl.length - (intOf i).toNat)
       case atStart=>exact ⟨0,Nat.zero_le _,rfl,rfl,by rw [PH];exact HR5.out,HW5.out,HB5.out⟩
       case round =>
        obtain ⟨k,hkn,rfl,rfl,hrw,hvw,hB⟩:=hrel
        have Hrw:=hid hrw
        have Hvw:=hid hvw
        have HB:=hid hB
        clear hrw hvw hB
        by_cases hlt:k < fl.length
        ·have hrow:=Hrw.out
         obtain ⟨c1,c2,c3,f1,f2,f3⟩:=Tt hrow (by rw [ZD]) k hlt (Xy fl[k]) (Lr fl V k hlt)
         cases hfk:fl[k] with
         | true =>
          rw [hfk] at c1 c2 c3
          simp only [Xy] at c1 c2 c3
          have HM:Hid (Zh fl V (k+1)=Zh fl V k):=TQ fl V k hlt hfk
          have HA:Hid (jO (fl.take (k+1))=jO (fl.take k)):=Gu fl k hlt hfk
          clear hrow hfk c2 c3 f1 f2 f3
          go_wp2_with fail
          go_roundw
          case rel=>exact ⟨k+1,by omega,by go_num,by rw [HA.out],by rw [HM.out];exact Hrw.out,Hvw.out,HB.out⟩
          case measure=>simp [intOf];omega
         | false =>
          rw [hfk] at c1 c2 c3
          simp only [Xy] at c1 c2 c3
          obtain ⟨ht1,ht2⟩:=Rr fl k hlt hfk
          have HA:=hid ht2
          have hat:jO (fl.take k) < V.length:=by rw [HV2.out];exact ht1
          have HM:Hid (Zh fl V (k+1)=(Zh fl V k).set k (V[jO (fl.take k)]'hat)):=Cr fl V k hlt hfk hat
          obtain ⟨g5,rfl,hg5⟩:∃ g5,a5=some ⟨g5,0,none⟩∧wc.heap.size≤g5:=by
           rcases Hvw.out.2 with ⟨h1,h2⟩|⟨g,c,cur,h1,h2,h3⟩
           ·omega
           ·simp only [Value.slice.injEq] at h1
            exact ⟨g,h1.1,h2⟩
          obtain ⟨d1,d2,d3,-,-,-⟩:=Tt Hvw.out rfl (jO (fl.take k)) hat _ (List.getElem?_eq_getElem hat)
          have hat6:jO (fl.take k)≤60:=by have:=HV2.out;omega
          generalize hatd:jO (fl.take k)=at_ at *
          have hati:(at_:Int) < (V.length:Int):=by omega
          clear hrow hfk ht1 ht2
          have HS:Hid ((((wr.setCell ⟨g,k*3,none⟩ (.bool (V[at_]).null)).setCell ⟨g,k*3+1,none⟩ (.int .i64 (V[at_]).int)).setCell ⟨g,k*3+2,none⟩ (strB (V[at_]).text)).ownsRow w1.heap.size 58 3 (.slice (some ⟨g,0,none⟩) fl.length cap) fl.length (jG (Zh fl V (k+1)))):=by
           have h:=Sy (l:=Zh fl V k) (c:=V[at_]) (k:=k) (by rw [ZD];exact Hrw.out) (by rw [ZD];exact hlt)
           rw [ZD] at h
           rw [Hid,HM.out]
           exact h
          have HG:=hid (Rk wr g (k*3) (k*3+1) (k*3+2) (.bool (V[at_]).null) (.int .i64 (V[at_]).int) (strB (V[at_]).text))
          have HV:Hid ((((wr.setCell ⟨g,k*3,none⟩ (.bool (V[at_]).null)).setCell ⟨g,k*3+1,none⟩ (.int .i64 (V[at_]).int)).setCell ⟨g,k*3+2,none⟩ (strB (V[at_]).text)).ownsRow wc.heap.size 58 3 (.slice (some ⟨g5,0,none⟩) V.length cap5) V.length (jG V)) :=
           Hvw.out.kept HG.out (.inr (by simp only [Value.ownBlock,ne_eq,Option.some.injEq];omega))
          have HB8:=hid (HB.out.grown HG.out HB.out.size (fun j hj=>by simp at hj;have:=HB1.out.size;omega))
          go_wp2_with fail
          go_roundw
          case rel=>exact ⟨k+1,by omega,by go_num,by rw [HA.out];go_num,HS.out,HV.out,HB8.out⟩
          case measure=>simp [intOf];omega
        ·have hke:k=fl.length:=by omega
         subst hke
         go_wp2_with fail
         go_meet
         case rel=>exact ⟨qh fl V,JL _ _,Pq fl V HO5.out,by rw [← Sl];exact Hrw.out,HB.out,HE.out⟩
    case rest =>
     obtain ⟨L,hLn,hokL,hrowL,hBL,hcl2⟩:=hcut
     obtain ⟨a2,cap2,hav,-,hlies⟩:=Jz hrowL hokL
     have HL:=hid hlies
     have HB9:=hid hBL
     have HU:Hid (qV kind s=if qE kind L=true∧xw kind L=s then some L else none):=by simp only [Hid,qV,hcl2]
     have hL60:L.length≤60:=by omega
     obtain ⟨rfl,hcc,rfl⟩:a=a2∧fl.length=L.length∧cap=cap2:=by simpa using hav
     have HOK:=hid hokL
     rw [hcc]
     clear hav hrowL hokL hlies hBL hcl2 hno hne hcc hLn hfn hcl
     go_wp2_with fail
     refine (Mz kind a cap L _ (by unfold maxLen;omega) HL.out).mono ?_
     rintro e w6 ⟨rfl,hb6⟩
     have HL6:=hid (HL.out.later hb6)
     have HB6:=hid (HB9.out.trans (hb6.mono HB9.out.size))
     clear hb6
     cases hok:qE kind L with
     | false =>
      have HN:Hid (qV kind s=none):=by
       rw [Hid,HU.out,if_neg (by simp [hok])]
      clear hok
      go_wp2_with fail
      go_ret2
      rw [HN.out]
      exact ⟨_,rfl,⟨none,0,rfl⟩,HB6.out⟩
     | true =>
      have hsm:=(Pn hok HOK.out).1
      have HV:Hid (Vals w6 a L):=⟨HL6.out,hsm,hL60⟩
      have HU2:Hid (qV kind s=if xw kind L=s then some L else none):=by
       rw [Hid,HU.out,hok];simp
      clear hok hsm
      go_wp2_with fail
      refine (Pz kind a cap L _ HV.out).mono ?_
      rintro e w7 ⟨rfl,hb7⟩
      have HL7:=hid (HL6.out.later hb7)
      have HB7:=hid (HB6.out.trans (hb7.mono HB6.out.size))
      clear hb7
      by_cases heq:xw kind L=s
      ·have HS9:Hid (qV kind s=some L):=by rw [Hid,HU2.out,if_pos heq]
       rw [heq]
       clear HU2 HU heq
       go_wp2_with fail
       go_ret2
       rw [HS9.out]
       exact ⟨_,rfl,⟨a,cap,rfl,HL7.out⟩,HB7.out⟩
      ·have HN:Hid (qV kind s=none):=by rw [Hid,HU2.out,if_neg heq]
       have hbn:(xw kind L == s)=false:=by simp [heq]
       clear HU2 HU heq
       generalize xw kind L=pg at *
       go_wp2_with fail
       go_ret2
       rw [HN.out]
       exact ⟨_,rfl,⟨none,0,rfl⟩,HB7.out⟩
end
end Go.Proofs.YthhpbhpfagoapaaGreat
