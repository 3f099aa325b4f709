import Derived.Test.YthhpbhpfagoapaaGreatTk
import Derived.Test.YthhpbhpfagoapaaGreatJAR
import Derived.Test.YthhpbhpfagoapaaGreatJAK
import Derived.Test.YthhpbhpfagoapaaGreatJAW
namespace Go.Proofs.YthhpbhpfagoapaaGreat
set_option linter.unusedVariables false
set_option linter.unusedSimpArgs false
set_option maxRecDepth 100000
set_option maxHeartbeats 16000000
open Go.RowKit
structure LiesF (w:World) (a:Option Addr) (F:Nat→FoundB) (n:Nat):Prop where
 at_:0 < n→∃ b,a=some ⟨b,0,none⟩∧b < w.heap.size∧∀ j,j < n→∃ ca cc,
  w.cell? ⟨b,j*5,none⟩=some (strB (F j).name)∧w.cell? ⟨b,j*5+1,none⟩=some (.int .i64 (F j).kind)∧w.cell? ⟨b,j*5+2,none⟩=some (.int .i64 (F j).key)∧w.cell? ⟨b,j*5+3,none⟩=some (.int .i64 (F j).state) ∧
  w.cell? ⟨b,j*5+4,none⟩=some (.slice ca (F j).cells.length cc)∧Lies w ca (F j).cells∧(F j).cells.length≤1000
theorem LiesF.later {w w':World} {a:Option Addr} {F:Nat→FoundB} {n:Nat} (h:LiesF w a F n) (hb:Below w.heap.size w w'):LiesF w' a F n:=by
 refine ⟨fun hne=>?_⟩
 obtain ⟨b,ha,hlt,hc⟩:=h.at_ hne
 refine ⟨b,ha,Nat.lt_of_lt_of_le hlt hb.size,fun j hj=>?_⟩
 obtain ⟨ca,cc,h1,h2,h3,h4,h5,h6,h7⟩:=hc j hj
 exact ⟨ca,cc,(hb.cell (p:=⟨b,_,none⟩) hlt).trans h1,(hb.cell (p:=⟨b,_,none⟩) hlt).trans h2,(hb.cell (p:=⟨b,_,none⟩) hlt).trans h3,(hb.cell (p:=⟨b,_,none⟩) hlt).trans h4,(hb.cell (p:=⟨b,_,none⟩) hlt).trans h5,h6.later hb,h7⟩
theorem Tn (a a2:Option Addr) (cap cap2:Nat) (F:Nat→FoundB) (n:Nat) (w:World) (hm:n≤1000) (hl:LiesF w a F n) (hl2:LiesF w a2 F n) :
  Calls Tryz.prog 39 #[.slice a n cap,.slice a2 n cap2] w fun e w'=>e=.returned (.bool true)∧Below w.heap.size w w':=by
 have Hl:=hid hl
 have Hl2:=hid hl2
 clear hl hl2
 have hne:((n:Int) != (n:Int))=false:=by simp
 go_enter Tryz.func39,Tryz.ntmps39
 go_wp2
 go_loopw [5] (fun i wr=>∃ k:Nat,k≤n∧i=.int .i64 (k:Int)∧Below w.heap.size w wr) (fun i _=>n - (intOf i).toNat)
 case atStart=>exact ⟨0,Nat.zero_le _,rfl,Below.refl _ _⟩
 case round =>
  obtain ⟨k,hk,rfl,hB⟩:=hrel
  have HB:=hid hB
  clear hne
  by_cases hlt:k < n
  ·obtain ⟨b,rfl,hbw,hcell⟩:=(Hl.out.later hB).at_ (by omega)
   obtain ⟨ca,cc,g1,g2,g3,g4,g5,g6,g7⟩:=hcell k hlt
   obtain ⟨b',rfl,hbw',hcell'⟩:=(Hl2.out.later hB).at_ (by omega)
   obtain ⟨ca',cc',k1,k2,k3,k4,k5,k6,k7⟩:=hcell' k hlt
   clear hcell hcell' k7 hB
   have hki:(k:Int) < (n:Int):=by omega
   have HSC:=hid (fun w' (hb:Below wr.heap.size wr w')=>Sv ca ca' cc cc' (F k).cells w' (by unfold maxLen;omega) (g6.later hb) (k6.later hb))
   clear g6 k6
   generalize (F k).cells=ce at *
   generalize (F k).name=nm at *
   generalize (F k).kind=kd at *
   generalize (F k).key=ky at *
   generalize (F k).state=st at *
   generalize ce.length=m at *
   have HS0:=hid (show wr.cell? ⟨b,k*5,none⟩=some (strB nm)∧wr.cell? ⟨b,k*5+1,none⟩=some (.int .i64 kd)∧wr.cell? ⟨b,k*5+2,none⟩=some (.int .i64 ky)∧wr.cell? ⟨b,k*5+3,none⟩=some (.int .i64 st)∧wr.cell? ⟨b,k*5+4,none⟩=some (.slice ca m cc)∧wr.cell? ⟨b',k*5,none⟩=some (strB nm)∧wr.cell? ⟨b',k*5+1,none⟩=some (.int .i64 kd)∧wr.cell? ⟨b',k*5+2,none⟩=some (.int .i64 ky)∧wr.cell? ⟨b',k*5+3,none⟩=some (.int .i64 st)∧wr.cell? ⟨b',k*5+4,none⟩=some (.slice ca' m cc') from ⟨g1,g2,g3,g4,g5,k1,k2,k3,k4,k5⟩)
   have HLT:=hid (And.intro hbw hbw')
   clear g1 g2 g3 g4 g5 k1 k2 k3 k4 k5 hbw hbw' g7
   go_upto_region 6 with fail
   refine wp_region_held_drew (S:=fun w'=>w'.cell? ⟨b,k*5,none⟩=some (strB nm)∧w'.cell? ⟨b,k*5+1,none⟩=some (.int .i64 kd)∧w'.cell? ⟨b,k*5+2,none⟩=some (.int .i64 ky)∧w'.cell? ⟨b,k*5+3,none⟩=some (.int .i64 st)∧w'.cell? ⟨b,k*5+4,none⟩=some (.slice ca m cc)∧w'.cell? ⟨b',k*5,none⟩=some (strB nm)∧w'.cell? ⟨b',k*5+1,none⟩=some (.int .i64 kd)∧w'.cell? ⟨b',k*5+2,none⟩=some (.int .i64 ky)∧w'.cell? ⟨b',k*5+3,none⟩=some (.int .i64 st)∧w'.cell? ⟨b',k*5+4,none⟩=some (.slice ca' m cc')) (by kernel_rfl) HS0.out (fun hHeld=>?_)
   refine tk 0 (.slice (some ⟨b,0,none⟩) n cap) ?_
   refine tk 1 (.int .i64 (k:Int)) ?_
   refine tk 2 (.pointer (some ⟨b,k*5,none⟩)) ?_
   refine tk 3 (.pointer (some ⟨b,k*5+4,none⟩)) ?_
   refine tk 4 (.slice ca m cc) ?_
   refine tk 5 (.slice (some ⟨b',0,none⟩) n cap2) ?_
   refine tk 6 (.int .i64 (k:Int)) ?_
   refine tk 7 (.pointer (some ⟨b',k*5,none⟩)) ?_
   refine tk 8 (.pointer (some ⟨b',k*5+4,none⟩)) ?_
   refine tk 9 (.slice ca' m cc') ?_
   simp only [ga,gb,gc,Act.put,gd,ge,gf]
   refine rd 10 (fun K hK=>?_)
   simp only [ga,gb,gc]
   go_simp
   go_at_call 92
   refine (HSC.out _ (qb (Below.refl _ _))).mono ?_
   rintro e w1 ⟨rfl,hb1⟩
   have hb1':=ji hb1
   have HB1:=hid (HB.out.trans (hb1'.mono HB.out.size))
   have HS1:Hid (w1.cell? ⟨b,k*5,none⟩=some (strB nm)∧w1.cell? ⟨b,k*5+1,none⟩=some (.int .i64 kd)∧w1.cell? ⟨b,k*5+2,none⟩=some (.int .i64 ky)∧w1.cell? ⟨b,k*5+3,none⟩=some (.int .i64 st)∧w1.cell? ⟨b,k*5+4,none⟩=some (.slice ca m cc)∧w1.cell? ⟨b',k*5,none⟩=some (strB nm)∧w1.cell? ⟨b',k*5+1,none⟩=some (.int .i64 kd)∧w1.cell? ⟨b',k*5+2,none⟩=some (.int .i64 ky)∧w1.cell? ⟨b',k*5+3,none⟩=some (.int .i64 st)∧w1.cell? ⟨b',k*5+4,none⟩=some (.slice ca' m cc')):=by
    obtain ⟨a1,a2,a3,a4,a5,b1,b2,b3,b4,b5⟩:=HS0.out
    obtain ⟨l1,l2⟩:=HLT.out
    exact ⟨(hb1'.cell (p:=⟨b,_,none⟩) l1).trans a1,(hb1'.cell (p:=⟨b,_,none⟩) l1).trans a2,(hb1'.cell (p:=⟨b,_,none⟩) l1).trans a3,(hb1'.cell (p:=⟨b,_,none⟩) l1).trans a4,(hb1'.cell (p:=⟨b,_,none⟩) l1).trans a5,(hb1'.cell (p:=⟨b',_,none⟩) l2).trans b1,(hb1'.cell (p:=⟨b',_,none⟩) l2).trans b2,(hb1'.cell (p:=⟨b',_,none⟩) l2).trans b3,(hb1'.cell (p:=⟨b',_,none⟩) l2).trans b4,(hb1'.cell (p:=⟨b',_,none⟩) l2).trans b5⟩
   clear hb1 hb1' HSC
   try go_wp2_with fail
   refine hK.out _ _ HS1.out (fun hHeld=>?_)
   clear hK K
   try simp only [ga,gb,gc,Act.put,gd,ge,gf]
   refine tk 11 (.bool true) ?_
   simp only [ga,gb,gc,Act.put,gd,ge,gf]
   refine wpAnyH_done (by kernel_rfl) ?_ _
   clear hHeld
   go_upto_region 7 with fail
   refine wp_region_held_drew (S:=fun w'=>w'.cell? ⟨b,k*5,none⟩=some (strB nm)∧w'.cell? ⟨b,k*5+1,none⟩=some (.int .i64 kd)∧w'.cell? ⟨b,k*5+2,none⟩=some (.int .i64 ky)∧w'.cell? ⟨b,k*5+3,none⟩=some (.int .i64 st)∧w'.cell? ⟨b,k*5+4,none⟩=some (.slice ca m cc)∧w'.cell? ⟨b',k*5,none⟩=some (strB nm)∧w'.cell? ⟨b',k*5+1,none⟩=some (.int .i64 kd)∧w'.cell? ⟨b',k*5+2,none⟩=some (.int .i64 ky)∧w'.cell? ⟨b',k*5+3,none⟩=some (.int .i64 st)∧w'.cell? ⟨b',k*5+4,none⟩=some (.slice ca' m cc')) (by kernel_rfl) HS1.out (fun hHeld=>?_)
   refine tk 0 (.slice (some ⟨b,0,none⟩) n cap) ?_
   refine tk 1 (.int .i64 (k:Int)) ?_
   refine tk 2 (.pointer (some ⟨b,k*5,none⟩)) ?_
   refine tk 3 (.pointer (some ⟨b,k*5,none⟩)) ?_
   refine tk 4 (strB nm) ?_
   refine tk 5 (.slice (some ⟨b',0,none⟩) n cap2) ?_
   refine tk 6 (.int .i64 (k:Int)) ?_
   refine tk 7 (.pointer (some ⟨b',k*5,none⟩)) ?_
   refine tk 8 (.pointer (some ⟨b',k*5,none⟩)) ?_
   refine tk 9 (strB nm) ?_
   refine tk 10 (.bool false) ?_
   refine tk 11 (.bool false) ?_
   refine tk 12 (.slice (some ⟨b,0,none⟩) n cap) ?_
   refine tk 13 (.int .i64 (k:Int)) ?_
   refine tk 14 (.pointer (some ⟨b,k*5,none⟩)) ?_
   refine tk 15 (.pointer (some ⟨b,k*5+1,none⟩)) ?_
   refine tk 16 (.int .i64 kd) ?_
   refine tk 17 (.slice (some ⟨b',0,none⟩) n cap2) ?_
   refine tk 18 (.int .i64 (k:Int)) ?_
   refine tk 19 (.pointer (some ⟨b',k*5,none⟩)) ?_
   refine tk 20 (.pointer (some ⟨b',k*5+1,none⟩)) ?_
   refine tk 21 (.int .i64 kd) ?_
   refine tk 22 (.bool false) ?_
   refine tk 23 (.bool false) ?_
   refine tk 24 (.bool false) ?_
   refine tk 25 (.slice (some ⟨b,0,none⟩) n cap) ?_
   refine tk 26 (.int .i64 (k:Int)) ?_
   refine tk 27 (.pointer (some ⟨b,k*5,none⟩)) ?_
   refine tk 28 (.pointer (some ⟨b,k*5+2,none⟩)) ?_
   refine tk 29 (.int .i64 ky) ?_
   refine tk 30 (.slice (some ⟨b',0,none⟩) n cap2) ?_
   refine tk 31 (.int .i64 (k:Int)) ?_
   refine tk 32 (.pointer (some ⟨b',k*5,none⟩)) ?_
   refine tk 33 (.pointer (some ⟨b',k*5+2,none⟩)) ?_
   refine tk 34 (.int .i64 ky) ?_
   refine tk 35 (.bool false) ?_
   refine tk 36 (.bool false) ?_
   refine tk 37 (.bool false) ?_
   refine tk 38 (.slice (some ⟨b,0,none⟩) n cap) ?_
   refine tk 39 (.int .i64 (k:Int)) ?_
   refine tk 40 (.pointer (some ⟨b,k*5,none⟩)) ?_
   refine tk 41 (.pointer (some ⟨b,k*5+3,none⟩)) ?_
   refine tk 42 (.int .i64 st) ?_
   refine tk 43 (.slice (some ⟨b',0,none⟩) n cap2) ?_
   refine tk 44 (.int .i64 (k:Int)) ?_
   refine tk 45 (.pointer (some ⟨b',k*5,none⟩)) ?_
   refine tk 46 (.pointer (some ⟨b',k*5+3,none⟩)) ?_
   refine tk 47 (.int .i64 st) ?_
   refine tk 48 (.bool false) ?_
   refine tk 49 (.bool false) ?_
   refine tk 50 (.bool false) ?_
   refine tk 51 (.bool true) ?_
   refine tk 52 (.bool false) ?_
   refine tk 53 (.bool false) ?_
   simp only [ga,gb,gc,Act.put,gd,ge,gf]
   refine wpAnyH_done (by kernel_rfl) ?_ _
   clear hHeld
   go_wp2
   go_roundw
   case rel=>exact ⟨k+1,by omega,by go_num,qb HB1.out⟩
   case measure=>simp [intOf];omega
  ·have hke:k=n:=by omega
   subst hke
   go_wp2
   go_ret
   exact ⟨rfl,HB.out⟩
end Go.Proofs.YthhpbhpfagoapaaGreat
