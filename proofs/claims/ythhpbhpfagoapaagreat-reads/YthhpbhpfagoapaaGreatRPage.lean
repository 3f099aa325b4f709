import Derived.Test.YthhpbhpfagoapaaGreatRWay3
import Derived.Test.YthhpbhpfagoapaaGreatJAB
import Derived.Test.YthhpbhpfagoapaaGreatJAJ
import Derived.Deep.RegionWith
namespace Go.Proofs.YthhpbhpfagoapaaGreat
set_option linter.unusedVariables false
set_option linter.unusedSimpArgs false
set_option maxRecDepth 100000
set_option maxHeartbeats 16000000
open Go.RowKit
theorem DJ (n:Nat) (hn:n≤5) (a:Option Addr) (cap:Nat) (l:List CellB) (w:World) (hv:Vals w a l) :
  Calls Tryz.prog 117 #[.int .i64 (n:Int),.slice a l.length cap] w fun e w'=>e=.returned (strB (qp n l))∧Below w.heap.size w w':=by
 match n,hn with
 | 0,_=>exact Be a cap l w hv
 | 1,_=>exact Bg a cap l w hv
 | 2,_=>exact Bd a cap l w hv
 | 3,_=>exact Bi a cap l w hv
 | 4,_=>exact Bf a cap l w hv
 | 5,_=>exact Bh a cap l w hv
def DF (kind:Int):Array Value:=#[.int .i64 (Xl kind 0:Int),.int .i64 (Xl kind 1:Int),.int .i64 (Xl kind 2:Int)]
theorem Tb (kind:Int) (w:World) :
  Calls Tryz.prog 116 #[.int .i64 kind] w fun e w'=>e=.returned (.slice (some ⟨w.heap.size,0,none⟩) 3 3)∧w'=w.alloc (.cells (DF kind) 3):=by
 by_cases hk:kind=0
 ·subst hk
  go_enter Tryz.func116,Tryz.ntmps116
  go_wp2
  go_ret
  exact ⟨rfl,rfl⟩
 ·have hk2:(kind == 0)=false:=by simp [hk]
  have HW:Hid (DF kind=#[.int .i64 5,.int .i64 3,.int .i64 4]):=by simp [Hid,DF,Xl,hk]
  clear hk
  go_enter Tryz.func116,Tryz.ntmps116
  go_wp2
  go_ret
  exact ⟨rfl,by rw [HW.out]⟩
theorem Sf (kind:Int) (w:World) (k:Nat) (hk:k < 3):(w.alloc (.cells (DF kind) 3)).cell? ⟨w.heap.size,k,none⟩=some (.int .i64 (Xl kind k:Int)):=by
 rw [World.cell?_alloc_mark]
 match k,hk with
 | 0,_=>rfl
 | 1,_=>rfl
 | 2,_=>rfl
theorem PL (kind:Int) (k:Nat) (hk:k < 3):Xl kind k≤5:=by
 unfold Xl;split
 ·omega
 ·split<;>omega
theorem Vals.alloc {w:World} {a:Option Addr} {l:List CellB} (h:Vals w a l) (o:Obj):Vals (w.alloc o) a l:=h.later ((Below.refl _ _).alloc (Nat.le_refl _) _)
theorem Vals.drew {w:World} {a:Option Addr} {l:List CellB} (h:Vals w a l):Vals w.drew a l:=h.later (Below.refl _ _).drew
theorem SP (n:Nat) (h:n≤5):IntKind.u8.wrap ((n:Int).tmod 5)=(n:Int) % 5:=by
 rw [Int.tmod_eq_emod_of_nonneg (by omega),IntKind.wrap_u8];omega
theorem Lq (W:World) (n:Nat) (h:n≤5) :
  Sem.run Tryz.prog (convert 149 9 (.slice (some ⟨W.heap.size,0,none⟩) 1 1)) (W.alloc (.cells #[.int .u8 (IntKind.u8.wrap ((n:Int).tmod 5))] 5)) =
   .ok (strB [byB ((n:Int) % 5)]) (W.alloc (.cells #[.int .u8 (IntKind.u8.wrap ((n:Int).tmod 5))] 5)):=by
 rw [SP n h]
 exact Kq W _ (by omega) (by omega)
theorem DB (W:World) (n:Nat) (h:n≤5) (w5:World) (hb:Below (W.alloc (.cells #[.int .u8 (IntKind.u8.wrap ((n:Int).tmod 5))] 5)).heap.size (W.alloc (.cells #[.int .u8 (IntKind.u8.wrap ((n:Int).tmod 5))] 5)) w5) :
  Sem.run Tryz.prog (convert 149 9 (.slice (some ⟨W.heap.size,0,none⟩) 1 1)) w5=.ok (strB [byB ((n:Int) % 5)]) w5:=by
 refine run_convert_bytes_back (P:=Tryz.prog) _ 149 9 5 ⟨W.heap.size,0,none⟩ 1 [byB ((n:Int) % 5)] Tryz.underlying149 Tryz.underlying5 Tryz.underlying9 ?_
 intro j hj
 match j,hj with
 | 0,_ =>
  have e:(⟨W.heap.size,0,none⟩:Addr).add 0=⟨W.heap.size,0,none⟩:=rfl
  rw [e,hb.cell (p:=⟨W.heap.size,0,none⟩) (by simp),World.cell?_alloc_mark,SP n h]
  simp [xE ((n:Int) % 5) (by omega) (by omega)]
theorem Sp (W:World) (n:Nat) (h:n≤5) :
  Sem.run Tryz.prog (convert 149 9 (.slice (some ⟨W.heap.size,0,none⟩) 1 1)) (W.alloc (.cells #[.int .u8 (IntKind.u8.wrap ((n:Int).tmod 5))] 5)).drew =
   .ok (strB [byB ((n:Int) % 5)]) (W.alloc (.cells #[.int .u8 (IntKind.u8.wrap ((n:Int).tmod 5))] 5)).drew :=
 DB W n h _ (Below.refl _ _).drew
theorem VO {wr w5:World} {o:Obj} (hb:Below (wr.alloc o).drew.heap.size (wr.alloc o).drew w5):Below wr.heap.size wr w5 :=
 ((Below.refl _ _).alloc (Nat.le_refl _) _).trans ((ji hb).mono (by show wr.heap.size≤(wr.alloc o).heap.size;simp))
theorem Ar {wr w5:World} {o:Obj} {g k:Nat} {v:Value} (hb:Below (wr.alloc o).drew.heap.size (wr.alloc o).drew w5) (hg:g < wr.heap.size) (hc:wr.cell? ⟨g,k,none⟩=some v):w5.cell? ⟨g,k,none⟩=some v :=
 ((VO hb).cell (p:=⟨g,k,none⟩) hg).trans hc
theorem Eg {l:List CellB} (h:l.length=0):l=[]:=List.eq_nil_of_length_eq_zero h
set_option maxRecDepth 100000 in
theorem Pz (kind:Int) (a:Option Addr) (cap:Nat) (l:List CellB) (w:World) (hv:Vals w a l) :
  Calls Tryz.prog 52 #[.int .i64 kind,.slice a l.length cap] w fun e w'=>e=.returned (strB (xw kind l))∧Below w.heap.size w w':=by
 have Hv:=hid hv
 have hn:=hv.few
 clear hv
 go_enter Tryz.func52,Tryz.ntmps52
 go_wp2_with fail
 refine (NA a cap l _ (by omega) Hv.out.lies).mono ?_
 rintro e w1 ⟨vv,rfl,hown,hb1⟩
 have hmem:∀ c ∈ je l,c ∈ l:=fun c hc=>(List.mem_filter.1 hc).1
 have hsv:∀ c ∈ je l,qz c:=fun c hc=>Hv.out.small c (hmem c hc)
 have hvl:(je l).length≤l.length:=List.length_filter_le _ _
 have HP:Hid (xw kind l=if je l=[] then zr l else zr l++jE kind (je l) 3):=rfl
 have hhl:=Zq l hn
 obtain ⟨va,vcap,rfl,_,hLv⟩:=Jz hown (fun c hc=>Pu (hsv c hc))
 have HV:Hid (Vals w1 va (je l)):=⟨hLv,hsv,by omega⟩
 have Hsv:=hid hsv
 clear hown hLv hmem hsv
 generalize je l=vs at *
 by_cases h0:vs.length=0
 ·have HP2:Hid (xw kind l=zr l):=by have:=HP.out;rw [if_pos (Eg h0)] at this;exact this
  have hz:((vs.length:Int) == 0)=true:=beq_iff_eq.2 (by omega)
  clear h0
  go_wp2_with fail
  refine (ID a cap l _ hn (Hv.out.later hb1).lies).mono ?_
  rintro e w2 ⟨rfl,hb2⟩
  go_wp2
  go_ret
  exact ⟨qt HP2.out.symm,hb1.trans (hb2.mono hb1.size)⟩
 ·have HP2:Hid (xw kind l=zr l++jE kind vs 3):=by have:=HP.out;rw [if_neg (fun h=>h0 (by rw [h];rfl))] at this;exact this
  have hz:((vs.length:Int) == 0)=false:=beq_eq_false_iff_ne.2 (by omega)
  clear h0 HP
  go_wp2_with fail
  refine (Tb kind _).mono ?_
  rintro e w2 ⟨rfl,hw2⟩
  have hgw:w1.heap.size < w2.heap.size:=by rw [hw2];simp
  have hb2:Below w1.heap.size w1 w2:=by rw [hw2];exact (Below.refl _ _).alloc (Nat.le_refl _) _
  have HC:Hid (∀ k,k < 3→w2.cell? ⟨w1.heap.size,k,none⟩=some (.int .i64 (Xl kind k:Int))):=by intro k hk;rw [hw2];exact Sf kind w1 k hk
  have HV2:=hid (HV.out.later hb2)
  have hB2:=hb1.trans (hb2.mono hb1.size)
  clear hw2 hb2
  generalize hgg:w1.heap.size=gw at *
  have HGg:=hid hgg
  clear hgg
  go_wp2_with fail
  go_loopw [7,8] (fun s i wr=>∃ k:Nat,k≤3∧i=.int .i64 (k:Int)∧s=strB (jE kind vs k)∧Below w2.heap.size w2 wr) (fun _ i _=>3 - (intOf i).toNat)
  case atStart=>exact ⟨0,Nat.zero_le _,rfl,rfl,Below.refl _ _⟩
  case round =>
   obtain ⟨k,hk,rfl,rfl,hB⟩:=hrel
   have hbl:=XK kind vs Hsv.out (by omega) k
   by_cases hlt:k < 3
   ·have hck:=(hB.cell (p:=⟨gw,k,none⟩) hgw).trans (HC.out k hlt)
    have hVr:=HV2.out.later hB
    have HVr:=hid hVr
    have hwn:=PL kind k hlt
    have HBt:Hid (jE kind vs (k+1)=if k=0∨(zW (Xl kind k) vs).length < (jE kind vs k).length then zW (Xl kind k) vs else jE kind vs k):=rfl
    have hwl:=Kz (Xl kind k) vs Hsv.out (by omega)
    clear hVr
    generalize Xl kind k=n at *
    generalize jE kind vs k=best at *
    have hcv:=fun W=>Kq W ((n:Int) % 5) (by omega) (by omega)
    have hzr:=hB.size
    go_upto_region 9 with fail
    go_cut [9] (fun s wd=>s=strB (zW n vs)∧Below wr.heap.size wr wd)
    case first =>
     have hgr:gw < wr.heap.size:=by omega
     have hq1:¬ (9223372036854775807 < 1+(qp n vs).length):=by omega
     clear hcv
     have hcv1:=fun W=>Lq W n hwn
     have hcv2:=fun W=>Sp W n hwn
     go_region_with (first
      | (go_at_call 117;refine (DJ n hwn va vcap vs _ ?_).mono ?_;exact HVr.out.drew;rintro e w5 ⟨rfl,hb5⟩;have x5:w5.cell? ⟨gw,k,none⟩=some (.int .i64 (n:Int)):=(hb5.cell (p:=⟨gw,k,none⟩) hgr).trans hck;have hBw:Below wr.heap.size wr w5:=ji hb5)
      | (go_at_call 117;refine (DJ n hwn va vcap vs _ ?_).mono ?_;exact (HVr.out.alloc _).drew;rintro e w5 ⟨rfl,hb5⟩;have x5:w5.cell? ⟨gw,k,none⟩=some (.int .i64 (n:Int)):=Ar hb5 hgr hck;have hBw:Below wr.heap.size wr w5:=VO hb5;have hcv5:=DB wr n hwn w5 (ji hb5)))
     all_goals
      go_wp2_with fail
      go_meet
      case rel=>exact ⟨by simp [zW,xg],by first|exact hBw|exact hBw.alloc hBw.size _⟩
    case rest =>
     obtain ⟨rfl,hBd⟩:=hcut
     have hB5:=hB.trans (hBd.mono hzr)
     have HB5:=hid hB5
     have hcl:(zW n vs).length≤5001:=by simp only [zW,List.length_cons];omega
     clear hB hBd hB5 hck hcv
     have hcs:(((k:Int) == 0)=true)∨(((k:Int) == 0)=false∧(zW n vs).length < best.length)∨(((k:Int) == 0)=false∧¬ (zW n vs).length < best.length):=by
      by_cases h:k=0
      ·left;simp [h]
      ·right
       by_cases h2:(zW n vs).length < best.length
       ·left;exact ⟨by simp;omega,h2⟩
       ·right;exact ⟨by simp;omega,h2⟩
     rcases hcs with c1|⟨c1,c2⟩|⟨c1,c2⟩
     ·have HB1:Hid (jE kind vs (k+1)=zW n vs):=by have:=HBt.out;rw [if_pos (.inl (by simpa using c1))] at this;exact this
      generalize zW n vs=cd at *
      go_wp2
      go_roundw
      case rel=>exact ⟨k+1,by omega,by go_num,by rw [HB1.out],HB5.out⟩
      case measure=>simp [intOf];omega
     ·have HB1:Hid (jE kind vs (k+1)=zW n vs):=by have:=HBt.out;rw [if_pos (.inr c2)] at this;exact this
      generalize zW n vs=cd at *
      go_wp2
      go_roundw
      case rel=>exact ⟨k+1,by omega,by go_num,by rw [HB1.out],HB5.out⟩
      case measure=>simp [intOf];omega
     ·have HB1:Hid (jE kind vs (k+1)=best):=by have:=HBt.out;rw [if_neg (fun h=>h.elim (by simpa using c1) c2)] at this;exact this
      generalize zW n vs=cd at *
      go_wp2
      go_roundw
      case rel=>exact ⟨k+1,by omega,by go_num,by rw [HB1.out],HB5.out⟩
      case measure=>simp [intOf];omega
   ·have hk3:k=3:=by omega
    subst hk3
    have hB3:=hB2.trans (hB.mono hB2.size)
    go_wp2_with fail
    refine (ID a cap l _ hn (Hv.out.later hB3).lies).mono ?_
    rintro e w5 ⟨rfl,hb5⟩
    go_wp2
    go_ret
    exact ⟨Yi HP2.out.symm,hB3.trans (hb5.mono hB3.size)⟩
end Go.Proofs.YthhpbhpfagoapaaGreat
