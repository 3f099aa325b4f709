import Derived.Test.YthhpbhpfagoapaaGreatJAA
import Derived.Test.YthhpbhpfagoapaaGreatRTk
import Derived.Test.YthhpbhpfagoapaaGreatYOpen
import Derived.Test.YthhpbhpfagoapaaGreatJBS
import Derived.Test.YthhpbhpfagoapaaGreatJAU
import Derived.Test.YthhpbhpfagoapaaGreatJAL
namespace Go.Proofs.YthhpbhpfagoapaaGreat
set_option linter.unusedVariables false
set_option linter.unusedSimpArgs false
set_option maxRecDepth 100000
set_option maxHeartbeats 16000000
open Go.RowKit
section
abbrev toldC (r g p f:Int) (cv sv pv ev:Value):Array Value:=#[.int .i64 r,.int .i64 g,.int .i64 p,.int .i64 f,.bool false,cv,sv,pv,ev]
abbrev nilV:Value:=.slice none 0 0
theorem xA {w:World} {q:Nat} {a b c d e f g h i:Value} {t:TypeId} (hh:w.heap[q]?=some (.cells #[a,b,c,d,e,f,g,h,i] t (0,0))) :
  w.cell? ⟨q,0,none⟩=some a∧w.cell? ⟨q,1,none⟩=some b∧w.cell? ⟨q,2,none⟩=some c∧w.cell? ⟨q,3,none⟩=some d∧w.cell? ⟨q,4,none⟩=some e∧w.cell? ⟨q,5,none⟩=some f∧w.cell? ⟨q,6,none⟩=some g∧w.cell? ⟨q,7,none⟩=some h∧w.cell? ⟨q,8,none⟩=some i:=by
 refine ⟨?_,?_,?_,?_,?_,?_,?_,?_,?_⟩<;>rw [cell_of_row w q _ _ _ (0,0) hh]<;>rfl
theorem KE {w w':World} (h:Below w.heap.size w w'):w.grownBy w' none:=⟨h.os,h.tape,h.output,h.size,fun k hk _=>h.block k hk⟩
theorem GH {w w' w2:World} {p:Nat} (h:w.grownBy w' (some p)) (hb:Below w'.heap.size w' w2):w.grownBy w2 (some p) :=
 ⟨hb.os.trans h.os,hb.tape.trans h.tape,hb.output.trans h.output,ar h.size hb.size,fun i hi hne=>(hb.block i (aa hi h.size)).trans (h.block i hi hne)⟩
theorem YX (p foot:Nat) (footer:List UInt8) (w:World) (hs:footer.length≤maxLen) (hp:jY w p footer (some footer)) (hf:foot≤255) :
  Calls Tryz.prog 151 #[.pointer (some ⟨p,0,none⟩),.int .i64 (foot:Int)] w fun e w'=>w.grownBy w' (some p) ∧
   ∃ T cv,e=.returned (.tuple #[.pointer (some ⟨T,0,none⟩),.bool (Kj foot footer)])∧w.heap.size≤T∧w'.heap[T]?=some (.cells (toldC (qR footer:Int) (zx footer).group (zx footer).page (zx footer).foot cv nilV nilV nilV) 179 (0,0))∧w'.ownsRow w.heap.size 61 4 cv (xV footer).1.length (zW (xV footer).1):=by
 obtain ⟨i0,hi,hz0,hz1,hz2⟩:=info_parts Tryz.infoColumnX
 have hpw:=Qe hp
 obtain ⟨_,_,_,ho0⟩:=qm w (toldC 0 0 0 0 nilV nilV nilV nilV) 179
 have HS0:=hid (zz hp hpw (.cells (toldC 0 0 0 0 nilV nilV nilV nilV) 179))
 have HG0:=hid (World.grownBy_alloc w (.cells (toldC 0 0 0 0 nilV nilV nilV nilV) 179) (some p))
 have HT0:=hid ho0
 have HR:Hid (qR footer=(jQ 60 (some footer)).1):=rfl
 have HP:Hid (zx footer=⟨((jQ 60 (jQ 60 (some footer)).2).1:Nat),((jQ 60 (jQ 60 (jQ 60 (some footer)).2).2).1:Nat),((jQ 9 (jQ 60 (jQ 60 (jQ 60 (some footer)).2).2).2).1:Nat),false⟩):=rfl
 have HC:Hid (xV footer=xP (jQ 6 (jQ 9 (jQ 60 (jQ 60 (jQ 60 (some footer)).2).2).2).2).2 (jQ 6 (jQ 9 (jQ 60 (jQ 60 (jQ 60 (some footer)).2).2).2).2).1):=rfl
 clear hp ho0
 go_enter Tryz.func151,Tryz.ntmps151
 go_upto_region 2 with fail
 generalize w.alloc _=W0 at *
 go_wp2_with fail
 refine (Jz p footer (some footer) 60 W0 hs (by decide) (by decide) HS0.out).mono ?_
 rintro e x ⟨rfl,hsp,hg⟩
 have HTa:=hid (qp hg HT0.out (by omega))
 have HGa:=hid (ja HG0.out hg)
 have HSa:=hid hsp
 have hle:=xO 60 (some footer)
 clear hg hsp HT0 HG0 HS0
 rw [show (60:Int).toNat=60 from rfl] at HSa ⊢
 generalize jQ 60 (some footer)=y at *
 obtain ⟨v0,s1⟩:=y
 simp only at HR HP HC HSa hle ⊢
 have cc:=(xA HTa.out).1
 have ff:=frozen_of_row x w.heap.size 0 _ _ HTa.out
 go_upto_region 3 with fail
 clear cc ff
 have hgs:=Jc x w.heap.size 0 (.int .i64 (v0:Int))
 have HT1:Hid ((x.setCell ⟨w.heap.size,0,none⟩ (.int .i64 (v0:Int))).heap[w.heap.size]?=some (.cells (toldC (v0:Int) 0 0 0 nilV nilV nilV nilV) 179 (0,0))):=heap_setCell_same x w.heap.size 0 _ _ (.int .i64 (v0:Int)) HTa.out
 have HS1:=hid (xw HSa.out hgs (by omega))
 have HG1:=hid (zo HGa.out hgs (ae _))
 clear hgs HTa HSa HGa
 generalize x.setCell _ _=W1 at *
 go_wp2_with fail
 refine (Jz p footer s1 60 W1 hs (by decide) (by decide) HS1.out).mono ?_
 rintro e x ⟨rfl,hsp,hg⟩
 have HTa:=hid (qp hg HT1.out (by omega))
 have HGa:=hid (ja HG1.out hg)
 have HSa:=hid hsp
 have hle:=xO 60 s1
 clear hg hsp HT1 HG1 HS1
 rw [show (60:Int).toNat=60 from rfl] at HSa ⊢
 generalize jQ 60 s1=y at *
 obtain ⟨v1,s2⟩:=y
 simp only at HR HP HC HSa hle ⊢
 have cc:=(xA HTa.out).2.1
 have ff:=frozen_of_row x w.heap.size 1 _ _ HTa.out
 go_upto_region 4 with fail
 clear cc ff
 have hgs:=Jc x w.heap.size 1 (.int .i64 (v1:Int))
 have HT2:Hid ((x.setCell ⟨w.heap.size,1,none⟩ (.int .i64 (v1:Int))).heap[w.heap.size]?=some (.cells (toldC (v0:Int) (v1:Int) 0 0 nilV nilV nilV nilV) 179 (0,0))):=heap_setCell_same x w.heap.size 1 _ _ (.int .i64 (v1:Int)) HTa.out
 have HS2:=hid (xw HSa.out hgs (by omega))
 have HG2:=hid (zo HGa.out hgs (ae _))
 clear hgs HTa HSa HGa
 generalize x.setCell _ _=W2 at *
 go_wp2_with fail
 refine (Jz p footer s2 60 W2 hs (by decide) (by decide) HS2.out).mono ?_
 rintro e x ⟨rfl,hsp,hg⟩
 have HTa:=hid (qp hg HT2.out (by omega))
 have HGa:=hid (ja HG2.out hg)
 have HSa:=hid hsp
 have hle:=xO 60 s2
 clear hg hsp HT2 HG2 HS2
 rw [show (60:Int).toNat=60 from rfl] at HSa ⊢
 generalize jQ 60 s2=y at *
 obtain ⟨v2,s3⟩:=y
 simp only at HR HP HC HSa hle ⊢
 have cc:=(xA HTa.out).2.2.1
 have ff:=frozen_of_row x w.heap.size 2 _ _ HTa.out
 go_upto_region 5 with fail
 clear cc ff
 have hgs:=Jc x w.heap.size 2 (.int .i64 (v2:Int))
 have HT3:Hid ((x.setCell ⟨w.heap.size,2,none⟩ (.int .i64 (v2:Int))).heap[w.heap.size]?=some (.cells (toldC (v0:Int) (v1:Int) (v2:Int) 0 nilV nilV nilV nilV) 179 (0,0))):=heap_setCell_same x w.heap.size 2 _ _ (.int .i64 (v2:Int)) HTa.out
 have HS3:=hid (xw HSa.out hgs (by omega))
 have HG3:=hid (zo HGa.out hgs (ae _))
 clear hgs HTa HSa HGa
 generalize x.setCell _ _=W3 at *
 go_wp2_with fail
 refine (Jz p footer s3 9 W3 hs (by decide) (by decide) HS3.out).mono ?_
 rintro e x ⟨rfl,hsp,hg⟩
 have HTa:=hid (qp hg HT3.out (by omega))
 have HGa:=hid (ja HG3.out hg)
 have HSa:=hid hsp
 have hle:=xO 9 s3
 clear hg hsp HT3 HG3 HS3
 rw [show (9:Int).toNat=9 from rfl] at HSa ⊢
 generalize jQ 9 s3=y at *
 obtain ⟨v3,s4⟩:=y
 simp only at HR HP HC HSa hle ⊢
 have cc:=(xA HTa.out).2.2.2.1
 have ff:=frozen_of_row x w.heap.size 3 _ _ HTa.out
 go_upto_region 6 with fail
 clear cc ff
 have hgs:=Jc x w.heap.size 3 (.int .i64 (v3:Int))
 have HT4:Hid ((x.setCell ⟨w.heap.size,3,none⟩ (.int .i64 (v3:Int))).heap[w.heap.size]?=some (.cells (toldC (v0:Int) (v1:Int) (v2:Int) (v3:Int) nilV nilV nilV nilV) 179 (0,0))):=heap_setCell_same x w.heap.size 3 _ _ (.int .i64 (v3:Int)) HTa.out
 have HS4:=hid (xw HSa.out hgs (by omega))
 have HG4:=hid (zo HGa.out hgs (ae _))
 clear hgs HTa HSa HGa
 generalize x.setCell _ _=W4 at *
 go_wp2_with fail
 refine (Jz p footer s4 6 W4 hs (by decide) (by decide) HS4.out).mono ?_
 rintro e W5 ⟨rfl,hsp,hg⟩
 have HT5:=hid (qp hg HT4.out (by omega))
 have HG5:=hid (ja HG4.out hg)
 have HS5:=hid hsp
 have hn6:=xO 6 s4
 clear hg hsp HT4 HG4 HS4
 rw [show (6:Int).toNat=6 from rfl] at HS5 ⊢
 generalize jQ 6 s4=y at *
 obtain ⟨n,s5⟩:=y
 simp only at HC HS5 hn6 ⊢
 go_wp2
 go_loopw [8] (fun i wr=>∃ (k:Nat) (cv:Value),k≤n∧i=.int .i64 (k:Int)∧wr.heap[w.heap.size]?=some (.cells (toldC (v0:Int) (v1:Int) (v2:Int) (v3:Int) cv nilV nilV nilV) 179 (0,0))∧wr.ownsRow (w.heap.size+1) 61 4 cv k (zW (xP s5 k).1)∧jY wr p footer (xP s5 k).2∧w.grownBy wr (some p)) (fun i _=>n - (intOf i).toNat)
 case atStart=>exact ⟨0,nilV,ah _,rfl,HT5.out,World.ownsRow_nil _ _ _ _,HS5.out,HG5.out⟩
 case round =>
  obtain ⟨k,cv,hkn,rfl,hT,hown,hsp,hg⟩:=hrel
  have HT:=hid hT
  have HO:=hid hown
  have HS:=hid hsp
  have HG:=hid hg
  have hwz:=hg.size
  obtain ⟨va,vc,rfl⟩:=jr hown
  clear hT hown hsp hg
  by_cases hlt:k < n
  ·have hki:(k:Int) < (n:Int):=by omega
   have HST:Hid (xP s5 (k+1)=((xP s5 k).1++[⟨(xR 8 (xP s5 k).2).1,((jQ 1 (xR 8 (xP s5 k).2).2).1:Nat),((jQ 9 (jQ 1 (xR 8 (xP s5 k).2).2).2).1:Nat),[]⟩],(jQ 9 (jQ 1 (xR 8 (xP s5 k).2).2).2).2)):=rfl
   generalize xP s5 k=q at *
   obtain ⟨tks,sk⟩:=q
   simp only at HO HS HST ⊢
   go_wp2_with fail
   refine (YI p footer sk 8 wr hs (by decide) (by decide) HS.out).mono ?_
   rintro e wa ⟨rfl,hsp,hg⟩
   rw [show (8:Int).toNat=8 from rfl] at hsp ⊢
   generalize xR 8 sk=y at *
   obtain ⟨nm,sa⟩:=y
   simp only at HST hsp ⊢
   have hza:=hg.size
   have HTa:=hid (JK (.cells #[Value.string { data:=nm.toArray },.int .i64 0,.int .i64 0,.slice none 0 0] 61) (qp hg HT.out (by omega)))
   have HOa:=hid ((qZ HO.out (by omega) hg).alloc (.cells #[Value.string { data:=nm.toArray },.int .i64 0,.int .i64 0,.slice none 0 0] 61))
   have HSa:=hid (zz hsp (Qe hsp) (.cells #[Value.string { data:=nm.toArray },.int .i64 0,.int .i64 0,.slice none 0 0] 61))
   have HGa:=hid (zj (ja HG.out hg) (.cells #[Value.string { data:=nm.toArray },.int .i64 0,.int .i64 0,.slice none 0 0] 61))
   have Hba:=hid (qm wa #[Value.string { data:=nm.toArray },.int .i64 0,.int .i64 0,.slice none 0 0] 61).2.2.2
   have hBT:w.heap.size < wa.heap.size:=(ag.1 (qp hg HT.out (by omega))).1
   have HOB:Hid ((Value.slice va k vc).ownBlock=none∨(Value.slice va k vc).ownBlock≠some wa.heap.size):=by
    rcases hv:(Value.slice va k vc).ownBlock with _|b
    ·exact .inl rfl
    ·refine .inr (fun e=>?_)
     have:=(HO.out.lt b hv).2
     injection e with e
     omega
   clear hsp hg HT HO HS HG
   go_wp2_with fail
   generalize hwb:wa.alloc _=wb at *
   clear hwb
   generalize hBB:wa.heap.size=B at Hba hBT hza HOB ⊢
   clear hBB
   refine (Jz p footer sa 1 wb hs (by decide) (by decide) HSa.out).mono ?_
   rintro e x ⟨rfl,hsp,hg⟩
   rw [show (1:Int).toNat=1 from rfl] at hsp ⊢
   have hl1:=xO 1 sa
   generalize jQ 1 sa=y at *
   obtain ⟨kd,sb⟩:=y
   simp only at HST hsp hl1 ⊢
   have hbx:=qp hg Hba.out (by omega)
   have HTx:=hid (qp hg HTa.out (by omega))
   have HOx:=hid (qZ HOa.out (by omega) hg)
   have HGx:=hid (ja HGa.out hg)
   have cc:x.cell? ⟨B,1,none⟩=some (.int .i64 0):=by rw [cell_of_row x B 1 _ _ (0,0) hbx];rfl
   have ff:=frozen_of_row x B 1 _ _ hbx
   have Hbx:=hid hbx
   have HSx:=hid hsp
   clear hbx hsp hg HTa HOa HGa HSa Hba
   go_upto_region 12 with fail
   clear cc ff
   have hgs:=Jc x B 1 (.int .i64 (kd:Int))
   have Hba:Hid ((x.setCell ⟨B,1,none⟩ (.int .i64 (kd:Int))).heap[B]?=some (.cells #[Value.string { data:=nm.toArray },.int .i64 (kd:Int),.int .i64 0,.slice none 0 0] 61 (0,0))):=heap_setCell_same x B 1 _ _ (.int .i64 (kd:Int)) Hbx.out
   have HTa:=hid (qp hgs HTx.out (by omega))
   have HOa:=hid (HOx.out.kept hgs HOB.out)
   have HSa:=hid (xw HSx.out hgs (by omega))
   have HGa:=hid (zo HGx.out hgs (by omega))
   clear hgs Hbx HTx HOx HSx HGx
   generalize x.setCell _ _=wc at *
   go_wp2_with fail
   refine (Jz p footer sb 9 wc hs (by decide) (by decide) HSa.out).mono ?_
   rintro e x ⟨rfl,hsp,hg⟩
   rw [show (9:Int).toNat=9 from rfl] at hsp ⊢
   have hl9:=xO 9 sb
   generalize jQ 9 sb=y at *
   obtain ⟨ky,sc⟩:=y
   simp only at HST hsp hl9 ⊢
   have hbx:=qp hg Hba.out (by omega)
   have HTx:=hid (qp hg HTa.out (by omega))
   have HOx:=hid (qZ HOa.out (by omega) hg)
   have HGx:=hid (ja HGa.out hg)
   have cc:x.cell? ⟨B,2,none⟩=some (.int .i64 0):=by rw [cell_of_row x B 2 _ _ (0,0) hbx];rfl
   have ff:=frozen_of_row x B 2 _ _ hbx
   have Hbx:=hid hbx
   have HSx:=hid hsp
   clear hbx hsp hg HTa HOa HGa HSa Hba
   go_upto_region 13 with fail
   clear cc ff
   have hgs:=Jc x B 2 (.int .i64 (ky:Int))
   have Hba:Hid ((x.setCell ⟨B,2,none⟩ (.int .i64 (ky:Int))).heap[B]?=some (.cells #[Value.string { data:=nm.toArray },.int .i64 (kd:Int),.int .i64 (ky:Int),.slice none 0 0] 61 (0,0))):=heap_setCell_same x B 2 _ _ (.int .i64 (ky:Int)) Hbx.out
   have HTa:=hid (qp hgs HTx.out (by omega))
   have HOa:=hid (HOx.out.kept hgs HOB.out)
   have HSa:=hid (xw HSx.out hgs (by omega))
   have HGa:=hid (zo HGx.out hgs (by omega))
   clear hgs Hbx HTx HOx HSx HGx
   generalize x.setCell _ _=wd at *
   have c5:=(xA HTa.out).2.2.2.2.2.1
   refine wp_region_held_drew (S:=fun w'=>w'.heap[B]?=some (.cells #[Value.string { data:=nm.toArray },.int .i64 (kd:Int),.int .i64 (ky:Int),.slice none 0 0] 61 (0,0))) (by kernel_rfl) Hba.out (fun hHeld=>?_)
   refine tk 0 (.pointer (some ⟨w.heap.size,0,none⟩)) ?_
   refine tk 1 (.pointer (some ⟨w.heap.size,0,none⟩)) ?_
   refine tk 2 (.pointer (some ⟨w.heap.size,0,none⟩)) ?_
   refine tk 3 (.pointer (some ⟨w.heap.size,5,none⟩)) ?_
   simp only [jA,jB,jC,Act.put,jD,jE,jF]
   refine wpAnyH_take (i:=5) (oi:=_) (v:=.agg #[Value.string { data:=nm.toArray },.int .i64 (kd:Int),.int .i64 (ky:Int),.slice none 0 0]) rfl (by kernel_rfl) (by kernel_rfl) (by kernel_rfl) (fun _ _ _ h=>h) (Or.inl ⟨by rfl,fun w hSw=>?_⟩) (by assumption) ?_
   ·have hrl:=run_loadVar_row (P:=Tryz.prog) w B 61 61 #[Value.string { data:=nm.toArray },.int .i64 (kd:Int),.int .i64 (ky:Int),.slice none 0 0] (0,0) _ hSw Tryz.underlying61 rfl (by kernel_rfl)
    unfold execOp
    simp [bj,aO,Act.eval,Instr.loadAt,Instr.sureAddr,bQ,bP,bu,hrl]
   simp only [jA,jB,jC,Act.put,jD,jE,jF]
   refine wpAnyH_ready (rs:=[4,6]) (by kernel_rfl) (by simp) ?_
   refine AllReadyH.cons (o:=_) rfl (fun K hK=>?_) (AllReadyH.cons (o:=_) rfl (fun K hK=>?_) AllReadyH.nil)
   ·simp only [jA,jB,jC]
    go_simp
    try go_wp2_with fail
    refine hK.out _ _ Hba.out (fun hHeld=>?_)
    clear hK K
    try simp only [jA,jB,jC,Act.put,jD,jE,jF]
    refine rd 6 (fun K hK=>?_)
    simp only [jA,jB,jC]
    go_simp
    try go_wp2_with fail
    have HbW:Hid ((wd.alloc (.cells #[Value.string { data:=nm.toArray },.int .i64 (kd:Int),.int .i64 (ky:Int),.slice none 0 0] 61)).drew.heap[B]?=some (.cells #[Value.string { data:=nm.toArray },.int .i64 (kd:Int),.int .i64 (ky:Int),.slice none 0 0] 61 (0,0))):=JK _ Hba.out
    have HTW:Hid ((wd.alloc (.cells #[Value.string { data:=nm.toArray },.int .i64 (kd:Int),.int .i64 (ky:Int),.slice none 0 0] 61)).drew.heap[w.heap.size]?=some (.cells (toldC (v0:Int) (v1:Int) (v2:Int) (v3:Int) (.slice va k vc) nilV nilV nilV) 179 (0,0))):=JK _ HTa.out
    have HOW:Hid ((wd.alloc (.cells #[Value.string { data:=nm.toArray },.int .i64 (kd:Int),.int .i64 (ky:Int),.slice none 0 0] 61)).drew.ownsRow (w.heap.size+1) 61 4 (.slice va k vc) k (zW tks)):=HOa.out.alloc _
    have HSW:Hid (jY (wd.alloc (.cells #[Value.string { data:=nm.toArray },.int .i64 (kd:Int),.int .i64 (ky:Int),.slice none 0 0] 61)).drew p footer sc):=zz HSa.out (Qe HSa.out) _
    have HGW:Hid (w.grownBy (wd.alloc (.cells #[Value.string { data:=nm.toArray },.int .i64 (kd:Int),.int .i64 (ky:Int),.slice none 0 0] 61)).drew (some p)):=Je (zj HGa.out _) 1
    have HNW:Hid (∀ j u,([Value.string { data:=nm.toArray },.int .i64 (kd:Int),.int .i64 (ky:Int),.slice none 0 0]:List Value)[j]?=some u→(wd.alloc (.cells #[Value.string { data:=nm.toArray },.int .i64 (kd:Int),.int .i64 (ky:Int),.slice none 0 0] 61)).drew.cell? ((⟨wd.heap.size,0,none⟩:Addr).add j)=some u):=xl wd #[Value.string { data:=nm.toArray },.int .i64 (kd:Int),.int .i64 (ky:Int),.slice none 0 0] 61 (by simp)
    have hzW:w.heap.size+1≤(wd.alloc (.cells #[Value.string { data:=nm.toArray },.int .i64 (kd:Int),.int .i64 (ky:Int),.slice none 0 0] 61)).drew.heap.size:=Nat.succ_le_of_lt (ag.1 HTW.out).1
    have c5W:=(xA HTW.out).2.2.2.2.2.1
    refine hK.out _ _ HbW.out (fun hHeld=>?_)
    clear hK K c5
    try simp only [jA,jB,jC,Act.put,jD,jE,jF]
    generalize hWX:(wd.alloc (.cells #[Value.string { data:=nm.toArray },.int .i64 (kd:Int),.int .i64 (ky:Int),.slice none 0 0] 61)).drew=WX at *
    clear hWX
    generalize hnb:wd.heap.size=nb at HNW ⊢
    clear hnb Hba HTa HOa HSa HGa
    refine rd 7 (fun K hK=>?_)
    simp only [jA,jB,jC]
    rw [aw (by simp [Region.wanted])]
    refine wp_append_own _ (.tmp 57) (.tmp 59) 22 rfl (w.heap.size+1) 61 i0 _ 4 56 Tryz.underlying22 hi hz0 hz1 hz2 rfl (by decide) (.slice va k vc) k (zW tks) rfl HOW.out ⟨nb,0,none⟩ 1 1 [Value.string { data:=nm.toArray },.int .i64 (kd:Int),.int .i64 (ky:Int),.slice none 0 0] rfl rfl HNW.out ?_ (by unfold maxLen;omega) (by omega) hzW ?_
    ·intro u hu
     simp at hu
     rcases hu with rfl|rfl|rfl|rfl<;>rfl
    intro v5 w5 hown5 hgr5 _
    have HB5:Hid (w5.heap[B]?=some (.cells #[Value.string { data:=nm.toArray },.int .i64 (kd:Int),.int .i64 (ky:Int),.slice none 0 0] 61 (0,0))):=by
     show _=_
     rw [hgr5.block B (ag.1 HbW.out).1 (by
      intro e
      rcases HOB.out with h|h
      ·rw [h] at e;cases e
      ·exact h e.symm)]
     exact HbW.out
    have HT5':=hid (jq hgr5 HOW.out HTW.out (by decide))
    have HS5':=hid (JT HSW.out (Qe HSW.out) hgr5 (fun b hb=>by have:=(HOW.out.lt b hb).1;omega))
    have HG5':Hid (w.grownBy w5 (some p)):=by
     refine ⟨hgr5.os.trans HGW.out.os,hgr5.tape.trans HGW.out.tape,hgr5.output.trans HGW.out.output,ar HGW.out.size hgr5.size,fun i hi hne=>(hgr5.block i (aa hi HGW.out.size) ?_).trans (HGW.out.block i hi hne)⟩
     intro e
     have:=(HOW.out.lt i e.symm).1
     omega
    have HO5':=hid hown5
    obtain ⟨ua,uc,rfl⟩:=jr hown5
    clear hown5 hgr5 HNW HTW HOW HSW HGW HbW c5W
    refine hK.out _ _ HB5.out (fun hHeld=>?_)
    clear hK K
    try simp only [jA,jB,jC,Act.put,jD,jE,jF]
    refine tk 8 (.pointer (some ⟨w.heap.size,0,none⟩)) ?_
    refine tk 9 (.pointer (some ⟨w.heap.size,5,none⟩)) ?_
    simp only [jA,jB,jC,Act.put,jD,jE,jF]
    refine rd 10 (fun K hK=>?_)
    simp only [jA,jB,jC]
    have c5:=(xA HT5'.out).2.2.2.2.2.1
    have f5:=frozen_of_row w5 w.heap.size 5 _ _ HT5'.out
    go_simp
    try go_wp2_with fail
    have hgs:=Jc w5 w.heap.size 5 (.slice ua (k+1) uc)
    have HBs:=qp hgs HB5.out (by omega)
    refine hK.out _ _ HBs (fun hHeld=>?_)
    clear hK K c5 f5
    refine wpAnyH_done (by kernel_rfl) ?_ _
    clear hHeld HBs
    have HTe:Hid ((w5.setCell ⟨w.heap.size,5,none⟩ (.slice ua (k+1) uc)).heap[w.heap.size]?=some (.cells (toldC (v0:Int) (v1:Int) (v2:Int) (v3:Int) (.slice ua (k+1) uc) nilV nilV nilV) 179 (0,0))):=heap_setCell_same w5 w.heap.size 5 _ _ _ HT5'.out
    have HOe:=hid (HO5'.out.kept hgs (by
     rcases hv:(Value.slice ua (k+1) uc).ownBlock with _|b
     ·exact .inl rfl
     ·refine .inr (fun e=>?_)
      have:=(HO5'.out.lt b hv).1
      injection e with e
      omega))
    have HSe:=hid (xw HS5'.out hgs (by omega))
    have HGe:=hid (zo HG5'.out hgs (ae _))
    clear hgs HT5' HO5' HS5' HG5' HB5
    generalize w5.setCell _ _=w6 at *
    go_wp2
    go_roundw
    case rel =>
     refine ⟨k+1,_,by omega,by go_num,HTe.out,?_,?_,HGe.out⟩
     ·rw [HST.out,UG]
      exact HOe.out
     ·rw [HST.out]
      exact HSe.out
    case measure=>simp [intOf];omega
   ·simp only [jA,jB,jC]
    go_simp
    try go_wp2_with fail
    have HbW:Hid ((wd.alloc (.cells #[Value.string { data:=nm.toArray },.int .i64 (kd:Int),.int .i64 (ky:Int),.slice none 0 0] 61)).drew.heap[B]?=some (.cells #[Value.string { data:=nm.toArray },.int .i64 (kd:Int),.int .i64 (ky:Int),.slice none 0 0] 61 (0,0))):=JK _ Hba.out
    have HTW:Hid ((wd.alloc (.cells #[Value.string { data:=nm.toArray },.int .i64 (kd:Int),.int .i64 (ky:Int),.slice none 0 0] 61)).drew.heap[w.heap.size]?=some (.cells (toldC (v0:Int) (v1:Int) (v2:Int) (v3:Int) (.slice va k vc) nilV nilV nilV) 179 (0,0))):=JK _ HTa.out
    have HOW:Hid ((wd.alloc (.cells #[Value.string { data:=nm.toArray },.int .i64 (kd:Int),.int .i64 (ky:Int),.slice none 0 0] 61)).drew.ownsRow (w.heap.size+1) 61 4 (.slice va k vc) k (zW tks)):=HOa.out.alloc _
    have HSW:Hid (jY (wd.alloc (.cells #[Value.string { data:=nm.toArray },.int .i64 (kd:Int),.int .i64 (ky:Int),.slice none 0 0] 61)).drew p footer sc):=zz HSa.out (Qe HSa.out) _
    have HGW:Hid (w.grownBy (wd.alloc (.cells #[Value.string { data:=nm.toArray },.int .i64 (kd:Int),.int .i64 (ky:Int),.slice none 0 0] 61)).drew (some p)):=Je (zj HGa.out _) 1
    have HNW:Hid (∀ j u,([Value.string { data:=nm.toArray },.int .i64 (kd:Int),.int .i64 (ky:Int),.slice none 0 0]:List Value)[j]?=some u→(wd.alloc (.cells #[Value.string { data:=nm.toArray },.int .i64 (kd:Int),.int .i64 (ky:Int),.slice none 0 0] 61)).drew.cell? ((⟨wd.heap.size,0,none⟩:Addr).add j)=some u):=xl wd #[Value.string { data:=nm.toArray },.int .i64 (kd:Int),.int .i64 (ky:Int),.slice none 0 0] 61 (by simp)
    have hzW:w.heap.size+1≤(wd.alloc (.cells #[Value.string { data:=nm.toArray },.int .i64 (kd:Int),.int .i64 (ky:Int),.slice none 0 0] 61)).drew.heap.size:=Nat.succ_le_of_lt (ag.1 HTW.out).1
    have c5W:=(xA HTW.out).2.2.2.2.2.1
    refine hK.out _ _ HbW.out (fun hHeld=>?_)
    clear hK K c5
    try simp only [jA,jB,jC,Act.put,jD,jE,jF]
    generalize hWX:(wd.alloc (.cells #[Value.string { data:=nm.toArray },.int .i64 (kd:Int),.int .i64 (ky:Int),.slice none 0 0] 61)).drew=WX at *
    clear hWX
    generalize hnb:wd.heap.size=nb at HNW ⊢
    clear hnb Hba HTa HOa HSa HGa
    refine rd 4 (fun K hK=>?_)
    simp only [jA,jB,jC]
    go_simp
    try go_wp2_with fail
    refine hK.out _ _ HbW.out (fun hHeld=>?_)
    clear hK K
    try simp only [jA,jB,jC,Act.put,jD,jE,jF]
    refine rd 7 (fun K hK=>?_)
    simp only [jA,jB,jC]
    rw [aw (by simp [Region.wanted])]
    refine wp_append_own _ (.tmp 57) (.tmp 59) 22 rfl (w.heap.size+1) 61 i0 _ 4 56 Tryz.underlying22 hi hz0 hz1 hz2 rfl (by decide) (.slice va k vc) k (zW tks) rfl HOW.out ⟨nb,0,none⟩ 1 1 [Value.string { data:=nm.toArray },.int .i64 (kd:Int),.int .i64 (ky:Int),.slice none 0 0] rfl rfl HNW.out ?_ (by unfold maxLen;omega) (by omega) hzW ?_
    ·intro u hu
     simp at hu
     rcases hu with rfl|rfl|rfl|rfl<;>rfl
    intro v5 w5 hown5 hgr5 _
    have HB5:Hid (w5.heap[B]?=some (.cells #[Value.string { data:=nm.toArray },.int .i64 (kd:Int),.int .i64 (ky:Int),.slice none 0 0] 61 (0,0))):=by
     show _=_
     rw [hgr5.block B (ag.1 HbW.out).1 (by
      intro e
      rcases HOB.out with h|h
      ·rw [h] at e;cases e
      ·exact h e.symm)]
     exact HbW.out
    have HT5':=hid (jq hgr5 HOW.out HTW.out (by decide))
    have HS5':=hid (JT HSW.out (Qe HSW.out) hgr5 (fun b hb=>by have:=(HOW.out.lt b hb).1;omega))
    have HG5':Hid (w.grownBy w5 (some p)):=by
     refine ⟨hgr5.os.trans HGW.out.os,hgr5.tape.trans HGW.out.tape,hgr5.output.trans HGW.out.output,ar HGW.out.size hgr5.size,fun i hi hne=>(hgr5.block i (aa hi HGW.out.size) ?_).trans (HGW.out.block i hi hne)⟩
     intro e
     have:=(HOW.out.lt i e.symm).1
     omega
    have HO5':=hid hown5
    obtain ⟨ua,uc,rfl⟩:=jr hown5
    clear hown5 hgr5 HNW HTW HOW HSW HGW HbW c5W
    refine hK.out _ _ HB5.out (fun hHeld=>?_)
    clear hK K
    try simp only [jA,jB,jC,Act.put,jD,jE,jF]
    refine tk 8 (.pointer (some ⟨w.heap.size,0,none⟩)) ?_
    refine tk 9 (.pointer (some ⟨w.heap.size,5,none⟩)) ?_
    simp only [jA,jB,jC,Act.put,jD,jE,jF]
    refine rd 10 (fun K hK=>?_)
    simp only [jA,jB,jC]
    have c5:=(xA HT5'.out).2.2.2.2.2.1
    have f5:=frozen_of_row w5 w.heap.size 5 _ _ HT5'.out
    go_simp
    try go_wp2_with fail
    have hgs:=Jc w5 w.heap.size 5 (.slice ua (k+1) uc)
    have HBs:=qp hgs HB5.out (by omega)
    refine hK.out _ _ HBs (fun hHeld=>?_)
    clear hK K c5 f5
    refine wpAnyH_done (by kernel_rfl) ?_ _
    clear hHeld HBs
    have HTe:Hid ((w5.setCell ⟨w.heap.size,5,none⟩ (.slice ua (k+1) uc)).heap[w.heap.size]?=some (.cells (toldC (v0:Int) (v1:Int) (v2:Int) (v3:Int) (.slice ua (k+1) uc) nilV nilV nilV) 179 (0,0))):=heap_setCell_same w5 w.heap.size 5 _ _ _ HT5'.out
    have HOe:=hid (HO5'.out.kept hgs (by
     rcases hv:(Value.slice ua (k+1) uc).ownBlock with _|b
     ·exact .inl rfl
     ·refine .inr (fun e=>?_)
      have:=(HO5'.out.lt b hv).1
      injection e with e
      omega))
    have HSe:=hid (xw HS5'.out hgs (by omega))
    have HGe:=hid (zo HG5'.out hgs (ae _))
    clear hgs HT5' HO5' HS5' HG5' HB5
    generalize w5.setCell _ _=w6 at *
    go_wp2
    go_roundw
    case rel =>
     refine ⟨k+1,_,by omega,by go_num,HTe.out,?_,?_,HGe.out⟩
     ·rw [HST.out,UG]
      exact HOe.out
     ·rw [HST.out]
      exact HSe.out
    case measure=>simp [intOf];omega
  ·have hke:k=n:=by omega
   subst hke
   clear hlt
   have hty:=Tc s5 k
   have HSM:Hid (∀ c ∈ (xP s5 k).1,SmallC c):=fun c hc=>by
    obtain ⟨h1,h2,h3,h4⟩:=GT s5 k c hc
    exact ⟨h1,h2,⟨h3,h4⟩,UD s5 k c hc⟩
   obtain ⟨ta,tc,hva,_,hlies⟩:=Ga HO.out hty HSM.out
   injection hva with hva1 hva2 hva3
   subst hva1 hva3
   clear hva2
   have Hli:=hid hlies
   have Hty:=hid hty
   have HHD:Hid (Kj foot footer=(!(xP s5 k).2.isNone && (qS ⟨(v1:Int),(v2:Int),(v3:Int),false⟩ && (jZ (xP s5 k).1 && decide ((v3:Int)=(foot:Int)))))):=by
    show _=_
    unfold Kj
    rw [HC.out,HP.out]
   clear hlies hty
   obtain ⟨d0,d1,d2,d3,d4,d5,_⟩:=xA HT.out
   go_wp2_with fail
   clear d0 d1 d2 d3 d4 d5
   refine (Ag ⟨(v1:Int),(v2:Int),(v3:Int),false⟩ wr).mono ?_
   rintro e wx ⟨rfl,hbx⟩
   have HTx:=hid (jb hbx HT.out)
   have HSx:Hid (jY wx p footer (xP s5 k).2):=JT HS.out (Qe HS.out) (KE hbx) (fun b hb=>by cases hb)
   have HOx:=hid (jx HO.out hbx)
   have HGx:=hid (GH HG.out hbx)
   have Hlx:=hid (Hli.out.later hbx)
   clear hbx HT HS HO HG Hli
   obtain ⟨d0,d1,d2,d3,d4,d5,_⟩:=xA HTx.out
   generalize qS ⟨(v1:Int),(v2:Int),(v3:Int),false⟩=bp at *
   go_wp2_with fail
   clear d0 d1 d2 d3 d4 d5
   have HHE:=hid (Eb va vc (xP s5 k).1 wx (by rw [Hty.out];unfold maxLen;omega) Hlx.out)
   rw [Hty.out] at HHE
   refine HHE.out.mono ?_
   rintro e wy ⟨rfl,hby⟩
   have HTz:=hid (jb hby HTx.out)
   have HSz:Hid (jY wy p footer (xP s5 k).2):=JT HSx.out (Qe HSx.out) (KE hby) (fun b hb=>by cases hb)
   have HOz:=hid (jx HOx.out hby)
   have HGz:=hid (GH HGx.out hby)
   clear hby HTx HSx HOx HGx Hlx HHE
   generalize jZ (xP s5 k).1=bh at *
   have HTE:Hid (wy.drew.heap[w.heap.size]?=some (.cells (toldC (qR footer:Int) (zx footer).group (zx footer).page (zx footer).foot (.slice va k vc) nilV nilV nilV) 179 (0,0))):=by
    show _=_
    rw [HR.out,HP.out]
    exact HTz.out
   have HOE:Hid (wy.drew.ownsRow w.heap.size 61 4 (.slice va k vc) (xV footer).1.length (zW (xV footer).1)):=by
    show World.ownsRow _ _ _ _ _ _ _
    rw [HC.out,Hty.out]
    exact jw HOz.out (Nat.le_succ _)
   have k3:=(xA HTz.out).2.2.2.1
   have k2:=KB HSz.out
   go_upto_region 16 with fail
   generalize (xP s5 k).2=sz at *
   rcases sz with _|sz
   ·simp only [Qa] at k2
    refine wp_region_held_drew (S:=fun w'=>w'.cell? ⟨p,2,none⟩=some (.bool true)∧w'.cell? ⟨w.heap.size,3,none⟩=some (.int .i64 (v3:Int))) (by kernel_rfl) ⟨k2,k3⟩ (fun hHeld=>?_)
    refine tk 0 (.pointer (some ⟨w.heap.size,0,none⟩)) ?_
    refine tk 1 (.pointer (some ⟨p,0,none⟩)) ?_
    refine tk 2 (.pointer (some ⟨p,0,none⟩)) ?_
    refine tk 3 (.pointer (some ⟨p,2,none⟩)) ?_
    refine tk 4 (.bool true) ?_
    refine tk 5 (.bool false) ?_
    refine tk 6 (.bool false) ?_
    refine tu 7 ?_
    refine tk 8 (.bool false) ?_
    refine tk 9 (.bool false) ?_
    refine tu 10 ?_
    refine tk 11 (.bool false) ?_
    refine tk 12 (.bool false) ?_
    refine tu 13 ?_
    refine tu 14 ?_
    refine tu 15 ?_
    refine tu 16 ?_
    refine tu 17 ?_
    refine tu 18 ?_
    refine tu 19 ?_
    refine tk 20 (.bool false) ?_
    refine tk 21 (.pointer (some ⟨w.heap.size,0,none⟩)) ?_
    refine tk 22 (.bool false) ?_
    simp only [jA,jB,jC,Act.put,jD,jE,jF]
    refine wpAnyH_done (by kernel_rfl) ?_ _
    clear hHeld
    go_wp2
    go_ret2
    refine ⟨Je HGz.out 1,w.heap.size,_,?_,ae _,HTE.out,HOE.out⟩
    rw [HHD.out]
    rfl
   ·simp only [Qa] at k2
    cases bp with
    | false =>
     refine wp_region_held_drew (S:=fun w'=>w'.cell? ⟨p,2,none⟩=some (.bool false)∧w'.cell? ⟨w.heap.size,3,none⟩=some (.int .i64 (v3:Int))) (by kernel_rfl) ⟨k2,k3⟩ (fun hHeld=>?_)
     refine tk 0 (.pointer (some ⟨w.heap.size,0,none⟩)) ?_
     refine tk 1 (.pointer (some ⟨p,0,none⟩)) ?_
     refine tk 2 (.pointer (some ⟨p,0,none⟩)) ?_
     refine tk 3 (.pointer (some ⟨p,2,none⟩)) ?_
     refine tk 4 (.bool false) ?_
     refine tk 5 (.bool true) ?_
     refine tk 6 (.bool true) ?_
     refine tk 7 (.bool false) ?_
     refine tk 8 (.bool false) ?_
     refine tk 9 (.bool false) ?_
     refine tu 10 ?_
     refine tk 11 (.bool false) ?_
     refine tk 12 (.bool false) ?_
     refine tu 13 ?_
     refine tu 14 ?_
     refine tu 15 ?_
     refine tu 16 ?_
     refine tu 17 ?_
     refine tu 18 ?_
     refine tu 19 ?_
     refine tk 20 (.bool false) ?_
     refine tk 21 (.pointer (some ⟨w.heap.size,0,none⟩)) ?_
     refine tk 22 (.bool false) ?_
     simp only [jA,jB,jC,Act.put,jD,jE,jF]
     refine wpAnyH_done (by kernel_rfl) ?_ _
     clear hHeld
     go_wp2
     go_ret2
     refine ⟨Je HGz.out 1,w.heap.size,_,?_,ae _,HTE.out,HOE.out⟩
     rw [HHD.out]
     rfl
    | true =>
     cases bh with
     | false =>
      refine wp_region_held_drew (S:=fun w'=>w'.cell? ⟨p,2,none⟩=some (.bool false)∧w'.cell? ⟨w.heap.size,3,none⟩=some (.int .i64 (v3:Int))) (by kernel_rfl) ⟨k2,k3⟩ (fun hHeld=>?_)
      refine tk 0 (.pointer (some ⟨w.heap.size,0,none⟩)) ?_
      refine tk 1 (.pointer (some ⟨p,0,none⟩)) ?_
      refine tk 2 (.pointer (some ⟨p,0,none⟩)) ?_
      refine tk 3 (.pointer (some ⟨p,2,none⟩)) ?_
      refine tk 4 (.bool false) ?_
      refine tk 5 (.bool true) ?_
      refine tk 6 (.bool true) ?_
      refine tk 7 (.bool true) ?_
      refine tk 8 (.bool true) ?_
      refine tk 9 (.bool true) ?_
      refine tk 10 (.bool false) ?_
      refine tk 11 (.bool false) ?_
      refine tk 12 (.bool false) ?_
      refine tu 13 ?_
      refine tu 14 ?_
      refine tu 15 ?_
      refine tu 16 ?_
      refine tu 17 ?_
      refine tu 18 ?_
      refine tu 19 ?_
      refine tk 20 (.bool false) ?_
      refine tk 21 (.pointer (some ⟨w.heap.size,0,none⟩)) ?_
      refine tk 22 (.bool false) ?_
      simp only [jA,jB,jC,Act.put,jD,jE,jF]
      refine wpAnyH_done (by kernel_rfl) ?_ _
      clear hHeld
      go_wp2
      go_ret2
      refine ⟨Je HGz.out 1,w.heap.size,_,?_,ae _,HTE.out,HOE.out⟩
      rw [HHD.out]
      rfl
     | true =>
      by_cases hft:v3=foot
      ·have hbq:((v3:Int) == (foot:Int))=true:=by rw [cI];omega
       have hdq:decide ((v3:Int)=(foot:Int))=true:=cH (by omega)
       rw [hdq] at HHD
       clear hdq hft
       refine wp_region_held_drew (S:=fun w'=>w'.cell? ⟨p,2,none⟩=some (.bool false)∧w'.cell? ⟨w.heap.size,3,none⟩=some (.int .i64 (v3:Int))) (by kernel_rfl) ⟨k2,k3⟩ (fun hHeld=>?_)
       refine tk 0 (.pointer (some ⟨w.heap.size,0,none⟩)) ?_
       refine tk 1 (.pointer (some ⟨p,0,none⟩)) ?_
       refine tk 2 (.pointer (some ⟨p,0,none⟩)) ?_
       refine tk 3 (.pointer (some ⟨p,2,none⟩)) ?_
       refine tk 4 (.bool false) ?_
       refine tk 5 (.bool true) ?_
       refine tk 6 (.bool true) ?_
       refine tk 7 (.bool true) ?_
       refine tk 8 (.bool true) ?_
       refine tk 9 (.bool true) ?_
       refine tk 10 (.bool true) ?_
       refine tk 11 (.bool true) ?_
       refine tk 12 (.bool true) ?_
       refine tk 13 (.pointer (some ⟨w.heap.size,0,none⟩)) ?_
       refine tk 14 (.pointer (some ⟨w.heap.size,0,none⟩)) ?_
       refine tk 15 (.pointer (some ⟨w.heap.size,1,none⟩)) ?_
       refine tk 16 (.pointer (some ⟨w.heap.size,3,none⟩)) ?_
       refine tk 17 (.int .i64 (v3:Int)) ?_
       refine tk 18 (.int .i64 (foot:Int)) ?_
       refine tk 19 (.bool true) ?_
       refine tk 20 (.bool true) ?_
       refine tk 21 (.pointer (some ⟨w.heap.size,0,none⟩)) ?_
       refine tk 22 (.bool true) ?_
       simp only [jA,jB,jC,Act.put,jD,jE,jF]
       refine wpAnyH_done (by kernel_rfl) ?_ _
       clear hHeld
       go_wp2
       go_ret2
       refine ⟨Je HGz.out 1,w.heap.size,_,?_,ae _,HTE.out,HOE.out⟩
       rw [HHD.out]
       rfl
      ·have hbq:((v3:Int) == (foot:Int))=false:=by rw [aQ];omega
       have hdq:decide ((v3:Int)=(foot:Int))=false:=aS (by omega)
       rw [hdq] at HHD
       clear hdq hft
       refine wp_region_held_drew (S:=fun w'=>w'.cell? ⟨p,2,none⟩=some (.bool false)∧w'.cell? ⟨w.heap.size,3,none⟩=some (.int .i64 (v3:Int))) (by kernel_rfl) ⟨k2,k3⟩ (fun hHeld=>?_)
       refine tk 0 (.pointer (some ⟨w.heap.size,0,none⟩)) ?_
       refine tk 1 (.pointer (some ⟨p,0,none⟩)) ?_
       refine tk 2 (.pointer (some ⟨p,0,none⟩)) ?_
       refine tk 3 (.pointer (some ⟨p,2,none⟩)) ?_
       refine tk 4 (.bool false) ?_
       refine tk 5 (.bool true) ?_
       refine tk 6 (.bool true) ?_
       refine tk 7 (.bool true) ?_
       refine tk 8 (.bool true) ?_
       refine tk 9 (.bool true) ?_
       refine tk 10 (.bool true) ?_
       refine tk 11 (.bool true) ?_
       refine tk 12 (.bool true) ?_
       refine tk 13 (.pointer (some ⟨w.heap.size,0,none⟩)) ?_
       refine tk 14 (.pointer (some ⟨w.heap.size,0,none⟩)) ?_
       refine tk 15 (.pointer (some ⟨w.heap.size,1,none⟩)) ?_
       refine tk 16 (.pointer (some ⟨w.heap.size,3,none⟩)) ?_
       refine tk 17 (.int .i64 (v3:Int)) ?_
       refine tk 18 (.int .i64 (foot:Int)) ?_
       refine tk 19 (.bool false) ?_
       refine tk 20 (.bool false) ?_
       refine tk 21 (.pointer (some ⟨w.heap.size,0,none⟩)) ?_
       refine tk 22 (.bool false) ?_
       simp only [jA,jB,jC,Act.put,jD,jE,jF]
       refine wpAnyH_done (by kernel_rfl) ?_ _
       clear hHeld
       go_wp2
       go_ret2
       refine ⟨Je HGz.out 1,w.heap.size,_,?_,ae _,HTE.out,HOE.out⟩
       rw [HHD.out]
       rfl
end
section
def Qh (M:List ModF):List Value:=M.map fun m=>strB m.plain
def zX (M:List ModF):List Value:=M.flatMap fun m=>[strB m.nonce,strB m.body]
theorem Vl (M:List ModF) (m:ModF):Qh (M++[m])=Qh M++[strB m.plain]:=by simp [Qh]
theorem Um (M:List ModF) (m:ModF):zX (M++[m])=zX M++[strB m.nonce,strB m.body]:=by simp [zX]
theorem qT {w:World} {b s n T:Nat} {e t:TypeId} {v:Value} {xs:List Value} {cs:Array Value} {fr:Nat × Nat} (h:w.ownsRow b e s v n xs) (hT:w.heap[T]?=some (.cells cs t fr)) (hne:e≠t):v.ownBlock=none∨v.ownBlock≠some T:=by
 rcases h.2 with ⟨rfl,_⟩|⟨g,cap,cur,rfl,_,hg,_⟩
 ·exact .inl rfl
 ·right
  intro e'
  injection e' with e'
  subst e'
  rw [hT] at hg
  injection hg with hg
  injection hg with h1 h2 h3
  exact hne h2.symm
theorem VB {w:World} {base n:Nat} {sa:Option Addr} {sc:Nat} {L:List SpotB} (h:w.ownsRow base 161 6 (.slice sa n sc) n (JB L)) (k:Nat) (hk:k < L.length) :
  ∃ g,sa=some ⟨g,0,none⟩∧g < w.heap.size∧w.cell? ⟨g,k*6,none⟩=some (strB [(L[k]).sort])∧w.cell? ⟨g,k*6+1,none⟩=some (.int .i64 ((L[k]).g:Int))∧w.cell? ⟨g,k*6+2,none⟩=some (.int .i64 ((L[k]).c:Int))∧w.cell? ⟨g,k*6+3,none⟩=some (.int .i64 ((L[k]).p:Int))∧w.cell? ⟨g,k*6+4,none⟩=some (.int .i64 ((L[k]).start:Int))∧w.cell? ⟨g,k*6+5,none⟩=some (.int .i64 ((L[k]).many:Int)):=by
 have hl:(JB L).length=L.length*6:=Zr KJ 6 (fun _=>rfl) L
 have hn:n=L.length:=by have:=h.1;omega
 have at_:∀ i,i < 6→(JB L)[k*6+i]?=(KJ L[k])[i]?:=fun i hi=>Xz KJ 6 (fun _=>rfl) L k i hk hi
 rcases h.2 with ⟨h0,h1⟩|⟨g,cap,cur,hv,_⟩
 ·omega
 ·simp only [bF] at hv
  obtain ⟨rfl,_,rfl⟩:=hv
  refine ⟨g,rfl,(h.lt g rfl).2,?_,?_,?_,?_,?_,?_⟩
  ·rw [h.cellAt _ (by omega)];exact at_ 0 (by decide)
  ·rw [h.cellAt _ (by omega)];exact at_ 1 (by decide)
  ·rw [h.cellAt _ (by omega)];exact at_ 2 (by decide)
  ·rw [h.cellAt _ (by omega)];exact at_ 3 (by decide)
  ·rw [h.cellAt _ (by omega)];exact at_ 4 (by decide)
  ·rw [h.cellAt _ (by omega)];exact at_ 5 (by decide)
theorem Ez {w:World} {base n:Nat} {ca:Option Addr} {cc:Nat} {t:List ColB} (h:w.ownsRow base 61 4 (.slice ca n cc) n (zW t)) (k:Nat) (hk:k < t.length) :
  ∃ g,ca=some ⟨g,0,none⟩∧g < w.heap.size∧w.cell? ⟨g,k*4,none⟩=some (strB (t[k]).name)∧w.cell? ⟨g,k*4+1,none⟩=some (.int .i64 (t[k]).kind)∧w.cell? ⟨g,k*4+2,none⟩=some (.int .i64 (t[k]).key)∧w.cell? ⟨g,k*4+3,none⟩=some nilV:=by
 have hl:(zW t).length=t.length*4:=Zr Al 4 (fun _=>rfl) t
 have hn:n=t.length:=by have:=h.1;omega
 have at_:∀ i,i < 4→(zW t)[k*4+i]?=(Al t[k])[i]?:=fun i hi=>Xz Al 4 (fun _=>rfl) t k i hk hi
 rcases h.2 with ⟨h0,h1⟩|⟨g,cap,cur,hv,_⟩
 ·omega
 ·simp only [bF] at hv
  obtain ⟨rfl,_,rfl⟩:=hv
  refine ⟨g,rfl,(h.lt g rfl).2,?_,?_,?_,?_⟩
  ·rw [h.cellAt _ (by omega)];exact at_ 0 (by decide)
  ·rw [h.cellAt _ (by omega)];exact at_ 1 (by decide)
  ·rw [h.cellAt _ (by omega)];exact at_ 2 (by decide)
  ·rw [h.cellAt _ (by omega)];exact at_ 3 (by decide)
structure LAt (x w:World) (T q:Nat) (H:Value→Value→Array Value) (t:List ColB) (L:List SpotB) (cv sv pv ev xv:Value) (np:Nat) (M:List Value) (ne:Nat) (E:List Value) (parts:List UInt8) (st:Option (List UInt8)) (pl:List Nat):Prop where
 told:x.heap[T]?=some (.cells (H pv ev) 179 (0,0))
 cols:x.ownsRow w.heap.size 61 4 cv t.length (zW t)
 spots:x.ownsRow w.heap.size 161 6 sv L.length (JB L)
 plains:x.ownsRow w.heap.size 9 1 pv np M
 seals:x.ownsRow w.heap.size 167 2 ev ne E
 spot:jY x q parts st
 places:x.ownsRow w.heap.size 3 1 xv pl.length (zI pl)
 below:Below w.heap.size w x
 tlow:w.heap.size≤T
 qlow:w.heap.size≤q
 apart:T≠q
section
variable {x y w:World} {T q:Nat} {H:Value→Value→Array Value} {t:List ColB} {L:List SpotB} {cv sv pv ev xv:Value} {np:Nat} {M:List Value} {ne:Nat} {E:List Value} {parts:List UInt8} {st:Option (List UInt8)} {pl:List Nat}
theorem LAt.later (h:LAt x w T q H t L cv sv pv ev xv np M ne E parts st pl) (hb:Below x.heap.size x y):LAt y w T q H t L cv sv pv ev xv np M ne E parts st pl :=
 ⟨jb hb h.told,jx h.cols hb,jx h.spots hb,jx h.plains hb,jx h.seals hb,JT h.spot (Qe h.spot) (KE hb) (fun b hb=>by cases hb),jx h.places hb,h.below.trans (hb.mono h.below.size),h.tlow,h.qlow,h.apart⟩
theorem LAt.alloc (h:LAt x w T q H t L cv sv pv ev xv np M ne E parts st pl) (o:Obj):LAt (x.alloc o) w T q H t L cv sv pv ev xv np M ne E parts st pl :=
 h.later ((Below.refl x.heap.size x).alloc (ae _) o)
theorem LAt.drew (h:LAt x w T q H t L cv sv pv ev xv np M ne E parts st pl):LAt x.drew w T q H t L cv sv pv ev xv np M ne E parts st pl :=
 h.later (qe (Below.refl x.heap.size x))
theorem LAt.read (h:LAt x w T q H t L cv sv pv ev xv np M ne E parts st pl) {st':Option (List UInt8)} (hg:x.grownBy y (some q)) (hs:jY y q parts st'):LAt y w T q H t L cv sv pv ev xv np M ne E parts st' pl:=by
 obtain ⟨at_,bad,hrow,_⟩:=h.spot
 exact ⟨qp hg h.told h.apart,h.cols.kept hg (qT h.cols hrow (by decide)),h.spots.kept hg (qT h.spots hrow (by decide)),h.plains.kept hg (qT h.plains hrow (by decide)),h.seals.kept hg (qT h.seals hrow (by decide)),hs,h.places.kept hg (qT h.places hrow (by decide)),h.below.trans (jg hg h.qlow h.below.size),h.tlow,h.qlow,h.apart⟩
theorem Jk {x y w:World} {b:Option Nat} (h:Below w.heap.size w x) (hg:x.grownBy y b) (hb:∀ k,b=some k→w.heap.size≤k):Below w.heap.size w y :=
 h.trans ⟨hg.os,hg.tape,hg.output,hg.size,fun k hk=>hg.block k (aa hk h.size) (fun e=>by have:=hb k e.symm;omega)⟩
theorem UO {x y:World} {b e s n q:Nat} {v:Value} {xs:List Value} {parts:List UInt8} {st:Option (List UInt8)} (h:jY x q parts st) (hg:x.grownBy y v.ownBlock) (ho:x.ownsRow b e s v n xs) (he:243≠e):jY y q parts st:=by
 obtain ⟨at_,bad,hrow,hat,hst⟩:=h
 exact ⟨at_,bad,jq hg ho hrow he,hat,hst⟩
theorem LAt.put (h:LAt x w T q H t L cv sv pv ev xv np M ne E parts st pl) {v:Value} {pl':List Nat} (hg:x.grownBy y xv.ownBlock) (ho:y.ownsRow w.heap.size 3 1 v pl'.length (zI pl')):LAt y w T q H t L cv sv pv ev v np M ne E parts st pl' :=
 ⟨jq hg h.places h.told (by decide),h.cols.kept hg (qj h.cols h.places (by decide)),h.spots.kept hg (qj h.spots h.places (by decide)),h.plains.kept hg (qj h.plains h.places (by decide)),h.seals.kept hg (qj h.seals h.places (by decide)),UO h.spot hg h.places (by decide),ho,Jk h.below hg (fun k hk=>(h.places.lt k hk).1),h.tlow,h.qlow,h.apart⟩
theorem LAt.plain (h:LAt x w T q H t L cv sv pv ev xv np M ne E parts st pl) {v:Value} {n':Nat} {M':List Value} (hg:x.grownBy y pv.ownBlock) (ho:y.ownsRow w.heap.size 9 1 v n' M') (hH:∀ a b v',(H a b).setIfInBounds 7 v'=H v' b):LAt (y.setCell ⟨T,7,none⟩ v) w T q H t L cv sv v ev xv n' M' ne E parts st pl:=by
 have hT:=jq hg h.plains h.told (by decide)
 have hc:=h.cols.kept hg (qj h.cols h.plains (by decide))
 have hs:=h.spots.kept hg (qj h.spots h.plains (by decide))
 have he:=h.seals.kept hg (qj h.seals h.plains (by decide))
 have hp:=h.places.kept hg (qj h.places h.plains (by decide))
 have hq:=UO h.spot hg h.plains (by decide)
 have hB:=Jk h.below hg (fun k hk=>(h.plains.lt k hk).1)
 have hset:=Jc y T 7 v
 refine ⟨?_,hc.kept hset (qT hc hT (by decide)),hs.kept hset (qT hs hT (by decide)),ho.kept hset (qT ho hT (by decide)),he.kept hset (qT he hT (by decide)),xw hq hset (fun e=>h.apart e.symm),hp.kept hset (qT hp hT (by decide)),hB.trans (jg hset h.tlow hB.size),h.tlow,h.qlow,h.apart⟩
 rw [heap_setCell_same y T 7 _ _ v hT,hH]
theorem LAt.module (h:LAt x w T q H t L cv sv pv ev xv np M ne E parts st pl) {v:Value} {n':Nat} {E':List Value} (hg:x.grownBy y ev.ownBlock) (ho:y.ownsRow w.heap.size 167 2 v n' E') (hH:∀ a b v',(H a b).setIfInBounds 8 v'=H a v'):LAt (y.setCell ⟨T,8,none⟩ v) w T q H t L cv sv pv v xv np M n' E' parts st pl:=by
 have hT:=jq hg h.seals h.told (by decide)
 have hc:=h.cols.kept hg (qj h.cols h.seals (by decide))
 have hs:=h.spots.kept hg (qj h.spots h.seals (by decide))
 have he:=h.plains.kept hg (qj h.plains h.seals (by decide))
 have hp:=h.places.kept hg (qj h.places h.seals (by decide))
 have hq:=UO h.spot hg h.seals (by decide)
 have hB:=Jk h.below hg (fun k hk=>(h.seals.lt k hk).1)
 have hset:=Jc y T 8 v
 refine ⟨?_,hc.kept hset (qT hc hT (by decide)),hs.kept hset (qT hs hT (by decide)),he.kept hset (qT he hT (by decide)),ho.kept hset (qT ho hT (by decide)),xw hq hset (fun e=>h.apart e.symm),hp.kept hset (qT hp hT (by decide)),hB.trans (jg hset h.tlow hB.size),h.tlow,h.qlow,h.apart⟩
 rw [heap_setCell_same y T 8 _ _ v hT,hH]
theorem zT {x:World} {b e s n B:Nat} {v:Value} {xs:List Value} (h:x.ownsRow b e s v n xs) (hB:x.heap.size≤B):v.ownBlock=none∨v.ownBlock≠some B:=by
 rcases hv:v.ownBlock with _|g
 ·exact .inl rfl
 ·refine .inr (fun e=>?_)
  have:=(h.lt g hv).2
  injection e with e
  omega
theorem LAt.later_row (h:LAt x w T q H t L cv sv pv ev xv np M ne E parts st pl) (B:Nat) (cs:Array Value) {old:Array Value} (hB:x.heap[B]?=some (.cells old 167 (0,0))) (hw:w.heap.size≤B) (hT:T≠B) (hq:q≠B) (he:ev.ownBlock=none∨ev.ownBlock≠some B):LAt (x.setRow B cs) w T q H t L cv sv pv ev xv np M ne E parts st pl:=by
 have hg:=QN x B cs
 exact ⟨qp hg h.told hT,h.cols.kept hg (qT h.cols hB (by decide)),h.spots.kept hg (qT h.spots hB (by decide)),h.plains.kept hg (qT h.plains hB (by decide)),h.seals.kept hg he,xw h.spot hg hq,h.places.kept hg (qT h.places hB (by decide)),h.below.trans (jg hg hw h.below.size),h.tlow,h.qlow,h.apart⟩
theorem LAt.spotc {sg sc:Nat} (h:LAt x w T q H t L cv (.slice (some ⟨sg,0,none⟩) L.length sc) pv ev xv np M ne E parts st pl) (k:Nat) (hk:k < L.length):x.cell? ⟨sg,k*6,none⟩=some (strB [(L[k]).sort])∧x.cell? ⟨sg,k*6+2,none⟩=some (.int .i64 ((L[k]).c:Int)):=by
 obtain ⟨g,hg,_,h0,_,h2,_⟩:=VB h.spots k hk
 simp only [aP,cy,cG] at hg
 subst hg
 exact ⟨h0,h2⟩
theorem LAt.keyc {cg cc:Nat} (h:LAt x w T q H t L (.slice (some ⟨cg,0,none⟩) t.length cc) sv pv ev xv np M ne E parts st pl) (c:Nat) (hc:c < t.length):x.cell? ⟨cg,c*4+2,none⟩=some (.int .i64 (t[c]).key):=by
 obtain ⟨g,hg,_,_,_,h2,_⟩:=Ez h.cols c hc
 simp only [aP,cy,cG] at hg
 subst hg
 exact h2
end
theorem EA {t:List ColB} {parts:List UInt8} {L:List SpotB} {k at_:Nat} {bad:Bool} {s:SpotB} {pl:List Nat} {M:List ModF} {st st':Option (List UInt8)} {m:ModF} (hs:L[k]?=some s) (hM:qP t (some parts) (L.take k)=(M,st)) (hat:at_≤parts.length) (hst:st=if bad=true then none else some (parts.drop at_)) (hm:KA (jk t s.c).key st=(m,st')) (h65:parts.length≤65000)
  (h1:pl.length=(jp t 4 true (L.take k) M).length) (h2:∀ x ∈ pl,x≤70000) (h3:∀ rest,st=some rest→pl=jp t 4 true (L.take k) M) :
  (pl++(if qM true (L.take k)=true then [4+at_] else [])).length=(jp t 4 true (L.take (k+1)) (M++[m])).length∧(∀ x ∈ pl++(if qM true (L.take k)=true then [4+at_] else []),x≤70000)∧∀ rest,st'=some rest→pl++(if qM true (L.take k)=true then [4+at_] else [])=jp t 4 true (L.take (k+1)) (M++[m]):=by
 have hk:k < L.length:=(aA.1 hs).1
 have hl:M.length=k:=by
  have:=Yu t (some parts) (L.take k)
  rw [hM,aq] at this
  simp only at this
  omega
 rw [Na hs hl m]
 refine ⟨?_,?_,?_⟩
 ·rw [ab,ab,h1]
  split<;>rfl
 ·intro x hx
  rcases aM.1 hx with hx|hx
  ·exact h2 x hx
  ·split at hx
   ·simp at hx
    omega
   ·cases hx
 ·intro rest hr
  cases st with
  | none=>rw [YE] at hm;injection hm with _ hm;rw [hr] at hm;cases hm
  | some r =>
   rw [h3 r rfl]
   obtain ⟨_,hp,_⟩:=CJ hM
   cases bad with
   | true=>cases hst
   | false =>
    simp at hst
    have hd:at_=(jm t (L.take k) M).length:=by
     have h4:=aT List.length hp
     rw [ab,hst,an] at h4
     omega
    rw [hd]
theorem VF {t:List ColB}:∀ (L:List SpotB) (M:List ModF) (n:Nat) (b:Bool),(jp t n b L M).length≤L.length:=by
 intro L
 induction L with
 | nil=>intro M n b;simp [jp]
 | cons s L ih =>
  intro M n b
  cases M with
  | nil=>simp [jp]
  | cons m M =>
   have:=ih M (n+(qI (jk t s.c).key m).length) (decide (s.sort=77))
   simp only [jp,ab,aH]
   split<;>simp<;>omega
theorem Ej {t:List ColB} {R C G P:Nat} {M:List ModF} (hM:M.length=(jI R C G P).length) (hG:1≤G) (hR:R≤60) (hC:C≤6):(jp t 4 true (jI R C G P) M).length≤360:=by
 rw [XS ⟨[],⟨0,0,0,false⟩,[],0⟩ [] _ _ _ _ ⟨[],[]⟩ hM]
 have h1:(zf ⟨[],⟨0,0,0,false⟩,[],0⟩ [] ⟨[],[]⟩ true (jI R C G P)).length=qb R G*C:=Xg _ _ _ _ _ _ _ _
 have h2:=QH (n:=R) hG
 have h3:qb R G*C≤60*6:=bx (by omega) hC
 omega
theorem Yo {R C G P:Nat} (hG:1≤G) (hP:1≤P) (hG6:G≤60) (hR:R≤60) (hC:C≤6):(jI R C G P).length≤21960:=by
 have h1:=VD R C G P (qb R G) hP hG6 hC
 have h2:=QH (n:=R) hG
 unfold jI
 omega
def ToldAt (w:World) (T base:Nat) (S:SheetF):Prop :=
 ∃ cv sv pv ev,w.heap[T]?=some (.cells (toldC (S.rows:Int) S.plan.group S.plan.page S.plan.foot cv sv pv ev) 179 (0,0))∧w.ownsRow base 61 4 cv S.cols.length (zW S.cols)∧w.ownsRow base 161 6 sv (qB S).length (JB (qB S))∧w.ownsRow base 9 1 pv S.mods.length (Qh S.mods)∧w.ownsRow base 167 2 ev S.mods.length (zX S.mods)
def BD (f:FormF) (footer:List UInt8) (w:World) (e:Ending) (w':World):Prop :=
 Below w.heap.size w w'∧((Vj f.foot f.parts footer=none∧∃ v,e=.returned (.tuple #[v,.bool false]))∨∃ S T,Vj f.foot f.parts footer=some S∧e=.returned (.tuple #[.pointer (some ⟨T,0,none⟩),.bool true])∧ToldAt w' T w.heap.size S)
theorem Tryz.infoModule:(Tryz.prog.info? 167).map (fun i=>(i.zero,i.size,i.bytes))=some (some (.agg #[.string ⟨#[]⟩,.string ⟨#[]⟩]),2,32):=by kernel_rfl
end
end Go.Proofs.YthhpbhpfagoapaaGreat
