import Derived.Test.YthhpbhpfagoapabGreatRTk
import Derived.Test.YthhpbhpfagoapabGreatJBF
import Derived.Test.YthhpbhpfagoapabGreatXTRead
namespace Go.Proofs.YthhpbhpfagoapabGreat
set_option linter.unusedVariables false
set_option linter.unusedSimpArgs false
set_option maxRecDepth 100000
set_option maxHeartbeats 16000000
open Go.RowKit
section
theorem Nf (SC:Array Value) (a:Option Addr) (n cp:Nat) (w:World) (h15:SC[15]?=some (.slice a n cp)) :
  Calls Tryz.prog 45 #[.agg SC] w fun e w'=>e=.returned (.slice a n cp)∧Below w.heap.size w w':=by
 obtain ⟨hb0,hl0,_,ho0⟩:=jK w SC 82
 have HB0:=hid hb0
 clear hb0
 go_enter Tryz.func45,Tryz.ntmps45
 go_wp2
 go_ret
 exact ⟨rfl,HB0.out⟩
theorem Pb (S:SheetF) (G P base:Nat) (SC:Array Value) (cv:Value) (Kb:Nat) (V:Nat→Value) (Qp:Nat→Nat→List ModF) (Qm:Nat→Nat→ModF) (Pv:Nat→Nat→Value) (pre:List UInt8) (r:List KeyB) (c:Nat) (w:World)
  (hS:SheetGo S G P base w SC cv Kb V Qp Qm Pv) (hc:c < S.cols.length) (hpre:pre.length≤20) (hsec:(ji r (jf S.cols c).key).length≤1000) (B0 B1 B2 B3:Nat)
  (h0:w.heap[B0]?=some (.cells SC 82 (0,0))) (h1:w.cell? ⟨B1,0,none⟩=some (.int .i64 (c:Int))) (h2:w.cell? ⟨B2,0,none⟩=some (strB (ji r (jf S.cols c).key))) (h3:w.cell? ⟨B3,0,none⟩=some (strB pre)) :
  Calls Tryz.prog 78 #[.pointer (some ⟨B0,0,none⟩),.pointer (some ⟨B1,0,none⟩),.pointer (some ⟨B2,0,none⟩),.pointer (some ⟨B3,0,none⟩)] w (Ir (jI pre r (jf S.cols c).kind (jf S.cols c).key c (some []) (qr S) S.mods) w):=by
 have HC:=hid (RK S G P base SC cv Kb V Qp Qm Pv pre r c w hS hc hpre hsec)
 have hinf:=hS.inf
 clear hS hc hpre hsec
 generalize jI pre r (jf S.cols c).kind (jf S.cols c).key c (some []) (qr S) S.mods=O at *
 generalize ji r (jf S.cols c).key=sec at *
 go_enter Tryz.func78,Tryz.ntmps78
 go_wp2_with (refine wpList_load_row rfl 82 (.tmp 0) rfl B0 rfl 82 SC (0,0) _ h0 Tryz.underlying82 rfl hinf ?_)
 refine HC.out.mono ?_
 rintro e w2 ⟨hb2,⟨hn,rfl⟩|⟨l,v,hu,rfl,hsm,hown⟩⟩
 ·have HN:=hid hn
  clear hn
  go_wp2
  exact ⟨rfl,hb2,.inl ⟨HN.out,rfl⟩⟩
 ·have HU:=hid hu
  have HSM:=hid hsm
  have HO:=hid hown
  obtain ⟨va,vc,rfl⟩:=jL hown
  clear hu hsm hown
  go_wp2
  go_ret
  exact ⟨hb2,.inr ⟨l,_,HU.out,rfl,HSM.out,HO.out⟩⟩
theorem AL {w:World} {B e s n:Nat} {v:Value} {xs:List Value} (h:w.ownsRow (B+1) e s v n xs) (b:Value):(w.setCell ⟨B,0,none⟩ b).ownsRow (B+1) e s v n xs :=
 h.kept (qv w B 0 b) (by
  rcases hv:v.ownBlock with _|k
  ·exact .inl rfl
  ·refine .inr (fun e=>?_)
   have:=(h.lt k hv).1
   injection e with e
   omega)
theorem SJ (S:SheetF) (G P base:Nat) (SC:Array Value) (cv:Value) (Kb:Nat) (V:Nat→Value) (Qp:Nat→Nat→List ModF) (Qm:Nat→Nat→ModF) (Pv:Nat→Nat→Value) (pre:List UInt8) (r:List KeyB) (c:Nat) (w:World)
  (hS:SheetGo S G P base w SC cv Kb V Qp Qm Pv) (hc:c < S.cols.length) (hpre:pre.length≤20) (hsec:(ji r (jf S.cols c).key).length≤1000) (B0 B1 B2 B3:Nat)
  (h0:w.heap[B0]?=some (.cells SC 82 (0,0))) (h1:w.cell? ⟨B1,0,none⟩=some (.int .i64 (c:Int))) (h2:w.cell? ⟨B2,0,none⟩=some (strB (ji r (jf S.cols c).key))) (h3:w.cell? ⟨B3,0,none⟩=some (strB pre)) :
  Calls Tryz.prog 77 #[.func (.func 78) #[] #[.pointer (some ⟨B0,0,none⟩),.pointer (some ⟨B1,0,none⟩),.pointer (some ⟨B2,0,none⟩),.pointer (some ⟨B3,0,none⟩)]] w fun e w'=>Below w.heap.size w w' ∧
   ((jI pre r (jf S.cols c).kind (jf S.cols c).key c (some []) (qr S) S.mods=none∧e=.returned (.tuple #[.slice none 0 0,.bool false]))∨∃ l v,jI pre r (jf S.cols c).kind (jf S.cols c).key c (some []) (qr S) S.mods=some l∧e=.returned (.tuple #[v,.bool true])∧(∀ c ∈ l,qF c)∧w'.ownsRow w.heap.size 34 3 v l.length (qx l)):=by
 have hmf:∀ (fn:Fn) (first cap:Array Value) (w:World),(Instr.makeFunc fn first cap).run Tryz.prog w=.ok (.func fn first cap) w:=fun _ _ _ _=>rfl
 have hb0:Below w.heap.size w (w.alloc (Obj.cells #[Value.bool false] 4)):=(Below.refl _ _).alloc (Nat.le_refl _) _
 have HW:=hid (Pb S G P base SC cv Kb V Qp Qm Pv pre r c (w.alloc (Obj.cells #[Value.bool false] 4)) (hS.later hb0) hc hpre hsec B0 B1 B2 B3 (jd hb0 h0) (je _ h1) (je _ h2) (je _ h3))
 clear hS hc hpre hsec h0 h1 h2 h3
 generalize jI pre r (jf S.cols c).kind (jf S.cols c).key c (some []) (qr S) S.mods=O at *
 go_enter_defers Tryz.func77,Tryz.ntmps77
 go_wp2_with fail
 refine HW.out.mono ?_
 rintro e w2 ⟨hb2,ho⟩
 have hc2:w2.cell? ⟨w.heap.size,0,none⟩=some (.bool false):=(hb2.cell (p:=⟨w.heap.size,0,none⟩) (by show w.heap.size < (w.alloc _).heap.size;simp)).trans (World.cell?_alloc_mark ..)
 have hz2:w2.frozen? ⟨w.heap.size,0,none⟩=false:=(hb2.frozen (p:=⟨w.heap.size,0,none⟩) (by show w.heap.size < (w.alloc _).heap.size;simp)).trans (World.frozen?_alloc_at _ _ _ _ rfl)
 have HB2:=hid (hb0.trans (hb2.mono hb0.size))
 have hlt2:w.heap.size < w2.heap.size:=World.block_lt_of_cell? w2 _ hc2
 rcases ho with ⟨hn,rfl⟩|⟨l,v,hu,rfl,hsm,hown⟩
 ·have Hn:=hid hn
  clear hn hb2 hb0 HW
  go_wp2
  refine leaves_cons (f:=110) (args:=#[.pointer (some ⟨w.heap.size,0,none⟩)]) (by simp) (by simp [go_sem]) ?_
  refine (Ni ⟨w.heap.size,0,none⟩ false 9 _ [] _ hc2 hz2).mono ?_
  rintro e u' w'' ⟨rfl,rfl,rfl⟩
  have hW:=World.cell?_setCell_same w2 ⟨w.heap.size,0,none⟩ (.bool false) hc2
  have HBW:=hid (HB2.out.setCell (p:=⟨w.heap.size,0,none⟩) (Nat.le_refl _) (.bool false))
  generalize w2.setCell _ _=W at *
  simp [Leaves,settle,results,Tryz.results77,go_sem,hW]
  exact ⟨HBW.out,Hn.out⟩
 ·have Hu:=hid hu
  have Hsm:=hid hsm
  have Hown:Hid (w2.ownsRow (w.heap.size+1) 34 3 v l.length (qx l)):=by
   have e:(w.alloc (Obj.cells #[Value.bool false] 4)).heap.size=w.heap.size+1:=by simp
   rw [e] at hown
   exact hown
  obtain ⟨va,vc,rfl⟩:=jL hown
  clear hu hsm hown hb2 hb0 HW
  go_wp2
  refine leaves_cons (f:=110) (args:=#[.pointer (some ⟨w.heap.size,0,none⟩)]) (by simp) (by simp [go_sem]) ?_
  refine (Mz ⟨w.heap.size,0,none⟩ true _ ?_ ?_).mono ?_
  ·exact World.cell?_setCell_same w2 ⟨w.heap.size,0,none⟩ (.bool true) hc2
  ·simp [hz2]
  rintro e u' w'' ⟨rfl,rfl,rfl⟩
  have hW1:=World.cell?_setCell_same w2 ⟨w.heap.size,0,none⟩ (.bool true) hc2
  have hW:=World.cell?_setCell_same _ ⟨w.heap.size,0,none⟩ (.bool true) hW1
  have HBW:=hid ((HB2.out.setCell (p:=⟨w.heap.size,0,none⟩) (Nat.le_refl _) (.bool true)).setCell (p:=⟨w.heap.size,0,none⟩) (Nat.le_refl _) (.bool true))
  have HLW:=hid (jS (AL (AL Hown.out (.bool true)) (.bool true)) (b':=w.heap.size) (Nat.le_succ _))
  clear hW1
  generalize (w2.setCell _ _).setCell _ _=W at *
  simp [Leaves,settle,results,Tryz.results77,go_sem,hW]
  exact ⟨HBW.out,l,Hu.out,Hsm.out,HLW.out⟩
theorem Yu (S:SheetF) (G P base:Nat) (SC:Array Value) (cv:Value) (Kb:Nat) (V:Nat→Value) (Qp:Nat→Nat→List ModF) (Qm:Nat→Nat→ModF) (Pv:Nat→Nat→Value) (pre:List UInt8) (ra:Option Addr) (rcap:Nat) (r:List KeyB) (c:Nat) (w:World)
  (hS:SheetGo S G P base w SC cv Kb V Qp Qm Pv) (hc:c < S.cols.length) (hpre:pre.length≤20) (hr:xI r=true) (hrm:r.length≤maxLen) (hl:LiesK w ra r) :
  Calls Tryz.prog 46 #[.agg SC,.int .i64 (c:Int),strB pre,.slice ra r.length rcap] w fun e w'=>Below w.heap.size w w' ∧
   ∃ v,e=.returned (.tuple #[.int .i64 (qi pre r S c).state,v])∧(∀ x ∈ (qi pre r S c).cells,qF x)∧w'.ownsRow w.heap.size 34 3 v (qi pre r S c).cells.length (qx (qi pre r S c).cells):=by
 have hsec:(ji r (jf S.cols c).key).length≤1000:=by
  cases hh:jw r (jf S.cols c).key with
  | true=>rw [Qk hr hh];decide
  | false=>rw [(ZD hr).2 hh];decide
 have hsm:=hS.small _ (show jf S.cols c ∈ S.cols by rw [xz hc];exact List.getElem_mem _)
 have hk0:=hsm.key.1
 have hk9:=hsm.key.2
 have HLK:Hid ((jf S.cols c).key≠0→jw r (jf S.cols c).key=false→(qi pre r S c).state=1∧(qi pre r S c).cells=[]):=fun h1 h2=>by
  unfold qi
  rw [if_pos ⟨by omega,h2⟩]
  exact ⟨rfl,rfl⟩
 have HBR:Hid (((jf S.cols c).key=0∨jw r (jf S.cols c).key=true)→jI pre r (jf S.cols c).kind (jf S.cols c).key c (some []) (qr S) S.mods=none→(qi pre r S c).state=2∧(qi pre r S c).cells=[]):=fun h1 h2=>by
  unfold qi
  rw [if_neg (by rintro ⟨h3,h4⟩;rcases h1 with h1|h1;omega;rw [h1] at h4;cases h4),h2]
  exact ⟨rfl,rfl⟩
 have HGT:Hid (∀ l,((jf S.cols c).key=0∨jw r (jf S.cols c).key=true)→jI pre r (jf S.cols c).kind (jf S.cols c).key c (some []) (qr S) S.mods=some l→(qi pre r S c).state=0∧(qi pre r S c).cells=l):=fun l h1 h2=>by
  unfold qi
  rw [if_neg (by rintro ⟨h3,h4⟩;rcases h1 with h1|h1;omega;rw [h1] at h4;cases h4),h2]
  exact ⟨rfl,rfl⟩
 have HTRY:=hid (fun w' (hb:Below w.heap.size w w') B2 h0 h1 h2 h3=>SJ S G P base SC cv Kb V Qp Qm Pv pre r c w' (hS.later hb) hc hpre hsec w.heap.size (w.heap.size+1) B2 (w.heap.size+1+1) h0 h1 h2 h3)
 have HSE:=hid (fun w' (h:LiesK w' ra r)=>QW ra rcap r (jf S.cols c).key w' hrm h)
 have Hinf:=hid hS.inf
 obtain ⟨cb,cc,rfl,hcb,k0,k1,k2,k3⟩:=Nx hS.cols hc
 have HCO:=hid (fun w'=>Nf SC (some ⟨cb,0,none⟩) S.cols.length cc w' hS.c15)
 have hci:(c:Int) < (S.cols.length:Int):=by omega
 have Hl:=hid hl
 clear hS hpre hr hsec hsm hl k0 k1 k3 hk0 hk9
 generalize qi pre r S c=FD at *
 generalize jI pre r (jf S.cols c).kind (jf S.cols c).key c (some []) (qr S) S.mods=O at *
 generalize ji r (jf S.cols c).key=sec at *
 generalize jw r (jf S.cols c).key=has at *
 generalize (jf S.cols c).key=key at *
 generalize S.cols.length=n at *
 obtain ⟨hb0,hl0,ho0,ho1,ho2⟩:=LB w SC 82 #[.int .i64 (c:Int)] 3 #[strB pre] 9
 have HK2:=hid (je (.cells #[strB pre] 9) (je (.cells #[.int .i64 (c:Int)] 3) (je (.cells SC 82) k2)))
 clear k2
 go_enter Tryz.func46,Tryz.ntmps46
 go_upto_region 1 with fail
 have HB0:=hid hb0
 have Ho0:=hid ho0
 have Ho1:=hid ho1
 have Ho2:=hid ho2
 have HL0:=hid (Hl.out.later hb0)
 clear hb0 ho0 ho1 ho2 hl0
 generalize ((w.alloc _).alloc _).alloc _=W0 at *
 have HC1:Hid (W0.cell? ⟨w.heap.size+1,0,none⟩=some (.int .i64 (c:Int))):=by show _=_;rw [jb Ho1.out];rfl
 refine wp_region_held_drew (S:=fun w'=>w'.heap[w.heap.size]?=some (.cells SC 82 (0,0))∧w'.cell? ⟨w.heap.size+1,0,none⟩=some (.int .i64 (c:Int))∧w'.cell? ⟨cb,c*4+2,none⟩=some (.int .i64 key)) (by kernel_rfl) ?_ (fun hHeld=>?_)
 ·exact ⟨Ho0.out,HC1.out,HK2.out⟩
 refine wpAnyH_take (i:=0) (oi:=_) (v:=.agg SC) rfl (by kernel_rfl) (by kernel_rfl) (by kernel_rfl) (fun _ _ _ h=>h) (Or.inl ⟨by rfl,fun w hSw=>?_⟩) (by assumption) ?_
 ·have hrl:=run_loadVar_row (P:=Tryz.prog) w _ 82 82 SC (0,0) _ hSw.1 Tryz.underlying82 rfl Hinf.out
  unfold execOp
  simp [List.getElem_toArray,List.getElem_cons_zero,Act.eval,Instr.loadAt,Instr.sureAddr,Sem.run_bind,Sem.run_pure,Result.andThen_ok,hrl]
 simp only [jA,jB,jC,Act.put,jD,jE,jF]
 refine tk 2 (.int .i64 (c:Int)) ?_
 simp only [jA,jB,jC,Act.put,jD,jE,jF]
 refine rd 1 (fun K hK=>?_)
 simp only [jA,jB,jC]
 go_simp
 go_at_call 45
 refine (HCO.out _).mono ?_
 rintro e w1 ⟨rfl,hb1⟩
 have hb1':=jl hb1
 have HS1:Hid (w1.heap[w.heap.size]?=some (.cells SC 82 (0,0))∧w1.cell? ⟨w.heap.size+1,0,none⟩=some (.int .i64 (c:Int))∧w1.cell? ⟨cb,c*4+2,none⟩=some (.int .i64 key)) :=
  ⟨jd hb1' Ho0.out,(hb1'.cell (p:=⟨w.heap.size+1,0,none⟩) (World.block_lt_of_cell? W0 _ HC1.out)).trans HC1.out,(hb1'.cell (p:=⟨cb,c*4+2,none⟩) (World.block_lt_of_cell? W0 _ HK2.out)).trans HK2.out⟩
 have HB1:=hid (HB0.out.trans (hb1'.mono HB0.out.size))
 have HL1:=hid (HL0.out.later hb1')
 have Ho2':=hid (jd hb1' Ho2.out)
 have Ho1':=hid (jd hb1' Ho1.out)
 have Ho0':=hid (jd hb1' Ho0.out)
 clear hb1 hb1'
 try go_wp2_with fail
 refine hK.out _ _ HS1.out (fun hHeld=>?_)
 clear hK K
 try simp only [jA,jB,jC,Act.put,jD,jE,jF]
 refine tk 3 (.pointer (some ⟨cb,c*4,none⟩)) ?_
 refine tk 4 (.pointer (some ⟨cb,c*4+2,none⟩)) ?_
 refine tk 5 (.int .i64 key) ?_
 refine tk 6 (.int .i64 key) ?_
 simp only [jA,jB,jC,Act.put,jD,jE,jF]
 refine wpAnyH_done (by kernel_rfl) ?_ _
 clear hHeld HS1 HC1 HK2 Ho0 Ho1 Ho2 HL0 HB0 HCO Hinf
 have hmf:∀ (fn:Fn) (first cap:Array Value) (w:World),(Instr.makeFunc fn first cap).run Tryz.prog w=.ok (.func fn first cap) w:=fun _ _ _ _=>rfl
 go_wp2_with fail
 refine (HSE.out w1 HL1.out).mono ?_
 rintro e w2 ⟨rfl,hb2⟩
 obtain ⟨hb3,hl3,_,ho3⟩:=jK w2 #[strB sec] 9
 have HB2:=hid (HB1.out.trans (hb2.mono HB1.out.size))
 have HB3:=hid (HB2.out.trans (hb3.mono HB2.out.size))
 have HX0:=hid (jd hb3 (jd hb2 Ho0'.out))
 have HX1:=hid (jd hb3 (jd hb2 Ho1'.out))
 have HX2:=hid (jd hb3 (jd hb2 Ho2'.out))
 have HX3:=hid ho3
 clear hb2 hb3 hl3 ho3 Ho0' Ho1' Ho2' HL1 HB1
 by_cases hbad:key≠0∧has=false
 ·obtain ⟨hk,rfl⟩:=hbad
  obtain ⟨h1,h2⟩:=HLK.out hk rfl
  have Hst:=hid h1
  have Hce:=hid h2
  have hkb:(key != 0)=true:=by rw [bne_iff_ne];exact hk
  clear h1 h2 hk
  go_wp2
  go_ret2
  refine ⟨HB3.out,.slice none 0 0,by rw [Hst.out];rfl,(fun x hx=>by rw [Hce.out] at hx;cases hx),by rw [Hce.out];exact World.ownsRow_nil _ _ _ _⟩
 ·have hgood:key=0∨has=true:=by
   by_cases h:key=0
   ·exact .inl h
   ·right
    cases has with
    | true=>rfl
    | false=>exact absurd ⟨h,rfl⟩ hbad
  have Hgood:=hid hgood
  clear hbad hgood
  by_cases hk:key=0
  ·subst hk
   go_wp2_with fail
   have HC1:Hid ((w2.alloc (.cells #[strB sec] 9)).cell? ⟨w.heap.size+1,0,none⟩=some (.int .i64 (c:Int))):=by show _=_;rw [jb HX1.out];rfl
   have HC2:Hid ((w2.alloc (.cells #[strB sec] 9)).cell? ⟨w.heap.size+1+1,0,none⟩=some (strB pre)):=by show _=_;rw [jb HX2.out];rfl
   have HC3:Hid ((w2.alloc (.cells #[strB sec] 9)).cell? ⟨w2.heap.size,0,none⟩=some (strB sec)):=by show _=_;rw [jb HX3.out];rfl
   refine (HTRY.out _ HB3.out w2.heap.size HX0.out HC1.out HC3.out HC2.out).mono ?_
   clear HX0 HX1 HX2 HX3 HC1 HC2 HC3 HTRY
   generalize w2.alloc _=w3 at *
   rintro e w4 ⟨hb4,⟨hn,rfl⟩|⟨l,v,hu,rfl,hsm,hown⟩⟩
   ·have HB4:=hid (HB3.out.trans (hb4.mono HB3.out.size))
    obtain ⟨h1,h2⟩:=HBR.out Hgood.out hn
    have Hst:=hid h1
    have Hce:=hid h2
    clear h1 h2 hn hb4
    go_wp2
    go_ret2
    exact ⟨HB4.out,.slice none 0 0,by rw [Hst.out];rfl,(fun x hx=>by rw [Hce.out] at hx;cases hx),by rw [Hce.out];exact World.ownsRow_nil _ _ _ _⟩
   ·have HB4:=hid (HB3.out.trans (hb4.mono HB3.out.size))
    obtain ⟨h1,h2⟩:=HGT.out l Hgood.out hu
    have Hst:=hid h1
    have Hce:=hid h2
    have Hsm:=hid hsm
    have Hown:=hid (jS hown HB3.out.size)
    obtain ⟨va,vc,rfl⟩:=jL hown
    clear h1 h2 hu hb4 hsm hown
    go_wp2
    go_ret2
    exact ⟨HB4.out,_,by rw [Hst.out];rfl,(fun x hx=>by rw [Hce.out] at hx;exact Hsm.out x hx),by rw [Hce.out];exact Hown.out⟩
  ·have hkb:(key != 0)=true:=by rw [bne_iff_ne];exact hk
   have hh:has=true:=by
    rcases Hgood.out with h|h
    ·exact absurd h hk
    ·exact h
   subst hh
   clear hk
   go_wp2_with fail
   have HC1:Hid ((w2.alloc (.cells #[strB sec] 9)).cell? ⟨w.heap.size+1,0,none⟩=some (.int .i64 (c:Int))):=by show _=_;rw [jb HX1.out];rfl
   have HC2:Hid ((w2.alloc (.cells #[strB sec] 9)).cell? ⟨w.heap.size+1+1,0,none⟩=some (strB pre)):=by show _=_;rw [jb HX2.out];rfl
   have HC3:Hid ((w2.alloc (.cells #[strB sec] 9)).cell? ⟨w2.heap.size,0,none⟩=some (strB sec)):=by show _=_;rw [jb HX3.out];rfl
   refine (HTRY.out _ HB3.out w2.heap.size HX0.out HC1.out HC3.out HC2.out).mono ?_
   clear HX0 HX1 HX2 HX3 HC1 HC2 HC3 HTRY
   generalize w2.alloc _=w3 at *
   rintro e w4 ⟨hb4,⟨hn,rfl⟩|⟨l,v,hu,rfl,hsm,hown⟩⟩
   ·have HB4:=hid (HB3.out.trans (hb4.mono HB3.out.size))
    obtain ⟨h1,h2⟩:=HBR.out Hgood.out hn
    have Hst:=hid h1
    have Hce:=hid h2
    clear h1 h2 hn hb4
    go_wp2
    go_ret2
    exact ⟨HB4.out,.slice none 0 0,by rw [Hst.out];rfl,(fun x hx=>by rw [Hce.out] at hx;cases hx),by rw [Hce.out];exact World.ownsRow_nil _ _ _ _⟩
   ·have HB4:=hid (HB3.out.trans (hb4.mono HB3.out.size))
    obtain ⟨h1,h2⟩:=HGT.out l Hgood.out hu
    have Hst:=hid h1
    have Hce:=hid h2
    have Hsm:=hid hsm
    have Hown:=hid (jS hown HB3.out.size)
    obtain ⟨va,vc,rfl⟩:=jL hown
    clear h1 h2 hu hb4 hsm hown
    go_wp2
    go_ret2
    exact ⟨HB4.out,_,by rw [Hst.out];rfl,(fun x hx=>by rw [Hce.out] at hx;exact Hsm.out x hx),by rw [Hce.out];exact Hown.out⟩
end
section
def Gc (f:FoundB) (v:Value):List Value:=[strB f.name,.int .i64 f.kind,.int .i64 f.key,.int .i64 f.state,v]
def Xi (F:Nat→FoundB) (Vs:Nat→Value) (n:Nat):List Value:=(List.range n).flatMap fun j=>Gc (F j) (Vs j)
theorem Kv (F:Nat→FoundB) (Vs:Nat→Value) (n:Nat):Xi F Vs (n+1)=Xi F Vs n++Gc (F n) (Vs n):=by simp [Xi,List.range_succ]
theorem YA (F:Nat→FoundB) {Vs Ws:Nat→Value} {n:Nat} (h:∀ j,j < n→Vs j=Ws j):Xi F Vs n=Xi F Ws n:=by
 induction n with
 | zero=>rfl
 | succ n ih=>rw [Kv,Kv,ih (fun j hj=>h j (by omega)),h n (by omega)]
structure FoundsAt (base:Nat) (w:World) (v:Value) (F:Nat→FoundB) (n:Nat) (Vs:Nat→Value):Prop where
 row:w.ownsRow base 94 5 v n (Xi F Vs n)
 cells:∀ j,j < n→w.ownsRow base 34 3 (Vs j) (F j).cells.length (qx (F j).cells)
 small:∀ j,j < n→∀ x ∈ (F j).cells,qF x
 apart:∀ i j,i < j→j < n→∀ a b,(Vs i).ownBlock=some a→(Vs j).ownBlock=some b→a < b
theorem FoundsAt.later {base:Nat} {w w':World} {v:Value} {F:Nat→FoundB} {n:Nat} {Vs:Nat→Value} (h:FoundsAt base w v F n Vs) (hb:Below w.heap.size w w'):FoundsAt base w' v F n Vs :=
 ⟨jN h.row hb,fun j hj=>jN (h.cells j hj) hb,h.small,h.apart⟩
theorem FoundsAt.lower {base b:Nat} {w:World} {v:Value} {F:Nat→FoundB} {n:Nat} {Vs:Nat→Value} (h:FoundsAt base w v F n Vs) (hb:b≤base):FoundsAt b w v F n Vs :=
 ⟨jS h.row hb,fun j hj=>jS (h.cells j hj) hb,h.small,h.apart⟩
theorem Tryz.infoFound:(Tryz.prog.info? 94).map (fun i=>(i.zero,i.size,i.bytes))=some (some (.agg #[.string ⟨#[]⟩,.int .i64 0,.int .i64 0,.int .i64 0,.slice none 0 0]),5,64):=by kernel_rfl
theorem FoundsAt.step {base:Nat} {w w':World} {v v' u:Value} {F:Nat→FoundB} {n B:Nat} {Vs:Nat→Value} (h:FoundsAt base w v F n Vs) (hB:∀ j,j < n→∀ a,(Vs j).ownBlock=some a→a < B) (hu:w.ownsRow B 34 3 u (F n).cells.length (qx (F n).cells)) (hbB:base≤B) (hs:∀ x ∈ (F n).cells,qF x)
  (hg:w.grownBy w' v.ownBlock) (hr:w'.ownsRow base 94 5 v' (n+1) (Xi F Vs n++Gc (F n) u)):FoundsAt base w' v' F (n+1) (fun j=>if j=n then u else Vs j):=by
 have hlt:∀ j,j < n→(if j=n then u else Vs j)=Vs j:=fun j hj=>if_neg (by omega)
 have heq:(if n=n then u else Vs n)=u:=if_pos rfl
 refine ⟨?_,?_,?_,?_⟩
 ·rw [Kv,YA F (Ws:=Vs) hlt]
  show w'.ownsRow base _ 5 v' (n+1) (Xi F Vs n++Gc (F n) (if n=n then u else Vs n))
  rw [heq]
  exact hr
 ·intro j hj
  by_cases he:j=n
  ·subst he
   show w'.ownsRow base _ 3 (if j=j then u else Vs j) _ _
   rw [heq]
   exact jS (hu.kept hg (zo hu h.row (by decide))) hbB
  ·rw [hlt j (by omega)]
   exact (h.cells j (by omega)).kept hg (zo (h.cells j (by omega)) h.row (by decide))
 ·intro j hj
  by_cases he:j=n
  ·subst he;exact hs
  ·exact h.small j (by omega)
 ·intro i j hij hj a b ha hb
  have ha':(if i=n then u else Vs i).ownBlock=some a:=ha
  have hb':(if j=n then u else Vs j).ownBlock=some b:=hb
  rw [hlt i (by omega)] at ha'
  by_cases he:j=n
  ·subst he
   rw [heq] at hb'
   have h1:=hB i (by omega) a ha'
   have h2:=(hu.lt b hb').1
   omega
  ·rw [hlt j (by omega)] at hb'
   exact h.apart i j hij (by omega) a b ha' hb'
theorem FoundsAt.past {base:Nat} {w w':World} {v:Value} {F:Nat→FoundB} {n B:Nat} {Vs:Nat→Value} (h:FoundsAt base w v F n Vs) (hg:w.grownBy w' (some B)) (hr:∀ a,v.ownBlock=some a→a < B) (hB:∀ j,j < n→∀ a,(Vs j).ownBlock=some a→a < B):FoundsAt base w' v F n Vs:=by
 have key:∀ {u:Value},(∀ a,u.ownBlock=some a→a < B)→u.ownBlock=none∨u.ownBlock≠some B:=fun {u} hu=>by
  rcases hv:u.ownBlock with _|k
  ·exact .inl rfl
  ·refine .inr (fun e=>?_)
   have:=hu k hv
   injection e with e
   omega
 exact ⟨h.row.kept hg (key hr),fun j hj=>(h.cells j hj).kept hg (key (hB j hj)),h.small,h.apart⟩
theorem KS (S:SheetF) (G P base:Nat) (SC:Array Value) (cv:Value) (Kb:Nat) (V:Nat→Value) (Qp:Nat→Nat→List ModF) (Qm:Nat→Nat→ModF) (Pv:Nat→Nat→Value) (pre:List UInt8) (ra:Option Addr) (rcap:Nat) (r:List KeyB) (w:World)
  (hS:SheetGo S G P base w SC cv Kb V Qp Qm Pv) (hpre:pre.length≤20) (hr:xI r=true) (hrm:r.length≤maxLen) (hl:LiesK w ra r) :
  Calls Tryz.prog 25 #[.agg SC,strB pre,.slice ra r.length rcap] w fun e w'=>Below w.heap.size w w'∧∃ v Vs,e=.returned v∧FoundsAt w.heap.size w' v (qi pre r S) S.cols.length Vs:=by
 obtain ⟨i0,hi,hz0,hz1,hz2⟩:=info_parts Tryz.infoFound
 have hn6:=hS.n6
 have HFC:=hid (fun c hc w' (hb:Below w.heap.size w w')=>Yu S G P base SC cv Kb V Qp Qm Pv pre ra rcap r c w' (hS.later hb) hc hpre hr hrm (hl.later hb))
 have Hinf:=hid hS.inf
 have HFN:Hid (∀ c,(qi pre r S c).name=(jf S.cols c).name∧(qi pre r S c).kind=(jf S.cols c).kind∧(qi pre r S c).key=(jf S.cols c).key):=fun c=>by
  unfold qi
  split
  ·exact ⟨rfl,rfl,rfl⟩
  ·split<;>exact ⟨rfl,rfl,rfl⟩
 have HCA:=hid (fun c (hc:c < S.cols.length) w' (hb:Below w.heap.size w w')=>Nx (jN hS.cols hb) hc)
 obtain ⟨ca,cc,rfl⟩:=jL hS.cols
 have HCO:=hid (fun w'=>Nf SC ca S.cols.length cc w' hS.c15)
 clear hS hpre hr hl
 generalize qi pre r S=F at *
 generalize S.cols.length=n at *
 obtain ⟨hb0,hl0,_,ho0⟩:=jK w SC 82
 have HB0:=hid hb0
 have Ho0:=hid ho0
 clear hb0 ho0
 go_enter Tryz.func25,Tryz.ntmps25
 go_upto_region 2 with fail
 generalize w.alloc _=W0 at *
 go_wp2_with (refine wpList_load_row rfl 82 (.tmp 3) rfl w.heap.size rfl 82 SC (0,0) _ Ho0.out Tryz.underlying82 rfl Hinf.out ?_)
 refine (HCO.out W0).mono ?_
 rintro e w1 ⟨rfl,hb1⟩
 have HB1:=hid (HB0.out.trans (hb1.mono HB0.out.size))
 have Ho1:=hid (jd hb1 Ho0.out)
 clear hb1 HCO Ho0 HB0
 go_wp2
 go_loopw [7,14] (fun v i wr=>∃ (k:Nat) (Vs:Nat→Value),k≤n∧i=.int .i64 (k:Int)∧FoundsAt w.heap.size wr v F k Vs∧wr.heap[w.heap.size]?=some (.cells SC 82 (0,0))∧Below w.heap.size w wr) (fun _ i _=>n - (intOf i).toNat)
 case atStart=>exact ⟨0,fun _=>.slice none 0 0,Nat.zero_le _,rfl,⟨World.ownsRow_nil _ _ _ _,fun j hj=>absurd hj (by omega),fun j hj=>absurd hj (by omega),fun i j _ hj=>absurd hj (by omega)⟩,Ho1.out,HB1.out⟩
 case round =>
  obtain ⟨k,Vs,hkn,rfl,hfa,hq,hB⟩:=hrel
  have HFA:=hid hfa
  have Hq:=hid hq
  have HB:=hid hB
  have hwz:=hB.size
  obtain ⟨va,vc,rfl⟩:=jL hfa.row
  clear hfa hq hB
  by_cases hlt:k < n
  ·have hki:(k:Int) < (n:Int):=by omega
   obtain ⟨cb,cc2,hca,hcb,k0,k1,k2,k3⟩:=HCA.out k hlt wr HB.out
   injection hca with hca1 _ hca3
   subst hca1 hca3
   have HFNk:=hid (HFN.out k)
   have HFCk:=hid (fun w'=>HFC.out k hlt w')
   clear HFN HFC HCA
   generalize (jf S.cols k).name=nm at *
   generalize (jf S.cols k).kind=kd at *
   generalize (jf S.cols k).key=ky at *
   obtain ⟨hbx,hsx,hcx,hhx⟩:=jK wr #[strB nm,.int .i64 kd,.int .i64 ky,.slice none 0 0] 31
   have x0:=hcx 0
   have x1:=hcx 1
   have x2:=hcx 2
   simp only [List.getElem?_toArray,List.getElem?_cons_zero,List.getElem?_cons_succ] at x0 x1 x2
   clear hcx hhx
   go_upto_region 6 with fail
   clear x0 x1 x2 k0 k1 k2 k3 hbx hsx
   obtain ⟨hby,hly,_,hhy⟩:=JY wr #[strB nm,.int .i64 kd,.int .i64 ky,.slice none 0 0] 31 #[strB nm,.int .i64 kd,.int .i64 ky,.int .i64 0,.slice none 0 0] 94
   have HBy:=hid hby
   have Hqy:=hid (jd hby Hq.out)
   have Hfy:=hid hhy
   have HFAy:=hid (HFA.out.later hby)
   clear hby hhy hly
   generalize hwy:(wr.alloc _).alloc _=wy at *
   clear hwy
   go_wp2_with (refine wpList_load_row rfl 82 (.tmp 3) rfl w.heap.size rfl 82 SC (0,0) _ Hqy.out Tryz.underlying82 rfl Hinf.out ?_)
   refine (HFCk.out wy (HB.out.trans (HBy.out.mono hwz))).mono ?_
   rintro e w2 ⟨hb2,u,rfl,hsm2,hown2⟩
   have HB2:=hid (HBy.out.trans (hb2.mono HBy.out.size))
   have Hq2:=hid (jd hb2 Hqy.out)
   have Hf2:=hid (jd hb2 Hfy.out)
   have HFA2:=hid (HFAy.out.later hb2)
   have HSM2:=hid hsm2
   have HO2:=hid hown2
   obtain ⟨ua,uc,rfl⟩:=jL hown2
   have c3:w2.cell? ⟨wr.heap.size+1,3,none⟩=some (.int .i64 0):=by rw [jb Hf2.out];rfl
   have c4:w2.cell? ⟨wr.heap.size+1,4,none⟩=some (.slice none 0 0):=by rw [jb Hf2.out];rfl
   have f3:=frozen_of_row w2 (wr.heap.size+1) 3 _ _ Hf2.out
   have f4:=frozen_of_row w2 (wr.heap.size+1) 4 _ _ Hf2.out
   clear hb2 hsm2 hown2
   go_upto_region 7 with fail
   clear c3 c4 f3 f4
   have hBy:wr.heap.size+1 < wy.heap.size:=(Array.getElem?_eq_some_iff.1 Hfy.out).1
   have h3:=heap_setCell_same w2 (wr.heap.size+1) 3 _ _ (.int .i64 (F k).state) Hf2.out
   have h4:=heap_setCell_same (w2.setCell ⟨wr.heap.size+1,3,none⟩ (.int .i64 (F k).state)) (wr.heap.size+1) 4 _ _ (.slice ua (F k).cells.length uc) h3
   have hgs:=jg (qv w2 (wr.heap.size+1) 3 (.int .i64 (F k).state)) (qv (w2.setCell ⟨wr.heap.size+1,3,none⟩ (.int .i64 (F k).state)) (wr.heap.size+1) 4 (.slice ua (F k).cells.length uc))
   have Hf4:Hid (((w2.setCell ⟨wr.heap.size+1,3,none⟩ (.int .i64 (F k).state)).setCell ⟨wr.heap.size+1,4,none⟩ (.slice ua (F k).cells.length uc)).heap[wr.heap.size+1]?=some (.cells #[strB nm,.int .i64 kd,.int .i64 ky,.int .i64 (F k).state,.slice ua (F k).cells.length uc] 94 (0,0))):=h4
   have HLT:Hid (∀ j,j < k→∀ a,(Vs j).ownBlock=some a→a < wr.heap.size+1):=fun j hj a ha=>by
    have:=((HFA.out.cells j hj).lt a ha).2
    omega
   have HFA4:=hid (HFA2.out.past hgs (fun a ha=>by have:=(HFA.out.row.lt a ha).2;omega) HLT.out)
   have Hq4:=hid (jk hgs Hq2.out (by omega))
   have HO4:=hid (HO2.out.kept hgs (by
    rcases hv:(Value.slice ua (F k).cells.length uc).ownBlock with _|b
    ·exact .inl rfl
    ·refine .inr (fun e=>?_)
     have:=(HO2.out.lt b hv).1
     injection e with e
     omega))
   have HB4:=hid (HB2.out.trans (jq hgs (by omega) HB2.out.size))
   clear h3 h4 hgs
   generalize (w2.setCell _ _).setCell _ _=w4 at *
   have hownA:=HFA4.out.row
   have hz4:=HB4.out.size
   go_wp2_with (first|(refine wpList_load_row rfl 94 (.tmp 10) rfl (wr.heap.size+1) rfl 94 _ (0,0) _ Hf4.out Tryz.underlying94 rfl (by kernel_rfl) ?_)|(at_builtin;refine wpList_append_own _ rfl (.tmp 36) (.tmp 38) 49 rfl w.heap.size 94 i0 (.agg #[.string ⟨#[]⟩,.int .i64 0,.int .i64 0,.int .i64 0,.slice none 0 0]) 5 64 Tryz.underlying49 hi hz0 hz1 hz2 rfl (by decide) _ _ _ rfl (hownA.alloc _) ⟨_,0,none⟩ 1 1 [strB nm,.int .i64 kd,.int .i64 ky,.int .i64 (F k).state,.slice ua (F k).cells.length uc] rfl rfl ?c1 ?c2 ?c3 ?c4 ?c5 ?_))
   case c1=>exact VS w4 #[strB nm,.int .i64 kd,.int .i64 ky,.int .i64 (F k).state,.slice ua (F k).cells.length uc] 94 (by simp)
   case c2=>intro u hu;simp at hu;rcases hu with rfl|rfl|rfl|rfl|rfl<;>rfl
   case c3=>unfold maxLen;omega
   case c4=>omega
   case c5=>simp;omega
   intro v5 w5 hown5 hgr5 _
   have hba:Below w4.heap.size w4 (w4.alloc (.cells #[strB nm,.int .i64 kd,.int .i64 ky,.int .i64 (F k).state,.slice ua (F k).cells.length uc] 94)):=(Below.refl _ _).alloc (Nat.le_refl _) _
   obtain ⟨hn1,hn2,hn3⟩:=HFNk.out
   have HFA5:=hid ((HFA4.out.later hba).step (fun j hj a ha=>Nat.lt_trans (HLT.out j hj a ha) hBy) (jN HO4.out hba) (Nat.le_trans hwz (by omega)) HSM2.out hgr5 (by
    unfold Gc
    rw [hn1,hn2,hn3]
    exact hown5))
   have Hq5:=hid (jz hgr5 (hownA.alloc _) (jd hba Hq4.out) (by decide))
   have HB5:=hid (((HB.out.trans (HB4.out.mono hwz)).trans (hba.mono (by omega))).grown hgr5 (by simp;omega) (fun k hk=>(hownA.lt k hk).1))
   clear hown5 hgr5 hba hownA hn1 hn2 hn3
   go_wp2
   go_roundw
   case rel=>exact ⟨k+1,_,by omega,by go_num,HFA5.out,Hq5.out,HB5.out⟩
   case measure=>simp [intOf];omega
  ·have hke:k=n:=by omega
   subst hke
   clear hlt
   go_wp2
   go_ret
   exact ⟨HB.out,_,Vs,rfl,HFA.out⟩
theorem Ux {file pre:List UInt8} {r:List KeyB} {trust:Bool} {S:SheetF} (h:xg file pre r trust=(0,some S)):pre.length≤20∧xI r=true∧∃ foot parts footer,SheetOk foot parts footer S:=by
 unfold xg at h
 split at h
 ·simp at h
 split at h
 ·simp at h
 rename_i h1 h2
 refine ⟨by omega,by simpa using h2,?_⟩
 split at h
 ·simp at h
 rename_i f hf
 split at h
 ·split at h
  ·simp at h
  ·rename_i S' hS
   refine ⟨_,_,_,Ze (hS.trans ?_)⟩
   split at h
   ·simp at h;rw [h]
   ·split at h
    ·simp at h
    ·split at h
     ·simp at h;rw [h]
     ·simp at h
 ·split at h
  ·simp at h
  ·split at h
   ·simp at h
   ·split at h
    ·simp at h
    ·rename_i S' hS
     simp at h
     exact ⟨_,_,_,Ze (hS.trans (by rw [h]))⟩
def Wd (file pre:List UInt8) (r:List KeyB) (trust:Bool) (w:World) (e:Ending) (w':World):Prop :=
 Below w.heap.size w w'∧((∃ err,xg file pre r trust=(err,none)∧err≠0∧e=.returned (.tuple #[.slice none 0 0,.int .i64 err])) ∨
  ∃ S v Vs,xg file pre r trust=(0,some S)∧e=.returned (.tuple #[v,.int .i64 0])∧FoundsAt w.heap.size w' v (qi pre r S) S.cols.length Vs)
theorem Tq (file pre:List UInt8) (ra:Option Addr) (rcap:Nat) (r:List KeyB) (trust:Bool) (w:World) (hfl:file.length≤maxLen) (hpl:pre.length≤maxLen) (hrm:r.length≤maxLen) (hl:LiesK w ra r) :
  Calls Tryz.prog 16 #[strB file,strB pre,.slice ra r.length rcap,.bool trust] w (Wd file pre r trust w):=by
 have HRS:=hid (UU file pre ra rcap r trust w hfl hpl hrm hl)
 have HFC:=hid (fun S G P base SC cv Kb V Qp Qm Pv w' (hb:Below w.heap.size w w') h1 h2 h3=>KS S G P base SC cv Kb V Qp Qm Pv pre ra rcap r w' h1 h2 h3 hrm (hl.later hb))
 have HOK:=hid (fun S=>Ux (file:=file) (pre:=pre) (r:=r) (trust:=trust) (S:=S))
 clear hfl hpl hrm hl
 go_enter Tryz.func16,Tryz.ntmps16
 go_wp2_with fail
 refine HRS.out.mono ?_
 clear HRS
 rintro e w1 ⟨f,_,hb1,⟨err,CC,hn,herr,hsz,hone,rfl⟩|⟨S,cv,pv,Kb,V,Qp,Qm,Pv,hn,rfl,hin⟩⟩
 ·have hinf:(Tryz.prog.info? 82).map (·.size)=some CC.size:=by rw [hsz];kernel_rfl
  have hsz0:sheet0.size=CC.size:=by rw [hsz];rfl
  obtain ⟨hbA,hlA,_,hoA⟩:=jK w1 sheet0 82
  have gA:=jy (w1.alloc (.cells sheet0 82)) w1.heap.size CC
  have HBA:=hid ((hb1.trans (hbA.mono hb1.size)).trans (jq gA hb1.size (Nat.le_trans hb1.size hbA.size)))
  have HN:=hid hn
  have Herr:=hid herr
  have hne:(err != 0)=true:=by rw [bne_iff_ne];exact herr
  clear hsz hn herr hbA gA hb1
  go_wp2_with (refine wpList_store_row rfl 82 (.tmp 10) (.tmp 18) rfl w1.heap.size CC rfl rfl 82 sheet0 hoA hinf hsz0 hone ?_)
  go_ret2
  exact ⟨HBA.out,.inl ⟨err,HN.out,Herr.out,rfl⟩⟩
 ·obtain ⟨h20,hring,foot,parts,footer,hok⟩:=HOK.out S hn
  obtain ⟨_,hsz,hone⟩:=hin.one
  obtain ⟨hbA,hlA,_,hoA⟩:=jK w1 sheet0 82
  have gA:=jy (w1.alloc (.cells sheet0 82)) w1.heap.size (qR S f cv pv Kb)
  have oA:=setRow_heap (w1.alloc (.cells sheet0 82)) w1.heap.size _ (qR S f cv pv Kb) 82 (0,0) hoA
  have hbB:=(hb1.trans (hbA.mono hb1.size)).trans (jq gA hb1.size (Nat.le_trans hb1.size hbA.size))
  have HBA:=hid hbB
  have hGO:=Tk ((hin.later hbA).grown gA hoA (by decide) (by decide) (by decide) (by decide)) hok
  have HFX:=hid (HFC.out S _ _ _ _ _ _ _ _ _ _ _ hbB hGO h20 hring)
  have HN:=hid hn
  clear hn hin hok hbA hbB gA hb1 hGO HOK HFC
  generalize qR S f cv pv Kb=CC at *
  have hinf:(Tryz.prog.info? 82).map (·.size)=some CC.size:=by rw [hsz];kernel_rfl
  have hsz0:sheet0.size=CC.size:=by rw [hsz];rfl
  clear hsz
  have HINF:=hid hinf
  have HSZ:=hid hsz0
  have HONE:=hid hone
  have HOA:=hid hoA
  have HoA:=hid oA
  clear hinf hsz0 hone hoA oA
  go_wp2_with (first|(refine wpList_store_row rfl 82 (.tmp 10) (.tmp 18) rfl w1.heap.size CC rfl rfl 82 sheet0 HOA.out HINF.out HSZ.out HONE.out ?_)|(refine wpList_load_row rfl 82 (.tmp 10) rfl w1.heap.size rfl 82 CC (0,0) _ HoA.out Tryz.underlying82 rfl HINF.out ?_))
  refine HFX.out.mono ?_
  clear HFX HoA HOA
  generalize (w1.alloc _).setRow _ _=w2 at *
  rintro e w3 ⟨hb3,v,Vs,rfl,hfa⟩
  have HB3:=hid (HBA.out.trans (hb3.mono HBA.out.size))
  have HFA:=hid (hfa.lower HBA.out.size)
  obtain ⟨va,vc,rfl⟩:=jL hfa.row
  clear hb3 hfa
  go_wp2
  go_ret2
  exact ⟨HB3.out,.inr ⟨S,_,Vs,HN.out,rfl,HFA.out⟩⟩
end
end Go.Proofs.YthhpbhpfagoapabGreat
