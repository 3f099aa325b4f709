import Derived.Test.YthhpbhpfagoapabGreatJAS
import Derived.Test.YthhpbhpfagoapabGreatJAT
import Derived.Test.YthhpbhpfagoapabGreatJAV
namespace Go.Proofs.YthhpbhpfagoapabGreat
set_option linter.unusedVariables false
set_option linter.unusedSimpArgs false
set_option maxRecDepth 100000
set_option maxHeartbeats 16000000
open Go.RowKit
theorem YS {w:World} {q g:Nat} {o:Obj} (hne:q≠g) (h:w.heap[q]?=some o) (v0 v1 v2 v3:Value) :
  ((((w.setCell ⟨g,0,none⟩ v0).setCell ⟨g,1,none⟩ v1).setCell ⟨g,2,none⟩ v2).setCell ⟨g,3,none⟩ v3).heap[q]?=some o:=by
 rw [heap_setCell_other _ ⟨g,3,none⟩ q v3 hne,heap_setCell_other _ ⟨g,2,none⟩ q v2 hne,heap_setCell_other _ ⟨g,1,none⟩ q v1 hne,heap_setCell_other _ ⟨g,0,none⟩ q v0 hne]
 exact h
theorem UB {w:World} {q:Nat} {a b c d e f:Value} {t:TypeId} (h:w.heap[q]?=some (.cells #[a,b,c,d,e,f] t (0,0))):w.cell? ⟨q,4,none⟩=some e∧w.cell? ⟨q,5,none⟩=some f :=
 ⟨by rw [jb h];rfl,by rw [jb h];rfl⟩
theorem Qn {w:World} {q:Nat} {a b c d:Value} {t:TypeId} (h:w.heap[q]?=some (.cells #[a,b,c,d] t (0,0))):(w.cell? ⟨q,0,none⟩=some a∧w.cell? ⟨q,1,none⟩=some b∧w.cell? ⟨q,2,none⟩=some c∧w.cell? ⟨q,3,none⟩=some d)∧w.frozen? ⟨q,0,none⟩=false∧w.frozen? ⟨q,1,none⟩=false∧w.frozen? ⟨q,2,none⟩=false∧w.frozen? ⟨q,3,none⟩=false :=
 ⟨xM h,frozen_of_row w q 0 _ _ h,frozen_of_row w q 1 _ _ h,frozen_of_row w q 2 _ _ h,frozen_of_row w q 3 _ _ h⟩
theorem Ye {w w':World} {o:Obj} (h:Below (w.alloc o).drew.heap.size (w.alloc o).drew w'):Below w.heap.size w w':=by
 have h1:Below w.heap.size w (w.alloc o):=(Below.refl _ _).alloc (Nat.le_refl _) o
 have h2:Below (w.alloc o).heap.size (w.alloc o) w':=jl h
 exact h1.trans (h2.mono h1.size)
theorem GR (sort:List UInt8) (g c p:Int) (non txt:List UInt8) (ra:Option Addr) (rcap:Nat) (r:List KeyB) (key:Int) (ext:List UInt8) (w:World) (hrm:r.length≤maxLen) (hsec:(ji r key).length≤1000) (hr:LiesK w ra r) :
  Calls Tryz.prog 84 #[.agg #[strB sort,.int .i64 g,.int .i64 c,.int .i64 p,strB non,strB txt],.slice ra r.length rcap,.int .i64 key,strB ext] w fun e w'=>e=.returned (sealV ⟨ji r key,non,ext,txt⟩)∧Below w.heap.size w w':=by
 obtain ⟨hb0,hs0,ho0,hq0⟩:=JQ w #[strB sort,.int .i64 g,.int .i64 c,.int .i64 p,strB non,strB txt] 75 #[strB [],strB [],strB [],strB []] 54
 go_enter Tryz.func84,Tryz.ntmps84
 go_wp2_with fail
 have Hr:=hid (hr.later hb0)
 have Hb0:=hid hb0
 have Ho0:=hid ho0
 have Hq0:=hid hq0
 clear hr hb0 ho0 hq0
 generalize (w.alloc _).alloc _=w0 at *
 refine (QX ra rcap r key w0 hrm Hr.out).mono ?_
 rintro e w1 ⟨rfl,hb1⟩
 generalize jw r key=hk at *
 generalize hSE:ji r key=sec at *
 have HSE:=hid hSE
 clear hSE
 have HB1:=hid (Hb0.out.trans (hb1.mono Hb0.out.size))
 have Ho1:=hid (jd hb1 Ho0.out)
 have Hq1:=hid (jd hb1 Hq0.out)
 clear hb1 Hr
 go_upto_region 2 with fail
 have d0:w1.drew.cell? ⟨w.heap.size,4,none⟩=some (strB non)∧w1.drew.cell? ⟨w.heap.size,5,none⟩=some (strB txt):=UB Ho1.out
 have Y1:(w1.alloc (.cells #[strB sec] 9)).drew.heap[w.heap.size]?=some (.cells #[strB sort,.int .i64 g,.int .i64 c,.int .i64 p,strB non,strB txt] 75 (0,0)):=jo _ Ho1.out
 have Z1:(w1.alloc (.cells #[strB sec] 9)).drew.heap[w.heap.size+1]?=some (.cells #[strB [],strB [],strB [],strB []] 54 (0,0)):=jo _ Hq1.out
 have d1:=UB Y1
 go_region_held3 (fun w'=>w'.cell? ⟨w.heap.size,4,none⟩=some (strB non)∧w'.cell? ⟨w.heap.size,5,none⟩=some (strB txt))
  (first|with_reducible exact d3|with_reducible exact d2|with_reducible exact d1|with_reducible exact d0)
  (first
   | (go_at_call 93;refine (IB sec _ _ hsec ?_).mono ?_;exact heap_alloc_new _ _;rintro e w2 ⟨rfl,hb2⟩;have Y2:=jd hb2 Y1;have Z2:=jd hb2 Z1;have d2:=UB Y2;have d3:=UB (YS (q:=w.heap.size) (g:=w.heap.size+1) (by omega) Y2 (strB sec) (strB non) (strB ext) (strB txt));obtain ⟨⟨x0,x1,x2,x3⟩,f0,f1,f2,f3⟩:=Qn Z2))
 rename_i hSS
 clear hSS
 have hb2':=jl hb2
 have HB2:=hid (HB1.out.trans ((Ye hb2).mono HB1.out.size))
 have HO3:=hid (Gn Z2 (strB sec) (strB non) (strB ext) (strB txt))
 have HBS:=hid ((((HB2.out.setCell (p:=⟨w.heap.size+1,0,none⟩) (by simp) (strB sec)).setCell (p:=⟨w.heap.size+1,1,none⟩) (by simp) (strB non)).setCell (p:=⟨w.heap.size+1,2,none⟩) (by simp) (strB ext)).setCell (p:=⟨w.heap.size+1,3,none⟩) (by simp) (strB txt))
 clear d0 d1 d2 d3 x0 x1 x2 x3 f0 f1 f2 f3 Y1 Y2 Z1 Z2 hb2 hb2'
 go_wp2
 generalize (((w2.setCell _ _).setCell _ _).setCell _ _).setCell _ _=W at *
 obtain ⟨e0,e1,e2,e3⟩:=xM HO3.out
 exact bodyPost_ret (v:=sealV ⟨sec,non,ext,txt⟩) (by simp [results,Tryz.results84,go_sem,e0,e1,e2,e3]) rfl ⟨by rw [HSE.out],HBS.out⟩
def LU (q:Nat) (f:FormF) (w:World):Prop :=
 w.cell? ⟨q,0,none⟩=some (.int .i64 (f.foot:Int))∧w.cell? ⟨q,1,none⟩=some (.bool f.told)∧w.cell? ⟨q,2,none⟩=some (strB f.footer)∧w.cell? ⟨q,3,none⟩=some (strB [if f.told=true then 83 else 70])∧w.cell? ⟨q,4,none⟩=some (.int .i64 0)∧w.cell? ⟨q,5,none⟩=some (.int .i64 0)∧w.cell? ⟨q,6,none⟩=some (.int .i64 0)∧w.cell? ⟨q,7,none⟩=some (strB f.nonce)∧w.cell? ⟨q,8,none⟩=some (strB f.body)∧w.cell? ⟨q,9,none⟩=some (strB (qg f))
theorem Ac {w:World} {q:Nat} {S:SheetF} {f:FormF} {cv pv:Value} {Kb:Nat} {t:TypeId} (h:w.heap[q]?=some (.cells (qO S f cv pv Kb) t (0,0))):LU q f w :=
 ⟨by rw [jb h];rfl,by rw [jb h];rfl,by rw [jb h];rfl,by rw [jb h];rfl,by rw [jb h];rfl,by rw [jb h];rfl,by rw [jb h];rfl,by rw [jb h];rfl,by rw [jb h];rfl,by rw [jb h];rfl⟩
theorem Rw (S:SheetF) (f:FormF) (cv pv:Value) (Kb:Nat) (ra:Option Addr) (rcap:Nat) (r:List KeyB) (pre:List UInt8) (w:World) (hsz:(qO S f cv pv Kb).size=18) (hone:(qO S f cv pv Kb).all (·.oneCell')=true) (hpre:pre.length≤20) (hf:f.footer.length≤5000) (hrm:r.length≤maxLen) (hsec:(ji r (f.foot:Int)).length≤1000) (hr:LiesK w ra r) :
  Calls Tryz.prog 53 #[.agg (qO S f cv pv Kb),.slice ra r.length rcap,strB pre] w fun e w'=>e=.returned (sealV ⟨ji r (f.foot:Int),f.nonce,qd pre f,f.body⟩)∧Below w.heap.size w w':=by
 have HFX:Hid (∀ w':World,Calls Tryz.prog 85 #[.agg #[.int .i64 (f.foot:Int),.bool f.told,strB f.footer,strB [if f.told=true then 83 else 70],.int .i64 0,.int .i64 0,.int .i64 0,strB f.nonce,strB f.body,strB (qg f)],strB pre] w' fun e w2=>e=.returned (strB (qd pre f))∧Below w'.heap.size w' w2):=fun w'=>UI f pre w' hpre hf
 obtain ⟨hb0,hs0,ho0,hq0⟩:=JQ w (qO S f cv pv Kb) 82 #[strB [],strB [],strB [],strB []] 54
 have HPS:=hid (fun (w':World) (hb:Below w.heap.size w w')=>GR [if f.told=true then 83 else 70] 0 0 0 f.nonce f.body ra rcap r (f.foot:Int) (qd pre f) w' hrm hsec (hr.later hb))
 have HSV:Hid (∀ s,s=qd pre f→sealV ⟨ji r (f.foot:Int),f.nonce,s,f.body⟩=sealV ⟨ji r (f.foot:Int),f.nonce,qd pre f,f.body⟩):=fun s h=>by rw [h]
 have HQ0:=hid hq0
 have HF0:=hid (Ac ho0)
 have HO0:=hid ho0
 have HB0:=hid hb0
 have hinf:(Tryz.prog.info? 82).map (·.size)=some (qO S f cv pv Kb).size:=by rw [hsz];kernel_rfl
 clear hr hb0 ho0 hq0 hsec hrm hpre hf HSV
 have HFO:=hid (fun (w':World) (h:w'.heap[w.heap.size]?=some (.cells (qO S f cv pv Kb) 82 (0,0)))=>Ac h)
 unfold LU at HFO
 generalize hCC:qO S f cv pv Kb=CC at *
 clear hCC HF0
 generalize (if f.told=true then (83:UInt8) else 70)=sb at *
 generalize hEX:qd pre f=ext at *
 have HEX:=hid hEX
 generalize hSE:ji r (f.foot:Int)=sec at *
 have HSE:=hid hSE
 clear hEX hSE
 go_enter Tryz.func53,Tryz.ntmps53
 go_wp2_with fail
 generalize (w.alloc _).alloc _=w0 at *
 have d0:w0.drew.cell? ⟨w.heap.size,0,none⟩=some (.int .i64 (f.foot:Int))∧w0.drew.cell? ⟨w.heap.size,1,none⟩=some (.bool f.told)∧w0.drew.cell? ⟨w.heap.size,2,none⟩=some (strB f.footer)∧w0.drew.cell? ⟨w.heap.size,3,none⟩=some (strB [sb])∧w0.drew.cell? ⟨w.heap.size,4,none⟩=some (.int .i64 0)∧w0.drew.cell? ⟨w.heap.size,5,none⟩=some (.int .i64 0)∧w0.drew.cell? ⟨w.heap.size,6,none⟩=some (.int .i64 0)∧w0.drew.cell? ⟨w.heap.size,7,none⟩=some (strB f.nonce)∧w0.drew.cell? ⟨w.heap.size,8,none⟩=some (strB f.body)∧w0.drew.cell? ⟨w.heap.size,9,none⟩=some (strB (qg f)):=HFO.out w0 HO0.out
 have hne:w.heap.size≠w.heap.size+1:=by omega
 go_region_held3 (fun w'=>w'.cell? ⟨w.heap.size,0,none⟩=some (.int .i64 (f.foot:Int))∧w'.cell? ⟨w.heap.size,1,none⟩=some (.bool f.told)∧w'.cell? ⟨w.heap.size,2,none⟩=some (strB f.footer)∧w'.cell? ⟨w.heap.size,3,none⟩=some (strB [sb])∧w'.cell? ⟨w.heap.size,4,none⟩=some (.int .i64 0)∧w'.cell? ⟨w.heap.size,5,none⟩=some (.int .i64 0)∧w'.cell? ⟨w.heap.size,6,none⟩=some (.int .i64 0)∧w'.cell? ⟨w.heap.size,7,none⟩=some (strB f.nonce)∧w'.cell? ⟨w.heap.size,8,none⟩=some (strB f.body)∧w'.cell? ⟨w.heap.size,9,none⟩=some (strB (qg f)))
  (first|with_reducible exact d3|with_reducible exact d2|with_reducible exact d1|with_reducible exact d0)
  (first
   | (go_at_call 85;refine (HFX.out _).mono ?_;rintro e w1 ⟨rfl,hb1⟩;have O1:=jd (jl hb1) HO0.out;have d1:=HFO.out w1 O1)
   | (go_at_call 84;refine (HPS.out _ (HB0.out.trans ((jl hb1).mono HB0.out.size))).mono ?_;rintro e w2 ⟨rfl,hb2⟩;have O2:=jd hb2 O1;have d2:=HFO.out w2 O2;have Z2:=jd hb2 (jd (jl hb1) HQ0.out);have d3:=HFO.out _ (YS (q:=w.heap.size) (g:=w.heap.size+1) hne O2 (strB sec) (strB f.nonce) (strB ext) (strB f.body));obtain ⟨⟨x0,x1,x2,x3⟩,f0,f1,f2,f3⟩:=Qn Z2))
 rename_i hSS
 clear hSS
 have hb1':=jl hb1
 have HB2:=hid (HB0.out.trans ((hb1'.trans (hb2.mono hb1'.size)).mono HB0.out.size))
 have HO3:=hid (Gn Z2 (strB sec) (strB f.nonce) (strB ext) (strB f.body))
 have HBS:=hid ((((HB2.out.setCell (p:=⟨w.heap.size+1,0,none⟩) (by simp) (strB sec)).setCell (p:=⟨w.heap.size+1,1,none⟩) (by simp) (strB f.nonce)).setCell (p:=⟨w.heap.size+1,2,none⟩) (by simp) (strB ext)).setCell (p:=⟨w.heap.size+1,3,none⟩) (by simp) (strB f.body))
 clear d0 d1 d2 d3 x0 x1 x2 x3 f0 f1 f2 f3 O1 O2 Z2 hb1 hb2 hb1'
 go_wp2
 generalize (((w2.setCell _ _).setCell _ _).setCell _ _).setCell _ _=W at *
 obtain ⟨e0,e1,e2,e3⟩:=xM HO3.out
 exact bodyPost_ret (v:=sealV ⟨sec,f.nonce,ext,f.body⟩) (by simp [results,Tryz.results53,go_sem,e0,e1,e2,e3]) rfl ⟨rfl,HBS.out⟩
end Go.Proofs.YthhpbhpfagoapabGreat
